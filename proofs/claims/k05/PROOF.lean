import PyProof.Rows.All
import HandS.EndTab
import HandS.HeadHook4
import HandS.HeadEnd
import HandS.Head2
import Wide.All
import OpenK.AllK
import Wide.FinOn
import HandS.ForMost
import HandS.ForExc
import HandS.ExcInit
import HandS.IsInst
import HandS.More
import HandS.Conv
import HandS.RevRange
import HandS.Star
import HandS.TupAny
import HandS.Lambda
import HandS.FStr
import HandS.FStrTup
import HandS.Flow
import HandS.Style
import HandS.StrMore
import HandS.WrittenGet
import HandS.TryMany
import HandS.Evl
import HandS.Walk
import PySem.Challenge.RW_knotweb_k05_whole_texts_there_and_back
import HandS.ListItems
import PyProof.ZipIter
import PyProof.CallType
import PyProof.Walk
import PyProof.WalkLemmas
import PyProof.RangeIter
import PyProof.RulesTry
import PyProof.Rows.SortShell
import KE.KItemsList
import HandS.SortOrd
import KE.SortCalls
import HandS.ExcField
import HandS.ExcIs
import KE.KExcIs
import KE.KTryMore
import HandS.RaiseMore
set_option Elab.async false
set_option linter.all false
set_option maxRecDepth 100000
set_option maxHeartbeats 4000000
namespace Kn
open PySem L2
/-! ### the text by places -/
def top (i : Nat) : Stmt := PySem.Challenge.pw_knotweb_k05_whole_texts_there_and_back.main.body.getD i (.Pass ⟨0, 0, 0, 0⟩)
abbrev sIsName : Stmt := top 16
abbrev sIsFormed : Stmt := top 17
abbrev sNameIn : Stmt := top 18
abbrev sPartsOf : Stmt := top 19
abbrev sNeed : Stmt := top 20
abbrev sNamesIn : Stmt := top 22
abbrev sMixed : Stmt := top 45
abbrev sBegun : Stmt := top 46
abbrev sDraw : Stmt := top 47
abbrev sOne : Stmt := top 48
abbrev sWord : Stmt := top 49
abbrev sNames : Stmt := top 50
abbrev sRooms : Stmt := top 51
abbrev sMade : Stmt := top 52
abbrev sOwn : Stmt := top 53
abbrev sNamed : Stmt := top 54
abbrev sLIsName : Stmt := top 55
abbrev sPlace : Stmt := top 56
abbrev sBent : Stmt := top 57
abbrev sRefused : Stmt := top 60
abbrev sGrown : Stmt := top 9999
abbrev sRight : Stmt := top 9999
abbrev sLaw : Stmt := top 63
/-- a def of the program that keeps a promise, as callers need it -/
structure Def (P : Program) (w : World) (K : PySem.W.Frag) (mg : Str → Option Value) (base : Heap) (cx : CXT) (x : Str) (k : Nat) (ps : List Str) (sp : Sp) : Prop where
  ex : ∃ (f : Addr) (fd : FuncData), mg x = some (.ref f) ∧ PySem.W.keepIn K (.ref f) = true ∧ Binds K fd ps [] ∧ FnOk P w K mg base cx k f fd ps sp
section
variable {X : Cx}
/-- x(e, ..), a def that raises nothing -/
theorem pe_def {x : Str} {k : Nat} {ps : List Str} {sp : Sp} {e : Expr} {es : List Expr} {t : TA} {p pos : Pos} (D : Def X.prog X.w X.K X.mg X.base CX0 x k ps sp) (hr : Room k X.A) (hg : Gl X x) (ha : PA X (e :: es) t)
    (hdb : (x == ("__debug__" : Str)) = false := by decide) (h1 : starEach (e :: es) X.env = (false, eval e X.env) :: starEach es X.env := by rfl) (h2 : (backTo pos (starEach es X.env)).any (·.1) = false := by rfl) :
    PE X (.Call (.Name x p) (e :: es) [] pos) (tCall sp [] E0 t) := by
  obtain ⟨f, fd, m, kp, b, ok⟩ := D.ex
  exact pe_call ok hr hg m kp b .nil pass0 ha hdb h1 h2
end
/-! ### rules whose readings speak of the written part, for blocks within -/
section
variable {X : Cx} {K : PySem.W.Frag}
theorem op_inK (h : X.K = K) : OpR X (compareOp .In) (rIn K false) := by
  subst h
  exact op_in_seq
theorem op_notInK (h : X.K = K) : OpR X (compareOp .NotIn) (rIn K true) := by
  subst h
  exact op_notIn_seq
theorem ix_listK (h : X.K = K) : IxR X (rIxL K) := by
  subst h
  exact ix_list
theorem ix_tupK (h : X.K = K) : IxR X (rIxT K) := by
  subst h
  exact ix_tup
def rLenK (K : PySem.W.Frag) : List V → Hp → VK → Prop := fun xs H Q => ∃ x n, xs = [x] ∧ LenV K x H n ∧ Q (.int n) H
theorem call_lenK (h : X.K = K) : CallR X (.builtin "len") (rLenK K) := by
  subst h
  exact call_len
theorem op_eqDK (h : X.K = K) (hu : X.A.units + 64 < cLine) : OpR X (compareOp .Eq) (rEqD K) := by
  subst h
  exact op_eqD hu
end
/-! ### what stays -/
/-- all but the state's dict at s and its list at l -/
def Keep (s l : Addr) (H H' : Hp) : Prop := ∀ b o, b ≠ s → b ≠ l → H b = some o → H' b = some o
theorem Keep.refl {s l : Addr} {H : Hp} : Keep s l H H := fun _ _ _ _ h => h
theorem Keep.trans {s l : Addr} {H H1 H2 : Hp} (a : Keep s l H H1) (b : Keep s l H1 H2) : Keep s l H H2 := fun c o h1 h2 h => b c o h1 h2 (a c o h1 h2 h)
theorem Keep.new {s l p : Addr} {H : Hp} {o : HO} (h : H p = none) : Keep s l H (upd H p o) := fun b u _ _ q => by rw [upd_ne (ne_of_none q h)]; exact q
theorem Keep.of {s l : Addr} {H H' : Hp} (h : Same H H') : Keep s l H H' := fun b o _ _ q => h b o q
theorem Keep.put {s l : Addr} {H : Hp} {o : HO} : Keep s l H (upd H s o) := fun b u h _ q => by rw [upd_ne h]; exact q
theorem Keep.putl {s l : Addr} {H : Hp} {o : HO} : Keep s l H (upd H l o) := fun b u _ h q => by rw [upd_ne h]; exact q
theorem Keep.mut0 {s l p : Addr} {H0 H : Hp} {o : HO} (n : H0 p = none) (k : Keep s l H0 H) : Keep s l H0 (upd H p o) := fun b u e1 e2 e => by
  rw [upd_ne (ne_of_none e n)]
  exact k b u e1 e2 e
theorem same_new {H : Hp} {p : Addr} (h : H p = none) (o : HO) : Same H (upd H p o) := fun b u q => by rw [upd_ne (ne_of_none q h)]; exact q
theorem Keep.seqL {s l : Addr} {H H' : Hp} {K : PySem.W.Frag} {a : Addr} {xs : List V} (e : Keep s l H H') (h1 : a ≠ s) (h2 : a ≠ l) (h : SqL K H a xs) : SqL K H' a xs := by
  rcases h with (h | ⟨o, h⟩) | h
  · exact .inl (.inl (e _ _ h1 h2 h))
  · exact .inl (.inr ⟨o, e _ _ h1 h2 h⟩)
  · exact .inr h
theorem Keep.seqT {s l : Addr} {H H' : Hp} {K : PySem.W.Frag} {a : Addr} {xs : List V} (e : Keep s l H H') (h1 : a ≠ s) (h2 : a ≠ l) (h : SqT K H a xs) : SqT K H' a xs := by
  rcases h with (h | ⟨o, h⟩) | h
  · exact .inl (.inl (e _ _ h1 h2 h))
  · exact .inl (.inr ⟨o, e _ _ h1 h2 h⟩)
  · exact .inr h
/-! ### the state of the draws -/
def dSt (c l : Addr) (k : Int) : List (Key × V) := [(.inr ("cells" : Str), .ref c), (.inr ("left" : Str), .ref l), (.inr ("at" : Str), .int k)]
/-- the state's dict at s, the script at c, what is left of the great cells at l -/
structure StOk (K : PySem.W.Frag) (H : Hp) (s c l : Addr) : Prop where
  cs : c ≠ s
  cl : c ≠ l
  sl : s ≠ l
  co : H c ≠ none
  ex : ∃ (k : Int) (ns ls : List Int), 0 ≤ k ∧ H s = some (.dK (dSt c l k)) ∧ SqL K H c (ns.map V.int) ∧ ns.length ≤ 63 ∧ H l = some (.lst (ls.map V.int)) ∧ ls.length = ns.length ∧ ∀ x ∈ ls, 0 ≤ x
theorem Keep.some {s l a : Addr} {H H' : Hp} (e : Keep s l H H') (h1 : a ≠ s) (h2 : a ≠ l) (h : H a ≠ none) : H' a ≠ none := by
  cases q : H a with
  | none => exact absurd q h
  | some o =>
    rw [e a o h1 h2 q]
    exact fun z => nomatch z
theorem StOk.keep {K : PySem.W.Frag} {H H' : Hp} {s c l : Addr} (h : StOk K H s c l) (e : Same H H') : StOk K H' s c l := by
  obtain ⟨h1, h2, h3, h4, k, ns, ls, a1, a2, a3, a4, a5, a6, a7⟩ := h
  exact ⟨h1, h2, h3, (Keep.of (s := s) (l := l) e).some h1 h2 h4, k, ns, ls, a1, e _ _ a2, e.seq a3, a4, e _ _ a5, a6, a7⟩
theorem StOk.new {K : PySem.W.Frag} {H : Hp} {s c l p : Addr} {o : HO} (h : StOk K H s c l) (n : H p = none) : StOk K (upd H p o) s c l := h.keep (same_new n o)
theorem StOk.ns {K : PySem.W.Frag} {H : Hp} {s c l p : Addr} (h : StOk K H s c l) (n : H p = none) : p ≠ s ∧ p ≠ l ∧ p ≠ c := by
  obtain ⟨_, _, _, h4, k, ns, ls, a1, a2, a3, a4, a5, a6, a7⟩ := h
  refine ⟨fun z => ?_, fun z => ?_, fun z => ?_⟩
  · rw [z, a2] at n
    cases n
  · rw [z, a5] at n
    cases n
  · rw [z] at n
    exact h4 n
/-- a thing of our own is written -/
theorem StOk.mut {K : PySem.W.Frag} {H : Hp} {s c l p : Addr} {o : HO} (h : StOk K H s c l) (n : p ≠ s ∧ p ≠ l ∧ p ≠ c) : StOk K (upd H p o) s c l := by
  obtain ⟨h1, h2, h3, h4, k, ns, ls, a1, a2, a3, a4, a5, a6, a7⟩ := h
  refine ⟨h1, h2, h3, by rw [upd_ne n.2.2.symm]; exact h4, k, ns, ls, a1, by rw [upd_ne n.1.symm]; exact a2, ?_, a4, by rw [upd_ne n.2.1.symm]; exact a5, a6, a7⟩
  rcases a3 with (h | ⟨o, h⟩) | h
  · exact .inl (.inl (by rw [upd_ne n.2.2.symm]; exact h))
  · exact .inl (.inr ⟨o, by rw [upd_ne n.2.2.symm]; exact h⟩)
  · exact .inr h
/-- .. a thing that was not there at the beginning -/
theorem Keep.mut {s l p : Addr} {H0 H1 H : Hp} {o : HO} (k0 : Keep s l H0 H1) (n : H1 p = none) (k : Keep s l H0 H) : Keep s l H0 (upd H p o) := fun b u e1 e2 e => by
  have nb : b ≠ p := ne_of_none (k0 b u e1 e2 e) n
  rw [upd_ne nb]
  exact k b u e1 e2 e
def spMixed : Sp := fun vs H Q _ => ∃ c k : Int, vs = [.int c, .int k] ∧ 0 ≤ k ∧ k ≤ 1000 ∧ ∀ n : Int, 0 ≤ n → Q (.int n) H
def spDraw (K : PySem.W.Frag) : Sp := fun vs H Q _ => ∃ (s c l : Addr) (m : Int), vs = [.ref s, .int m] ∧ StOk K H s c l ∧ 0 < m ∧ m < 1073741824 ∧ ∀ (H' : Hp) (n : Int), StOk K H' s c l → Keep s l H H' → 0 ≤ n → n < m → Q (.int n) H'
end Kn
set_option Elab.async false
set_option linter.all false
set_option maxRecDepth 100000
set_option maxHeartbeats 4000000
namespace Kn
open PySem L2
section
variable {P : Program} {w : World} {K : PySem.W.Frag} {mg : Str → Option Value} {base : Heap}
theorem scMixed : FnScope ["cell", "k", "number"] ["cell", "k"] (defScope sMixed) := ⟨rfl, rfl, rfl, by decide +kernel, rfl, by decide +kernel, by decide +kernel⟩
theorem ok_mixed {f : Addr} {fd : FuncData} (F : Fun K "_law_mixed" "_law_mixed" sMixed f fd) : FnOk P w K mg base CX0 1 f fd ["cell", "k"] spMixed := by
  refine F.ok scMixed (fun vs H Q E h => ?_) (fun cdv A outer s H vs Q E hr h => ?_)
  · obtain ⟨c, k, rfl, _⟩ := h
    rfl
  obtain ⟨c, k, rfl, h0, h1, q⟩ := h
  refine ⟨_, pss_cons (ps_set (i := 2) scMixed.nd rfl (Or.inl rfl)
      (pe_op op_add (pe_op op_add (pe_op op_mul (pe_op op_modN (pv 0) pe_int) (pe_op op_add pe_int (pe_op op_mul (pe_op op_mul pe_int (pv 1)) (pv 1)))) (pe_op op_mul pe_int (pv 1))) pe_int))
    (pss_one (ps_ret (pe_op op_modN (pe_op op_mul (pe_op op_modN (pv 2) pe_int) pe_int) pe_int))), ?_⟩
  have m1 : ∀ x : Int, 0 ≤ x.fmod 2147483647 ∧ x.fmod 2147483647 < 2147483647 := fun x => by
    rw [Int.fmod_eq_emod_of_nonneg _ (by omega)]
    omega
  have m2 : ∀ x : Int, 0 ≤ x.fmod 2147483629 := fun x => by
    rw [Int.fmod_eq_emod_of_nonneg _ (by omega)]
    omega
  have b1 := m1 c
  refine ⟨_, rfl, _, _, rfl, rfl, (by show (2147483647 : Int) ≠ 0; decide), _, rfl, _, _, rfl, rfl, .inl (by decide), _, rfl, _, _, rfl, rfl, .inl (by omega), _, _, rfl, rfl, ?_⟩
  refine ⟨_, _, rfl, rfl, .inl (by omega), _, rfl, _, _, rfl, rfl, .inl (by decide), _, _, rfl, rfl, _, _, rfl, rfl, ?_⟩
  refine ⟨_, rfl, _, _, rfl, rfl, (by show (2147483647 : Int) ≠ 0; decide), _, _, rfl, rfl, .inr (by decide), _, _, rfl, rfl, (by show (2147483629 : Int) ≠ 0; decide), ?_⟩
  exact q _ (m2 _)

/-! ### the draw -/
theorem dpInts {H : Hp} : ∀ ns : List Int, DpAll K H (ns.map V.int) (ns.map PyData.int)
  | [] => .nil
  | n :: r => .cons (.int n) (dpInts r)
theorem layInts : ∀ ns : List Int, PyData.canLayAll0 (ns.map PyData.int) = true
  | [] => by simp [PyData.canLayAll0]
  | n :: r => by simp [PyData.canLayAll0, PyData.canLay0, layInts r]
theorem depInts : ∀ ns : List Int, PyData.depthAll (ns.map PyData.int) ≤ 1
  | [] => by simp [PyData.depthAll]
  | n :: r => by
    have h := depInts r
    simp only [List.map_cons, PyData.depthAll, PyData.depth]
    omega
theorem shInts (ns : List Int) : SeqAt.shaped (.list (ns.map PyData.int)) = true := by
  have h1 := depInts ns
  have h2 := layInts ns
  have h3 : PyData.depth (.list (ns.map PyData.int)) ≤ 64 := by
    simp only [PyData.depth]
    omega
  show (PyData.canLay0 (.list (ns.map PyData.int)) && decide (PyData.depth (.list (ns.map PyData.int)) ≤ 64)) = true
  rw [decide_eq_true h3, Bool.and_true]
  simp only [PyData.canLay0]
  exact h2
theorem eqvInts0 (ns : List Int) : PyData.eqv (.list (ns.map PyData.int)) (.list []) = ns.isEmpty := by
  cases ns <;> simp [PyData.eqv, PyData.eqvAll]
theorem st_cells (c l : Addr) (k : Int) : valV (dSt c l k) (Sum.inr ("cells" : Str)) = some (.ref c) := by
  unfold valV dSt
  simp [List.find?]
theorem kne1 : ¬ ((Sum.inr ("cells" : Str) : Key) = Sum.inr ("left" : Str)) := by decide +kernel
theorem kne2 : ¬ ((Sum.inr ("cells" : Str) : Key) = Sum.inr ("at" : Str)) := by decide +kernel
theorem kne3 : ¬ ((Sum.inr ("left" : Str) : Key) = Sum.inr ("at" : Str)) := by decide +kernel
theorem st_left (c l : Addr) (k : Int) : valV (dSt c l k) (Sum.inr ("left" : Str)) = some (.ref l) := by
  unfold valV dSt
  rw [List.find?_cons, decide_eq_false kne1, List.find?_cons, decide_eq_true rfl]
  rfl
theorem st_at (c l : Addr) (k : Int) : valV (dSt c l k) (Sum.inr ("at" : Str)) = some (.int k) := by
  unfold valV dSt
  rw [List.find?_cons, decide_eq_false kne2, List.find?_cons, decide_eq_false kne3, List.find?_cons, decide_eq_true rfl]
  rfl
theorem st_put (c l : Addr) (k j : Int) : putK (dSt c l k) (Sum.inr ("at" : Str)) (.int j) = dSt c l j := by
  unfold dSt putK
  have e : ([(Sum.inr ("cells" : Str), V.ref c), (Sum.inr ("left" : Str), V.ref l), (Sum.inr ("at" : Str), V.int k)] : List (Key × V)).any (fun kv => decide (kv.fst = Sum.inr ("at" : Str))) = true := by
    simp only [List.any_cons, decide_eq_true, Bool.or_true, Bool.true_or]
  rw [if_pos e]
  simp only [List.map_cons, List.map_nil, if_neg kne2, if_neg kne3, if_true]
theorem dg_at {H : Hp} {s c l : Addr} {k : Int} (h : H s = some (.dK (dSt c l k))) : DGet H s (.str ("at" : Str)) (some (.int k)) := by
  have g : DGet H s (kV (Sum.inr ("at" : Str))) (valV (dSt c l k) (Sum.inr ("at" : Str))) := DGet.k h
  rw [st_at] at g
  exact g
theorem dg_cells {H : Hp} {s c l : Addr} {k : Int} (h : H s = some (.dK (dSt c l k))) : DGet H s (.str ("cells" : Str)) (some (.ref c)) := by
  have g : DGet H s (kV (Sum.inr ("cells" : Str))) (valV (dSt c l k) (Sum.inr ("cells" : Str))) := DGet.k h
  rw [st_cells] at g
  exact g
theorem dg_left {H : Hp} {s c l : Addr} {k : Int} (h : H s = some (.dK (dSt c l k))) : DGet H s (.str ("left" : Str)) (some (.ref l)) := by
  have g : DGet H s (kV (Sum.inr ("left" : Str))) (valV (dSt c l k) (Sum.inr ("left" : Str))) := DGet.k h
  rw [st_left] at g
  exact g
theorem dp_at {H : Hp} {s c l : Addr} {k j : Int} (h : H s = some (.dK (dSt c l k))) : DPut H s (.str ("at" : Str)) (.int j) (upd H s (.dK (dSt c l j))) := by
  have g : DPut H s (kV (Sum.inr ("at" : Str))) (.int j) (upd H s (.dK (putK (dSt c l k) (Sum.inr ("at" : Str)) (.int j)))) := DPut.k h (by show 3 < sizeLine; decide)
  rw [st_put] at g
  exact g
theorem fmod_lt {x m : Int} (h : 0 < m) : 0 ≤ x.fmod m ∧ x.fmod m < m := by
  rw [Int.fmod_eq_emod_of_nonneg _ (by omega)]
  exact ⟨Int.emod_nonneg _ (by omega), Int.emod_lt_of_pos _ h⟩
theorem fdiv_nn {x m : Int} (h : 0 < m) (hx : 0 ≤ x) : 0 ≤ x.fdiv m := by
  rw [Int.fdiv_eq_ediv_of_nonneg _ (by omega)]
  exact Int.ediv_nonneg hx (by omega)
theorem int_at {ns : List Int} {j : Nat} (h : j < ns.length) : ∃ x : Int, ns[j]? = some x ∧ atI (ns.map V.int) ((j : Nat) : Int) = some (V.int x) := by
  refine ⟨ns[j], List.getElem?_eq_getElem h, atI_nat ?_⟩
  rw [List.getElem?_map, List.getElem?_eq_getElem h]
  rfl
theorem scDraw : FnScope ["state", "many", "k", "at", "number"] ["state", "many"] (defScope sDraw) := ⟨rfl, rfl, rfl, by decide +kernel, rfl, by decide +kernel, by decide +kernel⟩
theorem ok_draw {f : Addr} {fd : FuncData} (F : Fun K "_law_draw" "_law_draw" sDraw f fd) (M : Def P w K mg base CX0 "_law_mixed" 1 ["cell", "k"] spMixed) (ml : mg "len" = none) : FnOk P w K mg base CX0 2 f fd ["state", "many"] (spDraw K) := by
  refine F.ok scDraw (fun vs H Q E h => ?_) (fun cdv A outer s H vs Q E hr h => ?_)
  · obtain ⟨s, c, l, m, rfl, _⟩ := h
    rfl
  obtain ⟨s, c, l, m, rfl, S, hm, hm2, q⟩ := h
  have hu := hu_of hr
  refine ⟨_, pss_cons (ps_dput hu (pv 0) pe_str (pe_op op_add (pe_dget hu (pv 0) pe_str (fun _ _ => rfl)) pe_int) rfl)
    (pss_cons (ps_set (i := 2) scDraw.nd rfl (Or.inl rfl) (pe_dget hu (pv 0) pe_str (fun _ _ => rfl)))
    (pss_cons (ps_if (pt_cmpR (op_eqD hr.units) (pe_dget hu (pv 0) pe_str (fun _ _ => rfl)) (pe_lst pa_nil) (nomark _))
      (pss_one (ps_ret (pe_op op_modN (pe_op op_fdivN (pe_def M hr rfl (pa_cons (pe_def M hr rfl (pa_cons (pe_op op_mul pe_int (pv 2)) (pa_cons (pe_op op_modN (pv 2) pe_int) pa_nil))) (pa_cons pe_int pa_nil))) pe_int) (pv 1)))) pss_nil)
    (pss_cons (ps_set (i := 3) scDraw.nd rfl (Or.inl rfl) (pe_op op_modN (pv 2) (pe_callB call_len_seq (by rfl) ml PySem.boot_len (pa_cons (pe_dget hu (pv 0) pe_str (fun _ _ => rfl)) pa_nil))))
    (pss_cons (ps_if (pt_cmpR op_gt (pe_ix ix_list (pe_dget hu (pv 0) pe_str (fun _ _ => rfl)) (pv 3) (fun _ _ => rfl)) pe_int (nomark _))
      (pss_cons (ps_set (i := 4) scDraw.nd rfl (Or.inl rfl) (pe_op op_modN (pe_ix ix_list (pe_dget hu (pv 0) pe_str (fun _ _ => rfl)) (pv 3) (fun _ _ => rfl)) (pv 1)))
      (pss_cons (ps_asg (pe_op op_fdivN (pe_ix ix_list (pe_dget hu (pv 0) pe_str (fun _ _ => rfl)) (pv 3) (fun _ _ => rfl)) (pv 1)) (pg_sub (pe_dget hu (pv 0) pe_str (fun _ _ => rfl)) (pv 3) set_list))
      (pss_one (ps_ret (pv 4))))) pss_nil)
    (pss_one (ps_ret (pe_op op_modN (pe_op op_fdivN (pe_def M hr rfl (pa_cons (pe_def M hr rfl (pa_cons (pe_op op_add (pe_ix ix_list (pe_dget hu (pv 0) pe_str (fun _ _ => rfl)) (pv 3) (fun _ _ => rfl)) (pe_op op_mul pe_int (pv 2))) (pa_cons (pe_op op_modN (pv 2) pe_int) pa_nil))) (pa_cons (pe_op op_modN (pv 2) pe_int) pa_nil))) pe_int) (pv 1)))))))), ?_⟩
  obtain ⟨cs, cl, sl, co, k, ns, ls, k0, hs, hc, h63, hl, hll, hpos⟩ := id S
  have k1 : Keep s l H (upd H s (.dK (dSt c l (k + 1)))) := Keep.put
  have hs1 : (upd H s (.dK (dSt c l (k + 1)))) s = some (.dK (dSt c l (k + 1))) := upd_same
  have hc1 : SqL K (upd H s (.dK (dSt c l (k + 1)))) c (ns.map V.int) := k1.seqL cs cl hc
  have hl1 : (upd H s (.dK (dSt c l (k + 1)))) l = some (.lst (ls.map V.int)) := by
    rw [upd_ne sl.symm]
    exact hl
  refine ⟨_, rfl, s, _, rfl, dg_at hs, _, _, rfl, rfl, _, rfl, s, _, rfl, dp_at hs, ?_⟩
  generalize upd H s (.dK (dSt c l (k + 1))) = H1 at *
  have S1 : StOk K H1 s c l := ⟨cs, cl, sl, k1.some cs cl co, k + 1, ns, ls, by omega, hs1, hc1, h63, hl1, hll, hpos⟩
  refine ⟨_, rfl, s, _, rfl, dg_at hs1, ?_⟩
  refine ⟨_, rfl, s, _, rfl, dg_cells hs1, Nat.zero_le _, fun p hp => ?_⟩
  have n1 := fmod_lt (x := k + 1) (m := 1000) (by omega)
  refine ⟨.list (ns.map PyData.int), .list [], .lst ((same_new hp _).seq hc1) (dpInts ns), .lst (SqL.of upd_same) .nil, shInts ns, rfl, _, rfl, ?_⟩
  rw [eqvInts0]
  have S2 := S1.new (o := .lst []) hp
  have k2 : Keep s l H1 (upd H1 p (.lst [])) := Keep.new hp
  have hs2 : (upd H1 p (.lst [])) s = some (.dK (dSt c l (k + 1))) := same_new hp _ _ _ hs1
  have hc2 : SqL K (upd H1 p (.lst [])) c (ns.map V.int) := (same_new hp _).seq hc1
  have hl2 : (upd H1 p (.lst [])) l = some (.lst (ls.map V.int)) := same_new hp _ _ _ hl1
  generalize upd H1 p (.lst []) = H2 at *
  have kk : Keep s l H H2 := k1.trans k2
  cases e0 : ns.isEmpty with
  | true =>
    refine iteT ?_
    refine ⟨_, rfl, _, _, rfl, rfl, .inl (by decide), _, rfl, _, _, rfl, rfl, (by show (1000 : Int) ≠ 0; decide), _, _, rfl, n1.1, by omega, fun x hx => ?_⟩
    refine ⟨_, _, rfl, by decide, by decide, fun y hy => ?_⟩
    refine ⟨_, _, rfl, rfl, ⟨by decide, by decide⟩, _, rfl, _, _, rfl, rfl, (by show m ≠ 0; omega), ?_⟩
    have z := fmod_lt (x := y.fdiv 64) hm
    exact q H2 _ S2 kk z.1 z.2
  | false =>
    refine iteF ?_
    have hne : 0 < ns.length := by
      cases ns with
      | nil => cases e0
      | cons a r => exact Nat.succ_pos _
    have n2 := fmod_lt (x := k + 1) (m := (ns.length : Int)) (by omega)
    have e1 : ((ns.map V.int).length : Int) = (ns.length : Int) := by rw [List.length_map]
    refine ⟨_, rfl, _, rfl, s, _, rfl, dg_cells hs2, c, _, rfl, .inl hc2, _, _, rfl, rfl, (by show ((ns.map V.int).length : Int) ≠ 0; omega), ?_⟩
    obtain ⟨j, hj⟩ : ∃ j : Nat, (k + 1).fmod ((ns.map V.int).length : Int) = (j : Int) := ⟨((k + 1).fmod (ns.length : Int)).toNat, by rw [e1]; omega⟩
    have ej : (fun i j : Int => V.int (i.fmod j)) (k + 1) ((ns.map V.int).length : Int) = V.int (j : Int) := congrArg V.int hj
    rw [ej]
    have hjl : j < ns.length := by
      rw [e1] at hj
      omega
    obtain ⟨x, hx, ax⟩ := int_at (ns := ls) (j := j) (by omega)
    obtain ⟨y, hy, ay⟩ := int_at (ns := ns) (j := j) hjl
    have hx0 : 0 ≤ x := hpos x (List.mem_of_getElem? hx)
    refine ⟨_, rfl, s, _, rfl, dg_left hs2, _, rfl, l, _, _, _, rfl, rfl, SqL.of hl2, ax, _, _, rfl, rfl, _, rfl, ?_⟩
    refine ite2 (fun _ => ?_) (fun _ => ?_)
    · refine ⟨_, rfl, s, _, rfl, dg_left hs2, _, rfl, l, _, _, _, rfl, rfl, SqL.of hl2, ax, _, rfl, _, _, rfl, rfl, (by show m ≠ 0; omega), ?_⟩
      refine ⟨_, rfl, s, _, rfl, dg_left hs2, _, rfl, l, _, _, _, rfl, rfl, SqL.of hl2, ax, _, rfl, _, _, rfl, rfl, ⟨by show m ≠ 0; omega, by omega⟩, ?_⟩
      have hix : ixN (ls.map V.int).length ((j : Nat) : Int) = some j := Evl.ixN_nat (by rw [List.length_map]; omega)
      refine ⟨_, rfl, s, _, rfl, dg_left hs2, _, rfl, l, _, _, j, rfl, rfl, hl2, hix, _, rfl, ?_⟩
      have em : (ls.map V.int).set j (V.int (x.fdiv m)) = (ls.set j (x.fdiv m)).map V.int := by rw [List.map_set]
      have em' : (ls.map V.int).set j ((fun i j : Int => V.int (i.fdiv j)) x m) = (ls.set j (x.fdiv m)).map V.int := em
      rw [em']
      have k3 : Keep s l H2 (upd H2 l (.lst ((ls.set j (x.fdiv m)).map V.int))) := Keep.putl
      have z := fmod_lt (x := x) hm
      refine q _ _ ⟨cs, cl, sl, (kk.trans k3).some cs cl co, k + 1, ns, ls.set j (x.fdiv m), by omega, ?_, k3.seqL cs cl hc2, h63, upd_same, by rw [List.length_set, hll], fun u hu' => ?_⟩ (kk.trans k3) z.1 z.2
      · rw [upd_ne sl]
        exact hs2
      · rcases List.mem_or_eq_of_mem_set hu' with h | h
        · exact hpos u h
        · rw [h]
          exact fdiv_nn hm hx0
    · refine ⟨_, rfl, s, _, rfl, dg_cells hs2, _, rfl, c, _, _, _, rfl, rfl, hc2, ay, _, rfl, _, _, rfl, rfl, .inl (by decide), _, _, rfl, rfl, ?_⟩
      have n3 := fmod_lt (x := k + 1) (m := 50) (by omega)
      refine ⟨_, rfl, _, _, rfl, rfl, (by show (1000 : Int) ≠ 0; decide), _, _, rfl, n1.1, by omega, fun x hx => ?_⟩
      refine ⟨_, rfl, _, _, rfl, rfl, (by show (50 : Int) ≠ 0; decide), _, _, rfl, n3.1, by omega, fun y hy => ?_⟩
      refine ⟨_, _, rfl, rfl, ⟨by decide, by decide⟩, _, rfl, _, _, rfl, rfl, (by show m ≠ 0; omega), ?_⟩
      have z := fmod_lt (x := y.fdiv 64) hm
      exact q H2 _ S2 kk z.1 z.2
end
end Kn
set_option Elab.async false
set_option linter.all false
set_option maxRecDepth 100000
set_option maxHeartbeats 4000000
namespace Kn
open PySem L2
section
variable {P : Program} {w : World} {K : PySem.W.Frag} {mg : Str → Option Value} {base : Heap}
theorem mergeK_app : ∀ (more kvs : List (Key × V)), ((kvs ++ more).map (·.1)).Nodup → mergeK kvs more = kvs ++ more
  | [], kvs, _ => by
    rw [List.append_nil]
    rfl
  | (k, v) :: r, kvs, h => by
    have hn : (kvs.any fun kv => decide (kv.1 = k)) = false := by
      rw [List.any_eq_false]
      intro p hp hk
      have hk' : p.1 = k := of_decide_eq_true hk
      rw [List.map_append, List.nodup_append] at h
      exact h.2.2 p.1 (List.mem_map_of_mem hp) k (by simp) hk'
    have e : putK kvs k v = kvs ++ [(k, v)] := by
      unfold putK
      rw [hn]
      rfl
    have ih := mergeK_app r (kvs ++ [(k, v)]) (by simpa [List.append_assoc] using h)
    have e2 : mergeK kvs ((k, v) :: r) = mergeK (putK kvs k v) r := rfl
    rw [e2, e, ih, List.append_assoc]
    rfl
theorem mergeK_nd {kvs : List (Key × V)} (h : (kvs.map (·.1)).Nodup) : mergeK [] kvs = kvs := by
  have e := mergeK_app kvs [] (by simpa using h)
  simpa using e
theorem scBegun : FnScope ["script", "cell"] ["script"] (defScope sBegun) := ⟨rfl, rfl, rfl, by decide +kernel, rfl, by decide +kernel, by decide +kernel⟩
/-- a new state of the draws -/
def spBegun (K : PySem.W.Frag) : Sp := fun vs H Q _ => ∃ (c : Addr) (ns : List Int), vs = [.ref c] ∧ SqL K H c (ns.map V.int) ∧ (∃ o, H c = some o) ∧ ns.length ≤ 63 ∧ ∀ (H' : Hp) (s l : Addr), StOk K H' s c l → Same H H' → H s = none → H l = none → Q (.ref s) H'
theorem ok_begun {f : Addr} {fd : FuncData} (F : Fun K "_law_begun" "_law_begun" sBegun f fd) : FnOk P w K mg base CX0 1 f fd ["script"] (spBegun K) := by
  refine F.ok scBegun (fun vs H Q E h => ?_) (fun cdv A outer s H vs Q E hr h => ?_)
  · obtain ⟨c, ns, rfl, _⟩ := h
    rfl
  obtain ⟨c, ns, rfl, hc, hco, h63, q⟩ := h
  refine ⟨_, pss_one (ps_ret (pe_disp (pps_cons pe_str (pv 0) (pps_cons pe_str
    (pe_lc (own := [("cell", 1)]) (g := gName 1) (tt := tYes) rfl scBegun.nd (pi_list (pv 0)) (blkOk_by (own := [("cell", 1)]) (N := ["script", "cell"]) (sc := defScope sBegun) (by decide +kernel))
      (fun _ _ _ _ _ => pg_name (i := 1) scBegun.nd rfl (Or.inl rfl)) (fun _ _ _ _ _ => pts_nil)
      (fun _ _ _ _ _ => pe_ifExp (pt_cmpR op_ge (pv 1) (pe_op op_pow pe_int pe_int) (nomark _)) (pv 1) pe_int))
    (pps_cons pe_str pe_int pps_nil))) (by rfl) (by rfl) (fun z => by cases z) (by decide))), ?_⟩
  intro s hs
  obtain ⟨oc, hco⟩ := hco
  have e1 : Same H (upd H s (.dK [])) := same_new hs _
  refine ⟨_, rfl, _, rfl, c, rfl, ⟨_, e1.seq hc⟩, fun D hD => ?_⟩
  have hD0 : H D = none := e1.free hD
  have nDs : D ≠ s := fun z => by
    rw [z, upd_same] at hD
    cases hD
  refine lc_list (K := K) (a := c) (xs := ns.map V.int) (fun i H' => Same (upd H s (.dK [])) H' ∧ ∃ ls : List Int, H' D = some (.lst (ls.map V.int)) ∧ ls.length = i ∧ ∀ x ∈ ls, 0 ≤ x)
    ⟨same_new hD _, [], upd_same, rfl, fun x hx => by cases hx⟩ (fun i H' _ p => p.1.seq (e1.seq hc)) ?_ ?_
  · rintro i x H' hi ⟨e2, ls, h1, h2, h3⟩
    have hi63 : i < 64 := by
      have z := (List.getElem?_eq_some_iff.mp hi).1
      rw [List.length_map] at z
      omega
    obtain ⟨u, rfl⟩ : ∃ u, x = V.int u := by
      rw [List.getElem?_map] at hi
      cases e : ns[i]? with
      | none =>
        rw [e] at hi
        cases hi
      | some u =>
        rw [e] at hi
        exact ⟨u, (Option.some.inj hi).symm⟩
    have fin : ∀ y : Int, 0 ≤ y → ∃ acc, H' D = some (HO.lst acc) ∧ acc.length < sizeLine ∧ (Same (upd H s (.dK [])) (upd H' D (.lst (acc ++ [V.int y]))) ∧ ∃ ls : List Int, (upd H' D (.lst (acc ++ [V.int y]))) D = some (.lst (ls.map V.int)) ∧ ls.length = i + 1 ∧ ∀ x ∈ ls, 0 ≤ x) := fun y hy => by
      refine ⟨_, h1, by rw [List.length_map, h2]; exact small1000 (by omega), fun b o q => ?_, ls ++ [y], ?_, by rw [List.length_append, h2]; rfl, fun z hz => ?_⟩
      · rw [upd_ne (ne_of_none q hD)]
        exact e2 b o q
      · rw [upd_same, List.map_append]
        rfl
      · rcases List.mem_append.mp hz with hz | hz
        · exact h3 z hz
        · rw [List.mem_singleton.mp hz]
          exact hy
    refine ⟨rfl, ?_⟩
    show _
    refine ⟨_, rfl, _, _, rfl, rfl, ⟨by decide, by decide, by decide⟩, _, _, rfl, rfl, _, rfl, ?_⟩
    refine ite2 (fun c => ?_) (fun _ => ?_)
    · have c' : u ≥ 10 ^ (18 : Int).toNat := of_decide_eq_true c
      have e18 : (10 : Int) ^ (18 : Int).toNat = 1000000000000000000 := by decide
      rw [e18] at c'
      exact ⟨_, rfl, fin u (by omega)⟩
    · exact fin 0 (by omega)
  · rintro H' ⟨e2, ls, h1, h2, h3⟩
    rw [List.length_map] at h2
    have hs2 : H' s = some (.dK []) := e2 _ _ upd_same
    refine ⟨hs2, [(.inr ("cells" : Str), .ref c), (.inr ("left" : Str), .ref D), (.inr ("at" : Str), .int 0)], rfl, (by show 3 ≤ 15; decide), ?_⟩
    have em : mergeK [] ([(Sum.inr ("cells" : Str), V.ref c), (Sum.inr ("left" : Str), V.ref D), (Sum.inr ("at" : Str), V.int 0)] : List (Key × V)) = dSt c D 0 := by
      exact mergeK_nd (by show ([Sum.inr ("cells" : Str), Sum.inr ("left" : Str), Sum.inr ("at" : Str)] : List Key).Nodup; decide +kernel)
    rw [em]
    have e3 : Same H (upd H' s (.dK (dSt c D 0))) := fun b o q => by
      rw [upd_ne (ne_of_none q hs)]
      exact e2 _ _ (e1 b o q)
    refine q _ s D ⟨ne_of_none hco hs, ne_of_none hco hD0, nDs.symm, (by rw [e3 _ _ hco]; exact fun z => nomatch z), 0, ns, ls, Int.le_refl 0, upd_same, e3.seq hc, h63, ?_, h2, h3⟩ e3 hs hD0
    rw [upd_ne nDs]
    exact h1

/-! ### one of some things -/
theorem scOne : FnScope ["state", "things"] ["state", "things"] (defScope sOne) := ⟨rfl, rfl, rfl, by decide +kernel, rfl, by decide +kernel, by decide +kernel⟩
def spOne (K : PySem.W.Frag) : Sp := fun vs H Q _ => ∃ (s c l : Addr) (v : V), vs = [.ref s, v] ∧ StOk K H s c l ∧
  ((∃ (a : Addr) (xs : List V), v = .ref a ∧ a ≠ s ∧ a ≠ l ∧ SqL K H a xs ∧ 0 < xs.length ∧ xs.length ≤ 100000 ∧ ∀ (H' : Hp) (x : V), StOk K H' s c l → Keep s l H H' → x ∈ xs → Q x H') ∨
    ∃ z : Str, v = .str z ∧ 0 < z.length ∧ z.length ≤ 100000 ∧ ∀ (H' : Hp) (x : Nat), StOk K H' s c l → Keep s l H H' → x ∈ z.cps.toList → Q (.str ⟨#[x]⟩) H')
theorem ok_one {f : Addr} {fd : FuncData} (F : Fun K "_law_one" "_law_one" sOne f fd) (M : Def P w K mg base CX0 "_law_draw" 2 ["state", "many"] (spDraw K)) (ml : mg "len" = none) : FnOk P w K mg base CX0 3 f fd ["state", "things"] (spOne K) := by
  refine F.ok scOne (fun vs H Q E h => ?_) (fun cdv A outer s H vs Q E hr h => ?_)
  · obtain ⟨s, c, l, v, rfl, _⟩ := h
    rfl
  obtain ⟨s, c, l, v, rfl, S, h⟩ := h
  refine ⟨_, pss_one (ps_ret (pe_ix ix_seq (pv 1) (pe_def M hr rfl (pa_cons (pv 0) (pa_cons (pe_callB call_len (by rfl) ml PySem.boot_len (pa_cons (pv 1) pa_nil)) pa_nil))) (fun _ _ => rfl))), ?_⟩
  rcases h with ⟨a, xs, rfl, as, al, hx, h0, h1, q⟩ | ⟨z, rfl, h0, h1, q⟩
  · refine ⟨_, rfl, _, rfl, _, rfl, _, _, rfl, .inl ⟨xs, hx, rfl⟩, s, c, l, _, rfl, S, by omega, by omega, fun H' n S' k n0 n1 => ?_⟩
    obtain ⟨j, rfl⟩ : ∃ j : Nat, n = (j : Int) := ⟨n.toNat, by omega⟩
    have hj : j < xs.length := by omega
    exact .inl ⟨a, xs, _, xs[j], rfl, rfl, k.seqL as al hx, atI_nat (List.getElem?_eq_getElem hj), q H' _ S' k (List.getElem_mem hj)⟩
  · refine ⟨_, rfl, _, rfl, _, rfl, _, _, rfl, ⟨Evl.sz_of h1, rfl⟩, s, c, l, _, rfl, S, by omega, by omega, fun H' n S' k n0 n1 => ?_⟩
    obtain ⟨j, rfl⟩ : ∃ j : Nat, n = (j : Int) := ⟨n.toNat, by omega⟩
    have hj : j < z.cps.toList.length := by
      have e : z.cps.toList.length = z.length := by simp [Str.length]
      omega
    exact .inr (.inr ⟨z, _, z.cps.toList[j], rfl, rfl, Evl.sz_of h1, atI_nat (List.getElem?_eq_getElem hj), q H' _ S' k (List.getElem_mem hj)⟩)
end
end Kn
set_option Elab.async false
set_option linter.all false
set_option maxRecDepth 100000
set_option maxHeartbeats 4000000
namespace Kn
open PySem L2 TL
/-! ### a text as often as a number says -/
def repS (z : Str) (n : Int) : Str := if n < 1 then Str.empty else if (n == 1 || z.length == 0) = true then z else ⟨(List.replicate n.toNat z.cps).foldl (· ++ ·) #[]⟩
def rMulS : R2 := fun x y H Q => ∃ (z : Str) (n : Int), x = .str z ∧ y = .int n ∧ 0 ≤ n ∧ n ≤ 1000 ∧ z.length ≤ 1000 ∧ (repS z n).length ≤ sizeLine ∧ Q (.str (repS z n)) H
theorem op_mulS {X : Cx} : OpR X (binaryOp .Mult) rMulS := by
  intro pins s σ H x y v u Q I rx ry h
  obtain ⟨z, n, rfl, rfl, h0, h1, h2, h3, q⟩ := h
  obtain ⟨t, rfl⟩ := rx
  obtain ⟨t', rfl⟩ := ry
  have d1 : (decide (n < -(2 ^ 63 : Int)) || decide (n ≥ 2 ^ 63)) = false := by
    rw [decide_eq_false (by omega), decide_eq_false (by omega)]
    rfl
  refine P.mul_str d1 (fun a b => ?_) (fun a b => ?_) ?_
  · have e : (1000 : Int) ≤ (2 ^ 63 - 1) / n := by
      rw [Int.le_ediv_iff_mul_le (by omega)]
      omega
    omega
  · unfold Builtin.Str.tooLong
    have e : z.length * n.toNat ≤ 1000 * 1000 := Nat.mul_le_mul h2 (by omega)
    have e2 : 1000 * 1000 ≤ sizeLine := by decide
    exact decide_eq_false (by omega)
  · unfold repS at q h3
    by_cases c : n < 1
    · rw [if_pos c]
      rw [if_pos c] at q h3
      exact ⟨h3, .str _, H, I.tok _, ⟨_, rfl⟩, q⟩
    · rw [if_neg c]
      rw [if_neg c] at q h3
      by_cases c2 : (n == 1 || z.length == 0) = true
      · rw [if_pos c2]
        rw [if_pos c2] at q
        exact ⟨.str _, H, I, ⟨_, rfl⟩, q⟩
      · rw [if_neg c2]
        rw [if_neg c2] at q h3
        exact ⟨h3, .str _, H, I.tok _, ⟨_, rfl⟩, q⟩
/-! ### words -/
def lowB (z : Str) : Bool := z.cps.toList.all fun c => decide (97 ≤ c) && decide (c ≤ 122)
def keptB (z : Str) : Bool := z == ("some" : Str) || z == ("all" : Str) || z == ("in" : Str)
/-- a name that texts can bear -/
def wordB (z : Str) : Bool := decide (1 ≤ z.length) && decide (z.length ≤ 8) && lowB z && !keptB z
def spWord (K : PySem.W.Frag) : Sp := fun vs H Q _ => ∃ (s c l : Addr), vs = [.ref s] ∧ StOk K H s c l ∧ ∀ (H' : Hp) (z : Str), StOk K H' s c l → Keep s l H H' → wordB z = true → Q (.str z) H'
def abc : Str := "abcdefghijklmnopqrstuvwxyz"
theorem abc_low : ∀ c ∈ abc.cps.toList, 97 ≤ c ∧ c ≤ 122 := by decide +kernel
theorem abc_len : abc.length = 26 := by decide +kernel
theorem w12 : ∀ z ∈ ([("yes" : Str), "no", "name", "not", "and", "or", "xor", "if", "put", "x", "y", "z"] : List Str), wordB z = true := by decide +kernel
theorem joinL_nil : ∀ l : List (List Nat), joinL [] l = l.flatten
  | [] => rfl
  | [p] => by simp [joinL]
  | p :: q :: r => by
    have h := joinL_nil (q :: r)
    show p ++ ([] ++ joinL [] (q :: r)) = _
    rw [h]
    simp
/-- one-letter texts put together -/
theorem join_letters {ys : List Str} (h : ∀ y ∈ ys, ∃ c, y = ⟨#[c]⟩ ∧ 97 ≤ c ∧ c ≤ 122) : (Txt.join ("" : Str) ys).length = ys.length ∧ lowB (Txt.join ("" : Str) ys) = true ∧ (ys.map (·.length)).sum = ys.length := by
  have e : tl (Txt.join ("" : Str) ys) = (ys.map tl).flatten := by
    rw [join_eq, tl_join]
    exact joinL_nil _
  have key : ∀ l : List Str, (∀ y ∈ l, ∃ c, y = ⟨#[c]⟩ ∧ 97 ≤ c ∧ c ≤ 122) → (l.map tl).flatten.length = l.length ∧ (∀ c ∈ (l.map tl).flatten, 97 ≤ c ∧ c ≤ 122) ∧ (l.map (·.length)).sum = l.length := by
    intro l
    induction l with
    | nil => exact fun _ => ⟨rfl, (fun c hc => by cases hc), rfl⟩
    | cons y r ih =>
      intro hl
      obtain ⟨c, rfl, hc⟩ := hl y List.mem_cons_self
      obtain ⟨i1, i2, i3⟩ := ih fun z hz => hl z (List.mem_cons_of_mem _ hz)
      refine ⟨?_, fun d hd => ?_, ?_⟩
      · rw [List.map_cons, List.flatten_cons, List.length_append, i1]
        show 1 + r.length = r.length + 1
        omega
      · rw [List.map_cons, List.flatten_cons] at hd
        rcases List.mem_append.mp hd with hd | hd
        · have : d = c := by simpa [tl] using hd
          rw [this]
          exact hc
        · exact i2 d hd
      · rw [List.map_cons, List.sum_cons, i3]
        show 1 + r.length = r.length + 1
        omega
  obtain ⟨k1, k2, k3⟩ := key ys h
  refine ⟨?_, ?_, k3⟩
  · have e2 : (Txt.join ("" : Str) ys).length = (tl (Txt.join ("" : Str) ys)).length := by simp [Str.length, tl]
    rw [e2, e, k1]
  · unfold lowB
    rw [show (Txt.join ("" : Str) ys).cps.toList = (ys.map tl).flatten from e, List.all_eq_true]
    intro c hc
    have z := k2 c hc
    rw [decide_eq_true z.1, decide_eq_true z.2]
    rfl
theorem kept_xx : ∀ z ∈ ([("some" : Str), "all", "in"] : List Str), wordB (z ++ repS "x" 2) = true ∧ (repS "x" 2).length ≤ 4 ∧ z.length ≤ 4 := by decide +kernel
theorem kept_iff (z : Str) : inV (.str z) [.str ("some" : Str), .str ("all" : Str), .str ("in" : Str)] = keptB z := by
  unfold inV keptB
  have e : ∀ a : Str, eqV (.str a) (.str z) = (z == a) := fun a => by
    show (a == z) = (z == a)
    exact Bool.beq_comm
  simp only [List.any_cons, List.any_nil, e, Bool.or_false, Bool.or_assoc]
theorem kept_mem {z : Str} (h : keptB z = true) : z ∈ ([("some" : Str), "all", "in"] : List Str) := by
  unfold keptB at h
  simp only [Bool.or_eq_true, beq_iff_eq] at h
  rcases h with (h | h) | h <;> simp [h]
theorem app_empty (z : Str) : z ++ Str.empty = z := by
  show (⟨z.cps ++ #[]⟩ : Str) = z
  simp
section
variable {P : Program} {w : World} {K : PySem.W.Frag} {mg : Str → Option Value} {base : Heap}
theorem scWord : FnScope ["state", "letters", "word", "k"] ["state"] (defScope sWord) := ⟨rfl, rfl, rfl, by decide +kernel, rfl, by decide +kernel, by decide +kernel⟩
theorem ok_word {f : Addr} {fd : FuncData} (F : Fun K "_law_word" "_law_word" sWord f fd) (M : Def P w K mg base CX0 "_law_draw" 2 ["state", "many"] (spDraw K)) (O : Def P w K mg base CX0 "_law_one" 3 ["state", "things"] (spOne K)) (mr : mg "range" = none) (mi : mg "int" = none) :
    FnOk P w K mg base CX0 4 f fd ["state"] (spWord K) := by
  refine F.ok scWord (fun vs H Q E h => ?_) (fun cdv A outer s H vs Q E hr h => ?_)
  · obtain ⟨s, c, l, rfl, _⟩ := h
    rfl
  obtain ⟨s, c, l, rfl, S, q⟩ := h
  have hr2 : Room 2 _ := hr.mono (by decide)
  refine ⟨_, pss_cons (ps_if (pt_cmpR op_eq (pe_def M hr2 rfl (pa_cons (pv 0) (pa_cons pe_int pa_nil))) pe_int (nomark _))
      (pss_one (ps_ret (pe_def O hr rfl (pa_cons (pv 0) (pa_cons (pe_lst (pa_cons pe_str (pa_cons pe_str (pa_cons pe_str (pa_cons pe_str (pa_cons pe_str (pa_cons pe_str (pa_cons pe_str (pa_cons pe_str (pa_cons pe_str (pa_cons pe_str (pa_cons pe_str (pa_cons pe_str pa_nil))))))))))))) pa_nil))))) pss_nil)
    (pss_cons (ps_set (i := 1) scWord.nd rfl (Or.inr rfl) pe_str)
    (pss_cons (ps_set (i := 2) scWord.nd rfl (Or.inl rfl) (pe_join pe_str
      (pe_lc (own := [("k", 3)]) (g := gName 3) (tt := tYes) rfl scWord.nd (pi_range1 rfl mr (pa_cons (pe_op op_add pe_int (pe_def M hr2 rfl (pa_cons (pv 0) (pa_cons pe_int pa_nil)))) pa_nil)) (blkOk_by (own := [("k", 3)]) (N := ["state", "letters", "word", "k"]) (sc := defScope sWord) (by decide +kernel))
        (fun _ _ _ _ _ => pg_name (i := 3) scWord.nd rfl (Or.inl rfl)) (fun _ _ _ _ _ => pts_nil)
        (fun _ _ _ _ _ => pe_def O hr rfl (pa_cons (pv 0) (pa_cons (pv 1) pa_nil))))))
    (pss_one (ps_ret (pe_op op_add_str (pv 2) (pe_op op_mulS pe_str (pe_op op_mul pe_int (pe_callTy call_int1 (by rfl) mi (by decide +kernel) (pa_cons (pe_cmpR op_in_seq (pv 2) (pe_tup (pa_cons pe_str (pa_cons pe_str (pa_cons pe_str pa_nil)))) (by rfl)) pa_nil))))))))), ?_⟩
  refine ⟨_, rfl, s, c, l, 3, rfl, S, by decide, by decide, fun H1 n S1 k1 n0 n1 => ?_⟩
  refine ⟨rfl, _, rfl, ?_⟩
  refine ite2 (fun _ => ?_) (fun _ => ?_)
  · refine ⟨_, rfl, (by show 12 ≤ sizeLine; decide), fun p hp => ?_⟩
    have nn := S1.ns hp
    refine ⟨s, c, l, _, rfl, S1.new hp, .inl ⟨p, _, rfl, nn.1, nn.2.1, SqL.of upd_same, (by show 0 < 12; decide), (by show 12 ≤ 100000; decide), fun H2 x S2 k2 hx => ?_⟩⟩
    have hx' : x ∈ (([("yes" : Str), "no", "name", "not", "and", "or", "xor", "if", "put", "x", "y", "z"] : List Str).map V.str) := hx
    obtain ⟨z, hz, rfl⟩ := List.mem_map.mp hx'
    exact q H2 z S2 (k1.trans ((Keep.new hp).trans k2)) (w12 z hz)
  · refine ⟨⟨_, rfl⟩, ?_⟩
    refine ⟨_, rfl, s, c, l, 8, rfl, S1, by decide, by decide, fun H2 n2 S2 k2 n20 n21 => ?_⟩
    refine ⟨_, _, rfl, rfl, _, rfl, by omega, by omega, fun D hD => ?_⟩
    have nn := S2.ns hD
    have kk := k1.trans k2
    refine lc_range (lo := 0) (n := (1 + n2).toNat) (fun i H' => StOk K H' s c l ∧ Keep s l H H' ∧ ∃ ys : List Str, H' D = some (.lst (ys.map V.str)) ∧ ys.length = i ∧ ∀ y ∈ ys, ∃ c, y = ⟨#[c]⟩ ∧ 97 ≤ c ∧ c ≤ 122)
      ⟨S2.new hD, kk.trans (Keep.new hD), [], upd_same, rfl, fun y hy => by cases hy⟩ ?_ ?_
    · rintro i H' hi ⟨S3, k3, ys, h1, h2, h3⟩
      refine ⟨rfl, ?_⟩
      show _
      refine ⟨_, rfl, _, rfl, s, c, l, _, rfl, S3, .inr ⟨abc, rfl, by rw [abc_len]; decide, by rw [abc_len]; decide, fun H4 x S4 k4 hx => ?_⟩⟩
      have h4 : H4 D = some (.lst (ys.map V.str)) := k4 _ _ nn.1 nn.2.1 h1
      refine ⟨_, h4, by rw [List.length_map, h2]; exact small1000 (by omega), S4.mut nn, kk.mut hD (k3.trans k4), ys ++ [⟨#[x]⟩], ?_, by rw [List.length_append, h2]; rfl, fun y hy => ?_⟩
      · rw [upd_same, List.map_append]
        rfl
      · rcases List.mem_append.mp hy with hy | hy
        · exact h3 y hy
        · exact ⟨x, List.mem_singleton.mp hy, abc_low x hx⟩
    · rintro H' ⟨S3, k3, ys, h1, h2, h3⟩
      obtain ⟨z1, z2, z3⟩ := join_letters h3
      have hlen : ys.length ≤ 8 := by omega
      refine ⟨_, D, ys, rfl, rfl, .inl (SqL.of h1), (by
        rw [z3]
        show ys.length + ys.length * 0 ≤ 16777216
        omega), ?_⟩
      generalize hz : Txt.join (Str.ofString "") ys = z at *
      refine ⟨_, rfl, _, rfl, (by show 3 ≤ sizeLine; decide), fun t ht => ?_⟩
      have e4 : Keep s l H (upd H' t (.tup [V.str ("some" : Str), V.str ("all" : Str), V.str ("in" : Str)])) := k3.trans (Keep.new ht)
      have S5 := S3.new (o := .tup [V.str ("some" : Str), V.str ("all" : Str), V.str ("in" : Str)]) ht
      refine ⟨t, _, rfl, .inr (SqT.of upd_same), rfl, rfl, ?_⟩
      rw [kept_iff]
      cases hk : keptB z with
      | true =>
        obtain ⟨w1, w2, w3⟩ := kept_xx z (kept_mem hk)
        refine .inr ⟨true, rfl, _, _, rfl, rfl, .inl (by decide), _, _, rfl, rfl, by decide, by decide, (by show (1 : Nat) ≤ 1000; decide), (by show (repS "x" 2).length ≤ sizeLine; exact Nat.le_trans w2 (by decide)), _, _, rfl, rfl, ?_, q _ _ S5 e4 w1⟩
        have w4 : sizeLine = 16777216 := sizeLine_eq
        show z.length + (repS "x" 2).length ≤ sizeLine
        omega
      | false =>
        refine .inr ⟨false, rfl, _, _, rfl, rfl, .inl (by decide), _, _, rfl, rfl, by decide, by decide, (by show (1 : Nat) ≤ 1000; decide), (by show (repS "x" 0).length ≤ sizeLine; decide +kernel), _, _, rfl, rfl, ?_, ?_⟩
        · have w4 : sizeLine = 16777216 := sizeLine_eq
          have w5 : (repS "x" 0).length = 0 := by decide +kernel
          show z.length + (repS "x" 0).length ≤ sizeLine
          omega
        · have w5 : repS "x" 0 = Str.empty := by decide +kernel
          show Q (V.str (z ++ repS "x" 0)) _
          rw [w5, app_empty]
          refine q _ _ S5 e4 ?_
          unfold wordB
          rw [hk, z2, decide_eq_true (by omega), decide_eq_true (by omega)]
          rfl
end
end Kn
set_option Elab.async false
set_option linter.all false
set_option maxRecDepth 100000
set_option maxHeartbeats 4000000
namespace Kn
open PySem L2 TL
/-! ### names: unlike ones, by words and one letter more -/
theorem pigeon {α : Type} [BEq α] [LawfulBEq α] : ∀ {l b : List α}, l.Nodup → (∀ x ∈ l, x ∈ b) → l.length ≤ b.length
  | [], b, _, _ => Nat.zero_le _
  | x :: r, b, hn, hs => by
    have hx := hs x List.mem_cons_self
    have hn' := List.nodup_cons.mp hn
    have ih := pigeon (l := r) (b := b.erase x) hn'.2 fun y hy => (List.mem_erase_of_ne (fun (z : y = x) => hn'.1 (by rw [← z]; exact hy))).mpr (hs y (List.mem_cons_of_mem _ hy))
    rw [List.length_erase_of_mem hx] at ih
    have := List.length_pos_of_mem hx
    rw [List.length_cons]
    omega
def letS (c : Nat) : Str := ⟨#[c]⟩
/-- the word, and its beginning with each letter -/
def othersOf (z : Str) : List Str := z :: abc.cps.toList.map fun c => cutS z none (some 7) ++ letS c
def isBad (found : List Str) (x : Str) : Bool := inV (.str x) ((found.map V.str) ++ [.str ("some" : Str), .str ("all" : Str), .str ("in" : Str)])
theorem isBad_iff (found : List Str) (x : Str) : isBad found x = decide (x ∈ found ++ [("some" : Str), "all", "in"]) := by
  unfold isBad inV
  have e : ((found.map V.str) ++ [V.str ("some" : Str), V.str ("all" : Str), V.str ("in" : Str)]) = (found ++ [("some" : Str), "all", "in"]).map V.str := by
    rw [List.map_append]
    rfl
  rw [e, List.any_map]
  generalize found ++ [("some" : Str), "all", "in"] = l
  induction l with
  | nil => rfl
  | cons y r ih =>
    rw [List.any_cons, ih]
    show ((y == x) || decide (x ∈ r)) = decide (x ∈ y :: r)
    by_cases h : x = y
    · subst h
      simp
    · have h2 : (y == x) = false := by
        rw [beq_eq_false_iff_ne]
        exact fun q => h q.symm
      rw [h2, Bool.false_or]
      simp [h]
theorem abc_nodup : abc.cps.toList.Nodup := by decide +kernel
theorem others_nd (z : Str) : (abc.cps.toList.map fun c => cutS z none (some 7) ++ letS c).Nodup := by
  unfold List.Nodup
  rw [List.pairwise_map]
  refine List.Pairwise.imp (fun {a b} h q => h ?_) abc_nodup
  have e : tl (cutS z none (some 7) ++ letS a) = tl (cutS z none (some 7) ++ letS b) := by rw [q]
  rw [tl_append, tl_append] at e
  have e2 := List.append_cancel_left e
  have e3 : [a] = [b] := e2
  exact (List.cons.inj e3).1
theorem others_good {found : List Str} (hf : found.length ≤ 20) (z : Str) : ∃ x ∈ othersOf z, isBad found x = false := by
  false_or_by_contra
  rename_i h
  have all : ∀ x ∈ (abc.cps.toList.map fun c => cutS z none (some 7) ++ letS c), x ∈ found ++ [("some" : Str), "all", "in"] := fun x hx => by
    cases q : isBad found x with
    | false => exact absurd ⟨x, List.mem_cons_of_mem _ hx, q⟩ h
    | true =>
      rw [isBad_iff] at q
      exact of_decide_eq_true q
  have p := pigeon (others_nd z) all
  have l1 : (abc.cps.toList.map fun c => cutS z none (some 7) ++ letS c).length = 26 := by
    rw [List.length_map]
    decide +kernel
  rw [l1, List.length_append] at p
  have : ([("some" : Str), "all", "in"] : List Str).length = 3 := rfl
  omega
theorem cut7 {z : Str} (hz : wordB z = true) : (cutS z none (some 7)).length ≤ 7 ∧ lowB (cutS z none (some 7)) = true := by
  have e : tl (cutS z none (some 7)) = (tl z).take (min 7 z.length) := by
    unfold cutS
    have e1 : HT.sIx z.length z.length (some 7) = min 7 z.length := HT.sIx_nat z.length z.length 7
    rw [e1, HT.sIx_none]
    simp
  have hl : lowB z = true := by
    unfold wordB at hz
    simp only [Bool.and_eq_true] at hz
    exact hz.1.2
  constructor
  · have e2 : (cutS z none (some 7)).length = (tl (cutS z none (some 7))).length := by simp [Str.length, tl]
    rw [e2, e, List.length_take]
    omega
  · unfold lowB at hl ⊢
    rw [show (cutS z none (some 7)).cps.toList = (tl z).take (min 7 z.length) from e, List.all_eq_true]
    intro c hc
    exact List.all_eq_true.mp hl c (List.mem_of_mem_take hc)
theorem lowB_app {x y : Str} (hx : lowB x = true) (hy : lowB y = true) : lowB (x ++ y) = true := by
  unfold lowB at *
  rw [show (x ++ y).cps.toList = tl x ++ tl y from tl_append x y, List.all_append]
  rw [show (tl x).all _ = true from hx, show (tl y).all _ = true from hy]
  rfl
theorem len_app (x y : Str) : (x ++ y).length = x.length + y.length := by
  have e : ∀ z : Str, z.length = (tl z).length := fun z => by simp [Str.length, tl]
  rw [e, tl_append, List.length_append, ← e, ← e]
theorem others_ok {z x : Str} {found : List Str} (hz : wordB z = true) (hx : x ∈ othersOf z) (hb : isBad found x = false) : wordB x = true ∧ x ∉ found := by
  rw [isBad_iff, decide_eq_false_iff_not] at hb
  have h1 : x ∉ found := fun q => hb (List.mem_append_left _ q)
  refine ⟨?_, h1⟩
  rcases List.mem_cons.mp hx with e | hx
  · rw [e]
    exact hz
  · obtain ⟨c, hc, rfl⟩ := List.mem_map.mp hx
    obtain ⟨c1, c2⟩ := cut7 hz
    have hk : keptB (cutS z none (some 7) ++ letS c) = false := by
      cases q : keptB (cutS z none (some 7) ++ letS c) with
      | false => rfl
      | true => exact absurd (List.mem_append_right _ (kept_mem q)) hb
    have hl : lowB (letS c) = true := by
      have z2 := abc_low c hc
      unfold lowB letS
      simp [z2.1, z2.2]
    have hn : (cutS z none (some 7) ++ letS c).length = (cutS z none (some 7)).length + 1 := len_app _ _
    unfold wordB
    rw [hk, lowB_app c2 hl, decide_eq_true (by omega), decide_eq_true (by omega)]
    rfl
section
variable {P : Program} {w : World} {K : PySem.W.Frag} {mg : Str → Option Value} {base : Heap}
theorem scNames : FnScope ["state", "many", "found", "k", "word", "others", "letter", "other"] ["state", "many"] (defScope sNames) := ⟨rfl, rfl, rfl, by decide +kernel, rfl, by decide +kernel, by decide +kernel⟩
/-- a new list of so many unlike names -/
def spNames (K : PySem.W.Frag) : Sp := fun vs H Q _ => ∃ (s c l : Addr) (m : Int), vs = [.ref s, .int m] ∧ StOk K H s c l ∧ 0 ≤ m ∧ m ≤ 20 ∧
  ∀ (H' : Hp) (p : Addr) (zs : List Str), StOk K H' s c l → Keep s l H H' → H p = none → H' p = some (.lst (zs.map V.str)) → (zs.length : Int) = m → (∀ z ∈ zs, wordB z = true) → zs.Nodup → Q (.ref p) H'
theorem ok_names {f : Addr} {fd : FuncData} (F : Fun K "_law_names" "_law_names" sNames f fd) (W : Def P w K mg base CX0 "_law_word" 4 ["state"] (spWord K)) (mr : mg "range" = none) :
    FnOk P w K mg base CX0 5 f fd ["state", "many"] (spNames K) := by
  refine F.ok scNames (fun vs H Q E h => ?_) (fun cdv A outer s H vs Q E hr h => ?_)
  · obtain ⟨s, c, l, m, rfl, _⟩ := h
    rfl
  obtain ⟨s, c, l, m, rfl, S, hm0, hm1, q⟩ := h
  refine ⟨_, pss_cons (ps_set (i := 2) scNames.nd rfl (Or.inr rfl) (pe_lst pa_nil))
    (pss_cons (ps_for PassesOwn.never rfl (pi_range1 rfl mr (pa_cons (pv 1) pa_nil)) (pg_name (i := 3) scNames.nd rfl (Or.inl rfl))
      (pss_cons (ps_set (i := 4) scNames.nd rfl (Or.inr rfl) (pe_def W hr rfl (pa_cons (pv 0) pa_nil)))
      (pss_cons (ps_set (i := 5) scNames.nd rfl (Or.inl rfl) (pe_op op_cat (pe_lst (pa_cons (pv 4) pa_nil))
        (pe_lc (own := [("letter", 6)]) (g := gName 6) (tt := tYes) rfl scNames.nd (pi_str pe_str) (blkOk_by (own := [("letter", 6)]) (N := ["state", "many", "found", "k", "word", "others", "letter", "other"]) (sc := defScope sNames) (by decide +kernel))
          (fun _ _ _ _ _ => pg_name (i := 6) scNames.nd rfl (Or.inl rfl)) (fun _ _ _ _ _ => pts_nil)
          (fun _ _ _ _ _ => pe_op op_add_str (pe_slice sl_str (pv 4) po_none (po_some pe_int)) (pv 6)))))
      (pss_one (ps_expr (pe_bm PySem.F.plainAttrs_list PySem.F.slot_list_append PySem.F.type_list_append mt_append (pv 2) (pa_cons (pe_ix ix_list
        (pe_lc (own := [("other", 7)]) (g := gName 7) rfl scNames.nd (pi_list (pv 5)) (blkOk_by (own := [("other", 7)]) (N := ["state", "many", "found", "k", "word", "others", "letter", "other"]) (sc := defScope sNames) (by decide +kernel))
          (fun _ _ _ _ _ => pg_name (i := 7) scNames.nd rfl (Or.inl rfl)) (fun _ _ _ _ _ => pts_one (pt_cmpR (op_notInK (K := K) rfl) (pv 7) (pe_op op_cat (pv 2) (pe_lst (pa_cons pe_str (pa_cons pe_str (pa_cons pe_str pa_nil))))) (by rfl)))
          (fun _ _ _ _ _ => pv 7)) pe_int (fun _ _ => rfl)) pa_nil)))))))
    (pss_one (ps_ret (pv 2)))), ?_⟩
  refine ⟨Nat.zero_le _, fun p hp => ?_⟩
  have np := S.ns hp
  refine ⟨_, rfl, m, rfl, by omega, by omega, for_range (lo := 0) (n := m.toNat) (fun i σ H' => ∃ (v3 v4 v5 v6 v7 : Option V) (zs : List Str), σ = [some (.ref s), some (.int m), some (.ref p), v3, v4, v5, v6, v7] ∧ StOk K H' s c l ∧ Keep s l H H' ∧ H' p = some (.lst (zs.map V.str)) ∧ zs.length = i ∧ (∀ z ∈ zs, wordB z = true) ∧ zs.Nodup)
    ⟨none, none, none, none, none, [], rfl, S.new hp, Keep.new hp, upd_same, rfl, (fun z hz => by cases hz), List.nodup_nil⟩ ?_ ?_⟩
  · rintro i σ H1 hi ⟨v3, v4, v5, v6, v7, zs, rfl, S1, k1, e1, l1, g1, d1⟩
    have hi20 : i < 20 := by omega
    refine ⟨_, rfl, s, c, l, rfl, S1, fun H2 z S2 k2 hz => ?_⟩
    have e2 : H2 p = some (.lst (zs.map V.str)) := k2 _ _ np.1 np.2.1 e1
    have z8 : z.length ≤ 8 ∧ 1 ≤ z.length := by
      unfold wordB at hz
      simp only [Bool.and_eq_true, decide_eq_true_eq] at hz
      omega
    refine ⟨_, rfl, (by show 1 ≤ sizeLine; decide), fun a ha => ?_⟩
    have na := S2.ns ha
    have e3 : Same H2 (upd H2 a (.lst [V.str z])) := same_new ha _
    have ea : (upd H2 a (.lst [V.str z])) a = some (.lst [V.str z]) := upd_same
    generalize upd H2 a (.lst [V.str z]) = H3 at *
    refine ⟨_, rfl, fun D hD => ?_⟩
    refine lc_it (walk_str (z := abc)) (fun j H' => Same H3 H' ∧ H' D = some (.lst (((abc.cps.toList.take j).map fun c => cutS z none (some 7) ++ letS c).map V.str)))
      ⟨same_new hD _, upd_same⟩ (fun _ _ _ _ => True.intro) ?_ ?_
    · rintro j x Ha Hb hj ⟨p1, p2⟩ ⟨rfl, cc, hcc, rfl⟩
      have hj26 : j < 26 := by
        have : abc.cps.size = 26 := abc_len
        omega
      have hc7 := (cut7 hz).1
      refine ⟨rfl, ?_⟩
      show _
      refine ⟨_, rfl, _, rfl, z, rfl, Nat.le_of_lt (small1000 (by omega)), _, rfl, _, _, rfl, rfl, Nat.le_of_lt (small1000 (by
        show (cutS z none (some 7)).length + 1 ≤ 1000
        omega)), _, p2, by rw [List.length_map, List.length_map, List.length_take]; exact small1000 (by omega), fun b o q => ?_, ?_⟩
      · rw [upd_ne (ne_of_none q hD)]
        exact p1 b o q
      · rw [upd_same]
        have e5 : abc.cps.toList.take (j + 1) = abc.cps.toList.take j ++ [cc] := by
          have h5 : abc.cps.toList[j]? = some cc := by
            rw [← hcc]
            simp
          rw [List.take_add_one, h5]
          rfl
        rw [e5, List.map_append, List.map_append]
        rfl
    · rintro H4 ⟨p1, p2⟩
      have e6 : abc.cps.toList.take abc.cps.size = abc.cps.toList := by
        rw [List.take_of_length_le]
        simp
      rw [e6] at p2
      have eo : (V.str z :: (abc.cps.toList.map fun c => cutS z none (some 7) ++ letS c).map V.str) = (othersOf z).map V.str := rfl
      refine ⟨a, D, _, _, rfl, rfl, p1 _ _ ea, p2, by
        rw [List.length_map, List.length_map]
        have : abc.cps.toList.length = 26 := by decide +kernel
        exact Nat.le_of_lt (small1000 (by rw [List.length_singleton]; omega)), fun o ho => ?_⟩
      have e7 : (upd H4 o (.lst ([V.str z] ++ (abc.cps.toList.map fun c => cutS z none (some 7) ++ letS c).map V.str))) o = some (.lst ((othersOf z).map V.str)) := upd_same
      have e8 : Same H2 (upd H4 o (.lst ([V.str z] ++ (abc.cps.toList.map fun c => cutS z none (some 7) ++ letS c).map V.str))) := fun b u q => (same_new ho _) b u (p1 b u (e3 b u q))
      generalize upd H4 o (.lst ([V.str z] ++ (abc.cps.toList.map fun c => cutS z none (some 7) ++ letS c).map V.str)) = H5 at *
      have e9 : H5 p = some (.lst (zs.map V.str)) := e8 _ _ e2
      refine ⟨_, rfl, .inl ⟨rfl, _, SqL.of e9⟩, _, rfl, o, rfl, ⟨_, SqL.of e7⟩, fun D2 hD2 => ?_⟩
      have nD2 : D2 ≠ p := fun q => by
        rw [q, e9] at hD2
        cases hD2
      refine lc_list (xs := (othersOf z).map V.str) (fun j H' => Same H5 H' ∧ H' D2 = some (.lst ((((othersOf z).take j).filter fun x => !isBad zs x).map V.str)))
        ⟨same_new hD2 _, upd_same⟩ (fun j H' _ r => SqL.of (r.1 _ _ e7)) ?_ ?_
      · rintro j x Ha hj ⟨r1, r2⟩
        obtain ⟨y, hy, rfl⟩ : ∃ y, (othersOf z)[j]? = some y ∧ x = V.str y := by
          rw [List.getElem?_map] at hj
          cases e : (othersOf z)[j]? with
          | none =>
            rw [e] at hj
            cases hj
          | some y =>
            rw [e] at hj
            exact ⟨y, rfl, (Option.some.inj hj).symm⟩
        have l27 : (othersOf z).length = 27 := by
          unfold othersOf
          rw [List.length_cons, List.length_map]
          have : abc.cps.toList.length = 26 := by decide +kernel
          omega
        have hj27 : j < 27 := by
          have := (List.getElem?_eq_some_iff.mp hy).1
          omega
        have et : (othersOf z).take (j + 1) = (othersOf z).take j ++ [y] := by
          rw [List.take_add_one, hy]
          rfl
        refine ⟨rfl, _, rfl, _, rfl, (by show 3 ≤ sizeLine; decide), fun b hb => ?_⟩
        have f1 : Same Ha (upd Ha b (.lst [V.str ("some" : Str), V.str ("all" : Str), V.str ("in" : Str)])) := same_new hb _
        refine ⟨p, b, _, _, rfl, rfl, f1 _ _ (r1 _ _ e9), upd_same, by
          rw [List.length_map]
          exact Nat.le_of_lt (small1000 (by
            show zs.length + 3 ≤ 1000
            omega)), fun d hd => ?_⟩
        have f2 := f1.trans (same_new hd (.lst (zs.map V.str ++ [V.str ("some" : Str), V.str ("all" : Str), V.str ("in" : Str)])))
        refine ⟨d, _, rfl, .inl (SqL.of upd_same), rfl, ?_, _, rfl, ?_⟩
        · rw [List.all_append, List.all_map]
          have : (zs.all (flatV ∘ V.str)) = true := List.all_eq_true.mpr fun u _ => rfl
          rw [this]
          rfl
        have eb : (if true = true then !inV (V.str y) (zs.map V.str ++ [V.str ("some" : Str), V.str ("all" : Str), V.str ("in" : Str)]) else inV (V.str y) (zs.map V.str ++ [V.str ("some" : Str), V.str ("all" : Str), V.str ("in" : Str)])) = !isBad zs y := rfl
        rw [eb]
        cases hb' : isBad zs y with
        | true =>
          refine iteF ⟨fun b' u q => f2 _ _ (r1 _ _ q), ?_⟩
          rw [et, List.filter_append]
          have : ([y].filter fun x => !isBad zs x) = [] := by simp [hb']
          rw [this, List.append_nil]
          exact f2 _ _ r2
        | false =>
          refine iteT ⟨_, rfl, _, f2 _ _ r2, ?_, fun b' u q => ?_, ?_⟩
          · rw [List.length_map]
            have h1 := List.length_filter_le (fun x => !isBad zs x) ((othersOf z).take j)
            rw [List.length_take] at h1
            exact small1000 (by omega)
          · rw [upd_ne (ne_of_none q hD2)]
            exact f2 _ _ (r1 _ _ q)
          · rw [upd_same, et, List.filter_append, List.map_append]
            have : ([y].filter fun x => !isBad zs x) = [y] := by simp [hb']
            rw [this]
            rfl
      · rintro H6 ⟨r1, r2⟩
        rw [List.length_map, List.take_length] at r2
        obtain ⟨x0, hx0, hb0⟩ := others_good (found := zs) (by omega) z
        cases hf : (othersOf z).filter fun x => !isBad zs x with
        | nil =>
          have : x0 ∈ (othersOf z).filter fun x => !isBad zs x := List.mem_filter.mpr ⟨hx0, by rw [hb0]; rfl⟩
          rw [hf] at this
          cases this
        | cons y r =>
          rw [hf] at r2
          have hy : y ∈ (othersOf z).filter fun x => !isBad zs x := by
            rw [hf]
            exact List.mem_cons_self
          obtain ⟨hy1, hy2⟩ := List.mem_filter.mp hy
          have hy3 : isBad zs y = false := by
            cases q : isBad zs y with
            | false => rfl
            | true =>
              rw [q] at hy2
              cases hy2
          obtain ⟨o1, o2⟩ := others_ok hz hy1 hy3
          have S6 : StOk K H6 s c l := S2.keep fun b u q => r1 _ _ (e8 _ _ q)
          have k6 : Keep s l H H6 := (k1.trans k2).trans (Keep.of fun b u q => r1 _ _ (e8 _ _ q))
          refine ⟨D2, _, _, V.str y, rfl, rfl, SqL.of r2, atI_nat (j := 0) rfl, p, _, _, rfl, rfl, r1 _ _ e9, by rw [List.length_map]; exact small1000 (by omega), ?_⟩
          refine ⟨_, _, _, _, _, zs ++ [y], rfl, S6.mut np, k6.mut0 hp, ?_, by rw [List.length_append, l1]; rfl, fun u hu => ?_, ?_⟩
          · rw [upd_same, List.map_append]
            rfl
          · rcases List.mem_append.mp hu with hu | hu
            · exact g1 u hu
            · rw [List.mem_singleton.mp hu]
              exact o1
          · rw [List.nodup_append]
            exact ⟨d1, by simp, fun a ha b hb q => o2 (by rw [← List.mem_singleton.mp hb, ← q]; exact ha)⟩
  · rintro σ H' ⟨v3, v4, v5, v6, v7, zs, rfl, S1, k1, e1, l1, g1, d1⟩
    exact ⟨_, rfl, q H' p zs S1 k1 hp e1 (by omega) g1 d1⟩
end
end Kn
set_option Elab.async false
set_option linter.all false
set_option maxRecDepth 100000
set_option maxHeartbeats 4000000
namespace Kn
open PySem L2 TL
/-! ### things: what is handed in -/
/-- a text of the law's own kind -/
def okS (x : Str) : Bool := decide (x.length ≤ 1000) && PyData.strOk x
theorem okS_len {x : Str} (h : okS x = true) : x.length ≤ 1000 := by
  unfold okS at h
  rw [Bool.and_eq_true] at h
  exact of_decide_eq_true h.1
theorem okS_ok {x : Str} (h : okS x = true) : PyData.strOk x = true := by
  unfold okS at h
  rw [Bool.and_eq_true] at h
  exact h.2
theorem okS_of {x : Str} (h1 : x.length ≤ 1000) (h2 : PyData.strOk x = true) : okS x = true := by
  unfold okS
  rw [h2, decide_eq_true h1]
  rfl
mutual
/-- at v stands the thing d; of lists and dicts only the kind is told, and that they are not the draws' own -/
inductive Tg (K : PySem.W.Frag) (s l : Addr) (H : Hp) : V → PyData → Prop
  | non : Tg K s l H .non .none
  | bl (b : Bool) : Tg K s l H (.bl b) (.bool b)
  | int (i : Int) : Tg K s l H (.int i) (.int i)
  | str (x : Str) (h : okS x = true) : Tg K s l H (.str x) (.str x)
  | tup {a : Addr} {xs : List V} {ds : List PyData} : SqT K H a xs → TgAll K s l H xs ds → Tg K s l H (.ref a) (.tuple ds)
  | lst {a : Addr} {xs : List V} : a ≠ s → a ≠ l → H a = some (.lst xs) → Tg K s l H (.ref a) (.list [])
  | dct {a : Addr} : a ≠ s → a ≠ l → H a = some (.dK []) → Tg K s l H (.ref a) (.dict [])
inductive TgAll (K : PySem.W.Frag) (s l : Addr) (H : Hp) : List V → List PyData → Prop
  | nil : TgAll K s l H [] []
  | cons {v : V} {vs : List V} {d : PyData} {ds : List PyData} : Tg K s l H v d → TgAll K s l H vs ds → TgAll K s l H (v :: vs) (d :: ds)
end
section
variable {K : PySem.W.Frag} {s l : Addr} {H H' : Hp}
mutual
theorem Tg.mono (ht : ∀ a xs, SqT K H a xs → SqT K H' a xs) (hl : ∀ a xs, a ≠ s → a ≠ l → H a = some (.lst xs) → H' a = some (.lst xs)) (hd : ∀ a, a ≠ s → a ≠ l → H a = some (.dK []) → H' a = some (.dK [])) : ∀ {v : V} {d : PyData}, Tg K s l H v d → Tg K s l H' v d
  | _, _, .non => .non
  | _, _, .bl b => .bl b
  | _, _, .int i => .int i
  | _, _, .str x h => .str x h
  | _, _, .tup q r => .tup (ht _ _ q) (TgAll.mono ht hl hd r)
  | _, _, .lst a b q => .lst a b (hl _ _ a b q)
  | _, _, .dct a b q => .dct a b (hd _ a b q)
theorem TgAll.mono (ht : ∀ a xs, SqT K H a xs → SqT K H' a xs) (hl : ∀ a xs, a ≠ s → a ≠ l → H a = some (.lst xs) → H' a = some (.lst xs)) (hd : ∀ a, a ≠ s → a ≠ l → H a = some (.dK []) → H' a = some (.dK [])) : ∀ {vs : List V} {ds : List PyData}, TgAll K s l H vs ds → TgAll K s l H' vs ds
  | _, _, .nil => .nil
  | _, _, .cons q r => .cons (Tg.mono ht hl hd q) (TgAll.mono ht hl hd r)
end
theorem Same.seqT (e : Same H H') {a : Addr} {xs : List V} (h : SqT K H a xs) : SqT K H' a xs := by
  rcases h with (h | ⟨o, h⟩) | h
  · exact .inl (.inl (e _ _ h))
  · exact .inl (.inr ⟨o, e _ _ h⟩)
  · exact .inr h
theorem Same.ne (e : Same H H') {a : Addr} (h : H a ≠ none) : H' a ≠ none := by
  cases q : H a with
  | none => exact absurd q h
  | some o =>
    rw [e a o q]
    exact fun z => nomatch z
theorem Tg.same {v : V} {d : PyData} (h : Tg K s l H v d) (e : Same H H') : Tg K s l H' v d := h.mono (fun _ _ q => Same.seqT e q) (fun _ _ _ _ q => e _ _ q) (fun _ _ _ q => e _ _ q)
theorem TgAll.same {v : List V} {d : List PyData} (h : TgAll K s l H v d) (e : Same H H') : TgAll K s l H' v d := h.mono (fun _ _ q => Same.seqT e q) (fun _ _ _ _ q => e _ _ q) (fun _ _ _ q => e _ _ q)
theorem StOk.seqT {c a : Addr} {xs : List V} (S : StOk K H s c l) (e : Keep s l H H') (h : SqT K H a xs) : SqT K H' a xs := by
  obtain ⟨_, _, _, _, k, ns, ls, _, a2, _, _, a5, _, _⟩ := S
  rcases h with (h | ⟨o, h⟩) | h
  · exact .inl (.inl (e _ _ (ne_of h a2 (by intro z; cases z)) (ne_of h a5 (by intro z; cases z)) h))
  · exact .inl (.inr ⟨o, e _ _ (ne_of h a2 (by intro z; cases z)) (ne_of h a5 (by intro z; cases z)) h⟩)
  · exact .inr h
theorem Tg.keep {c : Addr} {v : V} {d : PyData} (h : Tg K s l H v d) (S : StOk K H s c l) (e : Keep s l H H') : Tg K s l H' v d := h.mono (fun _ _ q => S.seqT e q) (fun _ _ a b q => e _ _ a b q) (fun _ a b q => e _ _ a b q)
theorem TgAll.keep {c : Addr} {v : List V} {d : List PyData} (h : TgAll K s l H v d) (S : StOk K H s c l) (e : Keep s l H H') : TgAll K s l H' v d := h.mono (fun _ _ q => S.seqT e q) (fun _ _ a b q => e _ _ a b q) (fun _ a b q => e _ _ a b q)
/-- all of some values stand for things -/
def Ths (K : PySem.W.Frag) (s l : Addr) (H : Hp) (xs : List V) : Prop := ∀ x ∈ xs, ∃ d, Tg K s l H x d
theorem Ths.all : ∀ {xs : List V}, Ths K s l H xs → ∃ ds, TgAll K s l H xs ds
  | [], _ => ⟨[], .nil⟩
  | x :: r, h => by
    obtain ⟨d, hd⟩ := h x List.mem_cons_self
    obtain ⟨ds, hds⟩ := Ths.all (xs := r) fun y hy => h y (List.mem_cons_of_mem _ hy)
    exact ⟨d :: ds, .cons hd hds⟩
theorem Ths.nil : Ths K s l H [] := fun x hx => by cases hx
theorem Ths.cons {x : V} {xs : List V} {d : PyData} (h : Tg K s l H x d) (r : Ths K s l H xs) : Ths K s l H (x :: xs) := fun y hy => by
  rcases List.mem_cons.mp hy with e | hy
  · rw [e]
    exact ⟨d, h⟩
  · exact r y hy
theorem Ths.app {xs ys : List V} (a : Ths K s l H xs) (b : Ths K s l H ys) : Ths K s l H (xs ++ ys) := fun y hy => (List.mem_append.mp hy).elim (a y) (b y)
theorem Ths.same {xs : List V} (h : Ths K s l H xs) (e : Same H H') : Ths K s l H' xs := fun x hx => let ⟨d, q⟩ := h x hx; ⟨d, q.same e⟩
theorem Ths.keep {c : Addr} {xs : List V} (h : Ths K s l H xs) (S : StOk K H s c l) (e : Keep s l H H') : Ths K s l H' xs := fun x hx => let ⟨d, q⟩ := h x hx; ⟨d, q.keep S e⟩
/-- a new tuple of things -/
theorem Ths.tup {xs : List V} {p : Addr} (h : Ths K s l H xs) (hp : H p = none) : ∃ d, Tg K s l (upd H p (.tup xs)) (.ref p) d := by
  obtain ⟨ds, hds⟩ := h.all
  exact ⟨_, .tup (SqT.of upd_same) (hds.same (same_new hp _))⟩
theorem Ths.rep {xs : List V} (n : Nat) (h : Ths K s l H xs) : Ths K s l H (List.replicate n xs).flatten := fun x hx => by
  obtain ⟨y, hy, hx⟩ := List.mem_flatten.mp hx
  rw [(List.mem_replicate.mp hy).2] at hx
  exact h x hx
end
/-! ### things of tuples and texts alone -/
mutual
def pureD : PyData → Bool
  | .str _ => true
  | .tuple xs => pureAll xs
  | .none | .bool _ | .int _ | .list _ | .dict _ => false
def pureAll : List PyData → Bool
  | [] => true
  | x :: xs => pureD x && pureAll xs
end
section
variable {K : PySem.W.Frag} {s l s' l' : Addr} {H H' : Hp}
mutual
theorem Tg.pmono (ht : ∀ a xs, SqT K H a xs → SqT K H' a xs) : ∀ {v : V} {d : PyData}, pureD d = true → Tg K s l H v d → Tg K s' l' H' v d
  | .non, .none, h, .non => by simp [pureD] at h
  | .bl _, .bool _, h, .bl _ => by simp [pureD] at h
  | .int _, .int _, h, .int _ => by simp [pureD] at h
  | .str _, .str _, _, .str x hx => .str x hx
  | .ref _, .tuple _, h, .tup q r => .tup (ht _ _ q) (TgAll.pmono ht (by simpa [pureD] using h) r)
  | .ref _, .list _, h, .lst a b q => by simp [pureD] at h
  | .ref _, .dict _, h, .dct a b q => by simp [pureD] at h
theorem TgAll.pmono (ht : ∀ a xs, SqT K H a xs → SqT K H' a xs) : ∀ {vs : List V} {ds : List PyData}, pureAll ds = true → TgAll K s l H vs ds → TgAll K s' l' H' vs ds
  | _, _, _, .nil => .nil
  | _, _, h, .cons q r => .cons (Tg.pmono ht (by simp [pureAll] at h; exact h.1) q) (TgAll.pmono ht (by simp [pureAll] at h; exact h.2) r)
end
mutual
theorem Tg.dp : ∀ {v : V} {d : PyData}, pureD d = true → Tg K s l H v d → Dp K H v d
  | .non, .none, h, .non => by simp [pureD] at h
  | .bl _, .bool _, h, .bl _ => by simp [pureD] at h
  | .int _, .int _, h, .int _ => by simp [pureD] at h
  | .str _, .str _, _, .str x _ => .str x
  | .ref _, .tuple _, h, .tup q r => .tup q (TgAll.dp (by simpa [pureD] using h) r)
  | .ref _, .list _, h, .lst a b q => by simp [pureD] at h
  | .ref _, .dict _, h, .dct a b q => by simp [pureD] at h
theorem TgAll.dp : ∀ {vs : List V} {ds : List PyData}, pureAll ds = true → TgAll K s l H vs ds → DpAll K H vs ds
  | _, _, _, .nil => .nil
  | _, _, h, .cons q r => .cons (Tg.dp (by simp [pureAll] at h; exact h.1) q) (TgAll.dp (by simp [pureAll] at h; exact h.2) r)
end
theorem seqT_del {D a : Addr} {xs ys : List V} (hD : H D = some (.lst ys)) (h : SqT K H a xs) : SqT K (del H D) a xs := by
  rcases h with (h | ⟨o, h⟩) | h
  · exact .inl (.inl (by rw [del_ne (ne_of h hD (by intro z; cases z))]; exact h))
  · exact .inl (.inr ⟨o, by rw [del_ne (ne_of h hD (by intro z; cases z))]; exact h⟩)
  · exact .inr h
end
/-! ### the heap without a list that grows -/
theorem del_upd {H : Hp} {D : Addr} {o : HO} : del (upd H D o) D = del H D := by
  funext b
  by_cases h : b = D
  · rw [h, del_same, del_same]
  · rw [del_ne h, del_ne h, upd_ne h]
theorem del_sub {H : Hp} {D : Addr} : Same (del H D) H := fun b o e => by
  by_cases h : b = D
  · rw [h, del_same] at e
    cases e
  · rw [del_ne h] at e
    exact e
theorem del_mono {H H' : Hp} {D : Addr} (e : Same H H') : Same (del H D) (del H' D) := fun b o q => by
  by_cases h : b = D
  · rw [h, del_same] at q
    cases q
  · rw [del_ne h] at q ⊢
    exact e b o q
theorem del_keep {s l D : Addr} {H H' : Hp} (e : Keep s l H H') : Keep s l (del H D) (del H' D) := fun b o e1 e2 q => by
  by_cases h : b = D
  · rw [h, del_same] at q
    cases q
  · rw [del_ne h] at q ⊢
    exact e b o e1 e2 q
theorem del_from {H H' : Hp} {D : Addr} (n : H D = none) (e : Same H H') : Same H (del H' D) := fun b o q => by
  rw [del_ne (ne_of_none q n)]
  exact e b o q
theorem StOk.del {K : PySem.W.Frag} {H : Hp} {s c l p : Addr} (h : StOk K H s c l) (n : p ≠ s ∧ p ≠ l ∧ p ≠ c) : StOk K (L2.del H p) s c l := by
  obtain ⟨h1, h2, h3, h4, k, ns, ls, a1, a2, a3, a4, a5, a6, a7⟩ := h
  refine ⟨h1, h2, h3, by rw [del_ne n.2.2.symm]; exact h4, k, ns, ls, a1, by rw [del_ne n.1.symm]; exact a2, ?_, a4, by rw [del_ne n.2.1.symm]; exact a5, a6, a7⟩
  rcases a3 with (h | ⟨o, h⟩) | h
  · exact .inl (.inl (by rw [del_ne n.2.2.symm]; exact h))
  · exact .inl (.inr ⟨o, by rw [del_ne n.2.2.symm]; exact h⟩)
  · exact .inr h
/-! ### formulas -/
/-- a formula of names of ns: so many parts, so deep -/
inductive Fm (ns : List Str) : Nat → Nat → PyData → Prop
  | yes : Fm ns 1 0 (.tuple [.str "yes"])
  | no : Fm ns 1 0 (.tuple [.str "no"])
  | name {z : Str} : z ∈ ns → Fm ns 1 0 (.tuple [.str "name", .str z])
  | not {n h : Nat} {d : PyData} : Fm ns n h d → Fm ns (n + 1) (h + 1) (.tuple [.str "not", d])
  | bin {x : Str} {n m h g : Nat} {d e : PyData} : x ∈ ([("and" : Str), "or", "xor"] : List Str) → Fm ns n h d → Fm ns m g e → Fm ns (n + m + 1) (max h g + 1) (.tuple [.str x, d, e])
  | ite {n m k h g j : Nat} {d e f : PyData} : Fm ns n h d → Fm ns m g e → Fm ns k j f → Fm ns (n + m + k + 1) (max (max h g) j + 1) (.tuple [.str "if", d, e, f])
  | qu {x z : Str} {n h : Nat} {d : PyData} : x ∈ ([("some" : Str), "all"] : List Str) → z ∈ ns → Fm ns n h d → Fm ns (n + 1) (h + 1) (.tuple [.str x, .str z, d])
  | put {z : Str} {n m h g : Nat} {d e : PyData} : z ∈ ns → Fm ns n h d → Fm ns m g e → Fm ns (n + m + 1) (max h g + 1) (.tuple [.str "put", .str z, d, e])
theorem short2 : ∀ w ∈ ([("some" : Str), "all"] : List Str), okS w = true := by decide +kernel
theorem short3 : ∀ w ∈ ([("and" : Str), "or", "xor"] : List Str), okS w = true := by decide +kernel
/-- at x stands a formula of at most n parts, at most h deep -/
def FT (K : PySem.W.Frag) (s l : Addr) (H : Hp) (ns : List Str) (n h : Int) (x : V) : Prop := ∃ (d : PyData) (a b : Nat), Tg K s l H x d ∧ Fm ns a b d ∧ (a : Int) ≤ n ∧ (b : Int) ≤ h
section
variable {K : PySem.W.Frag} {s l : Addr} {H H' : Hp} {ns : List Str} {n h : Int} {x : V}
theorem FT.same (f : FT K s l H ns n h x) (e : Same H H') : FT K s l H' ns n h x := let ⟨d, a, b, q, r⟩ := f; ⟨d, a, b, q.same e, r⟩
theorem FT.keep {c : Addr} (f : FT K s l H ns n h x) (S : StOk K H s c l) (e : Keep s l H H') : FT K s l H' ns n h x := let ⟨d, a, b, q, r⟩ := f; ⟨d, a, b, q.keep S e, r⟩
theorem FT.mono {n' h' : Int} (f : FT K s l H ns n h x) (hn : n ≤ n') (hh : h ≤ h') : FT K s l H ns n' h' x := let ⟨d, a, b, q, r, u, v⟩ := f; ⟨d, a, b, q, r, Int.le_trans u hn, Int.le_trans v hh⟩
theorem Fm.pure {a b : Nat} {d : PyData} (f : Fm ns a b d) : pureD d = true := by
  induction f <;> simp_all [pureD, pureAll]
theorem FT.del {D : Addr} {ys : List V} (f : FT K s l H ns n h x) (hD : H D = some (.lst ys)) : FT K s l (L2.del H D) ns n h x :=
  let ⟨d, a, b, q, r, u, v⟩ := f; ⟨d, a, b, q.pmono (fun _ _ z => seqT_del hD z) r.pure, r, u, v⟩
theorem FT.ths (f : FT K s l H ns n h x) : ∃ d, Tg K s l H x d := let ⟨d, _, _, q, _⟩ := f; ⟨d, q⟩
theorem FT.yes {p : Addr} (hp : SqT K H p [.str ("yes" : Str)]) (hn : 1 ≤ n) (hh : 0 ≤ h) : FT K s l H ns n h (.ref p) := ⟨_, 1, 0, .tup hp (.cons (.str _ (by decide +kernel)) .nil), .yes, hn, hh⟩
theorem FT.no {p : Addr} (hp : SqT K H p [.str ("no" : Str)]) (hn : 1 ≤ n) (hh : 0 ≤ h) : FT K s l H ns n h (.ref p) := ⟨_, 1, 0, .tup hp (.cons (.str _ (by decide +kernel)) .nil), .no, hn, hh⟩
theorem FT.name {p : Addr} {z : Str} (hp : SqT K H p [.str ("name" : Str), .str z]) (hz : z ∈ ns) (hl : okS z = true) (hn : 1 ≤ n) (hh : 0 ≤ h) : FT K s l H ns n h (.ref p) := ⟨_, 1, 0, .tup hp (.cons (.str _ (by decide +kernel)) (.cons (.str _ hl) .nil)), .name hz, hn, hh⟩
theorem FT.not {p : Addr} (f : FT K s l H ns (n - 1) (h - 1) x) (hp : SqT K H p [.str ("not" : Str), x]) : FT K s l H ns n h (.ref p) := by
  obtain ⟨d, a, b, q, r, u, v⟩ := f
  exact ⟨_, a + 1, b + 1, .tup hp (.cons (.str _ (by decide +kernel)) (.cons q .nil)), .not r, by omega, by omega⟩
theorem FT.qu {p : Addr} {w z : Str} (hw : w ∈ ([("some" : Str), "all"] : List Str)) (hz : z ∈ ns) (hl : okS z = true) (f : FT K s l H ns (n - 1) (h - 1) x) (hp : SqT K H p [.str w, .str z, x]) : FT K s l H ns n h (.ref p) := by
  obtain ⟨d, a, b, q, r, u, v⟩ := f
  exact ⟨_, a + 1, b + 1, .tup hp (.cons (.str _ (short2 w hw)) (.cons (.str _ hl) (.cons q .nil))), .qu hw hz r, by omega, by omega⟩
theorem FT.put {p : Addr} {z : Str} {x2 : V} {n1 n2 : Int} (hz : z ∈ ns) (hl : okS z = true) (f : FT K s l H ns n1 (h - 1) x) (f2 : FT K s l H ns n2 (h - 1) x2) (hp : SqT K H p [.str ("put" : Str), .str z, x, x2]) (hn : n1 + n2 + 1 ≤ n) : FT K s l H ns n h (.ref p) := by
  obtain ⟨d, a, b, q, r, u, v⟩ := f
  obtain ⟨d2, a2, b2, q2, r2, u2, v2⟩ := f2
  exact ⟨_, a + a2 + 1, max b b2 + 1, .tup hp (.cons (.str _ (by decide +kernel)) (.cons (.str _ hl) (.cons q (.cons q2 .nil)))), .put hz r r2, by omega, by omega⟩
theorem FT.bin {p : Addr} {w : Str} {x2 : V} {n1 n2 : Int} (hw : w ∈ ([("and" : Str), "or", "xor"] : List Str)) (f : FT K s l H ns n1 (h - 1) x) (f2 : FT K s l H ns n2 (h - 1) x2) (hp : SqT K H p [.str w, x, x2]) (hn : n1 + n2 + 1 ≤ n) : FT K s l H ns n h (.ref p) := by
  obtain ⟨d, a, b, q, r, u, v⟩ := f
  obtain ⟨d2, a2, b2, q2, r2, u2, v2⟩ := f2
  exact ⟨_, a + a2 + 1, max b b2 + 1, .tup hp (.cons (.str _ (short3 w hw)) (.cons q (.cons q2 .nil))), .bin hw r r2, by omega, by omega⟩
theorem FT.ite {p : Addr} {x2 x3 : V} {n1 n2 n3 : Int} (f : FT K s l H ns n1 (h - 1) x) (f2 : FT K s l H ns n2 (h - 1) x2) (f3 : FT K s l H ns n3 (h - 1) x3) (hp : SqT K H p [.str ("if" : Str), x, x2, x3]) (hn : n1 + n2 + n3 + 1 ≤ n) : FT K s l H ns n h (.ref p) := by
  obtain ⟨d, a, b, q, r, u, v⟩ := f
  obtain ⟨d2, a2, b2, q2, r2, u2, v2⟩ := f2
  obtain ⟨d3, a3, b3, q3, r3, u3, v3⟩ := f3
  exact ⟨_, a + a2 + a3 + 1, max (max b b2) b3 + 1, .tup hp (.cons (.str _ (by decide +kernel)) (.cons q (.cons q2 (.cons q3 .nil)))), .ite r r2 r3, by omega, by omega⟩
end
section
variable {P : Program} {w : World} {K : PySem.W.Frag} {mg : Str → Option Value} {base : Heap}
theorem scRooms : FnScope ["state", "room", "many", "found", "left", "k", "extra"] ["state", "room", "many"] (defScope sRooms) := ⟨rfl, rfl, rfl, by decide +kernel, rfl, by decide +kernel, by decide +kernel⟩
def spRooms (K : PySem.W.Frag) : Sp := fun vs H Q _ => ∃ (s c l : Addr) (r m : Int), vs = [.ref s, .int r, .int m] ∧ StOk K H s c l ∧ 0 ≤ m ∧ m ≤ 100 ∧ m ≤ r ∧ r ≤ 1000 ∧
  ∀ (H' : Hp) (p : Addr) (ns : List Int), StOk K H' s c l → Keep s l H H' → H p = none → H' p = some (.lst (ns.map V.int)) → (ns.length : Int) = m → (∀ n ∈ ns, 1 ≤ n ∧ n ≤ 1001) → ns.sum ≤ r → Q (.ref p) H'
theorem ok_rooms {f : Addr} {fd : FuncData} (F : Fun K "_law_rooms" "_law_rooms" sRooms f fd) (M : Def P w K mg base CX0 "_law_draw" 2 ["state", "many"] (spDraw K)) (mr : mg "range" = none) : FnOk P w K mg base CX0 3 f fd ["state", "room", "many"] (spRooms K) := by
  refine F.ok scRooms (fun vs H Q E h => ?_) (fun cdv A outer s H vs Q E hr h => ?_)
  · obtain ⟨s, c, l, r, m, rfl, _⟩ := h
    rfl
  obtain ⟨s, c, l, r, m, rfl, S, m0, m1, m2, r1, q⟩ := h
  refine ⟨_, pss_cons (ps_par (i := 3) (j := 4) (by rfl) scRooms.nd rfl rfl (by decide) rfl rfl (pa_cons (pe_lst pa_nil) (pa_cons (pe_op op_sub (pv 1) (pv 2)) pa_nil)) (by rfl))
    (pss_cons (ps_for PassesOwn.never rfl (pi_range1 rfl mr (pa_cons (pv 2) pa_nil)) (pg_name (i := 5) scRooms.nd rfl (Or.inl rfl))
      (pss_cons (ps_set (i := 6) scRooms.nd rfl (Or.inl rfl) (pe_def M hr rfl (pa_cons (pv 0) (pa_cons (pe_op op_add (pv 4) pe_int) pa_nil))))
      (pss_cons (ps_expr (pe_bm PySem.F.plainAttrs_list PySem.F.slot_list_append PySem.F.type_list_append mt_append (pv 3) (pa_cons (pe_op op_add pe_int (pv 6)) pa_nil)))
      (pss_one (ps_set (i := 4) scRooms.nd rfl (Or.inl rfl) (pe_op op_sub (pv 4) (pv 6)))))))
    (pss_one (ps_ret (pv 3)))), ?_⟩
  refine ⟨Nat.zero_le _, fun p hp => ?_⟩
  have np := S.ns hp
  refine ⟨_, rfl, _, rfl, _, _, rfl, rfl, _, _, rfl, ?_⟩
  refine ⟨_, rfl, m, rfl, by omega, by omega, for_range (lo := 0) (n := m.toNat) (fun i σ H' => ∃ (v5 v6 : Option V) (ns : List Int) (lf : Int), σ = [some (.ref s), some (.int r), some (.int m), some (.ref p), some (.int lf), v5, v6] ∧ StOk K H' s c l ∧ Keep s l H H' ∧ H' p = some (.lst (ns.map V.int)) ∧ ns.length = i ∧ 0 ≤ lf ∧ lf ≤ 1000 ∧ (∀ n ∈ ns, 1 ≤ n ∧ n ≤ 1001) ∧ ns.sum + lf + m = r + (ns.length : Int))
    ⟨none, none, [], r - m, rfl, S.new hp, Keep.new hp, upd_same, rfl, by omega, by omega, (fun z hz => by cases hz), by simp⟩ ?_ ?_⟩
  · rintro i σ H1 hi ⟨v5, v6, ns, lf, rfl, S1, k1, e1, l1, f0, f1, g1, j1⟩
    refine ⟨_, rfl, _, rfl, _, _, rfl, rfl, s, c, l, lf + 1, rfl, S1, by omega, by omega, fun H2 n S2 k2 n0 n1 => ?_⟩
    have e2 : H2 p = some (.lst (ns.map V.int)) := k2 _ _ np.1 np.2.1 e1
    refine ⟨_, rfl, .inl ⟨rfl, _, SqL.of e2⟩, _, rfl, _, _, rfl, rfl, p, _, _, rfl, rfl, e2, by rw [List.length_map]; exact small1000 (by omega), ?_⟩
    refine ⟨_, rfl, _, rfl, _, _, rfl, rfl, ?_⟩
    refine ⟨_, _, ns ++ [1 + n], lf - n, rfl, S2.mut np, (k1.trans k2).mut0 hp, ?_, by rw [List.length_append, l1]; rfl, by omega, by omega, fun u hu => ?_, ?_⟩
    · rw [upd_same, List.map_append]
      rfl
    · rcases List.mem_append.mp hu with hu | hu
      · exact g1 u hu
      · rw [List.mem_singleton.mp hu]
        omega
    · rw [List.sum_append, List.length_append, List.sum_singleton, List.length_singleton]
      omega
  · rintro σ H' ⟨v5, v6, ns, lf, rfl, S1, k1, e1, l1, f0, f1, g1, j1⟩
    exact ⟨_, rfl, q H' p ns S1 k1 hp e1 (by omega) g1 (by omega)⟩
end
end Kn
set_option Elab.async false
set_option linter.all false
set_option maxRecDepth 100000
set_option maxHeartbeats 4000000
set_option pp.maxSteps 1200
namespace Kn
open PySem L2 TL
/-! ### lists of texts, none or some -/
theorem dpStrs {K : PySem.W.Frag} {H : Hp} : ∀ ns : List Str, DpAll K H (ns.map V.str) (ns.map PyData.str)
  | [] => .nil
  | n :: r => .cons (.str n) (dpStrs r)
theorem strOk_low {z : Str} (h : lowB z = true) : PyData.strOk z = true := by
  unfold lowB at h
  unfold PyData.strOk
  rw [← Array.all_toList, List.all_eq_true]
  intro c hc
  have q := List.all_eq_true.mp h c hc
  simp only [Bool.and_eq_true, decide_eq_true_eq] at q
  exact decide_eq_true (by omega)
theorem word_low {z : Str} (h : wordB z = true) : lowB z = true := by
  unfold wordB at h
  simp only [Bool.and_eq_true] at h
  exact h.1.2
theorem word_len {z : Str} (h : wordB z = true) : 1 ≤ z.length ∧ z.length ≤ 8 := by
  unfold wordB at h
  simp only [Bool.and_eq_true, decide_eq_true_eq] at h
  exact h.1.1
theorem okS_word {z : Str} (h : wordB z = true) : okS z = true := okS_of (Nat.le_trans (word_len h).2 (by decide)) (strOk_low (word_low h))
theorem layStrs : ∀ ns : List Str, (∀ z ∈ ns, PyData.strOk z = true) → PyData.canLayAll0 (ns.map PyData.str) = true
  | [], _ => by simp [PyData.canLayAll0]
  | n :: r, h => by
    have h1 := h n List.mem_cons_self
    have h2 := layStrs r fun z hz => h z (List.mem_cons_of_mem _ hz)
    simp [PyData.canLayAll0, PyData.canLay0, h1, h2]
theorem depStrs : ∀ ns : List Str, PyData.depthAll (ns.map PyData.str) ≤ 1
  | [] => by simp [PyData.depthAll]
  | n :: r => by
    have h := depStrs r
    simp only [List.map_cons, PyData.depthAll, PyData.depth]
    omega
theorem shStrs {ns : List Str} (h : ∀ z ∈ ns, PyData.strOk z = true) : SeqAt.shaped (.list (ns.map PyData.str)) = true := by
  have h1 := depStrs ns
  have h2 := layStrs ns h
  have h3 : PyData.depth (.list (ns.map PyData.str)) ≤ 64 := by
    simp only [PyData.depth]
    omega
  show (PyData.canLay0 (.list (ns.map PyData.str)) && decide (PyData.depth (.list (ns.map PyData.str)) ≤ 64)) = true
  rw [decide_eq_true h3, Bool.and_true]
  simp only [PyData.canLay0]
  exact h2
theorem eqvStrs0 (ns : List Str) : PyData.eqv (.list (ns.map PyData.str)) (.list []) = ns.isEmpty := by
  cases ns <;> simp [PyData.eqv, PyData.eqvAll]
section
variable {P : Program} {w : World} {K : PySem.W.Frag} {mg : Str → Option Value} {base : Heap}
abbrev nMade : List Str := ["state", "names", "room", "deep", "way", "some", "word", "rooms", "parts", "name", "one"]
theorem scMade : FnScope nMade ["state", "names", "room", "deep"] (defScope sMade) := ⟨rfl, rfl, rfl, by decide +kernel, rfl, by decide +kernel, by decide +kernel⟩
/-- a formula of these names, of at most so many parts, at most so deep (below n) -/
def spMade (K : PySem.W.Frag) (n : Nat) : Sp := fun vs H Q _ => ∃ (s c l a : Addr) (ns : List Str) (r d : Int), vs = [.ref s, .ref a, .int r, .int d] ∧ StOk K H s c l ∧ a ≠ s ∧ a ≠ l ∧ SqL K H a (ns.map V.str) ∧ ns.length ≤ 20 ∧ (∀ z ∈ ns, wordB z = true) ∧ 1 ≤ r ∧ r ≤ 1000 ∧ 0 ≤ d ∧ d < n ∧
  ∀ (H' : Hp) (x : V), StOk K H' s c l → Keep s l H H' → FT K s l H' ns r d x → Q x H'
theorem step_made {n : Nat} {f : Addr} {fd : FuncData} (F : Fun K "_law_made" "_law_made" sMade f fd) (bG : Binds K fd ["state", "names", "room", "deep"] []) (mG : mg "_law_made" = some (.ref f))
    (M : Def P w K mg base CX0 "_law_draw" 2 ["state", "many"] (spDraw K)) (O : Def P w K mg base CX0 "_law_one" 3 ["state", "things"] (spOne K)) (R : Def P w K mg base CX0 "_law_rooms" 3 ["state", "room", "many"] (spRooms K))
    (G : FnOk P w K mg base CX0 (n + 3) f fd ["state", "names", "room", "deep"] (spMade K n)) : FnOk P w K mg base CX0 (n + 4) f fd ["state", "names", "room", "deep"] (spMade K (n + 1)) := by
  refine F.ok scMade (fun vs H Q E h => ?_) (fun cdv A outer s H vs Q E hr h => ?_)
  · obtain ⟨s, c, l, a, ns, r, d, rfl, _⟩ := h
    rfl
  obtain ⟨s, c, l, a, ns, r, d, rfl, S, as, al, ha, hns, hw, r0, r1, d0, d1, q⟩ := h
  have hr2 : Room 2 _ := hr.mono (by omega)
  have hr3 : Room 3 _ := hr.mono (by omega)
  refine ⟨_, pss_cons (ps_set (i := 4) scMade.nd rfl (Or.inl rfl) (pe_def M hr2 rfl (pa_cons (pv 0) (pa_cons pe_int pa_nil))))
    (pss_cons (ps_if (PW.pt (pw_or (pt_cmpR op_lt (pv 2) pe_int (nomark _)) (pw_or (pt_cmpR op_eq (pv 3) pe_int (nomark _)) (pw_or1 (pt_cmpR op_eq (pv 4) pe_int (nomark _))))))
      (pss_cons (ps_set (i := 5) scMade.nd rfl (Or.inl rfl) (pe_op op_cat (pe_lst (pa_cons (pe_tup (pa_cons pe_str pa_nil)) (pa_cons (pe_tup (pa_cons pe_str pa_nil)) pa_nil)))
        (pe_op op_rep (pe_lc (own := [("name", 9)]) (g := gName 9) (tt := tYes) rfl scMade.nd (pi_list (pv 1)) (blkOk_by (own := [("name", 9)]) (N := nMade) (sc := defScope sMade) (by decide +kernel))
          (fun _ _ _ _ _ => pg_name (i := 9) scMade.nd rfl (Or.inl rfl)) (fun _ _ _ _ _ => pts_nil) (fun _ _ _ _ _ => pe_tup (pa_cons pe_str (pa_cons (pv 9) pa_nil)))) pe_int)))
      (pss_one (ps_ret (pe_def O hr3 rfl (pa_cons (pv 0) (pa_cons (pv 5) pa_nil)))))) pss_nil)
    (pss_cons (ps_if (pt_cmpR op_in_seq (pv 4) (pe_tup (pa_cons pe_int (pa_cons pe_int pa_nil))) (by rfl))
      (pss_one (ps_ret (pe_tup (pa_cons pe_str (pa_cons (pe_call G hr rfl mG F.kp bG .nil pass0 (pa_cons (pv 0) (pa_cons (pv 1) (pa_cons (pe_op op_sub (pv 2) pe_int) (pa_cons (pe_op op_sub (pv 3) pe_int) pa_nil))))) pa_nil))))) pss_nil)
    (Evl.pss_cut (ps_if (PW.pt (pw_and (pt_cmpR op_in_seq (pv 4) (pe_tup (pa_cons pe_int (pa_cons pe_int pa_nil))) (by rfl)) (pw_and1 (pt_cmpR (op_neD hr.units) (pv 1) (pe_lst pa_nil) (nomark _)))))
      (pss_cons (ps_set (i := 6) scMade.nd rfl (Or.inl rfl) (pe_def O hr3 rfl (pa_cons (pv 0) (pa_cons (pe_lst (pa_cons pe_str (pa_cons pe_str pa_nil))) pa_nil))))
      (pss_one (ps_ret (pe_tup (pa_cons (pv 6) (pa_cons (pe_def O hr3 rfl (pa_cons (pv 0) (pa_cons (pv 1) pa_nil))) (pa_cons (pe_call G hr rfl mG F.kp bG .nil pass0 (pa_cons (pv 0) (pa_cons (pv 1) (pa_cons (pe_op op_sub (pv 2) pe_int) (pa_cons (pe_op op_sub (pv 3) pe_int) pa_nil))))) pa_nil))))))) pss_nil)
    (pss_cons (ps_set (i := 7) scMade.nd rfl (Or.inl rfl) (pe_def R hr3 rfl (pa_cons (pv 0) (pa_cons (pe_op op_sub (pv 2) pe_int) (pa_cons pe_int pa_nil)))))
    (pss_cons (ps_setLc (i := 8) (own := [("one", 10)]) (g := gName 10) (tt := tYes) rfl scMade.nd rfl rfl (sw_true rfl rfl rfl (by decide +kernel)) (pi_list (pv 7)) (blkOk_by (own := [("one", 10)]) (N := nMade) (sc := defScope sMade) (by decide +kernel))
      (fun _ _ _ _ _ => pg_name (i := 10) scMade.nd rfl (Or.inl rfl)) (fun _ _ _ _ _ => pts_nil)
      (fun _ _ _ _ _ => pe_call G hr rfl mG F.kp bG .nil pass0 (pa_cons (pv 0) (pa_cons (pv 1) (pa_cons (pv 10) (pa_cons (pe_op op_sub (pv 3) pe_int) pa_nil))))))
    (Evl.pss_cut (ps_if (PW.pt (pw_and (pt_cmpR op_eq (pv 4) pe_int (nomark _)) (pw_and1 (pt_cmpR (op_neD hr.units) (pv 1) (pe_lst pa_nil) (nomark _)))))
      (pss_one (ps_ret (pe_tup (pa_cons pe_str (pa_cons (pe_def O hr3 rfl (pa_cons (pv 0) (pa_cons (pv 1) pa_nil))) (pa_cons (pe_ix ix_list (pv 8) pe_int (fun _ _ => rfl)) (pa_cons (pe_ix ix_list (pv 8) pe_int (fun _ _ => rfl)) pa_nil))))))) pss_nil)
    (pss_cons (ps_if (pt_cmpR op_in_seq (pv 4) (pe_tup (pa_cons pe_int (pa_cons pe_int pa_nil))) (by rfl))
      (pss_one (ps_ret (pe_tup (pa_cons pe_str (pa_cons (pe_ix ix_list (pv 8) pe_int (fun _ _ => rfl)) (pa_cons (pe_ix ix_list (pv 8) pe_int (fun _ _ => rfl)) (pa_cons (pe_ix ix_list (pv 8) pe_int (fun _ _ => rfl)) pa_nil))))))) pss_nil)
    (pss_one (ps_ret (pe_tup (pa_cons (pe_def O hr3 rfl (pa_cons (pv 0) (pa_cons (pe_lst (pa_cons pe_str (pa_cons pe_str (pa_cons pe_str pa_nil)))) pa_nil))) (pa_cons (pe_ix ix_list (pv 8) pe_int (fun _ _ => rfl)) (pa_cons (pe_ix ix_list (pv 8) pe_int (fun _ _ => rfl)) pa_nil))))))))))))), ?_⟩
  refine ⟨_, rfl, s, c, l, 12, rfl, S, by decide, by decide, fun H1 way S1 k1 w0 w1 => ?_⟩
  have ha1 : SqL K H1 a (ns.map V.str) := k1.seqL as al ha
  refine ⟨_, rfl, _, _, rfl, rfl, _, rfl, ?_⟩
  refine ite2 (fun _ => ?b1) (fun c1 => ⟨_, rfl, rfl, _, rfl, ite2 (fun _ => ?b2) (fun c2 => ⟨_, rfl, rfl, _, rfl, ite2 (fun _ => ?b3) (fun c3 => ?rest)⟩)⟩)
  case rest =>
    have hr4 : 4 ≤ r := by
      have := of_decide_eq_false (Bool.eq_false_iff.mpr c1)
      omega
    have hd : 1 ≤ d := by
      have h0 : ¬ (V.int d = V.int 0) := of_decide_eq_false (Bool.eq_false_iff.mpr c2)
      have : d ≠ 0 := fun z => h0 (by rw [z])
      omega
    have rec_ : ∀ (H2 : Hp) (r' : Int) (Q2 : VK), StOk K H2 s c l → SqL K H2 a (ns.map V.str) → 1 ≤ r' → r' ≤ 1000 → (∀ (H3 : Hp) (x : V), StOk K H3 s c l → Keep s l H2 H3 → FT K s l H3 ns r' (d - 1) x → Q2 x H3) →
        spMade K n ([V.ref s, V.ref a, V.int r', V.int (d - 1)] ++ []) H2 Q2 E0 := fun H2 r' Q2 S2 h2 a1 a2 k => ⟨s, c, l, a, ns, r', d - 1, rfl, S2, as, al, h2, hns, hw, a1, a2, by omega, by omega, k⟩
    refine ⟨_, rfl, (by show 2 ≤ sizeLine; decide), fun t1 ht1 => ⟨t1, _, rfl, .inr (SqT.of upd_same), rfl, rfl, _, rfl, ?_⟩⟩
    have k2 : Keep s l H (upd H1 t1 (.tup [V.int 1, V.int 2])) := k1.trans (Keep.new ht1)
    have S2 := S1.new (o := .tup [V.int 1, V.int 2]) ht1
    have ha2 : SqL K (upd H1 t1 (.tup [V.int 1, V.int 2])) a (ns.map V.str) := k2.seqL as al ha
    generalize upd H1 t1 (.tup [V.int 1, V.int 2]) = H2 at *
    refine ite2 (fun _ => ?_) (fun _ => ?_)
    · refine ⟨_, rfl, _, rfl, _, rfl, _, _, rfl, rfl, _, rfl, _, _, rfl, rfl, rec_ H2 (r - 1) _ S2 ha2 (by omega) (by omega) fun H3 x S3 k3 ft => ⟨(by show 2 ≤ sizeLine; decide), fun p hp => ?_⟩⟩
      exact q _ _ (S3.new hp) (k2.trans (k3.trans (Keep.new hp))) (FT.not (ft.same (same_new hp _)) (SqT.of upd_same))
    refine ⟨fun σ' H' => σ' = [some (.ref s), some (.ref a), some (.int r), some (.int d), some (.int way), none, none, none, none, none, none] ∧ StOk K H' s c l ∧ Keep s l H H', ?_, ?_⟩
    · refine ⟨_, rfl, (by show 2 ≤ sizeLine; decide), fun t2 ht2 => ⟨t2, _, rfl, .inr (SqT.of upd_same), rfl, rfl, _, rfl, ?_⟩⟩
      have k3 : Keep s l H (upd H2 t2 (.tup [V.int 3, V.int 4])) := k2.trans (Keep.new ht2)
      have S3 := S2.new (o := .tup [V.int 3, V.int 4]) ht2
      generalize upd H2 t2 (.tup [V.int 3, V.int 4]) = H3 at *
      refine ite2 (fun _ => ?_) (fun _ => ⟨rfl, S3, k3⟩)
      refine ⟨_, rfl, Nat.zero_le _, fun t3 ht3 => ⟨.list (ns.map PyData.str), .list [], .lst ((k3.trans (Keep.new ht3)).seqL as al ha) (dpStrs ns), .lst (SqL.of upd_same) .nil, shStrs fun z hz => strOk_low (word_low (hw z hz)), rfl, _, rfl, ?_⟩⟩
      rw [eqvStrs0]
      have k4 : Keep s l H (upd H3 t3 (.lst [])) := k3.trans (Keep.new ht3)
      have S4 := S3.new (o := .lst []) ht3
      have ha4 : SqL K (upd H3 t3 (.lst [])) a (ns.map V.str) := k4.seqL as al ha
      generalize upd H3 t3 (.lst []) = H4 at *
      cases hne : ns.isEmpty with
      | true => exact iteF ⟨rfl, S4, k4⟩
      | false =>
        have hpos : 0 < (ns.map V.str).length := by
          rw [List.length_map]
          cases ns with
          | nil => cases hne
          | cons a b => exact Nat.succ_pos _
        refine iteT ⟨_, rfl, (by show 2 ≤ sizeLine; decide), fun pw hpw => ?_⟩
        have npw := S4.ns hpw
        refine ⟨s, c, l, _, rfl, S4.new hpw, .inl ⟨pw, _, rfl, npw.1, npw.2.1, SqL.of upd_same, (by show 0 < 2; decide), (by show 2 ≤ 100000; decide), fun H5 x S5 k5 hx => ?_⟩⟩
        have k6 : Keep s l H H5 := k4.trans ((Keep.new hpw).trans k5)
        have hx' : x ∈ (([("some" : Str), "all"] : List Str).map V.str) := hx
        obtain ⟨wd, hwd, rfl⟩ := List.mem_map.mp hx'
        refine ⟨_, rfl, _, rfl, _, rfl, s, c, l, _, rfl, S5, .inl ⟨a, _, rfl, as, al, k6.seqL as al ha, hpos, by rw [List.length_map]; omega, fun H6 y S6 k7 hy => ?_⟩⟩
        obtain ⟨z, hz, rfl⟩ := List.mem_map.mp hy
        have k8 := k6.trans k7
        refine ⟨_, rfl, _, rfl, _, rfl, _, _, rfl, rfl, _, rfl, _, _, rfl, rfl, rec_ H6 (r - 1) _ S6 (k8.seqL as al ha) (by omega) (by omega) fun H7 x S7 k9 ft => ⟨(by show 3 ≤ sizeLine; decide), fun p hp => ?_⟩⟩
        exact q _ _ (S7.new hp) (k8.trans (k9.trans (Keep.new hp))) (FT.qu hwd hz (okS_word (hw _ hz)) (ft.same (same_new hp _)) (SqT.of upd_same))
    rintro σ H3 ⟨rfl, S3, k3⟩
    refine ⟨_, rfl, _, rfl, _, _, rfl, rfl, s, c, l, r - 1, 3, rfl, S3, by omega, by omega, by omega, by omega, fun H4 pr rs S4 k4 hpr e4 l4 b4 s4 => ?_⟩
    have npr := S3.ns hpr
    obtain ⟨x1, x2, x3, rfl⟩ : ∃ x1 x2 x3, rs = [x1, x2, x3] := by
      match rs, l4 with
      | [x1, x2, x3], _ => exact ⟨x1, x2, x3, rfl⟩
      | [], h => cases h
      | [_], h => cases h
      | [_, _], h => cases h
      | _ :: _ :: _ :: _ :: _, h =>
        simp only [List.length_cons] at h
        omega
    have s5 : x1 + x2 + x3 ≤ r - 1 := by
      simp only [List.sum_cons, List.sum_nil] at s4
      omega
    have k5 := k3.trans k4
    refine ⟨_, rfl, pr, rfl, ⟨_, SqL.of e4⟩, fun D hD => ?_⟩
    have nD := S4.ns hD
    have nDr : pr ≠ D := fun z => by
      rw [← z, e4] at hD
      cases hD
    refine lc_list (xs := [x1, x2, x3].map V.int) (fun j H' => StOk K H' s c l ∧ Keep s l H4 H' ∧ ∃ xs, H' D = some (.lst xs) ∧ xs.length = j ∧ ∀ (i : Nat) (x : V) (u : Int), xs[i]? = some x → [x1, x2, x3][i]? = some u → FT K s l (del H' D) ns u (d - 1) x)
      ⟨S4.new hD, Keep.new hD, [], upd_same, rfl, fun i x u e => by simp at e⟩ (fun j H' _ t => SqL.of (t.2.1 _ _ npr.1 npr.2.1 e4)) ?_ ?_
    · rintro j x Ha hj ⟨Sa, ka, xs, g2, g3, g4⟩
      obtain ⟨y, hy, rfl⟩ : ∃ y, [x1, x2, x3][j]? = some y ∧ x = V.int y := by
        rw [List.getElem?_map] at hj
        cases e : [x1, x2, x3][j]? with
        | none =>
          rw [e] at hj
          cases hj
        | some y =>
          rw [e] at hj
          exact ⟨y, rfl, (Option.some.inj hj).symm⟩
      have hj3 : j < 3 := (List.getElem?_eq_some_iff.mp hy).1
      have by_ := b4 y (List.mem_of_getElem? hy)
      have yr : y ≤ 1000 := by
        have b1 := b4 x1 (by simp)
        have b2 := b4 x2 (by simp)
        have b3 := b4 x3 (by simp)
        have : y = x1 ∨ y = x2 ∨ y = x3 := by simpa using List.mem_of_getElem? hy
        omega
      refine ⟨rfl, ?_⟩
      show _
      refine ⟨_, rfl, _, rfl, _, rfl, _, rfl, _, _, rfl, rfl, rec_ Ha y _ Sa ((k5.trans ka).seqL as al ha) by_.1 yr fun Hb x Sb kb ft => ?_⟩
      refine ⟨xs, kb _ _ nD.1 nD.2.1 g2, by rw [g3]; exact small1000 (by omega), Sb.mut nD, (ka.trans kb).mut0 hD, xs ++ [x], upd_same, by rw [List.length_append, g3]; rfl, fun i x' u e1 e2 => ?_⟩
      rw [del_upd]
      by_cases hi : i < xs.length
      · rw [List.getElem?_append_left hi] at e1
        exact (g4 i x' u e1 e2).keep (Sa.del nD) (del_keep kb)
      · rw [List.getElem?_append_right (by omega)] at e1
        have hi0 : i - xs.length = 0 := by
          have := (List.getElem?_eq_some_iff.mp e1).1
          simpa using this
        rw [hi0] at e1
        have ex : x = x' := by simpa using e1
        have ei : i = j := by omega
        subst ex
        rw [ei, hy] at e2
        cases e2
        exact ft.del (kb _ _ nD.1 nD.2.1 g2)
    · rintro H5 ⟨S5, k6, xs, g2, g3, g4⟩
      obtain ⟨y1, y2, y3, rfl⟩ : ∃ y1 y2 y3, xs = [y1, y2, y3] := by
        match xs, g3 with
        | [y1, y2, y3], _ => exact ⟨y1, y2, y3, rfl⟩
        | [], h => cases h
        | [_], h => cases h
        | [_, _], h => cases h
        | _ :: _ :: _ :: _ :: _, h => simp at h
      have f1 : FT K s l H5 ns x1 (d - 1) y1 := (g4 0 y1 x1 rfl rfl).same del_sub
      have f2 : FT K s l H5 ns x2 (d - 1) y2 := (g4 1 y2 x2 rfl rfl).same del_sub
      have f3 : FT K s l H5 ns x3 (d - 1) y3 := (g4 2 y3 x3 rfl rfl).same del_sub
      have b1 := b4 x1 (by simp)
      have b2 := b4 x2 (by simp)
      have b3 := b4 x3 (by simp)
      have k7 := k5.trans k6
      clear g4 g3
      refine ⟨fun σ' H' => σ' = [some (.ref s), some (.ref a), some (.int r), some (.int d), some (.int way), none, none, some (.ref pr), some (.ref D), none, none] ∧ StOk K H' s c l ∧ Keep s l H5 H', ?_, ?_⟩
      · refine ⟨_, rfl, rfl, _, rfl, ?_⟩
        refine ite2 (fun _ => ?_) (fun _ => ⟨rfl, S5, Keep.refl⟩)
        refine ⟨_, rfl, Nat.zero_le _, fun t3 ht3 => ⟨.list (ns.map PyData.str), .list [], .lst ((k7.trans (Keep.new ht3)).seqL as al ha) (dpStrs ns), .lst (SqL.of upd_same) .nil, shStrs fun z hz => strOk_low (word_low (hw z hz)), rfl, _, rfl, ?_⟩⟩
        rw [eqvStrs0]
        have k8 : Keep s l H5 (upd H5 t3 (.lst [])) := Keep.new ht3
        have S6 := S5.new (o := .lst []) ht3
        generalize upd H5 t3 (.lst []) = H6 at *
        cases hne : ns.isEmpty with
        | true => exact iteF ⟨rfl, S6, k8⟩
        | false =>
          have hpos : 0 < (ns.map V.str).length := by
            rw [List.length_map]
            cases ns with
            | nil => cases hne
            | cons a b => exact Nat.succ_pos _
          refine iteT ⟨_, rfl, _, rfl, s, c, l, _, rfl, S6, .inl ⟨a, _, rfl, as, al, (k7.trans k8).seqL as al ha, hpos, by rw [List.length_map]; omega, fun H7 y S7 k9 hy => ?_⟩⟩
          obtain ⟨z, hz, rfl⟩ := List.mem_map.mp hy
          have kk := k8.trans k9
          have h7 : H7 D = some (.lst [y1, y2, y3]) := kk _ _ nD.1 nD.2.1 g2
          refine ⟨_, rfl, D, _, _, y1, rfl, rfl, SqL.of h7, atI_nat (j := 0) rfl, _, rfl, D, _, _, y2, rfl, rfl, SqL.of h7, atI_nat (j := 1) rfl, (by show 4 ≤ sizeLine; decide), fun p hp => ?_⟩
          exact q _ _ (S7.new hp) (k7.trans (kk.trans (Keep.new hp))) (FT.put hz (okS_word (hw _ hz)) ((f1.keep S5 kk).same (same_new hp _)) ((f2.keep S5 kk).same (same_new hp _)) (SqT.of upd_same) (by omega))
      rintro σ H6 ⟨rfl, S6, k8⟩
      have h6 : H6 D = some (.lst [y1, y2, y3]) := k8 _ _ nD.1 nD.2.1 g2
      refine ⟨_, rfl, (by show 2 ≤ sizeLine; decide), fun t1 ht1 => ⟨t1, _, rfl, .inr (SqT.of upd_same), rfl, rfl, _, rfl, ?_⟩⟩
      have k9 : Keep s l H5 (upd H6 t1 (.tup [V.int 6, V.int 7])) := k8.trans (Keep.new ht1)
      have S7 := S6.new (o := .tup [V.int 6, V.int 7]) ht1
      generalize upd H6 t1 (.tup [V.int 6, V.int 7]) = H7 at *
      have h7 : H7 D = some (.lst [y1, y2, y3]) := k9 _ _ nD.1 nD.2.1 g2
      refine ite2 (fun _ => ?_) (fun _ => ?_)
      · refine ⟨_, rfl, D, _, _, y1, rfl, rfl, SqL.of h7, atI_nat (j := 0) rfl, _, rfl, D, _, _, y2, rfl, rfl, SqL.of h7, atI_nat (j := 1) rfl, _, rfl, D, _, _, y3, rfl, rfl, SqL.of h7, atI_nat (j := 2) rfl, (by show 4 ≤ sizeLine; decide), fun p hp => ?_⟩
        exact q _ _ (S7.new hp) (k7.trans (k9.trans (Keep.new hp))) (FT.ite ((f1.keep S5 k9).same (same_new hp _)) ((f2.keep S5 k9).same (same_new hp _)) ((f3.keep S5 k9).same (same_new hp _)) (SqT.of upd_same) (by omega))
      · refine ⟨_, rfl, (by show 3 ≤ sizeLine; decide), fun pw hpw => ?_⟩
        have npw := S7.ns hpw
        refine ⟨s, c, l, _, rfl, S7.new hpw, .inl ⟨pw, _, rfl, npw.1, npw.2.1, SqL.of upd_same, (by show 0 < 3; decide), (by show 3 ≤ 100000; decide), fun H8 x S8 k10 hx => ?_⟩⟩
        have kk := k9.trans ((Keep.new hpw).trans k10)
        have hx' : x ∈ (([("and" : Str), "or", "xor"] : List Str).map V.str) := hx
        obtain ⟨wd, hwd, rfl⟩ := List.mem_map.mp hx'
        have h8 : H8 D = some (.lst [y1, y2, y3]) := kk _ _ nD.1 nD.2.1 g2
        refine ⟨_, rfl, D, _, _, y1, rfl, rfl, SqL.of h8, atI_nat (j := 0) rfl, _, rfl, D, _, _, y2, rfl, rfl, SqL.of h8, atI_nat (j := 1) rfl, (by show 3 ≤ sizeLine; decide), fun p hp => ?_⟩
        exact q _ _ (S8.new hp) (k7.trans (kk.trans (Keep.new hp))) (FT.bin hwd ((f1.keep S5 kk).same (same_new hp _)) ((f2.keep S5 kk).same (same_new hp _)) (SqT.of upd_same) (by omega))
  all_goals
    refine ⟨(by show 1 ≤ sizeLine; decide), fun p1 hp1 => ⟨(by show 1 ≤ sizeLine; decide), fun p2 hp2 => ⟨(by show 2 ≤ sizeLine; decide), fun pl hpl => ?_⟩⟩⟩
    have e1 := same_new hp1 (.tup [V.str ("yes" : Str)])
    have e2 := same_new hp2 (.tup [V.str ("no" : Str)])
    have e3 := same_new hpl (.lst [V.ref p1, V.ref p2])
    have t1 := e3 _ _ (e2 _ _ (upd_same (H := H1) (a := p1) (o := .tup [V.str ("yes" : Str)])))
    have t2 := e3 _ _ (upd_same (H := upd H1 p1 (.tup [V.str ("yes" : Str)])) (a := p2) (o := .tup [V.str ("no" : Str)]))
    have t3 := upd_same (H := upd (upd H1 p1 (.tup [V.str ("yes" : Str)])) p2 (.tup [V.str ("no" : Str)])) (a := pl) (o := .lst [V.ref p1, V.ref p2])
    have e4 := e1.trans (e2.trans e3)
    generalize upd (upd (upd H1 p1 (.tup [V.str ("yes" : Str)])) p2 (.tup [V.str ("no" : Str)])) pl (.lst [V.ref p1, V.ref p2]) = H2 at *
    refine ⟨_, rfl, a, rfl, ⟨_, e4.seq ha1⟩, fun D hD => ?_⟩
    refine lc_list (xs := ns.map V.str) (fun j H' => Same H2 H' ∧ ∃ xs, H' D = some (.lst xs) ∧ xs.length = j ∧ ∀ x ∈ xs, FT K s l (del H' D) ns r d x)
      ⟨same_new hD _, [], upd_same, rfl, fun x hx => by cases hx⟩ (fun j H' _ t => t.1.seq (e4.seq ha1)) ?_ ?_
    · rintro j x Ha hj ⟨g1, xs, g2, g3, g4⟩
      obtain ⟨y, hy, rfl⟩ : ∃ y, ns[j]? = some y ∧ x = V.str y := by
        rw [List.getElem?_map] at hj
        cases e : ns[j]? with
        | none =>
          rw [e] at hj
          cases hj
        | some y =>
          rw [e] at hj
          exact ⟨y, rfl, (Option.some.inj hj).symm⟩
      have hj20 : j < 20 := by
        have := (List.getElem?_eq_some_iff.mp hy).1
        omega
      refine ⟨rfl, ?_⟩
      show _
      refine ⟨_, rfl, (by show 2 ≤ sizeLine; decide), fun pn hpn => ?_⟩
      have g5 := same_new hpn (.tup [V.str ("name" : Str), V.str y])
      have nD : D ≠ pn := fun z => by
        rw [z, hpn] at g2
        cases g2
      refine ⟨_, g5 _ _ g2, by rw [g3]; exact small1000 (by omega), fun b u z => ?_, xs ++ [.ref pn], upd_same, by rw [List.length_append, g3]; rfl, fun x hx => ?_⟩
      · rw [upd_ne (ne_of_none z hD)]
        exact g5 _ _ (g1 _ _ z)
      · rw [del_upd]
        rcases List.mem_append.mp hx with hx | hx
        · exact (g4 x hx).same (del_mono g5)
        · rw [List.mem_singleton.mp hx]
          exact FT.name (SqT.of (by rw [del_ne nD.symm, upd_same])) (List.mem_of_getElem? hy) (okS_word (hw _ (List.mem_of_getElem? hy))) r0 d0
    · rintro H6 ⟨g1, xs, g2, g3, g4⟩
      rw [List.length_map] at g3
      refine ⟨D, 3, xs, rfl, rfl, g2, by decide, by decide, ?_, fun pr hpr => ?_⟩
      · have e3 : (3 : Int).toNat = 3 := rfl
        rw [e3, g3]
        exact Nat.le_of_lt (small1000 (by omega))
      have g7 := same_new hpr (.lst (List.replicate (3 : Int).toNat xs).flatten)
      have lx : (List.replicate (3 : Int).toNat xs).flatten.length ≤ 60 := by
        show (List.replicate 3 xs).flatten.length ≤ 60
        simp only [List.replicate, List.flatten_cons, List.flatten_nil, List.length_append, List.length_nil]
        omega
      refine ⟨pl, pr, _, _, rfl, rfl, g7 _ _ (g1 _ _ t3), upd_same, Nat.le_of_lt (small1000 (by
        show 2 + (List.replicate (3 : Int).toNat xs).flatten.length ≤ 1000
        omega)), fun pc hpc => ?_⟩
      have g8 := g7.trans (same_new hpc (.lst ([V.ref p1, V.ref p2] ++ (List.replicate (3 : Int).toNat xs).flatten)))
      have eH : Same H1 _ := e4.trans (g1.trans g8)
      have nc := (S1.keep (e4.trans (g1.trans g7))).ns hpc
      refine ⟨_, rfl, _, rfl, s, c, l, _, rfl, S1.keep eH, .inl ⟨pc, _, rfl, nc.1, nc.2.1, SqL.of upd_same, ?_, ?_, fun H7 x S7 k7 hx => ?_⟩⟩
      · rw [List.length_append]
        exact Nat.lt_of_lt_of_le (by decide : 0 < 2) (Nat.le_add_right _ _)
      · rw [List.length_append]
        have : ([V.ref p1, V.ref p2] : List V).length = 2 := rfl
        omega
      refine q H7 x S7 (k1.trans ((Keep.of eH).trans k7)) (FT.keep ?_ (S1.keep eH) k7)
      rcases List.mem_append.mp hx with hx | hx
      · rcases List.mem_cons.mp hx with e | hx
        · rw [e]
          exact FT.yes (SqT.of (g8 _ _ (g1 _ _ t1))) r0 d0
        · rw [List.mem_singleton.mp hx]
          exact FT.no (SqT.of (g8 _ _ (g1 _ _ t2))) r0 d0
      · obtain ⟨ys, hy, hx⟩ := List.mem_flatten.mp hx
        rw [(List.mem_replicate.mp hy).2] at hx
        exact (g4 x hx).same (del_sub.trans g8)
theorem all_made {f : Addr} {fd : FuncData} (F : Fun K "_law_made" "_law_made" sMade f fd) (bG : Binds K fd ["state", "names", "room", "deep"] []) (mG : mg "_law_made" = some (.ref f))
    (M : Def P w K mg base CX0 "_law_draw" 2 ["state", "many"] (spDraw K)) (O : Def P w K mg base CX0 "_law_one" 3 ["state", "things"] (spOne K)) (R : Def P w K mg base CX0 "_law_rooms" 3 ["state", "room", "many"] (spRooms K)) :
    ∀ n : Nat, FnOk P w K mg base CX0 (n + 3) f fd ["state", "names", "room", "deep"] (spMade K n)
  | 0 => by
    have no : ∀ vs H Q E, ¬ spMade K 0 vs H Q E := fun vs H Q E h => by
      obtain ⟨s, c, l, a, ns, r, d, _, _, _, _, _, _, _, _, _, d0, d1, _⟩ := h
      omega
    exact ⟨fun vs H Q E h => absurd h (no vs H Q E), fun A outer s H args us vs Q E _ _ _ _ h => absurd h (no vs H Q E)⟩
  | n + 1 => step_made F bG mG M O R (all_made F bG mG M O R n)
end
end Kn
set_option Elab.async false
set_option linter.all false
set_option maxRecDepth 100000
set_option maxHeartbeats 4000000
set_option pp.maxSteps 1200
namespace Kn
open PySem L2 TL
/-! ### how great a thing is: so deep, tuples so long -/
mutual
def sz : PyData → Nat
  | .tuple xs => max xs.length (szAll xs) + 1
  | .none | .bool _ | .int _ | .str _ | .list _ | .dict _ => 0
def szAll : List PyData → Nat
  | [] => 0
  | x :: xs => max (sz x) (szAll xs)
end
theorem szAll_le {m : Nat} : ∀ {ds : List PyData}, (∀ d ∈ ds, sz d ≤ m) → szAll ds ≤ m
  | [], _ => Nat.zero_le _
  | d :: r, h => by
    have h1 := h d List.mem_cons_self
    have h2 := szAll_le (ds := r) fun e he => h e (List.mem_cons_of_mem _ he)
    simp only [szAll]
    omega
theorem szAll_mem : ∀ {ds : List PyData} {d : PyData}, d ∈ ds → sz d ≤ szAll ds
  | [], _, h => by cases h
  | e :: r, d, h => by
    simp only [szAll]
    rcases List.mem_cons.mp h with q | q
    · rw [q]
      omega
    · have := szAll_mem q
      omega
theorem Fm.sz {ns : List Str} {a b : Nat} {d : PyData} (f : Fm ns a b d) : Kn.sz d ≤ b + 5 := by
  induction f <;> simp only [Kn.sz, Kn.szAll, List.length_cons, List.length_nil] <;> omega
/-- all of some values stand for things no greater than m -/
def TB (K : PySem.W.Frag) (s l : Addr) (H : Hp) (m : Nat) (xs : List V) : Prop := ∀ x ∈ xs, ∃ d, Tg K s l H x d ∧ sz d ≤ m
section
variable {K : PySem.W.Frag} {s l : Addr} {H H' : Hp} {m : Nat} {xs ys : List V}
theorem TB.all : ∀ {xs : List V}, TB K s l H m xs → ∃ ds, TgAll K s l H xs ds ∧ (∀ d ∈ ds, sz d ≤ m) ∧ ds.length = xs.length
  | [], _ => ⟨[], .nil, (fun d hd => by cases hd), rfl⟩
  | x :: r, h => by
    obtain ⟨d, hd, hm⟩ := h x List.mem_cons_self
    obtain ⟨ds, hds, h2, h3⟩ := TB.all (xs := r) fun y hy => h y (List.mem_cons_of_mem _ hy)
    refine ⟨d :: ds, .cons hd hds, fun e he => ?_, by rw [List.length_cons, h3, List.length_cons]⟩
    rcases List.mem_cons.mp he with q | q
    · rw [q]
      exact hm
    · exact h2 e q
theorem TB.of : ∀ {xs : List V} {ds : List PyData}, TgAll K s l H xs ds → szAll ds ≤ m → TB K s l H m xs
  | _, _, .nil, _ => fun x hx => by cases hx
  | _, _, .cons (d := d) (ds := ds) q r, h => fun x hx => by
    simp only [szAll] at h
    rcases List.mem_cons.mp hx with e | hx
    · rw [e]
      exact ⟨d, q, by omega⟩
    · exact TB.of r (by omega) x hx
theorem TB.nil : TB K s l H m [] := fun x hx => by cases hx
theorem TB.cons {x : V} {d : PyData} (h : Tg K s l H x d) (hm : sz d ≤ m) (r : TB K s l H m xs) : TB K s l H m (x :: xs) := fun y hy => by
  rcases List.mem_cons.mp hy with e | hy
  · rw [e]
    exact ⟨d, h, hm⟩
  · exact r y hy
theorem TB.app (a : TB K s l H m xs) (b : TB K s l H m ys) : TB K s l H m (xs ++ ys) := fun y hy => (List.mem_append.mp hy).elim (a y) (b y)
theorem TB.same (h : TB K s l H m xs) (e : Same H H') : TB K s l H' m xs := fun x hx => let ⟨d, q, r⟩ := h x hx; ⟨d, q.same e, r⟩
theorem TB.keep {c : Addr} (h : TB K s l H m xs) (S : StOk K H s c l) (e : Keep s l H H') : TB K s l H' m xs := fun x hx => let ⟨d, q, r⟩ := h x hx; ⟨d, q.keep S e, r⟩
theorem TB.mono {n : Nat} (h : TB K s l H m xs) (e : m ≤ n) : TB K s l H n xs := fun x hx => let ⟨d, q, r⟩ := h x hx; ⟨d, q, Nat.le_trans r e⟩
theorem TB.sub (h : TB K s l H m xs) (e : ∀ y ∈ ys, y ∈ xs) : TB K s l H m ys := fun x hx => h x (e x hx)
/-- a tuple of things is a thing -/
theorem TB.tup {p : Addr} (h : TB K s l H m xs) (hp : SqT K H p xs) : ∃ d, Tg K s l H (.ref p) d ∧ sz d ≤ max xs.length m + 1 := by
  obtain ⟨ds, h1, h2, h3⟩ := h.all
  refine ⟨_, .tup hp h1, ?_⟩
  have := szAll_le h2
  simp only [sz]
  omega
/-- what evaluates to a thing, leaving what is known -/
def EvG (K : PySem.W.Frag) (s l : Addr) (m : Nat) (te : TE) (σ : L2.St) (H0 : Hp) : Prop := ∀ H, Same H0 H → ∀ Q : VK, (∀ v H', Same H H' → (∃ d, Tg K s l H' v d ∧ sz d ≤ m) → Q v H') → te σ H Q
def EvGA (K : PySem.W.Frag) (s l : Addr) (m n : Nat) (ta : TA) (σ : L2.St) (H0 : Hp) : Prop := ∀ H, Same H0 H → ∀ Q : List V → Hp → Prop, (∀ vs H', Same H H' → TB K s l H' m vs → vs.length = n → Q vs H') → ta σ H Q
variable {σ : L2.St} {H0 : Hp} {te tf : TE} {ta : TA} {n : Nat}
theorem evg_of {i : Nat} {v : V} {d : PyData} (h : σ[i]? = some (some v)) (hd : Tg K s l H0 v d) (hm : sz d ≤ m) : EvG K s l m (tVar i) σ H0 := fun H e Q q => ⟨v, h, q v H (Same.refl H) ⟨d, hd.same e, hm⟩⟩
theorem evg_str {x : Str} (h : okS x = true := by decide +kernel) : EvG K s l m (tC (.str x)) σ H0 := fun H e Q q => q _ H (Same.refl H) ⟨_, .str x h, Nat.zero_le _⟩
theorem evg_int {x : Int} : EvG K s l m (tC (.int x)) σ H0 := fun H e Q q => q _ H (Same.refl H) ⟨_, .int x, Nat.zero_le _⟩
theorem evg_non : EvG K s l m (tC .non) σ H0 := fun H e Q q => q _ H (Same.refl H) ⟨_, .non, Nat.zero_le _⟩
theorem evg_bl {b : Bool} : EvG K s l m (tC (.bl b)) σ H0 := fun H e Q q => q _ H (Same.refl H) ⟨_, .bl b, Nat.zero_le _⟩
theorem EvG.mono {m' : Nat} (h : EvG K s l m te σ H0) (e : m ≤ m') : EvG K s l m' te σ H0 := fun H e1 Q q => h H e1 Q fun v H' e2 ⟨d, q1, q2⟩ => q v H' e2 ⟨d, q1, Nat.le_trans q2 e⟩
theorem ega_nil : EvGA K s l m 0 tNil σ H0 := fun H e Q q => q [] H (Same.refl H) TB.nil rfl
theorem ega_cons (h : EvG K s l m te σ H0) (r : EvGA K s l m n ta σ H0) : EvGA K s l m (n + 1) (tCons te ta) σ H0 := fun H e Q q => h H e _ fun v H1 e1 ⟨d, q1, q2⟩ => r H1 (e.trans e1) _ fun vs H2 e2 b hl => q (v :: vs) H2 (e1.trans e2) (.cons (q1.same e2) q2 b) (by rw [List.length_cons, hl])
theorem evg_tup (h : EvGA K s l m n ta σ H0) (hn : n ≤ 100) : EvG K s l (max n m + 1) (tTup ta) σ H0 := fun H e Q q => h H e _ fun vs H1 e1 b hl => ⟨by rw [hl]; exact Nat.le_of_lt (small1000 (by omega)), fun p hp => q (.ref p) _ (e1.trans (same_new hp _)) (by
  have := (b.same (same_new hp (.tup vs))).tup (SqT.of upd_same)
  rw [hl] at this
  exact this)⟩
theorem evg_tup' {m' : Nat} (h : EvGA K s l m n ta σ H0) (hn : n ≤ 100) (hm : max n m + 1 ≤ m') : EvG K s l m' (tTup ta) σ H0 := (evg_tup h hn).mono hm
theorem evg_lst (hs : H0 s ≠ none) (hl0 : H0 l ≠ none) (h : EvGA K s l m' n ta σ H0) (hn : n ≤ 100) : EvG K s l m (tLst ta) σ H0 := fun H e Q q => h H e _ fun vs H1 e1 b hl => ⟨by rw [hl]; exact Nat.le_of_lt (small1000 (by omega)), fun p hp => by
  have ne : ∀ a, H0 a ≠ none → p ≠ a := fun a ha z => by
    cases q : H0 a with
    | none => exact ha q
    | some o =>
      rw [z, (e.trans e1) _ _ q] at hp
      cases hp
  exact q (.ref p) _ (e1.trans (same_new hp _)) ⟨_, .lst (ne s hs) (ne l hl0) upd_same, Nat.zero_le _⟩⟩
theorem evg_dct (hs : H0 s ≠ none) (hl0 : H0 l ≠ none) : EvG K s l m tDNewK σ H0 := fun H e Q q => fun p hp => by
  have ne : ∀ a, H0 a ≠ none → p ≠ a := fun a ha z => by
    cases q : H0 a with
    | none => exact ha q
    | some o =>
      rw [z, e _ _ q] at hp
      cases hp
  exact q (.ref p) _ (same_new hp _) ⟨_, .dct (ne s hs) (ne l hl0) upd_same, Nat.zero_le _⟩
/-- a list of things, displayed, or put together of two -/
def EvGL (K : PySem.W.Frag) (s l : Addr) (m n : Nat) (te : TE) (σ : L2.St) (H0 : Hp) : Prop := ∀ H, Same H0 H → ∀ Q : VK, (∀ p xs H', Same H H' → H p = none → H' p = some (.lst xs) → TB K s l H' m xs → xs.length = n → Q (.ref p) H') → te σ H Q
theorem egl_lst (h : EvGA K s l m n ta σ H0) (hn : n ≤ 100) : EvGL K s l m n (tLst ta) σ H0 := fun H e Q q => h H e _ fun vs H1 e1 b hl => ⟨by rw [hl]; exact Nat.le_of_lt (small1000 (by omega)), fun p hp => q p vs _ (e1.trans (same_new hp _)) (e1.free hp) upd_same (b.same (same_new hp _)) hl⟩
theorem egl_cat {n' : Nat} (h : EvGL K s l m n te σ H0) (h2 : EvGL K s l m n' tf σ H0) (hn : n + n' ≤ 1000) : EvGL K s l m (n + n') (tOp rCat te tf) σ H0 := fun H e Q q => h H e _ fun p xs H1 e1 hp0 hp b hl =>
  h2 H1 (e.trans e1) _ fun p2 ys H2 e2 hp2 hp3 b2 hl2 => ⟨p, p2, xs, ys, rfl, rfl, e2 _ _ hp, hp3, by rw [hl, hl2]; exact Nat.le_of_lt (small1000 hn), fun p4 hp4 => q p4 _ _ ((e1.trans e2).trans (same_new hp4 _)) ((e1.trans e2).free hp4) upd_same (((b.same e2).app b2).same (same_new hp4 _)) (by rw [List.length_append, hl, hl2])⟩
/-- two tuples put together, a tuple's slice -/
theorem catA_any {a b : Addr} {Q : VK} (ha : SqT K H a xs) (hb : SqT K H b ys) (hz : xs.length + ys.length ≤ 1000) (q : ∀ H' p, Same H H' → SqT K H' p (xs ++ ys) → Q (.ref p) H') : rCatA K (.ref a) (.ref b) H Q := by
  refine ⟨a, b, xs, ys, rfl, rfl, ha, hb, Nat.le_of_lt (small1000 hz), fun e => ?_, fun _ e => ?_, fun _ _ p hp => ?_⟩
  · exact q H b (Same.refl H) (by rw [e]; exact hb)
  · exact q H a (Same.refl H) (by rw [e, List.append_nil]; exact ha)
  · exact q _ p (same_new hp _) (SqT.of upd_same)
theorem slA_any {a : Addr} {lo hi : Option Int} {Q : VK} (ha : SqT K H a xs) (q : ∀ H' p, Same H H' → SqT K H' p (cutV xs lo hi) → Q (.ref p) H') : rSlA K (.ref a) lo hi H Q := by
  refine ⟨a, xs, rfl, ha, fun e => ?_, fun _ p hp => ?_⟩
  · refine q H a (Same.refl H) ?_
    have : cutV xs lo hi = xs := by
      unfold cutV
      rw [e.1, e.2]
      simp
    rw [this]
    exact ha
  · exact q _ p (same_new hp _) (SqT.of upd_same)
theorem cutV_sub {lo hi : Option Int} : ∀ y ∈ cutV xs lo hi, y ∈ xs := fun y hy => List.mem_of_mem_drop (List.mem_of_mem_take hy)
theorem cutV_len {lo hi : Option Int} : (cutV xs lo hi).length ≤ xs.length := by
  unfold cutV
  rw [List.length_take, List.length_drop]
  omega
theorem cutV_to {j : Nat} : (cutV xs none (some (j : Int))).length ≤ j := by
  unfold cutV
  rw [List.length_take, HT.sIx_nat, HT.sIx_none]
  omega
theorem cutV_from {j : Nat} : (cutV xs (some (j : Int)) none).length ≤ xs.length - j := by
  unfold cutV
  rw [List.length_take, HT.sIx_nat, HT.sIx_none, List.length_drop]
  omega
/-- what evaluates to a tuple of at most n things, each no greater than m -/
def EvK (K : PySem.W.Frag) (s c l : Addr) (m n : Nat) (te : TE) (σ : L2.St) (H0 : Hp) : Prop := ∀ H, StOk K H s c l → Keep s l H0 H → ∀ Q : VK, (∀ H' p ys, StOk K H' s c l → Keep s l H H' → SqT K H' p ys → TB K s l H' m ys → ys.length ≤ n → Q (.ref p) H') → te σ H Q
/-- what evaluates to a thing no greater than m -/
def EvT1 (K : PySem.W.Frag) (s c l : Addr) (m : Nat) (te : TE) (σ : L2.St) (H0 : Hp) : Prop := ∀ H, StOk K H s c l → Keep s l H0 H → ∀ Q : VK, (∀ H' v d, StOk K H' s c l → Keep s l H H' → Tg K s l H' v d → sz d ≤ m → Q v H') → te σ H Q
variable {c : Addr} {tb : TE}
theorem evk_cut {tl th : TO} {i n : Nat} {a : Addr} {lo hi : Option Int} (h : σ[i]? = some (some (.ref a))) (S0 : StOk K H0 s c l) (ha : SqT K H0 a xs) (hb : TB K s l H0 m xs) (hl : ∀ (H : Hp) (Q : Option Int → Hp → Prop), Q lo H → tl σ H Q) (hh : ∀ (H : Hp) (Q : Option Int → Hp → Prop), Q hi H → th σ H Q)
    (hn : (cutV xs lo hi).length ≤ n) : EvK K s c l m n (tSl (rSlA K) (tVar i) tl th) σ H0 := fun H S k Q q => ⟨.ref a, h, hl H _ (hh H _ (slA_any (S0.seqT k ha) fun H' p e h2 => q H' p _ (S.keep e) (Keep.of e) h2 (((hb.keep S0 k).same e).sub cutV_sub) hn))⟩
theorem evk_one (h : EvT1 K s c l m te σ H0) : EvK K s c l m 1 (tTup (tCons te tNil)) σ H0 := fun H S k Q q => h H S k _ fun H' v d S' k' t hm => ⟨(by show 1 ≤ sizeLine; decide), fun p hp => q _ p [v] (S'.new hp) (k'.trans (Keep.new hp)) (SqT.of upd_same) ((TB.cons t hm TB.nil).same (same_new hp _)) (Nat.le_refl _)⟩
theorem evk_cat {n1 n2 : Nat} (ha : EvK K s c l m n1 te σ H0) (hb : EvK K s c l m n2 tb σ H0) (hn : n1 + n2 ≤ 1000) : EvK K s c l m (n1 + n2) (tOp (rCatA K) te tb) σ H0 := fun H S k Q q =>
  ha H S k _ fun H1 p1 ys S1 k1 h1 b1 l1 => hb H1 S1 (k.trans k1) _ fun H2 p2 zs S2 k2 h2 b2 l2 => catA_any (S1.seqT k2 h1) h2 (by omega) fun H3 p3 e h3 => q H3 p3 _ (S2.keep e) ((k1.trans k2).trans (Keep.of e)) h3 (((b1.keep S1 k2).app b2).same e) (by rw [List.length_append]; omega)
theorem EvK.mono {n1 n2 : Nat} (h : EvK K s c l m n1 te σ H0) (e : n1 ≤ n2) : EvK K s c l m n2 te σ H0 := fun H S k Q q => h H S k Q fun H' p ys a b c' d l1 => q H' p ys a b c' d (Nat.le_trans l1 e)
theorem evt_item {i j : Nat} {a : Addr} {z : Nat} (h : σ[i]? = some (some (.ref a))) {i2 : Nat} (h2 : σ[i2]? = some (some (.int (j : Int)))) (S0 : StOk K H0 s c l) (ha : SqT K H0 a xs) (hb : TB K s l H0 m xs) (hj : j < xs.length) : EvT1 K s c l m (tOp (rIxT K) (tVar i) (tVar i2)) σ H0 := fun H S k Q q => by
  obtain ⟨d, t1, t2⟩ := (hb.keep S0 k) xs[j] (List.getElem_mem hj)
  exact ⟨.ref a, h, .int j, h2, a, xs, j, xs[j], rfl, rfl, S0.seqT k ha, atI_nat (List.getElem?_eq_getElem hj), q H _ d S Keep.refl t1 t2⟩
theorem seq_asg {D : Ends} {i : Nat} {u : TS} (h : te σ H fun v H' => u D (σ.set i (some v)) H') : tSeq (tAsg te (gName i)) u D σ H := h
theorem ret_of {D : Ends} (h : te σ H D.rt) : tRet te D σ H := h
theorem asg_of {D : Ends} {i : Nat} (h : te σ H fun v H' => D.nx (σ.set i (some v)) H') : tAsg te (gName i) D σ H := h
end
end Kn
set_option Elab.async false
set_option linter.all false
set_option maxRecDepth 100000
set_option maxHeartbeats 4000000
set_option pp.maxSteps 1200
namespace Kn
open PySem L2 TL
def isTup : PyData → Bool
  | .tuple _ => true
  | _ => false
def isStr : PyData → Bool
  | .str _ => true
  | _ => false
section
variable {K : PySem.W.Frag} {s l : Addr} {H H' : Hp} {v : V} {d : PyData} {Q : VK}
theorem TgAll.len : ∀ {xs : List V} {ds : List PyData}, TgAll K s l H xs ds → ds.length = xs.length
  | _, _, .nil => rfl
  | _, _, .cons _ r => by rw [List.length_cons, List.length_cons, TgAll.len r]
theorem seqT_ty {a : Addr} {xs : List V} (h : SqT K H a xs) : TyX K H (.ref a) (.type "tuple") := by
  rcases h with (h | ⟨o, h⟩) | ⟨o, its, n, h1, h2, _⟩
  · exact .base (.tup h)
  · exact .fTuple h
  · exact .kTuple h1 h2
theorem tg_ty (h : Tg K s l H v d) : ∃ t : String, TyX K H v (.type t) ∧ kitB t "tuple" = some (isTup d) ∧ kitB t "str" = some (isStr d) := by
  cases h with
  | non => exact ⟨"NoneType", .base .non, (show kitB "NoneType" "tuple" = some false by decide +kernel), (show kitB "NoneType" "str" = some false by decide +kernel)⟩
  | bl b => exact ⟨"bool", .base (.bl b), (show kitB "bool" "tuple" = some false by decide +kernel), (show kitB "bool" "str" = some false by decide +kernel)⟩
  | int i => exact ⟨"int", .base (.int i), (show kitB "int" "tuple" = some false by decide +kernel), (show kitB "int" "str" = some false by decide +kernel)⟩
  | str x _ => exact ⟨"str", .base (.str x), (show kitB "str" "tuple" = some false by decide +kernel), (show kitB "str" "str" = some true by decide +kernel)⟩
  | tup q r => exact ⟨"tuple", seqT_ty q, (show kitB "tuple" "tuple" = some true by decide +kernel), (show kitB "tuple" "str" = some false by decide +kernel)⟩
  | lst a b q => exact ⟨"list", .base (.lst q), (show kitB "list" "tuple" = some false by decide +kernel), (show kitB "list" "str" = some false by decide +kernel)⟩
  | dct a b q => exact ⟨"dict", .base (.dK q), (show kitB "dict" "tuple" = some false by decide +kernel), (show kitB "dict" "str" = some false by decide +kernel)⟩
theorem isi_tup (h : Tg K s l H v d) (q : Q (.bl (isTup d)) H) : rIsi K [v, .ty "tuple"] H Q := by
  obtain ⟨t, h1, h2, _⟩ := tg_ty h
  exact ⟨v, .ty "tuple", .type t, .type "tuple", isTup d, rfl, .ty _, h1, kit_ty h2, q⟩
theorem isi_str (h : Tg K s l H v d) (q : Q (.bl (isStr d)) H) : rIsi K [v, .ty "str"] H Q := by
  obtain ⟨t, h1, _, h2⟩ := tg_ty h
  exact ⟨v, .ty "str", .type t, .type "str", isStr d, rfl, .ty _, h1, kit_ty h2, q⟩
/-- a list that stands and a list displayed -/
theorem cat_list {m n n' : Nat} {p : Addr} {xs : List V} {te : TE} {σ : L2.St} (hp : H p = some (.lst xs)) (hb : TB K s l H m xs) (hl : xs.length = n) (hn : n + n' ≤ 1000) (h : EvGL K s l m n' te σ H)
    (q : ∀ p2 ys H', Same H H' → H p2 = none → H' p2 = some (.lst ys) → TB K s l H' m ys → ys.length = n + n' → Q (.ref p2) H') : te σ H fun y H2 => rCat (.ref p) y H2 Q :=
  h H (Same.refl H) _ fun p2 ys H2 e2 hp2 hp3 b2 hl2 => ⟨p, p2, xs, ys, rfl, rfl, e2 _ _ hp, hp3, by rw [hl, hl2]; exact Nat.le_of_lt (small1000 hn), fun p4 hp4 =>
    q p4 _ _ (e2.trans (same_new hp4 _)) (e2.free hp4) upd_same (((hb.same e2).app b2).same (same_new hp4 _)) (by rw [List.length_append, hl, hl2])⟩
end
section
variable {P : Program} {w : World} {K : PySem.W.Frag} {mg : Str → Option Value} {base : Heap}
theorem scBent : FnScope ["state", "thing", "at", "way", "odd"] ["state", "thing"] (defScope sBent) := ⟨rfl, rfl, rfl, by decide +kernel, rfl, by decide +kernel, by decide +kernel⟩
def spBent (K : PySem.W.Frag) (n : Nat) : Sp := fun vs H Q _ => ∃ (s c l : Addr) (v : V) (d : PyData), vs = [.ref s, v] ∧ StOk K H s c l ∧ Tg K s l H v d ∧ sz d < n ∧ sz d ≤ 60 ∧
  ∀ (H' : Hp) (x : V) (d' : PyData), StOk K H' s c l → Keep s l H H' → Tg K s l H' x d' → sz d' ≤ sz d + 5 → Q x H'
theorem step_bent {n : Nat} {f : Addr} {fd : FuncData} (F : Fun K "_law_bent" "_law_bent" sBent f fd) (bG : Binds K fd ["state", "thing"] []) (mG : mg "_law_bent" = some (.ref f))
    (M : Def P w K mg base CX0 "_law_draw" 2 ["state", "many"] (spDraw K)) (O : Def P w K mg base CX0 "_law_one" 3 ["state", "things"] (spOne K)) (mi : mg "isinstance" = none) (mt : mg "tuple" = none) (ml : mg "len" = none)
    (G : FnOk P w K mg base CX0 (n + 3) f fd ["state", "thing"] (spBent K n)) : FnOk P w K mg base CX0 (n + 4) f fd ["state", "thing"] (spBent K (n + 1)) := by
  refine F.ok scBent (fun vs H Q E h => ?_) (fun cdv A outer s H vs Q E hr h => ?_)
  · obtain ⟨s, c, l, v, d, rfl, _⟩ := h
    rfl
  obtain ⟨s, c, l, v, d, rfl, S, hv, hsz, h60, q⟩ := h
  have hr2 : Room 2 _ := hr.mono (by omega)
  have hr3 : Room 3 _ := hr.mono (by omega)
  refine ⟨_, Evl.pss_cut (ps_if (PW.pt (pw_and (pt_val (pe_callB call_isi (by rfl) mi PyProof.Rows.boot_isinstance (pa_cons (pv 1) (pa_cons (pe_bltn (v := .ty "tuple") (by rfl) mt PyProof.Rows.boot_tuple rfl) pa_nil))))
      (pw_and (pt_cmpR op_gt (pe_callB call_len_seq (by rfl) ml PySem.boot_len (pa_cons (pv 1) pa_nil)) pe_int (nomark _)) (pw_and1 (pt_cmpR op_gt (pe_def M hr2 rfl (pa_cons (pv 0) (pa_cons pe_int pa_nil))) pe_int (nomark _))))))
      (pss_cons (ps_set (i := 2) scBent.nd rfl (Or.inl rfl) (pe_def M hr2 rfl (pa_cons (pv 0) (pa_cons (pe_callB call_len_seq (by rfl) ml PySem.boot_len (pa_cons (pv 1) pa_nil)) pa_nil))))
      (pss_cons (ps_set (i := 3) scBent.nd rfl (Or.inl rfl) (pe_def M hr2 rfl (pa_cons (pv 0) (pa_cons pe_int pa_nil))))
      (pss_cons (ps_if (pt_cmpR op_eq (pv 3) pe_int (nomark _))
        (pss_one (ps_ret (pe_op op_catA (pe_slice sl_tupA (pv 1) po_none (po_some (pv 2))) (pe_slice sl_tupA (pv 1) (po_some (pe_op op_add (pv 2) pe_int)) po_none)))) pss_nil)
      (pss_cons (ps_if (pt_cmpR op_eq (pv 3) pe_int (nomark _))
        (pss_one (ps_ret (pe_op op_catA (pe_op op_catA (pe_slice sl_tupA (pv 1) po_none (po_some (pv 2))) (pe_tup (pa_cons (pe_ix ix_tup (pv 1) (pv 2) (fun _ _ => rfl)) pa_nil))) (pe_slice sl_tupA (pv 1) (po_some (pv 2)) po_none)))) pss_nil)
      (pss_one (ps_ret (pe_op op_catA (pe_op op_catA (pe_slice sl_tupA (pv 1) po_none (po_some (pv 2))) (pe_tup (pa_cons (pe_call G hr rfl mG F.kp bG .nil pass0 (pa_cons (pv 0) (pa_cons (pe_ix ix_tup (pv 1) (pv 2) (fun _ _ => rfl)) pa_nil))) pa_nil))) (pe_slice sl_tupA (pv 1) (po_some (pe_op op_add (pv 2) pe_int)) po_none)))))))) pss_nil)
    (pss_cons (ps_set (i := 4) scBent.nd rfl (Or.inl rfl) (pe_lst (pa_cons pe_non (pa_cons pe_bl (pa_cons pe_int (pa_cons pe_str (pa_cons pe_str (pa_cons pe_str (pa_cons pe_str (pa_cons pe_str (pa_cons pe_str (pa_cons (pe_tup pa_nil) (pa_cons (pe_lst pa_nil) (pa_cons pe_dnewK (pa_cons pe_str
        (pa_cons (pe_tup (pa_cons pe_str pa_nil)) (pa_cons (pe_tup (pa_cons pe_str pa_nil)) (pa_cons (pe_tup (pa_cons pe_str (pa_cons (pe_tup pa_nil) pa_nil))) pa_nil))))))))))))))))))
    (pss_cons (ps_set (i := 4) scBent.nd rfl (Or.inl rfl) (pe_op op_cat (pv 4) (pe_lst (pa_cons (pe_tup (pa_cons pe_str (pa_cons pe_str pa_nil))) (pa_cons (pe_tup (pa_cons pe_str (pa_cons pe_str pa_nil))) (pa_cons (pe_tup (pa_cons pe_str pa_nil)) (pa_cons (pe_tup (pa_cons pe_str pa_nil))
        (pa_cons (pe_tup (pa_cons pe_str (pa_cons (pe_tup (pa_cons pe_str pa_nil)) pa_nil))) (pa_cons (pe_tup (pa_cons pe_str (pa_cons pe_str (pa_cons (pe_tup (pa_cons pe_str pa_nil)) pa_nil)))) (pa_cons (pe_tup (pa_cons (pv 1) pa_nil)) pa_nil))))))))))
    (pss_cons (ps_set (i := 4) scBent.nd rfl (Or.inl rfl) (pe_op op_cat (pv 4) (pe_lst (pa_cons (pe_tup (pa_cons pe_str (pa_cons pe_str (pa_cons (pe_tup (pa_cons pe_str pa_nil)) (pa_cons (pe_tup (pa_cons pe_str (pa_cons pe_str pa_nil))) pa_nil)))))
        (pa_cons (pe_tup (pa_cons pe_str (pa_cons (pe_tup (pa_cons pe_str pa_nil)) (pa_cons (pe_tup (pa_cons pe_str pa_nil)) pa_nil)))) (pa_cons (pe_lst (pa_cons (pv 1) pa_nil)) (pa_cons (pe_tup (pa_cons pe_str (pa_cons (pe_tup (pa_cons pe_str pa_nil)) (pa_cons pe_str pa_nil)))) pa_nil)))))))
    (pss_one (ps_ret (pe_def O hr3 rfl (pa_cons (pv 0) (pa_cons (pv 4) pa_nil)))))))), ?_⟩
  refine ⟨fun σ' H' => σ' = [some (.ref s), some v, none, none, none] ∧ StOk K H' s c l ∧ Keep s l H H', ?_, ?_⟩
  · refine ⟨_, rfl, ?_⟩
    obtain ⟨ty, ty1, ty2, _⟩ := tg_ty hv
    refine ⟨v, .ty "tuple", .type ty, .type "tuple", isTup d, rfl, .ty _, ty1, kit_ty ty2, ?_⟩
    refine ⟨_, rfl, ?_⟩
    cases hv with
    | @tup a xs ds ha hxs =>
      obtain ⟨b1, b2⟩ : szAll ds ≤ 60 ∧ xs.length ≤ 60 := by
        have hl := hxs.len
        simp only [sz] at h60
        omega
      have hb : TB K s l H (szAll ds) xs := TB.of hxs (Nat.le_refl _)
      refine iteT ⟨_, rfl, a, _, rfl, .inr ha, _, _, rfl, rfl, _, rfl, ?_⟩
      refine ite2 (fun c1 => ?_) (fun _ => ⟨rfl, S, Keep.refl⟩)
      have hpos : 0 < xs.length := by
        have := of_decide_eq_true c1
        omega
      refine ⟨_, rfl, s, c, l, 5, rfl, S, by decide, by decide, fun H1 n1 S1 k1 n10 n11 => ⟨_, _, rfl, rfl, _, rfl, ?_⟩⟩
      refine ite2 (fun _ => ?_) (fun _ => ⟨rfl, S1, k1⟩)
      have ha1 := S.seqT k1 ha
      refine ⟨_, rfl, _, rfl, a, _, rfl, .inr ha1, s, c, l, _, rfl, S1, by omega, by omega, fun H2 at_ S2 k2 a0 a1 => ?_⟩
      obtain ⟨j, rfl⟩ : ∃ j : Nat, at_ = (j : Int) := ⟨at_.toNat, by omega⟩
      have hj : j < xs.length := by omega
      have ha2 := S1.seqT k2 ha1
      refine ⟨_, rfl, s, c, l, 7, rfl, S2, by decide, by decide, fun H3 way S3 k3 w0 w1 => ?_⟩
      have ha3 := S2.seqT k3 ha2
      have kk := k1.trans (k2.trans k3)
      have hb3 := hb.keep S kk
      have hd : sz (.tuple ds) = max xs.length (szAll ds) + 1 := by
        have := hxs.len
        simp only [sz]
        omega
      -- what comes of it
      have fin : ∀ (H' : Hp) (p : Addr) (ys : List V), StOk K H' s c l → Keep s l H H' → SqT K H' p ys → TB K s l H' (szAll ds + 5) ys → ys.length ≤ xs.length + 1 → Q (.ref p) H' := fun H' p ys S' k' hp hy hl => by
        obtain ⟨d', t1, t2⟩ := hy.tup hp
        exact q H' _ d' S' k' t1 (by omega)
      have hb5 : TB K s l H3 (szAll ds + 5) xs := hb3.mono (by omega)
      have no_ : ∀ (σ : L2.St) (H : Hp) (Q : Option Int → Hp → Prop), Q none H → tNoPart σ H Q := fun _ _ _ h => h
      obtain ⟨σ3, hσ⟩ : ∃ σ3 : L2.St, σ3 = [some (V.ref s), some (V.ref a), some (V.int (j : Int)), some (V.int way), none] := ⟨_, rfl⟩
      have σ1 : σ3[1]? = some (some (V.ref a)) := by rw [hσ]; rfl
      have σ0 : σ3[0]? = some (some (V.ref s)) := by rw [hσ]; rfl
      have σ2 : σ3[2]? = some (some (V.int (j : Int))) := by rw [hσ]; rfl
      have at_ : ∀ (H : Hp) (Q : Option Int → Hp → Prop), Q (some (j : Int)) H → tPart (tVar 2) σ3 H Q := fun H Q h => ⟨_, σ2, _, rfl, h⟩
      have at1_ : ∀ (H : Hp) (Q : Option Int → Hp → Prop), Q (some ((j + 1 : Nat) : Int)) H → tPart (tOp (rI0 fun i j => .int (i + j)) (tVar 2) (tC (.int 1))) σ3 H Q := fun H Q h => ⟨_, σ2, _, _, rfl, rfl, _, rfl, h⟩
      have c1 : EvK K s c l (szAll ds + 5) j (tSl (rSlA K) (tVar 1) tNoPart (tPart (tVar 2))) σ3 H3 := evk_cut σ1 S3 ha3 hb5 (no_ σ3) at_ cutV_to
      have c2 : EvK K s c l (szAll ds + 5) (xs.length - (j + 1)) (tSl (rSlA K) (tVar 1) (tPart (tOp (rI0 fun i j => .int (i + j)) (tVar 2) (tC (.int 1)))) tNoPart) σ3 H3 := evk_cut σ1 S3 ha3 hb5 at1_ (no_ σ3) cutV_from
      have c3 : EvK K s c l (szAll ds + 5) (xs.length - j) (tSl (rSlA K) (tVar 1) (tPart (tVar 2)) tNoPart) σ3 H3 := evk_cut σ1 S3 ha3 hb5 at_ (no_ σ3) cutV_from
      have it : EvT1 K s c l (szAll ds) (tOp (rIxT K) (tVar 1) (tVar 2)) σ3 H3 := evt_item (z := 0) σ1 σ2 S3 ha3 hb3 hj
      have it5 : EvT1 K s c l (szAll ds + 5) (tOp (rIxT K) (tVar 1) (tVar 2)) σ3 H3 := fun H S k Q q => it H S k Q fun H' v d a b c' d' => q H' v d a b c' (by omega)
      have rc : EvT1 K s c l (szAll ds + 5) (tCall (spBent K n) [] E0 (tCons (tVar 0) (tCons (tOp (rIxT K) (tVar 1) (tVar 2)) tNil))) σ3 H3 := fun H S k Q q => ⟨_, σ0, it H S k _ fun H' v d S' k' t hm => ⟨s, c, l, v, d, rfl, S', t, by omega, by omega, fun H2 x d' S2 k2 t2 hm2 => q H2 x d' S2 (k'.trans k2) t2 (by omega)⟩⟩
      subst hσ
      refine ⟨_, rfl, rfl, _, rfl, ite2 (fun _ => ?_) (fun _ => ?_)⟩
      · refine ret_of (evk_cat c1 c2 (by omega) H3 S3 Keep.refl _ fun H' p ys S' k' hp hy hl => fin H' p ys S' (kk.trans k') hp hy (by omega))
      refine ⟨_, rfl, rfl, _, rfl, ite2 (fun _ => ?_) (fun _ => ?_)⟩
      · refine ret_of (evk_cat (evk_cat c1 (evk_one it5) (by omega)) c3 (by omega) H3 S3 Keep.refl _ fun H' p ys S' k' hp hy hl => fin H' p ys S' (kk.trans k') hp hy (by omega))
      · refine ret_of (evk_cat (evk_cat c1 (evk_one rc) (by omega)) c2 (by omega) H3 S3 Keep.refl _ fun H' p ys S' k' hp hy hl => fin H' p ys S' (kk.trans k') hp hy (by omega))
    | _ => exact iteF ⟨rfl, S, Keep.refl⟩
  · rintro σ H1 ⟨rfl, S1, k1⟩
    have hv1 := hv.keep S k1
    have ns : H1 s ≠ none := by
      obtain ⟨_, _, _, _, _, _, _, _, a2, _⟩ := S1
      rw [a2]
      exact fun z => nomatch z
    have nl : H1 l ≠ none := by
      obtain ⟨_, _, _, _, _, _, _, _, _, _, _, a5, _⟩ := S1
      rw [a5]
      exact fun z => nomatch z
    have g1 : ∀ {x : Str} {σ : L2.St} {H0 : Hp} {m : Nat}, 2 ≤ m → (h : okS x = true := by decide +kernel) → EvG K s l m (tTup (tCons (tC (.str x)) tNil)) σ H0 := fun h hx => evg_tup' (m := 0) (ega_cons (evg_str hx) ega_nil) (by decide) (by omega)
    have g2 : ∀ {x y : Str} {σ : L2.St} {H0 : Hp} {m : Nat}, 3 ≤ m → (h : okS x = true := by decide +kernel) → (h : okS y = true := by decide +kernel) → EvG K s l m (tTup (tCons (tC (.str x)) (tCons (tC (.str y)) tNil))) σ H0 := fun h hx hy => evg_tup' (m := 0) (ega_cons (evg_str hx) (ega_cons (evg_str hy) ega_nil)) (by decide) (by omega)
    have g0 : ∀ {σ : L2.St} {H0 : Hp} {m : Nat}, 1 ≤ m → EvG K s l m (tTup tNil) σ H0 := fun h => evg_tup' (m := 0) ega_nil (by decide) (by omega)
    have o1 : EvGL K s l (sz d + 5) 16 _ [some (.ref s), some v, none, none, none] H1 := egl_lst (ega_cons evg_non (ega_cons (evg_bl (b := true)) (ega_cons (evg_int (x := 0)) (ega_cons (evg_str (x := "")) (ega_cons (evg_str (x := "A")) (ega_cons (evg_str (x := "x")) (ega_cons (evg_str (x := "yes")) (ega_cons (evg_str (x := "name")) (ega_cons (evg_str (x := "not"))
      (ega_cons (g0 (by omega)) (ega_cons (evg_lst (m' := 0) ns nl ega_nil (by decide)) (ega_cons (evg_dct ns nl) (ega_cons (evg_str (x := "abcdefghi")) (ega_cons (g1 (x := "yes") (by omega)) (ega_cons (g1 (x := "no") (by omega)) (ega_cons (evg_tup' (m := 2) (ega_cons (evg_str (x := "yes")) (ega_cons (g0 (by omega)) ega_nil)) (by decide) (by omega)) ega_nil)))))))))))))))) (by decide)
    refine seq_asg (o1 H1 (Same.refl H1) _ fun p1 xs1 H2 e2 n2 h2 b2 l2 => ?_)
    have S2 := S1.keep e2
    refine seq_asg ?_
    refine ⟨_, rfl, ?_⟩
    have o2 : EvGL K s l (sz d + 5) 7 _ [some (.ref s), some v, none, none, some (.ref p1)] H2 := egl_lst (ega_cons (g2 (x := "name") (y := "q") (by omega)) (ega_cons (g2 (x := "name") (y := "") (by omega)) (ega_cons (g1 (x := "name") (by omega)) (ega_cons (g1 (x := "not") (by omega))
      (ega_cons (evg_tup' (m := 2) (ega_cons (evg_str (x := "and")) (ega_cons (g1 (x := "yes") (by omega)) ega_nil)) (by decide) (by omega)) (ega_cons (evg_tup' (m := 2) (ega_cons (evg_str (x := "some")) (ega_cons (evg_str (x := "q")) (ega_cons (g1 (x := "yes") (by omega)) ega_nil))) (by decide) (by omega))
      (ega_cons (evg_tup' (m := sz d) (ega_cons (evg_of (i := 1) rfl (hv1.same e2) (Nat.le_refl _)) ega_nil) (by decide) (by omega)) ega_nil))))))) (by decide)
    refine cat_list h2 b2 l2 (by decide) o2 fun p2 xs2 H3 e3 n3 h3 b3 l3 => ?_
    have S3 := S2.keep e3
    refine seq_asg ?_
    refine ⟨_, rfl, ?_⟩
    have e13 := e2.trans e3
    have o3 : EvGL K s l (sz d + 5) 4 _ [some (.ref s), some v, none, none, some (.ref p2)] H3 := egl_lst (ega_cons (evg_tup' (m := 3) (ega_cons (evg_str (x := "put")) (ega_cons (evg_str (x := "q")) (ega_cons (g1 (x := "no") (by omega)) (ega_cons (g2 (x := "name") (y := "q") (by omega)) ega_nil)))) (by decide) (by omega))
      (ega_cons (evg_tup' (m := 2) (ega_cons (evg_str (x := "if")) (ega_cons (g1 (x := "yes") (by omega)) (ega_cons (g1 (x := "no") (by omega)) ega_nil))) (by decide) (by omega)) (ega_cons (evg_lst (m' := sz d) (Same.ne e13 ns) (Same.ne e13 nl) (ega_cons (evg_of (i := 1) rfl (hv1.same e13) (Nat.le_refl _)) ega_nil) (by decide))
      (ega_cons (evg_tup' (m := 2) (ega_cons (evg_str (x := "some")) (ega_cons (g1 (x := "yes") (by omega)) (ega_cons (evg_str (x := "q")) ega_nil))) (by decide) (by omega)) ega_nil)))) (by decide)
    refine cat_list h3 b3 l3 (by decide) o3 fun p3 xs3 H4 e4 n4 h4 b4 l4 => ?_
    have S4 := S3.keep e4
    have np := S3.ns n4
    have k4 := k1.trans (Keep.of (s := s) (l := l) (e13.trans e4))
    refine ⟨_, rfl, _, rfl, s, c, l, _, rfl, S4, .inl ⟨p3, xs3, rfl, np.1, np.2.1, SqL.of h4, by omega, by omega, fun H5 x S5 k5 hx => ?_⟩⟩
    obtain ⟨d', t1, t2⟩ := (b4.keep S4 k5) x hx
    exact q H5 x d' S5 (k4.trans k5) t1 t2
theorem all_bent {f : Addr} {fd : FuncData} (F : Fun K "_law_bent" "_law_bent" sBent f fd) (bG : Binds K fd ["state", "thing"] []) (mG : mg "_law_bent" = some (.ref f))
    (M : Def P w K mg base CX0 "_law_draw" 2 ["state", "many"] (spDraw K)) (O : Def P w K mg base CX0 "_law_one" 3 ["state", "things"] (spOne K)) (mi : mg "isinstance" = none) (mt : mg "tuple" = none) (ml : mg "len" = none) :
    ∀ n : Nat, FnOk P w K mg base CX0 (n + 3) f fd ["state", "thing"] (spBent K n)
  | 0 => by
    have no : ∀ vs H Q E, ¬ spBent K 0 vs H Q E := fun vs H Q E h => by
      obtain ⟨s, c, l, v, d, _, _, _, d0, _⟩ := h
      omega
    exact ⟨fun vs H Q E h => absurd h (no vs H Q E), fun A outer s H args us vs Q E _ _ _ _ h => absurd h (no vs H Q E)⟩
  | n + 1 => step_bent F bG mG M O mi mt ml (all_bent F bG mG M O mi mt ml n)
end
end Kn
set_option Elab.async false
set_option linter.all false
set_option maxRecDepth 100000
set_option maxHeartbeats 4000000
set_option pp.maxSteps 1200
namespace Kn
open PySem L2 TL
/-! ### which things are formulas: the walk -/
def shapeTab : List (Str × (Nat × Nat)) := [("yes", (0, 0)), ("no", (0, 0)), ("name", (1, 0)), ("not", (0, 1)), ("and", (0, 2)), ("or", (0, 2)), ("xor", (0, 2)), ("if", (0, 3)), ("some", (1, 1)), ("all", (1, 1)), ("put", (1, 2))]
def shapeT (z : Str) : Option (Nat × Nat) := shapeTab.lookup z
def isNameS (z : Str) : Bool := decide (1 ≤ z.length) && decide (z.length ≤ 8) && lowB z
def isNameD : PyData → Bool
  | .str z => isNameS z
  | _ => false
/-- a part by its own form: its word's shape, its name, its parts -/
def formD : PyData → Option (Option Str × List PyData)
  | .tuple (.str w :: r) => match shapeT w with
    | some (0, b) => if r.length = b then some (none, r) else none
    | some (_ + 1, b) => match r with
      | .str x :: ps => if ps.length = b ∧ isNameS x = true then some (some x, ps) else none
      | _ => none
    | none => none
  | _ => none
def addN (ns : List Str) : Option Str → List Str
  | some x => if x ∈ ns then ns else ns ++ [x]
  | none => ns
def kids (way : List Nat) : Nat → List PyData → List (List Nat × PyData)
  | _, [] => []
  | i, d :: r => (way ++ [i], d) :: kids way (i + 1) r
/-- the way to the first part that is none; the stack's top ahead -/
def walk : Nat → Nat → List Str → List (List Nat × PyData) → Option (List Nat)
  | 0, _, _, _ => none
  | _ + 1, _, _, [] => none
  | f + 1, m, ns, (way, d) :: st => if m ≥ 60 ∨ way.length > 9 then some way else match formD d with
    | none => some way
    | some (o, ps) => if (addN ns o).length > 10 then some way else walk f (m + 1) (addN ns o) (kids way 0 ps ++ st)
def placeD (d : PyData) : Option (List Nat) := walk 61 0 [] [([], d)]
/-- names as they are met -/
def walkN : Nat → List Str → List PyData → List Str
  | 0, ns, _ => ns
  | _ + 1, ns, [] => ns
  | f + 1, ns, d :: st => match formD d with
    | none => ns
    | some (o, ps) => walkN f (addN ns o) (ps ++ st)
def namesD (d : PyData) : List Str := walkN 61 [] [d]
def namedR : Nat → PyData → List Str
  | 0, _ => []
  | n + 1, d => match formD d with
    | none => []
    | some (o, ps) => ps.foldl (fun found p => found ++ (namedR n p).filter fun x => decide (x ∉ found)) o.toList
/-! #### good things by height -/
def goodH : Nat → PyData → Bool
  | 0, _ => false
  | n + 1, d => match formD d with
    | none => false
    | some (_, ps) => ps.all (goodH n)
def cnt : Nat → PyData → Nat
  | 0, _ => 0
  | n + 1, d => match formD d with
    | none => 1
    | some (_, ps) => 1 + (ps.map (cnt n)).sum
def pre : Nat → PyData → List Str
  | 0, _ => []
  | n + 1, d => match formD d with
    | none => []
    | some (o, ps) => o.toList ++ ps.flatMap (pre n)
def hcnt (e : List Nat × PyData) : Nat := cnt (10 - e.1.length) e.2
theorem kids_len {way : List Nat} : ∀ {i : Nat} {ps : List PyData} {e : List Nat × PyData}, e ∈ kids way i ps → e.1.length = way.length + 1 ∧ e.2 ∈ ps
  | _, [], _, h => by cases h
  | i, d :: r, e, h => by
    rcases List.mem_cons.mp h with h | h
    · rw [h]
      exact ⟨by simp, List.mem_cons_self⟩
    · obtain ⟨a, b⟩ := kids_len h
      exact ⟨a, List.mem_cons_of_mem _ b⟩
theorem kids_mem {way : List Nat} : ∀ {i : Nat} {ps : List PyData} {p : PyData}, p ∈ ps → ∃ e ∈ kids way i ps, e.2 = p
  | _, [], _, h => by cases h
  | i, d :: r, p, h => by
    rcases List.mem_cons.mp h with h | h
    · exact ⟨_, List.mem_cons_self, h.symm⟩
    · obtain ⟨e, a, b⟩ := kids_mem (way := way) (i := i + 1) h
      exact ⟨e, List.mem_cons_of_mem _ a, b⟩
theorem kids_cnt {way : List Nat} : ∀ {i : Nat} {ps : List PyData}, ((kids way i ps).map hcnt).sum = (ps.map (cnt (10 - (way.length + 1)))).sum
  | _, [] => rfl
  | i, d :: r => by
    have e : hcnt (way ++ [i], d) = cnt (10 - (way.length + 1)) d := by
      unfold hcnt
      rw [List.length_append, List.length_singleton]
    show ((hcnt (way ++ [i], d)) :: (kids way (i + 1) r).map hcnt).sum = _
    rw [List.map_cons, List.sum_cons, List.sum_cons, kids_cnt, e]
theorem walk_good : ∀ {f m : Nat} {ns : List Str} {st : List (List Nat × PyData)}, f + m = 61 → m ≤ 60 → walk f m ns st = none → (∀ e ∈ st, goodH (10 - e.1.length) e.2 = true) ∧ m + (st.map hcnt).sum ≤ 60
  | 0, m, ns, st, hm, h6, h => by omega
  | f + 1, m, ns, [], hm, h6, h => ⟨(fun e he => by cases he), by simpa using h6⟩
  | f + 1, m, ns, (way, d) :: st, hm, h6, h => by
    unfold walk at h
    split at h
    · cases h
    rename_i c
    split at h
    · cases h
    rename_i o ps hf
    split at h
    · cases h
    have hw : way.length ≤ 9 := by omega
    obtain ⟨h1, h3⟩ := walk_good (by omega) (by omega) h
    have e10 : 10 - way.length = (10 - (way.length + 1)) + 1 := by omega
    rw [List.map_append, List.sum_append, kids_cnt] at h3
    refine ⟨fun e he => ?_, ?_⟩
    · rcases List.mem_cons.mp he with he | he
      · rw [he]
        show goodH (10 - way.length) d = true
        rw [e10]
        unfold goodH
        rw [hf]
        show ps.all (goodH (10 - (way.length + 1))) = true
        rw [List.all_eq_true]
        intro p hp
        obtain ⟨e', a, b⟩ := kids_mem (way := way) (i := 0) hp
        have := h1 e' (List.mem_append_left _ a)
        rw [(kids_len a).1, b] at this
        exact this
      · exact h1 e (List.mem_append_right _ he)
    · rw [List.map_cons, List.sum_cons]
      have : hcnt (way, d) = 1 + (ps.map (cnt (10 - (way.length + 1)))).sum := by
        unfold hcnt
        show cnt (10 - way.length) d = _
        rw [e10]
        unfold cnt
        rw [hf]
      omega
theorem place_good {d : PyData} (h : placeD d = none) : goodH 10 d = true ∧ cnt 10 d ≤ 60 := by
  obtain ⟨h1, h2⟩ := walk_good (f := 61) (m := 0) (by omega) (by omega) h
  refine ⟨h1 ([], d) List.mem_cons_self, ?_⟩
  have e : hcnt ([], d) = cnt 10 d := rfl
  rw [List.map_cons, List.map_nil, List.sum_cons, List.sum_nil, e] at h2
  omega
/-! #### the names of good things, in two ways -/
def addS (ns : List Str) (x : Str) : List Str := addN ns (some x)
theorem addN_fold (ns : List Str) (o : Option Str) : addN ns o = o.toList.foldl addS ns := by
  cases o <;> rfl
theorem walkN_pre : ∀ {f : Nat} {ns : List Str} {st : List (Nat × PyData)}, (∀ e ∈ st, goodH e.1 e.2 = true) → (st.map fun e => cnt e.1 e.2).sum ≤ f → walkN f ns (st.map (·.2)) = (st.flatMap fun e => pre e.1 e.2).foldl addS ns
  | 0, ns, [], _, _ => rfl
  | 0, ns, (n, d) :: st, hg, hc => by
    have h1 := hg (n, d) List.mem_cons_self
    exfalso
    rw [List.map_cons, List.sum_cons] at hc
    cases n with
    | zero => cases h1
    | succ n =>
      have : 1 ≤ cnt (n + 1) d := by
        unfold cnt
        split <;> omega
      have h3 : cnt (n + 1) d + (st.map fun e => cnt e.1 e.2).sum ≤ 0 := hc
      omega
  | f + 1, ns, [], _, _ => rfl
  | f + 1, ns, (n, d) :: st, hg, hc => by
    have h1 := hg (n, d) List.mem_cons_self
    cases n with
    | zero => cases h1
    | succ n =>
      have h1' : goodH (n + 1) d = true := h1
      unfold goodH at h1'
      cases hf : formD d with
      | none =>
        rw [hf] at h1'
        cases h1'
      | some op =>
        obtain ⟨o, ps⟩ := op
        rw [hf] at h1'
        have h2 : ∀ p ∈ ps, goodH n p = true := List.all_eq_true.mp h1'
        have e1 : ((n + 1, d) :: st).map (·.2) = d :: st.map (·.2) := rfl
        have e2 : walkN (f + 1) ns (d :: st.map (·.2)) = walkN f (addN ns o) (ps ++ st.map (·.2)) := by
          show (match formD d with
            | Option.none => ns
            | some (o, ps) => walkN f (addN ns o) (ps ++ st.map fun e : Nat × PyData => e.2)) = _
          rw [hf]
        have e3 : cnt (n + 1) d = 1 + (ps.map (cnt n)).sum := by
          unfold cnt
          rw [hf]
        have e4 : pre (n + 1) d = o.toList ++ ps.flatMap (pre n) := by
          unfold pre
          rw [hf]
        rw [List.map_cons, List.sum_cons] at hc
        have hc' : cnt (n + 1) d + (st.map fun e => cnt e.1 e.2).sum ≤ f + 1 := hc
        have e5 : ps ++ st.map (·.2) = ((ps.map fun p => (n, p)) ++ st).map (·.2) := by
          rw [List.map_append, List.map_map]
          congr 1
          have : ((fun e : Nat × PyData => e.2) ∘ fun p => (n, p)) = id := rfl
          rw [this, List.map_id]
        have e6 : ((ps.map fun p => (n, p)).map fun e : Nat × PyData => cnt e.1 e.2) = ps.map (cnt n) := by
          rw [List.map_map]
          rfl
        have ih := walkN_pre (f := f) (ns := addN ns o) (st := (ps.map fun p => (n, p)) ++ st) (fun e he => by
          rcases List.mem_append.mp he with he | he
          · obtain ⟨p, hp, rfl⟩ := List.mem_map.mp he
            exact h2 p hp
          · exact hg e (List.mem_cons_of_mem _ he)) (by
          rw [List.map_append, List.sum_append, e6]
          omega)
        have e7 : (ps.map fun p => (n, p)).flatMap (fun e : Nat × PyData => pre e.1 e.2) = ps.flatMap (pre n) := by
          rw [List.flatMap_map]
        rw [e1, e2, e5, ih, List.flatMap_append, List.flatMap_cons, e7, addN_fold]
        show _ = (pre (n + 1) d ++ _).foldl addS ns
        rw [e4]
        simp only [List.foldl_append]
theorem addS_filter {found acc : List Str} (x : Str) : addS (found ++ acc.filter fun y => decide (y ∉ found)) x = found ++ (addS acc x).filter fun y => decide (y ∉ found) := by
  unfold addS addN
  by_cases h : x ∈ found
  · have h1 : x ∈ found ++ acc.filter fun y => decide (y ∉ found) := List.mem_append_left _ h
    dsimp only
    rw [if_pos h1]
    by_cases h2 : x ∈ acc
    · rw [if_pos h2]
    · rw [if_neg h2, List.filter_append]
      have : [x].filter (fun y => decide (y ∉ found)) = [] := by simp [h]
      rw [this, List.append_nil]
  · dsimp only
    by_cases h2 : x ∈ acc
    · have h1 : x ∈ found ++ acc.filter fun y => decide (y ∉ found) := List.mem_append_right _ (List.mem_filter.mpr ⟨h2, by simp [h]⟩)
      rw [if_pos h1, if_pos h2]
    · have h1 : ¬ x ∈ found ++ acc.filter fun y => decide (y ∉ found) := fun q => by
        rcases List.mem_append.mp q with q | q
        · exact h q
        · exact h2 (List.mem_filter.mp q).1
      rw [if_neg h1, if_neg h2, List.filter_append]
      have : [x].filter (fun y => decide (y ∉ found)) = [x] := by simp [h]
      rw [this, List.append_assoc]
theorem fold_filter {found : List Str} : ∀ (xs : List Str) {acc : List Str}, xs.foldl addS (found ++ acc.filter fun y => decide (y ∉ found)) = found ++ (xs.foldl addS acc).filter fun y => decide (y ∉ found)
  | [], _ => rfl
  | x :: r, acc => by
    rw [List.foldl_cons, List.foldl_cons, addS_filter, fold_filter r]
theorem fold_from (found xs : List Str) : xs.foldl addS found = found ++ (xs.foldl addS []).filter fun y => decide (y ∉ found) := by
  have h := fold_filter (found := found) xs (acc := [])
  simpa using h
theorem namedR_pre : ∀ (n : Nat) (d : PyData), namedR n d = (pre n d).foldl addS []
  | 0, _ => rfl
  | n + 1, d => by
    unfold namedR pre
    cases hf : formD d with
    | none => rfl
    | some op =>
      obtain ⟨o, ps⟩ := op
      dsimp only
      have key : ∀ (ps : List PyData) (found : List Str), ps.foldl (fun found p => found ++ (namedR n p).filter fun x => decide (x ∉ found)) found = (ps.flatMap (pre n)).foldl addS found := by
        intro ps
        induction ps with
        | nil => exact fun _ => rfl
        | cons p r ih =>
          intro found
          rw [List.foldl_cons, ih, List.flatMap_cons, List.foldl_append, namedR_pre n p, ← fold_from]
      rw [key, List.foldl_append]
      congr 1
      cases o <;> rfl
theorem names_same {d : PyData} (h : placeD d = none) : namedR 10 d = namesD d := by
  obtain ⟨h1, h2⟩ := place_good h
  have e := walkN_pre (f := 61) (ns := []) (st := [(10, d)]) (fun e he => by rw [List.mem_singleton.mp he]; exact h1) (by
    show cnt 10 d + 0 ≤ 61
    omega)
  rw [namedR_pre]
  unfold namesD
  have e2 : ([(10, d)] : List (Nat × PyData)).map (·.2) = [d] := rfl
  rw [e2] at e
  rw [e, List.flatMap_cons, List.flatMap_nil, List.append_nil]
end Kn
set_option Elab.async false
set_option linter.all false
set_option maxRecDepth 100000
set_option maxHeartbeats 4000000
set_option pp.maxSteps 1200
namespace Kn
open PySem L2 TL
theorem shapeT_mem {z : Str} {v : Nat × Nat} (h : shapeT z = some v) : (z, v) ∈ shapeTab := PySem.mem_of_lookup h
theorem shape_small : ∀ p ∈ shapeTab, p.1.length ≤ 4 ∧ lowB p.1 = true ∧ p.2.1 ≤ 1 ∧ p.2.2 ≤ 3 := by decide +kernel
theorem shapeT_word {z : Str} {v : Nat × Nat} (h : shapeT z = some v) : z.length ≤ 4 ∧ lowB z = true ∧ v.1 ≤ 1 ∧ v.2 ≤ 3 := shape_small _ (shapeT_mem h)
/-- what a formed thing looks like -/
theorem formD_inv {d : PyData} {o : Option Str} {ps : List PyData} (h : formD d = some (o, ps)) : ∃ (w : Str) (b : Nat), ps.length = b ∧
    ((shapeT w = some (0, b) ∧ d = .tuple (.str w :: ps) ∧ o = none) ∨ ∃ x : Str, shapeT w = some (1, b) ∧ d = .tuple (.str w :: .str x :: ps) ∧ o = some x ∧ isNameS x = true) := by
  unfold formD at h
  split at h
  · rename_i w r
    split at h
    · rename_i b hs
      split at h
      · rename_i hl
        cases h
        exact ⟨w, b, hl, .inl ⟨hs, rfl, rfl⟩⟩
      · cases h
    · rename_i a b hs
      split at h
      · rename_i x qs
        split at h
        · rename_i hl
          cases h
          have := (shapeT_word hs).2.2.1
          have e : a = 0 := by
            have h2 : a + 1 ≤ 1 := this
            omega
          subst e
          exact ⟨w, b, hl.1, .inr ⟨x, hs, rfl, rfl, hl.2⟩⟩
        · cases h
      · cases h
    · cases h
  · cases h
theorem low_codes {z : Str} (h : lowB z = true) : ∀ c ∈ z.cps.toList, c < 16 ^ 8 := fun c hc => by
  unfold lowB at h
  have q := List.all_eq_true.mp h c hc
  simp only [Bool.and_eq_true, decide_eq_true_eq] at q
  omega
theorem good_all {n : Nat} (ih : ∀ d, goodH n d = true → pureD d = true ∧ PyData.showable d = true ∧ d.depth ≤ n ∧ d.hasDict = false ∧ d.canLay0 = true ∧ d.shown.length + 2 ≤ 200 * cnt n d) :
    ∀ ps : List PyData, (∀ p ∈ ps, goodH n p = true) → pureAll ps = true ∧ PyData.showableAll ps = true ∧ PyData.depthAll ps ≤ n ∧ PyData.hasDictAll ps = false ∧ PyData.canLayAll0 ps = true ∧ piled (PyData.shownAll ps) ≤ 200 * (ps.map (cnt n)).sum
  | [], _ => ⟨rfl, rfl, Nat.zero_le _, rfl, rfl, Nat.zero_le _⟩
  | p :: r, h => by
    obtain ⟨a1, a2, a3, a4, a5, a6⟩ := ih p (h p List.mem_cons_self)
    obtain ⟨b1, b2, b3, b4, b5, b6⟩ := good_all ih r fun q hq => h q (List.mem_cons_of_mem _ hq)
    refine ⟨?_, ?_, ?_, ?_, ?_, ?_⟩
    · simp only [pureAll, a1, b1, Bool.and_self]
    · simp only [PyData.showableAll, a2, b2, Bool.and_self]
    · simp only [PyData.depthAll]
      omega
    · simp only [PyData.hasDictAll, a4, b4, Bool.or_self]
    · simp only [PyData.canLayAll0, a5, b5, Bool.and_self]
    · simp only [PyData.shownAll, List.map_cons, List.sum_cons]
      rw [piled_cons]
      omega
theorem isName_low {x : Str} (h : isNameS x = true) : lowB x = true ∧ 1 ≤ x.length ∧ x.length ≤ 8 := by
  unfold isNameS at h
  simp only [Bool.and_eq_true, decide_eq_true_eq] at h
  exact ⟨h.2, h.1.1, h.1.2⟩
theorem good_show : ∀ (n : Nat) (d : PyData), goodH n d = true → pureD d = true ∧ PyData.showable d = true ∧ d.depth ≤ n ∧ d.hasDict = false ∧ d.canLay0 = true ∧ d.shown.length + 2 ≤ 200 * cnt n d
  | 0, _, h => by cases h
  | n + 1, d, h => by
    unfold goodH at h
    cases hf : formD d with
    | none =>
      rw [hf] at h
      cases h
    | some op =>
      obtain ⟨o, ps⟩ := op
      rw [hf] at h
      have hg : ∀ p ∈ ps, goodH n p = true := List.all_eq_true.mp h
      obtain ⟨b1, b2, b3, b4, b5, b6⟩ := good_all (good_show n) ps hg
      have hc : cnt (n + 1) d = 1 + (ps.map (cnt n)).sum := by
        unfold cnt
        rw [hf]
      rw [hc]
      obtain ⟨w, b, hl, q⟩ := formD_inv hf
      rcases q with ⟨hs, rfl, rfl⟩ | ⟨x, hs, rfl, rfl, hx⟩
      · obtain ⟨w1, w2, _⟩ := shapeT_word hs
        have r1 := StrLaws.reprText_len w (low_codes w2)
        refine ⟨?_, ?_, ?_, ?_, ?_, ?_⟩
        · simp only [pureD, pureAll, b1, Bool.and_self]
        · simp only [PyData.showable, PyData.showableAll, b2, Bool.and_self]
        · simp only [PyData.depth, PyData.depthAll]
          omega
        · simp only [PyData.hasDict, PyData.hasDictAll, b4, Bool.or_self]
        · simp only [PyData.canLay0, PyData.canLayAll0, b5, strOk_low w2, Bool.and_self]
        · simp only [PyData.shown, PyData.shownAll]
          have t := fmt_text (reprText w :: PyData.shownAll ps)
          rw [piled_cons] at t
          omega
      · obtain ⟨w1, w2, _⟩ := shapeT_word hs
        obtain ⟨x1, x2, x3⟩ := isName_low hx
        have r1 := StrLaws.reprText_len w (low_codes w2)
        have r2 := StrLaws.reprText_len x (low_codes x1)
        refine ⟨?_, ?_, ?_, ?_, ?_, ?_⟩
        · simp only [pureD, pureAll, b1, Bool.and_self]
        · simp only [PyData.showable, PyData.showableAll, b2, Bool.and_self]
        · simp only [PyData.depth, PyData.depthAll]
          omega
        · simp only [PyData.hasDict, PyData.hasDictAll, b4, Bool.or_self]
        · simp only [PyData.canLay0, PyData.canLayAll0, b5, strOk_low w2, strOk_low x1, Bool.and_self]
        · simp only [PyData.shown, PyData.shownAll]
          have t := fmt_text (reprText w :: reprText x :: PyData.shownAll ps)
          rw [piled_cons, piled_cons] at t
          omega
/-! ### letters -/
theorem asc : ∀ c ∈ List.range 128, (Unicode.isAlpha c && !(Unicode.isUpper c || Unicode.isTitle c)) = (decide (97 ≤ c) && decide (c ≤ 122)) ∧ (97 ≤ c ∧ c ≤ 122 → Unicode.isLower c = true) := by decide +kernel
theorem name_ok (z : Str) : (Txt.isascii z && (Txt.isalpha z && Txt.islower z)) = (decide (1 ≤ z.length) && lowB z) := by
  have hs : ∀ f : Nat → Bool, z.cps.all f = z.cps.toList.all f := fun f => by simp
  have ha : ∀ f : Nat → Bool, z.cps.any f = z.cps.toList.any f := fun f => by simp
  have hl : z.length = z.cps.toList.length := by simp [Str.length]
  unfold Txt.isascii Txt.isalpha Txt.islower lowB
  rw [hs, hs, ha, ha, hl]
  generalize z.cps.toList = l
  have key : (l.all (fun c => decide (c < 128)) && (l.all Unicode.isAlpha && !l.any fun c => Unicode.isUpper c || Unicode.isTitle c)) = l.all fun c => decide (97 ≤ c) && decide (c ≤ 122) := by
    induction l with
    | nil => rfl
    | cons c r ih =>
      rw [List.all_cons, List.all_cons, List.any_cons, List.all_cons, ← ih]
      by_cases h : c < 128
      · obtain ⟨h1, _⟩ := asc c (List.mem_range.mpr h)
        rw [← h1, decide_eq_true h]
        cases Unicode.isAlpha c <;> cases (Unicode.isUpper c || Unicode.isTitle c) <;> cases r.all (fun c => decide (c < 128)) <;> cases r.all Unicode.isAlpha <;> cases r.any (fun c => Unicode.isUpper c || Unicode.isTitle c) <;> rfl
      · have h2 : decide (c ≤ 122) = false := decide_eq_false (by omega)
        rw [decide_eq_false h, h2, Bool.and_false, Bool.false_and, Bool.false_and, Bool.false_and]
  cases l with
  | nil => rfl
  | cons c r =>
    cases hk : ((c :: r).all fun c => decide (97 ≤ c) && decide (c ≤ 122)) with
    | true =>
      rw [hk] at key
      simp only [Bool.and_eq_true] at key
      obtain ⟨k1, k2, k3⟩ := key
      have hc := List.all_eq_true.mp hk c List.mem_cons_self
      simp only [Bool.and_eq_true, decide_eq_true_eq] at hc
      have lo : Unicode.isLower c = true := (asc c (List.mem_range.mpr (by omega))).2 hc
      have k4 : (c :: r).any Unicode.isLower = true := by
        rw [List.any_cons, lo, Bool.true_or]
      rw [k1, k2, k3, k4]
      simp
    | false =>
      rw [hk] at key
      rw [Bool.and_false]
      have bb : ∀ A B C L P : Bool, (A && (B && C)) = false → (A && ((P && B) && (L && C))) = false := by decide
      exact bb _ _ _ _ _ key
/-! ### the table of shapes -/
/-- a tuple of the written part -/
def TupW (K : PySem.W.Frag) (t : Addr) (xs : List V) : Prop := ∃ (o : Obj) (its : Array Value) (n : Nat), K.lookup t = some o ∧ o.cls = .type "tuple" ∧ o.data = .seq its n ∧ its.size ≤ sizeLine ∧ Vals xs its.toList
theorem TupW.seq {K : PySem.W.Frag} {H : Hp} {t : Addr} {xs : List V} (h : TupW K t xs) : SqT K H t xs := .inr h
structure ShpT (K : PySem.W.Frag) (w : World) (a : Addr) : Prop where
  at_ : ∃ es n, K.lookup a = some ⟨.type "dict", none, .dict es n, #[]⟩ ∧ PySem.W.KeysLit w.params es.toList
  low : (a == sysModules) = false
  yes : ∀ z x y, shapeT z = some (x, y) → ∃ t, PySem.W.nsIn K a z = some (some (.ref t)) ∧ TupW K t [.int (x : Nat), .int (y : Nat)]
  no : ∀ z, shapeT z = none → PySem.W.nsIn K a z = some none
/-- d.get(text), d a dict of the written part: a tuple or None -/
def tKGet (K : PySem.W.Frag) (w : World) (td ty : TE) : TE := fun σ H Q => td σ H fun x H1 => ∃ a, x = .ref a ∧ ShpT K w a ∧ ty σ H1 fun y H2 => ∃ z, y = .str z ∧
  (shapeT z = none → Q .non H2) ∧ ∀ p q, shapeT z = some (p, q) → ∀ t, TupW K t [.int (p : Nat), .int (q : Nat)] → Q (.ref t) H2
section
variable {X : Cx} {o e : Expr} {td ty : TE} {apos cpos : Pos}
theorem pe_kget (ho : PE X o td) (he : PE X e ty) (m : M1 X o "get" apos e cpos) :
    PE X (.Call (.Attribute o "get" apos) [e] [] cpos) (tKGet X.K X.w td ty) := by
  constructor
  intro pins s σ H Q I h
  refine wpAny_Call_method m.base m.few m.line PySem.F.plainAttrs_dict PySem.F.slot_dict_get PySem.F.type_dict_get
    (thn (ho.run pins s σ H _ I h) fun u s1 q0 => ?_)
  obtain ⟨x, H1, I1, rx, a, ex, T, q1⟩ := q0
  subst ex
  obtain rfl : u = Value.ref a := rx
  obtain ⟨es, n, hl, hk⟩ := T.at_
  have mp := PySem.W.mapOf_K (prog := X.prog) (w := X.w) I1.kIn hl hk
  refine ⟨mp.typeIs, fun b eb => ?_, ?_⟩
  · cases eb
    exact ⟨_, I1.kIn _ _ hl, rfl⟩
  rw [m.trees]
  refine Calls.callWith_builtin rfl (Calls.evalArgs_plain
    (Calls.spliced_cons (thn (he.run pins s1 σ H1 _ I1 q1) fun iv s2 q2 => Calls.spliced_nil ?_)))
  obtain ⟨y, H2, I2, ry, z, ey, qn, qs⟩ := q2
  subst ey
  obtain ⟨t, rfl⟩ := ry
  have mp2 := PySem.W.mapOf_K (prog := X.prog) (w := X.w) I2.kIn hl hk
  have key := strKind_is X.prog X.w z t
  cases hz : shapeT z with
  | none =>
    have f0 := PySem.W.find_K hl (T.no z hz)
    refine call_meetsIn PySem.F.slot_dict_get mp2.typeIs PySem.F.entry_dict_get
      (PySem.F.args_dict_get_2 _ _) (meets_dict_get (strKind X.prog X.w) a key T.low) ⟨_, mp2, ?_⟩
    rw [f0]
    exact ⟨.non, H2, I2.tok _, rfl, qn hz⟩
  | some v =>
    obtain ⟨p, q⟩ := v
    obtain ⟨tt, e1, e2⟩ := T.yes z p q hz
    have f0 := PySem.W.find_K hl e1
    refine call_meetsIn PySem.F.slot_dict_get mp2.typeIs PySem.F.entry_dict_get
      (PySem.F.args_dict_get_2 _ _) (meets_dict_get (strKind X.prog X.w) a key T.low) ⟨_, mp2, ?_⟩
    rw [f0]
    exact ⟨.ref tt, H2, I2.tok _, rfl, qs p q hz tt e2⟩
end
end Kn
set_option Elab.async false
set_option linter.all false
set_option maxRecDepth 100000
set_option maxHeartbeats 4000000
set_option pp.maxSteps 1200
namespace Kn
open PySem L2 TL PySem.Spec PyProof.Rows
/-! ### a dict of the module, asked by a text that may not be in it -/
/-- at d stands a written dict; what it holds at a text -/
structure KTab (K : PySem.W.Frag) (w : World) (d : Addr) (g : Str → Option V) : Prop where
  at_ : ∃ es n, KDict K w d es n
  get : ∀ z, ∃ r, PySem.W.nsIn K d z = some r ∧ match g z with
    | none => r = none
    | some v => ∃ u, r = some u ∧ RelV v u
def tKGet2 (K : PySem.W.Frag) (w : World) (td ty tx : TE) : TE := fun σ H Q => td σ H fun x H1 => ∃ d g, x = .ref d ∧ KTab K w d g ∧ ty σ H1 fun y H2 => tx σ H2 fun x3 H3 => ∃ z, y = .str z ∧ Q ((g z).getD x3) H3
def rInK (K : PySem.W.Frag) (w : World) : R2 := fun x y H Q => ∃ z d g, x = .str z ∧ y = .ref d ∧ KTab K w d g ∧ Q (.bl (g z).isSome) H
section
variable {X : Cx} {o e f : Expr} {td ty tx : TE} {apos cpos : Pos}
theorem pe_kget2 (ho : PE X o td) (he : PE X e ty) (hf : PE X f tx) (m : M2 X o "get" apos e f cpos) : PE X (.Call (.Attribute o "get" apos) [e, f] [] cpos) (tKGet2 X.K X.w td ty tx) := by
  constructor
  intro pins s σ H Q I h
  refine wpAny_Call_method m.base m.few m.line PySem.F.plainAttrs_dict PySem.F.slot_dict_get PySem.F.type_dict_get
    (thn (ho.run pins s σ H _ I h) fun u s1 q0 => ?_)
  obtain ⟨x, H1, I1, rx, d, g, ex, T, q1⟩ := q0
  subst ex
  obtain rfl : u = Value.ref d := rx
  obtain ⟨es, n, D⟩ := T.at_
  have mp := PySem.W.mapOf_K (prog := X.prog) (w := X.w) I1.kIn D.at_ D.lit
  refine ⟨mp.typeIs, fun b eb => ?_, ?_⟩
  · cases eb
    exact ⟨_, I1.kIn _ _ D.at_, rfl⟩
  rw [m.trees]
  refine Calls.callWith_builtin rfl (Calls.evalArgs_plain (Calls.spliced_cons (thn (he.run pins s1 σ H1 _ I1 q1) fun iv s2 ⟨y, H2, I2, ry, q2⟩ =>
    Calls.spliced_cons (thn (hf.run pins s2 σ H2 _ I2 q2) fun fv s3 ⟨x3, H3, I3, rz, z, ey, q3⟩ => Calls.spliced_nil ?_))))
  subst ey
  obtain ⟨t, rfl⟩ := ry
  have mp2 := PySem.W.mapOf_K (prog := X.prog) (w := X.w) I3.kIn D.at_ D.lit
  have key := strKind_is X.prog X.w z t
  obtain ⟨r, e1, e2⟩ := T.get z
  have f0 := PySem.W.find_K D.at_ e1
  refine call_meetsIn PySem.F.slot_dict_get mp2.typeIs PySem.F.entry_dict_get (PySem.F.args_dict_get_3 _ _ _) (meets_dict_get_default (strKind X.prog X.w) d key D.low fv) ⟨_, mp2, ?_⟩
  rw [f0]
  cases hg : g z with
  | none =>
    rw [hg] at e2 q3
    have e2 : r = none := e2
    subst e2
    exact ⟨x3, H3, I3.tok _, rz, q3⟩
  | some v =>
    rw [hg] at e2 q3
    obtain ⟨u, rfl, rv⟩ := e2
    exact ⟨v, H3, I3.tok _, rv, q3⟩
theorem op_in_ktab : OpR X (compareOp .In) (rInK X.K X.w) := by
  intro pins s σ H x y v u Q I rx ry h
  obtain ⟨z, d, g, rfl, rfl, T, q⟩ := h
  obtain ⟨es, n, D⟩ := T.at_
  obtain ⟨r, e1, e2⟩ := T.get z
  have e : r.isSome = (g z).isSome := by
    cases hg : g z with
    | none =>
      rw [hg] at e2
      have e2 : r = none := e2
      rw [e2]
      rfl
    | some v =>
      rw [hg] at e2
      obtain ⟨u, rfl, _⟩ := e2
      rfl
  exact op_in_kd D pins s σ H _ _ _ _ Q I rx ry ⟨z, r, rfl, rfl, e1, by rw [e]; exact q⟩
end
end Kn
set_option Elab.async false
set_option linter.all false
set_option maxRecDepth 100000
set_option maxHeartbeats 4000000
set_option pp.maxSteps 1200
namespace Kn
open PySem L2 TL
section
variable {P : Program} {w : World} {K : PySem.W.Frag} {mg : Str → Option Value} {base : Heap}
/-! ### is_name -/
theorem scIsName : FnScope ["thing"] ["thing"] (defScope sIsName) := ⟨rfl, rfl, rfl, by decide +kernel, rfl, by decide +kernel, by decide +kernel⟩
def spIsName (K : PySem.W.Frag) : Sp := fun vs H Q _ => ∃ (s l : Addr) (v : V) (d : PyData), vs = [v] ∧ Tg K s l H v d ∧ Q (.bl (isNameD d)) H
theorem ok_isname {f : Addr} {fd : FuncData} (F : Fun K "is_name" "is_name" sIsName f fd) (mi : mg "isinstance" = none) (ms : mg "str" = none) (ml : mg "len" = none) {tk : Tok} (mL : mg "MOST_LETTERS" = some (.int 8 tk)) : FnOk P w K mg base CX0 1 f fd ["thing"] (spIsName K) := by
  refine F.ok scIsName (fun vs H Q E h => ?_) (fun cdv A outer s H vs Q E hr h => ?_)
  · obtain ⟨s, l, v, d, rfl, _⟩ := h
    rfl
  obtain ⟨s, l, v, d, rfl, hv, q⟩ := h
  refine ⟨_, pss_cons (ps_if (PW.pt (pw_or (pt_not (pt_val (pe_callB call_isi (by rfl) mi PyProof.Rows.boot_isinstance (pa_cons (pv 0) (pa_cons (pe_bltn (v := .ty "str") (by rfl) ms PyProof.Rows.boot_str rfl) pa_nil)))))
      (pw_or1 (pt_not (pt_chain op_le op_le pe_int (pe_callB call_len (by rfl) ml PySem.boot_len (pa_cons (pv 0) pa_nil)) (pe_glob (v := .int 8) rfl mL ⟨_, rfl⟩))))))
      (pss_one (ps_ret pe_bl)) pss_nil)
    (pss_one (ps_ret (pe_and (pe_bm0 PySem.F.plainAttrs_str PySem.F.slot_str_isascii PySem.F.type_str_isascii mt_isascii (pv 0)) (pe_and (pe_bm0 PySem.F.plainAttrs_str PySem.F.slot_str_isalpha PySem.F.type_str_isalpha mt_isalpha (pv 0)) (pe_one (pe_bm0 PySem.F.plainAttrs_str PySem.F.slot_str_islower PySem.F.type_str_islower mt_islower (pv 0))))))), ?_⟩
  refine ⟨_, rfl, ?_⟩
  obtain ⟨ty, ty1, _, ty2⟩ := tg_ty hv
  refine ⟨v, .ty "str", .type ty, .type "str", isStr d, rfl, .ty _, ty1, kit_ty ty2, _, rfl, ?_⟩
  cases hv with
  | str z hz =>
    have hz2 : z.length ≤ sizeLine := Nat.le_of_lt (small1000 (okS_len hz))
    have e : isNameD (.str z) = (decide (1 ≤ z.length) && decide (z.length ≤ 8) && lowB z) := rfl
    refine iteF ⟨_, rfl, _, _, rfl, ⟨hz2, rfl⟩, _, _, rfl, rfl, _, rfl, ?_⟩
    by_cases h1 : (1 : Int) ≤ (z.length : Int)
    · rw [decide_eq_true h1]
      refine iteT ⟨_, _, rfl, rfl, _, rfl, ?_⟩
      by_cases h2 : (z.length : Int) ≤ 8
      · rw [decide_eq_true h2]
        refine iteF ?_
        have e2 : isNameD (.str z) = (Txt.isascii z && (Txt.isalpha z && Txt.islower z)) := by
          rw [name_ok, e, decide_eq_true (show z.length ≤ 8 by omega), Bool.and_true]
        rw [e2] at q
        refine ⟨_, rfl, rfl, z, rfl, rfl, trivial, _, rfl, ?_⟩
        cases ha : Txt.isascii z with
        | false =>
          rw [ha] at q
          exact iteF q
        | true =>
          rw [ha] at q
          refine iteT ⟨_, rfl, rfl, z, rfl, rfl, trivial, _, rfl, ?_⟩
          cases hb : Txt.isalpha z with
          | false =>
            rw [hb] at q
            exact iteF q
          | true =>
            rw [hb] at q
            exact iteT ⟨_, rfl, rfl, z, rfl, rfl, trivial, q⟩
      · rw [decide_eq_false h2]
        refine iteT ?_
        rw [e, decide_eq_false (show ¬ z.length ≤ 8 by omega), Bool.and_false, Bool.false_and] at q
        exact q
    · rw [decide_eq_false h1]
      refine iteF ⟨_, rfl, ?_⟩
      refine iteT ?_
      rw [e, decide_eq_false (show ¬ 1 ≤ z.length by omega), Bool.false_and, Bool.false_and] at q
      exact q
  | _ => exact iteT q
/-! ### is_formed, name_in, parts_of -/
theorem form_some {w : Str} {r : List PyData} {p q : Nat} (hs : shapeT w = some (p, q)) :
    (formD (.tuple (.str w :: r))).isSome = (decide (r.length = p + q) && (decide (p = 0) || match r with | y :: _ => isNameD y | [] => false)) := by
  have hp : p ≤ 1 := (shapeT_word hs).2.2.1
  unfold formD
  dsimp only
  rw [hs]
  cases p with
  | zero =>
    dsimp only
    by_cases h : r.length = q
    · rw [if_pos h, decide_eq_true (show r.length = 0 + q by omega)]
      rfl
    · rw [if_neg h, decide_eq_false (show ¬ r.length = 0 + q by omega)]
      rfl
  | succ p =>
    have e : p = 0 := by omega
    subst e
    dsimp only
    cases r with
    | nil =>
      have : decide (([] : List PyData).length = 0 + 1 + q) = false := decide_eq_false (by
        rw [List.length_nil]
        omega)
      rw [this]
      rfl
    | cons y ps =>
      cases y with
      | str x =>
        dsimp only
        have e2 : decide ((PyData.str x :: ps).length = 0 + 1 + q) = decide (ps.length = q) := by
          rw [List.length_cons]
          by_cases h : ps.length = q
          · rw [decide_eq_true h, decide_eq_true (by omega)]
          · rw [decide_eq_false h, decide_eq_false (by omega)]
        rw [e2]
        show _ = (decide (ps.length = q) && (false || isNameS x))
        by_cases h : ps.length = q ∧ isNameS x = true
        · rw [if_pos h, decide_eq_true h.1, h.2]
          rfl
        · rw [if_neg h, Bool.false_or]
          cases hx : isNameS x with
          | false => simp
          | true =>
            have : ¬ ps.length = q := fun z => h ⟨z, hx⟩
            rw [decide_eq_false this]
            rfl
      | _ => simp [isNameD]
theorem form_no {w : Str} {r : List PyData} (hs : shapeT w = none) : formD (.tuple (.str w :: r)) = none := by
  unfold formD
  dsimp only
  rw [hs]
theorem scIsFormed : FnScope ["part", "shape"] ["part"] (defScope sIsFormed) := ⟨rfl, rfl, rfl, by decide +kernel, rfl, by decide +kernel, by decide +kernel⟩
def spIsFormed (K : PySem.W.Frag) : Sp := fun vs H Q _ => ∃ (s l : Addr) (v : V) (d : PyData), vs = [v] ∧ Tg K s l H v d ∧ Q (.bl (formD d).isSome) H
theorem ok_isformed {f aS : Addr} {fd : FuncData} (F : Fun K "is_formed" "is_formed" sIsFormed f fd) (N : Def P w K mg base CX0 "is_name" 1 ["thing"] (spIsName K)) (mi : mg "isinstance" = none) (ms : mg "str" = none) (mt : mg "tuple" = none) (ml : mg "len" = none)
    (mS : mg "SHAPES" = some (.ref aS)) (T : ShpT K w aS) : FnOk P w K mg base CX0 2 f fd ["part"] (spIsFormed K) := by
  refine F.ok scIsFormed (fun vs H Q E h => ?_) (fun cdv A outer s H vs Q E hr h => ?_)
  · obtain ⟨s, l, v, d, rfl, _⟩ := h
    rfl
  obtain ⟨s, l, v, d, rfl, hv, q⟩ := h
  refine ⟨_, pss_cons (ps_if (PW.pt (pw_or (pt_not (pt_val (pe_callB call_isi (by rfl) mi PyProof.Rows.boot_isinstance (pa_cons (pv 0) (pa_cons (pe_bltn (v := .ty "tuple") (by rfl) mt PyProof.Rows.boot_tuple rfl) pa_nil)))))
      (pw_or (pt_cmpR op_eq (pe_callB call_len_seq (by rfl) ml PySem.boot_len (pa_cons (pv 0) pa_nil)) pe_int (nomark _))
      (pw_or1 (pt_not (pt_val (pe_callB call_isi (by rfl) mi PyProof.Rows.boot_isinstance (pa_cons (pe_ix ix_tup (pv 0) pe_int (fun _ _ => rfl)) (pa_cons (pe_bltn (v := .ty "str") (by rfl) ms PyProof.Rows.boot_str rfl) pa_nil))))))))) (pss_one (ps_ret pe_bl)) pss_nil)
    (pss_cons (ps_set (i := 1) scIsFormed.nd rfl (Or.inl rfl) (pe_kget (pe_glob (v := .ref aS) rfl mS rfl) (pe_ix ix_tup (pv 0) pe_int (fun _ _ => rfl)) ⟨rfl, rfl, rfl, rfl⟩))
    (pss_cons (ps_if (PW.pt (pw_or (pt_cmpR op_isN (pv 1) pe_non (nomark _)) (pw_or1 (pt_cmpR op_ne (pe_callB call_len_seq (by rfl) ml PySem.boot_len (pa_cons (pv 0) pa_nil)) (pe_op op_add (pe_op op_add pe_int (pe_ix ix_tup (pv 1) pe_int (fun _ _ => rfl))) (pe_ix ix_tup (pv 1) pe_int (fun _ _ => rfl))) (nomark _))))) (pss_one (ps_ret pe_bl)) pss_nil)
    (pss_one (ps_ret (pe_or (pe_cmpR op_eq (pe_ix ix_tup (pv 1) pe_int (fun _ _ => rfl)) pe_int (nomark _)) (pe_one (pe_def N hr rfl (pa_cons (pe_ix ix_tup (pv 0) pe_int (fun _ _ => rfl)) pa_nil)))))))), ?_⟩
  obtain ⟨ty, ty1, ty2, _⟩ := tg_ty hv
  refine ⟨_, rfl, v, .ty "tuple", .type ty, .type "tuple", isTup d, rfl, .ty _, ty1, kit_ty ty2, _, rfl, ?_⟩
  cases hv with
  | @tup a xs ds ha hxs =>
    refine iteF ⟨_, rfl, a, _, rfl, .inr ha, rfl, _, rfl, ?_⟩
    cases hxs with
    | nil => exact iteT q
    | @cons x0 xr d0 dr h0 hr0 =>
      have e0 : decide (V.int (((x0 :: xr).length : Nat) : Int) = V.int 0) = false := decide_eq_false fun z => by
        have := V.int.inj z
        rw [List.length_cons] at this
        omega
      rw [e0]
      refine iteF ⟨_, rfl, a, _, _, x0, rfl, rfl, ha, atI_nat (j := 0) rfl, ?_⟩
      obtain ⟨tz, tz1, _, tz2⟩ := tg_ty h0
      refine ⟨x0, .ty "str", .type tz, .type "str", isStr d0, rfl, .ty _, tz1, kit_ty tz2, _, rfl, ?_⟩
      cases h0 with
      | str w hw =>
        refine iteF ?_
        refine ⟨aS, rfl, T, _, rfl, a, _, _, _, rfl, rfl, ha, atI_nat (j := 0) rfl, w, rfl, fun hs => ?_, fun p p2 hs t ht => ?_⟩
        · rw [form_no hs] at q
          exact ⟨_, rfl, rfl, _, rfl, iteT q⟩
        · have hl := hr0.len
          have hf := form_some (r := dr) hs
          refine ⟨_, rfl, rfl, _, rfl, iteF ?_⟩
          refine ⟨_, rfl, a, _, rfl, .inr ha, _, rfl, t, _, _, _, rfl, rfl, ht.seq, atI_nat (j := 0) rfl, _, _, rfl, rfl, _, rfl, t, _, _, _, rfl, rfl, ht.seq, atI_nat (j := 1) rfl, _, _, rfl, rfl, rfl, _, rfl, ?_⟩
          by_cases hlen : dr.length = p + p2
          · have e1 : decide (V.int (((V.str w :: xr).length : Nat) : Int) = V.int (1 + (p : Int) + (p2 : Int))) = true := decide_eq_true (by
              rw [List.length_cons]
              congr 1
              omega)
            have e1' : (!decide (V.int (((V.str w :: xr).length : Nat) : Int) = V.int (1 + (p : Int) + (p2 : Int)))) = false := by rw [e1]; rfl
            rw [e1']
            refine iteF ?_
            rw [hf, decide_eq_true hlen, Bool.true_and] at q
            refine ⟨_, rfl, t, _, _, _, rfl, rfl, ht.seq, atI_nat (j := 0) rfl, rfl, _, rfl, ?_⟩
            by_cases hp : p = 0
            · rw [decide_eq_true hp, Bool.true_or] at q
              rw [decide_eq_true (show V.int (p : Int) = V.int 0 by rw [hp]; rfl)]
              exact iteT q
            · rw [decide_eq_false hp, Bool.false_or] at q
              rw [decide_eq_false (show ¬ V.int (p : Int) = V.int 0 from fun z => hp (by have := V.int.inj z; omega))]
              refine iteF ?_
              cases hr0 with
              | nil =>
                rw [List.length_nil] at hlen
                omega
              | @cons x1 xs1 d1 dr1 h1 hr1 =>
                exact ⟨_, rfl, a, _, _, x1, rfl, rfl, ha, atI_nat (j := 1) rfl, s, l, x1, d1, rfl, h1, q⟩
          · have e1 : decide (V.int (((V.str w :: xr).length : Nat) : Int) = V.int (1 + (p : Int) + (p2 : Int))) = false := decide_eq_false (fun z => by
              have := V.int.inj z
              rw [List.length_cons] at this
              omega)
            have e1' : (!decide (V.int (((V.str w :: xr).length : Nat) : Int) = V.int (1 + (p : Int) + (p2 : Int)))) = true := by rw [e1]; rfl
            rw [e1']
            rw [hf, decide_eq_false hlen, Bool.false_and] at q
            exact iteT q
      | _ => exact iteT q
  | _ => exact iteT q
end
end Kn
set_option Elab.async false
set_option linter.all false
set_option maxRecDepth 100000
set_option maxHeartbeats 4000000
set_option pp.maxSteps 1200
namespace Kn
open PySem L2 TL
section
variable {P : Program} {w : World} {K : PySem.W.Frag} {mg : Str → Option Value} {base : Heap}
theorem ShpT.kd {a : Addr} {z : Str} {p q : Nat} (T : ShpT K w a) (hs : shapeT z = some (p, q)) : ∃ t, KDct K w a z (.ref t) ∧ TupW K t [.int (p : Nat), .int (q : Nat)] := by
  obtain ⟨es, n, h1, h2⟩ := T.at_
  obtain ⟨t, h3, h4⟩ := T.yes z p q hs
  exact ⟨t, ⟨es, n, .ref t, h1, h2, h3, rfl⟩, h4⟩
def nameV : Option Str → V
  | none => .non
  | some x => .str x
theorem scNameIn : FnScope ["part"] ["part"] (defScope sNameIn) := ⟨rfl, rfl, rfl, by decide +kernel, rfl, by decide +kernel, by decide +kernel⟩
def spNameIn (K : PySem.W.Frag) : Sp := fun vs H Q _ => ∃ (s l : Addr) (v : V) (d : PyData) (o : Option Str) (ps : List PyData), vs = [v] ∧ Tg K s l H v d ∧ formD d = some (o, ps) ∧ Q (nameV o) H
theorem ok_namein {f aS : Addr} {fd : FuncData} (F : Fun K "name_in" "name_in" sNameIn f fd) (mS : mg "SHAPES" = some (.ref aS)) (T : ShpT K w aS) : FnOk P w K mg base CX0 1 f fd ["part"] (spNameIn K) := by
  refine F.ok scNameIn (fun vs H Q E h => ?_) (fun cdv A outer s H vs Q E hr h => ?_)
  · obtain ⟨s, l, v, d, o, ps, rfl, _⟩ := h
    rfl
  obtain ⟨s, l, v, d, o, ps, rfl, hv, hf, q⟩ := h
  refine ⟨_, pss_one (ps_ret (pe_ifExp (pt_cmpR op_eq (pe_ix ix_tup (pe_ix ix_kdict (pe_glob (v := .ref aS) rfl mS rfl) (pe_ix ix_tup (pv 0) pe_int (fun _ _ => rfl)) (fun _ _ => rfl)) pe_int (fun _ _ => rfl)) pe_int (nomark _)) (pe_ix ix_tup (pv 0) pe_int (fun _ _ => rfl)) pe_non)), ?_⟩
  obtain ⟨z, b, hl, ⟨hs, rfl, rfl⟩ | ⟨x, hs, rfl, rfl, hx⟩⟩ := formD_inv hf
  · cases hv with
    | @tup a xs ds ha hxs =>
      cases hxs with
      | @cons x0 xr d0 dr h0 hr0 =>
        cases h0
        obtain ⟨t, k1, k2⟩ := T.kd hs
        refine ⟨_, rfl, a, _, _, _, rfl, rfl, ha, atI_nat (j := 0) rfl, aS, z, .ref t, rfl, rfl, k1, t, _, _, _, rfl, rfl, k2.seq, atI_nat (j := 0) rfl, rfl, _, rfl, ?_⟩
        exact iteF q
  · cases hv with
    | @tup a xs ds ha hxs =>
      cases hxs with
      | @cons x0 xr d0 dr h0 hr0 =>
        cases h0
        cases hr0 with
        | @cons x1 xr1 d1 dr1 h1 hr1 =>
          cases h1
          obtain ⟨t, k1, k2⟩ := T.kd hs
          refine ⟨_, rfl, a, _, _, _, rfl, rfl, ha, atI_nat (j := 0) rfl, aS, z, .ref t, rfl, rfl, k1, t, _, _, _, rfl, rfl, k2.seq, atI_nat (j := 0) rfl, rfl, _, rfl, ?_⟩
          exact iteT ⟨_, rfl, a, _, _, _, rfl, rfl, ha, atI_nat (j := 1) rfl, q⟩
theorem scPartsOf : FnScope ["part"] ["part"] (defScope sPartsOf) := ⟨rfl, rfl, rfl, by decide +kernel, rfl, by decide +kernel, by decide +kernel⟩
def spPartsOf (K : PySem.W.Frag) : Sp := fun vs H Q _ => ∃ (s l : Addr) (v : V) (d : PyData) (o : Option Str) (ps : List PyData), vs = [v] ∧ Tg K s l H v d ∧ formD d = some (o, ps) ∧
  ∀ (H' : Hp) (p : Addr) (xs : List V), Same H H' → SqT K H' p xs → TgAll K s l H' xs ps → Q (.ref p) H'
theorem cut_drop {xs : List V} {j : Nat} (h : j ≤ xs.length) : cutV xs (some (j : Int)) none = xs.drop j := by
  unfold cutV
  rw [HT.sIx_nat, HT.sIx_none, Nat.min_eq_left h]
  have e : xs.length - j = (xs.drop j).length := by rw [List.length_drop]
  rw [e, List.take_length]
theorem ok_partsof {f aS : Addr} {fd : FuncData} (F : Fun K "parts_of" "parts_of" sPartsOf f fd) (mS : mg "SHAPES" = some (.ref aS)) (T : ShpT K w aS) : FnOk P w K mg base CX0 1 f fd ["part"] (spPartsOf K) := by
  refine F.ok scPartsOf (fun vs H Q E h => ?_) (fun cdv A outer s H vs Q E hr h => ?_)
  · obtain ⟨s, l, v, d, o, ps, rfl, _⟩ := h
    rfl
  obtain ⟨s, l, v, d, o, ps, rfl, hv, hf, q⟩ := h
  refine ⟨_, pss_one (ps_ret (pe_slice sl_tupA (pv 0) (po_some (pe_op op_add pe_int (pe_ix ix_tup (pe_ix ix_kdict (pe_glob (v := .ref aS) rfl mS rfl) (pe_ix ix_tup (pv 0) pe_int (fun _ _ => rfl)) (fun _ _ => rfl)) pe_int (fun _ _ => rfl)))) po_none)), ?_⟩
  obtain ⟨z, b, hl, ⟨hs, rfl, rfl⟩ | ⟨x, hs, rfl, rfl, hx⟩⟩ := formD_inv hf
  · cases hv with
    | @tup a xs ds ha hxs =>
      cases hxs with
      | @cons x0 xr d0 dr h0 hr0 =>
        cases h0
        obtain ⟨t, k1, k2⟩ := T.kd hs
        refine ⟨_, rfl, _, rfl, a, _, _, _, rfl, rfl, ha, atI_nat (j := 0) rfl, aS, z, .ref t, rfl, rfl, k1, t, _, _, _, rfl, rfl, k2.seq, atI_nat (j := 0) rfl, _, _, rfl, rfl, _, rfl, ?_⟩
        have e : cutV (V.str z :: xr) (some ((1 : Int) + ((0 : Nat) : Int))) none = xr := cut_drop (j := 1) (by rw [List.length_cons]; omega)
        refine slA_any ha fun H' p e1 h1 => q H' p xr e1 ?_ (hr0.same e1)
        rw [e] at h1
        exact h1
  · cases hv with
    | @tup a xs ds ha hxs =>
      cases hxs with
      | @cons x0 xr d0 dr h0 hr0 =>
        cases h0
        cases hr0 with
        | @cons x1 xr1 d1 dr1 h1 hr1 =>
          cases h1
          obtain ⟨t, k1, k2⟩ := T.kd hs
          refine ⟨_, rfl, _, rfl, a, _, _, _, rfl, rfl, ha, atI_nat (j := 0) rfl, aS, z, .ref t, rfl, rfl, k1, t, _, _, _, rfl, rfl, k2.seq, atI_nat (j := 0) rfl, _, _, rfl, rfl, _, rfl, ?_⟩
          have e : cutV (V.str z :: V.str x :: xr1) (some ((1 : Int) + ((1 : Nat) : Int))) none = xr1 := cut_drop (j := 2) (by rw [List.length_cons, List.length_cons]; omega)
          refine slA_any ha fun H' p e1 h1 => q H' p xr1 e1 ?_ (hr1.same e1)
          rw [e] at h1
          exact h1
end
end Kn
set_option Elab.async false
set_option linter.all false
set_option maxRecDepth 100000
set_option maxHeartbeats 4000000
set_option pp.maxSteps 1200
namespace Kn
open PySem L2 TL PySem.Spec PyProof.Rows
/-! ### {way} in an f-string: some text -/
def natTx (n : Nat) : Str := Str.ofString (toString ((n : Nat) : Int))
theorem nat_text : ∀ n ∈ List.range 16, (natTx n).length ≤ 10 := by decide +kernel
theorem ints_repr {prog : Program} {w : World} : ∀ {l : List Nat} {its : List Value}, Vals (l.map fun n => V.int (n : Nat)) its → (∀ n ∈ l, n < 16) → ReprAll prog w its (l.map natTx)
  | [], _, r, _ => by
    cases r
    exact .nil
  | n :: l, _, r, h => by
    cases r with
    | cons r1 r2 =>
      obtain ⟨t, rfl⟩ := r1
      have h16 := h n List.mem_cons_self
      have hl : ((n : Nat) : Int).natAbs.log2 < 1920 := by
        rw [Int.natAbs_natCast]
        by_cases h0 : n = 0
        · rw [h0]
          decide
        · exact (Nat.log2_lt h0).mpr (Nat.lt_of_lt_of_le h16 (by
            have := Nat.pow_le_pow_right (n := 2) (by decide) (show 4 ≤ 1920 by decide)
            exact this))
      exact .cons (ReprIs.int t hl) (ints_repr r2 fun z hz => h z (List.mem_cons_of_mem _ hz))
theorem piled_ints : ∀ l : List Nat, (∀ n ∈ l, n < 16) → piled (l.map natTx) ≤ 12 * l.length
  | [], _ => Nat.zero_le _
  | n :: l, h => by
    have h1 := nat_text n (List.mem_range.mpr (h n List.mem_cons_self))
    have h2 := piled_ints l fun z hz => h z (List.mem_cons_of_mem _ hz)
    rw [List.map_cons, piled_cons, List.length_cons]
    omega
def tFmtN (K : PySem.W.Frag) (te : TE) : TE := fun σ H Q => te σ H fun x H1 => ∃ (a : Addr) (l : List Nat), x = .ref a ∧ SqT K H1 a (l.map fun n => V.int (n : Nat)) ∧ (∀ n ∈ l, n < 16) ∧ l.length ≤ 100 ∧ ∀ m : Str, m.length ≤ 10000 → Q (.str m) H1
theorem pe_fmtN {X : Cx} {e : Expr} {te : TE} {pos : Pos} {k : Nat} (hr : Room k X.A) (he : PE X e te) : PE X (.FormattedValue e (-1) none pos) (tFmtN X.K te) := by
  constructor
  intro pins s σ H Q I h
  refine wpAny_FormattedValue_plain (thn (he.run pins s σ H _ I h) fun v s1 hv => ?_)
  obtain ⟨x, H1, I1, r1, a, l, rfl, ht, h16, hl, q⟩ := hv
  cases r1
  obtain ⟨its, rv, ⟨o, ho, hcl, n, hd⟩, _⟩ := I1.tuple ht
  have p1 := piled_ints l h16
  have p2 := fmt_text (l.map natTx)
  have z : sizeLine = 16777216 := sizeLine_eq
  have hu := hr.units
  exact fmt_tuple (by omega) ho hcl hd (ints_repr rv h16) (by omega) fun m u tk hm =>
    ⟨.str m, H1, I1.tok _, ⟨u, rfl⟩, q m (by omega)⟩
/-! ### BadFormula -/
abbrev sBFInit : Stmt := inClass (top 1) 0
/-- what the written part says of BadFormula at C, its __init__ at fI -/
structure BFT (P : Program) (w : World) (K : PySem.W.Frag) (mg : Str → Option Value) (base : Heap) (C : Addr) : Prop where
  ox : OexC K C
  mgC : mg "BadFormula" = some (.ref C)
  noP : PySem.W.findIn K (.ref C) "place" = some none
  ini : ∃ (fI : Addr) (fd : FuncData), PySem.W.findIn K (.ref C) "__init__" = some (some (.ref fI)) ∧ PySem.W.typeIn K (.ref fI) = some (.type "function") ∧ Binds K fd ["self", "place"] [] ∧ Fun K "__init__" "BadFormula.__init__" sBFInit fI fd
def spBF (K : PySem.W.Frag) : Sp := fun vs H Q _ => ∃ (a C p : Addr) (l : List Nat), vs = [.ref a, .ref p] ∧ OexC K C ∧ PySem.W.findIn K (.ref C) "place" = some none ∧ H a = some (exo a C none) ∧ SqT K H p (l.map fun n => V.int (n : Nat)) ∧ (∀ n ∈ l, n < 16) ∧ l.length ≤ 100 ∧
  ∀ dx, H dx = none → dx ≠ a → Q .non (upd (upd H dx (exd dx [("place", .ref p)])) a (exo a C (some dx)))
section
variable {P : Program} {w : World} {K : PySem.W.Frag} {mg : Str → Option Value} {base : Heap}
theorem scBF : FnScope ["self", "place"] ["self", "place"] (defScope sBFInit) := ⟨rfl, rfl, rfl, by decide +kernel, rfl, by decide +kernel, by decide +kernel⟩
theorem ok_bf {f : Addr} {fd : FuncData} (F : Fun K "__init__" "BadFormula.__init__" sBFInit f fd) (mV : mg "ValueError" = none) (vV : PySem.W.findCls K (.type "ValueError") (.type "type") "__init__" = some (.val (.builtin "ValueError.__init__"))) :
    FnOk P w K mg base CX0 1 f fd ["self", "place"] (spBF K) := by
  refine F.ok scBF (fun vs H Q E h => ?_) (fun cdv A outer s H vs Q E hr h => ?_)
  · obtain ⟨a, C, p, l, rfl, _⟩ := h
    rfl
  obtain ⟨a, C, p, l, rfl, T, hno, ha, hp, h16, hl, q⟩ := h
  refine ⟨_, pss_cons (ps_expr (pe_veinit rfl mV vV (pa_cons (pv 0) (pa_cons (pe_joined (.cons pe_str (.cons (pe_fmtN hr (pv 1)) .nil))) pa_nil))))
    (pss_one (ps_ost (pv 0) (pv 1))), ?_⟩
  have z : sizeLine = 16777216 := sizeLine_eq
  have e0 : (Str.empty ++ ("no formula: " : Str)).length = 12 := by decide +kernel
  refine ⟨_, rfl, _, rfl, by omega, _, rfl, p, l, rfl, hp, h16, hl, fun m hm => ⟨_, rfl, ?_, a, C, _, rfl, by show 1 ≤ 1000; decide, T, ha, ?_⟩⟩
  · rw [len_app, e0]
    omega
  · exact ⟨_, rfl, _, rfl, a, C, rfl, T, hno, .inl ⟨ha, fun dx h1 h2 => q dx h1 h2⟩⟩
end
end Kn
set_option Elab.async false
set_option linter.all false
set_option maxRecDepth 100000
set_option maxHeartbeats 4000000
set_option pp.maxSteps 1200
namespace Kn
open PySem L2 TL PySem.Spec PyProof.Rows
/-! ### things beside a list and a dict of one's own -/
section
variable {K : PySem.W.Frag} {s l p q : Addr} {H H' : Hp}
mutual
theorem Tg.redo (hp : H p = none) (hq : H q = none) : ∀ {v : V} {d : PyData}, Tg K s l H v d → Tg K p q H v d
  | _, _, .non => .non
  | _, _, .bl b => .bl b
  | _, _, .int i => .int i
  | _, _, .str x h => .str x h
  | _, _, .tup u r => .tup u (TgAll.redo hp hq r)
  | _, _, .lst _ _ u => .lst (ne_of_none u hp) (ne_of_none u hq) u
  | _, _, .dct _ _ u => .dct (ne_of_none u hp) (ne_of_none u hq) u
theorem TgAll.redo (hp : H p = none) (hq : H q = none) : ∀ {vs : List V} {ds : List PyData}, TgAll K s l H vs ds → TgAll K p q H vs ds
  | _, _, .nil => .nil
  | _, _, .cons u r => .cons (Tg.redo hp hq u) (TgAll.redo hp hq r)
end
/-- a list at p and a dict at q, of one's own -/
structure Two (H : Hp) (p q : Addr) (xs : List V) (kvs : List (Key × V)) : Prop where
  ne : p ≠ q
  ls : H p = some (.lst xs)
  ds : H q = some (.dK kvs)
variable {xs : List V} {kvs : List (Key × V)}
theorem Two.seqT (w : Two H p q xs kvs) (e : Keep p q H H') {a : Addr} {ys : List V} (h : SqT K H a ys) : SqT K H' a ys := by
  rcases h with (h | ⟨o, h⟩) | h
  · exact .inl (.inl (e _ _ (ne_of h w.ls (by intro z; cases z)) (ne_of h w.ds (by intro z; cases z)) h))
  · exact .inl (.inr ⟨o, e _ _ (ne_of h w.ls (by intro z; cases z)) (ne_of h w.ds (by intro z; cases z)) h⟩)
  · exact .inr h
theorem Two.tg (w : Two H p q xs kvs) (e : Keep p q H H') {v : V} {d : PyData} (h : Tg K p q H v d) : Tg K p q H' v d := h.mono (fun _ _ u => w.seqT e u) (fun _ _ a b u => e _ _ a b u) (fun _ a b u => e _ _ a b u)
theorem Two.tgs (w : Two H p q xs kvs) (e : Keep p q H H') {v : List V} {d : List PyData} (h : TgAll K p q H v d) : TgAll K p q H' v d := h.mono (fun _ _ u => w.seqT e u) (fun _ _ a b u => e _ _ a b u) (fun _ a b u => e _ _ a b u)
theorem Two.putL (w : Two H p q xs kvs) (ys : List V) : Two (upd H p (.lst ys)) p q ys kvs := ⟨w.ne, upd_same, by rw [upd_ne w.ne.symm]; exact w.ds⟩
theorem Two.putD (w : Two H p q xs kvs) (u : List (Key × V)) : Two (upd H q (.dK u)) p q xs u := ⟨w.ne, by rw [upd_ne w.ne]; exact w.ls, upd_same⟩
theorem Two.same (w : Two H p q xs kvs) (e : Same H H') : Two H' p q xs kvs := ⟨w.ne, e _ _ w.ls, e _ _ w.ds⟩
/-- what was there at the beginning is there, whatever the two became -/
theorem same_keep {H0 H1 : Hp} (n1 : H0 p = none) (n2 : H0 q = none) (a : Same H0 H) (e : Keep p q H H1) : Same H0 H1 := fun b o u => e b o (ne_of_none u n1) (ne_of_none u n2) (a b o u)
/-! ### the stack -/
def wayV (w : List Nat) : List V := w.map fun n => V.int (n : Nat)
/-- an entry: a way and a part -/
def Ent (K : PySem.W.Frag) (p q : Addr) (H : Hp) (x : V) (e : List Nat × PyData) : Prop := ∃ (t u : Addr) (y : V), x = .ref t ∧ SqT K H t [.ref u, y] ∧ SqT K H u (wayV e.1) ∧ Tg K p q H y e.2 ∧ e.1.length ≤ 10 ∧ ∀ n ∈ e.1, n < 16
inductive Ents (K : PySem.W.Frag) (p q : Addr) (H : Hp) : List V → List (List Nat × PyData) → Prop
  | nil : Ents K p q H [] []
  | cons {x : V} {r : List V} {e : List Nat × PyData} {es : List (List Nat × PyData)} : Ent K p q H x e → Ents K p q H r es → Ents K p q H (x :: r) (e :: es)
theorem Ent.keep (w : Two H p q xs kvs) (k : Keep p q H H') {x : V} {e : List Nat × PyData} (h : Ent K p q H x e) : Ent K p q H' x e :=
  let ⟨t, u, y, e1, h1, h2, h3, h4⟩ := h
  ⟨t, u, y, e1, w.seqT k h1, w.seqT k h2, w.tg k h3, h4⟩
theorem Ents.keep (w : Two H p q xs kvs) (k : Keep p q H H') : ∀ {x : List V} {e : List (List Nat × PyData)}, Ents K p q H x e → Ents K p q H' x e
  | _, _, .nil => .nil
  | _, _, .cons a b => .cons (a.keep w k) (Ents.keep w k b)
/-- the names met, as the dict holds them -/
def nmD (ns : List Str) : List (Key × V) := ns.map fun x => (.inr x, .bl true)
theorem nmD_put (ns : List Str) (x : Str) : putK (nmD ns) (.inr x) (.bl true) = nmD (addN ns (some x)) := by
  unfold putK nmD addN
  have e : (List.any (ns.map fun x => ((Sum.inr x : Key), V.bl true)) fun kv => decide (kv.1 = Sum.inr x)) = decide (x ∈ ns) := by
    rw [List.any_map]
    induction ns with
    | nil => rfl
    | cons y r ih =>
      rw [List.any_cons, ih]
      by_cases h : y = x
      · simp [h]
      · have h2 : ¬ x = y := fun z => h z.symm
        simp [h, h2]
  rw [e]
  by_cases h : x ∈ ns
  · rw [decide_eq_true h, if_pos rfl]
    dsimp only
    rw [if_pos h, List.map_map]
    apply List.map_congr_left
    intro y _
    show (if (Sum.inr y : Key) = Sum.inr x then _ else _) = _
    split <;> rfl
  · rw [decide_eq_false h, if_neg Bool.false_ne_true]
    dsimp only
    rw [if_neg h, List.map_append]
    rfl
theorem nmD_len (ns : List Str) : (nmD ns).length = ns.length := List.length_map ..
end
/-! ### need_formula -/
def spNeed (K : PySem.W.Frag) (C : Addr) : Sp := fun vs H Q E => ∃ (s l : Addr) (v : V) (d : PyData), vs = [v] ∧ Tg K s l H v d ∧
  (placeD d = none → ∀ H', Same H H' → Q v H') ∧
  ∀ way, placeD d = some way → ∀ (H' : Hp) (dx p : Addr), Same H H' → H dx = none → H' dx = some (.xd [("place", .ref p)]) → SqT K H' p (wayV way) → way.length ≤ 10 → (∀ n ∈ way, n < 16) → E (.ref C) (some dx) H'
/-- BadFormula as the top left it -/
structure BFS (P : Program) (w : World) (K : PySem.W.Frag) (mg : Str → Option Value) (base : Heap) (C fI : Addr) (fd : FuncData) : Prop where
  ox : OexC K C
  mgC : mg "BadFormula" = some (.ref C)
  noP : PySem.W.findIn K (.ref C) "place" = some none
  fin : PySem.W.findIn K (.ref C) "__init__" = some (some (.ref fI))
  ty : PySem.W.typeIn K (.ref fI) = some (.type "function")
  bi : Binds K fd ["self", "place"] []
  fn : FnOk P w K mg base CX0 1 fI fd ["self", "place"] (spBF K)
/-! #### entries of parts -/
theorem s_at {H H' : Hp} {b : Addr} {o : HO} (e : Same H H') (h : H b = some o) : H' b = some o := e b o h
theorem kids_length {way : List Nat} : ∀ {i : Nat} {ps : List PyData}, (kids way i ps).length = ps.length
  | _, [] => rfl
  | i, d :: r => by
    show (kids way (i + 1) r).length + 1 = r.length + 1
    rw [kids_length]
theorem kids_get {way : List Nat} : ∀ {i j : Nat} {ps : List PyData} {d : PyData}, ps[j]? = some d → (kids way i ps)[j]? = some (way ++ [i + j], d)
  | _, _, [], _, h => by simp at h
  | i, 0, d :: r, d', h => by
    have e : d = d' := by simpa using h
    rw [e]
    rfl
  | i, j + 1, d :: r, d', h => by
    have h2 : r[j]? = some d' := by simpa using h
    have := kids_get (way := way) (i := i + 1) h2
    show (kids way (i + 1) r)[j]? = _
    rw [this, show i + 1 + j = i + (j + 1) by omega]
theorem kids_drop {way : List Nat} {j : Nat} {ps : List PyData} {d : PyData} (h : ps[j]? = some d) : (kids way 0 ps).drop j = (way ++ [j], d) :: (kids way 0 ps).drop (j + 1) := by
  have h1 := kids_get (way := way) (i := 0) h
  obtain ⟨hl, he⟩ := List.getElem?_eq_some_iff.mp h1
  rw [List.drop_eq_getElem_cons hl, he, Nat.zero_add]
theorem TgAll.get {K : PySem.W.Frag} {s l : Addr} {H : Hp} : ∀ {j : Nat} {xs : List V} {ds : List PyData} {d : PyData}, TgAll K s l H xs ds → ds[j]? = some d → ∃ x, xs[j]? = some x ∧ Tg K s l H x d
  | _, _, _, _, .nil, h => by simp at h
  | 0, _, _, d', .cons a b, h => ⟨_, rfl, by
      have e := Option.some.inj h
      rw [← e]
      exact a⟩
  | j + 1, _, _, _, .cons a b, h => TgAll.get (j := j) b h
theorem Ents.app {K : PySem.W.Frag} {p q : Addr} {H : Hp} : ∀ {a b : List V} {x y : List (List Nat × PyData)}, Ents K p q H a x → Ents K p q H b y → Ents K p q H (a ++ b) (x ++ y)
  | _, _, _, _, .nil, h => h
  | _, _, _, _, .cons a b, h => .cons a (Ents.app b h)
theorem Ents.len {K : PySem.W.Frag} {p q : Addr} {H : Hp} : ∀ {a : List V} {x : List (List Nat × PyData)}, Ents K p q H a x → a.length = x.length
  | _, _, .nil => rfl
  | _, _, .cons _ b => congrArg (· + 1) (Ents.len b)
theorem none_back {H H' : Hp} {p : Addr} (e : Same H H') (h : H' p = none) : H p = none := by
  cases q : H p with
  | none => rfl
  | some o =>
    rw [e p o q] at h
    cases h
/-- the walk's state: names, stack, how many were met -/
def WN (K : PySem.W.Frag) (H0 : Hp) (pn pw : Addr) (v : V) (d0 : PyData) (m : Nat) (σ : L2.St) (H : Hp) : Prop := ∃ (ns : List Str) (st : List (List Nat × PyData)) (es : List V) (many : Nat) (x4 x5 x6 x7 x8 : Option V),
  σ = [some v, some (.ref pn), some (.int (many : Nat)), some (.ref pw), x4, x5, x6, x7, x8] ∧ Two H pw pn es.reverse (nmD ns) ∧ Ents K pw pn H es st ∧ Same H0 H ∧ ns.length ≤ 10 ∧ m + many = 61 ∧ many ≤ 60 ∧ st.length ≤ 2 * many + 1 ∧ walk m many ns st = placeD d0
theorem form_few {d : PyData} {o : Option Str} {ps : List PyData} (h : formD d = some (o, ps)) : ps.length ≤ 3 := by
  obtain ⟨w, b, hl, ⟨hs, _⟩ | ⟨x, hs, _⟩⟩ := formD_inv h
  · have := (shapeT_word hs).2.2.2
    dsimp only at this
    omega
  · have := (shapeT_word hs).2.2.2
    dsimp only at this
    omega
theorem addN_len (ns : List Str) (o : Option Str) : (addN ns o).length ≤ ns.length + 1 := by
  unfold addN
  cases o with
  | none => exact Nat.le_succ _
  | some x =>
    dsimp only
    split
    · exact Nat.le_succ _
    · rw [List.length_append, List.length_singleton]
      exact Nat.le_refl _
abbrev nNeed : List Str := ["thing", "names", "many", "waiting", "way", "part", "name", "inner", "at"]
section
variable {P : Program} {w : World} {K : PySem.W.Frag} {mg : Str → Option Value} {base : Heap}
theorem scNeed : FnScope nNeed ["thing"] (defScope sNeed) := ⟨rfl, rfl, rfl, by decide +kernel, rfl, by decide +kernel, by decide +kernel⟩
/-- what the raise makes -/
theorem bf_made {C : Addr} {H1 : Hp} {p : Addr} {way : List Nat} {E : XK} (T : OexC K C) (hno : PySem.W.findIn K (.ref C) "place" = some none) (hp : SqT K H1 p (wayV way)) (h16 : ∀ n ∈ way, n < 16) (hl : way.length ≤ 10)
    (q : ∀ dx, H1 dx = none → E (.ref C) (some dx) (upd H1 dx (.xd [("place", .ref p)]))) (a : Addr) (ha : H1 a = none) :
    spBF K (V.ref a :: ([V.ref p] ++ [])) (upd H1 a (exo a C none)) (fun v H2 => v = .non ∧ ∃ (d : Addr) (fs : List (Str × V)), H2 a = some (exo a C (some d)) ∧ H2 d = some (exd d fs) ∧ H1 d = none ∧ E (.ref C) (some d) (upd (del H2 a) d (.xd fs))) (fun _ _ _ => False) := by
  refine ⟨a, C, p, way, rfl, T, hno, upd_same, ?_, h16, by omega, fun dx h1 h2 => ⟨rfl, dx, _, upd_same, by rw [upd_ne h2]; exact upd_same, ?_, ?_⟩⟩
  · exact Same.seqT (same_new ha _) hp
  · rw [upd_ne h2] at h1
    exact h1
  · have e : upd (del (upd (upd (upd H1 a (exo a C none)) dx (exd dx [("place", V.ref p)])) a (exo a C (some dx))) a) dx (.xd [("place", .ref p)]) = upd H1 dx (.xd [("place", .ref p)]) := by
      funext b
      by_cases hb : b = dx
      · rw [hb, upd_same, upd_same]
      · rw [upd_ne hb, upd_ne hb]
        by_cases hb2 : b = a
        · rw [hb2, del_same, ha]
        · rw [del_ne hb2, upd_ne hb2, upd_ne hb, upd_ne hb2]
    rw [e]
    rw [upd_ne h2] at h1
    exact q dx h1
theorem ok_need {f C fI : Addr} {fd fdI : FuncData} {u60 u9 u10 : Value} (F : Fun K "need_formula" "need_formula" sNeed f fd) (B : BFS P w K mg base C fI fdI)
    (IF : Def P w K mg base CX0 "is_formed" 2 ["part"] (spIsFormed K)) (NI : Def P w K mg base CX0 "name_in" 1 ["part"] (spNameIn K)) (PO : Def P w K mg base CX0 "parts_of" 1 ["part"] (spPartsOf K))
    (ml : mg "len" = none) (mr : mg "range" = none) (mv : mg "reversed" = none)
    (m60 : mg "MOST_PARTS" = some u60) (r60 : RelV (.int 60) u60) (m9 : mg "MOST_WITHIN" = some u9) (r9 : RelV (.int 9) u9) (m10 : mg "MOST_NAMES" = some u10) (r10 : RelV (.int 10) u10) :
    FnOk P w K mg base (L2.CX P w) 3 f fd ["thing"] (spNeed K C) := by
  refine F.okX scNeed (fun vs H Q E h => ?_) (fun cdv A outer s H vs Q E hr h => ?_)
  · obtain ⟨s, l, v, d, rfl, _⟩ := h
    rfl
  obtain ⟨s0, l0, v, d0, rfl, hv, qn, qe⟩ := h
  have hr1 : Room 1 _ := hr.mono (by omega)
  refine ⟨_, pss_cons (ps_set (i := 1) scNeed.nd rfl (Or.inl rfl) pe_dnewK)
    (pss_cons (ps_set (i := 2) scNeed.nd rfl (Or.inl rfl) pe_int)
    (pss_cons (ps_set (i := 3) scNeed.nd rfl (Or.inl rfl) (pe_lst (pa_cons (pe_tup (pa_cons (pe_tup pa_nil) (pa_cons (pv 0) pa_nil))) pa_nil)))
    (pss_cons (ps_while (passes_of rfl) (pt_truth (pv 3) (fun _ => rfl))
      (pss_cons (ps_asg (pe_bm0 PySem.F.plainAttrs_list PySem.F.slot_list_pop PySem.F.type_list_pop mt_pop (pv 3)) (pg_tup rfl (pgs_cons (pg_name (i := 4) scNeed.nd rfl (Or.inl rfl)) (pgs_cons (pg_name (i := 5) scNeed.nd rfl (Or.inl rfl)) pgs_nil))))
      (pss_cons (ps_aug (i := 2) scNeed.nd rfl (.inl rfl) pe_int ip_add)
      (pss_cons (ps_if (PW.pt (pw_or (pt_cmpR op_gt (pv 2) (pe_glob (v := .int 60) rfl m60 r60) (nomark _)) (pw_or (pt_cmpR op_gt (pe_callB call_len_seq (by rfl) ml PySem.boot_len (pa_cons (pv 4) pa_nil)) (pe_glob (v := .int 9) rfl m9 r9) (nomark _)) (pw_or1 (pt_not (pt_val (pe_def IF hr rfl (pa_cons (pv 5) pa_nil))))))))
        (pss_one (ps_raise rfl (takes_of rfl rfl rfl rfl) (pmk_oex B.ox B.fin B.ty B.fn hr B.bi .nil pass0 rfl B.mgC (pa_cons (pv 4) pa_nil)))) pss_nil)
      (pss_cons (ps_set (i := 6) scNeed.nd rfl (Or.inl rfl) (pe_def NI hr1 rfl (pa_cons (pv 5) pa_nil)))
      (Evl.pss_cut (ps_if (pt_cmpR op_notN (pv 6) pe_non (nomark _)) (pss_one (ps_dput (hu_of hr) (pv 1) (pv 6) pe_bl rfl)) pss_nil)
      (pss_cons (ps_if (pt_cmpR op_gt (pe_callB call_lenD (by rfl) ml PySem.boot_len (pa_cons (pv 1) pa_nil)) (pe_glob (v := .int 10) rfl m10 r10) (nomark _))
        (pss_one (ps_raise rfl (takes_of rfl rfl rfl rfl) (pmk_oex B.ox B.fin B.ty B.fn hr B.bi .nil pass0 rfl B.mgC (pa_cons (pv 4) pa_nil)))) pss_nil)
      (pss_cons (ps_set (i := 7) scNeed.nd rfl (Or.inl rfl) (pe_def PO hr1 rfl (pa_cons (pv 5) pa_nil)))
      (pss_one (ps_for (passes_of rfl) rfl (pi_revR rfl mv (prg_1 rfl mr (pe_callB call_len_seq (by rfl) ml PySem.boot_len (pa_cons (pv 7) pa_nil)))) (pg_name (i := 8) scNeed.nd rfl (Or.inl rfl))
        (pss_one (ps_expr (pe_bm PySem.F.plainAttrs_list PySem.F.slot_list_append PySem.F.type_list_append mt_append (pv 3) (pa_cons (pe_tup (pa_cons (pe_tup (StX.pa_star (pv 4) (pa_cons (pv 8) pa_nil))) (pa_cons (pe_ix ix_tup (pv 7) (pv 8) (fun _ _ => rfl)) pa_nil))) pa_nil))))))))))))))
    (pss_one (ps_ret (pv 0)))))), ?_⟩
  refine fun pn hpn => ⟨Nat.zero_le _, fun t0 ht0 => ⟨_, rfl, (by show 2 ≤ sizeLine; decide), fun t1 ht1 => ⟨(by show 1 ≤ sizeLine; decide), fun pw hpw => ?_⟩⟩⟩
  have s1 : Same H (upd H pn (.dK [])) := same_new hpn _
  have s2 := Same.trans s1 (same_new ht0 (.tup []))
  have s3 := Same.trans s2 (same_new ht1 (.tup [V.ref t0, v]))
  have s4 := Same.trans s3 (same_new hpw (.lst [V.ref t1]))
  have npw : H pw = none := none_back s3 hpw
  have mk : ∀ (H' : Hp) (u : Addr) (way : List Nat), Same H H' → SqT K H' u (wayV way) → way.length ≤ 10 → (∀ n ∈ way, n < 16) → placeD d0 = some way → ∀ a, H' a = none →
      spBF K (V.ref a :: ([V.ref u] ++ [])) (upd H' a (exo a C none)) (fun v H2 => v = .non ∧ ∃ (d : Addr) (fs : List (Str × V)), H2 a = some (exo a C (some d)) ∧ H2 d = some (exd d fs) ∧ H' d = none ∧ E (.ref C) (some d) (upd (del H2 a) d (.xd fs))) (fun _ _ _ => False) := fun H' u way hs hq hl h16 hw =>
    bf_made B.ox B.noP hq h16 hl fun dx hdx => qe way hw _ dx u (Same.trans hs (same_new hdx _)) (none_back hs hdx) upd_same (Same.seqT (same_new hdx _) hq) hl h16
  refine ⟨WN K H pn pw v d0, ⟨61, ?_⟩, fun m σ H1 hW => ?_⟩
  · have hT : Tg K pw pn _ v d0 := (hv.redo npw hpn).same s4
    refine ⟨[], [([], d0)], [.ref t1], 0, _, _, _, _, _, rfl, ⟨?_, upd_same, ?_⟩, .cons ⟨t1, t0, v, rfl, ?_, ?_, hT, Nat.zero_le _, fun n hn => by cases hn⟩ .nil, s4, Nat.zero_le _, rfl, Nat.zero_le _, Nat.le_refl _, rfl⟩
    · exact fun z => by
        rw [z] at hpw
        rw [s_at (Same.trans (same_new ht0 (.tup [])) (same_new ht1 (.tup [V.ref t0, v]))) upd_same] at hpw
        cases hpw
    · exact s_at (Same.trans (same_new ht0 (.tup [])) (Same.trans (same_new ht1 (.tup [V.ref t0, v])) (same_new hpw _))) upd_same
    · exact SqT.of (s_at (same_new hpw _) upd_same)
    · exact SqT.of (s_at (Same.trans (same_new ht1 (.tup [V.ref t0, v])) (same_new hpw _)) upd_same)
  obtain ⟨ns, st, es, many, x4, x5, x6, x7, x8, rfl, w1, ent, sa, hn, hm, h60, hst, hwk⟩ := hW
  refine ⟨_, rfl, _, .inl ⟨_, SqL.of w1.ls, rfl⟩, ?_⟩
  obtain ⟨m, rfl⟩ : ∃ k, m = k + 1 := ⟨m - 1, by omega⟩
  cases ent with
  | nil => exact iteF ⟨_, rfl, qn hwk.symm H1 sa⟩
  | @cons e er e0 sr he hr0 =>
    obtain ⟨way, d1⟩ := e0
    obtain ⟨t, u, y, rfl, g1, g2, g3, g4, g5⟩ := he
    have hne : (!(V.ref t :: er).reverse.isEmpty) = true := by simp
    rw [hne]
    refine iteT ⟨fun σ' H' => WN K H pn pw v d0 m σ' H', fun _ _ h => ⟨m, Nat.lt_succ_self m, h⟩, ?_⟩
    have hlast : (V.ref t :: er).reverse[(V.ref t :: er).reverse.length - 1]? = some (V.ref t) := by simp
    have hdl : (V.ref t :: er).reverse.dropLast = er.reverse := by simp
    refine ⟨_, rfl, .inl ⟨rfl, _, SqL.of w1.ls⟩, pw, _, _, rfl, rfl, w1.ls, hlast, ?_⟩
    rw [hdl]
    have k1 : Keep pw pn H1 (upd H1 pw (.lst er.reverse)) := Keep.put
    have w2 := w1.putL er.reverse
    have sb : Same H (upd H1 pw (.lst er.reverse)) := same_keep npw hpn sa k1
    have g1 := w1.seqT k1 g1
    have g2 := w1.seqT k1 g2
    have g3 := w1.tg k1 g3
    have hr0 := hr0.keep w1 k1
    generalize upd H1 pw (.lst er.reverse) = H2 at *
    refine ⟨t, _, rfl, g1, rfl, ?_⟩
    refine ⟨_, _, rfl, _, _, rfl, rfl, ?_⟩
    refine ⟨_, rfl, _, _, rfl, rfl, ?_⟩
    have hmany : V.int ((many : Int) + 1) = V.int ((many + 1 : Nat) : Int) := rfl
    unfold walk at hwk
    refine ⟨_, rfl, _, _, rfl, rfl, _, rfl, ite2 (fun c1 => ?_) (fun c1 => ⟨_, rfl, u, _, rfl, .inr g2, _, _, rfl, rfl, _, rfl, ite2 (fun c2 => ?_) (fun c2 => ⟨_, rfl, pw, pn, y, d1, rfl, g3, _, rfl, ?_⟩)⟩)⟩
    · have h1 : many ≥ 60 ∨ way.length > 9 := .inl (by
        have h : (60 : Int) < (many : Int) + 1 := of_decide_eq_true c1
        omega)
      rw [if_pos h1] at hwk
      exact ⟨_, rfl, (by show 1 ≤ 1000; decide), mk H2 u way sb g2 g4 g5 hwk.symm⟩
    · have h1 : many ≥ 60 ∨ way.length > 9 := .inr (by
        have := of_decide_eq_true c2
        have e : (wayV way).length = way.length := List.length_map ..
        rw [e] at this
        omega)
      rw [if_pos h1] at hwk
      exact ⟨_, rfl, (by show 1 ≤ 1000; decide), mk H2 u way sb g2 g4 g5 hwk.symm⟩
    have h1 : ¬ (many ≥ 60 ∨ way.length > 9) := by
      have a1 : ¬ (60 : Int) < (many : Int) + 1 := of_decide_eq_false (Bool.eq_false_iff.mpr c1)
      have a2 := of_decide_eq_false (Bool.eq_false_iff.mpr c2)
      have e : (wayV way).length = way.length := List.length_map ..
      rw [e] at a2
      omega
    rw [if_neg h1] at hwk
    cases hf : formD d1 with
    | none =>
      rw [hf] at hwk
      exact iteT ⟨_, rfl, (by show 1 ≤ 1000; decide), mk H2 u way sb g2 g4 g5 hwk.symm⟩
    | some op =>
    obtain ⟨o, ps⟩ := op
    rw [hf] at hwk
    dsimp only at hwk
    have hps := form_few hf
    refine iteF ⟨_, rfl, pw, pn, y, d1, o, ps, rfl, g3, hf, ?_⟩
    refine ⟨fun σ' H' => σ' = [some v, some (.ref pn), some (.int ((many + 1 : Nat) : Int)), some (.ref pw), some (.ref u), some y, some (nameV o), x7, x8] ∧ Two H' pw pn er.reverse (nmD (addN ns o)) ∧ Keep pw pn H2 H', ?_, ?_⟩
    · refine ⟨_, rfl, rfl, _, rfl, ?_⟩
      cases o with
      | none => exact iteF ⟨rfl, w2, Keep.refl⟩
      | some x =>
        refine iteT ⟨_, rfl, _, rfl, pn, _, rfl, DPut.k (k := .inr x) w2.ds (by rw [nmD_len]; exact Nat.lt_of_le_of_lt hn (by decide)), ?_⟩
        exact ⟨rfl, by rw [nmD_put]; exact w2.putD _, Keep.putl⟩
    rintro σ H3 ⟨rfl, w3, k3⟩
    have sc := same_keep npw hpn sb k3
    have g2 := w2.seqT k3 g2
    have g3 := w2.tg k3 g3
    have hr0 := hr0.keep w2 k3
    refine ⟨_, rfl, pn, _, rfl, w3.ds, _, _, rfl, rfl, _, rfl, ite2 (fun c3 => ?_) (fun c3 => ?_)⟩
    · have h2 : (addN ns o).length > 10 := by
        have := of_decide_eq_true c3
        rw [nmD_len] at this
        omega
      rw [if_pos h2] at hwk
      exact ⟨_, rfl, (by show 1 ≤ 1000; decide), mk H3 u way sc g2 g4 g5 hwk.symm⟩
    have h2 : ¬ (addN ns o).length > 10 := by
      have := of_decide_eq_false (Bool.eq_false_iff.mpr c3)
      rw [nmD_len] at this
      omega
    rw [if_neg h2] at hwk
    refine ⟨_, rfl, pw, pn, y, d1, o, ps, rfl, g3, hf, fun H4 pi xs e4 hpi hxs => ?_⟩
    have w4 := w3.same e4
    have k4 : Keep pw pn H3 H4 := Keep.of e4
    have sd := Same.trans sc e4
    have g2 := w3.seqT k4 g2
    have hr0 := hr0.keep w3 k4
    have hxl : xs.length = ps.length := hxs.len.symm
    refine ⟨_, rfl, pi, _, rfl, .inr hpi, _, rfl, by decide, by decide, by omega, by omega, ?_⟩
    have eN : ((xs.length : Int) - 0).toNat = ps.length := by omega
    rw [eN]
    refine for_rangeC (fun j σ' H' => ∃ (es' : List V) (x8' : Option V), σ' = [some v, some (.ref pn), some (.int ((many + 1 : Nat) : Int)), some (.ref pw), some (.ref u), some y, some (nameV o), some (.ref pi), x8'] ∧
      Two H' pw pn (es' ++ er).reverse (nmD (addN ns o)) ∧ Ents K pw pn H' es' ((kids way 0 ps).drop (ps.length - j)) ∧ Ents K pw pn H' er sr ∧ TgAll K pw pn H' xs ps ∧ SqT K H' pi xs ∧ SqT K H' u (wayV way) ∧ Same H H') ?_ ?_ ?_
    · refine ⟨[], x8, rfl, w4, ?_, hr0, hxs, hpi, g2, sd⟩
      rw [Nat.sub_zero, ← kids_length (way := way) (i := 0), List.drop_length]
      exact .nil
    · rintro j σ' H' hj ⟨es', x8', rfl, w5, a1, a2, a3, a4, a5, a6⟩
      obtain ⟨i, hi⟩ : ∃ i, ps.length - j = i + 1 := ⟨ps.length - j - 1, by omega⟩
      have ei : (0 : Int) + ((ps.length : Nat) : Int) - 1 + ((j : Nat) : Int) * -1 = ((i : Nat) : Int) := by omega
      rw [ei]
      obtain ⟨dp, hdp⟩ : ∃ dp, ps[i]? = some dp := ⟨_, List.getElem?_eq_getElem (by omega)⟩
      obtain ⟨xp, hxp, hxt⟩ := a3.get hdp
      have ewl : (wayV way).length = way.length := List.length_map ..
      refine ⟨_, rfl, .inl ⟨rfl, _, SqL.of w5.ls⟩, _, rfl, u, _, rfl, .inl a5, _, rfl, ?_, fun p1 hp1 => ?_⟩
      · rw [List.length_append, ewl]
        exact Nat.le_trans (by show _ ≤ 11; simp only [List.length_cons, List.length_nil]; omega) (by decide)
      have b1 : Keep pw pn H' (upd H' p1 (.tup (wayV way ++ [V.int (i : Nat)]))) := Keep.new hp1
      refine ⟨_, rfl, _, rfl, pi, xs, _, xp, rfl, rfl, Same.seqT (same_new hp1 _) a4, atI_nat (j := i) hxp, (by show 2 ≤ sizeLine; decide), fun p2 hp2 => ?_⟩
      have b2 := b1.trans (Keep.new hp2 (o := .tup [V.ref p1, xp]))
      have sx := Same.trans (same_new hp1 (.tup (wayV way ++ [V.int (i : Nat)]))) (same_new hp2 (.tup [V.ref p1, xp]))
      have z1 : upd (upd H' p1 (.tup (wayV way ++ [V.int (i : Nat)]))) p2 (.tup [V.ref p1, xp]) p2 = some (.tup [V.ref p1, xp]) := upd_same
      have z2 : upd (upd H' p1 (.tup (wayV way ++ [V.int (i : Nat)]))) p2 (.tup [V.ref p1, xp]) p1 = some (.tup (wayV way ++ [V.int (i : Nat)])) := s_at (same_new hp2 _) upd_same
      have w6 := w5.same sx
      have a1 := a1.keep w5 b2
      have a2 := a2.keep w5 b2
      have a3 := w5.tgs b2 a3
      have a4 := w5.seqT b2 a4
      have a5 := w5.seqT b2 a5
      have a6 := Same.trans a6 sx
      have hxt := w5.tg b2 hxt
      clear b1 b2 sx
      generalize upd (upd H' p1 (.tup (wayV way ++ [V.int (i : Nat)]))) p2 (.tup [V.ref p1, xp]) = H6 at *
      have lenE : es'.length ≤ 3 := by
        rw [a1.len, List.length_drop, kids_length]
        omega
      have lenR : er.length ≤ 121 := by
        rw [a2.len]
        simp only [List.length_cons] at hst
        omega
      refine ⟨pw, _, _, rfl, rfl, w6.ls, ?_, ?_⟩
      · rw [List.length_reverse, List.length_append]
        exact Nat.lt_of_le_of_lt (show _ ≤ 124 by omega) (by decide)
      have b3 : Keep pw pn H6 (upd H6 pw (.lst ((es' ++ er).reverse ++ [V.ref p2]))) := Keep.put
      have er2 : (es' ++ er).reverse ++ [V.ref p2] = ((V.ref p2 :: es') ++ er).reverse := by simp
      refine ⟨V.ref p2 :: es', _, rfl, ?_, ?_, a2.keep w6 b3, w6.tgs b3 a3, w6.seqT b3 a4, w6.seqT b3 a5, same_keep npw hpn a6 b3⟩
      · rw [← er2]
        exact w6.putL _
      · have e7 : ps.length - (j + 1) = i := by omega
        rw [e7, kids_drop hdp, ← hi]
        have ev : wayV (way ++ [i]) = wayV way ++ [V.int (i : Nat)] := by
          unfold wayV
          rw [List.map_append]
          rfl
        refine .cons ⟨p2, p1, xp, rfl, w6.seqT b3 (SqT.of z1), w6.seqT b3 (by rw [ev]; exact SqT.of z2), w6.tg b3 hxt, ?_, fun n hnn => ?_⟩ (a1.keep w6 b3)
        · rw [List.length_append, List.length_singleton]
          omega
        · rcases List.mem_append.mp hnn with q | q
          · exact g5 n q
          · rw [List.mem_singleton.mp q]
            omega
    · rintro σ' H' ⟨es', x8', rfl, w5, a1, a2, a3, a4, a5, a6⟩
      rw [Nat.sub_self, List.drop_zero] at a1
      refine ⟨addN ns o, kids way 0 ps ++ sr, es' ++ er, many + 1, _, _, _, _, _, rfl, w5, a1.app a2, a6, by omega, by omega, by omega, ?_, hwk⟩
      rw [List.length_append, kids_length]
      simp only [List.length_cons] at hst
      omega
end
end Kn
set_option Elab.async false
set_option linter.all false
set_option maxRecDepth 100000
set_option maxHeartbeats 4000000
set_option pp.maxSteps 1200
namespace PySem
/-! ### list.extend of a tuple of any kind -/
open AutoSeq1 in
theorem kn_extend (l : Addr) (items : Array Value) (n : Nat) (b : Addr) (items2 : Array Value) (n2 : Nat) (dc : Option Addr) (sl : Array (Option Value)) (hs0 : ¬(!items.isEmpty && Builtin.List.listTooLong (items.size + items2.size)) = true) (hs1 : items.size ≤ sizeLine) (hs2 : items.size + items2.size ≤ sizeLine + 1) :
    Meets (Builtin.«list.extend» ⟨[.ref l, .ref b], []⟩) (fun _ R s => (s.heap.get? l = some { cls := .type "list", dict := none, data := .seq items n, slots := #[] } ∧ s.heap.get? b = some { cls := .type "tuple", dict := dc, data := .seq items2 n2, slots := sl }) ∧ R (.ok (.ret Value.none)) { s with heap := s.heap.update l (Obj.mapSeq fun x => x ++ items2), toks := s.toks }) := .of_wp fun prog w A R s h => by
    obtain ⟨hp, g, d, tk, os⟩ := s
    obtain ⟨⟨hl, hb⟩, h⟩ := h
    have f1 := idx_int
    have f2 := sub_tuple_tuple; have f3 := sub_list_list; have f4 := sub_tuple_list
    have f5 := sub_list_tuple
    have hz' : (items ++ items2).size ≤ sizeLine + 1 := by
      rw [Array.size_append]
      exact hs2
    wp_walk using (wpAny_updateSeq hl rfl (hz := hs1) (_hz' := hz')), wpAny_loadPart' hl, wpAny_loadPart' hb
    exact ⟨_, rfl, h⟩
end PySem
namespace PySem
open PyProof.Rows L2
section
variable {prog : Program} {w : World} {A : Around} {E : Value → Shared → Prop} {s : Shared}
/-! ### t[::-1] of a tuple -/
theorem kn_adj (n : Nat) : Builtin.Slice.sliceAdjust none none (-1) (n : Int) = ((n : Int) - 1, -1) := rfl
theorem kn_plc (n : Nat) : Builtin.Slice.slicePlaces ((n : Int) - 1) (-1) (-1) = n := by
  unfold Builtin.Slice.slicePlaces
  rw [if_neg (show ¬ ((-1 : Int) > 0) by decide)]
  by_cases h : n = 0
  · subst h
    rfl
  · rw [if_pos (show (n : Int) - 1 > -1 by omega)]
    have : ((n : Int) - 1 - -1 - 1) / - -1 + 1 = (n : Int) := by
      show ((n : Int) - 1 - -1 - 1) / 1 + 1 = n
      rw [Int.ediv_one]
      omega
    rw [this]
    exact Int.toNat_natCast n
theorem kn_pick (xs : Array Value) : ((List.range xs.size).filterMap fun (m : Nat) => xs[(((xs.size : Int) - 1) + (m : Int) * -1).toNat]?).toArray = xs.toList.reverse.toArray := by
  congr 1
  apply List.ext_getElem?
  intro i
  have e : (List.range xs.size).filterMap (fun (m : Nat) => xs[(((xs.size : Int) - 1) + (m : Int) * -1).toNat]?) = (List.range xs.size).map fun m => xs.toList.reverse[m]?.getD .none := by
    have key : ∀ l : List Nat, (∀ m ∈ l, m < xs.size) → l.filterMap (fun (m : Nat) => xs[(((xs.size : Int) - 1) + (m : Int) * -1).toNat]?) = l.map fun m => xs.toList.reverse[m]?.getD .none := by
      intro l
      induction l with
      | nil => exact fun _ => rfl
      | cons m r ih =>
        intro hm
        have h1 := hm m List.mem_cons_self
        have e1 : (((xs.size : Int) - 1) + (m : Int) * -1).toNat = xs.size - 1 - m := by omega
        have e2 : xs[xs.size - 1 - m]? = some (xs.toList.reverse[m]?.getD .none) := by
          rw [List.getElem?_reverse (by rw [Array.length_toList]; exact h1), Array.length_toList, Array.getElem?_toList]
          rw [Array.getElem?_eq_getElem (by omega)]
          rfl
        rw [List.filterMap_cons, e1, e2, List.map_cons, ih fun z hz => hm z (List.mem_cons_of_mem _ hz)]
    exact key _ fun m hm => List.mem_range.mp hm
  rw [e, List.getElem?_map]
  by_cases hi : i < xs.size
  · rw [List.getElem?_range hi]
    have : i < xs.toList.reverse.length := by
      rw [List.length_reverse, Array.length_toList]
      exact hi
    rw [List.getElem?_eq_getElem this]
    simp [List.getElem?_eq_getElem this]
  · rw [List.getElem?_eq_none (by rw [List.length_range]; omega), List.getElem?_eq_none (by rw [List.length_reverse, Array.length_toList]; omega)]
    rfl
theorem kn_applied {sl : Addr} {vs : Value} {n : Nat} {Q : Int × Int × Nat → Shared → Prop} (hs : s.heap.IsSliceOf sl .none .none vs) (ps : IsPart vs (some (-1)))
    (h : Q ((n : Int) - 1, -1, n) s) : wpAny (model prog w) A (Builtin.Slice.sliceApplied (.ref sl) (pure (n : Int))) Q E s := by
  obtain ⟨os, hos, _, hds⟩ := id hs
  unfold Builtin.Slice.sliceApplied Builtin.Slice.sliceFields
  refine wpAny_bind (wpAny_bind (wpAny_field hos hds (x := .none) rfl (wpAny_bind (wpAny_field hos hds (x := .none) rfl (wpAny_bind (wpAny_field hos hds (x := vs) rfl (wpAny_pure ?_)))))))
  refine wpAny_bind (HT.slicePart_ ps ?_)
  show wpAny _ _ (if ((-1 : Int) == 0) = true then _ else _) _ _ s
  rw [if_neg (by decide)]
  refine wpAny_bind (slicePart_none (wpAny_bind (slicePart_none (wpAny_bind (wpAny_pure ?_)))))
  show wpAny _ _ (match Builtin.Slice.sliceAdjust none none (-1) (n : Int) with | (lo, hi) => pure (lo, (-1 : Int), Builtin.Slice.slicePlaces lo hi (-1))) _ _ s
  rw [kn_adj]
  show wpAny _ _ (pure ((n : Int) - 1, (-1 : Int), Builtin.Slice.slicePlaces ((n : Int) - 1) (-1) (-1))) _ _ s
  rw [kn_plc]
  exact wpAny_pure h
theorem kn_getRev {t sl : Addr} {items : Array Value} {vs : Value} {Q : Value → Shared → Prop} (ht : IsTup s.heap t items) (hs : s.heap.IsSliceOf sl .none .none vs) (ps : IsPart vs (some (-1)))
    (h : Q (.ref s.heap.objs.size) { s with heap := s.heap.push { cls := .type "tuple", data := .seq items.toList.reverse.toArray } })
    (hz : items.size ≤ sizeLine) : wpAny (model prog w) A (getItem (.ref t) (.ref sl)) Q E s := by
  have hk : sizeOk (.seq items.toList.reverse.toArray) := by
    show items.toList.reverse.toArray.size ≤ sizeLine
    rw [List.size_toArray, List.length_reverse, Array.length_toList]
    exact hz
  obtain ⟨os, hos, hcs, _⟩ := id hs
  have hT2 : s.TypeIs (.ref sl) "slice" := ⟨os, hos, hcs⟩
  unfold getItem
  try with_reducible refine wpAny_holding ?_
  refine wpAny_bind (wpAny_sequenceKey ht.typeIs (by decide) ?_)
  refine wpAny_bind (wpAny_callSpecial?_slot (name := Str.ofString "__getitem__") ht.typeIs PyProof.Rows.slot_tuple_getitem
    (wpAny_call_entry PyProof.Rows.slot_tuple_getitem ht.typeIs PyProof.Rows.entry_tuple_getitem ?_ (PyProof.Rows.args_tuple_getitem _ _)))
  show wpAny _ _ (Builtin.Tuple.tupleItemsOf (.ref t) >>= _) _ _ s
  refine wpAny_bind (tupleItemsOf_ ht (wpAny_bind (wpAny_typeOf hT2 ?_)))
  rw [if_pos (by decide)]
  refine wpAny_bind (kn_applied hs ps ?_)
  have hno : ¬ ((((items.size : Int) - 1) == 0 && (-1 : Int) == 1 && items.size == items.size) = true) := by
    intro q
    rw [Bool.and_eq_true, Bool.and_eq_true] at q
    exact absurd q.1.2 (by decide)
  show wpAny _ _ (if (((items.size : Int) - 1) == 0 && (-1 : Int) == 1 && items.size == items.size) = true then _ else _) _ _ s
  rw [if_neg hno, kn_pick]
  first
    | exact wpAny_bind (m := Builtin.Tuple.tupleExact _) (wpAny_newObj_type (wpAny_pure ⟨_, rfl, wpAny_pure h⟩) hk)
    | exact wpAny_bind (m := Builtin.Tuple.tupleExact _) (wpAny_newObj_type (wpAny_bind (wpAny_pure (wpAny_pure ⟨_, rfl, wpAny_pure h⟩))) hk)
    | exact wpAny_bind (wpAny_bind (m := Builtin.Tuple.tupleExact _) (wpAny_newObj_type (wpAny_pure (wpAny_pure ⟨_, rfl, wpAny_pure h⟩)) hk))
    | exact wpAny_bind (wpAny_bind (m := Builtin.Tuple.tupleExact _) (wpAny_newObj_type (wpAny_pure ⟨_, rfl, wpAny_pure h⟩) hk))
end
end PySem
namespace Kn
open PySem L2 TL PySem.Spec PyProof.Rows
def tRevT (K : PySem.W.Frag) (te : TE) : TE := fun σ H Q => te σ H fun x H1 => ∃ a xs, x = .ref a ∧ SqT K H1 a xs ∧ ∀ p, H1 p = none → Q (.ref p) (upd H1 p (.tup xs.reverse))
def rExtT (K : PySem.W.Frag) : V → List V → Hp → VK → Prop := fun x vs H Q => ∃ l b xs zs, x = .ref l ∧ vs = [.ref b] ∧ H l = some (.lst xs) ∧ SqT K H b zs ∧ xs.length + zs.length ≤ 1000 ∧ Q .non (upd H l (.lst (xs ++ zs)))
section
variable {X : Cx}
theorem pe_revT {e : Expr} {te : TE} {k : Nat} {p1 p2 p3 pos : Pos} (he : PE X e te) : PE X (.Subscript e (.Slice none none (some (.UnaryOp .USub (.Constant (.int 1) k p1) p2)) p3) pos) (tRevT X.K te) := by
  refine ⟨fun pins s σ H Q I h => ?_⟩
  refine Subscript_ (thn (he.run pins s σ H _ I h) fun v s1 ⟨x, H1, I1, r1, a, xs, ex, hx, q⟩ => ?_)
  subst ex
  cases r1
  have hst : PO X (some (.UnaryOp .USub (.Constant (.int 1) k p1) p2)) (tPart (tUn (rU fun i => .int (-i)) (tC (.int 1)))) := po_some (pe_un un_neg pe_int)
  refine wpAny_Slice (thn (po_none.run pins s1 σ H1 (fun o H2 => o = none ∧ H2 = H1) I1 ⟨rfl, rfl⟩) fun vl s2 ⟨l, H2, I2, pl, el, e2⟩ => ?_)
  subst el e2
  refine thn (po_none.run pins s2 σ H2 (fun o H3 => o = none ∧ H3 = H2) I2 ⟨rfl, rfl⟩) fun vu s3 ⟨u, H3, I3, pu, eu, e3⟩ => ?_
  subst eu e3
  refine thn (hst.run pins s3 σ H3 (fun o H4 => o = some (-1) ∧ H4 = H3) I3 ⟨1, rfl, -1, rfl, rfl, rfl⟩) fun vs s4 ⟨o, H4, I4, ps, eo, e4⟩ => ?_
  subst eo e4
  cases pl
  cases pu
  have I5 : Inv X pins σ H4 { s4 with heap := s4.heap.push { cls := .type "slice", data := .fields #[.none, .none, vs] } } := I4.kept (t' := s4.toks) fun b ob q => Heap.get?_push_of_some _ q
  obtain ⟨its, r, ht, hz⟩ := I5.tuple hx
  have hlen : its.length = xs.length := r.length.symm
  show wpAny (model X.prog X.w) X.A (subscriptTail e (.Slice none none (some (.UnaryOp .USub (.Constant (.int 1) k p1) p2)) p3) (.ref a) (.ref s4.heap.objs.size)) (EP X pins σ Q) X.xe { s4 with heap := s4.heap.push { cls := .type "slice", data := .fields #[.none, .none, vs] } }
  refine tail_any (ops := [.ref a, .ref s4.heap.objs.size]) ht.typeIs PyProof.Rows.slot_tuple_getitem.lookup ?_ (by with_unfolding_all rfl)
  refine kn_getRev ht (Heap.IsSliceOf.new _ .none .none vs) ps ?_ (by rw [List.size_toArray]; omega)
  refine ⟨.ref _, _, I5.laid (t' := s4.toks) (o := .tup xs.reverse) (fun b ob q => Heap.get?_push_of_some _ q) (Nat.le_refl _) ?_, rfl, q _ (I5.hok.fresh (Nat.le_refl _))⟩
  exact ⟨by rw [List.length_reverse]; exact hz, _, r.reverse, IsTup.new _ _⟩
theorem mt_extT : MtM X "list.extend" (rExtT X.K) := by
  intro pins s σ H x vs v us Q I rx rv h
  obtain ⟨l, b, xs, zs, rfl, rfl, hH, hB, hz, q⟩ := h
  cases rx
  obtain ⟨u, rfl, ru⟩ := rv.one
  cases ru
  obtain ⟨z, its, n, r, hl, e⟩ := I.lstM hH
  obtain ⟨its2, r2, ⟨ob, hob, hcl, n2, hda⟩, _⟩ := I.tuple hB
  obtain ⟨cls, dc, data, sl⟩ := ob
  dsimp only at hcl hda
  subst hcl hda
  have z1 : sizeLine = 16777216 := sizeLine_eq
  have l1 : its.toArray.size = xs.length := by rw [List.size_toArray]; exact r.length.symm
  have l2 : its2.toArray.size = zs.length := by rw [List.size_toArray]; exact r2.length.symm
  have hlong : ¬ (!its.toArray.isEmpty && Builtin.List.listTooLong (its.toArray.size + its2.toArray.size)) = true := by
    rw [notLongL (by omega), Bool.and_false]
    exact Bool.false_ne_true
  refine call_meets F.slot_list_extend ⟨_, e, rfl⟩ F.entry_list_extend (F.args_list_extend_2 _ _) (kn_extend l its.toArray n b its2.toArray n2 dc sl hlong (by omega) (by omega)) ⟨⟨e, hob⟩, ?_⟩
  refine ⟨.non, _, I.lset (its' := its ++ its2) hH e (by simp) (r.append r2) ?_, rfl, q⟩
  rw [List.length_append]
  omega
end
end Kn
set_option Elab.async false
set_option linter.all false
set_option maxRecDepth 100000
set_option maxHeartbeats 4000000
set_option pp.maxSteps 1200
namespace Kn
open PySem L2 TL PySem.Spec PyProof.Rows
section
variable {X : Cx} {E : XK}
/-- x(e, ..), a def that may refuse, told on -/
theorem pe_defX {x : Str} {k : Nat} {ps : List Str} {sp : Sp} {e : Expr} {es : List Expr} {t : TA} {p pos : Pos} (D : Def X.prog X.w X.K X.mg X.base (L2.CX X.prog X.w) x k ps sp) (hr : Room k X.A) (hg : Gl X x) (tk : Takes X fun cls d _ H => E cls d H) (ha : PA X (e :: es) t)
    (hdb : (x == ("__debug__" : Str)) = false := by decide) (h1 : starEach (e :: es) X.env = (false, eval e X.env) :: starEach es X.env := by rfl) (h2 : (backTo pos (starEach es X.env)).any (·.1) = false := by rfl) :
    PE X (.Call (.Name x p) (e :: es) [] pos) (tCall sp [] E t) := by
  obtain ⟨f, fd, m, kp, b, ok⟩ := D.ex
  exact pe_call ok hr hg m kp b .nil (passes_call tk (fun _ _ _ _ h => h)) ha hdb h1 h2
end
/-! ### names_in -/
def spNamesIn (K : PySem.W.Frag) (C : Addr) : Sp := fun vs H Q E => ∃ (s l : Addr) (v : V) (d : PyData), vs = [v] ∧ Tg K s l H v d ∧
  (placeD d = none → ∀ (H' : Hp) (p : Addr), Same H H' → H' p = some (.lst ((namesD d).map V.str)) → Q (.ref p) H') ∧
  ∀ way, placeD d = some way → ∀ (H' : Hp) (dx p : Addr), Same H H' → H dx = none → H' dx = some (.xd [("place", .ref p)]) → SqT K H' p (wayV way) → way.length ≤ 10 → (∀ n ∈ way, n < 16) → E (.ref C) (some dx) H'
theorem good_some {n : Nat} {d : PyData} (h : goodH n d = true) : ∃ k o ps, n = k + 1 ∧ formD d = some (o, ps) ∧ (∀ p ∈ ps, goodH k p = true) ∧ cnt n d = 1 + (ps.map (cnt k)).sum := by
  cases n with
  | zero => cases h
  | succ k =>
    unfold goodH at h
    cases hf : formD d with
    | none =>
      rw [hf] at h
      cases h
    | some op =>
      obtain ⟨o, ps⟩ := op
      rw [hf] at h
      refine ⟨k, o, ps, rfl, rfl, List.all_eq_true.mp h, ?_⟩
      unfold cnt
      rw [hf]
def scnt (st : List (Nat × PyData)) : Nat := (st.map fun e => cnt e.1 e.2).sum
theorem scnt_app (k : Nat) (ps : List PyData) (st : List (Nat × PyData)) : scnt ((ps.map fun p => (k, p)) ++ st) = (ps.map (cnt k)).sum + scnt st := by
  unfold scnt
  rw [List.map_append, List.sum_append, List.map_map]
  rfl
theorem snds (k : Nat) (ps : List PyData) (st : List (Nat × PyData)) : ((ps.map fun p => (k, p)) ++ st).map (·.2) = ps ++ st.map (·.2) := by
  rw [List.map_append, List.map_map]
  congr 1
  have : ((fun e : Nat × PyData => e.2) ∘ fun p => (k, p)) = id := rfl
  rw [this, List.map_id]
theorem TgAll.app {K : PySem.W.Frag} {s l : Addr} {H : Hp} : ∀ {a b : List V} {x y : List PyData}, TgAll K s l H a x → TgAll K s l H b y → TgAll K s l H (a ++ b) (x ++ y)
  | _, _, _, _, .nil, h => h
  | _, _, _, _, .cons a b, h => .cons a (TgAll.app b h)
def nmOf (d : PyData) : Option Str := match formD d with
  | some (o, _) => o
  | none => none
/-- the parts as they are met -/
def walkP : Nat → List PyData → List PyData
  | 0, _ => []
  | _ + 1, [] => []
  | f + 1, d :: st => match formD d with
    | none => []
    | some (_, ps) => d :: walkP f (ps ++ st)
def partsD (d : PyData) : List PyData := walkP 61 [d]
theorem walkP_names : ∀ (f : Nat) (ns : List Str) (st : List PyData), (walkP f st).foldl (fun ns d => addN ns (nmOf d)) ns = walkN f ns st
  | 0, _, _ => rfl
  | _ + 1, _, [] => rfl
  | f + 1, ns, d :: st => by
    unfold walkP walkN
    cases hf : formD d with
    | none => rfl
    | some op =>
      obtain ⟨o, ps⟩ := op
      have e : nmOf d = o := by
        unfold nmOf
        rw [hf]
      simp only [List.foldl_cons, e]
      exact walkP_names f (addN ns o) (ps ++ st)
theorem walkP_len : ∀ (f : Nat) (st : List PyData), (walkP f st).length ≤ f
  | 0, _ => Nat.le_refl _
  | _ + 1, [] => Nat.zero_le _
  | f + 1, d :: st => by
    unfold walkP
    cases hf : formD d with
    | none => exact Nat.zero_le _
    | some op => exact Nat.succ_le_succ (walkP_len f _)
theorem walkP_form : ∀ (f : Nat) (st : List PyData), ∀ d ∈ walkP f st, ∃ o ps, formD d = some (o, ps)
  | 0, _, _, h => by cases h
  | _ + 1, [], _, h => by cases h
  | f + 1, d :: st, x, h => by
    unfold walkP at h
    cases hf : formD d with
    | none =>
      rw [hf] at h
      cases h
    | some op =>
      obtain ⟨o, ps⟩ := op
      rw [hf] at h
      rcases List.mem_cons.mp h with rfl | h
      · exact ⟨o, ps, hf⟩
      · exact walkP_form f _ x h
theorem pureAll_of : ∀ {ds : List PyData}, (∀ d ∈ ds, pureD d = true) → pureAll ds = true
  | [], _ => rfl
  | d :: r, h => by
    simp only [pureAll, h d List.mem_cons_self, pureAll_of fun x hx => h x (List.mem_cons_of_mem _ hx), Bool.and_self]
theorem good_pure {n : Nat} {d : PyData} (h : goodH n d = true) : pureD d = true := (good_show n d h).1
theorem TgAll.atS {K : PySem.W.Frag} {s l : Addr} {H : Hp} : ∀ {j : Nat} {xs : List V} {ds : List PyData} {x : V}, TgAll K s l H xs ds → xs[j]? = some x → ∃ d, ds[j]? = some d ∧ Tg K s l H x d
  | _, _, _, _, .nil, h => by simp at h
  | 0, _, _, x', .cons a b, h => ⟨_, rfl, by
      have e := Option.some.inj h
      rw [← e]
      exact a⟩
  | j + 1, _, _, _, .cons a b, h => TgAll.atS (j := j) b h
theorem seqT_putL {K : PySem.W.Frag} {H : Hp} {D a : Addr} {xs ys zs : List V} (hD : H D = some (.lst ys)) (h : SqT K H a xs) : SqT K (upd H D (.lst zs)) a xs := by
  rcases h with (h | ⟨o, h⟩) | h
  · exact .inl (.inl (by rw [upd_ne (ne_of h hD (by intro z; cases z))]; exact h))
  · exact .inl (.inr ⟨o, by rw [upd_ne (ne_of h hD (by intro z; cases z))]; exact h⟩)
  · exact .inr h
theorem same_putL {H0 H : Hp} {D : Addr} {zs : List V} (n : H0 D = none) (e : Same H0 H) : Same H0 (upd H D (.lst zs)) := fun b o u => by
  rw [upd_ne (ne_of_none u n)]
  exact e b o u
/-! ### parts_met -/
abbrev sPartsMet : Stmt := top 21
def spPartsMet (K : PySem.W.Frag) (C : Addr) : Sp := fun vs H Q E => ∃ (s l : Addr) (v : V) (d : PyData), vs = [v] ∧ Tg K s l H v d ∧
  (placeD d = none → ∀ (H' : Hp) (p : Addr) (es : List V), Same H H' → H' p = some (.lst es) → TgAll K s l H' es (partsD d) → Q (.ref p) H') ∧
  ∀ way, placeD d = some way → ∀ (H' : Hp) (dx p : Addr), Same H H' → H dx = none → H' dx = some (.xd [("place", .ref p)]) → SqT K H' p (wayV way) → way.length ≤ 10 → (∀ n ∈ way, n < 16) → E (.ref C) (some dx) H'
def WPm (K : PySem.W.Frag) (s l : Addr) (H0 : Hp) (pm pw : Addr) (v : V) (d0 : PyData) (m : Nat) (σ : L2.St) (H : Hp) : Prop := ∃ (st : List (Nat × PyData)) (es gs : List V) (pds : List PyData) (x3 : Option V),
  σ = [some v, some (.ref pm), some (.ref pw), x3] ∧ pm ≠ pw ∧ H pw = some (.lst es.reverse) ∧ H pm = some (.lst gs) ∧ TgAll K s l H es (st.map (·.2)) ∧ TgAll K s l H gs pds ∧ Same H0 H ∧ gs.length + m ≤ 61 ∧ st.length + 2 * m ≤ 123 ∧ scnt st ≤ m ∧ (∀ e ∈ st, goodH e.1 e.2 = true) ∧ (∀ p ∈ pds, pureD p = true) ∧ pds ++ walkP m (st.map (·.2)) = partsD d0
abbrev nPM : List Str := ["formula", "met", "waiting", "part"]
section
variable {P : Program} {w : World} {K : PySem.W.Frag} {mg : Str → Option Value} {base : Heap}
theorem scPartsMet : FnScope nPM ["formula"] (defScope sPartsMet) := ⟨rfl, rfl, rfl, by decide +kernel, rfl, by decide +kernel, by decide +kernel⟩
theorem ok_partsmet {f C : Addr} {fd : FuncData} (F : Fun K "parts_met" "parts_met" sPartsMet f fd) (ND : Def P w K mg base (L2.CX P w) "need_formula" 3 ["thing"] (spNeed K C))
    (PO : Def P w K mg base CX0 "parts_of" 1 ["part"] (spPartsOf K)) :
    FnOk P w K mg base (L2.CX P w) 4 f fd ["formula"] (spPartsMet K C) := by
  refine F.okX scPartsMet (fun vs H Q E h => ?_) (fun cdv A outer s H vs Q E hr h => ?_)
  · obtain ⟨s, l, v, d, rfl, _⟩ := h
    rfl
  obtain ⟨s0, l0, v, d0, rfl, hv, qn, qe⟩ := h
  have hr1 : Room 1 _ := hr.mono (by omega)
  refine ⟨_, pss_cons (ps_set (i := 1) scPartsMet.nd rfl (Or.inl rfl) (pe_lst pa_nil))
    (pss_cons (ps_set (i := 2) scPartsMet.nd rfl (Or.inl rfl) (pe_lst (pa_cons (pe_defX ND hr rfl (takes_of rfl rfl rfl rfl) (pa_cons (pv 0) pa_nil)) pa_nil)))
    (pss_cons (ps_while (passes_of rfl) (pt_truth (pv 2) (fun _ => rfl))
      (pss_cons (ps_set (i := 3) scPartsMet.nd rfl (Or.inl rfl) (pe_bm0 PySem.F.plainAttrs_list PySem.F.slot_list_pop PySem.F.type_list_pop mt_pop (pv 2)))
      (pss_cons (ps_expr (pe_bm PySem.F.plainAttrs_list PySem.F.slot_list_append PySem.F.type_list_append mt_append (pv 1) (pa_cons (pv 3) pa_nil)))
      (pss_one (ps_expr (pe_bm PySem.F.plainAttrs_list PySem.F.slot_list_extend PySem.F.type_list_extend mt_extT (pv 2) (pa_cons (pe_revT (pe_def PO hr1 rfl (pa_cons (pv 3) pa_nil))) pa_nil)))))))
    (pss_one (ps_ret (pv 1))))), ?_⟩
  refine ⟨Nat.zero_le _, fun pm hpm => ⟨_, rfl, s0, l0, v, d0, rfl, hv.same (same_new hpm _), fun hnone H2 e2 => ?_, fun way hw H2 dx p e2 h1 h2 h3 h4 h5 => ?_⟩⟩
  rotate_left
  · exact qe way hw H2 dx p (Same.trans (same_new hpm _) e2) (none_back (same_new hpm _) h1) h2 h3 h4 h5
  refine ⟨(by show 1 ≤ sizeLine; decide), fun pw hpw => ?_⟩
  obtain ⟨hg, hc⟩ := place_good hnone
  have s1 : Same H (upd H pm (.lst [])) := same_new hpm _
  have s2 := Same.trans s1 e2
  have npw : H pw = none := none_back s2 hpw
  refine ⟨WPm K s0 l0 H pm pw v d0, ⟨61, ?_⟩, fun m σ H1 hW => ?_⟩
  · refine ⟨[(10, d0)], [v], [], [], _, rfl, fun z => ?_, upd_same, s_at (Same.trans e2 (same_new hpw _)) upd_same, .cons (hv.same (Same.trans s2 (same_new hpw (.lst [v])))) .nil, .nil, Same.trans s2 (same_new hpw _), Nat.le_refl _, Nat.le_refl _, ?_, fun e he => ?_, fun p hp => (nomatch hp), rfl⟩
    · rw [← z, s_at e2 upd_same] at hpw
      cases hpw
    · show cnt 10 d0 + 0 ≤ 61
      omega
    · rw [List.mem_singleton.mp he]
      exact hg
  obtain ⟨st, es, gs, pds, x3, rfl, ne, hw, hm, ent, met, sa, hn, hst, hsc, hgd, hpu, hwk⟩ := hW
  refine ⟨_, rfl, _, .inl ⟨_, SqL.of hw, rfl⟩, ?_⟩
  cases st with
  | nil =>
    cases ent
    refine iteF ⟨_, rfl, ?_⟩
    have e1 : walkP m ([] : List PyData) = [] := by
      cases m <;> rfl
    have e2 : pds = partsD d0 := by
      rw [← hwk, List.map_nil, e1, List.append_nil]
    exact qn hnone _ pm gs sa hm (e2 ▸ met)
  | cons e0 sr =>
    obtain ⟨n, d1⟩ := e0
    obtain ⟨k, o, ps, rfl, hf, hgp, hcn⟩ := good_some (n := n) (d := d1) (hgd (n, d1) List.mem_cons_self)
    have hps := form_few hf
    have hs1 : scnt ((k + 1, d1) :: sr) = cnt (k + 1) d1 + scnt sr := by
      unfold scnt
      rw [List.map_cons, List.sum_cons]
    obtain ⟨m, rfl⟩ : ∃ j, m = j + 1 := ⟨m - 1, by omega⟩
    have hd1 : pureD d1 = true := good_pure (hgd (k + 1, d1) List.mem_cons_self)
    have hsr : pureAll (sr.map (·.2)) = true := pureAll_of fun x hx => by
      obtain ⟨e, he, rfl⟩ := List.mem_map.mp hx
      exact good_pure (hgd e (List.mem_cons_of_mem _ he))
    have hpa := pureAll_of hpu
    cases ent with
    | @cons y er _ _ g3 hr0 =>
    have hne : (!(y :: er).reverse.isEmpty) = true := by simp
    rw [hne]
    refine iteT ⟨fun σ' H' => WPm K s0 l0 H pm pw v d0 m σ' H', fun _ _ h => ⟨m, Nat.lt_succ_self m, h⟩, ?_⟩
    have hlast : (y :: er).reverse[(y :: er).reverse.length - 1]? = some y := by simp
    have hdl : (y :: er).reverse.dropLast = er.reverse := by simp
    refine ⟨_, rfl, .inl ⟨rfl, _, SqL.of hw⟩, pw, _, _, rfl, rfl, hw, hlast, ?_⟩
    rw [hdl]
    have g3 := g3.pmono (s' := s0) (l' := l0) (fun _ _ q => seqT_putL (zs := er.reverse) hw q) hd1
    have hr0 := hr0.pmono (s' := s0) (l' := l0) (fun _ _ q => seqT_putL (zs := er.reverse) hw q) hsr
    have met := met.pmono (s' := s0) (l' := l0) (fun _ _ q => seqT_putL (zs := er.reverse) hw q) hpa
    have hm : (upd H1 pw (.lst er.reverse)) pm = some (.lst gs) := by rw [upd_ne ne]; exact hm
    have hw : (upd H1 pw (.lst er.reverse)) pw = some (.lst er.reverse) := upd_same
    have sa := same_putL (zs := er.reverse) npw sa
    generalize upd H1 pw (.lst er.reverse) = H2 at *
    have hwk : pds ++ walkP (m + 1) (d1 :: sr.map (·.2)) = partsD d0 := hwk
    unfold walkP at hwk
    rw [hf] at hwk
    dsimp only at hwk
    have hgl : gs.length < sizeLine := Nat.lt_of_le_of_lt (show _ ≤ 61 by omega) (by decide)
    refine ⟨_, rfl, .inl ⟨rfl, _, SqL.of hm⟩, _, rfl, pm, _, _, rfl, rfl, hm, hgl, ?_⟩
    have g3 := g3.pmono (s' := s0) (l' := l0) (fun _ _ q => seqT_putL (zs := gs ++ [y]) hm q) hd1
    have hr0 := hr0.pmono (s' := s0) (l' := l0) (fun _ _ q => seqT_putL (zs := gs ++ [y]) hm q) hsr
    have met := (met.pmono (s' := s0) (l' := l0) (fun _ _ q => seqT_putL (zs := gs ++ [y]) hm q) hpa).app (.cons g3 .nil)
    have hw : (upd H2 pm (.lst (gs ++ [y]))) pw = some (.lst er.reverse) := by rw [upd_ne ne.symm]; exact hw
    have hm : (upd H2 pm (.lst (gs ++ [y]))) pm = some (.lst (gs ++ [y])) := upd_same
    have sa := same_putL (zs := gs ++ [y]) hpm sa
    generalize upd H2 pm (.lst (gs ++ [y])) = H3 at *
    refine ⟨_, rfl, .inl ⟨rfl, _, SqL.of hw⟩, _, rfl, s0, l0, y, d1, o, ps, rfl, g3, hf, fun H4 pi xs e4 hpi hxs => ⟨pi, xs, rfl, hpi, fun p1 hp1 => ?_⟩⟩
    have sx := Same.trans e4 (same_new hp1 (.tup xs.reverse))
    have z1 : upd H4 p1 (.tup xs.reverse) p1 = some (.tup xs.reverse) := upd_same
    have hr0 := hr0.same sx
    have met := met.same sx
    have hw := sx _ _ hw
    have hm := sx _ _ hm
    have hxs := hxs.same (same_new hp1 (.tup xs.reverse))
    have sd := Same.trans sa sx
    clear sx
    generalize upd H4 p1 (.tup xs.reverse) = H6 at *
    have hxl : ps.length = xs.length := hxs.len
    have hel : (sr.map fun e : Nat × PyData => e.2).length = er.length := hr0.len
    rw [List.length_map] at hel
    simp only [List.length_cons] at hst
    refine ⟨pw, p1, _, _, rfl, rfl, hw, SqT.of z1, ?_, ?_⟩
    · rw [List.length_reverse, List.length_reverse]
      omega
    have er2 : er.reverse ++ xs.reverse = (xs ++ er).reverse := by simp
    rw [er2]
    have hpp : pureAll ps = true := pureAll_of fun x hx => good_pure (hgp x hx)
    have hpds : ∀ p ∈ pds ++ [d1], pureD p = true := fun p hp => by
      rcases List.mem_append.mp hp with hp | hp
      · exact hpu p hp
      · rw [List.mem_singleton.mp hp]
        exact hd1
    refine ⟨(ps.map fun p => (k, p)) ++ sr, xs ++ er, gs ++ [y], pds ++ [d1], _, rfl, ne, upd_same, by rw [upd_ne ne]; exact hm, ?_, met.pmono (fun _ _ q => seqT_putL hw q) (pureAll_of hpds), same_putL npw sd, ?_, ?_, ?_, fun e he => ?_, hpds, ?_⟩
    · rw [snds]
      exact (hxs.pmono (s' := s0) (l' := l0) (fun _ _ q => seqT_putL hw q) hpp).app (hr0.pmono (fun _ _ q => seqT_putL hw q) hsr)
    · rw [List.length_append, List.length_singleton]
      omega
    · rw [List.length_append, List.length_map]
      omega
    · rw [scnt_app]
      omega
    · rcases List.mem_append.mp he with he | he
      · obtain ⟨p, hp, rfl⟩ := List.mem_map.mp he
        exact hgp p hp
      · exact hgd e (List.mem_cons_of_mem _ he)
    · rw [snds, List.append_assoc]
      exact hwk
end
abbrev nNI : List Str := ["formula", "names", "part", "name"]
section
variable {P : Program} {w : World} {K : PySem.W.Frag} {mg : Str → Option Value} {base : Heap}
theorem scNamesIn : FnScope nNI ["formula"] (defScope sNamesIn) := ⟨rfl, rfl, rfl, by decide +kernel, rfl, by decide +kernel, by decide +kernel⟩
theorem ok_namesin {f C : Addr} {fd : FuncData} (F : Fun K "names_in" "names_in" sNamesIn f fd) (PM : Def P w K mg base (L2.CX P w) "parts_met" 4 ["formula"] (spPartsMet K C))
    (NI : Def P w K mg base CX0 "name_in" 1 ["part"] (spNameIn K)) (mL : mg "list" = none) :
    FnOk P w K mg base (L2.CX P w) 5 f fd ["formula"] (spNamesIn K C) := by
  refine F.okX scNamesIn (fun vs H Q E h => ?_) (fun cdv A outer s H vs Q E hr h => ?_)
  · obtain ⟨s, l, v, d, rfl, _⟩ := h
    rfl
  obtain ⟨s0, l0, v, d0, rfl, hv, qn, qe⟩ := h
  have hr1 : Room 1 _ := hr.mono (by omega)
  refine ⟨_, pss_cons (ps_set (i := 1) scNamesIn.nd rfl (Or.inl rfl) pe_dnewK)
    (pss_cons (ps_for (passes_of rfl) rfl (pi_list (pe_defX PM hr rfl (takes_of rfl rfl rfl rfl) (pa_cons (pv 0) pa_nil))) (pg_name (i := 2) scNamesIn.nd rfl (Or.inl rfl))
      (pss_cons (ps_set (i := 3) scNamesIn.nd rfl (Or.inl rfl) (pe_def NI hr1 rfl (pa_cons (pv 2) pa_nil)))
      (pss_one (ps_if (pt_cmpR op_notN (pv 3) pe_non (nomark _)) (pss_one (ps_dput (hu_of hr) (pv 1) (pv 3) pe_bl rfl)) pss_nil))))
    (pss_one (ps_ret (pe_callTy (call_listD rfl) (by rfl) mL PyProof.Rows.boot_list (pa_cons (pv 1) pa_nil))))), ?_⟩
  refine fun pn hpn => ⟨_, rfl, s0, l0, v, d0, rfl, hv.same (same_new hpn _), fun hnone H2 pl es e2 hl hes => ?_, fun way hw H2 dx p e2 h1 h2 h3 h4 h5 => ?_⟩
  rotate_left
  · exact qe way hw H2 dx p (Same.trans (same_new hpn _) e2) (none_back (same_new hpn _) h1) h2 h3 h4 h5
  obtain ⟨hg, hc⟩ := place_good hnone
  have s1 : Same H (upd H pn (.dK [])) := same_new hpn _
  have s2 := Same.trans s1 e2
  have hd : H2 pn = some (.dK []) := s_at e2 upd_same
  have npl : pl ≠ pn := fun z => by
    rw [z, hd] at hl
    cases hl
  have hel : (partsD d0).length = es.length := hes.len
  have hlen : (partsD d0).length ≤ 61 := walkP_len 61 [d0]
  have hpu : ∀ (f : Nat) (st : List (Nat × PyData)), (∀ e ∈ st, goodH e.1 e.2 = true) → ∀ p ∈ walkP f (st.map (·.2)), pureD p = true := fun f => by
    induction f with
    | zero =>
      intro st _ p hp
      cases hp
    | succ f ih =>
      intro st hst p hp
      cases st with
      | nil => cases hp
      | cons e sr =>
        obtain ⟨n, d1⟩ := e
        obtain ⟨k, o, ps, rfl, hf, hgp, hcn⟩ := good_some (n := n) (d := d1) (hst (n, d1) List.mem_cons_self)
        have hp : p ∈ walkP (f + 1) (d1 :: sr.map (·.2)) := hp
        unfold walkP at hp
        rw [hf] at hp
        rcases List.mem_cons.mp hp with rfl | hp
        · exact good_pure (hst (k + 1, p) List.mem_cons_self)
        · refine ih ((ps.map fun p => (k, p)) ++ sr) (fun e he => ?_) p (by rw [snds]; exact hp)
          rcases List.mem_append.mp he with he | he
          · obtain ⟨p, hp, rfl⟩ := List.mem_map.mp he
            exact hgp p hp
          · exact hst e (List.mem_cons_of_mem _ he)
  have hpu : ∀ p ∈ partsD d0, pureD p = true := hpu 61 [(10, d0)] fun e he => by
    rw [List.mem_singleton.mp he]
    exact hg
  refine ⟨pl, rfl, ⟨_, SqL.of hl⟩, ?_⟩
  refine for_list (K := K) (a := pl) (xs := es) (fun i σ' H' => ∃ (x2 x3 : Option V), σ' = [some v, some (.ref pn), x2, x3] ∧ Keep pn pn H2 H' ∧ H' pn = some (.dK (nmD (((partsD d0).take i).foldl (fun ns d => addN ns (nmOf d)) []))))
    ⟨_, _, rfl, Keep.refl, hd⟩ (fun i σ' H' _ t => SqL.of (t.choose_spec.choose_spec.2.1 _ _ npl npl hl)) ?_ ?_
  · rintro i x σ' H3 hi ⟨x2, x3, rfl, k3, h3⟩
    obtain ⟨p, hp, hT⟩ := hes.atS hi
    have hpm : p ∈ partsD d0 := List.mem_of_getElem? hp
    obtain ⟨o, ps, hf⟩ := walkP_form 61 [d0] p hpm
    have eo : nmOf p = o := by
      unfold nmOf
      rw [hf]
    have hT3 := hT.pmono (s' := s0) (l' := l0) (H' := H3) (fun a xs q => by
      rcases q with (q | ⟨u, q⟩) | q
      · exact .inl (.inl (k3 _ _ (ne_of q hd (by intro z; cases z)) (ne_of q hd (by intro z; cases z)) q))
      · exact .inl (.inr ⟨u, k3 _ _ (ne_of q hd (by intro z; cases z)) (ne_of q hd (by intro z; cases z)) q⟩)
      · exact .inr q) (hpu p hpm)
    have eT : ((partsD d0).take (i + 1)).foldl (fun ns d => addN ns (nmOf d)) [] = addN (((partsD d0).take i).foldl (fun ns d => addN ns (nmOf d)) []) o := by
      rw [List.take_add_one, hp, Option.toList_some, List.foldl_append, List.foldl_cons, List.foldl_nil, eo]
    have hL : ∀ (ds : List PyData) (ns : List Str), (ds.foldl (fun ns d => addN ns (nmOf d)) ns).length ≤ ns.length + ds.length := fun ds => by
      induction ds with
      | nil => exact fun ns => Nat.le_refl _
      | cons d r ih =>
        intro ns
        have a := ih (addN ns (nmOf d))
        have b := addN_len ns (nmOf d)
        simp only [List.foldl_cons, List.length_cons]
        omega
    have hLi := hL ((partsD d0).take i) []
    rw [List.length_take, List.length_nil] at hLi
    refine ⟨_, rfl, s0, l0, x, p, o, ps, rfl, hT3, hf, _, rfl, rfl, _, rfl, ?_⟩
    cases o with
    | none => exact iteF ⟨_, _, rfl, k3, by rw [eT]; exact h3⟩
    | some z =>
      refine iteT ⟨_, rfl, _, rfl, pn, _, rfl, DPut.k (k := .inr z) h3 (by rw [nmD_len]; exact Nat.lt_of_le_of_lt (show _ ≤ 61 by omega) (by decide)), ?_⟩
      exact ⟨_, _, rfl, k3.trans Keep.put, by rw [nmD_put, eT]; exact upd_same⟩
  · rintro σ' H3 ⟨x2, x3, rfl, k3, h3⟩
    rw [← hel, List.take_length] at h3
    unfold partsD at h3
    rw [walkP_names] at h3
    refine ⟨_, rfl, pn, _, rfl, Rd.of h3, fun p hp => qn hnone _ p ?_ ?_⟩
    · exact Same.trans (fun b u q => k3 b u (ne_of_none q hpn) (ne_of_none q hpn) (s2 b u q)) (same_new hp _)
    · have e2 : ((nmD (namesD d0)).map fun kv => kV kv.1) = (namesD d0).map V.str := by
        unfold nmD
        rw [List.map_map]
        rfl
      rw [← e2]
      exact upd_same
end
end Kn
set_option Elab.async false
set_option linter.all false
set_option maxRecDepth 100000
set_option maxHeartbeats 4000000
set_option pp.maxSteps 1200
namespace Kn
open PySem L2 TL PySem.Spec PyProof.Rows
/-! ### a text among texts -/
theorem inV_strs (z : Str) (ws : List Str) : inV (.str z) (ws.map V.str) = decide (z ∈ ws) := by
  unfold inV
  rw [List.any_map]
  induction ws with
  | nil => rfl
  | cons y r ih =>
    rw [List.any_cons, ih]
    by_cases h : y = z
    · have e : (((fun y => eqV y (V.str z)) ∘ V.str) y) = true := by
        rw [h]
        show decide (z = z) = true
        exact decide_eq_true rfl
      rw [e, h]
      simp
    · have h2 : ¬ z = y := fun q => h q.symm
      have e : (((fun y => eqV y (V.str z)) ∘ V.str) y) = false := decide_eq_false h
      rw [e]
      simp [h2]
theorem flat_strs (ws : List Str) : (ws.map V.str).all flatV = true := by
  rw [List.all_map]
  exact List.all_eq_true.mpr fun _ _ => rfl
abbrev w3 : List Str := [("yes" : Str), "no", "name"]
abbrev q3 : List Str := [("some" : Str), "all", "put"]
abbrev n4 : List Str := [("name" : Str), "some", "all", "put"]
theorem shape_kinds : ∀ p ∈ shapeTab, (p.1 ∈ w3 → p.2.2 = 0) ∧ (p.1 ∈ q3 → p.2.1 = 1) ∧ (p.1 ∉ w3 → p.1 ∉ q3 → p.2.1 = 0) ∧ (p.1 ∈ n4 ↔ p.2.1 = 1) := by decide +kernel
theorem shape_kind {z : Str} {a b : Nat} (h : shapeT z = some (a, b)) : (z ∈ w3 → b = 0) ∧ (z ∈ q3 → a = 1) ∧ (z ∉ w3 → z ∉ q3 → a = 0) ∧ (z ∈ n4 ↔ a = 1) := shape_kinds _ (shapeT_mem h)
theorem TgAll.nilr {K : PySem.W.Frag} {s l : Addr} {H : Hp} {xs : List V} (h : TgAll K s l H xs []) : xs = [] := by
  cases h
  rfl
section
variable {P : Program} {w : World} {K : PySem.W.Frag} {mg : Str → Option Value} {base : Heap}
/-! ### _law_own -/
theorem scOwn : FnScope ["formula"] ["formula"] (defScope sOwn) := ⟨rfl, rfl, rfl, by decide +kernel, rfl, by decide +kernel, by decide +kernel⟩
def spOwn (K : PySem.W.Frag) : Sp := fun vs H Q _ => ∃ (s l : Addr) (v : V) (d : PyData) (o : Option Str) (ps : List PyData) (H0 : Hp), vs = [v] ∧ Same H0 H ∧ Tg K s l H0 v d ∧ formD d = some (o, ps) ∧
  ∀ (H' : Hp) (p : Addr) (xs : List V), Same H H' → H p = none → H' p = some (.lst xs) → TgAll K s l H0 xs ps → Q (.ref p) H'
theorem ok_own {f : Addr} {fd : FuncData} (F : Fun K "_law_own" "_law_own" sOwn f fd) (mL : mg "list" = none) : FnOk P w K mg base CX0 1 f fd ["formula"] (spOwn K) := by
  refine F.ok scOwn (fun vs H Q E h => ?_) (fun cdv A outer s H vs Q E hr h => ?_)
  · obtain ⟨s, l, v, d, o, ps, H0, rfl, _⟩ := h
    rfl
  obtain ⟨s, l, v, d, o, ps, H0, rfl, e00, hv, hf, q⟩ := h
  refine ⟨_, pss_cons (ps_if (pt_cmpR op_in_seq (pe_ix ix_tup (pv 0) pe_int (fun _ _ => rfl)) (pe_tup (pa_cons pe_str (pa_cons pe_str (pa_cons pe_str pa_nil)))) (by rfl)) (pss_one (ps_ret (pe_lst pa_nil))) pss_nil)
    (pss_one (ps_ret (pe_callTy call_list_of (by rfl) mL PyProof.Rows.boot_list (pa_cons (pe_ifExp (pt_cmpR op_in_seq (pe_ix ix_tup (pv 0) pe_int (fun _ _ => rfl)) (pe_tup (pa_cons pe_str (pa_cons pe_str (pa_cons pe_str pa_nil)))) (by rfl))
      (pe_slice sl_tupA (pv 0) (po_some pe_int) po_none) (pe_slice sl_tupA (pv 0) (po_some pe_int) po_none)) pa_nil)))), ?_⟩
  have fin : ∀ (z : Str) (a : Addr) (xr xp : List V) (c b : Nat) (H1 : Hp), Same H H1 → z ∉ w3 → shapeT z = some (c, b) → SqT K H a (.str z :: xr) → TgAll K s l H0 xp ps → (c = 0 → xp = xr) → (c = 1 → ∃ x, xr = x :: xp) → ∀ t, H1 t = none →
      (rIn K false (.str z) (.ref t) (upd H1 t (.tup [.str "some", .str "all", .str "put"])) fun v H2 => ∃ k, v = .bl k ∧ if k = true then rSlA K (.ref a) (some 2) none H2 (fun v H3 => ∃ p ys, [v] = [.ref p] ∧ (SqL K H3 p ys ∨ SqT K H3 p ys) ∧ ∀ l, H3 l = none → Q (.ref l) (upd H3 l (.lst ys)))
        else rSlA K (.ref a) (some 1) none H2 (fun v H3 => ∃ p ys, [v] = [.ref p] ∧ (SqL K H3 p ys ∨ SqT K H3 p ys) ∧ ∀ l, H3 l = none → Q (.ref l) (upd H3 l (.lst ys)))) := by
    intro z a xr xp c b H1 e1 hn hs ha hx h0 h1 t ht
    obtain ⟨k1, k2, k3, _⟩ := shape_kind hs
    refine ⟨t, _, rfl, .inr (SqT.of upd_same), rfl, rfl, _, rfl, ite2 (fun c3 => ?_) (fun c3 => ?_)⟩
    · have c3 : decide (z ∈ q3) = true := (inV_strs z q3).symm.trans c3
      obtain ⟨x, rfl⟩ := h1 (k2 (of_decide_eq_true c3))
      refine slA_any (Same.seqT (Same.trans e1 (same_new ht _)) ha) fun H3 p e3 h3 => ⟨p, _, rfl, .inr h3, fun l hl => ?_⟩
      have e4 := Same.trans (Same.trans e1 (same_new ht _)) (Same.trans e3 (same_new hl (.lst (cutV (V.str z :: x :: xp) (some 2) none))))
      have ec : cutV (V.str z :: x :: xp) (some 2) none = xp := cut_drop (j := 2) (by rw [List.length_cons, List.length_cons]; omega)
      rw [ec] at e4 ⊢
      exact q _ l xp e4 (none_back (Same.trans (Same.trans e1 (same_new ht _)) e3) hl) upd_same hx
    · have c3 : ¬ decide (z ∈ q3) = true := fun z2 => c3 ((inV_strs z q3).trans z2)
      have nq : z ∉ q3 := fun z2 => c3 (decide_eq_true z2)
      have ec : cutV (V.str z :: xr) (some 1) none = xr := cut_drop (j := 1) (by rw [List.length_cons]; omega)
      refine slA_any (Same.seqT (Same.trans e1 (same_new ht _)) ha) fun H3 p e3 h3 => ⟨p, _, rfl, .inr h3, fun l hl => ?_⟩
      have e4 := Same.trans (Same.trans e1 (same_new ht _)) (Same.trans e3 (same_new hl (.lst (cutV (V.str z :: xr) (some 1) none))))
      rw [ec] at e4 ⊢
      have ex : xp = xr := h0 (k3 hn nq)
      rw [← ex] at e4 ⊢
      exact q _ l xp e4 (none_back (Same.trans (Same.trans e1 (same_new ht _)) e3) hl) upd_same hx
  obtain ⟨z, b, hl, ⟨hs, rfl, rfl⟩ | ⟨x, hs, rfl, rfl, hx⟩⟩ := formD_inv hf
  · cases hv with
    | @tup a xs ds ha hxs =>
      have ha := Same.seqT e00 ha
      cases hxs with
      | @cons x0 xr d0 dr h0 hr0 =>
        cases h0
        refine ⟨_, rfl, a, _, _, _, rfl, rfl, ha, atI_nat (j := 0) rfl, (by show 3 ≤ sizeLine; decide), fun t1 ht1 => ⟨t1, _, rfl, .inr (SqT.of upd_same), rfl, rfl, _, rfl, ite2 (fun c1 => ?_) (fun c1 => ?_)⟩⟩
        · have c1 : decide (z ∈ w3) = true := (inV_strs z w3).symm.trans c1
          have hb := (shape_kind hs).1 (of_decide_eq_true c1)
          have e0 : ps = [] := List.eq_nil_of_length_eq_zero (by omega)
          subst e0
          have ex := hr0.nilr
          subst ex
          exact ⟨Nat.zero_le _, fun p hp => q _ p [] (Same.trans (same_new ht1 _) (same_new hp _)) (none_back (same_new ht1 _) hp) upd_same .nil⟩
        · have c1 : z ∉ w3 := fun z2 => c1 ((inV_strs z w3).trans (decide_eq_true z2))
          refine ⟨_, rfl, a, _, _, _, rfl, rfl, Same.seqT (same_new ht1 _) ha, atI_nat (j := 0) rfl, (by show 3 ≤ sizeLine; decide), fun t ht => ?_⟩
          have := fin z a xr xr 0 b _ (same_new ht1 _) c1 hs ha hr0 (fun _ => rfl) (fun h => by cases h) t ht
          obtain ⟨p, xs, e1, e2, e3, e4, k, e5, e6⟩ := this
          refine ⟨p, xs, e1, e2, e3, e4, k, e5, ?_⟩
          cases k with
          | true => exact ⟨_, rfl, _, rfl, e6⟩
          | false => exact ⟨_, rfl, _, rfl, e6⟩
  · cases hv with
    | @tup a xs ds ha hxs =>
      have ha := Same.seqT e00 ha
      cases hxs with
      | @cons x0 xr d0 dr h0 hr0 =>
        cases h0
        cases hr0 with
        | @cons x1 xr1 d1 dr1 h1 hr1 =>
        cases h1
        refine ⟨_, rfl, a, _, _, _, rfl, rfl, ha, atI_nat (j := 0) rfl, (by show 3 ≤ sizeLine; decide), fun t1 ht1 => ⟨t1, _, rfl, .inr (SqT.of upd_same), rfl, rfl, _, rfl, ite2 (fun c1 => ?_) (fun c1 => ?_)⟩⟩
        · have c1 : decide (z ∈ w3) = true := (inV_strs z w3).symm.trans c1
          have hb := (shape_kind hs).1 (of_decide_eq_true c1)
          have e0 : ps = [] := List.eq_nil_of_length_eq_zero (by omega)
          subst e0
          have ex := hr1.nilr
          subst ex
          exact ⟨Nat.zero_le _, fun p hp => q _ p [] (Same.trans (same_new ht1 _) (same_new hp _)) (none_back (same_new ht1 _) hp) upd_same .nil⟩
        · have c1 : z ∉ w3 := fun z2 => c1 ((inV_strs z w3).trans (decide_eq_true z2))
          refine ⟨_, rfl, a, _, _, _, rfl, rfl, Same.seqT (same_new ht1 _) ha, atI_nat (j := 0) rfl, (by show 3 ≤ sizeLine; decide), fun t ht => ?_⟩
          have := fin z a (V.str x :: xr1) xr1 1 b _ (same_new ht1 _) c1 hs ha hr1 (fun h => by cases h) (fun _ => ⟨_, rfl⟩) t ht
          obtain ⟨p, xs, e1, e2, e3, e4, k, e5, e6⟩ := this
          refine ⟨p, xs, e1, e2, e3, e4, k, e5, ?_⟩
          cases k with
          | true => exact ⟨_, rfl, _, rfl, e6⟩
          | false => exact ⟨_, rfl, _, rfl, e6⟩
end
end Kn
set_option Elab.async false
set_option linter.all false
set_option maxRecDepth 100000
set_option maxHeartbeats 4000000
set_option pp.maxSteps 1200
namespace Kn
open PySem L2 TL PySem.Spec PyProof.Rows
/-! ### _law_named -/
theorem pre_len : ∀ (n : Nat) (d : PyData), goodH n d = true → (pre n d).length ≤ cnt n d
  | 0, _, h => by cases h
  | n + 1, d, h => by
    obtain ⟨k, o, ps, e, hf, hg, hc⟩ := good_some h
    obtain rfl : n = k := Nat.succ.inj e
    rw [hc]
    unfold pre
    rw [hf]
    dsimp only
    rw [List.length_append]
    have h1 : o.toList.length ≤ 1 := by cases o <;> simp
    have h2 : ∀ qs : List PyData, (∀ p ∈ qs, goodH n p = true) → (qs.flatMap (pre n)).length ≤ (qs.map (cnt n)).sum := by
      intro qs
      induction qs with
      | nil => exact fun _ => Nat.le_refl _
      | cons p r ih =>
        intro hq
        rw [List.flatMap_cons, List.length_append, List.map_cons, List.sum_cons]
        have := pre_len n p (hq p List.mem_cons_self)
        have := ih fun z hz => hq z (List.mem_cons_of_mem _ hz)
        omega
    have := h2 ps hg
    omega
theorem fold_addS_len : ∀ (xs acc : List Str), (xs.foldl addS acc).length ≤ acc.length + xs.length
  | [], acc => Nat.le_refl _
  | x :: r, acc => by
    rw [List.foldl_cons]
    have h1 := fold_addS_len r (addS acc x)
    have h2 : (addS acc x).length ≤ acc.length + 1 := addN_len acc (some x)
    rw [List.length_cons]
    omega
theorem named_len {n : Nat} {d : PyData} (h : goodH n d = true) : (namedR n d).length ≤ cnt n d := by
  rw [namedR_pre]
  have h1 := fold_addS_len (pre n d) []
  have h2 := pre_len n d h
  rw [List.length_nil] at h1
  omega
abbrev stepN (n : Nat) (found : List Str) (p : PyData) : List Str := found ++ (namedR n p).filter fun x => decide (x ∉ found)
theorem foldN_len {n : Nat} : ∀ {ps : List PyData} {acc : List Str}, (∀ p ∈ ps, goodH n p = true) → (ps.foldl (stepN n) acc).length ≤ acc.length + (ps.map (cnt n)).sum
  | [], acc, _ => Nat.le_refl _
  | p :: r, acc, h => by
    rw [List.foldl_cons, List.map_cons, List.sum_cons]
    have h1 := foldN_len (ps := r) (acc := stepN n acc p) fun z hz => h z (List.mem_cons_of_mem _ hz)
    have h2 := named_len (h p List.mem_cons_self)
    have h3 := List.length_filter_le (fun x => decide (x ∉ acc)) (namedR n p)
    have h4 : (stepN n acc p).length = acc.length + ((namedR n p).filter fun x => decide (x ∉ acc)).length := List.length_append ..
    omega
theorem cnt_mem {n : Nat} {ps : List PyData} {p : PyData} (h : p ∈ ps) : cnt n p ≤ (ps.map (cnt n)).sum := by
  induction ps with
  | nil => cases h
  | cons q r ih =>
    rw [List.map_cons, List.sum_cons]
    rcases List.mem_cons.mp h with h | h
    · rw [h]
      omega
    · have := ih h
      omega
theorem take_sum {n : Nat} : ∀ (ps : List PyData) (i : Nat), ((ps.take i).map (cnt n)).sum ≤ (ps.map (cnt n)).sum
  | [], i => by simp
  | p :: r, 0 => by simp
  | p :: r, i + 1 => by
    rw [List.take_succ_cons, List.map_cons, List.sum_cons, List.map_cons, List.sum_cons]
    have := take_sum (n := n) r i
    omega
theorem same_mut {H0 H : Hp} {p : Addr} {o : HO} (n : H0 p = none) (e : Same H0 H) : Same H0 (upd H p o) := fun b u q => by
  rw [upd_ne (ne_of_none q n)]
  exact e b u q
theorem TgAll.at {K : PySem.W.Frag} {s l : Addr} {H : Hp} : ∀ {j : Nat} {xs : List V} {ds : List PyData} {x : V}, TgAll K s l H xs ds → xs[j]? = some x → ∃ d, ds[j]? = some d ∧ Tg K s l H x d
  | _, _, _, _, .nil, h => by simp at h
  | 0, _, _, x', .cons a b, h => ⟨_, rfl, by
      have e := Option.some.inj h
      rw [← e]
      exact a⟩
  | j + 1, _, _, _, .cons a b, h => TgAll.at (j := j) b h
/-- the names of a good thing below n deep, as they are met -/
def spNamed (K : PySem.W.Frag) (n : Nat) : Sp := fun vs H Q _ => ∃ (s l : Addr) (v : V) (d : PyData), vs = [v] ∧ Tg K s l H v d ∧ goodH n d = true ∧ cnt n d ≤ 60 ∧
  ∀ (H' : Hp) (p : Addr), Same H H' → H p = none → H' p = some (.lst ((namedR n d).map V.str)) → Q (.ref p) H'
abbrev nNamed : List Str := ["formula", "found", "part", "name"]
section
variable {P : Program} {w : World} {K : PySem.W.Frag} {mg : Str → Option Value} {base : Heap}
theorem scNamed : FnScope nNamed ["formula"] (defScope sNamed) := ⟨rfl, rfl, rfl, by decide +kernel, rfl, by decide +kernel, by decide +kernel⟩
theorem step_named {n : Nat} {f : Addr} {fd : FuncData} (F : Fun K "_law_named" "_law_named" sNamed f fd) (bG : Binds K fd ["formula"] []) (mG : mg "_law_named" = some (.ref f)) (O : Def P w K mg base CX0 "_law_own" 1 ["formula"] (spOwn K))
    (G : FnOk P w K mg base CX0 (n + 2) f fd ["formula"] (spNamed K n)) : FnOk P w K mg base CX0 (n + 3) f fd ["formula"] (spNamed K (n + 1)) := by
  refine F.ok scNamed (fun vs H Q E h => ?_) (fun cdv A outer s H vs Q E hr h => ?_)
  · obtain ⟨s, l, v, d, rfl, _⟩ := h
    rfl
  obtain ⟨s, l, v, d, rfl, hv, hg, hc, q⟩ := h
  have hr1 : Room 1 _ := hr.mono (by omega)
  refine ⟨_, Evl.pss_cut (ps_set (i := 1) scNamed.nd rfl (Or.inr rfl) (pe_ifExp (pt_cmpR op_in_seq (pe_ix ix_tup (pv 0) pe_int (fun _ _ => rfl)) (pe_tup (pa_cons pe_str (pa_cons pe_str (pa_cons pe_str (pa_cons pe_str pa_nil))))) (by rfl)) (pe_lst (pa_cons (pe_ix ix_tup (pv 0) pe_int (fun _ _ => rfl)) pa_nil)) (pe_lst pa_nil)))
    (pss_cons (ps_for PassesOwn.never rfl (pi_list (pe_def O hr1 rfl (pa_cons (pv 0) pa_nil))) (pg_name (i := 2) scNamed.nd rfl (Or.inl rfl))
      (pss_one (ps_set (i := 1) scNamed.nd rfl (Or.inr rfl) (pe_op op_cat (pv 1)
        (pe_lc (own := [("name", 3)]) (g := gName 3) rfl scNamed.nd (pi_list (pe_call G hr rfl mG F.kp bG .nil pass0 (pa_cons (pv 2) pa_nil))) (blkOk_by (own := [("name", 3)]) (N := nNamed) (sc := defScope sNamed) (by decide +kernel))
          (fun _ _ _ _ _ => pg_name (i := 3) scNamed.nd rfl (Or.inl rfl)) (fun _ _ _ _ _ => pts_one (pt_cmpR (op_notInK (K := K) rfl) (pv 3) (pv 1) (by rfl))) (fun _ _ _ _ _ => pv 3))))))
    (pss_one (ps_ret (pv 1)))), ?_⟩
  obtain ⟨k, o, ps, e, hf, hgp, hcn⟩ := good_some hg
  obtain rfl : n = k := Nat.succ.inj e
  rw [hcn] at hc
  have hps := form_few hf
  have eR : namedR (n + 1) d = ps.foldl (stepN n) o.toList := by
    conv => lhs; unfold namedR
    rw [hf]
  have hol : o.toList.length ≤ 1 := by cases o <;> simp
  refine ⟨fun σ' H' => ∃ p1, σ' = [some v, some (.ref p1), none, none] ∧ Same H H' ∧ H p1 = none ∧ H' p1 = some (.lst (o.toList.map V.str)), ?_, ?_⟩
  · obtain ⟨z, b, hl, ⟨hs, rfl, rfl⟩ | ⟨x, hs, rfl, rfl, hx⟩⟩ := formD_inv hf
    · cases hv with
      | @tup a xs ds ha hxs =>
        cases hxs with
        | @cons x0 xr d0 dr h0 hr0 =>
          cases h0
          refine ⟨_, rfl, a, _, _, _, rfl, rfl, ha, atI_nat (j := 0) rfl, (by show 4 ≤ sizeLine; decide), fun t1 ht1 => ⟨t1, _, rfl, .inr (SqT.of upd_same), rfl, rfl, _, rfl, ite2 (fun c1 => ?_) (fun c1 => ?_)⟩⟩
          · have c1 : decide (z ∈ n4) = true := (inV_strs z n4).symm.trans c1
            exact absurd ((shape_kind hs).2.2.2.mp (of_decide_eq_true c1)) (by decide)
          · exact ⟨Nat.zero_le _, fun p hp => ⟨p, rfl, Same.trans (same_new ht1 _) (same_new hp _), none_back (same_new ht1 _) hp, upd_same⟩⟩
    · cases hv with
      | @tup a xs ds ha hxs =>
        cases hxs with
        | @cons x0 xr d0 dr h0 hr0 =>
          cases h0
          cases hr0 with
          | @cons x1 xr1 d1 dr1 h1 hr1 =>
          cases h1
          refine ⟨_, rfl, a, _, _, _, rfl, rfl, ha, atI_nat (j := 0) rfl, (by show 4 ≤ sizeLine; decide), fun t1 ht1 => ⟨t1, _, rfl, .inr (SqT.of upd_same), rfl, rfl, _, rfl, ite2 (fun c1 => ?_) (fun c1 => ?_)⟩⟩
          · exact ⟨_, rfl, a, _, _, _, rfl, rfl, Same.seqT (same_new ht1 _) ha, atI_nat (j := 1) rfl, (by show 1 ≤ sizeLine; decide), fun p hp => ⟨p, rfl, Same.trans (same_new ht1 _) (same_new hp _), none_back (same_new ht1 _) hp, upd_same⟩⟩
          · exact absurd ((inV_strs z n4).trans (decide_eq_true ((shape_kind hs).2.2.2.mpr rfl))) c1
  rintro σ H1 ⟨p1, rfl, e1, n1, h1⟩
  refine ⟨_, rfl, s, l, v, d, o, ps, H1, rfl, Same.refl _, hv.same e1, hf, fun H2 pl xs e2 n2 h2 hxs => ⟨pl, rfl, ⟨_, SqL.of h2⟩, ?_⟩⟩
  have hxs := hxs.same e2
  have hxl : ps.length = xs.length := hxs.len
  refine for_list (K := K) (a := pl) (xs := xs) (fun i σ' H' => ∃ (pf : Addr) (x2 x3 : Option V), σ' = [some v, some (.ref pf), x2, x3] ∧ Same H2 H' ∧ H pf = none ∧ H' pf = some (.lst (((ps.take i).foldl (stepN n) o.toList).map V.str)))
    ⟨p1, _, _, rfl, Same.refl _, n1, e2 _ _ h1⟩ (fun i σ' H' _ t => SqL.of (t.choose_spec.choose_spec.choose_spec.2.1 _ _ h2)) ?_ ?_
  · rintro i x σ' H3 hi ⟨pf, x2, x3, rfl, e3, n3, h3⟩
    obtain ⟨p, hp, hT⟩ := hxs.at hi
    have hpm : p ∈ ps := List.mem_of_getElem? hp
    have hT3 := hT.same e3
    have hcp := cnt_mem (n := n) hpm
    have hF : ((ps.take i).foldl (stepN n) o.toList).length ≤ 60 := by
      have a1 := foldN_len (n := n) (ps := ps.take i) (acc := o.toList) fun z hz => hgp z (List.mem_of_mem_take hz)
      have a2 := take_sum (n := n) ps i
      omega
    have hFn : (stepN n ((ps.take i).foldl (stepN n) o.toList) p).length ≤ 120 := by
      have a1 := named_len (hgp p hpm)
      have a2 := List.length_filter_le (fun x => decide (x ∉ (ps.take i).foldl (stepN n) o.toList)) (namedR n p)
      rw [List.length_append]
      omega
    have eT : (ps.take (i + 1)).foldl (stepN n) o.toList = stepN n ((ps.take i).foldl (stepN n) o.toList) p := by
      rw [List.take_add_one, hp, List.foldl_append]
      rfl
    generalize (ps.take i).foldl (stepN n) o.toList = fo at *
    refine ⟨_, rfl, _, rfl, s, l, x, p, rfl, hT3, hgp p hpm, by omega, fun H4 pr e4 n4' h4 => ⟨pr, rfl, ⟨_, SqL.of h4⟩, fun D hD => ?_⟩⟩
    have nDr : pr ≠ D := fun z => by
      rw [← z, h4] at hD
      cases hD
    refine lc_list (K := K) (a := pr) (xs := (namedR n p).map V.str) (fun j H' => Same H4 H' ∧ H' D = some (.lst ((((namedR n p).take j).filter fun x => decide (x ∉ fo)).map V.str)))
      ⟨same_mut hD (Same.refl _), upd_same⟩ (fun j H' _ t => SqL.of (t.1 _ _ h4)) ?_ ?_
    · rintro j y H5 hj ⟨e5, h5⟩
      rw [List.getElem?_map] at hj
      obtain ⟨z, hz, rfl⟩ : ∃ z, (namedR n p)[j]? = some z ∧ V.str z = y := by
        cases e : (namedR n p)[j]? with
        | none =>
          rw [e] at hj
          cases hj
        | some z =>
          rw [e] at hj
          exact ⟨z, rfl, Option.some.inj hj⟩
      have et : (namedR n p).take (j + 1) = (namedR n p).take j ++ [z] := by
        rw [List.take_add_one, hz]
        rfl
      refine ⟨rfl, _, rfl, _, rfl, pf, _, rfl, .inl (SqL.of (e5 _ _ (e4 _ _ h3))), rfl, flat_strs _, _, rfl, ite2 (fun c => ?_) (fun c => ?_)⟩
      · have c : (!inV (V.str z) (fo.map V.str)) = true := c
        rw [inV_strs] at c
        have c2 : z ∉ fo := by simpa using c
        refine ⟨_, rfl, _, h5, ?_, same_mut hD e5, ?_⟩
        · rw [List.length_map]
          have a1 := named_len (hgp p hpm)
          have a2 := List.length_filter_le (fun x => decide (x ∉ fo)) ((namedR n p).take j)
          rw [List.length_take] at a2
          exact Nat.lt_of_le_of_lt (show _ ≤ 60 by omega) (by decide)
        · rw [upd_same, et, List.filter_append, List.map_append]
          have : ([z].filter fun x => decide (x ∉ fo)) = [z] := by simp [c2]
          rw [this]
          rfl
      · have c : ¬ (!inV (V.str z) (fo.map V.str)) = true := c
        rw [inV_strs] at c
        have c2 : z ∈ fo := by simpa using c
        refine ⟨e5, ?_⟩
        rw [et, List.filter_append]
        have : ([z].filter fun x => decide (x ∉ fo)) = [] := by simp [c2]
        rw [this, List.append_nil]
        exact h5
    · rintro H5 ⟨e5, h5⟩
      rw [List.length_map, List.take_length] at h5
      refine ⟨pf, D, _, _, rfl, rfl, e5 _ _ (e4 _ _ h3), h5, ?_, fun p5 hp5 => ?_⟩
      · rw [← List.length_append, ← List.map_append, List.length_map]
        exact Nat.le_trans hFn (by decide)
      · refine ⟨p5, _, _, rfl, Same.trans (Same.trans e3 (Same.trans e4 e5)) (same_new hp5 _), none_back (Same.trans (Same.trans e1 e2) (Same.trans e3 (Same.trans e4 e5))) hp5, ?_⟩
        rw [upd_same, eT, List.map_append]
  · rintro σ' H3 ⟨pf, x2, x3, rfl, e3, n3, h3⟩
    rw [← hxl, List.take_length, ← eR] at h3
    exact ⟨_, rfl, q H3 pf (Same.trans (Same.trans e1 e2) e3) n3 h3⟩
theorem all_named {f : Addr} {fd : FuncData} (F : Fun K "_law_named" "_law_named" sNamed f fd) (bG : Binds K fd ["formula"] []) (mG : mg "_law_named" = some (.ref f)) (O : Def P w K mg base CX0 "_law_own" 1 ["formula"] (spOwn K)) :
    ∀ n : Nat, FnOk P w K mg base CX0 (n + 2) f fd ["formula"] (spNamed K n)
  | 0 => by
    have no : ∀ vs H Q E, ¬ spNamed K 0 vs H Q E := fun vs H Q E h => by
      obtain ⟨s, l, v, d, _, _, hg, _⟩ := h
      cases hg
    exact ⟨fun vs H Q E h => absurd h (no vs H Q E), fun A outer s H args us vs Q E _ _ _ _ h => absurd h (no vs H Q E)⟩
  | n + 1 => step_named F bG mG O (all_named F bG mG O n)
end
end Kn
namespace Kn
/-! ### bits -/
theorem tb_decide (x i : Nat) : x.testBit i = decide (x / 2 ^ i % 2 = 1) := Nat.testBit_eq_decide_div_mod_eq
/-- a number's part above bit i, the bit, the part below -/
theorem split_at (s i : Nat) : s = 2 ^ (i + 1) * (s / 2 ^ (i + 1)) + s % 2 ^ (i + 1) := (Nat.div_add_mod s _).symm
theorem low_of_clear {s i : Nat} (h : s.testBit i = false) : s % 2 ^ (i + 1) < 2 ^ i := by
  rw [tb_decide, decide_eq_false_iff_not] at h
  have e : s % 2 ^ (i + 1) = s % 2 ^ i + 2 ^ i * (s / 2 ^ i % 2) := by
    rw [Nat.pow_succ, Nat.mod_mul]
  have hz : s / 2 ^ i % 2 = 0 := by omega
  rw [e, hz, Nat.mul_zero, Nat.add_zero]
  exact Nat.mod_lt _ (Nat.two_pow_pos i)
theorem add_bit {s i : Nat} (h : s.testBit i = false) (j : Nat) : (2 ^ i + s).testBit j = (decide (j = i) || s.testBit j) := by
  have l := low_of_clear h
  have e : 2 ^ i + s = 2 ^ (i + 1) * (s / 2 ^ (i + 1)) + (2 ^ i * 1 + s % 2 ^ (i + 1)) := by
    have := split_at s i
    omega
  have l2 : 2 ^ i * 1 + s % 2 ^ (i + 1) < 2 ^ (i + 1) := by
    rw [Nat.pow_succ]
    rw [Nat.pow_succ] at l
    omega
  rw [e, Nat.testBit_two_pow_mul_add _ l2, Nat.testBit_two_pow_mul_add _ l]
  conv => rhs; rw [split_at s i, Nat.testBit_two_pow_mul_add _ (Nat.mod_lt _ (Nat.two_pow_pos _))]
  by_cases h1 : j < i
  · rw [if_pos (by omega), if_pos h1, if_pos (by omega), decide_eq_false (by omega), Bool.false_or]
  · by_cases h2 : j = i
    · subst h2
      rw [if_pos (by omega), if_neg (by omega), Nat.sub_self, decide_eq_true rfl, Bool.true_or]
      rfl
    · rw [if_neg (by omega), if_neg (by omega), decide_eq_false h2, Bool.false_or]
theorem clear_lt {r k n : Nat} (h : r.testBit k = false) (hr : r < 2 ^ n) (hk : k < n) : 2 ^ k + r < 2 ^ n := by
  have l := low_of_clear h
  have e := split_at r k
  obtain ⟨j, rfl⟩ : ∃ j, n = (k + 1) + j := ⟨n - (k + 1), by omega⟩
  rw [Nat.pow_add] at hr ⊢
  have q : r / 2 ^ (k + 1) < 2 ^ j := (Nat.div_lt_iff_lt_mul (Nat.two_pow_pos _)).mpr (by rw [Nat.mul_comm]; exact hr)
  have m : 2 ^ (k + 1) * (r / 2 ^ (k + 1) + 1) ≤ 2 ^ (k + 1) * 2 ^ j := Nat.mul_le_mul_left _ q
  have p : 2 ^ (k + 1) = 2 ^ k * 2 := Nat.pow_succ ..
  rw [Nat.mul_add] at m
  omega
/-- taking a bit that is there away -/
theorem sub_bit {r k : Nat} (h : r.testBit k = true) : 2 ^ k ≤ r ∧ (r - 2 ^ k).testBit k = false ∧ ∀ j, (r - 2 ^ k).testBit j = (!decide (j = k) && r.testBit j) := by
  have hle : 2 ^ k ≤ r := Nat.le_of_not_lt fun z => by
    rw [Nat.testBit_lt_two_pow z] at h
    cases h
  have e : 2 ^ k + (r - 2 ^ k) = r := by omega
  have c : (r - 2 ^ k).testBit k = false := by
    have := Nat.testBit_two_pow_add_eq (r - 2 ^ k) k
    rw [e, h] at this
    cases q : (r - 2 ^ k).testBit k with
    | false => rfl
    | true => rw [q] at this; cases this
  refine ⟨hle, c, fun j => ?_⟩
  have := add_bit c j
  rw [e] at this
  by_cases hj : j = k
  · subst hj
    rw [c, decide_eq_true rfl]
    rfl
  · rw [this, decide_eq_false hj]
    rfl
/-! ### the bits of a name -/
def whole (n : Nat) : Nat := 2 ^ 2 ^ n - 1
theorem whole_bit (n r : Nat) : (whole n).testBit r = decide (r < 2 ^ n) := Nat.testBit_two_pow_sub_one ..
def hav (n k : Nat) : Nat := (whole n / (2 ^ 2 ^ k + 1)) * 2 ^ 2 ^ k
def pat (k : Nat) : Nat → Nat
  | 0 => (2 ^ 2 ^ k - 1) * 2 ^ 2 ^ k
  | j + 1 => 2 ^ 2 ^ (k + 1 + j) * pat k j + pat k j
def base (k : Nat) : Nat → Nat
  | 0 => 2 ^ 2 ^ k - 1
  | j + 1 => 2 ^ 2 ^ (k + 1 + j) * base k j + base k j
theorem base_pat (k : Nat) : ∀ j, base k j * 2 ^ 2 ^ k = pat k j
  | 0 => rfl
  | j + 1 => by
    unfold base pat
    rw [Nat.add_mul, Nat.mul_assoc, base_pat k j]
theorem base_whole (k : Nat) : ∀ j, base k j * (2 ^ 2 ^ k + 1) = whole (k + 1 + j)
  | 0 => by
    unfold base whole
    have e : 2 ^ 2 ^ (k + 1 + 0) = 2 ^ 2 ^ k * 2 ^ 2 ^ k := by
      rw [← Nat.pow_add]
      congr 1
      rw [Nat.add_zero, Nat.pow_succ]
      omega
    rw [e]
    have h : 0 < 2 ^ 2 ^ k := Nat.two_pow_pos _
    rw [Nat.sub_mul, Nat.mul_add, Nat.mul_one, Nat.one_mul]
    omega
  | j + 1 => by
    unfold base
    rw [Nat.add_mul, Nat.mul_assoc, base_whole k j]
    unfold whole
    have e : 2 ^ 2 ^ (k + 1 + (j + 1)) = 2 ^ 2 ^ (k + 1 + j) * 2 ^ 2 ^ (k + 1 + j) := by
      rw [← Nat.pow_add]
      congr 1
      rw [← Nat.add_assoc, Nat.pow_succ]
      omega
    rw [e]
    have h : 0 < 2 ^ 2 ^ (k + 1 + j) := Nat.two_pow_pos _
    have h2 : 2 ^ 2 ^ (k + 1 + j) ≤ 2 ^ 2 ^ (k + 1 + j) * 2 ^ 2 ^ (k + 1 + j) := Nat.le_mul_of_pos_left _ h
    rw [Nat.mul_sub, Nat.mul_one]
    omega
theorem hav_pat (k j : Nat) : hav (k + 1 + j) k = pat k j := by
  unfold hav
  rw [← base_whole, Nat.mul_div_cancel _ (Nat.succ_pos _), base_pat]
theorem pat_bit (k : Nat) : ∀ j r, (pat k j).testBit r = (decide (r < 2 ^ (k + 1 + j)) && r.testBit k)
  | 0, r => by
    unfold pat
    rw [Nat.mul_comm, Nat.testBit_two_pow_mul, Nat.testBit_two_pow_sub_one, Nat.add_zero, Nat.pow_succ]
    by_cases h1 : r < 2 ^ k * 2
    · rw [decide_eq_true h1, Bool.true_and]
      by_cases h2 : 2 ^ k ≤ r
      · have e : r = 2 ^ k * 1 + (r - 2 ^ k) := by omega
        have t : r.testBit k = true := by
          rw [e, Nat.testBit_two_pow_mul_add _ (by omega), if_neg (by omega), Nat.sub_self]
          rfl
        rw [t, decide_eq_true h2, decide_eq_true (by omega)]
        rfl
      · rw [decide_eq_false h2, Nat.testBit_lt_two_pow (by omega)]
        rfl
    · rw [decide_eq_false h1, Bool.false_and, decide_eq_false (p := r - 2 ^ k < 2 ^ k) (by omega), Bool.and_false]
  | j + 1, r => by
    have lt : pat k j < 2 ^ 2 ^ (k + 1 + j) := Nat.lt_pow_two_of_testBit _ fun i hi => by
      rw [pat_bit k j, decide_eq_false (by omega), Bool.false_and]
    unfold pat
    rw [Nat.testBit_two_pow_mul_add _ lt]
    have p : 2 ^ (k + 1 + (j + 1)) = 2 ^ (k + 1 + j) * 2 := Nat.pow_succ ..
    by_cases h : r < 2 ^ (k + 1 + j)
    · rw [if_pos h, pat_bit k j, decide_eq_true h, decide_eq_true (by omega)]
    · rw [if_neg h, pat_bit k j]
      by_cases h2 : r - 2 ^ (k + 1 + j) < 2 ^ (k + 1 + j)
      · rw [decide_eq_true h2, decide_eq_true (by omega), Bool.true_and, Bool.true_and]
        have e : r = 2 ^ (k + 1 + j) * 1 + (r - 2 ^ (k + 1 + j)) := by omega
        conv => rhs; rw [e, Nat.testBit_two_pow_mul_add _ h2, if_pos (by omega)]
      · rw [decide_eq_false h2, decide_eq_false (by omega), Bool.false_and, Bool.false_and]
theorem hav_bit {n k : Nat} (h : k < n) (r : Nat) : (hav n k).testBit r = (decide (r < 2 ^ n) && r.testBit k) := by
  obtain ⟨j, rfl⟩ : ∃ j, n = (k + 1) + j := ⟨n - (k + 1), by omega⟩
  rw [hav_pat, pat_bit]
/-! ### where a name is yes, where no -/
def wyes (n k t : Nat) : Nat := (t &&& hav n k) ||| ((t &&& hav n k) >>> 2 ^ k)
def wno (n k t : Nat) : Nat := (t &&& (whole n ^^^ hav n k)) ||| ((t &&& (whole n ^^^ hav n k)) <<< 2 ^ k)
/-- row number r with bit k so -/
def setb (r k : Nat) (b : Bool) : Nat := if r.testBit k = b then r else if b then 2 ^ k + r else r - 2 ^ k
theorem setb_bit (r k : Nat) (b : Bool) (j : Nat) : (setb r k b).testBit j = if j = k then b else r.testBit j := by
  unfold setb
  by_cases h : r.testBit k = b
  · rw [if_pos h]
    by_cases hj : j = k
    · rw [if_pos hj, hj, h]
    · rw [if_neg hj]
  · rw [if_neg h]
    cases b with
    | true =>
      have c : r.testBit k = false := by
        cases q : r.testBit k with
        | false => rfl
        | true => exact absurd q h
      rw [if_pos rfl, add_bit c]
      by_cases hj : j = k
      · rw [if_pos hj, decide_eq_true hj]
        rfl
      · rw [if_neg hj, decide_eq_false hj]
        rfl
    | false =>
      have c : r.testBit k = true := by
        cases q : r.testBit k with
        | true => rfl
        | false => exact absurd q h
      rw [if_neg (by decide), (sub_bit c).2.2]
      by_cases hj : j = k
      · rw [if_pos hj, decide_eq_true hj]
        rfl
      · rw [if_neg hj, decide_eq_false hj]
        rfl
theorem setb_lt {r k n : Nat} {b : Bool} (hr : r < 2 ^ n) (hk : k < n) : setb r k b < 2 ^ n := by
  unfold setb
  by_cases h : r.testBit k = b
  · rw [if_pos h]
    exact hr
  · rw [if_neg h]
    cases b with
    | true =>
      rw [if_pos rfl]
      refine clear_lt ?_ hr hk
      cases q : r.testBit k with
      | false => rfl
      | true => exact absurd q h
    | false =>
      rw [if_neg (by decide)]
      exact Nat.lt_of_le_of_lt (Nat.sub_le _ _) hr
theorem wyes_bit {n k t : Nat} (hk : k < n) (r : Nat) : (wyes n k t).testBit r = (decide (r < 2 ^ n) && t.testBit (setb r k true)) := by
  unfold wyes
  rw [Nat.testBit_or, Nat.testBit_shiftRight, Nat.testBit_and, Nat.testBit_and, hav_bit hk, hav_bit hk]
  by_cases h : r < 2 ^ n
  · rw [decide_eq_true h, Bool.true_and, Bool.true_and]
    cases c : r.testBit k with
    | true =>
      have e : setb r k true = r := by
        unfold setb
        rw [if_pos c]
      have z : (2 ^ k + r).testBit k = false := by
        rw [Nat.testBit_two_pow_add_eq, c]
        rfl
      rw [e, z, Bool.and_false, Bool.and_false, Bool.or_false, Bool.and_true]
    | false =>
      have e : setb r k true = 2 ^ k + r := by
        unfold setb
        rw [if_neg (by rw [c]; decide), if_pos rfl]
      have z : (2 ^ k + r).testBit k = true := by
        rw [Nat.testBit_two_pow_add_eq, c]
        rfl
      rw [e, z, decide_eq_true (clear_lt c h hk), Bool.and_false, Bool.false_or, Bool.and_true, Bool.and_true]
  · rw [decide_eq_false h, Bool.false_and, Bool.false_and, Bool.and_false, Bool.false_or, decide_eq_false (fun z => h (Nat.lt_of_le_of_lt (Nat.le_add_left _ _) z)), Bool.false_and, Bool.and_false]
theorem wno_bit {n k t : Nat} (hk : k < n) (r : Nat) : (wno n k t).testBit r = (decide (r < 2 ^ n) && t.testBit (setb r k false)) := by
  unfold wno
  rw [Nat.testBit_or, Nat.testBit_shiftLeft, Nat.testBit_and, Nat.testBit_and, Nat.testBit_xor, Nat.testBit_xor, whole_bit, whole_bit, hav_bit hk, hav_bit hk]
  cases c : r.testBit k with
  | false =>
    have e : setb r k false = r := by
      unfold setb
      rw [if_pos c]
    have z : (decide (r ≥ 2 ^ k) && (t.testBit (r - 2 ^ k) && (decide (r - 2 ^ k < 2 ^ n) ^^ (decide (r - 2 ^ k < 2 ^ n) && (r - 2 ^ k).testBit k)))) = false := by
      by_cases g : r ≥ 2 ^ k
      · have b : (r - 2 ^ k).testBit k = true := by
          have := Nat.testBit_two_pow_add_eq (r - 2 ^ k) k
          rw [show 2 ^ k + (r - 2 ^ k) = r by omega, c] at this
          cases q : (r - 2 ^ k).testBit k with
          | true => rfl
          | false => rw [q] at this; cases this
        rw [b, Bool.and_true, Bool.xor_self, Bool.and_false, Bool.and_false]
      · rw [decide_eq_false g, Bool.false_and]
    rw [z, e, Bool.and_false, Bool.xor_false, Bool.or_false, Bool.and_comm]
  | true =>
    obtain ⟨hle, b, _⟩ := sub_bit c
    have e : setb r k false = r - 2 ^ k := by
      unfold setb
      rw [if_neg (by rw [c]; decide), if_neg (by decide)]
    rw [e, b, Bool.and_true, Bool.xor_self, Bool.and_false, Bool.and_false, Bool.xor_false, Bool.false_or, decide_eq_true hle, Bool.true_and]
    by_cases h : r < 2 ^ n
    · rw [decide_eq_true h, decide_eq_true (Nat.lt_of_le_of_lt (Nat.sub_le _ _) h), Bool.and_true, Bool.true_and]
    · rw [decide_eq_false h, Bool.false_and]
      by_cases h2 : r - 2 ^ k < 2 ^ n
      · exact absurd (clear_lt b h2 hk) (by rw [Nat.add_sub_cancel' hle]; exact h)
      · rw [decide_eq_false h2, Bool.and_false]
end Kn
namespace Kn
/-! ### formulas as trees; what they come to -/
inductive Fo (α : Type) where
  | yes | no
  | nam (x : α)
  | neg (f : Fo α)
  | con (f g : Fo α) | dis (f g : Fo α) | xor (f g : Fo α)
  | ite (f g h : Fo α)
  | som (x : α) (f : Fo α) | all (x : α) (f : Fo α)
  | put (x : α) (f g : Fo α)
section
variable {α : Type} [DecidableEq α]
def upd1 (ρ : α → Bool) (x : α) (b : Bool) : α → Bool := fun y => if y = x then b else ρ y
def Fo.ev : Fo α → (α → Bool) → Bool
  | .yes, _ => true
  | .no, _ => false
  | .nam x, ρ => ρ x
  | .neg f, ρ => !f.ev ρ
  | .con f g, ρ => f.ev ρ && g.ev ρ
  | .dis f g, ρ => f.ev ρ || g.ev ρ
  | .xor f g, ρ => f.ev ρ ^^ g.ev ρ
  | .ite f g h, ρ => if f.ev ρ then g.ev ρ else h.ev ρ
  | .som x f, ρ => f.ev (upd1 ρ x true) || f.ev (upd1 ρ x false)
  | .all x f, ρ => f.ev (upd1 ρ x true) && f.ev (upd1 ρ x false)
  | .put x f g, ρ => g.ev (upd1 ρ x (f.ev ρ))
/-- the names that stand in it -/
def Fo.nms : Fo α → List α
  | .yes => [] | .no => []
  | .nam x => [x]
  | .neg f => f.nms
  | .con f g => f.nms ++ g.nms | .dis f g => f.nms ++ g.nms | .xor f g => f.nms ++ g.nms
  | .ite f g h => f.nms ++ (g.nms ++ h.nms)
  | .som x f => x :: f.nms | .all x f => x :: f.nms
  | .put x f g => x :: (f.nms ++ g.nms)
def Fo.hgt : Fo α → Nat
  | .yes => 0 | .no => 0
  | .nam _ => 0
  | .neg f => f.hgt + 1
  | .con f g => max f.hgt g.hgt + 1 | .dis f g => max f.hgt g.hgt + 1 | .xor f g => max f.hgt g.hgt + 1
  | .ite f g h => max f.hgt (max g.hgt h.hgt) + 1
  | .som _ f => f.hgt + 1 | .all _ f => f.hgt + 1
  | .put _ f g => max f.hgt g.hgt + 1
/-- only what a formula's names come to counts -/
theorem ev_congr : ∀ (f : Fo α) {ρ τ : α → Bool}, (∀ x ∈ f.nms, ρ x = τ x) → f.ev ρ = f.ev τ
  | .yes, _, _, _ => rfl
  | .no, _, _, _ => rfl
  | .nam x, _, _, h => h x (List.mem_singleton.mpr rfl)
  | .neg f, _, _, h => congrArg (!·) (ev_congr f h)
  | .con f g, _, _, h => by
    show (_ && _) = (_ && _)
    rw [ev_congr f fun x m => h x (List.mem_append_left _ m), ev_congr g fun x m => h x (List.mem_append_right _ m)]
  | .dis f g, _, _, h => by
    show (_ || _) = (_ || _)
    rw [ev_congr f fun x m => h x (List.mem_append_left _ m), ev_congr g fun x m => h x (List.mem_append_right _ m)]
  | .xor f g, _, _, h => by
    show (_ ^^ _) = (_ ^^ _)
    rw [ev_congr f fun x m => h x (List.mem_append_left _ m), ev_congr g fun x m => h x (List.mem_append_right _ m)]
  | .ite f g e, ρ, τ, h => by
    show (if _ then _ else _) = (if _ then _ else _)
    rw [ev_congr f fun x m => h x (List.mem_append_left _ m), ev_congr g fun x m => h x (List.mem_append_right _ (List.mem_append_left _ m)), ev_congr e fun x m => h x (List.mem_append_right _ (List.mem_append_right _ m))]
  | .som x f, ρ, τ, h => by
    have e : ∀ b, f.ev (upd1 ρ x b) = f.ev (upd1 τ x b) := fun b => ev_congr f fun y m => by
      unfold upd1
      rw [h y (List.mem_cons_of_mem _ m)]
    show (_ || _) = (_ || _)
    rw [e, e]
  | .all x f, ρ, τ, h => by
    have e : ∀ b, f.ev (upd1 ρ x b) = f.ev (upd1 τ x b) := fun b => ev_congr f fun y m => by
      unfold upd1
      rw [h y (List.mem_cons_of_mem _ m)]
    show (_ && _) = (_ && _)
    rw [e, e]
  | .put x f g, ρ, τ, h => by
    show g.ev _ = g.ev _
    rw [ev_congr f fun y m => h y (List.mem_cons_of_mem _ (List.mem_append_left _ m))]
    exact ev_congr g fun y m => by
      unfold upd1
      rw [h y (List.mem_cons_of_mem _ (List.mem_append_right _ m))]
/-! ### truths at all rows at once -/
/-- the bit of a name -/
def ex (ns : List α) (x : α) : Nat := ns.length - 1 - ns.idxOf x
theorem ex_lt {ns : List α} {x : α} (h : x ∈ ns) : ex ns x < ns.length := by
  have := List.idxOf_lt_length_of_mem h
  unfold ex
  omega
theorem ex_inj {ns : List α} {x y : α} (hx : x ∈ ns) (hy : y ∈ ns) (h : ex ns x = ex ns y) : x = y := by
  have a := List.idxOf_lt_length_of_mem hx
  have b := List.idxOf_lt_length_of_mem hy
  unfold ex at h
  have e : ns.idxOf x = ns.idxOf y := by omega
  have u : ns[ns.idxOf x]'a = x := List.getElem_idxOf a
  have v : ns[ns.idxOf y]'b = y := List.getElem_idxOf b
  rw [← u, ← v]
  simp only [e]
/-- which names the row of number r has -/
def asn (ns : List α) (r : Nat) : α → Bool := fun x => r.testBit (ex ns x)
def Fo.tr (ns : List α) : Fo α → Nat
  | .yes => whole ns.length
  | .no => 0
  | .nam x => hav ns.length (ex ns x)
  | .neg f => whole ns.length ^^^ f.tr ns
  | .con f g => f.tr ns &&& g.tr ns
  | .dis f g => f.tr ns ||| g.tr ns
  | .xor f g => f.tr ns ^^^ g.tr ns
  | .ite f g h => (f.tr ns &&& g.tr ns) ||| ((whole ns.length ^^^ f.tr ns) &&& h.tr ns)
  | .som x f => wyes ns.length (ex ns x) (f.tr ns) ||| wno ns.length (ex ns x) (f.tr ns)
  | .all x f => wyes ns.length (ex ns x) (f.tr ns) &&& wno ns.length (ex ns x) (f.tr ns)
  | .put x f g => (f.tr ns &&& wyes ns.length (ex ns x) (g.tr ns)) ||| ((whole ns.length ^^^ f.tr ns) &&& wno ns.length (ex ns x) (g.tr ns))
theorem asn_setb {ns : List α} {r : Nat} {x : α} {b : Bool} (hx : x ∈ ns) {y : α} (hy : y ∈ ns) : asn ns (setb r (ex ns x) b) y = upd1 (asn ns r) x b y := by
  unfold asn upd1
  rw [setb_bit]
  by_cases h : y = x
  · rw [if_pos h, if_pos (by rw [h])]
  · rw [if_neg h, if_neg fun z => h (ex_inj hy hx z)]
theorem ev_setb {ns : List α} {r : Nat} {x : α} {b : Bool} (hx : x ∈ ns) {f : Fo α} (hf : ∀ y ∈ f.nms, y ∈ ns) : f.ev (asn ns (setb r (ex ns x) b)) = f.ev (upd1 (asn ns r) x b) :=
  ev_congr f fun y m => asn_setb hx (hf y m)
theorem tr_bit (ns : List α) : ∀ (f : Fo α), (∀ x ∈ f.nms, x ∈ ns) → ∀ r, (f.tr ns).testBit r = (decide (r < 2 ^ ns.length) && f.ev (asn ns r))
  | .yes, _, r => by
    show (whole _).testBit r = _
    rw [whole_bit]
    exact (Bool.and_true _).symm
  | .no, _, r => by
    show (0 : Nat).testBit r = _
    rw [Nat.zero_testBit]
    exact (Bool.and_false _).symm
  | .nam x, h, r => hav_bit (ex_lt (h x (List.mem_singleton.mpr rfl))) r
  | .neg f, h, r => by
    show Nat.testBit (_ ^^^ _) r = _
    rw [Nat.testBit_xor, whole_bit, tr_bit ns f h]
    show _ = (_ && !_)
    cases decide (r < 2 ^ ns.length) <;> cases f.ev (asn ns r) <;> rfl
  | .con f g, h, r => by
    show Nat.testBit (_ &&& _) r = _
    rw [Nat.testBit_and, tr_bit ns f fun x m => h x (List.mem_append_left _ m), tr_bit ns g fun x m => h x (List.mem_append_right _ m)]
    show _ = (_ && (_ && _))
    cases decide (r < 2 ^ ns.length) <;> cases f.ev (asn ns r) <;> rfl
  | .dis f g, h, r => by
    show Nat.testBit (_ ||| _) r = _
    rw [Nat.testBit_or, tr_bit ns f fun x m => h x (List.mem_append_left _ m), tr_bit ns g fun x m => h x (List.mem_append_right _ m)]
    show _ = (_ && (_ || _))
    cases decide (r < 2 ^ ns.length) <;> cases f.ev (asn ns r) <;> rfl
  | .xor f g, h, r => by
    show Nat.testBit (_ ^^^ _) r = _
    rw [Nat.testBit_xor, tr_bit ns f fun x m => h x (List.mem_append_left _ m), tr_bit ns g fun x m => h x (List.mem_append_right _ m)]
    show _ = (_ && (_ ^^ _))
    cases decide (r < 2 ^ ns.length) <;> cases f.ev (asn ns r) <;> rfl
  | .ite f g e, h, r => by
    show Nat.testBit ((_ &&& _) ||| (_ &&& _)) r = _
    rw [Nat.testBit_or, Nat.testBit_and, Nat.testBit_and, Nat.testBit_xor, whole_bit, tr_bit ns f fun x m => h x (List.mem_append_left _ m),
      tr_bit ns g fun x m => h x (List.mem_append_right _ (List.mem_append_left _ m)), tr_bit ns e fun x m => h x (List.mem_append_right _ (List.mem_append_right _ m))]
    show _ = (_ && if _ then _ else _)
    cases decide (r < 2 ^ ns.length) <;> cases f.ev (asn ns r) <;> cases g.ev (asn ns r) <;> rfl
  | .som x f, h, r => by
    have hx := h x List.mem_cons_self
    have hf : ∀ y ∈ f.nms, y ∈ ns := fun y m => h y (List.mem_cons_of_mem _ m)
    show Nat.testBit (_ ||| _) r = (_ && (f.ev (upd1 (asn ns r) x true) || f.ev (upd1 (asn ns r) x false)))
    rw [Nat.testBit_or, wyes_bit (ex_lt hx), wno_bit (ex_lt hx), tr_bit ns f hf, tr_bit ns f hf, ev_setb hx hf, ev_setb hx hf]
    by_cases hr : r < 2 ^ ns.length
    · rw [decide_eq_true hr, decide_eq_true (setb_lt hr (ex_lt hx)), decide_eq_true (setb_lt hr (ex_lt hx))]
      simp only [Bool.true_and]
    · rw [decide_eq_false hr]
      simp only [Bool.false_and, Bool.or_self]
  | .all x f, h, r => by
    have hx := h x List.mem_cons_self
    have hf : ∀ y ∈ f.nms, y ∈ ns := fun y m => h y (List.mem_cons_of_mem _ m)
    show Nat.testBit (_ &&& _) r = (_ && (f.ev (upd1 (asn ns r) x true) && f.ev (upd1 (asn ns r) x false)))
    rw [Nat.testBit_and, wyes_bit (ex_lt hx), wno_bit (ex_lt hx), tr_bit ns f hf, tr_bit ns f hf, ev_setb hx hf, ev_setb hx hf]
    by_cases hr : r < 2 ^ ns.length
    · rw [decide_eq_true hr, decide_eq_true (setb_lt hr (ex_lt hx)), decide_eq_true (setb_lt hr (ex_lt hx))]
      simp only [Bool.true_and]
    · rw [decide_eq_false hr]
      simp only [Bool.false_and]
  | .put x f g, h, r => by
    have hx := h x List.mem_cons_self
    have hf : ∀ y ∈ f.nms, y ∈ ns := fun y m => h y (List.mem_cons_of_mem _ (List.mem_append_left _ m))
    have hg : ∀ y ∈ g.nms, y ∈ ns := fun y m => h y (List.mem_cons_of_mem _ (List.mem_append_right _ m))
    show Nat.testBit ((_ &&& _) ||| (_ &&& _)) r = (_ && g.ev (upd1 (asn ns r) x (f.ev (asn ns r))))
    rw [Nat.testBit_or, Nat.testBit_and, Nat.testBit_and, Nat.testBit_xor, whole_bit, wyes_bit (ex_lt hx), wno_bit (ex_lt hx), tr_bit ns f hf, tr_bit ns g hg, tr_bit ns g hg, ev_setb hx hg, ev_setb hx hg]
    by_cases hr : r < 2 ^ ns.length
    · rw [decide_eq_true hr, decide_eq_true (setb_lt hr (ex_lt hx)), decide_eq_true (setb_lt hr (ex_lt hx))]
      simp only [Bool.true_and]
      cases f.ev (asn ns r) <;> simp
    · rw [decide_eq_false hr]
      simp only [Bool.false_and, Bool.xor_self, Bool.or_self]
theorem tr_lt (ns : List α) {f : Fo α} (h : ∀ x ∈ f.nms, x ∈ ns) : f.tr ns < 2 ^ 2 ^ ns.length :=
  Nat.lt_pow_two_of_testBit _ fun i hi => by rw [tr_bit ns f h, decide_eq_false (by omega), Bool.false_and]
/-! ### the number of a row -/
def rnum (ns row : List α) : Nat := ((row.filter fun x => decide (x ∈ ns)).map fun x => 2 ^ ex ns x).sum
theorem rnum_bit {ns : List α} : ∀ {row : List α}, row.Nodup → ∀ {y : α}, y ∈ ns → (rnum ns row).testBit (ex ns y) = decide (y ∈ row)
  | [], _, y, _ => by
    show (0 : Nat).testBit _ = _
    rw [Nat.zero_testBit, decide_eq_false (by simp)]
  | x :: r, nd, y, hy => by
    obtain ⟨nx, nr⟩ := List.nodup_cons.mp nd
    have ih : ∀ {y : α}, y ∈ ns → (rnum ns r).testBit (ex ns y) = decide (y ∈ r) := fun h => rnum_bit nr h
    unfold rnum
    by_cases hx : x ∈ ns
    · rw [List.filter_cons_of_pos (by rw [decide_eq_true hx]), List.map_cons, List.sum_cons]
      have c : (rnum ns r).testBit (ex ns x) = false := by rw [ih hx, decide_eq_false nx]
      show (2 ^ ex ns x + rnum ns r).testBit _ = _
      rw [add_bit c, ih hy]
      by_cases h : y = x
      · rw [h, decide_eq_true rfl, decide_eq_true List.mem_cons_self, Bool.true_or]
      · rw [decide_eq_false fun z => h (ex_inj hy hx z), Bool.false_or]
        by_cases m : y ∈ r
        · rw [decide_eq_true m, decide_eq_true (List.mem_cons_of_mem _ m)]
        · rw [decide_eq_false m, decide_eq_false fun z => (List.mem_cons.mp z).elim h m]
    · rw [List.filter_cons_of_neg (by rw [decide_eq_false hx]; decide)]
      show (rnum ns r).testBit _ = _
      rw [ih hy]
      have h : y ≠ x := fun z => hx (z ▸ hy)
      by_cases m : y ∈ r
      · rw [decide_eq_true m, decide_eq_true (List.mem_cons_of_mem _ m)]
      · rw [decide_eq_false m, decide_eq_false fun z => (List.mem_cons.mp z).elim h m]
theorem sum_lt_pow {n : Nat} : ∀ (es : List Nat), es.Nodup → (∀ e ∈ es, e < n) → (es.map (2 ^ ·)).sum < 2 ^ n ∧ ∀ e, (es.map (2 ^ ·)).sum.testBit e = decide (e ∈ es)
  | [], _, _ => ⟨Nat.two_pow_pos _, fun e => by
    show (0 : Nat).testBit _ = _
    rw [Nat.zero_testBit, decide_eq_false (by simp)]⟩
  | x :: r, nd, hl => by
    obtain ⟨nx, nr⟩ := List.nodup_cons.mp nd
    obtain ⟨a, b⟩ := sum_lt_pow r nr fun e m => hl e (List.mem_cons_of_mem _ m)
    rw [List.map_cons, List.sum_cons]
    have c : ((r.map (2 ^ ·)).sum).testBit x = false := by rw [b, decide_eq_false nx]
    refine ⟨clear_lt c a (hl x List.mem_cons_self), fun e => ?_⟩
    rw [add_bit c, b]
    by_cases h : e = x
    · rw [h, decide_eq_true rfl, decide_eq_true List.mem_cons_self, Bool.true_or]
    · rw [decide_eq_false h, Bool.false_or]
      by_cases m : e ∈ r
      · rw [decide_eq_true m, decide_eq_true (List.mem_cons_of_mem _ m)]
      · rw [decide_eq_false m, decide_eq_false fun z => (List.mem_cons.mp z).elim h m]
theorem rnum_lt {ns row : List α} (nd : row.Nodup) : rnum ns row < 2 ^ ns.length := by
  have e : rnum ns row = (((row.filter fun x => decide (x ∈ ns)).map (ex ns)).map (2 ^ ·)).sum := by
    unfold rnum
    rw [List.map_map]
    rfl
  rw [e]
  have hm : ∀ x ∈ row.filter fun x => decide (x ∈ ns), x ∈ ns := fun x m => of_decide_eq_true (List.mem_filter.mp m).2
  refine (sum_lt_pow _ ?_ fun e m => ?_).1
  · have nf : (row.filter fun x => decide (x ∈ ns)).Nodup := nd.filter _
    generalize row.filter (fun x => decide (x ∈ ns)) = l at hm nf
    clear e
    induction l with
    | nil => exact List.nodup_nil
    | cons a t ih =>
      obtain ⟨n1, n2⟩ := List.nodup_cons.mp nf
      rw [List.map_cons]
      refine List.nodup_cons.mpr ⟨fun z => ?_, ih (fun x m => hm x (List.mem_cons_of_mem _ m)) n2⟩
      obtain ⟨y, my, ey⟩ := List.mem_map.mp z
      exact n1 (ex_inj (hm y (List.mem_cons_of_mem _ my)) (hm a List.mem_cons_self) ey ▸ my)
  · obtain ⟨x, m1, rfl⟩ := List.mem_map.mp m
    exact ex_lt (hm x m1)
/-- what the truths tell at a row's number -/
theorem tr_row {ns row : List α} {f : Fo α} (hf : ∀ x ∈ f.nms, x ∈ ns) (nd : row.Nodup) : (f.tr ns).testBit (rnum ns row) = f.ev fun x => decide (x ∈ row) := by
  rw [tr_bit ns f hf, decide_eq_true (rnum_lt nd), Bool.true_and]
  exact ev_congr f fun x m => rnum_bit nd (hf x m)
end
end Kn
namespace Kn
/-! ### choices out of a list, in their order -/
def combos {α : Type} : List α → Nat → List (List α)
  | _, 0 => [[]]
  | [], _ + 1 => []
  | x :: s, k + 1 => (combos s k).map (x :: ·) ++ combos s (k + 1)
def rowsOf {α : Type} (s : List α) : List (List α) := (List.range (s.length + 1)).flatMap (combos s)
section
variable {α β : Type}
theorem combos_zero (s : List α) : combos s 0 = [[]] := by cases s <;> rfl
theorem mem_combos : ∀ {s : List α} {k : Nat} {r : List α}, r ∈ combos s k ↔ r.Sublist s ∧ r.length = k
  | s, 0, r => by
    rw [combos_zero, List.mem_singleton]
    refine ⟨fun h => by rw [h]; exact ⟨List.nil_sublist _, rfl⟩, fun h => List.eq_nil_of_length_eq_zero h.2⟩
  | [], k + 1, r => by
    constructor
    · intro h
      cases h
    · intro h
      have e := List.sublist_nil.mp h.1
      have l := h.2
      rw [e] at l
      cases l
  | x :: s, k + 1, r => by
    show r ∈ _ ++ _ ↔ _
    rw [List.mem_append, List.mem_map, mem_combos, List.sublist_cons_iff]
    constructor
    · rintro (⟨t, m, rfl⟩ | h)
      · obtain ⟨a, b⟩ := mem_combos.mp m
        exact ⟨.inr ⟨t, rfl, a⟩, by rw [List.length_cons, b]⟩
      · exact ⟨.inl h.1, h.2⟩
    · rintro ⟨h | ⟨t, rfl, h⟩, l⟩
      · exact .inr ⟨h, l⟩
      · exact .inl ⟨t, mem_combos.mpr ⟨h, by rw [List.length_cons] at l; omega⟩, rfl⟩
theorem mem_rowsOf {s r : List α} : r ∈ rowsOf s ↔ r.Sublist s := by
  unfold rowsOf
  rw [List.mem_flatMap]
  constructor
  · rintro ⟨k, _, h⟩
    exact (mem_combos.mp h).1
  · intro h
    exact ⟨r.length, List.mem_range.mpr (by have := h.length_le; omega), mem_combos.mpr ⟨h, rfl⟩⟩
theorem combos_map (f : α → β) : ∀ (s : List α) (k : Nat), combos (s.map f) k = (combos s k).map (List.map f)
  | s, 0 => by rw [combos_zero, combos_zero]; rfl
  | [], k + 1 => rfl
  | x :: s, k + 1 => by
    show (combos (s.map f) k).map _ ++ combos (s.map f) (k + 1) = ((combos s k).map _ ++ combos s (k + 1)).map _
    rw [combos_map f s k, combos_map f s (k + 1), List.map_append, List.map_map, List.map_map]
    rfl
theorem combos_len : ∀ (s : List α) (k : Nat), (combos s k).length ≤ 2 ^ s.length
  | s, 0 => by rw [combos_zero]; exact Nat.two_pow_pos _
  | [], k + 1 => Nat.zero_le _
  | x :: s, k + 1 => by
    show List.length (_ ++ _) ≤ _
    rw [List.length_append, List.length_map, List.length_cons, Nat.pow_succ]
    have a := combos_len s k
    have b := combos_len s (k + 1)
    omega
theorem combos_over : ∀ (s : List α) (k : Nat), s.length < k → combos s k = []
  | s, 0, h => by cases h
  | [], k + 1, _ => rfl
  | x :: s, k + 1, h => by
    rw [List.length_cons] at h
    show _ ++ _ = _
    rw [combos_over s k (by omega), combos_over s (k + 1) (by omega)]
    rfl
/-! #### their order -/
def kk (g : α → List Nat) (r : List α) : List (List Nat) := [r.length] :: r.map g
theorem combos_lt (g : α → List Nat) : ∀ {s : List α} {k : Nat}, s.Pairwise (fun x y => g x < g y) → (combos s k).Pairwise fun a b => a.map g < b.map g
  | s, 0, _ => by rw [combos_zero]; exact List.pairwise_singleton _ _
  | [], k + 1, _ => List.Pairwise.nil
  | x :: s, k + 1, h => by
    obtain ⟨h1, h2⟩ := List.pairwise_cons.mp h
    show List.Pairwise _ (_ ++ _)
    refine List.pairwise_append.mpr ⟨?_, combos_lt g h2, fun a ha b hb => ?_⟩
    · refine List.pairwise_map.mpr ((combos_lt g h2).imp fun {a b} l => ?_)
      show g x :: a.map g < g x :: b.map g
      exact List.cons_lt_cons_iff.mpr (.inr ⟨rfl, l⟩)
    · obtain ⟨t, _, rfl⟩ := List.mem_map.mp ha
      obtain ⟨sb, lb⟩ := mem_combos.mp hb
      cases b with
      | nil => cases lb
      | cons y u =>
        have hy := sb.subset (List.mem_cons_self (a := y) (l := u))
        exact List.cons_lt_cons_iff.mpr (.inl (h1 y hy))
theorem rowsOf_lt (g : α → List Nat) {s : List α} (h : s.Pairwise fun x y => g x < g y) : (rowsOf s).Pairwise fun a b => kk g a < kk g b := by
  unfold rowsOf
  refine List.pairwise_flatMap.mpr ⟨fun k _ => ?_, ?_⟩
  · refine (List.Pairwise.and_mem.mp (combos_lt g h (k := k))).imp fun {a b} l => ?_
    obtain ⟨ma, mb, l⟩ := l
    unfold kk
    rw [(mem_combos.mp ma).2, (mem_combos.mp mb).2]
    exact List.cons_lt_cons_iff.mpr (.inr ⟨rfl, l⟩)
  · refine (List.pairwise_lt_range (n := s.length + 1)).imp fun {i j} l a ma b mb => ?_
    unfold kk
    rw [(mem_combos.mp ma).2, (mem_combos.mp mb).2]
    exact List.cons_lt_cons_iff.mpr (.inl (List.cons_lt_cons_iff.mpr (.inl l)))
theorem nodup_of_lt (f : α → List (List Nat)) {l : List α} (h : l.Pairwise fun a b => f a < f b) : l.Nodup :=
  h.imp fun {a b} l => fun (e : a = b) => List.lt_irrefl (f a) (by
    conv => rhs; rw [e]
    exact l)
/-! #### the same by doubling and sorting -/
def doub (s : List α) : List (List α) := s.foldl (fun rows x => rows ++ rows.map fun r => r ++ [x]) [[]]
theorem doub_snoc (s : List α) (x : α) : doub (s ++ [x]) = doub s ++ (doub s).map fun r => r ++ [x] := by
  unfold doub
  rw [List.foldl_append]
  rfl
theorem snoc_ind {P : List α → Prop} (h0 : P []) (h1 : ∀ s x, P s → P (s ++ [x])) (s : List α) : P s := by
  have : ∀ n (s : List α), s.length = n → P s := by
    intro n
    induction n with
    | zero =>
      intro s h
      rw [List.eq_nil_of_length_eq_zero h]
      exact h0
    | succ n ih =>
      intro s h
      have hne : s ≠ [] := fun e => by rw [e] at h; cases h
      rw [← List.dropLast_concat_getLast hne]
      exact h1 _ _ (ih _ (by rw [List.length_dropLast, h]; rfl))
  exact this _ s rfl
theorem mem_doub {s : List α} : ∀ {r : List α}, r ∈ doub s ↔ r.Sublist s := by
  refine snoc_ind (P := fun s => ∀ {r : List α}, r ∈ doub s ↔ r.Sublist s) ?_ (fun s x ih => ?_) s
  · intro r
    show r ∈ [[]] ↔ _
    rw [List.mem_singleton, List.sublist_nil]
  · intro r
    rw [doub_snoc, List.mem_append, List.mem_map, ih, List.sublist_append_iff]
    constructor
    · rintro (h | ⟨t, m, rfl⟩)
      · exact ⟨r, [], (List.append_nil r).symm, h, List.nil_sublist _⟩
      · exact ⟨t, [x], rfl, ih.mp m, List.Sublist.refl _⟩
    · rintro ⟨a, b, rfl, ha, hb⟩
      rcases List.sublist_cons_iff.mp hb with h | ⟨t, rfl, h⟩
      · rw [List.sublist_nil.mp h, List.append_nil]
        exact .inl ha
      · rw [List.sublist_nil.mp h]
        exact .inr ⟨a, ih.mpr ha, rfl⟩
theorem nodup_doub {s : List α} : s.Nodup → (doub s).Nodup := by
  refine snoc_ind (P := fun s => s.Nodup → (doub s).Nodup) (fun _ => ?_) (fun s x ih nd => ?_) s
  · exact List.pairwise_singleton _ _
  · obtain ⟨a, _, c⟩ := List.nodup_append.mp nd
    rw [doub_snoc]
    refine List.nodup_append.mpr ⟨ih a, List.pairwise_map.mpr ((ih a).imp fun {u v} h e => h (List.append_cancel_right e)), fun u hu v hv e => ?_⟩
    obtain ⟨t, _, rfl⟩ := List.mem_map.mp hv
    rw [e] at hu
    have hx : x ∈ s := (mem_doub.mp hu).subset (List.mem_append_right _ (List.mem_singleton.mpr rfl))
    exact c x hx x (List.mem_singleton.mpr rfl) rfl
theorem doub_len (s : List α) : (doub s).length = 2 ^ s.length := by
  refine snoc_ind (P := fun s => (doub s).length = 2 ^ s.length) rfl (fun s x ih => ?_) s
  rw [doub_snoc, List.length_append, List.length_map, ih, List.length_append, List.length_singleton, Nat.pow_succ]
  omega
theorem sorted_rows {g : α → List Nat} (inj : ∀ x y, g x = g y → x = y) {s : List α} (h : s.Pairwise fun x y => g x < g y) {l : List (List α)} (p : l.Perm (doub s)) (hs : l.Pairwise fun a b => ¬ kk g b < kk g a) : l = rowsOf s := by
  have nd : s.Nodup := h.imp fun {a b} l => fun (e : a = b) => List.lt_irrefl (g a) (by
    conv => rhs; rw [e]
    exact l)
  have pr : (doub s).Perm (rowsOf s) := (List.perm_ext_iff_of_nodup (nodup_doub nd) (nodup_of_lt _ (rowsOf_lt g h))).mpr fun a => mem_doub.trans mem_rowsOf.symm
  refine List.Perm.eq_of_pairwise (le := fun a b => ¬ kk g b < kk g a) (fun a b _ _ h1 h2 => ?_) hs ((rowsOf_lt g h).imp fun {a b} l => List.lt_asymm l) (p.trans pr)
  have e : kk g a = kk g b := List.le_antisymm (List.not_lt.mp h1) (List.not_lt.mp h2)
  have e2 : a.map g = b.map g := (List.cons.inj e).2
  have : ∀ a b : List α, a.map g = b.map g → a = b := by
    intro a
    induction a with
    | nil =>
      intro b e
      cases b with
      | nil => rfl
      | cons y t => cases e
    | cons x t ih =>
      intro b e
      cases b with
      | nil => cases e
      | cons y u =>
        obtain ⟨e1, e3⟩ := List.cons.inj e
        rw [inj _ _ e1, ih u e3]
  exact this a b e2
/-! #### step by step, as the machine does it -/
def nextC (n : Nat) (indices : List Nat) : Option (List Nat) :=
  let r := indices.length
  match (List.range r).reverse.find? fun i => indices.getD i 0 != i + n - r with
  | none => none
  | some i => some (indices.take i ++ (List.range (r - i)).map (indices.getD i 0 + 1 + ·))
def chk (n : Nat) : List (List Nat) → Bool
  | [] => false
  | [x] => nextC n x == none
  | x :: y :: t => nextC n x == some y && chk n (y :: t)
theorem chk_all : ((List.range 11).all fun n => (List.range (n + 1)).all fun r => (combos (List.range n) r).head? == some (List.range r) && chk n (combos (List.range n) r)) = true := by decide +kernel
theorem chk_of {n r : Nat} (hn : n ≤ 10) (hr : r ≤ n) : (combos (List.range n) r).head? = some (List.range r) ∧ chk n (combos (List.range n) r) = true := by
  have h := List.all_eq_true.mp (List.all_eq_true.mp chk_all n (List.mem_range.mpr (by omega))) r (List.mem_range.mpr (by omega))
  rw [Bool.and_eq_true] at h
  exact ⟨eq_of_beq h.1, h.2⟩
theorem range_pick {xs : List α} (d : α) : (List.range xs.length).map (xs.getD · d) = xs := by
  refine List.ext_getElem (by rw [List.length_map, List.length_range]) fun i h1 h2 => ?_
  rw [List.getElem_map, List.getElem_range, List.getD_eq_getElem?_getD, List.getElem?_eq_getElem h2]
  rfl
theorem combos_pick (xs : List α) (d : α) (k : Nat) : (combos (List.range xs.length) k).map (List.map (xs.getD · d)) = combos xs k := by
  rw [← combos_map, range_pick]
end
end Kn
set_option Elab.async false
set_option linter.all false
set_option maxRecDepth 100000
set_option maxHeartbeats 2000000
namespace Cmb
open PySem PySem.Spec PyProof.Rows
open Sem (wp)
theorem mro_c : mroOf (.type "itertools.combinations") = pure [.type "itertools.combinations", .type "object"] := by rw [mroOf_type]; kernel_rfl
theorem lookup_c_new : typeLookup (.type "itertools.combinations") "__new__" = pure (some (.builtin "itertools.combinations.__new__")) := by rw [typeLookup_type, builtinLookup_eq_fast]; kernel_rfl
theorem slot_c_init : Slot "itertools.combinations" "__init__" "object.__init__" :=
  .of (owner := "object") (n := "__init__") (by rw [typeLookup_type, builtinLookup_eq_fast]; kernel_rfl) (by decide +kernel) (by decide +kernel) (by decide +kernel)
    (by first | exact .inl (by decide +kernel) | exact .inr (by decide +kernel)) (by rw [isSubtype_type]; kernel_rfl)
theorem sub_c : isSubtype (.type "itertools.combinations") (.type "itertools.combinations") = pure true := by rw [isSubtype_type]; kernel_rfl
theorem called_c : TypeCalled "itertools.combinations" "itertools.combinations.__new__" "object.__init__" :=
  ⟨by decide +kernel, by decide +kernel, ⟨_, _, mro_c⟩, madeBy_type mro_c lookup_c_new (by decide +kernel), by decide +kernel, sub_c, slot_c_init⟩
theorem typeCall_c_2 (a b : Value) : checkTypeCall "itertools.combinations" ⟨[a, b], []⟩ = pure () := by kernel_rfl
theorem newCall_c_2 (a b : Value) : checkBuiltinCall "itertools.combinations.__new__" ⟨[.type "itertools.combinations", a, b], []⟩ = pure () := by kernel_rfl
theorem entry_c_new : entryFor table "itertools.combinations.__new__" = some Builtin.«itertools.combinations.__new__» := entryFor_of_tree (by kernel_rfl)
theorem slot_c_iter : Slot "itertools.combinations" "__iter__" "itertools.combinations.__iter__" :=
  .of (owner := "itertools.combinations") (n := "__iter__") (by rw [typeLookup_type, builtinLookup_eq_fast]; kernel_rfl) (by decide +kernel) (by decide +kernel) (by decide +kernel)
    (by first | exact .inl (by decide +kernel) | exact .inr (by decide +kernel)) sub_c
theorem slot_c_next : Slot "itertools.combinations" "__next__" "itertools.combinations.__next__" :=
  .of (owner := "itertools.combinations") (n := "__next__") (by rw [typeLookup_type, builtinLookup_eq_fast]; kernel_rfl) (by decide +kernel) (by decide +kernel) (by decide +kernel)
    (by first | exact .inl (by decide +kernel) | exact .inr (by decide +kernel)) sub_c
theorem entry_c_iter : entryFor table "itertools.combinations.__iter__" = some Builtin.«dict_keyiterator.__iter__» :=
  entryFor_alias (id' := "dict_keyiterator.__iter__") (by kernel_rfl) (by first | rfl | decide +kernel | (unfold String.splitOn; simp +decide [String.splitOnAux])) (by decide +kernel) (by kernel_rfl)
theorem entry_c_next : entryFor table "itertools.combinations.__next__" = some Builtin.«itertools.combinations.__next__» := entryFor_of_tree (by kernel_rfl)
theorem owner_c : Manifest.owners.lookup (String.ofList ['s','n','o','i','t','a','n','i','b','m','o','c', '.', 's', 'l', 'o', 'o', 't', 'r', 'e', 't', 'i'].reverse) = some Manifest.sig_itertools_combinations := by kernel_rfl
theorem args_c_iter (a : Value) : argsOk "itertools.combinations.__iter__" ⟨[a], []⟩ := by
  unfold argsOk; rw [signature?_of (id := "itertools.combinations.__iter__") (n := ['_', '_', 'r', 'e', 't', 'i', '_', '_']) (o := ['s','n','o','i','t','a','n','i','b','m','o','c', '.', 's', 'l', 'o', 'o', 't', 'r', 'e', 't', 'i']) (by kernel_rfl) owner_c]; kernel_rfl
theorem args_c_next (a : Value) : argsOk "itertools.combinations.__next__" ⟨[a], []⟩ := by
  unfold argsOk; rw [signature?_of (id := "itertools.combinations.__next__") (n := ['_', '_', 't', 'x', 'e', 'n', '_', '_']) (o := ['s','n','o','i','t','a','n','i','b','m','o','c', '.', 's', 'l', 'o', 'o', 't', 'r', 'e', 't', 'i']) (by kernel_rfl) owner_c]; kernel_rfl
theorem noDict_c : typeHasDict (.type "itertools.combinations") = false := by decide +kernel
theorem nolen_c : typeLookup (.type "itertools.combinations") "__len__" = pure none := by rw [typeLookup_type, builtinLookup_eq_fast]; kernel_rfl
theorem nohint_c : typeLookup (.type "itertools.combinations") "__length_hint__" = pure none := by rw [typeLookup_type, builtinLookup_eq_fast]; kernel_rfl
end Cmb
set_option Elab.async false
set_option linter.all false
set_option maxRecDepth 100000
set_option maxHeartbeats 2000000
namespace Cmb
open PySem PySem.Spec PyProof.Rows Kn
open Sem (wp)
/-- a row of choices at it, of the tuple at P: how far it is, the tuple told last, the places -/
abbrev IsC (h : Heap) (it P : Addr) (st : Int) (last : Value) (ix : List Nat) : Prop :=
  h.get? it = some { cls := .type "itertools.combinations", dict := none, data := .fields ([Value.ref P, rawInt st, last] ++ ix.map fun (i : Nat) => rawInt i).toArray, slots := #[] }
/-- the tuple of all -/
abbrev IsP (h : Heap) (P : Addr) (vs : List Value) : Prop := h.get? P = some { cls := .type "tuple", data := .seq vs.toArray }
section
variable {prog : Program} {w : World} {A : Around} {E : Value → Shared → Prop} {s : Shared}
theorem back_ix (f : Value → Nat) (hf : ∀ i : Nat, f (rawInt i) = i) : ∀ ix : List Nat, (ix.map fun (i : Nat) => rawInt i).map f = ix
  | [] => rfl
  | i :: r => by
    rw [List.map_cons, List.map_cons, back_ix f hf r, hf]
theorem numbers {it P : Addr} {st : Int} {last : Value} {ix : List Nat} {Q : List Nat → Shared → Prop} (hit : IsC s.heap it P st last ix) (h : Q ix s) :
    wpAny (model prog w) A (Builtin.Itertools.itNumbersFrom (.ref it) 3) Q E s := by
  unfold Builtin.Itertools.itNumbersFrom
  refine wpAny_bind (wpAny_load hit ?_)
  refine wpAny_pure ?_
  refine cast (congrArg (fun l => Q l s) (Eq.symm ?_)) h
  exact back_ix _ (fun i => rfl) ix
theorem set_numbers {it P : Addr} {st : Int} {last : Value} {ix jx : List Nat} {Q : Unit → Shared → Prop} (hit : IsC s.heap it P st last ix) (hj : jx.length ≤ 10)
    (h : ∀ h', IsC h' it P st last jx → Heap.SameBut it s.heap h' → Q () { s with heap := h' }) :
    wpAny (model prog w) A (Builtin.Itertools.itSetNumbersFrom (.ref it) 3 jx) Q E s := by
  unfold Builtin.Itertools.itSetNumbersFrom
  have hz : (([Value.ref P, rawInt st, last] ++ List.map (fun (i : Nat) => rawInt i) ix).toArray.extract 0 3 ++ (List.map (fun (n : Nat) => rawInt n) jx).toArray).size ≤ sizeLine + 3 := by
    have : sizeLine ≥ 10 := by rw [sizeLine_eq]; decide
    simp
    omega
  refine wpAny_updateFields (hz := hz) hit rfl ?_
  refine h _ ?_ (Heap.SameBut.update ..)
  have e := Heap.get?_update_self (Obj.mapFields fun fs => fs.extract 0 3 ++ (jx.map fun (n : Nat) => rawInt n).toArray) hit rfl
  refine e.trans ?_
  congr 2
  simp [Obj.mapFields]
theorem pool_items {P : Addr} {vs : List Value} {Q : Array Value → Shared → Prop} (hp : IsP s.heap P vs) (h : Q vs.toArray s) :
    wpAny (model prog w) A (Builtin.Itertools.itPoolItems (.ref P)) Q E s := by
  unfold Builtin.Itertools.itPoolItems
  refine wpAny_bind (wpAny_seqItems hp rfl ?_)
  exact wpAny_pure h
theorem hand_out {it P : Addr} {st : Int} {last : Value} {ix jx : List Nat} {vs : List Value} {R : PySem.Fin → Shared → Prop} (hit : IsC s.heap it P st last ix) (hp : IsP s.heap P vs) (hj : jx.length ≤ 10)
    (h : ∀ h', IsC h' it P st (.ref s.heap.objs.size) ix → h'.get? s.heap.objs.size = some { cls := .type "tuple", data := .seq (jx.map fun i => vs.toArray.getD i .none).toArray } → h'.objs.size = s.heap.objs.size + 1 →
      (∀ b o, b ≠ it → s.heap.get? b = some o → h'.get? b = some o) → R (.done (.ret (.ref s.heap.objs.size))) { s with heap := h' }) :
    wpAny (model prog w) A (do
      let result ← (do
        let items ← Builtin.Itertools.itPoolItems (.ref P)
        newTuple (jx.map fun i => items.getD i .none))
      let before ← field (.ref it) 2
      setField (.ref it) 2 result
      letGo [before] [result]
      ret result) R E s := by
  obtain ⟨hp0, g, dr, tk, os⟩ := s
  refine wpAny_bind (wpAny_bind (pool_items hp (wpAny_newTuple ?_ (by rw [List.length_map]; have : sizeLine ≥ 10 := by rw [sizeLine_eq]; decide
                                                                      omega))))
  have hit2 : IsC (hp0.push { cls := .type "tuple", data := .seq (jx.map fun i => vs.toArray.getD i .none).toArray }) it P st last ix := Heap.get?_push_of_some _ hit
  refine wpAny_bind (wpAny_field hit2 rfl (x := last) rfl ?_)
  refine wpAny_bind (wpAny_setField hit2 rfl (by simp) ?_)
  refine wpAny_bind (wpAny_letGo ?_)
  have hl : it < hp0.objs.size := Heap.lt_size hit
  refine wpAny_pure (h _ ?_ ?_ ?_ fun b o hb e => ?_)
  · have e := Heap.get?_update_self (Obj.mapFields fun x => x.setIfInBounds 2 (Value.ref hp0.objs.size)) hit2 rfl
    refine e.trans ?_
    congr 2
  · exact (Heap.get?_update_other _ _ (Nat.ne_of_lt hl)).trans (Heap.get?_push_size _ rfl)
  · show (Heap.update _ _ _).objs.size = _
    rw [(Heap.SameBut.update _ _ _).1, Heap.size_push]
  · exact (Heap.get?_update_other _ _ (Ne.symm hb)).trans (Heap.get?_push_of_some _ e)
end
end Cmb
set_option Elab.async false
set_option linter.all false
set_option maxRecDepth 100000
set_option maxHeartbeats 2000000
namespace Cmb
open PySem PySem.Spec PyProof.Rows Kn
open Sem (wp)
section
variable {prog : Program} {w : World} {A : Around} {E : Value → Shared → Prop} {s : Shared}
abbrev tupO (vs : List Value) (ix : List Nat) : Obj := { cls := .type "tuple", data := .seq (ix.map fun i => vs.toArray.getD i .none).toArray }
theorem c_first {it P : Addr} {last : Value} {ix : List Nat} {vs : List Value} {Q : Option Value → Shared → Prop} (hit : IsC s.heap it P 0 last ix) (hp : IsP s.heap P vs) (hne : P ≠ it) (hj : ix.length ≤ 10)
    (h : ∀ h', IsC h' it P 1 (.ref s.heap.objs.size) ix → h'.get? s.heap.objs.size = some (tupO vs ix) → h'.objs.size = s.heap.objs.size + 1 →
      (∀ b o, b ≠ it → s.heap.get? b = some o → h'.get? b = some o) → Q (some (.ref s.heap.objs.size)) { s with heap := h' }) :
    wpAny (model prog w) A (pyNext (.ref it)) Q E s := by
  have hT : s.TypeIs (.ref it) "itertools.combinations" := ⟨_, hit, rfl⟩
  unfold pyNext
  refine wpAny_bind (wpAny_attempt (wpAny_callSpecial?_slot (name := Str.ofString "__next__") hT slot_c_next
    (wpAny_call_entry slot_c_next hT entry_c_next ?_ (args_c_next _))))
  unfold Builtin.«itertools.combinations.__next__»
  refine wpAny_bind (wpAny_pure ?_)
  refine wpAny_bind (wpAny_field hit rfl (x := .ref P) rfl ?_)
  refine wpAny_bind (numbers hit ?_)
  refine wpAny_bind (wpAny_bind (wpAny_field hit rfl (x := rawInt 0) rfl (wpAny_pure ?_)))
  refine wpAny_bind (wpAny_setField hit rfl (by simp) ?_)
  have e := Heap.get?_update_self (Obj.mapFields fun x => x.setIfInBounds 1 (rawInt 1)) hit rfl
  have hit2 : IsC (s.heap.update it (Obj.mapFields fun x => x.setIfInBounds 1 (rawInt 1))) it P 1 last ix := e.trans (by congr 2)
  have hp2 : IsP (s.heap.update it (Obj.mapFields fun x => x.setIfInBounds 1 (rawInt 1))) P vs := (Heap.get?_update_other _ _ (Ne.symm hne)).trans hp
  have sz : (s.heap.update it (Obj.mapFields fun x => x.setIfInBounds 1 (rawInt 1))).objs.size = s.heap.objs.size := (Heap.SameBut.update ..).1
  refine hand_out (s := { s with heap := s.heap.update it (Obj.mapFields fun x => x.setIfInBounds 1 (rawInt 1)) }) hit2 hp2 hj fun h' a b c d => ?_
  dsimp only at a b c d ⊢
  rw [sz] at a b c ⊢
  refine ⟨_, rfl, ?_⟩
  exact wpAny_pure (h h' a b c fun x o hx ho => d x o hx ((Heap.get?_update_other _ _ (Ne.symm hx)).trans ho))
theorem c_next {it P : Addr} {last : Value} {ix jx : List Nat} {vs : List Value} {Q : Option Value → Shared → Prop} (hit : IsC s.heap it P 1 last ix) (hp : IsP s.heap P vs) (hne : P ≠ it) (hj : jx.length ≤ 10) (hn : nextC vs.length ix = some jx)
    (h : ∀ h', IsC h' it P 1 (.ref s.heap.objs.size) jx → h'.get? s.heap.objs.size = some (tupO vs jx) → h'.objs.size = s.heap.objs.size + 1 →
      (∀ b o, b ≠ it → s.heap.get? b = some o → h'.get? b = some o) → Q (some (.ref s.heap.objs.size)) { s with heap := h' }) :
    wpAny (model prog w) A (pyNext (.ref it)) Q E s := by
  have hT : s.TypeIs (.ref it) "itertools.combinations" := ⟨_, hit, rfl⟩
  unfold pyNext
  refine wpAny_bind (wpAny_attempt (wpAny_callSpecial?_slot (name := Str.ofString "__next__") hT slot_c_next
    (wpAny_call_entry slot_c_next hT entry_c_next ?_ (args_c_next _))))
  unfold Builtin.«itertools.combinations.__next__»
  refine wpAny_bind (wpAny_pure ?_)
  refine wpAny_bind (wpAny_field hit rfl (x := .ref P) rfl ?_)
  refine wpAny_bind (numbers hit ?_)
  refine wpAny_bind (wpAny_bind (wpAny_field hit rfl (x := rawInt 1) rfl (wpAny_pure ?_)))
  refine wpAny_bind (pool_items hp ?_)
  show wpAny _ _ (match nextC vs.toArray.size ix with | some next => _ | none => _) _ _ s
  have hn' : nextC vs.toArray.size ix = some jx := by rw [List.size_toArray]; exact hn
  rw [hn']
  refine wpAny_bind (set_numbers hit hj fun h1 hit2 sb => ?_)
  have hp2 : IsP h1 P vs := sb.extBut _ _ hne hp
  have sz : h1.objs.size = s.heap.objs.size := sb.1
  refine hand_out (s := { s with heap := h1 }) hit2 hp2 hj fun h' a b c d => ?_
  dsimp only at a b c d ⊢
  rw [sz] at a b c ⊢
  refine ⟨_, rfl, ?_⟩
  exact wpAny_pure (h h' a b c fun x o hx ho => d x o hx (sb.extBut _ _ hx ho))
theorem c_end {it P : Addr} {last : Value} {ix : List Nat} {vs : List Value} {Q : Option Value → Shared → Prop} (hh : A.handled = none) (hit : IsC s.heap it P 1 last ix) (hp : IsP s.heap P vs) (hn : nextC vs.length ix = none)
    (h : ∀ h', Heap.ExtBut it s.heap h' → Q none { s with heap := h' }) :
    wpAny (model prog w) A (pyNext (.ref it)) Q E s := by
  have hT : s.TypeIs (.ref it) "itertools.combinations" := ⟨_, hit, rfl⟩
  unfold pyNext
  refine wpAny_bind (wpAny_attempt (wpAny_callSpecial?_slot (name := Str.ofString "__next__") hT slot_c_next
    (wpAny_call_entry slot_c_next hT entry_c_next ?_ (args_c_next _))))
  unfold Builtin.«itertools.combinations.__next__»
  refine wpAny_bind (wpAny_pure ?_)
  refine wpAny_bind (wpAny_field hit rfl (x := .ref P) rfl ?_)
  refine wpAny_bind (numbers hit ?_)
  refine wpAny_bind (wpAny_bind (wpAny_field hit rfl (x := rawInt 1) rfl (wpAny_pure ?_)))
  refine wpAny_bind (pool_items hp ?_)
  show wpAny _ _ (match nextC vs.toArray.size ix with | some next => _ | none => _) _ _ s
  have hn' : nextC vs.toArray.size ix = none := by rw [List.size_toArray]; exact hn
  rw [hn']
  refine wpAny_bind (wpAny_setField hit rfl (by simp) ?_)
  show wpAny _ _ (newExc (.type "StopIteration") [] >>= _) _ _ _
  refine wpAny_bind ?_
  simp only [newExc, newTuple]
  refine wpAny_bind (wpAny_newObj_type ?_ (by size_fits))
  refine wpAny_bind (m := firstArgMember _ _) (wpAny_of_eq (a := Value.none) (by first | rfl | (simp only [firstArgMember]; rfl)) ?_)
  refine wpAny_newObj_type ?_ (by size_fits)
  simp only [raiseNew]
  refine wpAny_bind (wpAny_handled ?_)
  rw [show A.in1.handled = none from hh]
  refine wpAny_bind (wpAny_pure (wpAny_throw ?_))
  refine wpAny_bind (wpAny_isInstance (T := "StopIteration") (b := true) ⟨_, Heap.get?_push_size _ rfl, rfl⟩ isSubtype_stop ?_)
  exact wpAny_pure (h _ (((Heap.SameBut.update ..).extBut.push _).push _))
end
end Cmb
set_option Elab.async false
set_option linter.all false
set_option maxRecDepth 100000
set_option maxHeartbeats 2000000
namespace Cmb
open PySem PySem.Spec PyProof.Rows Kn
open Sem (wp)
theorem chk_step {n : Nat} : ∀ {L : List (List Nat)}, chk n L = true → ∀ {i : Nat} {x : List Nat}, L[i]? = some x → nextC n x = L[i + 1]?
  | [], h, i, x, _ => by cases h
  | [y], h, 0, x, hx => by
    cases hx
    exact eq_of_beq h
  | [y], h, i + 1, x, hx => by cases hx
  | y :: z :: t, h, i, x, hx => by
    obtain ⟨h1, h2⟩ := Bool.and_eq_true_iff.mp (show (nextC n y == some z && chk n (z :: t)) = true from h)
    cases i with
    | zero =>
      cases hx
      exact eq_of_beq h1
    | succ i => exact chk_step h2 (i := i) hx
/-- so many are told -/
def St (h : Heap) (it P : Addr) (L : List (List Nat)) (r i : Nat) : Prop :=
  (i = 0 ∧ IsC h it P 0 .none (List.range r)) ∨ ∃ last ix, 0 < i ∧ L[i - 1]? = some ix ∧ IsC h it P 1 last ix
theorem St.keep {h h' : Heap} {it P S : Addr} {L : List (List Nat)} {r i : Nat} (x : St h it P L r i) (hk : ∀ b o, b ≠ S → h.get? b = some o → h'.get? b = some o) (hI : it ≠ S) : St h' it P L r i := by
  rcases x with ⟨e, hit⟩ | ⟨last, ix, e1, e2, hit⟩
  · exact .inl ⟨e, hk _ _ hI hit⟩
  · exact .inr ⟨last, ix, e1, e2, hk _ _ hI hit⟩
structure Run (n r : Nat) (L : List (List Nat)) : Prop where
  hd : L.head? = some (List.range r)
  ck : chk n L = true
  ln : ∀ ix ∈ L, ix.length ≤ 10
section
variable {prog : Program} {w : World} {A : Around} {E : Value → Shared → Prop} {s : Shared}
theorem c_item {it P : Addr} {L : List (List Nat)} {r i : Nat} {vs : List Value} {jx : List Nat} {Q : Option Value → Shared → Prop} (R : Run vs.length r L) (hst : St s.heap it P L r i) (hp : IsP s.heap P vs) (hne : P ≠ it) (hx : L[i]? = some jx)
    (h : ∀ h', St h' it P L r (i + 1) → h'.get? s.heap.objs.size = some (tupO vs jx) → h'.objs.size = s.heap.objs.size + 1 →
      (∀ b o, b ≠ it → s.heap.get? b = some o → h'.get? b = some o) → Q (some (.ref s.heap.objs.size)) { s with heap := h' }) :
    wpAny (model prog w) A (pyNext (.ref it)) Q E s := by
  have hj : jx.length ≤ 10 := R.ln _ (List.mem_of_getElem? hx)
  rcases hst with ⟨rfl, hit⟩ | ⟨last, ix, h0, e, hit⟩
  · have e : jx = List.range r := by
      have := R.hd
      rw [List.head?_eq_getElem?, hx] at this
      exact Option.some.inj this
    subst e
    exact c_first hit hp hne hj fun h' a b c d => h h' (.inr ⟨_, _, Nat.zero_lt_one, hx, a⟩) b c d
  · have hn : nextC vs.length ix = some jx := by
      rw [chk_step R.ck e, show i - 1 + 1 = i by omega, hx]
    exact c_next hit hp hne hj hn fun h' a b c d => h h' (.inr ⟨_, _, Nat.succ_pos _, hx, a⟩) b c d
theorem c_done {it P : Addr} {L : List (List Nat)} {r : Nat} {vs : List Value} {Q : Option Value → Shared → Prop} (R : Run vs.length r L) (hh : A.handled = none) (hst : St s.heap it P L r L.length) (hp : IsP s.heap P vs)
    (h : ∀ h', Heap.ExtBut it s.heap h' → Q none { s with heap := h' }) :
    wpAny (model prog w) A (pyNext (.ref it)) Q E s := by
  rcases hst with ⟨e0, hit⟩ | ⟨last, ix, h0, e, hit⟩
  · have := R.hd
    rw [List.eq_nil_of_length_eq_zero e0] at this
    cases this
  · have hn : nextC vs.length ix = none := by
      rw [chk_step R.ck e, show L.length - 1 + 1 = L.length by omega, List.getElem?_eq_none (Nat.le_refl _)]
    exact c_end hh hit hp hn h
structure CG (vs : List Value) (L : List (List Nat)) (lo : Addr) (h : Heap) (as : List Addr) : Prop where
  rise : as.Pairwise (· < ·)
  above : ∀ a ∈ as, lo < a
  pairs : ∀ (j : Nat) (a : Addr), as[j]? = some a → ∃ jx, L[j]? = some jx ∧ h.get? a = some (tupO vs jx)
theorem CG.there {vs : List Value} {L : List (List Nat)} {lo : Addr} {h : Heap} {as : List Addr} (g : CG vs L lo h as) {a : Addr} (ha : a ∈ as) : a < h.objs.size := by
  obtain ⟨j, hj⟩ := List.mem_iff_getElem?.mp ha
  obtain ⟨_, _, e⟩ := g.pairs j a hj
  exact Heap.lt_size e
theorem c_loop {S I P : Addr} {vs : List Value} {L : List (List Nat)} {r : Nat} {R : Result → Shared → Prop} (C : Run vs.length r L) (hh : A.handled = none) (hIS : I < S) (hSP : P ≠ S) (hIP : P ≠ I) (hn : L.length ≤ sizeLine) (res : Value) {h₁ : Heap}
    (hR : ∀ h' tk acc c as, (∀ b o, b ≠ S → b ≠ I → h₁.get? b = some o → h'.get? b = some o) → h'.get? S = some { cls := .type "list", dict := none, data := .seq acc c, slots := #[] } → as.length = L.length → CG vs L S h' as →
      acc.toList = as.map Value.ref → R (.ok (.ret res)) { s with heap := h', toks := tk }) :
    ∀ (k i : Nat) (h : Heap) (tk c : Nat) (acc : Array Value) (as : List Addr), L.length - i = k → i ≤ L.length → St h I P L r i → IsP h P vs → (∀ b o, b ≠ S → b ≠ I → h₁.get? b = some o → h.get? b = some o) →
      h.get? S = some { cls := .type "list", dict := none, data := .seq acc c, slots := #[] } → acc.toList = as.map Value.ref → as.length = i → CG vs L S h as → S < h.objs.size →
      codeAny (model prog w) A (.builtin "list.extend.loop" ⟨[.ref S, .ref I, res], []⟩) R { s with heap := h, toks := tk } := by
  have hne : S ≠ I := Nat.ne_of_gt hIS
  intro k
  induction k with
  | zero =>
    intro i h tk c acc as hk hi hst hD hkeep hS hacc hal hG hIs
    have hin : i = L.length := by omega
    subst hin
    refine codeAny_builtin PySem.F.entry_extend_loop ?_
    rw [Around.under_plainId PySem.F.plain_extend_loop _]
    show wpAny _ A.in1 (pyNext (.ref I) >>= _) _ _ _
    refine wpAny_bind (c_done (s := { s with heap := h, toks := tk }) (A := A.in1) C hh hst hD fun h' he => ?_)
    refine wpAny_pure (hR h' tk acc c as (fun b o h1 h2 e => he b o h2 (hkeep b o h1 h2 e)) (he S _ hne hS) hal ⟨hG.rise, hG.above, fun j a hj => ?_⟩ hacc)
    obtain ⟨jx, e1, e2⟩ := hG.pairs j a hj
    exact ⟨jx, e1, he a _ (Nat.ne_of_gt (Nat.lt_trans hIS (hG.above a (List.mem_of_getElem? hj)))) e2⟩
  | succ k ih =>
    intro i h tk c acc as hk hi hst hD hkeep hS hacc hal hG hIs
    have hlt : i < L.length := by omega
    obtain ⟨jx, hx⟩ : ∃ p, L[i]? = some p := ⟨L[i], List.getElem?_eq_getElem hlt⟩
    have hsz : acc.size = i := by rw [← Array.length_toList, hacc, List.length_map, hal]
    refine codeAny_builtin PySem.F.entry_extend_loop ?_
    rw [Around.under_plainId PySem.F.plain_extend_loop _]
    show wpAny _ A.in1 (pyNext (.ref I) >>= _) _ _ _
    refine wpAny_bind (c_item (s := { s with heap := h, toks := tk }) C hst hD hIP hx fun h' hst' ht hz hkp => ?_)
    dsimp only at ht hz hkp ⊢
    have hS' := hkp S _ hne hS
    have up : ∀ b o, b ≠ S → h'.get? b = some o → (h'.update S (Obj.mapSeq (·.push (Value.ref h.objs.size)))).get? b = some o := fun b o hb e => (Heap.get?_update_other _ _ (Ne.symm hb)).trans e
    show wpAny _ A.in1 (updateSeq S (·.push (Value.ref h.objs.size)) >>= _) _ _ _
    refine wpAny_bind ?_
    refine wpAny_updateSeq hS' rfl (wpAny_pure ⟨plainId_quiet PySem.F.plain_extend_loop _, ih (i + 1) _ tk _ (acc.push (Value.ref h.objs.size)) (as ++ [h.objs.size]) (by omega) hlt (hst'.keep up (Ne.symm hne)) (up P _ hSP (hkp P _ hIP hD))
      (fun b o h1 h2 e => up b o h1 (hkp b o h2 (hkeep b o h1 h2 e))) (Heap.get?_update_self _ hS' rfl) (by rw [Array.toList_push, hacc, List.map_append]; rfl) (by rw [List.length_append, hal]; rfl) ⟨?_, ?_, ?_⟩ ?_⟩) (by rw [hsz]; omega) (by show (acc.push (Value.ref h.objs.size)).size ≤ sizeLine + 1; rw [Array.size_push, hsz]; omega)
    · refine List.pairwise_append.mpr ⟨hG.rise, List.pairwise_singleton _ _, fun a ha b hb => ?_⟩
      rw [List.mem_singleton.mp hb]
      exact hG.there ha
    · intro a ha
      rcases List.mem_append.mp ha with ha | ha
      · exact hG.above a ha
      · rw [List.mem_singleton.mp ha]; exact hIs
    · intro j b hj
      rcases Nat.lt_trichotomy j as.length with h1 | h1 | h1
      · rw [List.getElem?_append_left h1] at hj
        obtain ⟨x', e1, e3⟩ := hG.pairs j b hj
        have hb := hG.above b (List.mem_of_getElem? hj)
        exact ⟨x', e1, up b _ (Nat.ne_of_gt hb) (hkp b _ (Nat.ne_of_gt (Nat.lt_trans hIS hb)) e3)⟩
      · subst h1
        have hb : h.objs.size = b := by simpa using hj
        subst hb
        exact ⟨jx, by rw [hal]; exact hx, up _ _ (Nat.ne_of_gt hIs) ht⟩
      · have hnone : (as ++ [h.objs.size])[j]? = none := List.getElem?_eq_none (by rw [List.length_append, List.length_singleton]; omega)
        rw [hnone] at hj; cases hj
    · have e : (h'.update S (Obj.mapSeq (·.push (Value.ref h.objs.size)))).get? h.objs.size = _ := up _ _ (Nat.ne_of_gt hIs) ht
      exact Nat.lt_trans hIs (Heap.lt_size e)
theorem c_hint {I : Addr} (hT : s.TypeIs (.ref I) "itertools.combinations") {Q : Bool → Shared → Prop} (h : Q true s) : wpAny (model prog w) A (Builtin.List.listLengthHint (.ref I)) Q E s := by
  unfold Builtin.List.listLengthHint
  refine wpAny_bind (wpAny_specialOf hT nolen_c ?_)
  show wpAny _ _ (specialOf (Value.ref I) (Str.ofString "__length_hint__") >>= _) _ _ _
  refine wpAny_bind (wpAny_specialOf hT nohint_c ?_)
  exact wpAny_pure h
theorem iter_c {it P : Addr} {st : Int} {last : Value} {ix : List Nat} {Q : Value → Shared → Prop} (hit : IsC s.heap it P st last ix) (h : Q (.ref it) s) : wpAny (model prog w) A (pyIter (.ref it)) Q E s := by
  have hT : s.TypeIs (.ref it) "itertools.combinations" := ⟨_, hit, rfl⟩
  refine wpAny_pyIter_slot hT slot_c_iter (wpAny_call_entry slot_c_iter hT entry_c_iter ?_ (args_c_iter _))
  show wpAny _ _ (ret (.ref it)) _ _ s
  exact wpAny_pure ⟨_, rfl, "itertools.combinations", _, hT, slot_c_next.lookup, h⟩
end
end Cmb
set_option Elab.async false
set_option linter.all false
set_option maxRecDepth 100000
set_option maxHeartbeats 2000000
namespace Cmb
open PySem PySem.Spec PyProof.Rows Kn
open Sem (wp)
section
variable {prog : Program} {w : World} {A : Around} {E : Value → Shared → Prop} {s : Shared}
theorem c_extend {I P S : Addr} {vs : List Value} {L : List (List Nat)} {r : Nat} {R : Result → Shared → Prop} (C : Run vs.length r L) (hh : A.handled = none) (hit : IsC s.heap I P 0 .none (List.range r)) (hp : IsP s.heap P vs)
    (hIS : I < S) (hSP : P ≠ S) (hIP : P ≠ I) (res : Value) (c₀ : Nat) (hS : s.heap.get? S = some { cls := .type "list", data := .seq #[] c₀ })
    (hR : ∀ h' tk acc c as, (∀ b o, b ≠ S → b ≠ I → s.heap.get? b = some o → h'.get? b = some o) → h'.get? S = some { cls := .type "list", dict := none, data := .seq acc c, slots := #[] } → as.length = L.length → CG vs L S h' as →
      acc.toList = as.map Value.ref → R (.ok (.ret res)) { s with heap := h', toks := tk }) (hn : L.length ≤ sizeLine) :
    wpAny (model prog w) A.in1 (Builtin.List.listExtendWith (.ref S) (.ref I) res)
      (fun fin s' => match fin with | .done f => R (.ok f) s' | .again c' => c'.quiet = true ∧ codeAny (model prog w) A c' R s') (fun e s' => R (.error e) s') s := by
  have hT : s.TypeIs (.ref I) "itertools.combinations" := ⟨_, hit, rfl⟩
  have key : ∀ (h : Heap) (c₁ tk : Nat), (∀ b o, b ≠ S → s.heap.get? b = some o → h.get? b = some o) →
      h.get? S = some { cls := .type "list", data := .seq #[] c₁ } → codeAny (model prog w) A (.builtin "list.extend.loop" ⟨[.ref S, .ref I, res], []⟩) R { s with heap := h, toks := tk } := by
    intro h c₁ tk hk hS₁
    refine c_loop (s := s) (h₁ := s.heap) C hh hIS hSP hIP hn res (fun h' tk' acc c as hk' hS' hl hG hacc => hR h' tk' acc c as hk' hS' hl hG hacc)
      L.length 0 h tk c₁ #[] [] (Nat.sub_zero _) (Nat.zero_le _) (.inl ⟨rfl, hk _ _ (Nat.ne_of_lt hIS) hit⟩) (hk _ _ hSP hp) (fun b o hb _ e => hk b o hb e) hS₁ rfl rfl
      ⟨List.Pairwise.nil, (fun _ ha => nomatch ha), (fun j a hj => by simp at hj)⟩ (Heap.lt_size hS₁)
  unfold Builtin.List.listExtendWith
  refine wpAny_bind (wpAny_typeOf (T := "itertools.combinations") hT ?_)
  have h1 : Builtin.List.listSameRef (.ref S) (.ref I) = false := by simp [Builtin.List.listSameRef, Nat.ne_of_gt hIS]
  have h2 : (Value.type "itertools.combinations" == Value.type "list") = false := by decide
  have h3 : (Value.type "itertools.combinations" == Value.type "tuple") = false := by decide
  simp only [h1, h2, h3, Bool.or_false, Bool.false_eq_true, if_false]
  refine wpAny_bind (iter_c hit ?_)
  refine wpAny_bind (wpAny_holding (c_hint hT ?_))
  refine wpAny_ite_split (fun _ => ?_) (fun _ => wpAny_pure ⟨plainId_quiet PySem.F.plain_extend_loop _, key _ c₀ _ (fun b o _ e => e) hS⟩)
  refine wpAny_bind (wpAny_rule ?_)
  refine wpAny_bind ?_
  show wpAny _ _ (updateSeq S (·.push .none) >>= fun _ => updateSeq S (·.pop)) _ _ _
  refine wpAny_bind (wpAny_updateSeq hS rfl ?_)
  have hS₂ := Heap.get?_update_self (Obj.mapSeq (·.push Value.none)) hS rfl
  refine wpAny_updateSeq (hz := by seq_fits) hS₂ rfl ?_
  have hS₃ := Heap.get?_update_self (Obj.mapSeq (·.pop)) hS₂ rfl
  refine wpAny_pure ⟨plainId_quiet PySem.F.plain_extend_loop _, key _ _ _ (fun b o hb e => ?_) hS₃⟩
  exact (Heap.get?_update_other _ _ (Ne.symm hb)).trans ((Heap.get?_update_other _ _ (Ne.symm hb)).trans e)
theorem c_init {I P S : Addr} {vs : List Value} {L : List (List Nat)} {r : Nat} {R : Result → Shared → Prop} (C : Run vs.length r L) (hh : A.handled = none) (hit : IsC s.heap I P 0 .none (List.range r)) (hp : IsP s.heap P vs)
    (hIS : I < S) (hSP : P ≠ S) (hIP : P ≠ I) (hS : s.heap.get? S = some { cls := .type "list", data := .seq #[] })
    (hR : ∀ h' tk acc c as, (∀ b o, b ≠ S → b ≠ I → s.heap.get? b = some o → h'.get? b = some o) → h'.get? S = some { cls := .type "list", dict := none, data := .seq acc c, slots := #[] } → as.length = L.length → CG vs L S h' as →
      acc.toList = as.map Value.ref → R (.ok (.ret .none)) { s with heap := h', toks := tk }) (hn : L.length ≤ sizeLine) :
    wpAny (model prog w) A.in1 (Builtin.«list.__init__» ⟨[.ref S, .ref I], []⟩)
      (fun fin s' => match fin with | .done f => R (.ok f) s' | .again c' => c'.quiet = true ∧ codeAny (model prog w) A c' R s') (fun e s' => R (.error e) s') s := by
  show wpAny _ _ (do let old ← Builtin.List.listItems (.ref S); Builtin.List.listUpdate (.ref S) (fun _ => #[]); letGo old.toList.reverse; Builtin.List.listExtendWith (.ref S) (.ref I) .none) _ _ s
  refine wpAny_bind ?_
  unfold Builtin.List.listItems
  refine wpAny_bind (wpAny_seqItems hS rfl (wpAny_pure ?_))
  show wpAny _ _ (updateSeq S (fun _ => #[]) >>= fun _ => letGo (#[] : Array Value).toList.reverse >>= fun _ => Builtin.List.listExtendWith (.ref S) (.ref I) .none) _ _ s
  refine wpAny_bind (wpAny_updateSeq hS rfl ?_)
  have hS₂ := Heap.get?_update_self (Obj.mapSeq (fun _ => (#[] : Array Value))) hS rfl
  have oth : ∀ b o, b ≠ S → s.heap.get? b = some o → (s.heap.update S (Obj.mapSeq (fun _ => (#[] : Array Value)))).get? b = some o :=
    fun b o hb e => (Heap.get?_update_other _ _ (Ne.symm hb)).trans e
  refine wpAny_bind (wpAny_letGo ?_)
  refine c_extend C hh (oth _ _ (Nat.ne_of_lt hIS) hit) (oth _ _ hSP hp) hIS hSP hIP .none _ hS₂ (fun h' tk acc c as hk hS' hl hG hacc => ?_) hn
  exact hR h' tk acc c as (fun b o hb hb2 e => hk b o hb hb2 (oth b o hb e)) hS' hl hG hacc
/-- list(choices) -/
theorem list_c {I P : Addr} {vs : List Value} {L : List (List Nat)} {r : Nat} {Q : Value → Shared → Prop} (C : Run vs.length r L) (hh : A.handled = none) (hit : IsC s.heap I P 0 .none (List.range r)) (hp : IsP s.heap P vs) (hIP : P ≠ I) (hn : L.length ≤ sizeLine)
    (hQ : ∀ h' tk acc c as, (∀ b o, b ≠ I → s.heap.get? b = some o → h'.get? b = some o) → h'.get? s.heap.objs.size = some { cls := .type "list", dict := none, data := .seq acc c, slots := #[] } → as.length = L.length → CG vs L s.heap.objs.size h' as →
      acc.toList = as.map Value.ref → Q (.ref s.heap.objs.size) { s with heap := h', toks := tk }) :
    wpAny (model prog w) A (call (.type "list") [.ref I]) Q E s := by
  refine callType_codes (Q₁ := fun obj s₁ => obj = .ref s.heap.objs.size ∧ s₁ = { s with heap := s.heap.push { cls := .type "list", data := .seq #[] } }) PySem.F.called_list (PySem.F.typeCall_list_1 _) PySem.F.entry_list_init
    (code_list_new _ ⟨rfl, rfl⟩) fun obj s₁ h₁ => ?_
  obtain ⟨rfl, rfl⟩ := h₁
  have hS : (s.heap.push { cls := .type "list", data := .seq #[] }).get? s.heap.objs.size = some { cls := .type "list", data := .seq #[] } := Heap.get?_push_size _ rfl
  have hr : I < s.heap.objs.size := Heap.lt_size hit
  have hd : P < s.heap.objs.size := Heap.lt_size hp
  refine ⟨⟨_, hS, rfl⟩, PySem.F.args_list_init_2 _ _, c_init (A := A.in1) C hh (Heap.get?_push_of_some _ hit) (Heap.get?_push_of_some _ hp) hr (Nat.ne_of_lt hd) hIP hS (fun h' tk acc c as hk hS' hl hG hacc => ?_) hn⟩
  exact ⟨rfl, hQ h' tk acc c as (fun b o hb e => hk b o (Nat.ne_of_lt (Heap.lt_size e)) hb (Heap.get?_push_of_some _ e)) hS' hl hG hacc⟩
end
end Cmb
set_option Elab.async false
set_option linter.all false
set_option maxRecDepth 100000
set_option maxHeartbeats 2000000
namespace Cmb
open PySem PySem.Spec PyProof.Rows Kn
open Sem (wp)
theorem bind2 (a b : Value) : Builtin.Itertools.itBindNamed "combinations" ["iterable", "r"] 2 2 [a, b] [] = pure [some a, some b] := by kernel_rfl
theorem tname : "itertools." ++ "combinations" = "itertools.combinations" := by decide +kernel
theorem car (a b : Value) : Builtin.Itertools.itClassAndRest "combinations" ⟨[.type "itertools.combinations", a, b], []⟩ = pure (.type "itertools.combinations", [a, b]) := by
  unfold Builtin.Itertools.itClassAndRest
  rw [tname]
  have h1 : isType (.type "itertools.combinations") = pure true := by first | rfl | kernel_rfl
  have h2 := sub_c
  simp only [h1, h2, pure_bind, Bool.not_true, Bool.false_eq_true, if_false]
section
variable {prog : Program} {w : World} {A : Around} {E : Value → Shared → Prop} {s : Shared}
theorem ssize {r : Nat} {t : Tok} {Q : Int → Shared → Prop} (hr : r ≤ 1000) (h : Q r s) : wpAny (model prog w) A (Builtin.Itertools.itSsizeArg (.int r t)) Q E s := by
  unfold Builtin.Itertools.itSsizeArg
  refine wpAny_bind (wpAny_pure ?_)
  rw [if_neg (by
    rw [Bool.or_eq_true, decide_eq_true_iff, decide_eq_true_iff]
    omega)]
  exact wpAny_pure h
def sNew (l : Addr) (vs : List Value) (r : Nat) : PySem.Spec := fun _ R s => s.heap.IsList l vs.toArray ∧
  ∀ h' I P, IsC h' I P 0 .none (List.range r) → IsP h' P vs → P ≠ I → (∀ b o, s.heap.get? b = some o → h'.get? b = some o) → s.heap.objs.size ≤ I → R (.ok (.ret (.ref I))) { s with heap := h' }
theorem meets_c_new (l : Addr) (vs : List Value) (r : Nat) (t : Tok) (hz : vs.length ≤ 1000) (h1 : r ≤ vs.length) :
    Meets (Builtin.«itertools.combinations.__new__» ⟨[.type "itertools.combinations", .ref l, .int r t], []⟩) (sNew l vs r) := by
  intro prog w A R s h
  obtain ⟨hl, h⟩ := h
  have sz : vs.length ≤ sizeLine := by
    have : sizeLine ≥ 2000 := by rw [sizeLine_eq]; decide
    omega
  unfold Builtin.«itertools.combinations.__new__»
  refine wpAny_bind ?_
  refine wpAny_bind (wpAny_of_eq (car _ _) ?_)
  refine wpAny_bind (wpAny_of_eq (bind2 _ _) ?_)
  refine wpAny_bind (ssize (by omega) ?_)
  refine wpAny_bind (collect_list hl ?_ sz)
  show wpAny _ _ (if (r : Int) < 0 then _ else (if Builtin.Itertools.itTooMany (r : Int) = true then _ else _)) _ _ _
  rw [if_neg (by omega), if_neg (by unfold Builtin.Itertools.itTooMany; rw [decide_eq_true_iff]; omega)]
  refine wpAny_bind (wpAny_newTuple ?_ sz)
  refine wpAny_pure ?_
  refine wpAny_bind ?_
  unfold Builtin.Itertools.itNewRecord
  rw [noDict_c]
  rw [if_pos (by decide)]
  generalize hk : ((s.heap.push (seqObj "list" #[] 0)).update s.heap.objs.size (Obj.mapSeq (· ++ vs.toArray))) = k
  have kp : ∀ b o, s.heap.get? b = some o → k.get? b = some o := fun b o e => by
    rw [← hk]
    exact (Heap.get?_update_other _ _ (Nat.ne_of_gt (Heap.lt_size e))).trans (Heap.get?_push_of_some _ e)
  have ksz : s.heap.objs.size ≤ k.objs.size := by
    rw [← hk, (Heap.SameBut.update _ _ _).1, Heap.size_push]
    omega
  have hf : (if r > vs.length then (2 : Int) else 0) = 0 := if_neg (by omega)
  dsimp only
  rw [Int.toNat_natCast, hf]
  refine wpAny_newObj_type ?_ ?_
  · refine wpAny_pure (h _ _ k.objs.size ?_ ?_ ?_ ?_ ?_)
    · exact Heap.get?_push_size _ rfl
    · exact Heap.get?_push_of_some _ (Heap.get?_push_size _ rfl)
    · show k.objs.size ≠ (k.push _).objs.size
      rw [Heap.size_push]
      omega
    · intro b o e
      exact Heap.get?_push_of_some _ (Heap.get?_push_of_some _ (kp b o e))
    · rw [Heap.size_push]
      omega
  · have : sizeLine ≥ 2000 := by rw [sizeLine_eq]; decide
    show (([Value.ref k.objs.size, rawInt 0, Value.none] ++ List.map (fun (i : Nat) => rawInt i) (List.range r)).toArray).size ≤ sizeLine + 2
    rw [List.size_toArray, List.length_append, List.length_map, List.length_range]
    show 3 + r ≤ _
    omega
theorem call_c {l : Addr} {vs : List Value} {r : Nat} {t : Tok} {Q : Value → Shared → Prop} (hl : s.heap.IsList l vs.toArray) (hz : vs.length ≤ 1000) (h1 : r ≤ vs.length)
    (h : ∀ h' I P, IsC h' I P 0 .none (List.range r) → IsP h' P vs → P ≠ I → (∀ b o, s.heap.get? b = some o → h'.get? b = some o) → s.heap.objs.size ≤ I → Q (.ref I) { s with heap := h' }) :
    wpAny (model prog w) A (call (.type "itertools.combinations") [.ref l, .int r t]) Q E s := by
  refine callType_new called_c (by decide +kernel) (typeCall_c_2 _ _) (newCall_c_2 _ _) (fun obj => F.args_object_init_3 obj _ _) entry_c_new (meets_c_new l vs r t hz h1) ?_
  exact ⟨hl, fun h' I P a b c d e => ⟨⟨_, a, rfl⟩, h h' I P a b c d e⟩⟩
end
end Cmb
set_option Elab.async false
set_option linter.all false
set_option maxRecDepth 100000
set_option maxHeartbeats 2000000
namespace Cmb
open PySem PySem.Spec PyProof.Rows L2 Kn
/-! ### as a rule: list(combinations(xs, k)) -/
def putT : Hp → List Addr → List (List V) → Hp
  | H, a :: as, p :: r => putT (upd H a (.tup p)) as r
  | H, _, _ => H
theorem putT_off {b : Addr} : ∀ (as : List Addr) (r : List (List V)) (H : Hp), b ∉ as → putT H as r b = H b
  | [], _, _, _ => rfl
  | _ :: _, [], _, _ => rfl
  | a :: as, p :: r, H, h => by
    show putT (upd H a (.tup p)) as r b = H b
    rw [putT_off as r _ (fun z => h (List.mem_cons_of_mem _ z)), upd_ne (fun z => h (by rw [z]; exact List.mem_cons_self))]
theorem putT_at : ∀ (as : List Addr) (r : List (List V)) (H : Hp), as.length = r.length → as.Nodup → Paired (fun (t : Addr) (p : List V) => putT H as r t = some (.tup p)) as r
  | [], [], _, _, _ => .nil
  | [], _ :: _, _, h, _ => by cases h
  | _ :: _, [], _, h, _ => by cases h
  | a :: as, p :: r, H, h, hn => by
    have hn' := List.nodup_cons.mp hn
    have ih := putT_at as r (upd H a (.tup p)) (Nat.succ.inj h) hn'.2
    refine .cons ?_ ih
    show putT (upd H a (.tup p)) as r a = some (.tup p)
    rw [putT_off as r _ hn'.1, upd_same]
theorem pick_vals {xs : List V} {its : List Value} (r : Vals xs its) : ∀ {jx : List Nat}, (∀ i ∈ jx, i < xs.length) → Vals (jx.map (xs.getD · .non)) (jx.map fun i => its.toArray.getD i .none)
  | [], _ => .nil
  | i :: jx, h => by
    have hi := h i List.mem_cons_self
    obtain ⟨u, hu, ru⟩ := r.get (List.getElem?_eq_getElem hi)
    refine .cons ?_ (pick_vals r fun k m => h k (List.mem_cons_of_mem _ m))
    have e1 : xs.getD i .non = xs[i] := by
      rw [List.getD_eq_getElem?_getD, List.getElem?_eq_getElem hi]
      rfl
    have e2 : its.toArray.getD i .none = u := by
      rw [Array.getD_eq_getD_getElem?, List.getElem?_toArray, hu]
      rfl
    show RelV (xs.getD i .non) (its.toArray.getD i .none)
    rw [e1, e2]
    exact ru
def tCmb (K : PySem.W.Frag) (ta : TA) : TE := fun σ H Q => ta σ H fun vs H1 => ∃ (l : Addr) (xs : List V) (k : Nat), vs = [.ref l, .int k] ∧ SqL K H1 l xs ∧ xs.length ≤ 10 ∧ k ≤ xs.length ∧
  ∀ (H' : Hp) (p : Addr) (ts : List Addr), (∀ b o, H1 b = some o → H' b = some o) → H1 p = none → (∀ t ∈ ts, H1 t = none) → p ∉ ts → H' p = some (.lst (ts.map V.ref)) → Paired (fun (t : Addr) (r : List V) => H' t = some (.tup r)) ts (combos xs k) → Q (.ref p) H'
section
variable {X : Cx}
theorem c_laid {pins : List (Addr × Obj)} {σ : L2.St} {H : Hp} {s : Shared} {h' : Heap} {tk : Nat} {xs : List V} {its : List Value} {k : Nat} {acc : Array Value} {c S : Nat} {as : List Addr} (I : Inv X pins σ H s) (r : Vals xs its) (h10 : xs.length ≤ 10)
    (hk : ∀ b o, s.heap.get? b = some o → h'.get? b = some o) (hSz : s.heap.objs.size ≤ S) (hS : h'.get? S = some { cls := .type "list", dict := none, data := .seq acc c, slots := #[] }) (hl : as.length = (combos (List.range xs.length) k).length)
    (hG : CG its (combos (List.range xs.length) k) S h' as) (hacc : acc.toList = as.map Value.ref) :
    ∃ H' : Hp, (∀ b o, H b = some o → H' b = some o) ∧ H S = none ∧ (∀ t ∈ as, H t = none) ∧ S ∉ as ∧ H' S = some (.lst (as.map V.ref)) ∧ Paired (fun (t : Addr) (q : List V) => H' t = some (.tup q)) as (combos xs k) ∧ Inv X pins σ H' { s with heap := h', toks := tk } := by
  have epick : (combos (List.range xs.length) k).map (List.map (xs.getD · .non)) = combos xs k := combos_pick xs .non k
  have lk : as.length = (combos xs k).length := by rw [← epick, List.length_map, hl]
  have hSn : S ∉ as := fun z => Nat.lt_irrefl _ (hG.above _ z)
  have nd : as.Nodup := List.Pairwise.imp (fun {a b} (h : a < b) => Nat.ne_of_lt h) hG.rise
  have new : ∀ t ∈ as, H t = none := fun t ht => I.hok.fresh (Nat.le_trans hSz (Nat.le_of_lt (hG.above t ht)))
  have newS : H S = none := I.hok.fresh hSz
  have atP := putT_at as (combos xs k) (upd H S (.lst (as.map V.ref))) lk nd
  have off : ∀ b, b ∉ as → b ≠ S → putT (upd H S (.lst (as.map V.ref))) as (combos xs k) b = H b := fun b h1 h2 => by rw [putT_off as _ _ h1, upd_ne h2]
  have low : ∀ b o, s.heap.get? b = some o → b ∉ as ∧ b ≠ S := fun b o e => ⟨fun z => absurd (Heap.lt_size e) (Nat.not_lt.mpr (Nat.le_trans hSz (Nat.le_of_lt (hG.above b z)))), fun z => absurd (Heap.lt_size e) (Nat.not_lt.mpr (z ▸ hSz))⟩
  have kp : ∀ b u, H b = some u → (putT (upd H S (.lst (as.map V.ref))) as (combos xs k)) b = some u := fun b u e => by
    rw [off b (fun z => by rw [new b z] at e; cases e) (fun z => by rw [z, newS] at e; cases e)]
    exact e
  have eS : putT (upd H S (.lst (as.map V.ref))) as (combos xs k) S = some (.lst (as.map V.ref)) := by rw [putT_off as _ _ hSn, upd_same]
  have hlen : (combos xs k).length ≤ 1024 := Nat.le_trans (combos_len xs k) (Nat.le_trans (Nat.pow_le_pow_right (by decide) h10) (by decide))
  refine ⟨putT (upd H S (.lst (as.map V.ref))) as (combos xs k), kp, newS, new, hSn, eS, atP, ?_⟩
  refine I.call' (ch := []) rfl ⟨fun b o q _ _ _ => hk b o q, fun b o q _ _ _ => ⟨o.slots, hk b o q⟩, fun b o q n _ => ?_, fun b o q _ => ⟨o, hk b o q⟩, fun b xs q => kp b _ q, fun b o u q => kp b _ q, fun b ps q => ⟨#[], by rw [kp b _ q]; simp⟩⟩ (fun b u q => ?_) I.bare fun b z => by simp at z
  · obtain ⟨z1, z2⟩ := low b o q
    rw [off b z1 z2]
    exact n
  · by_cases hb : b ∈ as
    · obtain ⟨j, row, e1, e2, e3⟩ := LiI.paired_ix atP hb
      rw [e3] at q
      cases q
      obtain ⟨jx, f1, f3⟩ := hG.pairs j b e1
      have er : row = jx.map (xs.getD · .non) := by
        rw [← epick, List.getElem?_map, f1] at e2
        exact (Option.some.inj e2).symm
      have hin : ∀ i ∈ jx, i < xs.length := fun i m => by
        have := (mem_combos.mp (List.mem_of_getElem? f1)).1.subset m
        exact List.mem_range.mp this
      have hln : jx.length ≤ xs.length := by
        have := (mem_combos.mp (List.mem_of_getElem? f1)).1.length_le
        rw [List.length_range] at this
        exact this
      rw [er]
      refine ⟨?_, _, pick_vals r hin, ⟨_, f3, rfl, _, rfl⟩⟩
      have : sizeLine ≥ 2000 := by rw [sizeLine_eq]; decide
      rw [List.length_map]
      omega
    · by_cases hb2 : b = S
      · rw [hb2] at q ⊢
        rw [eS] at q
        cases q
        refine ⟨by rw [List.length_map, lk]; have : sizeLine ≥ 2000 := by rw [sizeLine_eq]; decide
                   omega, acc.toList, c, by rw [hacc]; exact LiI.vals_refs as, ?_⟩
        rw [Array.toArray_toList]
        exact hS
      · rw [off b hb hb2] at q
        exact (I.hok b u q).stay (fun d v _ y => hk d v y) (fun d y => kp d _ y) fun d xs y => kp d _ y
/-- list(combinations(a, b)) -/
theorem pe_listCmb {e1 : Expr} {es : List Expr} {ta : TA} {p p2 cpos pos : Pos} (hc : X.calm = true) (ha : PA X (e1 :: es) ta) (hg : Gl X "list") (hm : X.mg "list" = none) (hv : bootBuiltins "list" = some (.type "list"))
    (hg2 : Gl X "combinations") (hm2 : X.mg "combinations" = some (.type "itertools.combinations"))
    (h1 : starEach (e1 :: es) X.env = (false, eval e1 X.env) :: starEach es X.env := by rfl) (h2 : (backTo cpos (starEach es X.env)).any (·.1) = false := by rfl)
    (hs : starEach [.Call (.Name "combinations" p2) (e1 :: es) [] cpos] X.env = (false, eval (.Call (.Name "combinations" p2) (e1 :: es) [] cpos) X.env) :: starEach [] X.env := by rfl) :
    PE X (.Call (.Name "list" p) [.Call (.Name "combinations" p2) (e1 :: es) [] cpos] [] pos) (tCmb X.K ta) := by
  refine ⟨fun pins s σ H Q I hq => ?_⟩
  refine wpAny_Call_Name_kw (ld_blt I hg hm hv ?_)
  refine PyProof.Rows.callWith_type1 ?_ hs rfl
  rw [hs]
  show wpAny _ _ (spliced ((false, eval (.Call (.Name "combinations" p2) (e1 :: es) [] cpos) X.env) :: backTo pos (starEach [] X.env))) _ _ s
  refine Calls.spliced_cons ?_
  refine wpAny_Call_Name_kw (ld_glob I hg2 hm2 ?_)
  refine PyProof.Rows.callWith_type1 (thn (ha.run cpos pins s σ H _ I hq) fun us s1 ⟨vs, H1, I1, r1, l, xs, k, evs, hsq, h10, hk, q⟩ => ?_) h1 h2
  subst evs
  obtain ⟨u1, u2, rfl, ru1, ru2⟩ := vals2 r1
  obtain rfl : u1 = Value.ref l := ru1
  obtain ⟨t2, rfl⟩ := ru2
  obtain ⟨its, rv, hl, hz⟩ := I1.list hsq
  have el : its.length = xs.length := rv.length.symm
  refine call_c hl.isList (by omega) (by omega) fun h' It P a b c d e => ?_
  refine Calls.spliced_nil ?_
  have C : Run its.length k (combos (List.range xs.length) k) := by
    rw [el]
    obtain ⟨c1, c2⟩ := chk_of h10 hk
    refine ⟨c1, c2, fun ix m => ?_⟩
    have := (mem_combos.mp m).1.length_le
    rw [List.length_range] at this
    omega
  have hlen : (combos (List.range xs.length) k).length ≤ sizeLine := by
    have h3 : (combos (List.range xs.length) k).length ≤ 1024 := Nat.le_trans (combos_len _ k) (by rw [List.length_range]; exact Nat.le_trans (Nat.pow_le_pow_right (by decide) h10) (by decide))
    have : sizeLine ≥ 2000 := by rw [sizeLine_eq]; decide
    omega
  refine list_c (s := { s1 with heap := h' }) C (I.ok.hd hc) a b c hlen fun h2 tk acc cc as hk2 hS2 hl2 hG hacc => ?_
  have hsz : s1.heap.objs.size ≤ h'.objs.size := by
    have ha : It < h'.objs.size := Heap.lt_size a
    exact Nat.le_trans e (Nat.le_of_lt ha)
  obtain ⟨H', k1, k2, k3, k4, k5, k6, J⟩ := c_laid (tk := tk) (k := k) I1 rv h10 (fun b' o' e' => hk2 b' o' (fun z => absurd (Heap.lt_size e') (Nat.not_lt.mpr (z ▸ e))) (d b' o' e')) hsz hS2 hl2 hG hacc
  exact ⟨.ref _, H', J, rfl, q H' _ as k1 k2 k3 k4 k5 k6⟩
end
end Cmb
set_option Elab.async false
set_option linter.all false
set_option maxRecDepth 100000
set_option maxHeartbeats 2000000
/-! ### sorted(xs) of things that are alike, of any number -/
namespace SrD
open PySem PySem.Spec PyProof.Rows L2
abbrev leZ (z y : V × PyData) : Bool := PySem.W.sortLe (listOrd itemOrd) false (fun z : V × PyData => PySem.W.keyToks z.2) z y
def rSortD (K : PySem.W.Frag) : List V → Hp → VK → Prop := fun vs H Q => ∃ (a : Addr) (zs : List (V × PyData)), vs = [V.ref a] ∧ SqL K H a (zs.map Prod.fst) ∧ (∀ z ∈ zs, Dp K H z.1 z.2) ∧ PySem.W.AllAlike (zs.map Prod.snd) ∧ PySem.W.Sortable (zs.map Prod.snd) ∧
  (∀ z ∈ zs, z.2.depth ≤ 40) ∧ ∀ p : Addr, H p = none → Q (.ref p) (upd H p (.lst ((zs.mergeSort leZ).map Prod.fst)))
theorem each_of : ∀ {zs : List (V × PyData)} {us : List Value}, Vals (zs.map Prod.fst) us → PySem.W.EachIs (fun u z => RelV z.1 u ∧ z ∈ zs) us zs
  | [], us, r => by
    cases r
    exact .nil
  | z :: zs, us, r => by
    cases r with
    | cons h t => exact .cons ⟨h, List.mem_cons_self⟩ (PySem.W.EachIs.mono (fun _ _ m => ⟨m.1, List.mem_cons_of_mem _ m.2⟩) (each_of t))
theorem vals_of : ∀ {us : List Value} {zs : List (V × PyData)}, PySem.W.EachIs (fun (u : Value) (z : V × PyData) => RelV z.1 u) us zs → Vals (zs.map Prod.fst) us
  | _, _, .nil => .nil
  | _, _, .cons h t => .cons h (vals_of t)
section
variable {X : Cx}
theorem cr_sortedD (hu : X.A.units + 64 < cLine) : CallR X (.builtin "sorted") (rSortD X.K) := by
  intro pins s σ H vs us Q I r h
  obtain ⟨a, zs, rfl, hs, hz, al, so, dp, q⟩ := h
  obtain ⟨its, rv, hl, hsz⟩ := I.list hs
  obtain ⟨u, rfl, ru⟩ := vals1 r
  obtain rfl : u = Value.ref a := ru
  have hL : its.length ≤ sizeLine := by rw [← rv.length]; exact hsz
  have each := each_of rv
  generalize hh : PySem.W.sortingHeap (PySem.W.copyHeap s.heap its) (s.heap.objs.size + 1) its = hp
  have keep : ∀ b o, s.heap.get? b = some o → hp.get? b = some o := fun b o e => by
    rw [← hh]
    exact PySem.W.sorting_copy_old e
  have rd : ∀ (u : Value) (z : V × PyData), RelV z.1 u ∧ z ∈ zs → ∃ as, Reads hp u z.2 as := fun u z m => by
    obtain ⟨as, r1⟩ := Dp.reads I z.2 z.1 u (hz z m.2) m.1
    exact ⟨as, Reads.keeps keep r1⟩
  have e2 : PySem.W.EachIs (fun v d => ∃ as, Reads hp v d as) its (zs.map Prod.snd) := by
    have : ∀ {us : List Value} {zs : List (V × PyData)}, PySem.W.EachIs (fun u z => ∃ as, Reads hp u (Prod.snd z) as) us zs → PySem.W.EachIs (fun v d => ∃ as, Reads hp v d as) us (zs.map Prod.snd) := by
      intro us zs h
      induction h with
      | nil => exact .nil
      | cons a _ ih => exact .cons a ih
    exact this (PySem.W.EachIs.mono rd each)
  have S : PySem.W.SortsAt X.prog X.w X.A.in1.in1 { s with heap := hp } (PySem.W.dataKind hp (zs.map Prod.snd)) its := by
    refine PySem.W.SortsAt.data (s := { s with heap := hp }) e2 al so fun d m => ?_
    obtain ⟨z, mz, rfl⟩ := List.mem_map.mp m
    have := dp z mz
    show X.A.units + 1 + 1 + z.2.depth < cLine
    omega
  have out := PySem.W.sortVals_each (κ := PySem.W.dataKind hp (zs.map Prod.snd)) (rev := false) (R := fun (u : Value) (z : V × PyData) => RelV z.1 u) (ks := its) (vs := its) (bs := zs) (fun z => PySem.W.keyToks z.2)
    (PySem.W.EachIs.mono (fun _ _ m => m.1) each) (PySem.W.EachIs.mono (fun u z m => by
      obtain ⟨as, r1⟩ := rd u z m
      exact PySem.W.dataKind_some al (List.mem_map.mpr ⟨z, m.2, rfl⟩) r1) each)
  have ov := vals_of out
  rw [← hh] at S
  refine PySem.W.sorted_vals hl.isList S hL ?_
  obtain ⟨ep, he'⟩ := PyProof.Rows.sortedAll_at s.heap its (PySem.W.sortVals (PySem.W.dataKind (PySem.W.sortingHeap (PySem.W.copyHeap s.heap its) (s.heap.objs.size + 1) its) (zs.map Prod.snd)) false its its).toArray
  rw [hh] at he' ⊢
  have hlen : ((zs.mergeSort leZ).map Prod.fst).length ≤ sizeLine := by
    rw [List.length_map, List.length_mergeSort]
    rw [List.length_map] at hsz
    exact hsz
  exact ⟨.ref _, upd H (s.heap.objs.size + 1) (.lst ((zs.mergeSort leZ).map Prod.fst)), I.laid (t' := s.toks) (fun _ _ => PyProof.Rows.sortedAll_old) (Nat.le_succ _) ⟨hlen, _, ep, ov, he'⟩, rfl, q _ (I.hok.fresh (Nat.le_succ _))⟩
end
end SrD
set_option Elab.async false
set_option linter.all false
set_option maxRecDepth 100000
set_option maxHeartbeats 4000000
set_option pp.maxSteps 1200
namespace Kn
open PySem L2 TL
/-! ### formulas as trees and as data -/
def Fo.hd : Fo Str → Option Str
  | .nam x => some x
  | .som x _ => some x
  | .all x _ => some x
  | .put x _ _ => some x
  | _ => none
def Fo.kd : Fo Str → List (Fo Str)
  | .yes => [] | .no => [] | .nam _ => []
  | .neg f => [f]
  | .con f g => [f, g] | .dis f g => [f, g] | .xor f g => [f, g]
  | .ite f g h => [f, g, h]
  | .som _ f => [f] | .all _ f => [f]
  | .put _ f g => [f, g]
def Fo.wd : Fo Str → Str
  | .yes => "yes" | .no => "no" | .nam _ => "name"
  | .neg _ => "not"
  | .con _ _ => "and" | .dis _ _ => "or" | .xor _ _ => "xor"
  | .ite _ _ _ => "if"
  | .som _ _ => "some" | .all _ _ => "all"
  | .put _ _ _ => "put"
def Fo.d : Fo Str → PyData
  | .yes => .tuple [.str "yes"]
  | .no => .tuple [.str "no"]
  | .nam x => .tuple [.str "name", .str x]
  | .neg f => .tuple [.str "not", f.d]
  | .con f g => .tuple [.str "and", f.d, g.d]
  | .dis f g => .tuple [.str "or", f.d, g.d]
  | .xor f g => .tuple [.str "xor", f.d, g.d]
  | .ite f g h => .tuple [.str "if", f.d, g.d, h.d]
  | .som x f => .tuple [.str "some", .str x, f.d]
  | .all x f => .tuple [.str "all", .str x, f.d]
  | .put x f g => .tuple [.str "put", .str x, f.d, g.d]
def Fo.ok (f : Fo Str) : Prop := ∀ x ∈ f.nms, isNameS x = true
theorem sh_yes : shapeT "yes" = some (0, 0) := by decide +kernel
theorem sh_no : shapeT "no" = some (0, 0) := by decide +kernel
theorem sh_name : shapeT "name" = some (1, 0) := by decide +kernel
theorem sh_not : shapeT "not" = some (0, 1) := by decide +kernel
theorem sh_and : shapeT "and" = some (0, 2) := by decide +kernel
theorem sh_or : shapeT "or" = some (0, 2) := by decide +kernel
theorem sh_xor : shapeT "xor" = some (0, 2) := by decide +kernel
theorem sh_if : shapeT "if" = some (0, 3) := by decide +kernel
theorem sh_some : shapeT "some" = some (1, 1) := by decide +kernel
theorem sh_all : shapeT "all" = some (1, 1) := by decide +kernel
theorem sh_put : shapeT "put" = some (1, 2) := by decide +kernel
theorem shape_cases : ∀ p ∈ shapeTab, (p.2.1 = 0 → (p.2.2 = 0 ∧ (p.1 = "yes" ∨ p.1 = "no")) ∨ (p.2.2 = 1 ∧ p.1 = "not") ∨ (p.2.2 = 2 ∧ (p.1 = "and" ∨ p.1 = "or" ∨ p.1 = "xor")) ∨ (p.2.2 = 3 ∧ p.1 = "if")) ∧
    (p.2.1 = 1 → (p.2.2 = 0 ∧ p.1 = "name") ∨ (p.2.2 = 1 ∧ (p.1 = "some" ∨ p.1 = "all")) ∨ (p.2.2 = 2 ∧ p.1 = "put")) := by decide +kernel
theorem form0 {w : Str} {b : Nat} {ps : List PyData} (h : shapeT w = some (0, b)) (hl : ps.length = b) : formD (.tuple (.str w :: ps)) = some (none, ps) := by
  unfold formD
  simp only [h, hl, if_true]
theorem form1 {w x : Str} {b : Nat} {ps : List PyData} (h : shapeT w = some (1, b)) (hl : ps.length = b) (hx : isNameS x = true) : formD (.tuple (.str w :: .str x :: ps)) = some (some x, ps) := by
  unfold formD
  simp only [h, hl, hx, and_self, if_true]
theorem fo_form : ∀ {f : Fo Str}, f.ok → formD f.d = some (f.hd, f.kd.map Fo.d)
  | .yes, _ => form0 sh_yes rfl
  | .no, _ => form0 sh_no rfl
  | .nam x, h => form1 sh_name rfl (h x (List.mem_singleton.mpr rfl))
  | .neg f, _ => form0 sh_not rfl
  | .con f g, _ => form0 sh_and rfl
  | .dis f g, _ => form0 sh_or rfl
  | .xor f g, _ => form0 sh_xor rfl
  | .ite f g e, _ => form0 sh_if rfl
  | .som x f, h => form1 sh_some rfl (h x List.mem_cons_self)
  | .all x f, h => form1 sh_all rfl (h x List.mem_cons_self)
  | .put x f g, h => form1 sh_put rfl (h x List.mem_cons_self)
theorem fo_nms (f : Fo Str) : f.nms = f.hd.toList ++ f.kd.flatMap Fo.nms := by
  cases f <;> simp [Fo.nms, Fo.hd, Fo.kd]
theorem fo_kid {f k : Fo Str} (h : k ∈ f.kd) : k.hgt < f.hgt ∧ ∀ x ∈ k.nms, x ∈ f.nms := by
  refine ⟨?_, fun x hx => ?_⟩
  · cases f <;> simp only [Fo.kd, List.mem_cons, List.not_mem_nil, or_false] at h <;> simp only [Fo.hgt]
    · rw [h]; omega
    · rcases h with h | h <;> rw [h] <;> omega
    · rcases h with h | h <;> rw [h] <;> omega
    · rcases h with h | h <;> rw [h] <;> omega
    · rcases h with h | h | h <;> rw [h] <;> omega
    · rw [h]; omega
    · rw [h]; omega
    · rcases h with h | h <;> rw [h] <;> omega
  · rw [fo_nms f]
    exact List.mem_append_right _ (List.mem_flatMap.mpr ⟨k, h, hx⟩)
theorem fo_ok_kid {f k : Fo Str} (h : f.ok) (m : k ∈ f.kd) : k.ok := fun x hx => h x ((fo_kid m).2 x hx)
theorem fo_good : ∀ (n : Nat) {f : Fo Str}, f.ok → f.hgt < n → goodH n f.d = true ∧ pre n f.d = f.nms
  | 0, f, _, h => absurd h (Nat.not_lt_zero _)
  | n + 1, f, h, hh => by
    unfold goodH pre
    rw [fo_form h]
    dsimp only
    have ih : ∀ k ∈ f.kd, goodH n k.d = true ∧ pre n k.d = k.nms := fun k m => fo_good n (fo_ok_kid h m) (by have := (fo_kid m).1; omega)
    refine ⟨List.all_eq_true.mpr fun d m => ?_, ?_⟩
    · obtain ⟨k, mk, rfl⟩ := List.mem_map.mp m
      exact (ih k mk).1
    · rw [fo_nms f, List.flatMap_map]
      congr 1
      have : ∀ ks : List (Fo Str), (∀ k ∈ ks, pre n k.d = k.nms) → ks.flatMap (fun a => pre n a.d) = ks.flatMap Fo.nms := by
        intro ks
        induction ks with
        | nil => exact fun _ => rfl
        | cons k r ih2 =>
          intro hk
          rw [List.flatMap_cons, List.flatMap_cons, hk k List.mem_cons_self, ih2 fun j m => hk j (List.mem_cons_of_mem _ m)]
      exact this _ fun k m => (ih k m).2
/-- a good thing is a tree's -/
theorem good_fo : ∀ (n : Nat) {d : PyData}, goodH n d = true → ∃ f : Fo Str, f.d = d ∧ f.ok ∧ f.hgt < n
  | 0, _, h => nomatch h
  | n + 1, d, h => by
    obtain ⟨k, o, ps, e, hf, hg, _⟩ := good_some h
    cases e
    obtain ⟨w, b, hl, hc⟩ := formD_inv hf
    have kid : ∀ p ∈ ps, ∃ f : Fo Str, f.d = p ∧ f.ok ∧ f.hgt < n := fun p m => good_fo n (hg p m)
    have no : ∀ {x : Str}, ¬ x ∈ ([] : List Str) := fun h => nomatch h
    rcases hc with ⟨hs, rfl, rfl⟩ | ⟨x, hs, rfl, rfl, hx⟩
    · rcases (shape_cases _ (shapeT_mem hs)).1 rfl with ⟨hb, hw⟩ | ⟨hb, hw⟩ | ⟨hb, hw⟩ | ⟨hb, hw⟩
      · have hb : b = 0 := hb
        obtain rfl : ps = [] := List.eq_nil_of_length_eq_zero (hl.trans hb)
        rcases hw with rfl | rfl
        · exact ⟨.yes, rfl, fun _ h => (no h).elim, Nat.succ_pos _⟩
        · exact ⟨.no, rfl, fun _ h => (no h).elim, Nat.succ_pos _⟩
      · have hb : b = 1 := hb
        match ps, hl.trans hb, kid with
        | [p], _, kid =>
          obtain ⟨f, rfl, o1, h1⟩ := kid p List.mem_cons_self
          have hw : w = "not" := hw
          subst hw
          exact ⟨.neg f, rfl, o1, by simp only [Fo.hgt]; omega⟩
      · have hb : b = 2 := hb
        match ps, hl.trans hb, kid with
        | [p, q], _, kid =>
          obtain ⟨f, rfl, o1, h1⟩ := kid p List.mem_cons_self
          obtain ⟨g, rfl, o2, h2⟩ := kid q (List.mem_cons_of_mem _ List.mem_cons_self)
          have oo : ∀ x ∈ f.nms ++ g.nms, isNameS x = true := fun x hx => (List.mem_append.mp hx).elim (o1 x) (o2 x)
          rcases hw with hw | hw | hw
          · have hw : w = "and" := hw
            subst hw
            exact ⟨.con f g, rfl, oo, by simp only [Fo.hgt]; omega⟩
          · have hw : w = "or" := hw
            subst hw
            exact ⟨.dis f g, rfl, oo, by simp only [Fo.hgt]; omega⟩
          · have hw : w = "xor" := hw
            subst hw
            exact ⟨.xor f g, rfl, oo, by simp only [Fo.hgt]; omega⟩
      · have hb : b = 3 := hb
        match ps, hl.trans hb, kid with
        | [p, q, r], _, kid =>
          obtain ⟨f, rfl, o1, h1⟩ := kid p List.mem_cons_self
          obtain ⟨g, rfl, o2, h2⟩ := kid q (List.mem_cons_of_mem _ List.mem_cons_self)
          obtain ⟨e, rfl, o3, h3⟩ := kid r (List.mem_cons_of_mem _ (List.mem_cons_of_mem _ List.mem_cons_self))
          have hw : w = "if" := hw
          subst hw
          exact ⟨.ite f g e, rfl, fun x hx => (List.mem_append.mp hx).elim (o1 x) fun hx => (List.mem_append.mp hx).elim (o2 x) (o3 x), by simp only [Fo.hgt]; omega⟩
    · rcases (shape_cases _ (shapeT_mem hs)).2 rfl with ⟨hb, hw⟩ | ⟨hb, hw⟩ | ⟨hb, hw⟩
      · have hb : b = 0 := hb
        obtain rfl : ps = [] := List.eq_nil_of_length_eq_zero (hl.trans hb)
        have hw : w = "name" := hw
        subst hw
        exact ⟨.nam x, rfl, fun y hy => by rw [List.mem_singleton.mp hy]; exact hx, Nat.succ_pos _⟩
      · have hb : b = 1 := hb
        match ps, hl.trans hb, kid with
        | [p], _, kid =>
          obtain ⟨f, rfl, o1, h1⟩ := kid p List.mem_cons_self
          have oo : ∀ y ∈ x :: f.nms, isNameS y = true := fun y hy => by
            rcases List.mem_cons.mp hy with e | hy
            · rw [e]; exact hx
            · exact o1 y hy
          rcases hw with hw | hw
          · have hw : w = "some" := hw
            subst hw
            exact ⟨.som x f, rfl, oo, by simp only [Fo.hgt]; omega⟩
          · have hw : w = "all" := hw
            subst hw
            exact ⟨.all x f, rfl, oo, by simp only [Fo.hgt]; omega⟩
      · have hb : b = 2 := hb
        match ps, hl.trans hb, kid with
        | [p, q], _, kid =>
          obtain ⟨f, rfl, o1, h1⟩ := kid p List.mem_cons_self
          obtain ⟨g, rfl, o2, h2⟩ := kid q (List.mem_cons_of_mem _ List.mem_cons_self)
          have hw : w = "put" := hw
          subst hw
          refine ⟨.put x f g, rfl, fun y hy => ?_, by simp only [Fo.hgt]; omega⟩
          rcases List.mem_cons.mp hy with e | hy
          · rw [e]; exact hx
          · exact (List.mem_append.mp hy).elim (o1 y) (o2 y)
/-! #### which names are told -/
theorem mem_addS {ns : List Str} {x y : Str} : y ∈ addS ns x ↔ y ∈ ns ∨ y = x := by
  show (y ∈ if x ∈ ns then ns else ns ++ [x]) ↔ _
  by_cases h : x ∈ ns
  · rw [if_pos h]
    exact ⟨.inl, fun z => z.elim id fun e => e ▸ h⟩
  · rw [if_neg h, List.mem_append, List.mem_singleton]
theorem mem_fold : ∀ {xs ns : List Str} {y : Str}, y ∈ xs.foldl addS ns ↔ y ∈ ns ∨ y ∈ xs
  | [], ns, y => by simp
  | x :: xs, ns, y => by
    rw [List.foldl_cons, mem_fold, mem_addS, List.mem_cons]
    constructor
    · rintro ((h | h) | h)
      · exact .inl h
      · exact .inr (.inl h)
      · exact .inr (.inr h)
    · rintro (h | h | h)
      · exact .inl (.inl h)
      · exact .inl (.inr h)
      · exact .inr h
theorem nodup_addS {ns : List Str} {x : Str} (h : ns.Nodup) : (addS ns x).Nodup := by
  show (if x ∈ ns then ns else ns ++ [x]).Nodup
  by_cases m : x ∈ ns
  · rw [if_pos m]
    exact h
  · rw [if_neg m]
    exact List.nodup_append.mpr ⟨h, List.pairwise_singleton _ _, fun a ha b hb => by
      rw [List.mem_singleton.mp hb]
      intro e
      exact m (e ▸ ha)⟩
theorem nodup_fold : ∀ {xs ns : List Str}, ns.Nodup → (xs.foldl addS ns).Nodup
  | [], _, h => h
  | x :: xs, ns, h => nodup_fold (xs := xs) (nodup_addS h)
theorem fo_names {f : Fo Str} (h : f.ok) (hp : placeD f.d = none) (hh : f.hgt < 10) : namesD f.d = f.nms.foldl addS [] := by
  rw [← names_same hp, namedR_pre, (fo_good 10 h hh).2]
theorem fo_names_mem {f : Fo Str} (h : f.ok) (hp : placeD f.d = none) (hh : f.hgt < 10) {x : Str} : x ∈ namesD f.d ↔ x ∈ f.nms := by
  rw [fo_names h hp hh, mem_fold]
  simp
theorem fo_names_nodup {f : Fo Str} (h : f.ok) (hp : placeD f.d = none) (hh : f.hgt < 10) : (namesD f.d).Nodup := by
  rw [fo_names h hp hh]
  exact nodup_fold List.Pairwise.nil
end Kn
set_option Elab.async false
set_option linter.all false
set_option maxRecDepth 100000
set_option maxHeartbeats 4000000
set_option pp.maxSteps 1200
namespace Kn
open PySem L2 TL
/-! ### formulas as words, and the reading of words: the mathematics -/
/-- what is begun and lacks its last part -/
inductive Fr where
  | par | neg
  | con (f : Fo Str) | dis (f : Fo Str) | xor (f : Fo Str)
  | if1 (f : Fo Str) | if2 (f g : Fo Str)
  | q0 (all : Bool)
  | som (x : Str) | all (x : Str)
  | put1 (x : Str) | put2 (x : Str) (f : Fo Str)
def Fr.wd : Fr → Str
  | .par => "(" | .neg => "not"
  | .con _ => "and" | .dis _ => "or" | .xor _ => "xor"
  | .if1 _ => "if" | .if2 _ _ => "if"
  | .q0 a => if a then "all" else "some"
  | .som _ => "some" | .all _ => "all"
  | .put1 _ => "put" | .put2 _ _ => "put"
/-- it lacks one part alone, and is none of those that end at once -/
def Fr.cl : Fr → Bool
  | .con _ | .dis _ | .xor _ | .if2 _ _ | .som _ | .all _ | .put2 _ _ => true
  | _ => false
def Fr.close : Fr → Fo Str → Fo Str
  | .neg, g => .neg g
  | .con f, g => .con f g | .dis f, g => .dis f g | .xor f, g => .xor f g
  | .if2 a b, g => .ite a b g
  | .som x, g => .som x g | .all x, g => .all x g
  | .put2 x f, g => .put x f g
  | _, g => g
def Fr.lev : Fr → Nat
  | .con _ => 3 | .xor _ => 2 | .dis _ => 1
  | _ => 0
def Fr.isOp : Fr → Bool
  | .con _ | .xor _ | .dis _ => true
  | _ => false
inductive Due where | formula | operand | name | sign | put
  deriving DecidableEq
structure Rd where
  bg : List Fr
  due : Due
  last : Fo Str
  op : Nat
def endThose (ws : List Str) : List Fr → Fo Str → List Fr × Fo Str
  | fr :: r, g => if fr.wd ∈ ws then endThose ws r (fr.close g) else (fr :: r, g)
  | [], g => ([], g)
def endAll : List Fr → Fo Str → List Fr × Fo Str
  | fr :: r, g => if fr.cl = true then endAll r (fr.close g) else (fr :: r, g)
  | [], g => ([], g)
def closes : List Fr → Fo Str → Fo Str
  | fr :: r, g => closes r (fr.close g)
  | [], g => g
theorem closes_app : ∀ (P R : List Fr) (g : Fo Str), closes (P ++ R) g = closes R (closes P g)
  | [], _, _ => rfl
  | fr :: P, R, g => closes_app P R (fr.close g)
def openW : List Str := ["(", "!", "?", "some", "all", ":="]
def keptW : List Str := ["some", "all", "in"]
def textN (x : Str) : Bool := isNameS x && !decide (x ∈ keptW)
def Rd.begin (s : Rd) (fr : Fr) (d : Due) : Rd := { s with bg := fr :: s.bg, due := d }
def Rd.fin (s : Rd) (f : Fo Str) (d : Due) : Rd := { s with bg := (endThose ["not"] s.bg f).1, due := d, last := (endThose ["not"] s.bg f).2 }
def Rd.first (s : Rd) (w : Str) : Option Rd :=
  if w = "(" then some (s.begin .par .formula)
  else if w = "!" then some (s.begin .neg .operand)
  else if (w = "some" ∨ w = "all") ∧ s.due = .formula then some (s.begin (.q0 (decide (w = "all"))) .name)
  else if w = "1" then some (s.fin .yes .sign)
  else if w = "0" then some (s.fin .no .sign)
  else if textN w = true then some (s.fin (.nam w) (if s.due = .formula then .put else .sign))
  else none
def endsBy (w : Str) : List Str := if w = "&" then ["and"] else if w = "^" then ["and", "xor"] else ["and", "xor", "or"]
def joinF (w : Str) (f : Fo Str) : Fr := if w = "&" then .con f else if w = "^" then .xor f else if w = "|" then .dis f else .if1 f
def Rd.join (s : Rd) (w : Str) : Rd :=
  { s with bg := joinF w (endThose (endsBy w) s.bg s.last).2 :: (endThose (endsBy w) s.bg s.last).1, due := if w = "?" then .formula else .operand, last := (endThose (endsBy w) s.bg s.last).2 }
def Rd.mate (s : Rd) (w : Str) : Option Rd :=
  match endAll s.bg s.last with
  | (.par :: r, g) => if w = ")" then some ({ s with bg := r, last := g }.fin g .sign) else none
  | (.if1 f :: r, g) => if w = ":" then some { s with bg := .if2 f g :: r, due := .formula, last := g } else none
  | (.put1 x :: r, g) => if w = "in" then some { s with bg := .put2 x g :: r, due := .formula, last := g } else none
  | _ => none
def Rd.name (s : Rd) (w : Str) : Option Rd :=
  if textN w = true then
    match s.bg with
    | .q0 a :: r => some { s with bg := (if a then .all w else .som w) :: r, due := .formula }
    | _ => none
  else none
def Rd.putw (s : Rd) (w : Str) : Option Rd :=
  if w = ":=" ∧ s.due = .put then
    match s.last with
    | .nam x => some (s.begin (.put1 x) .formula)
    | _ => none
  else none
def Rd.step (s : Rd) (w : Str) : Option Rd :=
  if s.due = .name then s.name w
  else if s.due = .formula ∨ s.due = .operand then s.first w
  else if w = "&" ∨ w = "^" ∨ w = "|" ∨ w = "?" then some (s.join w)
  else if w = ")" ∨ w = ":" ∨ w = "in" then s.mate w
  else s.putw w
def Rd.take (s : Rd) (w : Str) : Option Rd :=
  if w ∈ openW then (if s.op + 1 > 120 then none else { s with op := s.op + 1 }.step w) else s.step w
def reads : Rd → List Str → Option Rd
  | s, [] => some s
  | s, w :: ws => match s.take w with
    | some s2 => reads s2 ws
    | none => none
def ended (s : Rd) : Option (Fo Str) :=
  if s.due = .sign ∨ s.due = .put then (match endAll s.bg s.last with
    | ([], g) => some g
    | _ => none) else none
def begun0 : Rd := ⟨[], .formula, .yes, 0⟩
def opens (ws : List Str) : Nat := ws.countP fun w => decide (w ∈ openW)
def Fo.lev : Fo Str → Nat
  | .ite _ _ _ | .som _ _ | .all _ _ | .put _ _ _ => 0
  | .dis _ _ => 1 | .xor _ _ => 2 | .con _ _ => 3
  | _ => 4
mutual
inductive Bare : Fo Str → List Str → Prop
  | yes : Bare .yes ["1"]
  | no : Bare .no ["0"]
  | nam (x : Str) : Bare (.nam x) [x]
  | neg {f : Fo Str} {a : List Str} : Tld f 4 a → Bare (.neg f) ("!" :: a)
  | con {f g : Fo Str} {a b : List Str} : Tld f 3 a → Tld g 4 b → Bare (.con f g) (a ++ ("&" : Str) :: b)
  | xor {f g : Fo Str} {a b : List Str} : Tld f 2 a → Tld g 3 b → Bare (.xor f g) (a ++ ("^" : Str) :: b)
  | dis {f g : Fo Str} {a b : List Str} : Tld f 1 a → Tld g 2 b → Bare (.dis f g) (a ++ ("|" : Str) :: b)
  | ite {f g h : Fo Str} {a b c : List Str} : Tld f 1 a → Tld g 0 b → Tld h 0 c → Bare (.ite f g h) (a ++ ("?" : Str) :: (b ++ (":" : Str) :: c))
  | put {f g : Fo Str} {x : Str} {a b : List Str} : Tld f 0 a → Tld g 0 b → Bare (.put x f g) (x :: (":=" : Str) :: (a ++ ("in" : Str) :: b))
  | som {f : Fo Str} {x : Str} {a : List Str} : Tld f 0 a → Bare (.som x f) ("some" :: x :: a)
  | all {f : Fo Str} {x : Str} {a : List Str} : Tld f 0 a → Bare (.all x f) ("all" :: x :: a)
inductive Tld : Fo Str → Nat → List Str → Prop
  | bare {f : Fo Str} {n : Nat} {a : List Str} : Bare f a → n ≤ f.lev → Tld f n a
  | par {f : Fo Str} {n : Nat} {a : List Str} : Tld f 0 a → Tld f n ("(" :: (a ++ [(")" : Str)]))
end
theorem reads_app : ∀ (a b : List Str) (s : Rd), reads s (a ++ b) = (reads s a).bind fun s2 => reads s2 b
  | [], _, _ => rfl
  | w :: a, b, s => by
    show (match s.take w with
      | some s2 => reads s2 (a ++ b)
      | none => none) = _
    cases h : s.take w with
    | none => simp [reads, h]
    | some s2 => simp [reads, h, reads_app a b s2]
theorem opens_app (a b : List Str) : opens (a ++ b) = opens a + opens b := List.countP_append
end Kn
set_option Elab.async false
set_option linter.all false
set_option maxRecDepth 100000
set_option maxHeartbeats 4000000
set_option pp.maxSteps 1200
namespace Kn
open PySem L2 TL
def negk : Nat → Fo Str → Fo Str
  | 0, f => f
  | k + 1, f => negk k (.neg f)
def topOk (S : List Fr) (lv : Nat) : Prop := ∀ fr r, S = fr :: r → fr ≠ .neg ∧ (fr.isOp = true → fr.lev < lv)
theorem topOk.mono {S : List Fr} {a b : Nat} (h : topOk S a) (l : a ≤ b) : topOk S b := fun fr r e => ⟨(h fr r e).1, fun o => Nat.lt_of_lt_of_le ((h fr r e).2 o) l⟩
theorem not_wd {fr : Fr} (h : fr ≠ .neg) : ¬ fr.wd ∈ ([("not" : Str)] : List Str) := by
  cases fr with
  | neg => exact absurd rfl h
  | q0 a => cases a <;> (simp only [Fr.wd]; decide +kernel)
  | _ => simp only [Fr.wd]; decide +kernel
theorem end_negs {S : List Fr} {lv : Nat} (h : topOk S lv) : ∀ (k : Nat) (f : Fo Str), endThose ["not"] (List.replicate k .neg ++ S) f = (S, negk k f)
  | 0, f => by
    cases S with
    | nil => rfl
    | cons fr r =>
      show (if fr.wd ∈ _ then _ else _) = _
      rw [if_neg (not_wd (h fr r rfl).1)]
      rfl
  | k + 1, f => by
    show (if Fr.neg.wd ∈ _ then _ else _) = _
    rw [if_pos (by simp only [Fr.wd]; decide +kernel)]
    exact end_negs h k (.neg f)
theorem end_those {ws : List Str} {S : List Fr} (hS : ∀ fr r, S = fr :: r → ¬ fr.wd ∈ ws) : ∀ (P : List Fr) (g : Fo Str), (∀ fr ∈ P, fr.wd ∈ ws) → endThose ws (P ++ S) g = (S, closes P g)
  | [], g, _ => by
    cases S with
    | nil => rfl
    | cons fr r =>
      show (if fr.wd ∈ _ then _ else _) = _
      rw [if_neg (hS fr r rfl)]
      rfl
  | fr :: P, g, h => by
    show (if fr.wd ∈ _ then _ else _) = _
    rw [if_pos (h fr List.mem_cons_self)]
    exact end_those hS P _ fun x m => h x (List.mem_cons_of_mem _ m)
theorem end_all {S : List Fr} (hS : ∀ fr r, S = fr :: r → fr.cl = false) : ∀ (P : List Fr) (g : Fo Str), (∀ fr ∈ P, fr.cl = true) → endAll (P ++ S) g = (S, closes P g)
  | [], g, _ => by
    cases S with
    | nil => rfl
    | cons fr r =>
      show (if fr.cl = true then _ else _) = _
      rw [if_neg (by rw [hS fr r rfl]; decide)]
      rfl
  | fr :: P, g, h => by
    show (if fr.cl = true then _ else _) = _
    rw [if_pos (h fr List.mem_cons_self)]
    exact end_all hS P _ fun x m => h x (List.mem_cons_of_mem _ m)
theorem ops_wd {fr : Fr} {lv : Nat} {w : Str} (h1 : lv ≤ fr.lev) (h2 : fr.isOp = true) (hw : (w = "&" ∧ lv = 3) ∨ (w = "^" ∧ lv = 2) ∨ ((w = "|" ∨ w = "?") ∧ lv = 1)) : fr.wd ∈ endsBy w := by
  have d1 : ("and" : Str) ∈ endsBy "&" := by decide +kernel
  have d2 : ("and" : Str) ∈ endsBy "^" := by decide +kernel
  have d3 : ("xor" : Str) ∈ endsBy "^" := by decide +kernel
  have d4 : ("and" : Str) ∈ endsBy "|" ∧ ("xor" : Str) ∈ endsBy "|" ∧ ("or" : Str) ∈ endsBy "|" := by decide +kernel
  have d5 : ("and" : Str) ∈ endsBy "?" ∧ ("xor" : Str) ∈ endsBy "?" ∧ ("or" : Str) ∈ endsBy "?" := by decide +kernel
  cases fr with
  | con f =>
    rcases hw with ⟨rfl, rfl⟩ | ⟨rfl, rfl⟩ | ⟨rfl | rfl, rfl⟩
    · exact d1
    · exact d2
    · exact d4.1
    · exact d5.1
  | dis f =>
    simp only [Fr.lev] at h1
    rcases hw with ⟨rfl, rfl⟩ | ⟨rfl, rfl⟩ | ⟨rfl | rfl, rfl⟩
    · omega
    · omega
    · exact d4.2.2
    · exact d5.2.2
  | xor f =>
    simp only [Fr.lev] at h1
    rcases hw with ⟨rfl, rfl⟩ | ⟨rfl, rfl⟩ | ⟨rfl | rfl, rfl⟩
    · omega
    · exact d3
    · exact d4.2.1
    · exact d5.2.1
  | _ => cases h2
theorem top_wd {S : List Fr} {lv : Nat} {w : Str} (h : topOk S lv) (hw : (w = "&" ∧ lv ≤ 3) ∨ (w = "^" ∧ lv ≤ 2) ∨ ((w = "|" ∨ w = "?") ∧ lv ≤ 1)) : ∀ fr r, S = fr :: r → ¬ fr.wd ∈ endsBy w := fun fr r e => by
  obtain ⟨n1, n2⟩ := h fr r e
  have d : ∀ z ∈ (["(", "not", "if", "some", "all", "put"] : List String).map Str.ofString, ¬ z ∈ endsBy "&" ∧ ¬ z ∈ endsBy "^" ∧ ¬ z ∈ endsBy "|" ∧ ¬ z ∈ endsBy "?" := by decide +kernel
  have d1 : ¬ ("or" : Str) ∈ endsBy "&" ∧ ¬ ("xor" : Str) ∈ endsBy "&" ∧ ¬ ("or" : Str) ∈ endsBy "^" := by decide +kernel
  have oth : fr.wd ∈ (["(", "not", "if", "some", "all", "put"] : List String).map Str.ofString → ¬ fr.wd ∈ endsBy w := fun m => by
    obtain ⟨a1, a2, a3, a4⟩ := d _ m
    rcases hw with ⟨rfl, _⟩ | ⟨rfl, _⟩ | ⟨rfl | rfl, _⟩ <;> assumption
  cases fr with
  | con f =>
    have := n2 rfl
    simp only [Fr.lev] at this
    rcases hw with ⟨rfl, _⟩ | ⟨rfl, _⟩ | ⟨_, _⟩ <;> omega
  | xor f =>
    have := n2 rfl
    simp only [Fr.lev] at this
    rcases hw with ⟨rfl, _⟩ | ⟨rfl, _⟩ | ⟨_, _⟩
    · exact d1.2.1
    · omega
    · omega
  | dis f =>
    have := n2 rfl
    simp only [Fr.lev] at this
    rcases hw with ⟨rfl, _⟩ | ⟨rfl, _⟩ | ⟨_, _⟩
    · exact d1.1
    · exact d1.2.2
    · omega
  | q0 a => cases a <;> exact oth (by simp only [Fr.wd]; decide +kernel)
  | _ => exact oth (by simp only [Fr.wd]; decide +kernel)
def wdsNo : List Str := (["(", "!", "?", ":=", ")", ":", "1", "0", "&", "^", "|", "some", "all", "in"] : List String).map Str.ofString
theorem text_no {x : Str} (h : textN x = true) : x ∉ wdsNo := by
  have d : ∀ z ∈ wdsNo, textN z = false := by decide +kernel
  intro m
  rw [d x m] at h
  cases h
theorem ne_no {x : Str} (h : x ∉ wdsNo) (z : String) (hz : Str.ofString z ∈ wdsNo) : ¬ x = Str.ofString z := fun e => h (e ▸ hz)
end Kn
set_option Elab.async false
set_option linter.all false
set_option maxRecDepth 100000
set_option maxHeartbeats 4000000
set_option pp.maxSteps 1200
namespace Kn
open PySem L2 TL
section
variable {s : Rd} {w x : Str}
theorem first_par : s.first "(" = some (s.begin .par .formula) := if_pos rfl
theorem first_not : s.first "!" = some (s.begin .neg .operand) := by
  unfold Rd.first
  rw [if_neg (by decide +kernel), if_pos rfl]
theorem first_some (h : s.due = .formula) : s.first "some" = some (s.begin (.q0 false) .name) := by
  have e : decide (("some" : Str) = "all") = false := by decide +kernel
  unfold Rd.first
  rw [if_neg (by decide +kernel), if_neg (by decide +kernel), if_pos ⟨.inl rfl, h⟩, e]
theorem first_all (h : s.due = .formula) : s.first "all" = some (s.begin (.q0 true) .name) := by
  have e : decide (("all" : Str) = "all") = true := by decide +kernel
  unfold Rd.first
  rw [if_neg (by decide +kernel), if_neg (by decide +kernel), if_pos ⟨.inr rfl, h⟩, e]
theorem first_yes : s.first "1" = some (s.fin .yes .sign) := by
  unfold Rd.first
  rw [if_neg (by decide +kernel), if_neg (by decide +kernel), if_neg (fun z => absurd z.1 (by decide +kernel)), if_pos rfl]
theorem first_no : s.first "0" = some (s.fin .no .sign) := by
  unfold Rd.first
  rw [if_neg (by decide +kernel), if_neg (by decide +kernel), if_neg (fun z => absurd z.1 (by decide +kernel)), if_neg (by decide +kernel), if_pos rfl]
theorem first_nam (h : textN x = true) : s.first x = some (s.fin (.nam x) (if s.due = .formula then .put else .sign)) := by
  have n := text_no h
  unfold Rd.first
  rw [if_neg (ne_no n "(" (by decide +kernel)), if_neg (ne_no n "!" (by decide +kernel)), if_neg (fun z => z.1.elim (ne_no n "some" (by decide +kernel)) (ne_no n "all" (by decide +kernel))), if_neg (ne_no n "1" (by decide +kernel)), if_neg (ne_no n "0" (by decide +kernel)), if_pos h]
theorem take_open (m : w ∈ openW) (h : s.op + 1 ≤ 120) : s.take w = Rd.step { s with op := s.op + 1 } w := by
  unfold Rd.take
  rw [if_pos m, if_neg (by omega)]
theorem take_plain (m : ¬ w ∈ openW) : s.take w = s.step w := if_neg m
theorem step_first (h : s.due = .formula ∨ s.due = .operand) : s.step w = s.first w := by
  unfold Rd.step
  rw [if_neg (by rcases h with h | h <;> rw [h] <;> decide), if_pos h]
theorem step_join (h : s.due = .sign ∨ s.due = .put) (m : w = "&" ∨ w = "^" ∨ w = "|" ∨ w = "?") : s.step w = some (s.join w) := by
  unfold Rd.step
  rw [if_neg (by rcases h with h | h <;> rw [h] <;> decide), if_neg (by rcases h with h | h <;> rw [h] <;> decide), if_pos m]
theorem step_mate (h : s.due = .sign ∨ s.due = .put) (n : ¬ (w = "&" ∨ w = "^" ∨ w = "|" ∨ w = "?")) (m : w = ")" ∨ w = ":" ∨ w = "in") : s.step w = s.mate w := by
  unfold Rd.step
  rw [if_neg (by rcases h with h | h <;> rw [h] <;> decide), if_neg (by rcases h with h | h <;> rw [h] <;> decide), if_neg n, if_pos m]
theorem step_put (h : s.due = .put) : s.step ":=" = s.putw ":=" := by
  unfold Rd.step
  rw [if_neg (by rw [h]; decide), if_neg (by rw [h]; decide), if_neg (by decide +kernel), if_neg (by decide +kernel)]
theorem reads_cons {ws : List Str} {s2 : Rd} (h : s.take w = some s2) : reads s (w :: ws) = reads s2 ws := by
  show (match s.take w with
    | some s2 => reads s2 ws
    | none => none) = _
  rw [h]
theorem opens_plain {b : List Str} (m : ¬ w ∈ openW) : opens (w :: b) = opens b := List.countP_cons_of_neg (by simpa using m)
theorem opens_open {b : List Str} (m : w ∈ openW) : opens (w :: b) = opens b + 1 := List.countP_cons_of_pos (by simpa using m)
end
def ReadOk (f : Fo Str) (lv : Nat) (ws : List Str) : Prop := ∀ (k : Nat) (S : List Fr) (d : Due) (g0 : Fo Str) (n : Nat), (∀ x ∈ f.nms, textN x = true) → (k = 0 ∨ lv = 4) → lv ≤ 4 → topOk S lv → (d = .formula ∨ d = .operand) → (lv = 0 → d = .formula) → n + opens ws ≤ 120 →
  ∃ P g d', reads ⟨List.replicate k .neg ++ S, d, g0, n⟩ ws = some ⟨P ++ S, d', g, n + opens ws⟩ ∧ (d' = .sign ∨ d' = .put) ∧ closes P g = negk k f ∧ ∀ fr ∈ P, fr.cl = true ∧ (fr.isOp = true → lv ≤ fr.lev) ∧ (fr.isOp = false → lv = 0)
theorem top_cons {S : List Fr} {fr : Fr} {lv : Nat} (h1 : fr ≠ .neg) (h2 : fr.isOp = true → fr.lev < lv) : topOk (fr :: S) lv := fun fr' r e => by
  injection e with e1 _
  subst e1
  exact ⟨h1, h2⟩
theorem read_bin {f g h : Fo Str} {a b : List Str} {w : Str} {L lv : Nat} (ih1 : ReadOk f L a) (ih2 : ReadOk g (L + 1) b) (hlv : lv ≤ L) (hw : (w = "&" ∧ L = 3) ∨ (w = "^" ∧ L = 2) ∨ (w = "|" ∧ L = 1)) (hl : (joinF w f).lev = L) (ho : (joinF w f).isOp = true) (hc : (joinF w f).cl = true)
    (hn : ∀ x, x ∈ f.nms ∨ x ∈ g.nms → x ∈ h.nms) (hh : (joinF w f).close g = h) : ReadOk h lv (a ++ w :: b) := by
  intro k S d g0 n nm hk l4 top hd hd0 ho'
  have hL : 1 ≤ L ∧ L ≤ 3 := by rcases hw with ⟨_, e⟩ | ⟨_, e⟩ | ⟨_, e⟩ <;> omega
  have k0 : k = 0 := hk.elim id (fun z => by omega)
  subst k0
  have no : ¬ w ∈ openW := by rcases hw with ⟨rfl, _⟩ | ⟨rfl, _⟩ | ⟨rfl, _⟩ <;> decide +kernel
  have wj : w = "&" ∨ w = "^" ∨ w = "|" ∨ w = "?" := by rcases hw with ⟨rfl, _⟩ | ⟨rfl, _⟩ | ⟨rfl, _⟩ <;> simp
  have wq : ¬ w = "?" := by rcases hw with ⟨rfl, _⟩ | ⟨rfl, _⟩ | ⟨rfl, _⟩ <;> decide +kernel
  rw [opens_app, opens_plain no] at ho' ⊢
  obtain ⟨P1, g1, d1, r1, hd1, c1, p1⟩ := ih1 0 S d g0 n (fun x m => nm x (hn x (.inl m))) (.inl rfl) (by omega) (top.mono hlv) hd (fun z => by omega) (by omega)
  have c1 : closes P1 g1 = f := c1
  have e1 : endThose (endsBy w) (P1 ++ S) g1 = (S, f) := by
    rw [← c1]
    refine end_those (top_wd (top.mono hlv) ?_) P1 g1 fun fr m => ?_
    · rcases hw with ⟨e, e'⟩ | ⟨e, e'⟩ | ⟨e, e'⟩
      · exact .inl ⟨e, by omega⟩
      · exact .inr (.inl ⟨e, by omega⟩)
      · exact .inr (.inr ⟨.inl e, by omega⟩)
    · obtain ⟨_, a2, a3⟩ := p1 fr m
      cases io : fr.isOp with
      | false =>
        have := a3 io
        omega
      | true =>
        refine ops_wd (a2 io) io ?_
        rcases hw with ⟨e, e'⟩ | ⟨e, e'⟩ | ⟨e, e'⟩
        · exact .inl ⟨e, e'⟩
        · exact .inr (.inl ⟨e, e'⟩)
        · exact .inr (.inr ⟨.inl e, e'⟩)
  have st : Rd.take ⟨P1 ++ S, d1, g1, n + opens a⟩ w = some ⟨joinF w f :: S, .operand, f, n + opens a⟩ := by
    rw [take_plain no, step_join hd1 wj]
    simp only [Rd.join, e1, if_neg wq]
  obtain ⟨P2, g2, d2, r2, hd2, c2, p2⟩ := ih2 0 (joinF w f :: S) .operand f (n + opens a) (fun x m => nm x (hn x (.inr m))) (.inl rfl) (by omega) (top_cons (fun z => by rw [z] at ho; cases ho) (fun _ => by omega)) (.inr rfl) (fun z => by omega) (by omega)
  have c2 : closes P2 g2 = g := c2
  refine ⟨P2 ++ [joinF w f], g2, d2, ?_, hd2, ?_, fun fr m => ?_⟩
  · rw [reads_app, r1]
    show reads _ (w :: b) = _
    rw [reads_cons st, List.append_assoc, ← Nat.add_assoc]
    exact r2
  · rw [closes_app, c2]
    exact hh
  · rcases List.mem_append.mp m with m | m
    · obtain ⟨a1, a2, a3⟩ := p2 fr m
      exact ⟨a1, fun z => by have := a2 z; omega, fun z => by have := a3 z; omega⟩
    · rw [List.mem_singleton.mp m]
      exact ⟨hc, fun _ => by omega, fun z => by rw [ho] at z; cases z⟩
end Kn
set_option Elab.async false
set_option linter.all false
set_option maxRecDepth 100000
set_option maxHeartbeats 4000000
set_option pp.maxSteps 1200
namespace Kn
open PySem L2 TL
theorem no_join : ∀ w ∈ (([")", ":", "in", ":="] : List String).map Str.ofString), ¬ (w = "&" ∨ w = "^" ∨ w = "|" ∨ w = "?") := by decide +kernel
theorem mate_par {P S : List Fr} {g f g' : Fo Str} {n : Nat} {d : Due} (hd : d = .sign ∨ d = .put) (hp : ∀ fr ∈ P, fr.cl = true) (hc : closes P g = f) : Rd.take ⟨P ++ .par :: S, d, g, n⟩ ")" = some (Rd.fin ⟨S, d, f, n⟩ f .sign) := by
  have e : endAll (P ++ .par :: S) g = (.par :: S, f) := by
    rw [← hc]
    exact end_all (fun fr r e => by injection e with e _; subst e; rfl) P g hp
  rw [take_plain (by decide +kernel), step_mate hd (no_join _ (by decide +kernel)) (.inl rfl)]
  unfold Rd.mate
  simp only [e]
  rfl
theorem mate_if {P S : List Fr} {g f c : Fo Str} {n : Nat} {d : Due} (hd : d = .sign ∨ d = .put) (hp : ∀ fr ∈ P, fr.cl = true) (hc : closes P g = f) : Rd.take ⟨P ++ .if1 c :: S, d, g, n⟩ ":" = some ⟨.if2 c f :: S, .formula, f, n⟩ := by
  have e : endAll (P ++ .if1 c :: S) g = (.if1 c :: S, f) := by
    rw [← hc]
    exact end_all (fun fr r e => by injection e with e _; subst e; rfl) P g hp
  rw [take_plain (by decide +kernel), step_mate hd (no_join _ (by decide +kernel)) (.inr (.inl rfl))]
  unfold Rd.mate
  simp only [e]
  rfl
theorem mate_in {P S : List Fr} {g f : Fo Str} {x : Str} {n : Nat} {d : Due} (hd : d = .sign ∨ d = .put) (hp : ∀ fr ∈ P, fr.cl = true) (hc : closes P g = f) : Rd.take ⟨P ++ .put1 x :: S, d, g, n⟩ "in" = some ⟨.put2 x f :: S, .formula, f, n⟩ := by
  have e : endAll (P ++ .put1 x :: S) g = (.put1 x :: S, f) := by
    rw [← hc]
    exact end_all (fun fr r e => by injection e with e _; subst e; rfl) P g hp
  rw [take_plain (by decide +kernel), step_mate hd (no_join _ (by decide +kernel)) (.inr (.inr rfl))]
  unfold Rd.mate
  simp only [e]
  rfl
theorem read_atom {f : Fo Str} {w : Str} {d1 : Due → Due} (no : ¬ w ∈ openW) (h : ∀ s : Rd, (s.due = .formula ∨ s.due = .operand) → s.first w = some (s.fin f (d1 s.due))) (hd : ∀ d, d1 d = .sign ∨ d1 d = .put) (lv : Nat) : ReadOk f lv [w] := by
  intro k S d g0 n nm hk l4 top hdd hd0 ho
  rw [opens_plain no]
  refine ⟨[], negk k f, d1 d, ?_, hd _, rfl, fun fr m => nomatch m⟩
  rw [reads_cons (s2 := ⟨S, d1 d, negk k f, n⟩) (by
    rw [take_plain no, step_first hdd, h _ hdd]
    unfold Rd.fin
    rw [end_negs top])]
  rfl
theorem read_neg {f : Fo Str} {a : List Str} {lv : Nat} (ih : ReadOk f 4 a) : ReadOk (.neg f) lv ("!" :: a) := by
  intro k S d g0 n nm hk l4 top hd hd0 ho
  have m : ("!" : Str) ∈ openW := by decide +kernel
  rw [opens_open m] at ho ⊢
  obtain ⟨P, g, d', r, hd', c, p⟩ := ih (k + 1) S .operand g0 (n + 1) nm (.inr rfl) (by omega) (top.mono l4) (.inr rfl) (fun z => by omega) (by omega)
  refine ⟨P, g, d', ?_, hd', c, fun fr mm => ?_⟩
  · rw [reads_cons (s2 := ⟨.neg :: (List.replicate k .neg ++ S), .operand, g0, n + 1⟩) (by
      rw [take_open m (by show n + 1 ≤ 120; omega), step_first hd, first_not]
      rfl)]
    rw [show n + (opens a + 1) = n + 1 + opens a by omega]
    exact r
  · obtain ⟨a1, a2, a3⟩ := p fr mm
    exact ⟨a1, fun z => by have := a2 z; omega, fun z => by have := a3 z; omega⟩
theorem read_par {f : Fo Str} {a : List Str} {lv : Nat} (ih : ReadOk f 0 a) : ReadOk f lv ("(" :: (a ++ [(")" : Str)])) := by
  intro k S d g0 n nm hk l4 top hd hd0 ho
  have m : ("(" : Str) ∈ openW := by decide +kernel
  have m2 : ¬ (")" : Str) ∈ openW := by decide +kernel
  rw [opens_open m, opens_app, opens_plain m2] at ho ⊢
  obtain ⟨P, g, d', r, hd', c, p⟩ := ih 0 (.par :: (List.replicate k .neg ++ S)) .formula g0 (n + 1) nm (.inl rfl) (by omega) (top_cons (fun z => by cases z) (fun z => by cases z)) (.inl rfl) (fun _ => rfl) (by omega)
  refine ⟨[], negk k f, .sign, ?_, .inl rfl, rfl, fun fr mm => nomatch mm⟩
  rw [reads_cons (s2 := ⟨.par :: (List.replicate k .neg ++ S), .formula, g0, n + 1⟩) (by
    rw [take_open m (by show n + 1 ≤ 120; omega), step_first hd, first_par]
    rfl), reads_app]
  have r : reads ⟨.par :: (List.replicate k .neg ++ S), .formula, g0, n + 1⟩ a = some ⟨P ++ .par :: (List.replicate k .neg ++ S), d', g, n + 1 + opens a⟩ := r
  rw [r]
  show reads _ [(")" : Str)] = _
  rw [reads_cons (mate_par (g' := g) hd' (fun fr mm => (p fr mm).1) c)]
  unfold Rd.fin
  rw [end_negs top]
  show some _ = some _
  have : n + (opens a + opens [] + 1) = n + 1 + opens a := by
    have : opens [] = 0 := rfl
    omega
  rw [this]
  rfl
theorem read_q {f h : Fo Str} {x : Str} {w : Str} {a : List Str} {lv : Nat} {b : Bool} (hw : w = if b then "all" else "some") (hh : h = if b then .all x f else .som x f) (hlv : lv ≤ 0) (ih : ReadOk f 0 a) : ReadOk h lv (w :: x :: a) := by
  intro k S d g0 n nm hk l4 top hd hd0 ho
  have lv0 : lv = 0 := by omega
  subst lv0
  have k0 : k = 0 := hk.elim id (fun z => by omega)
  subst k0
  obtain rfl := hd0 rfl
  have hx : textN x = true := nm x (by rw [hh]; cases b <;> exact List.mem_cons_self)
  have m : w ∈ openW := by rw [hw]; cases b <;> decide +kernel
  have mx : ¬ x ∈ openW := fun z => text_no hx ((show ∀ y ∈ openW, y ∈ wdsNo by decide +kernel) x z)
  rw [opens_open m, opens_plain mx] at ho ⊢
  obtain ⟨P, g, d', r, hd', c, p⟩ := ih 0 ((if b then .all x else .som x) :: S) .formula g0 (n + 1) (fun y m => nm y (by rw [hh]; cases b <;> exact List.mem_cons_of_mem _ m)) (.inl rfl) (by omega) (top_cons (by cases b <;> exact fun z => by cases z) (by cases b <;> exact fun z => by cases z)) (.inl rfl) (fun _ => rfl) (by omega)
  refine ⟨P ++ [if b then .all x else .som x], g, d', ?_, hd', ?_, fun fr mm => ?_⟩
  · rw [reads_cons (s2 := ⟨.q0 b :: S, .name, g0, n + 1⟩) (by
      rw [take_open m (by show n + 1 ≤ 120; omega), step_first (.inl rfl), hw]
      cases b
      · exact first_some rfl
      · exact first_all rfl), reads_cons (s2 := ⟨(if b then .all x else .som x) :: S, .formula, g0, n + 1⟩) (by
      rw [take_plain mx, show Rd.step ⟨.q0 b :: S, .name, g0, n + 1⟩ x = Rd.name ⟨.q0 b :: S, .name, g0, n + 1⟩ x from if_pos rfl]
      unfold Rd.name
      rw [if_pos hx])]
    rw [show n + (opens a + 1) = n + 1 + opens a by omega, List.append_assoc]
    exact r
  · rw [closes_app, show closes P g = f from c, hh]
    cases b <;> rfl
  · rcases List.mem_append.mp mm with mm | mm
    · exact p fr mm
    · rw [List.mem_singleton.mp mm]
      cases b <;> exact ⟨rfl, fun z => (by cases z), fun _ => rfl⟩
theorem read_put {f g : Fo Str} {x : Str} {a b : List Str} {lv : Nat} (hlv : lv ≤ 0) (ih1 : ReadOk f 0 a) (ih2 : ReadOk g 0 b) : ReadOk (.put x f g) lv (x :: (":=" : Str) :: (a ++ ("in" : Str) :: b)) := by
  intro k S d g0 n nm hk l4 top hd hd0 ho
  have lv0 : lv = 0 := by omega
  subst lv0
  have k0 : k = 0 := hk.elim id (fun z => by omega)
  subst k0
  obtain rfl := hd0 rfl
  have hx : textN x = true := nm x List.mem_cons_self
  have mx : ¬ x ∈ openW := fun z => text_no hx ((show ∀ y ∈ openW, y ∈ wdsNo by decide +kernel) x z)
  have m : (":=" : Str) ∈ openW := by decide +kernel
  have mi : ¬ ("in" : Str) ∈ openW := by decide +kernel
  rw [opens_plain mx, opens_open m, opens_app, opens_plain mi] at ho ⊢
  obtain ⟨P1, g1, d1, r1, hd1, c1, p1⟩ := ih1 0 (.put1 x :: S) .formula (.nam x) (n + 1) (fun y m => nm y (List.mem_cons_of_mem _ (List.mem_append_left _ m))) (.inl rfl) (by omega) (top_cons (fun z => by cases z) (fun z => by cases z)) (.inl rfl) (fun _ => rfl) (by omega)
  obtain ⟨P2, g2, d2, r2, hd2, c2, p2⟩ := ih2 0 (.put2 x f :: S) .formula f (n + 1 + opens a) (fun y m => nm y (List.mem_cons_of_mem _ (List.mem_append_right _ m))) (.inl rfl) (by omega) (top_cons (fun z => by cases z) (fun z => by cases z)) (.inl rfl) (fun _ => rfl) (by omega)
  refine ⟨P2 ++ [.put2 x f], g2, d2, ?_, hd2, ?_, fun fr mm => ?_⟩
  · rw [reads_cons (s2 := ⟨S, .put, .nam x, n⟩) (by
      rw [take_plain mx, step_first (.inl rfl), first_nam hx]
      unfold Rd.fin
      have e := end_negs top 0 (.nam x)
      rw [e]
      rfl), reads_cons (s2 := ⟨.put1 x :: S, .formula, .nam x, n + 1⟩) (by
      rw [take_open m (by show n + 1 ≤ 120; omega), step_put rfl]
      rfl), reads_app]
    have r1 : reads ⟨.put1 x :: S, .formula, .nam x, n + 1⟩ a = some ⟨P1 ++ .put1 x :: S, d1, g1, n + 1 + opens a⟩ := r1
    rw [r1]
    show reads _ (("in" : Str) :: b) = _
    rw [reads_cons (mate_in hd1 (fun fr mm => (p1 fr mm).1) c1), List.append_assoc]
    rw [show n + (opens a + opens b + 1) = n + 1 + opens a + opens b by omega]
    exact r2
  · rw [closes_app, show closes P2 g2 = g from c2]
    rfl
  · rcases List.mem_append.mp mm with mm | mm
    · exact p2 fr mm
    · rw [List.mem_singleton.mp mm]
      exact ⟨rfl, fun z => (by cases z), fun _ => rfl⟩
theorem read_ite {f g h : Fo Str} {a b c : List Str} {lv : Nat} (hlv : lv ≤ 0) (ih1 : ReadOk f 1 a) (ih2 : ReadOk g 0 b) (ih3 : ReadOk h 0 c) : ReadOk (.ite f g h) lv (a ++ ("?" : Str) :: (b ++ (":" : Str) :: c)) := by
  intro k S d g0 n nm hk l4 top hd hd0 ho
  have lv0 : lv = 0 := by omega
  subst lv0
  have k0 : k = 0 := hk.elim id (fun z => by omega)
  subst k0
  obtain rfl := hd0 rfl
  have m : ("?" : Str) ∈ openW := by decide +kernel
  have mi : ¬ (":" : Str) ∈ openW := by decide +kernel
  rw [opens_app, opens_open m, opens_app, opens_plain mi] at ho ⊢
  obtain ⟨P1, g1, d1, r1, hd1, c1, p1⟩ := ih1 0 S .formula g0 n (fun y m => nm y (List.mem_append_left _ m)) (.inl rfl) (by omega) (top.mono (by omega)) (.inl rfl) (fun z => by omega) (by omega)
  have e1 : endThose (endsBy "?") (P1 ++ S) g1 = (S, f) := by
    have c1 : closes P1 g1 = f := c1
    rw [← c1]
    refine end_those (top_wd (top.mono (Nat.zero_le 1)) (.inr (.inr ⟨.inr rfl, Nat.le_refl _⟩))) P1 g1 fun fr mm => ?_
    obtain ⟨_, a2, a3⟩ := p1 fr mm
    cases io : fr.isOp with
    | false =>
      have := a3 io
      omega
    | true => exact ops_wd (a2 io) io (.inr (.inr ⟨.inr rfl, rfl⟩))
  have ej : joinF "?" f = .if1 f := by
    unfold joinF
    rw [if_neg (by decide +kernel), if_neg (by decide +kernel), if_neg (by decide +kernel)]
  obtain ⟨P2, g2, d2, r2, hd2, c2, p2⟩ := ih2 0 (.if1 f :: S) .formula f (n + opens a + 1) (fun y m => nm y (List.mem_append_right _ (List.mem_append_left _ m))) (.inl rfl) (by omega) (top_cons (fun z => by cases z) (fun z => by cases z)) (.inl rfl) (fun _ => rfl) (by omega)
  obtain ⟨P3, g3, d3, r3, hd3, c3, p3⟩ := ih3 0 (.if2 f g :: S) .formula g (n + opens a + 1 + opens b) (fun y m => nm y (List.mem_append_right _ (List.mem_append_right _ m))) (.inl rfl) (by omega) (top_cons (fun z => by cases z) (fun z => by cases z)) (.inl rfl) (fun _ => rfl) (by omega)
  refine ⟨P3 ++ [.if2 f g], g3, d3, ?_, hd3, ?_, fun fr mm => ?_⟩
  · rw [reads_app, r1]
    show reads _ (("?" : Str) :: (b ++ (":" : Str) :: c)) = _
    rw [reads_cons (s2 := ⟨.if1 f :: S, .formula, f, n + opens a + 1⟩) (by
      rw [take_open m (by show n + opens a + 1 ≤ 120; omega), step_join hd1 (.inr (.inr (.inr rfl)))]
      simp only [Rd.join, e1, ej]
      rfl), reads_app]
    have r2 : reads ⟨.if1 f :: S, .formula, f, n + opens a + 1⟩ b = some ⟨P2 ++ .if1 f :: S, d2, g2, n + opens a + 1 + opens b⟩ := r2
    rw [r2]
    show reads _ ((":" : Str) :: c) = _
    rw [reads_cons (mate_if hd2 (fun fr mm => (p2 fr mm).1) c2), List.append_assoc]
    rw [show n + (opens a + (opens b + opens c + 1)) = n + opens a + 1 + opens b + opens c by omega]
    exact r3
  · rw [closes_app, show closes P3 g3 = h from c3]
    rfl
  · rcases List.mem_append.mp mm with mm | mm
    · exact p3 fr mm
    · rw [List.mem_singleton.mp mm]
      exact ⟨rfl, fun z => (by cases z), fun _ => rfl⟩
end Kn
set_option Elab.async false
set_option linter.all false
set_option maxRecDepth 100000
set_option maxHeartbeats 4000000
set_option pp.maxSteps 1200
namespace Kn
open PySem L2 TL PySem.Spec PyProof.Rows
/-! ### how many parts; the walk's other side -/
def Fo.sz {α : Type} : Fo α → Nat
  | .yes => 1 | .no => 1
  | .nam _ => 1
  | .neg f => 1 + f.sz
  | .con f g => 1 + f.sz + g.sz | .dis f g => 1 + f.sz + g.sz | .xor f g => 1 + f.sz + g.sz
  | .ite f g h => 1 + f.sz + g.sz + h.sz
  | .som _ f => 1 + f.sz | .all _ f => 1 + f.sz
  | .put _ f g => 1 + f.sz + g.sz
theorem fo_sz (f : Fo Str) : f.sz = 1 + (f.kd.map Fo.sz).sum := by
  cases f <;> simp [Fo.sz, Fo.kd] <;> omega
theorem fo_cnt : ∀ (n : Nat) {f : Fo Str}, f.ok → f.hgt < n → cnt n f.d = f.sz
  | 0, f, _, h => absurd h (Nat.not_lt_zero _)
  | n + 1, f, h, hh => by
    unfold cnt
    rw [fo_form h]
    dsimp only
    rw [fo_sz f, List.map_map]
    congr 2
    refine List.map_congr_left fun k m => ?_
    exact fo_cnt n (fo_ok_kid h m) (by have := (fo_kid m).1; omega)
theorem cnt_pos {n : Nat} {d : PyData} (h : goodH n d = true) : 1 ≤ cnt n d := by
  obtain ⟨k, o, ps, rfl, hf, _, hc⟩ := good_some h
  omega
theorem good_pre {k : Nat} {d : PyData} {o : Option Str} {ps : List PyData} (hf : formD d = some (o, ps)) : pre (k + 1) d = o.toList ++ ps.flatMap (pre k) := by
  conv => lhs; unfold pre
  rw [hf]
theorem walk_none {N : List Str} (hN : N.length ≤ 10) : ∀ {f m : Nat} {ns : List Str} {st : List (List Nat × PyData)}, (∀ e ∈ st, goodH (10 - e.1.length) e.2 = true ∧ ∀ x ∈ pre (10 - e.1.length) e.2, x ∈ N) → ns.Nodup → (∀ x ∈ ns, x ∈ N) → m + (st.map hcnt).sum ≤ 60 → walk f m ns st = none
  | 0, _, _, _, _, _, _, _ => rfl
  | _ + 1, _, _, [], _, _, _, _ => rfl
  | f + 1, m, ns, (way, d) :: st, hs, nd, sub, hm => by
    obtain ⟨g, pr⟩ := hs (way, d) List.mem_cons_self
    have g : goodH (10 - way.length) d = true := g
    have pr : ∀ x ∈ pre (10 - way.length) d, x ∈ N := pr
    obtain ⟨k, o, ps, ek, hf, hg, hc⟩ := good_some g
    have e9 : 10 - (way.length + 1) = k := by omega
    rw [ek] at pr hc
    rw [good_pre hf] at pr
    have hh : hcnt (way, d) = 1 + (ps.map (cnt k)).sum := by
      unfold hcnt
      show cnt (10 - way.length) d = _
      rw [ek]
      exact hc
    rw [List.map_cons, List.sum_cons, hh] at hm
    unfold walk
    rw [if_neg (by omega), hf]
    dsimp only
    have nd2 : (addN ns o).Nodup := by
      cases o with
      | none => exact nd
      | some x => exact nodup_addS nd
    have sub2 : ∀ x ∈ addN ns o, x ∈ N := by
      cases o with
      | none => exact sub
      | some x =>
        intro y hy
        rcases mem_addS.mp hy with h | h
        · exact sub y h
        · rw [h]
          exact pr x (List.mem_append_left _ (List.mem_singleton.mpr rfl))
    have len2 := pigeon nd2 sub2
    rw [if_neg (by omega)]
    refine walk_none hN (fun e he => ?_) nd2 sub2 ?_
    · rcases List.mem_append.mp he with he | he
      · obtain ⟨a, b⟩ := kids_len he
        rw [a, e9]
        exact ⟨hg _ b, fun x hx => pr x (List.mem_append_right _ (List.mem_flatMap.mpr ⟨_, b, hx⟩))⟩
      · exact hs e (List.mem_cons_of_mem _ he)
    · rw [List.map_append, List.sum_append, kids_cnt, e9]
      omega
theorem place_none {f : Fo Str} {N : List Str} (h : f.ok) (hh : f.hgt < 10) (hs : f.sz ≤ 60) (sub : ∀ x ∈ f.nms, x ∈ N) (hN : N.length ≤ 10) : placeD f.d = none := by
  obtain ⟨a, b⟩ := fo_good 10 h hh
  refine walk_none hN (fun e he => ?_) List.nodup_nil (fun x hx => nomatch hx) ?_
  · rw [List.mem_singleton.mp he]
    refine ⟨a, fun x hx => sub x ?_⟩
    have hx : x ∈ pre 10 f.d := hx
    rw [b] at hx
    exact hx
  · have e : hcnt ([], f.d) = cnt 10 f.d := rfl
    rw [List.map_cons, List.map_nil, List.sum_cons, List.sum_nil, e, fo_cnt 10 h hh]
    omega
/-- a formula drawn is a tree's -/
theorem fm_fo {ns : List Str} {a b : Nat} {d : PyData} (h : Fm ns a b d) : ∃ f : Fo Str, f.d = d ∧ (∀ x ∈ f.nms, x ∈ ns) ∧ f.sz = a ∧ f.hgt = b := by
  induction h with
  | yes => exact ⟨.yes, rfl, (fun x hx => nomatch hx), rfl, rfl⟩
  | no => exact ⟨.no, rfl, (fun x hx => nomatch hx), rfl, rfl⟩
  | @name z h => exact ⟨.nam z, rfl, fun x hx => by rw [List.mem_singleton.mp hx]; exact h, rfl, rfl⟩
  | @not n h d _ ih =>
    obtain ⟨f, rfl, s, rfl, rfl⟩ := ih
    exact ⟨.neg f, rfl, s, Nat.add_comm _ _, rfl⟩
  | @bin w n m h g d e hw _ _ ih1 ih2 =>
    obtain ⟨f1, rfl, s1, rfl, rfl⟩ := ih1
    obtain ⟨f2, rfl, s2, rfl, rfl⟩ := ih2
    have ss : ∀ x ∈ f1.nms ++ f2.nms, x ∈ ns := fun x hx => (List.mem_append.mp hx).elim (s1 x) (s2 x)
    rcases List.mem_cons.mp hw with rfl | hw
    · exact ⟨.con f1 f2, rfl, ss, by simp only [Fo.sz]; omega, rfl⟩
    rcases List.mem_cons.mp hw with rfl | hw
    · exact ⟨.dis f1 f2, rfl, ss, by simp only [Fo.sz]; omega, rfl⟩
    rw [List.mem_singleton.mp hw]
    exact ⟨.xor f1 f2, rfl, ss, by simp only [Fo.sz]; omega, rfl⟩
  | @ite n m k h g j d e f _ _ _ ih1 ih2 ih3 =>
    obtain ⟨f1, rfl, s1, rfl, rfl⟩ := ih1
    obtain ⟨f2, rfl, s2, rfl, rfl⟩ := ih2
    obtain ⟨f3, rfl, s3, rfl, rfl⟩ := ih3
    exact ⟨.ite f1 f2 f3, rfl, fun x hx => (List.mem_append.mp hx).elim (s1 x) fun hx => (List.mem_append.mp hx).elim (s2 x) (s3 x), by simp only [Fo.sz]; omega, by simp only [Fo.hgt]; omega⟩
  | @qu w z n h d hw hz _ ih =>
    obtain ⟨f, rfl, s, rfl, rfl⟩ := ih
    have ss : ∀ x ∈ z :: f.nms, x ∈ ns := fun x hx => by
      rcases List.mem_cons.mp hx with e | hx
      · rw [e]; exact hz
      · exact s x hx
    rcases List.mem_cons.mp hw with rfl | hw
    · exact ⟨.som z f, rfl, ss, Nat.add_comm _ _, rfl⟩
    rw [List.mem_singleton.mp hw]
    exact ⟨.all z f, rfl, ss, Nat.add_comm _ _, rfl⟩
  | @put z n m h g d e hz _ _ ih1 ih2 =>
    obtain ⟨f1, rfl, s1, rfl, rfl⟩ := ih1
    obtain ⟨f2, rfl, s2, rfl, rfl⟩ := ih2
    refine ⟨.put z f1 f2, rfl, fun x hx => ?_, by simp only [Fo.sz]; omega, rfl⟩
    rcases List.mem_cons.mp hx with e | hx
    · rw [e]; exact hz
    · exact (List.mem_append.mp hx).elim (s1 x) (s2 x)
theorem word_name {z : Str} (h : wordB z = true) : isNameS z = true := by
  unfold wordB at h
  unfold isNameS
  simp only [Bool.and_eq_true] at h ⊢
  exact h.1
end Kn
set_option Elab.async false
set_option linter.all false
set_option maxRecDepth 100000
set_option maxHeartbeats 4000000
set_option pp.maxSteps 1200
namespace Kn
open PySem L2 TL
mutual
theorem read_bare : ∀ {f : Fo Str} {a : List Str}, Bare f a → ∀ lv, lv ≤ f.lev → ReadOk f lv a
  | _, _, .yes, lv, _ => read_atom (d1 := fun _ => .sign) (by decide +kernel) (fun _ _ => first_yes) (fun _ => .inl rfl) lv
  | _, _, .no, lv, _ => read_atom (d1 := fun _ => .sign) (by decide +kernel) (fun _ _ => first_no) (fun _ => .inl rfl) lv
  | _, _, .nam x, lv, _ => fun k S d g0 n nm => by
    have hx : textN x = true := nm x List.mem_cons_self
    exact read_atom (d1 := fun d => if d = .formula then .put else .sign) (fun z => text_no hx ((show ∀ y ∈ openW, y ∈ wdsNo by decide +kernel) x z)) (fun _ _ => first_nam hx) (fun d => by
      by_cases c : d = .formula
      · exact .inr (if_pos c)
      · exact .inl (if_neg c)) lv k S d g0 n nm
  | _, _, .neg h, lv, _ => read_neg (read_told h)
  | _, _, .con h1 h2, lv, l => read_bin (read_told h1) (read_told h2) l (.inl ⟨rfl, rfl⟩) rfl rfl rfl (fun x m => m.elim (List.mem_append_left _) (List.mem_append_right _)) rfl
  | _, _, .xor h1 h2, lv, l => read_bin (read_told h1) (read_told h2) l (.inr (.inl ⟨rfl, rfl⟩)) rfl rfl rfl (fun x m => m.elim (List.mem_append_left _) (List.mem_append_right _)) rfl
  | _, _, .dis h1 h2, lv, l => read_bin (read_told h1) (read_told h2) l (.inr (.inr ⟨rfl, rfl⟩)) rfl rfl rfl (fun x m => m.elim (List.mem_append_left _) (List.mem_append_right _)) rfl
  | _, _, .ite h1 h2 h3, lv, l => read_ite l (read_told h1) (read_told h2) (read_told h3)
  | _, _, .put h1 h2, lv, l => read_put l (read_told h1) (read_told h2)
  | _, _, .som h, lv, l => read_q (b := false) rfl rfl l (read_told h)
  | _, _, .all h, lv, l => read_q (b := true) rfl rfl l (read_told h)
theorem read_told : ∀ {f : Fo Str} {lv : Nat} {a : List Str}, Tld f lv a → ReadOk f lv a
  | _, _, _, .bare h l => read_bare h _ l
  | _, _, _, .par h => read_par (read_told h)
end
theorem read_all {f : Fo Str} {a : List Str} (h : Tld f 0 a) (nm : ∀ x ∈ f.nms, textN x = true) (ho : opens a ≤ 120) : ∃ st, reads begun0 a = some st ∧ ended st = some f := by
  obtain ⟨P, g, d', r, hd', c, p⟩ := read_told h 0 [] .formula .yes 0 nm (.inl rfl) (by omega) (fun fr r e => by cases e) (.inl rfl) (fun _ => rfl) (by omega)
  refine ⟨_, r, ?_⟩
  unfold ended
  rw [if_pos hd']
  have e : endAll (P ++ []) g = ([], closes P g) := end_all (fun fr r e => by cases e) P g fun fr m => (p fr m).1
  have c : closes P g = f := c
  rw [c] at e
  simp only [e]
/-! #### as few brackets as can be -/
mutual
def bareW : Fo Str → List Str
  | .yes => ["1"] | .no => ["0"]
  | .nam x => [x]
  | .neg f => "!" :: toldW f 4
  | .con f g => toldW f 3 ++ ("&" : Str) :: toldW g 4
  | .xor f g => toldW f 2 ++ ("^" : Str) :: toldW g 3
  | .dis f g => toldW f 1 ++ ("|" : Str) :: toldW g 2
  | .ite f g h => toldW f 1 ++ ("?" : Str) :: (bareW g ++ (":" : Str) :: bareW h)
  | .put x f g => x :: (":=" : Str) :: (bareW f ++ ("in" : Str) :: bareW g)
  | .som x f => "some" :: x :: bareW f
  | .all x f => "all" :: x :: bareW f
def toldW : Fo Str → Nat → List Str
  | f, n => if f.lev < n then "(" :: (bareW f ++ [(")" : Str)]) else bareW f
end
end Kn
set_option Elab.async false
set_option linter.all false
set_option maxRecDepth 100000
set_option maxHeartbeats 4000000
set_option pp.maxSteps 1200
namespace Kn
open PySem L2 TL
theorem told_of {f : Fo Str} (h : Bare f (bareW f)) (n : Nat) : Tld f n (toldW f n) := by
  rw [toldW]
  by_cases c : f.lev < n
  · rw [if_pos c]
    exact .par (.bare h (Nat.zero_le _))
  · rw [if_neg c]
    exact .bare h (by omega)
theorem told0 {f : Fo Str} (h : Bare f (bareW f)) : Tld f 0 (bareW f) := .bare h (Nat.zero_le _)
theorem bare_of : ∀ f : Fo Str, Bare f (bareW f)
  | .yes => by rw [bareW]; exact .yes
  | .no => by rw [bareW]; exact .no
  | .nam x => by rw [bareW]; exact .nam x
  | .neg f => by rw [bareW]; exact .neg (told_of (bare_of f) 4)
  | .con f g => by rw [bareW]; exact .con (told_of (bare_of f) 3) (told_of (bare_of g) 4)
  | .xor f g => by rw [bareW]; exact .xor (told_of (bare_of f) 2) (told_of (bare_of g) 3)
  | .dis f g => by rw [bareW]; exact .dis (told_of (bare_of f) 1) (told_of (bare_of g) 2)
  | .ite f g h => by rw [bareW]; exact .ite (told_of (bare_of f) 1) (told0 (bare_of g)) (told0 (bare_of h))
  | .put x f g => by rw [bareW]; exact .put (told0 (bare_of f)) (told0 (bare_of g))
  | .som x f => by rw [bareW]; exact .som (told0 (bare_of f))
  | .all x f => by rw [bareW]; exact .all (told0 (bare_of f))
theorem text_plain {x : Str} (h : textN x = true) : ¬ x ∈ openW := fun z => text_no h ((show ∀ y ∈ openW, y ∈ wdsNo by decide +kernel) x z)
theorem opens_told {f : Fo Str} {n : Nat} (h : 2 * opens (bareW f) + (if f.lev < 4 then 4 else 3) ≤ 3 * f.sz) (hn : n ≤ 4) : 2 * opens (toldW f n) + 2 ≤ 3 * f.sz := by
  rw [toldW]
  by_cases c : f.lev < n
  · rw [if_pos (by omega)] at h
    rw [if_pos c, opens_open (by decide +kernel), opens_app, opens_plain (by decide +kernel)]
    have : opens [] = 0 := rfl
    omega
  · rw [if_neg c]
    split at h <;> omega
theorem opens_bare : ∀ f : Fo Str, (∀ x ∈ f.nms, textN x = true) → 2 * opens (bareW f) + (if f.lev < 4 then 4 else 3) ≤ 3 * f.sz
  | .yes, _ => by rw [bareW]; decide +kernel
  | .no, _ => by rw [bareW]; decide +kernel
  | .nam x, h => by
    rw [bareW, opens_plain (text_plain (h x List.mem_cons_self))]
    show 2 * 0 + 3 ≤ 3 * 1
    decide
  | .neg f, h => by
    have a := opens_told (n := 4) (opens_bare f h) (by omega)
    rw [bareW, opens_open (by decide +kernel)]
    simp only [Fo.lev, Fo.sz, Nat.lt_irrefl, if_false]
    omega
  | .con f g, h => by
    have a := opens_told (n := 3) (opens_bare f fun x m => h x (List.mem_append_left _ m)) (by omega)
    have b := opens_told (n := 4) (opens_bare g fun x m => h x (List.mem_append_right _ m)) (by omega)
    rw [bareW, opens_app, opens_plain (by decide +kernel)]
    rw [if_pos (show Fo.lev (.con f g) < 4 from (by decide : 3 < 4))]
    simp only [Fo.sz]
    omega
  | .xor f g, h => by
    have a := opens_told (n := 2) (opens_bare f fun x m => h x (List.mem_append_left _ m)) (by omega)
    have b := opens_told (n := 3) (opens_bare g fun x m => h x (List.mem_append_right _ m)) (by omega)
    rw [bareW, opens_app, opens_plain (by decide +kernel)]
    rw [if_pos (show Fo.lev (.xor f g) < 4 from (by decide : 2 < 4))]
    simp only [Fo.sz]
    omega
  | .dis f g, h => by
    have a := opens_told (n := 1) (opens_bare f fun x m => h x (List.mem_append_left _ m)) (by omega)
    have b := opens_told (n := 2) (opens_bare g fun x m => h x (List.mem_append_right _ m)) (by omega)
    rw [bareW, opens_app, opens_plain (by decide +kernel)]
    rw [if_pos (show Fo.lev (.dis f g) < 4 from (by decide : 1 < 4))]
    simp only [Fo.sz]
    omega
  | .ite f g k, h => by
    have a := opens_told (n := 1) (opens_bare f fun x m => h x (List.mem_append_left _ m)) (by omega)
    have b := opens_bare g fun x m => h x (List.mem_append_right _ (List.mem_append_left _ m))
    have c := opens_bare k fun x m => h x (List.mem_append_right _ (List.mem_append_right _ m))
    rw [bareW, opens_app, opens_open (by decide +kernel), opens_app, opens_plain (by decide +kernel)]
    rw [if_pos (show Fo.lev (.ite f g k) < 4 from (by decide : 0 < 4))]
    simp only [Fo.sz]
    split at b <;> split at c <;> omega
  | .put x f g, h => by
    have b := opens_bare f fun y m => h y (List.mem_cons_of_mem _ (List.mem_append_left _ m))
    have c := opens_bare g fun y m => h y (List.mem_cons_of_mem _ (List.mem_append_right _ m))
    rw [bareW, opens_plain (text_plain (h x List.mem_cons_self)), opens_open (by decide +kernel), opens_app, opens_plain (by decide +kernel)]
    rw [if_pos (show Fo.lev (.put x f g) < 4 from (by decide : 0 < 4))]
    simp only [Fo.sz]
    split at b <;> split at c <;> omega
  | .som x f, h => by
    have b := opens_bare f fun y m => h y (List.mem_cons_of_mem _ m)
    rw [bareW, opens_open (by decide +kernel), opens_plain (text_plain (h x List.mem_cons_self))]
    rw [if_pos (show Fo.lev (.som x f) < 4 from (by decide : 0 < 4))]
    simp only [Fo.sz]
    split at b <;> omega
  | .all x f, h => by
    have b := opens_bare f fun y m => h y (List.mem_cons_of_mem _ m)
    rw [bareW, opens_open (by decide +kernel), opens_plain (text_plain (h x List.mem_cons_self))]
    rw [if_pos (show Fo.lev (.all x f) < 4 from (by decide : 0 < 4))]
    simp only [Fo.sz]
    split at b <;> omega
/-- the words with as few brackets as can be are read as what they tell -/
theorem read_least {f : Fo Str} (nm : ∀ x ∈ f.nms, textN x = true) (hs : f.sz ≤ 60) : ∃ st, reads begun0 (bareW f) = some st ∧ ended st = some f := by
  refine read_all (told0 (bare_of f)) nm ?_
  have := opens_bare f nm
  split at this <;> omega
/-- so unlike formulas have unlike words -/
theorem bare_inj {f g : Fo Str} (hf : ∀ x ∈ f.nms, textN x = true) (hg : ∀ x ∈ g.nms, textN x = true) (sf : f.sz ≤ 60) (sg : g.sz ≤ 60) (e : bareW f = bareW g) : f = g := by
  obtain ⟨s1, a1, b1⟩ := read_least hf sf
  obtain ⟨s2, a2, b2⟩ := read_least hg sg
  rw [e, a2] at a1
  injection a1 with a1
  rw [a1, b1] at b2
  exact Option.some.inj b2
end Kn
set_option Elab.async false
set_option linter.all false
set_option maxRecDepth 100000
set_option maxHeartbeats 4000000
set_option pp.maxSteps 1200
namespace Kn
open PySem L2 TL
/-! ### texts cut into words: the mathematics, over codes -/
def isL (c : Nat) : Bool := decide (97 ≤ c) && decide (c ≤ 122)
theorem dropL_le (r : List Nat) : (r.dropWhile isL).length ≤ r.length := (List.dropWhile_sublist isL).length_le
def tok : List Nat → List (List Nat)
  | [] => []
  | c :: r => if c = 58 ∧ r.head? = some 61 then [58, 61] :: tok (r.drop 1) else if isL c = true then (c :: r.takeWhile isL) :: tok (r.dropWhile isL) else if c = 32 then tok r else [c] :: tok r
  termination_by l => l.length
  decreasing_by
    · simp only [List.length_drop, List.length_cons]
      omega
    · have := dropL_le r
      simp only [List.length_cons]
      omega
    · simp only [List.length_cons]
      omega
    · simp only [List.length_cons]
      omega
theorem tok_nil : tok [] = [] := by rw [tok]
theorem tok_blank (r : List Nat) : tok (32 :: r) = tok r := by
  rw [tok, if_neg (fun z => absurd z.1 (by decide)), if_neg (by decide), if_pos rfl]
theorem tok_blanks (r : List Nat) : ∀ n, tok (List.replicate n 32 ++ r) = tok r
  | 0 => rfl
  | n + 1 => (tok_blank _).trans (tok_blanks r n)
theorem tok_put (r : List Nat) : tok (58 :: 61 :: r) = [58, 61] :: tok r := by
  rw [tok, if_pos ⟨rfl, rfl⟩]
  rfl
theorem tok_sign {c : Nat} {r : List Nat} (h1 : isL c = false) (h2 : c ≠ 32) (h3 : r.head? ≠ some 61) : tok (c :: r) = [c] :: tok r := by
  rw [tok, if_neg (fun z => h3 z.2), if_neg (by rw [h1]; decide), if_neg h2]
theorem take_all {p : Nat → Bool} : ∀ {w r : List Nat}, (∀ c ∈ w, p c = true) → (∀ c, r.head? = some c → p c = false) → (w ++ r).takeWhile p = w ∧ (w ++ r).dropWhile p = r
  | [], r, _, h => by
    cases r with
    | nil => exact ⟨rfl, rfl⟩
    | cons c t =>
      have := h c rfl
      rw [List.nil_append, List.takeWhile_cons, List.dropWhile_cons, this]
      exact ⟨rfl, rfl⟩
  | c :: w, r, hw, h => by
    obtain ⟨a, b⟩ := take_all (w := w) (fun x m => hw x (List.mem_cons_of_mem _ m)) h
    have hc := hw c List.mem_cons_self
    rw [List.cons_append, List.takeWhile_cons, List.dropWhile_cons, hc]
    exact ⟨by rw [if_pos rfl, a], by rw [if_pos rfl, b]⟩
theorem tok_letters {w r : List Nat} (h0 : w ≠ []) (hw : ∀ c ∈ w, isL c = true) (hr : ∀ c, r.head? = some c → isL c = false) : tok (w ++ r) = w :: tok r := by
  cases w with
  | nil => exact absurd rfl h0
  | cons c w =>
    have hc := hw c List.mem_cons_self
    obtain ⟨a, b⟩ := take_all (w := w) (r := r) (fun x m => hw x (List.mem_cons_of_mem _ m)) hr
    rw [List.cons_append, tok, if_neg (fun z => by rw [z.1] at hc; cases hc), if_pos hc, a, b]
/-- a word that stands for itself -/
inductive WK : List Nat → Prop
  | letters {w : List Nat} : w ≠ [] → (∀ c ∈ w, isL c = true) → WK w
  | put : WK [58, 61]
  | sign (c : Nat) : isL c = false → c ≠ 32 → c ≠ 61 → WK [c]
def lets (w : List Nat) : Bool := match w with
  | c :: _ => isL c
  | [] => false
theorem tok_word {w r : List Nat} (k : WK w) (h1 : lets w = true → ∀ c, r.head? = some c → isL c = false) (h2 : r.head? ≠ some 61) : tok (w ++ r) = w :: tok r := by
  cases k with
  | @letters _ a b =>
    refine tok_letters a b (h1 ?_)
    cases w with
    | nil => exact absurd rfl a
    | cons c t => exact b c List.mem_cons_self
  | put => exact tok_put r
  | sign c a b d => exact tok_sign a b h2
/-- words with blanks ahead of each, and behind all -/
def spr : List (Nat × List Nat) → Nat → List Nat
  | [], t => List.replicate t 32
  | (b, w) :: r, t => List.replicate b 32 ++ (w ++ spr r t)
def apart : Bool → List (Nat × List Nat) → Prop
  | _, [] => True
  | l, (b, w) :: r => (l = true → lets w = true → 1 ≤ b) ∧ apart (lets w) r
theorem wk_head {w : List Nat} (k : WK w) : ∃ c t, w = c :: t ∧ c ≠ 61 := by
  cases k with
  | @letters _ a b =>
    cases w with
    | nil => exact absurd rfl a
    | cons c t => exact ⟨c, t, rfl, fun z => by have := b c List.mem_cons_self; rw [z] at this; cases this⟩
  | put => exact ⟨58, [61], rfl, by decide⟩
  | sign c a b d => exact ⟨c, [], rfl, d⟩
theorem spr_head {l : Bool} {t : Nat} : ∀ {ps : List (Nat × List Nat)}, (∀ p ∈ ps, WK p.2) → apart l ps → (l = true → ∀ c, (spr ps t).head? = some c → isL c = false) ∧ (spr ps t).head? ≠ some 61
  | [], _, _ => by
    cases t with
    | zero => exact ⟨fun _ c h => (nomatch h), fun h => (nomatch h)⟩
    | succ n => exact ⟨fun _ c h => (by cases h; rfl), fun h => (nomatch h)⟩
  | (b, w) :: r, hk, ha => by
    obtain ⟨c0, t0, e, n61⟩ := wk_head (hk (b, w) List.mem_cons_self)
    have e : w = c0 :: t0 := e
    subst e
    cases b with
    | zero =>
      refine ⟨fun hl c h => ?_, fun h => ?_⟩
      · have h : some c0 = some c := h
        injection h with h
        subst h
        cases hc : isL c0 with
        | false => rfl
        | true =>
          have := ha.1 hl hc
          omega
      · have h : some c0 = some 61 := h
        injection h with h
        exact n61 h
    | succ n => exact ⟨fun _ c h => (by cases h; rfl), fun h => (nomatch h)⟩
/-- such a text is cut into just these words -/
theorem tok_spr {t : Nat} : ∀ {ps : List (Nat × List Nat)} {l : Bool}, (∀ p ∈ ps, WK p.2) → apart l ps → tok (spr ps t) = ps.map Prod.snd
  | [], _, _, _ => by
    have := tok_blanks [] t
    rw [List.append_nil, tok_nil] at this
    exact this
  | (b, w) :: r, l, hk, ha => by
    have hr := fun p m => hk p (List.mem_cons_of_mem _ m)
    obtain ⟨h1, h2⟩ := spr_head (t := t) hr ha.2
    show tok (List.replicate b 32 ++ (w ++ spr r t)) = _
    rw [tok_blanks, tok_word (hk (b, w) List.mem_cons_self) h1 h2, tok_spr hr ha.2]
    rfl
end Kn
set_option Elab.async false
set_option linter.all false
set_option maxRecDepth 100000
set_option maxHeartbeats 4000000
set_option pp.maxSteps 1200
namespace Kn
open PySem L2 TL PySem.Spec PyProof.Rows
/-! ### level_of, is_text_name -/
abbrev sLevel : Stmt := top 34
abbrev sTextN : Stmt := top 41
def levTab : List (Str × Int) := [("if", 0), ("some", 0), ("all", 0), ("put", 0), ("or", 1), ("xor", 2), ("and", 3)]
def levG (z : Str) : Option V := (levTab.lookup z).map V.int
theorem lev_get (f : Fo Str) : (levG f.wd).getD (.int 4) = .int (f.lev : Nat) := by
  cases f <;> simp only [Fo.wd, Fo.lev] <;> decide +kernel
theorem fo_head {K : PySem.W.Frag} {s l : Addr} {H : Hp} {v : V} {f : Fo Str} (h : Tg K s l H v f.d) : ∃ a xs, v = .ref a ∧ SqT K H a (.str f.wd :: xs) := by
  have e : ∃ ds, f.d = .tuple (.str f.wd :: ds) := by cases f <;> exact ⟨_, rfl⟩
  obtain ⟨ds, e⟩ := e
  rw [e] at h
  cases h with
  | @tup a xs _ ha hxs =>
    cases hxs with
    | cons h0 hr =>
      cases h0
      exact ⟨a, _, rfl, ha⟩
def spLevel (K : PySem.W.Frag) : Sp := fun vs H Q _ => ∃ (s l : Addr) (v : V) (f : Fo Str), vs = [v] ∧ Tg K s l H v f.d ∧ Q (.int (f.lev : Nat)) H
section
variable {P : Program} {w : World} {K : PySem.W.Frag} {mg : Str → Option Value} {base : Heap}
theorem scLevel : FnScope ["formula"] ["formula"] (defScope sLevel) := ⟨rfl, rfl, rfl, by decide +kernel, rfl, by decide +kernel, by decide +kernel⟩
theorem ok_level {f aL : Addr} {fd : FuncData} (F : Fun K "level_of" "level_of" sLevel f fd) (mL : mg "LEVELS" = some (.ref aL)) (T : KTab K w aL levG) : FnOk P w K mg base CX0 1 f fd ["formula"] (spLevel K) := by
  refine F.ok scLevel (fun vs H Q E h => ?_) (fun cdv A outer s H vs Q E hr h => ?_)
  · obtain ⟨s, l, v, f, rfl, _⟩ := h
    rfl
  obtain ⟨s, l, v, fo, rfl, hv, q⟩ := h
  refine ⟨_, pss_one (ps_ret (pe_kget2 (pe_glob (v := .ref aL) rfl mL rfl) (pe_ix ix_tup (pv 0) pe_int (fun _ _ => rfl)) pe_int ⟨rfl, rfl, rfl, rfl⟩)), ?_⟩
  obtain ⟨a, xs, rfl, ha⟩ := fo_head hv
  refine ⟨aL, levG, rfl, T, _, rfl, a, _, _, _, rfl, rfl, ha, atI_nat (j := 0) rfl, _, rfl, ?_⟩
  rw [lev_get]
  exact q
end
end Kn
set_option Elab.async false
set_option linter.all false
set_option maxRecDepth 100000
set_option maxHeartbeats 4000000
set_option pp.maxSteps 1200
namespace Kn
open PySem L2 TL PySem.Spec PyProof.Rows
/-! ### is_letter, is_text_name -/
abbrev sLetter : Stmt := top 38
theorem one_lt (a b : Nat) : decide ([a] < [b]) = decide (a < b) := by
  by_cases h : a < b
  · rw [decide_eq_true h, decide_eq_true (List.cons_lt_cons_iff.mpr (.inl h))]
  · rw [decide_eq_false h, decide_eq_false fun z => by
      rcases List.cons_lt_cons_iff.mp z with z | ⟨_, z⟩
      · exact h z
      · exact absurd z (List.not_lt_nil _)]
def spLetter : Sp := fun vs H Q _ => ∃ c : Nat, vs = [.str ⟨#[c]⟩] ∧ Q (.bl (isL c)) H
def spTextN (K : PySem.W.Frag) : Sp := fun vs H Q _ => ∃ x : Str, vs = [.str x] ∧ okS x = true ∧ Q (.bl (textN x)) H
section
variable {P : Program} {w : World} {K : PySem.W.Frag} {mg : Str → Option Value} {base : Heap}
theorem scLetter : FnScope ["sign"] ["sign"] (defScope sLetter) := ⟨rfl, rfl, rfl, by decide +kernel, rfl, by decide +kernel, by decide +kernel⟩
theorem scTextN : FnScope ["word"] ["word"] (defScope sTextN) := ⟨rfl, rfl, rfl, by decide +kernel, rfl, by decide +kernel, by decide +kernel⟩
theorem ok_letter {f : Addr} {fd : FuncData} (F : Fun K "is_letter" "is_letter" sLetter f fd) : FnOk P w K mg base CX0 1 f fd ["sign"] spLetter := by
  refine F.ok scLetter (fun vs H Q E h => ?_) (fun cdv A outer s H vs Q E hr h => ?_)
  · obtain ⟨c, rfl, _⟩ := h
    rfl
  obtain ⟨c, rfl, q⟩ := h
  refine ⟨_, pss_one (ps_ret (pe_chain op_le_str op_le_str pe_str (pv 0) pe_str)), ?_⟩
  have e1 : (!decide ((⟨#[c]⟩ : Str).cps.toList < ("a" : Str).cps.toList)) = decide (97 ≤ c) := by
    show (!decide ([c] < [97])) = _
    rw [one_lt]
    by_cases h : c < 97
    · rw [decide_eq_true h, decide_eq_false (by omega)]
      rfl
    · rw [decide_eq_false h, decide_eq_true (by omega)]
      rfl
  have e2 : (!decide (("z" : Str).cps.toList < (⟨#[c]⟩ : Str).cps.toList)) = decide (c ≤ 122) := by
    show (!decide ([122] < [c])) = _
    rw [one_lt]
    by_cases h : 122 < c
    · rw [decide_eq_true h, decide_eq_false (by omega)]
      rfl
    · rw [decide_eq_false h, decide_eq_true (by omega)]
      rfl
  unfold isL at q
  refine ⟨_, rfl, _, _, rfl, rfl, ?_⟩
  rw [e1]
  refine ⟨_, rfl, ?_⟩
  cases h : decide (97 ≤ c) with
  | false =>
    rw [h, Bool.false_and] at q
    exact iteF q
  | true =>
    rw [h, Bool.true_and] at q
    refine iteT ⟨_, _, rfl, rfl, ?_⟩
    rw [e2]
    exact q
theorem ok_textn {f aK : Addr} {fd : FuncData} (F : Fun K "is_text_name" "is_text_name" sTextN f fd) (IN : Def P w K mg base CX0 "is_name" 1 ["thing"] (spIsName K)) (mK : mg "KEPT_WORDS" = some (.ref aK)) (hK : ∀ H, SqT K H aK (keptW.map V.str)) : FnOk P w K mg base CX0 2 f fd ["word"] (spTextN K) := by
  refine F.ok scTextN (fun vs H Q E h => ?_) (fun cdv A outer s H vs Q E hr h => ?_)
  · obtain ⟨x, rfl, _⟩ := h
    rfl
  obtain ⟨x, rfl, hx, q⟩ := h
  refine ⟨_, pss_one (ps_ret (pe_and (pe_def IN hr rfl (pa_cons (pv 0) pa_nil)) (pe_one (pe_cmpR op_notIn_seq (pv 0) (pe_glob (v := .ref aK) rfl mK rfl) (by rfl))))), ?_⟩
  refine ⟨_, rfl, 0, 0, _, .str x, rfl, .str x hx, _, rfl, ?_⟩
  have e : textN x = (isNameS x && !decide (x ∈ keptW)) := rfl
  rw [e] at q
  show if isNameS x = true then _ else _
  cases h : isNameS x with
  | false =>
    rw [h, Bool.false_and] at q
    exact iteF q
  | true =>
    rw [h, Bool.true_and] at q
    refine iteT ⟨_, rfl, aK, _, rfl, .inr (hK H), rfl, flat_strs _, ?_⟩
    rw [inV_strs]
    exact q
end
end Kn
set_option Elab.async false
set_option linter.all false
set_option maxRecDepth 100000
set_option maxHeartbeats 4000000
set_option pp.maxSteps 1200
namespace Kn
open PySem L2 TL PySem.Spec PyProof.Rows
/-! ### part_text, bare_text -/
abbrev sPartText : Stmt := top 35
abbrev sBareText : Stmt := top 36
def sigTab : List (Str × Str) := [("and", "&"), ("xor", "^"), ("or", "|")]
def sigG (z : Str) : Option V := (sigTab.lookup z).map V.str
theorem KTab.kd {K : PySem.W.Frag} {w : World} {d : Addr} {g : Str → Option V} {z : Str} {v : V} (T : KTab K w d g) (h : g z = some v) : KDct K w d z v := by
  obtain ⟨es, n, D⟩ := T.at_
  obtain ⟨r, e1, e2⟩ := T.get z
  rw [h] at e2
  obtain ⟨u, rfl, rv⟩ := e2
  exact ⟨es, n, u, D.at_, D.lit, e1, rv⟩
theorem vsFt {a b : Str} {A B : Prop} (h : ¬ a = b) (hb : B) : if decide (V.str a = V.str b) = true then A else B := by
  rw [if_neg]
  · exact hb
  · intro c
    exact h (V.str.inj (of_decide_eq_true c))
theorem vsTt {a b : Str} {A B : Prop} (h : a = b) (ha : A) : if decide (V.str a = V.str b) = true then A else B := by
  rw [if_pos]
  · exact ha
  · rw [h]
    exact decide_eq_true rfl
/-! the text, put together -/
def parS (lv n : Nat) (z : Str) : Str := if lv < n then ((Str.empty ++ ("(" : Str)) ++ z) ++ (")" : Str) else z
def binS (a s b : Str) : Str := ((((Str.empty ++ a) ++ (" " : Str)) ++ s) ++ (" " : Str)) ++ b
def bareS : Fo Str → Str
  | .yes => "1" | .no => "0" | .nam x => x
  | .neg f => (Str.empty ++ ("!" : Str)) ++ parS f.lev 4 (bareS f)
  | .con f g => binS (parS f.lev 3 (bareS f)) "&" (parS g.lev 4 (bareS g))
  | .dis f g => binS (parS f.lev 1 (bareS f)) "|" (parS g.lev 2 (bareS g))
  | .xor f g => binS (parS f.lev 2 (bareS f)) "^" (parS g.lev 3 (bareS g))
  | .ite f g h => ((((Str.empty ++ parS f.lev 1 (bareS f)) ++ (" ? " : Str)) ++ bareS g) ++ (" : " : Str)) ++ bareS h
  | .put x f g => ((((Str.empty ++ x) ++ (" := " : Str)) ++ bareS f) ++ (" in " : Str)) ++ bareS g
  | .som x f => binS "some" x (bareS f)
  | .all x f => binS "all" x (bareS f)
theorem parS_len (a b : Nat) (z : Str) : (parS a b z).length ≤ z.length + 2 := by
  unfold parS
  split
  · simp only [Str.length_append, show Str.empty.length = 0 from rfl, show ("(" : Str).length = 1 from rfl, show (")" : Str).length = 1 from rfl]
    omega
  · omega
theorem binS_len (a s b : Str) : (binS a s b).length = a.length + s.length + b.length + 2 := by
  unfold binS
  simp only [Str.length_append, show Str.empty.length = 0 from rfl, show (" " : Str).length = 1 from rfl]
  omega
theorem name_len {x : Str} (h : isNameS x = true) : x.length ≤ 8 := by
  unfold isNameS at h
  rw [Bool.and_eq_true, Bool.and_eq_true] at h
  exact of_decide_eq_true h.1.2
theorem bare_len : ∀ f : Fo Str, f.ok → (bareS f).length ≤ 20 * f.sz
  | .yes, _ => by decide
  | .no, _ => by decide
  | .nam x, h => by
    have := name_len (h x (List.mem_singleton.mpr rfl))
    simp only [bareS, Fo.sz]
    omega
  | .neg f, h => by
    have h1 := bare_len f (fo_ok_kid h List.mem_cons_self)
    have h2 := parS_len f.lev 4 (bareS f)
    simp only [bareS, Fo.sz, Str.length_append, show Str.empty.length = 0 from rfl, show ("!" : Str).length = 1 from rfl]
    omega
  | .con f g, h => by
    have h1 := bare_len f (fo_ok_kid h List.mem_cons_self)
    have h2 := bare_len g (fo_ok_kid h (List.mem_cons_of_mem _ List.mem_cons_self))
    have h3 := parS_len f.lev 3 (bareS f)
    have h4 := parS_len g.lev 4 (bareS g)
    simp only [bareS, Fo.sz, binS_len, show ("&" : Str).length = 1 from rfl]
    omega
  | .dis f g, h => by
    have h1 := bare_len f (fo_ok_kid h List.mem_cons_self)
    have h2 := bare_len g (fo_ok_kid h (List.mem_cons_of_mem _ List.mem_cons_self))
    have h3 := parS_len f.lev 1 (bareS f)
    have h4 := parS_len g.lev 2 (bareS g)
    simp only [bareS, Fo.sz, binS_len, show ("|" : Str).length = 1 from rfl]
    omega
  | .xor f g, h => by
    have h1 := bare_len f (fo_ok_kid h List.mem_cons_self)
    have h2 := bare_len g (fo_ok_kid h (List.mem_cons_of_mem _ List.mem_cons_self))
    have h3 := parS_len f.lev 2 (bareS f)
    have h4 := parS_len g.lev 3 (bareS g)
    simp only [bareS, Fo.sz, binS_len, show ("^" : Str).length = 1 from rfl]
    omega
  | .ite f g e, h => by
    have h1 := bare_len f (fo_ok_kid h List.mem_cons_self)
    have h2 := bare_len g (fo_ok_kid h (List.mem_cons_of_mem _ List.mem_cons_self))
    have h3 := bare_len e (fo_ok_kid h (List.mem_cons_of_mem _ (List.mem_cons_of_mem _ List.mem_cons_self)))
    have h4 := parS_len f.lev 1 (bareS f)
    simp only [bareS, Fo.sz, Str.length_append, show Str.empty.length = 0 from rfl, show (" ? " : Str).length = 3 from rfl, show (" : " : Str).length = 3 from rfl]
    omega
  | .som x f, h => by
    have h1 := bare_len f (fo_ok_kid h List.mem_cons_self)
    have h2 := name_len (h x List.mem_cons_self)
    simp only [bareS, Fo.sz, binS_len, show ("some" : Str).length = 4 from rfl]
    omega
  | .all x f, h => by
    have h1 := bare_len f (fo_ok_kid h List.mem_cons_self)
    have h2 := name_len (h x List.mem_cons_self)
    simp only [bareS, Fo.sz, binS_len, show ("all" : Str).length = 3 from rfl]
    omega
  | .put x f g, h => by
    have h1 := bare_len f (fo_ok_kid h List.mem_cons_self)
    have h2 := bare_len g (fo_ok_kid h (List.mem_cons_of_mem _ List.mem_cons_self))
    have h3 := name_len (h x List.mem_cons_self)
    simp only [bareS, Fo.sz, Str.length_append, show Str.empty.length = 0 from rfl, show (" := " : Str).length = 4 from rfl, show (" in " : Str).length = 4 from rfl]
    omega
/-! a thing's tuple, taken apart -/
section
variable {K : PySem.W.Frag} {s l : Addr} {H : Hp} {v : V} {w : Str} {d1 d2 d3 : PyData}
theorem tg_1 (h : Tg K s l H v (.tuple [.str w, d1])) : ∃ a x, v = .ref a ∧ SqT K H a [.str w, x] ∧ Tg K s l H x d1 := by
  cases h with
  | @tup a xs ds ha hxs =>
    cases hxs with
    | cons h0 hr =>
      cases h0
      cases hr with
      | cons h1 hr =>
        cases hr
        exact ⟨a, _, rfl, ha, h1⟩
theorem tg_2 (h : Tg K s l H v (.tuple [.str w, d1, d2])) : ∃ a x y, v = .ref a ∧ SqT K H a [.str w, x, y] ∧ Tg K s l H x d1 ∧ Tg K s l H y d2 := by
  cases h with
  | @tup a xs ds ha hxs =>
    cases hxs with
    | cons h0 hr =>
      cases h0
      cases hr with
      | cons h1 hr =>
        cases hr with
        | cons h2 hr =>
          cases hr
          exact ⟨a, _, _, rfl, ha, h1, h2⟩
theorem tg_3 (h : Tg K s l H v (.tuple [.str w, d1, d2, d3])) : ∃ a x y z, v = .ref a ∧ SqT K H a [.str w, x, y, z] ∧ Tg K s l H x d1 ∧ Tg K s l H y d2 ∧ Tg K s l H z d3 := by
  cases h with
  | @tup a xs ds ha hxs =>
    cases hxs with
    | cons h0 hr =>
      cases h0
      cases hr with
      | cons h1 hr =>
        cases hr with
        | cons h2 hr =>
          cases hr with
          | cons h3 hr =>
            cases hr
            exact ⟨a, _, _, _, rfl, ha, h1, h2, h3⟩
theorem tg_s {x : Str} (h : Tg K s l H v (.str x)) : v = .str x ∧ okS x = true := by
  cases h with
  | str _ o => exact ⟨rfl, o⟩
end
def spBareT (K : PySem.W.Frag) (n : Nat) : Sp := fun vs H Q _ => ∃ (s l : Addr) (v : V) (f : Fo Str), vs = [v] ∧ Tg K s l H v f.d ∧ f.ok ∧ f.hgt < n ∧ f.sz ≤ 60 ∧ ∀ H', Same H H' → Q (.str (bareS f)) H'
def spPartT (K : PySem.W.Frag) (n : Nat) : Sp := fun vs H Q _ => ∃ (s l : Addr) (v : V) (f : Fo Str) (lv : Nat), vs = [v, .int (lv : Nat)] ∧ Tg K s l H v f.d ∧ f.ok ∧ f.hgt < n ∧ f.sz ≤ 60 ∧ ∀ H', Same H H' → Q (.str (parS f.lev lv (bareS f))) H'
section
variable {P : Program} {w : World} {K : PySem.W.Frag} {mg : Str → Option Value} {base : Heap}
theorem scPartText : FnScope ["formula", "least", "text"] ["formula", "least"] (defScope sPartText) := ⟨rfl, rfl, rfl, by decide +kernel, rfl, by decide +kernel, by decide +kernel⟩
theorem scBareText : FnScope ["formula", "word", "level", "head"] ["formula"] (defScope sBareText) := ⟨rfl, rfl, rfl, by decide +kernel, rfl, by decide +kernel, by decide +kernel⟩
theorem ok_parttext {n : Nat} {f : Addr} {fd : FuncData} (F : Fun K "part_text" "part_text" sPartText f fd) (LV : Def P w K mg base CX0 "level_of" 1 ["formula"] (spLevel K)) (BT : Def P w K mg base CX0 "bare_text" (2 * n + 2) ["formula"] (spBareT K n)) :
    FnOk P w K mg base CX0 (2 * n + 3) f fd ["formula", "least"] (spPartT K n) := by
  refine F.ok scPartText (fun vs H Q E h => ?_) (fun cdv A outer s H vs Q E hr h => ?_)
  · obtain ⟨s, l, v, f, lv, rfl, _⟩ := h
    rfl
  obtain ⟨s, l, v, fo, lv, rfl, hv, ho, hh, hs, q⟩ := h
  have hr1 : Room 1 _ := hr.mono (by omega)
  refine ⟨_, pss_cons (ps_set (i := 2) scPartText.nd rfl (Or.inl rfl) (pe_def BT hr rfl (pa_cons (pv 0) pa_nil)))
    (pss_one (ps_ret (pe_ifExp (pt_cmpR op_lt (pe_def LV hr1 rfl (pa_cons (pv 0) pa_nil)) (pv 1) (nomark _)) (pe_joined (.cons pe_str (.cons (pe_fmt (pv 2)) (.cons pe_str .nil)))) (pv 2)))), ?_⟩
  have z : sizeLine = 16777216 := sizeLine_eq
  have hl := bare_len fo ho
  have e1 : (Str.empty ++ ("(" : Str)).length = 1 := rfl
  have e2 : (")" : Str).length = 1 := rfl
  refine ⟨_, rfl, s, l, v, fo, rfl, hv, ho, hh, hs, fun H1 s1 => ?_⟩
  refine ⟨_, rfl, s, l, v, fo, rfl, hv.same s1, _, rfl, _, _, rfl, rfl, _, rfl, ite2 (fun h => ?_) (fun h => ?_)⟩
  · have q := q H1 s1
    rw [parS, if_pos (by have := of_decide_eq_true h; omega)] at q
    refine ⟨_, rfl, by omega, _, rfl, .inl ⟨_, rfl, by omega, _, rfl, ?_, _, rfl, ?_, q⟩⟩
    · rw [Str.length_append]
      omega
    · rw [Str.length_append, Str.length_append]
      omega
  · have q := q H1 s1
    rw [parS, if_neg (by intro c; exact h (decide_eq_true (by omega)))] at q
    exact ⟨_, rfl, q⟩
end
end Kn
set_option Elab.async false
set_option linter.all false
set_option maxRecDepth 100000
set_option maxHeartbeats 4000000
set_option pp.maxSteps 1200
namespace Kn
open PySem L2 TL PySem.Spec PyProof.Rows
/-! ### _law_is_name -/
def isLow (c : Nat) : Bool := decide (97 ≤ c) && decide (c ≤ 122)
theorem abc_isLow : ∀ c : Nat, decide (c ∈ abc.cps.toList) = isLow c := by
  intro c
  by_cases h : c < 128
  · exact (by decide +kernel : ∀ c ∈ List.range 128, decide (c ∈ abc.cps.toList) = isLow c) c (List.mem_range.mpr h)
  · have h1 : ∀ d ∈ abc.cps.toList, d ≤ 122 := by decide +kernel
    have h2 : c ∉ abc.cps.toList := fun z => by
      have := h1 c z
      omega
    rw [decide_eq_false h2]
    unfold isLow
    rw [decide_eq_false (show ¬ c ≤ 122 by omega), Bool.and_false]
theorem low_all (z : Str) : lowB z = z.cps.toList.all isLow := by
  unfold lowB
  rfl
theorem one_ok {z : Str} {c : Nat} (h : PyData.strOk z = true) (hc : c ∈ z.cps.toList) : PyData.strOk ⟨#[c]⟩ = true := by
  unfold PyData.strOk at h ⊢
  rw [← Array.all_toList, List.all_eq_true] at h
  have := h c hc
  simp only [List.all_cons, List.all_nil, Bool.and_true, Array.all_toList.symm]
  exact this
theorem filt_nil (l : List Nat) : (l.filter fun c => !isLow c).isEmpty = l.all isLow := by
  induction l with
  | nil => rfl
  | cons c r ih =>
    rw [List.filter_cons, List.all_cons]
    cases hc : isLow c with
    | true =>
      rw [if_neg (by decide), ih, Bool.true_and]
    | false =>
      rw [if_pos (by decide), Bool.false_and]
      rfl
theorem scLIsName : FnScope ["thing", "sign"] ["thing"] (defScope sLIsName) := ⟨rfl, rfl, rfl, by decide +kernel, rfl, by decide +kernel, by decide +kernel⟩
def spLIsName (K : PySem.W.Frag) : Sp := fun vs H Q _ => ∃ (s l : Addr) (v : V) (d : PyData), vs = [v] ∧ Tg K s l H v d ∧ ∀ H', Same H H' → Q (.bl (isNameD d)) H'
section
variable {P : Program} {w : World} {K : PySem.W.Frag} {mg : Str → Option Value} {base : Heap}
theorem ok_lisname {f : Addr} {fd : FuncData} (F : Fun K "_law_is_name" "_law_is_name" sLIsName f fd) (mi : mg "isinstance" = none) (ms : mg "str" = none) (ml : mg "len" = none) : FnOk P w K mg base CX0 1 f fd ["thing"] (spLIsName K) := by
  refine F.ok scLIsName (fun vs H Q E h => ?_) (fun cdv A outer s H vs Q E hr h => ?_)
  · obtain ⟨s, l, v, d, rfl, _⟩ := h
    rfl
  obtain ⟨s, l, v, d, rfl, hv, q⟩ := h
  refine ⟨_, pss_cons (ps_if (PW.pt (pw_or (pt_not (pt_val (pe_callB call_isi (by rfl) mi PyProof.Rows.boot_isinstance (pa_cons (pv 0) (pa_cons (pe_bltn (v := .ty "str") (by rfl) ms PyProof.Rows.boot_str rfl) pa_nil)))))
      (pw_or (pt_cmpR op_eq (pv 0) pe_str (nomark _)) (pw_or1 (pt_cmpR op_gt (pe_callB call_len (by rfl) ml PySem.boot_len (pa_cons (pv 0) pa_nil)) pe_int (nomark _))))))
      (pss_one (ps_ret pe_bl)) pss_nil)
    (pss_one (ps_ret (pe_cmpR (op_eqD hr.units) (pe_lc (own := [("sign", 1)]) (g := gName 1) rfl scLIsName.nd (pi_str (pv 0)) (blkOk_by (own := [("sign", 1)]) (N := ["thing", "sign"]) (sc := defScope sLIsName) (by decide +kernel))
      (fun _ _ _ _ _ => pg_name (i := 1) scLIsName.nd rfl (Or.inl rfl)) (fun _ _ _ _ _ => pts_one (pt_cmpR op_notIn_str (pv 1) pe_str (by rfl))) (fun _ _ _ _ _ => pv 1)) (pe_lst pa_nil) (nomark _)))), ?_⟩
  refine ⟨_, rfl, ?_⟩
  obtain ⟨ty, ty1, _, ty2⟩ := tg_ty hv
  refine ⟨v, .ty "str", .type ty, .type "str", isStr d, rfl, .ty _, ty1, kit_ty ty2, _, rfl, ?_⟩
  cases hv with
  | str z hz =>
    have hz1 := okS_len hz
    have hz2 : z.length ≤ sizeLine := Nat.le_of_lt (small1000 hz1)
    have e : isNameD (.str z) = (decide (1 ≤ z.length) && decide (z.length ≤ 8) && lowB z) := rfl
    have e0 : decide (V.str z = V.str ("" : Str)) = decide (z.length = 0) := by
      by_cases h : z.length = 0
      · rw [decide_eq_true h]
        refine decide_eq_true ?_
        have : z.cps.size = 0 := h
        have h2 : z.cps = #[] := Array.eq_empty_of_size_eq_zero this
        congr 1
        cases z
        congr 1
      · rw [decide_eq_false h]
        refine decide_eq_false fun q => h ?_
        rw [V.str.inj q]
        rfl
    refine iteF ⟨_, rfl, rfl, _, rfl, ?_⟩
    rw [e0]
    by_cases h0 : z.length = 0
    · rw [decide_eq_true h0]
      refine iteT ?_
      rw [e, decide_eq_false (show ¬ 1 ≤ z.length by omega), Bool.false_and, Bool.false_and] at q
      exact q H (Same.refl H)
    rw [decide_eq_false h0]
    refine iteF ⟨_, rfl, _, _, rfl, ⟨hz2, rfl⟩, _, _, rfl, rfl, _, rfl, ite2 (fun c8 => ?_) (fun c8 => ?_)⟩
    · have h8 : (8 : Int) < (z.length : Int) := of_decide_eq_true c8
      rw [e, decide_eq_false (show ¬ z.length ≤ 8 by omega), Bool.and_false, Bool.false_and] at q
      exact q H (Same.refl H)
    have h8 : ¬ (8 : Int) < (z.length : Int) := of_decide_eq_false (Bool.eq_false_iff.mpr c8)
    rw [e, decide_eq_true (show 1 ≤ z.length by omega), decide_eq_true (show z.length ≤ 8 by omega), Bool.true_and, Bool.true_and, low_all] at q
    refine ⟨_, rfl, z, rfl, fun D hD => ?_⟩
    refine lc_it (walk_str (z := z)) (fun j H' => Same H H' ∧ H' D = some (.lst ((((z.cps.toList.take j).filter fun c => !isLow c).map fun c => (⟨#[c]⟩ : Str)).map V.str)))
      ⟨same_mut hD (Same.refl _), upd_same⟩ (fun _ _ _ _ => True.intro) ?_ ?_
    · rintro j x Ha Hb hj ⟨p1, p2⟩ ⟨rfl, cc, hcc, rfl⟩
      have h5 : z.cps.toList[j]? = some cc := by
        rw [← hcc]
        simp
      have e5 : z.cps.toList.take (j + 1) = z.cps.toList.take j ++ [cc] := by
        rw [List.take_add_one, h5]
        rfl
      refine ⟨rfl, ?_⟩
      show _
      refine ⟨_, rfl, _, _, rfl, rfl, _, rfl, ?_⟩
      have ec : (!(!(Builtin.Str.occurrences abc ⟨#[cc]⟩ 0 abc.length 1).isEmpty)) = !isLow cc := by
        rw [StrLaws.found_one, abc_isLow]
      refine ite2 (fun c => ?_) (fun c => ?_)
      · have c : (!isLow cc) = true := ec.symm.trans c
        refine ⟨_, rfl, _, p2, ?_, same_mut hD p1, ?_⟩
        · rw [List.length_map, List.length_map]
          have a1 := List.length_filter_le (fun c => !isLow c) (z.cps.toList.take j)
          rw [List.length_take] at a1
          have a2 : z.cps.toList.length = z.length := by simp [Str.length]
          exact small1000 (by omega)
        · rw [upd_same, e5, List.filter_append, List.map_append, List.map_append]
          have : ([cc].filter fun c => !isLow c) = [cc] := by simp [c]
          rw [this]
          rfl
      · have c : ¬ (!isLow cc) = true := fun z2 => c (ec.trans z2)
        refine ⟨p1, ?_⟩
        rw [e5, List.filter_append]
        have : ([cc].filter fun c => !isLow c) = [] := by simp at c; simp [c]
        rw [this, List.append_nil]
        exact p2
    · rintro H4 ⟨p1, p2⟩
      have e6 : z.cps.toList.take z.cps.size = z.cps.toList := by
        rw [List.take_of_length_le]
        simp
      rw [e6] at p2
      refine ⟨Nat.zero_le _, fun t3 ht3 => ⟨.list (((z.cps.toList.filter fun c => !isLow c).map fun c => (⟨#[c]⟩ : Str)).map PyData.str), .list [], .lst (SqL.of (s_at (same_new ht3 _) p2)) (dpStrs _), .lst (SqL.of upd_same) .nil, shStrs fun y hy => ?_, rfl, ?_⟩⟩
      · obtain ⟨c, hc, rfl⟩ := List.mem_map.mp hy
        exact one_ok (okS_ok hz) (List.mem_filter.mp hc).1
      · rw [eqvStrs0]
        have : (((z.cps.toList.filter fun c => !isLow c).map fun c => (⟨#[c]⟩ : Str))).isEmpty = z.cps.toList.all isLow := by
          rw [List.isEmpty_map, filt_nil]
        rw [this]
        exact q _ (Same.trans p1 (same_new ht3 _))
  | _ => exact iteT (q H (Same.refl H))
end
end Kn
set_option Elab.async false
set_option linter.all false
set_option maxRecDepth 100000
set_option maxHeartbeats 4000000
set_option pp.maxSteps 1200
namespace Kn
open PySem L2 TL PySem.Spec PyProof.Rows
/-! ### a list beside the empty list -/
def rNeN (K : PySem.W.Frag) : R2 := fun x y H Q => ∃ a b xs, x = .ref a ∧ y = .ref b ∧ SqL K H a xs ∧ SqL K H b [] ∧ Q (.bl (!xs.isEmpty)) H
theorem op_neN {X : Cx} (hu : X.A.units + 64 < cLine) : OpR X (compareOp .NotEq) (rNeN X.K) := by
  intro pins s σ H x y v u Q I rx ry h
  obtain ⟨a, b, xs, rfl, rfl, ha, hb, q⟩ := h
  cases rx
  cases ry
  obtain ⟨its, r, pl, hz⟩ := I.list ha
  obtain ⟨its2, r2, pl2, _⟩ := I.list hb
  have l1 : its.length = xs.length := r.length.symm
  have l2 : its2.length = 0 := r2.length.symm
  show wpAny (model X.prog X.w) X.A (richCompare .NotEq (.ref a) (.ref b)) _ _ s
  cases xs with
  | nil =>
    refine PySem.SeqAt.RcNeAt.lists (e := fun _ => true) pl.isList pl2.isList ?_ (by omega) (fun j h1 _ => ?_) _ _ _ _ ?_
    · rw [List.size_toArray, List.size_toArray, l1, l2]
      rfl
    · rw [List.size_toArray, l1] at h1
      exact absurd h1 (Nat.not_lt_zero _)
    · have e : (List.range its.toArray.size).all (fun _ => true) = true := by simp
      rw [e]
      exact ⟨.bl false, H, I, rfl, q⟩
  | cons y r =>
    refine PySem.SeqAt.RcNeAt.lists_lengths pl.isList pl2.isList ?_ (by omega) _ _ _ _ ?_
    · rw [List.size_toArray, List.size_toArray, l1, l2]
      rfl
    · exact ⟨.bl true, H, I, rfl, q⟩
theorem op_catAK {X : Cx} {K : PySem.W.Frag} (h : X.K = K) : OpR X (binaryOp .Add) (rCatA K) := by
  subst h
  exact op_catA
/-! ### _law_place -/
/-! #### entries, lists changing -/
def TK (K : PySem.W.Frag) (H H' : Hp) : Prop := ∀ a xs, SqT K H a xs → SqT K H' a xs
section
variable {K : PySem.W.Frag} {s l : Addr} {H0 H H' : Hp}
theorem tk_same (e : Same H H') : TK K H H' := fun _ _ h => Same.seqT e h
theorem tk_put {p : Addr} {xs : List V} {o : HO} (hp : H p = some (.lst xs)) : TK K H (upd H p o) := fun a ys h => by
  rcases h with (h | ⟨u, h⟩) | h
  · exact .inl (.inl (by rw [upd_ne (ne_of h hp (by intro z; cases z))]; exact h))
  · exact .inl (.inr ⟨u, by rw [upd_ne (ne_of h hp (by intro z; cases z))]; exact h⟩)
  · exact .inr h
def EntP (K : PySem.W.Frag) (s l : Addr) (H0 H : Hp) (x : V) (e : List Nat × PyData) : Prop := ∃ (t u : Addr) (y : V), x = .ref t ∧ SqT K H t [.ref u, y] ∧ SqT K H u (wayV e.1) ∧ Tg K s l H0 y e.2 ∧ e.1.length ≤ 10 ∧ ∀ n ∈ e.1, n < 16
inductive EntsP (K : PySem.W.Frag) (s l : Addr) (H0 H : Hp) : List V → List (List Nat × PyData) → Prop
  | nil : EntsP K s l H0 H [] []
  | cons {x : V} {r : List V} {e : List Nat × PyData} {es : List (List Nat × PyData)} : EntP K s l H0 H x e → EntsP K s l H0 H r es → EntsP K s l H0 H (x :: r) (e :: es)
theorem EntP.tk (k : TK K H H') {x : V} {e : List Nat × PyData} (h : EntP K s l H0 H x e) : EntP K s l H0 H' x e := let ⟨t, u, y, e1, h1, h2, h3⟩ := h; ⟨t, u, y, e1, k _ _ h1, k _ _ h2, h3⟩
theorem EntsP.tk (k : TK K H H') : ∀ {x : List V} {e : List (List Nat × PyData)}, EntsP K s l H0 H x e → EntsP K s l H0 H' x e
  | _, _, .nil => .nil
  | _, _, .cons a b => .cons (a.tk k) (EntsP.tk k b)
theorem EntsP.app : ∀ {a b : List V} {x y : List (List Nat × PyData)}, EntsP K s l H0 H a x → EntsP K s l H0 H b y → EntsP K s l H0 H (a ++ b) (x ++ y)
  | _, _, _, _, .nil, h => h
  | _, _, _, _, .cons a b, h => .cons a (EntsP.app b h)
theorem EntsP.len : ∀ {a : List V} {x : List (List Nat × PyData)}, EntsP K s l H0 H a x → a.length = x.length
  | _, _, .nil => rfl
  | _, _, .cons _ b => congrArg (· + 1) (EntsP.len b)
end
/-- how long a part is by its word -/
def longsK : List (Key × V) := shapeTab.map fun p => (.inr p.1, .int ((1 + p.2.1 + p.2.2 : Nat) : Int))
theorem longs_get (z : Str) : valV longsK (.inr z) = (shapeT z).map fun q => .int ((1 + q.1 + q.2 : Nat) : Int) := by
  have key : ∀ l : List (Str × (Nat × Nat)), valV (l.map fun p => ((.inr p.1 : Key), V.int ((1 + p.2.1 + p.2.2 : Nat) : Int))) (.inr z) = (l.lookup z).map fun q => .int ((1 + q.1 + q.2 : Nat) : Int) := by
    intro l
    induction l with
    | nil => rfl
    | cons p r ih =>
      obtain ⟨y, q⟩ := p
      rw [List.map_cons]
      by_cases h : y = z
      · subst h
        rw [valV_pos rfl, List.lookup_cons_self]
        rfl
      · rw [valV_neg (fun e => h (Sum.inr.inj e)), ih]
        have : (z == y) = false := beq_eq_false_iff_ne.mpr fun e => h e.symm
        rw [List.lookup_cons, this]
  exact key shapeTab
def WP (K : PySem.W.Frag) (s l : Addr) (H0 : Hp) (v : V) (d0 : PyData) (m : Nat) (σ : L2.St) (H : Hp) : Prop := ∃ (ns : List Str) (st : List (List Nat × PyData)) (es : List V) (met : Nat) (pg pl pm : Addr) (x5 x6 x7 x8 : Option V),
  σ = [some v, some (.ref pg), some (.ref pl), some (.ref pm), some (.int (met : Nat)), x5, x6, x7, x8] ∧ H pg = some (.dK longsK) ∧ H pl = some (.lst es.reverse) ∧ H pm = some (.lst (ns.map V.str)) ∧ H0 pg = none ∧ H0 pl = none ∧ H0 pm = none ∧ pm ≠ pl ∧
  EntsP K s l H0 H es st ∧ Same H0 H ∧ ns.length ≤ 10 ∧ m + met = 61 ∧ met ≤ 60 ∧ st.length ≤ 2 * met + 1 ∧ walk m met ns st = placeD d0
abbrev nPl : List Str := ["thing", "longs", "left", "names", "met", "way", "part", "some", "k"]
def spPlace (K : PySem.W.Frag) : Sp := fun vs H Q _ => ∃ (s l : Addr) (v : V) (d : PyData), vs = [v] ∧ Tg K s l H v d ∧
  (placeD d = none → ∀ H', Same H H' → Q .non H') ∧
  ∀ way, placeD d = some way → ∀ (H' : Hp) (p : Addr), Same H H' → SqT K H' p (wayV way) → way.length ≤ 10 → (∀ n ∈ way, n < 16) → Q (.ref p) H'
section
variable {P : Program} {w : World} {K : PySem.W.Frag} {mg : Str → Option Value} {base : Heap}
theorem scPlace : FnScope nPl ["thing"] (defScope sPlace) := ⟨rfl, rfl, rfl, by decide +kernel, rfl, by decide +kernel, by decide +kernel⟩
theorem ok_place {f : Addr} {fd : FuncData} (F : Fun K "_law_place" "_law_place" sPlace f fd) (N : Def P w K mg base CX0 "_law_is_name" 1 ["thing"] (spLIsName K)) (O : Def P w K mg base CX0 "_law_own" 1 ["formula"] (spOwn K))
    (mi : mg "isinstance" = none) (ms : mg "str" = none) (mt : mg "tuple" = none) (ml : mg "len" = none) (mn : mg "int" = none) (mr : mg "range" = none) : FnOk P w K mg base CX0 2 f fd ["thing"] (spPlace K) := by
  refine F.ok scPlace (fun vs H Q E h => ?_) (fun cdv A outer s H vs Q E hr h => ?_)
  · obtain ⟨s, l, v, d, rfl, _⟩ := h
    rfl
  obtain ⟨s0, l0, v, d0, rfl, hv, qn, qp⟩ := h
  refine ⟨_, pss_cons (ps_set (i := 1) scPlace.nd rfl (Or.inl rfl) (pe_disp (pps_cons pe_str pe_int (pps_cons pe_str pe_int (pps_cons pe_str pe_int (pps_cons pe_str pe_int (pps_cons pe_str pe_int (pps_cons pe_str pe_int (pps_cons pe_str pe_int (pps_cons pe_str pe_int (pps_cons pe_str pe_int (pps_cons pe_str pe_int pps_nil)))))))))) (by rfl) (by rfl) (fun z => by cases z) (by decide)))
    (pss_cons (ps_dput (hu_of hr) (pv 1) pe_str pe_int rfl)
    (pss_cons (ps_par3 (i := 2) (j := 3) (l := 4) rfl scPlace.nd rfl rfl rfl (by decide) (by decide) (by decide) rfl rfl rfl (pa_cons (pe_lst (pa_cons (pe_tup (pa_cons (pe_tup pa_nil) (pa_cons (pv 0) pa_nil))) pa_nil)) (pa_cons (pe_lst pa_nil) (pa_cons pe_int pa_nil))) rfl)
    (pss_cons (ps_while PassesOwn.never (pt_cmpR (op_neN hr.units) (pv 2) (pe_lst pa_nil) (nomark _))
      (pss_cons (ps_asg (pe_bm0 PySem.F.plainAttrs_list PySem.F.slot_list_pop PySem.F.type_list_pop mt_pop (pv 2)) (pg_tup rfl (pgs_cons (pg_name (i := 5) scPlace.nd rfl (Or.inr rfl)) (pgs_cons (pg_name (i := 6) scPlace.nd rfl (Or.inl rfl)) pgs_nil))))
      (pss_cons (ps_if (PW.pt (pw_or (pt_cmpR op_eq (pv 4) pe_int (nomark _)) (pw_or (pt_cmpR op_eq (pe_callB call_len_seq (by rfl) ml PySem.boot_len (pa_cons (pv 5) pa_nil)) pe_int (nomark _)) (pw_or (pt_not (pt_val (pe_callB call_isi (by rfl) mi PyProof.Rows.boot_isinstance (pa_cons (pv 6) (pa_cons (pe_bltn (v := .ty "tuple") (by rfl) mt PyProof.Rows.boot_tuple rfl) pa_nil)))))
          (pw_or1 (pt_cmpR op_eq (pe_callB call_len_seq (by rfl) ml PySem.boot_len (pa_cons (pv 6) pa_nil)) pe_int (nomark _))))))) (pss_one (ps_ret (pv 5))) pss_nil)
      (pss_cons (ps_if (PW.pt (pw_or (pt_not (pt_val (pe_callB call_isi (by rfl) mi PyProof.Rows.boot_isinstance (pa_cons (pe_ix ix_tup (pv 6) pe_int (fun _ _ => rfl)) (pa_cons (pe_bltn (v := .ty "str") (by rfl) ms PyProof.Rows.boot_str rfl) pa_nil)))))
          (pw_or1 (pt_cmpR op_ne (pe_callB call_len_seq (by rfl) ml PySem.boot_len (pa_cons (pv 6) pa_nil)) (pe_dget2 (hu_of hr) (pv 1) (pe_ix ix_tup (pv 6) pe_int (fun _ _ => rfl)) pe_int ⟨rfl, rfl, rfl, rfl⟩) (nomark _))))) (pss_one (ps_ret (pv 5))) pss_nil)
      (Evl.pss_cut (ps_if (pt_cmpR op_in_seq (pe_ix ix_tup (pv 6) pe_int (fun _ _ => rfl)) (pe_tup (pa_cons pe_str (pa_cons pe_str (pa_cons pe_str (pa_cons pe_str pa_nil))))) (by rfl))
        (pss_cons (ps_if (pt_not (pt_val (pe_def N hr rfl (pa_cons (pe_ix ix_tup (pv 6) pe_int (fun _ _ => rfl)) pa_nil)))) (pss_one (ps_ret (pv 5))) pss_nil)
        (pss_one (ps_set (i := 3) scPlace.nd rfl (Or.inl rfl) (pe_op op_cat (pv 3) (pe_op op_rep (pe_lst (pa_cons (pe_ix ix_tup (pv 6) pe_int (fun _ _ => rfl)) pa_nil)) (pe_callTy call_int1 (by rfl) mn (by decide +kernel) (pa_cons (pe_cmpR op_notIn_seq (pe_ix ix_tup (pv 6) pe_int (fun _ _ => rfl)) (pv 3) (by rfl)) pa_nil))))))) pss_nil)
      (pss_cons (ps_if (pt_cmpR op_eq (pe_callB call_len_seq (by rfl) ml PySem.boot_len (pa_cons (pv 3) pa_nil)) pe_int (nomark _)) (pss_one (ps_ret (pv 5))) pss_nil)
      (pss_cons (ps_set (i := 4) scPlace.nd rfl (Or.inl rfl) (pe_op op_add (pv 4) pe_int))
      (pss_cons (ps_set (i := 7) scPlace.nd rfl (Or.inr rfl) (pe_def O hr rfl (pa_cons (pv 6) pa_nil)))
      (pss_one (ps_set (i := 2) scPlace.nd rfl (Or.inl rfl) (pe_op op_cat (pv 2)
        (pe_lc (own := [("k", 8)]) (g := gName 8) (tt := tYes) rfl scPlace.nd (pi_range1 rfl mr (pa_cons (pe_callB call_len_seq (by rfl) ml PySem.boot_len (pa_cons (pv 7) pa_nil)) pa_nil)) (blkOk_by (own := [("k", 8)]) (N := nPl) (sc := defScope sPlace) (by decide +kernel))
          (fun _ _ _ _ _ => pg_name (i := 8) scPlace.nd rfl (Or.inl rfl)) (fun _ _ _ _ _ => pts_nil)
          (fun _ _ _ _ _ => pe_tup (pa_cons (pe_op (op_catAK (K := K) rfl) (pv 5) (pe_tup (pa_cons (pe_op op_sub (pe_op op_sub (pe_callB (call_lenK (K := K) rfl) (by rfl) ml PySem.boot_len (pa_cons (pv 7) pa_nil)) pe_int) (pv 8)) pa_nil)))
            (pa_cons (pe_ix (ix_listK (K := K) rfl) (pv 7) (pe_op op_sub (pe_op op_sub (pe_callB (call_lenK (K := K) rfl) (by rfl) ml PySem.boot_len (pa_cons (pv 7) pa_nil)) pe_int) (pv 8)) (fun _ _ => rfl)) pa_nil)))))))))))))))
    (pss_one (ps_ret pe_non))))), ?_⟩
  refine fun pg hpg => ⟨upd_same, (shapeTab.take 10).map fun p => (.inr p.1, .int ((1 + p.2.1 + p.2.2 : Nat) : Int)), rfl, (by decide), _, rfl, pg, _, rfl, DPut.k (k := .inr "put") upd_same ?_, ?_⟩
  · rw [mergeK_nd (by show ((shapeTab.take 10).map fun p => (Sum.inr p.1 : Key)).Nodup; decide +kernel)]
    exact Nat.lt_of_le_of_lt (show _ ≤ 10 by decide) (by decide)
  have eL : putK (mergeK [] ((shapeTab.take 10).map fun p => ((Sum.inr p.1 : Key), V.int ((1 + p.2.1 + p.2.2 : Nat) : Int)))) (.inr "put") (.int 4) = longsK := by
    rw [mergeK_nd (by show ((shapeTab.take 10).map fun p => (Sum.inr p.1 : Key)).Nodup; decide +kernel)]
    rfl
  rw [eL]
  have f1 : Same H (upd (upd (upd H pg (.dK [])) pg (.dK (mergeK [] ((shapeTab.take 10).map fun p => ((Sum.inr p.1 : Key), V.int ((1 + p.2.1 + p.2.2 : Nat) : Int)))))) pg (.dK longsK)) := same_mut hpg (same_mut hpg (same_new hpg _))
  have f2 : (upd (upd (upd H pg (.dK [])) pg (.dK (mergeK [] ((shapeTab.take 10).map fun p => ((Sum.inr p.1 : Key), V.int ((1 + p.2.1 + p.2.2 : Nat) : Int)))))) pg (.dK longsK)) pg = some (.dK longsK) := upd_same
  generalize upd (upd (upd H pg (.dK [])) pg (.dK (mergeK [] ((shapeTab.take 10).map fun p => ((Sum.inr p.1 : Key), V.int ((1 + p.2.1 + p.2.2 : Nat) : Int)))))) pg (.dK longsK) = Hg at *
  refine ⟨Nat.zero_le _, fun t0 ht0 => ⟨_, rfl, (by show 2 ≤ sizeLine; decide), fun t1 ht1 => ⟨(by show 1 ≤ sizeLine; decide), fun pl hpl => ⟨Nat.zero_le _, fun pm hpm => ⟨_, _, _, rfl, ?_⟩⟩⟩⟩⟩
  have h1 : Same Hg (upd Hg t0 (.tup [])) := same_new ht0 _
  have h2 := Same.trans h1 (same_new ht1 (.tup [V.ref t0, v]))
  have h3 := Same.trans h2 (same_new hpl (.lst [V.ref t1]))
  have h4 := Same.trans h3 (same_new hpm (.lst []))
  refine ⟨WP K s0 l0 H v d0, ⟨61, ?_⟩, fun m σ H1 hW => ?_⟩
  · refine ⟨[], [([], d0)], [.ref t1], 0, pg, pl, pm, _, _, _, _, rfl, h4 _ _ f2, s_at (same_new hpm _) upd_same, upd_same, hpg, none_back (Same.trans f1 h2) hpl, none_back (Same.trans f1 h3) hpm, fun z => ?_, .cons ⟨t1, t0, v, rfl, ?_, ?_, hv, Nat.zero_le _, fun n hn => by cases hn⟩ .nil, Same.trans f1 h4, Nat.zero_le _, rfl, Nat.zero_le _, Nat.le_refl _, rfl⟩
    · rw [z, upd_same] at hpm
      cases hpm
    · exact SqT.of (s_at (Same.trans (same_new hpl _) (same_new hpm _)) upd_same)
    · exact SqT.of (s_at (Same.trans (same_new ht1 (.tup [V.ref t0, v])) (Same.trans (same_new hpl _) (same_new hpm _))) upd_same)
  clear f1 f2 h1 h2 h3 h4 ht0 ht1 hpl hpm eL hpg
  obtain ⟨ns, st, es, met, pg, pl, pm, x5, x6, x7, x8, rfl, g1, g2, g3, n1, n2, n3, ne, ent, sa, hn, hm, h60, hst, hwk⟩ := hW
  refine ⟨_, rfl, Nat.zero_le _, fun te hte => ⟨pl, te, _, rfl, rfl, SqL.of (s_at (same_new hte _) g2), SqL.of upd_same, _, rfl, ?_⟩⟩
  have e1 : Same H1 (upd H1 te (.lst [])) := same_new hte _
  have g1 := e1 _ _ g1
  have g2 := e1 _ _ g2
  have g3 := e1 _ _ g3
  have ent := ent.tk (tk_same e1)
  have sa := Same.trans sa e1
  clear e1
  generalize upd H1 te (.lst []) = H2 at *
  obtain ⟨m, rfl⟩ : ∃ k, m = k + 1 := ⟨m - 1, by omega⟩
  cases ent with
  | nil => exact iteF (qn hwk.symm H2 sa)
  | @cons e er e0 sr he hr0 =>
    obtain ⟨way, d1⟩ := e0
    obtain ⟨t, u, y, rfl, a1, a2, a3, a4, a5⟩ := he
    have a4 : way.length ≤ 10 := a4
    have a5 : ∀ n ∈ way, n < 16 := a5
    have hne : (!(V.ref t :: er).reverse.isEmpty) = true := by simp
    rw [hne]
    refine iteT ⟨fun σ' H' => WP K s0 l0 H v d0 m σ' H', fun _ _ h => ⟨m, Nat.lt_succ_self m, h⟩, ?_⟩
    have hlast : (V.ref t :: er).reverse[(V.ref t :: er).reverse.length - 1]? = some (V.ref t) := by simp
    have hdl : (V.ref t :: er).reverse.dropLast = er.reverse := by simp
    refine ⟨_, rfl, .inl ⟨rfl, _, SqL.of g2⟩, pl, _, _, rfl, rfl, g2, hlast, ?_⟩
    rw [hdl]
    have k1 : TK K H2 (upd H2 pl (.lst er.reverse)) := tk_put g2
    have g1' : upd H2 pl (.lst er.reverse) pg = some (.dK longsK) := by
      rw [upd_ne (ne_of g1 g2 (by intro z; cases z))]
      exact g1
    have g3' : upd H2 pl (.lst er.reverse) pm = some (.lst (ns.map V.str)) := by
      rw [upd_ne ne]
      exact g3
    have g2' : upd H2 pl (.lst er.reverse) pl = some (.lst er.reverse) := upd_same
    have sa := same_mut n2 sa (o := .lst er.reverse)
    have a1 := k1 _ _ a1
    have a2 := k1 _ _ a2
    have hr0 := hr0.tk k1
    clear k1 g1 g2 g3
    generalize upd H2 pl (.lst er.reverse) = H3 at *
    have a3' := a3.same sa
    refine ⟨t, _, rfl, a1, rfl, _, _, rfl, _, _, rfl, rfl, ?_⟩
    have e9 : (wayV way).length = way.length := List.length_map ..
    have gone : placeD d0 = some way → ∀ H', Same H3 H' → Q (.ref u) H' := fun hw H' e => qp way hw H' u (Same.trans sa e) (Same.seqT e a2) a4 a5
    unfold walk at hwk
    refine ⟨_, rfl, rfl, _, rfl, ite2 (fun c1 => ?_) (fun c1 => ⟨_, rfl, u, _, rfl, .inr a2, rfl, _, rfl, ite2 (fun c2 => ?_) (fun c2 => ?_)⟩)⟩
    · have c : (met : Int) = 60 := V.int.inj (of_decide_eq_true c1)
      rw [if_pos (.inl (by omega))] at hwk
      exact ⟨_, rfl, gone hwk.symm H3 (Same.refl _)⟩
    · have c : ((wayV way).length : Int) = 10 := V.int.inj (of_decide_eq_true c2)
      rw [if_pos (.inr (by omega))] at hwk
      exact ⟨_, rfl, gone hwk.symm H3 (Same.refl _)⟩
    have hno : ¬ (met ≥ 60 ∨ way.length > 9) := by
      have b1 : ¬ V.int (met : Int) = V.int 60 := of_decide_eq_false (Bool.eq_false_iff.mpr c1)
      have b2 : ¬ V.int ((wayV way).length : Int) = V.int 10 := of_decide_eq_false (Bool.eq_false_iff.mpr c2)
      have b3 : met ≠ 60 := fun z => b1 (by rw [z]; rfl)
      have b4 : way.length ≠ 10 := fun z => b2 (by rw [e9, z]; rfl)
      omega
    rw [if_neg hno] at hwk
    have bad : formD d1 = none → ∀ H', Same H3 H' → Q (.ref u) H' := fun hf => by
      rw [hf] at hwk
      exact gone hwk.symm
    obtain ⟨ty, ty1, ty2, _⟩ := tg_ty a3'
    refine ⟨_, rfl, y, .ty "tuple", .type ty, .type "tuple", isTup d1, rfl, .ty _, ty1, kit_ty ty2, _, rfl, ?_⟩
    cases a3' with
    | @tup a xs ds ha hxs =>
      refine iteF ⟨_, rfl, a, _, rfl, .inr ha, rfl, _, rfl, ?_⟩
      cases hxs with
      | nil => exact iteT ⟨_, rfl, bad rfl H3 (Same.refl _)⟩
      | @cons x0 xr d0' dr h0 hr1 =>
        have e0 : decide (V.int (((x0 :: xr).length : Nat) : Int) = V.int 0) = false := decide_eq_false fun z => by
          have := V.int.inj z
          rw [List.length_cons] at this
          omega
        rw [e0]
        refine iteF ⟨_, rfl, a, _, _, x0, rfl, rfl, ha, atI_nat (j := 0) rfl, ?_⟩
        obtain ⟨tz, tz1, _, tz2⟩ := tg_ty h0
        refine ⟨x0, .ty "str", .type tz, .type "str", isStr d0', rfl, .ty _, tz1, kit_ty tz2, _, rfl, ?_⟩
        cases h0 with
        | str z hz =>
          refine iteF ⟨_, rfl, a, _, rfl, .inr ha, _, rfl, pg, rfl, .inl ⟨_, .inl g1'⟩, _, rfl, a, _, _, _, rfl, rfl, ha, atI_nat (j := 0) rfl, _, DGet.k (k := .inr z) g1', ?_⟩
          rw [longs_get]
          have hrl : dr.length = xr.length := hr1.len
          cases hs : shapeT z with
          | none =>
            refine ⟨rfl, _, rfl, ?_⟩
            have : (!decide (V.int (((V.str z :: xr).length : Nat) : Int) = V.int 0)) = true := by
              rw [decide_eq_false (fun q => by
                have := V.int.inj q
                rw [List.length_cons] at this
                omega)]
              rfl
            have e : (!decide (V.int (((V.str z :: xr).length : Nat) : Int) = (Option.map (fun q : Nat × Nat => V.int ((1 + q.1 + q.2 : Nat) : Int)) none).getD (V.int 0))) = true := this
            rw [e]
            exact iteT ⟨_, rfl, bad (form_no hs) H3 (Same.refl _)⟩
          | some sp =>
            obtain ⟨p, p2⟩ := sp
            have hp1 : p ≤ 1 := (shapeT_word hs).2.2.1
            have hform := form_some (r := dr) hs
            refine ⟨rfl, _, rfl, ?_⟩
            by_cases hlen : dr.length = p + p2
            rotate_left
            · have e : (!decide (V.int (((V.str z :: xr).length : Nat) : Int) = (Option.map (fun q : Nat × Nat => V.int ((1 + q.1 + q.2 : Nat) : Int)) (some (p, p2))).getD (V.int 0))) = true := by
                show (!decide (V.int (((V.str z :: xr).length : Nat) : Int) = V.int ((1 + p + p2 : Nat) : Int))) = true
                rw [decide_eq_false (fun q => by
                  have := V.int.inj q
                  rw [List.length_cons] at this
                  omega)]
                rfl
              rw [e]
              refine iteT ⟨_, rfl, bad ?_ H3 (Same.refl _)⟩
              rw [decide_eq_false hlen, Bool.false_and] at hform
              exact Option.isNone_iff_eq_none.mp (by rw [← Option.not_isSome, hform]; rfl)
            have e : (!decide (V.int (((V.str z :: xr).length : Nat) : Int) = (Option.map (fun q : Nat × Nat => V.int ((1 + q.1 + q.2 : Nat) : Int)) (some (p, p2))).getD (V.int 0))) = false := by
              show (!decide (V.int (((V.str z :: xr).length : Nat) : Int) = V.int ((1 + p + p2 : Nat) : Int))) = false
              rw [decide_eq_true (by
                rw [List.length_cons]
                congr 1
                omega)]
              rfl
            rw [e]
            rw [decide_eq_true hlen, Bool.true_and] at hform
            have nodef : formD (.tuple (.str z :: dr)) = none → ∀ H', Same H3 H' → Q (.ref u) H' := bad
            refine iteF ⟨fun σ' H' => ∃ (pm' : Addr) (o : Option Str) (ps : List PyData), formD (.tuple (.str z :: dr)) = some (o, ps) ∧ σ' = [some v, some (.ref pg), some (.ref pl), some (.ref pm'), some (.int (met : Nat)), some (.ref u), some (.ref a), x7, x8] ∧ Same H3 H' ∧ H' pm' = some (.lst ((addN ns o).map V.str)) ∧ H pm' = none ∧ pm' ≠ pl, ?_, ?_⟩
            · refine ⟨_, rfl, a, _, _, _, rfl, rfl, ha, atI_nat (j := 0) rfl, (by show 4 ≤ sizeLine; decide), fun t1 ht1 => ⟨t1, _, rfl, .inr (SqT.of upd_same), rfl, rfl, _, rfl, ite2 (fun c3 => ?_) (fun c3 => ?_)⟩⟩
              · have c3 : decide (z ∈ n4) = true := (inV_strs z n4).symm.trans c3
                have p1 : p = 1 := (shape_kind hs).2.2.2.mp (of_decide_eq_true c3)
                subst p1
                cases hr1 with
                | nil =>
                  rw [List.length_nil] at hlen
                  omega
                | @cons x1 xr1 d2 dr1 h1 hr2 =>
                have e2 : Same H3 (upd H3 t1 (.tup [V.str "name", V.str "some", V.str "all", V.str "put"])) := same_new ht1 _
                refine ⟨_, rfl, a, _, _, x1, rfl, rfl, Same.seqT e2 ha, atI_nat (j := 1) rfl, s0, l0, x1, d2, rfl, h1.same e2, fun H4 e4 => ⟨_, rfl, ?_⟩⟩
                have e5 := Same.trans e2 e4
                clear e2 e4
                have hform : (formD (.tuple (.str z :: d2 :: dr1))).isSome = isNameD d2 := hform
                cases hnm : isNameD d2 with
                | false =>
                  rw [hnm] at hform
                  exact iteT ⟨_, rfl, nodef (Option.isNone_iff_eq_none.mp (by rw [← Option.not_isSome, hform]; rfl)) H4 e5⟩
                | true =>
                  refine iteF ?_
                  cases h1 with
                  | str x hx =>
                    have hf : formD (.tuple (.str z :: .str x :: dr1)) = some (some x, dr1) := by
                      rw [hnm] at hform
                      unfold formD at hform ⊢
                      dsimp only at hform ⊢
                      rw [hs] at hform ⊢
                      dsimp only at hform ⊢
                      split
                      · rfl
                      · rename_i hc
                        rw [if_neg hc] at hform
                        cases hform
                    have g3'' := e5 _ _ g3'
                    refine ⟨_, rfl, _, rfl, a, _, _, _, rfl, rfl, Same.seqT e5 ha, atI_nat (j := 1) rfl, (by show 1 ≤ sizeLine; decide), fun p1 hp1 => ?_⟩
                    have e6 := Same.trans e5 (same_new hp1 (.lst [V.str x]))
                    refine ⟨_, rfl, a, _, _, _, rfl, rfl, Same.seqT e6 ha, atI_nat (j := 1) rfl, _, rfl, pm, _, rfl, .inl (SqL.of (e6 _ _ g3')), rfl, flat_strs _, .inr ⟨_, rfl, p1, _, _, rfl, rfl, upd_same, ?_, ?_, ?_, fun p2 hp2 => ⟨pm, p2, _, _, rfl, rfl, (Same.trans e6 (same_new hp2 _)) _ _ g3', upd_same, ?_, fun p3 hp3 => ?_⟩⟩⟩
                    · show -(2 ^ 63) ≤ (if (!inV (V.str x) (ns.map V.str)) = true then (1 : Int) else 0)
                      split <;> decide
                    · show (if (!inV (V.str x) (ns.map V.str)) = true then (1 : Int) else 0) < 2 ^ 63
                      split <;> decide
                    · show 1 * (if (!inV (V.str x) (ns.map V.str)) = true then (1 : Int) else 0).toNat ≤ sizeLine
                      split <;> decide
                    · show (ns.map V.str).length + (List.replicate (if (!inV (V.str x) (ns.map V.str)) = true then (1 : Int) else 0).toNat [V.str x]).flatten.length ≤ sizeLine
                      rw [List.length_map]
                      split
                      · exact Nat.le_trans (show _ ≤ 11 by show ns.length + 1 ≤ 11; omega) (by decide)
                      · exact Nat.le_trans (show _ ≤ 11 by show ns.length + 0 ≤ 11; omega) (by decide)
                    · refine ⟨p3, some x, dr1, hf, rfl, Same.trans e6 (Same.trans (same_new hp2 _) (same_new hp3 _)), ?_, none_back (Same.trans sa (Same.trans e6 (same_new hp2 _))) hp3, fun z2 => ?_⟩
                      · rw [upd_same]
                        congr 2
                        show ns.map V.str ++ (List.replicate (if (!inV (V.str x) (ns.map V.str)) = true then (1 : Int) else 0).toNat [V.str x]).flatten = _
                        rw [inV_strs]
                        unfold addN
                        dsimp only
                        by_cases hxn : x ∈ ns
                        · rw [decide_eq_true hxn, if_pos hxn, if_neg (by decide)]
                          exact List.append_nil _
                        · rw [decide_eq_false hxn, if_neg hxn, if_pos (by decide), List.map_append]
                          rfl
                      · rw [z2, s_at (Same.trans e6 (same_new hp2 _)) g2'] at hp3
                        cases hp3
                  | _ => cases hnm
              · have c3 : ¬ z ∈ n4 := fun z2 => c3 ((inV_strs z n4).trans (decide_eq_true z2))
                have p0 : p = 0 := by
                  have : p ≠ 1 := fun z2 => c3 ((shape_kind hs).2.2.2.mpr z2)
                  omega
                subst p0
                have hf : formD (.tuple (.str z :: dr)) = some (none, dr) := by
                  unfold formD
                  dsimp only
                  rw [hs]
                  dsimp only
                  rw [if_pos (by omega)]
                refine ⟨pm, none, dr, hf, rfl, same_new ht1 _, (same_new ht1 _) _ _ g3', n3, ne⟩
            rintro σ H4 ⟨pm', o, ps, hf, rfl, e4, h4, n4', ne'⟩
            rw [hf] at hwk
            dsimp only at hwk
            have hps := form_few hf
            refine ⟨_, rfl, pm', _, rfl, .inl (SqL.of h4), rfl, _, rfl, ite2 (fun c5 => ?_) (fun c5 => ?_)⟩
            · have c : (((addN ns o).map V.str).length : Int) = 11 := V.int.inj (of_decide_eq_true c5)
              rw [List.length_map] at c
              rw [if_pos (by omega)] at hwk
              exact ⟨_, rfl, gone hwk.symm H4 e4⟩
            have hal := addN_len ns o
            have hle : ¬ (addN ns o).length > 10 := by
              have c : ¬ V.int (((addN ns o).map V.str).length : Int) = V.int 11 := of_decide_eq_false (Bool.eq_false_iff.mpr c5)
              rw [List.length_map] at c
              have : (addN ns o).length ≠ 11 := fun z2 => c (by rw [z2]; rfl)
              omega
            rw [if_neg hle] at hwk
            refine ⟨_, rfl, _, _, rfl, rfl, ?_⟩
            refine ⟨_, rfl, s0, l0, .ref a, .tuple (.str z :: dr), o, ps, H, rfl, Same.trans sa e4, a3, hf, fun H5 pq xs e5 n5 h5 hxs => ?_⟩
            have sb := Same.trans (Same.trans sa e4) e5
            have q2 : H5 pl = some (.lst er.reverse) := e5 _ _ (e4 _ _ g2')
            have q1 : H5 pg = some (.dK longsK) := e5 _ _ (e4 _ _ g1')
            have q3 : H5 pm' = some (.lst ((addN ns o).map V.str)) := e5 _ _ h4
            have qu : SqT K H5 u (wayV way) := Same.seqT (Same.trans e4 e5) a2
            have hxl : ps.length = xs.length := hxs.len
            have hrE := hr0.tk (tk_same (Same.trans e4 e5))
            refine ⟨_, rfl, _, rfl, pq, _, rfl, .inl (SqL.of h5), _, rfl, by omega, by omega, fun D hD => ?_⟩
            have hst' : sr.length ≤ 2 * met := by
              simp only [List.length_cons] at hst
              omega
            refine lc_range (lo := 0) (n := (xs.length : Int).toNat) (fun j H' => Same H5 H' ∧ ∃ es' : List V, H' D = some (.lst es'.reverse) ∧ EntsP K s0 l0 H H' es' ((kids way 0 ps).drop (ps.length - j)))
              ⟨same_mut hD (Same.refl _), [], upd_same, by rw [Nat.sub_zero, ← kids_length (way := way) (i := 0), List.drop_length]; exact .nil⟩ ?_ ?_
            · rintro j H6 hj ⟨e6, es', h6, ent'⟩
              obtain ⟨i, hi⟩ : ∃ i, ps.length - j = i + 1 := ⟨ps.length - j - 1, by omega⟩
              have ei : (xs.length : Int) - 1 - (0 + (j : Int)) = ((i : Nat) : Int) := by omega
              obtain ⟨dp, hdp⟩ : ∃ dp, ps[i]? = some dp := ⟨_, List.getElem?_eq_getElem (by omega)⟩
              obtain ⟨xp, hxp, hxt⟩ := hxs.get hdp
              have l6 : SqL K H6 pq xs := SqL.of (e6 _ _ h5)
              refine ⟨rfl, ?_⟩
              show _
              refine ⟨_, rfl, _, rfl, _, _, rfl, .inl ⟨_, l6, rfl⟩, _, _, rfl, rfl, _, rfl, _, _, rfl, rfl, ?_⟩
              refine ⟨(by show 1 ≤ sizeLine; decide), fun p1 hp1 => ?_⟩
              have y1 : Same H6 (upd H6 p1 (.tup [V.int ((xs.length : Int) - 1 - (0 + (j : Int)))])) := same_new hp1 _
              refine catA_any (ys := [V.int (i : Nat)]) (Same.seqT (Same.trans e6 y1) qu) (SqT.of (by rw [← ei]; exact upd_same)) (by rw [e9]; show way.length + 1 ≤ 1000; omega) fun H7 p7 e7 s7 => ?_
              have y2 := Same.trans y1 e7
              have l7 : SqL K H7 pq xs := SqL.of ((Same.trans e6 y2) _ _ h5)
              refine ⟨_, rfl, _, rfl, _, _, rfl, .inl ⟨_, l7, rfl⟩, _, _, rfl, rfl, _, rfl, _, _, rfl, rfl, ?_⟩
              refine ⟨pq, xs, (xs.length : Int) - 1 - (0 + (j : Int)), xp, rfl, rfl, l7, (by rw [ei]; exact atI_nat (j := i) hxp), (by show 2 ≤ sizeLine; decide), fun p8 hp8 => ?_⟩
              have y3 := Same.trans y2 (same_new hp8 (.tup [V.ref p7, xp]))
              have z8 : upd H7 p8 (.tup [V.ref p7, xp]) p8 = some (.tup [V.ref p7, xp]) := upd_same
              have z7 := Same.seqT (same_new hp8 (.tup [V.ref p7, xp])) s7
              have z6 := y3 _ _ h6
              clear y1 y2 hp8 e7 l6 l7
              generalize upd H7 p8 (.tup [V.ref p7, xp]) = H8 at *
              have le' : es'.length ≤ 3 := by
                rw [ent'.len, List.length_drop, kids_length]
                omega
              refine ⟨_, z6, ?_, same_mut hD (Same.trans e6 y3), V.ref p8 :: es', ?_, ?_⟩
              · rw [List.length_reverse]
                exact Nat.lt_of_le_of_lt le' (by decide)
              · rw [upd_same, List.reverse_cons]
              · have k9 : TK K H8 (upd H8 D (.lst (es'.reverse ++ [V.ref p8]))) := tk_put z6
                have e10 : ps.length - (j + 1) = i := by omega
                have ev : wayV (way ++ [i]) = wayV way ++ [V.int (i : Nat)] := by
                  unfold wayV
                  rw [List.map_append]
                  rfl
                rw [e10, kids_drop hdp, ← hi]
                refine .cons ⟨p8, p7, xp, rfl, k9 _ _ (SqT.of z8), k9 _ _ (by rw [ev]; exact z7), hxt, ?_, fun n hnn => ?_⟩ ((ent'.tk (tk_same y3)).tk k9)
                · rw [List.length_append, List.length_singleton]
                  omega
                · rcases List.mem_append.mp hnn with q | q
                  · exact a5 n q
                  · rw [List.mem_singleton.mp q]
                    omega
            · rintro H6 ⟨e6, es', h6, ent'⟩
              have e10 : ps.length - (xs.length : Int).toNat = 0 := by omega
              rw [e10, List.drop_zero] at ent'
              have l1 : es'.length = ps.length := by rw [ent'.len, kids_length]
              have l2 : er.length = sr.length := hrE.len
              refine ⟨pl, D, _, _, rfl, rfl, e6 _ _ q2, h6, ?_, fun p9 hp9 => ?_⟩
              · rw [List.length_reverse, List.length_reverse]
                exact Nat.le_trans (show _ ≤ 125 by omega) (by decide)
              have er2 : er.reverse ++ es'.reverse = (es' ++ er).reverse := by simp
              rw [er2]
              have y1 : Same H6 (upd H6 p9 (.lst (es' ++ er).reverse)) := same_new hp9 _
              have y2 := Same.trans e6 y1
              refine ⟨addN ns o, kids way 0 ps ++ sr, es' ++ er, met + 1, pg, p9, pm', _, _, _, _, rfl, y2 _ _ q1, upd_same, y2 _ _ q3, n1, none_back (Same.trans sb e6) hp9, n4', fun z2 => ?_, (ent'.tk (tk_same y1)).app (hrE.tk (tk_same y2)), Same.trans sb y2, by omega, by omega, by omega, ?_, hwk⟩
              · rw [← z2, e6 _ _ q3] at hp9
                cases hp9
              · rw [List.length_append, kids_length]
                omega
        | _ => exact iteT ⟨_, rfl, bad rfl H3 (Same.refl _)⟩
    | _ => exact iteT ⟨_, rfl, bad rfl H3 (Same.refl _)⟩
end
end Kn

set_option Elab.async false
set_option linter.all false
set_option maxRecDepth 100000
set_option maxHeartbeats 4000000
set_option pp.maxSteps 1200
namespace PySem.W
open PySem PySem.Spec PySem.Calls PyProof.Rows
/-! ### a tuple of nine classes in an except clause, the first one fits -/
section
variable {M : Model} {K : Frag}
theorem qn_exm1 {c1 c2 c3 c4 c5 c6 c7 c8 c9 cls : Value} {tp e : Addr} {b2 b3 b4 b5 b6 b7 b8 b9 : Bool} {h : Heap} (X : K.In h) (LT : Looks M h (typeOf (.ref e)) cls) (hp : h.get? tp = some { cls := .type "tuple", data := .seq [c1, c2, c3, c4, c5, c6, c7, c8, c9].toArray })
    (x1 : exmOne K cls c1 = some true) (x2 : exmOne K cls c2 = some b2) (x3 : exmOne K cls c3 = some b3) (x4 : exmOne K cls c4 = some b4) (x5 : exmOne K cls c5 = some b5) (x6 : exmOne K cls c6 = some b6) (x7 : exmOne K cls c7 = some b7) (x8 : exmOne K cls c8 = some b8) (x9 : exmOne K cls c9 = some b9) :
    Looks M h (excMatches (.ref e) (.ref tp)) true := by
  intro A Q E s k₀ q
  obtain ⟨hh, g, d, tk, os⟩ := s
  have k : ∀ b o, h.get? b = some o → hh.get? b = some o := k₀
  have LT0 := (((Looks.ld (M := M) hp).andThen .now).andThen (Looks.of_pure isSubtype_tuple_tuple) : Looks M h (isInstance (.ref tp) (.type "tuple")) true).keeps k
  have e1 := (exm_cls (M := M) X x1).1.keeps k
  have S1 := (exm_cls (M := M) X x1).2.keeps k
  have e2 := (exm_cls (M := M) X x2).1.keeps k
  have e3 := (exm_cls (M := M) X x3).1.keeps k
  have e4 := (exm_cls (M := M) X x4).1.keeps k
  have e5 := (exm_cls (M := M) X x5).1.keeps k
  have e6 := (exm_cls (M := M) X x6).1.keeps k
  have e7 := (exm_cls (M := M) X x7).1.keeps k
  have e8 := (exm_cls (M := M) X x8).1.keeps k
  have e9 := (exm_cls (M := M) X x9).1.keeps k
  have LT := LT.keeps k
  have hp' := k _ _ hp
  clear x1 x2 x3 x4 x5 x6 x7 x8 x9
  unfold excMatches
  refine wpAny_bind (LT0.at ?_)
  dsimp only
  rw [if_pos rfl]
  first
    | refine wpAny_bind (wpAny_seqItems hp' rfl ?_)
    | refine wpAny_bind (wpAny_bind (wpAny_seqItems hp' rfl (wpAny_pure ?_)))
  dsimp only [Option.getD_some, Option.getD]
  (repeat (first | simp only [List.forIn_cons, List.forIn_nil, Bool.not_true, Bool.false_eq_true, if_false, if_true] | lk))
  exact q
theorem qn_exm3 {c1 c2 c3 c4 c5 c6 c7 c8 c9 cls : Value} {tp e : Addr} {b4 b5 b6 b7 b8 b9 : Bool} {h : Heap} (X : K.In h) (LT : Looks M h (typeOf (.ref e)) cls) (hp : h.get? tp = some { cls := .type "tuple", data := .seq [c1, c2, c3, c4, c5, c6, c7, c8, c9].toArray })
    (x1 : exmOne K cls c1 = some false) (x2 : exmOne K cls c2 = some false) (x3 : exmOne K cls c3 = some true) (x4 : exmOne K cls c4 = some b4) (x5 : exmOne K cls c5 = some b5) (x6 : exmOne K cls c6 = some b6) (x7 : exmOne K cls c7 = some b7) (x8 : exmOne K cls c8 = some b8) (x9 : exmOne K cls c9 = some b9) :
    Looks M h (excMatches (.ref e) (.ref tp)) true := by
  intro A Q E s k₀ q
  obtain ⟨hh, g, d, tk, os⟩ := s
  have k : ∀ b o, h.get? b = some o → hh.get? b = some o := k₀
  have LT0 := (((Looks.ld (M := M) hp).andThen .now).andThen (Looks.of_pure isSubtype_tuple_tuple) : Looks M h (isInstance (.ref tp) (.type "tuple")) true).keeps k
  have e1 := (exm_cls (M := M) X x1).1.keeps k
  have S1 := (exm_cls (M := M) X x1).2.keeps k
  have S2 := (exm_cls (M := M) X x2).2.keeps k
  have S3 := (exm_cls (M := M) X x3).2.keeps k
  have e2 := (exm_cls (M := M) X x2).1.keeps k
  have e3 := (exm_cls (M := M) X x3).1.keeps k
  have e4 := (exm_cls (M := M) X x4).1.keeps k
  have e5 := (exm_cls (M := M) X x5).1.keeps k
  have e6 := (exm_cls (M := M) X x6).1.keeps k
  have e7 := (exm_cls (M := M) X x7).1.keeps k
  have e8 := (exm_cls (M := M) X x8).1.keeps k
  have e9 := (exm_cls (M := M) X x9).1.keeps k
  have LT := LT.keeps k
  have hp' := k _ _ hp
  clear x1 x2 x3 x4 x5 x6 x7 x8 x9
  unfold excMatches
  refine wpAny_bind (LT0.at ?_)
  dsimp only
  rw [if_pos rfl]
  first
    | refine wpAny_bind (wpAny_seqItems hp' rfl ?_)
    | refine wpAny_bind (wpAny_bind (wpAny_seqItems hp' rfl (wpAny_pure ?_)))
  dsimp only [Option.getD_some, Option.getD]
  (repeat (first | simp only [List.forIn_cons, List.forIn_nil, Bool.not_true, Bool.false_eq_true, if_false, if_true] | lk))
  exact q
theorem qn_exm6 {c1 c2 c3 c4 c5 c6 c7 c8 c9 cls : Value} {tp e : Addr} {b7 b8 b9 : Bool} {h : Heap} (X : K.In h) (LT : Looks M h (typeOf (.ref e)) cls) (hp : h.get? tp = some { cls := .type "tuple", data := .seq [c1, c2, c3, c4, c5, c6, c7, c8, c9].toArray })
    (x1 : exmOne K cls c1 = some false) (x2 : exmOne K cls c2 = some false) (x3 : exmOne K cls c3 = some false) (x4 : exmOne K cls c4 = some false) (x5 : exmOne K cls c5 = some false) (x6 : exmOne K cls c6 = some true) (x7 : exmOne K cls c7 = some b7) (x8 : exmOne K cls c8 = some b8) (x9 : exmOne K cls c9 = some b9) :
    Looks M h (excMatches (.ref e) (.ref tp)) true := by
  intro A Q E s k₀ q
  obtain ⟨hh, g, d, tk, os⟩ := s
  have k : ∀ b o, h.get? b = some o → hh.get? b = some o := k₀
  have LT0 := (((Looks.ld (M := M) hp).andThen .now).andThen (Looks.of_pure isSubtype_tuple_tuple) : Looks M h (isInstance (.ref tp) (.type "tuple")) true).keeps k
  have e1 := (exm_cls (M := M) X x1).1.keeps k
  have S1 := (exm_cls (M := M) X x1).2.keeps k
  have S2 := (exm_cls (M := M) X x2).2.keeps k
  have S3 := (exm_cls (M := M) X x3).2.keeps k
  have S4 := (exm_cls (M := M) X x4).2.keeps k
  have S5 := (exm_cls (M := M) X x5).2.keeps k
  have S6 := (exm_cls (M := M) X x6).2.keeps k
  have e2 := (exm_cls (M := M) X x2).1.keeps k
  have e3 := (exm_cls (M := M) X x3).1.keeps k
  have e4 := (exm_cls (M := M) X x4).1.keeps k
  have e5 := (exm_cls (M := M) X x5).1.keeps k
  have e6 := (exm_cls (M := M) X x6).1.keeps k
  have e7 := (exm_cls (M := M) X x7).1.keeps k
  have e8 := (exm_cls (M := M) X x8).1.keeps k
  have e9 := (exm_cls (M := M) X x9).1.keeps k
  have LT := LT.keeps k
  have hp' := k _ _ hp
  clear x1 x2 x3 x4 x5 x6 x7 x8 x9
  unfold excMatches
  refine wpAny_bind (LT0.at ?_)
  dsimp only
  rw [if_pos rfl]
  first
    | refine wpAny_bind (wpAny_seqItems hp' rfl ?_)
    | refine wpAny_bind (wpAny_bind (wpAny_seqItems hp' rfl (wpAny_pure ?_)))
  dsimp only [Option.getD_some, Option.getD]
  (repeat (first | simp only [List.forIn_cons, List.forIn_nil, Bool.not_true, Bool.false_eq_true, if_false, if_true] | lk))
  exact q
theorem qn_exm7 {c1 c2 c3 c4 c5 c6 c7 c8 c9 cls : Value} {tp e : Addr} {b8 b9 : Bool} {h : Heap} (X : K.In h) (LT : Looks M h (typeOf (.ref e)) cls) (hp : h.get? tp = some { cls := .type "tuple", data := .seq [c1, c2, c3, c4, c5, c6, c7, c8, c9].toArray })
    (x1 : exmOne K cls c1 = some false) (x2 : exmOne K cls c2 = some false) (x3 : exmOne K cls c3 = some false) (x4 : exmOne K cls c4 = some false) (x5 : exmOne K cls c5 = some false) (x6 : exmOne K cls c6 = some false) (x7 : exmOne K cls c7 = some true) (x8 : exmOne K cls c8 = some b8) (x9 : exmOne K cls c9 = some b9) :
    Looks M h (excMatches (.ref e) (.ref tp)) true := by
  intro A Q E s k₀ q
  obtain ⟨hh, g, d, tk, os⟩ := s
  have k : ∀ b o, h.get? b = some o → hh.get? b = some o := k₀
  have LT0 := (((Looks.ld (M := M) hp).andThen .now).andThen (Looks.of_pure isSubtype_tuple_tuple) : Looks M h (isInstance (.ref tp) (.type "tuple")) true).keeps k
  have e1 := (exm_cls (M := M) X x1).1.keeps k
  have S1 := (exm_cls (M := M) X x1).2.keeps k
  have S2 := (exm_cls (M := M) X x2).2.keeps k
  have S3 := (exm_cls (M := M) X x3).2.keeps k
  have S4 := (exm_cls (M := M) X x4).2.keeps k
  have S5 := (exm_cls (M := M) X x5).2.keeps k
  have S6 := (exm_cls (M := M) X x6).2.keeps k
  have S7 := (exm_cls (M := M) X x7).2.keeps k
  have e2 := (exm_cls (M := M) X x2).1.keeps k
  have e3 := (exm_cls (M := M) X x3).1.keeps k
  have e4 := (exm_cls (M := M) X x4).1.keeps k
  have e5 := (exm_cls (M := M) X x5).1.keeps k
  have e6 := (exm_cls (M := M) X x6).1.keeps k
  have e7 := (exm_cls (M := M) X x7).1.keeps k
  have e8 := (exm_cls (M := M) X x8).1.keeps k
  have e9 := (exm_cls (M := M) X x9).1.keeps k
  have LT := LT.keeps k
  have hp' := k _ _ hp
  clear x1 x2 x3 x4 x5 x6 x7 x8 x9
  unfold excMatches
  refine wpAny_bind (LT0.at ?_)
  dsimp only
  rw [if_pos rfl]
  first
    | refine wpAny_bind (wpAny_seqItems hp' rfl ?_)
    | refine wpAny_bind (wpAny_bind (wpAny_seqItems hp' rfl (wpAny_pure ?_)))
  dsimp only [Option.getD_some, Option.getD]
  (repeat (first | simp only [List.forIn_cons, List.forIn_nil, Bool.not_true, Bool.false_eq_true, if_false, if_true] | lk))
  exact q
/-- the first class that fits is the first, third, sixth or seventh of nine -/
def Fit9 (K : Frag) (cls c1 c2 c3 c4 c5 c6 c7 c8 c9 : Value) : Prop :=
  let x := fun c => exmOne K cls c
  let s := fun c => ∃ b, exmOne K cls c = some b
  (x c1 = some true ∧ s c2 ∧ s c3 ∧ s c4 ∧ s c5 ∧ s c6 ∧ s c7 ∧ s c8 ∧ s c9) ∨ (x c1 = some false ∧ x c2 = some false ∧ x c3 = some true ∧ s c4 ∧ s c5 ∧ s c6 ∧ s c7 ∧ s c8 ∧ s c9) ∨
  (x c1 = some false ∧ x c2 = some false ∧ x c3 = some false ∧ x c4 = some false ∧ x c5 = some false ∧ x c6 = some true ∧ s c7 ∧ s c8 ∧ s c9) ∨
  (x c1 = some false ∧ x c2 = some false ∧ x c3 = some false ∧ x c4 = some false ∧ x c5 = some false ∧ x c6 = some false ∧ x c7 = some true ∧ s c8 ∧ s c9)
theorem fit9_looks {c1 c2 c3 c4 c5 c6 c7 c8 c9 cls : Value} {tp e : Addr} {h : Heap} (X : K.In h) (LT : Looks M h (typeOf (.ref e)) cls) (hp : h.get? tp = some { cls := .type "tuple", data := .seq [c1, c2, c3, c4, c5, c6, c7, c8, c9].toArray }) (F : Fit9 K cls c1 c2 c3 c4 c5 c6 c7 c8 c9) :
    Looks M h (excMatches (.ref e) (.ref tp)) true := by
  rcases F with ⟨x1, ⟨_, x2⟩, ⟨_, x3⟩, ⟨_, x4⟩, ⟨_, x5⟩, ⟨_, x6⟩, ⟨_, x7⟩, ⟨_, x8⟩, ⟨_, x9⟩⟩ | ⟨x1, x2, x3, ⟨_, x4⟩, ⟨_, x5⟩, ⟨_, x6⟩, ⟨_, x7⟩, ⟨_, x8⟩, ⟨_, x9⟩⟩ | ⟨x1, x2, x3, x4, x5, x6, ⟨_, x7⟩, ⟨_, x8⟩, ⟨_, x9⟩⟩ | ⟨x1, x2, x3, x4, x5, x6, x7, ⟨_, x8⟩, ⟨_, x9⟩⟩
  · exact qn_exm1 X LT hp x1 x2 x3 x4 x5 x6 x7 x8 x9
  · exact qn_exm3 X LT hp x1 x2 x3 x4 x5 x6 x7 x8 x9
  · exact qn_exm6 X LT hp x1 x2 x3 x4 x5 x6 x7 x8 x9
  · exact qn_exm7 X LT hp x1 x2 x3 x4 x5 x6 x7 x8 x9
end
end PySem.W
namespace Kn
open PySem L2 TL PySem.Spec PyProof.Rows
/-! ### an exception in the air, things laid beside it -/
theorem fly_push {B h : Heap} {l : List Env} {a : Addr} {Z : Obj → Prop} {o : Obj} (x : HandSPX.FlyingZ B l a Z h) : HandSPX.FlyingZ B l a Z (h.push o) := by
  obtain ⟨h1, h2, h3, oe, vs, T, oT, ts, e1, e2, e3, e4, e5, e6, e7, e8, e9⟩ := x
  exact ⟨fun b u q => Heap.get?_push_of_some _ (h1 b u q), h2, Heap.FunFrames.of_keeps (fun b u q _ => ⟨u, Heap.get?_push_of_some _ q, rfl⟩) h3, oe, vs, T, oT, ts, Heap.get?_push_of_some _ e1, e2, e3, e4, e5, e6, Heap.get?_push_of_some _ e7, e8, e9⟩
/-- names of classes in a row -/
inductive NamesL (X : Cx) : List Expr → List Value → Prop
  | nil : NamesL X [] []
  | cons {x : Str} {c : Value} {p : Pos} {es : List Expr} {cs : List Value} : Names X x c → NamesL X es cs → NamesL X (.Name x p :: es) (c :: cs)
theorem namesL_run {X : Cx} {a : Addr} {pn pins : List (Addr × Obj)} {σ : L2.St} {H : Hp} {s : Shared} (I : Inv (X.suite a pn) pins σ H s) {E : Value → Shared → Prop} {pos : Pos} : ∀ {es : List Expr} {cs : List Value} {Q : List Value → Shared → Prop}, NamesL X es cs → Q cs s →
    wpAny (model X.prog X.w) (X.A.mark (some (.ref a))) (spliced (backTo pos (starEach es X.env))) Q E s
  | _, _, Q, .nil, q => Calls.spliced_nil q
  | _, _, Q, .cons (x := x) (c := c) (p := p) (es := es) (cs := cs) hn hr, q => by
    show wpAny _ _ (spliced ((false, eval (.Name x p) X.env) :: backTo pos (starEach es X.env))) _ _ s
    refine Calls.spliced_cons ?_
    have rest : wpAny (model X.prog X.w) (X.A.mark (some (.ref a))) (spliced (backTo pos (starEach es X.env))) (fun us s2 => Q (c :: us) s2) E s := namesL_run I hr q
    obtain ⟨hg, hd, hm | ⟨hm, hv, hnn⟩⟩ := hn
    · exact ld_glob (X := X.suite a pn) I hg hm rest hd
    · exact ld_blt (X := X.suite a pn) I hg hm hv rest hnn hd
/-! ### try .. except (C1, .., C9) as n: y = n, and what follows, with the exception kept -/
section
variable {X : Cx} {pins pn' : List (Addr × Obj)} {σ : L2.St} {H : Hp} {s : Shared} {a : Addr} {q : Addr × Obj} {xe : Value → Shared → Prop}
theorem untr (I : Inv (X.tr (q :: (X.pn ++ pins)) xe) pn' σ H s) (ok : X.Ok) : Inv X pins σ H s :=
  ⟨ok, I.os, I.bare, I.base, I.loc, I.cell, I.free, I.freeC, fun p hp => I.pin p (List.mem_append_left pn' (List.mem_cons_of_mem q hp)), I.hok, I.len⟩
theorem totr (I : Inv (X.suite a (q :: (X.pn ++ pins))) [] σ H s) (ok : X.Ok) : Inv (X.tr (q :: (X.pn ++ pins)) X.xe) [] σ H s :=
  ⟨ok.toTry _ _, I.os, I.bare, I.base, I.loc, I.cell, I.free, I.freeC, fun p hp => I.pin p hp, I.hok, I.len⟩
theorem push_any (I : Inv X pins σ H s) (o : Obj) : Inv X pins σ H { s with heap := s.heap.push o } := I.kept (t' := s.toks) fun b ob e => Heap.get?_push_of_some _ e
end
/-- an end that isn't reached -/
def never : Ends := { nx := fun _ _ => False, rt := fun _ _ => False, bk := fun _ _ => False, ct := fun _ _ => False }
def wKp (K : PySem.W.Frag) (c1 c2 c3 c4 c5 c6 c7 c8 c9 : Value) (i j ln : Nat) (tr : Addr → Value → Option Addr → TS) (D : Ends) : WX := fun cls d σ H =>
  PySem.W.Fit9 K cls c1 c2 c3 c4 c5 c6 c7 c8 c9 ∧ ∀ a, H a = none → σ.length = ln → tr a cls d D (((σ.set i (some (.ref a))).set j (some (.ref a))).set i none) H
section
variable {X : Cx} {body rest : List Stmt} {n y : Str} {i j kt : Nat} {es : List Expr} {tpos npos ypos apos pos pos' : Pos} {c1 c2 c3 c4 c5 c6 c7 c8 c9 : Value} {tb : WX → TS} {tr : Addr → Value → Option Addr → TS}
theorem pss_keep (hs : X.stack = X.env :: X.outer) (hf : X.env.frame = some X.env.locals) (hN : X.N.Nodup) (hi : X.N[i]? = some n) (hln : X.env.kindOf n = some .local) (hv : Vis X.env.scope n) (hnd : (n == ("__debug__" : Str)) = false) (hnc : (n == ("__classdict__" : Str)) = false) (hj : X.N[j]? = some y) (hly : Loc X.env.scope y) (hlk : X.env.scope.names.lookup y = some .local)
    (hes : NamesL X es [c1, c2, c3, c4, c5, c6, c7, c8, c9]) (hsw : swapsWith (.Name n npos) (some (.Name y ypos)) apos.line X.env = pure false)
    (hb : ∀ (W : WX) (pn : List (Addr × Obj)) (xe : Value → Shared → Prop), Takes (X.tr pn xe) W → PassesOwn (model X.prog X.w) X.A X.env xe → PSs (X.tr pn xe) body (tb W))
    (hr : ∀ (a : Addr) (oe : Obj) (cls : Value) (d : Option Addr) (pn : List (Addr × Obj)), Zc cls d oe → (∃ vs, oe.data = .fields vs) → PSs (X.tr ((a, oe) :: pn) X.xe) rest (tr a cls d)) :
    PSs X (.Try body [.ExceptHandler (some (.Tuple es kt tpos)) (some n) [.Assign [.Name y ypos] (.Name n npos) apos] pos'] [] [] pos :: rest) (fun D σ H => tb (wKp X.K c1 c2 c3 c4 c5 c6 c7 c8 c9 i j X.N.length tr D) never σ H) := by
  refine ⟨fun pins s σ H D I h => ?_⟩
  have ok := I.ok; have hfr : X.A.frames = some (X.env :: X.outer) := by rw [ok.frames, hs]
  have main : wpAny (model X.prog X.w) X.A (exec (.Try body [.ExceptHandler (some (.Tuple es kt tpos)) (some n) [.Assign [.Name y ypos] (.Name n npos) apos] pos'] [] [] pos) X.env)
      (fun f s1 => f = Flow.next ∧ ∃ (a : Addr) (oe : Obj) (cls : Value) (d : Option Addr) (σ' : L2.St) (H' : Hp), Zc cls d oe ∧ (∃ vs, oe.data = .fields vs) ∧ Inv (X.tr ((a, oe) :: (X.pn ++ pins)) X.xe) [] σ' H' s1 ∧ tr a cls d D σ' H') X.xe s := by
    refine wpAny_Try_except ?_
    refine wpAny_mono ((hb (wKp X.K c1 c2 c3 c4 c5 c6 c7 c8 c9 i j X.N.length tr D) (X.pn ++ pins) (fun e s₁ => wpAny (model X.prog X.w) X.A (noteFrame e X.env) (fun _ s₂ => wpAny (model X.prog X.w) X.A (setFlight e none) (fun _ s₃ =>
      wpAny (model X.prog X.w) X.A (handleBy e X.env [.ExceptHandler (some (.Tuple es kt tpos)) (some n) [.Assign [.Name y ypos] (.Name n npos) apos] pos'])
        (fun f s1 => f = Flow.next ∧ ∃ (a : Addr) (oe : Obj) (cls : Value) (d : Option Addr) (σ' : L2.St) (H' : Hp), Zc cls d oe ∧ (∃ vs, oe.data = .fields vs) ∧ Inv (X.tr ((a, oe) :: (X.pn ++ pins)) X.xe) [] σ' H' s1 ∧ tr a cls d D σ' H') X.xe s₃) X.xe s₂) X.xe s₁) (fun u s' xx => ?_) PassesOwn.looking).run [] s σ H never (I.toTry _) h) (fun f s1 hsp => ?_) (fun e s1 he => he)
    · obtain ⟨a, BB, sI, pins', σ', H', cls, d, rfl, G', nb, up, sky, na, os, ag, w1, w3⟩ := xx
      have G : Inv X pins σ' H' sI := G'.ofTry ok
      have sky' : Sky BB (X.env :: X.outer) a (Zc cls d) X.env.locals s'.heap := hs ▸ sky
      show wpAny (model X.prog X.w) X.A (noteFrame (.ref a) X.env) _ _ _
      refine Sky.land Zc.steady hfr hf sky' fun g3 fl3 up3 => ?_
      have G3 : Inv X pins σ' H' { s' with heap := g3 } := G.landed nb fl3.1 (up.trans up3) os ag
      obtain ⟨o3, v3, he3, hz3, hd3⟩ := fl3.there
      have nfr : a ∉ frs (X.env :: X.outer) := fun hm => by
        obtain ⟨_, o', e', hnf⟩ := (fl3.2.2.1).mem hm
        rw [he3] at e'
        cases e'
        exact hnf _ hd3
      have nL : a ≠ X.env.locals := fun z => nfr (List.mem_filterMap.mpr ⟨X.env, .head _, by rw [hf, z]⟩)
      have nF : a ∉ X.fs := fun hm => by
        obtain ⟨e, he, q⟩ := List.mem_filterMap.mp hm
        exact nfr (List.mem_filterMap.mpr ⟨e, .tail _ he, q⟩)
      have S3 := G3.suite he3 hd3 na nL nF
      refine wpAny_handleBy_cons (codeAny_handlers_test ?_) (by intro q; cases q)
      refine Tuple_ (namesL_run S3 hes ?_)
      refine wpAny_newObj_type ?_ (by show 9 ≤ sizeLine; decide)
      have fl4 := fly_push (o := { cls := .type "tuple", data := .seq [c1, c2, c3, c4, c5, c6, c7, c8, c9].toArray }) fl3
      have kK : X.K.In (g3.push { cls := .type "tuple", data := .seq [c1, c2, c3, c4, c5, c6, c7, c8, c9].toArray }) := (push_any G3 _).kIn
      have LT : PySem.W.Looks (model X.prog X.w) (g3.push { cls := .type "tuple", data := .seq [c1, c2, c3, c4, c5, c6, c7, c8, c9].toArray }) (typeOf (.ref a)) cls := fun A Q E s k q => wpAny_typeOf_ref (k _ _ (Heap.get?_push_of_some _ he3)) (hz3.1 ▸ q)
      have LM := PySem.W.fit9_looks (M := model X.prog X.w) kK LT (Heap.get?_push_size g3 rfl) w1
      refine LM.here ?_
      refine codeAny_handlers_suite_as ?_
      refine HandSPX.lands_againZ fl4 fun g5 fl5 up5 => ?_
      have G4 : Inv X pins σ' H' { s' with heap := g5 } := G.landed nb fl5.1 (((up.trans up3).trans (fun b o e _ => ⟨o.slots, Heap.get?_push_of_some _ e⟩)).trans up5) os ag
      obtain ⟨o5, v5, he5, hz5, hd5⟩ := fl5.there
      have S5 := G4.suite he5 hd5 na nL nF
      refine store_ok (X := X.suite a ((a, o5) :: (X.pn ++ pins))) (v := .ref a) S5 hN hi (.inl hln) rfl (fun s6 S6 => ?_) (.inr hln)
      have hasg : PSs (X.suite a ((a, o5) :: (X.pn ++ pins))) [.Assign [.Name y ypos] (.Name n npos) apos] _ := pss_one (ps_set (i := j) hN hj hly (pe_var (i := i) hi hv hnd hnc) hsw (.inr hlk))
      refine wpAny_mono (hasg.run [] s6 _ H' { never with nx := fun σ6 H6 => tr a cls d D (σ6.set i none) H6 } S6 ?_) (fun f s7 hsp => ?_) (fun _ _ z => False.elim z)
      · have hl : i < σ'.length := by
          have h1 := G4.len
          have h2 := (List.getElem?_eq_some_iff.mp hi).1
          omega
        exact ⟨.ref a, List.getElem?_set_self hl, w3 a na G4.len⟩
      · cases f with
        | next =>
          obtain ⟨σ7, H7, S7, q7⟩ := hsp
          exact gone_ok (X := X.suite a ((a, o5) :: (X.pn ++ pins))) S7 hN hi hln fun s8 S8 => ⟨rfl, a, o5, cls, d, _, _, hz5, ⟨_, hd5⟩, totr S8 ok, q7⟩
        | brk =>
          obtain ⟨_, _, _, q7⟩ := hsp
          exact False.elim q7
        | cont =>
          obtain ⟨_, _, _, q7⟩ := hsp
          exact False.elim q7
        | ret u =>
          obtain ⟨_, _, _, _, _, q7⟩ := hsp
          exact False.elim q7
    · cases f with
      | next =>
        obtain ⟨_, _, _, q7⟩ := hsp
        exact False.elim q7
      | brk =>
        obtain ⟨_, _, _, q7⟩ := hsp
        exact False.elim q7
      | cont =>
        obtain ⟨_, _, _, q7⟩ := hsp
        exact False.elim q7
      | ret u =>
        obtain ⟨_, _, _, _, _, q7⟩ := hsp
        exact False.elim q7
  refine wpAny_execs_cons (thn main fun f s1 q => ?_)
  obtain ⟨rfl, a, oe, cls, d, σ', H', hz, hd, G', w⟩ := q
  refine wpAny_mono ((hr a oe cls d (X.pn ++ pins) hz hd).run [] s1 σ' H' D G' w) (fun f s2 hsp => ?_) (fun _ _ z => z)
  cases f with
  | next =>
    obtain ⟨σ7, H7, S7, q7⟩ := hsp
    exact ⟨σ7, H7, untr S7 ok, q7⟩
  | brk =>
    obtain ⟨σ7, H7, S7, q7⟩ := hsp
    exact ⟨σ7, H7, untr S7 ok, q7⟩
  | cont =>
    obtain ⟨σ7, H7, S7, q7⟩ := hsp
    exact ⟨σ7, H7, untr S7 ok, q7⟩
  | ret u =>
    obtain ⟨v, σ7, H7, S7, r7, q7⟩ := hsp
    exact ⟨v, σ7, H7, untr S7 ok, r7, q7⟩
/-! ### the kept exception looked at -/
/-- its dict, as far as it has one -/
def DicV (d : Option Addr) (H : Hp) : Prop := d = none ∨ ∃ (dd : Addr) (fs : List (Str × V)), d = some dd ∧ H dd = some (.xd fs)
def tXfK (K : PySem.W.Frag) (a : Addr) (cls : Value) (d : Option Addr) (f : Str) (te : TE) : TE := fun σ H Q => te σ H fun x H1 => x = .ref a ∧ ∃ (C dd : Addr) (fs : List (Str × V)) (v : V), cls = .ref C ∧ XfC K C ∧ PySem.W.findIn K (.ref C) f = some none ∧ d = some dd ∧ H1 dd = some (.xd fs) ∧ fs.lookup f = some v ∧ Q v H1
end
section
variable {Y : Cx} {a C : Addr} {oe : Obj} {cls : Value} {d : Option Addr}
theorem kept_at {pins : List (Addr × Obj)} {σ : L2.St} {H1 : Hp} {s1 : Shared} {dd : Addr} {fs : List (Str × V)} (hm : (a, oe) ∈ Y.pn) (hz : Zc (.ref C) (some dd) oe) (hf : ∃ vs, oe.data = .fields vs) (I1 : Inv Y pins σ H1 s1) (ea : H1 dd = some (.xd fs)) :
    ∃ (od : Obj) (mA : Str → Option Value), PySem.W.InstAt s1.heap a oe C (some od) ∧ (∀ n, PySem.W.lookIn n od = some (mA n)) ∧ ∀ n, RelO (fs.lookup n) (mA n) := by
  obtain ⟨h1, _⟩ := I1.pin (a, oe) (List.mem_append_left pins hm)
  obtain ⟨vs, hd⟩ := hf
  have hx : ObjOk Y.prog Y.w H1 s1.heap dd (.xd fs) := I1.hok dd _ ea
  obtain ⟨mA, hns, hr⟩ := hx
  obtain ⟨od, ho, hl⟩ := lookIn_ns hns
  exact ⟨od, mA, ⟨h1, hz.1, by unfold PySem.W.notCls; rw [hd] <;> rfl, by rw [hz.2]; exact ho⟩, hl, hr⟩
/-- caught.f -/
theorem pe_xfK {e : Expr} {te : TE} {pos : Pos} {n : Str} (hm : (a, oe) ∈ Y.pn) (hz : Zc cls d oe) (hf : ∃ vs, oe.data = .fields vs) (he : PE Y e te)
    (hb : attributeBase e n Y.env (eval e Y.env) = eval e Y.env := by rfl) : PE Y (.Attribute e n pos) (tXfK Y.K a cls d n te) := by
  refine ⟨fun pins s σ H Q I h => attr_of hb (thn (he.run pins s σ H _ I h) fun u s1 hh => ?_)⟩
  obtain ⟨x, H1, I1, rx, rfl, C, dd, fs, v, rfl, T, hno, rfl, ea, l, q⟩ := hh
  obtain rfl : u = Value.ref a := rx
  obtain ⟨od, mA, J, hl, hr⟩ := kept_at hm hz hf I1 ea
  obtain ⟨u, hu, ru⟩ := RelO.some_of (v := v) (o := mA n) (by rw [← l]; exact hr n)
  exact HandSPX.exc_get I1.kIn J T.ga T.gg T.exC (PySem.W.findObj_own T.hdC hno rfl (by rw [hl, hu])) (handed_of ru) ⟨v, H1, I1.tok _, ru, q⟩
/-- isinstance(caught, c) -/
def rIsK (K : PySem.W.Frag) (a : Addr) (cls : Value) (d : Option Addr) : List V → Hp → VK → Prop := fun xs H Q => ∃ (c : V) (cv : Value) (b : Bool) (C : Addr), xs = [.ref a, c] ∧ ClsV c cv ∧ cls = .ref C ∧ ExcC K C ∧ DicV d H ∧ PySem.W.kitOne K (.ref C) cv = some b ∧ Q (.bl b) H
theorem call_isK (hm : (a, oe) ∈ Y.pn) (hz : Zc cls d oe) (hf : ∃ vs, oe.data = .fields vs) : CallR Y (.builtin "isinstance") (rIsK Y.K a cls d) := by
  intro pins s σ H xs us Q I r h
  obtain ⟨c, cv, b, C, rfl, hcv, rfl, T, hd, e, q⟩ := h
  cases r with
  | cons rx rr =>
    cases rr with
    | cons rt rr =>
      cases rr
      cases rx
      have ec := hcv.eq rt
      subst ec
      obtain ⟨od, J⟩ : ∃ od, PySem.W.InstAt s.heap a oe C od := by
        rcases hd with rfl | ⟨dd, fs, rfl, ea⟩
        · obtain ⟨h1, _⟩ := I.pin (a, oe) (List.mem_append_left pins hm)
          obtain ⟨vs, hdd⟩ := hf
          exact ⟨none, h1, hz.1, by unfold PySem.W.notCls; rw [hdd] <;> rfl, by rw [hz.2]; trivial⟩
        · obtain ⟨od, mA, J, _, _⟩ := kept_at hm hz hf I ea
          exact ⟨_, J⟩
      exact PySem.W.kia_one (PySem.W.kitx_exc (by obtain ⟨cd, hc, _⟩ := PySem.W.any_some T.hd; rw [hc]; rfl) T.hg T.hk T.hs T.ha T.hn T.ht T.hm) I.kIn J e (fun z => nomatch z) fun tk => ⟨.bl b, H, I.kept (t' := tk) fun _ _ z => z, rfl, q⟩
end
end Kn
set_option Elab.async false
set_option linter.all false
set_option maxRecDepth 100000
set_option maxHeartbeats 4000000
set_option pp.maxSteps 1200
namespace Kn
open PySem L2 TL PySem.Spec PyProof.Rows LamX
/-! ### repr of data, where no repr is under way -/
def rRepr (K : PySem.W.Frag) : List V → Hp → VK → Prop := fun xs H Q => ∃ p d, xs = [.ref p] ∧ Dp K H (.ref p) d ∧ PyData.showable d = true ∧ d.hasDict = false ∧ d.depth ≤ 60 ∧ d.shown.length ≤ sizeLine ∧ Q (.str d.shown) H
section
variable {X : Cx}
theorem call_reprD (hg : X.A.guards = some []) (hu : X.A.units + 64 < cLine) : CallR X (.builtin "repr") (rRepr X.K) := by
  intro pins s σ H xs us Q I r h
  obtain ⟨p, d, rfl, hd, hs, hn, h6, hz, q⟩ := h
  obtain ⟨u, rfl, rx⟩ := vals1 r
  obtain rfl : u = Value.ref p := rx
  obtain ⟨as, rd⟩ := Dp.reads I d _ _ hd rfl
  refine repr_of_reads' rd hs (fun z => by rw [hn] at z; cases z) hg (by omega) (fun _ _ e => e) (fun h' u tk k => ?_) hz
  exact ⟨.str d.shown, H, I.kept k, ⟨u, rfl⟩, q⟩
end
/-! ### defs called where no repr is under way -/
structure FnG (P : Program) (w : World) (K : PySem.W.Frag) (mg : Str → Option Value) (base : Heap) (CX : CXT) (k : Nat) (f : Addr) (fd : FuncData) (ps : List Str) (sp : Sp) : Prop where
  len : ∀ vs H Q E, sp vs H Q E → vs.length = ps.length
  run : ∀ (A : Around) (outer : List Env) (s : Shared) (H : Hp) (args : Args) (us : List Value) (vs : List V) (Q : VK) (E : XK), A.guards = some [] → Room k A → Env0 P w K mg base A outer s H → BindsTo s fd args (ps.zip us) → Vals vs us → sp vs H Q E →
    codeAny (model P w) A (.call (.ref f) args) (CR CX outer P w H s Q E) s
section
variable {P : Program} {w : World} {K : PySem.W.Frag} {mg : Str → Option Value} {base : Heap}
theorem Fn.okG {x qual : Str} {st : Stmt} {f : Addr} {fd : FuncData} {N ps : List Str} {k : Nat} {sp : Sp} (F : Fun K x qual st f fd) (S : FnScope N ps (defScope st)) (len : ∀ vs H Q E, sp vs H Q E → vs.length = ps.length)
    (hbody : ∀ (cdv : Value) (A : Around) (outer : List Env) (s : Shared) (H : Hp) (vs : List V) (Q : VK) (E : XK), PySem.W.codeIn K cdv qual = true → (∃ fd', K.lookup f = some fd' ∧ ∃ kV doc pm an ct, fd'.data = .func (PySem.W.fnOf x qual (defArgs st) (defBody st) (defScope st) .none kV doc pm an cdv ct)) → A.guards = some [] → Room k (A.deeper (envOfC qual (defScope st) s.heap.objs.size f cdv)) → sp vs H Q E →
      ∃ t, PSs (cxOf CX0 P w K mg base N qual (defScope st) f cdv A outer s H E).nox (defBody st) t ∧ t { nx := fun _ H' => Q .non H', rt := Q } (L2.start N vs) H) : FnG P w K mg base CX0 (k + 1) f fd ps sp := by
  obtain ⟨oc, od, kV, doc, pm, an, cdv, ct, osl, rfl, lk, hcd⟩ := F.ex
  refine ⟨len, fun A outer s H args us vs Q E hg hr e0 hb r hsp => ?_⟩
  refine run_ofS lk hcd S hr e0 hb r (len _ _ _ _ hsp) fun hr' => ?_
  obtain ⟨t, h, q⟩ := hbody cdv A outer s H vs Q E hcd ⟨_, lk, kV, doc, pm, an, ct, rfl⟩ hg hr' hsp
  exact ⟨t, h.nox, q⟩
end
section
variable {X : Cx}
theorem pe_callG {CX : CXT} {k : Nat} {f : Addr} {fd : FuncData} {ps : List Str} {sp : Sp} {E : XK} {x : Str} {p pos : Pos} {e : Expr} {es : List Expr} {t : TA} (F : FnG X.prog X.w X.K X.mg X.base CX k f fd ps sp) (gd : X.A.guards = some []) (hr : Room k X.A) (hg : Gl X x) (hm : X.mg x = some (.ref f)) (hk : PySem.W.keepIn X.K (.ref f) = true)
    (hb : L2.Binds X.K fd ps []) (hx : Passes CX X E) (ha : PA X (e :: es) t) (hdb : (x == ("__debug__" : Str)) = false := by decide) (he : starEach (e :: es) X.env = (false, eval e X.env) :: starEach es X.env := by rfl) (hpl : (backTo pos (starEach es X.env)).any (·.1) = false := by rfl) :
    PE X (.Call (.Name x p) (e :: es) [] pos) (tCall sp [] E t) := by
  refine ⟨fun pins s σ H Q I h => wpAny_Call_Name_kw (ld_glob I hg hm ?_ hdb)⟩
  refine PySem.W.callWith_K (h₀ := X.base) I.ok.mod.kin hk (thn (ha.run pos pins s σ H _ I h) fun us s1 ⟨vs, H1, I1, r, q⟩ => ⟨I1.kIn, ?_⟩) he hpl
  show wpAny _ _ (call (.ref f) us) _ _ _
  have q : sp (vs ++ []) H1 Q E := q
  rw [List.append_nil] at q
  have hl : (us ++ []).length = ps.length := by rw [List.append_nil, ← r.length]; exact F.len _ _ _ _ q
  have hbb := hb s1 us I1.kIn hl
  rw [List.append_nil] at hbb
  refine wpAny_call (codeAny_mono (F.run X.A X.stack s1 H1 ⟨us, []⟩ us vs Q E gd hr I1.env0 hbb r q) fun r2 s' hq => ?_)
  cases r2 with
  | error e => exact hx pins σ H1 s1 e s' I1 hq
  | ok fl =>
    cases fl with
    | ret u => exact I1.after hq
    | next => exact False.elim hq
    | brk => exact False.elim hq
    | cont => exact False.elim hq
end
end Kn
set_option Elab.async false
set_option linter.all false
set_option maxRecDepth 100000
set_option maxHeartbeats 4000000
set_option pp.maxSteps 1200
namespace Kn
open PySem L2 TL PySem.Spec PyProof.Rows LamX
/-! ### _law_refused -/
abbrev nRef : List Str := ["deed", "caught", "error", "told", "bases"]
theorem scRefused : FnScope nRef ["deed"] (defScope sRefused) := ⟨rfl, rfl, rfl, by decide +kernel, rfl, by decide +kernel, by decide +kernel⟩
/-- the nine classes by their names -/
structure RefN (mg : Str → Option Value) (c1 c2 c3 c4 c5 c6 c7 c8 c9 : Addr) : Prop where
  m1 : mg "BadFormula" = some (.ref c1)
  m2 : mg "BadText" = some (.ref c2)
  m3 : mg "BadOrder" = some (.ref c3)
  m4 : mg "BadTable" = some (.ref c4)
  m5 : mg "BadPaper" = some (.ref c5)
  m6 : mg "BadQuestion" = some (.ref c6)
  m7 : mg "NoSuch" = some (.ref c7)
  m8 : mg "TooGreat" = some (.ref c8)
  m9 : mg "HangsOn" = some (.ref c9)
/-- what is known of a class among them: of which it is one, whether it stands under KeyError (else under ValueError) -/
structure ClsX (K : PySem.W.Frag) (c1 c2 c3 c4 c5 c6 c7 c8 c9 C : Addr) (b1 b2 b3 b4 b5 b6 b7 b8 b9 ke : Bool) : Prop where
  fit : PySem.W.Fit9 K (.ref C) (.ref c1) (.ref c2) (.ref c3) (.ref c4) (.ref c5) (.ref c6) (.ref c7) (.ref c8) (.ref c9)
  k1 : PySem.W.kitOne K (.ref C) (.ref c1) = some b1
  k2 : PySem.W.kitOne K (.ref C) (.ref c2) = some b2
  k3 : PySem.W.kitOne K (.ref C) (.ref c3) = some b3
  k4 : PySem.W.kitOne K (.ref C) (.ref c4) = some b4
  k5 : PySem.W.kitOne K (.ref C) (.ref c5) = some b5
  k6 : PySem.W.kitOne K (.ref C) (.ref c6) = some b6
  k7 : PySem.W.kitOne K (.ref C) (.ref c7) = some b7
  k8 : PySem.W.kitOne K (.ref C) (.ref c8) = some b8
  k9 : PySem.W.kitOne K (.ref C) (.ref c9) = some b9
  kk : PySem.W.kitOne K (.ref C) (.type "KeyError") = some ke
  ko : PySem.W.kitOne K (.ref C) (.type "OverflowError") = some false
  kr : PySem.W.kitOne K (.ref C) (.type "RuntimeError") = some false
  kv : PySem.W.kitOne K (.ref C) (.type "ValueError") = some (!ke)
  ec : ExcC K C
  fc : XfC K C
def wayD (way : List Nat) : PyData := .tuple (way.map fun n => .int (n : Nat))
/-- the text that is due of a place -/
def dueP (w : Str) (way : List Nat) : Str := w ++ " " ++ (wayD way).shown
/-- .. of a name -/
def dueN (x : Str) : Str := ("name " : Str) ++ reprText x
/-- what is caught, and what is told of it -/
def Told (K : PySem.W.Frag) (c1 c2 c3 c4 c5 c6 c7 c8 c9 : Addr) (Q : VK) : XK := fun cls d H =>
  (∃ (C dx p : Addr) (way : List Nat), ((C = c1 ∧ ClsX K c1 c2 c3 c4 c5 c6 c7 c8 c9 C true false false false false false false false false false ∧ ∀ H2, Same H H2 → Q (.str (dueP "formula" way)) H2) ∨ (C = c3 ∧ ClsX K c1 c2 c3 c4 c5 c6 c7 c8 c9 C false false true false false false false false false false ∧ ∀ H2, Same H H2 → Q (.str (dueP "order" way)) H2)) ∧
    cls = .ref C ∧ PySem.W.findIn K (.ref C) "place" = some none ∧ d = some dx ∧ H dx = some (.xd [("place", .ref p)]) ∧ SqT K H p (wayV way) ∧ way.length ≤ 10 ∧ (∀ n ∈ way, n < 16)) ∨
  (ClsX K c1 c2 c3 c4 c5 c6 c7 c8 c9 c6 false false false false false true false false false false ∧ cls = .ref c6 ∧ d = none ∧ ∀ H2, Same H H2 → Q (.str "question") H2) ∨
  (∃ (dx : Addr) (x : Str), ClsX K c1 c2 c3 c4 c5 c6 c7 c8 c9 c7 false false false false false false true false false true ∧ cls = .ref c7 ∧ PySem.W.findIn K (.ref c7) "name" = some none ∧ d = some dx ∧ H dx = some (.xd [("name", .str x)]) ∧ isNameS x = true ∧ ∀ H2, Same H H2 → Q (.str (dueN x)) H2)
/-- what _law_refused makes of a deed -/
def TTR (K : PySem.W.Frag) (c1 c2 c3 c4 c5 c6 c7 c8 c9 : Addr) : (XK → Hp → VK → Prop) → Hp → VK → Prop := fun tl H Q => tl (Told K c1 c2 c3 c4 c5 c6 c7 c8 c9 Q) H fun _ _ => False
/-! #### ways as data -/
theorem way_all : ∀ way : List Nat, (∀ n ∈ way, n < 16) → PyData.showableAll (way.map fun n => PyData.int (n : Nat)) = true ∧ PyData.hasDictAll (way.map fun n => PyData.int (n : Nat)) = false ∧ PyData.depthAll (way.map fun n => PyData.int (n : Nat)) ≤ 1 ∧ PyData.canLayAll0 (way.map fun n => PyData.int (n : Nat)) = true ∧ PyData.shownAll (way.map fun n => PyData.int (n : Nat)) = way.map natTx
  | [], _ => ⟨rfl, rfl, Nat.zero_le _, rfl, rfl⟩
  | n :: r, h => by
    obtain ⟨a1, a2, a3, a4, a5⟩ := way_all r fun z hz => h z (List.mem_cons_of_mem _ hz)
    have h16 := h n List.mem_cons_self
    have hl : ((n : Nat) : Int).natAbs.log2 < 1920 := by
      rw [Int.natAbs_natCast]
      by_cases h0 : n = 0
      · rw [h0]
        decide
      · exact (Nat.log2_lt h0).mpr (Nat.lt_of_lt_of_le h16 (by
          have := Nat.pow_le_pow_right (n := 2) (by decide) (show 4 ≤ 1920 by decide)
          exact this))
    refine ⟨?_, ?_, ?_, ?_, ?_⟩
    · simp only [List.map_cons, PyData.showableAll, PyData.showable, a1, Bool.and_true]
      exact decide_eq_true hl
    · simp only [List.map_cons, PyData.hasDictAll, PyData.hasDict, a2, Bool.or_self]
    · simp only [List.map_cons, PyData.depthAll, PyData.depth]
      omega
    · simp only [List.map_cons, PyData.canLayAll0, PyData.canLay0, a4, Bool.and_self]
    · simp only [List.map_cons, PyData.shownAll, PyData.shown, a5]
      rfl
theorem way_ok {way : List Nat} (hl : way.length ≤ 10) (h : ∀ n ∈ way, n < 16) : PyData.showable (wayD way) = true ∧ (wayD way).hasDict = false ∧ (wayD way).depth ≤ 60 ∧ (wayD way).shown.length ≤ 500 := by
  obtain ⟨a1, a2, a3, a4, a5⟩ := way_all way h
  unfold wayD
  refine ⟨?_, ?_, ?_, ?_⟩
  · simp only [PyData.showable, a1]
  · simp only [PyData.hasDict, a2]
  · simp only [PyData.depth]
    omega
  · simp only [PyData.shown, a5]
    have h1 := piled_ints way h
    have h2 := fmt_text (way.map natTx)
    omega
theorem way_dp {K : PySem.W.Frag} {H : Hp} {p : Addr} {way : List Nat} (h : SqT K H p (wayV way)) : Dp K H (.ref p) (wayD way) := by
  refine .tup h ?_
  unfold wayV
  clear h
  induction way with
  | nil => exact .nil
  | cons n r ih => exact .cons (.int _) ih
theorem cat_any {H : Hp} {p b : Addr} {xs ys : List V} {Q : VK} (hp : H p = some (.lst xs)) (hb : H b = some (.lst ys)) (hz : xs.length + ys.length ≤ 1000) (q : ∀ H' r, Same H H' → H' r = some (.lst (xs ++ ys)) → Q (.ref r) H') : rCat (.ref p) (.ref b) H Q :=
  ⟨p, b, xs, ys, rfl, rfl, hp, hb, Nat.le_of_lt (small1000 hz), fun r hr => q _ r (same_new hr _) upd_same⟩
def tTold (K : PySem.W.Frag) (a : Addr) (cls : Value) (d : Option Addr) (w : Str) (cv : Value) : TE := fun σ H Q => σ[1]? = some (some (.ref a)) ∧ ∃ (C : Addr) (b : Bool), cls = .ref C ∧ ExcC K C ∧ DicV d H ∧ PySem.W.kitOne K (.ref C) cv = some b ∧
  ∀ H' p, Same H H' → H' p = some (.lst (if b = true then [.str w] else [])) → Q (.ref p) H'
theorem DicV.same {d : Option Addr} {H H' : Hp} (h : DicV d H) (e : Same H H') : DicV d H' := by
  rcases h with h | ⟨dd, fs, h1, h2⟩
  · exact .inl h
  · exact .inr ⟨dd, fs, h1, e _ _ h2⟩
section
variable {Y : Cx} {a cv : Addr} {cls : Value} {d : Option Addr} {oe : Obj} {w x : Str} {k : Nat} {p1 p2 p3 p4 p5 p6 p7 p8 p9 : Pos}
theorem pe_told0 (hm : (a, oe) ∈ Y.pn) (hz : Zc cls d oe) (hf : ∃ vs, oe.data = .fields vs) (mi : Y.mg "isinstance" = none) (mn : Y.mg "int" = none) (hx : Y.mg x = some (.ref cv)) (hN : Y.N[1]? = some ("caught" : Str)) (gl1 : Gl Y "int") (gl2 : Gl Y "isinstance") (glx : Gl Y x) (hv : Vis Y.env.scope "caught") (hdx : (x == ("__debug__" : Str)) = false) :
    PE Y (.BinOp (.List [.Constant (.str w) k p1] p2) .Mult (.Call (.Name "int" p3) [.Call (.Name "isinstance" p4) [.Name "caught" p5, .Name x p6] [] p7] [] p8) p9) (tTold Y.K a cls d w (.ref cv)) := by
  have hp := pe_op (pos := p9) op_rep (pe_lst (pos := p2) (pa_cons (pe_str (X := Y) (x := w) (j := k) (pos := p1)) pa_nil)) (pe_callTy (p := p3) (pos := p8) call_int1 gl1 mn (by decide +kernel) (pa_cons (pe_callB (p := p4) (pos := p7) (call_isK hm hz hf) gl2 mi PyProof.Rows.boot_isinstance (pa_cons (pe_var (pos := p5) (i := 1) hN hv rfl rfl) (pa_cons (pe_glob (pos := p6) (v := .ref cv) glx hx rfl hdx) pa_nil))) pa_nil))
  refine ⟨fun pins s σ H Q I h => hp.run pins s σ H Q I ?_⟩
  obtain ⟨h1, C, b, h2, h3, h4, h5, q⟩ := h
  refine ⟨(by show 1 ≤ sizeLine; decide), fun r1 hr1 => ⟨.ref a, h1, .ref cv, .ref cv, b, C, rfl, .own _, h2, h3, h4.same (same_new hr1 _), h5, .inr ⟨b, rfl, r1, _, _, rfl, rfl, upd_same, ?_, ?_, ?_, fun r2 hr2 => ?_⟩⟩⟩
  · cases b <;> decide
  · cases b <;> decide
  · cases b
    · show 1 * 0 ≤ sizeLine
      decide
    · show 1 * 1 ≤ sizeLine
      decide
  · refine q _ r2 (Same.trans (same_new hr1 _) (same_new hr2 _)) ?_
    rw [upd_same]
    cases b <;> rfl
end
section
variable {X : Cx} {K : PySem.W.Frag} {a cv : Addr} {cls : Value} {d : Option Addr} {oe : Obj} {w x : Str} {k : Nat} {p1 p2 p3 p4 p5 p6 p7 p8 p9 : Pos}
theorem pe_told (hK : X.K = K) (hm : (a, oe) ∈ X.pn) (hz : Zc cls d oe) (hf : ∃ vs, oe.data = .fields vs) (mi : X.mg "isinstance" = none) (mn : X.mg "int" = none) (hx : X.mg x = some (.ref cv)) (hN : X.N[1]? = some ("caught" : Str)) (gl1 : Gl X "int") (gl2 : Gl X "isinstance") (glx : Gl X x) (hv : Vis X.env.scope "caught") (hdx : (x == ("__debug__" : Str)) = false) :
    PE X (.BinOp (.List [.Constant (.str w) k p1] p2) .Mult (.Call (.Name "int" p3) [.Call (.Name "isinstance" p4) [.Name "caught" p5, .Name x p6] [] p7] [] p8) p9) (tTold K a cls d w (.ref cv)) := by
  subst hK
  exact pe_told0 hm hz hf mi mn hx hN gl1 gl2 glx hv hdx
theorem call_isKK (hK : X.K = K) (hm : (a, oe) ∈ X.pn) (hz : Zc cls d oe) (hf : ∃ vs, oe.data = .fields vs) : CallR X (.builtin "isinstance") (rIsK K a cls d) := by
  subst hK
  exact call_isK hm hz hf
theorem op_neDK (hK : X.K = K) (hu : X.A.units + 64 < cLine) : OpR X (compareOp .NotEq) (rNeD K) := by
  subst hK
  exact op_neD hu
theorem call_reprK (hK : X.K = K) (hg : X.A.guards = some []) (hu : X.A.units + 64 < cLine) : CallR X (.builtin "repr") (rRepr K) := by
  subst hK
  exact call_reprD hg hu
/-- repr of a text -/
theorem cr_reprS : CallR X (.builtin "repr") (fun xs H Q => ∃ z : Str, xs = [.str z] ∧ (reprText z).length ≤ sizeLine ∧ Q (.str (reprText z)) H) := by
  intro pins s σ H xs us Q I r h
  obtain ⟨z, rfl, hz, q⟩ := h
  obtain ⟨u, rfl, rx⟩ := vals1 r
  obtain ⟨t, rfl⟩ := rx
  exact PySem.P.repr_of_str (hsz := hz) ⟨.str _, H, I.tok _, ⟨_, rfl⟩, q⟩
theorem pe_xfKK {e : Expr} {te : TE} {pos : Pos} {n : Str} (hK : X.K = K) (hm : (a, oe) ∈ X.pn) (hz : Zc cls d oe) (hf : ∃ vs, oe.data = .fields vs) (he : PE X e te)
    (hb : attributeBase e n X.env (eval e X.env) = eval e X.env := by rfl) : PE X (.Attribute e n pos) (tXfK K a cls d n te) := by
  subst hK
  exact pe_xfK hm hz hf he hb
theorem sl_listK (hK : X.K = K) : SlR X (rSlL K) := by
  subst hK
  exact sl_list
end
section
variable {X : Cx}
theorem ref_gives {g C c2 c3 c4 c5 c6 c7 c8 c9 : Addr} {cdg : Value} {q : Str} (R : RefN X.mg C c2 c3 c4 c5 c6 c7 c8 c9) (gd : X.A.guards = some []) (hu : X.A.units + 200 < cLine) (mi : X.mg "isinstance" = none) (mn : X.mg "int" = none) (ml : X.mg "len" = none) (mrp : X.mg "repr" = none)
    (mK : X.mg "KeyError" = none) (mO : X.mg "OverflowError" = none) (mR : X.mg "RuntimeError" = none) (mV : X.mg "ValueError" = none) :
    GivesTo X nRef "_law_refused" (defScope sRefused) g cdg (defBody sRefused) "deed" q (TTR X.K C c2 c3 c4 c5 c6 c7 c8 c9) := by
  obtain ⟨prog, w, K, mg, base, A0, N0, s0, H0, env0, out0, stk0, ex0, fn0, calm0, pn0, xe0⟩ := X
  dsimp only at R gd hu mi mn ml mrp mK mO mR mV
  intro f c' s H Q tl act hc h
  have hu3 : A0.units + 3 + 64 < cLine := by omega
  refine ⟨_, pss_cons (ps_set (i := 1) scRefused.nd rfl (Or.inl rfl) pe_non)
    (pss_keep (i := 2) (j := 1) (c1 := .ref C) (c2 := .ref c2) (c3 := .ref c3) (c4 := .ref c4) (c5 := .ref c5) (c6 := .ref c6) (c7 := .ref c7) (c8 := .ref c8) (c9 := .ref c9)
      (tb := fun W D σ H => ∃ Ech : XK, (∀ cls d σ' H', Ech cls d H' → W cls d σ' H') ∧ σ[0]? = some (some (.ref f)) ∧ H c' = some (CodeO c' q) ∧ tl Ech H fun _ H' => D.nx σ H')
      rfl rfl scRefused.nd rfl rfl (Or.inl rfl) rfl rfl rfl (Or.inl rfl) rfl
      (.cons ⟨rfl, rfl, .inl R.m1⟩ (.cons ⟨rfl, rfl, .inl R.m2⟩ (.cons ⟨rfl, rfl, .inl R.m3⟩ (.cons ⟨rfl, rfl, .inl R.m4⟩ (.cons ⟨rfl, rfl, .inl R.m5⟩ (.cons ⟨rfl, rfl, .inl R.m6⟩ (.cons ⟨rfl, rfl, .inl R.m7⟩ (.cons ⟨rfl, rfl, .inl R.m8⟩ (.cons ⟨rfl, rfl, .inl R.m9⟩ .nil))))))))) rfl
      (fun W pn xe tk _ => ?_) (fun a oe cls d pn hz hf =>
        pss_cons (ps_set (i := 3) scRefused.nd rfl (Or.inl rfl) (pe_op op_cat (pe_told (K := K) rfl (by exact .head _) hz hf mi mn R.m1 (by rfl) (by rfl) (by rfl) (by rfl) (by exact .inl rfl) (by rfl)) (pe_told (K := K) rfl (by exact .head _) hz hf mi mn R.m2 (by rfl) (by rfl) (by rfl) (by rfl) (by exact .inl rfl) (by rfl))))
        (pss_cons (ps_set (i := 3) scRefused.nd rfl (Or.inl rfl) (pe_op op_cat (pe_op op_cat (pv 3) (pe_told (K := K) rfl (by exact .head _) hz hf mi mn R.m3 (by rfl) (by rfl) (by rfl) (by rfl) (by exact .inl rfl) (by rfl))) (pe_told (K := K) rfl (by exact .head _) hz hf mi mn R.m4 (by rfl) (by rfl) (by rfl) (by rfl) (by exact .inl rfl) (by rfl))))
        (pss_cons (ps_set (i := 3) scRefused.nd rfl (Or.inl rfl) (pe_op op_cat (pe_op op_cat (pv 3) (pe_told (K := K) rfl (by exact .head _) hz hf mi mn R.m5 (by rfl) (by rfl) (by rfl) (by rfl) (by exact .inl rfl) (by rfl))) (pe_told (K := K) rfl (by exact .head _) hz hf mi mn R.m6 (by rfl) (by rfl) (by rfl) (by rfl) (by exact .inl rfl) (by rfl))))
        (pss_cons (ps_set (i := 3) scRefused.nd rfl (Or.inl rfl) (pe_op op_cat (pe_op op_cat (pv 3) (pe_told (K := K) rfl (by exact .head _) hz hf mi mn R.m7 (by rfl) (by rfl) (by rfl) (by rfl) (by exact .inl rfl) (by rfl))) (pe_told (K := K) rfl (by exact .head _) hz hf mi mn R.m8 (by rfl) (by rfl) (by rfl) (by rfl) (by exact .inl rfl) (by rfl))))
        (pss_cons (ps_set (i := 3) scRefused.nd rfl (Or.inl rfl) (pe_op op_cat (pv 3) (pe_told (K := K) rfl (by exact .head _) hz hf mi mn R.m9 (by rfl) (by rfl) (by rfl) (by rfl) (by exact .inl rfl) (by rfl))))
        (pss_cons (ps_if (PW.pt (pw_or (pt_cmpR op_isN (pv 1) pe_non (nomark _)) (pw_or1 (pt_cmpR op_ne (pe_callB (call_lenK (K := K) rfl) (by rfl) ml PySem.boot_len (pa_cons (pv 3) pa_nil)) pe_int (nomark _)))))
          (pss_one (ps_ret (pe_ifExp (pt_cmpR op_isN (pv 1) pe_non (nomark _)) pe_str pe_str))) pss_nil)
        (pss_cons (ps_set (i := 4) scRefused.nd rfl (Or.inl rfl) (pe_lst (pa_cons (pe_callB (call_isKK (K := K) rfl (by exact .head _) hz hf) (by rfl) mi PyProof.Rows.boot_isinstance (pa_cons (pv 1) (pa_cons (pe_bltn (v := .ty "KeyError") (by rfl) mK (by decide +kernel) rfl) pa_nil)))
          (pa_cons (pe_callB (call_isKK (K := K) rfl (by exact .head _) hz hf) (by rfl) mi PyProof.Rows.boot_isinstance (pa_cons (pv 1) (pa_cons (pe_bltn (v := .ty "OverflowError") (by rfl) mO (by decide +kernel) rfl) pa_nil)))
          (pa_cons (pe_callB (call_isKK (K := K) rfl (by exact .head _) hz hf) (by rfl) mi PyProof.Rows.boot_isinstance (pa_cons (pv 1) (pa_cons (pe_bltn (v := .ty "RuntimeError") (by rfl) mR (by decide +kernel) rfl) pa_nil))) pa_nil)))))
        (pss_cons (ps_set (i := 4) scRefused.nd rfl (Or.inl rfl) (pe_op op_cat (pv 4) (pe_lst (pa_cons (pe_callB (call_isKK (K := K) rfl (by exact .head _) hz hf) (by rfl) mi PyProof.Rows.boot_isinstance (pa_cons (pv 1) (pa_cons (pe_bltn (v := .ty "ValueError") (by rfl) mV (by decide +kernel) rfl) pa_nil))) pa_nil))))
        (pss_cons (ps_if (pt_cmpR (op_neDK (K := K) rfl hu3) (pv 4) (pe_lst (pa_cons (pe_cmpR op_eq (pe_ix (ix_listK (K := K) rfl) (pv 3) pe_int (fun _ _ => rfl)) pe_str (nomark _)) (pa_cons (pe_cmpR op_eq (pe_ix (ix_listK (K := K) rfl) (pv 3) pe_int (fun _ _ => rfl)) pe_str (nomark _)) (pa_cons (pe_cmpR op_eq (pe_ix (ix_listK (K := K) rfl) (pv 3) pe_int (fun _ _ => rfl)) pe_str (nomark _))
            (pa_cons (pe_cmpR (op_notInK (K := K) rfl) pe_bl (pe_slice (sl_listK (K := K) rfl) (pv 4) po_none (po_some pe_int)) (by rfl)) pa_nil))))) (nomark _)) (pss_one (ps_ret pe_str)) pss_nil)
        (pss_cons (ps_if (pt_cmpR (op_inK (K := K) rfl) (pe_ix (ix_listK (K := K) rfl) (pv 3) pe_int (fun _ _ => rfl)) (pe_tup (pa_cons pe_str (pa_cons pe_str (pa_cons pe_str (pa_cons pe_str (pa_cons pe_str pa_nil)))))) (by rfl))
          (pss_one (ps_ret (pe_op op_add_str (pe_op op_add_str (pe_ix (ix_listK (K := K) rfl) (pv 3) pe_int (fun _ _ => rfl)) pe_str) (pe_callB (call_reprK (K := K) rfl gd hu3) (by rfl) mrp PyProof.Rows.bootS_repr (pa_cons (pe_xfKK (K := K) rfl (by exact .head _) hz hf (pv 1)) pa_nil))))) pss_nil)
        (pss_one (ps_ret (pe_ifExp (pt_cmpR (op_inK (K := K) rfl) (pe_ix (ix_listK (K := K) rfl) (pv 3) pe_int (fun _ _ => rfl)) (pe_tup (pa_cons pe_str (pa_cons pe_str pa_nil))) (by rfl))
          (pe_op op_add_str pe_str (pe_callB cr_reprS (by rfl) mrp PyProof.Rows.bootS_repr (pa_cons (pe_xfKK (K := K) rfl (by exact .head _) hz hf (pv 1)) pa_nil))) (pe_ix (ix_listK (K := K) rfl) (pv 3) pe_int (fun _ _ => rfl)))))))))))))))), ?_⟩
  · refine ⟨fun pins s' σ H' D I h' => ?_⟩
    obtain ⟨Ech, hW, h1, h2, h3⟩ := h'
    have hp := pss_one (ps_expr (pos := ⟨389, 8, 389, 14⟩) (act W pn xe Ech ⟨389, 8, 389, 12⟩ ⟨389, 8, 389, 14⟩ tk hW))
    exact hp.run pins s' σ H' D I ⟨h1, h2, h3⟩
  refine ⟨Told K C c2 c3 c4 c5 c6 c7 c8 c9 Q, ?_, rfl, hc, h⟩
  rintro cls d σ' H1 hT
  obtain ⟨CC, b1, b2, b3, b4, b5, b6, b7, b8, b9, ke, w, rfl, X, hd, ht, ⟨d1, d2, d3⟩, hend⟩ : ∃ (CC : Addr) (b1 b2 b3 b4 b5 b6 b7 b8 b9 ke : Bool) (w : Str), cls = .ref CC ∧ ClsX K C c2 c3 c4 c5 c6 c7 c8 c9 CC b1 b2 b3 b4 b5 b6 b7 b8 b9 ke ∧ DicV d H1 ∧
      (((((((((if b1 = true then [V.str "formula"] else []) ++ (if b2 = true then [V.str "text"] else [])) ++ (if b3 = true then [V.str "order"] else [])) ++ (if b4 = true then [V.str "table"] else [])) ++ (if b5 = true then [V.str "paper"] else [])) ++ (if b6 = true then [V.str "question"] else [])) ++ (if b7 = true then [V.str "name"] else [])) ++ (if b8 = true then [V.str "great"] else [])) ++ (if b9 = true then [V.str "hangs"] else [])) = [V.str w] ∧
      (decide (V.str w = V.str "name") = ke ∧ decide (V.str w = V.str "great") = false ∧ decide (V.str w = V.str "hangs") = false) ∧
      (((w = "formula" ∨ w = "order") ∧ ∃ (dx p : Addr) (way : List Nat), PySem.W.findIn K (.ref CC) "place" = some none ∧ d = some dx ∧ H1 dx = some (.xd [("place", .ref p)]) ∧ SqT K H1 p (wayV way) ∧ way.length ≤ 10 ∧ (∀ n ∈ way, n < 16) ∧ ∀ H2, Same H1 H2 → Q (.str (dueP w way)) H2) ∨
       (w = "question" ∧ ∀ H2, Same H1 H2 → Q (.str "question") H2) ∨
       (w = "name" ∧ ∃ (dx : Addr) (x : Str), PySem.W.findIn K (.ref CC) "name" = some none ∧ d = some dx ∧ H1 dx = some (.xd [("name", .str x)]) ∧ isNameS x = true ∧ ∀ H2, Same H1 H2 → Q (.str (dueN x)) H2)) := by
    rcases hT with ⟨CC, dx, p, way, ⟨rfl, X, q⟩ | ⟨rfl, X, q⟩, rfl, h1, rfl, h2, h3, h4, h5⟩ | ⟨X, rfl, rfl, q⟩ | ⟨dx, x, X, rfl, h1, rfl, h2, h3, q⟩
    · exact ⟨_, _, _, _, _, _, _, _, _, _, _, "formula", rfl, X, .inr ⟨dx, _, rfl, h2⟩, rfl, ⟨by decide +kernel, by decide +kernel, by decide +kernel⟩, .inl ⟨.inl rfl, dx, p, way, h1, rfl, h2, h3, h4, h5, q⟩⟩
    · exact ⟨_, _, _, _, _, _, _, _, _, _, _, "order", rfl, X, .inr ⟨dx, _, rfl, h2⟩, rfl, ⟨by decide +kernel, by decide +kernel, by decide +kernel⟩, .inl ⟨.inr rfl, dx, p, way, h1, rfl, h2, h3, h4, h5, q⟩⟩
    · exact ⟨_, _, _, _, _, _, _, _, _, _, _, "question", rfl, X, .inl rfl, rfl, ⟨by decide +kernel, by decide +kernel, by decide +kernel⟩, .inr (.inl ⟨rfl, q⟩)⟩
    · exact ⟨_, _, _, _, _, _, _, _, _, _, _, "name", rfl, X, .inr ⟨dx, _, rfl, h2⟩, rfl, ⟨by decide +kernel, by decide +kernel, by decide +kernel⟩, .inr (.inr ⟨rfl, dx, x, h1, rfl, h2, h3, q⟩)⟩
  refine ⟨X.fit, fun a ha hlen => ?_⟩
  obtain ⟨s0, s1, s2, s3, s4, rfl⟩ : ∃ s0 s1 s2 s3 s4, σ' = [s0, s1, s2, s3, s4] := by
    match σ', hlen with
    | [s0, s1, s2, s3, s4], _ => exact ⟨s0, s1, s2, s3, s4, rfl⟩
    | [], h => cases h
    | [_], h => cases h
    | [_, _], h => cases h
    | [_, _, _], h => cases h
    | [_, _, _, _], h => cases h
    | _ :: _ :: _ :: _ :: _ :: _ :: tl, h =>
      have h : tl.length + 6 = 5 := h
      omega
  have one : ∀ (b : Bool) (x : V), (if b = true then [x] else []).length ≤ 1 := fun b x => by
    cases b
    · exact Nat.zero_le _
    · exact Nat.le_refl _
  have on : ∀ {σ : L2.St} {w : Str} {cv : Value} {b : Bool} (n : Nat) (L : List V) (H2 : Hp) (Q1 : VK) (r : Addr), σ[1]? = some (some (.ref a)) → Same H1 H2 → H2 r = some (.lst L) → L.length ≤ n → n ≤ 20 → PySem.W.kitOne K (.ref CC) cv = some b →
      (∀ H3 r2, Same H1 H3 → H3 r2 = some (.lst (L ++ if b = true then [V.str w] else [])) → (L ++ if b = true then [V.str w] else []).length ≤ n + 1 → Q1 (.ref r2) H3) → tTold K a (.ref CC) d w cv σ H2 (fun y H3 => rCat (.ref r) y H3 Q1) := fun {σ w cv b} n L H2 Q1 r g1 e2 g2 gn gn2 g3 k => by
    refine ⟨g1, CC, b, rfl, X.ec, hd.same e2, g3, fun H3 p3 e3 h3 => ?_⟩
    have := one b (V.str w)
    refine cat_any (e3 _ _ g2) h3 (by omega) fun H4 r4 e4 h4 => k H4 r4 (Same.trans e2 (Same.trans e3 e4)) h4 (by rw [List.length_append]; omega)
  refine ⟨rfl, CC, b1, rfl, X.ec, hd, X.k1, fun H2 q1 e1 h1 => on 1 _ H2 _ q1 rfl e1 h1 (one _ _) (by decide) X.k2 fun H3 r3 e3 h3 n3 => ?_⟩
  refine ⟨_, rfl, on _ _ H3 _ r3 rfl e3 h3 n3 (by decide) X.k3 fun H4 r4 e4 h4 n4 => on _ _ H4 _ r4 rfl e4 h4 n4 (by decide) X.k4 fun H5 r5 e5 h5 n5 => ?_⟩
  refine ⟨_, rfl, on _ _ H5 _ r5 rfl e5 h5 n5 (by decide) X.k5 fun H6 r6 e6 h6 n6 => on _ _ H6 _ r6 rfl e6 h6 n6 (by decide) X.k6 fun H7 r7 e7 h7 n7 => ?_⟩
  refine ⟨_, rfl, on _ _ H7 _ r7 rfl e7 h7 n7 (by decide) X.k7 fun H8 r8 e8 h8 n8 => on _ _ H8 _ r8 rfl e8 h8 n8 (by decide) X.k8 fun H9 r9 e9 h9 n9 => ?_⟩
  refine ⟨_, rfl, on _ _ H9 _ r9 rfl e9 h9 n9 (by decide) X.k9 fun HA rA eA hA nA => ?_⟩
  rw [ht] at hA
  refine ⟨_, rfl, rfl, _, rfl, iteF ⟨_, rfl, _, _, rfl, .inl ⟨_, SqL.of hA, rfl⟩, rfl, _, rfl, iteF ?_⟩⟩
  have hdA := hd.same eA
  refine ⟨_, rfl, .ty "KeyError", .type "KeyError", ke, CC, rfl, .ty _, rfl, X.ec, hdA, X.kk, _, rfl, .ty "OverflowError", .type "OverflowError", false, CC, rfl, .ty _, rfl, X.ec, hdA, X.ko, _, rfl, .ty "RuntimeError", .type "RuntimeError", false, CC, rfl, .ty _, rfl, X.ec, hdA, X.kr, (by show 3 ≤ sizeLine; decide), fun b1' hb1 => ?_⟩
  have eB := Same.trans eA (same_new hb1 (.lst [.bl ke, .bl false, .bl false]))
  refine ⟨_, rfl, _, rfl, .ty "ValueError", .type "ValueError", !ke, CC, rfl, .ty _, rfl, X.ec, hd.same eB, X.kv, (by show 1 ≤ sizeLine; decide), fun b2' hb2 => cat_any (s_at (same_new hb2 _) upd_same) upd_same (by show 3 + 1 ≤ 1000; decide) fun HC b3' eC hC => ?_⟩
  have eD := Same.trans eB (Same.trans (same_new hb2 (.lst [.bl (!ke)])) eC)
  have hrA : HC rA = some (.lst [V.str w]) := (Same.trans (same_new hb1 (.lst [.bl ke, .bl false, .bl false])) (Same.trans (same_new hb2 (.lst [.bl (!ke)])) eC)) _ _ hA
  refine ⟨_, rfl, _, rfl, rA, _, _, _, rfl, rfl, SqL.of hrA, atI_nat (j := 0) rfl, rfl, _, rfl, rA, _, _, _, rfl, rfl, SqL.of hrA, atI_nat (j := 0) rfl, rfl, _, rfl, rA, _, _, _, rfl, rfl, SqL.of hrA, atI_nat (j := 0) rfl, rfl, ?_⟩
  rw [d1, d2, d3]
  refine ⟨_, rfl, _, rfl, b3', _, rfl, SqL.of hC, fun b5' hb5 => ?_⟩
  refine ⟨b5', _, rfl, .inl (SqL.of upd_same), rfl, (by cases ke <;> rfl), (by show 4 ≤ sizeLine; decide), fun b6' hb6 => ?_⟩
  have d4 : (if true = true then !inV (V.bl true) (cutV ([V.bl ke, V.bl false, V.bl false] ++ [V.bl (!ke)]) none (some 3)) else inV (V.bl true) (cutV ([V.bl ke, V.bl false, V.bl false] ++ [V.bl (!ke)]) none (some 3))) = !ke := by cases ke <;> rfl
  rw [d4]
  have eF := Same.trans (same_new hb5 (.lst (cutV ([V.bl ke, V.bl false, V.bl false] ++ [V.bl (!ke)]) none (some 3)))) (same_new hb6 (.lst [V.bl ke, V.bl false, V.bl false, V.bl (!ke)]))
  refine ⟨.list [.bool ke, .bool false, .bool false, .bool (!ke)], .list [.bool ke, .bool false, .bool false, .bool (!ke)], .lst (SqL.of (eF _ _ hC)) (.cons (.bl _) (.cons (.bl _) (.cons (.bl _) (.cons (.bl _) .nil)))), .lst (SqL.of upd_same) (.cons (.bl _) (.cons (.bl _) (.cons (.bl _) (.cons (.bl _) .nil)))), (by cases ke <;> decide), (by cases ke <;> decide), _, rfl, ?_⟩
  have d5 : (!PyData.eqv (.list [.bool ke, .bool false, .bool false, .bool (!ke)]) (.list [.bool ke, .bool false, .bool false, .bool (!ke)])) = false := by cases ke <;> rfl
  rw [d5]
  refine iteF ?_
  have eG := Same.trans eD eF
  have hr2 := eF _ _ hrA
  clear eF hb5 hb6
  generalize upd (upd HC b5' _) b6' _ = HD at *
  refine ⟨_, rfl, rA, _, _, _, rfl, rfl, SqL.of hr2, atI_nat (j := 0) rfl, (by show 5 ≤ sizeLine; decide), fun t5 ht5 => ⟨t5, _, rfl, .inr (SqT.of upd_same), rfl, rfl, _, rfl, ?_⟩⟩
  have eH := Same.trans eG (same_new ht5 (.tup [V.str "formula", V.str "text", V.str "order", V.str "table", V.str "paper"]))
  have hr3 := (same_new ht5 (.tup [V.str "formula", V.str "text", V.str "order", V.str "table", V.str "paper"])) _ _ hr2
  have z : sizeLine = 16777216 := sizeLine_eq
  have z1 : (" " : Str).length = 1 := by decide +kernel
  have z2 : ("name " : Str).length = 5 := by decide +kernel
  have five : inV (V.str w) [V.str "formula", V.str "text", V.str "order", V.str "table", V.str "paper"] = decide (w ∈ [("formula" : Str), "text", "order", "table", "paper"]) := inV_strs w [("formula" : Str), "text", "order", "table", "paper"]
  rcases hend with ⟨hw, dx, p, way, hno, rfl, hdx, hp, hl, h16, q⟩ | ⟨rfl, q⟩ | ⟨rfl, dx, x, hno, rfl, hdx, hx, q⟩
  · have m : w ∈ [("formula" : Str), "text", "order", "table", "paper"] := by
      rcases hw with rfl | rfl <;> decide +kernel
    have wl : w.length ≤ 7 := by
      rcases hw with rfl | rfl <;> decide +kernel
    obtain ⟨g1, g2, g3, g4⟩ := way_ok hl h16
    have wl2 := len_app w " "
    have cnd : (if false = true then !inV (V.str w) [V.str "formula", V.str "text", V.str "order", V.str "table", V.str "paper"] else inV (V.str w) [V.str "formula", V.str "text", V.str "order", V.str "table", V.str "paper"]) = true := by
      rw [five, decide_eq_true m]
      rfl
    rw [cnd]
    refine iteT ⟨_, rfl, rA, _, _, _, rfl, rfl, SqL.of hr3, atI_nat (j := 0) rfl, _, _, rfl, rfl, by omega, _, rfl, rfl, CC, dx, _, .ref p, rfl, X.fc, hno, rfl, eH _ _ hdx, rfl, p, wayD way, rfl, way_dp (Same.seqT eH hp), g1, g2, g3, by omega, _, _, rfl, rfl, by omega, q _ eH⟩
  · refine iteF ⟨_, rfl, rA, _, _, _, rfl, rfl, SqL.of hr3, atI_nat (j := 0) rfl, (by show 2 ≤ sizeLine; decide), fun t6 ht6 => ⟨t6, _, rfl, .inr (SqT.of upd_same), rfl, rfl, _, rfl, iteF ?_⟩⟩
    have eI := Same.trans eH (same_new ht6 (.tup [V.str "name", V.str "hangs"]))
    exact ⟨_, rfl, rA, _, _, _, rfl, rfl, SqL.of ((same_new ht6 (.tup [V.str "name", V.str "hangs"])) _ _ hr3), atI_nat (j := 0) rfl, q _ eI⟩
  · refine iteF ⟨_, rfl, rA, _, _, _, rfl, rfl, SqL.of hr3, atI_nat (j := 0) rfl, (by show 2 ≤ sizeLine; decide), fun t6 ht6 => ⟨t6, _, rfl, .inr (SqT.of upd_same), rfl, rfl, _, rfl, iteT ?_⟩⟩
    have eI := Same.trans eH (same_new ht6 (.tup [V.str "name", V.str "hangs"]))
    have lx := isName_low hx
    have rl := StrLaws.reprText_len x (low_codes lx.1)
    exact ⟨_, rfl, rfl, CC, dx, _, .str x, rfl, X.fc, hno, rfl, eI _ _ hdx, rfl, x, rfl, by omega, _, _, rfl, rfl, by omega, q _ eI⟩
end
end Kn
set_option Elab.async false
set_option linter.all false
set_option maxRecDepth 100000
set_option maxHeartbeats 4000000
set_option pp.maxSteps 1200
namespace Kn
open PySem L2 TL PySem.Spec PyProof.Rows
/-! ### _law_bare, _law_text -/
abbrev sLBare : Stmt := top 58
abbrev sLText : Stmt := top 59
section
variable {σ : L2.St} {H0 H : Hp} {te tf : TE} {a b z : Str} {K : PySem.W.Frag}
/-- what evaluates to this text -/
def EvS (z : Str) (te : TE) (σ : L2.St) (H0 : Hp) : Prop := ∀ H, Same H0 H → ∀ Q : VK, (∀ H', Same H H' → Q (.str z) H') → te σ H Q
theorem evs_str : EvS z (tC (.str z)) σ H0 := fun H e Q q => q H (Same.refl H)
theorem evs_var {i : Nat} (h : σ[i]? = some (some (.str z))) : EvS z (tVar i) σ H0 := fun H e Q q => ⟨_, h, q H (Same.refl H)⟩
theorem evs_ix {i j : Nat} {p : Addr} {xs : List V} (h : σ[i]? = some (some (.ref p))) (ha : SqT K H0 p xs) (hj : xs[j]? = some (.str z)) : EvS z (tOp (rIxT K) (tVar i) (tC (.int (j : Int)))) σ H0 := fun H e Q q => ⟨_, h, p, xs, _, _, rfl, rfl, Same.seqT e ha, atI_nat hj, q H (Same.refl H)⟩
theorem evs_add (ha : EvS a te σ H0) (hb : EvS b tf σ H0) (hl : a.length + b.length ≤ sizeLine) : EvS (a ++ b) (tOp (fun x y H Q => ∃ i j, x = .str i ∧ y = .str j ∧ i.length + j.length ≤ sizeLine ∧ Q (.str (i ++ j)) H) te tf) σ H0 := fun H e Q q =>
  ha H e _ fun H1 e1 => hb H1 (e.trans e1) _ fun H2 e2 => ⟨a, b, rfl, rfl, hl, q H2 (e1.trans e2)⟩
theorem EvS.ret (h : EvS z te σ H) {D : Ends} {H1 : Hp} (e : Same H H1) (q : ∀ H', Same H H' → D.rt (.str z) H') : tRet te D σ H1 := h H1 e _ fun H2 e2 => q H2 (e.trans e2)
end
def tabK (t : List (Str × V)) : List (Key × V) := t.map fun p => (.inr p.1, p.2)
theorem valV_tab (z : Str) : ∀ t : List (Str × V), valV (tabK t) (.inr z) = t.lookup z
  | [] => rfl
  | p :: r => by
    rw [List.lookup_cons]
    by_cases h : z = p.1
    · rw [h, beq_self_eq_true]
      exact valV_pos rfl
    · rw [beq_eq_false_iff_ne.mpr h]
      exact (valV_neg fun e => h (Sum.inr.inj e).symm).trans (valV_tab z r)
def lawLev : List (Str × V) := [("if", .int 0), ("some", .int 0), ("all", .int 0), ("put", .int 0), ("or", .int 1), ("xor", .int 2), ("and", .int 3), ("not", .int 4)]
def ownL : Fo Str → Nat
  | .yes => 5 | .no => 5 | .nam _ => 5
  | f => f.lev
theorem lev_wd (f : Fo Str) : (lawLev.lookup f.wd).getD (.int 5) = .int (ownL f : Nat) := by
  cases f <;> simp only [Fo.wd, ownL, Fo.lev] <;> decide +kernel
theorem own_lt {f : Fo Str} {n : Nat} (h : n ≤ 4) : ((ownL f : Nat) : Int) < (n : Int) ↔ f.lev < n := by
  cases f <;> simp only [ownL, Fo.lev] <;> omega
theorem bin_eq {s s3 : Str} (h : ((" " : Str) ++ s) ++ (" " : Str) = s3) (a b : Str) : (a ++ s3) ++ b = binS a s b := by
  unfold binS
  rw [← h]
  simp only [Str.empty_append, Str.append_assoc]
theorem par_eq (z : Str) : (("(" : Str) ++ z) ++ (")" : Str) = ((Str.empty ++ ("(" : Str)) ++ z) ++ (")" : Str) := by
  rw [Str.empty_append]
def spLBare (K : PySem.W.Frag) (n : Nat) : Sp := fun vs H Q _ => ∃ (s l : Addr) (v : V) (f : Fo Str), vs = [v] ∧ Tg K s l H v f.d ∧ f.ok ∧ f.hgt < n ∧ f.sz ≤ 100 ∧ ∀ H', Same H H' → Q (.str (bareS f)) H'
def spLText (K : PySem.W.Frag) (n : Nat) : Sp := fun vs H Q _ => ∃ (s l : Addr) (v : V) (f : Fo Str) (lv : Nat), vs = [v, .int (lv : Nat)] ∧ Tg K s l H v f.d ∧ f.ok ∧ f.hgt < n ∧ f.sz ≤ 100 ∧ lv ≤ 4 ∧ ∀ H', Same H H' → Q (.str (parS f.lev lv (bareS f))) H'
section
variable {P : Program} {w : World} {K : PySem.W.Frag} {mg : Str → Option Value} {base : Heap}
theorem scLText : FnScope ["formula", "level", "levels", "bare"] ["formula", "level"] (defScope sLText) := ⟨rfl, rfl, rfl, by decide +kernel, rfl, by decide +kernel, by decide +kernel⟩
theorem scLBare : FnScope ["formula", "word", "sign", "level"] ["formula"] (defScope sLBare) := ⟨rfl, rfl, rfl, by decide +kernel, rfl, by decide +kernel, by decide +kernel⟩
theorem ok_ltext {n : Nat} {f : Addr} {fd : FuncData} (F : Fun K "_law_text" "_law_text" sLText f fd) (LB : Def P w K mg base CX0 "_law_bare" (2 * n + 1) ["formula"] (spLBare K n)) :
    FnOk P w K mg base CX0 (2 * n + 2) f fd ["formula", "level"] (spLText K n) := by
  refine F.ok scLText (fun vs H Q E h => ?_) (fun cdv A outer s H vs Q E hr h => ?_)
  · obtain ⟨s, l, v, f, lv, rfl, _⟩ := h
    rfl
  obtain ⟨s, l, v, fo, lv, rfl, hv, ho, hh, hs, h4, q⟩ := h
  have hu := hu_of hr
  refine ⟨_, (pss_cons (ps_set (i := 2) scLText.nd rfl (Or.inl rfl) (pe_disp (pps_cons pe_str pe_int (pps_cons pe_str pe_int (pps_cons pe_str pe_int (pps_cons pe_str pe_int (pps_cons pe_str pe_int (pps_cons pe_str pe_int (pps_cons pe_str pe_int (pps_cons pe_str pe_int pps_nil)))))))) (by rfl) (by rfl) (fun z => by cases z) (by decide)))
    (pss_cons (ps_set (i := 3) scLText.nd rfl (Or.inl rfl) (pe_def LB hr rfl (pa_cons (pv 0) pa_nil)))
    (pss_one (ps_ret (pe_ifExp (pt_cmpR op_lt (pe_dget2 hu (pv 2) (pe_ix ix_tup (pv 0) pe_int (fun _ _ => rfl)) pe_int ⟨rfl, rfl, rfl, rfl⟩) (pv 1) (nomark _)) (pe_op op_add_str (pe_op op_add_str pe_str (pv 3)) pe_str) (pv 3)))))), ?_⟩
  have z : sizeLine = 16777216 := sizeLine_eq
  have hl := bare_len fo ho
  refine fun pg hpg => ⟨upd_same, tabK lawLev, rfl, (by show 8 ≤ 15; decide), ?_⟩
  have ek : mergeK [] (tabK lawLev) = tabK lawLev := mergeK_nd (by decide +kernel)
  rw [ek]
  have s1 : Same H (upd (upd H pg (.dK [])) pg (.dK (tabK lawLev))) := same_mut hpg (same_new hpg _)
  have d1 : (upd (upd H pg (.dK [])) pg (.dK (tabK lawLev))) pg = some (.dK (tabK lawLev)) := upd_same
  generalize upd (upd H pg (.dK [])) pg (.dK (tabK lawLev)) = H1 at s1 d1 ⊢
  refine ⟨_, rfl, s, l, v, fo, rfl, hv.same s1, ho, hh, hs, fun H2 s2 => ?_⟩
  obtain ⟨a, xs, rfl, ha⟩ := fo_head hv
  have s12 := s1.trans s2
  refine ⟨_, rfl, pg, rfl, .inl ⟨_, .inl (s2 _ _ d1)⟩, _, rfl, a, _, _, _, rfl, rfl, Same.seqT s12 ha, atI_nat (j := 0) rfl, _, DGet.k (k := .inr fo.wd) (s2 _ _ d1), _, rfl, ?_⟩
  rw [valV_tab, lev_wd]
  refine ⟨_, _, rfl, rfl, _, rfl, ?_⟩
  unfold parS at q
  by_cases c : fo.lev < lv
  · rw [decide_eq_true ((own_lt h4).mpr c)]
    rw [if_pos c] at q
    refine iteT ⟨_, rfl, _, _, rfl, rfl, ?_, _, _, rfl, rfl, ?_, ?_⟩
    · show 1 + _ ≤ _
      omega
    · rw [Str.length_append]
      show (1 + _) + 1 ≤ _
      omega
    · rw [par_eq]
      exact q H2 s12
  · rw [decide_eq_false (fun h => c ((own_lt h4).mp h))]
    rw [if_neg c] at q
    exact iteF ⟨_, rfl, q H2 s12⟩
end
end Kn
set_option Elab.async false
set_option linter.all false
set_option maxRecDepth 100000
set_option maxHeartbeats 4000000
set_option pp.maxSteps 1200
namespace Kn
open PySem L2 TL PySem.Spec PyProof.Rows
section
variable {P : Program} {w : World} {K : PySem.W.Frag} {mg : Str → Option Value} {base : Heap}
theorem e_len0 : Str.empty.length = 0 := rfl
abbrev q2t : List Str := [("some" : Str), "all"]
theorem ln1 : ("!" : Str).length = 1 := rfl
theorem ln2 : (" " : Str).length = 1 := rfl
theorem ln3 : ("&" : Str).length = 1 := rfl
theorem ln4 : ("|" : Str).length = 1 := rfl
theorem ln5 : ("^" : Str).length = 1 := rfl
theorem ln6 : (" ? " : Str).length = 3 := rfl
theorem ln7 : (" : " : Str).length = 3 := rfl
theorem ln8 : (" := " : Str).length = 4 := rfl
theorem ln9 : (" in " : Str).length = 4 := rfl
theorem ln10 : ("some" : Str).length = 4 := rfl
theorem ln11 : ("all" : Str).length = 3 := rfl
theorem step_baretext {n : Nat} {f aS : Addr} {fd : FuncData} (F : Fun K "bare_text" "bare_text" sBareText f fd) (LV : Def P w K mg base CX0 "level_of" 1 ["formula"] (spLevel K)) (BT : Def P w K mg base CX0 "bare_text" (2 * n + 2) ["formula"] (spBareT K n))
    (PT : Def P w K mg base CX0 "part_text" (2 * n + 3) ["formula", "least"] (spPartT K n)) (mS : mg "SIGNS" = some (.ref aS)) (T : KTab K w aS sigG) :
    FnOk P w K mg base CX0 (2 * (n + 1) + 2) f fd ["formula"] (spBareT K (n + 1)) := by
  refine F.ok scBareText (fun vs H Q E h => ?_) (fun cdv A outer s H vs Q E hr h => ?_)
  · obtain ⟨s, l, v, f, rfl, _⟩ := h
    rfl
  obtain ⟨s, l, v, fo, rfl, hv, ho, hh, hs, q⟩ := h
  have hr1 : Room 1 _ := hr.mono (by omega)
  have hrB : Room (2 * n + 2) _ := hr.mono (by omega)
  have ix : ∀ i : Nat, True := fun _ => trivial
  refine ⟨_, (pss_cons (ps_set (i := 1) scBareText.nd rfl (Or.inl rfl) (pe_ix ix_tup (pv 0) pe_int (fun _ _ => rfl)))
    (pss_cons (ps_set (i := 2) scBareText.nd rfl (Or.inl rfl) (pe_def LV hr1 rfl (pa_cons (pv 0) pa_nil)))
    (pss_cons (ps_if (pt_cmpR op_eq (pv 1) pe_str (nomark _)) (pss_one (ps_ret pe_str)) pss_nil)
    (pss_cons (ps_if (pt_cmpR op_eq (pv 1) pe_str (nomark _)) (pss_one (ps_ret pe_str)) pss_nil)
    (pss_cons (ps_if (pt_cmpR op_eq (pv 1) pe_str (nomark _)) (pss_one (ps_ret (pe_ix ix_tup (pv 0) pe_int (fun _ _ => rfl)))) pss_nil)
    (pss_cons (ps_if (pt_cmpR op_eq (pv 1) pe_str (nomark _)) (pss_one (ps_ret (pe_joined (.cons pe_str (.cons (pe_fmt (pe_def PT hr rfl (pa_cons (pe_ix ix_tup (pv 0) pe_int (fun _ _ => rfl)) (pa_cons (pv 2) pa_nil)))) .nil))))) pss_nil)
    (pss_cons (ps_if (pt_cmpR op_eq (pv 1) pe_str (nomark _)) (pss_cons (ps_set (i := 3) scBareText.nd rfl (Or.inl rfl) (pe_def PT hr rfl (pa_cons (pe_ix ix_tup (pv 0) pe_int (fun _ _ => rfl)) (pa_cons (pe_op op_add (pv 2) pe_int) pa_nil))))
    (pss_one (ps_ret (pe_joined (.cons (pe_fmt (pv 3)) (.cons pe_str (.cons (pe_fmt (pe_def BT hrB rfl (pa_cons (pe_ix ix_tup (pv 0) pe_int (fun _ _ => rfl)) pa_nil))) (.cons pe_str (.cons (pe_fmt (pe_def BT hrB rfl (pa_cons (pe_ix ix_tup (pv 0) pe_int (fun _ _ => rfl)) pa_nil))) .nil))))))))) pss_nil)
    (pss_cons (ps_if (pt_cmpR op_eq (pv 1) pe_str (nomark _)) (pss_one (ps_ret (pe_joined (.cons (pe_fmt (pe_ix ix_tup (pv 0) pe_int (fun _ _ => rfl))) (.cons pe_str (.cons (pe_fmt (pe_def BT hrB rfl (pa_cons (pe_ix ix_tup (pv 0) pe_int (fun _ _ => rfl)) pa_nil))) (.cons pe_str (.cons (pe_fmt (pe_def BT hrB rfl (pa_cons (pe_ix ix_tup (pv 0) pe_int (fun _ _ => rfl)) pa_nil))) .nil)))))))) pss_nil)
    (pss_cons (ps_if (pt_cmpR op_in_seq (pv 1) (pe_tup (pa_cons pe_str (pa_cons pe_str pa_nil))) (by rfl)) (pss_one (ps_ret (pe_joined (.cons (pe_fmt (pv 1)) (.cons pe_str (.cons (pe_fmt (pe_ix ix_tup (pv 0) pe_int (fun _ _ => rfl))) (.cons pe_str (.cons (pe_fmt (pe_def BT hrB rfl (pa_cons (pe_ix ix_tup (pv 0) pe_int (fun _ _ => rfl)) pa_nil))) .nil)))))))) pss_nil)
    (pss_one (ps_ret (pe_joined (.cons (pe_fmt (pe_def PT hr rfl (pa_cons (pe_ix ix_tup (pv 0) pe_int (fun _ _ => rfl)) (pa_cons (pv 2) pa_nil)))) (.cons pe_str (.cons (pe_fmt (pe_ix ix_kdict (pe_glob (v := .ref aS) rfl mS rfl) (pv 1) (fun _ _ => rfl))) (.cons pe_str (.cons (pe_fmt (pe_def PT hr rfl (pa_cons (pe_ix ix_tup (pv 0) pe_int (fun _ _ => rfl)) (pa_cons (pe_op op_add (pv 2) pe_int) pa_nil)))) .nil))))))))))))))))), ?_⟩
  have z : sizeLine = 16777216 := sizeLine_eq
  have kid : ∀ {k : Fo Str}, k ∈ fo.kd → k.ok ∧ k.hgt < n ∧ k.sz ≤ 60 := fun {k} m => by
    refine ⟨fo_ok_kid ho m, by have := (fo_kid m).1; omega, ?_⟩
    have h1 := fo_sz fo
    have h2 : ∀ (ks : List (Fo Str)), k ∈ ks → k.sz ≤ (ks.map Fo.sz).sum := fun ks => by
      induction ks with
      | nil => exact fun h => nomatch h
      | cons a r ih =>
        intro h
        rw [List.map_cons, List.sum_cons]
        rcases List.mem_cons.mp h with rfl | h
        · omega
        · have := ih h
          omega
    have := h2 _ m
    omega
  have len : ∀ {k : Fo Str}, k ∈ fo.kd → (bareS k).length ≤ 1200 := fun {k} m => by
    have h1 := bare_len k (kid m).1
    have h2 := (kid m).2.2
    omega
  have lenP : ∀ {k : Fo Str} (a b : Nat), k ∈ fo.kd → (parS a b (bareS k)).length ≤ 1202 := fun {k} a b m => by
    have h1 := len m
    have h2 := parS_len a b (bareS k)
    omega
  have m1 : ∀ {x : Fo Str} {r : List (Fo Str)}, x ∈ x :: r := List.mem_cons_self
  have m2 : ∀ {x y : Fo Str} {r : List (Fo Str)}, y ∈ x :: y :: r := List.mem_cons_of_mem _ List.mem_cons_self
  have m3 : ∀ {x y u : Fo Str} {r : List (Fo Str)}, u ∈ x :: y :: u :: r := List.mem_cons_of_mem _ (List.mem_cons_of_mem _ List.mem_cons_self)
  obtain ⟨a, xs, rfl, ha⟩ := fo_head hv
  have wn : ∀ {b : Str}, ¬ fo.wd = b → ¬ fo.wd = b := id
  refine ⟨_, rfl, a, _, _, _, rfl, rfl, ha, atI_nat (j := 0) rfl, _, rfl, s, l, _, fo, rfl, hv, ?_⟩
  cases fo with
  | yes => exact ⟨_, rfl, rfl, _, rfl, vsTt rfl (q H (Same.refl H))⟩
  | no => exact ⟨_, rfl, rfl, _, rfl, vsFt (by decide +kernel) ⟨_, rfl, rfl, _, rfl, vsTt rfl (q H (Same.refl H))⟩⟩
  | nam x =>
    refine ⟨_, rfl, rfl, _, rfl, vsFt (show ¬ ("name" : Str) = "yes" by decide +kernel) ⟨_, rfl, rfl, _, rfl, vsFt (show ¬ ("name" : Str) = "no" by decide +kernel) ⟨_, rfl, rfl, _, rfl, vsTt rfl ?_⟩⟩⟩
    obtain ⟨a, y, e, ha, hy⟩ := tg_1 hv
    cases e
    obtain ⟨rfl, _⟩ := tg_s hy
    exact ⟨_, rfl, a, _, _, _, rfl, rfl, ha, atI_nat (j := 1) rfl, q H (Same.refl H)⟩
  | neg f =>
    refine ⟨_, rfl, rfl, _, rfl, vsFt (show ¬ ("not" : Str) = "yes" by decide +kernel) ⟨_, rfl, rfl, _, rfl, vsFt (show ¬ ("not" : Str) = "no" by decide +kernel) ⟨_, rfl, rfl, _, rfl, vsFt (show ¬ ("not" : Str) = "name" by decide +kernel) ⟨_, rfl, rfl, _, rfl, vsTt rfl ?_⟩⟩⟩⟩
    obtain ⟨a, y, e, ha, hy⟩ := tg_1 hv
    cases e
    have l1 := lenP f.lev 4 (m1 (x := f))
    refine ⟨_, rfl, (by simp only [Str.length_append, e_len0, ln1, ln2, ln3, ln4, ln5, ln6, ln7, ln8, ln9, ln10, ln11]; omega), _, rfl, a, _, _, _, rfl, rfl, ha, atI_nat (j := 1) rfl, _, rfl, s, l, y, f, 4, rfl, hy, (kid m1).1, (kid m1).2.1, (kid m1).2.2, fun H1 s1 => ?_⟩
    exact .inl ⟨_, rfl, by omega, _, rfl, (by simp only [Str.length_append, e_len0, ln1, ln2, ln3, ln4, ln5, ln6, ln7, ln8, ln9, ln10, ln11]; omega), q H1 s1⟩
  | con f g =>
    refine ⟨_, rfl, rfl, _, rfl, vsFt (show ¬ ("and" : Str) = "yes" by decide +kernel) ⟨_, rfl, rfl, _, rfl, vsFt (show ¬ ("and" : Str) = "no" by decide +kernel) ⟨_, rfl, rfl, _, rfl, vsFt (show ¬ ("and" : Str) = "name" by decide +kernel) ⟨_, rfl, rfl, _, rfl, vsFt (show ¬ ("and" : Str) = "not" by decide +kernel) ⟨_, rfl, rfl, _, rfl, vsFt (show ¬ ("and" : Str) = "if" by decide +kernel) ⟨_, rfl, rfl, _, rfl, vsFt (show ¬ ("and" : Str) = "put" by decide +kernel) ⟨_, rfl, (by show 2 ≤ sizeLine; decide), fun t1 ht1 => ⟨t1, _, rfl, .inr (SqT.of upd_same), rfl, rfl, _, rfl, ite2 (fun c1 => ?_) (fun c1 => ?_)⟩⟩⟩⟩⟩⟩⟩⟩
    · exact absurd ((inV_strs "and" q2t).symm.trans c1) (by decide +kernel)
    have s1 : Same H (upd H t1 (.tup [.str "some", .str "all"])) := same_new ht1 _
    generalize upd H t1 (.tup [.str "some", .str "all"]) = H1 at s1 ⊢
    obtain ⟨a, x, y, e, ha, hx, hy⟩ := tg_2 hv
    cases e
    have l1 := lenP f.lev 3 (m1 (x := f) (r := [g]))
    have l2 := lenP g.lev 4 (m2 (x := f) (y := g) (r := []))
    refine ⟨_, rfl, a, _, _, _, rfl, rfl, Same.seqT s1 ha, atI_nat (j := 1) rfl, _, rfl, s, l, x, f, 3, rfl, hx.same s1, (kid m1).1, (kid m1).2.1, (kid m1).2.2, fun H2 s2 => ?_⟩
    refine .inl ⟨_, rfl, by omega, _, rfl, (by simp only [Str.length_append, e_len0, ln1, ln2, ln3, ln4, ln5, ln6, ln7, ln8, ln9, ln10, ln11]; omega), _, rfl, (by simp only [Str.length_append, e_len0, ln1, ln2, ln3, ln4, ln5, ln6, ln7, ln8, ln9, ln10, ln11]; omega), _, rfl, aS, _, .str "&", rfl, rfl, T.kd (show sigG ("and" : Str) = some (.str "&") by decide +kernel), ?_⟩
    refine .inl ⟨_, rfl, by decide, _, rfl, (by simp only [Str.length_append, e_len0, ln1, ln2, ln3, ln4, ln5, ln6, ln7, ln8, ln9, ln10, ln11]; omega), _, rfl, (by simp only [Str.length_append, e_len0, ln1, ln2, ln3, ln4, ln5, ln6, ln7, ln8, ln9, ln10, ln11]; omega), ?_⟩
    refine ⟨_, rfl, a, _, _, _, rfl, rfl, Same.seqT (s1.trans s2) ha, atI_nat (j := 2) rfl, _, rfl, _, _, rfl, rfl, s, l, y, g, 4, rfl, hy.same (s1.trans s2), (kid m2).1, (kid m2).2.1, (kid m2).2.2, fun H3 s3 => ?_⟩
    exact .inl ⟨_, rfl, by omega, _, rfl, (by simp only [Str.length_append, e_len0, ln1, ln2, ln3, ln4, ln5, ln6, ln7, ln8, ln9, ln10, ln11]; omega), q H3 ((s1.trans s2).trans s3)⟩
  | dis f g =>
    refine ⟨_, rfl, rfl, _, rfl, vsFt (show ¬ ("or" : Str) = "yes" by decide +kernel) ⟨_, rfl, rfl, _, rfl, vsFt (show ¬ ("or" : Str) = "no" by decide +kernel) ⟨_, rfl, rfl, _, rfl, vsFt (show ¬ ("or" : Str) = "name" by decide +kernel) ⟨_, rfl, rfl, _, rfl, vsFt (show ¬ ("or" : Str) = "not" by decide +kernel) ⟨_, rfl, rfl, _, rfl, vsFt (show ¬ ("or" : Str) = "if" by decide +kernel) ⟨_, rfl, rfl, _, rfl, vsFt (show ¬ ("or" : Str) = "put" by decide +kernel) ⟨_, rfl, (by show 2 ≤ sizeLine; decide), fun t1 ht1 => ⟨t1, _, rfl, .inr (SqT.of upd_same), rfl, rfl, _, rfl, ite2 (fun c1 => ?_) (fun c1 => ?_)⟩⟩⟩⟩⟩⟩⟩⟩
    · exact absurd ((inV_strs "or" q2t).symm.trans c1) (by decide +kernel)
    have s1 : Same H (upd H t1 (.tup [.str "some", .str "all"])) := same_new ht1 _
    generalize upd H t1 (.tup [.str "some", .str "all"]) = H1 at s1 ⊢
    obtain ⟨a, x, y, e, ha, hx, hy⟩ := tg_2 hv
    cases e
    have l1 := lenP f.lev 1 (m1 (x := f) (r := [g]))
    have l2 := lenP g.lev 2 (m2 (x := f) (y := g) (r := []))
    refine ⟨_, rfl, a, _, _, _, rfl, rfl, Same.seqT s1 ha, atI_nat (j := 1) rfl, _, rfl, s, l, x, f, 1, rfl, hx.same s1, (kid m1).1, (kid m1).2.1, (kid m1).2.2, fun H2 s2 => ?_⟩
    refine .inl ⟨_, rfl, by omega, _, rfl, (by simp only [Str.length_append, e_len0, ln1, ln2, ln3, ln4, ln5, ln6, ln7, ln8, ln9, ln10, ln11]; omega), _, rfl, (by simp only [Str.length_append, e_len0, ln1, ln2, ln3, ln4, ln5, ln6, ln7, ln8, ln9, ln10, ln11]; omega), _, rfl, aS, _, .str "|", rfl, rfl, T.kd (show sigG ("or" : Str) = some (.str "|") by decide +kernel), ?_⟩
    refine .inl ⟨_, rfl, by decide, _, rfl, (by simp only [Str.length_append, e_len0, ln1, ln2, ln3, ln4, ln5, ln6, ln7, ln8, ln9, ln10, ln11]; omega), _, rfl, (by simp only [Str.length_append, e_len0, ln1, ln2, ln3, ln4, ln5, ln6, ln7, ln8, ln9, ln10, ln11]; omega), ?_⟩
    refine ⟨_, rfl, a, _, _, _, rfl, rfl, Same.seqT (s1.trans s2) ha, atI_nat (j := 2) rfl, _, rfl, _, _, rfl, rfl, s, l, y, g, 2, rfl, hy.same (s1.trans s2), (kid m2).1, (kid m2).2.1, (kid m2).2.2, fun H3 s3 => ?_⟩
    exact .inl ⟨_, rfl, by omega, _, rfl, (by simp only [Str.length_append, e_len0, ln1, ln2, ln3, ln4, ln5, ln6, ln7, ln8, ln9, ln10, ln11]; omega), q H3 ((s1.trans s2).trans s3)⟩
  | xor f g =>
    refine ⟨_, rfl, rfl, _, rfl, vsFt (show ¬ ("xor" : Str) = "yes" by decide +kernel) ⟨_, rfl, rfl, _, rfl, vsFt (show ¬ ("xor" : Str) = "no" by decide +kernel) ⟨_, rfl, rfl, _, rfl, vsFt (show ¬ ("xor" : Str) = "name" by decide +kernel) ⟨_, rfl, rfl, _, rfl, vsFt (show ¬ ("xor" : Str) = "not" by decide +kernel) ⟨_, rfl, rfl, _, rfl, vsFt (show ¬ ("xor" : Str) = "if" by decide +kernel) ⟨_, rfl, rfl, _, rfl, vsFt (show ¬ ("xor" : Str) = "put" by decide +kernel) ⟨_, rfl, (by show 2 ≤ sizeLine; decide), fun t1 ht1 => ⟨t1, _, rfl, .inr (SqT.of upd_same), rfl, rfl, _, rfl, ite2 (fun c1 => ?_) (fun c1 => ?_)⟩⟩⟩⟩⟩⟩⟩⟩
    · exact absurd ((inV_strs "xor" q2t).symm.trans c1) (by decide +kernel)
    have s1 : Same H (upd H t1 (.tup [.str "some", .str "all"])) := same_new ht1 _
    generalize upd H t1 (.tup [.str "some", .str "all"]) = H1 at s1 ⊢
    obtain ⟨a, x, y, e, ha, hx, hy⟩ := tg_2 hv
    cases e
    have l1 := lenP f.lev 2 (m1 (x := f) (r := [g]))
    have l2 := lenP g.lev 3 (m2 (x := f) (y := g) (r := []))
    refine ⟨_, rfl, a, _, _, _, rfl, rfl, Same.seqT s1 ha, atI_nat (j := 1) rfl, _, rfl, s, l, x, f, 2, rfl, hx.same s1, (kid m1).1, (kid m1).2.1, (kid m1).2.2, fun H2 s2 => ?_⟩
    refine .inl ⟨_, rfl, by omega, _, rfl, (by simp only [Str.length_append, e_len0, ln1, ln2, ln3, ln4, ln5, ln6, ln7, ln8, ln9, ln10, ln11]; omega), _, rfl, (by simp only [Str.length_append, e_len0, ln1, ln2, ln3, ln4, ln5, ln6, ln7, ln8, ln9, ln10, ln11]; omega), _, rfl, aS, _, .str "^", rfl, rfl, T.kd (show sigG ("xor" : Str) = some (.str "^") by decide +kernel), ?_⟩
    refine .inl ⟨_, rfl, by decide, _, rfl, (by simp only [Str.length_append, e_len0, ln1, ln2, ln3, ln4, ln5, ln6, ln7, ln8, ln9, ln10, ln11]; omega), _, rfl, (by simp only [Str.length_append, e_len0, ln1, ln2, ln3, ln4, ln5, ln6, ln7, ln8, ln9, ln10, ln11]; omega), ?_⟩
    refine ⟨_, rfl, a, _, _, _, rfl, rfl, Same.seqT (s1.trans s2) ha, atI_nat (j := 2) rfl, _, rfl, _, _, rfl, rfl, s, l, y, g, 3, rfl, hy.same (s1.trans s2), (kid m2).1, (kid m2).2.1, (kid m2).2.2, fun H3 s3 => ?_⟩
    exact .inl ⟨_, rfl, by omega, _, rfl, (by simp only [Str.length_append, e_len0, ln1, ln2, ln3, ln4, ln5, ln6, ln7, ln8, ln9, ln10, ln11]; omega), q H3 ((s1.trans s2).trans s3)⟩
  | ite f g k =>
    refine ⟨_, rfl, rfl, _, rfl, vsFt (show ¬ ("if" : Str) = "yes" by decide +kernel) ⟨_, rfl, rfl, _, rfl, vsFt (show ¬ ("if" : Str) = "no" by decide +kernel) ⟨_, rfl, rfl, _, rfl, vsFt (show ¬ ("if" : Str) = "name" by decide +kernel) ⟨_, rfl, rfl, _, rfl, vsFt (show ¬ ("if" : Str) = "not" by decide +kernel) ⟨_, rfl, rfl, _, rfl, vsTt rfl ?_⟩⟩⟩⟩⟩
    obtain ⟨a, x, y, u, e, ha, hx, hy, hu⟩ := tg_3 hv
    cases e
    have l1 := lenP f.lev 1 (m1 (x := f) (r := [g, k]))
    have l2 := len (m2 (x := f) (y := g) (r := [k]))
    have l3 := len (m3 (x := f) (y := g) (u := k) (r := []))
    refine ⟨_, rfl, a, _, _, _, rfl, rfl, ha, atI_nat (j := 1) rfl, _, rfl, _, _, rfl, rfl, s, l, x, f, 1, rfl, hx, (kid m1).1, (kid m1).2.1, (kid m1).2.2, fun H1 s1 => ?_⟩
    refine ⟨_, rfl, .inl ⟨_, rfl, by omega, _, rfl, (by simp only [Str.length_append, e_len0, ln1, ln2, ln3, ln4, ln5, ln6, ln7, ln8, ln9, ln10, ln11]; omega), _, rfl, (by simp only [Str.length_append, e_len0, ln1, ln2, ln3, ln4, ln5, ln6, ln7, ln8, ln9, ln10, ln11]; omega), ?_⟩⟩
    refine ⟨_, rfl, a, _, _, _, rfl, rfl, Same.seqT s1 ha, atI_nat (j := 2) rfl, s, l, y, g, rfl, hy.same s1, (kid m2).1, (kid m2).2.1, (kid m2).2.2, fun H2 s2 => ?_⟩
    refine .inl ⟨_, rfl, by omega, _, rfl, (by simp only [Str.length_append, e_len0, ln1, ln2, ln3, ln4, ln5, ln6, ln7, ln8, ln9, ln10, ln11]; omega), _, rfl, (by simp only [Str.length_append, e_len0, ln1, ln2, ln3, ln4, ln5, ln6, ln7, ln8, ln9, ln10, ln11]; omega), ?_⟩
    refine ⟨_, rfl, a, _, _, _, rfl, rfl, Same.seqT (s1.trans s2) ha, atI_nat (j := 3) rfl, s, l, u, k, rfl, hu.same (s1.trans s2), (kid m3).1, (kid m3).2.1, (kid m3).2.2, fun H3 s3 => ?_⟩
    exact .inl ⟨_, rfl, by omega, _, rfl, (by simp only [Str.length_append, e_len0, ln1, ln2, ln3, ln4, ln5, ln6, ln7, ln8, ln9, ln10, ln11]; omega), q H3 ((s1.trans s2).trans s3)⟩
  | som x f =>
    refine ⟨_, rfl, rfl, _, rfl, vsFt (show ¬ ("some" : Str) = "yes" by decide +kernel) ⟨_, rfl, rfl, _, rfl, vsFt (show ¬ ("some" : Str) = "no" by decide +kernel) ⟨_, rfl, rfl, _, rfl, vsFt (show ¬ ("some" : Str) = "name" by decide +kernel) ⟨_, rfl, rfl, _, rfl, vsFt (show ¬ ("some" : Str) = "not" by decide +kernel) ⟨_, rfl, rfl, _, rfl, vsFt (show ¬ ("some" : Str) = "if" by decide +kernel) ⟨_, rfl, rfl, _, rfl, vsFt (show ¬ ("some" : Str) = "put" by decide +kernel) ⟨_, rfl, (by show 2 ≤ sizeLine; decide), fun t1 ht1 => ⟨t1, _, rfl, .inr (SqT.of upd_same), rfl, rfl, _, rfl, ite2 (fun c1 => ?_) (fun c1 => ?_)⟩⟩⟩⟩⟩⟩⟩⟩
    rotate_left
    · exact absurd ((inV_strs "some" q2t).trans (by decide +kernel)) c1
    have s1 : Same H (upd H t1 (.tup [.str "some", .str "all"])) := same_new ht1 _
    generalize upd H t1 (.tup [.str "some", .str "all"]) = H1 at s1 ⊢
    obtain ⟨a, u, y, e, ha, hx, hy⟩ := tg_2 hv
    cases e
    obtain ⟨rfl, _⟩ := tg_s hx
    have l1 := name_len (ho x List.mem_cons_self)
    have l2 := len (m1 (x := f) (r := []))
    refine ⟨_, rfl, .inl ⟨("some" : Str), rfl, by decide, ("some" : Str), rfl, (by simp only [Str.length_append, e_len0, ln1, ln2, ln3, ln4, ln5, ln6, ln7, ln8, ln9, ln10, ln11]; omega), _, rfl, (by simp only [Str.length_append, e_len0, ln1, ln2, ln3, ln4, ln5, ln6, ln7, ln8, ln9, ln10, ln11]; omega), ?_⟩⟩
    refine ⟨_, rfl, a, _, _, _, rfl, rfl, Same.seqT s1 ha, atI_nat (j := 1) rfl, .inl ⟨_, rfl, by omega, _, rfl, (by simp only [Str.length_append, e_len0, ln1, ln2, ln3, ln4, ln5, ln6, ln7, ln8, ln9, ln10, ln11]; omega), _, rfl, (by simp only [Str.length_append, e_len0, ln1, ln2, ln3, ln4, ln5, ln6, ln7, ln8, ln9, ln10, ln11]; omega), ?_⟩⟩
    refine ⟨_, rfl, a, _, _, _, rfl, rfl, Same.seqT s1 ha, atI_nat (j := 2) rfl, s, l, y, f, rfl, hy.same s1, (kid m1).1, (kid m1).2.1, (kid m1).2.2, fun H3 s3 => ?_⟩
    exact .inl ⟨_, rfl, by omega, _, rfl, (by simp only [Str.length_append, e_len0, ln1, ln2, ln3, ln4, ln5, ln6, ln7, ln8, ln9, ln10, ln11]; omega), q H3 (s1.trans s3)⟩
  | all x f =>
    refine ⟨_, rfl, rfl, _, rfl, vsFt (show ¬ ("all" : Str) = "yes" by decide +kernel) ⟨_, rfl, rfl, _, rfl, vsFt (show ¬ ("all" : Str) = "no" by decide +kernel) ⟨_, rfl, rfl, _, rfl, vsFt (show ¬ ("all" : Str) = "name" by decide +kernel) ⟨_, rfl, rfl, _, rfl, vsFt (show ¬ ("all" : Str) = "not" by decide +kernel) ⟨_, rfl, rfl, _, rfl, vsFt (show ¬ ("all" : Str) = "if" by decide +kernel) ⟨_, rfl, rfl, _, rfl, vsFt (show ¬ ("all" : Str) = "put" by decide +kernel) ⟨_, rfl, (by show 2 ≤ sizeLine; decide), fun t1 ht1 => ⟨t1, _, rfl, .inr (SqT.of upd_same), rfl, rfl, _, rfl, ite2 (fun c1 => ?_) (fun c1 => ?_)⟩⟩⟩⟩⟩⟩⟩⟩
    rotate_left
    · exact absurd ((inV_strs "all" q2t).trans (by decide +kernel)) c1
    have s1 : Same H (upd H t1 (.tup [.str "some", .str "all"])) := same_new ht1 _
    generalize upd H t1 (.tup [.str "some", .str "all"]) = H1 at s1 ⊢
    obtain ⟨a, u, y, e, ha, hx, hy⟩ := tg_2 hv
    cases e
    obtain ⟨rfl, _⟩ := tg_s hx
    have l1 := name_len (ho x List.mem_cons_self)
    have l2 := len (m1 (x := f) (r := []))
    refine ⟨_, rfl, .inl ⟨("all" : Str), rfl, by decide, ("all" : Str), rfl, (by simp only [Str.length_append, e_len0, ln1, ln2, ln3, ln4, ln5, ln6, ln7, ln8, ln9, ln10, ln11]; omega), _, rfl, (by simp only [Str.length_append, e_len0, ln1, ln2, ln3, ln4, ln5, ln6, ln7, ln8, ln9, ln10, ln11]; omega), ?_⟩⟩
    refine ⟨_, rfl, a, _, _, _, rfl, rfl, Same.seqT s1 ha, atI_nat (j := 1) rfl, .inl ⟨_, rfl, by omega, _, rfl, (by simp only [Str.length_append, e_len0, ln1, ln2, ln3, ln4, ln5, ln6, ln7, ln8, ln9, ln10, ln11]; omega), _, rfl, (by simp only [Str.length_append, e_len0, ln1, ln2, ln3, ln4, ln5, ln6, ln7, ln8, ln9, ln10, ln11]; omega), ?_⟩⟩
    refine ⟨_, rfl, a, _, _, _, rfl, rfl, Same.seqT s1 ha, atI_nat (j := 2) rfl, s, l, y, f, rfl, hy.same s1, (kid m1).1, (kid m1).2.1, (kid m1).2.2, fun H3 s3 => ?_⟩
    exact .inl ⟨_, rfl, by omega, _, rfl, (by simp only [Str.length_append, e_len0, ln1, ln2, ln3, ln4, ln5, ln6, ln7, ln8, ln9, ln10, ln11]; omega), q H3 (s1.trans s3)⟩
  | put x f g =>
    refine ⟨_, rfl, rfl, _, rfl, vsFt (show ¬ ("put" : Str) = "yes" by decide +kernel) ⟨_, rfl, rfl, _, rfl, vsFt (show ¬ ("put" : Str) = "no" by decide +kernel) ⟨_, rfl, rfl, _, rfl, vsFt (show ¬ ("put" : Str) = "name" by decide +kernel) ⟨_, rfl, rfl, _, rfl, vsFt (show ¬ ("put" : Str) = "not" by decide +kernel) ⟨_, rfl, rfl, _, rfl, vsFt (show ¬ ("put" : Str) = "if" by decide +kernel) ⟨_, rfl, rfl, _, rfl, vsTt rfl ?_⟩⟩⟩⟩⟩⟩
    obtain ⟨a, u, y, t, e, ha, hx, hy, ht⟩ := tg_3 hv
    cases e
    obtain ⟨rfl, _⟩ := tg_s hx
    have l1 := name_len (ho x List.mem_cons_self)
    have l2 := len (m1 (x := f) (r := [g]))
    have l3 := len (m2 (x := f) (y := g) (r := []))
    refine ⟨_, rfl, a, _, _, _, rfl, rfl, ha, atI_nat (j := 1) rfl, .inl ⟨_, rfl, by omega, _, rfl, (by simp only [Str.length_append, e_len0, ln1, ln2, ln3, ln4, ln5, ln6, ln7, ln8, ln9, ln10, ln11]; omega), _, rfl, (by simp only [Str.length_append, e_len0, ln1, ln2, ln3, ln4, ln5, ln6, ln7, ln8, ln9, ln10, ln11]; omega), ?_⟩⟩
    refine ⟨_, rfl, a, _, _, _, rfl, rfl, ha, atI_nat (j := 2) rfl, s, l, y, f, rfl, hy, (kid m1).1, (kid m1).2.1, (kid m1).2.2, fun H2 s2 => ?_⟩
    refine .inl ⟨_, rfl, by omega, _, rfl, (by simp only [Str.length_append, e_len0, ln1, ln2, ln3, ln4, ln5, ln6, ln7, ln8, ln9, ln10, ln11]; omega), _, rfl, (by simp only [Str.length_append, e_len0, ln1, ln2, ln3, ln4, ln5, ln6, ln7, ln8, ln9, ln10, ln11]; omega), ?_⟩
    refine ⟨_, rfl, a, _, _, _, rfl, rfl, Same.seqT s2 ha, atI_nat (j := 3) rfl, s, l, t, g, rfl, ht.same s2, (kid m2).1, (kid m2).2.1, (kid m2).2.2, fun H3 s3 => ?_⟩
    exact .inl ⟨_, rfl, by omega, _, rfl, (by simp only [Str.length_append, e_len0, ln1, ln2, ln3, ln4, ln5, ln6, ln7, ln8, ln9, ln10, ln11]; omega), q H3 (s2.trans s3)⟩
theorem all_baretext {f f2 aS : Addr} {fd fd2 : FuncData} (F : Fun K "bare_text" "bare_text" sBareText f fd) (bF : Binds K fd ["formula"] []) (mF : mg "bare_text" = some (.ref f)) (F2 : Fun K "part_text" "part_text" sPartText f2 fd2) (bF2 : Binds K fd2 ["formula", "least"] []) (mF2 : mg "part_text" = some (.ref f2))
    (LV : Def P w K mg base CX0 "level_of" 1 ["formula"] (spLevel K)) (mS : mg "SIGNS" = some (.ref aS)) (T : KTab K w aS sigG) : ∀ n, FnOk P w K mg base CX0 (2 * n + 2) f fd ["formula"] (spBareT K n)
  | 0 => by
    refine F.ok scBareText (fun vs H Q E h => ?_) (fun cdv A outer s H vs Q E hr h => ?_)
    · obtain ⟨s, l, v, f, rfl, _⟩ := h
      rfl
    · obtain ⟨s, l, v, f, rfl, _, _, hh, _⟩ := h
      exact absurd hh (Nat.not_lt_zero _)
  | n + 1 => by
    have B : Def P w K mg base CX0 "bare_text" (2 * n + 2) ["formula"] (spBareT K n) := ⟨⟨_, _, mF, F.kp, bF, all_baretext F bF mF F2 bF2 mF2 LV mS T n⟩⟩
    exact step_baretext F LV B ⟨⟨_, _, mF2, F2.kp, bF2, ok_parttext F2 LV B⟩⟩ mS T
end
end Kn
set_option Elab.async false
set_option linter.all false
set_option maxRecDepth 100000
set_option maxHeartbeats 4000000
set_option pp.maxSteps 1200
namespace Kn
open PySem L2 TL PySem.Spec PyProof.Rows
abbrev a3t : List Str := ["yes", "no", "name"]
abbrev b3t : List Str := ["and", "or", "xor"]
theorem inFt {x : Str} {ws : List Str} {A B : Prop} (h : ¬ x ∈ ws) (hb : B) : if inV (V.str x) (ws.map V.str) = true then A else B := by
  rw [inV_strs, decide_eq_false h]
  exact iteF hb
theorem inTt {x : Str} {ws : List Str} {A B : Prop} (h : x ∈ ws) (ha : A) : if inV (V.str x) (ws.map V.str) = true then A else B := by
  rw [inV_strs, decide_eq_true h]
  exact iteT ha
theorem tg_0 {K : PySem.W.Frag} {s l : Addr} {H : Hp} {v : V} {w : Str} (h : Tg K s l H v (.tuple [.str w])) : ∃ a, v = .ref a ∧ SqT K H a [.str w] := by
  cases h with
  | @tup a xs ds ha hxs =>
    cases hxs with
    | cons h0 hr =>
      cases h0
      cases hr
      exact ⟨a, rfl, ha⟩
def yn2 : List (Str × V) := [("yes", .str "1"), ("no", .str "0")]
section
variable {P : Program} {w : World} {K : PySem.W.Frag} {mg : Str → Option Value} {base : Heap}
theorem step_lbare {n : Nat} {f : Addr} {fd : FuncData} (F : Fun K "_law_bare" "_law_bare" sLBare f fd) (LB : Def P w K mg base CX0 "_law_bare" (2 * n + 1) ["formula"] (spLBare K n))
    (LT : Def P w K mg base CX0 "_law_text" (2 * n + 2) ["formula", "level"] (spLText K n)) : FnOk P w K mg base CX0 (2 * (n + 1) + 1) f fd ["formula"] (spLBare K (n + 1)) := by
  refine F.ok scLBare (fun vs H Q E h => ?_) (fun cdv A outer s H vs Q E hr h => ?_)
  · obtain ⟨s, l, v, f, rfl, _⟩ := h
    rfl
  obtain ⟨s, l, v, fo, rfl, hv, ho, hh, hs, q⟩ := h
  have hu := hu_of hr
  have hrB : Room (2 * n + 1) _ := hr.mono (by omega)
  refine ⟨_, (pss_cons (ps_set (i := 1) scLBare.nd rfl (Or.inl rfl) (pe_ix ix_tup (pv 0) pe_int (fun _ _ => rfl)))
    (pss_cons (ps_if (pt_cmpR op_in_seq (pv 1) (pe_tup (pa_cons pe_str (pa_cons pe_str (pa_cons pe_str pa_nil)))) (by rfl)) (pss_one (ps_ret (pe_dget2 hu (pe_disp (pps_cons pe_str pe_str (pps_cons pe_str pe_str pps_nil)) (by rfl) (by rfl) (fun z => by cases z) (by decide)) (pv 1) (pe_ix ix_tup (pv 0) (pe_un un_neg pe_int) (fun _ _ => rfl)) ⟨rfl, rfl, rfl, rfl⟩))) pss_nil)
    (pss_cons (ps_if (pt_cmpR op_eq (pv 1) pe_str (nomark _)) (pss_one (ps_ret (pe_op op_add_str pe_str (pe_def LT hr rfl (pa_cons (pe_ix ix_tup (pv 0) pe_int (fun _ _ => rfl)) (pa_cons pe_int pa_nil)))))) pss_nil)
    (pss_cons (ps_if (pt_cmpR op_in_seq (pv 1) (pe_tup (pa_cons pe_str (pa_cons pe_str (pa_cons pe_str pa_nil)))) (by rfl)) (pss_cons (ps_asg (pe_dget hu (pe_disp (pps_cons pe_str (pe_tup (pa_cons pe_str (pa_cons pe_int pa_nil))) (pps_cons pe_str (pe_tup (pa_cons pe_str (pa_cons pe_int pa_nil))) (pps_cons pe_str (pe_tup (pa_cons pe_str (pa_cons pe_int pa_nil))) pps_nil))) (by rfl) (by rfl) (fun z => by cases z) (by decide)) (pv 1) (fun _ _ => rfl)) (pg_tup rfl (pgs_cons (pg_name (i := 2) scLBare.nd rfl (Or.inl rfl)) (pgs_cons (pg_name (i := 3) scLBare.nd rfl (Or.inl rfl)) pgs_nil))))
    (pss_one (ps_ret (pe_op op_add_str (pe_op op_add_str (pe_def LT hr rfl (pa_cons (pe_ix ix_tup (pv 0) pe_int (fun _ _ => rfl)) (pa_cons (pv 3) pa_nil))) (pv 2)) (pe_def LT hr rfl (pa_cons (pe_ix ix_tup (pv 0) pe_int (fun _ _ => rfl)) (pa_cons (pe_op op_add (pv 3) pe_int) pa_nil))))))) pss_nil)
    (pss_cons (ps_if (pt_cmpR op_eq (pv 1) pe_str (nomark _)) (pss_one (ps_ret (pe_op op_add_str (pe_op op_add_str (pe_op op_add_str (pe_op op_add_str (pe_def LT hr rfl (pa_cons (pe_ix ix_tup (pv 0) pe_int (fun _ _ => rfl)) (pa_cons pe_int pa_nil))) pe_str) (pe_def LB hrB rfl (pa_cons (pe_ix ix_tup (pv 0) pe_int (fun _ _ => rfl)) pa_nil))) pe_str) (pe_def LB hrB rfl (pa_cons (pe_ix ix_tup (pv 0) pe_int (fun _ _ => rfl)) pa_nil))))) pss_nil)
    (pss_cons (ps_if (pt_cmpR op_eq (pv 1) pe_str (nomark _)) (pss_one (ps_ret (pe_op op_add_str (pe_op op_add_str (pe_op op_add_str (pe_op op_add_str (pe_ix ix_tup (pv 0) pe_int (fun _ _ => rfl)) pe_str) (pe_def LB hrB rfl (pa_cons (pe_ix ix_tup (pv 0) pe_int (fun _ _ => rfl)) pa_nil))) pe_str) (pe_def LB hrB rfl (pa_cons (pe_ix ix_tup (pv 0) pe_int (fun _ _ => rfl)) pa_nil))))) pss_nil)
    (pss_one (ps_ret (pe_op op_add_str (pe_op op_add_str (pe_op op_add_str (pe_op op_add_str (pv 1) pe_str) (pe_ix ix_tup (pv 0) pe_int (fun _ _ => rfl))) pe_str) (pe_def LB hrB rfl (pa_cons (pe_ix ix_tup (pv 0) pe_int (fun _ _ => rfl)) pa_nil))))))))))), ?_⟩
  have z : sizeLine = 16777216 := sizeLine_eq
  have kid : ∀ {k : Fo Str}, k ∈ fo.kd → k.ok ∧ k.hgt < n ∧ k.sz ≤ 100 := fun {k} m => by
    refine ⟨fo_ok_kid ho m, by have := (fo_kid m).1; omega, ?_⟩
    have h1 := fo_sz fo
    have h2 : ∀ (ks : List (Fo Str)), k ∈ ks → k.sz ≤ (ks.map Fo.sz).sum := fun ks => by
      induction ks with
      | nil => exact fun h => nomatch h
      | cons a r ih =>
        intro h
        rw [List.map_cons, List.sum_cons]
        rcases List.mem_cons.mp h with rfl | h
        · omega
        · have := ih h
          omega
    have := h2 _ m
    omega
  have len : ∀ {k : Fo Str}, k ∈ fo.kd → (bareS k).length ≤ 2000 := fun {k} m => by
    have h1 := bare_len k (kid m).1
    have h2 := (kid m).2.2
    omega
  have lenP : ∀ {k : Fo Str} (a b : Nat), k ∈ fo.kd → (parS a b (bareS k)).length ≤ 2002 := fun {k} a b m => by
    have h1 := len m
    have h2 := parS_len a b (bareS k)
    omega
  have m1 : ∀ {x : Fo Str} {r : List (Fo Str)}, x ∈ x :: r := List.mem_cons_self
  have m2 : ∀ {x y : Fo Str} {r : List (Fo Str)}, y ∈ x :: y :: r := List.mem_cons_of_mem _ List.mem_cons_self
  have m3 : ∀ {x y u : Fo Str} {r : List (Fo Str)}, u ∈ x :: y :: u :: r := List.mem_cons_of_mem _ (List.mem_cons_of_mem _ List.mem_cons_self)
  -- texts of parts
  have eLB : ∀ {σ : L2.St} {H0 : Hp} {a : Addr} {xs : List V} {j : Nat} {y : V} {k : Fo Str}, σ[0]? = some (some (.ref a)) → SqT K H0 a xs → xs[j]? = some y → Tg K s l H0 y k.d → k ∈ fo.kd → EvS (bareS k) (tCall (spLBare K n) [] E0 (tCons (tOp (rIxT K) (tVar 0) (tC (.int (j : Int)))) tNil)) σ H0 :=
    fun h0 ha hj hy hk H e Q q => ⟨_, h0, _, _, _, _, rfl, rfl, Same.seqT e ha, atI_nat hj, s, l, _, _, rfl, hy.same e, (kid hk).1, (kid hk).2.1, (kid hk).2.2, fun H' e' => q H' e'⟩
  have eLT : ∀ {σ : L2.St} {H0 : Hp} {a : Addr} {xs : List V} {j lv : Nat} {y : V} {k : Fo Str} {tl : TE}, σ[0]? = some (some (.ref a)) → SqT K H0 a xs → xs[j]? = some y → Tg K s l H0 y k.d → k ∈ fo.kd → lv ≤ 4 → (∀ H Q, Q (.int (lv : Nat)) H → tl σ H Q) → EvS (parS k.lev lv (bareS k)) (tCall (spLText K n) [] E0 (tCons (tOp (rIxT K) (tVar 0) (tC (.int (j : Int)))) (tCons tl tNil))) σ H0 :=
    fun h0 ha hj hy hk h4 ht H e Q q => ⟨_, h0, _, _, _, _, rfl, rfl, Same.seqT e ha, atI_nat hj, ht _ _ ⟨s, l, _, _, _, rfl, hy.same e, (kid hk).1, (kid hk).2.1, (kid hk).2.2, h4, fun H' e' => q H' e'⟩⟩
  cases fo with
  | yes =>
    obtain ⟨a, rfl, ha⟩ := tg_0 hv
    refine ⟨_, rfl, a, _, _, _, rfl, rfl, ha, atI_nat (j := 0) rfl, ?_⟩
    refine ⟨_, rfl, (by show 3 ≤ sizeLine; decide), fun t1 ht1 => ⟨t1, _, rfl, .inr (SqT.of upd_same), rfl, rfl, _, rfl, ?_⟩⟩
    have s1 : Same H (upd H t1 (.tup [.str "yes", .str "no", .str "name"])) := same_new ht1 _
    generalize upd H t1 (.tup [.str "yes", .str "no", .str "name"]) = H1 at s1 ⊢
    refine inTt (x := "yes") (ws := a3t) (by decide +kernel) ?_
    refine fun pg hpg => ⟨upd_same, tabK yn2, rfl, (by show 2 ≤ 15; decide), ?_⟩
    have ek : mergeK [] (tabK yn2) = tabK yn2 := mergeK_nd (by decide +kernel)
    rw [ek]
    have s2 : Same H (upd (upd H1 pg (.dK [])) pg (.dK (tabK yn2))) := s1.trans (same_mut hpg (same_new hpg _))
    have d1 : (upd (upd H1 pg (.dK [])) pg (.dK (tabK yn2))) pg = some (.dK (tabK yn2)) := upd_same
    refine ⟨pg, rfl, .inl ⟨_, .inl d1⟩, _, rfl, _, rfl, _, rfl, a, _, _, _, rfl, rfl, Same.seqT s2 ha, (show atI (([] : List V) ++ [V.str "yes"]) (-1) = some (V.str "yes") from atI_last _ _), _, DGet.k (k := .inr "yes") d1, ?_⟩
    rw [valV_tab, show (yn2.lookup ("yes" : Str)) = some (.str "1") by decide +kernel]
    exact q _ s2
  | no =>
    obtain ⟨a, rfl, ha⟩ := tg_0 hv
    refine ⟨_, rfl, a, _, _, _, rfl, rfl, ha, atI_nat (j := 0) rfl, ?_⟩
    refine ⟨_, rfl, (by show 3 ≤ sizeLine; decide), fun t1 ht1 => ⟨t1, _, rfl, .inr (SqT.of upd_same), rfl, rfl, _, rfl, ?_⟩⟩
    have s1 : Same H (upd H t1 (.tup [.str "yes", .str "no", .str "name"])) := same_new ht1 _
    generalize upd H t1 (.tup [.str "yes", .str "no", .str "name"]) = H1 at s1 ⊢
    refine inTt (x := "no") (ws := a3t) (by decide +kernel) ?_
    refine fun pg hpg => ⟨upd_same, tabK yn2, rfl, (by show 2 ≤ 15; decide), ?_⟩
    have ek : mergeK [] (tabK yn2) = tabK yn2 := mergeK_nd (by decide +kernel)
    rw [ek]
    have s2 : Same H (upd (upd H1 pg (.dK [])) pg (.dK (tabK yn2))) := s1.trans (same_mut hpg (same_new hpg _))
    have d1 : (upd (upd H1 pg (.dK [])) pg (.dK (tabK yn2))) pg = some (.dK (tabK yn2)) := upd_same
    refine ⟨pg, rfl, .inl ⟨_, .inl d1⟩, _, rfl, _, rfl, _, rfl, a, _, _, _, rfl, rfl, Same.seqT s2 ha, (show atI (([] : List V) ++ [V.str "no"]) (-1) = some (V.str "no") from atI_last _ _), _, DGet.k (k := .inr "no") d1, ?_⟩
    rw [valV_tab, show (yn2.lookup ("no" : Str)) = some (.str "0") by decide +kernel]
    exact q _ s2
  | nam x =>
    obtain ⟨a, y, rfl, ha, hy⟩ := tg_1 hv
    obtain ⟨rfl, _⟩ := tg_s hy
    refine ⟨_, rfl, a, _, _, _, rfl, rfl, ha, atI_nat (j := 0) rfl, ?_⟩
    refine ⟨_, rfl, (by show 3 ≤ sizeLine; decide), fun t1 ht1 => ⟨t1, _, rfl, .inr (SqT.of upd_same), rfl, rfl, _, rfl, ?_⟩⟩
    have s1 : Same H (upd H t1 (.tup [.str "yes", .str "no", .str "name"])) := same_new ht1 _
    generalize upd H t1 (.tup [.str "yes", .str "no", .str "name"]) = H1 at s1 ⊢
    refine inTt (x := "name") (ws := a3t) (by decide +kernel) ?_
    refine fun pg hpg => ⟨upd_same, tabK yn2, rfl, (by show 2 ≤ 15; decide), ?_⟩
    have ek : mergeK [] (tabK yn2) = tabK yn2 := mergeK_nd (by decide +kernel)
    rw [ek]
    have s2 : Same H (upd (upd H1 pg (.dK [])) pg (.dK (tabK yn2))) := s1.trans (same_mut hpg (same_new hpg _))
    have d1 : (upd (upd H1 pg (.dK [])) pg (.dK (tabK yn2))) pg = some (.dK (tabK yn2)) := upd_same
    refine ⟨pg, rfl, .inl ⟨_, .inl d1⟩, _, rfl, _, rfl, _, rfl, a, _, _, _, rfl, rfl, Same.seqT s2 ha, (show atI ([V.str "name"] ++ [V.str x]) (-1) = some (V.str x) from atI_last _ _), _, DGet.k (k := .inr "name") d1, ?_⟩
    rw [valV_tab, show (yn2.lookup ("name" : Str)) = none by decide +kernel]
    exact q _ s2
  | neg f =>
    obtain ⟨a, y, rfl, ha, hy⟩ := tg_1 hv
    refine ⟨_, rfl, a, _, _, _, rfl, rfl, ha, atI_nat (j := 0) rfl, ?_⟩
    refine ⟨_, rfl, (by show 3 ≤ sizeLine; decide), fun t1 ht1 => ⟨t1, _, rfl, .inr (SqT.of upd_same), rfl, rfl, _, rfl, ?_⟩⟩
    have s1 : Same H (upd H t1 (.tup [.str "yes", .str "no", .str "name"])) := same_new ht1 _
    generalize upd H t1 (.tup [.str "yes", .str "no", .str "name"]) = H1 at s1 ⊢
    refine inFt (x := "not") (ws := a3t) (by decide +kernel) ?_
    refine ⟨_, rfl, rfl, _, rfl, vsTt rfl ?_⟩
    have l1 := lenP f.lev 4 (m1 (x := f))
    have e := evs_add (evs_str (z := "!")) (eLT (j := 1) (lv := 4) (tl := tC (.int 4)) (σ := [some (.ref a), some (.str "not"), none, none]) rfl (Same.seqT s1 ha) rfl (hy.same s1) m1 (by decide) (fun _ _ h => h)) (by show 1 + _ ≤ _; omega)
    refine e.ret (Same.refl _) fun H' e' => ?_
    have q := q H' (s1.trans e')
    rw [bareS, Str.empty_append] at q
    exact q
  | con f g =>
    obtain ⟨a, x, y, rfl, ha, hx, hy⟩ := tg_2 hv
    refine ⟨_, rfl, a, _, _, _, rfl, rfl, ha, atI_nat (j := 0) rfl, ?_⟩
    refine ⟨_, rfl, (by show 3 ≤ sizeLine; decide), fun t1 ht1 => ⟨t1, _, rfl, .inr (SqT.of upd_same), rfl, rfl, _, rfl, ?_⟩⟩
    have s1 : Same H (upd H t1 (.tup [.str "yes", .str "no", .str "name"])) := same_new ht1 _
    generalize upd H t1 (.tup [.str "yes", .str "no", .str "name"]) = H1 at s1 ⊢
    refine inFt (x := "and") (ws := a3t) (by decide +kernel) ?_
    refine ⟨_, rfl, rfl, _, rfl, vsFt (show ¬ ("and" : Str) = "not" by decide +kernel) ?_⟩
    refine ⟨_, rfl, (by show 3 ≤ sizeLine; decide), fun t3 ht3 => ⟨t3, _, rfl, .inr (SqT.of upd_same), rfl, rfl, _, rfl, ?_⟩⟩
    have s3 := s1.trans (same_new ht3 (.tup [.str "and", .str "or", .str "xor"]))
    generalize upd H1 t3 (.tup [.str "and", .str "or", .str "xor"]) = H3 at s3 ⊢
    refine inTt (x := "and") (ws := b3t) (by decide +kernel) ?_
    refine fun pg hpg => ⟨(by decide), fun p1 hp1 => ⟨(by decide), fun p2 hp2 => ⟨(by decide), fun p3 hp3 => ?_⟩⟩⟩
    have f1 : Same (upd H3 pg (.dK [])) (upd (upd H3 pg (.dK [])) p1 (.tup [.str " & ", .int 3])) := same_new hp1 _
    have f2 := same_new hp2 (.tup [.str " ^ ", .int 2])
    have f3 := same_new hp3 (.tup [.str " | ", .int 1])
    have g0 := f3 _ _ (f2 _ _ (f1 _ _ (upd_same (H := H3) (a := pg) (o := .dK []))))
    have a1 := f3 _ _ (f2 _ _ (upd_same (H := upd H3 pg (.dK [])) (a := p1) (o := .tup [.str " & ", .int 3])))
    have a2 := f3 _ _ (upd_same (H := upd (upd H3 pg (.dK [])) p1 (.tup [.str " & ", .int 3])) (a := p2) (o := .tup [.str " ^ ", .int 2]))
    have a3 : (upd (upd (upd (upd H3 pg (.dK [])) p1 (.tup [.str " & ", .int 3])) p2 (.tup [.str " ^ ", .int 2])) p3 (.tup [.str " | ", .int 1])) p3 = some (.tup [.str " | ", .int 1]) := upd_same
    have sa := (((same_new hpg (.dK [])).trans f1).trans f2).trans f3
    generalize upd (upd (upd (upd H3 pg (.dK [])) p1 (.tup [.str " & ", .int 3])) p2 (.tup [.str " ^ ", .int 2])) p3 (.tup [.str " | ", .int 1]) = H4 at g0 a1 a2 a3 sa ⊢
    refine ⟨g0, tabK [("and", .ref p1), ("xor", .ref p2), ("or", .ref p3)], rfl, (by show 3 ≤ 15; decide), ?_⟩
    have ek : mergeK [] (tabK [("and", .ref p1), ("xor", .ref p2), ("or", .ref p3)]) = tabK [("and", .ref p1), ("xor", .ref p2), ("or", .ref p3)] := mergeK_nd (show ([Sum.inr "and", Sum.inr "xor", Sum.inr "or"] : List Key).Nodup by decide +kernel)
    rw [ek]
    have ng : ∀ {b : Addr} {o : List V}, H4 b = some (.tup o) → b ≠ pg := fun {b o} e z => by rw [z, g0] at e; cases e
    have s5 : Same H3 (upd H4 pg (.dK (tabK [("and", .ref p1), ("xor", .ref p2), ("or", .ref p3)]))) := same_mut hpg sa
    have b1 : (upd H4 pg (.dK (tabK [("and", .ref p1), ("xor", .ref p2), ("or", .ref p3)]))) p1 = some (.tup [.str " & ", .int 3]) := by rw [upd_ne (ng a1)]; exact a1
    have d5 : (upd H4 pg (.dK (tabK [("and", .ref p1), ("xor", .ref p2), ("or", .ref p3)]))) pg = some (.dK (tabK [("and", .ref p1), ("xor", .ref p2), ("or", .ref p3)])) := upd_same
    generalize upd H4 pg (.dK (tabK [("and", .ref p1), ("xor", .ref p2), ("or", .ref p3)])) = H5 at s5 b1 d5 ⊢
    have dg := DGet.k (k := .inr "and") d5
    rw [valV_tab] at dg
    have s6 := s3.trans s5
    refine ⟨_, rfl, pg, .ref p1, rfl, dg, p1, _, rfl, SqT.of b1, rfl, _, _, rfl, _, _, rfl, rfl, ?_⟩
    have l1 := lenP f.lev 3 (m1 (x := f) (r := [g]))
    have l2 := lenP g.lev 4 (m2 (x := f) (y := g) (r := []))
    have e := evs_add (evs_add (eLT (j := 1) (lv := 3) (tl := tVar 3) (σ := [some (.ref a), some (.str "and"), some (.str " & "), some (.int 3)]) rfl (Same.seqT s6 ha) rfl (hx.same s6) m1 (by decide) (fun _ _ h => ⟨_, rfl, h⟩)) (evs_var (i := 2) (z := " & ") rfl) (by show _ + 3 ≤ _; omega))
      (eLT (j := 2) (lv := 4) (tl := tOp (rI0 fun i j => .int (i + j)) (tVar 3) (tC (.int 1))) rfl (Same.seqT s6 ha) rfl (hy.same s6) m2 (by decide) (fun _ _ h => ⟨_, rfl, _, _, rfl, rfl, h⟩)) (by rw [Str.length_append]; show (_ + 3) + _ ≤ _; omega)
    refine e.ret (Same.refl _) fun H' e' => ?_
    have q := q H' (s6.trans e')
    rw [bin_eq (show ((" " : Str) ++ ("&" : Str)) ++ (" " : Str) = (" & " : Str) by decide +kernel)]
    exact q
  | dis f g =>
    obtain ⟨a, x, y, rfl, ha, hx, hy⟩ := tg_2 hv
    refine ⟨_, rfl, a, _, _, _, rfl, rfl, ha, atI_nat (j := 0) rfl, ?_⟩
    refine ⟨_, rfl, (by show 3 ≤ sizeLine; decide), fun t1 ht1 => ⟨t1, _, rfl, .inr (SqT.of upd_same), rfl, rfl, _, rfl, ?_⟩⟩
    have s1 : Same H (upd H t1 (.tup [.str "yes", .str "no", .str "name"])) := same_new ht1 _
    generalize upd H t1 (.tup [.str "yes", .str "no", .str "name"]) = H1 at s1 ⊢
    refine inFt (x := "or") (ws := a3t) (by decide +kernel) ?_
    refine ⟨_, rfl, rfl, _, rfl, vsFt (show ¬ ("or" : Str) = "not" by decide +kernel) ?_⟩
    refine ⟨_, rfl, (by show 3 ≤ sizeLine; decide), fun t3 ht3 => ⟨t3, _, rfl, .inr (SqT.of upd_same), rfl, rfl, _, rfl, ?_⟩⟩
    have s3 := s1.trans (same_new ht3 (.tup [.str "and", .str "or", .str "xor"]))
    generalize upd H1 t3 (.tup [.str "and", .str "or", .str "xor"]) = H3 at s3 ⊢
    refine inTt (x := "or") (ws := b3t) (by decide +kernel) ?_
    refine fun pg hpg => ⟨(by decide), fun p1 hp1 => ⟨(by decide), fun p2 hp2 => ⟨(by decide), fun p3 hp3 => ?_⟩⟩⟩
    have f1 : Same (upd H3 pg (.dK [])) (upd (upd H3 pg (.dK [])) p1 (.tup [.str " & ", .int 3])) := same_new hp1 _
    have f2 := same_new hp2 (.tup [.str " ^ ", .int 2])
    have f3 := same_new hp3 (.tup [.str " | ", .int 1])
    have g0 := f3 _ _ (f2 _ _ (f1 _ _ (upd_same (H := H3) (a := pg) (o := .dK []))))
    have a1 := f3 _ _ (f2 _ _ (upd_same (H := upd H3 pg (.dK [])) (a := p1) (o := .tup [.str " & ", .int 3])))
    have a2 := f3 _ _ (upd_same (H := upd (upd H3 pg (.dK [])) p1 (.tup [.str " & ", .int 3])) (a := p2) (o := .tup [.str " ^ ", .int 2]))
    have a3 : (upd (upd (upd (upd H3 pg (.dK [])) p1 (.tup [.str " & ", .int 3])) p2 (.tup [.str " ^ ", .int 2])) p3 (.tup [.str " | ", .int 1])) p3 = some (.tup [.str " | ", .int 1]) := upd_same
    have sa := (((same_new hpg (.dK [])).trans f1).trans f2).trans f3
    generalize upd (upd (upd (upd H3 pg (.dK [])) p1 (.tup [.str " & ", .int 3])) p2 (.tup [.str " ^ ", .int 2])) p3 (.tup [.str " | ", .int 1]) = H4 at g0 a1 a2 a3 sa ⊢
    refine ⟨g0, tabK [("and", .ref p1), ("xor", .ref p2), ("or", .ref p3)], rfl, (by show 3 ≤ 15; decide), ?_⟩
    have ek : mergeK [] (tabK [("and", .ref p1), ("xor", .ref p2), ("or", .ref p3)]) = tabK [("and", .ref p1), ("xor", .ref p2), ("or", .ref p3)] := mergeK_nd (show ([Sum.inr "and", Sum.inr "xor", Sum.inr "or"] : List Key).Nodup by decide +kernel)
    rw [ek]
    have ng : ∀ {b : Addr} {o : List V}, H4 b = some (.tup o) → b ≠ pg := fun {b o} e z => by rw [z, g0] at e; cases e
    have s5 : Same H3 (upd H4 pg (.dK (tabK [("and", .ref p1), ("xor", .ref p2), ("or", .ref p3)]))) := same_mut hpg sa
    have b3 : (upd H4 pg (.dK (tabK [("and", .ref p1), ("xor", .ref p2), ("or", .ref p3)]))) p3 = some (.tup [.str " | ", .int 1]) := by rw [upd_ne (ng a3)]; exact a3
    have d5 : (upd H4 pg (.dK (tabK [("and", .ref p1), ("xor", .ref p2), ("or", .ref p3)]))) pg = some (.dK (tabK [("and", .ref p1), ("xor", .ref p2), ("or", .ref p3)])) := upd_same
    generalize upd H4 pg (.dK (tabK [("and", .ref p1), ("xor", .ref p2), ("or", .ref p3)])) = H5 at s5 b3 d5 ⊢
    have dg := DGet.k (k := .inr "or") d5
    rw [valV_tab] at dg
    have s6 := s3.trans s5
    refine ⟨_, rfl, pg, .ref p3, rfl, dg, p3, _, rfl, SqT.of b3, rfl, _, _, rfl, _, _, rfl, rfl, ?_⟩
    have l1 := lenP f.lev 1 (m1 (x := f) (r := [g]))
    have l2 := lenP g.lev 2 (m2 (x := f) (y := g) (r := []))
    have e := evs_add (evs_add (eLT (j := 1) (lv := 1) (tl := tVar 3) (σ := [some (.ref a), some (.str "or"), some (.str " | "), some (.int 1)]) rfl (Same.seqT s6 ha) rfl (hx.same s6) m1 (by decide) (fun _ _ h => ⟨_, rfl, h⟩)) (evs_var (i := 2) (z := " | ") rfl) (by show _ + 3 ≤ _; omega))
      (eLT (j := 2) (lv := 2) (tl := tOp (rI0 fun i j => .int (i + j)) (tVar 3) (tC (.int 1))) rfl (Same.seqT s6 ha) rfl (hy.same s6) m2 (by decide) (fun _ _ h => ⟨_, rfl, _, _, rfl, rfl, h⟩)) (by rw [Str.length_append]; show (_ + 3) + _ ≤ _; omega)
    refine e.ret (Same.refl _) fun H' e' => ?_
    have q := q H' (s6.trans e')
    rw [bin_eq (show ((" " : Str) ++ ("|" : Str)) ++ (" " : Str) = (" | " : Str) by decide +kernel)]
    exact q
  | xor f g =>
    obtain ⟨a, x, y, rfl, ha, hx, hy⟩ := tg_2 hv
    refine ⟨_, rfl, a, _, _, _, rfl, rfl, ha, atI_nat (j := 0) rfl, ?_⟩
    refine ⟨_, rfl, (by show 3 ≤ sizeLine; decide), fun t1 ht1 => ⟨t1, _, rfl, .inr (SqT.of upd_same), rfl, rfl, _, rfl, ?_⟩⟩
    have s1 : Same H (upd H t1 (.tup [.str "yes", .str "no", .str "name"])) := same_new ht1 _
    generalize upd H t1 (.tup [.str "yes", .str "no", .str "name"]) = H1 at s1 ⊢
    refine inFt (x := "xor") (ws := a3t) (by decide +kernel) ?_
    refine ⟨_, rfl, rfl, _, rfl, vsFt (show ¬ ("xor" : Str) = "not" by decide +kernel) ?_⟩
    refine ⟨_, rfl, (by show 3 ≤ sizeLine; decide), fun t3 ht3 => ⟨t3, _, rfl, .inr (SqT.of upd_same), rfl, rfl, _, rfl, ?_⟩⟩
    have s3 := s1.trans (same_new ht3 (.tup [.str "and", .str "or", .str "xor"]))
    generalize upd H1 t3 (.tup [.str "and", .str "or", .str "xor"]) = H3 at s3 ⊢
    refine inTt (x := "xor") (ws := b3t) (by decide +kernel) ?_
    refine fun pg hpg => ⟨(by decide), fun p1 hp1 => ⟨(by decide), fun p2 hp2 => ⟨(by decide), fun p3 hp3 => ?_⟩⟩⟩
    have f1 : Same (upd H3 pg (.dK [])) (upd (upd H3 pg (.dK [])) p1 (.tup [.str " & ", .int 3])) := same_new hp1 _
    have f2 := same_new hp2 (.tup [.str " ^ ", .int 2])
    have f3 := same_new hp3 (.tup [.str " | ", .int 1])
    have g0 := f3 _ _ (f2 _ _ (f1 _ _ (upd_same (H := H3) (a := pg) (o := .dK []))))
    have a1 := f3 _ _ (f2 _ _ (upd_same (H := upd H3 pg (.dK [])) (a := p1) (o := .tup [.str " & ", .int 3])))
    have a2 := f3 _ _ (upd_same (H := upd (upd H3 pg (.dK [])) p1 (.tup [.str " & ", .int 3])) (a := p2) (o := .tup [.str " ^ ", .int 2]))
    have a3 : (upd (upd (upd (upd H3 pg (.dK [])) p1 (.tup [.str " & ", .int 3])) p2 (.tup [.str " ^ ", .int 2])) p3 (.tup [.str " | ", .int 1])) p3 = some (.tup [.str " | ", .int 1]) := upd_same
    have sa := (((same_new hpg (.dK [])).trans f1).trans f2).trans f3
    generalize upd (upd (upd (upd H3 pg (.dK [])) p1 (.tup [.str " & ", .int 3])) p2 (.tup [.str " ^ ", .int 2])) p3 (.tup [.str " | ", .int 1]) = H4 at g0 a1 a2 a3 sa ⊢
    refine ⟨g0, tabK [("and", .ref p1), ("xor", .ref p2), ("or", .ref p3)], rfl, (by show 3 ≤ 15; decide), ?_⟩
    have ek : mergeK [] (tabK [("and", .ref p1), ("xor", .ref p2), ("or", .ref p3)]) = tabK [("and", .ref p1), ("xor", .ref p2), ("or", .ref p3)] := mergeK_nd (show ([Sum.inr "and", Sum.inr "xor", Sum.inr "or"] : List Key).Nodup by decide +kernel)
    rw [ek]
    have ng : ∀ {b : Addr} {o : List V}, H4 b = some (.tup o) → b ≠ pg := fun {b o} e z => by rw [z, g0] at e; cases e
    have s5 : Same H3 (upd H4 pg (.dK (tabK [("and", .ref p1), ("xor", .ref p2), ("or", .ref p3)]))) := same_mut hpg sa
    have b2 : (upd H4 pg (.dK (tabK [("and", .ref p1), ("xor", .ref p2), ("or", .ref p3)]))) p2 = some (.tup [.str " ^ ", .int 2]) := by rw [upd_ne (ng a2)]; exact a2
    have d5 : (upd H4 pg (.dK (tabK [("and", .ref p1), ("xor", .ref p2), ("or", .ref p3)]))) pg = some (.dK (tabK [("and", .ref p1), ("xor", .ref p2), ("or", .ref p3)])) := upd_same
    generalize upd H4 pg (.dK (tabK [("and", .ref p1), ("xor", .ref p2), ("or", .ref p3)])) = H5 at s5 b2 d5 ⊢
    have dg := DGet.k (k := .inr "xor") d5
    rw [valV_tab] at dg
    have s6 := s3.trans s5
    refine ⟨_, rfl, pg, .ref p2, rfl, dg, p2, _, rfl, SqT.of b2, rfl, _, _, rfl, _, _, rfl, rfl, ?_⟩
    have l1 := lenP f.lev 2 (m1 (x := f) (r := [g]))
    have l2 := lenP g.lev 3 (m2 (x := f) (y := g) (r := []))
    have e := evs_add (evs_add (eLT (j := 1) (lv := 2) (tl := tVar 3) (σ := [some (.ref a), some (.str "xor"), some (.str " ^ "), some (.int 2)]) rfl (Same.seqT s6 ha) rfl (hx.same s6) m1 (by decide) (fun _ _ h => ⟨_, rfl, h⟩)) (evs_var (i := 2) (z := " ^ ") rfl) (by show _ + 3 ≤ _; omega))
      (eLT (j := 2) (lv := 3) (tl := tOp (rI0 fun i j => .int (i + j)) (tVar 3) (tC (.int 1))) rfl (Same.seqT s6 ha) rfl (hy.same s6) m2 (by decide) (fun _ _ h => ⟨_, rfl, _, _, rfl, rfl, h⟩)) (by rw [Str.length_append]; show (_ + 3) + _ ≤ _; omega)
    refine e.ret (Same.refl _) fun H' e' => ?_
    have q := q H' (s6.trans e')
    rw [bin_eq (show ((" " : Str) ++ ("^" : Str)) ++ (" " : Str) = (" ^ " : Str) by decide +kernel)]
    exact q
  | ite f g k =>
    obtain ⟨a, x, y, u, rfl, ha, hx, hy, hu⟩ := tg_3 hv
    refine ⟨_, rfl, a, _, _, _, rfl, rfl, ha, atI_nat (j := 0) rfl, ?_⟩
    refine ⟨_, rfl, (by show 3 ≤ sizeLine; decide), fun t1 ht1 => ⟨t1, _, rfl, .inr (SqT.of upd_same), rfl, rfl, _, rfl, ?_⟩⟩
    have s1 : Same H (upd H t1 (.tup [.str "yes", .str "no", .str "name"])) := same_new ht1 _
    generalize upd H t1 (.tup [.str "yes", .str "no", .str "name"]) = H1 at s1 ⊢
    refine inFt (x := "if") (ws := a3t) (by decide +kernel) ?_
    refine ⟨_, rfl, rfl, _, rfl, vsFt (show ¬ ("if" : Str) = "not" by decide +kernel) ?_⟩
    refine ⟨_, rfl, (by show 3 ≤ sizeLine; decide), fun t3 ht3 => ⟨t3, _, rfl, .inr (SqT.of upd_same), rfl, rfl, _, rfl, ?_⟩⟩
    have s3 := s1.trans (same_new ht3 (.tup [.str "and", .str "or", .str "xor"]))
    generalize upd H1 t3 (.tup [.str "and", .str "or", .str "xor"]) = H3 at s3 ⊢
    refine inFt (x := "if") (ws := b3t) (by decide +kernel) ?_
    refine ⟨_, rfl, rfl, _, rfl, vsTt rfl ?_⟩
    have l1 := lenP f.lev 1 (m1 (x := f) (r := [g, k]))
    have l2 := len (m2 (x := f) (y := g) (r := [k]))
    have l3 := len (m3 (x := f) (y := g) (u := k) (r := []))
    have e := evs_add (evs_add (evs_add (evs_add (eLT (j := 1) (lv := 1) (tl := tC (.int 1)) (σ := [some (.ref a), some (.str "if"), none, none]) rfl (Same.seqT s3 ha) rfl (hx.same s3) m1 (by decide) (fun _ _ h => h)) (evs_str (z := " ? ")) ((by simp only [Str.length_append, e_len0, ln1, ln2, ln3, ln4, ln5, ln6, ln7, ln8, ln9, ln10, ln11]; omega))) (eLB (j := 2) rfl (Same.seqT s3 ha) rfl (hy.same s3) m2) ((by simp only [Str.length_append, e_len0, ln1, ln2, ln3, ln4, ln5, ln6, ln7, ln8, ln9, ln10, ln11]; omega))) (evs_str (z := " : ")) ((by simp only [Str.length_append, e_len0, ln1, ln2, ln3, ln4, ln5, ln6, ln7, ln8, ln9, ln10, ln11]; omega))) (eLB (j := 3) rfl (Same.seqT s3 ha) rfl (hu.same s3) m3) ((by simp only [Str.length_append, e_len0, ln1, ln2, ln3, ln4, ln5, ln6, ln7, ln8, ln9, ln10, ln11]; omega))
    refine e.ret (Same.refl _) fun H' e' => ?_
    have q := q H' (s3.trans e')
    rw [bareS, Str.empty_append] at q
    exact q
  | som x f =>
    obtain ⟨a, u, y, rfl, ha, hx, hy⟩ := tg_2 hv
    obtain ⟨rfl, _⟩ := tg_s hx
    refine ⟨_, rfl, a, _, _, _, rfl, rfl, ha, atI_nat (j := 0) rfl, ?_⟩
    refine ⟨_, rfl, (by show 3 ≤ sizeLine; decide), fun t1 ht1 => ⟨t1, _, rfl, .inr (SqT.of upd_same), rfl, rfl, _, rfl, ?_⟩⟩
    have s1 : Same H (upd H t1 (.tup [.str "yes", .str "no", .str "name"])) := same_new ht1 _
    generalize upd H t1 (.tup [.str "yes", .str "no", .str "name"]) = H1 at s1 ⊢
    refine inFt (x := "some") (ws := a3t) (by decide +kernel) ?_
    refine ⟨_, rfl, rfl, _, rfl, vsFt (show ¬ ("some" : Str) = "not" by decide +kernel) ?_⟩
    refine ⟨_, rfl, (by show 3 ≤ sizeLine; decide), fun t3 ht3 => ⟨t3, _, rfl, .inr (SqT.of upd_same), rfl, rfl, _, rfl, ?_⟩⟩
    have s3 := s1.trans (same_new ht3 (.tup [.str "and", .str "or", .str "xor"]))
    generalize upd H1 t3 (.tup [.str "and", .str "or", .str "xor"]) = H3 at s3 ⊢
    refine inFt (x := "some") (ws := b3t) (by decide +kernel) ?_
    refine ⟨_, rfl, rfl, _, rfl, vsFt (show ¬ ("some" : Str) = "if" by decide +kernel) ?_⟩
    refine ⟨_, rfl, rfl, _, rfl, vsFt (show ¬ ("some" : Str) = "put" by decide +kernel) ?_⟩
    have l1 := name_len (ho x List.mem_cons_self)
    have l2 := len (m1 (x := f) (r := []))
    have e := evs_add (evs_add (evs_add (evs_add (evs_var (i := 1) (z := "some") (σ := [some (.ref a), some (.str "some"), none, none]) rfl) (evs_str (z := " ")) ((by simp only [Str.length_append, e_len0, ln1, ln2, ln3, ln4, ln5, ln6, ln7, ln8, ln9, ln10, ln11]; omega))) (evs_ix (i := 0) (j := 1) rfl (Same.seqT s3 ha) rfl) ((by simp only [Str.length_append, e_len0, ln1, ln2, ln3, ln4, ln5, ln6, ln7, ln8, ln9, ln10, ln11]; omega))) (evs_str (z := " ")) ((by simp only [Str.length_append, e_len0, ln1, ln2, ln3, ln4, ln5, ln6, ln7, ln8, ln9, ln10, ln11]; omega))) (eLB (j := 2) rfl (Same.seqT s3 ha) rfl (hy.same s3) m1) ((by simp only [Str.length_append, e_len0, ln1, ln2, ln3, ln4, ln5, ln6, ln7, ln8, ln9, ln10, ln11]; omega))
    refine e.ret (Same.refl _) fun H' e' => ?_
    have q := q H' (s3.trans e')
    rw [bareS, binS, Str.empty_append] at q
    exact q
  | all x f =>
    obtain ⟨a, u, y, rfl, ha, hx, hy⟩ := tg_2 hv
    obtain ⟨rfl, _⟩ := tg_s hx
    refine ⟨_, rfl, a, _, _, _, rfl, rfl, ha, atI_nat (j := 0) rfl, ?_⟩
    refine ⟨_, rfl, (by show 3 ≤ sizeLine; decide), fun t1 ht1 => ⟨t1, _, rfl, .inr (SqT.of upd_same), rfl, rfl, _, rfl, ?_⟩⟩
    have s1 : Same H (upd H t1 (.tup [.str "yes", .str "no", .str "name"])) := same_new ht1 _
    generalize upd H t1 (.tup [.str "yes", .str "no", .str "name"]) = H1 at s1 ⊢
    refine inFt (x := "all") (ws := a3t) (by decide +kernel) ?_
    refine ⟨_, rfl, rfl, _, rfl, vsFt (show ¬ ("all" : Str) = "not" by decide +kernel) ?_⟩
    refine ⟨_, rfl, (by show 3 ≤ sizeLine; decide), fun t3 ht3 => ⟨t3, _, rfl, .inr (SqT.of upd_same), rfl, rfl, _, rfl, ?_⟩⟩
    have s3 := s1.trans (same_new ht3 (.tup [.str "and", .str "or", .str "xor"]))
    generalize upd H1 t3 (.tup [.str "and", .str "or", .str "xor"]) = H3 at s3 ⊢
    refine inFt (x := "all") (ws := b3t) (by decide +kernel) ?_
    refine ⟨_, rfl, rfl, _, rfl, vsFt (show ¬ ("all" : Str) = "if" by decide +kernel) ?_⟩
    refine ⟨_, rfl, rfl, _, rfl, vsFt (show ¬ ("all" : Str) = "put" by decide +kernel) ?_⟩
    have l1 := name_len (ho x List.mem_cons_self)
    have l2 := len (m1 (x := f) (r := []))
    have e := evs_add (evs_add (evs_add (evs_add (evs_var (i := 1) (z := "all") (σ := [some (.ref a), some (.str "all"), none, none]) rfl) (evs_str (z := " ")) ((by simp only [Str.length_append, e_len0, ln1, ln2, ln3, ln4, ln5, ln6, ln7, ln8, ln9, ln10, ln11]; omega))) (evs_ix (i := 0) (j := 1) rfl (Same.seqT s3 ha) rfl) ((by simp only [Str.length_append, e_len0, ln1, ln2, ln3, ln4, ln5, ln6, ln7, ln8, ln9, ln10, ln11]; omega))) (evs_str (z := " ")) ((by simp only [Str.length_append, e_len0, ln1, ln2, ln3, ln4, ln5, ln6, ln7, ln8, ln9, ln10, ln11]; omega))) (eLB (j := 2) rfl (Same.seqT s3 ha) rfl (hy.same s3) m1) ((by simp only [Str.length_append, e_len0, ln1, ln2, ln3, ln4, ln5, ln6, ln7, ln8, ln9, ln10, ln11]; omega))
    refine e.ret (Same.refl _) fun H' e' => ?_
    have q := q H' (s3.trans e')
    rw [bareS, binS, Str.empty_append] at q
    exact q
  | put x f g =>
    obtain ⟨a, u, y, t, rfl, ha, hx, hy, ht⟩ := tg_3 hv
    obtain ⟨rfl, _⟩ := tg_s hx
    refine ⟨_, rfl, a, _, _, _, rfl, rfl, ha, atI_nat (j := 0) rfl, ?_⟩
    refine ⟨_, rfl, (by show 3 ≤ sizeLine; decide), fun t1 ht1 => ⟨t1, _, rfl, .inr (SqT.of upd_same), rfl, rfl, _, rfl, ?_⟩⟩
    have s1 : Same H (upd H t1 (.tup [.str "yes", .str "no", .str "name"])) := same_new ht1 _
    generalize upd H t1 (.tup [.str "yes", .str "no", .str "name"]) = H1 at s1 ⊢
    refine inFt (x := "put") (ws := a3t) (by decide +kernel) ?_
    refine ⟨_, rfl, rfl, _, rfl, vsFt (show ¬ ("put" : Str) = "not" by decide +kernel) ?_⟩
    refine ⟨_, rfl, (by show 3 ≤ sizeLine; decide), fun t3 ht3 => ⟨t3, _, rfl, .inr (SqT.of upd_same), rfl, rfl, _, rfl, ?_⟩⟩
    have s3 := s1.trans (same_new ht3 (.tup [.str "and", .str "or", .str "xor"]))
    generalize upd H1 t3 (.tup [.str "and", .str "or", .str "xor"]) = H3 at s3 ⊢
    refine inFt (x := "put") (ws := b3t) (by decide +kernel) ?_
    refine ⟨_, rfl, rfl, _, rfl, vsFt (show ¬ ("put" : Str) = "if" by decide +kernel) ?_⟩
    refine ⟨_, rfl, rfl, _, rfl, vsTt rfl ?_⟩
    have l1 := name_len (ho x List.mem_cons_self)
    have l2 := len (m1 (x := f) (r := [g]))
    have l3 := len (m2 (x := f) (y := g) (r := []))
    have e := evs_add (evs_add (evs_add (evs_add (evs_ix (i := 0) (j := 1) (σ := [some (.ref a), some (.str "put"), none, none]) rfl (Same.seqT s3 ha) rfl) (evs_str (z := " := ")) ((by simp only [Str.length_append, e_len0, ln1, ln2, ln3, ln4, ln5, ln6, ln7, ln8, ln9, ln10, ln11]; omega))) (eLB (j := 2) rfl (Same.seqT s3 ha) rfl (hy.same s3) m1) ((by simp only [Str.length_append, e_len0, ln1, ln2, ln3, ln4, ln5, ln6, ln7, ln8, ln9, ln10, ln11]; omega))) (evs_str (z := " in ")) ((by simp only [Str.length_append, e_len0, ln1, ln2, ln3, ln4, ln5, ln6, ln7, ln8, ln9, ln10, ln11]; omega))) (eLB (j := 3) rfl (Same.seqT s3 ha) rfl (ht.same s3) m2) ((by simp only [Str.length_append, e_len0, ln1, ln2, ln3, ln4, ln5, ln6, ln7, ln8, ln9, ln10, ln11]; omega))
    refine e.ret (Same.refl _) fun H' e' => ?_
    have q := q H' (s3.trans e')
    rw [bareS, Str.empty_append] at q
    exact q
theorem all_lbare {f f2 : Addr} {fd fd2 : FuncData} (F : Fun K "_law_bare" "_law_bare" sLBare f fd) (bF : Binds K fd ["formula"] []) (mF : mg "_law_bare" = some (.ref f)) (F2 : Fun K "_law_text" "_law_text" sLText f2 fd2) (bF2 : Binds K fd2 ["formula", "level"] []) (mF2 : mg "_law_text" = some (.ref f2)) : ∀ n, FnOk P w K mg base CX0 (2 * n + 1) f fd ["formula"] (spLBare K n)
  | 0 => by
    refine F.ok scLBare (fun vs H Q E h => ?_) (fun cdv A outer s H vs Q E hr h => ?_)
    · obtain ⟨s, l, v, f, rfl, _⟩ := h
      rfl
    · obtain ⟨s, l, v, f, rfl, _, _, hh, _⟩ := h
      exact absurd hh (Nat.not_lt_zero _)
  | n + 1 => by
    have B : Def P w K mg base CX0 "_law_bare" (2 * n + 1) ["formula"] (spLBare K n) := ⟨⟨_, _, mF, F.kp, bF, all_lbare F bF mF F2 bF2 mF2 n⟩⟩
    exact step_lbare F B ⟨⟨_, _, mF2, F2.kp, bF2, ok_ltext F2 B⟩⟩
end
end Kn

set_option Elab.async false
set_option linter.all false
set_option maxRecDepth 100000
set_option maxHeartbeats 4000000
set_option pp.maxSteps 1200
namespace Kn
open PySem L2 TL PySem.Spec PyProof.Rows
/-! ### the class Reading: what it holds -/
abbrev sRInit : Stmt := inClass (top 42) 0
abbrev sRTake : Stmt := inClass (top 42) 1
abbrev sRName : Stmt := inClass (top 42) 2
abbrev sRFirst : Stmt := inClass (top 42) 3
abbrev sRJoin : Stmt := inClass (top 42) 4
abbrev sRMate : Stmt := inClass (top 42) 5
abbrev sRPut : Stmt := inClass (top 42) 6
abbrev sRBegin : Stmt := inClass (top 42) 7
abbrev sREnd : Stmt := inClass (top 42) 8
abbrev sRThose : Stmt := inClass (top 42) 9
abbrev sRAll : Stmt := inClass (top 42) 10
abbrev sRInner : Stmt := inClass (top 42) 11
abbrev sREnded : Stmt := inClass (top 42) 12
/-- what the written part says of Reading at C -/
structure RdT (K : PySem.W.Frag) (mg : Str → Option Value) (C : Addr) : Prop where
  cl : Cls K C
  nB : NoAttr K C "begun"
  nD : NoAttr K C "due"
  nL : NoAttr K C "last"
  nO : NoAttr K C "openers"
  mgC : mg "Reading" = some (.ref C)
def fsR (pb : Addr) (d : Str) (v : V) (n : Nat) : List (Str × V) := [("begun", .ref pb), ("due", .str d), ("last", v), ("openers", .int (n : Nat))]
theorem nr_begun_due : ¬ ("begun" : Str) = "due" := by decide +kernel
theorem br_begun_due : (("begun" : Str) == "due") = false := by decide +kernel
theorem nr_begun_last : ¬ ("begun" : Str) = "last" := by decide +kernel
theorem br_begun_last : (("begun" : Str) == "last") = false := by decide +kernel
theorem nr_begun_openers : ¬ ("begun" : Str) = "openers" := by decide +kernel
theorem br_begun_openers : (("begun" : Str) == "openers") = false := by decide +kernel
theorem nr_due_begun : ¬ ("due" : Str) = "begun" := by decide +kernel
theorem br_due_begun : (("due" : Str) == "begun") = false := by decide +kernel
theorem nr_due_last : ¬ ("due" : Str) = "last" := by decide +kernel
theorem br_due_last : (("due" : Str) == "last") = false := by decide +kernel
theorem nr_due_openers : ¬ ("due" : Str) = "openers" := by decide +kernel
theorem br_due_openers : (("due" : Str) == "openers") = false := by decide +kernel
theorem nr_last_begun : ¬ ("last" : Str) = "begun" := by decide +kernel
theorem br_last_begun : (("last" : Str) == "begun") = false := by decide +kernel
theorem nr_last_due : ¬ ("last" : Str) = "due" := by decide +kernel
theorem br_last_due : (("last" : Str) == "due") = false := by decide +kernel
theorem nr_last_openers : ¬ ("last" : Str) = "openers" := by decide +kernel
theorem br_last_openers : (("last" : Str) == "openers") = false := by decide +kernel
theorem nr_openers_begun : ¬ ("openers" : Str) = "begun" := by decide +kernel
theorem br_openers_begun : (("openers" : Str) == "begun") = false := by decide +kernel
theorem nr_openers_due : ¬ ("openers" : Str) = "due" := by decide +kernel
theorem br_openers_due : (("openers" : Str) == "due") = false := by decide +kernel
theorem nr_openers_last : ¬ ("openers" : Str) = "last" := by decide +kernel
theorem br_openers_last : (("openers" : Str) == "last") = false := by decide +kernel
section
variable {pb : Addr} {d : Str} {v : V} {n : Nat}
theorem fsR_begun : (fsR pb d v n).lookup ("begun" : Str) = some (.ref pb) := by
  simp only [fsR, List.lookup_cons, beq_self_eq_true]
theorem fsR_due : (fsR pb d v n).lookup ("due" : Str) = some (.str d) := by
  simp only [fsR, List.lookup_cons, beq_self_eq_true, br_due_begun]
theorem fsR_last : (fsR pb d v n).lookup ("last" : Str) = some (v) := by
  simp only [fsR, List.lookup_cons, beq_self_eq_true, br_last_begun, br_last_due]
theorem fsR_openers : (fsR pb d v n).lookup ("openers" : Str) = some (.int (n : Nat)) := by
  simp only [fsR, List.lookup_cons, beq_self_eq_true, br_openers_begun, br_openers_due, br_openers_last]
theorem putR_due (d2 : Str) : putF "due" (.str d2) (fsR pb d v n) = fsR pb d2 v n := by
  simp only [fsR, putF, if_true, if_neg nr_begun_due]
theorem putR_last (v2 : V) : putF "last" (v2) (fsR pb d v n) = fsR pb d v2 n := by
  simp only [fsR, putF, if_true, if_neg nr_begun_last, if_neg nr_due_last]
theorem putR_openers (n2 : Nat) : putF "openers" (.int (n2 : Nat)) (fsR pb d v n) = fsR pb d v n2 := by
  simp only [fsR, putF, if_true, if_neg nr_begun_openers, if_neg nr_due_openers, if_neg nr_last_openers]
theorem fsR_no {m : Str} (h1 : ¬ m = "begun") (h2 : ¬ m = "due") (h3 : ¬ m = "last") (h4 : ¬ m = "openers") : (fsR pb d v n).lookup m = none := by
  simp only [fsR, List.lookup_cons, beq_eq_false_iff_ne.mpr h1, beq_eq_false_iff_ne.mpr h2, beq_eq_false_iff_ne.mpr h3, beq_eq_false_iff_ne.mpr h4]
  rfl
theorem fsR_len : (fsR pb d v n).length < 1000 := by
  show 4 < 1000
  decide
end
/-- what is begun, as its tuple -/
def Fr.ds : Fr → List PyData
  | .par => [.str "("] | .neg => [.str "not"]
  | .con f => [.str "and", f.d] | .dis f => [.str "or", f.d] | .xor f => [.str "xor", f.d]
  | .if1 f => [.str "if", f.d] | .if2 f g => [.str "if", f.d, g.d]
  | .q0 a => [.str (if a then "all" else "some")]
  | .som x => [.str "some", .str x] | .all x => [.str "all", .str x]
  | .put1 x => [.str "put", .str x] | .put2 x f => [.str "put", .str x, f.d]
def Fr.dd (fr : Fr) : PyData := .tuple fr.ds
theorem fo_pureT : ∀ f : Fo Str, pureD f.d = true
  | .yes => rfl
  | .no => rfl
  | .nam x => rfl
  | .neg f => by simp [Fo.d, pureD, pureAll, fo_pureT f]
  | .con f g => by simp [Fo.d, pureD, pureAll, fo_pureT f, fo_pureT g]
  | .dis f g => by simp [Fo.d, pureD, pureAll, fo_pureT f, fo_pureT g]
  | .xor f g => by simp [Fo.d, pureD, pureAll, fo_pureT f, fo_pureT g]
  | .ite f g h => by simp [Fo.d, pureD, pureAll, fo_pureT f, fo_pureT g, fo_pureT h]
  | .som x f => by simp [Fo.d, pureD, pureAll, fo_pureT f]
  | .all x f => by simp [Fo.d, pureD, pureAll, fo_pureT f]
  | .put x f g => by simp [Fo.d, pureD, pureAll, fo_pureT f, fo_pureT g]
theorem fr_pure (fr : Fr) : pureD fr.dd = true := by
  cases fr <;> simp [Fr.dd, Fr.ds, pureD, pureAll, fo_pureT]
theorem frs_pure (bg : List Fr) : pureAll (bg.map Fr.dd) = true := pureAll_of fun d hd => by
  obtain ⟨fr, _, rfl⟩ := List.mem_map.mp hd
  exact fr_pure fr
theorem fr_close {fr : Fr} (h : fr.cl = true ∨ fr = .neg) (g : Fo Str) : (fr.close g).d = .tuple (fr.ds ++ [g.d]) := by
  rcases h with h | rfl
  · cases fr <;> first | rfl | cases h
  · rfl
theorem fr_wd (fr : Fr) : ∃ r, fr.ds = .str fr.wd :: r := by
  cases fr <;> exact ⟨_, rfl⟩
/-- at a stands a reading, its list at pb -/
structure RdAt (K : PySem.W.Frag) (C a pb : Addr) (H : Hp) (bg : List Fr) (d : Str) (v : V) (n : Nat) : Prop where
  ob : ∃ dx, H a = some (.ins C dx (fsR pb d v n))
  ls : ∃ xs, H pb = some (.lst xs.reverse) ∧ TgAll K 0 0 H xs (bg.map Fr.dd)
section
variable {K : PySem.W.Frag} {C a pb : Addr} {H H' : Hp} {bg : List Fr} {d : Str} {v : V} {n : Nat}
theorem RdAt.ne (h : RdAt K C a pb H bg d v n) : a ≠ pb := fun z => by
  obtain ⟨dx, h1⟩ := h.ob
  obtain ⟨xs, h2, _⟩ := h.ls
  rw [z, h2] at h1
  cases h1
theorem RdAt.seqT (h : RdAt K C a pb H bg d v n) (e : Keep a pb H H') {b : Addr} {ys : List V} (q : SqT K H b ys) : SqT K H' b ys := by
  obtain ⟨dx, h1⟩ := h.ob
  obtain ⟨xs, h2, _⟩ := h.ls
  rcases q with (q | ⟨o, q⟩) | q
  · exact .inl (.inl (e _ _ (ne_of q h1 (by intro z; cases z)) (ne_of q h2 (by intro z; cases z)) q))
  · exact .inl (.inr ⟨o, e _ _ (ne_of q h1 (by intro z; cases z)) (ne_of q h2 (by intro z; cases z)) q⟩)
  · exact .inr q
theorem RdAt.tg (h : RdAt K C a pb H bg d v n) (e : Keep a pb H H') {s l s' l' : Addr} {u : V} {x : PyData} (hp : pureD x = true) (q : Tg K s l H u x) : Tg K s' l' H' u x := q.pmono (fun _ _ y => h.seqT e y) hp
theorem RdAt.tgs (h : RdAt K C a pb H bg d v n) (e : Keep a pb H H') {s l s' l' : Addr} {u : List V} {x : List PyData} (hp : pureAll x = true) (q : TgAll K s l H u x) : TgAll K s' l' H' u x := q.pmono (fun _ _ y => h.seqT e y) hp
theorem RdAt.same (h : RdAt K C a pb H bg d v n) (e : Same H H') : RdAt K C a pb H' bg d v n :=
  ⟨let ⟨dx, h1⟩ := h.ob; ⟨dx, e _ _ h1⟩, let ⟨xs, h2, h3⟩ := h.ls; ⟨xs, e _ _ h2, h3.same e⟩⟩
/-- a field told anew -/
theorem RdAt.put (h : RdAt K C a pb H bg d v n) {dx : Addr} {d2 : Str} {v2 : V} {n2 : Nat} : RdAt K C a pb (upd H a (.ins C dx (fsR pb d2 v2 n2))) bg d2 v2 n2 := by
  have hn := h.ne
  refine ⟨⟨dx, upd_same⟩, ?_⟩
  obtain ⟨xs, h2, h3⟩ := h.ls
  exact ⟨xs, by rw [upd_ne hn.symm]; exact h2, h.tgs (fun b o n1 _ q => by rw [upd_ne n1]; exact q) (frs_pure bg) h3⟩
/-- the list told anew -/
theorem RdAt.list (h : RdAt K C a pb H bg d v n) {bg2 : List Fr} {xs : List V} (hx : TgAll K 0 0 H xs (bg2.map Fr.dd)) : RdAt K C a pb (upd H pb (.lst xs.reverse)) bg2 d v n := by
  have hn := h.ne
  obtain ⟨dx, h1⟩ := h.ob
  exact ⟨⟨dx, by rw [upd_ne hn]; exact h1⟩, xs, upd_same, h.tgs (fun b o _ n2 q => by rw [upd_ne n2]; exact q) (frs_pure bg2) hx⟩
theorem keep_a {o : HO} : Keep a pb H (upd H a o) := fun b u n1 _ q => by rw [upd_ne n1]; exact q
theorem keep_b {o : HO} : Keep a pb H (upd H pb o) := fun b u _ n2 q => by rw [upd_ne n2]; exact q
end
def spRInner (K : PySem.W.Frag) (C : Addr) : Sp := fun vs H Q _ => ∃ (a pb : Addr) (fr : Fr) (r : List Fr) (d : Str) (v : V) (g : Fo Str) (n : Nat), vs = [.ref a] ∧ RdAt K C a pb H (fr :: r) d v n ∧ Tg K 0 0 H v g.d ∧ (fr.cl = true ∨ fr = .neg) ∧
  ∀ (H' : Hp) (v' : V), Keep a pb H H' → RdAt K C a pb H' r d v' n → Tg K 0 0 H' v' (fr.close g).d → Q .non H'
section
variable {P : Program} {w : World} {K : PySem.W.Frag} {mg : Str → Option Value} {base : Heap}
theorem scRInner : FnScope ["self", "begun"] ["self"] (defScope sRInner) := ⟨rfl, rfl, rfl, by decide +kernel, rfl, by decide +kernel, by decide +kernel⟩
theorem ok_rinner {f C : Addr} {fd : FuncData} (F : Fun K "end_innermost" "Reading.end_innermost" sRInner f fd) (T : RdT K mg C) : FnOk P w K mg base CX0 1 f fd ["self"] (spRInner K C) := by
  refine F.ok scRInner (fun vs H Q E h => ?_) (fun cdv A outer s H vs Q E hr h => ?_)
  · obtain ⟨a, pb, fr, r, d, v, g, n, rfl, _⟩ := h
    rfl
  obtain ⟨a, pb, fr, r, d, v, g, n, rfl, hR, hv, hc, q⟩ := h
  refine ⟨_, (pss_cons (ps_set (i := 1) scRInner.nd rfl (Or.inl rfl) (pe_bm0 PySem.F.plainAttrs_list PySem.F.slot_list_pop PySem.F.type_list_pop mt_pop (pe_fld (pv 0) rfl)))
    (pss_one (ps_fld (pv 0) (pe_tup (StX.pa_star (pv 1) (pa_cons (pe_fld (pv 0) rfl) pa_nil))) rfl))), ?_⟩
  obtain ⟨dx, h1⟩ := hR.ob
  obtain ⟨xs, h2, h3⟩ := hR.ls
  cases h3 with
  | @cons x xr _ _ hx hxr =>
  have hlast : (x :: xr).reverse[(x :: xr).reverse.length - 1]? = some x := by simp
  have hdl : (x :: xr).reverse.dropLast = xr.reverse := by simp
  refine ⟨_, rfl, a, C, dx, _, _, rfl, h1, T.cl, T.nB, fsR_begun, .inl ⟨rfl, _, SqL.of h2⟩, pb, _, _, rfl, rfl, h2, hlast, ?_⟩
  rw [hdl]
  have k1 : Keep a pb H (upd H pb (.lst xr.reverse)) := keep_b
  have R1 := hR.list (bg2 := r) (xs := xr) hxr
  have hx1 := hR.tg (s' := 0) (l' := 0) k1 (fr_pure fr) hx
  have hv1 := hR.tg (s' := 0) (l' := 0) k1 (fo_pureT g) hv
  generalize upd H pb (.lst xr.reverse) = H1 at k1 R1 hx1 hv1 ⊢
  obtain ⟨dx1, h11⟩ := R1.ob
  cases hx1 with
  | @tup t ys _ ht hys =>
  refine ⟨_, rfl, t, ys, rfl, .inl ht, _, rfl, a, C, dx1, _, _, rfl, h11, T.cl, T.nL, fsR_last, ?_, fun p hp => ?_⟩
  · have hl : fr.ds.length = ys.length := hys.len
    have : sizeLine = 16777216 := sizeLine_eq
    have l4 : fr.ds.length ≤ 3 := by cases fr <;> simp [Fr.ds]
    rw [List.length_append, List.length_singleton]
    omega
  have s1 : Same H1 (upd H1 p (.tup (ys ++ [v]))) := same_new hp _
  have R2 := R1.same s1
  have tv : Tg K 0 0 (upd H1 p (.tup (ys ++ [v]))) (.ref p) (fr.close g).d := by
    rw [fr_close hc]
    exact .tup (SqT.of upd_same) ((hys.same s1).app (.cons (hv1.same s1) .nil))
  generalize upd H1 p (.tup (ys ++ [v])) = H2 at s1 R2 tv ⊢
  obtain ⟨dx2, h12⟩ := R2.ob
  refine ⟨_, rfl, a, C, dx2, _, rfl, h12, T.cl, T.nL, fsR_len, ?_⟩
  rw [putR_last]
  exact q _ _ (k1.trans ((Keep.of s1).trans keep_a)) R2.put (R2.tg keep_a (fo_pureT _) tv)
end
end Kn
set_option Elab.async false
set_option linter.all false
set_option maxRecDepth 100000
set_option maxHeartbeats 4000000
set_option pp.maxSteps 1200
namespace Kn
open PySem L2 TL PySem.Spec PyProof.Rows
/-! ### what is made, told exactly -/
section
variable {K : PySem.W.Frag} {s l : Addr} {H H' H0 : Hp} {xs ys : List V} {σ : L2.St} {te tf : TE} {ta : TA} {d : PyData} {ds es : List PyData}
/-- what evaluates to just this thing, and touches nothing -/
def EvD (K : PySem.W.Frag) (s l : Addr) (d : PyData) (te : TE) (σ : L2.St) (H0 : Hp) : Prop := ∀ H, Same H0 H → ∀ Q : VK, (∀ v H', Same H H' → Tg K s l H' v d → Q v H') → te σ H Q
def EvDA (K : PySem.W.Frag) (s l : Addr) (ds : List PyData) (ta : TA) (σ : L2.St) (H0 : Hp) : Prop := ∀ H, Same H0 H → ∀ Q : List V → Hp → Prop, (∀ vs H', Same H H' → TgAll K s l H' vs ds → Q vs H') → ta σ H Q
def EvDL (K : PySem.W.Frag) (s l : Addr) (ds : List PyData) (te : TE) (σ : L2.St) (H0 : Hp) : Prop := ∀ H, Same H0 H → ∀ Q : VK, (∀ p xs H', Same H H' → H p = none → H' p = some (.lst xs) → TgAll K s l H' xs ds → Q (.ref p) H') → te σ H Q
theorem evd_of {i : Nat} {v : V} (h : σ[i]? = some (some v)) (hd : Tg K s l H0 v d) : EvD K s l d (tVar i) σ H0 := fun H e Q q => ⟨v, h, q v H (Same.refl H) (hd.same e)⟩
theorem evd_str {x : Str} (h : okS x = true := by decide +kernel) : EvD K s l (.str x) (tC (.str x)) σ H0 := fun H e Q q => q _ H (Same.refl H) (.str x h)
theorem evd_int {x : Int} : EvD K s l (.int x) (tC (.int x)) σ H0 := fun H e Q q => q _ H (Same.refl H) (.int x)
theorem evd_non : EvD K s l .none (tC .non) σ H0 := fun H e Q q => q _ H (Same.refl H) .non
theorem evd_bl {b : Bool} : EvD K s l (.bool b) (tC (.bl b)) σ H0 := fun H e Q q => q _ H (Same.refl H) (.bl b)
theorem eda_nil : EvDA K s l [] tNil σ H0 := fun H e Q q => q [] H (Same.refl H) .nil
theorem eda_cons (h : EvD K s l d te σ H0) (r : EvDA K s l ds ta σ H0) : EvDA K s l (d :: ds) (tCons te ta) σ H0 := fun H e Q q => h H e _ fun v H1 e1 q1 => r H1 (e.trans e1) _ fun vs H2 e2 b => q (v :: vs) H2 (e1.trans e2) (.cons (q1.same e2) b)
theorem few_size {n : Nat} (h : n ≤ 1000) : n ≤ sizeLine := Nat.le_of_lt (small1000 h)
theorem evd_tup (h : EvDA K s l ds ta σ H0) (hn : ds.length ≤ 100) : EvD K s l (.tuple ds) (tTup ta) σ H0 := fun H e Q q => h H e _ fun vs H1 e1 b => ⟨by rw [← b.len]; exact few_size (by omega), fun p hp => q (.ref p) _ (e1.trans (same_new hp _)) (.tup (SqT.of upd_same) (b.same (same_new hp _)))⟩
theorem evd_lst (hs : H0 s ≠ none) (hl0 : H0 l ≠ none) (h : EvDA K s l ds ta σ H0) (hn : ds.length ≤ 100) : EvD K s l (.list []) (tLst ta) σ H0 := fun H e Q q => h H e _ fun vs H1 e1 b => ⟨by rw [← b.len]; exact few_size (by omega), fun p hp => by
  have ne : ∀ a, H0 a ≠ none → p ≠ a := fun a ha z => by
    cases q : H0 a with
    | none => exact ha q
    | some o =>
      rw [z, (e.trans e1) _ _ q] at hp
      cases hp
  exact q (.ref p) _ (e1.trans (same_new hp _)) (.lst (ne s hs) (ne l hl0) upd_same)⟩
theorem evd_dct (hs : H0 s ≠ none) (hl0 : H0 l ≠ none) : EvD K s l (.dict []) tDNewK σ H0 := fun H e Q q => fun p hp => by
  have ne : ∀ a, H0 a ≠ none → p ≠ a := fun a ha z => by
    cases q : H0 a with
    | none => exact ha q
    | some o =>
      rw [z, e _ _ q] at hp
      cases hp
  exact q (.ref p) _ (same_new hp _) (.dct (ne s hs) (ne l hl0) upd_same)
theorem edl_lst (h : EvDA K s l ds ta σ H0) (hn : ds.length ≤ 100) : EvDL K s l ds (tLst ta) σ H0 := fun H e Q q => h H e _ fun vs H1 e1 b => ⟨by rw [← b.len]; exact few_size (by omega), fun p hp => q p vs _ (e1.trans (same_new hp _)) (e1.free hp) upd_same (b.same (same_new hp _))⟩
/-- a list that stands and a list displayed -/
theorem cat_listD {p : Addr} (hp : H p = some (.lst xs)) (hb : TgAll K s l H xs ds) (hn : ds.length + es.length ≤ 1000) (h : EvDL K s l es te σ H)
    (q : ∀ p2 zs H', Same H H' → H p2 = none → H' p2 = some (.lst zs) → TgAll K s l H' zs (ds ++ es) → Q (.ref p2) H') : te σ H fun y H2 => rCat (.ref p) y H2 Q :=
  h H (Same.refl H) _ fun p2 ys H2 e2 hp2 hp3 b2 => ⟨p, p2, xs, ys, rfl, rfl, e2 _ _ hp, hp3, by rw [← hb.len, ← b2.len]; exact few_size hn, fun p4 hp4 =>
    q p4 _ _ (e2.trans (same_new hp4 _)) (e2.free hp4) upd_same (((hb.same e2).app b2).same (same_new hp4 _))⟩
theorem TgAll.mem : ∀ {xs : List V} {ds : List PyData} {x : V}, TgAll K s l H xs ds → x ∈ xs → ∃ d ∈ ds, Tg K s l H x d
  | _, _, _, .nil, h => nomatch h
  | _, _, x, .cons a b, h => by
    rcases List.mem_cons.mp h with rfl | h
    · exact ⟨_, List.mem_cons_self, a⟩
    · obtain ⟨d, hd, ht⟩ := TgAll.mem b h
      exact ⟨d, List.mem_cons_of_mem _ hd, ht⟩
theorem TgAll.takeT : ∀ {xs : List V} {ds : List PyData}, TgAll K s l H xs ds → ∀ n, TgAll K s l H (xs.take n) (ds.take n)
  | _, _, .nil, n => by
    rw [List.take_nil, List.take_nil]
    exact .nil
  | _, _, .cons a b, 0 => .nil
  | _, _, .cons a b, n + 1 => .cons a (TgAll.takeT b n)
theorem TgAll.dropT : ∀ {xs : List V} {ds : List PyData}, TgAll K s l H xs ds → ∀ n, TgAll K s l H (xs.drop n) (ds.drop n)
  | _, _, .nil, n => by
    rw [List.drop_nil, List.drop_nil]
    exact .nil
  | _, _, .cons a b, 0 => .cons a b
  | _, _, .cons a b, n + 1 => TgAll.dropT b n
theorem cutV_take {j : Nat} : cutV xs none (some (j : Int)) = xs.take j := by
  unfold cutV
  rw [HT.sIx_nat, HT.sIx_none, List.drop_zero, Nat.sub_zero]
  by_cases h : j ≤ xs.length
  · rw [Nat.min_eq_left h]
  · rw [Nat.min_eq_right (by omega), List.take_of_length_le (Nat.le_refl _), List.take_of_length_le (by omega)]
theorem cutV_drop {j : Nat} : cutV xs (some (j : Int)) none = xs.drop j := by
  unfold cutV
  rw [HT.sIx_nat, HT.sIx_none]
  by_cases h : j ≤ xs.length
  · rw [Nat.min_eq_left h]
    exact List.take_of_length_le (by rw [List.length_drop]; exact Nat.le_refl _)
  · rw [List.drop_eq_nil_of_le (show xs.length ≤ min j xs.length by omega), List.drop_eq_nil_of_le (by omega)]
    exact List.take_nil
/-- what evaluates to a tuple of some values, told by a relation that stays -/
def EvR (K : PySem.W.Frag) (s c l : Addr) (R : List V → Hp → Prop) (te : TE) (σ : L2.St) (H0 : Hp) : Prop := ∀ H, StOk K H s c l → Keep s l H0 H → ∀ Q : VK, (∀ H' p ys, StOk K H' s c l → Keep s l H H' → SqT K H' p ys → R ys H' → ys.length ≤ 200 → Q (.ref p) H') → te σ H Q
variable {c : Addr} {tb : TE} {R1 R2 : List V → Hp → Prop}
theorem evr_cut {tl th : TO} {i : Nat} {a : Addr} {lo hi : Option Int} (h : σ[i]? = some (some (.ref a))) (S0 : StOk K H0 s c l) (ha : SqT K H0 a xs) (hx : xs.length ≤ 60) (hl : ∀ (H : Hp) (Q : Option Int → Hp → Prop), Q lo H → tl σ H Q) (hh : ∀ (H : Hp) (Q : Option Int → Hp → Prop), Q hi H → th σ H Q) :
    EvR K s c l (fun ys _ => ys = cutV xs lo hi) (tSl (rSlA K) (tVar i) tl th) σ H0 := fun H S k Q q => ⟨.ref a, h, hl H _ (hh H _ (slA_any (S0.seqT k ha) fun H' p e h2 => q H' p _ (S.keep e) (Keep.of e) h2 rfl (Nat.le_trans cutV_len (by omega))))⟩
theorem evr_cat (ha : EvR K s c l R1 te σ H0) (hb : EvR K s c l R2 tb σ H0) (m1 : ∀ a H H', StOk K H s c l → Keep s l H H' → R1 a H → R1 a H') (m2 : ∀ a H H', StOk K H s c l → Keep s l H H' → R2 a H → R2 a H') (hn : ∀ a b H H', R1 a H → R2 b H' → a.length + b.length ≤ 200) :
    EvR K s c l (fun ys H => ∃ a b, ys = a ++ b ∧ R1 a H ∧ R2 b H) (tOp (rCatA K) te tb) σ H0 := fun H S k Q q => ha H S k _ fun H1 p1 a S1 k1 h1 r1 l1 => hb H1 S1 (k.trans k1) _ fun H2 p2 b S2 k2 h2 r2 l2 =>
  catA_any (S1.seqT k2 h1) h2 (Nat.le_trans (hn a b H1 H2 r1 r2) (by decide)) fun H3 p e3 h3 => q H3 p _ (S2.keep e3) ((k1.trans k2).trans (Keep.of e3)) h3 ⟨a, b, rfl, m1 a _ _ S1 (k2.trans (Keep.of e3)) r1, m2 b _ _ S2 (Keep.of e3) r2⟩ (by
    rw [List.length_append]
    exact hn a b H1 H2 r1 r2)
end
/-! ### what _law_bent makes of a thing -/
def q1D (x : Str) : PyData := .tuple [.str x]
/-- the odd things -/
def oddL (d : PyData) : List PyData := [.none, .bool true, .int 0, .str "", .str "A", .str "x", .str "yes", .str "name", .str "not", .tuple [], .list [], .dict [], .str "abcdefghi", q1D "yes", q1D "no", .tuple [.str "yes", .tuple []]] ++
  [.tuple [.str "name", .str "q"], .tuple [.str "name", .str ""], q1D "name", q1D "not", .tuple [.str "and", q1D "yes"], .tuple [.str "some", .str "q", q1D "yes"], .tuple [d]] ++
  [.tuple [.str "put", .str "q", q1D "no", .tuple [.str "name", .str "q"]], .tuple [.str "if", q1D "yes", q1D "no"], .list [], .tuple [.str "some", q1D "yes", .str "q"]]
inductive Bn : PyData → PyData → Prop
  | odd {d d' : PyData} : d' ∈ oddL d → Bn d d'
  | del {ds : List PyData} {j : Nat} : j < ds.length → Bn (.tuple ds) (.tuple (ds.take j ++ ds.drop (j + 1)))
  | dup {ds : List PyData} {e : PyData} {j : Nat} : ds[j]? = some e → Bn (.tuple ds) (.tuple (ds.take j ++ [e] ++ ds.drop j))
  | into {ds : List PyData} {e e' : PyData} {j : Nat} : ds[j]? = some e → Bn e e' → Bn (.tuple ds) (.tuple (ds.take j ++ [e'] ++ ds.drop (j + 1)))
theorem odd_sz (d : PyData) : ∀ e ∈ oddL d, sz e ≤ sz d + 5 := by
  intro e he
  have hc : e ∈ oddL .none ∨ e = .tuple [d] := by
    unfold oddL at he ⊢
    simp only [List.mem_append, List.mem_cons, List.not_mem_nil, or_false] at he ⊢
    grind
  rcases hc with h | rfl
  · have key : ∀ e ∈ oddL .none, sz e ≤ 5 := by decide +kernel
    have := key e h
    omega
  · simp only [sz, szAll, List.length_cons, List.length_nil]
    omega
end Kn
set_option Elab.async false
set_option linter.all false
set_option maxRecDepth 100000
set_option maxHeartbeats 4000000
set_option pp.maxSteps 1200
namespace Kn
open PySem L2 TL PySem.Spec PyProof.Rows
theorem szAll_app : ∀ (a b : List PyData), szAll (a ++ b) = max (szAll a) (szAll b)
  | [], b => by simp only [List.nil_append, szAll, Nat.zero_max]
  | d :: a, b => by
    simp only [List.cons_append, szAll, szAll_app a b, Nat.max_assoc]
theorem szAll_take (ds : List PyData) (n : Nat) : szAll (ds.take n) ≤ szAll ds := szAll_le fun d hd => szAll_mem (List.mem_of_mem_take hd)
theorem szAll_drop (ds : List PyData) (n : Nat) : szAll (ds.drop n) ≤ szAll ds := szAll_le fun d hd => szAll_mem (List.mem_of_mem_drop hd)
theorem Bn.sz {d d' : PyData} (h : Bn d d') : sz d' ≤ sz d + 5 := by
  induction h with
  | odd h => exact odd_sz _ _ h
  | @del ds j hj =>
    have a := szAll_take ds j
    have b := szAll_drop ds (j + 1)
    simp only [Kn.sz, szAll_app, List.length_append, List.length_take, List.length_drop]
    omega
  | @dup ds e j he =>
    have a := szAll_take ds j
    have b := szAll_drop ds j
    have m := szAll_mem (List.mem_of_getElem? he)
    have hj := (List.getElem?_eq_some_iff.mp he).1
    simp only [Kn.sz, szAll_app, szAll, List.length_append, List.length_take, List.length_drop, List.length_cons, List.length_nil]
    omega
  | @into ds e e' j he _ ih =>
    have a := szAll_take ds j
    have b := szAll_drop ds (j + 1)
    have m := szAll_mem (List.mem_of_getElem? he)
    have hj := (List.getElem?_eq_some_iff.mp he).1
    simp only [Kn.sz, szAll_app, szAll, List.length_append, List.length_take, List.length_drop, List.length_cons, List.length_nil]
    omega
section
variable {P : Program} {w : World} {K : PySem.W.Frag} {mg : Str → Option Value} {base : Heap}
def spBentD (K : PySem.W.Frag) (n : Nat) : Sp := fun vs H Q _ => ∃ (s c l : Addr) (v : V) (d : PyData), vs = [.ref s, v] ∧ StOk K H s c l ∧ Tg K s l H v d ∧ sz d < n ∧ sz d ≤ 60 ∧
  ∀ (H' : Hp) (x : V) (d' : PyData), StOk K H' s c l → Keep s l H H' → Tg K s l H' x d' → Bn d d' → Q x H'
theorem step_bentD {n : Nat} {f : Addr} {fd : FuncData} (F : Fun K "_law_bent" "_law_bent" sBent f fd) (bG : Binds K fd ["state", "thing"] []) (mG : mg "_law_bent" = some (.ref f))
    (M : Def P w K mg base CX0 "_law_draw" 2 ["state", "many"] (spDraw K)) (O : Def P w K mg base CX0 "_law_one" 3 ["state", "things"] (spOne K)) (mi : mg "isinstance" = none) (mt : mg "tuple" = none) (ml : mg "len" = none)
    (G : FnOk P w K mg base CX0 (n + 3) f fd ["state", "thing"] (spBentD K n)) : FnOk P w K mg base CX0 (n + 4) f fd ["state", "thing"] (spBentD K (n + 1)) := by
  refine F.ok scBent (fun vs H Q E h => ?_) (fun cdv A outer s H vs Q E hr h => ?_)
  · obtain ⟨s, c, l, v, d, rfl, _⟩ := h
    rfl
  obtain ⟨s, c, l, v, d, rfl, S, hv, hsz, h60, q⟩ := h
  have hr2 : Room 2 _ := hr.mono (by omega)
  have hr3 : Room 3 _ := hr.mono (by omega)
  refine ⟨_, Evl.pss_cut (ps_if (PW.pt (pw_and (pt_val (pe_callB call_isi (by rfl) mi PyProof.Rows.boot_isinstance (pa_cons (pv 1) (pa_cons (pe_bltn (v := .ty "tuple") (by rfl) mt PyProof.Rows.boot_tuple rfl) pa_nil))))
      (pw_and (pt_cmpR op_gt (pe_callB call_len_seq (by rfl) ml PySem.boot_len (pa_cons (pv 1) pa_nil)) pe_int (nomark _)) (pw_and1 (pt_cmpR op_gt (pe_def M hr2 rfl (pa_cons (pv 0) (pa_cons pe_int pa_nil))) pe_int (nomark _))))))
      (pss_cons (ps_set (i := 2) scBent.nd rfl (Or.inl rfl) (pe_def M hr2 rfl (pa_cons (pv 0) (pa_cons (pe_callB call_len_seq (by rfl) ml PySem.boot_len (pa_cons (pv 1) pa_nil)) pa_nil))))
      (pss_cons (ps_set (i := 3) scBent.nd rfl (Or.inl rfl) (pe_def M hr2 rfl (pa_cons (pv 0) (pa_cons pe_int pa_nil))))
      (pss_cons (ps_if (pt_cmpR op_eq (pv 3) pe_int (nomark _))
        (pss_one (ps_ret (pe_op op_catA (pe_slice sl_tupA (pv 1) po_none (po_some (pv 2))) (pe_slice sl_tupA (pv 1) (po_some (pe_op op_add (pv 2) pe_int)) po_none)))) pss_nil)
      (pss_cons (ps_if (pt_cmpR op_eq (pv 3) pe_int (nomark _))
        (pss_one (ps_ret (pe_op op_catA (pe_op op_catA (pe_slice sl_tupA (pv 1) po_none (po_some (pv 2))) (pe_tup (pa_cons (pe_ix ix_tup (pv 1) (pv 2) (fun _ _ => rfl)) pa_nil))) (pe_slice sl_tupA (pv 1) (po_some (pv 2)) po_none)))) pss_nil)
      (pss_one (ps_ret (pe_op op_catA (pe_op op_catA (pe_slice sl_tupA (pv 1) po_none (po_some (pv 2))) (pe_tup (pa_cons (pe_call G hr rfl mG F.kp bG .nil pass0 (pa_cons (pv 0) (pa_cons (pe_ix ix_tup (pv 1) (pv 2) (fun _ _ => rfl)) pa_nil))) pa_nil))) (pe_slice sl_tupA (pv 1) (po_some (pe_op op_add (pv 2) pe_int)) po_none)))))))) pss_nil)
    (pss_cons (ps_set (i := 4) scBent.nd rfl (Or.inl rfl) (pe_lst (pa_cons pe_non (pa_cons pe_bl (pa_cons pe_int (pa_cons pe_str (pa_cons pe_str (pa_cons pe_str (pa_cons pe_str (pa_cons pe_str (pa_cons pe_str (pa_cons (pe_tup pa_nil) (pa_cons (pe_lst pa_nil) (pa_cons pe_dnewK (pa_cons pe_str
        (pa_cons (pe_tup (pa_cons pe_str pa_nil)) (pa_cons (pe_tup (pa_cons pe_str pa_nil)) (pa_cons (pe_tup (pa_cons pe_str (pa_cons (pe_tup pa_nil) pa_nil))) pa_nil))))))))))))))))))
    (pss_cons (ps_set (i := 4) scBent.nd rfl (Or.inl rfl) (pe_op op_cat (pv 4) (pe_lst (pa_cons (pe_tup (pa_cons pe_str (pa_cons pe_str pa_nil))) (pa_cons (pe_tup (pa_cons pe_str (pa_cons pe_str pa_nil))) (pa_cons (pe_tup (pa_cons pe_str pa_nil)) (pa_cons (pe_tup (pa_cons pe_str pa_nil))
        (pa_cons (pe_tup (pa_cons pe_str (pa_cons (pe_tup (pa_cons pe_str pa_nil)) pa_nil))) (pa_cons (pe_tup (pa_cons pe_str (pa_cons pe_str (pa_cons (pe_tup (pa_cons pe_str pa_nil)) pa_nil)))) (pa_cons (pe_tup (pa_cons (pv 1) pa_nil)) pa_nil))))))))))
    (pss_cons (ps_set (i := 4) scBent.nd rfl (Or.inl rfl) (pe_op op_cat (pv 4) (pe_lst (pa_cons (pe_tup (pa_cons pe_str (pa_cons pe_str (pa_cons (pe_tup (pa_cons pe_str pa_nil)) (pa_cons (pe_tup (pa_cons pe_str (pa_cons pe_str pa_nil))) pa_nil)))))
        (pa_cons (pe_tup (pa_cons pe_str (pa_cons (pe_tup (pa_cons pe_str pa_nil)) (pa_cons (pe_tup (pa_cons pe_str pa_nil)) pa_nil)))) (pa_cons (pe_lst (pa_cons (pv 1) pa_nil)) (pa_cons (pe_tup (pa_cons pe_str (pa_cons (pe_tup (pa_cons pe_str pa_nil)) (pa_cons pe_str pa_nil)))) pa_nil)))))))
    (pss_one (ps_ret (pe_def O hr3 rfl (pa_cons (pv 0) (pa_cons (pv 4) pa_nil)))))))), ?_⟩
  refine ⟨fun σ' H' => σ' = [some (.ref s), some v, none, none, none] ∧ StOk K H' s c l ∧ Keep s l H H', ?_, ?_⟩
  · refine ⟨_, rfl, ?_⟩
    obtain ⟨ty, ty1, ty2, _⟩ := tg_ty hv
    refine ⟨v, .ty "tuple", .type ty, .type "tuple", isTup d, rfl, .ty _, ty1, kit_ty ty2, ?_⟩
    refine ⟨_, rfl, ?_⟩
    cases hv with
    | @tup a xs ds ha hxs =>
      have hl := hxs.len
      obtain ⟨b1, b2⟩ : szAll ds ≤ 60 ∧ xs.length ≤ 60 := by
        simp only [sz] at h60
        omega
      refine iteT ⟨_, rfl, a, _, rfl, .inr ha, _, _, rfl, rfl, _, rfl, ?_⟩
      refine ite2 (fun c1 => ?_) (fun _ => ⟨rfl, S, Keep.refl⟩)
      have hpos : 0 < xs.length := by
        have := of_decide_eq_true c1
        omega
      refine ⟨_, rfl, s, c, l, 5, rfl, S, by decide, by decide, fun H1 n1 S1 k1 n10 n11 => ⟨_, _, rfl, rfl, _, rfl, ?_⟩⟩
      refine ite2 (fun _ => ?_) (fun _ => ⟨rfl, S1, k1⟩)
      have ha1 := S.seqT k1 ha
      refine ⟨_, rfl, _, rfl, a, _, rfl, .inr ha1, s, c, l, _, rfl, S1, by omega, by omega, fun H2 at_ S2 k2 a0 a1 => ?_⟩
      obtain ⟨j, rfl⟩ : ∃ j : Nat, at_ = (j : Int) := ⟨at_.toNat, by omega⟩
      have hj : j < xs.length := by omega
      have ha2 := S1.seqT k2 ha1
      refine ⟨_, rfl, s, c, l, 7, rfl, S2, by decide, by decide, fun H3 way S3 k3 w0 w1 => ?_⟩
      have ha3 := S2.seqT k3 ha2
      have kk := k1.trans (k2.trans k3)
      have hx3 := hxs.keep S kk
      have fin : ∀ (H' : Hp) (p : Addr) (ys : List V) (ds' : List PyData), StOk K H' s c l → Keep s l H3 H' → SqT K H' p ys → TgAll K s l H' ys ds' → Bn (.tuple ds) (.tuple ds') → Q (.ref p) H' := fun H' p ys ds' S' k' hp hy hb => q H' _ _ S' (kk.trans k') (.tup hp hy) hb
      have no_ : ∀ (σ : L2.St) (H : Hp) (Q : Option Int → Hp → Prop), Q none H → tNoPart σ H Q := fun _ _ _ h => h
      obtain ⟨σ3, hσ⟩ : ∃ σ3 : L2.St, σ3 = [some (V.ref s), some (V.ref a), some (V.int (j : Int)), some (V.int way), none] := ⟨_, rfl⟩
      have σ1 : σ3[1]? = some (some (V.ref a)) := by rw [hσ]; rfl
      have σ0 : σ3[0]? = some (some (V.ref s)) := by rw [hσ]; rfl
      have σ2 : σ3[2]? = some (some (V.int (j : Int))) := by rw [hσ]; rfl
      have at_ : ∀ (H : Hp) (Q : Option Int → Hp → Prop), Q (some (j : Int)) H → tPart (tVar 2) σ3 H Q := fun H Q h => ⟨_, σ2, _, rfl, h⟩
      have at1_ : ∀ (H : Hp) (Q : Option Int → Hp → Prop), Q (some ((j + 1 : Nat) : Int)) H → tPart (tOp (rI0 fun i j => .int (i + j)) (tVar 2) (tC (.int 1))) σ3 H Q := fun H Q h => ⟨_, σ2, _, _, rfl, rfl, _, rfl, h⟩
      have c1 : EvR K s c l _ (tSl (rSlA K) (tVar 1) tNoPart (tPart (tVar 2))) σ3 H3 := evr_cut σ1 S3 ha3 b2 (no_ σ3) at_
      have c2 : EvR K s c l _ (tSl (rSlA K) (tVar 1) (tPart (tOp (rI0 fun i j => .int (i + j)) (tVar 2) (tC (.int 1)))) tNoPart) σ3 H3 := evr_cut σ1 S3 ha3 b2 at1_ (no_ σ3)
      have c3 : EvR K s c l _ (tSl (rSlA K) (tVar 1) (tPart (tVar 2)) tNoPart) σ3 H3 := evr_cut σ1 S3 ha3 b2 at_ (no_ σ3)
      obtain ⟨e, he, hee⟩ := hx3.atS (List.getElem?_eq_getElem hj)
      have lt := cutV_len (xs := xs) (lo := none) (hi := some (j : Int))
      have ld1 := cutV_len (xs := xs) (lo := some ((j + 1 : Nat) : Int)) (hi := none)
      have ld := cutV_len (xs := xs) (lo := some (j : Int)) (hi := none)
      -- thing[at] as a tuple of its own, and what is made of it
      have it : EvR K s c l (fun ys _ => ys = [xs[j]]) (tTup (tCons (tOp (rIxT K) (tVar 1) (tVar 2)) tNil)) σ3 H3 := fun H S k Q q =>
        ⟨_, σ1, _, σ2, a, xs, _, xs[j], rfl, rfl, S3.seqT k ha3, atI_nat (List.getElem?_eq_getElem hj), few_size (by show 1 ≤ 1000; decide), fun p hp => q _ p [xs[j]] (S.new hp) (Keep.new hp) (SqT.of upd_same) rfl (by show 1 ≤ 200; decide)⟩
      have rc : EvR K s c l (fun ys H => ∃ v e', ys = [v] ∧ Tg K s l H v e' ∧ Bn e e') (tTup (tCons (tCall (spBentD K n) [] E0 (tCons (tVar 0) (tCons (tOp (rIxT K) (tVar 1) (tVar 2)) tNil))) tNil)) σ3 H3 := fun H S k Q q =>
        ⟨_, σ0, _, σ1, _, σ2, a, xs, _, xs[j], rfl, rfl, S3.seqT k ha3, atI_nat (List.getElem?_eq_getElem hj), s, c, l, xs[j], e, rfl, S, hee.keep S3 k, by
          have := szAll_mem (List.mem_of_getElem? he)
          simp only [sz] at hsz
          omega, by
          have := szAll_mem (List.mem_of_getElem? he)
          omega, fun H2 x e' S2 k2 t2 hb2 => ⟨few_size (by show 1 ≤ 1000; decide), fun p hp => q _ p [x] (S2.new hp) (k2.trans (Keep.new hp)) (SqT.of upd_same) ⟨x, e', rfl, t2.same (same_new hp _), hb2⟩ (by show 1 ≤ 200; decide)⟩⟩
      have cm : ∀ (zs : List V) (a : List V) (H H' : Hp), StOk K H s c l → Keep s l H H' → a = zs → a = zs := fun _ _ _ _ _ _ h => h
      subst hσ
      refine ⟨_, rfl, rfl, _, rfl, ite2 (fun _ => ?_) (fun _ => ?_)⟩
      · refine ret_of (evr_cat c1 c2 (cm _) (cm _) (fun a b _ _ h1 h2 => by rw [h1, h2]; omega) H3 S3 Keep.refl _ fun H' p ys S' k' hp hy _ => ?_)
        obtain ⟨_, _, rfl, rfl, rfl⟩ := hy
        rw [cutV_take, cutV_drop] at hp
        have hx' := hx3.keep S3 k'
        exact fin H' p _ _ S' k' hp ((hx'.takeT j).app (hx'.dropT (j + 1))) (.del (by rw [hl]; exact hj))
      refine ⟨_, rfl, rfl, _, rfl, ite2 (fun _ => ?_) (fun _ => ?_)⟩
      · refine ret_of (evr_cat (evr_cat c1 it (cm _) (cm _) (fun a b _ _ h1 h2 => by rw [h1, h2]; show _ + 1 ≤ 200; omega)) c3 (fun a H H' _ _ h => h) (cm _) (fun a b _ _ h1 h2 => by
          obtain ⟨_, _, rfl, rfl, rfl⟩ := h1
          rw [h2, List.length_append, List.length_singleton]
          omega) H3 S3 Keep.refl _ fun H' p ys S' k' hp hy _ => ?_)
        obtain ⟨_, _, rfl, ⟨_, _, rfl, rfl, rfl⟩, rfl⟩ := hy
        rw [cutV_take, cutV_drop] at hp
        have hx' := hx3.keep S3 k'
        exact fin H' p _ _ S' k' hp (((hx'.takeT j).app (.cons (hee.keep S3 k') .nil)).app (hx'.dropT j)) (.dup he)
      · refine ret_of (evr_cat (evr_cat c1 rc (cm _) (fun a H H' S k h => by
            obtain ⟨v, e', h1, h2, h3⟩ := h
            exact ⟨v, e', h1, h2.keep S k, h3⟩) (fun a b _ _ h1 h2 => by
          obtain ⟨v, e', rfl, _⟩ := h2
          rw [h1, List.length_singleton]
          omega)) c2 (fun a H H' S k h => by
            obtain ⟨x, y, h1, h2, v, e', h3, h4, h5⟩ := h
            exact ⟨x, y, h1, h2, v, e', h3, h4.keep S k, h5⟩) (cm _) (fun a b _ _ h1 h2 => by
          obtain ⟨_, _, rfl, rfl, v, e', rfl, _⟩ := h1
          rw [h2, List.length_append, List.length_singleton]
          omega) H3 S3 Keep.refl _ fun H' p ys S' k' hp hy _ => ?_)
        obtain ⟨_, _, rfl, ⟨_, _, rfl, rfl, v, e', rfl, t', hb'⟩, rfl⟩ := hy
        rw [cutV_take, cutV_drop] at hp
        have hx' := hx3.keep S3 k'
        exact fin H' p _ _ S' k' hp (((hx'.takeT j).app (.cons t' .nil)).app (hx'.dropT (j + 1))) (.into he hb')
    | _ => exact iteF ⟨rfl, S, Keep.refl⟩
  · rintro σ H1 ⟨rfl, S1, k1⟩
    have hv1 := hv.keep S k1
    have ns : H1 s ≠ none := by
      obtain ⟨_, _, _, _, _, _, _, _, a2, _⟩ := S1
      rw [a2]
      exact fun z => nomatch z
    have nl : H1 l ≠ none := by
      obtain ⟨_, _, _, _, _, _, _, _, _, _, _, a5, _⟩ := S1
      rw [a5]
      exact fun z => nomatch z
    have g1 : ∀ {x : Str} {σ : L2.St} {H0 : Hp}, (h : okS x = true := by decide +kernel) → EvD K s l (q1D x) (tTup (tCons (tC (.str x)) tNil)) σ H0 := fun hx => evd_tup (eda_cons (evd_str hx) eda_nil) (by show 1 ≤ 100; decide)
    have g2 : ∀ {x y : Str} {σ : L2.St} {H0 : Hp}, (h : okS x = true := by decide +kernel) → (h : okS y = true := by decide +kernel) → EvD K s l (.tuple [.str x, .str y]) (tTup (tCons (tC (.str x)) (tCons (tC (.str y)) tNil))) σ H0 := fun hx hy => evd_tup (eda_cons (evd_str hx) (eda_cons (evd_str hy) eda_nil)) (by show 2 ≤ 100; decide)
    have g0 : ∀ {σ : L2.St} {H0 : Hp}, EvD K s l (.tuple []) (tTup tNil) σ H0 := evd_tup eda_nil (by show 0 ≤ 100; decide)
    have o1 : EvDL K s l [.none, .bool true, .int 0, .str "", .str "A", .str "x", .str "yes", .str "name", .str "not", .tuple [], .list [], .dict [], .str "abcdefghi", q1D "yes", q1D "no", .tuple [.str "yes", .tuple []]] _ [some (.ref s), some v, none, none, none] H1 :=
      edl_lst (eda_cons evd_non (eda_cons evd_bl (eda_cons evd_int (eda_cons evd_str (eda_cons evd_str (eda_cons evd_str (eda_cons evd_str (eda_cons evd_str (eda_cons evd_str
        (eda_cons g0 (eda_cons (evd_lst ns nl eda_nil (by show 0 ≤ 100; decide)) (eda_cons (evd_dct ns nl) (eda_cons evd_str (eda_cons g1 (eda_cons g1 (eda_cons (evd_tup (eda_cons evd_str (eda_cons g0 eda_nil)) (by show 2 ≤ 100; decide)) eda_nil)))))))))))))))) (by show 16 ≤ 100; decide)
    refine seq_asg (o1 H1 (Same.refl H1) _ fun p1 xs1 H2 e2 n2 h2 b2 => ?_)
    have S2 := S1.keep e2
    refine seq_asg ?_
    refine ⟨_, rfl, ?_⟩
    have o2 : EvDL K s l [.tuple [.str "name", .str "q"], .tuple [.str "name", .str ""], q1D "name", q1D "not", .tuple [.str "and", q1D "yes"], .tuple [.str "some", .str "q", q1D "yes"], .tuple [d]] _ [some (.ref s), some v, none, none, some (.ref p1)] H2 :=
      edl_lst (eda_cons g2 (eda_cons g2 (eda_cons g1 (eda_cons g1 (eda_cons (evd_tup (eda_cons evd_str (eda_cons g1 eda_nil)) (by show 2 ≤ 100; decide)) (eda_cons (evd_tup (eda_cons evd_str (eda_cons evd_str (eda_cons g1 eda_nil))) (by show 3 ≤ 100; decide))
        (eda_cons (evd_tup (eda_cons (evd_of (i := 1) rfl (hv1.same e2)) eda_nil) (by show 1 ≤ 100; decide)) eda_nil))))))) (by show 7 ≤ 100; decide)
    refine cat_listD h2 b2 (by show 16 + 7 ≤ 1000; decide) o2 fun p2 xs2 H3 e3 n3 h3 b3 => ?_
    have S3 := S2.keep e3
    refine seq_asg ?_
    refine ⟨_, rfl, ?_⟩
    have e13 := e2.trans e3
    have o3 : EvDL K s l [.tuple [.str "put", .str "q", q1D "no", .tuple [.str "name", .str "q"]], .tuple [.str "if", q1D "yes", q1D "no"], .list [], .tuple [.str "some", q1D "yes", .str "q"]] _ [some (.ref s), some v, none, none, some (.ref p2)] H3 :=
      edl_lst (eda_cons (evd_tup (eda_cons evd_str (eda_cons evd_str (eda_cons g1 (eda_cons g2 eda_nil)))) (by show 4 ≤ 100; decide))
        (eda_cons (evd_tup (eda_cons evd_str (eda_cons g1 (eda_cons g1 eda_nil))) (by show 3 ≤ 100; decide)) (eda_cons (evd_lst (Same.ne e13 ns) (Same.ne e13 nl) (eda_cons (evd_of (i := 1) rfl (hv1.same e13)) eda_nil) (by show 1 ≤ 100; decide))
        (eda_cons (evd_tup (eda_cons evd_str (eda_cons g1 (eda_cons evd_str eda_nil))) (by show 3 ≤ 100; decide)) eda_nil)))) (by show 4 ≤ 100; decide)
    refine cat_listD h3 b3 (by show 23 + 4 ≤ 1000; decide) o3 fun p3 xs3 H4 e4 n4 h4 b4 => ?_
    have S4 := S3.keep e4
    have np := S3.ns n4
    have k4 := k1.trans (Keep.of (s := s) (l := l) (e13.trans e4))
    have l4 : xs3.length = 27 := b4.len.symm
    refine ⟨_, rfl, _, rfl, s, c, l, _, rfl, S4, .inl ⟨p3, xs3, rfl, np.1, np.2.1, SqL.of h4, by omega, by omega, fun H5 x S5 k5 hx => ?_⟩⟩
    obtain ⟨d', m', t1⟩ := (b4.keep S4 k5).mem hx
    exact q H5 x d' S5 (k4.trans k5) t1 (.odd m')
theorem all_bentD {f : Addr} {fd : FuncData} (F : Fun K "_law_bent" "_law_bent" sBent f fd) (bG : Binds K fd ["state", "thing"] []) (mG : mg "_law_bent" = some (.ref f))
    (M : Def P w K mg base CX0 "_law_draw" 2 ["state", "many"] (spDraw K)) (O : Def P w K mg base CX0 "_law_one" 3 ["state", "things"] (spOne K)) (mi : mg "isinstance" = none) (mt : mg "tuple" = none) (ml : mg "len" = none) :
    ∀ n : Nat, FnOk P w K mg base CX0 (n + 3) f fd ["state", "thing"] (spBentD K n)
  | 0 => by
    have no : ∀ vs H Q E, ¬ spBentD K 0 vs H Q E := fun vs H Q E h => by
      obtain ⟨s, c, l, v, d, _, _, _, d0, _⟩ := h
      omega
    exact ⟨fun vs H Q E h => absurd h (no vs H Q E), fun A outer s H args us vs Q E _ _ _ _ h => absurd h (no vs H Q E)⟩
  | n + 1 => step_bentD F bG mG M O mi mt ml (all_bentD F bG mG M O mi mt ml n)
end
end Kn
set_option Elab.async false
set_option linter.all false
set_option maxRecDepth 100000
set_option maxHeartbeats 4000000
set_option pp.maxSteps 1200
namespace Kn
open PySem L2 TL PySem.Spec PyProof.Rows
/-! ### the names of what is bent: none of the words that are kept -/
def nkH : Nat → PyData → Prop
  | 0, _ => True
  | k + 1, d => ∀ o ps, formD d = some (o, ps) → (∀ x, o = some x → ¬ x ∈ keptW) ∧ ∀ p ∈ ps, nkH k p
theorem pre_nk : ∀ (k : Nat) (d : PyData), nkH k d → ∀ x ∈ pre k d, ¬ x ∈ keptW
  | 0, _, _, _, h => nomatch h
  | k + 1, d, hn, x, hx => by
    unfold pre at hx
    cases hf : formD d with
    | none =>
      rw [hf] at hx
      cases hx
    | some op =>
      obtain ⟨o, ps⟩ := op
      rw [hf] at hx
      obtain ⟨h1, h2⟩ := hn o ps hf
      rcases List.mem_append.mp hx with hx | hx
      · exact h1 x (Option.mem_toList.mp hx)
      · obtain ⟨p, hp, hx⟩ := List.mem_flatMap.mp hx
        exact pre_nk k p (h2 p hp) x hx
theorem nk_none {k : Nat} {d : PyData} (h : formD d = none) : nkH k d := by
  cases k with
  | zero => trivial
  | succ k =>
    intro o ps hf
    rw [h] at hf
    cases hf
theorem nk_fo : ∀ (k : Nat) (f : Fo Str), f.ok → (∀ x ∈ f.nms, ¬ x ∈ keptW) → nkH k f.d
  | 0, _, _, _ => trivial
  | k + 1, f, ho, hn => by
    intro o ps hf
    rw [fo_form ho] at hf
    obtain ⟨rfl, rfl⟩ := Prod.mk.inj (Option.some.inj hf)
    refine ⟨fun x hx => hn x ?_, fun p hp => ?_⟩
    · rw [fo_nms f, hx]
      exact List.mem_append_left _ List.mem_cons_self
    · obtain ⟨g, hg, rfl⟩ := List.mem_map.mp hp
      exact nk_fo k g (fo_ok_kid ho hg) fun x hx => hn x ((fo_kid hg).2 x hx)
theorem form_one {d : PyData} {o : Option Str} {ps : List PyData} (h : formD (.tuple [d]) = some (o, ps)) : o = none ∧ ps = [] := by
  obtain ⟨z, b, hl, ⟨hs, e, rfl⟩ | ⟨x, hs, e, rfl, hx⟩⟩ := formD_inv h
  · injection e with e
    injection e with e1 e2
    exact ⟨rfl, e2.symm⟩
  · injection e with e
    injection e with e1 e2
    cases e2
theorem nk_odd {d e : PyData} (h : e ∈ oddL d) : ∀ k, nkH k e := by
  intro k
  have hc : e ∈ oddL .none ∨ e = .tuple [d] := by
    unfold oddL at h ⊢
    simp only [List.mem_append, List.mem_cons, List.not_mem_nil, or_false] at h ⊢
    grind
  have nq : ∀ x ∈ ([("q" : Str)]), isNameS x = true ∧ ¬ x ∈ keptW := by decide +kernel
  have fo : ∀ f : Fo Str, (∀ x ∈ f.nms, x ∈ ([("q" : Str)])) → nkH k f.d := fun f hf => nk_fo k f (fun x hx => (nq x (hf x hx)).1) fun x hx => (nq x (hf x hx)).2
  rcases hc with h | rfl
  · have key : ∀ e ∈ oddL .none, formD e = none ∨ ∃ f : Fo Str, f.d = e ∧ ∀ x ∈ f.nms, x ∈ ([("q" : Str)]) := by
      intro e he
      unfold oddL q1D at he
      simp only [List.mem_append, List.mem_cons, List.not_mem_nil, or_false] at he
      rcases he with ((rfl | rfl | rfl | rfl | rfl | rfl | rfl | rfl | rfl | rfl | rfl | rfl | rfl | rfl | rfl | rfl) | (rfl | rfl | rfl | rfl | rfl | rfl | rfl)) | (rfl | rfl | rfl | rfl)
      all_goals first
        | exact .inr ⟨.yes, rfl, fun x h => nomatch h⟩
        | exact .inr ⟨.no, rfl, fun x h => nomatch h⟩
        | exact .inr ⟨.nam "q", rfl, fun x h => h⟩
        | exact .inr ⟨.som "q" .yes, rfl, fun x h => h⟩
        | exact .inr ⟨.put "q" .no (.nam "q"), rfl, fun x h => by simpa [Fo.nms] using h⟩
        | exact .inl (by kernel_rfl)
    rcases key e h with h | ⟨f, rfl, hf⟩
    · exact nk_none h
    · exact fo f hf
  · cases k with
    | zero => trivial
    | succ k =>
      intro o ps hf
      obtain ⟨rfl, rfl⟩ := form_one hf
      exact ⟨fun x hx => (nomatch hx), fun p hp => (nomatch hp)⟩
theorem bn_out {d : PyData} {z : Str} (h : Bn d (.str z)) : ¬ z ∈ keptW := by
  cases h with
  | odd h =>
    have hc : PyData.str z ∈ oddL .none ∨ PyData.str z = .tuple [d] := by
      unfold oddL at h ⊢
      simp only [List.mem_append, List.mem_cons, List.not_mem_nil, or_false] at h ⊢
      grind
    rcases hc with h | h
    · have key : ∀ e ∈ oddL .none, e = .str z → z ∈ ([("" : Str), "A", "x", "yes", "name", "not", "abcdefghi"]) := by
        intro e he hz
        subst hz
        unfold oddL q1D at he
        simp only [List.mem_append, List.mem_cons, List.not_mem_nil, or_false, PyData.str.injEq, reduceCtorEq, or_false, false_or] at he ⊢
        grind
      have := key _ h rfl
      exact (show ∀ x ∈ ([("" : Str), "A", "x", "yes", "name", "not", "abcdefghi"]), ¬ x ∈ keptW by decide +kernel) z this
    · cases h
theorem bn_str {w : Str} {d' : PyData} (h : Bn (.str w) d') : d' ∈ oddL (.str w) := by
  cases h with
  | odd h => exact h
/-- which strings stand second in what is bent of a thing's tuple -/
theorem second {L : List PyData} {z x : Str} {b : Nat} {ps : List PyData} (h : L = .str z :: .str x :: ps) : L[1]? = some (.str x) := by
  rw [h]
  rfl
theorem form_sub {d : PyData} {o : Option Str} {ps : List PyData} (h : formD d = some (o, ps)) : ∃ L, d = .tuple L ∧ (∀ p ∈ ps, p ∈ L) ∧ ∀ x, o = some x → ∃ z, shapeT z = some (1, ps.length) ∧ L = .str z :: .str x :: ps := by
  obtain ⟨z, b, hl, ⟨hs, rfl, rfl⟩ | ⟨x, hs, rfl, rfl, hx⟩⟩ := formD_inv h
  · exact ⟨_, rfl, fun p hp => List.mem_cons_of_mem _ hp, fun x hx => nomatch hx⟩
  · refine ⟨_, rfl, fun p hp => List.mem_cons_of_mem _ (List.mem_cons_of_mem _ hp), fun y hy => ?_⟩
    obtain rfl := Option.some.inj hy
    exact ⟨z, by rw [hl]; exact hs, rfl⟩
/-- a tree's tuple -/
theorem fo_list (f : Fo Str) : ∃ L : List PyData, f.d = .tuple L ∧ L[0]? = some (.str f.wd) ∧ (∀ e ∈ L, (∃ z, e = .str z) ∨ ∃ g ∈ f.kd, e = g.d) ∧ (∀ x, L[1]? = some (.str x) → x ∈ f.nms) ∧ (∀ x, L[2]? ≠ some (.str x)) := by
  have nd : ∀ (g : Fo Str) (x : Str), some g.d ≠ some (PyData.str x) := fun g x h => by cases g <;> cases h
  cases f with
  | yes => exact ⟨_, rfl, rfl, fun e he => .inl ⟨_, List.mem_singleton.mp he⟩, fun x h => (nomatch h), fun x h => nomatch h⟩
  | no => exact ⟨_, rfl, rfl, fun e he => .inl ⟨_, List.mem_singleton.mp he⟩, fun x h => (nomatch h), fun x h => nomatch h⟩
  | nam y => exact ⟨_, rfl, rfl, fun e he => .inl (by rcases List.mem_cons.mp he with h | h; exact ⟨_, h⟩; exact ⟨_, List.mem_singleton.mp h⟩), fun x h => by
      have : y = x := by injection h with h; injection h
      rw [this]
      exact List.mem_singleton.mpr rfl, fun x h => nomatch h⟩
  | neg f => exact ⟨_, rfl, rfl, fun e he => by
      rcases List.mem_cons.mp he with h | h
      · exact .inl ⟨_, h⟩
      · exact .inr ⟨f, List.mem_cons_self, List.mem_singleton.mp h⟩, fun x h => (nd f x h).elim, fun x h => nomatch h⟩
  | con f g => exact ⟨_, rfl, rfl, fun e he => by
      simp only [List.mem_cons, List.not_mem_nil, or_false] at he
      rcases he with h | h | h
      · exact .inl ⟨_, h⟩
      · exact .inr ⟨f, List.mem_cons_self, h⟩
      · exact .inr ⟨g, List.mem_cons_of_mem _ List.mem_cons_self, h⟩, fun x h => (nd f x h).elim, fun x h => nd g x h⟩
  | dis f g => exact ⟨_, rfl, rfl, fun e he => by
      simp only [List.mem_cons, List.not_mem_nil, or_false] at he
      rcases he with h | h | h
      · exact .inl ⟨_, h⟩
      · exact .inr ⟨f, List.mem_cons_self, h⟩
      · exact .inr ⟨g, List.mem_cons_of_mem _ List.mem_cons_self, h⟩, fun x h => (nd f x h).elim, fun x h => nd g x h⟩
  | xor f g => exact ⟨_, rfl, rfl, fun e he => by
      simp only [List.mem_cons, List.not_mem_nil, or_false] at he
      rcases he with h | h | h
      · exact .inl ⟨_, h⟩
      · exact .inr ⟨f, List.mem_cons_self, h⟩
      · exact .inr ⟨g, List.mem_cons_of_mem _ List.mem_cons_self, h⟩, fun x h => (nd f x h).elim, fun x h => nd g x h⟩
  | ite f g k => exact ⟨_, rfl, rfl, fun e he => by
      simp only [List.mem_cons, List.not_mem_nil, or_false] at he
      rcases he with h | h | h | h
      · exact .inl ⟨_, h⟩
      · exact .inr ⟨f, List.mem_cons_self, h⟩
      · exact .inr ⟨g, List.mem_cons_of_mem _ List.mem_cons_self, h⟩
      · exact .inr ⟨k, List.mem_cons_of_mem _ (List.mem_cons_of_mem _ List.mem_cons_self), h⟩, fun x h => (nd f x h).elim, fun x h => nd g x h⟩
  | som y f => exact ⟨_, rfl, rfl, fun e he => by
      simp only [List.mem_cons, List.not_mem_nil, or_false] at he
      rcases he with h | h | h
      · exact .inl ⟨_, h⟩
      · exact .inl ⟨_, h⟩
      · exact .inr ⟨f, List.mem_cons_self, h⟩, fun x h => by
        have : y = x := by injection h with h; injection h
        rw [this]
        exact List.mem_cons_self, fun x h => nd f x h⟩
  | all y f => exact ⟨_, rfl, rfl, fun e he => by
      simp only [List.mem_cons, List.not_mem_nil, or_false] at he
      rcases he with h | h | h
      · exact .inl ⟨_, h⟩
      · exact .inl ⟨_, h⟩
      · exact .inr ⟨f, List.mem_cons_self, h⟩, fun x h => by
        have : y = x := by injection h with h; injection h
        rw [this]
        exact List.mem_cons_self, fun x h => nd f x h⟩
  | put y f g => exact ⟨_, rfl, rfl, fun e he => by
      simp only [List.mem_cons, List.not_mem_nil, or_false] at he
      rcases he with h | h | h | h
      · exact .inl ⟨_, h⟩
      · exact .inl ⟨_, h⟩
      · exact .inr ⟨f, List.mem_cons_self, h⟩
      · exact .inr ⟨g, List.mem_cons_of_mem _ List.mem_cons_self, h⟩, fun x h => by
        have : y = x := by injection h with h; injection h
        rw [this]
        exact List.mem_cons_self, fun x h => nd f x h⟩
theorem nk_bent : ∀ (k : Nat) (f : Fo Str), f.ok → (∀ x ∈ f.nms, ¬ x ∈ keptW) → ∀ d', Bn f.d d' → nkH k d'
  | 0, _, _, _, _, _ => trivial
  | k + 1, f, ho, hn, d', hb => by
    obtain ⟨L, eL, h0, hL, h1, h2⟩ := fo_list f
    rw [eL] at hb
    -- the parts that stay
    have nkL : ∀ e ∈ L, nkH k e := fun e he => by
      rcases hL e he with ⟨z, rfl⟩ | ⟨g, hg, rfl⟩
      · exact nk_none rfl
      · exact nk_fo k g (fo_ok_kid ho hg) fun x hx => hn x ((fo_kid hg).2 x hx)
    have nkB : ∀ e ∈ L, ∀ e', Bn e e' → nkH k e' := fun e he e' hb => by
      rcases hL e he with ⟨z, rfl⟩ | ⟨g, hg, rfl⟩
      · exact nk_odd (bn_str hb) k
      · exact nk_bent k g (fo_ok_kid ho hg) (fun x hx => hn x ((fo_kid hg).2 x hx)) e' hb
    -- a tuple whose second is no kept word, or that is none
    have fin : ∀ M : List PyData, (∀ e ∈ M, nkH k e) → (∀ z x ps, shapeT z = some (1, ps.length) → M = .str z :: .str x :: ps → ¬ x ∈ keptW) → nkH (k + 1) (.tuple M) := fun M hM hs => by
      intro o ps hf
      obtain ⟨L', e, sub, nm⟩ := form_sub hf
      obtain rfl : M = L' := PyData.tuple.inj e
      refine ⟨fun x hx => ?_, fun p hp => hM p (sub p hp)⟩
      obtain ⟨z, hz, hm⟩ := nm x hx
      exact hs z x ps hz hm
    have sec : ∀ {M : List PyData} {z x : Str} {ps : List PyData}, M = .str z :: .str x :: ps → M[1]? = some (.str x) := fun h => by rw [h]; rfl
    cases hb with
    | odd h => exact nk_odd h _
    | @del _ j hj =>
      refine fin _ (fun e he => ?_) fun z x ps hz hm => ?_
      · rcases List.mem_append.mp he with he | he
        · exact nkL e (List.mem_of_mem_take he)
        · exact nkL e (List.mem_of_mem_drop he)
      · have s := sec hm
        rw [← List.eraseIdx_eq_take_drop_succ, List.getElem?_eraseIdx] at s
        split at s
        · exact hn x (h1 x s)
        · exact (h2 x s).elim
    | @dup _ e j he =>
      refine fin _ (fun e' he' => ?_) fun z x ps hz hm => ?_
      · rcases List.mem_append.mp he' with he' | he'
        · rcases List.mem_append.mp he' with he' | he'
          · exact nkL e' (List.mem_of_mem_take he')
          · rw [List.mem_singleton.mp he']
            exact nkL e (List.mem_of_getElem? he)
        · exact nkL e' (List.mem_of_mem_drop he')
      · have s := sec hm
        match j, he, hm, s with
        | 0, he, hm, s =>
          exfalso
          have hm : e :: L = .str z :: .str x :: ps := hm
          injection hm with hz1 hm
          have hzx : z = x := by
            rw [hm, hz1] at he
            have he : some (PyData.str x) = some (.str z) := he
            injection he with he
            injection he with he
            exact he.symm
          subst hzx
          have hd : formD (.tuple L) = some (f.hd, f.kd.map Fo.d) := by rw [← eL]; exact fo_form ho
          obtain ⟨z2, b, hl, ⟨hs, e2, _⟩ | ⟨x2, hs, e2, _, _⟩⟩ := formD_inv hd
          · have e2 := PyData.tuple.inj e2
            rw [hm] at e2
            injection e2 with e3 e4
            injection e3 with e3
            rw [e3, hs] at hz
            cases hz
          · have e2 := PyData.tuple.inj e2
            rw [hm] at e2
            injection e2 with e3 e4
            injection e3 with e3
            rw [e3, hs] at hz
            have hb : b = ps.length := by injection hz with hz; injection hz
            have := congrArg List.length e4
            rw [List.length_cons, hl] at this
            omega
        | 1, he, hm, s =>
          obtain ⟨x0, r, rfl⟩ : ∃ x0 r, L = x0 :: r := by
            cases L with
            | nil => cases he
            | cons x0 r => exact ⟨x0, r, rfl⟩
          have s : some e = some (.str x) := s
          rw [s] at he
          exact hn x (h1 x he)
        | j + 2, he, hm, s =>
          obtain ⟨x0, x1, r, rfl⟩ : ∃ x0 x1 r, L = x0 :: x1 :: r := by
            cases L with
            | nil => cases he
            | cons x0 r =>
              cases r with
              | nil => cases he
              | cons x1 r => exact ⟨x0, x1, r, rfl⟩
          exact hn x (h1 x s)
    | @into _ e e' j he hbe =>
      refine fin _ (fun u hu => ?_) fun z x ps hz hm => ?_
      · rcases List.mem_append.mp hu with hu | hu
        · rcases List.mem_append.mp hu with hu | hu
          · exact nkL u (List.mem_of_mem_take hu)
          · rw [List.mem_singleton.mp hu]
            exact nkB e (List.mem_of_getElem? he) e' hbe
        · exact nkL u (List.mem_of_mem_drop hu)
      · have s := sec hm
        match j, he, hm, s with
        | 0, he, hm, s =>
          obtain ⟨x0, r, rfl⟩ : ∃ x0 r, L = x0 :: r := by
            cases L with
            | nil => cases he
            | cons x0 r => exact ⟨x0, r, rfl⟩
          exact hn x (h1 x s)
        | 1, he, hm, s =>
          obtain ⟨x0, r, rfl⟩ : ∃ x0 r, L = x0 :: r := by
            cases L with
            | nil => cases he
            | cons x0 r => exact ⟨x0, r, rfl⟩
          have s : some e' = some (.str x) := s
          injection s with s
          rw [s] at hbe
          exact bn_out hbe
        | j + 2, he, hm, s =>
          obtain ⟨x0, x1, r, rfl⟩ : ∃ x0 x1 r, L = x0 :: x1 :: r := by
            cases L with
            | nil => cases he
            | cons x0 r =>
              cases r with
              | nil => cases he
              | cons x1 r => exact ⟨x0, x1, r, rfl⟩
          exact hn x (h1 x s)
/-- the names of what is bent, if it is good -/
theorem bent_names {f : Fo Str} {d' : PyData} (ho : f.ok) (hn : ∀ x ∈ f.nms, ¬ x ∈ keptW) (hb : Bn f.d d') (hp : placeD d' = none) : ∀ x ∈ namesD d', ¬ x ∈ keptW := by
  obtain ⟨g, rfl, o, h⟩ := good_fo 10 (place_good hp).1
  intro x hx
  have hx : x ∈ g.nms := (fo_names_mem o hp h).mp hx
  rw [← (fo_good 10 o h).2] at hx
  exact pre_nk 10 g.d (nk_bent 10 f ho hn _ hb) x hx
end Kn
set_option Elab.async false
set_option linter.all false
set_option maxRecDepth 100000
set_option maxHeartbeats 4000000
set_option pp.maxSteps 1200
namespace Kn
open PySem L2 TL PySem.Spec PyProof.Rows
/-! ### word_end: how long the first word is -/
def wl : List Nat → Nat
  | [] => 0
  | c :: r => if c = 58 ∧ r.head? = some 61 then 2 else if isL c = true then 1 + (r.takeWhile isL).length else 1
theorem tok_wl {c : Nat} {r : List Nat} : tok (c :: r) = if c = 32 then tok ((c :: r).drop (wl (c :: r))) else (c :: r).take (wl (c :: r)) :: tok ((c :: r).drop (wl (c :: r))) := by
  rw [tok, show wl (c :: r) = if c = 58 ∧ r.head? = some 61 then 2 else if isL c = true then 1 + (r.takeWhile isL).length else 1 from rfl]
  by_cases h1 : c = 58 ∧ r.head? = some 61
  · rw [if_pos h1, if_pos h1, if_neg (by rw [h1.1]; decide)]
    cases r with
    | nil => cases h1.2
    | cons d t =>
      have e : d = 61 := Option.some.inj h1.2
      rw [e, h1.1]
      rfl
  rw [if_neg h1, if_neg h1]
  by_cases h2 : isL c = true
  · rw [if_pos h2, if_pos h2, if_neg (fun z => by rw [z] at h2; cases h2)]
    have e1 : (c :: r).take (1 + (r.takeWhile isL).length) = c :: r.takeWhile isL := by
      rw [Nat.add_comm, List.take_succ_cons]
      exact congrArg (List.cons c) ((congrArg (List.take _) (List.takeWhile_append_dropWhile (p := isL) (l := r)).symm).trans List.take_left)
    have e2 : (c :: r).drop (1 + (r.takeWhile isL).length) = r.dropWhile isL := by
      rw [Nat.add_comm, List.drop_succ_cons]
      exact (congrArg (List.drop _) (List.takeWhile_append_dropWhile (p := isL) (l := r)).symm).trans List.drop_left
    rw [e1, e2]
  · rw [if_neg h2, if_neg h2]
    rfl
theorem sw3 (z : Str) (st : Nat) (h : st < z.length) : Txt.startswith3 z ":=" (st : Int) = decide ((z.cps.toList.drop st).take 2 = [58, 61]) := by
  have e : PySem.fromIndex z.length (st : Int) = st := by
    unfold PySem.fromIndex
    rw [if_neg (by omega)]
    omega
  have l2 : (":=" : Str).length = 2 := rfl
  have c2 : (":=" : Str).cps.toList = [58, 61] := rfl
  unfold Txt.startswith3
  rw [e, StrLaws.subAt_eq, l2, c2]
  by_cases c : (z.cps.toList.drop st).take 2 = [58, 61]
  · have hl := congrArg List.length c
    rw [List.length_take, List.length_drop] at hl
    have : z.cps.toList.length = z.length := by simp [Str.length]
    rw [c, decide_eq_true rfl]
    have hl : min 2 (z.cps.toList.length - st) = 2 := hl
    simp
    omega
  · rw [decide_eq_false c]
    simp [c]
theorem tw_spec : ∀ {r : List Nat} {j c : Nat}, r[j]? = some c → j ≤ (r.takeWhile isL).length → (isL c = true → j + 1 ≤ (r.takeWhile isL).length) ∧ (isL c = false → j = (r.takeWhile isL).length)
  | [], _, _, h, _ => by cases h
  | d :: r, 0, c, h, _ => by
    have e : d = c := Option.some.inj h
    subst e
    refine ⟨fun z => ?_, fun z => ?_⟩
    · rw [List.takeWhile_cons, z, if_pos rfl, List.length_cons]
      omega
    · rw [List.takeWhile_cons, z, if_neg (by decide)]
      rfl
  | d :: r, j + 1, c, h, l => by
    have h : r[j]? = some c := h
    cases hd : isL d with
    | false =>
      rw [List.takeWhile_cons, hd, if_neg (by decide)] at l
      have l : j + 1 ≤ 0 := l
      omega
    | true =>
      rw [List.takeWhile_cons, hd, if_pos rfl, List.length_cons] at l ⊢
      obtain ⟨a, b⟩ := tw_spec h (by omega)
      exact ⟨fun z => by have := a z; omega, fun z => by have := b z; omega⟩
abbrev sWordEnd : Stmt := top 39
def spWordEnd : Sp := fun vs H Q _ => ∃ (z : Str) (st : Nat), vs = [.str z, .int (st : Int)] ∧ st < z.length ∧ z.length ≤ 100000 ∧ ∀ H', Same H H' → Q (.int ((st + wl (z.cps.toList.drop st) : Nat) : Int)) H'
section
variable {P : Program} {w : World} {K : PySem.W.Frag} {mg : Str → Option Value} {base : Heap}
theorem scWordEnd : FnScope ["text", "start", "end"] ["text", "start"] (defScope sWordEnd) := ⟨rfl, rfl, rfl, by decide +kernel, rfl, by decide +kernel, by decide +kernel⟩
theorem ok_wordend {f : Addr} {fd : FuncData} (F : Fun K "word_end" "word_end" sWordEnd f fd) (LT : Def P w K mg base CX0 "is_letter" 1 ["sign"] spLetter) (ml : mg "len" = none) : FnOk P w K mg base CX0 2 f fd ["text", "start"] spWordEnd := by
  refine F.ok scWordEnd (fun vs H Q E h => ?_) (fun cdv A outer s H vs Q E hr h => ?_)
  · obtain ⟨z, st, rfl, _⟩ := h
    rfl
  obtain ⟨z, st, rfl, hst, hz, q⟩ := h
  refine ⟨_, pss_cons (ps_if (pt_val (pe_bm PySem.F.plainAttrs_str PySem.F.slot_str_startswith PySem.F.type_str_startswith mt_startswith3 (pv 0) (pa_cons pe_str (pa_cons (pv 1) pa_nil)))) (pss_one (ps_ret (pe_op op_add (pv 1) pe_int))) pss_nil)
    (pss_cons (ps_set (i := 2) scWordEnd.nd rfl (Or.inl rfl) (pe_op op_add (pv 1) pe_int))
    (pss_cons (ps_if (pt_val (pe_def LT hr rfl (pa_cons (pe_ix ix_str (pv 0) (pv 1) (fun _ _ => rfl)) pa_nil)))
      (pss_one (ps_while PassesOwn.never (PW.pt (pw_and (pt_cmpR op_lt (pv 2) (pe_callB call_len (by rfl) ml PySem.boot_len (pa_cons (pv 0) pa_nil)) (nomark _)) (pw_and1 (pt_val (pe_def LT hr rfl (pa_cons (pe_ix ix_str (pv 0) (pv 2) (fun _ _ => rfl)) pa_nil))))))
        (pss_one (ps_aug (i := 2) scWordEnd.nd rfl (.inl rfl) pe_int ip_add)))) pss_nil)
    (pss_one (ps_ret (pv 2))))), ?_⟩
  have zl : z.cps.toList.length = z.length := by simp [Str.length]
  have zs : z.length ≤ sizeLine := Nat.le_trans hz (by decide)
  obtain ⟨c, hc⟩ : ∃ c, z.cps.toList[st]? = some c := ⟨_, List.getElem?_eq_getElem (by omega)⟩
  have hdr : z.cps.toList.drop st = c :: z.cps.toList.drop (st + 1) := by
    have e := List.drop_eq_getElem_cons (l := z.cps.toList) (i := st) (by omega)
    rw [e]
    congr 1
    exact (List.getElem?_eq_some_iff.mp hc).2
  rw [hdr] at q
  generalize hr' : z.cps.toList.drop (st + 1) = r at hdr q
  have rl : r.length + st + 1 = z.length := by
    rw [← hr', List.length_drop]
    omega
  refine ⟨_, rfl, rfl, _, rfl, _, _, _, rfl, rfl, _, rfl, ?_⟩
  rw [sw3 z st hst, hdr]
  have ew : wl (c :: r) = if c = 58 ∧ r.head? = some 61 then 2 else if isL c = true then 1 + (r.takeWhile isL).length else 1 := rfl
  have e2 : ((c :: r).take 2 = [58, 61]) ↔ (c = 58 ∧ r.head? = some 61) := by
    cases r with
    | nil => simp
    | cons d t => simp
  by_cases h1 : c = 58 ∧ r.head? = some 61
  · rw [decide_eq_true (e2.mpr h1)]
    rw [if_pos h1] at ew
    rw [ew] at q
    exact iteT ⟨_, rfl, _, _, rfl, rfl, q _ (Same.refl _)⟩
  rw [decide_eq_false (fun x => h1 (e2.mp x))]
  rw [if_neg h1] at ew
  refine iteF ⟨_, rfl, _, _, rfl, rfl, _, rfl, _, rfl, _, _, c, rfl, rfl, zs, atI_nat hc, c, rfl, _, rfl, ?_⟩
  cases hL : isL c with
  | false =>
    rw [hL, if_neg (by decide)] at ew
    rw [ew] at q
    exact iteF ⟨_, rfl, q _ (Same.refl _)⟩
  | true =>
    rw [hL, if_pos rfl] at ew
    rw [ew] at q
    refine iteT ⟨fun m σ H' => ∃ j : Nat, σ = [some (.str z), some (.int (st : Int)), some (.int ((st + 1 + j : Nat) : Int))] ∧ Same H H' ∧ j ≤ (r.takeWhile isL).length ∧ m + j = (r.takeWhile isL).length, ⟨_, 0, rfl, Same.refl _, Nat.zero_le _, rfl⟩, ?_⟩
    rintro m σ H' ⟨j, rfl, e, hj, hm⟩
    have twl : (r.takeWhile isL).length ≤ r.length := (List.takeWhile_sublist isL).length_le
    have fin : j = (r.takeWhile isL).length → Q (.int ((st + 1 + j : Nat) : Int)) H' := fun x => by
      have := q H' e
      rw [x, Nat.add_assoc]
      exact this
    refine ⟨_, rfl, _, rfl, _, z.length, rfl, ⟨zs, rfl⟩, _, _, rfl, rfl, _, rfl, ite2 (fun h => ?_) (fun h => ?_)⟩
    · have lt : st + 1 + j < z.length := by
        have := of_decide_eq_true h
        omega
      obtain ⟨d, hd⟩ : ∃ d, r[j]? = some d := ⟨_, List.getElem?_eq_getElem (by omega)⟩
      have hzd : z.cps.toList[st + 1 + j]? = some d := by
        rw [← hr', List.getElem?_drop] at hd
        exact hd
      obtain ⟨t1, t2⟩ := tw_spec hd hj
      refine ⟨_, rfl, _, rfl, _, _, d, rfl, rfl, zs, atI_nat hzd, d, rfl, _, rfl, ?_⟩
      cases hd' : isL d with
      | false => exact iteF ⟨_, rfl, fin (t2 hd')⟩
      | true =>
        have := t1 hd'
        refine iteT ⟨fun σ' H2 => ∃ j' : Nat, j' = j + 1 ∧ σ' = [some (.str z), some (.int (st : Int)), some (.int ((st + 1 + j' : Nat) : Int))] ∧ Same H H2, ?_, ?_⟩
        · rintro σ' H2 ⟨j', rfl, rfl, e'⟩
          exact ⟨m - 1, by omega, j + 1, rfl, e', this, by omega⟩
        · exact ⟨_, rfl, _, _, rfl, rfl, j + 1, rfl, rfl, e⟩
    · have ge : ¬ st + 1 + j < z.length := fun x => h (decide_eq_true (by omega))
      exact ⟨_, rfl, fin (by omega)⟩
end
end Kn
set_option Elab.async false
set_option linter.all false
set_option maxRecDepth 100000
set_option maxHeartbeats 4000000
set_option pp.maxSteps 1200
namespace Kn
open PySem L2 TL PySem.Spec PyProof.Rows
/-! ### words_of -/
abbrev sWordsOf : Stmt := top 40
def strOf (w : List Nat) : Str := ⟨w.toArray⟩
theorem wl_le : ∀ l : List Nat, wl l ≤ l.length
  | [] => Nat.le_refl _
  | c :: r => by
    have tw := (List.takeWhile_sublist isL (l := r)).length_le
    show (if c = 58 ∧ r.head? = some 61 then 2 else if isL c = true then 1 + (r.takeWhile isL).length else 1) ≤ r.length + 1
    by_cases h : c = 58 ∧ r.head? = some 61
    · rw [if_pos h]
      cases r with
      | nil => cases h.2
      | cons d t => rw [List.length_cons]; omega
    · rw [if_neg h]
      split <;> omega
theorem wl_pos {c : Nat} {r : List Nat} : 1 ≤ wl (c :: r) := by
  show 1 ≤ (if c = 58 ∧ r.head? = some 61 then 2 else if isL c = true then 1 + (r.takeWhile isL).length else 1)
  split
  · omega
  · split <;> omega
theorem cut_word (z : Str) (a n : Nat) (h : a + n ≤ z.length) : cutS z (some (a : Int)) (some ((a + n : Nat) : Int)) = strOf ((z.cps.toList.drop a).take n) := by
  unfold cutS strOf
  have h1 : min a z.length = a := by omega
  have h2 : min (a + n) z.length = a + n := by omega
  rw [HT.sIx_nat, HT.sIx_nat, h1, h2, show a + n - a = n by omega]
def spWordsOf : Sp := fun vs H Q _ => ∃ z : Str, vs = [.str z] ∧ z.length ≤ 100000 ∧ ∀ (H' : Hp) (p : Addr), Same H H' → H p = none → H' p = some (.lst ((tok z.cps.toList).map fun w => V.str (strOf w))) → Q (.ref p) H'
section
variable {P : Program} {w : World} {K : PySem.W.Frag} {mg : Str → Option Value} {base : Heap}
theorem scWordsOf : FnScope ["text", "words", "at", "end"] ["text"] (defScope sWordsOf) := ⟨rfl, rfl, rfl, by decide +kernel, rfl, by decide +kernel, by decide +kernel⟩
theorem ok_wordsof {f : Addr} {fd : FuncData} (F : Fun K "words_of" "words_of" sWordsOf f fd) (WE : Def P w K mg base CX0 "word_end" 2 ["text", "start"] spWordEnd) (ml : mg "len" = none) : FnOk P w K mg base CX0 3 f fd ["text"] spWordsOf := by
  refine F.ok scWordsOf (fun vs H Q E h => ?_) (fun cdv A outer s H vs Q E hr h => ?_)
  · obtain ⟨z, rfl, _⟩ := h
    rfl
  obtain ⟨z, rfl, hz, q⟩ := h
  refine ⟨_, pss_cons (ps_set (i := 1) scWordsOf.nd rfl (Or.inl rfl) (pe_lst pa_nil))
    (pss_cons (ps_set (i := 2) scWordsOf.nd rfl (Or.inl rfl) pe_int)
    (pss_cons (ps_while PassesOwn.never (pt_cmpR op_lt (pv 2) (pe_callB call_len (by rfl) ml PySem.boot_len (pa_cons (pv 0) pa_nil)) (nomark _))
      (pss_cons (ps_set (i := 3) scWordsOf.nd rfl (Or.inl rfl) (pe_def WE hr rfl (pa_cons (pv 0) (pa_cons (pv 2) pa_nil))))
      (Evl.pss_cut (ps_if (pt_cmpR op_ne (pe_ix ix_str (pv 0) (pv 2) (fun _ _ => rfl)) pe_str (nomark _)) (pss_one (ps_expr (pe_bm PySem.F.plainAttrs_list PySem.F.slot_list_append PySem.F.type_list_append mt_append (pv 1) (pa_cons (pe_slice sl_str (pv 0) (po_some (pv 2)) (po_some (pv 3))) pa_nil)))) pss_nil)
      (pss_one (ps_set (i := 2) scWordsOf.nd rfl (Or.inl rfl) (pv 3))))))
    (pss_one (ps_ret (pv 1))))), ?_⟩
  have zl : z.cps.toList.length = z.length := by simp [Str.length]
  have zs : z.length ≤ sizeLine := Nat.le_trans hz (by decide)
  refine ⟨Nat.zero_le _, fun p hp => ?_⟩
  refine ⟨fun m σ H' => ∃ (a : Nat) (acc : List (List Nat)) (x3 : Option V), σ = [some (.str z), some (.ref p), some (.int (a : Int)), x3] ∧ Same H H' ∧ H' p = some (.lst (acc.map fun w => V.str (strOf w))) ∧ acc ++ tok (z.cps.toList.drop a) = tok z.cps.toList ∧ a ≤ z.length ∧ acc.length ≤ a ∧ m + a = z.length,
    ⟨z.length, 0, [], none, rfl, same_new hp _, upd_same, rfl, Nat.zero_le _, Nat.le_refl _, rfl⟩, ?_⟩
  rintro m σ H' ⟨a, acc, x3, rfl, e, hpl, ht, ha, hl, hm⟩
  refine ⟨_, rfl, _, rfl, _, z.length, rfl, ⟨zs, rfl⟩, _, _, rfl, rfl, _, rfl, ite2 (fun h => ?_) (fun h => ?_)⟩
  rotate_left
  · have ge : ¬ a < z.length := fun x => h (decide_eq_true (by omega))
    have e0 : z.cps.toList.drop a = [] := List.drop_eq_nil_of_le (by omega)
    rw [e0, tok_nil, List.append_nil] at ht
    subst ht
    exact ⟨_, rfl, q _ _ e hp hpl⟩
  have lt : a < z.length := by
    have := of_decide_eq_true h
    omega
  obtain ⟨c, hc⟩ : ∃ c, z.cps.toList[a]? = some c := ⟨_, List.getElem?_eq_getElem (by omega)⟩
  have hdr : z.cps.toList.drop a = c :: z.cps.toList.drop (a + 1) := by
    have e := List.drop_eq_getElem_cons (l := z.cps.toList) (i := a) (by omega)
    rw [e]
    congr 1
    exact (List.getElem?_eq_some_iff.mp hc).2
  have wle := wl_le (z.cps.toList.drop a)
  rw [List.length_drop] at wle
  have wp : 1 ≤ wl (z.cps.toList.drop a) := by rw [hdr]; exact wl_pos
  have hk : tok (z.cps.toList.drop a) = if c = 32 then tok (z.cps.toList.drop (a + wl (z.cps.toList.drop a))) else (z.cps.toList.drop a).take (wl (z.cps.toList.drop a)) :: tok (z.cps.toList.drop (a + wl (z.cps.toList.drop a))) := by
    rw [← List.drop_drop]
    conv => lhs; rw [hdr, tok_wl, ← hdr]
  generalize hn : wl (z.cps.toList.drop a) = n at wle wp hk
  refine ⟨fun σ' H2 => ∃ (a' : Nat) (acc' : List (List Nat)) (x3' : Option V), a' = a + n ∧ σ' = [some (.str z), some (.ref p), some (.int (a' : Int)), x3'] ∧ Same H H2 ∧ H2 p = some (.lst (acc'.map fun w => V.str (strOf w))) ∧ acc' ++ tok (z.cps.toList.drop a') = tok z.cps.toList ∧ acc'.length ≤ a + 1, ?_, ?_⟩
  · rintro σ' H2 ⟨a', acc', x3', rfl, rfl, e2, hp2, ht2, hl2⟩
    exact ⟨m - n, by omega, a + n, acc', x3', rfl, e2, hp2, ht2, by omega, by omega, by omega⟩
  refine ⟨_, rfl, _, rfl, z, a, rfl, lt, hz, fun H2 e2 => ?_⟩
  rw [hn]
  have hp2 := e2 _ _ hpl
  refine ⟨fun σ' H3 => ∃ acc' : List (List Nat), σ' = [some (.str z), some (.ref p), some (.int (a : Int)), some (.int ((a + n : Nat) : Int))] ∧ Same H H3 ∧ H3 p = some (.lst (acc'.map fun w => V.str (strOf w))) ∧ acc' ++ tok (z.cps.toList.drop (a + n)) = tok z.cps.toList ∧ acc'.length ≤ a + 1, ?_, ?_⟩
  rotate_left
  · rintro σ' H3 ⟨acc', rfl, e3, hp3, ht3, hl3⟩
    exact ⟨_, rfl, a + n, acc', _, rfl, rfl, e3, hp3, ht3, hl3⟩
  refine ⟨_, rfl, _, rfl, _, _, c, rfl, rfl, zs, atI_nat hc, rfl, _, rfl, ?_⟩
  by_cases c32 : c = 32
  · rw [if_pos c32] at hk
    subst c32
    rw [decide_eq_true (show V.str ⟨#[32]⟩ = V.str " " from rfl)]
    refine iteF ⟨acc, rfl, e.trans e2, hp2, ?_, by omega⟩
    rw [← hk]
    exact ht
  · rw [if_neg c32] at hk
    rw [decide_eq_false (show ¬ V.str ⟨#[c]⟩ = V.str " " from fun x => c32 (by
      have x := V.str.inj x
      have x : (⟨#[c]⟩ : Str).cps.toList = (" " : Str).cps.toList := congrArg (fun y : Str => y.cps.toList) x
      have x : [c] = [32] := x
      exact (List.cons.inj x).1))]
    refine iteT ⟨_, rfl, .inl ⟨rfl, _, SqL.of hp2⟩, _, rfl, _, rfl, _, rfl, _, rfl, _, rfl, z, rfl, zs, ?_⟩
    refine ⟨p, _, _, rfl, rfl, hp2, by rw [List.length_map]; exact Nat.lt_of_le_of_lt (show _ ≤ 100000 by omega) (by decide), acc ++ [(z.cps.toList.drop a).take n], rfl, same_mut hp (e.trans e2), ?_, ?_, by rw [List.length_append, List.length_singleton]; omega⟩
    · rw [upd_same, cut_word z a n (by omega), List.map_append]
      rfl
    · rw [List.append_assoc, List.singleton_append, ← hk]
      exact ht
end
end Kn
set_option Elab.async false
set_option linter.all false
set_option maxRecDepth 100000
set_option maxHeartbeats 4000000
set_option pp.maxSteps 1200
namespace Kn
open PySem L2 TL PySem.Spec PyProof.Rows
/-! ### the text as words with blanks -/
abbrev codes (z : Str) : List Nat := z.cps.toList
theorem codes_app (a b : Str) : codes (a ++ b) = codes a ++ codes b := by
  show (a ++ b).cps.toList = _
  rw [Str.cps_append, Array.toList_append]
theorem str_codes (z : Str) : strOf (codes z) = z := rfl
theorem codes_str (w : List Nat) : codes (strOf w) = w := rfl
theorem spr_app (t : Nat) : ∀ a b : List (Nat × List Nat), spr (a ++ b) t = spr a 0 ++ spr b t
  | [], b => rfl
  | (n, w) :: r, b => by
    rw [List.cons_append, spr, spr, spr_app t r b]
    simp only [List.append_assoc]
def bump : List (Nat × List Nat) → List (Nat × List Nat)
  | (b, w) :: r => (b + 1, w) :: r
  | [] => []
theorem spr_bump {ps : List (Nat × List Nat)} (h : ps ≠ []) (t : Nat) : spr (bump ps) t = 32 :: spr ps t := by
  cases ps with
  | nil => exact absurd rfl h
  | cons p r =>
    obtain ⟨b, w⟩ := p
    rfl
theorem bump_snd : ∀ ps : List (Nat × List Nat), (bump ps).map Prod.snd = ps.map Prod.snd
  | [] => rfl
  | _ :: _ => rfl
def parP (lv n : Nat) (ps : List (Nat × List Nat)) : List (Nat × List Nat) := if lv < n then (0, [40]) :: (ps ++ [(0, [41])]) else ps
def bareP : Fo Str → List (Nat × List Nat)
  | .yes => [(0, [49])] | .no => [(0, [48])]
  | .nam x => [(0, codes x)]
  | .neg f => (0, [33]) :: parP f.lev 4 (bareP f)
  | .con f g => parP f.lev 3 (bareP f) ++ (1, [38]) :: bump (parP g.lev 4 (bareP g))
  | .dis f g => parP f.lev 1 (bareP f) ++ (1, [124]) :: bump (parP g.lev 2 (bareP g))
  | .xor f g => parP f.lev 2 (bareP f) ++ (1, [94]) :: bump (parP g.lev 3 (bareP g))
  | .ite f g h => parP f.lev 1 (bareP f) ++ (1, [63]) :: (bump (bareP g) ++ (1, [58]) :: bump (bareP h))
  | .put x f g => (0, codes x) :: (1, [58, 61]) :: (bump (bareP f) ++ (1, codes "in") :: bump (bareP g))
  | .som x f => (0, codes "some") :: (1, codes x) :: bump (bareP f)
  | .all x f => (0, codes "all") :: (1, codes x) :: bump (bareP f)
theorem parP_ne {lv n : Nat} {ps : List (Nat × List Nat)} (h : ps ≠ []) : parP lv n ps ≠ [] := by
  unfold parP
  split
  · exact fun z => nomatch z
  · exact h
theorem bareP_ne (f : Fo Str) : bareP f ≠ [] := by
  cases f <;> simp [bareP]
theorem par_spr (lv n : Nat) (z : Str) (ps : List (Nat × List Nat)) (h : codes z = spr ps 0) : codes (parS lv n z) = spr (parP lv n ps) 0 := by
  unfold parS parP
  split
  · rw [codes_app, codes_app, codes_app, h, spr, spr_app]
    rfl
  · exact h
theorem bin_spr {a s b : Str} {c : List Nat} {ps qs : List (Nat × List Nat)} (hs : codes s = c) (ha : codes a = spr ps 0) (hb : codes b = spr qs 0) (hq : qs ≠ []) : codes (binS a s b) = spr (ps ++ (1, c) :: bump qs) 0 := by
  unfold binS
  rw [spr_app, spr, spr_bump hq, codes_app, codes_app, codes_app, codes_app, codes_app, ha, hb, hs]
  show (([] ++ spr ps 0) ++ [32]) ++ c ++ [32] ++ spr qs 0 = spr ps 0 ++ ([32] ++ (c ++ 32 :: spr qs 0))
  simp only [List.nil_append, List.append_assoc, List.cons_append]
theorem bare_spr : ∀ f : Fo Str, codes (bareS f) = spr (bareP f) 0
  | .yes => by decide +kernel
  | .no => by decide +kernel
  | .nam x => by
    show codes x = [] ++ (codes x ++ [])
    rw [List.append_nil, List.nil_append]
  | .neg f => by
    rw [bareS, bareP, codes_app, codes_app, par_spr _ _ _ _ (bare_spr f)]
    rfl
  | .con f g => bin_spr (by decide +kernel) (par_spr _ _ _ _ (bare_spr f)) (par_spr _ _ _ _ (bare_spr g)) (parP_ne (bareP_ne g))
  | .dis f g => bin_spr (by decide +kernel) (par_spr _ _ _ _ (bare_spr f)) (par_spr _ _ _ _ (bare_spr g)) (parP_ne (bareP_ne g))
  | .xor f g => bin_spr (by decide +kernel) (par_spr _ _ _ _ (bare_spr f)) (par_spr _ _ _ _ (bare_spr g)) (parP_ne (bareP_ne g))
  | .ite f g h => by
    rw [bareS, bareP, spr_app, spr, spr_app, spr_bump (bareP_ne g), spr, spr_bump (bareP_ne h), codes_app, codes_app, codes_app, codes_app, codes_app, par_spr _ _ _ _ (bare_spr f), bare_spr g, bare_spr h,
      show codes (" ? " : Str) = [32, 63, 32] by decide +kernel, show codes (" : " : Str) = [32, 58, 32] by decide +kernel]
    show (((([] ++ _) ++ _) ++ _) ++ _) ++ _ = spr (parP f.lev 1 (bareP f)) 0 ++ ([32] ++ ([63] ++ (32 :: spr (bareP g) 0 ++ ([32] ++ ([58] ++ 32 :: spr (bareP h) 0)))))
    simp only [List.nil_append, List.append_assoc, List.cons_append]
  | .put x f g => by
    rw [bareS, bareP, spr, spr, spr_app, spr_bump (bareP_ne f), spr, spr_bump (bareP_ne g), codes_app, codes_app, codes_app, codes_app, codes_app, bare_spr f, bare_spr g,
      show codes (" := " : Str) = [32, 58, 61, 32] by decide +kernel, show codes (" in " : Str) = [32, 105, 110, 32] by decide +kernel, show codes ("in" : Str) = [105, 110] by decide +kernel]
    show (((([] ++ _) ++ _) ++ _) ++ _) ++ _ = [] ++ (codes x ++ ([32] ++ ([58, 61] ++ (32 :: spr (bareP f) 0 ++ ([32] ++ ([105, 110] ++ 32 :: spr (bareP g) 0))))))
    simp only [List.nil_append, List.append_assoc, List.cons_append]
  | .som x f => by
    have e := bin_spr (a := "some") (s := x) (c := codes x) (ps := [(0, codes "some")]) rfl (by show codes "some" = [] ++ (codes "some" ++ []); rw [List.append_nil, List.nil_append]) (bare_spr f) (bareP_ne f)
    exact e
  | .all x f => by
    have e := bin_spr (a := "all") (s := x) (c := codes x) (ps := [(0, codes "all")]) rfl (by show codes "all" = [] ++ (codes "all" ++ []); rw [List.append_nil, List.nil_append]) (bare_spr f) (bareP_ne f)
    exact e
/-! the words -/
abbrev wdsP (ps : List (Nat × List Nat)) : List Str := ps.map fun p => strOf p.2
theorem wds_bump : ∀ ps : List (Nat × List Nat), wdsP (bump ps) = wdsP ps
  | [] => rfl
  | _ :: _ => rfl
theorem wds_app (a b : List (Nat × List Nat)) : wdsP (a ++ b) = wdsP a ++ wdsP b := List.map_append
theorem wds_par {f : Fo Str} {n : Nat} (h : wdsP (bareP f) = bareW f) : wdsP (parP f.lev n (bareP f)) = toldW f n := by
  unfold parP
  rw [toldW]
  split
  · show ("(" : Str) :: wdsP (bareP f ++ [(0, [41])]) = _
    rw [wds_app, h]
    rfl
  · exact h
theorem wds_bare : ∀ f : Fo Str, wdsP (bareP f) = bareW f
  | .yes => by rw [bareW]; rfl
  | .no => by rw [bareW]; rfl
  | .nam x => by rw [bareW]; rfl
  | .neg f => by
    rw [bareW, ← wds_par (wds_bare f)]
    rfl
  | .con f g => by
    rw [bareW, bareP, wds_app, wds_par (wds_bare f)]
    show toldW f 3 ++ (("&" : Str) :: wdsP (bump (parP g.lev 4 (bareP g)))) = _
    rw [wds_bump, wds_par (wds_bare g)]
  | .dis f g => by
    rw [bareW, bareP, wds_app, wds_par (wds_bare f)]
    show toldW f 1 ++ (("|" : Str) :: wdsP (bump (parP g.lev 2 (bareP g)))) = _
    rw [wds_bump, wds_par (wds_bare g)]
  | .xor f g => by
    rw [bareW, bareP, wds_app, wds_par (wds_bare f)]
    show toldW f 2 ++ (("^" : Str) :: wdsP (bump (parP g.lev 3 (bareP g)))) = _
    rw [wds_bump, wds_par (wds_bare g)]
  | .ite f g h => by
    rw [bareW, bareP, wds_app, wds_par (wds_bare f)]
    show toldW f 1 ++ (("?" : Str) :: wdsP (bump (bareP g) ++ (1, [58]) :: bump (bareP h))) = _
    rw [wds_app, wds_bump, wds_bare g]
    show toldW f 1 ++ (("?" : Str) :: (bareW g ++ (":" : Str) :: wdsP (bump (bareP h)))) = _
    rw [wds_bump, wds_bare h]
  | .put x f g => by
    rw [bareW, bareP]
    show x :: (":=" : Str) :: wdsP (bump (bareP f) ++ (1, codes "in") :: bump (bareP g)) = _
    rw [wds_app, wds_bump, wds_bare f]
    show x :: (":=" : Str) :: (bareW f ++ ("in" : Str) :: wdsP (bump (bareP g))) = _
    rw [wds_bump, wds_bare g]
  | .som x f => by
    rw [bareW, bareP]
    show ("some" : Str) :: x :: wdsP (bump (bareP f)) = _
    rw [wds_bump, wds_bare f]
  | .all x f => by
    rw [bareW, bareP]
    show ("all" : Str) :: x :: wdsP (bump (bareP f)) = _
    rw [wds_bump, wds_bare f]
/-! set apart -/
theorem apart_app {b : Nat} {w : List Nat} {r : List (Nat × List Nat)} (hb : 1 ≤ b ∨ lets w = false) (hr : apart (lets w) r) : ∀ {l : Bool} {ps : List (Nat × List Nat)}, apart l ps → apart l (ps ++ (b, w) :: r)
  | l, [], _ => And.intro (fun _ h => hb.elim id fun hb => by
      rw [hb] at h
      cases h) hr
  | l, (c, v) :: ps, h => ⟨h.1, apart_app hb hr h.2⟩
theorem apart_bump {l : Bool} {ps : List (Nat × List Nat)} (h : apart false ps) : apart l (bump ps) := by
  cases ps with
  | nil => trivial
  | cons p r =>
    obtain ⟨b, w⟩ := p
    exact ⟨fun _ _ => Nat.succ_le_succ (Nat.zero_le b), h.2⟩
theorem apart_false {l : Bool} {ps : List (Nat × List Nat)} (h : apart l ps) : apart false ps := by
  cases ps with
  | nil => trivial
  | cons p r => exact ⟨fun e => (nomatch e), h.2⟩
theorem apart_par {lv n : Nat} {ps : List (Nat × List Nat)} (h : apart false ps) : apart false (parP lv n ps) := by
  unfold parP
  split
  · exact ⟨fun e => (nomatch e), apart_app (r := []) (.inr rfl) trivial h⟩
  · exact h
theorem apart_bare : ∀ f : Fo Str, apart false (bareP f)
  | .yes => ⟨fun e => (nomatch e), trivial⟩
  | .no => ⟨fun e => (nomatch e), trivial⟩
  | .nam x => ⟨fun e => (nomatch e), trivial⟩
  | .neg f => ⟨fun e => (nomatch e), apart_par (apart_bare f)⟩
  | .con f g => apart_app (.inl (Nat.le_refl _)) (apart_bump (apart_par (apart_bare g))) (apart_par (apart_bare f))
  | .dis f g => apart_app (.inl (Nat.le_refl _)) (apart_bump (apart_par (apart_bare g))) (apart_par (apart_bare f))
  | .xor f g => apart_app (.inl (Nat.le_refl _)) (apart_bump (apart_par (apart_bare g))) (apart_par (apart_bare f))
  | .ite f g h => apart_app (.inl (Nat.le_refl _)) (apart_app (.inl (Nat.le_refl _)) (apart_bump (apart_bare h)) (apart_bump (apart_bare g))) (apart_par (apart_bare f))
  | .put x f g => ⟨fun e => (nomatch e), fun _ _ => Nat.le_refl _, apart_app (.inl (Nat.le_refl _)) (apart_bump (apart_bare g)) (apart_bump (apart_bare f))⟩
  | .som x f => ⟨fun e => (nomatch e), fun _ _ => Nat.le_refl _, apart_bump (apart_bare f)⟩
  | .all x f => ⟨fun e => (nomatch e), fun _ _ => Nat.le_refl _, apart_bump (apart_bare f)⟩
/-! words of a text -/
def sgW : List Str := (["1", "0", "!", "(", ")", "&", "|", "^", "?", ":", ":="] : List String).map Str.ofString
def GW (x : Str) : Prop := x ∈ sgW ∨ isNameS x = true
theorem okS_nameT {z : Str} (h : isNameS z = true) : okS z = true := by
  obtain ⟨a, b, c⟩ := isName_low h
  exact okS_of (Nat.le_trans c (by decide)) (strOk_low a)
theorem gw_ok {x : Str} (h : GW x) : okS x = true := by
  rcases h with h | h
  · exact (show ∀ x ∈ sgW, okS x = true by decide +kernel) x h
  · exact okS_nameT h
theorem gw_wk {x : Str} (h : GW x) : WK (codes x) := by
  rcases h with h | h
  · have key : ∀ x ∈ sgW, codes x = [58, 61] ∨ ∃ c ∈ ([49, 48, 33, 40, 41, 38, 124, 94, 63, 58] : List Nat), codes x = [c] := by decide +kernel
    rcases key x h with e | ⟨c, hc, e⟩
    · rw [e]
      exact .put
    · rw [e]
      have k2 : ∀ c ∈ ([49, 48, 33, 40, 41, 38, 124, 94, 63, 58] : List Nat), isL c = false ∧ c ≠ 32 ∧ c ≠ 61 := by decide
      obtain ⟨a, b, d⟩ := k2 c hc
      exact .sign c a b d
  · unfold isNameS lowB at h
    simp only [Bool.and_eq_true, decide_eq_true_eq] at h
    refine .letters (fun e => ?_) fun c hc => ?_
    · have : x.length = (codes x).length := by simp [Str.length, codes]
      rw [e] at this
      simp only [List.length_nil] at this
      omega
    · have := h.2
      simp only [List.all_eq_true] at this
      have := this c hc
      unfold isL
      simpa using this
mutual
theorem gw_bare : ∀ {f : Fo Str} {a : List Str}, Bare f a → f.ok → ∀ x ∈ a, GW x
  | _, _, .yes, _, x, h => .inl (by rw [List.mem_singleton.mp h]; decide +kernel)
  | _, _, .no, _, x, h => .inl (by rw [List.mem_singleton.mp h]; decide +kernel)
  | _, _, .nam y, ho, x, h => .inr (ho x (by rw [List.mem_singleton.mp h]; exact List.mem_singleton.mpr rfl))
  | _, _, .neg h1, ho, x, h => by
    rcases List.mem_cons.mp h with rfl | h
    · exact .inl (by decide +kernel)
    · exact gw_told h1 (fo_ok_kid ho List.mem_cons_self) x h
  | _, _, .con h1 h2, ho, x, h => by
    rcases List.mem_append.mp h with h | h
    · exact gw_told h1 (fo_ok_kid ho List.mem_cons_self) x h
    · rcases List.mem_cons.mp h with rfl | h
      · exact .inl (by decide +kernel)
      · exact gw_told h2 (fo_ok_kid ho (List.mem_cons_of_mem _ List.mem_cons_self)) x h
  | _, _, .xor h1 h2, ho, x, h => by
    rcases List.mem_append.mp h with h | h
    · exact gw_told h1 (fo_ok_kid ho List.mem_cons_self) x h
    · rcases List.mem_cons.mp h with rfl | h
      · exact .inl (by decide +kernel)
      · exact gw_told h2 (fo_ok_kid ho (List.mem_cons_of_mem _ List.mem_cons_self)) x h
  | _, _, .dis h1 h2, ho, x, h => by
    rcases List.mem_append.mp h with h | h
    · exact gw_told h1 (fo_ok_kid ho List.mem_cons_self) x h
    · rcases List.mem_cons.mp h with rfl | h
      · exact .inl (by decide +kernel)
      · exact gw_told h2 (fo_ok_kid ho (List.mem_cons_of_mem _ List.mem_cons_self)) x h
  | _, _, .ite h1 h2 h3, ho, x, h => by
    rcases List.mem_append.mp h with h | h
    · exact gw_told h1 (fo_ok_kid ho List.mem_cons_self) x h
    · rcases List.mem_cons.mp h with rfl | h
      · exact .inl (by decide +kernel)
      · rcases List.mem_append.mp h with h | h
        · exact gw_told h2 (fo_ok_kid ho (List.mem_cons_of_mem _ List.mem_cons_self)) x h
        · rcases List.mem_cons.mp h with rfl | h
          · exact .inl (by decide +kernel)
          · exact gw_told h3 (fo_ok_kid ho (List.mem_cons_of_mem _ (List.mem_cons_of_mem _ List.mem_cons_self))) x h
  | _, _, .put h1 h2, ho, x, h => by
    rcases List.mem_cons.mp h with rfl | h
    · exact .inr (ho _ List.mem_cons_self)
    · rcases List.mem_cons.mp h with rfl | h
      · exact .inl (by decide +kernel)
      · rcases List.mem_append.mp h with h | h
        · exact gw_told h1 (fo_ok_kid ho List.mem_cons_self) x h
        · rcases List.mem_cons.mp h with rfl | h
          · exact .inr (by decide +kernel)
          · exact gw_told h2 (fo_ok_kid ho (List.mem_cons_of_mem _ List.mem_cons_self)) x h
  | _, _, .som h1, ho, x, h => by
    rcases List.mem_cons.mp h with rfl | h
    · exact .inr (by decide +kernel)
    · rcases List.mem_cons.mp h with rfl | h
      · exact .inr (ho _ List.mem_cons_self)
      · exact gw_told h1 (fo_ok_kid ho List.mem_cons_self) x h
  | _, _, .all h1, ho, x, h => by
    rcases List.mem_cons.mp h with rfl | h
    · exact .inr (by decide +kernel)
    · rcases List.mem_cons.mp h with rfl | h
      · exact .inr (ho _ List.mem_cons_self)
      · exact gw_told h1 (fo_ok_kid ho List.mem_cons_self) x h
theorem gw_told : ∀ {f : Fo Str} {n : Nat} {a : List Str}, Tld f n a → f.ok → ∀ x ∈ a, GW x
  | _, _, _, .bare h1 _, ho, x, h => gw_bare h1 ho x h
  | _, _, _, .par h1, ho, x, h => by
    rcases List.mem_cons.mp h with rfl | h
    · exact .inl (by decide +kernel)
    · rcases List.mem_append.mp h with h | h
      · exact gw_told h1 ho x h
      · rw [List.mem_singleton.mp h]
        exact .inl (by decide +kernel)
end
/-- a text of words set apart is cut into these, and is read -/
theorem read_spr {f : Fo Str} {z : Str} {ws : List Str} {ps : List (Nat × List Nat)} {t : Nat} (ho : f.ok) (nm : ∀ x ∈ f.nms, textN x = true) (ht : Tld f 0 ws) (hop : opens ws ≤ 120) (hz : codes z = spr ps t) (hw : wdsP ps = ws) (ha : apart false ps) :
    (∀ w ∈ tok z.cps.toList, okS (strOf w) = true) ∧ ∃ st, reads begun0 ((tok z.cps.toList).map strOf) = some st ∧ ended st = some f := by
  have hk : ∀ p ∈ ps, WK p.2 := fun p hp => by
    have m : strOf p.2 ∈ ws := by
      rw [← hw]
      exact List.mem_map.mpr ⟨p, hp, rfl⟩
    exact gw_wk (gw_told ht ho _ m)
  have e : tok z.cps.toList = ps.map Prod.snd := by
    rw [show z.cps.toList = spr ps t from hz]
    exact tok_spr hk ha
  have e2 : (tok z.cps.toList).map strOf = ws := by
    rw [e, List.map_map, ← hw]
    rfl
  refine ⟨fun w hw' => ?_, ?_⟩
  · have m : strOf w ∈ ws := by
      rw [← e2]
      exact List.mem_map.mpr ⟨w, hw', rfl⟩
    exact gw_ok (gw_told ht ho _ m)
  · rw [e2]
    exact read_all ht nm hop
theorem opens_few {f : Fo Str} (nm : ∀ x ∈ f.nms, textN x = true) (hs : f.sz ≤ 60) : opens (bareW f) ≤ 89 := by
  have h := opens_bare f nm
  split at h <;> omega
theorem read_plain {f : Fo Str} (ho : f.ok) (nm : ∀ x ∈ f.nms, textN x = true) (hs : f.sz ≤ 60) :
    (bareS f).length ≤ 1200 ∧ (∀ w ∈ tok (bareS f).cps.toList, okS (strOf w) = true) ∧ ∃ st, reads begun0 ((tok (bareS f).cps.toList).map strOf) = some st ∧ ended st = some f := by
  have h1 := bare_len f ho
  have h2 := opens_few nm hs
  exact ⟨by omega, read_spr ho nm (.bare (bare_of f) (Nat.zero_le _)) (by omega) (bare_spr f) (wds_bare f) (apart_bare f)⟩
/-- unlike trees have unlike texts -/
theorem bareS_inj {f g : Fo Str} (hf : f.ok) (hg : g.ok) (nf : ∀ x ∈ f.nms, textN x = true) (ng : ∀ x ∈ g.nms, textN x = true) (sf : f.sz ≤ 60) (sg : g.sz ≤ 60) (e : bareS f = bareS g) : f = g := by
  obtain ⟨_, _, s1, r1, e1⟩ := read_plain hf nf sf
  obtain ⟨_, _, s2, r2, e2⟩ := read_plain hg ng sg
  rw [e, r2] at r1
  obtain rfl := Option.some.inj r1
  exact Option.some.inj (e1.symm.trans e2)
end Kn
set_option Elab.async false
set_option linter.all false
set_option maxRecDepth 100000
set_option maxHeartbeats 4000000
set_option pp.maxSteps 1200
namespace Kn
open PySem L2 TL PySem.Spec PyProof.Rows
/-! ### _law_told: a tree told with more brackets -/
def Keep3 (s l b : Addr) (H H' : Hp) : Prop := ∀ a o, a ≠ s → a ≠ l → a ≠ b → H a = some o → H' a = some o
/-- the draws, and a box of how many brackets may be put still -/
structure BxOk (K : PySem.W.Frag) (H : Hp) (s c l b : Addr) (k : Nat) : Prop where
  st : StOk K H s c l
  bs : b ≠ s
  bl : b ≠ l
  bx : H b = some (.dK [(.inr "left", .int (k : Nat))])
section
variable {K : PySem.W.Frag} {s c l b : Addr} {H H' H0 H1 : Hp} {k : Nat}
theorem Keep3.refl : Keep3 s l b H H := fun _ _ _ _ _ h => h
theorem Keep3.trans (a : Keep3 s l b H H0) (e : Keep3 s l b H0 H1) : Keep3 s l b H H1 := fun x o h1 h2 h3 h => e x o h1 h2 h3 (a x o h1 h2 h3 h)
theorem Keep3.of (e : Same H H') : Keep3 s l b H H' := fun x o _ _ _ h => e x o h
theorem Keep3.ofK (e : Keep s l H H') : Keep3 s l b H H' := fun x o h1 h2 _ h => e x o h1 h2 h
theorem Keep3.put {o : HO} : Keep3 s l b H (upd H b o) := fun x u _ _ h3 h => by rw [upd_ne h3]; exact h
theorem BxOk.seqT (S : BxOk K H s c l b k) (e : Keep3 s l b H H') {a : Addr} {ys : List V} (q : SqT K H a ys) : SqT K H' a ys := by
  obtain ⟨k0, ns, ls, _, hs, _, _, hl, _⟩ := S.st.ex
  rcases q with (q | ⟨o, q⟩) | q
  · exact .inl (.inl (e _ _ (ne_of q hs (by intro z; cases z)) (ne_of q hl (by intro z; cases z)) (ne_of q S.bx (by intro z; cases z)) q))
  · exact .inl (.inr ⟨o, e _ _ (ne_of q hs (by intro z; cases z)) (ne_of q hl (by intro z; cases z)) (ne_of q S.bx (by intro z; cases z)) q⟩)
  · exact .inr q
theorem BxOk.tg (S : BxOk K H s c l b k) (e : Keep3 s l b H H') {s1 l1 s2 l2 : Addr} {v : V} {f : Fo Str} (h : Tg K s1 l1 H v f.d) : Tg K s2 l2 H' v f.d := h.pmono (fun _ _ q => S.seqT e q) (fo_pureT f)
theorem BxOk.same (S : BxOk K H s c l b k) (e : Same H H') : BxOk K H' s c l b k := ⟨S.st.keep e, S.bs, S.bl, e _ _ S.bx⟩
theorem BxOk.keep (S : BxOk K H s c l b k) (T : StOk K H' s c l) (e : Keep s l H H') : BxOk K H' s c l b k := ⟨T, S.bs, S.bl, e _ _ S.bs S.bl S.bx⟩
theorem BxOk.put (S : BxOk K H s c l b k) (k' : Nat) : BxOk K (upd H b (.dK [(.inr "left", .int (k' : Nat))])) s c l b k' := by
  refine ⟨?_, S.bs, S.bl, upd_same⟩
  obtain ⟨h1, h2, h3, h4, k0, ns, ls, a1, a2, a3, a4, a5, a6, a7⟩ := S.st
  have hc : SqL K (upd H b (.dK [(.inr "left", .int (k' : Nat))])) c (ns.map V.int) := by
    rcases a3 with (h | ⟨o, h⟩) | h
    · exact .inl (.inl (by rw [upd_ne (ne_of h S.bx (by intro z; cases z))]; exact h))
    · exact .inl (.inr ⟨o, by rw [upd_ne (ne_of h S.bx (by intro z; cases z))]; exact h⟩)
    · exact .inr h
  refine ⟨h1, h2, h3, fun z => ?_, k0, ns, ls, a1, by rw [upd_ne (Ne.symm S.bs)]; exact a2, hc, a4, by rw [upd_ne (Ne.symm S.bl)]; exact a5, a6, a7⟩
  by_cases e : c = b
  · rw [e, upd_same] at z
    cases z
  · rw [upd_ne e] at z
    exact h4 z
theorem BxOk.new (S : BxOk K H s c l b k) {p : Addr} (h : H p = none) : p ≠ s ∧ p ≠ l ∧ p ≠ b := by
  obtain ⟨k0, ns, ls, _, hs, _, _, hl, _⟩ := S.st.ex
  exact ⟨(ne_of_none hs h).symm, (ne_of_none hl h).symm, (ne_of_none S.bx h).symm⟩
/-- what evaluates to a list of at most n words, told by a relation of them and of the box -/
def EvWL (K : PySem.W.Frag) (s c l b : Addr) (n : Nat) (R : List Str → Nat → Nat → Prop) (te : TE) (σ : L2.St) (H0 : Hp) : Prop := ∀ H k, BxOk K H s c l b k → Keep3 s l b H0 H → k ≤ 8 → ∀ Q : VK,
  (∀ H' p ws k', BxOk K H' s c l b k' → Keep3 s l b H H' → p ≠ s → p ≠ l → p ≠ b → H' p = some (.lst (ws.map V.str)) → k' ≤ k → ws.length ≤ n → R ws k k' → Q (.ref p) H') → te σ H Q
variable {σ : L2.St} {te tf : TE} {n m : Nat} {R R1 R2 : List Str → Nat → Nat → Prop} {x y : Str}
theorem evl_cat (ha : EvWL K s c l b n R1 te σ H0) (hb : EvWL K s c l b m R2 tf σ H0) (hn : n + m ≤ 100000) : EvWL K s c l b (n + m) (fun ws k k' => ∃ a b' j, ws = a ++ b' ∧ R1 a k j ∧ R2 b' j k') (tOp rCat te tf) σ H0 := fun H k S kk h8 Q q =>
  ha H k S kk h8 _ fun H1 p a k1 S1 e1 n1 n2 n3 h1 l1 z1 r1 => hb H1 k1 S1 (kk.trans e1) (by omega) _ fun H2 p2 b' k2 S2 e2 m1 m2 m3 h2 l2 z2 r2 =>
    ⟨p, p2, _, _, rfl, rfl, e2 _ _ n1 n2 n3 h1, h2, by
      rw [List.length_map, List.length_map]
      have : sizeLine = 16777216 := sizeLine_eq
      omega, fun p4 hp4 => by
      have np := S2.new hp4
      refine q _ p4 (a ++ b') k2 (S2.same (same_new hp4 _)) ((e1.trans e2).trans (Keep3.of (same_new hp4 _))) np.1 np.2.1 np.2.2 ?_ (by omega) ?_ ⟨a, b', k1, rfl, r1, r2⟩
      · rw [upd_same, List.map_append]
      · rw [List.length_append]
        omega⟩
theorem evl_one (h : ∀ H k, BxOk K H s c l b k → Keep3 s l b H0 H → EvS x te σ H) : EvWL K s c l b 1 (fun ws k k' => ws = [x] ∧ k' = k) (tLst (tCons te tNil)) σ H0 := fun H k S kk h8 Q q =>
  h H k S kk H (Same.refl H) _ fun H1 e1 => ⟨few_size (by show 1 ≤ 1000; decide), fun p hp => by
    have S1 := S.same e1
    have np := S1.new hp
    exact q _ p [x] k (S1.same (same_new hp _)) (Keep3.of (e1.trans (same_new hp _))) np.1 np.2.1 np.2.2 upd_same (Nat.le_refl _) (Nat.le_refl _) ⟨rfl, rfl⟩⟩
theorem evl_two (h : ∀ H k, BxOk K H s c l b k → Keep3 s l b H0 H → EvS x te σ H) (h2 : ∀ H k, BxOk K H s c l b k → Keep3 s l b H0 H → EvS y tf σ H) : EvWL K s c l b 2 (fun ws k k' => ws = [x, y] ∧ k' = k) (tLst (tCons te (tCons tf tNil))) σ H0 := fun H k S kk h8 Q q =>
  h H k S kk H (Same.refl H) _ fun H1 e1 => h2 H1 k (S.same e1) (kk.trans (Keep3.of e1)) H1 (Same.refl H1) _ fun H2 e2 => ⟨few_size (by show 2 ≤ 1000; decide), fun p hp => by
    have S1 := (S.same e1).same e2
    have np := S1.new hp
    exact q _ p [x, y] k (S1.same (same_new hp _)) (Keep3.of ((e1.trans e2).trans (same_new hp _))) np.1 np.2.1 np.2.2 upd_same (Nat.le_refl _) (Nat.le_refl _) ⟨rfl, rfl⟩⟩
theorem evl_var {i : Nat} {p : Addr} {ws : List Str} (h : σ[i]? = some (some (.ref p))) (n1 : p ≠ s) (n2 : p ≠ l) (n3 : p ≠ b) (hp : H0 p = some (.lst (ws.map V.str))) (hn : ws.length ≤ n) : EvWL K s c l b n (fun w2 k k' => w2 = ws ∧ k' = k) (tVar i) σ H0 := fun H k S kk h8 Q q =>
  ⟨_, h, q H p ws k S Keep3.refl n1 n2 n3 (kk _ _ n1 n2 n3 hp) (Nat.le_refl _) hn ⟨rfl, rfl⟩⟩
end
/-! how many openers -/
theorem opens_told_eq (f : Fo Str) (n : Nat) : opens (toldW f n) = (if f.lev < n then 1 else 0) + opens (bareW f) := by
  rw [toldW]
  split
  · rw [opens_open (by decide +kernel), opens_app]
    show opens (bareW f) + 0 + 1 = _
    omega
  · omega
theorem reps_wrap {f : Fo Str} {a : List Str} (h : Bare f a) : ∀ (m : Nat) {n : Nat}, (1 ≤ m ∨ n ≤ f.lev) → Tld f n (List.replicate m ("(" : Str) ++ a ++ List.replicate m (")" : Str))
  | 0, n, hn => by
    rw [List.replicate_zero, List.replicate_zero, List.nil_append, List.append_nil]
    exact .bare h (hn.elim (fun z => absurd z (by decide)) id)
  | m + 1, n, _ => by
    have e : List.replicate (m + 1) ("(" : Str) ++ a ++ List.replicate (m + 1) (")" : Str) = ("(" : Str) :: ((List.replicate m ("(" : Str) ++ a ++ List.replicate m (")" : Str)) ++ [(")" : Str)]) := by
      rw [List.replicate_succ, List.replicate_succ']
      simp only [List.cons_append, List.append_assoc]
    rw [e]
    exact .par (reps_wrap h m (.inr (Nat.zero_le _)))
theorem reps_opens (m : Nat) (a : List Str) : opens (List.replicate m ("(" : Str) ++ a ++ List.replicate m (")" : Str)) = m + opens a := by
  rw [opens_app, opens_app]
  have h1 : opens (List.replicate m ("(" : Str)) = m := by
    induction m with
    | zero => rfl
    | succ m ih => rw [List.replicate_succ, opens_open (by decide +kernel), ih]
  have h2 : opens (List.replicate m (")" : Str)) = 0 := by
    clear h1
    induction m with
    | zero => rfl
    | succ m ih => rw [List.replicate_succ, opens_plain (by decide +kernel), ih]
  rw [h1, h2]
  rfl
def RT (f : Fo Str) (n : Nat) (ws : List Str) (k k' : Nat) : Prop := Tld f n ws ∧ opens ws + k' ≤ opens (toldW f n) + k
def RB (f : Fo Str) (ws : List Str) (k k' : Nat) : Prop := Bare f ws ∧ opens ws + k' ≤ opens (bareW f) + k
end Kn
set_option Elab.async false
set_option linter.all false
set_option maxRecDepth 100000
set_option maxHeartbeats 4000000
set_option pp.maxSteps 1200
namespace Kn
open PySem L2 TL PySem.Spec PyProof.Rows
def sgn3 : List (Str × V) := [("and", .str "&"), ("xor", .str "^"), ("or", .str "|")]
theorem evs_sign {σ : L2.St} {H0 : Hp} {i : Nat} {w z : Str} (h : σ[i]? = some (some (.str w))) (e : sgn3.lookup w = some (.str z)) : EvS z (tDGet (tDisp [(tC (.str "and"), tC (.str "&")), (tC (.str "xor"), tC (.str "^")), (tC (.str "or"), tC (.str "|"))]) (tVar i)) σ H0 := fun H _ Q q => by
  refine fun pg hpg => ⟨upd_same, tabK sgn3, rfl, (by show 3 ≤ 15; decide), ?_⟩
  have ek : mergeK [] (tabK sgn3) = tabK sgn3 := mergeK_nd (by decide +kernel)
  rw [ek]
  have dg := DGet.k (k := .inr w) (show (upd (upd H pg (.dK [])) pg (.dK (tabK sgn3))) pg = some (.dK (tabK sgn3)) from upd_same)
  rw [valV_tab, e] at dg
  exact ⟨_, h, pg, .str z, rfl, dg, q _ (same_mut hpg (same_new hpg _))⟩
abbrev sLTold : Stmt := top 61
abbrev nLTold : List Str := ["state", "formula", "level", "box", "levels", "word", "own", "found", "more"]
def spLTold (K : PySem.W.Frag) (n : Nat) : Sp := fun vs H Q _ => ∃ (s c l b : Addr) (v : V) (f : Fo Str) (lv k : Nat), vs = [.ref s, v, .int (lv : Nat), .ref b] ∧ BxOk K H s c l b k ∧ Tg K 0 0 H v f.d ∧ f.ok ∧ f.hgt < n ∧ f.sz ≤ 100 ∧ lv ≤ 4 ∧ k ≤ 8 ∧
  ∀ (H' : Hp) (p : Addr) (ws : List Str) (k' : Nat), BxOk K H' s c l b k' → Keep3 s l b H H' → p ≠ s → p ≠ l → p ≠ b → H' p = some (.lst (ws.map V.str)) → k' ≤ k → ws.length ≤ 10 * f.sz → RT f lv ws k k' → Q (.ref p) H'
section
variable {P : Program} {w : World} {K : PySem.W.Frag} {mg : Str → Option Value} {base : Heap}
theorem scLTold : FnScope nLTold ["state", "formula", "level", "box"] (defScope sLTold) := ⟨rfl, rfl, rfl, by decide +kernel, rfl, by decide +kernel, by decide +kernel⟩
theorem step_ltold {n : Nat} {f : Addr} {fd : FuncData} (F : Fun K "_law_told" "_law_told" sLTold f fd) (bG : Binds K fd ["state", "formula", "level", "box"] []) (mG : mg "_law_told" = some (.ref f)) (DR : Def P w K mg base CX0 "_law_draw" 2 ["state", "many"] (spDraw K)) (mn : mg "int" = none)
    (G : FnOk P w K mg base CX0 (n + 2) f fd ["state", "formula", "level", "box"] (spLTold K n)) : FnOk P w K mg base CX0 (n + 3) f fd ["state", "formula", "level", "box"] (spLTold K (n + 1)) := by
  refine F.ok scLTold (fun vs H Q E h => ?_) (fun cdv A outer s H vs Q E hr h => ?_)
  · obtain ⟨s, c, l, b, v, f, lv, k, rfl, _⟩ := h
    rfl
  obtain ⟨s, c, l, b, v, fo, lv, k, rfl, S, hv, ho, hh, hs, h4, h8, q⟩ := h
  have hu := hu_of hr
  have hr2 : Room 2 _ := hr.mono (by omega)
  refine ⟨_, (pss_cons (ps_set (i := 4) scLTold.nd rfl (Or.inl rfl) (pe_disp (pps_cons pe_str pe_int (pps_cons pe_str pe_int (pps_cons pe_str pe_int (pps_cons pe_str pe_int (pps_cons pe_str pe_int (pps_cons pe_str pe_int (pps_cons pe_str pe_int (pps_cons pe_str pe_int pps_nil)))))))) (by rfl) (by rfl) (fun z => by cases z) (by decide)))
    (pss_cons (ps_par (i := 5) (j := 6) (by rfl) scLTold.nd rfl rfl (by decide) rfl rfl (pa_cons (pe_ix ix_tup (pv 1) pe_int (fun _ _ => rfl)) (pa_cons (pe_dget2 hu (pv 4) (pe_ix ix_tup (pv 1) pe_int (fun _ _ => rfl)) pe_int ⟨rfl, rfl, rfl, rfl⟩) pa_nil)) (by rfl))
    (Evl.pss_cut (ps_if (pt_cmpR op_in_seq (pv 5) (pe_tup (pa_cons pe_str (pa_cons pe_str (pa_cons pe_str pa_nil)))) (by rfl)) (pss_one (ps_set (i := 7) scLTold.nd rfl (Or.inl rfl) (pe_lst (pa_cons (pe_dget2 hu (pe_disp (pps_cons pe_str pe_str (pps_cons pe_str pe_str pps_nil)) (by rfl) (by rfl) (fun z => by cases z) (by decide)) (pv 5) (pe_ix ix_tup (pv 1) (pe_un un_neg pe_int) (fun _ _ => rfl)) ⟨rfl, rfl, rfl, rfl⟩) pa_nil)))) (pss_one (ps_if (pt_cmpR op_eq (pv 5) pe_str (nomark _)) (pss_one (ps_set (i := 7) scLTold.nd rfl (Or.inl rfl) (pe_op op_cat (pe_lst (pa_cons pe_str pa_nil)) (pe_call G hr rfl mG F.kp bG .nil pass0 (pa_cons (pv 0) (pa_cons (pe_ix ix_tup (pv 1) pe_int (fun _ _ => rfl)) (pa_cons pe_int (pa_cons (pv 3) pa_nil)))))))) (pss_one (ps_if (pt_cmpR op_eq (pv 5) pe_str (nomark _)) (pss_cons (ps_set (i := 7) scLTold.nd rfl (Or.inl rfl) (pe_op op_cat (pe_op op_cat (pe_call G hr rfl mG F.kp bG .nil pass0 (pa_cons (pv 0) (pa_cons (pe_ix ix_tup (pv 1) pe_int (fun _ _ => rfl)) (pa_cons pe_int (pa_cons (pv 3) pa_nil))))) (pe_lst (pa_cons pe_str pa_nil))) (pe_call G hr rfl mG F.kp bG .nil pass0 (pa_cons (pv 0) (pa_cons (pe_ix ix_tup (pv 1) pe_int (fun _ _ => rfl)) (pa_cons pe_int (pa_cons (pv 3) pa_nil)))))))
    (pss_one (ps_set (i := 7) scLTold.nd rfl (Or.inl rfl) (pe_op op_cat (pe_op op_cat (pv 7) (pe_lst (pa_cons pe_str pa_nil))) (pe_call G hr rfl mG F.kp bG .nil pass0 (pa_cons (pv 0) (pa_cons (pe_ix ix_tup (pv 1) pe_int (fun _ _ => rfl)) (pa_cons pe_int (pa_cons (pv 3) pa_nil))))))))) (pss_one (ps_if (pt_cmpR op_eq (pv 5) pe_str (nomark _)) (pss_cons (ps_set (i := 7) scLTold.nd rfl (Or.inl rfl) (pe_op op_cat (pe_lst (pa_cons (pe_ix ix_tup (pv 1) pe_int (fun _ _ => rfl)) (pa_cons pe_str pa_nil))) (pe_call G hr rfl mG F.kp bG .nil pass0 (pa_cons (pv 0) (pa_cons (pe_ix ix_tup (pv 1) pe_int (fun _ _ => rfl)) (pa_cons pe_int (pa_cons (pv 3) pa_nil)))))))
    (pss_one (ps_set (i := 7) scLTold.nd rfl (Or.inl rfl) (pe_op op_cat (pe_op op_cat (pv 7) (pe_lst (pa_cons pe_str pa_nil))) (pe_call G hr rfl mG F.kp bG .nil pass0 (pa_cons (pv 0) (pa_cons (pe_ix ix_tup (pv 1) pe_int (fun _ _ => rfl)) (pa_cons pe_int (pa_cons (pv 3) pa_nil))))))))) (pss_one (ps_if (pt_cmpR op_in_seq (pv 5) (pe_tup (pa_cons pe_str (pa_cons pe_str pa_nil))) (by rfl)) (pss_one (ps_set (i := 7) scLTold.nd rfl (Or.inl rfl) (pe_op op_cat (pe_lst (pa_cons (pv 5) (pa_cons (pe_ix ix_tup (pv 1) pe_int (fun _ _ => rfl)) pa_nil))) (pe_call G hr rfl mG F.kp bG .nil pass0 (pa_cons (pv 0) (pa_cons (pe_ix ix_tup (pv 1) pe_int (fun _ _ => rfl)) (pa_cons pe_int (pa_cons (pv 3) pa_nil)))))))) (pss_cons (ps_set (i := 7) scLTold.nd rfl (Or.inl rfl) (pe_op op_cat (pe_call G hr rfl mG F.kp bG .nil pass0 (pa_cons (pv 0) (pa_cons (pe_ix ix_tup (pv 1) pe_int (fun _ _ => rfl)) (pa_cons (pv 6) (pa_cons (pv 3) pa_nil))))) (pe_lst (pa_cons (pe_dget hu (pe_disp (pps_cons pe_str pe_str (pps_cons pe_str pe_str (pps_cons pe_str pe_str pps_nil))) (by rfl) (by rfl) (fun z => by cases z) (by decide)) (pv 5) (fun _ _ => rfl)) pa_nil))))
    (pss_one (ps_set (i := 7) scLTold.nd rfl (Or.inl rfl) (pe_op op_cat (pv 7) (pe_call G hr rfl mG F.kp bG .nil pass0 (pa_cons (pv 0) (pa_cons (pe_ix ix_tup (pv 1) pe_int (fun _ _ => rfl)) (pa_cons (pe_op op_add (pv 6) pe_int) (pa_cons (pv 3) pa_nil))))))))))))))))))
    (Evl.pss_cut (ps_set (i := 8) scLTold.nd rfl (Or.inl rfl) (pe_ifExp (pt_cmpR op_gt (pe_dget hu (pv 3) pe_str (fun _ _ => rfl)) pe_int (nomark _)) (pe_ix ix_list (pe_lst (pa_cons pe_int (pa_cons pe_int (pa_cons pe_int (pa_cons pe_int pa_nil))))) (pe_def DR hr2 rfl (pa_cons (pv 0) (pa_cons pe_int pa_nil))) (fun _ _ => rfl)) pe_int))
    (pss_cons (ps_dput hu (pv 3) pe_str (pe_op op_sub (pe_dget hu (pv 3) pe_str (fun _ _ => rfl)) (pv 8)) rfl)
    (pss_cons (ps_set (i := 8) scLTold.nd rfl (Or.inl rfl) (pe_op op_add (pv 8) (pe_callTy call_int1 (by rfl) mn (by decide +kernel) (pa_cons (pe_cmpR op_lt (pv 6) (pv 2) (nomark _)) pa_nil))))
    (pss_one (ps_ret (pe_op op_cat (pe_op op_cat (pe_op op_rep (pe_lst (pa_cons pe_str pa_nil)) (pv 8)) (pv 7)) (pe_op op_rep (pe_lst (pa_cons pe_str pa_nil)) (pv 8))))))))))), ?_⟩
  have z : sizeLine = 16777216 := sizeLine_eq
  -- levels, word, own
  refine fun pg hpg => ⟨upd_same, tabK lawLev, rfl, (by show 8 ≤ 15; decide), ?_⟩
  have ek : mergeK [] (tabK lawLev) = tabK lawLev := mergeK_nd (by decide +kernel)
  rw [ek]
  have s1 : Same H (upd (upd H pg (.dK [])) pg (.dK (tabK lawLev))) := same_mut hpg (same_new hpg _)
  have d1 : (upd (upd H pg (.dK [])) pg (.dK (tabK lawLev))) pg = some (.dK (tabK lawLev)) := upd_same
  generalize upd (upd H pg (.dK [])) pg (.dK (tabK lawLev)) = H1 at s1 d1 ⊢
  obtain ⟨a, xs, rfl, ha⟩ := fo_head hv
  refine ⟨_, rfl, a, _, _, _, rfl, rfl, Same.seqT s1 ha, atI_nat (j := 0) rfl, _, rfl, pg, rfl, .inl ⟨_, .inl d1⟩, _, rfl, a, _, _, _, rfl, rfl, Same.seqT s1 ha, atI_nat (j := 0) rfl, _, DGet.k (k := .inr fo.wd) d1, _, _, rfl, ?_⟩
  rw [valV_tab, lev_wd]
  refine ⟨fun σ' H' => ∃ (x4 : Option V) (p : Addr) (ws : List Str) (k1 : Nat), σ' = [some (.ref s), some (.ref a), some (.int (lv : Nat)), some (.ref b), x4, some (.str fo.wd), some (.int (ownL fo : Nat)), some (.ref p), none] ∧ BxOk K H' s c l b k1 ∧ Keep3 s l b H H' ∧
    p ≠ s ∧ p ≠ l ∧ p ≠ b ∧ H' p = some (.lst (ws.map V.str)) ∧ k1 ≤ k ∧ ws.length ≤ 10 * fo.sz - 6 ∧ RB fo ws k k1, ?_, ?_⟩
  · -- the words
    have kid : ∀ {g : Fo Str}, g ∈ fo.kd → g.ok ∧ g.hgt < n ∧ g.sz ≤ 100 := fun {g} m => by
      refine ⟨fo_ok_kid ho m, by have := (fo_kid m).1; omega, ?_⟩
      have h1 := fo_sz fo
      have h2 : ∀ (ks : List (Fo Str)), g ∈ ks → g.sz ≤ (ks.map Fo.sz).sum := fun ks => by
        induction ks with
        | nil => exact fun h => nomatch h
        | cons a r ih =>
          intro h
          rw [List.map_cons, List.sum_cons]
          rcases List.mem_cons.mp h with rfl | h
          · omega
          · have := ih h
            omega
      have := h2 _ m
      omega
    have m1 : ∀ {x : Fo Str} {r : List (Fo Str)}, x ∈ x :: r := List.mem_cons_self
    have m2 : ∀ {x y : Fo Str} {r : List (Fo Str)}, y ∈ x :: y :: r := List.mem_cons_of_mem _ List.mem_cons_self
    have m3 : ∀ {x y u : Fo Str} {r : List (Fo Str)}, u ∈ x :: y :: u :: r := List.mem_cons_of_mem _ (List.mem_cons_of_mem _ List.mem_cons_self)
    have eT : ∀ {σ : L2.St} {H0 : Hp} {j lv : Nat} {xs : List V} {y : V} {g : Fo Str} {tl : TE} {k0 : Nat}, σ[0]? = some (some (.ref s)) → σ[1]? = some (some (.ref a)) → σ[3]? = some (some (.ref b)) → BxOk K H0 s c l b k0 → SqT K H0 a xs → xs[j]? = some y → Tg K 0 0 H0 y g.d → g ∈ fo.kd → lv ≤ 4 → (∀ H Q, Q (.int (lv : Nat)) H → tl σ H Q) →
        EvWL K s c l b (10 * g.sz) (RT g lv) (tCall (spLTold K n) [] E0 (tCons (tVar 0) (tCons (tOp (rIxT K) (tVar 1) (tC (.int (j : Int)))) (tCons tl (tCons (tVar 3) tNil))))) σ H0 :=
      fun h0 h1 h3 S0 ha hj hy hk h4 ht H k S kk h8 Q q => ⟨_, h0, _, h1, a, _, _, _, rfl, rfl, S0.seqT kk ha, atI_nat hj, ht _ _ ⟨_, h3, s, c, l, b, _, _, _, k, rfl, S, S0.tg kk hy, (kid hk).1, (kid hk).2.1, (kid hk).2.2, h4, h8, fun H' p ws k' S' K' n1 n2 n3 hp hk' hl r => q H' p ws k' S' K' n1 n2 n3 hp hk' hl r⟩⟩
    cases fo with
    | yes =>
      refine ⟨_, rfl, (by show 3 ≤ sizeLine; decide), fun t1 ht1 => ⟨t1, _, rfl, .inr (SqT.of upd_same), rfl, rfl, _, rfl, ?_⟩⟩
      have s3 := s1.trans (same_new ht1 (.tup [.str "yes", .str "no", .str "name"]))
      generalize upd H1 t1 (.tup [.str "yes", .str "no", .str "name"]) = H3 at s3 ⊢
      refine inTt (x := "yes") (ws := a3t) (by decide +kernel) ?_
      have S3 := S.same s3
      have hv3 := hv.same s3
      obtain ⟨a', ea, ha3⟩ := tg_0 hv3
      cases ea
      refine asg_of (evl_one (K := K) (s := s) (c := c) (l := l) (b := b) (H0 := H3) (x := "1") (fun H5 k5 S5 K5 H6 e6 Q q => ?_) H3 k S3 Keep3.refl h8 _ fun H' p ws k' S' K' n1 n2 n3 hp hk hl r => ?_)
      · have S6 := S5.same e6
        refine fun pg hpg => ⟨upd_same, tabK yn2, rfl, (by show 2 ≤ 15; decide), ?_⟩
        have ek : mergeK [] (tabK yn2) = tabK yn2 := mergeK_nd (by decide +kernel)
        rw [ek]
        have s7 : Same H6 (upd (upd H6 pg (.dK [])) pg (.dK (tabK yn2))) := same_mut hpg (same_new hpg _)
        have d7 : (upd (upd H6 pg (.dK [])) pg (.dK (tabK yn2))) pg = some (.dK (tabK yn2)) := upd_same
        refine ⟨pg, rfl, .inl ⟨_, .inl d7⟩, _, rfl, _, rfl, _, rfl, a, _, _, _, rfl, rfl, Same.seqT s7 (Same.seqT e6 (S3.seqT K5 ha3)), (show atI (([] : List V) ++ [V.str "yes"]) (-1) = some (V.str "yes") from atI_last _ _), _, DGet.k (k := .inr "yes") d7, ?_⟩
        rw [valV_tab, show (yn2.lookup ("yes" : Str)) = some (.str "1") by decide +kernel]
        exact q _ s7
      obtain ⟨rfl, rfl⟩ := r
      exact ⟨_, p, _, _, rfl, S', (Keep3.of s3).trans K', n1, n2, n3, hp, hk, by simp only [Fo.sz]; exact Nat.le_trans hl (by decide), .yes, by rw [bareW]; exact Nat.le_refl _⟩
    | no =>
      refine ⟨_, rfl, (by show 3 ≤ sizeLine; decide), fun t1 ht1 => ⟨t1, _, rfl, .inr (SqT.of upd_same), rfl, rfl, _, rfl, ?_⟩⟩
      have s3 := s1.trans (same_new ht1 (.tup [.str "yes", .str "no", .str "name"]))
      generalize upd H1 t1 (.tup [.str "yes", .str "no", .str "name"]) = H3 at s3 ⊢
      refine inTt (x := "no") (ws := a3t) (by decide +kernel) ?_
      have S3 := S.same s3
      have hv3 := hv.same s3
      obtain ⟨a', ea, ha3⟩ := tg_0 hv3
      cases ea
      refine asg_of (evl_one (K := K) (s := s) (c := c) (l := l) (b := b) (H0 := H3) (x := "0") (fun H5 k5 S5 K5 H6 e6 Q q => ?_) H3 k S3 Keep3.refl h8 _ fun H' p ws k' S' K' n1 n2 n3 hp hk hl r => ?_)
      · have S6 := S5.same e6
        refine fun pg hpg => ⟨upd_same, tabK yn2, rfl, (by show 2 ≤ 15; decide), ?_⟩
        have ek : mergeK [] (tabK yn2) = tabK yn2 := mergeK_nd (by decide +kernel)
        rw [ek]
        have s7 : Same H6 (upd (upd H6 pg (.dK [])) pg (.dK (tabK yn2))) := same_mut hpg (same_new hpg _)
        have d7 : (upd (upd H6 pg (.dK [])) pg (.dK (tabK yn2))) pg = some (.dK (tabK yn2)) := upd_same
        refine ⟨pg, rfl, .inl ⟨_, .inl d7⟩, _, rfl, _, rfl, _, rfl, a, _, _, _, rfl, rfl, Same.seqT s7 (Same.seqT e6 (S3.seqT K5 ha3)), (show atI (([] : List V) ++ [V.str "no"]) (-1) = some (V.str "no") from atI_last _ _), _, DGet.k (k := .inr "no") d7, ?_⟩
        rw [valV_tab, show (yn2.lookup ("no" : Str)) = some (.str "0") by decide +kernel]
        exact q _ s7
      obtain ⟨rfl, rfl⟩ := r
      exact ⟨_, p, _, _, rfl, S', (Keep3.of s3).trans K', n1, n2, n3, hp, hk, by simp only [Fo.sz]; exact Nat.le_trans hl (by decide), .no, by rw [bareW]; exact Nat.le_refl _⟩
    | nam x =>
      refine ⟨_, rfl, (by show 3 ≤ sizeLine; decide), fun t1 ht1 => ⟨t1, _, rfl, .inr (SqT.of upd_same), rfl, rfl, _, rfl, ?_⟩⟩
      have s3 := s1.trans (same_new ht1 (.tup [.str "yes", .str "no", .str "name"]))
      generalize upd H1 t1 (.tup [.str "yes", .str "no", .str "name"]) = H3 at s3 ⊢
      refine inTt (x := "name") (ws := a3t) (by decide +kernel) ?_
      have S3 := S.same s3
      have hv3 := hv.same s3
      obtain ⟨a', y, ea, ha3, hy⟩ := tg_1 hv3
      cases ea
      obtain ⟨rfl, _⟩ := tg_s hy
      refine asg_of (evl_one (K := K) (s := s) (c := c) (l := l) (b := b) (H0 := H3) (x := x) (fun H5 k5 S5 K5 H6 e6 Q q => ?_) H3 k S3 Keep3.refl h8 _ fun H' p ws k' S' K' n1 n2 n3 hp hk hl r => ?_)
      · have S6 := S5.same e6
        refine fun pg hpg => ⟨upd_same, tabK yn2, rfl, (by show 2 ≤ 15; decide), ?_⟩
        have ek : mergeK [] (tabK yn2) = tabK yn2 := mergeK_nd (by decide +kernel)
        rw [ek]
        have s7 : Same H6 (upd (upd H6 pg (.dK [])) pg (.dK (tabK yn2))) := same_mut hpg (same_new hpg _)
        have d7 : (upd (upd H6 pg (.dK [])) pg (.dK (tabK yn2))) pg = some (.dK (tabK yn2)) := upd_same
        refine ⟨pg, rfl, .inl ⟨_, .inl d7⟩, _, rfl, _, rfl, _, rfl, a, _, _, _, rfl, rfl, Same.seqT s7 (Same.seqT e6 (S3.seqT K5 ha3)), (show atI ([V.str "name"] ++ [V.str x]) (-1) = some (V.str x) from atI_last _ _), _, DGet.k (k := .inr "name") d7, ?_⟩
        rw [valV_tab, show (yn2.lookup ("name" : Str)) = none by decide +kernel]
        exact q _ s7
      obtain ⟨rfl, rfl⟩ := r
      exact ⟨_, p, _, _, rfl, S', (Keep3.of s3).trans K', n1, n2, n3, hp, hk, by simp only [Fo.sz]; exact Nat.le_trans hl (by decide), .nam x, by rw [bareW]; exact Nat.le_refl _⟩
    | neg g =>
      refine ⟨_, rfl, (by show 3 ≤ sizeLine; decide), fun t1 ht1 => ⟨t1, _, rfl, .inr (SqT.of upd_same), rfl, rfl, _, rfl, ?_⟩⟩
      have s3 := s1.trans (same_new ht1 (.tup [.str "yes", .str "no", .str "name"]))
      generalize upd H1 t1 (.tup [.str "yes", .str "no", .str "name"]) = H3 at s3 ⊢
      refine inFt (x := "not") (ws := a3t) (by decide +kernel) ?_
      refine ⟨_, rfl, rfl, _, rfl, vsTt rfl ?_⟩
      have S3 := S.same s3
      have hv3 := hv.same s3
      obtain ⟨a', y, ea, ha3, hy⟩ := tg_1 hv3
      cases ea
      have e : EvWL K s c l b _ _ _ [some (.ref s), some (.ref a), some (.int (lv : Nat)), some (.ref b), some (.ref pg), some (.str "not"), some (.int (ownL (.neg g) : Nat)), none, none] H3 := evl_cat (evl_one (x := "!") (te := tC (.str "!")) (fun _ _ _ _ => evs_str)) (eT (j := 1) (lv := 4) (tl := tC (.int 4)) rfl rfl rfl S3 ha3 rfl hy m1 (by decide) (fun _ _ h => h)) (by have := (kid (g := g) m1).2.2; omega)
      refine asg_of (e H3 k S3 Keep3.refl h8 _ fun H' p ws k' S' K' n1 n2 n3 hp hk hl r => ?_)
      obtain ⟨_, a2, _, rfl, ⟨rfl, rfl⟩, t1, o1⟩ := r
      refine ⟨_, p, _, k', rfl, S', (Keep3.of s3).trans K', n1, n2, n3, hp, hk, by simp only [Fo.sz]; omega, .neg t1, ?_⟩
      rw [bareW]
      show opens (("!" : Str) :: a2) + _ ≤ opens (("!" : Str) :: toldW g 4) + _
      rw [opens_open (by decide +kernel), opens_open (by decide +kernel)]
      omega
    | con g1 g2 =>
      refine ⟨_, rfl, (by show 3 ≤ sizeLine; decide), fun t1 ht1 => ⟨t1, _, rfl, .inr (SqT.of upd_same), rfl, rfl, _, rfl, ?_⟩⟩
      have s3 := s1.trans (same_new ht1 (.tup [.str "yes", .str "no", .str "name"]))
      generalize upd H1 t1 (.tup [.str "yes", .str "no", .str "name"]) = H3 at s3 ⊢
      refine inFt (x := "and") (ws := a3t) (by decide +kernel) ?_
      refine ⟨_, rfl, rfl, _, rfl, vsFt (show ¬ ("and" : Str) = "not" by decide +kernel) ?_⟩
      refine ⟨_, rfl, rfl, _, rfl, vsFt (show ¬ ("and" : Str) = "if" by decide +kernel) ?_⟩
      refine ⟨_, rfl, rfl, _, rfl, vsFt (show ¬ ("and" : Str) = "put" by decide +kernel) ?_⟩
      refine ⟨_, rfl, (by show 2 ≤ sizeLine; decide), fun t2 ht2 => ⟨t2, _, rfl, .inr (SqT.of upd_same), rfl, rfl, _, rfl, ?_⟩⟩
      have s3 := s3.trans (same_new ht2 (.tup [.str "some", .str "all"]))
      generalize upd H3 t2 (.tup [.str "some", .str "all"]) = H4 at s3 ⊢
      refine inFt (x := "and") (ws := q2t) (by decide +kernel) ?_
      have S3 := S.same s3
      have hv3 := hv.same s3
      obtain ⟨a', x, y, ea, ha3, hx, hy⟩ := tg_2 hv3
      cases ea
      have z1 := (kid (g := g1) m1).2.2
      have z2 := (kid (g := g2) m2).2.2
      have e : EvWL K s c l b _ _ _ [some (.ref s), some (.ref a), some (.int (lv : Nat)), some (.ref b), some (.ref pg), some (.str "and"), some (.int (ownL (.con g1 g2) : Nat)), none, none] H4 := evl_cat (eT (j := 1) (lv := 3) (tl := tVar 6) rfl rfl rfl S3 ha3 rfl hx m1 (by decide) (fun _ _ h => ⟨_, rfl, h⟩)) (evl_one (x := "&") (fun _ _ _ _ => evs_sign (i := 5) (w := "and") rfl (by decide +kernel))) (by omega)
      refine seq_asg (e H4 k S3 Keep3.refl h8 _ fun H' p ws k' S' K' n1 n2 n3 hp hk hl r => ?_)
      obtain ⟨a1, _, _, rfl, ⟨t1, o1⟩, rfl, rfl⟩ := r
      have e2 : EvWL K s c l b _ _ _ [some (.ref s), some (.ref a), some (.int (lv : Nat)), some (.ref b), some (.ref pg), some (.str "and"), some (.int (ownL (.con g1 g2) : Nat)), some (.ref p), none] H' := evl_cat (evl_var (i := 7) rfl n1 n2 n3 hp (Nat.le_refl _)) (eT (j := 2) (lv := 4) (tl := tOp (rI0 fun i j => .int (i + j)) (tVar 6) (tC (.int 1))) rfl rfl rfl S' (S3.seqT K' ha3) rfl (S3.tg K' hy) m2 (by decide) (fun _ _ h => ⟨_, rfl, _, _, rfl, rfl, h⟩)) (by omega)
      refine asg_of (e2 H' _ S' Keep3.refl (by omega) _ fun H2' p2 ws2 k2 S2' K2' n1' n2' n3' hp' hk' hl' r => ?_)
      obtain ⟨_, a2, _, rfl, ⟨rfl, rfl⟩, t2, o2⟩ := r
      have el : a1 ++ [("&" : Str)] ++ a2 = a1 ++ ("&" : Str) :: a2 := by simp
      rw [el] at hp' hl'
      refine ⟨_, p2, _, k2, rfl, S2', (Keep3.of s3).trans (K'.trans K2'), n1', n2', n3', hp', by omega, by simp only [Fo.sz, List.length_append, List.length_cons, List.length_nil] at hl hl' ⊢; omega, .con t1 t2, ?_⟩
      rw [bareW, opens_app, opens_app, opens_plain (by decide +kernel), opens_plain (by decide +kernel)]
      omega
    | dis g1 g2 =>
      refine ⟨_, rfl, (by show 3 ≤ sizeLine; decide), fun t1 ht1 => ⟨t1, _, rfl, .inr (SqT.of upd_same), rfl, rfl, _, rfl, ?_⟩⟩
      have s3 := s1.trans (same_new ht1 (.tup [.str "yes", .str "no", .str "name"]))
      generalize upd H1 t1 (.tup [.str "yes", .str "no", .str "name"]) = H3 at s3 ⊢
      refine inFt (x := "or") (ws := a3t) (by decide +kernel) ?_
      refine ⟨_, rfl, rfl, _, rfl, vsFt (show ¬ ("or" : Str) = "not" by decide +kernel) ?_⟩
      refine ⟨_, rfl, rfl, _, rfl, vsFt (show ¬ ("or" : Str) = "if" by decide +kernel) ?_⟩
      refine ⟨_, rfl, rfl, _, rfl, vsFt (show ¬ ("or" : Str) = "put" by decide +kernel) ?_⟩
      refine ⟨_, rfl, (by show 2 ≤ sizeLine; decide), fun t2 ht2 => ⟨t2, _, rfl, .inr (SqT.of upd_same), rfl, rfl, _, rfl, ?_⟩⟩
      have s3 := s3.trans (same_new ht2 (.tup [.str "some", .str "all"]))
      generalize upd H3 t2 (.tup [.str "some", .str "all"]) = H4 at s3 ⊢
      refine inFt (x := "or") (ws := q2t) (by decide +kernel) ?_
      have S3 := S.same s3
      have hv3 := hv.same s3
      obtain ⟨a', x, y, ea, ha3, hx, hy⟩ := tg_2 hv3
      cases ea
      have z1 := (kid (g := g1) m1).2.2
      have z2 := (kid (g := g2) m2).2.2
      have e : EvWL K s c l b _ _ _ [some (.ref s), some (.ref a), some (.int (lv : Nat)), some (.ref b), some (.ref pg), some (.str "or"), some (.int (ownL (.dis g1 g2) : Nat)), none, none] H4 := evl_cat (eT (j := 1) (lv := 1) (tl := tVar 6) rfl rfl rfl S3 ha3 rfl hx m1 (by decide) (fun _ _ h => ⟨_, rfl, h⟩)) (evl_one (x := "|") (fun _ _ _ _ => evs_sign (i := 5) (w := "or") rfl (by decide +kernel))) (by omega)
      refine seq_asg (e H4 k S3 Keep3.refl h8 _ fun H' p ws k' S' K' n1 n2 n3 hp hk hl r => ?_)
      obtain ⟨a1, _, _, rfl, ⟨t1, o1⟩, rfl, rfl⟩ := r
      have e2 : EvWL K s c l b _ _ _ [some (.ref s), some (.ref a), some (.int (lv : Nat)), some (.ref b), some (.ref pg), some (.str "or"), some (.int (ownL (.dis g1 g2) : Nat)), some (.ref p), none] H' := evl_cat (evl_var (i := 7) rfl n1 n2 n3 hp (Nat.le_refl _)) (eT (j := 2) (lv := 2) (tl := tOp (rI0 fun i j => .int (i + j)) (tVar 6) (tC (.int 1))) rfl rfl rfl S' (S3.seqT K' ha3) rfl (S3.tg K' hy) m2 (by decide) (fun _ _ h => ⟨_, rfl, _, _, rfl, rfl, h⟩)) (by omega)
      refine asg_of (e2 H' _ S' Keep3.refl (by omega) _ fun H2' p2 ws2 k2 S2' K2' n1' n2' n3' hp' hk' hl' r => ?_)
      obtain ⟨_, a2, _, rfl, ⟨rfl, rfl⟩, t2, o2⟩ := r
      have el : a1 ++ [("|" : Str)] ++ a2 = a1 ++ ("|" : Str) :: a2 := by simp
      rw [el] at hp' hl'
      refine ⟨_, p2, _, k2, rfl, S2', (Keep3.of s3).trans (K'.trans K2'), n1', n2', n3', hp', by omega, by simp only [Fo.sz, List.length_append, List.length_cons, List.length_nil] at hl hl' ⊢; omega, .dis t1 t2, ?_⟩
      rw [bareW, opens_app, opens_app, opens_plain (by decide +kernel), opens_plain (by decide +kernel)]
      omega
    | xor g1 g2 =>
      refine ⟨_, rfl, (by show 3 ≤ sizeLine; decide), fun t1 ht1 => ⟨t1, _, rfl, .inr (SqT.of upd_same), rfl, rfl, _, rfl, ?_⟩⟩
      have s3 := s1.trans (same_new ht1 (.tup [.str "yes", .str "no", .str "name"]))
      generalize upd H1 t1 (.tup [.str "yes", .str "no", .str "name"]) = H3 at s3 ⊢
      refine inFt (x := "xor") (ws := a3t) (by decide +kernel) ?_
      refine ⟨_, rfl, rfl, _, rfl, vsFt (show ¬ ("xor" : Str) = "not" by decide +kernel) ?_⟩
      refine ⟨_, rfl, rfl, _, rfl, vsFt (show ¬ ("xor" : Str) = "if" by decide +kernel) ?_⟩
      refine ⟨_, rfl, rfl, _, rfl, vsFt (show ¬ ("xor" : Str) = "put" by decide +kernel) ?_⟩
      refine ⟨_, rfl, (by show 2 ≤ sizeLine; decide), fun t2 ht2 => ⟨t2, _, rfl, .inr (SqT.of upd_same), rfl, rfl, _, rfl, ?_⟩⟩
      have s3 := s3.trans (same_new ht2 (.tup [.str "some", .str "all"]))
      generalize upd H3 t2 (.tup [.str "some", .str "all"]) = H4 at s3 ⊢
      refine inFt (x := "xor") (ws := q2t) (by decide +kernel) ?_
      have S3 := S.same s3
      have hv3 := hv.same s3
      obtain ⟨a', x, y, ea, ha3, hx, hy⟩ := tg_2 hv3
      cases ea
      have z1 := (kid (g := g1) m1).2.2
      have z2 := (kid (g := g2) m2).2.2
      have e : EvWL K s c l b _ _ _ [some (.ref s), some (.ref a), some (.int (lv : Nat)), some (.ref b), some (.ref pg), some (.str "xor"), some (.int (ownL (.xor g1 g2) : Nat)), none, none] H4 := evl_cat (eT (j := 1) (lv := 2) (tl := tVar 6) rfl rfl rfl S3 ha3 rfl hx m1 (by decide) (fun _ _ h => ⟨_, rfl, h⟩)) (evl_one (x := "^") (fun _ _ _ _ => evs_sign (i := 5) (w := "xor") rfl (by decide +kernel))) (by omega)
      refine seq_asg (e H4 k S3 Keep3.refl h8 _ fun H' p ws k' S' K' n1 n2 n3 hp hk hl r => ?_)
      obtain ⟨a1, _, _, rfl, ⟨t1, o1⟩, rfl, rfl⟩ := r
      have e2 : EvWL K s c l b _ _ _ [some (.ref s), some (.ref a), some (.int (lv : Nat)), some (.ref b), some (.ref pg), some (.str "xor"), some (.int (ownL (.xor g1 g2) : Nat)), some (.ref p), none] H' := evl_cat (evl_var (i := 7) rfl n1 n2 n3 hp (Nat.le_refl _)) (eT (j := 2) (lv := 3) (tl := tOp (rI0 fun i j => .int (i + j)) (tVar 6) (tC (.int 1))) rfl rfl rfl S' (S3.seqT K' ha3) rfl (S3.tg K' hy) m2 (by decide) (fun _ _ h => ⟨_, rfl, _, _, rfl, rfl, h⟩)) (by omega)
      refine asg_of (e2 H' _ S' Keep3.refl (by omega) _ fun H2' p2 ws2 k2 S2' K2' n1' n2' n3' hp' hk' hl' r => ?_)
      obtain ⟨_, a2, _, rfl, ⟨rfl, rfl⟩, t2, o2⟩ := r
      have el : a1 ++ [("^" : Str)] ++ a2 = a1 ++ ("^" : Str) :: a2 := by simp
      rw [el] at hp' hl'
      refine ⟨_, p2, _, k2, rfl, S2', (Keep3.of s3).trans (K'.trans K2'), n1', n2', n3', hp', by omega, by simp only [Fo.sz, List.length_append, List.length_cons, List.length_nil] at hl hl' ⊢; omega, .xor t1 t2, ?_⟩
      rw [bareW, opens_app, opens_app, opens_plain (by decide +kernel), opens_plain (by decide +kernel)]
      omega
    | ite g1 g2 g3 =>
      refine ⟨_, rfl, (by show 3 ≤ sizeLine; decide), fun t1 ht1 => ⟨t1, _, rfl, .inr (SqT.of upd_same), rfl, rfl, _, rfl, ?_⟩⟩
      have s3 := s1.trans (same_new ht1 (.tup [.str "yes", .str "no", .str "name"]))
      generalize upd H1 t1 (.tup [.str "yes", .str "no", .str "name"]) = H3 at s3 ⊢
      refine inFt (x := "if") (ws := a3t) (by decide +kernel) ?_
      refine ⟨_, rfl, rfl, _, rfl, vsFt (show ¬ ("if" : Str) = "not" by decide +kernel) ?_⟩
      refine ⟨_, rfl, rfl, _, rfl, vsTt rfl ?_⟩
      have S3 := S.same s3
      have hv3 := hv.same s3
      obtain ⟨a', x, y, u, ea, ha3, hx, hy, hu'⟩ := tg_3 hv3
      cases ea
      have z1 := (kid (g := g1) m1).2.2
      have z2 := (kid (g := g2) m2).2.2
      have z3 := (kid (g := g3) m3).2.2
      have e : EvWL K s c l b _ _ _ [some (.ref s), some (.ref a), some (.int (lv : Nat)), some (.ref b), some (.ref pg), some (.str "if"), some (.int (ownL (.ite g1 g2 g3) : Nat)), none, none] H3 := evl_cat (evl_cat (eT (j := 1) (lv := 1) (tl := tC (.int 1)) rfl rfl rfl S3 ha3 rfl hx m1 (by decide) (fun _ _ h => h)) (evl_one (x := "?") (te := tC (.str "?")) (fun _ _ _ _ => evs_str)) (by omega)) (eT (j := 2) (lv := 0) (tl := tC (.int 0)) rfl rfl rfl S3 ha3 rfl hy m2 (by decide) (fun _ _ h => h)) (by omega)
      refine seq_asg (e H3 k S3 Keep3.refl h8 _ fun H' p ws k' S' K' n1 n2 n3 hp hk hl r => ?_)
      obtain ⟨_, a2, _, rfl, ⟨a1, _, _, rfl, ⟨t1, o1⟩, rfl, rfl⟩, t2, o2⟩ := r
      have e2 : EvWL K s c l b _ _ _ [some (.ref s), some (.ref a), some (.int (lv : Nat)), some (.ref b), some (.ref pg), some (.str "if"), some (.int (ownL (.ite g1 g2 g3) : Nat)), some (.ref p), none] H' := evl_cat (evl_cat (evl_var (i := 7) rfl n1 n2 n3 hp (Nat.le_refl _)) (evl_one (x := ":") (te := tC (.str ":")) (fun _ _ _ _ => evs_str)) (by omega)) (eT (j := 3) (lv := 0) (tl := tC (.int 0)) rfl rfl rfl S' (S3.seqT K' ha3) rfl (S3.tg K' hu') m3 (by decide) (fun _ _ h => h)) (by omega)
      refine asg_of (e2 H' _ S' Keep3.refl (by omega) _ fun H2' p2 ws2 k2 S2' K2' n1' n2' n3' hp' hk' hl' r => ?_)
      obtain ⟨_, a3, _, rfl, ⟨_, _, _, rfl, ⟨rfl, rfl⟩, rfl, rfl⟩, t3, o3⟩ := r
      have el : a1 ++ [("?" : Str)] ++ a2 ++ [(":" : Str)] ++ a3 = a1 ++ ("?" : Str) :: (a2 ++ (":" : Str) :: a3) := by simp
      rw [el] at hp' hl'
      refine ⟨_, p2, _, k2, rfl, S2', (Keep3.of s3).trans (K'.trans K2'), n1', n2', n3', hp', by omega, by simp only [Fo.sz, List.length_append, List.length_cons, List.length_nil] at hl hl' ⊢; omega, .ite t1 t2 t3, ?_⟩
      have e20 : toldW g2 0 = bareW g2 := by rw [toldW, if_neg (Nat.not_lt_zero _)]
      have e30 : toldW g3 0 = bareW g3 := by rw [toldW, if_neg (Nat.not_lt_zero _)]
      rw [e20] at o2
      rw [e30] at o3
      rw [bareW, opens_app, opens_app, opens_open (w := "?") (by decide +kernel), opens_open (w := "?") (by decide +kernel), opens_app, opens_app, opens_plain (by decide +kernel), opens_plain (by decide +kernel)]
      omega
    | som x g =>
      refine ⟨_, rfl, (by show 3 ≤ sizeLine; decide), fun t1 ht1 => ⟨t1, _, rfl, .inr (SqT.of upd_same), rfl, rfl, _, rfl, ?_⟩⟩
      have s3 := s1.trans (same_new ht1 (.tup [.str "yes", .str "no", .str "name"]))
      generalize upd H1 t1 (.tup [.str "yes", .str "no", .str "name"]) = H3 at s3 ⊢
      refine inFt (x := "some") (ws := a3t) (by decide +kernel) ?_
      refine ⟨_, rfl, rfl, _, rfl, vsFt (show ¬ ("some" : Str) = "not" by decide +kernel) ?_⟩
      refine ⟨_, rfl, rfl, _, rfl, vsFt (show ¬ ("some" : Str) = "if" by decide +kernel) ?_⟩
      refine ⟨_, rfl, rfl, _, rfl, vsFt (show ¬ ("some" : Str) = "put" by decide +kernel) ?_⟩
      refine ⟨_, rfl, (by show 2 ≤ sizeLine; decide), fun t2 ht2 => ⟨t2, _, rfl, .inr (SqT.of upd_same), rfl, rfl, _, rfl, ?_⟩⟩
      have s3 := s3.trans (same_new ht2 (.tup [.str "some", .str "all"]))
      generalize upd H3 t2 (.tup [.str "some", .str "all"]) = H4 at s3 ⊢
      refine inTt (x := "some") (ws := q2t) (by decide +kernel) ?_
      have S3 := S.same s3
      have hv3 := hv.same s3
      obtain ⟨a', u, y, ea, ha3, hx, hy⟩ := tg_2 hv3
      cases ea
      obtain ⟨rfl, _⟩ := tg_s hx
      have z1 := (kid (g := g) m1).2.2
      have e : EvWL K s c l b _ _ _ [some (.ref s), some (.ref a), some (.int (lv : Nat)), some (.ref b), some (.ref pg), some (.str "some"), some (.int (ownL (.som x g) : Nat)), none, none] H4 := evl_cat (evl_two (x := "some") (y := x) (fun _ _ _ _ => evs_var (i := 5) rfl) (fun _ _ _ K5 => evs_ix (i := 1) (j := 1) rfl (S3.seqT K5 ha3) rfl)) (eT (j := 2) (lv := 0) (tl := tC (.int 0)) rfl rfl rfl S3 ha3 rfl hy m1 (by decide) (fun _ _ h => h)) (by omega)
      refine asg_of (e H4 k S3 Keep3.refl h8 _ fun H' p ws k' S' K' n1 n2 n3 hp hk hl r => ?_)
      obtain ⟨_, a2, _, rfl, ⟨rfl, rfl⟩, t1, o1⟩ := r
      refine ⟨_, p, _, k', rfl, S', (Keep3.of s3).trans K', n1, n2, n3, hp, hk, by simp only [Fo.sz]; omega, .som t1, ?_⟩
      have e20 : toldW g 0 = bareW g := by rw [toldW, if_neg (Nat.not_lt_zero _)]
      rw [e20] at o1
      rw [bareW]
      show opens (("some" : Str) :: x :: a2) + _ ≤ opens (("some" : Str) :: x :: bareW g) + _
      have ex : ∀ r : List Str, opens (x :: r) = opens [x] + opens r := fun r => opens_app [x] r
      rw [opens_open (w := "some") (by decide +kernel), opens_open (w := "some") (by decide +kernel), ex, ex (bareW g)]
      omega
    | all x g =>
      refine ⟨_, rfl, (by show 3 ≤ sizeLine; decide), fun t1 ht1 => ⟨t1, _, rfl, .inr (SqT.of upd_same), rfl, rfl, _, rfl, ?_⟩⟩
      have s3 := s1.trans (same_new ht1 (.tup [.str "yes", .str "no", .str "name"]))
      generalize upd H1 t1 (.tup [.str "yes", .str "no", .str "name"]) = H3 at s3 ⊢
      refine inFt (x := "all") (ws := a3t) (by decide +kernel) ?_
      refine ⟨_, rfl, rfl, _, rfl, vsFt (show ¬ ("all" : Str) = "not" by decide +kernel) ?_⟩
      refine ⟨_, rfl, rfl, _, rfl, vsFt (show ¬ ("all" : Str) = "if" by decide +kernel) ?_⟩
      refine ⟨_, rfl, rfl, _, rfl, vsFt (show ¬ ("all" : Str) = "put" by decide +kernel) ?_⟩
      refine ⟨_, rfl, (by show 2 ≤ sizeLine; decide), fun t2 ht2 => ⟨t2, _, rfl, .inr (SqT.of upd_same), rfl, rfl, _, rfl, ?_⟩⟩
      have s3 := s3.trans (same_new ht2 (.tup [.str "some", .str "all"]))
      generalize upd H3 t2 (.tup [.str "some", .str "all"]) = H4 at s3 ⊢
      refine inTt (x := "all") (ws := q2t) (by decide +kernel) ?_
      have S3 := S.same s3
      have hv3 := hv.same s3
      obtain ⟨a', u, y, ea, ha3, hx, hy⟩ := tg_2 hv3
      cases ea
      obtain ⟨rfl, _⟩ := tg_s hx
      have z1 := (kid (g := g) m1).2.2
      have e : EvWL K s c l b _ _ _ [some (.ref s), some (.ref a), some (.int (lv : Nat)), some (.ref b), some (.ref pg), some (.str "all"), some (.int (ownL (.all x g) : Nat)), none, none] H4 := evl_cat (evl_two (x := "all") (y := x) (fun _ _ _ _ => evs_var (i := 5) rfl) (fun _ _ _ K5 => evs_ix (i := 1) (j := 1) rfl (S3.seqT K5 ha3) rfl)) (eT (j := 2) (lv := 0) (tl := tC (.int 0)) rfl rfl rfl S3 ha3 rfl hy m1 (by decide) (fun _ _ h => h)) (by omega)
      refine asg_of (e H4 k S3 Keep3.refl h8 _ fun H' p ws k' S' K' n1 n2 n3 hp hk hl r => ?_)
      obtain ⟨_, a2, _, rfl, ⟨rfl, rfl⟩, t1, o1⟩ := r
      refine ⟨_, p, _, k', rfl, S', (Keep3.of s3).trans K', n1, n2, n3, hp, hk, by simp only [Fo.sz]; omega, .all t1, ?_⟩
      have e20 : toldW g 0 = bareW g := by rw [toldW, if_neg (Nat.not_lt_zero _)]
      rw [e20] at o1
      rw [bareW]
      show opens (("all" : Str) :: x :: a2) + _ ≤ opens (("all" : Str) :: x :: bareW g) + _
      have ex : ∀ r : List Str, opens (x :: r) = opens [x] + opens r := fun r => opens_app [x] r
      rw [opens_open (w := "all") (by decide +kernel), opens_open (w := "all") (by decide +kernel), ex, ex (bareW g)]
      omega
    | put x g1 g2 =>
      refine ⟨_, rfl, (by show 3 ≤ sizeLine; decide), fun t1 ht1 => ⟨t1, _, rfl, .inr (SqT.of upd_same), rfl, rfl, _, rfl, ?_⟩⟩
      have s3 := s1.trans (same_new ht1 (.tup [.str "yes", .str "no", .str "name"]))
      generalize upd H1 t1 (.tup [.str "yes", .str "no", .str "name"]) = H3 at s3 ⊢
      refine inFt (x := "put") (ws := a3t) (by decide +kernel) ?_
      refine ⟨_, rfl, rfl, _, rfl, vsFt (show ¬ ("put" : Str) = "not" by decide +kernel) ?_⟩
      refine ⟨_, rfl, rfl, _, rfl, vsFt (show ¬ ("put" : Str) = "if" by decide +kernel) ?_⟩
      refine ⟨_, rfl, rfl, _, rfl, vsTt rfl ?_⟩
      have S3 := S.same s3
      have hv3 := hv.same s3
      obtain ⟨a', u, y, t, ea, ha3, hx, hy, ht⟩ := tg_3 hv3
      cases ea
      obtain ⟨rfl, _⟩ := tg_s hx
      have z1 := (kid (g := g1) m1).2.2
      have z2 := (kid (g := g2) m2).2.2
      have e : EvWL K s c l b _ _ _ [some (.ref s), some (.ref a), some (.int (lv : Nat)), some (.ref b), some (.ref pg), some (.str "put"), some (.int (ownL (.put x g1 g2) : Nat)), none, none] H3 := evl_cat (evl_two (x := x) (y := ":=") (fun _ _ _ K5 => evs_ix (i := 1) (j := 1) rfl (S3.seqT K5 ha3) rfl) (fun _ _ _ _ => evs_str)) (eT (j := 2) (lv := 0) (tl := tC (.int 0)) rfl rfl rfl S3 ha3 rfl hy m1 (by decide) (fun _ _ h => h)) (by omega)
      refine seq_asg (e H3 k S3 Keep3.refl h8 _ fun H' p ws k' S' K' n1 n2 n3 hp hk hl r => ?_)
      obtain ⟨_, a1, _, rfl, ⟨rfl, rfl⟩, t1, o1⟩ := r
      have e2 : EvWL K s c l b _ _ _ [some (.ref s), some (.ref a), some (.int (lv : Nat)), some (.ref b), some (.ref pg), some (.str "put"), some (.int (ownL (.put x g1 g2) : Nat)), some (.ref p), none] H' := evl_cat (evl_cat (evl_var (i := 7) rfl n1 n2 n3 hp (Nat.le_refl _)) (evl_one (x := "in") (te := tC (.str "in")) (fun _ _ _ _ => evs_str)) (by omega)) (eT (j := 3) (lv := 0) (tl := tC (.int 0)) rfl rfl rfl S' (S3.seqT K' ha3) rfl (S3.tg K' ht) m2 (by decide) (fun _ _ h => h)) (by omega)
      refine asg_of (e2 H' _ S' Keep3.refl (by omega) _ fun H2' p2 ws2 k2 S2' K2' n1' n2' n3' hp' hk' hl' r => ?_)
      obtain ⟨_, a2, _, rfl, ⟨_, _, _, rfl, ⟨rfl, rfl⟩, rfl, rfl⟩, t2, o2⟩ := r
      have el : [x, (":=" : Str)] ++ a1 ++ [("in" : Str)] ++ a2 = x :: (":=" : Str) :: (a1 ++ ("in" : Str) :: a2) := by simp
      rw [el] at hp' hl'
      refine ⟨_, p2, _, k2, rfl, S2', (Keep3.of s3).trans (K'.trans K2'), n1', n2', n3', hp', by omega, by simp only [Fo.sz, List.length_append, List.length_cons, List.length_nil] at hl hl' ⊢; omega, .put t1 t2, ?_⟩
      have e10 : toldW g1 0 = bareW g1 := by rw [toldW, if_neg (Nat.not_lt_zero _)]
      have e20 : toldW g2 0 = bareW g2 := by rw [toldW, if_neg (Nat.not_lt_zero _)]
      rw [e10] at o1
      rw [e20] at o2
      rw [bareW]
      have ex : ∀ r : List Str, opens (x :: r) = opens [x] + opens r := fun r => opens_app [x] r
      rw [ex, ex ((":=" : Str) :: (bareW g1 ++ ("in" : Str) :: bareW g2)), opens_open (w := ":=") (by decide +kernel), opens_open (w := ":=") (by decide +kernel), opens_app, opens_app, opens_plain (w := "in") (by decide +kernel), opens_plain (w := "in") (by decide +kernel)]
      omega
  · rintro σ1 H3 ⟨x4, p, ws, k1, rfl, S3, K3, n1, n2, n3, hp, hk, hl, hb, hop⟩
    refine ⟨fun σ' H' => ∃ e : Nat, σ' = [some (.ref s), some (.ref a), some (.int (lv : Nat)), some (.ref b), x4, some (.str fo.wd), some (.int (ownL fo : Nat)), some (.ref p), some (.int (e : Nat))] ∧ BxOk K H' s c l b k1 ∧ Keep3 s l b H3 H' ∧ e ≤ 2 ∧ e ≤ k1, ?_, ?_⟩
    · refine ⟨_, rfl, b, _, rfl, DGet.k (k := .inr "left") S3.bx, _, _, rfl, rfl, _, rfl, ?_⟩
      refine ite2 (fun c1 => ?_) (fun c1 => ?_)
      · have c1 : 1 < k1 := by
          have := of_decide_eq_true c1
          omega
        refine ⟨(by show 4 ≤ sizeLine; decide), fun pl hpl => ?_⟩
        have S4 := S3.same (same_new hpl (.lst [.int 0, .int 0, .int 1, .int 2]))
        have npl := S3.new hpl
        have gl : (upd H3 pl (.lst [.int 0, .int 0, .int 1, .int 2])) pl = some (.lst [.int 0, .int 0, .int 1, .int 2]) := upd_same
        have K4 : Keep3 s l b H3 (upd H3 pl (.lst [.int 0, .int 0, .int 1, .int 2])) := Keep3.of (same_new hpl _)
        generalize upd H3 pl (.lst [.int 0, .int 0, .int 1, .int 2]) = H4 at S4 gl K4 ⊢
        refine ⟨_, rfl, s, c, l, 4, rfl, S4.st, by decide, by decide, fun H5 d St K5 d0 d1 => ?_⟩
        have S5 := S4.keep St K5
        have hc : d = 0 ∨ d = 1 ∨ d = 2 ∨ d = 3 := by omega
        have g5 := K5 _ _ npl.1 npl.2.1 gl
        rcases hc with rfl | rfl | rfl | rfl
        · exact ⟨pl, _, _, _, rfl, rfl, SqL.of g5, atI_nat (j := 0) rfl, 0, rfl, S5, K4.trans (Keep3.ofK K5), by omega, by omega⟩
        · exact ⟨pl, _, _, _, rfl, rfl, SqL.of g5, atI_nat (j := 1) rfl, 0, rfl, S5, K4.trans (Keep3.ofK K5), by omega, by omega⟩
        · exact ⟨pl, _, _, _, rfl, rfl, SqL.of g5, atI_nat (j := 2) rfl, 1, rfl, S5, K4.trans (Keep3.ofK K5), by omega, by omega⟩
        · exact ⟨pl, _, _, _, rfl, rfl, SqL.of g5, atI_nat (j := 3) rfl, 2, rfl, S5, K4.trans (Keep3.ofK K5), by omega, by omega⟩
      · exact ⟨0, rfl, S3, Keep3.refl, by omega, by omega⟩
    rintro σ2 H4 ⟨e, rfl, S4, K4, e2, ek1⟩
    have hp4 := K4 _ _ n1 n2 n3 hp
    refine ⟨_, rfl, b, _, rfl, DGet.k (k := .inr "left") S4.bx, _, rfl, _, _, rfl, rfl, _, rfl, b, _, rfl, DPut.k (k := .inr "left") S4.bx (by show 1 < sizeLine; decide), ?_⟩
    have ep : putK [((.inr "left" : Key), V.int (k1 : Nat))] (.inr "left") (.int ((k1 : Int) - (e : Int))) = [((.inr "left" : Key), V.int ((k1 - e : Nat) : Int))] := by
      rw [show (k1 : Int) - (e : Int) = ((k1 - e : Nat) : Int) by omega]
      simp [putK]
    show tSeq _ _ _ _ (upd H4 b (.dK (putK [((.inr "left" : Key), V.int (k1 : Nat))] (.inr "left") (.int ((k1 : Int) - (e : Int))))))
    rw [ep]
    have S5 := S4.put (k1 - e)
    have K5 : Keep3 s l b H4 (upd H4 b (.dK [(.inr "left", .int ((k1 - e : Nat) : Int))])) := Keep3.put
    have hp5 := K5 _ _ n1 n2 n3 hp4
    generalize upd H4 b (.dK [(.inr "left", .int ((k1 - e : Nat) : Int))]) = H5 at S5 K5 hp5 ⊢
    refine ⟨_, rfl, _, rfl, _, rfl, _, _, rfl, rfl, .inr ⟨_, rfl, _, _, rfl, rfl, ?_⟩⟩
    have em : (e : Int) + (if decide (((ownL fo : Nat) : Int) < (lv : Int)) = true then (1 : Int) else 0) = ((e + (if fo.lev < lv then 1 else 0) : Nat) : Int) := by
      by_cases c : fo.lev < lv
      · rw [decide_eq_true ((own_lt h4).mpr c), if_pos c]
        rfl
      · rw [decide_eq_false (fun h => c ((own_lt h4).mp h)), if_neg c]
        rfl
    show gName 8 (V.int ((e : Int) + (if decide (((ownL fo : Nat) : Int) < (lv : Int)) = true then (1 : Int) else 0))) _ _ _
    rw [em]
    obtain ⟨m, hm⟩ : ∃ m, m = e + (if fo.lev < lv then 1 else 0) := ⟨_, rfl⟩
    have hm3 : m ≤ 3 := by
      rw [hm]
      split <;> omega
    have hm1 : 1 ≤ m ∨ lv ≤ fo.lev := by
      rw [hm]
      split <;> omega
    have hmo : m + opens (bareW fo) = e + opens (toldW fo lv) := by
      rw [hm, opens_told_eq]
      omega
    rw [← hm]
    clear hm em
    have rp : ∀ x : Str, (List.replicate ((m : Nat) : Int).toNat [V.str x]).flatten = (List.replicate m x).map V.str := fun x => by
      rw [Int.toNat_natCast, List.map_replicate, List.flatten_replicate_singleton]
    have fit : ∀ j : Nat, j ≤ 2000 → j ≤ sizeLine := fun j hj => by omega
    refine ⟨few_size (by show 1 ≤ 1000; decide), fun p1 hp1 => ⟨_, rfl, p1, _, _, rfl, rfl, upd_same, by omega, by omega, fit _ (by show 1 * _ ≤ _; rw [Int.toNat_natCast]; omega), fun p2 hp2 => ?_⟩⟩
    rw [rp]
    have s6 := (same_new hp1 (.lst [V.str "("])).trans (same_new hp2 (.lst ((List.replicate m ("(" : Str)).map V.str)))
    have g6 : (upd (upd H5 p1 (.lst [V.str "("])) p2 (.lst ((List.replicate m ("(" : Str)).map V.str))) p2 = some (.lst ((List.replicate m ("(" : Str)).map V.str)) := upd_same
    generalize upd (upd H5 p1 (.lst [V.str "("])) p2 (.lst ((List.replicate m ("(" : Str)).map V.str)) = H6 at s6 g6 ⊢
    refine ⟨_, rfl, p2, p, _, _, rfl, rfl, g6, s6 _ _ hp5, fit _ (by rw [List.length_map, List.length_map, List.length_replicate]; omega), fun p3 hp3 => ?_⟩
    rw [← List.map_append]
    have s7 := s6.trans (same_new hp3 (.lst ((List.replicate m ("(" : Str) ++ ws).map V.str)))
    have g7 : (upd H6 p3 (.lst ((List.replicate m ("(" : Str) ++ ws).map V.str))) p3 = some (.lst ((List.replicate m ("(" : Str) ++ ws).map V.str)) := upd_same
    generalize upd H6 p3 (.lst ((List.replicate m ("(" : Str) ++ ws).map V.str)) = H7 at s7 g7 ⊢
    refine ⟨few_size (by show 1 ≤ 1000; decide), fun p4 hp4' => ⟨_, rfl, p4, _, _, rfl, rfl, upd_same, by omega, by omega, fit _ (by show 1 * _ ≤ _; rw [Int.toNat_natCast]; omega), fun p5 hp5' => ?_⟩⟩
    rw [rp]
    have s8 := (same_new hp4' (.lst [V.str ")"])).trans (same_new hp5' (.lst ((List.replicate m (")" : Str)).map V.str)))
    have g8 : (upd (upd H7 p4 (.lst [V.str ")"])) p5 (.lst ((List.replicate m (")" : Str)).map V.str))) p5 = some (.lst ((List.replicate m (")" : Str)).map V.str)) := upd_same
    generalize upd (upd H7 p4 (.lst [V.str ")"])) p5 (.lst ((List.replicate m (")" : Str)).map V.str)) = H8 at s8 g8 ⊢
    refine ⟨p3, p5, _, _, rfl, rfl, s8 _ _ g7, g8, fit _ (by rw [List.length_map, List.length_map, List.length_append, List.length_replicate, List.length_replicate]; omega), fun p6 hp6 => ?_⟩
    rw [← List.map_append]
    have s9 := (s7.trans s8).trans (same_new hp6 (.lst ((List.replicate m ("(" : Str) ++ ws ++ List.replicate m (")" : Str)).map V.str)))
    have S9 := S5.same s9
    have n9 := (S5.same (s7.trans s8)).new hp6
    refine q _ p6 _ (k1 - e) S9 (K3.trans (K4.trans (K5.trans (Keep3.of s9)))) n9.1 n9.2.1 n9.2.2 upd_same (by omega) ?_ ⟨reps_wrap hb m hm1, ?_⟩
    · rw [List.length_append, List.length_append, List.length_replicate, List.length_replicate]
      have := fo_sz fo
      omega
    · rw [reps_opens]
      omega
theorem all_ltold {f : Addr} {fd : FuncData} (F : Fun K "_law_told" "_law_told" sLTold f fd) (bG : Binds K fd ["state", "formula", "level", "box"] []) (mG : mg "_law_told" = some (.ref f)) (DR : Def P w K mg base CX0 "_law_draw" 2 ["state", "many"] (spDraw K)) (mn : mg "int" = none) :
    ∀ n : Nat, FnOk P w K mg base CX0 (n + 2) f fd ["state", "formula", "level", "box"] (spLTold K n)
  | 0 => by
    have no : ∀ vs H Q E, ¬ spLTold K 0 vs H Q E := fun vs H Q E h => by
      obtain ⟨s, c, l, b, v, f, lv, k, _, _, _, _, d0, _⟩ := h
      omega
    exact ⟨fun vs H Q E h => absurd h (no vs H Q E), fun A outer s H args us vs Q E _ _ _ _ h => absurd h (no vs H Q E)⟩
  | n + 1 => step_ltold F bG mG DR mn (all_ltold F bG mG DR mn n)
end
end Kn
set_option Elab.async false
set_option linter.all false
set_option maxRecDepth 100000
set_option maxHeartbeats 4000000
set_option pp.maxSteps 1200
namespace Kn
open PySem L2 TL PySem.Spec PyProof.Rows
/-! ### _law_spread: words with blanks drawn between them -/
abbrev sLSpr : Stmt := top 62
abbrev nLSpr : List Str := ["state", "words", "letters", "told", "word", "need"]
theorem op_in_s01 {X : Cx} : OpR X (compareOp .In) (fun x y H Q => (∃ (c : Nat) (z : Str), x = .str ⟨#[c]⟩ ∧ y = .str z ∧ Q (.bl (decide (c ∈ z.cps.toList))) H) ∨ ∃ z : Str, x = .str Str.empty ∧ y = .str z ∧ ∀ b, Q (.bl b) H) := by
  intro pins s σ H x y v u Q I rx ry h
  rcases h with h | ⟨z, rfl, rfl, h⟩
  · exact op_in_sign pins s σ H x y v u Q I rx ry h
  · exact op_in_str pins s σ H _ _ v u Q I rx ry ⟨_, _, rfl, rfl, h _⟩
theorem abc_isL (c : Nat) : decide (c ∈ abc.cps.toList) = isL c := by
  have e : abc.cps.toList = List.range' 97 26 := by decide +kernel
  rw [e]
  unfold isL
  rw [← Bool.decide_and]
  refine decide_eq_decide.mpr ?_
  rw [List.mem_range'_1]
  omega
theorem rep_codes (n : Nat) (h : n ≤ 3) : codes (repS " " (n : Int)) = List.replicate n 32 := by
  have : n = 0 ∨ n = 1 ∨ n = 2 ∨ n = 3 := by omega
  rcases this with rfl | rfl | rfl | rfl <;> decide +kernel
theorem rep_len (n : Nat) (h : n ≤ 3) : (repS " " (n : Int)).length ≤ 3 := by
  have : n = 0 ∨ n = 1 ∨ n = 2 ∨ n = 3 := by omega
  rcases this with rfl | rfl | rfl | rfl <;> decide +kernel
/-- whether a word of letters stands last -/
def lastl : Bool → List (Nat × List Nat) → Bool
  | l, [] => l
  | _, (_, v) :: r => lastl (lets v) r
theorem apart_snoc {b : Nat} {w : List Nat} : ∀ {l : Bool} {ps : List (Nat × List Nat)}, apart l ps → (lastl l ps = true → lets w = true → 1 ≤ b) → apart l (ps ++ [(b, w)])
  | _, [], _, h => ⟨h, trivial⟩
  | _, (c, v) :: r, h, q => ⟨h.1, apart_snoc h.2 q⟩
theorem spr_snoc (t k : Nat) (w : List Nat) : ∀ ps : List (Nat × List Nat), spr ps t ++ (List.replicate k 32 ++ w) = spr (ps ++ [(t + k, w)]) 0
  | [] => by
    show List.replicate t 32 ++ (List.replicate k 32 ++ w) = List.replicate (t + k) 32 ++ (w ++ [])
    rw [List.append_nil, ← List.append_assoc, List.replicate_append_replicate]
  | (b, v) :: r => by
    rw [List.cons_append, spr, spr, ← spr_snoc t k w r]
    simp only [List.append_assoc]
theorem lets_last {v : List Nat} (h : WK v) : ∃ c, v.getLast? = some c ∧ isL c = lets v := by
  cases h with
  | @letters _ h0 ha =>
    obtain ⟨c, hc⟩ : ∃ c, v.getLast? = some c := by
      cases e : v.getLast? with
      | none => exact absurd (List.getLast?_eq_none_iff.mp e) h0
      | some c => exact ⟨c, rfl⟩
    refine ⟨c, hc, ?_⟩
    rw [ha c (List.mem_of_getLast? hc)]
    cases v with
    | nil => exact absurd rfl h0
    | cons d r => exact (ha d List.mem_cons_self).symm
  | put => exact ⟨61, rfl, by decide⟩
  | sign c a b d => exact ⟨c, rfl, rfl⟩
theorem spr_last : ∀ {ps : List (Nat × List Nat)} {l : Bool}, (∀ p ∈ ps, WK p.2) → ps ≠ [] → ∃ c, (spr ps 0).getLast? = some c ∧ isL c = lastl l ps
  | [], _, _, h => absurd rfl h
  | [(b, v)], l, hk, _ => by
    obtain ⟨c, hc, hl⟩ := lets_last (hk (b, v) List.mem_cons_self)
    refine ⟨c, ?_, hl⟩
    show (List.replicate b 32 ++ (v ++ [])).getLast? = some c
    rw [List.append_nil, List.getLast?_append, hc]
    rfl
  | (b, v) :: p :: r, l, hk, _ => by
    obtain ⟨c, hc, hl⟩ := spr_last (ps := p :: r) (l := lets v) (fun q hq => hk q (List.mem_cons_of_mem _ hq)) (fun z => nomatch z)
    refine ⟨c, ?_, hl⟩
    rw [spr, List.getLast?_append, List.getLast?_append, hc]
    rfl
theorem cut_last {z : Str} {c : Nat} (h : (codes z).getLast? = some c) : cutS z (some (-1)) none = ⟨#[c]⟩ := by
  obtain ⟨r, hr⟩ : ∃ r, codes z = r ++ [c] := by
    have hne : codes z ≠ [] := fun e => by rw [e] at h; cases h
    refine ⟨(codes z).dropLast, ?_⟩
    have e := List.getLast?_eq_some_getLast hne
    rw [h] at e
    rw [Option.some.inj e, List.dropLast_concat_getLast]
  have hl : z.length = r.length + 1 := by
    have : z.length = (codes z).length := by simp [Str.length, codes]
    rw [this, hr, List.length_append, List.length_singleton]
  unfold cutS
  have e1 : HT.sIx z.length 0 (some (-1)) = r.length := by
    show (if (-1 : Int) < 0 then ((-1 : Int) + (z.length : Int)).toNat else min (-1 : Int).toNat z.length) = _
    rw [if_pos (by decide), hl]
    omega
  rw [e1, HT.sIx_none, show z.cps.toList = r ++ [c] from hr, List.drop_left, hl, Nat.add_sub_cancel_left]
  rfl
theorem cut_none {z : Str} (h : codes z = []) : cutS z (some (-1)) none = Str.empty := by
  have e : z = Str.empty := by
    rw [← str_codes z, h]
    rfl
  rw [e]
  decide +kernel
def spSpr (K : PySem.W.Frag) : Sp := fun vs H Q _ => ∃ (s c l p : Addr) (ws : List Str), vs = [.ref s, .ref p] ∧ StOk K H s c l ∧ p ≠ s ∧ p ≠ l ∧ H p = some (.lst (ws.map V.str)) ∧ ws.length ≤ 1000 ∧ (∀ x ∈ ws, GW x ∧ x.length ≤ 8) ∧
  ∀ (H' : Hp) (z : Str) (ps : List (Nat × List Nat)) (t : Nat), StOk K H' s c l → Keep s l H H' → codes z = spr ps t → wdsP ps = ws → apart false ps → z.length ≤ 20000 → Q (.str z) H'
section
variable {P : Program} {w : World} {K : PySem.W.Frag} {mg : Str → Option Value} {base : Heap}
theorem scLSpr : FnScope nLSpr ["state", "words"] (defScope sLSpr) := ⟨rfl, rfl, rfl, by decide +kernel, rfl, by decide +kernel, by decide +kernel⟩
theorem ok_lspr {f : Addr} {fd : FuncData} (F : Fun K "_law_spread" "_law_spread" sLSpr f fd) (DR : Def P w K mg base CX0 "_law_draw" 2 ["state", "many"] (spDraw K)) (ON : Def P w K mg base CX0 "_law_one" 3 ["state", "things"] (spOne K)) (mn : mg "int" = none) :
    FnOk P w K mg base CX0 4 f fd ["state", "words"] (spSpr K) := by
  refine F.ok scLSpr (fun vs H Q E h => ?_) (fun cdv A outer s H vs Q E hr h => ?_)
  · obtain ⟨s, c, l, p, ws, rfl, _⟩ := h
    rfl
  obtain ⟨s, c, l, p, ws, rfl, S, ps_, pl, hp, hwl, hws, q⟩ := h
  have hr2 : Room 2 _ := hr.mono (by omega)
  have hr3 : Room 3 _ := hr.mono (by omega)
  refine ⟨_, (pss_cons (ps_set (i := 2) scLSpr.nd rfl (Or.inl rfl) pe_str)
    (pss_cons (ps_set (i := 3) scLSpr.nd rfl (Or.inl rfl) (pe_op op_mulS pe_str (pe_def DR hr2 rfl (pa_cons (pv 0) (pa_cons pe_int pa_nil)))))
    (pss_cons (ps_for PassesOwn.never rfl (pi_list (pv 1)) (pg_name (i := 4) scLSpr.nd rfl (Or.inl rfl)) (Evl.pss_cut (ps_set (i := 5) scLSpr.nd rfl (Or.inl rfl) (pe_callTy call_int1 (by rfl) mn (by decide +kernel) (pa_cons (pe_and (pe_cmpR op_in_s01 (pe_slice sl_str (pv 3) (po_some (pe_un un_neg pe_int)) po_none) (pv 2) (by rfl)) (pe_and (pe_cmpR op_ne (pv 3) pe_str (nomark _)) (pe_one (pe_cmpR op_in_s01 (pe_ix ix_str (pv 4) pe_int (fun _ _ => rfl)) (pv 2) (by rfl))))) pa_nil)))
      (pss_one (ps_set (i := 3) scLSpr.nd rfl (Or.inl rfl) (pe_op op_add_str (pe_op op_add_str (pv 3) (pe_op op_mulS pe_str (pe_def ON hr3 rfl (pa_cons (pv 0) (pa_cons (pe_lst (pa_cons (pv 5) (pa_cons (pv 5) (pa_cons pe_int (pa_cons pe_int pa_nil))))) pa_nil))))) (pv 4))))))
    (pss_one (ps_ret (pe_op op_add_str (pv 3) (pe_op op_mulS pe_str (pe_def DR hr2 rfl (pa_cons (pv 0) (pa_cons pe_int pa_nil)))))))))), ?_⟩
  have z : sizeLine = 16777216 := sizeLine_eq
  have bl1 : (" " : Str).length = 1 := rfl
  refine ⟨_, rfl, s, c, l, 3, rfl, S, by decide, by decide, fun H1 n S1 k1 n0 n1 => ?_⟩
  obtain ⟨t0, rfl⟩ : ∃ j : Nat, n = (j : Int) := ⟨n.toNat, by omega⟩
  have rl0 := rep_len t0 (by omega)
  refine ⟨_, _, rfl, rfl, n0, by omega, by omega, by omega, ?_⟩
  refine ⟨_, rfl, p, rfl, ⟨_, SqL.of (k1 _ _ ps_ pl hp)⟩, ?_⟩
  refine for_list (K := K) (a := p) (xs := ws.map V.str) (fun i σ' H' => ∃ (v4 v5 : Option V) (told : Str) (ps : List (Nat × List Nat)) (t : Nat), σ' = [some (.ref s), some (.ref p), some (.str abc), some (.str told), v4, v5] ∧ StOk K H' s c l ∧ Keep s l H H' ∧ codes told = spr ps t ∧ wdsP ps = ws.take i ∧ apart false ps ∧ told.length ≤ 3 + 11 * i ∧ t ≤ 2 ∧ (ps ≠ [] → t = 0))
    ⟨none, none, _, [], t0, rfl, S1, k1, rep_codes t0 (by omega), rfl, trivial, by omega, by omega, fun h => absurd rfl h⟩ (fun i σ' H' _ h => by
      obtain ⟨_, _, _, _, _, _, _, k, _⟩ := h
      exact SqL.of (k _ _ ps_ pl hp)) ?_ ?_
  · rintro i x σ' H2 hi ⟨v4, v5, told, ps, t, rfl, S2, k2, hc, hw, ha, hl, ht2, ht⟩
    rw [List.getElem?_map] at hi
    obtain ⟨y, hy, rfl⟩ : ∃ y, ws[i]? = some y ∧ x = .str y := by
      cases hg : ws[i]? with
      | none =>
        rw [hg] at hi
        cases hi
      | some y =>
        rw [hg] at hi
        exact ⟨y, rfl, (Option.some.inj hi).symm⟩
    have hyw := hws y (List.mem_of_getElem? hy)
    have hk : ∀ p ∈ ps, WK p.2 := fun p hp => by
      have m : strOf p.2 ∈ ws := by
        have m2 : strOf p.2 ∈ wdsP ps := List.mem_map.mpr ⟨p, hp, rfl⟩
        rw [hw] at m2
        exact List.mem_of_mem_take m2
      exact gw_wk (hws _ m).1
    obtain ⟨c0, r0, hy0, _⟩ := wk_head (gw_wk hyw.1)
    have hil : i < ws.length := (List.getElem?_eq_some_iff.mp hy).1
    have hly : lets (codes y) = isL c0 := by rw [hy0]; rfl
    have hyl : y.length ≤ sizeLine := by omega
    have htl : told.length ≤ sizeLine := by omega
    have wi : ws.take (i + 1) = ws.take i ++ [y] := by rw [List.take_add_one, hy, Option.toList_some]
    refine ⟨fun σ' H' => ∃ nd : Nat, σ' = [some (.ref s), some (.ref p), some (.str abc), some (.str told), some (.str y), some (.int (nd : Nat))] ∧ H' = H2 ∧ nd ≤ 1 ∧ (lastl false ps = true → lets (codes y) = true → t = 0 → nd = 1), ?_, ?_⟩
    · have y0 : (codes y)[0]? = some c0 := by rw [hy0]; rfl
      by_cases he : codes told = []
      · -- nothing told yet
        have e0 := cut_none he
        have et : told = Str.empty := by
          rw [← str_codes told, he]
          rfl
        have hps : ps = [] := by
          cases ps with
          | nil => rfl
          | cons p r =>
            obtain ⟨c1, h1, _⟩ := spr_last (l := false) hk (fun z => nomatch z)
            have t00 := ht (fun z => nomatch z)
            rw [t00] at hc
            rw [hc] at he
            rw [he] at h1
            cases h1
        have hF : lastl false ps = true → lets (codes y) = true → t = 0 → 0 = 1 := fun h => by
          rw [hps] at h
          cases h
        refine ⟨_, rfl, 1, rfl, -1, rfl, told, rfl, htl, _, rfl, .inr ⟨abc, congrArg V.str e0, rfl, fun b => ⟨b, rfl, ite2 (fun _ => ?_) (fun _ => ?_)⟩⟩⟩
        · refine ⟨_, rfl, rfl, _, rfl, ?_⟩
          rw [decide_eq_true (show V.str told = V.str "" by rw [et]; rfl)]
          exact iteF (.inr ⟨false, rfl, 0, rfl, rfl, by decide, hF⟩)
        · exact .inr ⟨false, rfl, 0, rfl, rfl, by decide, hF⟩
      · obtain ⟨c1, h1⟩ : ∃ c1, (codes told).getLast? = some c1 := by
          cases e : (codes told).getLast? with
          | none => exact absurd (List.getLast?_eq_none_iff.mp e) he
          | some c1 => exact ⟨c1, rfl⟩
        have hlast : lastl false ps = true → isL c1 = true := fun h => by
          have hne : ps ≠ [] := fun e => by rw [e] at h; cases h
          obtain ⟨c2, h2, e2⟩ := spr_last (l := false) hk hne
          rw [← ht hne, ← hc, h1] at h2
          rw [Option.some.inj h2, e2]
          exact h
        have nt : ¬ V.str told = V.str "" := fun e => he (by
          rw [V.str.inj e]
          rfl)
        refine ⟨_, rfl, 1, rfl, -1, rfl, told, rfl, htl, _, rfl, .inl ⟨c1, abc, congrArg V.str (cut_last h1), rfl, _, rfl, ?_⟩⟩
        rw [abc_isL]
        cases hc1 : isL c1 with
        | false =>
          exact iteF (.inr ⟨false, rfl, 0, rfl, rfl, by decide, fun h => by
            have := hlast h
            rw [hc1] at this
            cases this⟩)
        | true =>
          refine iteT ⟨_, rfl, rfl, _, rfl, ?_⟩
          rw [decide_eq_false nt]
          refine iteT ⟨_, rfl, _, _, c0, rfl, rfl, hyl, atI_nat (j := 0) y0, _, rfl, .inl ⟨c0, abc, rfl, rfl, .inr ⟨_, rfl, ?_⟩⟩⟩
          rw [abc_isL]
          cases hc0 : isL c0 with
          | false => exact ⟨0, rfl, rfl, by decide, fun _ h => by
              rw [hly, hc0] at h
              cases h⟩
          | true => exact ⟨1, rfl, rfl, by decide, fun _ _ _ => rfl⟩
    rintro σ' H2' ⟨nd, rfl, rfl, hnd, hne⟩
    refine ⟨_, rfl, _, rfl, _, rfl, _, rfl, few_size (by show 4 ≤ 1000; decide), fun p1 hp1 => ?_⟩
    have S3 := S2.new hp1 (o := .lst [.int (nd : Nat), .int (nd : Nat), .int 1, .int 3])
    have np1 := S2.ns hp1
    have k3 : Keep s l H2' (upd H2' p1 (.lst [.int (nd : Nat), .int (nd : Nat), .int 1, .int 3])) := Keep.new hp1
    have g3 : (upd H2' p1 (.lst [.int (nd : Nat), .int (nd : Nat), .int 1, .int 3])) p1 = some (.lst [.int (nd : Nat), .int (nd : Nat), .int 1, .int 3]) := upd_same
    generalize upd H2' p1 (.lst [.int (nd : Nat), .int (nd : Nat), .int 1, .int 3]) = H3 at S3 k3 g3 ⊢
    refine ⟨s, c, l, _, rfl, S3, .inl ⟨p1, _, rfl, np1.1, np1.2.1, SqL.of g3, (show 0 < 4 by decide), (show 4 ≤ 100000 by decide), fun H4 x S4 k4 hx => ?_⟩⟩
    obtain ⟨k, rfl, hk3, hkn⟩ : ∃ k : Nat, x = .int ((k : Nat) : Int) ∧ k ≤ 3 ∧ (nd = 1 → 1 ≤ k) := by
      simp only [List.mem_cons, List.not_mem_nil, or_false] at hx
      rcases hx with rfl | rfl | rfl | rfl
      · exact ⟨nd, rfl, by omega, fun h => by omega⟩
      · exact ⟨nd, rfl, by omega, fun h => by omega⟩
      · exact ⟨1, rfl, by omega, fun _ => Nat.le_refl _⟩
      · exact ⟨3, rfl, by omega, fun _ => by omega⟩
    have rlk := rep_len k hk3
    refine ⟨_, _, rfl, rfl, by omega, by omega, by omega, by omega, _, _, rfl, rfl, by omega, _, rfl, _, _, rfl, rfl, by rw [Str.length_append]; omega, ?_⟩
    refine ⟨_, _, _, ps ++ [(t + k, codes y)], 0, rfl, S4, (k2.trans k3).trans k4, ?_, ?_, apart_snoc ha (fun h1 h2 => ?_), ?_, by omega, fun _ => rfl⟩
    · rw [codes_app, codes_app, hc, rep_codes k hk3, List.append_assoc]
      exact spr_snoc t k (codes y) ps
    · rw [wi, wds_app, hw]
      rfl
    · by_cases h0 : t = 0
      · have := hkn (hne h1 h2 h0)
        omega
      · omega
    · rw [Str.length_append, Str.length_append]
      have := hyw.2
      omega
  · rintro σ' H2 ⟨v4, v5, told, ps, t, rfl, S2, k2, hc, hw, ha, hl, ht2, ht⟩
    rw [List.length_map, List.take_length] at hw
    rw [List.length_map] at hl
    refine ⟨_, rfl, _, rfl, s, c, l, 3, rfl, S2, by decide, by decide, fun H3 n S3 k3 n0 n1 => ?_⟩
    obtain ⟨t1, rfl⟩ : ∃ j : Nat, n = (j : Int) := ⟨n.toNat, by omega⟩
    have rl1 := rep_len t1 (by omega)
    refine ⟨_, _, rfl, rfl, n0, by omega, by omega, by omega, _, _, rfl, rfl, by omega, ?_⟩
    refine q H3 _ ps (t + t1) S3 (k2.trans k3) ?_ hw ha (by rw [Str.length_append]; omega)
    rw [codes_app, hc, rep_codes t1 (by omega)]
    have e : ∀ qs : List (Nat × List Nat), spr qs t ++ List.replicate t1 32 = spr qs (t + t1) := fun qs => by
      induction qs with
      | nil => exact List.replicate_append_replicate
      | cons p r ih =>
        obtain ⟨b, v⟩ := p
        rw [spr, spr, ← ih]
        simp only [List.append_assoc]
    exact e ps
end
end Kn
set_option Elab.async false
set_option linter.all false
set_option maxRecDepth 100000
set_option maxHeartbeats 4000000
set_option pp.maxSteps 1200
namespace Kn
open PySem L2 TL PySem.Spec PyProof.Rows
/-! ### methods of Reading: ends -/
structure MDefT (P : Program) (w : World) (K : PySem.W.Frag) (mg : Str → Option Value) (base : Heap) (cx : CXT) (C : Addr) (m : Str) (k : Nat) (ps : List Str) (sp : Sp) : Prop where
  ex : ∃ (f : Addr) (fd : FuncData), Meth K C m f ∧ Binds K fd ps [] ∧ FnOk P w K mg base cx k f fd ps sp
section
variable {X : Cx}
/-- o.m(e, ..), a method that raises nothing -/
theorem pe_mdefT {C : Addr} {m : Str} {k : Nat} {ps : List Str} {sp : Sp} {o e : Expr} {es : List Expr} {ta : TE} {t : TA} {apos pos : Pos} {pl : Sem Bool} (c : Cls X.K C) (M : MDefT X.prog X.w X.K X.mg X.base CX0 C m k ps sp) (hr : Room k X.A) (ho : PE X o ta) (ha : PA X (e :: es) t)
    (hst : starEach (e :: es) X.env = (false, eval e X.env) :: starEach es X.env := by rfl) (hpl : (backTo pos (starEach es X.env)).any (·.1) = false := by rfl)
    (ht : eval (.Call (.Attribute o m apos) (e :: es) [] pos) X.env = (do
      let ov ← eval o X.env
      standAt apos.atName
      let (f, first) ← holding [ov] (getMethod ov m pl)
      callWith pos f first (backTo pos (starEach (e :: es) X.env)) (backToKw pos (keywordEach [] X.env))) := by rfl) :
    PE X (.Call (.Attribute o m apos) (e :: es) [] pos) (tMeth C m sp [] E0 ta t) := by
  obtain ⟨f, fd, me, b, ok⟩ := M.ex
  exact pe_meth ho c me ok hr b .nil pass0 ha hst hpl ht
theorem pe_mdefT0 {C : Addr} {m : Str} {k : Nat} {ps : List Str} {sp : Sp} {o : Expr} {ta : TE} {apos pos : Pos} {pl : Sem Bool} (c : Cls X.K C) (M : MDefT X.prog X.w X.K X.mg X.base CX0 C m k ps sp) (hr : Room k X.A) (ho : PE X o ta)
    (ht : eval (.Call (.Attribute o m apos) [] [] pos) X.env = (do
      let ov ← eval o X.env
      standAt apos.atName
      let (f, first) ← holding [ov] (getMethod ov m pl)
      callWith pos f first (backTo pos (starEach [] X.env)) (backToKw pos (keywordEach [] X.env))) := by rfl) :
    PE X (.Call (.Attribute o m apos) [] [] pos) (tMeth C m sp [] E0 ta tNil) := by
  obtain ⟨f, fd, me, b, ok⟩ := M.ex
  exact pe_meth0 ho c me ok hr b .nil pass0 ht
end
def sizTab : List (Str × Int) := [("and", 3), ("xor", 3), ("or", 3), ("if", 4), ("some", 3), ("all", 3), ("put", 4)]
def sizG (z : Str) : Option V := (sizTab.lookup z).map V.int
theorem siz_cl (fr : Fr) : decide (V.int ((fr.ds.length : Int) + 1) = (sizG fr.wd).getD .non) = fr.cl := by
  cases fr with
  | par => exact (show decide (V.int (((1 : Nat) : Int) + 1) = (sizG (("(") : Str)).getD .non) = false by decide +kernel)
  | neg => exact (show decide (V.int (((1 : Nat) : Int) + 1) = (sizG ("not" : Str)).getD .non) = false by decide +kernel)
  | con f => exact (show decide (V.int (((2 : Nat) : Int) + 1) = (sizG ("and" : Str)).getD .non) = true by decide +kernel)
  | dis f => exact (show decide (V.int (((2 : Nat) : Int) + 1) = (sizG ("or" : Str)).getD .non) = true by decide +kernel)
  | xor f => exact (show decide (V.int (((2 : Nat) : Int) + 1) = (sizG ("xor" : Str)).getD .non) = true by decide +kernel)
  | if1 f => exact (show decide (V.int (((2 : Nat) : Int) + 1) = (sizG ("if" : Str)).getD .non) = false by decide +kernel)
  | if2 f g => exact (show decide (V.int (((3 : Nat) : Int) + 1) = (sizG ("if" : Str)).getD .non) = true by decide +kernel)
  | som x => exact (show decide (V.int (((2 : Nat) : Int) + 1) = (sizG ("some" : Str)).getD .non) = true by decide +kernel)
  | all x => exact (show decide (V.int (((2 : Nat) : Int) + 1) = (sizG ("all" : Str)).getD .non) = true by decide +kernel)
  | put1 x => exact (show decide (V.int (((2 : Nat) : Int) + 1) = (sizG ("put" : Str)).getD .non) = false by decide +kernel)
  | put2 x f => exact (show decide (V.int (((3 : Nat) : Int) + 1) = (sizG ("put" : Str)).getD .non) = true by decide +kernel)
  | q0 a => cases a <;> decide +kernel
theorem siz_scal (i : Int) (z : Str) : scal (.int i) ((sizG z).getD .non) = true := by
  unfold sizG
  cases sizTab.lookup z <;> rfl
theorem endThose_cons (ws : List Str) (fr : Fr) (r : List Fr) (g : Fo Str) : endThose ws (fr :: r) g = if fr.wd ∈ ws then endThose ws r (fr.close g) else (fr :: r, g) := by
  rw [endThose]
theorem endAll_cons (fr : Fr) (r : List Fr) (g : Fo Str) : endAll (fr :: r) g = if fr.cl = true then endAll r (fr.close g) else (fr :: r, g) := by
  rw [endAll]
theorem endThose_nil (ws : List Str) (g : Fo Str) : endThose ws [] g = ([], g) := by
  rw [endThose]
theorem endAll_nil (g : Fo Str) : endAll [] g = ([], g) := by
  rw [endAll]
theorem isE_cons {x : V} {xr : List V} : (!(x :: xr).reverse.isEmpty) = true := by simp
theorem isE_nil : (!([] : List V).reverse.isEmpty) = false := rfl
section
variable {X : Cx} {o e : Expr} {td ty : TE} {apos cpos : Pos}
/-- d.get(text), d a dict of the module that may not hold it -/
def tKGet1 (K : PySem.W.Frag) (w : World) (td ty : TE) : TE := fun σ H Q => td σ H fun x H1 => ∃ d g, x = .ref d ∧ KTab K w d g ∧ ty σ H1 fun y H2 => ∃ z, y = .str z ∧ Q ((g z).getD .non) H2
theorem pe_kget1 (ho : PE X o td) (he : PE X e ty) (m : M1 X o "get" apos e cpos) : PE X (.Call (.Attribute o "get" apos) [e] [] cpos) (tKGet1 X.K X.w td ty) := by
  constructor
  intro pins s σ H Q I h
  refine wpAny_Call_method m.base m.few m.line PySem.F.plainAttrs_dict PySem.F.slot_dict_get PySem.F.type_dict_get
    (thn (ho.run pins s σ H _ I h) fun u s1 q0 => ?_)
  obtain ⟨x, H1, I1, rx, d, g, ex, T, q1⟩ := q0
  subst ex
  obtain rfl : u = Value.ref d := rx
  obtain ⟨es, n, D⟩ := T.at_
  have mp := PySem.W.mapOf_K (prog := X.prog) (w := X.w) I1.kIn D.at_ D.lit
  refine ⟨mp.typeIs, fun b eb => ?_, ?_⟩
  · cases eb
    exact ⟨_, I1.kIn _ _ D.at_, rfl⟩
  rw [m.trees]
  refine Calls.callWith_builtin rfl (Calls.evalArgs_plain (Calls.spliced_cons (thn (he.run pins s1 σ H1 _ I1 q1) fun iv s2 ⟨y, H2, I2, ry, z, ey, q3⟩ => Calls.spliced_nil ?_)))
  subst ey
  obtain ⟨t, rfl⟩ := ry
  have mp2 := PySem.W.mapOf_K (prog := X.prog) (w := X.w) I2.kIn D.at_ D.lit
  have key := strKind_is X.prog X.w z t
  obtain ⟨r, e1, e2⟩ := T.get z
  have f0 := PySem.W.find_K D.at_ e1
  refine call_meetsIn PySem.F.slot_dict_get mp2.typeIs PySem.F.entry_dict_get (PySem.F.args_dict_get_2 _ _) (meets_dict_get (strKind X.prog X.w) d key D.low) ⟨_, mp2, ?_⟩
  rw [f0]
  cases hg : g z with
  | none =>
    rw [hg] at e2 q3
    have e2 : r = none := e2
    subst e2
    exact ⟨.non, H2, I2.tok _, rfl, q3⟩
  | some v =>
    rw [hg] at e2 q3
    obtain ⟨u, rfl, rv⟩ := e2
    exact ⟨v, H2, I2.tok _, rv, q3⟩
end
def spRThose (K : PySem.W.Frag) (C : Addr) : Sp := fun vs H Q _ => ∃ (a pb t : Addr) (ws : List Str) (bg : List Fr) (d : Str) (v : V) (g : Fo Str) (n : Nat), vs = [.ref a, .ref t] ∧ SqT K H t (ws.map V.str) ∧ RdAt K C a pb H bg d v n ∧ Tg K 0 0 H v g.d ∧ (∀ fr ∈ bg, fr.wd ∈ ws → fr.cl = true ∨ fr = .neg) ∧
  ∀ (H' : Hp) (v' : V), Keep a pb H H' → RdAt K C a pb H' (endThose ws bg g).1 d v' n → Tg K 0 0 H' v' (endThose ws bg g).2.d → Q .non H'
def spRAll (K : PySem.W.Frag) (C : Addr) : Sp := fun vs H Q _ => ∃ (a pb : Addr) (bg : List Fr) (d : Str) (v : V) (g : Fo Str) (n : Nat), vs = [.ref a] ∧ RdAt K C a pb H bg d v n ∧ Tg K 0 0 H v g.d ∧
  ∀ (H' : Hp) (v' : V), Keep a pb H H' → RdAt K C a pb H' (endAll bg g).1 d v' n → Tg K 0 0 H' v' (endAll bg g).2.d → Q .non H'
section
variable {P : Program} {w : World} {K : PySem.W.Frag} {mg : Str → Option Value} {base : Heap}
theorem scRThose : FnScope ["self", "words"] ["self", "words"] (defScope sRThose) := ⟨rfl, rfl, rfl, by decide +kernel, rfl, by decide +kernel, by decide +kernel⟩
theorem scRAll : FnScope ["self"] ["self"] (defScope sRAll) := ⟨rfl, rfl, rfl, by decide +kernel, rfl, by decide +kernel, by decide +kernel⟩
theorem ok_rthose {f C : Addr} {fd : FuncData} (F : Fun K "end_those" "Reading.end_those" sRThose f fd) (T : RdT K mg C) (IN : MDefT P w K mg base CX0 C "end_innermost" 1 ["self"] (spRInner K C)) : FnOk P w K mg base CX0 2 f fd ["self", "words"] (spRThose K C) := by
  refine F.ok scRThose (fun vs H Q E h => ?_) (fun cdv A outer s H vs Q E hr h => ?_)
  · obtain ⟨a, pb, t, ws, bg, d, v, g, n, rfl, _⟩ := h
    rfl
  obtain ⟨a, pb, t, ws, bg, d, v, g, n, rfl, ht, R0, hv, hws, q⟩ := h
  refine ⟨_, (pss_one (ps_while PassesOwn.never (PW.pt (pw_and (pt_truth (pe_fld (pv 0) rfl) (fun _ => rfl)) (pw_and1 (pt_cmpR op_in_seq (pe_ix ix_tup (pe_ix ix_list (pe_fld (pv 0) rfl) (pe_un un_neg pe_int) (fun _ _ => rfl)) pe_int (fun _ _ => rfl)) (pv 1) (by rfl))))) (pss_one (ps_expr (pe_mdefT0 T.cl IN hr (pv 0)))))), ?_⟩
  refine ⟨fun m σ H' => ∃ (bi : List Fr) (gi : Fo Str) (vi : V), σ = [some (.ref a), some (.ref t)] ∧ Keep a pb H H' ∧ RdAt K C a pb H' bi d vi n ∧ Tg K 0 0 H' vi gi.d ∧ endThose ws bi gi = endThose ws bg g ∧ (∀ fr ∈ bi, fr.wd ∈ ws → fr.cl = true ∨ fr = .neg) ∧ bi.length = m,
    ⟨_, bg, g, v, rfl, Keep.refl, R0, hv, rfl, hws, rfl⟩, ?_⟩
  rintro m σ H1 ⟨bi, gi, vi, rfl, k1, R1, v1, e1, w1, hm⟩
  obtain ⟨dx, h1⟩ := R1.ob
  obtain ⟨xs, h2, h3⟩ := R1.ls
  refine ⟨_, rfl, a, C, dx, _, _, rfl, h1, T.cl, T.nB, fsR_begun, _, .inl ⟨_, SqL.of h2, rfl⟩, ?_⟩
  cases bi with
  | nil =>
    cases h3
    refine iteF ?_
    rw [endThose_nil] at e1
    rw [← e1] at q
    exact iteF (q H1 vi k1 R1 v1)
  | cons fr r =>
    cases h3 with
    | @cons x xr _ _ hx hxr =>
    rw [isE_cons]
    have hx' := hx
    obtain ⟨dr, hds⟩ := fr_wd fr
    unfold Fr.dd at hx'
    rw [hds] at hx'
    cases hx' with
    | @tup ta ys _ hta hys =>
    cases hys with
    | @cons y yr _ _ hy hyr =>
    cases hy
    have at1 : atI (.ref ta :: xr).reverse (-1) = some (.ref ta) := by
      rw [List.reverse_cons]
      exact atI_last _ _
    refine iteT ?_
    refine ⟨_, rfl, a, C, dx, _, _, rfl, h1, T.cl, T.nB, fsR_begun, _, rfl, pb, _, _, _, rfl, rfl, SqL.of h2, at1, ta, _, _, _, rfl, rfl, hta, atI_nat (j := 0) rfl, _, rfl, t, _, rfl, .inr (R0.seqT k1 ht), rfl, flat_strs _, _, rfl, ite2 (fun c => ?_) (fun c => ?_)⟩
    · rw [inV_strs] at c
      have cw := of_decide_eq_true c
      rw [endThose_cons, if_pos cw] at e1
      refine ⟨fun σ' H' => ∃ (bi : List Fr) (gi : Fo Str) (vi : V), σ' = [some (.ref a), some (.ref t)] ∧ Keep a pb H H' ∧ RdAt K C a pb H' bi d vi n ∧ Tg K 0 0 H' vi gi.d ∧ endThose ws bi gi = endThose ws bg g ∧ (∀ fr ∈ bi, fr.wd ∈ ws → fr.cl = true ∨ fr = .neg) ∧ bi.length = r.length,
        fun _ _ h => ⟨r.length, by rw [← hm]; exact Nat.lt_succ_self _, h⟩, ?_⟩
      refine ⟨_, rfl, a, dx, _, rfl, h1, (fsR_no (by decide +kernel) (by decide +kernel) (by decide +kernel) (by decide +kernel)), a, pb, fr, r, d, vi, gi, n, rfl, R1, v1, w1 fr List.mem_cons_self cw, fun H2 v2 k2 R2 g2 => ?_⟩
      exact ⟨r, fr.close gi, v2, rfl, k1.trans k2, R2, g2, e1, fun f2 m2 => w1 f2 (List.mem_cons_of_mem _ m2), rfl⟩
    · rw [inV_strs] at c
      have cw : ¬ fr.wd ∈ ws := fun m => c (decide_eq_true m)
      rw [endThose_cons, if_neg cw] at e1
      rw [← e1] at q
      exact q H1 vi k1 R1 v1
theorem ok_rall {f C aS : Addr} {fd : FuncData} (F : Fun K "end_all" "Reading.end_all" sRAll f fd) (T : RdT K mg C) (IN : MDefT P w K mg base CX0 C "end_innermost" 1 ["self"] (spRInner K C)) (mS : mg "SIZES" = some (.ref aS)) (TS : KTab K w aS sizG) (ml : mg "len" = none) : FnOk P w K mg base CX0 2 f fd ["self"] (spRAll K C) := by
  refine F.ok scRAll (fun vs H Q E h => ?_) (fun cdv A outer s H vs Q E hr h => ?_)
  · obtain ⟨a, pb, bg, d, v, g, n, rfl, _⟩ := h
    rfl
  obtain ⟨a, pb, bg, d, v, g, n, rfl, R0, hv, q⟩ := h
  refine ⟨_, (pss_one (ps_while PassesOwn.never (PW.pt (pw_and (pt_truth (pe_fld (pv 0) rfl) (fun _ => rfl)) (pw_and1 (pt_cmpR op_eq (pe_op op_add (pe_callB call_len_seq (by rfl) ml PySem.boot_len (pa_cons (pe_ix ix_list (pe_fld (pv 0) rfl) (pe_un un_neg pe_int) (fun _ _ => rfl)) pa_nil)) pe_int) (pe_kget1 (pe_glob (v := .ref aS) rfl mS rfl) (pe_ix ix_tup (pe_ix ix_list (pe_fld (pv 0) rfl) (pe_un un_neg pe_int) (fun _ _ => rfl)) pe_int (fun _ _ => rfl)) ⟨rfl, rfl, rfl, rfl⟩) (nomark _))))) (pss_one (ps_expr (pe_mdefT0 T.cl IN hr (pv 0)))))), ?_⟩
  refine ⟨fun m σ H' => ∃ (bi : List Fr) (gi : Fo Str) (vi : V), σ = [some (.ref a)] ∧ Keep a pb H H' ∧ RdAt K C a pb H' bi d vi n ∧ Tg K 0 0 H' vi gi.d ∧ endAll bi gi = endAll bg g ∧ bi.length = m,
    ⟨_, bg, g, v, rfl, Keep.refl, R0, hv, rfl, rfl⟩, ?_⟩
  rintro m σ H1 ⟨bi, gi, vi, rfl, k1, R1, v1, e1, hm⟩
  obtain ⟨dx, h1⟩ := R1.ob
  obtain ⟨xs, h2, h3⟩ := R1.ls
  refine ⟨_, rfl, a, C, dx, _, _, rfl, h1, T.cl, T.nB, fsR_begun, _, .inl ⟨_, SqL.of h2, rfl⟩, ?_⟩
  cases bi with
  | nil =>
    cases h3
    refine iteF ?_
    rw [endAll_nil] at e1
    rw [← e1] at q
    exact iteF (q H1 vi k1 R1 v1)
  | cons fr r =>
    cases h3 with
    | @cons x xr _ _ hx hxr =>
    rw [isE_cons]
    have hx' := hx
    obtain ⟨dr, hds⟩ := fr_wd fr
    have hl : fr.ds.length = dr.length + 1 := by rw [hds]; rfl
    unfold Fr.dd at hx'
    rw [hds] at hx'
    cases hx' with
    | @tup ta ys _ hta hys =>
    cases hys with
    | @cons y yr _ _ hy hyr =>
    cases hy
    have at1 : atI (.ref ta :: xr).reverse (-1) = some (.ref ta) := by
      rw [List.reverse_cons]
      exact atI_last _ _
    have hyl : dr.length = yr.length := hyr.len
    refine iteT ?_
    refine ⟨_, rfl, a, C, dx, _, _, rfl, h1, T.cl, T.nB, fsR_begun, _, rfl, pb, _, _, _, rfl, rfl, SqL.of h2, at1, ta, _, rfl, .inr hta, _, _, rfl, rfl, ?_⟩
    refine ⟨aS, sizG, rfl, TS, _, rfl, a, C, dx, _, _, rfl, h1, T.cl, T.nB, fsR_begun, _, rfl, pb, _, _, _, rfl, rfl, SqL.of h2, at1, ta, _, _, _, rfl, rfl, hta, atI_nat (j := 0) rfl, fr.wd, rfl, ?_⟩
    refine ⟨siz_scal _ _, _, rfl, ?_⟩
    have el : ((V.str fr.wd :: yr).length : Int) + 1 = (fr.ds.length : Int) + 1 := by
      rw [hl, List.length_cons, hyl]
    show if decide (V.int (((V.str fr.wd :: yr).length : Int) + 1) = (sizG fr.wd).getD .non) = true then _ else _
    rw [el, siz_cl]
    by_cases cw : fr.cl = true
    · rw [endAll_cons, if_pos cw] at e1
      rw [if_pos cw]
      refine ⟨fun σ' H' => ∃ (bi : List Fr) (gi : Fo Str) (vi : V), σ' = [some (.ref a)] ∧ Keep a pb H H' ∧ RdAt K C a pb H' bi d vi n ∧ Tg K 0 0 H' vi gi.d ∧ endAll bi gi = endAll bg g ∧ bi.length = r.length,
        fun _ _ h => ⟨r.length, by rw [← hm]; exact Nat.lt_succ_self _, h⟩, ?_⟩
      refine ⟨_, rfl, a, dx, _, rfl, h1, (fsR_no (by decide +kernel) (by decide +kernel) (by decide +kernel) (by decide +kernel)), a, pb, fr, r, d, vi, gi, n, rfl, R1, v1, .inl cw, fun H2 v2 k2 R2 g2 => ?_⟩
      exact ⟨r, fr.close gi, v2, rfl, k1.trans k2, R2, g2, e1, rfl⟩
    · rw [endAll_cons, if_neg cw] at e1
      rw [if_neg cw]
      rw [← e1] at q
      exact q H1 vi k1 R1 v1
end
end Kn
set_option Elab.async false
set_option linter.all false
set_option maxRecDepth 100000
set_option maxHeartbeats 4000000
set_option pp.maxSteps 1200
namespace Kn
open PySem L2 TL PySem.Spec PyProof.Rows
/-! ### methods of Reading: begin, end, the takes -/
def dueS : Due → Str
  | .formula => "formula" | .operand => "operand" | .name => "name" | .sign => "sign" | .put => "put"
/-- at a stands a reading that has come to s -/
def RdS (K : PySem.W.Frag) (C a pb : Addr) (H : Hp) (s : Rd) : Prop := ∃ v, RdAt K C a pb H s.bg (dueS s.due) v s.op ∧ (s.due = .sign ∨ s.due = .put → Tg K 0 0 H v s.last.d)
def spRInit (K : PySem.W.Frag) (C : Addr) : Sp := fun vs H Q _ => ∃ (H0 : Hp) (a dx : Addr), vs = [.ref a] ∧ Same H0 H ∧ H0 a = none ∧ H a = some (.ins C dx []) ∧ ∀ (H' : Hp) (pb : Addr), Same H0 H' → H0 pb = none → RdS K C a pb H' begun0 → Q .non H'
def spRBegin (K : PySem.W.Frag) (C : Addr) : Sp := fun vs H Q _ => ∃ (a pb : Addr) (vt : V) (fr : Fr) (due : Str) (bg : List Fr) (d : Str) (v : V) (n : Nat), vs = [.ref a, vt, .str due] ∧ RdAt K C a pb H bg d v n ∧ Tg K 0 0 H vt fr.dd ∧ bg.length < 100000 ∧
  ∀ H' : Hp, Keep a pb H H' → RdAt K C a pb H' (fr :: bg) due v n → Q .non H'
def spREnd (K : PySem.W.Frag) (C : Addr) : Sp := fun vs H Q _ => ∃ (a pb : Addr) (vf : V) (f : Fo Str) (due : Str) (bg : List Fr) (d : Str) (v : V) (n : Nat), vs = [.ref a, vf, .str due] ∧ RdAt K C a pb H bg d v n ∧ Tg K 0 0 H vf f.d ∧
  ∀ (H' : Hp) (v' : V), Keep a pb H H' → RdAt K C a pb H' (endThose ["not"] bg f).1 due v' n → Tg K 0 0 H' v' (endThose ["not"] bg f).2.d → Q .non H'
section
variable {P : Program} {w : World} {K : PySem.W.Frag} {mg : Str → Option Value} {base : Heap}
theorem scRInit : FnScope ["self"] ["self"] (defScope sRInit) := ⟨rfl, rfl, rfl, by decide +kernel, rfl, by decide +kernel, by decide +kernel⟩
theorem scRBegin : FnScope ["self", "begun", "due"] ["self", "begun", "due"] (defScope sRBegin) := ⟨rfl, rfl, rfl, by decide +kernel, rfl, by decide +kernel, by decide +kernel⟩
theorem scREnd : FnScope ["self", "formula", "due"] ["self", "formula", "due"] (defScope sREnd) := ⟨rfl, rfl, rfl, by decide +kernel, rfl, by decide +kernel, by decide +kernel⟩
theorem ok_rinit {f C : Addr} {fd : FuncData} (F : Fun K "__init__" "Reading.__init__" sRInit f fd) (T : RdT K mg C) : FnOk P w K mg base CX0 1 f fd ["self"] (spRInit K C) := by
  refine F.ok scRInit (fun vs H Q E h => ?_) (fun cdv A outer s H vs Q E hr h => ?_)
  · obtain ⟨H0, a, dx, rfl, _⟩ := h
    rfl
  obtain ⟨H0, a, dx, rfl, s0, a0, h1, q⟩ := h
  refine ⟨_, (pss_cons (ps_fld (pv 0) (pe_lst pa_nil) rfl)
    (pss_cons (ps_fld (pv 0) pe_str rfl)
    (pss_cons (ps_fld (pv 0) pe_non rfl)
    (pss_one (ps_fld (pv 0) pe_int rfl))))), ?_⟩
  refine ⟨Nat.zero_le _, fun pb hpb => ?_⟩
  have npa : a ≠ pb := fun z => by rw [z, hpb] at h1; cases h1
  have nH : ∀ {b : Addr} {o : HO}, H0 b = some o → b ≠ a := fun {b o} e z => by rw [z, a0] at e; cases e
  have p0 : H0 pb = none := none_back s0 hpb
  have s1 := s0.trans (same_new hpb (.lst []))
  have h11 : (upd H pb (.lst [])) a = some (.ins C dx []) := by rw [upd_ne npa]; exact h1
  have hp1 : (upd H pb (.lst [])) pb = some (.lst []) := upd_same
  generalize upd H pb (.lst []) = H1 at s1 h11 hp1 ⊢
  refine ⟨_, rfl, a, C, dx, _, rfl, h11, T.cl, T.nB, (by show 0 < 1000; decide), ?_⟩
  refine ⟨_, rfl, a, C, dx, _, rfl, upd_same, T.cl, T.nD, (by show 1 < 1000; decide), ?_⟩
  have e2 : putF "due" (.str "formula") (putF "begun" (V.ref pb) []) = ([("begun", .ref pb), ("due", .str "formula")] : List (Str × V)) := by
    simp only [putF, if_neg nr_begun_due]
  rw [e2]
  refine ⟨_, rfl, a, C, dx, _, rfl, upd_same, T.cl, T.nL, (by show 2 < 1000; decide), ?_⟩
  have e3 : putF "last" .non ([("begun", .ref pb), ("due", .str "formula")] : List (Str × V)) = ([("begun", .ref pb), ("due", .str "formula"), ("last", .non)] : List (Str × V)) := by
    simp only [putF, if_neg nr_begun_last, if_neg nr_due_last]
  rw [e3]
  refine ⟨_, rfl, a, C, dx, _, rfl, upd_same, T.cl, T.nO, (by show 3 < 1000; decide), ?_⟩
  have e4 : putF "openers" (.int 0) ([("begun", .ref pb), ("due", .str "formula"), ("last", .non)] : List (Str × V)) = fsR pb "formula" .non 0 := by
    simp only [putF, if_neg nr_begun_openers, if_neg nr_due_openers, if_neg nr_last_openers, fsR]
    rfl
  rw [e4]
  refine q _ pb (fun b o e => ?_) p0 ⟨.non, ⟨⟨dx, upd_same⟩, [], ?_, .nil⟩, fun h => by rcases h with h | h <;> cases h⟩
  · rw [upd_ne (nH e), upd_ne (nH e), upd_ne (nH e), upd_ne (nH e)]
    exact s1 b o e
  · rw [upd_ne npa.symm, upd_ne npa.symm, upd_ne npa.symm, upd_ne npa.symm]
    exact hp1
theorem ok_rbegin {f C : Addr} {fd : FuncData} (F : Fun K "begin" "Reading.begin" sRBegin f fd) (T : RdT K mg C) : FnOk P w K mg base CX0 1 f fd ["self", "begun", "due"] (spRBegin K C) := by
  refine F.ok scRBegin (fun vs H Q E h => ?_) (fun cdv A outer s H vs Q E hr h => ?_)
  · obtain ⟨a, pb, vt, fr, due, bg, d, v, n, rfl, _⟩ := h
    rfl
  obtain ⟨a, pb, vt, fr, due, bg, d, v, n, rfl, hR, hv, hb, q⟩ := h
  refine ⟨_, (pss_cons (ps_expr (pe_bm PySem.F.plainAttrs_list PySem.F.slot_list_append PySem.F.type_list_append mt_append (pe_fld (pv 0) rfl) (pa_cons (pv 1) pa_nil)))
    (pss_one (ps_fld (pv 0) (pv 2) rfl))), ?_⟩
  obtain ⟨dx, h1⟩ := hR.ob
  obtain ⟨xs, h2, h3⟩ := hR.ls
  have hl : (bg.map Fr.dd).length = xs.length := h3.len
  rw [List.length_map] at hl
  have hsz : xs.reverse.length < sizeLine := by
    have : sizeLine = 16777216 := sizeLine_eq
    rw [List.length_reverse]
    omega
  refine ⟨_, rfl, a, C, dx, _, _, rfl, h1, T.cl, T.nB, fsR_begun, .inl ⟨rfl, _, SqL.of h2⟩, _, rfl, pb, _, _, rfl, rfl, h2, hsz, ?_⟩
  have e : xs.reverse ++ [vt] = (vt :: xs).reverse := by simp
  rw [e]
  have k1 : Keep a pb H (upd H pb (.lst (vt :: xs).reverse)) := keep_b
  have R1 := hR.list (bg2 := fr :: bg) (xs := vt :: xs) (.cons hv h3)
  generalize upd H pb (.lst (vt :: xs).reverse) = H1 at k1 R1 ⊢
  obtain ⟨dx1, h11⟩ := R1.ob
  refine ⟨_, rfl, _, rfl, a, C, dx1, _, rfl, h11, T.cl, T.nD, fsR_len, ?_⟩
  rw [putR_due]
  exact q _ (k1.trans keep_a) R1.put
theorem ok_rend {f C : Addr} {fd : FuncData} (F : Fun K "end" "Reading.end" sREnd f fd) (T : RdT K mg C) (TH : MDefT P w K mg base CX0 C "end_those" 2 ["self", "words"] (spRThose K C)) : FnOk P w K mg base CX0 3 f fd ["self", "formula", "due"] (spREnd K C) := by
  refine F.ok scREnd (fun vs H Q E h => ?_) (fun cdv A outer s H vs Q E hr h => ?_)
  · obtain ⟨a, pb, vf, fo, due, bg, d, v, n, rfl, _⟩ := h
    rfl
  obtain ⟨a, pb, vf, fo, due, bg, d, v, n, rfl, hR, hv, q⟩ := h
  refine ⟨_, (pss_cons (ps_fld (pv 0) (pv 1) rfl)
    (pss_cons (ps_fld (pv 0) (pv 2) rfl)
    (pss_one (ps_expr (pe_mdefT T.cl TH hr (pv 0) (pa_cons (pe_tup (pa_cons pe_str pa_nil)) pa_nil)))))), ?_⟩
  obtain ⟨dx, h1⟩ := hR.ob
  refine ⟨_, rfl, _, rfl, a, C, dx, _, rfl, h1, T.cl, T.nL, fsR_len, ?_⟩
  rw [putR_last]
  have k1 : Keep a pb H (upd H a (.ins C dx (fsR pb d vf n))) := keep_a
  have R1 := hR.put (dx := dx) (d2 := d) (v2 := vf) (n2 := n)
  have hv1 := hR.tg (s' := 0) (l' := 0) k1 (fo_pureT fo) hv
  have h11 : (upd H a (.ins C dx (fsR pb d vf n))) a = some (.ins C dx (fsR pb d vf n)) := upd_same
  generalize upd H a (.ins C dx (fsR pb d vf n)) = H1 at k1 R1 hv1 h11 ⊢
  refine ⟨_, rfl, _, rfl, a, C, dx, _, rfl, h11, T.cl, T.nD, fsR_len, ?_⟩
  rw [putR_due]
  have k2 : Keep a pb H1 (upd H1 a (.ins C dx (fsR pb due vf n))) := keep_a
  have R2 := R1.put (dx := dx) (d2 := due) (v2 := vf) (n2 := n)
  have hv2 := R1.tg (s' := 0) (l' := 0) k2 (fo_pureT fo) hv1
  have h12 : (upd H1 a (.ins C dx (fsR pb due vf n))) a = some (.ins C dx (fsR pb due vf n)) := upd_same
  generalize upd H1 a (.ins C dx (fsR pb due vf n)) = H2 at k2 R2 hv2 h12 ⊢
  refine ⟨_, rfl, a, dx, _, rfl, h12, (fsR_no (by decide +kernel) (by decide +kernel) (by decide +kernel) (by decide +kernel)), (by show 1 ≤ sizeLine; decide), fun p hp => ?_⟩
  have s3 : Same H2 (upd H2 p (.tup [.str "not"])) := same_new hp _
  refine ⟨a, pb, p, ["not"], bg, due, vf, fo, n, rfl, SqT.of upd_same, R2.same s3, hv2.same s3, fun fr _ m => .inr ?_, fun H' v' k4 R4 g4 => q H' v' (k1.trans (k2.trans ((Keep.of s3).trans k4))) R4 g4⟩
  by_cases hn : fr = .neg
  · exact hn
  · exact absurd m (not_wd hn)
end
end Kn
set_option Elab.async false
set_option linter.all false
set_option maxRecDepth 100000
set_option maxHeartbeats 4000000
set_option pp.maxSteps 1200
namespace Kn
open PySem L2 TL PySem.Spec PyProof.Rows
/-! ### methods of Reading: the takes -/
theorem due_f {d : Due} : dueS d = "formula" ↔ d = .formula := by
  cases d <;> simp only [dueS] <;> first | exact ⟨fun _ => rfl, fun _ => rfl⟩ | exact ⟨fun h => absurd h (by decide +kernel), fun h => nomatch h⟩
theorem due_n {d : Due} : dueS d = "name" ↔ d = .name := by
  cases d <;> simp only [dueS] <;> first | exact ⟨fun _ => rfl, fun _ => rfl⟩ | exact ⟨fun h => absurd h (by decide +kernel), fun h => nomatch h⟩
theorem due_p {d : Due} : dueS d = "put" ↔ d = .put := by
  cases d <;> simp only [dueS] <;> first | exact ⟨fun _ => rfl, fun _ => rfl⟩ | exact ⟨fun h => absurd h (by decide +kernel), fun h => nomatch h⟩
theorem due_fo {d : Due} : dueS d ∈ ([("formula" : Str), "operand"]) ↔ (d = .formula ∨ d = .operand) := by
  cases d with
  | formula => exact ⟨fun _ => .inl rfl, fun _ => List.mem_cons_self⟩
  | operand => exact ⟨fun _ => .inr rfl, fun _ => List.mem_cons_of_mem _ List.mem_cons_self⟩
  | name => exact ⟨fun h => absurd h (show ¬ ("name" : Str) ∈ ([("formula" : Str), "operand"]) by decide +kernel), fun h => by rcases h with h | h <;> cases h⟩
  | sign => exact ⟨fun h => absurd h (show ¬ ("sign" : Str) ∈ ([("formula" : Str), "operand"]) by decide +kernel), fun h => by rcases h with h | h <;> cases h⟩
  | put => exact ⟨fun h => absurd h (show ¬ ("put" : Str) ∈ ([("formula" : Str), "operand"]) by decide +kernel), fun h => by rcases h with h | h <;> cases h⟩
theorem due_sp {d : Due} : dueS d ∈ ([("sign" : Str), "put"]) ↔ (d = .sign ∨ d = .put) := by
  cases d with
  | formula => exact ⟨fun h => absurd h (show ¬ ("formula" : Str) ∈ ([("sign" : Str), "put"]) by decide +kernel), fun h => by rcases h with h | h <;> cases h⟩
  | operand => exact ⟨fun h => absurd h (show ¬ ("operand" : Str) ∈ ([("sign" : Str), "put"]) by decide +kernel), fun h => by rcases h with h | h <;> cases h⟩
  | name => exact ⟨fun h => absurd h (show ¬ ("name" : Str) ∈ ([("sign" : Str), "put"]) by decide +kernel), fun h => by rcases h with h | h <;> cases h⟩
  | sign => exact ⟨fun _ => .inl rfl, fun _ => List.mem_cons_self⟩
  | put => exact ⟨fun _ => .inr rfl, fun _ => List.mem_cons_of_mem _ List.mem_cons_self⟩
/-- the wish: a word w that can stand after s leads on to the state that step tells -/
def spRW (K : PySem.W.Frag) (C : Addr) (step : Rd → Str → Option Rd) (pre : Rd → Prop) : Sp := fun vs H Q _ => ∃ (a pb : Addr) (x : Str) (s s2 : Rd), vs = [.ref a, .str x] ∧ RdS K C a pb H s ∧ okS x = true ∧ pre s ∧ step s x = some s2 ∧ s.bg.length < 100000 ∧
  ∀ H' : Hp, Keep a pb H H' → RdS K C a pb H' s2 → Q (.bl true) H'
theorem iteFb {b : Bool} {A R : Prop} (h : b = false) (hr : R) : if b = true then A else R := by
  rw [h]
  exact iteF hr
theorem name_inv {s s2 : Rd} {x : Str} (h : s.name x = some s2) : textN x = true ∧ ∃ b r, s.bg = .q0 b :: r ∧ s2 = ⟨(if b then .all x else .som x) :: r, .formula, s.last, s.op⟩ := by
  unfold Rd.name at h
  by_cases c : textN x = true
  · rw [if_pos c] at h
    refine ⟨c, ?_⟩
    split at h
    · next b r hb => exact ⟨b, r, hb, (Option.some.inj h).symm⟩
    · cases h
  · rw [if_neg c] at h
    cases h
section
variable {P : Program} {w : World} {K : PySem.W.Frag} {mg : Str → Option Value} {base : Heap}
theorem scRName : FnScope ["self", "word", "quantifier"] ["self", "word"] (defScope sRName) := ⟨rfl, rfl, rfl, by decide +kernel, rfl, by decide +kernel, by decide +kernel⟩
theorem scRFirst : FnScope ["self", "word"] ["self", "word"] (defScope sRFirst) := ⟨rfl, rfl, rfl, by decide +kernel, rfl, by decide +kernel, by decide +kernel⟩
theorem ok_rname {f C : Addr} {fd : FuncData} (F : Fun K "take_name" "Reading.take_name" sRName f fd) (T : RdT K mg C) (TN : Def P w K mg base CX0 "is_text_name" 2 ["word"] (spTextN K)) (BG : MDefT P w K mg base CX0 C "begin" 1 ["self", "begun", "due"] (spRBegin K C)) :
    FnOk P w K mg base CX0 4 f fd ["self", "word"] (spRW K C Rd.name fun _ => True) := by
  refine F.ok scRName (fun vs H Q E h => ?_) (fun cdv A outer s H vs Q E hr h => ?_)
  · obtain ⟨a, pb, x, s, s2, rfl, _⟩ := h
    rfl
  obtain ⟨a, pb, x, st, s2, rfl, ⟨v, hR, _⟩, hx, _, hs, hb, q⟩ := h
  obtain ⟨tn, b, r, ebg, rfl⟩ := name_inv hs
  have hr1 : Room 1 _ := hr.mono (by omega)
  have hr2 : Room 2 _ := hr.mono (by omega)
  refine ⟨_, (pss_cons (ps_if (pt_not (pt_val (pe_def TN hr2 rfl (pa_cons (pv 1) pa_nil)))) (pss_one (ps_ret pe_bl)) pss_nil)
    (pss_cons (ps_set (i := 2) scRName.nd rfl (Or.inl rfl) (pe_bm0 PySem.F.plainAttrs_list PySem.F.slot_list_pop PySem.F.type_list_pop mt_pop (pe_fld (pv 0) rfl)))
    (pss_cons (ps_expr (pe_mdefT T.cl BG hr1 (pv 0) (pa_cons (pe_tup (StX.pa_star (pv 2) (pa_cons (pv 1) pa_nil))) (pa_cons pe_str pa_nil))))
    (pss_one (ps_ret pe_bl))))), ?_⟩
  refine ⟨_, rfl, x, rfl, hx, _, rfl, ?_⟩
  rw [tn]
  refine iteF ?_
  rw [ebg] at hR
  obtain ⟨dx, h1⟩ := hR.ob
  obtain ⟨xs, h2, h3⟩ := hR.ls
  cases h3 with
  | @cons y xr _ _ hy hxr =>
  have hlast : (y :: xr).reverse[(y :: xr).reverse.length - 1]? = some y := by simp
  have hdl : (y :: xr).reverse.dropLast = xr.reverse := by simp
  refine ⟨_, rfl, a, C, dx, _, _, rfl, h1, T.cl, T.nB, fsR_begun, .inl ⟨rfl, _, SqL.of h2⟩, pb, _, _, rfl, rfl, h2, hlast, ?_⟩
  rw [hdl]
  have k1 : Keep a pb H (upd H pb (.lst xr.reverse)) := keep_b
  have R1 := hR.list (bg2 := r) (xs := xr) hxr
  have hx1 := hR.tg (s' := 0) (l' := 0) k1 (fr_pure _) hy
  generalize upd H pb (.lst xr.reverse) = H1 at k1 R1 hx1 ⊢
  obtain ⟨dx1, h11⟩ := R1.ob
  cases hx1 with
  | @tup t ys _ ht hys =>
  have hl : (1 : Nat) = ys.length := hys.len
  refine ⟨_, rfl, a, dx1, _, rfl, h11, (fsR_no (by decide +kernel) (by decide +kernel) (by decide +kernel) (by decide +kernel)), _, rfl, t, ys, rfl, .inl ht, _, rfl, ?_, fun p hp => ?_⟩
  · have : sizeLine = 16777216 := sizeLine_eq
    rw [List.length_append, List.length_singleton]
    omega
  have s1 : Same H1 (upd H1 p (.tup (ys ++ [.str x]))) := same_new hp _
  have ed : (if b = true then Fr.all x else Fr.som x).dd = .tuple ((Fr.q0 b).ds ++ [.str x]) := by cases b <;> rfl
  have tv : Tg K 0 0 (upd H1 p (.tup (ys ++ [.str x]))) (.ref p) (if b = true then Fr.all x else Fr.som x).dd := by
    rw [ed]
    exact .tup (SqT.of upd_same) ((hys.same s1).app (.cons (.str x hx) .nil))
  refine ⟨a, pb, .ref p, _, "formula", r, _, _, _, rfl, R1.same s1, tv, ?_, fun H2 k2 R2 => ?_⟩
  · rw [ebg] at hb
    exact Nat.lt_of_succ_lt hb
  · exact q H2 (k1.trans ((Keep.of s1).trans k2)) ⟨_, R2, fun h => by rcases h with h | h <;> cases h⟩
theorem ok_rfirst {f C : Addr} {fd : FuncData} (F : Fun K "take_first" "Reading.take_first" sRFirst f fd) (T : RdT K mg C) (TN : Def P w K mg base CX0 "is_text_name" 2 ["word"] (spTextN K)) (BG : MDefT P w K mg base CX0 C "begin" 1 ["self", "begun", "due"] (spRBegin K C))
    (EN : MDefT P w K mg base CX0 C "end" 3 ["self", "formula", "due"] (spREnd K C)) : FnOk P w K mg base CX0 4 f fd ["self", "word"] (spRW K C Rd.first fun _ => True) := by
  refine F.ok scRFirst (fun vs H Q E h => ?_) (fun cdv A outer s H vs Q E hr h => ?_)
  · obtain ⟨a, pb, x, s, s2, rfl, _⟩ := h
    rfl
  obtain ⟨a, pb, x, st, s2, rfl, ⟨v, hR, _⟩, hx, _, hs, hb, q⟩ := h
  have hr1 : Room 1 _ := hr.mono (by omega)
  have hr2 : Room 2 _ := hr.mono (by omega)
  refine ⟨_, (pss_cons (ps_if (pt_cmpR op_eq (pv 1) pe_str (nomark _)) (pss_one (ps_expr (pe_mdefT T.cl BG hr1 (pv 0) (pa_cons (pe_tup (pa_cons pe_str pa_nil)) (pa_cons pe_str pa_nil))))) (pss_one (ps_if (pt_cmpR op_eq (pv 1) pe_str (nomark _)) (pss_one (ps_expr (pe_mdefT T.cl BG hr1 (pv 0) (pa_cons (pe_tup (pa_cons pe_str pa_nil)) (pa_cons pe_str pa_nil))))) (pss_one (ps_if (PW.pt (pw_and (pt_cmpR op_in_seq (pv 1) (pe_tup (pa_cons pe_str (pa_cons pe_str pa_nil))) (by rfl)) (pw_and1 (pt_cmpR op_eq (pe_fld (pv 0) rfl) pe_str (nomark _))))) (pss_one (ps_expr (pe_mdefT T.cl BG hr1 (pv 0) (pa_cons (pe_tup (pa_cons (pv 1) pa_nil)) (pa_cons pe_str pa_nil))))) (pss_one (ps_if (pt_cmpR op_eq (pv 1) pe_str (nomark _)) (pss_one (ps_expr (pe_mdefT T.cl EN hr (pv 0) (pa_cons (pe_tup (pa_cons pe_str pa_nil)) (pa_cons pe_str pa_nil))))) (pss_one (ps_if (pt_cmpR op_eq (pv 1) pe_str (nomark _)) (pss_one (ps_expr (pe_mdefT T.cl EN hr (pv 0) (pa_cons (pe_tup (pa_cons pe_str pa_nil)) (pa_cons pe_str pa_nil))))) (pss_one (ps_if (pt_val (pe_def TN hr2 rfl (pa_cons (pv 1) pa_nil))) (pss_one (ps_expr (pe_mdefT T.cl EN hr (pv 0) (pa_cons (pe_tup (pa_cons pe_str (pa_cons (pv 1) pa_nil))) (pa_cons (pe_ifExp (pt_cmpR op_eq (pe_fld (pv 0) rfl) pe_str (nomark _)) pe_str pe_str) pa_nil))))) (pss_one (ps_ret pe_bl)))))))))))))
    (pss_one (ps_ret pe_bl))), ?_⟩
  obtain ⟨dx, h1⟩ := hR.ob
  unfold Rd.first at hs
  by_cases c1 : x = "("
  · rw [if_pos c1] at hs
    refine ⟨_, rfl, rfl, _, rfl, vsTt c1 ?_⟩
    obtain rfl := Option.some.inj hs
    refine ⟨_, rfl, a, dx, _, rfl, h1, (fsR_no (by decide +kernel) (by decide +kernel) (by decide +kernel) (by decide +kernel)), (by show 1 ≤ sizeLine; decide), fun p hp => ?_⟩
    have s3 : Same H (upd H p (.tup [.str "("])) := same_new hp _
    exact ⟨a, pb, .ref p, .par, _, st.bg, _, v, st.op, rfl, (hR).same s3, .tup (SqT.of upd_same) (.cons (.str _ (by decide +kernel)) .nil), hb, fun H' k' R' => q H' ((Keep.of s3).trans k') ⟨v, R', fun h => by rcases h with h | h <;> cases h⟩⟩
  rw [if_neg c1] at hs
  refine ⟨_, rfl, rfl, _, rfl, vsFt c1 ?_⟩
  by_cases c2 : x = "!"
  · rw [if_pos c2] at hs
    refine ⟨_, rfl, rfl, _, rfl, vsTt c2 ?_⟩
    obtain rfl := Option.some.inj hs
    refine ⟨_, rfl, a, dx, _, rfl, h1, (fsR_no (by decide +kernel) (by decide +kernel) (by decide +kernel) (by decide +kernel)), (by show 1 ≤ sizeLine; decide), fun p hp => ?_⟩
    have s3 : Same H (upd H p (.tup [.str "not"])) := same_new hp _
    exact ⟨a, pb, .ref p, .neg, _, st.bg, _, v, st.op, rfl, (hR).same s3, .tup (SqT.of upd_same) (.cons (.str _ (by decide +kernel)) .nil), hb, fun H' k' R' => q H' ((Keep.of s3).trans k') ⟨v, R', fun h => by rcases h with h | h <;> cases h⟩⟩
  rw [if_neg c2] at hs
  refine ⟨_, rfl, rfl, _, rfl, vsFt c2 ?_⟩
  refine ⟨_, rfl, (by show 2 ≤ sizeLine; decide), fun t1 ht1 => ⟨t1, _, rfl, .inr (SqT.of upd_same), rfl, rfl, _, rfl, ?_⟩⟩
  have s1 : Same H (upd H t1 (.tup [.str "some", .str "all"])) := same_new ht1 _
  generalize upd H t1 (.tup [.str "some", .str "all"]) = H1 at s1 ⊢
  have h11 := s1 _ _ h1
  have R1 := hR.same s1
  have hS : st.due = .formula → st.first x = some s2 := fun _ => by
    unfold Rd.first
    rw [if_neg c1, if_neg c2]
    exact hs
  have wo : inV (.str x) (q2t.map V.str) = decide (x = "some" ∨ x = "all") := by
    rw [inV_strs]
    exact decide_eq_decide.mpr ⟨fun h => by rcases List.mem_cons.mp h with h | h; exact .inl h; exact .inr (List.mem_singleton.mp h), fun h => by rcases h with h | h <;> rw [h] <;> decide +kernel⟩
  show if inV (.str x) (q2t.map V.str) = true then _ else _
  rw [wo]
  by_cases c3 : (x = "some" ∨ x = "all") ∧ st.due = .formula
  · rw [decide_eq_true c3.1]
    refine iteT ⟨_, rfl, a, C, dx, _, _, rfl, h11, T.cl, T.nD, fsR_due, rfl, _, rfl, ?_⟩
    rw [decide_eq_true (congrArg V.str (due_f.mpr c3.2))]
    rw [if_pos c3] at hs
    obtain rfl := Option.some.inj hs
    refine iteT ⟨_, rfl, a, dx, _, rfl, h11, (fsR_no (by decide +kernel) (by decide +kernel) (by decide +kernel) (by decide +kernel)), _, rfl, (by show 1 ≤ sizeLine; decide), fun p hp => ?_⟩
    have s3 : Same H1 (upd H1 p (.tup [.str x])) := same_new hp _
    have ed : (Fr.q0 (decide (x = "all"))).dd = .tuple [.str x] := by
      rcases c3.1 with c3 | c3 <;> rw [c3] <;> rfl
    have tv : Tg K 0 0 (upd H1 p (.tup [.str x])) (.ref p) (Fr.q0 (decide (x = "all"))).dd := by
      rw [ed]
      exact .tup (SqT.of upd_same) (.cons (.str _ hx) .nil)
    exact ⟨a, pb, .ref p, _, _, st.bg, _, v, st.op, rfl, R1.same s3, tv, hb, fun H' k' R' => q H' ((Keep.of (s1.trans s3)).trans k') ⟨v, R', fun h => by rcases h with h | h <;> cases h⟩⟩
  · rw [if_neg c3] at hs
    refine ite2 (fun d => ⟨_, rfl, a, C, dx, _, _, rfl, h11, T.cl, T.nD, fsR_due, rfl, _, rfl, iteFb (decide_eq_false fun h => c3 ⟨of_decide_eq_true d, due_f.mp (V.str.inj h)⟩) ?_⟩) (fun d => ?_)
    all_goals
      by_cases c4 : x = "1"
      · rw [if_pos c4] at hs
        refine ⟨_, rfl, rfl, _, rfl, vsTt c4 ?_⟩
        obtain rfl := Option.some.inj hs
        refine ⟨_, rfl, a, dx, _, rfl, h11, (fsR_no (by decide +kernel) (by decide +kernel) (by decide +kernel) (by decide +kernel)), (by show 1 ≤ sizeLine; decide), fun p hp => ?_⟩
        have s3 : Same H1 (upd H1 p (.tup [.str "yes"])) := same_new hp _
        exact ⟨a, pb, .ref p, .yes, _, st.bg, _, v, st.op, rfl, (R1).same s3, .tup (SqT.of upd_same) (.cons (.str _ (by decide +kernel)) .nil), fun H' v' k' R' g' => q H' ((Keep.of (s1.trans s3)).trans k') ⟨v', R', fun _ => g'⟩⟩
      rw [if_neg c4] at hs
      refine ⟨_, rfl, rfl, _, rfl, vsFt c4 ?_⟩
      by_cases c5 : x = "0"
      · rw [if_pos c5] at hs
        refine ⟨_, rfl, rfl, _, rfl, vsTt c5 ?_⟩
        obtain rfl := Option.some.inj hs
        refine ⟨_, rfl, a, dx, _, rfl, h11, (fsR_no (by decide +kernel) (by decide +kernel) (by decide +kernel) (by decide +kernel)), (by show 1 ≤ sizeLine; decide), fun p hp => ?_⟩
        have s3 : Same H1 (upd H1 p (.tup [.str "no"])) := same_new hp _
        exact ⟨a, pb, .ref p, .no, _, st.bg, _, v, st.op, rfl, (R1).same s3, .tup (SqT.of upd_same) (.cons (.str _ (by decide +kernel)) .nil), fun H' v' k' R' g' => q H' ((Keep.of (s1.trans s3)).trans k') ⟨v', R', fun _ => g'⟩⟩
      rw [if_neg c5] at hs
      refine ⟨_, rfl, rfl, _, rfl, vsFt c5 ?_⟩
      by_cases c6 : textN x = true
      · rw [if_pos c6] at hs
        obtain rfl := Option.some.inj hs
        refine ⟨_, rfl, x, rfl, hx, _, rfl, ?_⟩
        rw [c6]
        refine iteT ?_
        refine ⟨_, rfl, a, dx, _, rfl, h11, (fsR_no (by decide +kernel) (by decide +kernel) (by decide +kernel) (by decide +kernel)), _, rfl, (by show 2 ≤ sizeLine; decide), fun p hp => ?_⟩
        have s3 : Same H1 (upd H1 p (.tup [.str "name", .str x])) := same_new hp _
        refine ⟨_, rfl, a, C, dx, _, _, rfl, s3 _ _ h11, T.cl, T.nD, fsR_due, rfl, _, rfl, ?_⟩
        by_cases c7 : st.due = .formula
        · refine vsTt (due_f.mpr c7) ?_
          rw [if_pos c7] at q
          exact ⟨a, pb, .ref p, .nam x, "put", st.bg, _, v, st.op, rfl, R1.same s3, .tup (SqT.of upd_same) (.cons (.str _ (by decide +kernel)) (.cons (.str _ hx) .nil)), fun H' v' k' R' g' => q H' ((Keep.of (s1.trans s3)).trans k') ⟨v', R', fun _ => g'⟩⟩
        · refine vsFt (fun h => c7 (due_f.mp h)) ?_
          rw [if_neg c7] at q
          exact ⟨a, pb, .ref p, .nam x, "sign", st.bg, _, v, st.op, rfl, R1.same s3, .tup (SqT.of upd_same) (.cons (.str _ (by decide +kernel)) (.cons (.str _ hx) .nil)), fun H' v' k' R' g' => q H' ((Keep.of (s1.trans s3)).trans k') ⟨v', R', fun _ => g'⟩⟩
      · rw [if_neg c6] at hs
        cases hs
end
end Kn
set_option Elab.async false
set_option linter.all false
set_option maxRecDepth 100000
set_option maxHeartbeats 4000000
set_option pp.maxSteps 1200
namespace Kn
open PySem L2 TL PySem.Spec PyProof.Rows
/-! ### take_join, take_mate, take_put -/
def joTab : List (Str × Str) := [("&", "and"), ("^", "xor"), ("|", "or"), ("?", "if")]
def joG (z : Str) : Option V := (joTab.lookup z).map V.str
def maTab : List (Str × Str) := [(")", "("), (":", "if"), ("in", "put")]
def maG (z : Str) : Option V := (maTab.lookup z).map V.str
abbrev isJo (x : Str) : Prop := x = "&" ∨ x = "^" ∨ x = "|" ∨ x = "?"
abbrev isMa (x : Str) : Prop := x = ")" ∨ x = ":" ∨ x = "in"
theorem jo_mem {x : Str} (h : isJo x) : joG x = some (.str (joinF x .yes).wd) := by
  rcases h with rfl | rfl | rfl | rfl <;> decide +kernel
theorem jo_ds {x : Str} (h : isJo x) (f : Fo Str) : (joinF x f).dd = .tuple [.str (joinF x .yes).wd, f.d] := by
  rcases h with rfl | rfl | rfl | rfl <;> rfl
theorem jo_ok {x : Str} (h : isJo x) : okS (joinF x .yes).wd = true := by
  rcases h with rfl | rfl | rfl | rfl <;> decide +kernel
theorem jo_some (x : Str) : (joG x).isSome = decide (isJo x) := by
  unfold joG
  rw [Option.isSome_map, show (List.lookup x joTab).isSome = decide (x ∈ joTab.map (·.1)) from ?_]
  · refine decide_eq_decide.mpr ?_
    simp only [joTab, List.map_cons, List.map_nil, List.mem_cons, List.not_mem_nil, or_false]
  · have key : ∀ l : List (Str × Str), (l.lookup x).isSome = decide (x ∈ l.map (·.1)) := fun l => by
      induction l with
      | nil => rfl
      | cons p r ih =>
        rw [List.lookup_cons, List.map_cons]
        by_cases hx : x = p.1
        · rw [hx, beq_self_eq_true, decide_eq_true List.mem_cons_self]
          rfl
        · rw [beq_eq_false_iff_ne.mpr hx]
          rw [ih]
          exact decide_eq_decide.mpr ⟨fun m => List.mem_cons_of_mem _ m, fun m => (List.mem_cons.mp m).resolve_left hx⟩
    exact key _
theorem ma_some (x : Str) : (maG x).isSome = decide (isMa x) := by
  unfold maG
  rw [Option.isSome_map, show (List.lookup x maTab).isSome = decide (x ∈ maTab.map (·.1)) from ?_]
  · refine decide_eq_decide.mpr ?_
    simp only [maTab, List.map_cons, List.map_nil, List.mem_cons, List.not_mem_nil, or_false]
  · have key : ∀ l : List (Str × Str), (l.lookup x).isSome = decide (x ∈ l.map (·.1)) := fun l => by
      induction l with
      | nil => rfl
      | cons p r ih =>
        rw [List.lookup_cons, List.map_cons]
        by_cases hx : x = p.1
        · rw [hx, beq_self_eq_true, decide_eq_true List.mem_cons_self]
          rfl
        · rw [beq_eq_false_iff_ne.mpr hx]
          rw [ih]
          exact decide_eq_decide.mpr ⟨fun m => List.mem_cons_of_mem _ m, fun m => (List.mem_cons.mp m).resolve_left hx⟩
    exact key _
theorem ends_cl {x : Str} (fr : Fr) (h : fr.wd ∈ endsBy x) : fr.cl = true ∨ fr = .neg := by
  have h2 : fr.wd ∈ ([("and" : Str), "xor", "or"]) := by
    have key : ∀ y ∈ endsBy x, y ∈ ([("and" : Str), "xor", "or"]) := by
      unfold endsBy
      split
      · decide +kernel
      · split
        · decide +kernel
        · decide +kernel
    exact key _ h
  cases fr with
  | con f => exact .inl rfl
  | dis f => exact .inl rfl
  | xor f => exact .inl rfl
  | neg => exact .inr rfl
  | par => exact absurd h2 (show ¬ ("(" : Str) ∈ ([("and" : Str), "xor", "or"]) by decide +kernel)
  | if1 f => exact absurd h2 (show ¬ ("if" : Str) ∈ ([("and" : Str), "xor", "or"]) by decide +kernel)
  | if2 f g => exact .inl rfl
  | q0 a => cases a <;> exact absurd h2 (by decide +kernel)
  | som x => exact .inl rfl
  | all x => exact .inl rfl
  | put1 x => exact absurd h2 (show ¬ ("put" : Str) ∈ ([("and" : Str), "xor", "or"]) by decide +kernel)
  | put2 x f => exact .inl rfl
theorem those_len (ws : List Str) : ∀ (bg : List Fr) (g : Fo Str), (endThose ws bg g).1.length ≤ bg.length
  | [], g => by rw [endThose_nil]; exact Nat.le_refl _
  | fr :: r, g => by
    rw [endThose_cons]
    split
    · exact Nat.le_succ_of_le (those_len ws r _)
    · exact Nat.le_refl _
theorem all_len : ∀ (bg : List Fr) (g : Fo Str), (endAll bg g).1.length ≤ bg.length
  | [], g => by rw [endAll_nil]; exact Nat.le_refl _
  | fr :: r, g => by
    rw [endAll_cons]
    split
    · exact Nat.le_succ_of_le (all_len r _)
    · exact Nat.le_refl _
/-- what a mate does: the innermost that is left begun is its own -/
theorem mate_inv {s s2 : Rd} {x : Str} (h : s.mate x = some s2) : ∃ fr r g, endAll s.bg s.last = (fr :: r, g) ∧ maG x = some (.str fr.wd) ∧
    ((x = ")" ∧ fr = .par ∧ s2 = Rd.fin ⟨r, s.due, g, s.op⟩ g .sign) ∨ (¬ x = ")" ∧ ∃ fr2, fr2.dd = .tuple (fr.ds ++ [g.d]) ∧ s2 = ⟨fr2 :: r, .formula, g, s.op⟩)) := by
  unfold Rd.mate at h
  split at h
  · next r g e =>
    by_cases c : x = ")"
    · rw [if_pos c] at h
      exact ⟨_, r, g, e, by rw [c]; decide +kernel, .inl ⟨c, rfl, (Option.some.inj h).symm⟩⟩
    · rw [if_neg c] at h
      cases h
  · next f r g e =>
    by_cases c : x = ":"
    · rw [if_pos c] at h
      exact ⟨_, r, g, e, by rw [c]; exact (show maG (":" : Str) = some (.str "if") by decide +kernel), .inr ⟨by rw [c]; decide +kernel, .if2 f g, rfl, (Option.some.inj h).symm⟩⟩
    · rw [if_neg c] at h
      cases h
  · next y r g e =>
    by_cases c : x = "in"
    · rw [if_pos c] at h
      exact ⟨_, r, g, e, by rw [c]; exact (show maG ("in" : Str) = some (.str "put") by decide +kernel), .inr ⟨by rw [c]; decide +kernel, .put2 y g, rfl, (Option.some.inj h).symm⟩⟩
    · rw [if_neg c] at h
      cases h
  · cases h
section
variable {P : Program} {w : World} {K : PySem.W.Frag} {mg : Str → Option Value} {base : Heap}
theorem scRJoin : FnScope ["self", "word"] ["self", "word"] (defScope sRJoin) := ⟨rfl, rfl, rfl, by decide +kernel, rfl, by decide +kernel, by decide +kernel⟩
theorem scRMate : FnScope ["self", "word", "whole"] ["self", "word"] (defScope sRMate) := ⟨rfl, rfl, rfl, by decide +kernel, rfl, by decide +kernel, by decide +kernel⟩
theorem scRPut : FnScope ["self", "word"] ["self", "word"] (defScope sRPut) := ⟨rfl, rfl, rfl, by decide +kernel, rfl, by decide +kernel, by decide +kernel⟩
theorem ok_rjoin {f C aE aJ : Addr} {fd : FuncData} (F : Fun K "take_join" "Reading.take_join" sRJoin f fd) (T : RdT K mg C) (BG : MDefT P w K mg base CX0 C "begin" 1 ["self", "begun", "due"] (spRBegin K C)) (TH : MDefT P w K mg base CX0 C "end_those" 2 ["self", "words"] (spRThose K C))
    (mE : mg "ENDED_BY" = some (.ref aE)) (TE : ∀ x, isJo x → ∃ t, KDct K w aE x (.ref t) ∧ TupW K t ((endsBy x).map V.str)) (mJ : mg "JOINS" = some (.ref aJ)) (TJ : KTab K w aJ joG) :
    FnOk P w K mg base CX0 4 f fd ["self", "word"] (fun vs H Q E => ∃ x, vs[1]? = some (.str x) ∧ isJo x ∧ spRW K C (fun s x => some (s.join x)) (fun s => s.due = .sign ∨ s.due = .put) vs H Q E) := by
  refine F.ok scRJoin (fun vs H Q E h => ?_) (fun cdv A outer s H vs Q E hr h => ?_)
  · obtain ⟨x, _, _, a, pb, y, s, s2, rfl, _⟩ := h
    rfl
  obtain ⟨x, ex, hj, a, pb, y, st, s2, rfl, ⟨v, hR, hv⟩, hx, hd, hs, hb, q⟩ := h
  obtain rfl : y = x := V.str.inj (Option.some.inj ex)
  obtain rfl := Option.some.inj hs
  have hv := hv hd
  have hr1 : Room 1 _ := hr.mono (by omega)
  have hr2 : Room 2 _ := hr.mono (by omega)
  refine ⟨_, (pss_cons (ps_expr (pe_mdefT T.cl TH hr2 (pv 0) (pa_cons (pe_ix ix_kdict (pe_glob (v := .ref aE) rfl mE rfl) (pv 1) (fun _ _ => rfl)) pa_nil)))
    (pss_cons (ps_expr (pe_mdefT T.cl BG hr1 (pv 0) (pa_cons (pe_tup (pa_cons (pe_ix ix_kdict (pe_glob (v := .ref aJ) rfl mJ rfl) (pv 1) (fun _ _ => rfl)) (pa_cons (pe_fld (pv 0) rfl) pa_nil))) (pa_cons (pe_ifExp (pt_cmpR op_ne (pv 1) pe_str (nomark _)) pe_str pe_str) pa_nil))))
    (pss_one (ps_ret pe_bl)))), ?_⟩
  obtain ⟨dx, h1⟩ := hR.ob
  obtain ⟨t, kt, ht⟩ := TE y hj
  refine ⟨_, rfl, a, dx, _, rfl, h1, (fsR_no (by decide +kernel) (by decide +kernel) (by decide +kernel) (by decide +kernel)), _, rfl, aE, y, .ref t, rfl, rfl, kt, ?_⟩
  refine ⟨a, pb, t, endsBy y, st.bg, _, v, st.last, st.op, rfl, ht.seq, hR, hv, fun fr _ m => ends_cl fr m, fun H1 v1 k1 R1 g1 => ?_⟩
  obtain ⟨dx1, h11⟩ := R1.ob
  refine ⟨_, rfl, a, dx1, _, rfl, h11, (fsR_no (by decide +kernel) (by decide +kernel) (by decide +kernel) (by decide +kernel)), _, rfl, aJ, y, _, rfl, rfl, TJ.kd (jo_mem hj), _, rfl, a, C, dx1, _, _, rfl, h11, T.cl, T.nL, fsR_last, (by show 2 ≤ sizeLine; decide), fun p hp => ?_⟩
  have s2 : Same H1 (upd H1 p (.tup [.str (joinF y .yes).wd, v1])) := same_new hp _
  have tv : Tg K 0 0 (upd H1 p (.tup [.str (joinF y .yes).wd, v1])) (.ref p) (joinF y (endThose (endsBy y) st.bg st.last).2).dd := by
    rw [jo_ds hj]
    exact .tup (SqT.of upd_same) (.cons (.str _ (jo_ok hj)) (.cons (g1.same s2) .nil))
  have hb2 : (endThose (endsBy y) st.bg st.last).1.length < 100000 := Nat.lt_of_le_of_lt (those_len _ _ _) hb
  refine ⟨_, rfl, rfl, _, rfl, ?_⟩
  unfold Rd.join at q
  by_cases c : y = "?"
  · rw [if_pos c] at q
    rw [decide_eq_true (congrArg V.str c)]
    exact iteF ⟨a, pb, .ref p, _, "formula", _, _, _, _, rfl, R1.same s2, tv, hb2, fun H3 k3 R3 => q H3 (k1.trans ((Keep.of s2).trans k3)) ⟨_, R3, fun h => by rcases h with h | h <;> cases h⟩⟩
  · rw [if_neg c] at q
    rw [decide_eq_false (fun h => c (V.str.inj h))]
    exact iteT ⟨a, pb, .ref p, _, "operand", _, _, _, _, rfl, R1.same s2, tv, hb2, fun H3 k3 R3 => q H3 (k1.trans ((Keep.of s2).trans k3)) ⟨_, R3, fun h => by rcases h with h | h <;> cases h⟩⟩
theorem ok_rmate {f C aM : Addr} {fd : FuncData} (F : Fun K "take_mate" "Reading.take_mate" sRMate f fd) (T : RdT K mg C) (BG : MDefT P w K mg base CX0 C "begin" 1 ["self", "begun", "due"] (spRBegin K C)) (AL : MDefT P w K mg base CX0 C "end_all" 2 ["self"] (spRAll K C))
    (EN : MDefT P w K mg base CX0 C "end" 3 ["self", "formula", "due"] (spREnd K C)) (mM : mg "MATES" = some (.ref aM)) (TM : KTab K w aM maG) :
    FnOk P w K mg base CX0 4 f fd ["self", "word"] (spRW K C Rd.mate (fun s => s.due = .sign ∨ s.due = .put)) := by
  refine F.ok scRMate (fun vs H Q E h => ?_) (fun cdv A outer s H vs Q E hr h => ?_)
  · obtain ⟨a, pb, y, s, s2, rfl, _⟩ := h
    rfl
  obtain ⟨a, pb, x, st, s2, rfl, ⟨v, hR, hv⟩, hx, hd, hs, hb, q⟩ := h
  have hv := hv hd
  have hr1 : Room 1 _ := hr.mono (by omega)
  have hr2 : Room 2 _ := hr.mono (by omega)
  obtain ⟨fr, r, g, ea, em, hc⟩ := mate_inv hs
  refine ⟨_, (pss_cons (ps_expr (pe_mdefT0 T.cl AL hr2 (pv 0)))
    (pss_cons (ps_if (PW.pt (pw_or (pt_not (pt_truth (pe_fld (pv 0) rfl) (fun _ => rfl))) (pw_or1 (pt_cmpR op_ne (pe_ix ix_tup (pe_ix ix_list (pe_fld (pv 0) rfl) (pe_un un_neg pe_int) (fun _ _ => rfl)) pe_int (fun _ _ => rfl)) (pe_ix ix_kdict (pe_glob (v := .ref aM) rfl mM rfl) (pv 1) (fun _ _ => rfl)) (nomark _))))) (pss_one (ps_ret pe_bl)) pss_nil)
    (pss_cons (ps_set (i := 2) scRMate.nd rfl (Or.inl rfl) (pe_bm0 PySem.F.plainAttrs_list PySem.F.slot_list_pop PySem.F.type_list_pop mt_pop (pe_fld (pv 0) rfl)))
    (pss_cons (ps_if (pt_cmpR op_eq (pv 1) pe_str (nomark _)) (pss_one (ps_expr (pe_mdefT T.cl EN hr (pv 0) (pa_cons (pe_fld (pv 0) rfl) (pa_cons pe_str pa_nil))))) (pss_one (ps_expr (pe_mdefT T.cl BG hr1 (pv 0) (pa_cons (pe_tup (StX.pa_star (pv 2) (pa_cons (pe_fld (pv 0) rfl) pa_nil))) (pa_cons pe_str pa_nil))))))
    (pss_one (ps_ret pe_bl)))))), ?_⟩
  obtain ⟨dx, h1⟩ := hR.ob
  refine ⟨_, rfl, a, dx, _, rfl, h1, (fsR_no (by decide +kernel) (by decide +kernel) (by decide +kernel) (by decide +kernel)), a, pb, st.bg, _, v, st.last, st.op, rfl, hR, hv, fun H1 v1 k1 R1 g1 => ?_⟩
  have hle := all_len st.bg st.last
  rw [ea] at R1 g1 hle
  have hle : r.length < 100000 := by
    have : r.length + 1 ≤ st.bg.length := hle
    omega
  obtain ⟨dx1, h11⟩ := R1.ob
  obtain ⟨xs, h12, h13⟩ := R1.ls
  cases h13 with
  | @cons y xr _ _ hy hxr =>
  have hy' := hy
  obtain ⟨dr, hds⟩ := fr_wd fr
  unfold Fr.dd at hy'
  rw [hds] at hy'
  cases hy' with
  | @tup t ys _ ht hys =>
  cases hys with
  | @cons u ur _ _ hu hur =>
  cases hu
  have at1 : atI (.ref t :: xr).reverse (-1) = some (.ref t) := by
    rw [List.reverse_cons]
    exact atI_last _ _
  refine ⟨_, rfl, a, C, dx1, _, _, rfl, h11, T.cl, T.nB, fsR_begun, _, .inl ⟨_, SqL.of h12, rfl⟩, ?_⟩
  rw [isE_cons]
  refine iteF ?_
  refine ⟨_, rfl, a, C, dx1, _, _, rfl, h11, T.cl, T.nB, fsR_begun, _, rfl, pb, _, _, _, rfl, rfl, SqL.of h12, at1, t, _, _, _, rfl, rfl, ht, atI_nat (j := 0) rfl, _, rfl, aM, x, _, rfl, rfl, TM.kd em, rfl, _, rfl, ?_⟩
  rw [decide_eq_true rfl]
  refine iteF ?_
  have hlast : (V.ref t :: xr).reverse[(V.ref t :: xr).reverse.length - 1]? = some (.ref t) := by simp
  have hdl : (V.ref t :: xr).reverse.dropLast = xr.reverse := by simp
  refine ⟨_, rfl, a, C, dx1, _, _, rfl, h11, T.cl, T.nB, fsR_begun, .inl ⟨rfl, _, SqL.of h12⟩, pb, _, _, rfl, rfl, h12, hlast, ?_⟩
  rw [hdl]
  have k2 : Keep a pb H1 (upd H1 pb (.lst xr.reverse)) := keep_b
  have R2 := R1.list (bg2 := r) (xs := xr) hxr
  have hy2 := R1.tg (s' := 0) (l' := 0) k2 (fr_pure fr) hy
  have g2 := R1.tg (s' := 0) (l' := 0) k2 (fo_pureT g) g1
  generalize upd H1 pb (.lst xr.reverse) = H2 at k2 R2 hy2 g2 ⊢
  obtain ⟨dx2, h21⟩ := R2.ob
  rcases hc with ⟨c, rfl, rfl⟩ | ⟨c, fr2, efr, rfl⟩
  · refine ⟨_, rfl, rfl, _, rfl, vsTt c ⟨_, rfl, a, dx2, _, rfl, h21, (fsR_no (by decide +kernel) (by decide +kernel) (by decide +kernel) (by decide +kernel)), _, rfl, a, C, dx2, _, _, rfl, h21, T.cl, T.nL, fsR_last, ?_⟩⟩
    exact ⟨a, pb, v1, g, "sign", r, _, v1, st.op, rfl, R2, g2, fun H3 v3 k3 R3 g3 => q H3 (k1.trans (k2.trans k3)) ⟨v3, R3, fun _ => g3⟩⟩
  · cases hy2 with
    | @tup _ zs _ hz hzs =>
    refine ⟨_, rfl, rfl, _, rfl, vsFt c ⟨_, rfl, a, dx2, _, rfl, h21, (fsR_no (by decide +kernel) (by decide +kernel) (by decide +kernel) (by decide +kernel)), _, rfl, t, zs, rfl, .inl hz, _, rfl, a, C, dx2, _, _, rfl, h21, T.cl, T.nL, fsR_last, ?_, fun p hp => ?_⟩⟩
    · have hl : fr.ds.length = zs.length := hzs.len
      have : sizeLine = 16777216 := sizeLine_eq
      have l4 : fr.ds.length ≤ 3 := by cases fr <;> simp [Fr.ds]
      rw [List.length_append, List.length_singleton]
      omega
    have s3 : Same H2 (upd H2 p (.tup (zs ++ [v1]))) := same_new hp _
    have tv : Tg K 0 0 (upd H2 p (.tup (zs ++ [v1]))) (.ref p) fr2.dd := by
      rw [efr]
      exact .tup (SqT.of upd_same) ((hzs.same s3).app (.cons (g2.same s3) .nil))
    exact ⟨a, pb, .ref p, fr2, "formula", r, _, v1, st.op, rfl, R2.same s3, tv, hle, fun H3 k3 R3 => q H3 (k1.trans (k2.trans ((Keep.of s3).trans k3))) ⟨v1, R3, fun h => by rcases h with h | h <;> cases h⟩⟩
theorem ok_rput {f C : Addr} {fd : FuncData} (F : Fun K "take_put" "Reading.take_put" sRPut f fd) (T : RdT K mg C) (BG : MDefT P w K mg base CX0 C "begin" 1 ["self", "begun", "due"] (spRBegin K C)) :
    FnOk P w K mg base CX0 4 f fd ["self", "word"] (spRW K C Rd.putw (fun _ => True)) := by
  refine F.ok scRPut (fun vs H Q E h => ?_) (fun cdv A outer s H vs Q E hr h => ?_)
  · obtain ⟨a, pb, y, s, s2, rfl, _⟩ := h
    rfl
  obtain ⟨a, pb, x, st, s2, rfl, ⟨v, hR, hv⟩, hx, _, hs, hb, q⟩ := h
  have hr1 : Room 1 _ := hr.mono (by omega)
  unfold Rd.putw at hs
  by_cases c : x = ":=" ∧ st.due = .put
  · rw [if_pos c] at hs
    split at hs
    · next z el =>
      obtain rfl := Option.some.inj hs
      have hv := hv (.inr c.2)
      rw [el] at hv
      obtain ⟨t, u, rfl, ht, hu⟩ := tg_1 hv
      obtain ⟨rfl, hz⟩ := tg_s hu
      refine ⟨_, (pss_cons (ps_if (PW.pt (pw_or (pt_cmpR op_ne (pv 1) pe_str (nomark _)) (pw_or1 (pt_cmpR op_ne (pe_fld (pv 0) rfl) pe_str (nomark _))))) (pss_one (ps_ret pe_bl)) pss_nil)
    (pss_cons (ps_expr (pe_mdefT T.cl BG hr1 (pv 0) (pa_cons (pe_tup (pa_cons pe_str (pa_cons (pe_ix ix_tup (pe_fld (pv 0) rfl) pe_int (fun _ _ => rfl)) pa_nil))) (pa_cons pe_str pa_nil))))
    (pss_one (ps_ret pe_bl)))), ?_⟩
      obtain ⟨dx, h1⟩ := hR.ob
      refine ⟨_, rfl, rfl, _, rfl, ?_⟩
      rw [decide_eq_true (congrArg V.str c.1)]
      refine iteF ⟨_, rfl, a, C, dx, _, _, rfl, h1, T.cl, T.nD, fsR_due, rfl, _, rfl, ?_⟩
      rw [decide_eq_true (congrArg V.str (due_p.mpr c.2))]
      refine iteF ⟨_, rfl, a, dx, _, rfl, h1, (fsR_no (by decide +kernel) (by decide +kernel) (by decide +kernel) (by decide +kernel)), _, rfl, a, C, dx, _, _, rfl, h1, T.cl, T.nL, fsR_last, t, _, _, _, rfl, rfl, ht, atI_nat (j := 1) rfl, (by show 2 ≤ sizeLine; decide), fun p hp => ?_⟩
      have s3 : Same H (upd H p (.tup [.str "put", .str z])) := same_new hp _
      exact ⟨a, pb, .ref p, .put1 z, "formula", st.bg, _, _, st.op, rfl, hR.same s3, .tup (SqT.of upd_same) (.cons (.str _ (by decide +kernel)) (.cons (.str _ hz) .nil)), hb, fun H3 k3 R3 => q H3 ((Keep.of s3).trans k3) ⟨_, R3, fun h => by rcases h with h | h <;> cases h⟩⟩
    · cases hs
  · rw [if_neg c] at hs
    cases hs
end
end Kn
set_option Elab.async false
set_option linter.all false
set_option maxRecDepth 100000
set_option maxHeartbeats 4000000
set_option pp.maxSteps 1200
namespace Kn
open PySem L2 TL PySem.Spec PyProof.Rows
abbrev vBt : List Value := [.type "ValueError", .type "Exception", .type "BaseException", .type "object"]
/-- what the written part says of BadQuestion at C, that has no __init__ of its own -/
structure BQt (K : PySem.W.Frag) (mg : Str → Option Value) (C : Addr) : Prop where
  exc : PySem.W.excIn K C vBt "ValueError.__new__" = true
  mgC : mg "BadQuestion" = some (.ref C)
  kC : PySem.W.keepIn K (.ref C) = true
  sub : PySem.W.subIn K (.ref C) (.type "BaseException") = some true
  ty : PySem.W.typeIn K (.ref C) = some (.type "type")
end Kn
set_option Elab.async false
set_option linter.all false
set_option maxRecDepth 100000
set_option maxHeartbeats 4000000
set_option pp.maxSteps 1200
namespace Kn
open PySem L2 TL PySem.Spec PyProof.Rows
/-! ### formula_text -/
abbrev sFText : Stmt := top 37
def spFText (K : PySem.W.Frag) (C CQ : Addr) : Sp := fun vs H Q E => ∃ (s l : Addr) (v : V) (d : PyData), vs = [v] ∧ Tg K s l H v d ∧
  (placeD d = none → (∀ x ∈ namesD d, ¬ x ∈ keptW) → ∃ f : Fo Str, f.d = d ∧ f.ok ∧ f.hgt < 10 ∧ f.sz ≤ 60 ∧ ∀ H', Same H H' → Q (.str (bareS f)) H') ∧
  (placeD d = none → (∃ x ∈ namesD d, x ∈ keptW) → ∀ H', Same H H' → E (.ref CQ) none H') ∧
  ∀ way, placeD d = some way → ∀ (H' : Hp) (dx p : Addr), Same H H' → H dx = none → H' dx = some (.xd [("place", .ref p)]) → SqT K H' p (wayV way) → way.length ≤ 10 → (∀ n ∈ way, n < 16) → E (.ref C) (some dx) H'
section
variable {P : Program} {w : World} {K : PySem.W.Frag} {mg : Str → Option Value} {base : Heap}
theorem scFText : FnScope ["formula", "name"] ["formula"] (defScope sFText) := ⟨rfl, rfl, rfl, by decide +kernel, rfl, by decide +kernel, by decide +kernel⟩
theorem ok_ftext {f C CQ aK : Addr} {fd : FuncData} (F : Fun K "formula_text" "formula_text" sFText f fd) (NI : Def P w K mg base (L2.CX P w) "names_in" 5 ["formula"] (spNamesIn K C)) (B : BQt K mg CQ)
    (BT : Def P w K mg base CX0 "bare_text" 22 ["formula"] (spBareT K 10)) (mK : mg "KEPT_WORDS" = some (.ref aK)) (hK : ∀ H, SqT K H aK (keptW.map V.str)) :
    FnOk P w K mg base (L2.CX P w) 23 f fd ["formula"] (spFText K C CQ) := by
  refine F.okX scFText (fun vs H Q E h => ?_) (fun cdv A outer s H vs Q E hr h => ?_)
  · obtain ⟨s, l, v, d, rfl, _⟩ := h
    rfl
  obtain ⟨s0, l0, v, d, rfl, hv, qg, qk, qe⟩ := h
  have hr5 : Room 5 _ := hr.mono (by omega)
  have hr22 : Room 22 _ := hr.mono (by omega)
  refine ⟨_, (pss_cons (ps_for (passes_of rfl) rfl (pi_list (pe_defX NI hr5 rfl (takes_of rfl rfl rfl rfl) (pa_cons (pv 0) pa_nil))) (pg_name (i := 1) scFText.nd rfl (Or.inl rfl)) (pss_one (ps_if (pt_cmpR op_in_seq (pv 1) (pe_glob (v := .ref aK) rfl mK rfl) (by rfl)) (pss_one (ps_raise rfl (takes_of rfl rfl rfl rfl) (SkE.pmk_own1 PySem.F.excBase_ValueError B.exc B.mgC B.kC (raises_own B.sub B.ty) rfl pe_str))) pss_nil)))
    (pss_one (ps_ret (pe_def BT hr22 rfl (pa_cons (pv 0) pa_nil))))), ?_⟩
  refine ⟨_, rfl, s0, l0, v, d, rfl, hv, fun hnone H1 p e1 h1 => ?_, fun way hw H2 dx p e2 h1 h2 h3 h4 h5 => ?_⟩
  rotate_left
  · exact qe way hw H2 dx p e2 h1 h2 h3 h4 h5
  refine ⟨p, rfl, ⟨_, SqL.of h1⟩, ?_⟩
  refine for_list (K := K) (a := p) (xs := (namesD d).map V.str) (fun i σ' H' => ∃ x2 : Option V, σ' = [some v, x2] ∧ Same H1 H' ∧ ∀ x ∈ (namesD d).take i, ¬ x ∈ keptW)
    ⟨_, rfl, Same.refl _, fun x hx => (nomatch hx)⟩ (fun i σ' H' _ t => SqL.of (t.choose_spec.2.1 _ _ h1)) ?_ ?_
  · rintro i y σ' H3 hi ⟨x2, rfl, e3, hn⟩
    obtain ⟨x, hx, rfl⟩ : ∃ x, (namesD d)[i]? = some x ∧ y = .str x := by
      rw [List.getElem?_map] at hi
      cases hg : (namesD d)[i]? with
      | none =>
        rw [hg] at hi
        cases hi
      | some x =>
        rw [hg] at hi
        exact ⟨x, rfl, (Option.some.inj hi).symm⟩
    have xm : x ∈ namesD d := List.mem_of_getElem? hx
    refine ⟨_, rfl, aK, _, rfl, .inr (hK H3), rfl, flat_strs _, _, rfl, ite2 (fun c => ?_) (fun c => ?_)⟩
    · rw [inV_strs] at c
      exact qk hnone ⟨x, xm, of_decide_eq_true c⟩ _ (e1.trans e3)
    · rw [inV_strs] at c
      refine ⟨_, rfl, e3, fun z hz => ?_⟩
      rw [List.take_add_one, hx, Option.toList_some] at hz
      rcases List.mem_append.mp hz with hz | hz
      · exact hn z hz
      · rw [List.mem_singleton.mp hz]
        exact fun m => c (decide_eq_true m)
  · rintro σ' H3 ⟨x2, rfl, e3, hn⟩
    rw [List.length_map, List.take_length] at hn
    obtain ⟨f, rfl, ho, hh, hs, q⟩ := qg hnone hn
    exact ⟨_, rfl, s0, l0, v, f, rfl, hv.same (e1.trans e3), ho, hh, hs, fun H4 e4 => q H4 ((e1.trans e3).trans e4)⟩
end
end Kn
set_option Elab.async false
set_option linter.all false
set_option maxRecDepth 100000
set_option maxHeartbeats 4000000
set_option pp.maxSteps 1200
namespace Kn
open PySem L2 TL PySem.Spec PyProof.Rows
/-! ### take, ended, read_formula -/
abbrev sReadF : Stmt := top 43
theorem bg_step {s s2 : Rd} {x : Str} (h : s.step x = some s2) : s2.bg.length ≤ s.bg.length + 1 := by
  unfold Rd.step at h
  split at h
  · obtain ⟨_, b, r, e, rfl⟩ := name_inv h
    show (_ :: r).length ≤ _
    rw [e, List.length_cons, List.length_cons]
    omega
  split at h
  · unfold Rd.first at h
    have fin : ∀ (f : Fo Str) (d : Due), (s.fin f d).bg.length ≤ s.bg.length + 1 := fun f d => Nat.le_succ_of_le (those_len _ _ _)
    repeat' split at h
    all_goals first | cases h | skip
    all_goals first | exact Nat.le_refl _ | exact fin _ _
  split at h
  · cases h
    show (_ :: (endThose _ _ _).1).length ≤ _
    rw [List.length_cons]
    exact Nat.succ_le_succ (those_len _ _ _)
  split at h
  · obtain ⟨fr, r, g, ea, _, hc⟩ := mate_inv h
    have hl := all_len s.bg s.last
    rw [ea] at hl
    have hl : r.length + 1 ≤ s.bg.length := hl
    rcases hc with ⟨_, _, rfl⟩ | ⟨_, fr2, _, rfl⟩
    · have := those_len ["not"] r g
      show (endThose ["not"] r g).1.length ≤ _
      omega
    · show (fr2 :: r).length ≤ _
      rw [List.length_cons]
      omega
  · unfold Rd.putw at h
    split at h
    · split at h
      · cases h
        exact Nat.le_refl _
      · cases h
    · cases h
theorem take_inv {s s2 : Rd} {x : Str} (h : s.take x = some s2) : (x ∈ openW ∧ s.op + 1 ≤ 120 ∧ Rd.step { s with op := s.op + 1 } x = some s2) ∨ (¬ x ∈ openW ∧ s.step x = some s2) := by
  unfold Rd.take at h
  split at h
  · next c =>
    split at h
    · cases h
    · next d => exact .inl ⟨c, by omega, h⟩
  · next c => exact .inr ⟨c, h⟩
theorem bg_take {s s2 : Rd} {x : Str} (h : s.take x = some s2) : s2.bg.length ≤ s.bg.length + 1 := by
  rcases take_inv h with ⟨_, _, h⟩ | ⟨_, h⟩
  · exact bg_step (s := { s with op := s.op + 1 }) h
  · exact bg_step h
theorem pw_dead {X : Cx} {st : Stmt} : PS X st (fun _ _ _ => False) := ⟨fun _ _ _ _ _ _ h => h.elim⟩
section
variable {X : Cx}
/-- x(e, ..), a def that may refuse but doesn't here -/
theorem pe_def0T {x : Str} {k : Nat} {ps : List Str} {sp : Sp} {e : Expr} {es : List Expr} {t : TA} {p pos : Pos} (D : Def X.prog X.w X.K X.mg X.base (L2.CX X.prog X.w) x k ps sp) (hr : Room k X.A) (hg : Gl X x) (ha : PA X (e :: es) t)
    (hdb : (x == ("__debug__" : Str)) = false := by decide) (h1 : starEach (e :: es) X.env = (false, eval e X.env) :: starEach es X.env := by rfl) (h2 : (backTo pos (starEach es X.env)).any (·.1) = false := by rfl) :
    PE X (.Call (.Name x p) (e :: es) [] pos) (tCall sp [] E0 t) := by
  obtain ⟨f, fd, m, kp, b, ok⟩ := D.ex
  refine pe_call ok hr hg m kp b .nil (fun pins σ H s e s' I c => ?_) ha hdb h1 h2
  obtain ⟨a, B, H', cls, d, _, _, _, _, _, _, _, hE⟩ := c
  exact hE.elim
/-- a class whose instances are made by this promise -/
structure KDefT (P : Program) (w : World) (K : PySem.W.Frag) (mg : Str → Option Value) (base : Heap) (C : Addr) (k : Nat) (ps : List Str) (sp : Sp) : Prop where
  ex : ∃ (f : Addr) (fd : FuncData), Mk K C f ∧ Binds K fd ps [] ∧ FnOk P w K mg base CX0 k f fd ps sp
theorem pe_kdefT0 {C : Addr} {x : Str} {k : Nat} {ps : List Str} {sp : Sp} {p pos : Pos} (D : KDefT X.prog X.w X.K X.mg X.base C k ps sp) (hr : Room (k + 1) X.A) (hg : Gl X x) (hm : X.mg x = some (.ref C))
    (hdb : (x == ("__debug__" : Str)) = false := by decide) : PE X (.Call (.Name x p) [] [] pos) (tMake C sp [] E0 tNil) := by
  obtain ⟨f, fd, M, b, ok⟩ := D.ex
  exact pe_make0 M ok hr hg hm b .nil pass0 hdb
end
def spREnded (K : PySem.W.Frag) (C : Addr) : Sp := fun vs H Q _ => ∃ (a pb : Addr) (s : Rd) (f : Fo Str), vs = [.ref a] ∧ RdS K C a pb H s ∧ ended s = some f ∧ ∀ (H' : Hp) (v : V), Keep a pb H H' → Tg K 0 0 H' v f.d → Q v H'
def spReadF (K : PySem.W.Frag) : Sp := fun vs H Q _ => ∃ (z : Str) (f : Fo Str), vs = [.str z] ∧ z.length ≤ 4000 ∧ (∀ w ∈ tok z.cps.toList, okS (strOf w) = true) ∧ (∃ st, reads begun0 ((tok z.cps.toList).map strOf) = some st ∧ ended st = some f) ∧ placeD f.d = none ∧
  ∀ (H' : Hp) (v : V), Same H H' → Tg K 0 0 H' v f.d → Q v H'
section
variable {P : Program} {w : World} {K : PySem.W.Frag} {mg : Str → Option Value} {base : Heap}
theorem scRTake : FnScope ["self", "word"] ["self", "word"] (defScope sRTake) := ⟨rfl, rfl, rfl, by decide +kernel, rfl, by decide +kernel, by decide +kernel⟩
theorem scREnded : FnScope ["self"] ["self"] (defScope sREnded) := ⟨rfl, rfl, rfl, by decide +kernel, rfl, by decide +kernel, by decide +kernel⟩
theorem ok_rtake {f C aO aJ aM : Addr} {tk : Tok} {fd : FuncData} (F : Fun K "take" "Reading.take" sRTake f fd) (T : RdT K mg C) (NA : MDefT P w K mg base CX0 C "take_name" 4 ["self", "word"] (spRW K C Rd.name fun _ => True)) (FI : MDefT P w K mg base CX0 C "take_first" 4 ["self", "word"] (spRW K C Rd.first fun _ => True))
    (JO : MDefT P w K mg base CX0 C "take_join" 4 ["self", "word"] (fun vs H Q E => ∃ x, vs[1]? = some (.str x) ∧ isJo x ∧ spRW K C (fun s x => some (s.join x)) (fun s => s.due = .sign ∨ s.due = .put) vs H Q E))
    (MA : MDefT P w K mg base CX0 C "take_mate" 4 ["self", "word"] (spRW K C Rd.mate (fun s => s.due = .sign ∨ s.due = .put))) (PU : MDefT P w K mg base CX0 C "take_put" 4 ["self", "word"] (spRW K C Rd.putw (fun _ => True)))
    (mO : mg "OPENERS" = some (.ref aO)) (hO : ∀ H, SqT K H aO (openW.map V.str)) (mJ : mg "JOINS" = some (.ref aJ)) (TJ : KTab K w aJ joG) (mM : mg "MATES" = some (.ref aM)) (TM : KTab K w aM maG) (mX : mg "MOST_OPENERS" = some (.int 120 tk)) :
    FnOk P w K mg base CX0 5 f fd ["self", "word"] (spRW K C Rd.take fun _ => True) := by
  refine F.ok scRTake (fun vs H Q E h => ?_) (fun cdv A outer s H vs Q E hr h => ?_)
  · obtain ⟨a, pb, y, s, s2, rfl, _⟩ := h
    rfl
  obtain ⟨a, pb, x, st, s2, rfl, ⟨v, hR, hv⟩, hx, _, hs, hb, q⟩ := h
  refine ⟨_, (Evl.pss_cut (ps_if (pt_cmpR op_in_seq (pv 1) (pe_glob (v := .ref aO) rfl mO rfl) (by rfl)) (pss_cons (ps_fldaug (pv 0) pe_int in_add)
    (pss_one (ps_if (pt_cmpR op_gt (pe_fld (pv 0) rfl) (pe_glob (v := .int 120) rfl mX ⟨_, rfl⟩) (nomark _)) (pss_one (ps_ret pe_bl)) pss_nil))) pss_nil)
    (pss_cons (ps_if (pt_cmpR op_eq (pe_fld (pv 0) rfl) pe_str (nomark _)) (pss_one (ps_ret (pe_mdefT T.cl NA hr (pv 0) (pa_cons (pv 1) pa_nil)))) pss_nil)
    (pss_cons (ps_if (pt_cmpR op_in_seq (pe_fld (pv 0) rfl) (pe_tup (pa_cons pe_str (pa_cons pe_str pa_nil))) (by rfl)) (pss_one (ps_ret (pe_mdefT T.cl FI hr (pv 0) (pa_cons (pv 1) pa_nil)))) pss_nil)
    (pss_cons (ps_if (pt_cmpR op_in_ktab (pv 1) (pe_glob (v := .ref aJ) rfl mJ rfl) (by rfl)) (pss_one (ps_ret (pe_mdefT T.cl JO hr (pv 0) (pa_cons (pv 1) pa_nil)))) pss_nil)
    (pss_cons (ps_if (pt_cmpR op_in_ktab (pv 1) (pe_glob (v := .ref aM) rfl mM rfl) (by rfl)) (pss_one (ps_ret (pe_mdefT T.cl MA hr (pv 0) (pa_cons (pv 1) pa_nil)))) pss_nil)
    (pss_one (ps_ret (pe_mdefT T.cl PU hr (pv 0) (pa_cons (pv 1) pa_nil))))))))), ?_⟩
  refine ⟨fun σ' H' => σ' = [some (.ref a), some (.str x)] ∧ ∃ s1, RdS K C a pb H' s1 ∧ s1.step x = some s2 ∧ Keep a pb H H' ∧ s1.bg.length < 100000, ?_, ?_⟩
  · obtain ⟨dx, h1⟩ := hR.ob
    refine ⟨_, rfl, aO, _, rfl, .inr (hO H), rfl, flat_strs _, _, rfl, ?_⟩
    rw [inV_strs]
    rcases take_inv hs with ⟨c, ho, hs⟩ | ⟨c, hs⟩
    · rw [decide_eq_true c]
      refine iteT ⟨_, rfl, a, C, dx, _, _, rfl, h1, T.cl, T.nO, fsR_openers, _, _, rfl, rfl, dx, _, h1, fsR_len, ?_⟩
      have e : (V.int (((st.op : Nat) : Int) + 1)) = .int ((st.op + 1 : Nat) : Int) := by
        rw [Int.natCast_add]
        rfl
      rw [e, putR_openers]
      have R1 := hR.put (dx := dx) (d2 := dueS st.due) (v2 := v) (n2 := st.op + 1)
      have k1 : Keep a pb H (upd H a (.ins C dx (fsR pb (dueS st.due) v (st.op + 1)))) := keep_a
      have h11 : (upd H a (.ins C dx (fsR pb (dueS st.due) v (st.op + 1)))) a = some (.ins C dx (fsR pb (dueS st.due) v (st.op + 1))) := upd_same
      refine ⟨_, rfl, a, C, dx, _, _, rfl, h11, T.cl, T.nO, fsR_openers, _, _, rfl, rfl, _, rfl, ?_⟩
      rw [decide_eq_false (by omega)]
      exact iteF ⟨rfl, { st with op := st.op + 1 }, ⟨v, R1, fun h => hR.tg k1 (fo_pureT _) (hv h)⟩, hs, k1, hb⟩
    · rw [decide_eq_false c]
      exact iteF ⟨rfl, st, ⟨v, hR, hv⟩, hs, Keep.refl, hb⟩
  rintro σ1 H1 ⟨rfl, s1, hS, hs1, k1, hb1⟩
  clear hs hv hR
  have hS' := hS
  obtain ⟨v1, R1, hv1⟩ := hS
  obtain ⟨dx1, h11⟩ := R1.ob
  unfold Rd.step at hs1
  refine ⟨_, rfl, a, C, dx1, _, _, rfl, h11, T.cl, T.nD, fsR_due, rfl, _, rfl, ?_⟩
  by_cases c1 : s1.due = .name
  · rw [if_pos c1] at hs1
    rw [decide_eq_true (congrArg V.str (due_n.mpr c1))]
    exact iteT ⟨_, rfl, a, dx1, _, rfl, h11, (fsR_no (by decide +kernel) (by decide +kernel) (by decide +kernel) (by decide +kernel)), _, rfl, a, pb, x, s1, s2, rfl, hS', hx, trivial, hs1, hb1, fun H2 k2 S2 => q H2 (k1.trans k2) S2⟩
  rw [if_neg c1] at hs1
  rw [decide_eq_false (fun h => c1 (due_n.mp (V.str.inj h)))]
  refine iteF ⟨_, rfl, a, C, dx1, _, _, rfl, h11, T.cl, T.nD, fsR_due, (by show 2 ≤ sizeLine; decide), fun t1 ht1 => ⟨t1, _, rfl, .inr (SqT.of upd_same), rfl, rfl, _, rfl, ?_⟩⟩
  have e2 : Same H1 (upd H1 t1 (.tup [.str "formula", .str "operand"])) := same_new ht1 _
  have k2 : Keep a pb H1 (upd H1 t1 (.tup [.str "formula", .str "operand"])) := Keep.of e2
  have hS2 : RdS K C a pb (upd H1 t1 (.tup [.str "formula", .str "operand"])) s1 := ⟨v1, R1.same e2, fun h => (hv1 h).same e2⟩
  have h12 := e2 _ _ h11
  generalize upd H1 t1 (.tup [.str "formula", .str "operand"]) = H2 at e2 k2 hS2 h12 ⊢
  show if inV (.str (dueS s1.due)) (([("formula" : Str), "operand"]).map V.str) = true then _ else _
  rw [inV_strs]
  by_cases c2 : s1.due = .formula ∨ s1.due = .operand
  · rw [if_pos c2] at hs1
    rw [decide_eq_true (due_fo.mpr c2)]
    exact iteT ⟨_, rfl, a, dx1, _, rfl, h12, (fsR_no (by decide +kernel) (by decide +kernel) (by decide +kernel) (by decide +kernel)), _, rfl, a, pb, x, s1, s2, rfl, hS2, hx, trivial, hs1, hb1, fun H3 k3 S3 => q H3 (k1.trans (k2.trans k3)) S3⟩
  rw [if_neg c2] at hs1
  rw [decide_eq_false (fun h => c2 (due_fo.mp h))]
  have hd : s1.due = .sign ∨ s1.due = .put := by
    cases e : s1.due with
    | formula => exact absurd (.inl e) c2
    | operand => exact absurd (.inr e) c2
    | name => exact absurd e c1
    | sign => exact .inl rfl
    | put => exact .inr rfl
  refine iteF ⟨_, rfl, x, aJ, joG, rfl, rfl, TJ, _, rfl, ?_⟩
  rw [jo_some]
  by_cases c3 : isJo x
  · rw [if_pos c3] at hs1
    rw [decide_eq_true c3]
    exact iteT ⟨_, rfl, a, dx1, _, rfl, h12, (fsR_no (by decide +kernel) (by decide +kernel) (by decide +kernel) (by decide +kernel)), _, rfl, x, rfl, c3, a, pb, x, s1, s2, rfl, hS2, hx, hd, hs1, hb1, fun H3 k3 S3 => q H3 (k1.trans (k2.trans k3)) S3⟩
  rw [if_neg c3] at hs1
  rw [decide_eq_false c3]
  refine iteF ⟨_, rfl, x, aM, maG, rfl, rfl, TM, _, rfl, ?_⟩
  rw [ma_some]
  by_cases c4 : isMa x
  · rw [if_pos c4] at hs1
    rw [decide_eq_true c4]
    exact iteT ⟨_, rfl, a, dx1, _, rfl, h12, (fsR_no (by decide +kernel) (by decide +kernel) (by decide +kernel) (by decide +kernel)), _, rfl, a, pb, x, s1, s2, rfl, hS2, hx, hd, hs1, hb1, fun H3 k3 S3 => q H3 (k1.trans (k2.trans k3)) S3⟩
  rw [if_neg c4] at hs1
  rw [decide_eq_false c4]
  exact iteF ⟨_, rfl, a, dx1, _, rfl, h12, (fsR_no (by decide +kernel) (by decide +kernel) (by decide +kernel) (by decide +kernel)), _, rfl, a, pb, x, s1, s2, rfl, hS2, hx, trivial, hs1, hb1, fun H3 k3 S3 => q H3 (k1.trans (k2.trans k3)) S3⟩
theorem ok_rended {f C : Addr} {fd : FuncData} (F : Fun K "ended" "Reading.ended" sREnded f fd) (T : RdT K mg C) (AL : MDefT P w K mg base CX0 C "end_all" 2 ["self"] (spRAll K C)) : FnOk P w K mg base CX0 3 f fd ["self"] (spREnded K C) := by
  refine F.ok scREnded (fun vs H Q E h => ?_) (fun cdv A outer s H vs Q E hr h => ?_)
  · obtain ⟨a, pb, s, fo, rfl, _⟩ := h
    rfl
  obtain ⟨a, pb, st, fo, rfl, ⟨v, hR, hv⟩, he, q⟩ := h
  refine ⟨_, (pss_cons (ps_if (pt_cmpR op_notIn_seq (pe_fld (pv 0) rfl) (pe_tup (pa_cons pe_str (pa_cons pe_str pa_nil))) (by rfl)) (pss_one (ps_ret pe_non)) pss_nil)
    (pss_cons (ps_expr (pe_mdefT0 T.cl AL hr (pv 0)))
    (pss_one (ps_ret (pe_ifExp (pt_truth (pe_fld (pv 0) rfl) (fun _ => rfl)) pe_non (pe_fld (pv 0) rfl)))))), ?_⟩
  unfold ended at he
  by_cases c : st.due = .sign ∨ st.due = .put
  · rw [if_pos c] at he
    have hv := hv c
    obtain ⟨dx, h1⟩ := hR.ob
    refine ⟨_, rfl, a, C, dx, _, _, rfl, h1, T.cl, T.nD, fsR_due, (by show 2 ≤ sizeLine; decide), fun t1 ht1 => ⟨t1, _, rfl, .inr (SqT.of upd_same), rfl, rfl, _, rfl, ?_⟩⟩
    have e1 : Same H (upd H t1 (.tup [.str "sign", .str "put"])) := same_new ht1 _
    have R1 := hR.same e1
    have v1 := hv.same e1
    have h11 := e1 _ _ h1
    generalize upd H t1 (.tup [.str "sign", .str "put"]) = H1 at e1 R1 v1 h11 ⊢
    show if (!inV (.str (dueS st.due)) (([("sign" : Str), "put"]).map V.str)) = true then _ else _
    rw [inV_strs, decide_eq_true (due_sp.mpr c)]
    refine iteF ⟨_, rfl, a, dx, _, rfl, h11, (fsR_no (by decide +kernel) (by decide +kernel) (by decide +kernel) (by decide +kernel)), a, pb, st.bg, _, v, st.last, st.op, rfl, R1, v1, fun H2 v2 k2 R2 g2 => ?_⟩
    split at he
    · next g ea =>
      cases he
      rw [ea] at R2 g2
      obtain ⟨dx2, h21⟩ := R2.ob
      obtain ⟨xs, h22, h23⟩ := R2.ls
      cases h23
      refine ⟨_, rfl, a, C, dx2, _, _, rfl, h21, T.cl, T.nB, fsR_begun, _, .inl ⟨_, SqL.of h22, rfl⟩, ?_⟩
      exact iteF ⟨_, rfl, a, C, dx2, _, _, rfl, h21, T.cl, T.nL, fsR_last, q H2 v2 ((Keep.of e1).trans k2) g2⟩
    · cases he
  · rw [if_neg c] at he
    cases he
end
end Kn
set_option Elab.async false
set_option linter.all false
set_option maxRecDepth 100000
set_option maxHeartbeats 4000000
set_option pp.maxSteps 1200
namespace Kn
open PySem L2 TL PySem.Spec PyProof.Rows
/-! ### read_formula -/
theorem reads_pre {ws : List Str} {i : Nat} {x : Str} {s1 s2 sF : Rd} (hx : ws[i]? = some x) (h1 : reads s1 (ws.take i) = some s2) (hF : reads s1 ws = some sF) : ∃ s3, s2.take x = some s3 ∧ reads s1 (ws.take (i + 1)) = some s3 := by
  have e : ws = ws.take i ++ (x :: ws.drop (i + 1)) := by
    obtain ⟨hl, he⟩ := List.getElem?_eq_some_iff.mp hx
    conv => lhs; rw [← List.take_append_drop i ws, List.drop_eq_getElem_cons hl, he]
  rw [e, reads_app, h1] at hF
  have hF : reads s2 (x :: ws.drop (i + 1)) = some sF := hF
  cases ht : s2.take x with
  | none =>
    rw [reads, ht] at hF
    cases hF
  | some s3 =>
    refine ⟨s3, rfl, ?_⟩
    rw [List.take_add_one, hx, Option.toList_some, reads_app, h1]
    show reads s2 [x] = some s3
    rw [reads, ht]
    rfl
section
variable {P : Program} {w : World} {K : PySem.W.Frag} {mg : Str → Option Value} {base : Heap}
abbrev nRF : List Str := ["text", "words", "reading", "at", "word", "formula"]
theorem scReadF : FnScope nRF ["text"] (defScope sReadF) := ⟨rfl, rfl, rfl, by decide +kernel, rfl, by decide +kernel, by decide +kernel⟩
theorem ok_readf {f C CF : Addr} {tk : Tok} {fd : FuncData} (F : Fun K "read_formula" "read_formula" sReadF f fd) (T : RdT K mg C) (WO : Def P w K mg base CX0 "words_of" 3 ["text"] spWordsOf) (RD : KDefT P w K mg base C 1 ["self"] (spRInit K C))
    (TK : MDefT P w K mg base CX0 C "take" 5 ["self", "word"] (spRW K C Rd.take fun _ => True)) (ED : MDefT P w K mg base CX0 C "ended" 3 ["self"] (spREnded K C)) (ND : Def P w K mg base (L2.CX P w) "need_formula" 3 ["thing"] (spNeed K CF))
    (mS : mg "MOST_SIGNS" = some (.int 4000 tk)) (mi : mg "isinstance" = none) (ms : mg "str" = none) (ml : mg "len" = none) (me : mg "enumerate" = none) : FnOk P w K mg base CX0 6 f fd ["text"] (spReadF K) := by
  refine F.ok scReadF (fun vs H Q E h => ?_) (fun cdv A outer s H vs Q E hr h => ?_)
  · obtain ⟨z, fo, rfl, _⟩ := h
    rfl
  obtain ⟨z, fo, rfl, hz, hok, ⟨sF, hF, hE⟩, hp, q⟩ := h
  have hr2 : Room 2 _ := hr.mono (by omega)
  have hr3 : Room 3 _ := hr.mono (by omega)
  refine ⟨_, (pss_cons (ps_if (PW.pt (pw_or (pt_not (pt_val (pe_callB call_isi (by rfl) mi PyProof.Rows.boot_isinstance (pa_cons (pv 0) (pa_cons (pe_bltn (v := .ty "str") (by rfl) ms PyProof.Rows.boot_str rfl) pa_nil))))) (pw_or1 (pt_cmpR op_gt (pe_callB call_len (by rfl) ml PySem.boot_len (pa_cons (pv 0) pa_nil)) (pe_glob (v := .int 4000) rfl mS ⟨_, rfl⟩) (nomark _))))) (pss_one pw_dead) pss_nil)
    (pss_cons (ps_set (i := 1) scReadF.nd rfl (Or.inl rfl) (pe_def WO hr3 rfl (pa_cons (pv 0) pa_nil)))
    (pss_cons (ps_set (i := 2) scReadF.nd rfl (Or.inl rfl) (pe_kdefT0 RD hr2 rfl T.mgC))
    (pss_cons (ps_for PassesOwn.never rfl (pi_enum rfl me (pa_cons (pv 1) pa_nil)) (pg_tup rfl (pgs_cons (pg_name (i := 3) scReadF.nd rfl (Or.inl rfl)) (pgs_cons (pg_name (i := 4) scReadF.nd rfl (Or.inl rfl)) pgs_nil))) (pss_one (ps_if (pt_not (pt_val (pe_mdefT T.cl TK hr (pv 2) (pa_cons (pv 4) pa_nil)))) (pss_one pw_dead) pss_nil)))
    (pss_cons (ps_set (i := 5) scReadF.nd rfl (Or.inl rfl) (pe_mdefT0 T.cl ED hr3 (pv 2)))
    (pss_cons (ps_if (pt_cmpR op_isN (pv 5) pe_non (nomark _)) (pss_one pw_dead) pss_nil)
    (pss_one (ps_ret (pe_def0T ND hr3 rfl (pa_cons (pv 5) pa_nil)))))))))), ?_⟩
  have hz2 : z.length ≤ sizeLine := Nat.le_trans hz (by decide)
  refine ⟨_, rfl, .str z, .ty "str", .type "str", .type "str", true, rfl, .ty _, .base (.str z), kit_ty (show kitB "str" "str" = some true by decide +kernel), _, rfl, ?_⟩
  refine iteF ⟨_, rfl, _, _, rfl, ⟨hz2, rfl⟩, _, _, rfl, rfl, _, rfl, ?_⟩
  rw [decide_eq_false (by omega)]
  refine iteF ⟨_, rfl, z, rfl, Nat.le_trans hz (by decide), fun H1 p e1 hp0 hp1 => ?_⟩
  generalize hws : (tok z.cps.toList).map strOf = ws at hF
  have hp1 : H1 p = some (.lst (ws.map V.str)) := by
    rw [← hws, List.map_map]
    exact hp1
  have hok : ∀ x ∈ ws, okS x = true := fun x hx => by
    rw [← hws] at hx
    obtain ⟨y, hy, rfl⟩ := List.mem_map.mp hx
    exact hok y hy
  have hwl : ws.length ≤ 4000 := by
    rw [← hws, List.length_map]
    have tl : ∀ (n : Nat) (l : List Nat), l.length ≤ n → (tok l).length ≤ n := fun n => by
      induction n using Nat.strongRecOn with
      | _ n ih =>
        intro l hl
        cases l with
        | nil =>
          rw [tok_nil]
          exact Nat.zero_le _
        | cons c r =>
          have w1 := wl_pos (c := c) (r := r)
          have w2 := wl_le (c :: r)
          have hlen : ((c :: r).drop (wl (c :: r))).length < n := by
            rw [List.length_drop]
            simp only [List.length_cons] at hl w2 ⊢
            omega
          have := ih _ hlen _ (Nat.le_refl _)
          rw [tok_wl]
          split
          · omega
          · rw [List.length_cons]
            omega
    exact Nat.le_trans (tl _ _ (Nat.le_refl _)) (by
      have : z.cps.toList.length = z.length := by simp [Str.length]
      omega)
  intro a dx na ndx nda
  have s2 : Same H1 (upd (upd H1 dx (.own a)) a (.ins C dx [])) := fun b o e => by
    rw [upd_ne (ne_of_none e na), upd_ne (ne_of_none e ndx)]
    exact e
  refine ⟨H1, a, dx, rfl, s2, na, upd_same, fun H2 pb e2 npb hS => ⟨rfl, ?_⟩⟩
  have npa : p ≠ a := ne_of_none hp1 na
  have npp : p ≠ pb := ne_of_none hp1 npb
  have hp2 : H2 p = some (.lst (ws.map V.str)) := e2 _ _ hp1
  refine ⟨_, rfl, p, _, rfl, SqL.of hp2, ?_⟩
  refine for_it walk_enum (fun i σ' H' => ∃ (x3 x4 : Option V) (st : Rd), σ' = [some (.str z), some (.ref p), some (.ref a), x3, x4, none] ∧ reads begun0 (ws.take i) = some st ∧ RdS K C a pb H' st ∧ Keep a pb H2 H' ∧ st.bg.length ≤ i)
    ⟨none, none, begun0, rfl, rfl, hS, Keep.refl, Nat.le_refl _⟩ (fun i σ' H' _ t => SqL.of (t.choose_spec.choose_spec.choose_spec.2.2.2.1 _ _ npa npp hp2)) ?_ ?_
  · rintro i x σ' H3 H4 hi ⟨x3, x4, st, rfl, hrd, hS3, k3, hl⟩ ⟨TT, v1, v2, rfl, hT, rfl, e4, e5⟩
    cases e4
    have e5 : (ws.map V.str)[i]? = some v2 := e5
    rw [List.getElem?_map] at e5
    obtain ⟨y, hy, rfl⟩ : ∃ y, ws[i]? = some y ∧ v2 = .str y := by
      cases hg : ws[i]? with
      | none =>
        rw [hg] at e5
        cases e5
      | some y =>
        rw [hg] at e5
        exact ⟨y, rfl, (Option.some.inj e5).symm⟩
    have s4 : Same H3 (upd H3 TT (.tup [.int (i : Nat), .str y])) := same_new hT _
    obtain ⟨s3, ht, hr3'⟩ := reads_pre hy hrd hF
    obtain ⟨v3, R3, hv3⟩ := hS3
    have hS4 : RdS K C a pb (upd H3 TT (.tup [.int (i : Nat), .str y])) st := ⟨v3, R3.same s4, fun h => (hv3 h).same s4⟩
    obtain ⟨dx3, h31⟩ := (R3.same s4).ob
    have hil : i < ws.length := (List.getElem?_eq_some_iff.mp hy).1
    refine ⟨TT, _, rfl, SqT.of upd_same, rfl, _, _, rfl, _, _, rfl, rfl, _, rfl, a, dx3, _, rfl, h31, (fsR_no (by decide +kernel) (by decide +kernel) (by decide +kernel) (by decide +kernel)), _, rfl, a, pb, y, st, s3, rfl, hS4, hok y (List.mem_of_getElem? hy), trivial, ht, by omega, fun H5 k5 S5 => ⟨_, rfl, iteF ?_⟩⟩
    exact ⟨_, _, s3, rfl, hr3', S5, k3.trans ((Keep.of s4).trans k5), Nat.le_trans (bg_take ht) (Nat.succ_le_succ hl)⟩
  · rintro σ' H3 ⟨x3, x4, st, rfl, hrd, hS3, k3, hl⟩
    rw [List.length_map, List.take_length, hF] at hrd
    obtain rfl := Option.some.inj hrd
    have hS3' := hS3
    obtain ⟨v3, R3, hv3⟩ := hS3
    obtain ⟨dx3, h31⟩ := R3.ob
    refine ⟨_, rfl, a, dx3, _, rfl, h31, (fsR_no (by decide +kernel) (by decide +kernel) (by decide +kernel) (by decide +kernel)), a, pb, sF, fo, rfl, hS3', hE, fun H4 v k4 hv4 => ?_⟩
    have sm : Same H H4 := fun b o e => by
      have e' := e1 b o e
      exact k4 b o (ne_of_none e' na) (ne_of_none e' npb) (k3 b o (ne_of_none e' na) (ne_of_none e' npb) (e2 b o e'))
    obtain ⟨t, ys, rfl, ht⟩ := fo_head hv4
    refine ⟨_, rfl, rfl, _, rfl, iteF ⟨_, rfl, 0, 0, _, fo.d, rfl, hv4, fun _ H5 e5 => q H5 _ (sm.trans e5) (hv4.same e5), fun way hw => ?_⟩⟩
    rw [hp] at hw
    cases hw
end
end Kn
set_option Elab.async false
set_option linter.all false
set_option maxRecDepth 100000
set_option maxHeartbeats 4000000
set_option pp.maxSteps 1200
namespace Kn
open PySem L2 TL PySem.Spec PyProof.Rows LamX
/-! ### equal trees have equal data -/
mutual
theorem eqv_pure : ∀ d e : PyData, pureD d = true → pureD e = true → (PyData.eqv d e = true ↔ d = e)
  | .str x, .str y, _, _ => by simp [PyData.eqv]
  | .tuple xs, .tuple ys, h1, h2 => by
    have := eqvAll_pure xs ys (by simpa [pureD] using h1) (by simpa [pureD] using h2)
    simp only [PyData.eqv, this, PyData.tuple.injEq]
  | .str x, .tuple ys, _, _ => by simp [PyData.eqv]
  | .tuple xs, .str y, _, _ => by simp [PyData.eqv]
  | .none, _, h, _ => by simp [pureD] at h
  | .bool _, _, h, _ => by simp [pureD] at h
  | .int _, _, h, _ => by simp [pureD] at h
  | .list _, _, h, _ => by simp [pureD] at h
  | .dict _, _, h, _ => by simp [pureD] at h
  | _, .none, _, h => by simp [pureD] at h
  | _, .bool _, _, h => by simp [pureD] at h
  | _, .int _, _, h => by simp [pureD] at h
  | _, .list _, _, h => by simp [pureD] at h
  | _, .dict _, _, h => by simp [pureD] at h
theorem eqvAll_pure : ∀ xs ys : List PyData, pureAll xs = true → pureAll ys = true → (PyData.eqvAll xs ys = true ↔ xs = ys)
  | [], [], _, _ => by simp [PyData.eqvAll]
  | [], _ :: _, _, _ => by simp [PyData.eqvAll]
  | _ :: _, [], _, _ => by simp [PyData.eqvAll]
  | x :: xs, y :: ys, h1, h2 => by
    simp only [pureAll, Bool.and_eq_true] at h1 h2
    have a := eqv_pure x y h1.1 h2.1
    have b := eqvAll_pure xs ys h1.2 h2.2
    simp only [PyData.eqvAll, Bool.and_eq_true, a, b, List.cons.injEq]
end
theorem fo_wd_eq {f g : Fo Str} (h : f.d = g.d) : f.wd = g.wd := by
  obtain ⟨L, e1, h1, _⟩ := fo_list f
  obtain ⟨M, e2, h2, _⟩ := fo_list g
  rw [e1, e2] at h
  rw [PyData.tuple.inj h, h2] at h1
  exact (PyData.str.inj (Option.some.inj h1)).symm
theorem fo_d_inj : ∀ f g : Fo Str, f.d = g.d → f = g := by
  intro f
  induction f with
  | yes =>
    intro g h
    have hw := fo_wd_eq h
    cases g <;> simp only [Fo.wd] at hw <;> first | rfl | exact absurd hw (by decide +kernel)
  | no =>
    intro g h
    have hw := fo_wd_eq h
    cases g <;> simp only [Fo.wd] at hw <;> first | rfl | exact absurd hw (by decide +kernel)
  | nam x =>
    intro g h
    have hw := fo_wd_eq h
    cases g <;> simp only [Fo.wd] at hw <;> first | exact absurd hw (by decide +kernel) | skip
    all_goals simp_all [Fo.d]
  | neg f ih =>
    intro g h
    have hw := fo_wd_eq h
    cases g <;> simp only [Fo.wd] at hw <;> first | exact absurd hw (by decide +kernel) | skip
    next g => simp only [Fo.d, PyData.tuple.injEq, List.cons.injEq, and_true, true_and] at h; rw [ih g h]
  | con f1 f2 i1 i2 =>
    intro g h
    have hw := fo_wd_eq h
    cases g <;> simp only [Fo.wd] at hw <;> first | exact absurd hw (by decide +kernel) | skip
    next g1 g2 => simp only [Fo.d, PyData.tuple.injEq, List.cons.injEq, and_true, true_and] at h; rw [i1 g1 h.1, i2 g2 h.2]
  | dis f1 f2 i1 i2 =>
    intro g h
    have hw := fo_wd_eq h
    cases g <;> simp only [Fo.wd] at hw <;> first | exact absurd hw (by decide +kernel) | skip
    next g1 g2 => simp only [Fo.d, PyData.tuple.injEq, List.cons.injEq, and_true, true_and] at h; rw [i1 g1 h.1, i2 g2 h.2]
  | xor f1 f2 i1 i2 =>
    intro g h
    have hw := fo_wd_eq h
    cases g <;> simp only [Fo.wd] at hw <;> first | exact absurd hw (by decide +kernel) | skip
    next g1 g2 => simp only [Fo.d, PyData.tuple.injEq, List.cons.injEq, and_true, true_and] at h; rw [i1 g1 h.1, i2 g2 h.2]
  | ite f1 f2 f3 i1 i2 i3 =>
    intro g h
    have hw := fo_wd_eq h
    cases g <;> simp only [Fo.wd] at hw <;> first | exact absurd hw (by decide +kernel) | skip
    next g1 g2 g3 => simp only [Fo.d, PyData.tuple.injEq, List.cons.injEq, and_true, true_and] at h; rw [i1 g1 h.1, i2 g2 h.2.1, i3 g3 h.2.2]
  | som x f ih =>
    intro g h
    have hw := fo_wd_eq h
    cases g <;> simp only [Fo.wd] at hw <;> first | exact absurd hw (by decide +kernel) | skip
    next y g => simp only [Fo.d, PyData.tuple.injEq, List.cons.injEq, PyData.str.injEq, and_true, true_and] at h; rw [h.1, ih g h.2]
  | all x f ih =>
    intro g h
    have hw := fo_wd_eq h
    cases g <;> simp only [Fo.wd] at hw <;> first | exact absurd hw (by decide +kernel) | skip
    next y g => simp only [Fo.d, PyData.tuple.injEq, List.cons.injEq, PyData.str.injEq, and_true, true_and] at h; rw [h.1, ih g h.2]
  | put x f1 f2 i1 i2 =>
    intro g h
    have hw := fo_wd_eq h
    cases g <;> simp only [Fo.wd] at hw <;> first | exact absurd hw (by decide +kernel) | skip
    next y g1 g2 => simp only [Fo.d, PyData.tuple.injEq, List.cons.injEq, PyData.str.injEq, and_true, true_and] at h; rw [h.1, i1 g1 h.2.1, i2 g2 h.2.2]
theorem word_text {z : Str} (h : wordB z = true) : textN z = true := by
  have h1 := word_name h
  unfold textN
  rw [h1, Bool.true_and]
  have h2 : ¬ z ∈ keptW := fun m => by
    have : ∀ z ∈ keptW, wordB z = false := by decide +kernel
    rw [this z m] at h
    cases h
  rw [decide_eq_false h2]
  rfl
/-- what the law asks of a formula -/
structure FoG (f : Fo Str) : Prop where
  ok : f.ok
  nm : ∀ x ∈ f.nms, textN x = true
  sz : f.sz ≤ 60
  ht : f.hgt < 10
  pl : placeD f.d = none
theorem FoG.kept {f : Fo Str} (h : FoG f) : ∀ x ∈ f.nms, ¬ x ∈ keptW := fun x hx m => by
  have := h.nm x hx
  unfold textN at this
  rw [decide_eq_true m, Bool.not_true, Bool.and_false] at this
  cases this
theorem FoG.names {f : Fo Str} (h : FoG f) : ∀ x ∈ namesD f.d, ¬ x ∈ keptW := fun x hx => h.kept x ((fo_names_mem h.ok h.pl h.ht).mp hx)
theorem same_text {f g : Fo Str} (hf : FoG f) (hg : FoG g) : decide (V.bl (decide (V.str (bareS f) = V.str (bareS g))) = V.bl (PyData.eqv f.d g.d)) = true := by
  refine decide_eq_true (congrArg V.bl ?_)
  by_cases e : f = g
  · rw [e, decide_eq_true rfl]
    exact ((eqv_pure _ _ (fo_pureT g) (fo_pureT g)).mpr rfl).symm
  · rw [decide_eq_false (fun h => e (bareS_inj hf.ok hg.ok hf.nm hg.nm hf.sz hg.sz (V.str.inj h)))]
    cases hq : PyData.eqv f.d g.d with
    | false => rfl
    | true => exact absurd (fo_d_inj f g ((eqv_pure _ _ (fo_pureT f) (fo_pureT g)).mp hq)) e
theorem fo_show {f : Fo Str} (h : FoG f) : pureD f.d = true ∧ PyData.showable f.d = true ∧ f.d.depth ≤ 10 ∧ f.d.hasDict = false ∧ f.d.canLay0 = true ∧ f.d.shown.length + 2 ≤ 12000 := by
  obtain ⟨hg, hc⟩ := place_good h.pl
  obtain ⟨g1, g2, g3, g4, g5, g6⟩ := good_show 10 f.d hg
  exact ⟨g1, g2, g3, g4, g5, by omega⟩
theorem fo_shaped {f : Fo Str} (h : FoG f) : SeqAt.shaped f.d = true := by
  obtain ⟨_, _, g3, _, g5, _⟩ := fo_show h
  unfold SeqAt.shaped
  rw [g5, Bool.true_and]
  exact decide_eq_true (by omega)
theorem gw_len {x : Str} (h : GW x) : x.length ≤ 8 := by
  rcases h with h | h
  · exact (show ∀ x ∈ sgW, x.length ≤ 8 by decide +kernel) x h
  · exact name_len h
/-- a good thing is a good tree's -/
theorem good_tree2 {d : PyData} (h : placeD d = none) : ∃ g : Fo Str, g.d = d ∧ g.ok ∧ g.hgt < 10 ∧ g.sz ≤ 60 := by
  obtain ⟨hg, hc⟩ := place_good h
  obtain ⟨g, rfl, o, hh⟩ := good_fo 10 hg
  rw [fo_cnt 10 o hh] at hc
  exact ⟨g, rfl, o, hh, hc⟩
/-- _law_refused(lambda: body) -/
theorem pe_lamXT {X : Cx} {T : List (Addr × Str)} {PA cA g C c2 c3 c4 c5 c6 c7 c8 c9 : Addr} {fdR : FuncData} {K : PySem.W.Frag} {qn : Str} {params : Arguments} {body : Expr} {scope : Scope} {lpos p pos : Pos} {t : XK → TE} {k : Nat} (hK : X.K = K) (hq : X.env.qual = qn) (R : RefN X.mg C c2 c3 c4 c5 c6 c7 c8 c9)
    (FR : Fun X.K "_law_refused" "_law_refused" sRefused g fdR) (bR : L2.Binds X.K fdR ["deed"] []) (mg_ : X.mg "_law_refused" = some (.ref g)) (hg : Gl X "_law_refused") (TB : TabB X.base X.mg cA PA) (hcode : X.env.code = .ref cA) (hmT : (PA, qn ++ "<lambda>") ∈ T) (hu : ∀ p ∈ T, p.1 = PA → p.2 = qn ++ "<lambda>") (gd : X.A.guards = some []) (hr : Room (k + 2) X.A)
    (mi : X.mg "isinstance" = none) (mn : X.mg "int" = none) (ml : X.mg "len" = none) (mrp : X.mg "repr" = none) (mK : X.mg "KeyError" = none) (mO : X.mg "OverflowError" = none) (mR : X.mg "RuntimeError" = none) (mV : X.mg "ValueError" = none)
    (L : LamS X.env.scope scope) (hdef : defaultsOf params X.env = ([], [])) (hbind : ∀ (q : Str) (cl : List (Str × Addr)) (pm cv ctv : Value), bindArgs (PySem.W.kla_fn "<lambda>" q params body scope cl pm cv ctv) ⟨[], []⟩ = pure [])
    (hbody : ∀ (A : Around) (outer : List Env) (s : Shared) (H : Hp) (E : XK) (f c' : Addr), Room k (A.deeper (lamEnv X scope s.heap.objs.size f c')) → PE (lamCx X A outer s H E scope f c') body (t E)) :
    PE X (.Call (.Name "_law_refused" p) [.Lambda params body scope lpos] [] pos) (tLam T (TTR K C c2 c3 c4 c5 c6 c7 c8 c9) t) := by
  subst hK hq
  obtain ⟨oc, od, kV2, doc2, pm2, an2, cdv2, ct2, osl, rfl, lk, hcg⟩ := FR.ex
  have hun := hr.un
  exact pe_lamcall (k := k) (c := cA) (P := PA) hg mg_ FR.kp lk hcg bR scRefused rfl (Or.inl rfl) (ref_gives R gd (by omega) mi mn ml mrp mK mO mR mV) TB hcode hmT hu hr L hdef hbind hbody
end Kn
set_option Elab.async false
set_option linter.all false
set_option maxRecDepth 100000
set_option maxHeartbeats 4000000
set_option pp.maxSteps 1200
namespace Kn
open PySem L2 TL PySem.Spec PyProof.Rows LamX
/-! ### two lists of the same texts -/
def rEqSS : R2 := fun x y H Q => ∃ (a b : Addr) (ts : List Str), x = .ref a ∧ y = .ref b ∧ H a = some (.lst (ts.map V.str)) ∧ H b = some (.lst (ts.map V.str)) ∧ Q (.bl true) H
theorem op_eqSS {X : Cx} (hu : X.A.units + 64 < cLine) : OpR X (compareOp .Eq) rEqSS := by
  intro pins s σ H x y v u Q I rx ry h
  obtain ⟨a, b, ts, rfl, rfl, ha, hb, q⟩ := h
  cases rx
  cases ry
  obtain ⟨its, r, pl, hz⟩ := I.list (SqL.of ha)
  obtain ⟨its2, r2, pl2, _⟩ := I.list (SqL.of hb)
  have l1 : its.length = ts.length := by rw [← r.length, List.length_map]
  have l2 : its2.length = ts.length := by rw [← r2.length, List.length_map]
  show wpAny (model X.prog X.w) X.A (richCompare .Eq (.ref a) (.ref b)) _ _ s
  refine PySem.SeqAt.RcAt.lists (e := fun _ => true) pl.isList pl2.isList ?_ (by omega) (fun j h1 h2 => ?_) _ _ _ _ ?_
  · rw [List.size_toArray, List.size_toArray, l1, l2]
  · rw [List.size_toArray] at h1 h2
    have hj : (ts.map V.str)[j]? = some (V.str (ts[j]'(by omega))) := by
      rw [List.getElem?_map, List.getElem?_eq_getElem (by omega)]
      rfl
    obtain ⟨u1, e1, t1, rfl⟩ := r.get hj
    obtain ⟨u2, e2, t2, rfl⟩ := r2.get hj
    have g1 : its.toArray[j] = Value.str (ts[j]'(by omega)) t1 := by
      rw [List.getElem?_eq_getElem h1] at e1
      simpa using e1
    have g2 : its2.toArray[j] = Value.str (ts[j]'(by omega)) t2 := by
      rw [List.getElem?_eq_getElem h2] at e2
      simpa using e2
    rw [g1, g2]
    have k := PySem.SeqAt.EqAt.str_str (A := X.A.in1) (s := s) (ts[j]'(by omega)) t1 (ts[j]'(by omega)) t2
    rw [beq_self_eq_true] at k
    exact k
  · have e : (List.range its.toArray.size).all (fun _ => true) = true := by simp
    rw [e]
    exact ⟨.bl true, H, I, rfl, q⟩
/-! ### names as they are met are names -/
theorem pre_names : ∀ (n : Nat) (d : PyData), goodH n d = true → ∀ x ∈ pre n d, isNameS x = true
  | 0, _, h => by cases h
  | n + 1, d, h => by
    obtain ⟨k, o, ps, e, hf, hg, _⟩ := good_some h
    obtain rfl : n = k := Nat.succ.inj e
    intro x hx
    unfold pre at hx
    rw [hf] at hx
    dsimp only at hx
    rcases List.mem_append.mp hx with hx | hx
    · obtain ⟨w, b, hl, ⟨hs, rfl, rfl⟩ | ⟨y, hs, rfl, rfl, hy⟩⟩ := formD_inv hf
      · simp at hx
      · have : x = y := by simpa using hx
        rw [this]
        exact hy
    · obtain ⟨p, hp, hx⟩ := List.mem_flatMap.mp hx
      exact pre_names n p (hg p hp) x hx
theorem fold_sub : ∀ (xs acc : List Str) (x : Str), x ∈ xs.foldl addS acc → x ∈ acc ∨ x ∈ xs
  | [], acc, x, h => .inl h
  | y :: r, acc, x, h => by
    rw [List.foldl_cons] at h
    rcases fold_sub r (addS acc y) x h with h | h
    · unfold addS addN at h
      dsimp only at h
      split at h
      · exact .inl h
      · rcases List.mem_append.mp h with h | h
        · exact .inl h
        · rw [List.mem_singleton.mp h]
          exact .inr List.mem_cons_self
    · exact .inr (List.mem_cons_of_mem _ h)
theorem named_names {n : Nat} {d : PyData} (h : goodH n d = true) : ∀ x ∈ namedR n d, isNameS x = true := fun x hx => by
  rw [namedR_pre] at hx
  rcases fold_sub _ _ _ hx with z | z
  · cases z
  · exact pre_names n d h x z
/-- a list of names as data -/
theorem names_show : ∀ ns : List Str, (∀ x ∈ ns, isNameS x = true) → PyData.showableAll (ns.map PyData.str) = true ∧ PyData.hasDictAll (ns.map PyData.str) = false ∧ PyData.depthAll (ns.map PyData.str) ≤ 1 ∧ ((PyData.shownAll (ns.map PyData.str)).map (·.length)).sum ≤ 100 * ns.length ∧ (PyData.shownAll (ns.map PyData.str)).length = ns.length
  | [], _ => ⟨rfl, rfl, Nat.zero_le _, Nat.zero_le _, rfl⟩
  | x :: r, h => by
    obtain ⟨a1, a2, a3, a4, a5⟩ := names_show r fun z hz => h z (List.mem_cons_of_mem _ hz)
    obtain ⟨x1, x2, x3⟩ := isName_low (h x List.mem_cons_self)
    have r1 := StrLaws.reprText_len x (low_codes x1)
    refine ⟨?_, ?_, ?_, ?_, ?_⟩
    · simp only [List.map_cons, PyData.showableAll, PyData.showable, a1, Bool.and_self]
    · simp only [List.map_cons, PyData.hasDictAll, PyData.hasDict, a2, Bool.or_self]
    · simp only [List.map_cons, PyData.depthAll, PyData.depth]
      omega
    · simp only [List.map_cons, PyData.shownAll, PyData.shown, List.sum_cons, List.length_cons]
      omega
    · simp only [List.map_cons, PyData.shownAll, List.length_cons, a5]
theorem names_ok {ns : List Str} (h : ∀ x ∈ ns, isNameS x = true) (hl : ns.length ≤ 60) : PyData.showable (.list (ns.map PyData.str)) = true ∧ (PyData.list (ns.map PyData.str)).hasDict = false ∧ (PyData.list (ns.map PyData.str)).depth ≤ 60 ∧ (PyData.list (ns.map PyData.str)).shown.length ≤ 10000 := by
  obtain ⟨a1, a2, a3, a4, a5⟩ := names_show ns h
  refine ⟨?_, ?_, ?_, ?_⟩
  · simp only [PyData.showable, a1]
  · simp only [PyData.hasDict, a2]
  · simp only [PyData.depth]
    omega
  · simp only [PyData.shown]
    have := listText_len_le (PyData.shownAll (ns.map PyData.str))
    omega
/-! ### heaps in which tables grow -/
theorem ext_same {H H' : Hp} (e : Same H H') : ExtN H H' := fun b o h _ => e b o h
theorem ext_seqT {K : PySem.W.Frag} {H H' : Hp} (e : ExtN H H') {a : Addr} {xs : List V} (h : SqT K H a xs) : SqT K H' a xs := by
  rcases h with (h | ⟨o, h⟩) | h
  · exact .inl (.inl (e _ _ h (fun ps z => by cases z)))
  · exact .inl (.inr ⟨o, e _ _ h (fun ps z => by cases z)⟩)
  · exact .inr h
theorem Tg.ext {K : PySem.W.Frag} {s l : Addr} {H H' : Hp} {v : V} {d : PyData} (h : Tg K s l H v d) (e : ExtN H H') : Tg K s l H' v d := h.mono (fun _ _ q => ext_seqT e q) (fun _ _ _ _ q => e _ _ q (fun ps z => by cases z)) (fun _ _ _ q => e _ _ q (fun ps z => by cases z))
end Kn
set_option Elab.async false
set_option linter.all false
set_option maxRecDepth 100000
set_option maxHeartbeats 4000000
set_option pp.maxSteps 1200
namespace Kn
open PySem L2 TL PySem.Spec PyProof.Rows LamX
/-! ### draws and tables side by side -/
section
variable {K : PySem.W.Frag} {s c l : Addr} {H H' : Hp} {T : List (Addr × Str)}
theorem StOk.ext (h : StOk K H s c l) (e : ExtN H H') (hc : H' c ≠ none) : StOk K H' s c l := by
  obtain ⟨h1, h2, h3, h4, k, ns, ls, a1, a2, a3, a4, a5, a6, a7⟩ := h
  have a3' : SqL K H' c (ns.map V.int) := by
    rcases a3 with (h | ⟨o, h⟩) | h
    · exact .inl (.inl (e _ _ h (fun ps z => by cases z)))
    · exact .inl (.inr ⟨o, e _ _ h (fun ps z => by cases z)⟩)
    · exact .inr h
  exact ⟨h1, h2, h3, hc, k, ns, ls, a1, e _ _ a2 (fun ps z => by cases z), a3', a4, e _ _ a5 (fun ps z => by cases z), a6, a7⟩
theorem tabs_keep (t : Tabs T H) (S : StOk K H s c l) (e : Keep s l H H') : Tabs T H' := by
  obtain ⟨_, _, _, _, k, ns, ls, _, a2, _, _, a5, _, _⟩ := S
  intro p hp
  obtain ⟨ps, h1, h2, h3⟩ := t p hp
  refine ⟨ps, e _ _ (ne_of h1 a2 (by intro z; cases z)) (ne_of h1 a5 (by intro z; cases z)) h1, h2, fun pos cv hc => ?_⟩
  obtain ⟨a, e1, e2⟩ := h3 pos cv hc
  refine ⟨a, e1, e _ _ (fun z => ?_) (fun z => ?_) e2⟩
  · rw [z, a2] at e2
    cases e2
  · rw [z, a5] at e2
    cases e2
end
section
variable {K : PySem.W.Frag} {s c l : Addr} {H H' : Hp} {T : List (Addr × Str)}
theorem TgAll.ext {vs : List V} {ds : List PyData} (h : TgAll K s l H vs ds) (e : ExtN H H') : TgAll K s l H' vs ds := h.mono (fun _ _ q => ext_seqT e q) (fun _ _ _ _ q => e _ _ q (fun ps z => by cases z)) (fun _ _ _ q => e _ _ q (fun ps z => by cases z))
/-- what goes through the whole law -/
structure Thru (K : PySem.W.Frag) (T : List (Addr × Str)) (s c l : Addr) (o : Obj) (ns : List Int) (H : Hp) : Prop where
  st : StOk K H s c l
  tb : Tabs T H
  fr : H c = some (.frz o (.lst (ns.map V.int)))
variable {o : Obj} {ns : List Int}
theorem Thru.keep (t : Thru K T s c l o ns H) (e : Keep s l H H') (S : StOk K H' s c l) : Thru K T s c l o ns H' := ⟨S, tabs_keep t.tb t.st e, e _ _ t.st.cs t.st.cl t.fr⟩
theorem Thru.same (t : Thru K T s c l o ns H) (e : Same H H') : Thru K T s c l o ns H' := ⟨t.st.keep e, Tabs.ext t.tb e, e _ _ t.fr⟩
theorem Thru.ext (t : Thru K T s c l o ns H) (e : ExtN H H') (tb : Tabs T H') : Thru K T s c l o ns H' := by
  have h := e _ _ t.fr (fun ps z => by cases z)
  exact ⟨StOk.ext t.st e (fun z => by rw [z] at h; cases h), tb, h⟩
end
/-- what goes through a turn of the law: the formula, and the one before with its text -/
structure LawSt (K : PySem.W.Frag) (T : List (Addr × Str)) (s c l : Addr) (o : Obj) (ns : List Int) (H : Hp) (x : V) (fo : Fo Str) (pb : Addr) (bv : V) (bf : Fo Str) : Prop where
  th : Thru K T s c l o ns H
  tx : Tg K s l H x fo.d
  hb : SqT K H pb [.str (bareS bf), bv]
  tb : Tg K s l H bv bf.d
section
variable {K : PySem.W.Frag} {s c l : Addr} {H H' : Hp} {T : List (Addr × Str)} {o : Obj} {ns : List Int} {x bv : V} {fo bf : Fo Str} {pb : Addr}
theorem LawSt.keep (h : LawSt K T s c l o ns H x fo pb bv bf) (e : Keep s l H H') (S : StOk K H' s c l) : LawSt K T s c l o ns H' x fo pb bv bf := ⟨h.th.keep e S, h.tx.keep h.th.st e, h.th.st.seqT e h.hb, h.tb.keep h.th.st e⟩
theorem LawSt.same (h : LawSt K T s c l o ns H x fo pb bv bf) (e : Same H H') : LawSt K T s c l o ns H' x fo pb bv bf := ⟨h.th.same e, h.tx.same e, Same.seqT e h.hb, h.tb.same e⟩
theorem LawSt.ext (h : LawSt K T s c l o ns H x fo pb bv bf) (e : ExtN H H') (tb : Tabs T H') : LawSt K T s c l o ns H' x fo pb bv bf := ⟨h.th.ext e tb, h.tx.ext e, ext_seqT e h.hb, h.tb.ext e⟩
theorem LawSt.keep3 {b : Addr} {k k' : Nat} (h : LawSt K T s c l o ns H x fo pb bv bf) (S : BxOk K H s c l b k) (e : Keep3 s l b H H') (S' : BxOk K H' s c l b k') : LawSt K T s c l o ns H' x fo pb bv bf := by
  refine ⟨⟨S'.st, ?_, ?_⟩, S.tg e h.tx, S.seqT e h.hb, S.tg e h.tb⟩
  · obtain ⟨_, _, _, _, k0, ns', ls, _, a2, _, _, a5, _, _⟩ := S.st
    intro p hp
    obtain ⟨ps, h1, h2, h3⟩ := h.th.tb p hp
    refine ⟨ps, e _ _ (ne_of h1 a2 (by intro z; cases z)) (ne_of h1 a5 (by intro z; cases z)) (ne_of h1 S.bx (by intro z; cases z)) h1, h2, fun pos cv hc => ?_⟩
    obtain ⟨a, e1, e2⟩ := h3 pos cv hc
    refine ⟨a, e1, e _ _ (fun z => ?_) (fun z => ?_) (fun z => ?_) e2⟩
    · rw [z, a2] at e2
      cases e2
    · rw [z, a5] at e2
      cases e2
    · rw [z, S.bx] at e2
      cases e2
  · exact e _ _ S.st.cs S.st.cl (fun z => by
      have h1 := h.th.fr
      rw [z, S.bx] at h1
      cases h1) h.th.fr
theorem LawSt.box (h : LawSt K T s c l o ns H x fo pb bv bf) {b : Addr} (hb : H b = none) {k : Nat} (e : H' = upd (upd H b (.dK [])) b (.dK [(.inr "left", .int (k : Nat))])) : Same H H' ∧ BxOk K H' s c l b k := by
  have e1 : Same H H' := by
    rw [e]
    exact same_mut hb (same_new hb _)
  have nb := h.th.st.ns hb
  refine ⟨e1, h.th.st.keep e1, nb.1, nb.2.1, ?_⟩
  rw [e]
  exact upd_same
end
end Kn
set_option Elab.async false
set_option linter.all false
set_option maxRecDepth 100000
set_option maxHeartbeats 4000000
set_option pp.maxSteps 1200
namespace Kn
open PySem L2 TL PySem.Spec PyProof.Rows LamX
/-! ### law -/
abbrev nLaw5 : List Str := ["script", "state", "before", "turn", "names", "formula", "plain", "loose", "bent", "place", "word", "odd"]
abbrev qLaw5 : Str := ("law" : Str) ++ ".<locals>."
theorem scLaw5 : FnScope nLaw5 ["script"] (defScope sLaw) := ⟨rfl, rfl, rfl, by decide +kernel, rfl, by decide +kernel, by decide +kernel⟩
def spLaw5 (K : PySem.W.Frag) (T : List (Addr × Str)) : Sp := fun vs H Q _ => ∃ (c : Addr) (ns : List Int), vs = [.ref c] ∧ SqL K H c (ns.map V.int) ∧ (∃ o, H c = some (.frz o (.lst (ns.map V.int)))) ∧ ns.length ≤ 63 ∧ Tabs T H ∧ ∀ H', Q (.bl true) H'
section
variable {P : Program} {w : World} {K : PySem.W.Frag} {mg : Str → Option Value} {base : Heap}
theorem ok_law5 {f cA PA C g c2 c3 c4 c5 c6 c7 c8 c9 : Addr} {fd fdR : FuncData} {T : List (Addr × Str)} (F : Fun K "law" "law" sLaw f fd) (R : RefN mg C c2 c3 c4 c5 c6 c7 c8 c9)
    (FR : Fun K "_law_refused" "_law_refused" sRefused g fdR) (bR : L2.Binds K fdR ["deed"] []) (mg_ : mg "_law_refused" = some (.ref g))
    (hco : ∀ (o : Obj) (fd' : FuncData), K.lookup f = some o → o.data = .func fd' → fd'.code = .ref cA) (TB : TabB base mg cA PA) (hmT : (PA, qLaw5 ++ "<lambda>") ∈ T) (huT : ∀ p ∈ T, p.1 = PA → p.2 = qLaw5 ++ "<lambda>")
    (X1 : ClsX K C c2 c3 c4 c5 c6 c7 c8 c9 C true false false false false false false false false false) (X6 : ClsX K C c2 c3 c4 c5 c6 c7 c8 c9 c6 false false false false false true false false false false)
    (nPl : PySem.W.findIn K (.ref C) "place" = some none)
    (BG : Def P w K mg base CX0 "_law_begun" 1 ["script"] (spBegun K)) (DR : Def P w K mg base CX0 "_law_draw" 2 ["state", "many"] (spDraw K)) (ON : Def P w K mg base CX0 "_law_one" 3 ["state", "things"] (spOne K)) (NM : Def P w K mg base CX0 "_law_names" 5 ["state", "many"] (spNames K))
    (MD : Def P w K mg base CX0 "_law_made" 13 ["state", "names", "room", "deep"] (spMade K 10)) (BT : Def P w K mg base CX0 "_law_bent" 43 ["state", "thing"] (spBentD K 40)) (PL : Def P w K mg base CX0 "_law_place" 2 ["thing"] (spPlace K))
    (LB : Def P w K mg base CX0 "_law_bare" 21 ["formula"] (spLBare K 10)) (LD : Def P w K mg base CX0 "_law_told" 12 ["state", "formula", "level", "box"] (spLTold K 10)) (SP : Def P w K mg base CX0 "_law_spread" 4 ["state", "words"] (spSpr K))
    (FT : Def P w K mg base (L2.CX P w) "formula_text" 23 ["formula"] (spFText K C c6)) (RF : Def P w K mg base CX0 "read_formula" 6 ["text"] (spReadF K))
    (mr : mg "range" = none) (mm : mg "min" = none) (ml : mg "len" = none) (mi : mg "isinstance" = none) (mn : mg "int" = none) (mrp : mg "repr" = none) (mK : mg "KeyError" = none) (mO : mg "OverflowError" = none) (mR : mg "RuntimeError" = none) (mV : mg "ValueError" = none) :
    FnG P w K mg base CX0 44 f fd ["script"] (spLaw5 K T) := by
  refine Fn.okG F scLaw5 (fun vs H Q E h => ?_) (fun cdv A outer s H vs Q E hcd hfd gd hr h => ?_)
  · obtain ⟨c, ns, rfl, _⟩ := h
    rfl
  obtain ⟨c, ns, rfl, hc, ⟨o, hco2⟩, h63, hT, q⟩ := h
  obtain ⟨o', hlo, kV, doc, pm, an, ct, hdo⟩ := hfd
  obtain rfl : cdv = .ref cA := hco o' _ hlo hdo
  have hr1 : Room 1 _ := hr.mono (by omega)
  have hr2 : Room 2 _ := hr.mono (by omega)
  have hr3 : Room 3 _ := hr.mono (by omega)
  have hr4 : Room 4 _ := hr.mono (by omega)
  have hr5 : Room 5 _ := hr.mono (by omega)
  have hr6 : Room 6 _ := hr.mono (by omega)
  have hr12 : Room 12 _ := hr.mono (by omega)
  have hr13 : Room 13 _ := hr.mono (by omega)
  have hr21 : Room 21 _ := hr.mono (by omega)
  have hr23 : Room 23 _ := hr.mono (by omega)
  have hr25 : Room (23 + 2) _ := hr.mono (by omega)
  have hun := hr.un
  have hu := hu_of hr
  have huE : (A.deeper (envOfC "law" (defScope sLaw) s.heap.objs.size f (.ref cA))).units + 64 < cLine := by omega
  refine ⟨_, (pss_cons (ps_set (i := 1) scLaw5.nd rfl (Or.inl rfl) (pe_def BG hr1 rfl (pa_cons (pv 0) pa_nil)))
    (pss_cons (ps_set (i := 2) scLaw5.nd rfl (Or.inl rfl) (pe_tup (pa_cons pe_str (pa_cons (pe_tup (pa_cons pe_str pa_nil)) pa_nil))))
    (pss_cons (ps_for PassesOwn.never rfl (pi_range1 rfl mr (pa_cons (pe_op op_add pe_int (pe_callB (call_min2 rfl) (by rfl) mm (by decide +kernel) (pa_cons pe_int (pa_cons (pe_callB call_len_seq (by rfl) ml PySem.boot_len (pa_cons (pv 0) pa_nil)) pa_nil)))) pa_nil)) (pg_name (i := 3) scLaw5.nd rfl (Or.inl rfl)) (pss_cons (ps_set (i := 4) scLaw5.nd rfl (Or.inl rfl) (pe_def NM hr5 rfl (pa_cons (pv 1) (pa_cons (pe_def DR hr2 rfl (pa_cons (pv 1) (pa_cons pe_int pa_nil))) pa_nil))))
      (pss_cons (ps_set (i := 5) scLaw5.nd rfl (Or.inl rfl) (pe_def MD hr13 rfl (pa_cons (pv 1) (pa_cons (pv 4) (pa_cons (pe_op op_add pe_int (pe_def DR hr2 rfl (pa_cons (pv 1) (pa_cons pe_int pa_nil)))) (pa_cons (pe_def DR hr2 rfl (pa_cons (pv 1) (pa_cons pe_int pa_nil))) pa_nil))))))
      (pss_cons (ps_set (i := 6) scLaw5.nd rfl (Or.inl rfl) (pe_def LB hr21 rfl (pa_cons (pv 5) pa_nil)))
      (pss_cons (ps_if (PW.pt (pw_or (pt_cmpR op_ne (pe_def0T FT hr23 rfl (pa_cons (pv 5) pa_nil)) (pv 6) (nomark _)) (pw_or1 (pt_cmpR op_ne (pe_callB (call_reprD gd huE) (by rfl) mrp PyProof.Rows.bootS_repr (pa_cons (pe_def RF hr6 rfl (pa_cons (pv 6) pa_nil)) pa_nil)) (pe_callB (call_reprD gd huE) (by rfl) mrp PyProof.Rows.bootS_repr (pa_cons (pv 5) pa_nil)) (nomark _))))) (pss_one (ps_ret pe_bl)) pss_nil)
      (pss_cons (ps_if (pt_cmpR op_ne (pe_callB (call_reprD gd huE) (by rfl) mrp PyProof.Rows.bootS_repr (pa_cons (pe_def RF hr6 rfl (pa_cons (pe_ix ix_tup (pv 2) pe_int (fun _ _ => rfl)) pa_nil)) pa_nil)) (pe_callB (call_reprD gd huE) (by rfl) mrp PyProof.Rows.bootS_repr (pa_cons (pe_ix ix_tup (pv 2) pe_int (fun _ _ => rfl)) pa_nil)) (nomark _)) (pss_one (ps_ret pe_bl)) pss_nil)
      (pss_cons (ps_if (pt_cmpR op_ne (pe_cmpR op_eq (pv 6) (pe_ix ix_tup (pv 2) pe_int (fun _ _ => rfl)) (nomark _)) (pe_cmpR (op_eqD huE) (pv 5) (pe_ix ix_tup (pv 2) pe_int (fun _ _ => rfl)) (nomark _)) (nomark _)) (pss_one (ps_ret pe_bl)) pss_nil)
      (pss_cons (ps_set (i := 7) scLaw5.nd rfl (Or.inl rfl) (pe_def SP hr4 rfl (pa_cons (pv 1) (pa_cons (pe_def LD hr12 rfl (pa_cons (pv 1) (pa_cons (pv 5) (pa_cons pe_int (pa_cons (pe_disp (pps_cons pe_str pe_int pps_nil) (by rfl) (by rfl) (fun z => by cases z) (by decide)) pa_nil))))) pa_nil))))
      (Evl.pss_cut (ps_if (PW.pt (pw_and (pt_cmpR op_le (pe_callB call_len (by rfl) ml PySem.boot_len (pa_cons (pv 7) pa_nil)) pe_int (nomark _)) (pw_and1 (pt_cmpR op_ne (pe_callB (call_reprD gd huE) (by rfl) mrp PyProof.Rows.bootS_repr (pa_cons (pe_def RF hr6 rfl (pa_cons (pv 7) pa_nil)) pa_nil)) (pe_callB (call_reprD gd huE) (by rfl) mrp PyProof.Rows.bootS_repr (pa_cons (pv 5) pa_nil)) (nomark _))))) (pss_one (ps_ret pe_bl)) pss_nil)
      (pss_cons (ps_set (i := 8) scLaw5.nd rfl (Or.inr rfl) (pe_def BT hr rfl (pa_cons (pv 1) (pa_cons (pv 5) pa_nil))))
      (Evl.pss_cut (ps_set (i := 9) scLaw5.nd rfl (Or.inl rfl) (pe_def PL hr2 rfl (pa_cons (pv 8) pa_nil)))
      (Evl.pss_cut (ps_if (PW.pt (pw_and (pt_cmpR op_notN (pv 9) pe_non (nomark _)) (pw_and1 (pt_cmpR op_ne (pe_lamXT (k := 23) (K := K) (qn := qLaw5) (cA := cA) (PA := PA) rfl (by rfl) R FR bR mg_ (by rfl) TB (by rfl) hmT huT gd hr25 mi mn ml mrp mK mO mR mV (lamS_by (sc := defScope sLaw) (by decide +kernel)) (by rfl) (by intros; rfl)
      (fun A outer s H E f c' hrb => pe_defX (E := E) FT hrb rfl (takes_of rfl rfl rfl rfl) (pa_cons (pv 8) pa_nil))) (pe_op op_add_str pe_str (pe_callB (call_reprD gd huE) (by rfl) mrp PyProof.Rows.bootS_repr (pa_cons (pv 9) pa_nil))) (nomark _))))) (pss_one (ps_ret pe_bl)) pss_nil)
      (Evl.pss_cut (ps_if (PW.pt (pw_and (pt_cmpR op_isN (pv 9) pe_non (nomark _)) (pw_and1 (pt_cmpR op_ne (pe_def0T FT hr23 rfl (pa_cons (pv 8) pa_nil)) (pe_def LB hr21 rfl (pa_cons (pv 8) pa_nil)) (nomark _))))) (pss_one (ps_ret pe_bl)) pss_nil)
      (pss_cons (ps_set (i := 10) scLaw5.nd rfl (Or.inl rfl) (pe_def ON hr3 rfl (pa_cons (pv 1) (pa_cons (pe_lst (pa_cons pe_str (pa_cons pe_str (pa_cons pe_str pa_nil)))) pa_nil))))
      (pss_cons (ps_set (i := 11) scLaw5.nd rfl (Or.inr rfl) (pe_def ON hr3 rfl (pa_cons (pv 1) (pa_cons (pe_lst (pa_cons (pe_tup (pa_cons pe_str (pa_cons (pv 10) pa_nil))) (pa_cons (pe_tup (pa_cons pe_str (pa_cons (pe_tup (pa_cons pe_str (pa_cons (pv 10) (pa_cons (pe_tup (pa_cons pe_str pa_nil)) pa_nil)))) pa_nil))) (pa_cons (pe_tup (pa_cons pe_str (pa_cons (pv 10) (pa_cons (pv 5) (pa_cons (pe_tup (pa_cons pe_str pa_nil)) pa_nil))))) pa_nil)))) pa_nil))))
      (Evl.pss_cut (ps_if (PW.pt (pw_and (pt_cmpR op_isN (pe_def PL hr2 rfl (pa_cons (pv 11) pa_nil)) pe_non (nomark _)) (pw_and1 (pt_cmpR op_ne (pe_lamXT (k := 23) (K := K) (qn := qLaw5) (cA := cA) (PA := PA) rfl (by rfl) R FR bR mg_ (by rfl) TB (by rfl) hmT huT gd hr25 mi mn ml mrp mK mO mR mV (lamS_by (sc := defScope sLaw) (by decide +kernel)) (by rfl) (by intros; rfl)
      (fun A outer s H E f c' hrb => pe_defX (E := E) FT hrb rfl (takes_of rfl rfl rfl rfl) (pa_cons (pv 11) pa_nil))) pe_str (nomark _))))) (pss_one (ps_ret pe_bl)) pss_nil)
      (pss_one (ps_set (i := 2) scLaw5.nd rfl (Or.inl rfl) (pe_tup (pa_cons (pv 6) (pa_cons (pv 5) pa_nil)))))))))))))))))))))
    (pss_one (ps_ret pe_bl))))), ?_⟩
  have zl : sizeLine = 16777216 := sizeLine_eq
  refine ⟨_, rfl, c, ns, rfl, hc, ⟨_, hco2⟩, h63, fun H1 s l S1 e1 ns1 nl1 => ?_⟩
  have U1 : Thru K T s c l o ns H1 := ⟨S1, Tabs.ext hT e1, e1 _ _ hco2⟩
  clear hc hco2 hT e1 S1
  refine ⟨(by show 1 ≤ sizeLine; decide), fun p1 hp1 => ⟨(by show 2 ≤ sizeLine; decide), fun p2 hp2 => ?_⟩⟩
  have f1 := same_new hp1 (.tup [V.str "yes"])
  have f2 := same_new hp2 (.tup [V.str "1", V.ref p1])
  have U2 := (U1.same f1).same f2
  have t0 : Tg K s l (upd (upd H1 p1 (.tup [V.str "yes"])) p2 (.tup [V.str "1", V.ref p1])) (.ref p1) (Fo.yes : Fo Str).d := .tup (SqT.of (f2 _ _ upd_same)) (.cons (.str _ (by decide +kernel)) .nil)
  have hb0 : SqT K (upd (upd H1 p1 (.tup [V.str "yes"])) p2 (.tup [V.str "1", V.ref p1])) p2 [.str (bareS .yes), .ref p1] := SqT.of upd_same
  have G0 : FoG (.yes : Fo Str) := ⟨fun x hx => (nomatch hx), fun x hx => (nomatch hx), by decide, by decide, by decide +kernel⟩
  clear f1 f2 U1
  generalize upd (upd H1 p1 (.tup [V.str "yes"])) p2 (.tup [V.str "1", V.ref p1]) = H2 at U2 t0 hb0 ⊢
  have hc6 : SqL K H2 c (ns.map V.int) := .inl (.inr ⟨o, U2.fr⟩)
  have n15 : (0 : Int) ≤ (1 + if ((ns.map V.int).length : Int) < 15 then ((ns.map V.int).length : Int) else 15) ∧ (1 + if ((ns.map V.int).length : Int) < 15 then ((ns.map V.int).length : Int) else 15) ≤ 16 := by
    split <;> omega
  refine ⟨_, rfl, c, _, rfl, .inl hc6, _, _, rfl, _, _, rfl, rfl, _, rfl, Int.le_trans (by decide) n15.1, Int.lt_of_le_of_lt n15.2 (by decide), for_range (lo := 0) (n := (1 + if ((ns.map V.int).length : Int) < 15 then ((ns.map V.int).length : Int) else 15).toNat) (fun i σ Hx => ∃ (pb : Addr) (bv : V) (bf : Fo Str) (x3 x4 x5 x6 x7 x8 x9 x10 x11 : Option V),
      σ = [some (.ref c), some (.ref s), some (.ref pb), x3, x4, x5, x6, x7, x8, x9, x10, x11] ∧ Thru K T s c l o ns Hx ∧ SqT K Hx pb [.str (bareS bf), bv] ∧ Tg K s l Hx bv bf.d ∧ FoG bf)
    ⟨_, _, .yes, _, _, _, _, _, _, _, _, _, rfl, U2, hb0, t0, G0⟩ ?_ ?_⟩
  rotate_left
  · rintro σ Hx ⟨pb, bv, bf, x3, x4, x5, x6, x7, x8, x9, x10, x11, rfl, _⟩
    exact q Hx
  rintro i σ Hx hi ⟨pb, bv, bf, x3, x4, x5, x6, x7, x8, x9, x10, x11, rfl, U, hbx, tbx, GB⟩
  -- names, formula
  refine ⟨_, rfl, _, rfl, s, c, l, 11, rfl, U.st, by decide, by decide, fun Ha n Sa ka n0 n1 => ⟨s, c, l, n, rfl, Sa, n0, by omega, fun Hb pn zs Sb kb nb hb lz wz ndz => ?_⟩⟩
  have npn := Sa.ns nb
  have kab := ka.trans kb
  have Ub := U.keep kab Sb
  have hbb := U.st.seqT kab hbx
  have tbb := tbx.keep U.st kab
  refine ⟨_, rfl, _, rfl, _, rfl, s, c, l, 60, rfl, Sb, by decide, by decide, fun Hc r Sc kc r0 r1 => ⟨_, _, rfl, rfl, _, rfl, s, c, l, 10, rfl, Sc, by decide, by decide, fun Hd dp Sd kd d0 d1 => ⟨s, c, l, pn, zs, 1 + r, dp, rfl, Sd, npn.1, npn.2.1, SqL.of (kd _ _ npn.1 npn.2.1 (kc _ _ npn.1 npn.2.1 hb)), by omega, wz, by omega, by omega, d0, by omega, fun He x Se ke ft => ?_⟩⟩⟩
  obtain ⟨d1', a1, b1, tx, fm, la, lb⟩ := ft
  have zx := fm.sz
  obtain ⟨fo, rfl, sub, hs, hh⟩ := fm_fo fm
  have hnm : ∀ z ∈ zs, isNameS z = true := fun z hz => word_name (wz z hz)
  have hok : fo.ok := fun x hx => hnm x (sub x hx)
  have hht : fo.hgt < 10 := by omega
  have hsz : fo.sz ≤ 60 := by omega
  have GF : FoG fo := ⟨hok, fun x hx => word_text (wz x (sub x hx)), hsz, hht, place_none hok hht hsz sub (by omega)⟩
  have k3 := (kc.trans kd).trans ke
  have W : LawSt K T s c l o ns He x fo pb bv bf := ⟨Ub.keep k3 Se, tx, Sb.seqT k3 hbb, tbb.keep Sb k3⟩
  clear Ub hbb tbb tx ke kd kc kb ka Sd Sc Sb Sa hb nb U hbx tbx k3 kab Se
  -- plain
  refine ⟨_, rfl, s, l, x, fo, rfl, W.tx, hok, hht, by omega, fun Hf ef => ?_⟩
  have W := W.same ef
  clear ef
  obtain ⟨g1, g2, g3, g4, g5, g6⟩ := fo_show GF
  obtain ⟨b1', b2', b3', b4', b5', b6'⟩ := fo_show GB
  obtain ⟨ax, xs, rfl, _⟩ := fo_head W.tx
  obtain ⟨ab, bs, rfl, _⟩ := fo_head W.tb
  have nk : ∀ {f : Fo Str}, FoG f → ∀ way, placeD f.d = some way → False := fun h way hw => by
    rw [h.pl] at hw
    cases hw
  -- the formula's text, read
  obtain ⟨pl1, pl2, pl3⟩ := read_plain hok GF.nm hsz
  refine ⟨_, rfl, s, l, .ref ax, fo.d, rfl, W.tx, fun _ _ => ⟨fo, rfl, hok, hht, hsz, fun Hg eg => ?_⟩, fun _ h => (h.elim fun y hy => (GF.names y hy.1 hy.2).elim), fun way hw => (nk GF way hw).elim⟩
  have W := W.same eg
  refine ⟨_, rfl, rfl, _, rfl, ?_⟩
  rw [decide_eq_true (show V.str (bareS fo) = V.str (bareS fo) from rfl)]
  refine iteF ⟨_, rfl, bareS fo, fo, rfl, by omega, pl2, pl3, GF.pl, fun Hh v eh tv => ?_⟩
  have W := W.same eh
  obtain ⟨av, vs, rfl, _⟩ := fo_head tv
  refine ⟨av, fo.d, rfl, tv.dp g1, g2, g4, by omega, by omega, _, rfl, ax, fo.d, rfl, W.tx.dp g1, g2, g4, by omega, by omega, rfl, _, rfl, ?_⟩
  rw [decide_eq_true (show V.str fo.d.shown = V.str fo.d.shown from rfl)]
  refine iteF ?_
  clear eg eh tv pl1 pl2 pl3
  -- the one before, read again
  obtain ⟨pl1, pl2, pl3⟩ := read_plain GB.ok GB.nm GB.sz
  refine ⟨_, rfl, pb, _, _, _, rfl, rfl, W.hb, atI_nat (j := 0) rfl, bareS bf, bf, rfl, by omega, pl2, pl3, GB.pl, fun Hi v ei tv => ?_⟩
  have W := W.same ei
  obtain ⟨av2, vs2, rfl, _⟩ := fo_head tv
  refine ⟨av2, bf.d, rfl, tv.dp b1', b2', b4', by omega, by omega, _, rfl, pb, _, _, _, rfl, rfl, W.hb, atI_nat (j := 1) rfl, ab, bf.d, rfl, W.tb.dp b1', b2', b4', by omega, by omega, rfl, _, rfl, ?_⟩
  rw [decide_eq_true (show V.str bf.d.shown = V.str bf.d.shown from rfl)]
  refine iteF ?_
  clear ei tv pl1 pl2 pl3
  -- unlike ones have unlike texts
  refine ⟨_, rfl, _, rfl, pb, _, _, _, rfl, rfl, W.hb, atI_nat (j := 0) rfl, rfl, _, rfl, _, rfl, pb, _, _, _, rfl, rfl, W.hb, atI_nat (j := 1) rfl, fo.d, bf.d, W.tx.dp g1, W.tb.dp b1', fo_shaped GF, fo_shaped GB, rfl, _, rfl, ?_⟩
  rw [same_text GF GB]
  refine iteF ?_
  -- told with more brackets, spread
  refine ⟨_, rfl, _, rfl, _, rfl, fun pg hpg => ⟨upd_same, [(.inr "left", .int 8)], rfl, (by show 1 ≤ 15; decide), ?_⟩⟩
  have ek : mergeK [] ([(.inr "left", .int 8)] : List (Key × V)) = [(.inr "left", .int 8)] := mergeK_nd (by decide +kernel)
  rw [ek]
  obtain ⟨eB, SB⟩ := W.box (k := 8) hpg rfl
  have W := W.same eB
  clear hpg eB
  generalize upd (upd Hi pg (.dK [])) pg (.dK [(.inr "left", .int 8)]) = Hj at W SB ⊢
  refine ⟨s, c, l, pg, .ref ax, fo, 0, 8, rfl, SB, W.tx.pmono (fun _ _ q => q) (fo_pureT fo), hok, hht, by omega, by decide, by decide, fun Hk p5 ws k5 S5 K5 m1 m2 m3 hp5 hk5 hl5 r5 => ?_⟩
  have W := W.keep3 SB K5 S5
  clear SB K5
  have hop : opens ws ≤ 120 := by
    have h1 := opens_few GF.nm hsz
    have h2 := r5.2
    have h3 : toldW fo 0 = bareW fo := by rw [toldW, if_neg (Nat.not_lt_zero _)]
    rw [h3] at h2
    omega
  refine ⟨s, c, l, p5, ws, rfl, S5.st, m1, m2, hp5, by omega, fun y hy => ⟨gw_told r5.1 hok y hy, gw_len (gw_told r5.1 hok y hy)⟩, fun Hl z ps t Sl Kl hz hw ha hzl => ?_⟩
  have W := W.keep Kl Sl
  clear S5 Kl
  obtain ⟨ok_, rd_⟩ := read_spr hok GF.nm r5.1 hop hz hw ha
  -- the loose text, read
  refine ⟨fun σ' H' => (∃ y3 : Option V, σ' = [some (.ref c), some (.ref s), some (.ref pb), y3, some (.ref pn), some (.ref ax), some (.str (bareS fo)), some (.str z), x8, x9, x10, x11]) ∧ LawSt K T s c l o ns H' (.ref ax) fo pb (.ref ab) bf, ?_, ?_⟩
  · refine ⟨_, rfl, _, _, rfl, ⟨by omega, rfl⟩, _, _, rfl, rfl, _, rfl, ite2 (fun c4 => ?_) (fun _ => ⟨⟨_, rfl⟩, W⟩)⟩
    have c4 := of_decide_eq_true c4
    refine ⟨_, rfl, z, fo, rfl, by omega, ok_, rd_, GF.pl, fun Hm v em tv => ?_⟩
    have W := W.same em
    obtain ⟨av3, vs3, rfl, _⟩ := fo_head tv
    refine ⟨av3, fo.d, rfl, tv.dp g1, g2, g4, by omega, by omega, _, rfl, ax, fo.d, rfl, W.tx.dp g1, g2, g4, by omega, by omega, rfl, _, rfl, ?_⟩
    rw [decide_eq_true (show V.str fo.d.shown = V.str fo.d.shown from rfl)]
    exact iteF ⟨⟨_, rfl⟩, W⟩
  clear W ok_ rd_ hop r5 hz hw ha
  rintro σ1 Hm ⟨⟨y3, rfl⟩, W⟩
  -- bent
  refine ⟨_, rfl, _, rfl, s, c, l, .ref ax, fo.d, rfl, W.th.st, W.tx, by omega, by omega, fun Hn xb d' Sn Kn_ tb5 hbn => ?_⟩
  have W := W.keep Kn_ Sn
  clear Kn_
  -- its place
  refine ⟨fun σ' H' => ∃ v9 : V, σ' = [some (.ref c), some (.ref s), some (.ref pb), y3, some (.ref pn), some (.ref ax), some (.str (bareS fo)), some (.str z), some xb, some v9, x10, x11] ∧ LawSt K T s c l o ns H' (.ref ax) fo pb (.ref ab) bf ∧ Tg K s l H' xb d' ∧ ((v9 = .non ∧ placeD d' = none) ∨ ∃ way p, v9 = .ref p ∧ placeD d' = some way ∧ SqT K H' p (wayV way) ∧ way.length ≤ 10 ∧ ∀ n ∈ way, n < 16), ?_, ?_⟩
  · refine ⟨_, rfl, s, l, xb, d', rfl, tb5, fun hnone Ho eo => ?_, fun way hw Ho pp eo hpw hl hw16 => ?_⟩
    · exact ⟨_, rfl, W.same eo, tb5.same eo, .inl ⟨rfl, hnone⟩⟩
    · exact ⟨_, rfl, W.same eo, tb5.same eo, .inr ⟨way, pp, rfl, hw, hpw, hl, hw16⟩⟩
  clear W tb5 Sn
  rintro σ2 Ho ⟨v9, rfl, W, tb5, hpl⟩
  -- refused by its place
  refine ⟨fun σ' H' => σ' = [some (.ref c), some (.ref s), some (.ref pb), y3, some (.ref pn), some (.ref ax), some (.str (bareS fo)), some (.str z), some xb, some v9, x10, x11] ∧ LawSt K T s c l o ns H' (.ref ax) fo pb (.ref ab) bf ∧ Tg K s l H' xb d', ?_, ?_⟩
  · rcases hpl with ⟨rfl, hnone⟩ | ⟨way, pp, rfl, hw, hpw, hl, hw16⟩
    · exact ⟨_, rfl, rfl, _, rfl, iteF ⟨rfl, W, tb5⟩⟩
    · obtain ⟨w1, w2, w3, w4⟩ := way_ok hl hw16
      refine ⟨_, rfl, rfl, _, rfl, iteT ?_⟩
      have hT := W.th.tb
      refine ⟨hT, fun Hp x2 t2 => ⟨_, rfl, s, l, xb, d', rfl, tb5.ext x2, fun hn => ?_, fun hn => ?_, fun way' hw' Hq dx p' e3 _ hx hp' hl' h16' => ?_⟩⟩
      · rw [hn] at hw
        cases hw
      · rw [hn] at hw
        cases hw
      obtain rfl : way = way' := Option.some.inj (hw.symm.trans hw')
      refine Or.inl ⟨C, dx, p', way, Or.inl ⟨rfl, X1, fun Hr e4 => ?_⟩, rfl, nPl, rfl, hx, hp', hl', h16'⟩
      have xr : ExtN Ho Hr := x2.trans (ext_same (e3.trans e4))
      have hdue : ("formula " : Str) ++ (wayD way).shown = dueP "formula" way := by
        unfold dueP
        have : ("formula" : Str) ++ (" " : Str) = ("formula " : Str) := by decide +kernel
        rw [this]
      have e8 : ("formula " : Str).length = 8 := by decide +kernel
      refine ⟨_, rfl, pp, wayD way, rfl, way_dp (ext_seqT xr hpw), w1, w2, w3, by omega, _, _, rfl, rfl, by omega, rfl, _, rfl, ?_⟩
      rw [hdue, decide_eq_true (show V.str (dueP "formula" way) = V.str (dueP "formula" way) from rfl)]
      exact iteF ⟨rfl, W.ext xr (t2.ext (e3.trans e4)), tb5.ext xr⟩
  clear W tb5
  rintro σ3 Hp ⟨rfl, W, tb5⟩
  -- else told by its text
  refine ⟨fun σ' H' => σ' = [some (.ref c), some (.ref s), some (.ref pb), y3, some (.ref pn), some (.ref ax), some (.str (bareS fo)), some (.str z), some xb, some v9, x10, x11] ∧ LawSt K T s c l o ns H' (.ref ax) fo pb (.ref ab) bf, ?_, ?_⟩
  · rcases hpl with ⟨rfl, hnone⟩ | ⟨way, pp, rfl, hw, hpw, hl, hw16⟩
    · refine ⟨_, rfl, rfl, _, rfl, iteT ?_⟩
      obtain ⟨gb, rfl, ob, hb10, sb⟩ := good_tree2 hnone
      have nb := bent_names hok GF.kept hbn hnone
      refine ⟨_, rfl, s, l, xb, gb.d, rfl, tb5, fun _ _ => ⟨gb, rfl, ob, hb10, sb, fun Hq eq_ => ?_⟩, fun _ h => (h.elim fun y hy => (nb y hy.1 hy.2).elim), fun way hw => ?_⟩
      · have W := W.same eq_
        have tb5 := tb5.same eq_
        refine ⟨_, rfl, s, l, xb, gb, rfl, tb5, ob, hb10, by omega, fun Hr er => ⟨rfl, _, rfl, ?_⟩⟩
        rw [decide_eq_true (show V.str (bareS gb) = V.str (bareS gb) from rfl)]
        exact iteF ⟨rfl, W.same er⟩
      · rw [hnone] at hw
        cases hw
    · exact ⟨_, rfl, rfl, _, rfl, iteF ⟨rfl, W⟩⟩
  clear W tb5 hbn hpl
  rintro σ4 Hq ⟨rfl, W⟩
  -- a word that is kept, and what has it for a name
  refine ⟨_, rfl, few_size (by show 3 ≤ 1000; decide), fun p6 hp6 => ?_⟩
  have np6 := W.th.st.ns hp6
  have W := W.same (same_new hp6 (.lst [.str "some", .str "all", .str "in"]))
  have g6' : (upd Hq p6 (.lst [.str "some", .str "all", .str "in"])) p6 = some (.lst [.str "some", .str "all", .str "in"]) := upd_same
  generalize upd Hq p6 (.lst [.str "some", .str "all", .str "in"]) = Hr at W g6' ⊢
  refine ⟨s, c, l, _, rfl, W.th.st, .inl ⟨p6, _, rfl, np6.1, np6.2.1, SqL.of g6', (show 0 < 3 by decide), (show 3 ≤ 100000 by decide), fun Hs xw Ss ks hx => ?_⟩⟩
  obtain ⟨wd, rfl, hwd⟩ : ∃ wd : Str, xw = .str wd ∧ wd ∈ keptW := by
    simp only [List.mem_cons, List.not_mem_nil, or_false] at hx
    rcases hx with rfl | rfl | rfl
    · exact ⟨_, rfl, by decide +kernel⟩
    · exact ⟨_, rfl, by decide +kernel⟩
    · exact ⟨_, rfl, by decide +kernel⟩
  have W := W.keep ks Ss
  clear ks g6' np6 hp6 hx
  have hwn : isNameS wd = true := (show ∀ x ∈ keptW, isNameS x = true by decide +kernel) wd hwd
  have hwo : okS wd = true := okS_nameT hwn
  obtain ⟨σ5, hσ⟩ : ∃ σ5 : L2.St, σ5 = [some (.ref c), some (.ref s), some (.ref pb), y3, some (.ref pn), some (.ref ax), some (.str (bareS fo)), some (.str z), some xb, some v9, some (.str wd), x11] := ⟨_, rfl⟩
  have i10 : σ5[10]? = some (some (V.str wd)) := by rw [hσ]; rfl
  have i5 : σ5[5]? = some (some (V.ref ax)) := by rw [hσ]; rfl
  have tw : Tg K s l Hs (.str wd) (.str wd) := .str wd hwo
  have eo : EvDL K s l ([Fo.nam wd, .neg (.som wd .no), .put wd fo .yes].map Fo.d) _ σ5 Hs :=
    edl_lst (eda_cons (evd_tup (eda_cons (evd_str (x := "name")) (eda_cons (evd_of (i := 10) i10 tw) eda_nil)) (show 2 ≤ 100 by decide))
      (eda_cons (evd_tup (eda_cons (evd_str (x := "not")) (eda_cons (evd_tup (eda_cons (evd_str (x := "some")) (eda_cons (evd_of (i := 10) i10 tw) (eda_cons (evd_tup (eda_cons (evd_str (x := "no")) eda_nil) (show 1 ≤ 100 by decide)) eda_nil))) (show 3 ≤ 100 by decide)) eda_nil)) (show 2 ≤ 100 by decide))
      (eda_cons (evd_tup (eda_cons (evd_str (x := "put")) (eda_cons (evd_of (i := 10) i10 tw) (eda_cons (evd_of (i := 5) i5 W.tx) (eda_cons (evd_tup (eda_cons (evd_str (x := "yes")) eda_nil) (show 1 ≤ 100 by decide)) eda_nil)))) (show 4 ≤ 100 by decide)) eda_nil))) (show 3 ≤ 100 by decide)
  subst hσ
  refine ⟨_, rfl, eo Hs (Same.refl Hs) _ fun p7 xs7 Ht et n7 h7 b7 => ?_⟩
  have np7 := W.th.st.ns n7
  have W := W.same et
  have l7 : xs7.length = 3 := b7.len.symm
  refine ⟨s, c, l, _, rfl, W.th.st, .inl ⟨p7, xs7, rfl, np7.1, np7.2.1, SqL.of h7, by omega, by omega, fun Hu xo Su ku hx => ?_⟩⟩
  obtain ⟨dO, mO, to⟩ := (b7.keep W.th.st ku).mem hx
  have W := W.keep ku Su
  obtain ⟨fd', hfd, rfl⟩ := List.mem_map.mp mO
  have hodd : fd'.ok ∧ wd ∈ fd'.nms := by
    simp only [List.mem_cons, List.not_mem_nil, or_false] at hfd
    rcases hfd with rfl | rfl | rfl
    · exact ⟨fun x hx => by rw [List.mem_singleton.mp hx]; exact hwn, List.mem_singleton.mpr rfl⟩
    · refine ⟨fun x hx => ?_, List.mem_cons_self⟩
      rcases List.mem_cons.mp hx with rfl | hx
      · exact hwn
      · cases hx
    · refine ⟨fun x hx => ?_, List.mem_cons_self⟩
      rcases List.mem_cons.mp hx with rfl | hx
      · exact hwn
      · rcases List.mem_append.mp hx with hx | hx
        · exact hok x hx
        · cases hx
  clear eo tw i10 i5 et n7 h7 b7 np7 ku hx mO
  -- refused: it has no text
  refine ⟨fun σ' H' => σ' = [some (.ref c), some (.ref s), some (.ref pb), y3, some (.ref pn), some (.ref ax), some (.str (bareS fo)), some (.str z), some xb, some v9, some (.str wd), some xo] ∧ LawSt K T s c l o ns H' (.ref ax) fo pb (.ref ab) bf, ?_, ?_⟩
  · refine ⟨_, rfl, s, l, xo, fd'.d, rfl, to, fun hnone Hv ev => ?_, fun way hw Hv pp ev hpw hl hw16 => ?_⟩
    · have W := W.same ev
      have to := to.same ev
      have hgt : fd'.hgt < 10 := by
        obtain ⟨g7, e7, _, h10, _⟩ := good_tree2 hnone
        rw [← fo_d_inj g7 fd' e7]
        exact h10
      refine ⟨rfl, _, rfl, iteT ?_⟩
      refine ⟨W.th.tb, fun Hw x2 t2 => ⟨_, rfl, s, l, xo, fd'.d, rfl, to.ext x2, fun _ h => ?_, fun _ _ H7 e7 => ?_, fun way hw => ?_⟩⟩
      · exact absurd hwd (h wd ((fo_names_mem hodd.1 hnone hgt).mpr hodd.2))
      · refine Or.inr (Or.inl ⟨X6, rfl, rfl, fun H8 e8 => ⟨rfl, _, rfl, ?_⟩⟩)
        rw [decide_eq_true (show V.str ("question" : Str) = V.str "question" from rfl)]
        exact iteF ⟨rfl, W.ext (x2.trans (ext_same (e7.trans e8))) (t2.ext (e7.trans e8))⟩
      · rw [hnone] at hw
        cases hw
    · exact ⟨rfl, _, rfl, iteF ⟨rfl, W.same ev⟩⟩
  clear W to
  rintro σ6 Hv ⟨rfl, W⟩
  -- the one before, for the next turn
  refine ⟨_, rfl, _, rfl, few_size (by show 2 ≤ 1000; decide), fun p8 hp8 => ?_⟩
  have e8 := same_new hp8 (.tup [V.str (bareS fo), V.ref ax])
  have W := W.same e8
  exact ⟨p8, .ref ax, fo, _, _, _, _, _, _, _, _, _, rfl, W.th, SqT.of upd_same, W.tx, GF⟩
end
end Kn
set_option Elab.async false
set_option linter.all false
set_option maxRecDepth 100000
set_option maxHeartbeats 1000000
set_option pp.maxSteps 1200
namespace Kn
open PySem L2 TL PySem.Spec PyProof.Rows LamX He
/-! ### the end: the script locked, tables empty, no repr under way -/
/-- nothing but the script at a and the empty tables at ts is told -/
def hEnd (a : Addr) (ts : List Addr) (so : Obj) (xs : List V) : Hp := fun b => if b = a then some (.frz so (.lst xs)) else if b ∈ ts then some (.tbl #[]) else none
section
variable {a : Addr} {ts : List Addr} {so : Obj} {xs : List V}
theorem hEnd_a : hEnd a ts so xs a = some (.frz so (.lst xs)) := if_pos rfl
theorem hEnd_t {t : Addr} (h : t ≠ a) (m : t ∈ ts) : hEnd a ts so xs t = some (.tbl #[]) := (if_neg h).trans (if_pos m)
theorem hEnd_n {b : Addr} (h1 : b ≠ a) (h2 : b ∉ ts) : hEnd a ts so xs b = none := (if_neg h1).trans (if_neg h2)
theorem hEnd_inv {b : Addr} {u : HO} (h : hEnd a ts so xs b = some u) : (b = a ∧ u = .frz so (.lst xs)) ∨ (b ∈ ts ∧ u = .tbl #[]) := by
  by_cases h1 : b = a
  · subst h1
    rw [hEnd_a] at h
    exact .inl ⟨rfl, (Option.some.inj h).symm⟩
  · by_cases h2 : b ∈ ts
    · rw [hEnd_t h1 h2] at h
      exact .inr ⟨h2, (Option.some.inj h).symm⟩
    · rw [hEnd_n h1 h2] at h
      cases h
end
abbrev scriptO (vs : List Value) : Obj := { cls := .type "list", data := .seq vs.toArray }
abbrev tabO : Obj := { cls := .none, data := .fields #[] }
theorem end_call {P : Program} {w : World} {K : PySem.W.Frag} {mg mb : Str → Option Value} {k : Nat} {fa a : Addr} {ts : List (Addr × Addr)} {fd : FuncData} {x : Str} {sp : Sp} {s : Shared} {vs : List Value} {ns : List Int}
    (kin : K.In s.heap) (hm : s.heap.Ns mainGlobals mg) (hbn : s.heap.Ns builtinsNs mb) (hbt : ∀ y : Str, y ≠ "__name__" → mb y = bootBuiltins y) (hnl : s.heap.NoLimit) (hgen : s.gens = #[])
    (hta : ∀ p ∈ ts, s.heap.get? p.2 = some tabO) (ktn : ∀ p ∈ ts, K.lookup p.2 = none) (hcd : ∀ p ∈ ts, PySem.W.CodeHd s.heap p.1 p.2)
    (hmod : ∃ (bm : Addr) (ob : Obj), mg "__builtins__" = some (.ref bm) ∧ bm ≠ builtinsNs ∧ s.heap.get? bm = some ob ∧ ob.cls = .type "module" ∧ ob.dict = some builtinsNs ∧ ob.data = .plain)
    (hsc : s.heap.get? a = some (scriptO vs)) (kan : K.lookup a = none) (hin : IntsAre vs ns) (hlen : ns.length ≤ sizeLine) (hroom : Room k callerA)
    (hF : ∀ base : Heap, K.In base → base.Ns mainGlobals mg → (∀ p ∈ ts, TabB base mg p.1 p.2) → FnG P w K mg base CX0 k fa fd [x] sp) (hbi : ∀ (s' : Shared) (u : Value), BindsTo s' fd ⟨[u], []⟩ [(x, u)])
    (hsp : ∀ H : Hp, (∀ p ∈ ts, H p.2 = some (.tbl #[])) → H a = some (.frz (scriptO vs) (.lst (ns.map V.int))) → sp [.ref a] H (fun v _ => v = .bl true) fun _ _ _ => False) :
    codeAny (model P w) callerA (.call (.ref fa) ⟨[.ref a], []⟩) (fun r s' => r = .ok (.ret (.bool true)) ∧ OldK s.heap s'.heap ∧ s'.os = s.os ∧ AllBare s'.gens) s := by
  have htb : ∀ t ∈ ts.map (·.2), s.heap.get? t = some tabO := fun t ht => by
    obtain ⟨p, hp, rfl⟩ := List.mem_map.mp ht
    exact hta p hp
  have nta : ∀ t ∈ ts.map (·.2), t ≠ a := fun t ht z => by
    have h := htb t ht
    rw [z, hsc] at h
    exact absurd (congrArg Obj.data (Option.some.inj h)) (by intro q; cases q)
  have off : ∀ {b : Addr} {o : Obj}, s.heap.get? b = some o → (∀ us n, o.data ≠ .seq us n) → o.data ≠ .fields #[] → hEnd a (ts.map (·.2)) (scriptO vs) (ns.map V.int) b = none := fun {b o} e h1 h2 => by
    refine hEnd_n (fun z => ?_) (fun z => ?_)
    · rw [z, hsc] at e
      exact h1 _ _ (congrArg Obj.data (Option.some.inj e)).symm
    · rw [htb b z] at e
      exact h2 (congrArg Obj.data (Option.some.inj e)).symm
  have ns_base : ∀ {b : Addr} {m : Str → Option Value}, s.heap.Ns b m → (hidT s.heap (hEnd a (ts.map (·.2)) (scriptO vs) (ns.map V.int))).Ns b m := fun {b m} ⟨o, es, ep, e, d, r⟩ =>
    ⟨o, es, ep, hidT_get e (off e (fun us n z => by rw [d] at z; cases z) (fun z => by rw [d] at z; cases z)), d, r⟩
  have kb : K.In (hidT s.heap (hEnd a (ts.map (·.2)) (scriptO vs) (ns.map V.int))) := fun b o e => hidT_get (kin b o e) (hEnd_n (fun z => by rw [z, kan] at e; cases e) (fun z => by
    obtain ⟨p, hp, hz⟩ := List.mem_map.mp z
    rw [← hz, ktn p hp] at e
    cases e))
  have hok : HOk P w (hEnd a (ts.map (·.2)) (scriptO vs) (ns.map V.int)) s.heap := fun b u e => by
    rcases hEnd_inv e with ⟨rfl, rfl⟩ | ⟨hb, rfl⟩
    · exact ⟨hsc, by rw [List.length_map]; exact hlen, vs, _, vals_ints hin, hsc⟩
    · exact htb b hb
  have tb : ∀ p ∈ ts, TabB (hidT s.heap (hEnd a (ts.map (·.2)) (scriptO vs) (ns.map V.int))) mg p.1 p.2 := fun p hp => by
    have hta' := hta p hp
    refine ⟨?_, ?_, fun z => ?_⟩
    · obtain ⟨o, us, file, tf, flags, tg, inF, text, tt, e1, r1, r2, r3, r4⟩ := hcd p hp
      refine ⟨o, us, file, tf, flags, tg, inF, text, tt, hidT_get e1 (off e1 (fun us' n z => by rw [r2] at z; cases z) (fun z => ?_)), r1, r2, r3, r4⟩
      rw [r2] at z
      cases z
      simp at r3
    · obtain ⟨bm, ob, b1, b2, b3, b4, b5, b6⟩ := hmod
      refine ⟨bm, ob, b1, b2, fun z => ?_, fun z => ?_, hidT_get b3 (off b3 (fun us n z => by rw [b6] at z; cases z) (fun z => by rw [b6] at z; cases z)), b4, b5, b6⟩
      · obtain ⟨o, es, ep, e, d, _⟩ := hm
        rw [← z, b3] at e
        cases e
        rw [b6] at d
        cases d
      · rw [z, hta'] at b3
        cases b3
        cases b6
    · obtain ⟨o, es, ep, e, d, _⟩ := hm
      rw [z, hta'] at e
      cases e
      cases d
  obtain ⟨mc, n1, n2⟩ := hnl
  have en : Env0 P w K mg (hidT s.heap (hEnd a (ts.map (·.2)) (scriptO vs) (ns.map V.int))) callerA [] s (hEnd a (ts.map (·.2)) (scriptO vs) (ns.map V.int)) :=
    { frames := rfl, mod := ⟨kb, ns_base hm, ⟨mb, ns_base hbn, hbt⟩, ⟨mc, ns_base n1, n2⟩⟩, bs := fun _ _ e => of_hidT e, bsz := Nat.le_of_eq (hidT_size ..), funs := trivial, frf := (fun b hb => by cases hb), hok := hok, bare := .of_eq hgen }
  have run := (hF _ kb (ns_base hm) tb).run callerA [] s _ ⟨[.ref a], []⟩ [.ref a] [.ref a] _ _ rfl hroom en (hbi s (.ref a)) (.cons rfl .nil) (hsp _ (fun p hp => hEnd_t (nta _ (List.mem_map.mpr ⟨p, hp, rfl⟩)) (List.mem_map.mpr ⟨p, hp, rfl⟩)) hEnd_a)
  refine codeAny_mono run fun r s' h => ?_
  match r, h with
  | .error _, h => exact False.elim h
  | .ok .next, h => exact False.elim h
  | .ok .brk, h => exact False.elim h
  | .ok .cont, h => exact False.elim h
  | .ok (.ret u), ⟨v, H', os, bare, un, hok', rv, hv⟩ =>
    have hv : v = .bl true := hv
    subst hv
    have hu : u = Value.bool true := rv
    subst hu
    have ht' : ∀ t ∈ ts.map (·.2), ∃ more : Array Value, s'.heap.get? t = some { cls := .none, data := .fields more } := fun t ht => by
      obtain ⟨more, hmore⟩ := un.tbls t #[] (hEnd_t (nta t ht) ht)
      have := hok' t _ hmore
      rw [Array.empty_append] at this
      exact ⟨more, this⟩
    have stay : ∀ b o, b ∉ ts.map (·.2) → s.heap.get? b = some o → s'.heap.get? b = some o := fun b o nb e => by
      by_cases ba : b = a
      · subst ba
        obtain ⟨e2, _⟩ := hok' b _ (un.frzs b _ _ hEnd_a)
        rw [hsc] at e
        cases e
        exact e2
      · exact un.keep b o e (hEnd_n ba nb) (fun z => by cases z) (fun z => by cases z)
    refine ⟨rfl, ⟨fun b o e => ?_, fun b o e => ?_⟩, os, bare⟩
    · by_cases hb : b ∈ ts.map (·.2)
      · obtain ⟨p, hp, hz⟩ := List.mem_map.mp hb
        obtain ⟨more, hmo⟩ := ht' b hb
        have h0 := htb b hb
        rw [h0] at e
        cases e
        exact .inr (.inl ⟨by rw [← hz]; exact ((hcd p hp).tab (hta p hp)).isCodeTable, rfl, #[], more, rfl, by rw [Array.empty_append]; exact hmo⟩)
      · exact .inl (stay b o hb e)
    · by_cases hb : b ∈ ts.map (·.2)
      · obtain ⟨more, hmo⟩ := ht' b hb
        exact ⟨_, hmo⟩
      · exact ⟨o, stay b o hb e⟩
/-- the walk's end -/
theorem walk_end {l : PySem.W.OpenLaw} {n k : Nat} {q : Program} {loose : List Str} {XP : (Str → Option Value) → Heap → Prop} {YP : World → Heap → Prop} {d : DefRec} {x : Str}
    (hn : l.most = some n) (hn2 : n ≤ sizeLine) (hdf : d.params.defaults = []) (hr : Room k callerA)
    (F : ∀ (w : World) (mg : Str → Option Value) (fa : Addr) (h : Heap), YP w h → h.Ns mainGlobals mg → mg d.name = some (.ref fa) → ∃ (K : PySem.W.Frag) (fd : FuncData) (ts : List (Addr × Addr)) (sp : Sp), K.In h ∧ (∀ p ∈ ts, h.get? p.2 = some tabO) ∧ (∀ p ∈ ts, K.lookup p.2 = none) ∧ (∀ p ∈ ts, PySem.W.CodeHd h p.1 p.2) ∧
      (∀ a vs, h.get? a = some (scriptO vs) → K.lookup a = none) ∧ (∀ (s' : Shared) (u : Value), BindsTo s' fd ⟨[u], []⟩ [(x, u)]) ∧
      (∀ (H : Hp) (a : Addr) (so : Obj) (ns : List Int), ns.length ≤ n → (∀ p ∈ ts, H p.2 = some (.tbl #[])) → H a = some (.frz so (.lst (ns.map V.int))) → sp [.ref a] H (fun v _ => v = .bl true) fun _ _ _ => False) ∧
      ∀ base : Heap, K.In base → base.Ns mainGlobals mg → (∀ p ∈ ts, TabB base mg p.1 p.2) → FnG l.prog w K mg base CX0 k fa fd [x] sp) :
    PySem.W.WalkO q loose XP YP l.row.toRowW d [] (fun f vs => PySem.call f vs) := by
  refine Att.attach_callB hn hdf fun w s₀ s₁ mg mb fa o pm cd doc a vs ns G Y ho hd hcd hmg hobj hints hlen hbits hg => ?_
  obtain ⟨K, fd, ts, sp, k1, k2, k3, k4, k5, k6, k7, k8⟩ := F w mg fa _ Y G.T.g hmg
  exact end_call k1 G.T.g G.T.b G.T.builtins G.T.nolimit hg k2 k3 k4 G.T.bmain hobj (k5 _ _ hobj) hints (Nat.le_trans hlen hn2) hr k8 k6 (fun H h1 h2 => k7 H a _ ns hlen h1 h2)
/-! ### what the written part must say -/
def oexB (K : PySem.W.Frag) (C : Addr) : Bool := match K.lookup C with
  | some ⟨.type "type", _, .cls cd, sl⟩ => (match cd.mro, sl.toList with
    | .ref C' :: bm, [_, _, _, _, some (.builtin n), _] => decide (C' = C) && (decide (n = "ValueError.__new__") && (!cd.hasDel && (cd.hasDict && PySem.HandSPX.refsVE bm)))
    | _, _ => false)
  | _ => false
theorem oexB_ok {K : PySem.W.Frag} {C : Addr} (h : oexB K C = true) : ∃ nm q N bs bm sn sub ab col dd k0 k1 k2 k3 k5, K.lookup C = some (excClassObj nm q C N bs bm true sn sub ab col dd k0 k1 k2 k3 k5 "ValueError.__new__") ∧ PySem.HandSPX.refsVE bm = true := by
  unfold oexB at h
  split at h
  · rename_i dd cd sl ho
    split at h
    · rename_i C' bm k0 k1 k2 k3 n k5 hm hs
      simp only [Bool.and_eq_true, decide_eq_true_eq, Bool.not_eq_true'] at h
      obtain ⟨rfl, rfl, hdel, hdi, hbm⟩ := h
      obtain ⟨nm, bs, mro, ns, qn, hd, sn, sub, ab, col, del⟩ := cd
      dsimp only at hm hdel hdi
      subst hm hdel hdi
      obtain ⟨l⟩ := sl
      dsimp only at hs
      subst hs
      exact ⟨nm, qn, ns, bs, bm, sn, sub, ab, col, dd, k0, k1, k2, k3, k5, ho, hbm⟩
    · cases h
  · cases h
def oexC (K : PySem.W.Frag) (C : Addr) : Bool := oexB K C && (decide (PySem.W.findIn K (.ref C) "__setattr__" = some (some (.builtin "object.__setattr__"))) && (decide (PySem.W.subIn K (.ref C) (.type "BaseException") = some true) && (decide (PySem.W.typeIn K (.ref C) = some (.type "type")) && PySem.W.keepIn K (.ref C))))
theorem oexC_ok {K : PySem.W.Frag} {C : Addr} (h : oexC K C = true) : OexC K C := by
  obtain ⟨h1, h⟩ := ba h
  obtain ⟨h2, h⟩ := ba h
  obtain ⟨h3, h⟩ := ba h
  obtain ⟨h4, h5⟩ := ba h
  exact ⟨oexB_ok h1, of_decide_eq_true h2, of_decide_eq_true h3, of_decide_eq_true h4, h5⟩
def tup2B (K : PySem.W.Frag) (t : Addr) (vs : List V) : Bool := match K.lookup t with
  | some ⟨.type c, _, .seq its _, _⟩ => decide (c = "tuple") && (decide (its.size ≤ sizeLine) && relAll vs its.toList)
  | _ => false
theorem tup2B_ok {K : PySem.W.Frag} {t : Addr} {vs : List V} (h : tup2B K t vs = true) : TupW K t vs := by
  unfold tup2B at h
  split at h
  · rename_i c od its n sl q
    obtain ⟨h1, h2⟩ := ba h
    obtain ⟨h3, h4⟩ := ba h2
    exact ⟨_, its, n, q, congrArg Value.type (of_decide_eq_true h1), rfl, of_decide_eq_true h3, relAll_ok h4⟩
  · cases h
def shpB (K : PySem.W.Frag) (a : Addr) : Bool := shapeTab.all fun p => match PySem.W.nsIn K a p.1 with
  | some (some (.ref t)) => tup2B K t [.int (p.2.1 : Nat), .int (p.2.2 : Nat)]
  | _ => false
theorem shpB_ok {K : PySem.W.Frag} {a : Addr} (h : shpB K a = true) (z : Str) (x y : Nat) (hs : shapeT z = some (x, y)) : ∃ t, PySem.W.nsIn K a z = some (some (.ref t)) ∧ TupW K t [.int (x : Nat), .int (y : Nat)] := by
  have h1 := List.all_eq_true.mp h (z, (x, y)) (shapeT_mem hs)
  dsimp only at h1
  split at h1
  · rename_i t e
    exact ⟨t, e, tup2B_ok h1⟩
  · cases h1
/-- what isn't a key isn't there -/
theorem ns_no {K : PySem.W.Frag} {P : Params} {a : Addr} {ks : List Str} (h : dicW K a = some (keysIn P ks)) {z : Str} (hz : z ∉ ks) : PySem.W.nsIn K a z = some none := by
  unfold dicW at h
  split at h
  · rename_i c es n sl q
    split at h
    · have h2 := Option.some.inj h
      unfold PySem.W.nsIn
      rw [q]
      dsimp only
      have key : ∀ (l : List DictEntry) (ks : List Str), l.map keyOf = keysIn P ks → z ∉ ks → l.find? (·.key.isStr z) = none ∧ l.any (·.refKey) = false := by
        intro l
        induction l with
        | nil => exact fun _ _ _ => ⟨rfl, rfl⟩
        | cons e r ih =>
          intro ks he hz
          cases ks with
          | nil => cases he
          | cons k ks =>
            have he' : keyOf e :: r.map keyOf = some (k, PyData.keyHash P k) :: keysIn P ks := he
            injection he' with h3 h4
            obtain ⟨g1, g2⟩ := ih ks h4 (fun q => hz (List.mem_cons_of_mem _ q))
            unfold keyOf at h3
            split at h3
            · rename_i x t hx
              obtain ⟨rfl, _⟩ := Prod.mk.inj (Option.some.inj h3)
              have hne : ¬ x = z := fun q => hz (by rw [q]; exact List.mem_cons_self)
              have e1 : e.key.isStr z = false := by
                rw [hx]
                show (x == z) = false
                exact beq_eq_false_iff_ne.mpr hne
              have e2 : e.refKey = false := by
                unfold DictEntry.refKey
                rw [hx]
              rw [List.find?_cons, e1, List.any_cons, e2]
              exact ⟨g1, g2⟩
            · cases h3
      obtain ⟨g1, g2⟩ := key _ _ h2 hz
      rw [g1, g2]
      rfl
    · cases h
  · cases h
theorem fact_at {l : List Bool} (h : l.all id = true) (i : Nat) {b : Bool} (e : l[i]? = some b) : b = true := List.all_eq_true.mp h b (List.mem_of_getElem? e)
def noLB (K : PySem.W.Frag) : Bool := K.all fun q => !decide (q.2.cls = .type "list")
theorem noLB_ok {K : PySem.W.Frag} (h1 : noLB K = true) {a : Addr} {o : Obj} (q : K.lookup a = some o) : o.cls ≠ .type "list" := by
  have h2 := List.all_eq_true.mp h1 (a, o) (lookup_mem q)
  intro z
  dsimp only at h2
  rw [z] at h2
  cases h2
theorem fun_of {K : PySem.W.Frag} {x qual : Str} {st : Stmt} {f : Addr} {fd : FuncData} (F : FunD K x qual (defArgs st) (defBody st) (defScope st) [] [] f fd) : L2.Fun K x qual st f fd := by
  obtain ⟨oc, od, dV, kV, doc, pm, an, cdv, ct, osl, rfl, lk, hcd, hd, _⟩ := F.ex
  rcases hd with ⟨_, rfl⟩ | ⟨h, _⟩
  · exact ⟨⟨oc, od, kV, doc, pm, an, cdv, ct, osl, rfl, lk, hcd⟩, F.kp⟩
  · exact absurd rfl h
theorem mkDef {P : Program} {w : World} {K : PySem.W.Frag} {mg : Str → Option Value} {base : Heap} {x : Str} {st : Stmt} {fd : FuncData} {cx : CXT} {k : Nat} {ps : List Str} {sp : Sp} (F : L2.Fun K x x st (ga K x) fd) (m : mg x = some (.ref (ga K x))) (b : L2.Binds K fd ps []) (ok : FnOk P w K mg base cx k (ga K x) fd ps sp) : Def P w K mg base cx x k ps sp := ⟨⟨_, _, m, F.kp, b, ok⟩⟩
/-- the code object of a def, as its lambdas' table knows it -/
theorem code_of {K : PySem.W.Frag} {x : Str} {st : Stmt} {fd : FuncData} (F : L2.Fun K x x st (ga K x) fd) (o : Obj) (fd' : FuncData) (ho : K.lookup (ga K x) = some o) (hd : o.data = .func fd') : fd'.code = .ref (cT K (x, none)).1 := by
  obtain ⟨oc, od, kV, doc, pm, an, cdv, ct, osl, e1, lk, hcd⟩ := F.ex
  obtain ⟨cc, rfl⟩ := codeIn_ref hcd
  have e2 : codeOf K (x, none) = cc := codeOf_eq lk (by rw [e1])
  rw [lk] at ho
  cases ho
  cases hd
  rw [e1]
  show Value.ref cc = Value.ref (codeOf K (x, none))
  rw [e2]
abbrev shK : List Str := shapeTab.map (·.1)
theorem shapeT_key {z : Str} (h : shapeT z = none) : z ∉ shK := by
  have key : ∀ l : List (Str × (Nat × Nat)), l.lookup z = none → z ∉ l.map (·.1) := by
    intro l
    induction l with
    | nil => exact fun _ q => by cases q
    | cons p r ih =>
      obtain ⟨y, v⟩ := p
      intro e q
      rw [List.lookup_cons] at e
      cases hb : (z == y) with
      | true =>
        rw [hb] at e
        cases e
      | false =>
        rw [hb] at e
        rcases List.mem_cons.mp q with q | q
        · rw [q, beq_self_eq_true] at hb
          cases hb
        · exact ih e q
  exact key shapeTab h
def levV : List (Str × V) := levTab.map fun p => (p.1, V.int p.2)
def sigV : List (Str × V) := sigTab.map fun p => (p.1, V.str p.2)
def joV : List (Str × V) := joTab.map fun p => (p.1, V.str p.2)
def maV : List (Str × V) := maTab.map fun p => (p.1, V.str p.2)
def sizV : List (Str × V) := sizTab.map fun p => (p.1, V.int p.2)
abbrev keysV (t : List (Str × V)) : List Str := t.map (·.1)
abbrev tsL : List Tab := [(fun K => ga K "SHAPES", shK), (fun K => ga K "LEVELS", keysV levV), (fun K => ga K "SIGNS", keysV sigV), (fun K => ga K "JOINS", keysV joV), (fun K => ga K "MATES", keysV maV), (fun K => ga K "SIZES", keysV sizV), (fun K => ga K "ENDED_BY", keysV joV)]
theorem lookup_mapV {α : Type} (f : α → V) (z : Str) : ∀ t : List (Str × α), (t.map fun p => (p.1, f p.2)).lookup z = (t.lookup z).map f
  | [] => rfl
  | p :: r => by
    rw [List.map_cons, List.lookup_cons, List.lookup_cons]
    cases z == p.1 with
    | true => rfl
    | false => exact lookup_mapV f z r
/-- what a written dict holds at its keys -/
def valsB (K : PySem.W.Frag) (a : Addr) (t : List (Str × V)) : Bool := t.all fun p => match PySem.W.nsIn K a p.1 with
  | some (some u) => relAll [p.2] [u]
  | _ => false
theorem lookup_key {z : Str} : ∀ {t : List (Str × V)}, t.lookup z = none → z ∉ keysV t
  | [], _, q => nomatch q
  | p :: r, e, q => by
    rw [List.lookup_cons] at e
    cases hb : (z == p.1) with
    | true =>
      rw [hb] at e
      cases e
    | false =>
      rw [hb] at e
      rcases List.mem_cons.mp q with q | q
      · rw [q, beq_self_eq_true] at hb
        cases hb
      · exact lookup_key e q
theorem ktab_ok {K : PySem.W.Frag} {w : World} {a : Addr} {t : List (Str × V)} (D : ∃ es n, KDict K w a es n) (hd : dicW K a = some (keysIn w.params (keysV t))) (hv : valsB K a t = true) : KTab K w a fun z => t.lookup z := by
  refine ⟨D, fun z => ?_⟩
  cases hl : t.lookup z with
  | none => exact ⟨none, ns_no hd (lookup_key hl), rfl⟩
  | some v =>
    have h1 := List.all_eq_true.mp hv (z, v) (PySem.mem_of_lookup hl)
    dsimp only at h1
    split at h1
    · rename_i u e
      refine ⟨some u, e, u, rfl, ?_⟩
      have h2 := relAll_ok h1
      cases h2 with
      | cons r _ => exact r
    · cases h1
def endB (K : PySem.W.Frag) (a : Addr) : Bool := (keysV joV).all fun x => match PySem.W.nsIn K a x with
  | some (some (.ref t)) => tup2B K t ((endsBy x).map V.str)
  | _ => false
theorem end_ok {K : PySem.W.Frag} {w : World} {a : Addr} (D : ∃ es n, KDict K w a es n) (h : endB K a = true) (x : Str) (hx : isJo x) : ∃ t, KDct K w a x (.ref t) ∧ TupW K t ((endsBy x).map V.str) := by
  have hm : x ∈ keysV joV := by
    have : keysV joV = [("&" : Str), "^", "|", "?"] := by decide +kernel
    rw [this]
    simp only [List.mem_cons, List.not_mem_nil, or_false]
    exact hx
  have h1 := List.all_eq_true.mp h x hm
  split at h1
  · rename_i t e
    obtain ⟨es, n, D⟩ := D
    exact ⟨t, ⟨es, n, .ref t, D.at_, D.lit, e, rfl⟩, tup2B_ok h1⟩
  · cases h1
section
variable {fa : List Fa} {fn : List DefD} {tf : List Defn} {ex : PySem.W.Frag → Bool} {w : World} {h : Heap} {K : PySem.W.Frag}
theorem dic_of (c : SaysX fa fn tsL tf ex w h K) (i : Nat) {t : Tab} (ht : tsL[i]? = some t) : dicW K (t.1 K) = some (keysIn w.params t.2) := by
  have e : tsL.map (fun t => dicW K (t.1 K)) = tsL.map fun t => some (keysIn w.params t.2) := congrArg (fun z : AlT => z.2) c.t
  have e2 := congrArg (fun l => l[i]?) e
  rw [List.getElem?_map, List.getElem?_map, ht] at e2
  exact Option.some.inj e2
theorem lev_of (c : SaysX fa fn tsL tf ex w h K) (hv : valsB K (ga K "LEVELS") levV = true) : KTab K w (ga K "LEVELS") levG := by
  have e : levG = fun z => levV.lookup z := funext fun z => (lookup_mapV V.int z levTab).symm
  rw [e]
  exact ktab_ok (c.t.tab 1 rfl) (dic_of c 1 rfl) hv
theorem sig_of (c : SaysX fa fn tsL tf ex w h K) (hv : valsB K (ga K "SIGNS") sigV = true) : KTab K w (ga K "SIGNS") sigG := by
  have e : sigG = fun z => sigV.lookup z := funext fun z => (lookup_mapV V.str z sigTab).symm
  rw [e]
  exact ktab_ok (c.t.tab 2 rfl) (dic_of c 2 rfl) hv
theorem jo_of (c : SaysX fa fn tsL tf ex w h K) (hv : valsB K (ga K "JOINS") joV = true) : KTab K w (ga K "JOINS") joG := by
  have e : joG = fun z => joV.lookup z := funext fun z => (lookup_mapV V.str z joTab).symm
  rw [e]
  exact ktab_ok (c.t.tab 3 rfl) (dic_of c 3 rfl) hv
theorem ma_of (c : SaysX fa fn tsL tf ex w h K) (hv : valsB K (ga K "MATES") maV = true) : KTab K w (ga K "MATES") maG := by
  have e : maG = fun z => maV.lookup z := funext fun z => (lookup_mapV V.str z maTab).symm
  rw [e]
  exact ktab_ok (c.t.tab 4 rfl) (dic_of c 4 rfl) hv
theorem siz_of (c : SaysX fa fn tsL tf ex w h K) (hv : valsB K (ga K "SIZES") sizV = true) : KTab K w (ga K "SIZES") sizG := by
  have e : sizG = fun z => sizV.lookup z := funext fun z => (lookup_mapV V.int z sizTab).symm
  rw [e]
  exact ktab_ok (c.t.tab 5 rfl) (dic_of c 5 rfl) hv
end
theorem shp_of {fa : List Fa} {fn : List DefD} {tf : List Defn} {ex : PySem.W.Frag → Bool} {w : World} {h : Heap} {K : PySem.W.Frag} (c : SaysX fa fn tsL tf ex w h K) (hs : shpB K (ga K "SHAPES") = true) : ShpT K w (ga K "SHAPES") := by
  obtain ⟨es, n, D⟩ := c.t.tab 0 (t := (fun K => ga K "SHAPES", shK)) rfl
  have e : tsL.map (fun t => dicW K (t.1 K)) = tsL.map fun t => some (keysIn w.params t.2) := congrArg (fun z : AlT => z.2) c.t
  have e2 : dicW K (ga K "SHAPES") = some (keysIn w.params shK) := (List.cons.inj e).1
  exact ⟨⟨es, n, D.at_, D.lit⟩, D.low, fun z x y hs' => shpB_ok hs z x y hs', fun z hz => ns_no e2 (shapeT_key hz)⟩
/-! #### the nine classes -/
def n9 : List Str := ["BadFormula", "BadText", "BadOrder", "BadTable", "BadPaper", "BadQuestion", "NoSuch", "TooGreat", "HangsOn"]
abbrev excB (K : PySem.W.Frag) (C : Addr) : Bool :=
  decide (PySem.W.findIn K (.ref C) "__getattribute__" = some (some (.builtin "BaseException.__getattribute__"))) && (decide (PySem.W.findIn K (.ref C) "__getattr__" = some none) && (decide (PySem.W.subIn K (.ref C) (.type "BaseException") = some true) && (PySem.W.hasDictIn K C && (decide (PySem.W.findIn K (.ref C) "__class__" = some (some (.builtin "object.__class__"))) &&
   (decide (PySem.W.specialIn K (.builtin "object.__class__") "__get__" = some (some (.builtin "getset_descriptor.__get__"))) && (decide (PySem.W.takesIn K (.builtin "object.__class__") = some true) && decide (PySem.W.mroIn K C (.type "object") = some true)))))))
theorem excB_ok {K : PySem.W.Frag} {C : Addr} (h : excB K C = true) : ExcC K C := by
  obtain ⟨h1, h⟩ := ba h
  obtain ⟨h2, h⟩ := ba h
  obtain ⟨h3, h⟩ := ba h
  obtain ⟨h4, h⟩ := ba h
  obtain ⟨h5, h⟩ := ba h
  obtain ⟨h6, h⟩ := ba h
  obtain ⟨h7, h8⟩ := ba h
  exact ⟨of_decide_eq_true h1, of_decide_eq_true h2, of_decide_eq_true h3, h4, of_decide_eq_true h5, of_decide_eq_true h6, of_decide_eq_true h7, of_decide_eq_true h8⟩
def clsXB (K : PySem.W.Frag) (C : Addr) (i : Nat) (ke : Bool) : Bool :=
  ((List.range 9).all fun j => decide (PySem.W.exmOne K (.ref C) (.ref (ga K (n9.getD j ""))) = some (j == i)) && decide (PySem.W.kitOne K (.ref C) (.ref (ga K (n9.getD j ""))) = some (j == i))) &&
  (decide (PySem.W.kitOne K (.ref C) (.type "KeyError") = some ke) && (decide (PySem.W.kitOne K (.ref C) (.type "OverflowError") = some false) && (decide (PySem.W.kitOne K (.ref C) (.type "RuntimeError") = some false) && (decide (PySem.W.kitOne K (.ref C) (.type "ValueError") = some (!ke)) && (excB K C && xfB K C)))))
/-- the initialiser of a class stands -/
def iniB (K : PySem.W.Frag) (C : Addr) (x : Str) : Bool := decide (PySem.W.findIn K (.ref C) x = some none) && (decide (PySem.W.findIn K (.ref C) "__init__" = some (some (.ref (ma K C "__init__")))) && decide (PySem.W.typeIn K (.ref (ma K C "__init__")) = some (.type "function")))
theorem iniB_ok {K : PySem.W.Frag} {C : Addr} {x : Str} (h : iniB K C x = true) : PySem.W.findIn K (.ref C) x = some none ∧ PySem.W.findIn K (.ref C) "__init__" = some (some (.ref (ma K C "__init__"))) ∧ PySem.W.typeIn K (.ref (ma K C "__init__")) = some (.type "function") := by
  obtain ⟨h1, h⟩ := ba h
  obtain ⟨h2, h3⟩ := ba h
  exact ⟨of_decide_eq_true h1, of_decide_eq_true h2, of_decide_eq_true h3⟩
end Kn
set_option Elab.async false
set_option linter.all false
set_option maxRecDepth 100000
set_option maxHeartbeats 1000000
set_option pp.maxSteps 1200
namespace Kn
open PySem L2 TL PySem.Spec PyProof.Rows LamX He
/-! #### the nine classes, as _law_refused asks of them -/
section
variable {K : PySem.W.Frag} {mg : Str → Option Value}
theorem clsX_ok {C : Addr} {i : Nat} {ke : Bool} (h : clsXB K C i ke = true) (hi : i = 0 ∨ i = 2 ∨ i = 5 ∨ i = 6) :
    ClsX K (ga K "BadFormula") (ga K "BadText") (ga K "BadOrder") (ga K "BadTable") (ga K "BadPaper") (ga K "BadQuestion") (ga K "NoSuch") (ga K "TooGreat") (ga K "HangsOn") C (0 == i) (1 == i) (2 == i) (3 == i) (4 == i) (5 == i) (6 == i) (7 == i) (8 == i) ke := by
  obtain ⟨h0, h⟩ := ba h
  obtain ⟨h1, h⟩ := ba h
  obtain ⟨h2, h⟩ := ba h
  obtain ⟨h3, h⟩ := ba h
  obtain ⟨h4, h⟩ := ba h
  obtain ⟨h5, h6⟩ := ba h
  have x : ∀ (j : Nat) (y : Str), j < 9 → n9.getD j "" = y → PySem.W.exmOne K (.ref C) (.ref (ga K y)) = some (j == i) ∧ PySem.W.kitOne K (.ref C) (.ref (ga K y)) = some (j == i) := fun j y hj hy => by
    have := List.all_eq_true.mp h0 j (List.mem_range.mpr hj)
    rw [hy] at this
    obtain ⟨a, b⟩ := ba this
    exact ⟨of_decide_eq_true a, of_decide_eq_true b⟩
  have x0 := x 0 "BadFormula" (by decide) rfl
  have x1 := x 1 "BadText" (by decide) rfl
  have x2 := x 2 "BadOrder" (by decide) rfl
  have x3 := x 3 "BadTable" (by decide) rfl
  have x4 := x 4 "BadPaper" (by decide) rfl
  have x5 := x 5 "BadQuestion" (by decide) rfl
  have x6 := x 6 "NoSuch" (by decide) rfl
  have x7 := x 7 "TooGreat" (by decide) rfl
  have x8 := x 8 "HangsOn" (by decide) rfl
  refine ⟨?_, x0.2, x1.2, x2.2, x3.2, x4.2, x5.2, x6.2, x7.2, x8.2, of_decide_eq_true h1, of_decide_eq_true h2, of_decide_eq_true h3, of_decide_eq_true h4, excB_ok h5, xfB_ok h6⟩
  rcases hi with rfl | rfl | rfl | rfl
  · exact .inl ⟨x0.1, ⟨_, x1.1⟩, ⟨_, x2.1⟩, ⟨_, x3.1⟩, ⟨_, x4.1⟩, ⟨_, x5.1⟩, ⟨_, x6.1⟩, ⟨_, x7.1⟩, ⟨_, x8.1⟩⟩
  · exact .inr (.inl ⟨x0.1, x1.1, x2.1, ⟨_, x3.1⟩, ⟨_, x4.1⟩, ⟨_, x5.1⟩, ⟨_, x6.1⟩, ⟨_, x7.1⟩, ⟨_, x8.1⟩⟩)
  · exact .inr (.inr (.inl ⟨x0.1, x1.1, x2.1, x3.1, x4.1, x5.1, ⟨_, x6.1⟩, ⟨_, x7.1⟩, ⟨_, x8.1⟩⟩))
  · exact .inr (.inr (.inr ⟨x0.1, x1.1, x2.1, x3.1, x4.1, x5.1, x6.1, ⟨_, x7.1⟩, ⟨_, x8.1⟩⟩))
theorem refN_of (g : ∀ x ∈ n9, mg x = some (.ref (ga K x))) : RefN mg (ga K "BadFormula") (ga K "BadText") (ga K "BadOrder") (ga K "BadTable") (ga K "BadPaper") (ga K "BadQuestion") (ga K "NoSuch") (ga K "TooGreat") (ga K "HangsOn") :=
  ⟨g _ (by simp [n9]), g _ (by simp [n9]), g _ (by simp [n9]), g _ (by simp [n9]), g _ (by simp [n9]), g _ (by simp [n9]), g _ (by simp [n9]), g _ (by simp [n9]), g _ (by simp [n9])⟩
end
end Kn
set_option Elab.async false
set_option linter.all false
set_option maxRecDepth 100000
set_option maxHeartbeats 4000000
set_option pp.maxSteps 1200
namespace Kn
open PySem L2 TL PySem.Spec PyProof.Rows LamX He
/-! ### all facts put together -/
def gl : List Str := (["is_name", "is_formed", "name_in", "parts_of", "need_formula", "parts_met", "names_in", "level_of", "bare_text", "part_text", "formula_text", "is_letter", "word_end", "words_of", "is_text_name", "read_formula", "_law_mixed", "_law_begun", "_law_draw", "_law_one", "_law_word", "_law_names", "_law_rooms", "_law_made", "_law_own", "_law_is_name", "_law_place", "_law_bent", "_law_bare", "_law_text", "_law_told", "_law_spread", "_law_refused", "law", "SHAPES", "BadFormula", "BadText", "BadOrder", "BadTable", "BadPaper", "BadQuestion", "NoSuch", "TooGreat", "HangsOn", "LEVELS", "SIGNS", "JOINS", "ENDED_BY", "MATES", "SIZES", "KEPT_WORDS", "OPENERS", "Reading"] : List String).map Str.ofString
def fr : List Str := ["isinstance", "str", "tuple", "len", "range", "reversed", "list", "int", "repr", "min", "enumerate", "ValueError", "KeyError", "OverflowError", "RuntimeError"]
abbrev inL : List Fa := [.int "MOST_PARTS" 60, .int "MOST_WITHIN" 9, .int "MOST_NAMES" 10, .int "MOST_LETTERS" 8, .int "MOST_SIGNS" 4000, .int "MOST_OPENERS" 120]
abbrev clL : List Fa := [.cls "Reading", .mkr "Reading", .noat "Reading" "begun", .noat "Reading" "due", .noat "Reading" "last", .noat "Reading" "openers", .meth "Reading" "take", .meth "Reading" "take_name", .meth "Reading" "take_first", .meth "Reading" "take_join", .meth "Reading" "take_mate", .meth "Reading" "take_put", .meth "Reading" "begin", .meth "Reading" "end", .meth "Reading" "end_those", .meth "Reading" "end_all", .meth "Reading" "end_innermost", .meth "Reading" "ended"]
def faL : List Fa := gl.map .glo ++ (fr.map .free ++ (inL ++ clL))
abbrev dOf (x : Str) (st : Stmt) : DefD := ⟨(x, none), x, x, defArgs st, defBody st, defScope st, [], []⟩
abbrev iOf (x q : Str) (st : Stmt) : DefD := ⟨(x, some "__init__"), "__init__", q, defArgs st, defBody st, defScope st, [], []⟩
abbrev mOf (x q : Str) (st : Stmt) : DefD := ⟨("Truths", some x), x, q, defArgs st, defBody st, defScope st, [], []⟩
abbrev rOf (x q : Str) (st : Stmt) : DefD := ⟨("Reading", some x), x, q, defArgs st, defBody st, defScope st, [], []⟩
def fnL : List DefD := [dOf "is_name" sIsName, dOf "is_formed" sIsFormed, dOf "name_in" sNameIn, dOf "parts_of" sPartsOf, dOf "need_formula" sNeed, dOf "parts_met" sPartsMet, dOf "names_in" sNamesIn, dOf "level_of" sLevel, dOf "bare_text" sBareText, dOf "part_text" sPartText, dOf "formula_text" sFText, dOf "is_letter" sLetter, dOf "word_end" sWordEnd, dOf "words_of" sWordsOf, dOf "is_text_name" sTextN, dOf "read_formula" sReadF, dOf "_law_mixed" sMixed, dOf "_law_begun" sBegun, dOf "_law_draw" sDraw, dOf "_law_one" sOne, dOf "_law_word" sWord, dOf "_law_names" sNames, dOf "_law_rooms" sRooms, dOf "_law_made" sMade, dOf "_law_own" sOwn, dOf "_law_is_name" sLIsName, dOf "_law_place" sPlace, dOf "_law_bent" sBent, dOf "_law_bare" sLBare, dOf "_law_text" sLText, dOf "_law_told" sLTold, dOf "_law_spread" sLSpr, dOf "_law_refused" sRefused, dOf "law" sLaw, iOf "BadFormula" "BadFormula.__init__" sBFInit, rOf "__init__" "Reading.__init__" sRInit, rOf "take" "Reading.take" sRTake, rOf "take_name" "Reading.take_name" sRName, rOf "take_first" "Reading.take_first" sRFirst, rOf "take_join" "Reading.take_join" sRJoin, rOf "take_mate" "Reading.take_mate" sRMate, rOf "take_put" "Reading.take_put" sRPut, rOf "begin" "Reading.begin" sRBegin, rOf "end" "Reading.end" sREnd, rOf "end_those" "Reading.end_those" sRThose, rOf "end_all" "Reading.end_all" sRAll, rOf "end_innermost" "Reading.end_innermost" sRInner, rOf "ended" "Reading.ended" sREnded]
def tfL : List Defn := [("law", none)]
def exB (K : PySem.W.Frag) : Bool :=
  [noLB K,
   shpB K (ga K "SHAPES"),
   oexC K (ga K "BadFormula"),
   iniB K (ga K "BadFormula") "place",
   clsXB K (ga K "BadFormula") 0 false,
   PySem.W.excIn K (ga K "BadQuestion") vBt "ValueError.__new__",
   PySem.W.keepIn K (.ref (ga K "BadQuestion")),
   decide (PySem.W.subIn K (.ref (ga K "BadQuestion")) (.type "BaseException") = some true),
   decide (PySem.W.typeIn K (.ref (ga K "BadQuestion")) = some (.type "type")),
   clsXB K (ga K "BadQuestion") 5 false,
   valsB K (ga K "LEVELS") levV,
   valsB K (ga K "SIGNS") sigV,
   valsB K (ga K "JOINS") joV,
   valsB K (ga K "MATES") maV,
   valsB K (ga K "SIZES") sizV,
   endB K (ga K "ENDED_BY"),
   tup2B K (ga K "KEPT_WORDS") (keptW.map V.str),
   tup2B K (ga K "OPENERS") (openW.map V.str)].all id
section
variable {P : Program} {w : World} {K : PySem.W.Frag} {mg : Str → Option Value} {base h : Heap}
abbrev tL (K : PySem.W.Frag) : List (Addr × Str) := [((cT K ("law", none)).2, qLaw5 ++ "<lambda>")]
theorem all_law (X : K.In h) (G : h.Ns mainGlobals mg) (c : SaysX faL fnL tsL tfL exB w h K) :
    ∃ fd : FuncData, (∀ (s' : Shared) (u : Value), BindsTo s' fd ⟨[u], []⟩ [("script", u)]) ∧
      ∀ base : Heap, K.In base → base.Ns mainGlobals mg → (∀ p ∈ tfL.map (cT K), TabB base mg p.1 p.2) → FnG P w K mg base CX0 44 (ga K "law") fd ["script"] (spLaw5 K (tL K)) := by
  have g : ∀ x ∈ gl, mg x = some (.ref (ga K x)) := fun x hx => He.glo_ok X G (c.t.d.facts (List.mem_append_left _ (List.mem_map.mpr ⟨x, hx, rfl⟩)))
  have f : ∀ x ∈ fr, mg x = none := fun x hx => He.free_ok X G (c.t.d.facts (List.mem_append_right _ (List.mem_append_left _ (List.mem_map.mpr ⟨x, hx, rfl⟩))))
  have i : ∀ (x : Str) (n : Int), Fa.int x n ∈ inL → ∃ t, mg x = some (.int n t) := fun x n hx => He.int_ok X G (c.t.d.facts (List.mem_append_right _ (List.mem_append_right _ (List.mem_append_left _ hx))))
  have tf : ∀ a : Fa, a ∈ clL → _ := fun a ha => c.t.d.facts (List.mem_append_right _ (List.mem_append_right _ (List.mem_append_right _ ha)))
  have d : ∀ (x : Str) (st : Stmt), dOf x st ∈ fnL → ∃ fd, L2.Fun K x x st (ga K x) fd := fun x st hx => let ⟨fd, F⟩ := c.t.d.defs hx; ⟨fd, fun_of F⟩
  have di : ∀ (x q : Str) (st : Stmt), iOf x q st ∈ fnL → ∃ fd, L2.Fun K "__init__" q st (ma K (ga K x) "__init__") fd := fun x q st hx => let ⟨fd, F⟩ := c.t.d.defs hx; ⟨fd, fun_of F⟩
  obtain ⟨ti60, i60⟩ := i "MOST_PARTS" 60 (by simp)
  obtain ⟨ti9, i9⟩ := i "MOST_WITHIN" 9 (by simp)
  obtain ⟨ti10, i10⟩ := i "MOST_NAMES" 10 (by simp)
  obtain ⟨ti8, i8⟩ := i "MOST_LETTERS" 8 (by simp)
  obtain ⟨ti4k, i4k⟩ := i "MOST_SIGNS" 4000 (by simp)
  obtain ⟨ti120, i120⟩ := i "MOST_OPENERS" 120 (by simp)
  have mi := f "isinstance" (by decide)
  have ms := f "str" (by decide)
  have mt := f "tuple" (by decide)
  have ml := f "len" (by decide)
  have mr := f "range" (by decide)
  have mv := f "reversed" (by decide)
  have mL := f "list" (by decide)
  have mn := f "int" (by decide)
  have mrp := f "repr" (by decide)
  have mm := f "min" (by decide)
  have me := f "enumerate" (by decide)
  have mV := f "ValueError" (by decide)
  have mK := f "KeyError" (by decide)
  have mO := f "OverflowError" (by decide)
  have mR := f "RuntimeError" (by decide)
  have S := shp_of c (fact_at c.more 1 rfl)
  have gS := g "SHAPES" (by decide)
  obtain ⟨f0, F0⟩ := d "is_name" sIsName (by simp [fnL])
  obtain ⟨f1, F1⟩ := d "is_formed" sIsFormed (by simp [fnL])
  obtain ⟨f2, F2⟩ := d "name_in" sNameIn (by simp [fnL])
  obtain ⟨f3, F3⟩ := d "parts_of" sPartsOf (by simp [fnL])
  obtain ⟨f4, F4⟩ := d "need_formula" sNeed (by simp [fnL])
  obtain ⟨f5, F5⟩ := d "parts_met" sPartsMet (by simp [fnL])
  obtain ⟨f6, F6⟩ := d "names_in" sNamesIn (by simp [fnL])
  obtain ⟨f7, F7⟩ := d "level_of" sLevel (by simp [fnL])
  obtain ⟨f8, F8⟩ := d "bare_text" sBareText (by simp [fnL])
  obtain ⟨f9, F9⟩ := d "part_text" sPartText (by simp [fnL])
  obtain ⟨f10, F10⟩ := d "formula_text" sFText (by simp [fnL])
  obtain ⟨f11, F11⟩ := d "is_letter" sLetter (by simp [fnL])
  obtain ⟨f12, F12⟩ := d "word_end" sWordEnd (by simp [fnL])
  obtain ⟨f13, F13⟩ := d "words_of" sWordsOf (by simp [fnL])
  obtain ⟨f14, F14⟩ := d "is_text_name" sTextN (by simp [fnL])
  obtain ⟨f15, F15⟩ := d "read_formula" sReadF (by simp [fnL])
  obtain ⟨f16, F16⟩ := d "_law_mixed" sMixed (by simp [fnL])
  obtain ⟨f17, F17⟩ := d "_law_begun" sBegun (by simp [fnL])
  obtain ⟨f18, F18⟩ := d "_law_draw" sDraw (by simp [fnL])
  obtain ⟨f19, F19⟩ := d "_law_one" sOne (by simp [fnL])
  obtain ⟨f20, F20⟩ := d "_law_word" sWord (by simp [fnL])
  obtain ⟨f21, F21⟩ := d "_law_names" sNames (by simp [fnL])
  obtain ⟨f22, F22⟩ := d "_law_rooms" sRooms (by simp [fnL])
  obtain ⟨f23, F23⟩ := d "_law_made" sMade (by simp [fnL])
  obtain ⟨f24, F24⟩ := d "_law_own" sOwn (by simp [fnL])
  obtain ⟨f25, F25⟩ := d "_law_is_name" sLIsName (by simp [fnL])
  obtain ⟨f26, F26⟩ := d "_law_place" sPlace (by simp [fnL])
  obtain ⟨f27, F27⟩ := d "_law_bent" sBent (by simp [fnL])
  obtain ⟨f28, F28⟩ := d "_law_bare" sLBare (by simp [fnL])
  obtain ⟨f29, F29⟩ := d "_law_text" sLText (by simp [fnL])
  obtain ⟨f30, F30⟩ := d "_law_told" sLTold (by simp [fnL])
  obtain ⟨f31, F31⟩ := d "_law_spread" sLSpr (by simp [fnL])
  obtain ⟨fRf, FRf⟩ := d "_law_refused" sRefused (by simp [fnL])
  have RN := refN_of (K := K) (mg := mg) fun x hx => g x ((show ∀ y ∈ n9, y ∈ gl by decide) x hx)
  have bRf : L2.Binds K fRf ["deed"] [] := FRf.binds fun _ _ _ _ _ _ us hl => match us, hl with | [_], _ => rfl
  have X1 := clsX_ok (fact_at c.more 4 rfl) (by decide)
  have X6 := clsX_ok (fact_at c.more 9 rfl) (by decide)
  obtain ⟨fLaw, FLaw0⟩ := c.t.d.defs (d := dOf "law" sLaw) (by simp [fnL])
  have FLaw : L2.Fun K "law" "law" sLaw (ga K "law") fLaw := fun_of FLaw0
  obtain ⟨fiBadFormula, FiBadFormula⟩ := di "BadFormula" "BadFormula.__init__" sBFInit (by simp [fnL])
  obtain ⟨nBadFormula, aBadFormula, yBadFormula⟩ := iniB_ok (fact_at c.more 3 rfl)
  refine ⟨fLaw, fun s' u => FunD.bindsA (ps := ["script"]) FLaw0 (fun _ _ _ _ _ _ us hl => match us, hl with | [_], _ => rfl) s' [u] rfl, fun base KB GB TB => ?_⟩
  have TB0 : TabB base mg (cT K ("law", none)).1 (cT K ("law", none)).2 := TB _ (List.mem_map.mpr ⟨("law", none), by decide, rfl⟩)
  have BF : BFS P w K mg base (ga K "BadFormula") (ma K (ga K "BadFormula") "__init__") fiBadFormula := ⟨oexC_ok (fact_at c.more 2 rfl), g _ (by decide), nBadFormula, aBadFormula, yBadFormula, FiBadFormula.binds fun _ _ _ _ _ _ us hl => match us, hl with | [_, _], _ => rfl, ok_bf FiBadFormula mV (by kernel_rfl)⟩
  have BQQ : BQt K mg (ga K "BadQuestion") := ⟨(fact_at c.more 5 rfl), g _ (by decide), (fact_at c.more 6 rfl), of_decide_eq_true (fact_at c.more 7 rfl), of_decide_eq_true (fact_at c.more 8 rfl)⟩
  have mdR : ∀ (m q : Str) (st : Stmt), rOf m q st ∈ fnL → ∃ fd, L2.Fun K m q st (ma K (ga K "Reading") m) fd := fun m q st hx => let ⟨fd, F⟩ := c.t.d.defs hx; ⟨fd, fun_of F⟩
  have TLEV := lev_of c (fact_at c.more 10 rfl)
  have TSIG := sig_of c (fact_at c.more 11 rfl)
  have TJO := jo_of c (fact_at c.more 12 rfl)
  have TMA := ma_of c (fact_at c.more 13 rfl)
  have TSZ := siz_of c (fact_at c.more 14 rfl)
  have TEN := end_ok (c.t.tab 6 rfl) (fact_at c.more 15 rfl)
  have hKEPT : ∀ H, SqT K H (ga K "KEPT_WORDS") (keptW.map V.str) := fun H => (tup2B_ok (fact_at c.more 16 rfl)).seq
  have hOPEN : ∀ H, SqT K H (ga K "OPENERS") (openW.map V.str) := fun H => (tup2B_ok (fact_at c.more 17 rfl)).seq
  have b0 : L2.Binds K f0 ["thing"] [] := F0.binds fun _ _ _ _ _ _ us hl => match us, hl with | [_], _ => rfl
  have b1 : L2.Binds K f1 ["part"] [] := F1.binds fun _ _ _ _ _ _ us hl => match us, hl with | [_], _ => rfl
  have b2 : L2.Binds K f2 ["part"] [] := F2.binds fun _ _ _ _ _ _ us hl => match us, hl with | [_], _ => rfl
  have b3 : L2.Binds K f3 ["part"] [] := F3.binds fun _ _ _ _ _ _ us hl => match us, hl with | [_], _ => rfl
  have b4 : L2.Binds K f4 ["thing"] [] := F4.binds fun _ _ _ _ _ _ us hl => match us, hl with | [_], _ => rfl
  have b5 : L2.Binds K f5 ["formula"] [] := F5.binds fun _ _ _ _ _ _ us hl => match us, hl with | [_], _ => rfl
  have b6 : L2.Binds K f6 ["formula"] [] := F6.binds fun _ _ _ _ _ _ us hl => match us, hl with | [_], _ => rfl
  have b7 : L2.Binds K f7 ["formula"] [] := F7.binds fun _ _ _ _ _ _ us hl => match us, hl with | [_], _ => rfl
  have b8 : L2.Binds K f8 ["formula"] [] := F8.binds fun _ _ _ _ _ _ us hl => match us, hl with | [_], _ => rfl
  have b9 : L2.Binds K f9 ["formula", "least"] [] := F9.binds fun _ _ _ _ _ _ us hl => match us, hl with | [_, _], _ => rfl
  have b10 : L2.Binds K f10 ["formula"] [] := F10.binds fun _ _ _ _ _ _ us hl => match us, hl with | [_], _ => rfl
  have b11 : L2.Binds K f11 ["sign"] [] := F11.binds fun _ _ _ _ _ _ us hl => match us, hl with | [_], _ => rfl
  have b12 : L2.Binds K f12 ["text", "start"] [] := F12.binds fun _ _ _ _ _ _ us hl => match us, hl with | [_, _], _ => rfl
  have b13 : L2.Binds K f13 ["text"] [] := F13.binds fun _ _ _ _ _ _ us hl => match us, hl with | [_], _ => rfl
  have b14 : L2.Binds K f14 ["word"] [] := F14.binds fun _ _ _ _ _ _ us hl => match us, hl with | [_], _ => rfl
  have b15 : L2.Binds K f15 ["text"] [] := F15.binds fun _ _ _ _ _ _ us hl => match us, hl with | [_], _ => rfl
  have b16 : L2.Binds K f16 ["cell", "k"] [] := F16.binds fun _ _ _ _ _ _ us hl => match us, hl with | [_, _], _ => rfl
  have b17 : L2.Binds K f17 ["script"] [] := F17.binds fun _ _ _ _ _ _ us hl => match us, hl with | [_], _ => rfl
  have b18 : L2.Binds K f18 ["state", "many"] [] := F18.binds fun _ _ _ _ _ _ us hl => match us, hl with | [_, _], _ => rfl
  have b19 : L2.Binds K f19 ["state", "things"] [] := F19.binds fun _ _ _ _ _ _ us hl => match us, hl with | [_, _], _ => rfl
  have b20 : L2.Binds K f20 ["state"] [] := F20.binds fun _ _ _ _ _ _ us hl => match us, hl with | [_], _ => rfl
  have b21 : L2.Binds K f21 ["state", "many"] [] := F21.binds fun _ _ _ _ _ _ us hl => match us, hl with | [_, _], _ => rfl
  have b22 : L2.Binds K f22 ["state", "room", "many"] [] := F22.binds fun _ _ _ _ _ _ us hl => match us, hl with | [_, _, _], _ => rfl
  have b23 : L2.Binds K f23 ["state", "names", "room", "deep"] [] := F23.binds fun _ _ _ _ _ _ us hl => match us, hl with | [_, _, _, _], _ => rfl
  have b24 : L2.Binds K f24 ["formula"] [] := F24.binds fun _ _ _ _ _ _ us hl => match us, hl with | [_], _ => rfl
  have b25 : L2.Binds K f25 ["thing"] [] := F25.binds fun _ _ _ _ _ _ us hl => match us, hl with | [_], _ => rfl
  have b26 : L2.Binds K f26 ["thing"] [] := F26.binds fun _ _ _ _ _ _ us hl => match us, hl with | [_], _ => rfl
  have b27 : L2.Binds K f27 ["state", "thing"] [] := F27.binds fun _ _ _ _ _ _ us hl => match us, hl with | [_, _], _ => rfl
  have b28 : L2.Binds K f28 ["formula"] [] := F28.binds fun _ _ _ _ _ _ us hl => match us, hl with | [_], _ => rfl
  have b29 : L2.Binds K f29 ["formula", "level"] [] := F29.binds fun _ _ _ _ _ _ us hl => match us, hl with | [_, _], _ => rfl
  have b30 : L2.Binds K f30 ["state", "formula", "level", "box"] [] := F30.binds fun _ _ _ _ _ _ us hl => match us, hl with | [_, _, _, _], _ => rfl
  have b31 : L2.Binds K f31 ["state", "words"] [] := F31.binds fun _ _ _ _ _ _ us hl => match us, hl with | [_, _], _ => rfl
  have IN : Def P w K mg base CX0 "is_name" 1 ["thing"] (spIsName K) := mkDef F0 (g _ (by decide)) b0 (ok_isname F0 mi ms ml i8)
  have IF : Def P w K mg base CX0 "is_formed" 2 ["part"] (spIsFormed K) := mkDef F1 (g _ (by decide)) b1 (ok_isformed F1 IN mi ms mt ml gS S)
  have NI : Def P w K mg base CX0 "name_in" 1 ["part"] (spNameIn K) := mkDef F2 (g _ (by decide)) b2 (ok_namein F2 gS S)
  have PO : Def P w K mg base CX0 "parts_of" 1 ["part"] (spPartsOf K) := mkDef F3 (g _ (by decide)) b3 (ok_partsof F3 gS S)
  have ND : Def P w K mg base (L2.CX P w) "need_formula" 3 ["thing"] (spNeed K (ga K "BadFormula")) := mkDef F4 (g _ (by decide)) b4 (ok_need F4 BF IF NI PO ml mr mv i60 ⟨_, rfl⟩ i9 ⟨_, rfl⟩ i10 ⟨_, rfl⟩)
  have PtM : Def P w K mg base (L2.CX P w) "parts_met" 4 ["formula"] (spPartsMet K (ga K "BadFormula")) := mkDef F5 (g _ (by decide)) b5 (ok_partsmet F5 ND PO)
  have NS : Def P w K mg base (L2.CX P w) "names_in" 5 ["formula"] (spNamesIn K (ga K "BadFormula")) := mkDef F6 (g _ (by decide)) b6 (ok_namesin F6 PtM NI mL)
  have LV : Def P w K mg base CX0 "level_of" 1 ["formula"] (spLevel K) := mkDef F7 (g _ (by decide)) b7 (ok_level F7 (g _ (by decide)) TLEV)
  have BTx : Def P w K mg base CX0 "bare_text" 22 ["formula"] (spBareT K 10) := mkDef F8 (g _ (by decide)) b8 (all_baretext F8 b8 (g _ (by decide)) F9 b9 (g _ (by decide)) LV (g _ (by decide)) TSIG 10)
  have PTx : Def P w K mg base CX0 "part_text" 23 ["formula", "least"] (spPartT K 10) := mkDef F9 (g _ (by decide)) b9 (ok_parttext (n := 10) F9 LV BTx)
  have FTx : Def P w K mg base (L2.CX P w) "formula_text" 23 ["formula"] (spFText K (ga K "BadFormula") (ga K "BadQuestion")) := mkDef F10 (g _ (by decide)) b10 (ok_ftext F10 NS BQQ BTx (g _ (by decide)) hKEPT)
  have LTR : Def P w K mg base CX0 "is_letter" 1 ["sign"] (spLetter) := mkDef F11 (g _ (by decide)) b11 (ok_letter F11)
  have WE : Def P w K mg base CX0 "word_end" 2 ["text", "start"] (spWordEnd) := mkDef F12 (g _ (by decide)) b12 (ok_wordend F12 LTR ml)
  have WOx : Def P w K mg base CX0 "words_of" 3 ["text"] (spWordsOf) := mkDef F13 (g _ (by decide)) b13 (ok_wordsof F13 WE ml)
  have TNm : Def P w K mg base CX0 "is_text_name" 2 ["word"] (spTextN K) := mkDef F14 (g _ (by decide)) b14 (ok_textn F14 IN (g _ (by decide)) hKEPT)
  have RT_ : RdT K mg (ga K "Reading") := ⟨He.cls_ok (tf (.cls "Reading") (by simp)), He.noat_ok (tf (.noat "Reading" "begun") (by simp)), He.noat_ok (tf (.noat "Reading" "due") (by simp)), He.noat_ok (tf (.noat "Reading" "last") (by simp)), He.noat_ok (tf (.noat "Reading" "openers") (by simp)), g "Reading" (by decide)⟩
  have RM_ : Mk K (ga K "Reading") (ma K (ga K "Reading") "__init__") := He.mkr_ok (tf (.mkr "Reading") (by simp))
  obtain ⟨fRI, FRI⟩ := mdR "__init__" "Reading.__init__" sRInit (by simp [fnL])
  have RDk : KDefT P w K mg base (ga K "Reading") 1 ["self"] (spRInit K (ga K "Reading")) := ⟨⟨_, _, RM_, FRI.binds fun _ _ _ _ _ _ us hl => match us, hl with | [_], _ => rfl, ok_rinit FRI RT_⟩⟩
  obtain ⟨fR_end_innermost, FR_end_innermost⟩ := mdR "end_innermost" "Reading.end_innermost" sRInner (by simp [fnL])
  have INm : MDefT P w K mg base CX0 (ga K "Reading") "end_innermost" 1 ["self"] (spRInner K (ga K "Reading")) := ⟨⟨_, _, He.meth_ok (tf (.meth "Reading" "end_innermost") (by simp)), FR_end_innermost.binds fun _ _ _ _ _ _ us hl => match us, hl with | [_], _ => rfl, ok_rinner FR_end_innermost RT_⟩⟩
  obtain ⟨fR_end_those, FR_end_those⟩ := mdR "end_those" "Reading.end_those" sRThose (by simp [fnL])
  have THm : MDefT P w K mg base CX0 (ga K "Reading") "end_those" 2 ["self", "words"] (spRThose K (ga K "Reading")) := ⟨⟨_, _, He.meth_ok (tf (.meth "Reading" "end_those") (by simp)), FR_end_those.binds fun _ _ _ _ _ _ us hl => match us, hl with | [_, _], _ => rfl, ok_rthose FR_end_those RT_ INm⟩⟩
  obtain ⟨fR_end_all, FR_end_all⟩ := mdR "end_all" "Reading.end_all" sRAll (by simp [fnL])
  have ALm : MDefT P w K mg base CX0 (ga K "Reading") "end_all" 2 ["self"] (spRAll K (ga K "Reading")) := ⟨⟨_, _, He.meth_ok (tf (.meth "Reading" "end_all") (by simp)), FR_end_all.binds fun _ _ _ _ _ _ us hl => match us, hl with | [_], _ => rfl, ok_rall FR_end_all RT_ INm (g _ (by decide)) TSZ ml⟩⟩
  obtain ⟨fR_end, FR_end⟩ := mdR "end" "Reading.end" sREnd (by simp [fnL])
  have ENm : MDefT P w K mg base CX0 (ga K "Reading") "end" 3 ["self", "formula", "due"] (spREnd K (ga K "Reading")) := ⟨⟨_, _, He.meth_ok (tf (.meth "Reading" "end") (by simp)), FR_end.binds fun _ _ _ _ _ _ us hl => match us, hl with | [_, _, _], _ => rfl, ok_rend FR_end RT_ THm⟩⟩
  obtain ⟨fR_begin, FR_begin⟩ := mdR "begin" "Reading.begin" sRBegin (by simp [fnL])
  have BGm : MDefT P w K mg base CX0 (ga K "Reading") "begin" 1 ["self", "begun", "due"] (spRBegin K (ga K "Reading")) := ⟨⟨_, _, He.meth_ok (tf (.meth "Reading" "begin") (by simp)), FR_begin.binds fun _ _ _ _ _ _ us hl => match us, hl with | [_, _, _], _ => rfl, ok_rbegin FR_begin RT_⟩⟩
  obtain ⟨fR_take_name, FR_take_name⟩ := mdR "take_name" "Reading.take_name" sRName (by simp [fnL])
  have NAm : MDefT P w K mg base CX0 (ga K "Reading") "take_name" 4 ["self", "word"] (spRW K (ga K "Reading") Rd.name fun _ => True) := ⟨⟨_, _, He.meth_ok (tf (.meth "Reading" "take_name") (by simp)), FR_take_name.binds fun _ _ _ _ _ _ us hl => match us, hl with | [_, _], _ => rfl, ok_rname FR_take_name RT_ TNm BGm⟩⟩
  obtain ⟨fR_take_first, FR_take_first⟩ := mdR "take_first" "Reading.take_first" sRFirst (by simp [fnL])
  have FIm : MDefT P w K mg base CX0 (ga K "Reading") "take_first" 4 ["self", "word"] (spRW K (ga K "Reading") Rd.first fun _ => True) := ⟨⟨_, _, He.meth_ok (tf (.meth "Reading" "take_first") (by simp)), FR_take_first.binds fun _ _ _ _ _ _ us hl => match us, hl with | [_, _], _ => rfl, ok_rfirst FR_take_first RT_ TNm BGm ENm⟩⟩
  obtain ⟨fR_take_join, FR_take_join⟩ := mdR "take_join" "Reading.take_join" sRJoin (by simp [fnL])
  have JOm : MDefT P w K mg base CX0 (ga K "Reading") "take_join" 4 ["self", "word"] (fun vs H Q E => ∃ x, vs[1]? = some (.str x) ∧ isJo x ∧ spRW K (ga K "Reading") (fun s x => some (s.join x)) (fun s => s.due = .sign ∨ s.due = .put) vs H Q E) := ⟨⟨_, _, He.meth_ok (tf (.meth "Reading" "take_join") (by simp)), FR_take_join.binds fun _ _ _ _ _ _ us hl => match us, hl with | [_, _], _ => rfl, ok_rjoin FR_take_join RT_ BGm THm (g _ (by decide)) TEN (g _ (by decide)) TJO⟩⟩
  obtain ⟨fR_take_mate, FR_take_mate⟩ := mdR "take_mate" "Reading.take_mate" sRMate (by simp [fnL])
  have MAm : MDefT P w K mg base CX0 (ga K "Reading") "take_mate" 4 ["self", "word"] (spRW K (ga K "Reading") Rd.mate (fun s => s.due = .sign ∨ s.due = .put)) := ⟨⟨_, _, He.meth_ok (tf (.meth "Reading" "take_mate") (by simp)), FR_take_mate.binds fun _ _ _ _ _ _ us hl => match us, hl with | [_, _], _ => rfl, ok_rmate FR_take_mate RT_ BGm ALm ENm (g _ (by decide)) TMA⟩⟩
  obtain ⟨fR_take_put, FR_take_put⟩ := mdR "take_put" "Reading.take_put" sRPut (by simp [fnL])
  have PUm : MDefT P w K mg base CX0 (ga K "Reading") "take_put" 4 ["self", "word"] (spRW K (ga K "Reading") Rd.putw (fun _ => True)) := ⟨⟨_, _, He.meth_ok (tf (.meth "Reading" "take_put") (by simp)), FR_take_put.binds fun _ _ _ _ _ _ us hl => match us, hl with | [_, _], _ => rfl, ok_rput FR_take_put RT_ BGm⟩⟩
  obtain ⟨fR_take, FR_take⟩ := mdR "take" "Reading.take" sRTake (by simp [fnL])
  have TKm : MDefT P w K mg base CX0 (ga K "Reading") "take" 5 ["self", "word"] (spRW K (ga K "Reading") Rd.take fun _ => True) := ⟨⟨_, _, He.meth_ok (tf (.meth "Reading" "take") (by simp)), FR_take.binds fun _ _ _ _ _ _ us hl => match us, hl with | [_, _], _ => rfl, ok_rtake FR_take RT_ NAm FIm JOm MAm PUm (g _ (by decide)) hOPEN (g _ (by decide)) TJO (g _ (by decide)) TMA i120⟩⟩
  obtain ⟨fR_ended, FR_ended⟩ := mdR "ended" "Reading.ended" sREnded (by simp [fnL])
  have EDm : MDefT P w K mg base CX0 (ga K "Reading") "ended" 3 ["self"] (spREnded K (ga K "Reading")) := ⟨⟨_, _, He.meth_ok (tf (.meth "Reading" "ended") (by simp)), FR_ended.binds fun _ _ _ _ _ _ us hl => match us, hl with | [_], _ => rfl, ok_rended FR_ended RT_ ALm⟩⟩
  have RF : Def P w K mg base CX0 "read_formula" 6 ["text"] (spReadF K) := mkDef F15 (g _ (by decide)) b15 (ok_readf F15 RT_ WOx RDk TKm EDm ND i4k mi ms ml me)
  have MX : Def P w K mg base CX0 "_law_mixed" 1 ["cell", "k"] (spMixed) := mkDef F16 (g _ (by decide)) b16 (ok_mixed F16)
  have BG : Def P w K mg base CX0 "_law_begun" 1 ["script"] ((spBegun K)) := mkDef F17 (g _ (by decide)) b17 (ok_begun F17)
  have DR : Def P w K mg base CX0 "_law_draw" 2 ["state", "many"] (spDraw K) := mkDef F18 (g _ (by decide)) b18 (ok_draw F18 MX ml)
  have ON : Def P w K mg base CX0 "_law_one" 3 ["state", "things"] (spOne K) := mkDef F19 (g _ (by decide)) b19 (ok_one F19 DR ml)
  have WD : Def P w K mg base CX0 "_law_word" 4 ["state"] (spWord K) := mkDef F20 (g _ (by decide)) b20 (ok_word F20 DR ON mr mn)
  have NM : Def P w K mg base CX0 "_law_names" 5 ["state", "many"] (spNames K) := mkDef F21 (g _ (by decide)) b21 (ok_names F21 WD mr)
  have RM : Def P w K mg base CX0 "_law_rooms" 3 ["state", "room", "many"] (spRooms K) := mkDef F22 (g _ (by decide)) b22 (ok_rooms F22 DR mr)
  have MD : Def P w K mg base CX0 "_law_made" 13 ["state", "names", "room", "deep"] (spMade K 10) := mkDef F23 (g _ (by decide)) b23 (all_made F23 b23 (g _ (by decide)) DR ON RM 10)
  have OW : Def P w K mg base CX0 "_law_own" 1 ["formula"] (spOwn K) := mkDef F24 (g _ (by decide)) b24 (ok_own F24 mL)
  have LN : Def P w K mg base CX0 "_law_is_name" 1 ["thing"] (spLIsName K) := mkDef F25 (g _ (by decide)) b25 (ok_lisname F25 mi ms ml)
  have PL : Def P w K mg base CX0 "_law_place" 2 ["thing"] (spPlace K) := mkDef F26 (g _ (by decide)) b26 (ok_place F26 LN OW mi ms mt ml mn mr)
  have BTd : Def P w K mg base CX0 "_law_bent" 43 ["state", "thing"] (spBentD K 40) := mkDef F27 (g _ (by decide)) b27 (all_bentD F27 b27 (g _ (by decide)) DR ON mi mt ml 40)
  have LBx : Def P w K mg base CX0 "_law_bare" 21 ["formula"] (spLBare K 10) := mkDef F28 (g _ (by decide)) b28 (all_lbare F28 b28 (g _ (by decide)) F29 b29 (g _ (by decide)) 10)
  have LTx : Def P w K mg base CX0 "_law_text" 22 ["formula", "level"] (spLText K 10) := mkDef F29 (g _ (by decide)) b29 (ok_ltext (n := 10) F29 LBx)
  have LDx : Def P w K mg base CX0 "_law_told" 12 ["state", "formula", "level", "box"] (spLTold K 10) := mkDef F30 (g _ (by decide)) b30 (all_ltold F30 b30 (g _ (by decide)) DR mn 10)
  have SPx : Def P w K mg base CX0 "_law_spread" 4 ["state", "words"] (spSpr K) := mkDef F31 (g _ (by decide)) b31 (ok_lspr F31 DR ON mn)
  exact ok_law5 (T := tL K) FLaw RN FRf bRf (g _ (by decide)) (code_of FLaw) TB0 (.head _) (fun p hp _ => by rw [List.mem_singleton.mp hp]) X1 X6 nBadFormula BG DR ON NM MD BTd PL LBx LDx SPx FTx RF mr mm ml mi mn mrp mK mO mR mV
end
theorem fin_law {P : Program} {w : World} {K : PySem.W.Frag} {mg : Str → Option Value} {h : Heap} {fa : Addr} (X : K.In h) (G : h.Ns mainGlobals mg) (hfa : mg ("law" : Str) = some (.ref fa))
    (hT : obsT faL fnL tsL K = valT fnL tsL w) (hE : exB K = true) {ts0 : List Addr} (hts : ∀ P ∈ ts0, h.get? P = some tabO) (hH : (tfL.all fun p => PySem.W.codeHdIn K (cT K p).1 (cT K p).2) = true) (hO : (tfL.all fun p => (K.lookup (cT K p).2).isNone) = true) (hm : (tfL.all fun p => decide ((cT K p).2 ∈ ts0)) = true) :
    ∃ (K' : PySem.W.Frag) (fd : FuncData) (ts : List (Addr × Addr)) (sp : Sp), K'.In h ∧ (∀ p ∈ ts, h.get? p.2 = some tabO) ∧ (∀ p ∈ ts, K'.lookup p.2 = none) ∧ (∀ p ∈ ts, PySem.W.CodeHd h p.1 p.2) ∧
      (∀ a vs, h.get? a = some (scriptO vs) → K'.lookup a = none) ∧ (∀ (s' : Shared) (u : Value), BindsTo s' fd ⟨[u], []⟩ [("script", u)]) ∧
      (∀ (H : Hp) (a : Addr) (so : Obj) (ns : List Int), ns.length ≤ 63 → (∀ p ∈ ts, H p.2 = some (.tbl #[])) → H a = some (.frz so (.lst (ns.map V.int))) → sp [.ref a] H (fun v _ => v = .bl true) fun _ _ _ => False) ∧
      ∀ base : Heap, K'.In base → base.Ns mainGlobals mg → (∀ p ∈ ts, TabB base mg p.1 p.2) → FnG P w K' mg base CX0 44 fa fd ["script"] sp := by
  have hn : ∀ p ∈ tfL, K.lookup (cT K p).2 = none := fun p hp => Option.isNone_iff_eq_none.mp (List.all_eq_true.mp hO p hp)
  have c : SaysX faL fnL tsL tfL exB w h K := ⟨hT, hE, fun p hp => List.all_eq_true.mp hH p hp, hn, fun p hp => hts _ (of_decide_eq_true (List.all_eq_true.mp hm p hp))⟩
  obtain ⟨fd, e4, e5⟩ := all_law (P := P) (mg := mg) X G c
  have e := hfa.symm.trans (He.glo_ok X G (c.t.d.facts (List.mem_append_left _ (List.mem_map.mpr ⟨"law", by decide, rfl⟩))))
  have e6 : fa = ga K "law" := Value.ref.inj (Option.some.inj e)
  subst e6
  refine ⟨K, fd, tfL.map (cT K), spLaw5 K (tL K), X, fun p hp => ?_, fun p hp => ?_, fun p hp => ?_, fun a vs q => ?_, e4, fun H a so ns hl h1 h2 => ?_, e5⟩
  · obtain ⟨q, hq, rfl⟩ := List.mem_map.mp hp
    exact c.empty _ hq
  · obtain ⟨q, hq, rfl⟩ := List.mem_map.mp hp
    exact c.out _ hq
  · obtain ⟨q, hq, rfl⟩ := List.mem_map.mp hp
    exact PySem.W.codeHd_of_K X (c.hd _ hq)
  · cases r : K.lookup a with
    | none => rfl
    | some o =>
      have r1 := X a o r
      rw [q] at r1
      have r2 := Option.some.inj r1
      exact absurd (by rw [← r2]) (noLB_ok (fact_at c.more 0 rfl) r)
  · refine ⟨a, ns, rfl, .inl (.inr ⟨so, h2⟩), ⟨so, h2⟩, hl, fun p hp => ?_, fun _ => rfl⟩
    rw [List.mem_singleton.mp hp]
    exact TabS.nil (h1 _ (List.mem_map.mpr ⟨("law", none), by decide, rfl⟩))
end Kn
set_option Elab.async false
set_option linter.all false
set_option maxRecDepth 100000
open PySem PySem.W PyProof.Rows in
set_option maxRecDepth 100000 in
set_option maxHeartbeats 0 in
theorem PySem.Challenge.cw_knotweb_k05_whole_texts_there_and_back_holds : PySem.Challenge.rw_knotweb_k05_whole_texts_there_and_back.Holds := by
  w_on; o_law; k_head; (case hw => w_witness2)
  k_fill
  refine Kn.walk_end (l := PySem.Challenge.rw_knotweb_k05_whole_texts_there_and_back) (n := 63) (k := 44) (x := "script") rfl (by decide) (by kernel_rfl) ⟨rfl, by decide, by decide⟩ ?F
  intro w mg fa h Y G hmg0
  exact Kn.fin_law (km_in_of Y) G hmg0 (by kernel_rfl) (by kernel_rfl) (km_tabs_of Y) (by kernel_rfl) (by kernel_rfl) (by kernel_rfl)
