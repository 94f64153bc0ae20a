import PyProof.Rows.All
import Wide.All
import OpenK.AllK
import Wide.FinOn
import HandS.ForMost
import HandS.IsInst
import HandS.Strs
import HandS.ExcInit
import HandS.Nested
import HandS.FStr
import HandS.ExcValue
import KE.KExcSuper
import KE.KExcIs
import PySem.Challenge.RW_allmends_k75_errors_by_position
set_option Elab.async false
set_option linter.all false
set_option maxRecDepth 100000
set_option maxHeartbeats 4000000
namespace Pf
open PySem PySem.Spec PyProof.Rows L2
def topS (i : Nat) : Stmt := PySem.Challenge.pw_allmends_k75_errors_by_position.main.body.getD i (.Pass ⟨0, 0, 0, 0⟩)
abbrev s__law_reader : Stmt := topS 23
theorem sc__law_reader : FnScope ["script", "k", "cell"] ["script", "k"] (defScope s__law_reader) := ⟨rfl, rfl, rfl, by decide +kernel, rfl, by decide +kernel, by decide +kernel⟩
abbrev s__law_next : Stmt := topS 24
theorem sc__law_next : FnScope ["reader", "size", "k", "rest", "mixed"] ["reader", "size"] (defScope s__law_next) := ⟨rfl, rfl, rfl, by decide +kernel, rfl, by decide +kernel, by decide +kernel⟩
abbrev s__law_same : Stmt := topS 25
theorem sc__law_same : FnScope ["told", "due"] ["told", "due"] (defScope s__law_same) := ⟨rfl, rfl, rfl, by decide +kernel, rfl, by decide +kernel, by decide +kernel⟩
abbrev s__law_inputs : Stmt := topS 26
theorem sc__law_inputs : FnScope ["e", "line"] ["e"] (defScope s__law_inputs) := ⟨rfl, rfl, rfl, by decide +kernel, rfl, by decide +kernel, by decide +kernel⟩
abbrev s__law_others : Stmt := topS 27
theorem sc__law_others : FnScope ["e", "line"] ["e"] (defScope s__law_others) := ⟨rfl, rfl, rfl, by decide +kernel, rfl, by decide +kernel, by decide +kernel⟩
abbrev s__law_is : Stmt := topS 28
theorem sc__law_is : FnScope ["e", "number", "above", "k"] ["e", "number"] (defScope s__law_is) := ⟨rfl, rfl, rfl, by decide +kernel, rfl, by decide +kernel, by decide +kernel⟩
abbrev s__law_attributes : Stmt := topS 29
theorem sc__law_attributes : FnScope ["number", "word", "numbers", "words", "told"] ["number", "word"] (defScope s__law_attributes) := ⟨rfl, rfl, rfl, by decide +kernel, rfl, by decide +kernel, by decide +kernel⟩
abbrev s_law : Stmt := topS 30
theorem sc_law : FnScope ["script", "reader", "number", "word", "k", "made"] ["script"] (defScope s_law) := ⟨rfl, rfl, rfl, by decide +kernel, rfl, by decide +kernel, by decide +kernel⟩
/-- a def as it stands behind the top -/
structure DefAt (K : PySem.W.Frag) (mg : Str → Option Value) (x : Str) (st : Stmt) (ps : List Str) : Prop where
  ex : ∃ (f : Addr) (fd : FuncData), Fun K x x st f fd ∧ mg x = some (.ref f) ∧ Binds K fd ps []
/-- what a caller needs of a def -/
def Has (P : Program) (w : World) (K : PySem.W.Frag) (mg : Str → Option Value) (base : Heap) (k : Nat) (x : Str) (ps : List Str) (sp : Sp) : Prop :=
  ∃ (f : Addr) (fd : FuncData), FnOk P w K mg base CX0 k f fd ps sp ∧ mg x = some (.ref f) ∧ PySem.W.keepIn K (.ref f) = true ∧ Binds K fd ps []
theorem Has.none {P : Program} {w : World} {K : PySem.W.Frag} {mg : Str → Option Value} {base : Heap} {k : Nat} {x : Str} {st : Stmt} {ps : List Str} {sp : Sp} (D : DefAt K mg x st ps) (no : ∀ vs H Q E, ¬ sp vs H Q E) : Has P w K mg base k x ps sp := by
  obtain ⟨f, fd, F, m, b⟩ := D.ex
  exact ⟨f, fd, ⟨fun vs H Q E h => absurd h (no vs H Q E), fun A outer s H args us vs Q E _ _ _ _ h => absurd h (no vs H Q E)⟩, m, F.kp, b⟩
theorem Has.mono {P : Program} {w : World} {K : PySem.W.Frag} {mg : Str → Option Value} {base : Heap} {j k : Nat} {x : Str} {ps : List Str} {sp : Sp} (h : Has P w K mg base j x ps sp) (l : j ≤ k) : Has P w K mg base k x ps sp := by
  obtain ⟨f, fd, F, r⟩ := h
  exact ⟨f, fd, F.mono l, r⟩
/-! ### further rules -/
section
variable {X : Cx}
/-- two derivations of one expression -/
theorem pe_alt {e : Expr} {t u : TE} (h1 : PE X e t) (h2 : PE X e u) : PE X e (fun σ H Q => t σ H Q ∨ u σ H Q) :=
  ⟨fun pins s σ H Q I h => h.elim (h1.run pins s σ H Q I) (h2.run pins s σ H Q I)⟩
/-- tuple(list): the new object is known to have no dict of its own -/
def rTupF (K : PySem.W.Frag) : List V → Hp → VK → Prop := fun xs H Q => ∃ p ys, xs = [.ref p] ∧ SqL K H p ys ∧ ∀ l o, H l = none → o.cls = .type "tuple" → o.dict = none → Q (.ref l) (upd H l (.frz o (.tup ys)))
theorem call_tupleF : CallR X (.type "tuple") (rTupF X.K) := by
  intro pins s σ H xs us Q I r h
  obtain ⟨p, ys, rfl, hq, q⟩ := h
  obtain ⟨u, rfl, rx⟩ := vals1 r
  cases rx
  obtain ⟨its, r', pl, hz⟩ := I.list hq
  have hlen := r'.length
  refine call_tuple_list pl.isList (fun h' kp => ?_) (by simp only [List.size_toArray] <;> omega)
  have I1 : Inv X pins σ H { s with heap := h' } := I.kept (t' := s.toks) kp
  have e1 : (h'.push { cls := .type "tuple", data := .seq its.toArray }).get? h'.objs.size = some { cls := .type "tuple", data := .seq its.toArray } := Heap.get?_push_size _ rfl
  have I2 : Inv X pins σ (upd H h'.objs.size (.frz { cls := .type "tuple", data := .seq its.toArray } (.tup ys))) { s with heap := h'.push { cls := .type "tuple", data := .seq its.toArray } } :=
    I1.laid (t' := s.toks) (fun b o e => Heap.get?_push_of_some _ e) (Nat.le_refl _) (show ObjOk X.prog X.w _ _ _ (.frz _ (.tup ys)) from ⟨e1, hz, its, r', IsTup.new _ _⟩)
  exact ⟨.ref h'.objs.size, _, I2, rfl, q _ _ (I1.hok.fresh (Nat.le_refl _)) rfl rfl⟩
/-- a method of a tuple that was made so -/
def tyF (x : V) (H : Hp) : Prop := ∃ p o xs, x = .ref p ∧ H p = some (.frz o (.tup xs)) ∧ o.cls = .type "tuple" ∧ o.dict = none
def tBMF (r : V → List V → Hp → VK → Prop) (to : TE) (t : TA) : TE := fun σ H Q => to σ H fun x H1 => tyF x H1 ∧ t σ H1 fun xs H2 => r x xs H2 Q
theorem pe_bmF {o e : Expr} {es : List Expr} {to : TE} {t : TA} {name : Str} {apos cpos : Pos} {id : String} {r : V → List V → Hp → VK → Prop}
    (pa : PlainAttrs "tuple") (slot : Slot "tuple" name id) (hty : typeOf (.builtin id) = pure (.type "method_descriptor")) (hm : MtR X id r) (ho : PE X o to) (ha : PA X (e :: es) t)
    (hbase : attributeBase o name X.env (eval o X.env) = eval o X.env := by rfl)
    (hfew : ((backTo cpos (starEach (e :: es) X.env)).all (fun x => !x.1) && (backToKw cpos (keywordEach [] X.env)).all (fun x => x.1.isSome)
      && decide ((e :: es).length + ([] : List Keyword).length + (if ([] : List Keyword).isEmpty then 0 else 1) < 30)) = true := by rfl)
    (hline : (apos.endLine == cpos.line) = true := by rfl) (hs : starEach (e :: es) X.env = (false, eval e X.env) :: starEach es X.env := by rfl) (hplain : (backTo cpos (starEach es X.env)).any (·.1) = false := by rfl) :
    PE X (.Call (.Attribute o name apos) (e :: es) [] cpos) (tBMF r to t) := by
  refine ⟨fun pins s σ H Q I h => ?_⟩
  refine wpAny_Call_method_late hbase hfew hline rfl (thn (ho.run pins s σ H _ I h) fun v s1 ⟨x, H1, I1, r1, ty, q1⟩ => ?_)
  obtain ⟨p, ob, ys, rfl, hp, hc, hd⟩ := ty
  obtain ⟨e1, _⟩ := I1.hok p _ hp
  cases r1
  refine ⟨"tuple", id, pa, slot, hty, ⟨ob, e1, hc⟩, fun a e => ?_, ?_⟩
  · cases e
    exact ⟨ob, e1, hd⟩
  have hA := ha.run cpos pins s1 σ H1 _ I1 q1
  rw [hs] at hA ⊢
  refine Calls.callWith_builtin (by show (false || (backTo cpos (starEach es X.env)).any (·.1)) = false; rw [hplain] <;> rfl) (Calls.evalArgs_plain ?_)
  exact thn hA fun us s2 ⟨vs, H2, I2, r2, q2⟩ => hm pins s2 σ H2 (.ref p) vs (.ref p) us Q I2 rfl r2 q2
/-- xs.index(y), xs a list or a tuple made by tuple(..) -/
theorem pe_index {o e : Expr} {to te : TE} {apos cpos : Pos} (ho : PE X o to) (he : PE X e te)
    (hbase : attributeBase o "index" X.env (eval o X.env) = eval o X.env := by rfl)
    (hfew : ((backTo cpos (starEach [e] X.env)).all (fun x => !x.1) && (backToKw cpos (keywordEach [] X.env)).all (fun x => x.1.isSome)
      && decide ([e].length + ([] : List Keyword).length + (if ([] : List Keyword).isEmpty then 0 else 1) < 30)) = true := by rfl)
    (hline : (apos.endLine == cpos.line) = true := by rfl) (hs : starEach [e] X.env = (false, eval e X.env) :: starEach [] X.env := by rfl) (hplain : (backTo cpos (starEach [] X.env)).any (·.1) = false := by rfl) :
    PE X (.Call (.Attribute o "index" apos) [e] [] cpos) (fun σ H Q =>
      tBM X.K "list" (rIndex X.K) to (tCons te tNil) σ H Q ∨
      tBMF (fun x xs H Q => ∃ p, ∃ ys : List Str, ∃ z j, x = .ref p ∧ xs = [.str z] ∧ SqT X.K H p (ys.map V.str) ∧ ys[j]? = some z ∧ (∀ m, m < j → ys[m]? ≠ some z) ∧ Q (.int (j : Nat)) H) to (tCons te tNil) σ H Q) :=
  pe_alt (pe_bm PySem.F.plainAttrs_list PySem.F.slot_list_index PySem.F.type_list_index mt_index ho (pa_cons he pa_nil (hs := hs)) hbase hfew hline hs hplain)
    (pe_bmF PySem.F.plainAttrs_tuple PySem.F.slot_tuple_index PySem.F.type_tuple_index mt_tup_index ho (pa_cons he pa_nil (hs := hs)) hbase hfew hline hs hplain)
end
/-! ### the rules that speak of the written part, for the element of a comprehension: the part is named -/
section
variable {X : Cx} {K : PySem.W.Frag}
theorem ix_listK (h : X.K = K) : IxR X (rIxL K) := h ▸ ix_list
theorem ix_tupK (h : X.K = K) : IxR X (rIxT K) := h ▸ ix_tup
theorem ix_seqK (h : X.K = K) : IxR X (rIx K) := h ▸ ix_seq
theorem op_in_seqK (h : X.K = K) : OpR X (compareOp .In) (rIn K false) := h ▸ op_in_seq
theorem op_notIn_seqK (h : X.K = K) : OpR X (compareOp .NotIn) (rIn K true) := h ▸ op_notIn_seq
theorem sl_listK (h : X.K = K) : SlR X (rSlL K) := h ▸ sl_list
theorem sl_tupK (h : X.K = K) : SlR X (rSlT K) := h ▸ sl_tup
theorem call_isiK' (h : X.K = K) : CallR X (.builtin "isinstance") (rIsi K) := h ▸ call_isi
theorem call_len_seqK (h : X.K = K) : CallR X (.builtin "len") (fun xs H Q => ∃ p ys, xs = [.ref p] ∧ (SqL K H p ys ∨ SqT K H p ys) ∧ Q (.int ys.length) H) := h ▸ call_len_seq
end
/-! ### heaps: everything but what stands at r is as it was -/
def Fr (r : Addr) (H H' : Hp) : Prop := ∀ b o, b ≠ r → H b = some o → H' b = some o
theorem Fr.refl (r : Addr) (H : Hp) : Fr r H H := fun _ _ _ h => h
theorem Fr.trans {r : Addr} {H H1 H2 : Hp} (a : Fr r H H1) (b : Fr r H1 H2) : Fr r H H2 := fun c o n h => b c o n (a c o n h)
theorem Fr.of {r : Addr} {H H' : Hp} (a : Same H H') : Fr r H H' := fun c o _ h => a c o h
theorem Fr.new {r p : Addr} {H : Hp} {o : HO} (h : H p = none) : Fr r H (upd H p o) := fun b u _ e => by
  rw [upd_ne (ne_of_none e h)]
  exact e
theorem Fr.upd {r : Addr} {H : Hp} {o : HO} : Fr r H (upd H r o) := fun b u n e => by
  rw [upd_ne n]
  exact e
theorem Fr.mut {r p : Addr} {H H' : Hp} {o : HO} (a : Fr r H H') (h : H p = none) : Fr r H (L2.upd H' p o) := fun b u n e => by
  rw [upd_ne (ne_of_none e h)]
  exact a b u n e
theorem Fr.seq {K : PySem.W.Frag} {r : Addr} {H H' : Hp} {a : Addr} {xs : List V} (e : Fr r H H') (n : a ≠ r) (h : SqL K H a xs) : SqL K H' a xs := by
  rcases h with (h | ⟨o, h⟩) | h
  · exact .inl (.inl (e _ _ n h))
  · exact .inl (.inr ⟨o, e _ _ n h⟩)
  · exact .inr h
theorem same_new {H : Hp} {p : Addr} {o : HO} (h : H p = none) : Same H (upd H p o) := fun b u e => by
  rw [upd_ne (ne_of_none e h)]
  exact e
theorem same_mut {H H' : Hp} {p : Addr} {o : HO} (a : Same H H') (h : H p = none) : Same H (upd H' p o) := fun b u e => by
  rw [upd_ne (ne_of_none e h)]
  exact a b u e
theorem same_back {H H' : Hp} {p : Addr} (e : Same H H') (h : H' p = none) : H p = none := e.free h
/-- what tuples stood, stands -/
def Tp (H H' : Hp) : Prop := ∀ b xs, H b = some (.tup xs) → H' b = some (.tup xs)
theorem Tp.refl (H : Hp) : Tp H H := fun _ _ h => h
theorem Tp.trans {H H1 H2 : Hp} (a : Tp H H1) (b : Tp H1 H2) : Tp H H2 := fun c o h => b c o (a c o h)
theorem tps {H H' : Hp} (a : Same H H') : Tp H H' := fun b xs h => a b _ h
theorem tpn {H : Hp} {p : Addr} {o : HO} (h : H p = none) : Tp H (upd H p o) := tps (same_new h)
/-! ### a reader: a list of three ints -/
def RD (H : Hp) (r : Addr) : Prop := ∃ c k d : Int, H r = some (.lst [.int c, .int k, .int d])
theorem RD.of {H H' : Hp} {r : Addr} (h : RD H r) (e : Same H H') : RD H' r := by
  obtain ⟨c, k, d, h⟩ := h
  exact ⟨c, k, d, e _ _ h⟩
theorem RD.ne {H : Hp} {r p : Addr} (h : RD H r) (n : H p = none) : p ≠ r := by
  obtain ⟨c, k, d, h⟩ := h
  exact fun e => by
    subst e
    rw [n] at h
    cases h
theorem Fr.tp {r : Addr} {H H' : Hp} (a : Fr r H H') (h : RD H r) : Tp H H' := fun b xs e => by
  refine a b _ (fun z => ?_) e
  subst z
  obtain ⟨c, k, d, h⟩ := h
  rw [h] at e
  cases e
theorem Fr.free {r p : Addr} {H H' : Hp} (a : Fr r H H') (h : RD H r) (h' : RD H' r) (n : H' p = none) : H p = none := by
  cases q : H p with
  | none => rfl
  | some o =>
    have z := a p o (h'.ne n) q
    rw [n] at z
    cases z
/-! ### items -/
theorem at_in {α : Type} {xs : List α} {i : Int} (h0 : 0 ≤ i) (h : i < (xs.length : Int)) : ∃ x, xs[i.toNat]? = some x ∧ atI xs i = some x := by
  obtain ⟨n, rfl⟩ := Int.eq_ofNat_of_zero_le h0
  have h1 : n < xs.length := by omega
  have h2 : xs[n]? = some xs[n] := List.getElem?_eq_getElem h1
  exact ⟨xs[n], by simpa using h2, atI_nat h2⟩
theorem int_of_bl {i j : Int} (h : decide (V.int i = V.int j) = true) : i = j := V.int.inj (of_decide_eq_true h)
theorem int_ne_bl {i j : Int} (h : ¬ decide (V.int i = V.int j) = true) : i ≠ j := fun e => h (decide_eq_true (congrArg V.int e))
theorem dec_t {p : Prop} [Decidable p] (h : decide p = true) : p := of_decide_eq_true h
theorem dec_f {p : Prop} [Decidable p] (h : ¬ decide p = true) : ¬ p := fun z => h (decide_eq_true z)
theorem mod_lt {i n : Int} (h : 0 < n) : 0 ≤ i % n ∧ i % n < n := ⟨Int.emod_nonneg i (by omega), Int.emod_lt_of_pos i h⟩
theorem cut_to (xs : List V) (n : Nat) : cutV xs none (some (n : Int)) = xs.take n := by
  unfold cutV
  rw [HT.sIx_none, show HT.sIx xs.length xs.length (some (n : Int)) = min n xs.length from HT.sIx_nat xs.length xs.length n, Nat.sub_zero, List.drop_zero]
  by_cases h : n ≤ xs.length
  · rw [Nat.min_eq_left h]
  · rw [Nat.min_eq_right (by omega), List.take_length, List.take_of_length_le (by omega)]
theorem cut_from (xs : List V) (n : Nat) : cutV xs (some (n : Int)) none = xs.drop n := by
  unfold cutV
  rw [HT.sIx_none, show HT.sIx xs.length 0 (some (n : Int)) = min n xs.length from HT.sIx_nat xs.length 0 n]
  by_cases h : n ≤ xs.length
  · rw [Nat.min_eq_left h]
    exact List.take_of_length_le (by rw [List.length_drop]; exact Nat.le_refl _)
  · rw [Nat.min_eq_right (by omega), Nat.sub_self, List.take_zero, List.drop_of_length_le (by omega)]
theorem cutS_len (z : Str) (lo hi : Option Int) : (cutS z lo hi).length ≤ z.length := by
  show (List.toArray _).size ≤ z.cps.size
  rw [List.size_toArray, List.length_take, List.length_drop, Array.length_toList]
  omega
theorem str_at {z : Str} {i : Int} (h0 : 0 ≤ i) (h : i < (z.length : Int)) : ∃ c, atI z.cps.toList i = some c := by
  obtain ⟨c, _, e⟩ := at_in (xs := z.cps.toList) h0 (by rw [Array.length_toList]; exact h)
  exact ⟨c, e⟩
/-- what stood before r was laid -/
theorem Fr.back {r : Addr} {H0 H H' : Hp} (f : Fr r H H') (s : Same H0 H) (n : H0 r = none) : Same H0 H' := fun b o e => f b o (ne_of_none e n) (s b o e)
/-! ### texts of true signs -/
theorem sok_iff {x : Str} : PyData.strOk x = true ↔ ∀ c ∈ x.cps.toList, c < 0x110000 := by
  unfold PyData.strOk
  rw [← Array.all_toList, List.all_eq_true]
  constructor
  · intro h c hc
    exact of_decide_eq_true (h c hc)
  · intro h c hc
    exact decide_eq_true (h c hc)
theorem sok_app {x y : Str} (hx : PyData.strOk x = true) (hy : PyData.strOk y = true) : PyData.strOk (x ++ y) = true := by
  rw [sok_iff] at hx hy ⊢
  intro c hc
  have e : (x ++ y).cps.toList = x.cps.toList ++ y.cps.toList := Array.toList_append
  rw [e] at hc
  rcases List.mem_append.mp hc with h | h
  · exact hx c h
  · exact hy c h
theorem atI_mem {α : Type} {xs : List α} {i : Int} {x : α} (h : atI xs i = some x) : x ∈ xs := by
  unfold atI at h
  cases e : ixN xs.length i with
  | none => rw [e] at h; cases h
  | some j =>
    rw [e] at h
    exact List.mem_of_getElem? (show xs[j]? = some x from h)
theorem sok_one {z : Str} {i : Int} {c : Nat} (h : atI z.cps.toList i = some c) (hz : PyData.strOk z = true) : PyData.strOk ⟨#[c]⟩ = true := by
  rw [sok_iff] at hz ⊢
  intro d hd
  have e : d = c := by simpa using hd
  subst e
  exact hz d (atI_mem h)
theorem sok_cut {z : Str} {lo hi : Option Int} (hz : PyData.strOk z = true) : PyData.strOk (cutS z lo hi) = true := by
  rw [sok_iff] at hz ⊢
  intro d hd
  have e : d ∈ (z.cps.toList.drop (HT.sIx z.length 0 lo)).take (HT.sIx z.length z.length hi - HT.sIx z.length 0 lo) := by simpa [cutS] using hd
  exact hz d (List.mem_of_mem_drop (List.mem_of_mem_take e))
theorem one_len (c : Nat) : (⟨#[c]⟩ : Str).length = 1 := rfl
theorem app_len (x y : Str) : (x ++ y).length = x.length + y.length := by
  show (x.cps ++ y.cps).size = _
  rw [Array.size_append]
  rfl
theorem line_small {n : Nat} (h : n ≤ 100000) : n ≤ sizeLine := Nat.le_trans h (by decide)
theorem map_at {α β : Type} {f : α → β} {xs : List α} {j : Nat} {x : α} (h : xs[j]? = some x) : (xs.map f)[j]? = some (f x) := by
  rw [List.getElem?_map, h]
  rfl
open NdefX
/-! ### an error class whose __init__ hands a text to the class above it and keeps its argument -/
section
open NdefX PySem.W
/-- what an f-string may hold -/
def Fmt (y : V) : Prop := (∃ z : Str, y = .str z ∧ z.length ≤ 100000) ∨ ∃ i : Int, y = .int i ∧ i.natAbs < 2 ^ 64
/-- the promise of such an __init__: the field is set -/
def spInit (C : Addr) (fld : Str) : Sp := fun vs H Q _ => ∃ (a : Addr) (y : V), vs = [.ref a, y] ∧ Fmt y ∧ H a = some (exo a C none) ∧
  ∀ dx, H dx = none → dx ≠ a → Q .non (upd (upd H dx (exd dx [(fld, y)])) a (exo a C (some dx)))
/-- the scope of such an __init__ -/
abbrev initSc (par : Str) : Scope := { kind := .function, names := [("self", .local), (par, .local), ("__class__", .free), ("super", .globalImplicit)], isGenerator := false, isCoroutine := false, more := [] }
/-- the written part, as far as it speaks of the class and its __init__ -/
structure InitK (P : Program) (K : PySem.W.Frag) (mg : Str → Option Value) (f cc cda C : Addr) (qual : Str) (params : Arguments) (body : List Stmt) (fd : FuncData) (par fld : Str) : Prop where
  ex : ∃ (oc : Value) (od : Option Addr) (osl : Array (Option Value)) (dV kV doc pm ct : Value) (an : Option Addr), fd = PySem.W.fnX "__init__" qual params body (initSc par) [("__class__", cc)] dV kV doc pm an (.ref cda) ct ∧ K.lookup f = some ⟨oc, od, .func fd, osl⟩
  code : PySem.W.codeIn K (.ref cda) qual = true
  file : ∃ (oc : Value) (od : Option Addr) (vs : Array Value) (sl : Array (Option Value)) (file : Str) (tf : Tok), K.lookup cda = some ⟨oc, od, .fields vs, sl⟩ ∧ vs[2]? = some (.str file tf) ∧ (P.main.file == file) = true
  cell : ∃ (oc : Value) (od : Option Addr) (sl : Array (Option Value)), K.lookup cc = some ⟨oc, od, .cell (some (.ref C)), sl⟩
  cls : OexC K C
  me : PySem.W.mroIn K C (.ref C) = some true
  up : PySem.W.ks_superIn K C C "__init__" = some (some (.builtin "ValueError.__init__"))
  ve : PySem.W.subIn K (.ref C) (.type "ValueError") = some true
  opq : PySem.W.nsIn K cStatics "thirdparty.any" = some none
  fld : PySem.W.findIn K (.ref C) fld = some none
  zsup : mg "super" = none
  self : (params.posonlyargs ++ params.args).head?.map (·.arg) = some "self"
  top : (P.main.scope.names.lookup ("super" : Str)).isSome = false
structure InitS (par : Str) : Prop where
  n : NScope ["self", par, "__class__"] ["self", par] ["__class__"] (initSc par)
  sup : (initSc par).names.lookup ("super" : Str) = some .globalImplicit
  cls : (initSc par).names.lookup ("__class__" : Str) = some .free
  vself : (initSc par).names.lookup ("self" : Str) = some .local
  vpar : (initSc par).names.lookup par = some .local
  d1 : (par == ("__debug__" : Str)) = false
  d2 : (par == ("__classdict__" : Str)) = false
variable {CX : CXT} {P : Program} {w : World} {K : PySem.W.Frag} {mg : Str → Option Value} {base : Heap} {k : Nat} {f cc cda C : Addr} {qual : Str} {params : Arguments} {fd : FuncData} {par fld : Str}
  {p0 p1 p2 p3 p4 q0 q1 q2 q3 : Pos} {fs : Expr} {tfs : TE}
/-- the function, as HandS names it -/
abbrev initF (qual : Str) (params : Arguments) (body : List Stmt) (par : Str) (cc cda : Addr) : NF := { name := "__init__", qual := qual, params := params, body := body, scope := initSc par, cl := [("__class__", cc)], c := cda }
abbrev initB (p0 p1 p2 p3 p4 q0 q1 q2 q3 : Pos) (fs : Expr) (par fld : Str) : List Stmt :=
  [.Expr (.Call (.Attribute (.Call (.Name "super" p0) [] [] p1) "__init__" p2) [fs] [] p3) p4, .Assign [.Attribute (.Name "self" q0) fld q1] (.Name par q2) q3]
theorem init_ok (Z : InitK P K mg f cc cda C qual params (initB p0 p1 p2 p3 p4 q0 q1 q2 q3 fs par fld) fd par fld) (S : InitS par)
    (hfs : ∀ (A : Around) (outer : List Env) (s : Shared) (H : Hp) (E : XK), PE (ncx CX P w K mg base ["self", par, "__class__"] (initF qual params (initB p0 p1 p2 p3 p4 q0 q1 q2 q3 fs par fld) par cc cda) f A outer s H E) fs tfs)
    (hst : ∀ env : Env, starEach [fs] env = [(false, eval fs env)])
    {pl : Env → Sem Bool} (hev : ∀ env : Env, eval (.Call (.Attribute (.Call (.Name "super" p0) [] [] p1) "__init__" p2) [fs] [] p3) env = (do
      let o ← attributeBase (.Call (.Name "super" p0) [] [] p1) "__init__" env (eval (.Call (.Name "super" p0) [] [] p1) env)
      standAt p2.atName
      let (g, gs) ← holding [o] (getMethod o "__init__" (pl env))
      callWith p3 g gs (backTo p3 (starEach [fs] env)) []))
    (hrd : ∀ (a : Addr) (y : V) (H : Hp) (Q : VK), Fmt y → (∀ z, Q (.str z) H) → tfs [some (.ref a), some y, some (.ref C)] H Q) :
    FnOk P w K mg base CX (k + 1) f fd ["self", par] (spInit C fld) := by
  obtain ⟨oc, od, osl, dV, kV, doc, pm, ct, an, rfl, lk⟩ := Z.ex
  refine ⟨fun vs H Q E h => by obtain ⟨a, y, rfl, _⟩ := h; rfl, fun A outer s H args us vs Q E hr e0 hb r hsp => ?_⟩
  obtain ⟨a, y, rfl, hy, ha, q⟩ := hsp
  have KX : K.In s.heap := e0.mod.kin.keeps fun b o e => (e0.bs b o e).1
  have lim : s.heap.NoLimit := e0.mod.nolimit.keeps fun b o e => (e0.bs b o e).1
  have hl2 : us.length = 2 := r.length.symm
  refine codeAny_call_function hr.depth (KX _ _ lk) rfl S.n.co S.n.gen rfl (PySem.W.codeRec_of KX Z.code) (hb _ _ _ _ ?_)
  refine wpAny_newFunctionEnv S.n.nocell (fun ⟨n, _⟩ hm => S.n.par n (List.of_mem_zip hm).1) (fun g1 hns hsb => ⟨lim.fresh _ hsb, ?_⟩) S.n.kind
  have kp : ∀ b o, s.heap.get? b = some o → g1.get? b = some o := fun b o e => hsb.extBut b o (Nat.ne_of_lt (Heap.lt_size e)) (Heap.get?_push_of_some _ e)
  obtain ⟨occ, odc, slc, hcell⟩ := Z.cell
  have hC : CellsAt [("__class__", cc)] ["__class__"] [some (.ref C)] s.heap H := by
    refine ⟨rfl, fun y c e => ?_, fun x y c e1 e2 => ?_, fun i y e => ?_⟩
    · have ec : cc = c := by
        by_cases hy2 : y = "__class__"
        · subst hy2; exact Option.some.inj e
        · have hb : (y == ("__class__" : Str)) = false := by simpa using hy2
          simp [List.lookup, hb] at e
      subst ec
      exact ⟨(e0.bs _ _ (e0.mod.kin _ _ hcell)).2, _, _, KX _ _ hcell, rfl⟩
    · have one : ∀ z, List.lookup z [(("__class__" : Str), cc)] = some c → z = "__class__" := fun z e => by
        by_cases hz : z = "__class__"
        · exact hz
        · have hb : (z == ("__class__" : Str)) = false := by simpa using hz
          simp [List.lookup, hb] at e
      rw [one x e1, one y e2]
    · match i, e with
      | 0, e =>
        cases e
        exact ⟨cc, rfl, fun v hv => by cases hv; exact ⟨_, rfl, _, KX _ _ hcell, rfl⟩⟩
      | i + 1, e => cases e
  have I := inv_startN (CX := CX) (N := ["self", par, "__class__"]) (F := initF qual params (initB p0 p1 p2 p3 p4 q0 q1 q2 q3 fs par fld) par cc cda) (f := f) (ws := [some (.ref C)]) (E := E) (tk := s.toks + (List.zip (["self", par] : List Str) us).length) S.n hr.hd e0 rfl r hC hns kp
  refine ks_codeAny_funcAt ?_
  refine ks_wpAt_execs_cons (ks_wpAt_Expr_any (ks_wpAt_MethodCall ?_ (hev _)))
  obtain ⟨ocd, odd, vsd, sld, fl, tfl, hcode, hvs, hfile⟩ := Z.file
  obtain ⟨ar, har, hself⟩ : ∃ ar, (params.posonlyargs ++ params.args).head? = some ar ∧ ar.arg = "self" := by
    have z := Z.self
    cases e : (params.posonlyargs ++ params.args).head? with
    | none => rw [e] at z; cases z
    | some ar => rw [e] at z; exact ⟨ar, rfl, Option.some.inj z⟩
  have X1 : K.In g1 := fun b o e => kp b o (KX b o e)
  obtain ⟨nm, qn, N, bs, bm, sn, sub, ab, col, dd, k0, k1, k2, k3, k5, hK, hbm⟩ := Z.cls.cls
  have hC1 := X1 _ _ hK
  obtain ⟨t1, hx⟩ := exo_at I.hok ha
  have fresh : ∀ {b : Addr} {o : Obj}, g1.get? b = some o → b ≠ g1.objs.size := fun h => Nat.ne_of_lt (Heap.lt_size h)
  have mx : (List.zip (["self", par] : List Str) us).reverse.lookup ("self" : Str) = some (.ref a) := by
    match us, r with
    | [_, _], .cons ra _ =>
      cases ra
      have hne : (("self" : Str) == par) = false := by
        have nd := S.n.nd
        by_cases e : ("self" : Str) = par
        · subst e
          exact absurd nd (by simp)
        · simpa using e
      show List.lookup ("self" : Str) [(par, _), ("self", Value.ref a)] = _
      simp [List.lookup, hne]
  refine ks_wpAt_super_base (env := envX qual (initSc par) s.heap.objs.size f (.ref cda) [("__class__", cc)]) S.sup S.cls rfl rfl (X1 _ _ lk) rfl har rfl (X1 _ _ hcode) rfl hvs hfile Z.top ?_
  obtain ⟨mb, hb1, hb2⟩ := I.mod.blt
  refine ks_loadName_global rfl S.sup (Calls.loadGlobal_builtin (I.mod.glob.keeps I.bk) Z.zsup (hb1.keeps I.bk) ((hb2 "super" (by decide)).trans (by decide +kernel)) ⟨rfl, ?_⟩)
  refine wpAny_loadName_free rfl S.cls rfl ⟨_, X1 _ _ hcell, rfl⟩ ?_
  rw [hself]
  refine wpAny_loadName_local rfl S.vself hns mx ?_
  refine ks_wpAny_isType_cls hC1 rfl ⟨rfl, ?_⟩
  refine ks_wpAny_call_super hC1 rfl hx rfl (fun c e => by cases e) (looks_mroIn X1 Z.me) (fun h2 e2 kp2 => ?_)
  have I2 := I.kept (t' := s.toks + (List.zip (["self", par] : List Str) us).length) kp2
  have X2 : K.In h2 := fun b o e => kp2 _ _ (X1 b o e)
  have J2 : InstAt h2 a ({ cls := .ref C, dict := none, data := .fields #[.ref t1, .none, .none, .none, .bool false, .none] } : Obj) C none := ⟨kp2 _ _ hx, rfl, rfl, trivial⟩
  obtain ⟨cd, hcd⟩ : ∃ cd, clsIn K C = some cd := by
    unfold clsIn
    rw [hK]
    exact ⟨_, rfl⟩
  have hup := Z.up
  unfold ks_superIn at hup
  rw [hcd] at hup
  refine kxs_getMethod kxs_ValueError e2 (looks_opaque X2 Z.opq) (l₀ := cd.mro) (fun _ _ _ _ k q => wpAny_bind ((looks_clsIn X2 hcd) _ _ _ _ k (wpAny_pure q))) rfl X2 hup (J2.type.andThen (looks_subIn X2 Z.ve)) (ks_ne X2 J2 hcd) rfl ?_
  -- the bound __init__ is called
  have kp3 : ∀ b o, h2.get? b = some o → (h2.push (kxs_mw "ValueError.__init__" a)).get? b = some o := fun b o e => Heap.get?_push_of_some _ e
  have eu : (h2.push (kxs_mw "ValueError.__init__" a)).get? h2.objs.size = some (kxs_mw "ValueError.__init__" a) := Heap.get?_push_at rfl rfl
  have I3 := I2.kept (t' := s.toks + (List.zip (["self", par] : List Str) us).length + 1) kp3
  have I3p := I3.pinned (fp := [h2.objs.size]) (fun b hb => by
    rcases List.mem_singleton.mp hb with rfl
    exact I2.fpOk (Nat.le_refl _) (I2.hok.fresh (Nat.le_refl _))) (fun b hb => by
    rcases List.mem_singleton.mp hb with rfl
    exact ⟨_, eu, fun v e => by cases e⟩)
  have pa := (pa_cons (hfs A outer s H E) pa_nil (hst _)).run p3 _ _ _ H (fun xs H' => ∃ z, xs = [.str z] ∧ H' = H) I3p (hrd a y H _ hy fun z => ⟨z, rfl, rfl⟩)
  rw [hst] at pa
  rw [hst]
  refine kxs_callWith (i := "ValueError.__init__") (x := a) rfl ?_
  refine Calls.evalArgs_plain (wpAny_mono pa (fun vs s4 hv => ?_) fun e s' he => ?_)
  · obtain ⟨xs, H4, I4, rv, z, rfl, rfl⟩ := hv
    obtain ⟨pu, _⟩ := I4.pin (h2.objs.size, kxs_mw "ValueError.__init__" a) (List.mem_append_right _ (mem_pinsAt (List.mem_singleton.mpr rfl) eu))
    refine ⟨pu, ?_⟩
    obtain ⟨t4, hx4⟩ := exo_at I4.hok ha
    have X4 : K.In s4.heap := I4.kIn
    obtain ⟨h4, g4, d4, tk4, os4⟩ := s4
    have hvl : vs.length ≤ sizeLine := by
      rw [← rv.length]
      exact line_small (by show 1 ≤ 100000; decide)
    -- the method-wrapper's call
    refine wpAny_call (codeAny_of_tree ?_)
    show wpAny _ (Around.in1 _) (callAny (.ref h2.objs.size) ⟨vs, []⟩) _ _ _
    simp only [callAny]
    refine wpAny_bind (wpAny_load pu ?_)
    simp only [kxs_mw, show (Value.type "method-wrapper" == Value.type "method" || Value.type "method-wrapper" == Value.type "builtin_function_or_method" || Value.type "method-wrapper" == Value.type "method-wrapper") = true by decide, if_true]
    refine KFB.if_so (by decide) ?_
    refine wpAny_bind (check_bound_init PySem.F.excBase_ValueError.toExcCallFacts (X4 _ _ hK) hx4 rfl ?_)
    refine wpAny_bind (wpAny_pure (wpAny_pure ?_))
    refine ⟨plainId_quiet PySem.F.excBase_ValueError.init.plain _, codeAny_builtin PySem.F.excBase_ValueError.initEntry ?_⟩
    refine exc_init_tree (cls := .ref C) (t0 := t4) (dv := none) (c2 := .none) (c3 := .none) (b4 := .bool false) hx4 hvl (fun h5 k5 e5 _ => ?_)
    have J5 := (I4.write (t' := tk4) (x := a) (e := a) (o := exo a C none) (by rw [ha]; exact True.intro) (.inl rfl) k5 ⟨_, e5⟩ (exo_ok e5)).unpinned
    have eH : upd H4 a (exo a C none) = H4 := by
      funext b
      by_cases hb : b = a
      · rw [hb, upd_same, ha]
      · rw [upd_ne hb]
    rw [eH] at J5
    have ps := (pss_one (ps_ost (X := ncx CX P w K mg base ["self", par, "__class__"] (initF qual params (initB p0 p1 p2 p3 p4 q0 q1 q2 q3 fs par fld) par cc cda) f A outer s H4 E) (p' := q1) (pos := q3) (f := fld)
      (pe_var (i := 0) (pos := q0) (x := "self") rfl (.inl S.vself)) (pe_var (i := 1) (pos := q2) (x := par) rfl (.inl S.vpar) S.d1 S.d2) rfl)).run [] _ _ H4 { nx := fun _ H' => Q .non H', rt := Q } J5
      ⟨y, rfl, .ref a, rfl, a, C, rfl, Z.cls, Z.fld, .inl ⟨ha, fun dx n1 n2 => q dx n1 n2⟩⟩
    refine _root_.PySem.wpAt_of_wpAny (wpAny_mono ps (fun fl s' hs => ?_) fun e s' hs => hs)
    cases fl with
    | ret u =>
      obtain ⟨v, σ', H', J, rv, q⟩ := hs
      exact ⟨v, H', J.os, J.bare, J.base, J.hok, rv, q⟩
    | next =>
      obtain ⟨σ', H', J, q⟩ := hs
      exact ⟨.non, H', J.os, J.bare, J.base, J.hok, rfl, q⟩
    | brk =>
      obtain ⟨_, _, _, q⟩ := hs
      exact False.elim q
    | cont =>
      obtain ⟨_, _, _, q⟩ := hs
      exact False.elim q
  · exact he
end
/-! ### errors held as values -/
section
variable {X : Cx} {o e : Expr} {to te : TE} {ta : TA} {f : Str} {p pos : Pos}
/-- C(e), C's own __init__ keeping sp: the new error as a value -/
def tMkV (C : Addr) (sp : Sp) (ta : TA) : TE := fun σ H Q => ta σ H fun vs H1 => vs.length ≤ 1000 ∧ ∀ a, H1 a = none → sp (.ref a :: vs) (upd H1 a (exo a C none)) (fun v H2 => v = .non ∧ Q (.ref a) H2) E0
theorem pe_oex {x : Str} {C fI : Addr} {k : Nat} {fd : FuncData} {ps : List Str} {sp : Sp} (T : OexC X.K C) (iC : PySem.W.findIn X.K (.ref C) "__init__" = some (some (.ref fI))) (tI : PySem.W.typeIn X.K (.ref fI) = some (.type "function"))
    (G : FnOk X.prog X.w X.K X.mg X.base CX0 k fI fd ps sp) (hr : Room (k + 1) X.A) (hb : Binds X.K fd ps []) (hg : Gl X x) (hm : X.mg x = some (.ref C)) (ha : PE X e te)
    (hst : starEach [e] X.env = (false, eval e X.env) :: starEach [] X.env := by rfl) (hdb : (x == ("__debug__" : Str)) = false := by decide) :
    PE X (.Call (.Name x p) [e] [] pos) (tMkV C sp (tCons te tNil)) := by
  refine ⟨fun pins s σ H Q I h => ?_⟩
  obtain ⟨nm, q, N, bs, bm, sn, sub, ab, col, dd, k0, k1, k2, k3, k5, hC, hbm⟩ := T.cls
  refine wpAny_Call_Name_kw (ld_glob I hg hm ?_ hdb)
  refine PySem.W.callWith_K (h₀ := X.base) I.ok.mod.kin T.kC (thn ((pa_cons ha pa_nil hst).run pos pins s σ H _ I h) fun us s1 ⟨vs, H1, I1, r1, hz, q1⟩ => ⟨I1.kIn, ?_⟩) hst rfl
  show wpAny _ _ (call (.ref C) us) _ _ _
  obtain ⟨hp, g, dr, tk, os⟩ := s1
  have h1 : hp.objs.size ≤ hp.objs.size + 1 := Nat.le_succ _
  have q2 := q1 (hp.objs.size + 1) (I1.hok.fresh h1)
  have up2 : ∀ b o, hp.get? b = some o → ((hp.push (PySem.W.kdv_tup us)).push (PySem.HandSPX.excO C hp.objs.size)).get? b = some o := fun b o z => Heap.get?_push_of_some _ (Heap.get?_push_of_some _ z)
  have here : ((hp.push (PySem.W.kdv_tup us)).push (PySem.HandSPX.excO C hp.objs.size)).get? (hp.objs.size + 1) = some (PySem.HandSPX.excO C hp.objs.size) := by heap_get
  have I2 := I1.laid (t' := tk) (a := hp.objs.size + 1) (o := exo (hp.objs.size + 1) C none) (h' := (hp.push (PySem.W.kdv_tup us)).push (PySem.HandSPX.excO C hp.objs.size)) up2 h1 (exo_ok here)
  have r2 : Vals (V.ref (hp.objs.size + 1) :: vs) (Value.ref (hp.objs.size + 1) :: us) := .cons rfl r1
  have len2 : (Value.ref (hp.objs.size + 1) :: us ++ []).length = ps.length := by
    rw [List.append_nil, ← r2.length]
    exact G.len _ _ _ _ q2
  have usl : us.length ≤ sizeLine := by
    rw [← Paired.length r1]
    exact line_small (by omega)
  have bd := hb ⟨(hp.push (PySem.W.kdv_tup us)).push (PySem.HandSPX.excO C hp.objs.size), g, dr, tk, os⟩ (Value.ref (hp.objs.size + 1) :: us) I2.kIn len2
  rw [List.append_nil] at bd
  refine wpAny_call (PySem.HandSPX.call_own F.excBase_ValueError (fun Y => PySem.HandSPX.refsVE_contains Y bm hbm) (I1.kIn _ _ hC) (PySem.W.looks_findIn I1.kIn iC) (fun self => PySem.W.bind_fn I1.kIn self tI) usl
    (codeAny_mono (G.run _ X.stack _ _ ⟨Value.ref (hp.objs.size + 1) :: us, []⟩ _ _ _ E0 (hr.make C us []) (I2.env0.make C us []) bd r2 q2) fun r s' hq => ?_))
  cases r with
  | error er => exact hq.elim
  | ok fl =>
    cases fl with
    | ret u =>
      obtain ⟨v, H3, I3, rv, ev, q3⟩ := I2.after hq
      subst ev
      exact ⟨rv, .ref _, H3, I3, rfl, q3⟩
    | next => exact False.elim hq
    | brk => exact False.elim hq
    | cont => exact False.elim hq
/-- C(), C without an own __init__ -/
theorem pe_exc0 {x : Str} {C : Addr} {bmB : List Value} {B newId initId : String} (F : ExcBaseFacts B newId initId bmB) (q : PySem.W.excIn X.K C bmB newId = true) (gC : X.mg x = some (.ref C)) (kC : PySem.W.keepIn X.K (.ref C) = true) (hg : Gl X x)
    (hdb : (x == ("__debug__" : Str)) = false := by decide) :
    PE X (.Call (.Name x p) [] [] pos) (fun _ H Q => ∀ a, H a = none → Q (.ref a) (upd H a (ExO (.ref C) a))) := by
  refine ⟨fun pins s σ H Q I h => ?_⟩
  refine wpAny_Call_Name_kw (ld_glob I hg gC ?_ hdb)
  refine PySem.W.callWith_K0 I.kIn kC ?_
  show wpAny _ _ (call (.ref C) []) _ _ _
  obtain ⟨bm, N, nm, qn, bs, hdct, sn, sub, ab, col, dd, k0, k1, k2, k3, k5, mN, hC, hN, hni, T⟩ := exc_obj I.kIn q
  refine wpAny_call_exc_subT F T hC hN hni (fun h' a hm => ?_) (Nat.zero_le _)
  have hn : H a = none := I.hok.gone hm.new
  obtain ⟨t, ht, _, _⟩ := hm.there
  exact ⟨.ref a, upd H a (ExO (.ref C) a), I.laidN hm.keeps hm.new hn (exO_ok ht ⟨rfl, rfl⟩ rfl rfl rfl (show 4 < 6 by decide)), rfl, h a hn⟩
/-- what stands at an error's address: one with an own __init__, before and behind it, or one without -/
def ErrO (H : Hp) (C a : Addr) : Prop := H a = some (exo a C none) ∨ (∃ d fs, H a = some (exo a C (some d)) ∧ H d = some (exd d fs)) ∨ H a = some (ExO (.ref C) a)
/-- what the written part says of an error class, for isinstance -/
structure ErrC (K : PySem.W.Frag) (C : Addr) : Prop where
  cl : (PySem.W.clsIn K C).isSome = true
  ga : PySem.W.findIn K (.ref C) "__getattribute__" = some (some (.builtin "BaseException.__getattribute__"))
  gt : PySem.W.findIn K (.ref C) "__getattr__" = some none
  sb : PySem.W.subIn K (.ref C) (.type "BaseException") = some true
  ca : PySem.W.findIn K (.ref C) "__class__" = some (some (.builtin "object.__class__"))
  cn : PySem.W.specialIn K (.builtin "object.__class__") "__get__" = some (some (.builtin "getset_descriptor.__get__"))
  ct : PySem.W.takesIn K (.builtin "object.__class__") = some true
  cm : PySem.W.mroIn K C (.type "object") = some true
  hd : PySem.W.hasDictIn K C = true
theorem err_inst {pins : List (Addr × Obj)} {σ : L2.St} {H : Hp} {s : Shared} {C a : Addr} (I : Inv X pins σ H s) (h : ErrO H C a) : ∃ ox od, PySem.W.InstAt s.heap a ox C od := by
  rcases h with h | ⟨d, fs, h, hd⟩ | h
  · obtain ⟨t, e⟩ := exo_at I.hok h
    exact ⟨_, none, e, rfl, rfl, True.intro⟩
  · obtain ⟨t, e⟩ := exo_at I.hok h
    obtain ⟨mA, hns, _⟩ := exd_at I.hok hd
    obtain ⟨od, es, ep, e2, _⟩ := hns
    exact ⟨_, some od, e, rfl, rfl, e2⟩
  · obtain ⟨⟨oe, vs, e, z, d, _⟩, _, _⟩ := I.hok a _ h
    refine ⟨oe, none, e, z.1, ?_, ?_⟩
    · unfold PySem.W.notCls
      rw [d]
    · rw [z.2]
      exact True.intro
/-- isinstance of an error, of one class -/
def rIsE (K : PySem.W.Frag) : List V → Hp → VK → Prop := fun xs H Q => ∃ (a C : Addr) (c : V) (u : Value) (b : Bool), xs = [.ref a, c] ∧ ClsV c u ∧ ErrC K C ∧ ErrO H C a ∧ PySem.W.kitOne K (.ref C) u = some b ∧ Q (.bl b) H
theorem call_isE : CallR X (.builtin "isinstance") (rIsE X.K) := by
  intro pins s σ H xs us Q I r h
  obtain ⟨a, C, c, u, b, rfl, kc, T, he, e, q⟩ := h
  obtain ⟨u1, u2, rfl, r1, r2⟩ := vals2 r
  have e2 := kc.eq r2
  subst e2
  cases r1
  obtain ⟨ox, od, J⟩ := err_inst I he
  exact PySem.W.kia_one (PySem.W.kitx_exc T.cl T.ga T.gt T.sb T.ca T.cn T.ct T.cm) I.kIn J e (fun z => nomatch z) fun tk => ⟨.bl b, H, I.tok tk, rfl, q⟩
/-- e.f of an error held as a value -/
def tEf (K : PySem.W.Frag) (f : Str) (te : TE) : TE := fun σ H Q => te σ H fun x H1 => ∃ (a C d : Addr) (fs : List (Str × V)) (v : V), x = .ref a ∧ ErrC K C ∧ PySem.W.findIn K (.ref C) f = some none ∧ H1 a = some (exo a C (some d)) ∧ H1 d = some (exd d fs) ∧ fs.lookup f = some v ∧ Q v H1
theorem pe_ef (he : PE X e te) (hb : attributeBase e f X.env (eval e X.env) = eval e X.env := by rfl) : PE X (.Attribute e f pos) (tEf X.K f te) := by
  refine ⟨fun pins s σ H Q I h => ?_⟩
  refine attr_of hb (thn (he.run pins s σ H _ I h) fun u s1 hh => ?_)
  obtain ⟨x, H1, I1, rx, a, C, d, fs, v, rfl, T, hno, ha, hd, l, q⟩ := hh
  cases rx
  obtain ⟨t, e1⟩ := exo_at I1.hok ha
  obtain ⟨mA, hns, hr⟩ := exd_at I1.hok hd
  obtain ⟨od, ho, hl⟩ := lookIn_ns hns
  obtain ⟨u, hu, ru⟩ := RelO.some_of (v := v) (o := mA f) (by rw [← l]; exact hr f)
  have J : PySem.W.InstAt s1.heap a ({ cls := .ref C, dict := some d, data := .fields #[.ref t, .none, .none, .none, .bool false, .none] } : Obj) C (some od) := ⟨e1, rfl, rfl, ho⟩
  exact HandSPX.exc_get I1.kIn J T.ga T.gt T.sb (PySem.W.findObj_own T.hd hno rfl (by rw [hl, hu])) (handed_of ru) ⟨v, H1, I1.tok _, ru, q⟩
/-- the promise of an error's __init__, whatever heap it leaves -/
def spInitA (C : Addr) (fld : Str) : Sp := fun vs H Q _ => ∃ (a : Addr) (y : V), vs = [.ref a, y] ∧ Fmt y ∧ H a = some (exo a C none) ∧
  ∀ (d : Addr) (H' : Hp), (∀ b o, H b = some o → b ≠ a → H' b = some o) → H' a = some (exo a C (some d)) → H' d = some (exd d [(fld, y)]) → H d = none → Q .non H'
theorem initA {C : Addr} {fld : Str} (vs : List V) (H : Hp) (Q : VK) (E : XK) (h : spInitA C fld vs H Q E) : spInit C fld vs H Q E := by
  obtain ⟨a, y, rfl, hy, ha, q⟩ := h
  refine ⟨a, y, rfl, hy, ha, fun d n k => q d _ (fun b o e ne => ?_) upd_same ((upd_ne k).trans upd_same) n⟩
  rw [upd_ne ne, upd_ne (ne_of_none e n)]
  exact e
theorem same_made {H H' : Hp} {a : Addr} {o : HO} (n : H a = none) (k : ∀ b u, upd H a o b = some u → b ≠ a → H' b = some u) : Same H H' := fun b u e =>
  k b u (by rw [upd_ne (ne_of_none e n)]; exact e) (ne_of_none e n)
end
/-! ### the facts of error classes, by one look each -/
def errB (K : PySem.W.Frag) (C : Addr) : Bool := (PySem.W.clsIn K C).isSome && decide (PySem.W.findIn K (.ref C) "__getattribute__" = some (some (.builtin "BaseException.__getattribute__"))) && decide (PySem.W.findIn K (.ref C) "__getattr__" = some none) &&
  decide (PySem.W.subIn K (.ref C) (.type "BaseException") = some true) && decide (PySem.W.findIn K (.ref C) "__class__" = some (some (.builtin "object.__class__"))) && decide (PySem.W.specialIn K (.builtin "object.__class__") "__get__" = some (some (.builtin "getset_descriptor.__get__"))) &&
  decide (PySem.W.takesIn K (.builtin "object.__class__") = some true) && decide (PySem.W.mroIn K C (.type "object") = some true) && PySem.W.hasDictIn K C
theorem errB_ok {K : PySem.W.Frag} {C : Addr} (h : errB K C = true) : ErrC K C := by
  unfold errB at h
  simp only [Bool.and_eq_true, decide_eq_true_eq] at h
  obtain ⟨⟨⟨⟨⟨⟨⟨⟨h1, h2⟩, h3⟩, h4⟩, h5⟩, h6⟩, h7⟩, h8⟩, h9⟩ := h
  exact ⟨h1, h2, h3, h4, h5, h6, h7, h8, h9⟩
/-- the class with this number -/
def clsAt (l : List (Nat × Addr)) (n : Nat) : Addr := match l.lookup n with
  | some a => a
  | none => 0
def errsB (K : PySem.W.Frag) (c : Nat → Addr) (ids : List Nat) (up : Nat → Nat → Bool) : Bool := ids.all fun i => PySem.W.keepIn K (.ref (c i)) && errB K (c i) && decide (PySem.W.kitOne K (.ref (c i)) (.type "ValueError") = some true) &&
  ids.all fun j => decide (PySem.W.kitOne K (.ref (c i)) (.ref (c j)) = some (up i j))
theorem errsB_ok {K : PySem.W.Frag} {c : Nat → Addr} {ids : List Nat} {up : Nat → Nat → Bool} (h : errsB K c ids up = true) : (∀ i ∈ ids, PySem.W.keepIn K (.ref (c i)) = true) ∧ (∀ i ∈ ids, ErrC K (c i)) ∧
    (∀ i ∈ ids, ∀ j ∈ ids, PySem.W.kitOne K (.ref (c i)) (.ref (c j)) = some (up i j)) ∧ ∀ i ∈ ids, PySem.W.kitOne K (.ref (c i)) (.type "ValueError") = some true := by
  unfold errsB at h
  rw [List.all_eq_true] at h
  have z : ∀ i ∈ ids, PySem.W.keepIn K (.ref (c i)) = true ∧ ErrC K (c i) ∧ PySem.W.kitOne K (.ref (c i)) (.type "ValueError") = some true ∧ ∀ j ∈ ids, PySem.W.kitOne K (.ref (c i)) (.ref (c j)) = some (up i j) := fun i hi => by
    have q := h i hi
    simp only [Bool.and_eq_true, decide_eq_true_eq, List.all_eq_true] at q
    exact ⟨q.1.1.1, errB_ok q.1.1.2, q.1.2, q.2⟩
  exact ⟨fun i hi => (z i hi).1, fun i hi => (z i hi).2.1, fun i hi => (z i hi).2.2.2, fun i hi => (z i hi).2.2.1⟩
/-- an __init__'s facts -/
def initB' (K : PySem.W.Frag) (C : Addr) (fld : Str) : Bool := decide (PySem.W.mroIn K C (.ref C) = some true) && decide (PySem.W.ks_superIn K C C "__init__" = some (some (.builtin "ValueError.__init__"))) && decide (PySem.W.subIn K (.ref C) (.type "ValueError") = some true) &&
  decide (PySem.W.findIn K (.ref C) fld = some none) && decide (PySem.W.findIn K (.ref C) "__setattr__" = some (some (.builtin "object.__setattr__"))) && decide (PySem.W.subIn K (.ref C) (.type "BaseException") = some true) && decide (PySem.W.typeIn K (.ref C) = some (.type "type"))
theorem initB_ok {K : PySem.W.Frag} {C : Addr} {fld : Str} (h : initB' K C fld = true) : PySem.W.mroIn K C (.ref C) = some true ∧ PySem.W.ks_superIn K C C "__init__" = some (some (.builtin "ValueError.__init__")) ∧ PySem.W.subIn K (.ref C) (.type "ValueError") = some true ∧
    PySem.W.findIn K (.ref C) fld = some none ∧ PySem.W.findIn K (.ref C) "__setattr__" = some (some (.builtin "object.__setattr__")) ∧ PySem.W.subIn K (.ref C) (.type "BaseException") = some true ∧ PySem.W.typeIn K (.ref C) = some (.type "type") := by
  unfold initB' at h
  simp only [Bool.and_eq_true, decide_eq_true_eq] at h
  obtain ⟨⟨⟨⟨⟨⟨h1, h2⟩, h3⟩, h4⟩, h5⟩, h6⟩, h7⟩ := h
  exact ⟨h1, h2, h3, h4, h5, h6, h7⟩
def errIds : List Nat := [1, 2, 3, 4, 5, 6, 7, 8, 9, 10, 11, 12, 13, 14, 15, 16, 17, 18, 19, 20, 21]
def errChains : List (Nat × List Nat) := [(1, [1]), (2, [2, 1]), (3, [3, 2, 1]), (4, [4, 2, 1]), (5, [5, 2, 1]), (6, [6, 2, 1]), (7, [7, 2, 1]), (8, [8, 2, 1]), (9, [9, 2, 1]), (10, [10, 2, 1]), (11, [11, 2, 1]), (12, [12, 2, 1]), (13, [13, 1]), (14, [14, 13, 1]), (15, [15, 13, 1]), (16, [16, 13, 1]), (17, [17, 1]), (18, [18, 17, 1]), (19, [19, 17, 1]), (20, [20, 17, 1]), (21, [21, 17, 1])]
def errUp (i j : Nat) : Bool := match errChains.lookup i with | some l => l.contains j | none => false
/-- an error class's __init__ as it stands behind the top -/
def InitAt (P : Program) (K : PySem.W.Frag) (mg : Str → Option Value) (C : Addr) (st : Stmt) (par fld : Str) : Prop := ∃ (f cc cda : Addr) (fd : FuncData) (qual : Str), InitK P K mg f cc cda C qual (defArgs st) (defBody st) fd par fld ∧
  PySem.W.findIn K (.ref C) "__init__" = some (some (.ref f)) ∧ PySem.W.typeIn K (.ref f) = some (.type "function") ∧ Binds K fd ["self", par] []
/-- what a call of such a class needs -/
def HasI (P : Program) (w : World) (K : PySem.W.Frag) (mg : Str → Option Value) (base : Heap) (C : Addr) (par fld : Str) : Prop := ∃ (f : Addr) (fd : FuncData), FnOk P w K mg base CX0 1 f fd ["self", par] (spInitA C fld) ∧
  PySem.W.findIn K (.ref C) "__init__" = some (some (.ref f)) ∧ PySem.W.typeIn K (.ref f) = some (.type "function") ∧ Binds K fd ["self", par] []
theorem log_small {n : Nat} (h : n < 2 ^ 64) : n.log2 < 1920 := by
  by_cases e : n = 0
  · rw [e]
    decide
  · exact (Nat.log2_lt e).mpr (Nat.lt_of_lt_of_le h (Nat.pow_le_pow_right (by decide) (by decide)))
theorem fj2 {s1 : Str} (h1 : s1.length ≤ 1000) {a C : Addr} {y : V} {H : Hp} {Q : VK} (hy : Fmt y) (q : ∀ z, Q (.str z) H) : tJs [tC (.str s1), tFmt (tVar 1)] Str.empty [some (.ref a), some y, some (.ref C)] H (fun out H1 => Q (.str out) H1) := by
  have e1 : (Str.empty ++ s1).length = s1.length := by rw [app_len]; exact Nat.zero_add _
  refine ⟨s1, rfl, by rw [e1]; exact line_small (by omega), y, rfl, ?_⟩
  rcases hy with ⟨z, rfl, hz⟩ | ⟨i, rfl, hi⟩
  · exact .inl ⟨z, rfl, line_small hz, z, rfl, by rw [app_len, e1]; exact Nat.le_trans (by omega) (show 101000 ≤ sizeLine by decide), q _⟩
  · have hl := log_small hi
    exact .inr ⟨i, rfl, hl, _, rfl, by rw [app_len, e1]; exact Nat.le_trans (Nat.add_le_add h1 (int_text_len_1921 hl)) (show 2921 ≤ sizeLine by decide), q _⟩
theorem fj3 {s1 s2 : Str} (h1 : s1.length ≤ 1000) (h2 : s2.length ≤ 1000) {a C : Addr} {y : V} {H : Hp} {Q : VK} (hy : Fmt y) (q : ∀ z, Q (.str z) H) : tJs [tC (.str s1), tFmt (tVar 1), tC (.str s2)] Str.empty [some (.ref a), some y, some (.ref C)] H (fun out H1 => Q (.str out) H1) := by
  have e1 : (Str.empty ++ s1).length = s1.length := by rw [app_len]; exact Nat.zero_add _
  refine ⟨s1, rfl, by rw [e1]; exact line_small (by omega), y, rfl, ?_⟩
  rcases hy with ⟨z, rfl, hz⟩ | ⟨i, rfl, hi⟩
  · exact .inl ⟨z, rfl, line_small hz, z, rfl, by rw [app_len, e1]; exact Nat.le_trans (by omega) (show 101000 ≤ sizeLine by decide), s2, rfl, by rw [app_len, app_len, e1]; exact Nat.le_trans (by omega) (show 102000 ≤ sizeLine by decide), q _⟩
  · have hl := log_small hi
    have hs := int_text_len_1921 hl
    exact .inr ⟨i, rfl, hl, _, rfl, by rw [app_len, e1]; exact Nat.le_trans (Nat.add_le_add h1 hs) (show 2921 ≤ sizeLine by decide), s2, rfl, by rw [app_len, app_len, e1]; exact Nat.le_trans (Nat.add_le_add (Nat.add_le_add h1 hs) h2) (show 3921 ≤ sizeLine by decide), q _⟩
structure Txt (P : Program) (K : PySem.W.Frag) (mg : Str → Option Value) (c : Nat → Addr) : Prop where
  z_ValueError : mg "ValueError" = none
  z_all : mg "all" = none
  z_bool : mg "bool" = none
  z_int : mg "int" = none
  z_isinstance : mg "isinstance" = none
  z_len : mg "len" = none
  z_range : mg "range" = none
  z_str : mg "str" = none
  z_super : mg "super" = none
  d__law_reader : DefAt K mg "_law_reader" s__law_reader ["script", "k"]
  d__law_next : DefAt K mg "_law_next" s__law_next ["reader", "size"]
  d__law_same : DefAt K mg "_law_same" s__law_same ["told", "due"]
  d__law_inputs : DefAt K mg "_law_inputs" s__law_inputs ["e"]
  d__law_others : DefAt K mg "_law_others" s__law_others ["e"]
  d__law_is : DefAt K mg "_law_is" s__law_is ["e", "number"]
  d__law_attributes : DefAt K mg "_law_attributes" s__law_attributes ["number", "word"]
  d_law : DefAt K mg "law" s_law ["script"]
  g_MendError : mg "MendError" = some (.ref (c 1))
  g_InvalidInput : mg "InvalidInput" = some (.ref (c 2))
  g_InvalidText : mg "InvalidText" = some (.ref (c 3))
  g_InvalidProgram : mg "InvalidProgram" = some (.ref (c 4))
  g_InvalidContract : mg "InvalidContract" = some (.ref (c 5))
  g_InvalidChange : mg "InvalidChange" = some (.ref (c 6))
  g_InvalidStream : mg "InvalidStream" = some (.ref (c 7))
  g_InvalidPlaces : mg "InvalidPlaces" = some (.ref (c 8))
  g_InvalidEdit : mg "InvalidEdit" = some (.ref (c 9))
  g_InvalidLine : mg "InvalidLine" = some (.ref (c 10))
  g_InvalidName : mg "InvalidName" = some (.ref (c 11))
  g_Mismatch : mg "Mismatch" = some (.ref (c 12))
  g_BoundError : mg "BoundError" = some (.ref (c 13))
  g_TooLarge : mg "TooLarge" = some (.ref (c 14))
  g_TooLong : mg "TooLong" = some (.ref (c 15))
  g_TooManyCases : mg "TooManyCases" = some (.ref (c 16))
  g_DeskError : mg "DeskError" = some (.ref (c 17))
  g_NameTaken : mg "NameTaken" = some (.ref (c 18))
  g_UnknownName : mg "UnknownName" = some (.ref (c 19))
  g_NothingToUndo : mg "NothingToUndo" = some (.ref (c 20))
  g_NothingToRedo : mg "NothingToRedo" = some (.ref (c 21))
  kp : ∀ i ∈ errIds, PySem.W.keepIn K (.ref (c i)) = true
  er : ∀ i ∈ errIds, ErrC K (c i)
  isa : ∀ i ∈ errIds, ∀ j ∈ errIds, PySem.W.kitOne K (.ref (c i)) (.ref (c j)) = some (errUp i j)
  ve : ∀ i ∈ errIds, PySem.W.kitOne K (.ref (c i)) (.type "ValueError") = some true
  x_MendError : PySem.W.excIn K (c 1) [.type "ValueError", .type "Exception", .type "BaseException", .type "object"] "ValueError.__new__" = true
  x_InvalidInput : PySem.W.excIn K (c 2) [.type "ValueError", .type "Exception", .type "BaseException", .type "object"] "ValueError.__new__" = true
  o_InvalidText : OexC K (c 3)
  n_InvalidText : InitAt P K mg (c 3) (inClass (topS 3) 0) "position" "position"
  f_InvalidText : PySem.W.findIn K (.ref (c 3)) "position" = some none
  o_InvalidProgram : OexC K (c 4)
  n_InvalidProgram : InitAt P K mg (c 4) (inClass (topS 4) 0) "reason" "reason"
  f_InvalidProgram : PySem.W.findIn K (.ref (c 4)) "reason" = some none
  o_InvalidContract : OexC K (c 5)
  n_InvalidContract : InitAt P K mg (c 5) (inClass (topS 5) 0) "reason" "reason"
  f_InvalidContract : PySem.W.findIn K (.ref (c 5)) "reason" = some none
  x_InvalidChange : PySem.W.excIn K (c 6) [.type "ValueError", .type "Exception", .type "BaseException", .type "object"] "ValueError.__new__" = true
  x_InvalidStream : PySem.W.excIn K (c 7) [.type "ValueError", .type "Exception", .type "BaseException", .type "object"] "ValueError.__new__" = true
  o_InvalidPlaces : OexC K (c 8)
  n_InvalidPlaces : InitAt P K mg (c 8) (inClass (topS 8) 0) "place" "place"
  f_InvalidPlaces : PySem.W.findIn K (.ref (c 8)) "place" = some none
  o_InvalidEdit : OexC K (c 9)
  n_InvalidEdit : InitAt P K mg (c 9) (inClass (topS 9) 0) "place" "place"
  f_InvalidEdit : PySem.W.findIn K (.ref (c 9)) "place" = some none
  o_InvalidLine : OexC K (c 10)
  n_InvalidLine : InitAt P K mg (c 10) (inClass (topS 10) 0) "number" "number"
  f_InvalidLine : PySem.W.findIn K (.ref (c 10)) "number" = some none
  o_InvalidName : OexC K (c 11)
  n_InvalidName : InitAt P K mg (c 11) (inClass (topS 11) 0) "name" "name"
  f_InvalidName : PySem.W.findIn K (.ref (c 11)) "name" = some none
  x_Mismatch : PySem.W.excIn K (c 12) [.type "ValueError", .type "Exception", .type "BaseException", .type "object"] "ValueError.__new__" = true
  x_BoundError : PySem.W.excIn K (c 13) [.type "ValueError", .type "Exception", .type "BaseException", .type "object"] "ValueError.__new__" = true
  o_TooLarge : OexC K (c 14)
  n_TooLarge : InitAt P K mg (c 14) (inClass (topS 14) 0) "what" "what"
  f_TooLarge : PySem.W.findIn K (.ref (c 14)) "what" = some none
  o_TooLong : OexC K (c 15)
  n_TooLong : InitAt P K mg (c 15) (inClass (topS 15) 0) "what" "what"
  f_TooLong : PySem.W.findIn K (.ref (c 15)) "what" = some none
  o_TooManyCases : OexC K (c 16)
  n_TooManyCases : InitAt P K mg (c 16) (inClass (topS 16) 0) "limit" "limit"
  f_TooManyCases : PySem.W.findIn K (.ref (c 16)) "limit" = some none
  x_DeskError : PySem.W.excIn K (c 17) [.type "ValueError", .type "Exception", .type "BaseException", .type "object"] "ValueError.__new__" = true
  o_NameTaken : OexC K (c 18)
  n_NameTaken : InitAt P K mg (c 18) (inClass (topS 18) 0) "name" "name"
  f_NameTaken : PySem.W.findIn K (.ref (c 18)) "name" = some none
  o_UnknownName : OexC K (c 19)
  n_UnknownName : InitAt P K mg (c 19) (inClass (topS 19) 0) "name" "name"
  f_UnknownName : PySem.W.findIn K (.ref (c 19)) "name" = some none
  x_NothingToUndo : PySem.W.excIn K (c 20) [.type "ValueError", .type "Exception", .type "BaseException", .type "object"] "ValueError.__new__" = true
  x_NothingToRedo : PySem.W.excIn K (c 21) [.type "ValueError", .type "Exception", .type "BaseException", .type "object"] "ValueError.__new__" = true
section
variable {P : Program} {w : World} {K : PySem.W.Frag} {mg : Str → Option Value} {base : Heap} {c : Nat → Addr}
theorem mk_InvalidText (T : Txt P K mg c) : HasI P w K mg base (c 3) "position" "position" := by
  obtain ⟨f, cc, cda, fd, qual, Z, i, t, b⟩ := T.n_InvalidText
  exact ⟨f, fd, (init_ok Z ⟨nscope_by (by decide +kernel), rfl, rfl, rfl, rfl, rfl, rfl⟩ (fun A outer s H E => pe_joined (PJ.cons pe_str (PJ.cons (pe_fmt (pe_var (i := 1) rfl (.inl rfl))) PJ.nil))) (fun env => rfl) (fun env => rfl) (fun a y H Q hy q => fj2 (by decide +kernel) hy q)).imp initA, i, t, b⟩
theorem mk_InvalidProgram (T : Txt P K mg c) : HasI P w K mg base (c 4) "reason" "reason" := by
  obtain ⟨f, cc, cda, fd, qual, Z, i, t, b⟩ := T.n_InvalidProgram
  exact ⟨f, fd, (init_ok Z ⟨nscope_by (by decide +kernel), rfl, rfl, rfl, rfl, rfl, rfl⟩ (fun A outer s H E => pe_joined (PJ.cons pe_str (PJ.cons (pe_fmt (pe_var (i := 1) rfl (.inl rfl))) PJ.nil))) (fun env => rfl) (fun env => rfl) (fun a y H Q hy q => fj2 (by decide +kernel) hy q)).imp initA, i, t, b⟩
theorem mk_InvalidContract (T : Txt P K mg c) : HasI P w K mg base (c 5) "reason" "reason" := by
  obtain ⟨f, cc, cda, fd, qual, Z, i, t, b⟩ := T.n_InvalidContract
  exact ⟨f, fd, (init_ok Z ⟨nscope_by (by decide +kernel), rfl, rfl, rfl, rfl, rfl, rfl⟩ (fun A outer s H E => pe_joined (PJ.cons pe_str (PJ.cons (pe_fmt (pe_var (i := 1) rfl (.inl rfl))) PJ.nil))) (fun env => rfl) (fun env => rfl) (fun a y H Q hy q => fj2 (by decide +kernel) hy q)).imp initA, i, t, b⟩
theorem mk_InvalidPlaces (T : Txt P K mg c) : HasI P w K mg base (c 8) "place" "place" := by
  obtain ⟨f, cc, cda, fd, qual, Z, i, t, b⟩ := T.n_InvalidPlaces
  exact ⟨f, fd, (init_ok Z ⟨nscope_by (by decide +kernel), rfl, rfl, rfl, rfl, rfl, rfl⟩ (fun A outer s H E => pe_joined (PJ.cons pe_str (PJ.cons (pe_fmt (pe_var (i := 1) rfl (.inl rfl))) (PJ.cons pe_str PJ.nil)))) (fun env => rfl) (fun env => rfl) (fun a y H Q hy q => fj3 (by decide +kernel) (by decide +kernel) hy q)).imp initA, i, t, b⟩
theorem mk_InvalidEdit (T : Txt P K mg c) : HasI P w K mg base (c 9) "place" "place" := by
  obtain ⟨f, cc, cda, fd, qual, Z, i, t, b⟩ := T.n_InvalidEdit
  exact ⟨f, fd, (init_ok Z ⟨nscope_by (by decide +kernel), rfl, rfl, rfl, rfl, rfl, rfl⟩ (fun A outer s H E => pe_joined (PJ.cons pe_str (PJ.cons (pe_fmt (pe_var (i := 1) rfl (.inl rfl))) (PJ.cons pe_str PJ.nil)))) (fun env => rfl) (fun env => rfl) (fun a y H Q hy q => fj3 (by decide +kernel) (by decide +kernel) hy q)).imp initA, i, t, b⟩
theorem mk_InvalidLine (T : Txt P K mg c) : HasI P w K mg base (c 10) "number" "number" := by
  obtain ⟨f, cc, cda, fd, qual, Z, i, t, b⟩ := T.n_InvalidLine
  exact ⟨f, fd, (init_ok Z ⟨nscope_by (by decide +kernel), rfl, rfl, rfl, rfl, rfl, rfl⟩ (fun A outer s H E => pe_joined (PJ.cons pe_str (PJ.cons (pe_fmt (pe_var (i := 1) rfl (.inl rfl))) (PJ.cons pe_str PJ.nil)))) (fun env => rfl) (fun env => rfl) (fun a y H Q hy q => fj3 (by decide +kernel) (by decide +kernel) hy q)).imp initA, i, t, b⟩
theorem mk_InvalidName (T : Txt P K mg c) : HasI P w K mg base (c 11) "name" "name" := by
  obtain ⟨f, cc, cda, fd, qual, Z, i, t, b⟩ := T.n_InvalidName
  exact ⟨f, fd, (init_ok Z ⟨nscope_by (by decide +kernel), rfl, rfl, rfl, rfl, rfl, rfl⟩ (fun A outer s H E => pe_joined (PJ.cons pe_str (PJ.cons (pe_fmt (pe_var (i := 1) rfl (.inl rfl))) PJ.nil))) (fun env => rfl) (fun env => rfl) (fun a y H Q hy q => fj2 (by decide +kernel) hy q)).imp initA, i, t, b⟩
theorem mk_TooLarge (T : Txt P K mg c) : HasI P w K mg base (c 14) "what" "what" := by
  obtain ⟨f, cc, cda, fd, qual, Z, i, t, b⟩ := T.n_TooLarge
  exact ⟨f, fd, (init_ok Z ⟨nscope_by (by decide +kernel), rfl, rfl, rfl, rfl, rfl, rfl⟩ (fun A outer s H E => pe_joined (PJ.cons pe_str (PJ.cons (pe_fmt (pe_var (i := 1) rfl (.inl rfl))) PJ.nil))) (fun env => rfl) (fun env => rfl) (fun a y H Q hy q => fj2 (by decide +kernel) hy q)).imp initA, i, t, b⟩
theorem mk_TooLong (T : Txt P K mg c) : HasI P w K mg base (c 15) "what" "what" := by
  obtain ⟨f, cc, cda, fd, qual, Z, i, t, b⟩ := T.n_TooLong
  exact ⟨f, fd, (init_ok Z ⟨nscope_by (by decide +kernel), rfl, rfl, rfl, rfl, rfl, rfl⟩ (fun A outer s H E => pe_joined (PJ.cons pe_str (PJ.cons (pe_fmt (pe_var (i := 1) rfl (.inl rfl))) PJ.nil))) (fun env => rfl) (fun env => rfl) (fun a y H Q hy q => fj2 (by decide +kernel) hy q)).imp initA, i, t, b⟩
theorem mk_TooManyCases (T : Txt P K mg c) : HasI P w K mg base (c 16) "limit" "limit" := by
  obtain ⟨f, cc, cda, fd, qual, Z, i, t, b⟩ := T.n_TooManyCases
  exact ⟨f, fd, (init_ok Z ⟨nscope_by (by decide +kernel), rfl, rfl, rfl, rfl, rfl, rfl⟩ (fun A outer s H E => pe_joined (PJ.cons pe_str (PJ.cons (pe_fmt (pe_var (i := 1) rfl (.inl rfl))) (PJ.cons pe_str PJ.nil)))) (fun env => rfl) (fun env => rfl) (fun a y H Q hy q => fj3 (by decide +kernel) (by decide +kernel) hy q)).imp initA, i, t, b⟩
theorem mk_NameTaken (T : Txt P K mg c) : HasI P w K mg base (c 18) "name" "name" := by
  obtain ⟨f, cc, cda, fd, qual, Z, i, t, b⟩ := T.n_NameTaken
  exact ⟨f, fd, (init_ok Z ⟨nscope_by (by decide +kernel), rfl, rfl, rfl, rfl, rfl, rfl⟩ (fun A outer s H E => pe_joined (PJ.cons pe_str (PJ.cons (pe_fmt (pe_var (i := 1) rfl (.inl rfl))) PJ.nil))) (fun env => rfl) (fun env => rfl) (fun a y H Q hy q => fj2 (by decide +kernel) hy q)).imp initA, i, t, b⟩
theorem mk_UnknownName (T : Txt P K mg c) : HasI P w K mg base (c 19) "name" "name" := by
  obtain ⟨f, cc, cda, fd, qual, Z, i, t, b⟩ := T.n_UnknownName
  exact ⟨f, fd, (init_ok Z ⟨nscope_by (by decide +kernel), rfl, rfl, rfl, rfl, rfl, rfl⟩ (fun A outer s H E => pe_joined (PJ.cons pe_str (PJ.cons (pe_fmt (pe_var (i := 1) rfl (.inl rfl))) PJ.nil))) (fun env => rfl) (fun env => rfl) (fun a y H Q hy q => fj2 (by decide +kernel) hy q)).imp initA, i, t, b⟩
end
end Pf

namespace Pf
open PySem PySem.Spec PyProof.Rows L2
section
variable {P : Program} {w : World} {K : PySem.W.Frag} {mg : Str → Option Value} {base : Heap}
variable {c : Nat → Addr}
def sp__law_next (K : PySem.W.Frag) : Sp := fun vs H Q _ => ∃ (r : Addr) (n : Int), vs = [.ref r, .int n] ∧ RD H r ∧ 0 < n ∧ n < 1073741824 ∧ ∀ (v : Int) H', Fr r H H' → RD H' r → 0 ≤ v → v < n → Q (.int v) H'
theorem g0 {x y z : V} : atI [x, y, z] 0 = some x := atI_nat (j := 0) rfl
theorem g1 {x y z : V} : atI [x, y, z] 1 = some y := atI_nat (j := 1) rfl
theorem g2 {x y z : V} : atI [x, y, z] 2 = some z := atI_nat (j := 2) rfl
theorem ok__law_next (T : Txt P K mg c) : Has P w K mg base 1 "_law_next" ["reader", "size"] (sp__law_next K) := by
  obtain ⟨f, fd, F, m, b⟩ := T.d__law_next.ex
  refine ⟨f, fd, F.ok sc__law_next (fun vs H Q E h => ?_) (fun cdv A outer s H vs Q E hr h => ?_), m, F.kp, b⟩
  · obtain ⟨r, n, rfl, hR, h0, h1, q⟩ := h
    rfl
  obtain ⟨r, n, rfl, hR, h0, h1, q⟩ := h
  refine ⟨_, (pss_cons (ps_set (i := 2) sc__law_next.nd rfl (.inl rfl) (pe_ix ix_list (pv 0) pe_int (fun _ _ => rfl)))
      (pss_cons (ps_asg (pe_op op_add (pv 2) pe_int) (pg_sub (pv 0) pe_int set_list))
      (pss_cons (ps_if (PW.pt (pw_and (pt_cmpR op_ge (pe_ix ix_list (pv 0) pe_int (fun _ _ => rfl)) (pe_op op_pow pe_int pe_int) (nomark _)) (pw_and1 (pt_cmpR op_gt (pe_ix ix_list (pv 0) pe_int (fun _ _ => rfl)) pe_int (nomark _)))))
      (pss_cons (ps_set (i := 3) sc__law_next.nd rfl (.inl rfl) (pe_ix ix_list (pv 0) pe_int (fun _ _ => rfl)))
        (pss_cons (ps_asg (pe_op op_fdivN (pv 3) (pv 1)) (pg_sub (pv 0) pe_int set_list))
        (pss_one (ps_ret (pe_op op_mod (pe_callTy call_int1 (by rfl) T.z_int (by decide +kernel) (pa_cons (pv 3) pa_nil)) (pv 1))))))
      pss_nil)
      (pss_cons (ps_set (i := 4) sc__law_next.nd rfl (.inl rfl) (pe_op op_mod (pe_callTy call_int1 (by rfl) T.z_int (by decide +kernel) (pa_cons (pe_op op_add (pe_op op_add (pe_ix ix_list (pv 0) pe_int (fun _ _ => rfl)) (pe_op op_mul pe_int (pv 2))) pe_int) pa_nil)) pe_int))
      (pss_cons (ps_set (i := 4) sc__law_next.nd rfl (.inl rfl) (pe_op op_mod (pe_callTy call_int1 (by rfl) T.z_int (by decide +kernel) (pa_cons (pe_op op_mul (pv 4) (pe_op op_add (pv 4) pe_int)) pa_nil)) pe_int))
      (pss_cons (ps_set (i := 4) sc__law_next.nd rfl (.inl rfl) (pe_op op_mod (pe_callTy call_int1 (by rfl) T.z_int (by decide +kernel) (pa_cons (pe_op op_add (pe_op op_mul (pv 4) (pe_op op_add (pv 4) pe_int)) (pe_op op_mul pe_int (pv 2))) pa_nil)) pe_int))
      (pss_one (ps_ret (pe_op op_mod (pe_callTy call_int1 (by rfl) T.z_int (by decide +kernel) (pa_cons (pe_op op_fdivN (pv 4) pe_int) pa_nil)) (pv 1)))))))))), ?_⟩
  obtain ⟨c, k, d, hR⟩ := hR
  -- k = reader[1]
  refine ⟨_, rfl, r, _, 1, _, rfl, rfl, SqL.of hR, g1, ?_⟩
  -- reader[1] = k + 1
  refine ⟨_, rfl, _, _, rfl, rfl, _, rfl, r, _, 1, 1, rfl, rfl, hR, rfl, ?_⟩
  -- reader[0] >= 10 ** 18 and reader[2] > 0
  refine ⟨_, rfl, r, _, 0, .int c, rfl, rfl, SqL.of upd_same, g0, _, _, rfl, rfl, ⟨by decide, by decide, by decide⟩, _, _, rfl, rfl, _, rfl, ?_⟩
  refine ite2 (fun e => ⟨_, rfl, r, _, 2, _, rfl, rfl, SqL.of upd_same, g2, _, _, rfl, rfl, _, rfl, ite2 (fun e2 => ?a) (fun e2 => ?b)⟩) (fun e => iteF ?b2)
  case a =>
    refine ⟨_, rfl, r, _, 2, _, rfl, rfl, SqL.of upd_same, g2, ?_⟩
    refine ⟨_, rfl, _, rfl, _, _, rfl, rfl, ⟨by omega, by omega⟩, _, rfl, r, _, 2, 2, rfl, rfl, upd_same, rfl, ?_⟩
    refine ⟨_, rfl, .inl ⟨_, rfl, _, rfl, _, _, rfl, rfl, h0, ?_⟩⟩
    exact q _ _ (Fr.trans Fr.upd Fr.upd) ⟨_, _, _, upd_same⟩ (mod_lt h0).1 (mod_lt h0).2
  all_goals
    refine ⟨_, rfl, r, _, 0, _, rfl, rfl, SqL.of upd_same, g0, _, rfl, _, _, rfl, rfl, .inl ⟨by decide, by decide⟩, _, _, rfl, rfl, _, _, rfl, rfl, .inl ⟨_, rfl, _, _, rfl, rfl, (show (0 : Int) < 2147483647 by decide), ?_⟩⟩
    refine ⟨_, rfl, _, rfl, _, _, rfl, rfl, _, _, rfl, rfl, .inl ⟨by omega, by omega⟩, .inl ⟨_, rfl, _, _, rfl, rfl, (show (0 : Int) < 2147483629 by decide), ?_⟩⟩
    refine ⟨_, rfl, _, rfl, _, _, rfl, rfl, _, _, rfl, rfl, .inl ⟨by omega, by omega⟩, _, rfl, _, _, rfl, rfl, .inl ⟨by decide, by decide⟩, _, _, rfl, rfl, .inl ⟨_, rfl, _, _, rfl, rfl, (show (0 : Int) < 2147483647 by decide), ?_⟩⟩
    refine ⟨_, rfl, _, _, rfl, rfl, ⟨by decide, by decide⟩, .inl ⟨_, rfl, _, rfl, _, _, rfl, rfl, h0, ?_⟩⟩
    exact q _ _ Fr.upd ⟨_, _, _, upd_same⟩ (mod_lt h0).1 (mod_lt h0).2


end
end Pf

namespace Pf
open PySem PySem.Spec PyProof.Rows L2
section
variable {P : Program} {w : World} {K : PySem.W.Frag} {mg : Str → Option Value} {base : Heap}
variable {c : Nat → Addr}
def sp__law_reader (K : PySem.W.Frag) : Sp := fun vs H Q _ => ∃ (a : Addr) (ns : List Int) (j : Nat), vs = [.ref a, .int (j : Int)] ∧ SqL K H a (ns.map V.int) ∧ ∀ (p : Addr) H', H p = none → Same H H' → RD H' p → Q (.ref p) H'
theorem ok__law_reader (T : Txt P K mg c) : Has P w K mg base 1 "_law_reader" ["script", "k"] (sp__law_reader K) := by
  obtain ⟨f, fd, F, m, b⟩ := T.d__law_reader.ex
  refine ⟨f, fd, F.ok sc__law_reader (fun vs H Q E h => ?_) (fun cdv A outer s H vs Q E hr h => ?_), m, F.kp, b⟩
  · obtain ⟨a, ns, j, rfl, hS, q⟩ := h
    rfl
  obtain ⟨a, ns, j, rfl, hS, q⟩ := h
  refine ⟨_, (pss_cons (ps_set (i := 2) sc__law_reader.nd rfl (.inl rfl) (pe_ifExp (pt_cmpR op_lt (pv 1) (pe_callB call_len_seq (by rfl) T.z_len (by decide +kernel) (pa_cons (pv 0) pa_nil)) (nomark _)) (pe_ix ix_list (pv 0) (pv 1) (fun _ _ => rfl)) pe_int))
      (pss_one (ps_ret (pe_lst (pa_cons (pv 2) (pa_cons pe_int (pa_cons (pe_op op_sub (pv 2) (pe_op op_pow pe_int pe_int)) pa_nil))))))), ?_⟩
  refine ⟨_, rfl, _, rfl, a, _, rfl, .inl hS, _, _, rfl, rfl, _, rfl, ite2 (fun e => ?_) (fun e => ?_)⟩
  · have e1 := dec_t e
    obtain ⟨x, h1, h2⟩ := at_in (xs := ns.map V.int) (i := (j : Int)) (by omega) e1
    rw [List.getElem?_map] at h1
    cases h3 : ns[(j : Int).toNat]? with
    | none => rw [h3] at h1; cases h1
    | some c =>
      rw [h3] at h1
      cases h1
      refine ⟨_, rfl, _, rfl, a, _, _, _, rfl, rfl, hS, h2, ?_⟩
      refine ⟨_, rfl, _, rfl, _, _, rfl, rfl, ⟨by decide, by decide, by decide⟩, _, _, rfl, rfl, by show 3 ≤ sizeLine; decide, fun p hp => ?_⟩
      exact q p _ hp (same_new hp) ⟨_, _, _, upd_same⟩
  · refine ⟨_, rfl, _, rfl, _, _, rfl, rfl, ⟨by decide, by decide, by decide⟩, _, _, rfl, rfl, by show 3 ≤ sizeLine; decide, fun p hp => ?_⟩
    exact q p _ hp (same_new hp) ⟨_, _, _, upd_same⟩

def sp__law_same (K : PySem.W.Frag) : Sp := fun vs H Q _ => ∃ (x : V), vs = [x, x] ∧ ((∃ z, x = .str z) ∨ ∃ i, x = .int i) ∧ Q (.bl true) H
theorem ok__law_same (T : Txt P K mg c) : Has P w K mg base 1 "_law_same" ["told", "due"] (sp__law_same K) := by
  obtain ⟨f, fd, F, m, b⟩ := T.d__law_same.ex
  refine ⟨f, fd, F.ok sc__law_same (fun vs H Q E h => ?_) (fun cdv A outer s H vs Q E hr h => ?_), m, F.kp, b⟩
  · obtain ⟨x, rfl, hx, q⟩ := h
    rfl
  obtain ⟨x, rfl, hx, q⟩ := h
  refine ⟨_, (pss_cons (ps_if (pt_val (pe_callB call_isi (by rfl) T.z_isinstance (by decide +kernel) (pa_cons (pv 1) (pa_cons (pe_bltn (v := .ty "str") (by rfl) T.z_str (by decide +kernel) rfl) pa_nil))))
      (pss_one (ps_ret (pe_and (pe_callB call_isi (by rfl) T.z_isinstance (by decide +kernel) (pa_cons (pv 0) (pa_cons (pe_bltn (v := .ty "str") (by rfl) T.z_str (by decide +kernel) rfl) pa_nil))) (pe_one (pe_cmpR op_eq (pv 0) (pv 1) (nomark _))))))
      pss_nil)
      (pss_one (ps_ret (pe_and (pe_callB call_isi (by rfl) T.z_isinstance (by decide +kernel) (pa_cons (pv 0) (pa_cons (pe_bltn (v := .ty "int") (by rfl) T.z_int (by decide +kernel) rfl) pa_nil))) (pe_and (pe_not (pe_callB call_isi (by rfl) T.z_isinstance (by decide +kernel) (pa_cons (pv 0) (pa_cons (pe_bltn (v := .ty "bool") (by rfl) T.z_bool (by decide +kernel) rfl) pa_nil)))) (pe_one (pe_cmpR op_eq (pv 0) (pv 1) (nomark _)))))))), ?_⟩
  rcases hx with ⟨z, rfl⟩ | ⟨z, rfl⟩
  · refine ⟨_, rfl, _, _, _, _, _, rfl, .ty _, .base (.str z), kit_ty (by decide +kernel), _, rfl, iteT ?_⟩
    refine ⟨_, rfl, _, _, _, _, _, rfl, .ty _, .base (.str z), kit_ty (by decide +kernel), _, rfl, iteT ?_⟩
    refine ⟨_, rfl, _, rfl, rfl, ?_⟩
    rw [decide_eq_true (rfl : V.str z = V.str z)]
    exact q
  · refine ⟨_, rfl, _, _, _, _, _, rfl, .ty _, .base (.int z), kit_ty (by decide +kernel), _, rfl, iteF ?_⟩
    refine ⟨_, rfl, _, _, _, _, _, rfl, .ty _, .base (.int z), kit_ty (by decide +kernel), _, rfl, iteT ?_⟩
    refine ⟨_, rfl, _, _, _, _, _, rfl, .ty _, .base (.int z), kit_ty (r := false) (by decide +kernel), _, rfl, _, rfl, iteT ?_⟩
    refine ⟨_, rfl, _, rfl, rfl, ?_⟩
    rw [decide_eq_true (rfl : V.int z = V.int z)]
    exact q


end
end Pf

namespace Pf
open PySem PySem.Spec PyProof.Rows L2
section
variable {P : Program} {w : World} {K : PySem.W.Frag} {mg : Str → Option Value} {base : Heap}
variable {c : Nat → Addr}
/-! ### lists of ints, of texts, as data -/
theorem lay_ints : ∀ ns : List Int, PyData.canLayAll0 (ns.map PyData.int) = true
  | [] => by simp [PyData.canLayAll0]
  | n :: ns => by simp [PyData.canLayAll0, PyData.canLay0, lay_ints ns]
theorem lay_strs : ∀ ws : List Str, (∀ x ∈ ws, PyData.strOk x = true) → PyData.canLayAll0 (ws.map PyData.str) = true
  | [], _ => by simp [PyData.canLayAll0]
  | n :: ns, h => by simp [PyData.canLayAll0, PyData.canLay0, lay_strs ns fun x hx => h x (List.mem_cons_of_mem _ hx), h n List.mem_cons_self]
theorem dep_ints : ∀ ns : List Int, PyData.depthAll (ns.map PyData.int) ≤ 1
  | [] => by simp [PyData.depthAll]
  | n :: ns => by
    have h := dep_ints ns
    simp only [List.map_cons, PyData.depthAll, PyData.depth]
    omega
theorem dep_strs : ∀ ws : List Str, PyData.depthAll (ws.map PyData.str) ≤ 1
  | [] => by simp [PyData.depthAll]
  | n :: ns => by
    have h := dep_strs ns
    simp only [List.map_cons, PyData.depthAll, PyData.depth]
    omega
theorem shaped_lst {ds : List PyData} (h : PyData.canLayAll0 ds = true) (d : PyData.depthAll ds ≤ 60) : SeqAt.shaped (.list ds) = true := by
  show (PyData.canLay0 (.list ds) && decide (PyData.depth (.list ds) ≤ 64)) = true
  rw [Bool.and_eq_true]
  refine ⟨by simp only [PyData.canLay0]; exact h, decide_eq_true ?_⟩
  simp only [PyData.depth]
  omega
theorem shaped_ints (ns : List Int) : SeqAt.shaped (.list (ns.map PyData.int)) = true := shaped_lst (lay_ints ns) (Nat.le_trans (dep_ints ns) (by decide))
theorem shaped_strs {ws : List Str} (h : ∀ x ∈ ws, PyData.strOk x = true) : SeqAt.shaped (.list (ws.map PyData.str)) = true := shaped_lst (lay_strs ws h) (Nat.le_trans (dep_strs ws) (by decide))
theorem eqv_self {d : PyData} (h : SeqAt.shaped d = true) : PyData.eqv d d = true := SeqAt.eqv_refl d (SeqAt.canLay_of_shaped h)
theorem dpa_ints {K : PySem.W.Frag} {H : Hp} : ∀ ns : List Int, DpAll K H (ns.map V.int) (ns.map PyData.int)
  | [] => .nil
  | n :: ns => .cons (.int n) (dpa_ints ns)
theorem dpa_strs {K : PySem.W.Frag} {H : Hp} : ∀ ws : List Str, DpAll K H (ws.map V.str) (ws.map PyData.str)
  | [] => .nil
  | n :: ns => .cons (.str n) (dpa_strs ns)

/-- the error classes that the law makes, in its order -/
def made17 : List Nat := [3, 4, 5, 6, 7, 8, 9, 10, 11, 12, 14, 15, 16, 18, 19, 20, 21]
def ErrV (H : Hp) (C : Addr) (v : V) : Prop := ∃ a, v = .ref a ∧ ErrO H C a
theorem ErrO.mono {H H' : Hp} {C a : Addr} (s : Same H H') (h : ErrO H C a) : ErrO H' C a := by
  rcases h with h | ⟨d, fs, h, hd⟩ | h
  · exact .inl (s _ _ h)
  · exact .inr (.inl ⟨d, fs, s _ _ h, s _ _ hd⟩)
  · exact .inr (.inr (s _ _ h))
def spRow (c : Nat → Addr) (lo n : Nat) : Sp := fun vs H Q _ => ∃ (v : V) (i m : Nat), vs = [v] ∧ made17[i]? = some m ∧ ErrV H (c m) v ∧ ∀ p H', H p = none → Same H H' → H' p = some (.lst ((List.range n).map fun j => V.bl (lo + j == i))) → Q (.ref p) H'
abbrev sp__law_inputs (K : PySem.W.Frag) (c : Nat → Addr) : Sp := spRow c 0 10
abbrev sp__law_others (K : PySem.W.Frag) (c : Nat → Addr) : Sp := spRow c 10 7
theorem made_up : ∀ {i m j n : Nat}, made17[i]? = some m → made17[j]? = some n → m ∈ errIds ∧ n ∈ errIds ∧ errUp m n = (j == i) := by
  have h : ∀ i < 17, ∀ j < 17, (made17[i]?.bind fun m => made17[j]?.map fun n => decide (m ∈ errIds ∧ n ∈ errIds ∧ errUp m n = (j == i))) = some true := by decide +kernel
  intro i m j n h1 h2
  have l1 := (List.getElem?_eq_some_iff.mp h1).1
  have l2 := (List.getElem?_eq_some_iff.mp h2).1
  have z := h i l1 j l2
  rw [h1, h2] at z
  exact of_decide_eq_true (Option.some.inj z)

theorem kit_err (T : Txt P K mg c) {i m : Nat} (hm : made17[i]? = some m) (j n : Nat) (hn : made17[j]? = some n) : PySem.W.kitOne K (.ref (c m)) (.ref (c n)) = some (j == i) := by
  obtain ⟨h1, h2, h3⟩ := made_up hm hn
  exact (T.isa m h1 n h2).trans (congrArg some h3)
theorem er_of (T : Txt P K mg c) {i m : Nat} (hm : made17[i]? = some m) : ErrC K (c m) := T.er m (made_up hm hm).1
theorem ok__law_inputs (T : Txt P K mg c) : Has P w K mg base 1 "_law_inputs" ["e"] (spRow c 0 10) := by
  obtain ⟨f, fd, F, m, b⟩ := T.d__law_inputs.ex
  refine ⟨f, fd, F.ok sc__law_inputs (fun vs H Q E h => ?_) (fun cdv A outer s H vs Q E hr h => ?_), m, F.kp, b⟩
  · obtain ⟨v, i, m, rfl, hm, ⟨a, rfl, he⟩, q⟩ := h
    rfl
  obtain ⟨v, i, m, rfl, hm, ⟨a, rfl, he⟩, q⟩ := h
  refine ⟨_, (pss_cons (ps_set (i := 1) sc__law_inputs.nd rfl (.inl rfl) (pe_lst (pa_cons (pe_callB call_isE (by rfl) T.z_isinstance (by decide +kernel) (pa_cons (pv 0) (pa_cons (pe_glob (v := .ref (c 3)) (by rfl) T.g_InvalidText rfl) pa_nil))) (pa_cons (pe_callB call_isE (by rfl) T.z_isinstance (by decide +kernel) (pa_cons (pv 0) (pa_cons (pe_glob (v := .ref (c 4)) (by rfl) T.g_InvalidProgram rfl) pa_nil))) (pa_cons (pe_callB call_isE (by rfl) T.z_isinstance (by decide +kernel) (pa_cons (pv 0) (pa_cons (pe_glob (v := .ref (c 5)) (by rfl) T.g_InvalidContract rfl) pa_nil))) pa_nil)))))
      (pss_cons (ps_set (i := 1) sc__law_inputs.nd rfl (.inl rfl) (pe_op op_cat (pv 1) (pe_lst (pa_cons (pe_callB call_isE (by rfl) T.z_isinstance (by decide +kernel) (pa_cons (pv 0) (pa_cons (pe_glob (v := .ref (c 6)) (by rfl) T.g_InvalidChange rfl) pa_nil))) (pa_cons (pe_callB call_isE (by rfl) T.z_isinstance (by decide +kernel) (pa_cons (pv 0) (pa_cons (pe_glob (v := .ref (c 7)) (by rfl) T.g_InvalidStream rfl) pa_nil))) (pa_cons (pe_callB call_isE (by rfl) T.z_isinstance (by decide +kernel) (pa_cons (pv 0) (pa_cons (pe_glob (v := .ref (c 8)) (by rfl) T.g_InvalidPlaces rfl) pa_nil))) pa_nil))))))
      (pss_one (ps_ret (pe_op op_cat (pv 1) (pe_lst (pa_cons (pe_callB call_isE (by rfl) T.z_isinstance (by decide +kernel) (pa_cons (pv 0) (pa_cons (pe_glob (v := .ref (c 9)) (by rfl) T.g_InvalidEdit rfl) pa_nil))) (pa_cons (pe_callB call_isE (by rfl) T.z_isinstance (by decide +kernel) (pa_cons (pv 0) (pa_cons (pe_glob (v := .ref (c 10)) (by rfl) T.g_InvalidLine rfl) pa_nil))) (pa_cons (pe_callB call_isE (by rfl) T.z_isinstance (by decide +kernel) (pa_cons (pv 0) (pa_cons (pe_glob (v := .ref (c 11)) (by rfl) T.g_InvalidName rfl) pa_nil))) (pa_cons (pe_callB call_isE (by rfl) T.z_isinstance (by decide +kernel) (pa_cons (pv 0) (pa_cons (pe_glob (v := .ref (c 12)) (by rfl) T.g_Mismatch rfl) pa_nil))) pa_nil)))))))))), ?_⟩
  have s0 := Same.refl H
  have k := kit_err T hm
  have em := er_of T hm
  refine ⟨_, rfl, a, c m, _, _, _, rfl, .own _, em, he.mono s0, k 0 3 rfl, ⟨_, rfl, a, c m, _, _, _, rfl, .own _, em, he.mono s0, k 1 4 rfl, ⟨_, rfl, a, c m, _, _, _, rfl, .own _, em, he.mono s0, k 2 5 rfl, ⟨by show 3 ≤ sizeLine; decide, fun p1 n1 => ?_⟩⟩⟩⟩
  have s1 : Same H (upd H p1 (.lst [.bl (0 == i), .bl (1 == i), .bl (2 == i)])) := same_new n1
  refine ⟨_, rfl, _, rfl, a, c m, _, _, _, rfl, .own _, em, he.mono s1, k 3 6 rfl, ⟨_, rfl, a, c m, _, _, _, rfl, .own _, em, he.mono s1, k 4 7 rfl, ⟨_, rfl, a, c m, _, _, _, rfl, .own _, em, he.mono s1, k 5 8 rfl, ⟨by show 3 ≤ sizeLine; decide, fun p2 n2 => ?_⟩⟩⟩⟩
  refine ⟨p1, p2, _, _, rfl, rfl, same_new n2 _ _ upd_same, upd_same, by show 6 ≤ sizeLine; decide, fun p3 n3 => ?_⟩
  have s3 := (s1.trans (same_new (o := .lst [.bl (3 == i), .bl (4 == i), .bl (5 == i)]) n2)).trans (same_new (o := .lst ([.bl (0 == i), .bl (1 == i), .bl (2 == i)] ++ [.bl (3 == i), .bl (4 == i), .bl (5 == i)])) n3)
  refine ⟨_, rfl, _, rfl, a, c m, _, _, _, rfl, .own _, em, he.mono s3, k 6 9 rfl, ⟨_, rfl, a, c m, _, _, _, rfl, .own _, em, he.mono s3, k 7 10 rfl, ⟨_, rfl, a, c m, _, _, _, rfl, .own _, em, he.mono s3, k 8 11 rfl, ⟨_, rfl, a, c m, _, _, _, rfl, .own _, em, he.mono s3, k 9 12 rfl, ⟨by show 4 ≤ sizeLine; decide, fun p4 n4 => ?_⟩⟩⟩⟩⟩
  refine ⟨p3, p4, _, _, rfl, rfl, same_new n4 _ _ upd_same, upd_same, by show 10 ≤ sizeLine; decide, fun p5 n5 => ?_⟩
  refine q p5 _ (same_back (s3.trans (same_new n4)) n5) ((s3.trans (same_new n4)).trans (same_new n5)) ?_
  rw [upd_same]
  rfl
theorem ok__law_others (T : Txt P K mg c) : Has P w K mg base 1 "_law_others" ["e"] (spRow c 10 7) := by
  obtain ⟨f, fd, F, m, b⟩ := T.d__law_others.ex
  refine ⟨f, fd, F.ok sc__law_others (fun vs H Q E h => ?_) (fun cdv A outer s H vs Q E hr h => ?_), m, F.kp, b⟩
  · obtain ⟨v, i, m, rfl, hm, ⟨a, rfl, he⟩, q⟩ := h
    rfl
  obtain ⟨v, i, m, rfl, hm, ⟨a, rfl, he⟩, q⟩ := h
  refine ⟨_, (pss_cons (ps_set (i := 1) sc__law_others.nd rfl (.inl rfl) (pe_lst (pa_cons (pe_callB call_isE (by rfl) T.z_isinstance (by decide +kernel) (pa_cons (pv 0) (pa_cons (pe_glob (v := .ref (c 14)) (by rfl) T.g_TooLarge rfl) pa_nil))) (pa_cons (pe_callB call_isE (by rfl) T.z_isinstance (by decide +kernel) (pa_cons (pv 0) (pa_cons (pe_glob (v := .ref (c 15)) (by rfl) T.g_TooLong rfl) pa_nil))) (pa_cons (pe_callB call_isE (by rfl) T.z_isinstance (by decide +kernel) (pa_cons (pv 0) (pa_cons (pe_glob (v := .ref (c 16)) (by rfl) T.g_TooManyCases rfl) pa_nil))) pa_nil)))))
      (pss_cons (ps_set (i := 1) sc__law_others.nd rfl (.inl rfl) (pe_op op_cat (pv 1) (pe_lst (pa_cons (pe_callB call_isE (by rfl) T.z_isinstance (by decide +kernel) (pa_cons (pv 0) (pa_cons (pe_glob (v := .ref (c 18)) (by rfl) T.g_NameTaken rfl) pa_nil))) (pa_cons (pe_callB call_isE (by rfl) T.z_isinstance (by decide +kernel) (pa_cons (pv 0) (pa_cons (pe_glob (v := .ref (c 19)) (by rfl) T.g_UnknownName rfl) pa_nil))) pa_nil)))))
      (pss_one (ps_ret (pe_op op_cat (pv 1) (pe_lst (pa_cons (pe_callB call_isE (by rfl) T.z_isinstance (by decide +kernel) (pa_cons (pv 0) (pa_cons (pe_glob (v := .ref (c 20)) (by rfl) T.g_NothingToUndo rfl) pa_nil))) (pa_cons (pe_callB call_isE (by rfl) T.z_isinstance (by decide +kernel) (pa_cons (pv 0) (pa_cons (pe_glob (v := .ref (c 21)) (by rfl) T.g_NothingToRedo rfl) pa_nil))) pa_nil)))))))), ?_⟩
  have s0 := Same.refl H
  have k := kit_err T hm
  have em := er_of T hm
  refine ⟨_, rfl, a, c m, _, _, _, rfl, .own _, em, he.mono s0, k 10 14 rfl, ⟨_, rfl, a, c m, _, _, _, rfl, .own _, em, he.mono s0, k 11 15 rfl, ⟨_, rfl, a, c m, _, _, _, rfl, .own _, em, he.mono s0, k 12 16 rfl, ⟨by show 3 ≤ sizeLine; decide, fun p1 n1 => ?_⟩⟩⟩⟩
  have s1 : Same H (upd H p1 (.lst [.bl (10 == i), .bl (11 == i), .bl (12 == i)])) := same_new n1
  refine ⟨_, rfl, _, rfl, a, c m, _, _, _, rfl, .own _, em, he.mono s1, k 13 18 rfl, ⟨_, rfl, a, c m, _, _, _, rfl, .own _, em, he.mono s1, k 14 19 rfl, ⟨by show 2 ≤ sizeLine; decide, fun p2 n2 => ?_⟩⟩⟩
  refine ⟨p1, p2, _, _, rfl, rfl, same_new n2 _ _ upd_same, upd_same, by show 5 ≤ sizeLine; decide, fun p3 n3 => ?_⟩
  have s3 := (s1.trans (same_new (o := .lst [.bl (13 == i), .bl (14 == i)]) n2)).trans (same_new (o := .lst ([.bl (10 == i), .bl (11 == i), .bl (12 == i)] ++ [.bl (13 == i), .bl (14 == i)])) n3)
  refine ⟨_, rfl, _, rfl, a, c m, _, _, _, rfl, .own _, em, he.mono s3, k 15 20 rfl, ⟨_, rfl, a, c m, _, _, _, rfl, .own _, em, he.mono s3, k 16 21 rfl, ⟨by show 2 ≤ sizeLine; decide, fun p4 n4 => ?_⟩⟩⟩
  refine ⟨p3, p4, _, _, rfl, rfl, same_new n4 _ _ upd_same, upd_same, by show 7 ≤ sizeLine; decide, fun p5 n5 => ?_⟩
  refine q p5 _ (same_back (s3.trans (same_new n4)) n5) ((s3.trans (same_new n4)).trans (same_new n5)) ?_
  rw [upd_same]
  rfl


end
end Pf

namespace Pf
open PySem PySem.Spec PyProof.Rows L2
section
variable {P : Program} {w : World} {K : PySem.W.Frag} {mg : Str → Option Value} {base : Heap}
variable {c : Nat → Addr}
theorem lay_bools : ∀ bs : List Bool, PyData.canLayAll0 (bs.map PyData.bool) = true
  | [] => by simp [PyData.canLayAll0]
  | b :: bs => by simp [PyData.canLayAll0, PyData.canLay0, lay_bools bs]
theorem dep_bools : ∀ bs : List Bool, PyData.depthAll (bs.map PyData.bool) ≤ 1
  | [] => by simp [PyData.depthAll]
  | b :: bs => by
    have h := dep_bools bs
    simp only [List.map_cons, PyData.depthAll, PyData.depth]
    omega
theorem shaped_bools (bs : List Bool) : SeqAt.shaped (.list (bs.map PyData.bool)) = true := shaped_lst (lay_bools bs) (Nat.le_trans (dep_bools bs) (by decide))
theorem dpa_bools {K : PySem.W.Frag} {H : Hp} : ∀ bs : List Bool, DpAll K H (bs.map V.bl) (bs.map PyData.bool)
  | [] => .nil
  | b :: bs => .cons (.bl b) (dpa_bools bs)
theorem base_up : ∀ {i m : Nat}, made17[i]? = some m → m ∈ errIds ∧ errUp m 1 = true ∧ errUp m 2 = decide ((i : Int) < 10) ∧ errUp m 13 = (decide ((9 : Int) < i) && decide ((i : Int) < 13)) ∧ errUp m 17 = decide ((12 : Int) < i) := by
  have h : ∀ i : Nat, i < 17 → (made17[i]?.map fun m => decide (m ∈ errIds ∧ errUp m 1 = true ∧ errUp m 2 = decide ((i : Int) < 10) ∧ errUp m 13 = (decide ((9 : Int) < i) && decide ((i : Int) < 13)) ∧ errUp m 17 = decide ((12 : Int) < i))) = some true := by decide +kernel
  intro i m h1
  have z := h i (List.getElem?_eq_some_iff.mp h1).1
  rw [h1] at z
  exact of_decide_eq_true (Option.some.inj z)
theorem bl_at (j i : Nat) : decide (V.int (0 + (j : Int)) = V.int (i : Int)) = (j == i) := by
  rw [Bool.eq_iff_iff]
  constructor
  · intro h
    have e := V.int.inj (of_decide_eq_true h)
    exact beq_iff_eq.mpr (by omega)
  · intro h
    have e := beq_iff_eq.mp h
    subst e
    exact decide_eq_true (congrArg V.int (Int.zero_add _))
def sp__law_is (K : PySem.W.Frag) (c : Nat → Addr) : Sp := fun vs H Q _ => ∃ (v : V) (i m : Nat), vs = [v, .int (i : Int)] ∧ made17[i]? = some m ∧ ErrV H (c m) v ∧ ∀ H', Same H H' → Q (.bl true) H'
theorem ok__law_is (T : Txt P K mg c) : Has P w K mg base 2 "_law_is" ["e", "number"] (sp__law_is K c) := by
  obtain ⟨f, fd, F, m, b⟩ := T.d__law_is.ex
  obtain ⟨f__law_inputs, fd__law_inputs, G__law_inputs, m__law_inputs, k__law_inputs, b__law_inputs⟩ := ok__law_inputs (P := P) (w := w) (base := base) T
  obtain ⟨f__law_others, fd__law_others, G__law_others, m__law_others, k__law_others, b__law_others⟩ := ok__law_others (P := P) (w := w) (base := base) T
  refine ⟨f, fd, F.ok sc__law_is (fun vs H Q E h => ?_) (fun cdv A outer s H vs Q E hr h => ?_), m, F.kp, b⟩
  · obtain ⟨v, i, m, rfl, hm, ⟨a, rfl, he⟩, q⟩ := h
    rfl
  obtain ⟨v, i, m, rfl, hm, ⟨a, rfl, he⟩, q⟩ := h
  refine ⟨_, (pss_cons (ps_if (PW.pt (pw_or (pt_not (pt_val (pe_callB call_isE (by rfl) T.z_isinstance (by decide +kernel) (pa_cons (pv 0) (pa_cons (pe_glob (v := .ref (c 1)) (by rfl) T.g_MendError rfl) pa_nil))))) (pw_or1 (pt_not (pt_val (pe_callB call_isE (by rfl) T.z_isinstance (by decide +kernel) (pa_cons (pv 0) (pa_cons (pe_bltn (v := .ty "ValueError") (by rfl) T.z_ValueError (by decide +kernel) rfl) pa_nil))))))))
      (pss_one (ps_ret pe_bl))
      pss_nil)
      (pss_cons (ps_set (i := 2) sc__law_is.nd rfl (.inl rfl) (pe_lst (pa_cons (pe_callB call_isE (by rfl) T.z_isinstance (by decide +kernel) (pa_cons (pv 0) (pa_cons (pe_glob (v := .ref (c 2)) (by rfl) T.g_InvalidInput rfl) pa_nil))) (pa_cons (pe_callB call_isE (by rfl) T.z_isinstance (by decide +kernel) (pa_cons (pv 0) (pa_cons (pe_glob (v := .ref (c 13)) (by rfl) T.g_BoundError rfl) pa_nil))) (pa_cons (pe_callB call_isE (by rfl) T.z_isinstance (by decide +kernel) (pa_cons (pv 0) (pa_cons (pe_glob (v := .ref (c 17)) (by rfl) T.g_DeskError rfl) pa_nil))) pa_nil)))))
      (pss_cons (ps_if (pt_cmpR (op_neD hr.units) (pv 2) (pe_lst (pa_cons (pe_cmpR op_lt (pv 1) pe_int (nomark _)) (pa_cons (pe_and (pe_cmpR op_lt pe_int (pv 1) (nomark _)) (pe_one (pe_cmpR op_lt (pv 1) pe_int (nomark _)))) (pa_cons (pe_cmpR op_lt pe_int (pv 1) (nomark _)) pa_nil)))) (nomark _))
      (pss_one (ps_ret pe_bl))
      pss_nil)
      (pss_one (ps_ret (pe_cmpR (op_eqD hr.units) (pe_op op_cat (pe_call G__law_inputs (hr.mono (by decide)) (by rfl) m__law_inputs k__law_inputs b__law_inputs .nil pass0 (pa_cons (pv 0) pa_nil)) (pe_call G__law_others (hr.mono (by decide)) (by rfl) m__law_others k__law_others b__law_others .nil pass0 (pa_cons (pv 0) pa_nil))) (pe_lc (own := [("k", 3)]) (g := gName 3) (by rfl) sc__law_is.nd (pi_range1 (by rfl) T.z_range (pa_cons pe_int pa_nil)) (blkOk_by (own := [("k", 3)]) (N := ["e", "number", "above", "k"]) (sc := defScope s__law_is) (by decide +kernel)) (fun _ _ _ _ _ => pg_name (i := 3) sc__law_is.nd rfl (Or.inl rfl)) (fun _ _ _ _ _ => pts_nil) (fun _ _ _ _ _ => (pe_cmpR op_eq (pv 3) (pv 1) (nomark _)))) (nomark _))))))), ?_⟩
  obtain ⟨hid, u1, u2, u13, u17⟩ := base_up hm
  have em := T.er m hid
  have b1 := T.isa m hid 1 (by decide)
  have b2 := T.isa m hid 2 (by decide)
  have b13 := T.isa m hid 13 (by decide)
  have b17 := T.isa m hid 17 (by decide)
  rw [u1] at b1
  rw [u2] at b2
  rw [u13] at b13
  rw [u17] at b17
  refine ⟨_, rfl, a, c m, _, _, _, rfl, .own _, em, he, b1, _, rfl, iteF ?_⟩
  refine ⟨_, rfl, a, c m, _, _, _, rfl, .ty _, em, he, T.ve m hid, _, rfl, iteF ?_⟩
  -- above
  refine ⟨_, rfl, a, c m, _, _, _, rfl, .own _, em, he, b2, _, rfl, a, c m, _, _, _, rfl, .own _, em, he, b13, _, rfl, a, c m, _, _, _, rfl, .own _, em, he, b17, by show 3 ≤ sizeLine; decide, fun p1 n1 => ?_⟩
  have s1 := same_new (o := .lst [.bl (decide ((i : Int) < 10)), .bl (decide ((9 : Int) < i) && decide ((i : Int) < 13)), .bl (decide ((12 : Int) < i))]) n1
  have hA : SqL K (upd H p1 (.lst [.bl (decide ((i : Int) < 10)), .bl (decide ((9 : Int) < i) && decide ((i : Int) < 13)), .bl (decide ((12 : Int) < i))])) p1 ([decide ((i : Int) < 10), (decide ((9 : Int) < i) && decide ((i : Int) < 13)), decide ((12 : Int) < i)].map V.bl) := SqL.of upd_same
  generalize upd H p1 (.lst [.bl (decide ((i : Int) < 10)), .bl (decide ((9 : Int) < i) && decide ((i : Int) < 13)), .bl (decide ((12 : Int) < i))]) = H1 at s1 hA ⊢
  have e17 : (List.range 10).map (fun j => V.bl (0 + j == i)) ++ (List.range 7).map (fun j => V.bl (10 + j == i)) = ((List.range 17).map fun j => (j == i)).map V.bl := by
    have z : ∀ j : Nat, 0 + j = j := Nat.zero_add
    simp [List.range, List.range.loop]
  refine ⟨_, rfl, _, rfl, _, _, rfl, rfl, _, rfl, _, _, rfl, rfl, _, rfl, ite2 (fun e => ?_) (fun e => ?_)⟩
  case' refine_1 =>
    have e2 : (decide ((9 : Int) < i) && decide ((i : Int) < 13)) = decide ((i : Int) < 13) := by rw [e]; rfl
    rw [e2] at hA
    refine ⟨_, rfl, _, _, rfl, rfl, _, rfl, _, _, rfl, rfl, by show 3 ≤ sizeLine; decide, fun p2 n2 => ?_⟩
    refine ⟨_, _, .lst ((same_new n2).seq hA) (dpa_bools _), .lst (SqL.of upd_same) (dpa_bools [decide ((i : Int) < 10), decide ((i : Int) < 13), decide ((12 : Int) < i)]), shaped_bools _, shaped_bools _, _, rfl, ?_⟩
    rw [eqv_self (shaped_bools _)]
    refine iteF ?_
  case' refine_2 =>
    have e2 : (decide ((9 : Int) < i) && decide ((i : Int) < 13)) = false := by rw [Bool.eq_false_iff.mpr e]; rfl
    rw [e2] at hA
    refine ⟨_, rfl, _, _, rfl, rfl, by show 3 ≤ sizeLine; decide, fun p2 n2 => ?_⟩
    refine ⟨_, _, .lst ((same_new n2).seq hA) (dpa_bools _), .lst (SqL.of upd_same) (dpa_bools [decide ((i : Int) < 10), false, decide ((12 : Int) < i)]), shaped_bools _, shaped_bools _, _, rfl, ?_⟩
    rw [eqv_self (shaped_bools _)]
    refine iteF ?_
  all_goals
    refine ⟨_, rfl, .ref a, i, m, rfl, hm, ⟨a, rfl, he.mono (s1.trans (same_new n2))⟩, fun p3 H3 n3 s3 h3 => ?_⟩
    have s13 : Same H H3 := (s1.trans (same_new n2)).trans s3
    refine ⟨_, rfl, .ref a, i, m, rfl, hm, ⟨a, rfl, he.mono s13⟩, fun p4 H4 n4 s4 h4 => ?_⟩
    refine ⟨p3, p4, _, _, rfl, rfl, s4 _ _ h3, h4, by show 17 ≤ sizeLine; decide, fun p5 n5 => ?_⟩
    rw [e17]
    have s5 : Same H (upd H4 p5 (.lst (((List.range 17).map fun j => (j == i)).map V.bl))) := (s13.trans s4).trans (same_new n5)
    have h5 : SqL K (upd H4 p5 (.lst (((List.range 17).map fun j => (j == i)).map V.bl))) p5 (((List.range 17).map fun j => (j == i)).map V.bl) := SqL.of upd_same
    generalize upd H4 p5 (.lst (((List.range 17).map fun j => (j == i)).map V.bl)) = H5 at s5 h5 ⊢
    refine ⟨17, rfl, by decide, by decide, fun D nD => ?_⟩
    refine lc_range (lo := 0) (n := 17) (fun j H' => Same H5 H' ∧ H' D = some (.lst (((List.range j).map fun j => (j == i)).map V.bl))) ⟨same_new nD, upd_same⟩ (fun j H' hj h => ?_) (fun H' h => ?_)
    · obtain ⟨s6, hD⟩ := h
      refine ⟨rfl, _, rfl, _, rfl, rfl, _, hD, ?_, same_mut s6 nD, ?_⟩
      · rw [List.length_map, List.length_map, List.length_range]
        exact small1000 (by omega)
      · rw [upd_same, List.range_succ, List.map_append, List.map_append, bl_at]
        rfl
    · obtain ⟨s6, hD⟩ := h
      refine ⟨_, _, .lst (s6.seq h5) (dpa_bools _), .lst (SqL.of hD) (dpa_bools _), shaped_bools _, shaped_bools _, ?_⟩
      rw [eqv_self (shaped_bools _)]
      exact q H' (s5.trans s6)


end
end Pf

namespace Pf
open PySem PySem.Spec PyProof.Rows L2
section
variable {P : Program} {w : World} {K : PySem.W.Frag} {mg : Str → Option Value} {base : Heap}
variable {c : Nat → Addr}
def sp__law_attributes (K : PySem.W.Frag) : Sp := fun vs H Q _ => ∃ (i : Int) (z : Str), vs = [.int i, .str z] ∧ i.natAbs < 2 ^ 64 ∧ z.length ≤ 100000 ∧ ∀ H', Same H H' → Q (.bl true) H'
theorem all_tr (n : Nat) : (List.replicate n true).all id = true := by
  induction n with
  | zero => rfl
  | succ n ih => rw [List.replicate_succ, List.all_cons, ih]; rfl
theorem ok__law_attributes (T : Txt P K mg c) : Has P w K mg base 3 "_law_attributes" ["number", "word"] (sp__law_attributes K) := by
  obtain ⟨f, fd, F, m, b⟩ := T.d__law_attributes.ex
  obtain ⟨f_InvalidEdit, fd_InvalidEdit, G_InvalidEdit, i_InvalidEdit, t_InvalidEdit, b_InvalidEdit⟩ := mk_InvalidEdit (P := P) (w := w) (base := base) T
  obtain ⟨f_InvalidPlaces, fd_InvalidPlaces, G_InvalidPlaces, i_InvalidPlaces, t_InvalidPlaces, b_InvalidPlaces⟩ := mk_InvalidPlaces (P := P) (w := w) (base := base) T
  obtain ⟨f_InvalidText, fd_InvalidText, G_InvalidText, i_InvalidText, t_InvalidText, b_InvalidText⟩ := mk_InvalidText (P := P) (w := w) (base := base) T
  obtain ⟨f_TooManyCases, fd_TooManyCases, G_TooManyCases, i_TooManyCases, t_TooManyCases, b_TooManyCases⟩ := mk_TooManyCases (P := P) (w := w) (base := base) T
  obtain ⟨f_InvalidLine, fd_InvalidLine, G_InvalidLine, i_InvalidLine, t_InvalidLine, b_InvalidLine⟩ := mk_InvalidLine (P := P) (w := w) (base := base) T
  obtain ⟨f_TooLarge, fd_TooLarge, G_TooLarge, i_TooLarge, t_TooLarge, b_TooLarge⟩ := mk_TooLarge (P := P) (w := w) (base := base) T
  obtain ⟨f_InvalidName, fd_InvalidName, G_InvalidName, i_InvalidName, t_InvalidName, b_InvalidName⟩ := mk_InvalidName (P := P) (w := w) (base := base) T
  obtain ⟨f_InvalidContract, fd_InvalidContract, G_InvalidContract, i_InvalidContract, t_InvalidContract, b_InvalidContract⟩ := mk_InvalidContract (P := P) (w := w) (base := base) T
  obtain ⟨f_InvalidProgram, fd_InvalidProgram, G_InvalidProgram, i_InvalidProgram, t_InvalidProgram, b_InvalidProgram⟩ := mk_InvalidProgram (P := P) (w := w) (base := base) T
  obtain ⟨f_UnknownName, fd_UnknownName, G_UnknownName, i_UnknownName, t_UnknownName, b_UnknownName⟩ := mk_UnknownName (P := P) (w := w) (base := base) T
  obtain ⟨f_NameTaken, fd_NameTaken, G_NameTaken, i_NameTaken, t_NameTaken, b_NameTaken⟩ := mk_NameTaken (P := P) (w := w) (base := base) T
  obtain ⟨f_TooLong, fd_TooLong, G_TooLong, i_TooLong, t_TooLong, b_TooLong⟩ := mk_TooLong (P := P) (w := w) (base := base) T
  obtain ⟨f__law_same, fd__law_same, G__law_same, m__law_same, k__law_same, b__law_same⟩ := ok__law_same (P := P) (w := w) (base := base) T
  refine ⟨f, fd, F.ok sc__law_attributes (fun vs H Q E h => ?_) (fun cdv A outer s H vs Q E hr h => ?_), m, F.kp, b⟩
  · obtain ⟨i, z, rfl, hi, hz, q⟩ := h
    rfl
  obtain ⟨i, z, rfl, hi, hz, q⟩ := h
  refine ⟨_, (pss_cons (ps_set (i := 2) sc__law_attributes.nd rfl (.inl rfl) (pe_lst (pa_cons (pe_ef (pe_oex T.o_InvalidText i_InvalidText t_InvalidText G_InvalidText (hr.mono (by decide)) b_InvalidText (by rfl) T.g_InvalidText (pv 0))) (pa_cons (pe_ef (pe_oex T.o_InvalidPlaces i_InvalidPlaces t_InvalidPlaces G_InvalidPlaces (hr.mono (by decide)) b_InvalidPlaces (by rfl) T.g_InvalidPlaces (pv 0))) (pa_cons (pe_ef (pe_oex T.o_InvalidEdit i_InvalidEdit t_InvalidEdit G_InvalidEdit (hr.mono (by decide)) b_InvalidEdit (by rfl) T.g_InvalidEdit (pv 0))) pa_nil)))))
      (pss_cons (ps_set (i := 2) sc__law_attributes.nd rfl (.inl rfl) (pe_op op_cat (pv 2) (pe_lst (pa_cons (pe_ef (pe_oex T.o_InvalidLine i_InvalidLine t_InvalidLine G_InvalidLine (hr.mono (by decide)) b_InvalidLine (by rfl) T.g_InvalidLine (pv 0))) (pa_cons (pe_ef (pe_oex T.o_TooManyCases i_TooManyCases t_TooManyCases G_TooManyCases (hr.mono (by decide)) b_TooManyCases (by rfl) T.g_TooManyCases (pv 0))) pa_nil)))))
      (pss_cons (ps_set (i := 3) sc__law_attributes.nd rfl (.inl rfl) (pe_lst (pa_cons (pe_ef (pe_oex T.o_InvalidProgram i_InvalidProgram t_InvalidProgram G_InvalidProgram (hr.mono (by decide)) b_InvalidProgram (by rfl) T.g_InvalidProgram (pv 1))) (pa_cons (pe_ef (pe_oex T.o_InvalidContract i_InvalidContract t_InvalidContract G_InvalidContract (hr.mono (by decide)) b_InvalidContract (by rfl) T.g_InvalidContract (pv 1))) (pa_cons (pe_ef (pe_oex T.o_InvalidName i_InvalidName t_InvalidName G_InvalidName (hr.mono (by decide)) b_InvalidName (by rfl) T.g_InvalidName (pv 1))) (pa_cons (pe_ef (pe_oex T.o_TooLarge i_TooLarge t_TooLarge G_TooLarge (hr.mono (by decide)) b_TooLarge (by rfl) T.g_TooLarge (pv 1))) pa_nil))))))
      (pss_cons (ps_set (i := 3) sc__law_attributes.nd rfl (.inl rfl) (pe_op op_cat (pv 3) (pe_lst (pa_cons (pe_ef (pe_oex T.o_TooLong i_TooLong t_TooLong G_TooLong (hr.mono (by decide)) b_TooLong (by rfl) T.g_TooLong (pv 1))) (pa_cons (pe_ef (pe_oex T.o_NameTaken i_NameTaken t_NameTaken G_NameTaken (hr.mono (by decide)) b_NameTaken (by rfl) T.g_NameTaken (pv 1))) (pa_cons (pe_ef (pe_oex T.o_UnknownName i_UnknownName t_UnknownName G_UnknownName (hr.mono (by decide)) b_UnknownName (by rfl) T.g_UnknownName (pv 1))) pa_nil))))))
      (pss_cons (ps_if (pt_not (pt_val (pe_callB (cr_all rfl) (by rfl) T.z_all (by decide +kernel) (pa_cons (pe_lc (own := [("told", 4)]) (g := gName 4) (by rfl) sc__law_attributes.nd (pi_list (pv 2)) (blkOk_by (own := [("told", 4)]) (N := ["number", "word", "numbers", "words", "told"]) (sc := defScope s__law_attributes) (by decide +kernel)) (fun _ _ _ _ _ => pg_name (i := 4) sc__law_attributes.nd rfl (Or.inl rfl)) (fun _ _ _ _ _ => pts_nil) (fun _ _ _ _ _ => (pe_call G__law_same (hr.mono (by decide)) (by rfl) m__law_same k__law_same b__law_same .nil pass0 (pa_cons (pv 4) (pa_cons (pv 0) pa_nil))))) pa_nil))))
      (pss_one (ps_ret pe_bl))
      pss_nil)
      (pss_one (ps_ret (pe_callB (cr_all rfl) (by rfl) T.z_all (by decide +kernel) (pa_cons (pe_lc (own := [("told", 4)]) (g := gName 4) (by rfl) sc__law_attributes.nd (pi_list (pv 3)) (blkOk_by (own := [("told", 4)]) (N := ["number", "word", "numbers", "words", "told"]) (sc := defScope s__law_attributes) (by decide +kernel)) (fun _ _ _ _ _ => pg_name (i := 4) sc__law_attributes.nd rfl (Or.inl rfl)) (fun _ _ _ _ _ => pts_nil) (fun _ _ _ _ _ => (pe_call G__law_same (hr.mono (by decide)) (by rfl) m__law_same k__law_same b__law_same .nil pass0 (pa_cons (pv 4) (pa_cons (pv 1) pa_nil))))) pa_nil))))))))), ?_⟩
  have fi : Fmt (.int i) := .inr ⟨i, rfl, hi⟩
  have fz : Fmt (.str z) := .inl ⟨z, rfl, hz⟩
  refine ⟨_, rfl, (by show 1 ≤ 1000; decide), fun a1 n1 => ⟨a1, _, rfl, fi, upd_same, fun d1 H1 k1 ha1 hd1 _ => ⟨rfl, a1, c 3, d1, _, _, rfl, T.er 3 (by decide), T.f_InvalidText, ha1, hd1, rfl, ?_⟩⟩⟩
  have s1 : Same H H1 := (same_made n1 k1)
  refine ⟨_, rfl, (by show 1 ≤ 1000; decide), fun a2 n2 => ⟨a2, _, rfl, fi, upd_same, fun d2 H2 k2 ha2 hd2 _ => ⟨rfl, a2, c 8, d2, _, _, rfl, T.er 8 (by decide), T.f_InvalidPlaces, ha2, hd2, rfl, ?_⟩⟩⟩
  have s2 : Same H H2 := s1.trans (same_made n2 k2)
  refine ⟨_, rfl, (by show 1 ≤ 1000; decide), fun a3 n3 => ⟨a3, _, rfl, fi, upd_same, fun d3 H3 k3 ha3 hd3 _ => ⟨rfl, a3, c 9, d3, _, _, rfl, T.er 9 (by decide), T.f_InvalidEdit, ha3, hd3, rfl, ?_⟩⟩⟩
  have s3 : Same H H3 := s2.trans (same_made n3 k3)
  refine ⟨by show 3 ≤ sizeLine; decide, fun p1 x1 => ?_⟩
  have t1 : Same H (upd H3 p1 (.lst [.int i, .int i, .int i])) := s3.trans (same_new x1)
  have y1 : upd H3 p1 (.lst [.int i, .int i, .int i]) p1 = some (.lst [.int i, .int i, .int i]) := upd_same
  generalize upd H3 p1 (.lst [.int i, .int i, .int i]) = G1 at t1 y1 ⊢
  refine ⟨_, rfl, ?_⟩
  refine ⟨_, rfl, (by show 1 ≤ 1000; decide), fun a4 n4 => ⟨a4, _, rfl, fi, upd_same, fun d4 H4 k4 ha4 hd4 _ => ⟨rfl, a4, c 10, d4, _, _, rfl, T.er 10 (by decide), T.f_InvalidLine, ha4, hd4, rfl, ?_⟩⟩⟩
  have s4 : Same G1 H4 := (same_made n4 k4)
  refine ⟨_, rfl, (by show 1 ≤ 1000; decide), fun a5 n5 => ⟨a5, _, rfl, fi, upd_same, fun d5 H5 k5 ha5 hd5 _ => ⟨rfl, a5, c 16, d5, _, _, rfl, T.er 16 (by decide), T.f_TooManyCases, ha5, hd5, rfl, ?_⟩⟩⟩
  have s5 : Same G1 H5 := s4.trans (same_made n5 k5)
  refine ⟨by show 2 ≤ sizeLine; decide, fun p2 x2 => ?_⟩
  refine ⟨p1, p2, _, _, rfl, rfl, same_new x2 _ _ (s5 _ _ y1), upd_same, by show 5 ≤ sizeLine; decide, fun p3 x3 => ?_⟩
  have t2 : Same G1 (upd (upd H5 p2 (.lst [.int i, .int i])) p3 (.lst ([.int i, .int i, .int i] ++ [.int i, .int i]))) := (s5.trans (same_new x2)).trans (same_new x3)
  have y2 : upd (upd H5 p2 (.lst [.int i, .int i])) p3 (.lst ([.int i, .int i, .int i] ++ [.int i, .int i])) p3 = some (.lst ((List.replicate 5 i).map V.int)) := upd_same
  generalize upd (upd H5 p2 (.lst [.int i, .int i])) p3 (.lst ([.int i, .int i, .int i] ++ [.int i, .int i])) = G2 at t2 y2 ⊢
  refine ⟨_, rfl, (by show 1 ≤ 1000; decide), fun a6 n6 => ⟨a6, _, rfl, fz, upd_same, fun d6 H6 k6 ha6 hd6 _ => ⟨rfl, a6, c 4, d6, _, _, rfl, T.er 4 (by decide), T.f_InvalidProgram, ha6, hd6, rfl, ?_⟩⟩⟩
  have s6 : Same G2 H6 := (same_made n6 k6)
  refine ⟨_, rfl, (by show 1 ≤ 1000; decide), fun a7 n7 => ⟨a7, _, rfl, fz, upd_same, fun d7 H7 k7 ha7 hd7 _ => ⟨rfl, a7, c 5, d7, _, _, rfl, T.er 5 (by decide), T.f_InvalidContract, ha7, hd7, rfl, ?_⟩⟩⟩
  have s7 : Same G2 H7 := s6.trans (same_made n7 k7)
  refine ⟨_, rfl, (by show 1 ≤ 1000; decide), fun a8 n8 => ⟨a8, _, rfl, fz, upd_same, fun d8 H8 k8 ha8 hd8 _ => ⟨rfl, a8, c 11, d8, _, _, rfl, T.er 11 (by decide), T.f_InvalidName, ha8, hd8, rfl, ?_⟩⟩⟩
  have s8 : Same G2 H8 := s7.trans (same_made n8 k8)
  refine ⟨_, rfl, (by show 1 ≤ 1000; decide), fun a9 n9 => ⟨a9, _, rfl, fz, upd_same, fun d9 H9 k9 ha9 hd9 _ => ⟨rfl, a9, c 14, d9, _, _, rfl, T.er 14 (by decide), T.f_TooLarge, ha9, hd9, rfl, ?_⟩⟩⟩
  have s9 : Same G2 H9 := s8.trans (same_made n9 k9)
  refine ⟨by show 4 ≤ sizeLine; decide, fun p4 x4 => ?_⟩
  have t3 : Same G2 (upd H9 p4 (.lst [.str z, .str z, .str z, .str z])) := s9.trans (same_new x4)
  have y3 : upd H9 p4 (.lst [.str z, .str z, .str z, .str z]) p4 = some (.lst [.str z, .str z, .str z, .str z]) := upd_same
  generalize upd H9 p4 (.lst [.str z, .str z, .str z, .str z]) = G3 at t3 y3 ⊢
  refine ⟨_, rfl, ?_⟩
  refine ⟨_, rfl, (by show 1 ≤ 1000; decide), fun a10 n10 => ⟨a10, _, rfl, fz, upd_same, fun d10 H10 k10 ha10 hd10 _ => ⟨rfl, a10, c 15, d10, _, _, rfl, T.er 15 (by decide), T.f_TooLong, ha10, hd10, rfl, ?_⟩⟩⟩
  have s10 : Same G3 H10 := (same_made n10 k10)
  refine ⟨_, rfl, (by show 1 ≤ 1000; decide), fun a11 n11 => ⟨a11, _, rfl, fz, upd_same, fun d11 H11 k11 ha11 hd11 _ => ⟨rfl, a11, c 18, d11, _, _, rfl, T.er 18 (by decide), T.f_NameTaken, ha11, hd11, rfl, ?_⟩⟩⟩
  have s11 : Same G3 H11 := s10.trans (same_made n11 k11)
  refine ⟨_, rfl, (by show 1 ≤ 1000; decide), fun a12 n12 => ⟨a12, _, rfl, fz, upd_same, fun d12 H12 k12 ha12 hd12 _ => ⟨rfl, a12, c 19, d12, _, _, rfl, T.er 19 (by decide), T.f_UnknownName, ha12, hd12, rfl, ?_⟩⟩⟩
  have s12 : Same G3 H12 := s11.trans (same_made n12 k12)
  refine ⟨by show 3 ≤ sizeLine; decide, fun p5 x5 => ?_⟩
  refine ⟨p4, p5, _, _, rfl, rfl, same_new x5 _ _ (s12 _ _ y3), upd_same, by show 7 ≤ sizeLine; decide, fun p6 x6 => ?_⟩
  have t4 : Same G3 (upd (upd H12 p5 (.lst [.str z, .str z, .str z])) p6 (.lst ([.str z, .str z, .str z, .str z] ++ [.str z, .str z, .str z]))) := (s12.trans (same_new x5)).trans (same_new x6)
  have y4 : upd (upd H12 p5 (.lst [.str z, .str z, .str z])) p6 (.lst ([.str z, .str z, .str z, .str z] ++ [.str z, .str z, .str z])) p6 = some (.lst ((List.replicate 7 z).map V.str)) := upd_same
  generalize upd (upd H12 p5 (.lst [.str z, .str z, .str z])) p6 (.lst ([.str z, .str z, .str z, .str z] ++ [.str z, .str z, .str z])) = G4 at t4 y4 ⊢
  have y5 : SqL K G4 p3 ((List.replicate 5 i).map V.int) := SqL.of (t4 _ _ (t3 _ _ y2))
  -- all(..) of the numbers
  refine ⟨_, rfl, p3, rfl, ⟨_, y5⟩, fun D nD => ?_⟩
  refine lc_list (xs := (List.replicate 5 i).map V.int) (fun j H' => Same G4 H' ∧ H' D = some (.lst ((List.replicate j true).map V.bl))) ⟨same_new nD, upd_same⟩ (fun j H' _ h => h.1.seq y5) (fun j x H' hx h => ?_) (fun H' h => ?_)
  · obtain ⟨u1, hD⟩ := h
    have ex : x = .int i := by
      have m := List.mem_of_getElem? hx
      rw [List.map_replicate] at m
      exact (List.mem_replicate.mp m).2
    subst ex
    have hj : j < 5 := by simpa using (List.getElem?_eq_some_iff.mp hx).1
    refine ⟨rfl, _, rfl, _, rfl, _, rfl, .inr ⟨i, rfl⟩, _, hD, ?_, same_mut u1 nD, ?_⟩
    · rw [List.length_map, List.length_replicate]
      exact small1000 (by omega)
    · rw [upd_same, List.replicate_succ', List.map_append]
      rfl
  · obtain ⟨u1, hD⟩ := h
    refine ⟨D, _, rfl, SqL.of hD, ?_⟩
    rw [all_tr]
    refine ⟨_, rfl, iteF ?_⟩
    have y6 : SqL K H' p6 ((List.replicate 7 z).map V.str) := SqL.of (u1 _ _ y4)
    refine ⟨_, rfl, p6, rfl, ⟨_, y6⟩, fun D2 nD2 => ?_⟩
    refine lc_list (xs := (List.replicate 7 z).map V.str) (fun j H2 => Same H' H2 ∧ H2 D2 = some (.lst ((List.replicate j true).map V.bl))) ⟨same_new nD2, upd_same⟩ (fun j H2 _ h => h.1.seq y6) (fun j x H2 hx h => ?_) (fun H2 h => ?_)
    · obtain ⟨u2, hD2⟩ := h
      have ex : x = .str z := by
        have m := List.mem_of_getElem? hx
        rw [List.map_replicate] at m
        exact (List.mem_replicate.mp m).2
      subst ex
      have hj : j < 7 := by simpa using (List.getElem?_eq_some_iff.mp hx).1
      refine ⟨rfl, _, rfl, _, rfl, _, rfl, .inl ⟨z, rfl⟩, _, hD2, ?_, same_mut u2 nD2, ?_⟩
      · rw [List.length_map, List.length_replicate]
        exact small1000 (by omega)
      · rw [upd_same, List.replicate_succ', List.map_append]
        rfl
    · obtain ⟨u2, hD2⟩ := h
      refine ⟨D2, _, rfl, SqL.of hD2, ?_⟩
      rw [all_tr]
      exact q H2 (t1.trans (t2.trans (t3.trans (t4.trans (u1.trans u2)))))


end
end Pf

namespace Pf
open PySem PySem.Spec PyProof.Rows L2
section
variable {P : Program} {w : World} {K : PySem.W.Frag} {mg : Str → Option Value} {base : Heap}
variable {c : Nat → Addr}
def sp_law (K : PySem.W.Frag) : Sp := fun vs H Q _ => ∃ (a : Addr) (ns : List Int), vs = [.ref a] ∧ SqL K H a (ns.map V.int) ∧ ns.length ≤ 63 ∧ ∀ H', Q (.bl true) H'
theorem up14 : (Txt.upper "abcxyz0189 _-(").length = 14 := by decide +kernel
theorem ok_law {f : Addr} {fd : FuncData} (T : Txt P K mg c) (F : Fun K "law" "law" s_law f fd) : FnOk P w K mg base CX0 4 f fd ["script"] (sp_law K) := by
  obtain ⟨f__law_reader, fd__law_reader, G__law_reader, m__law_reader, k__law_reader, b__law_reader⟩ := ok__law_reader (P := P) (w := w) (base := base) T
  obtain ⟨f__law_next, fd__law_next, G__law_next, m__law_next, k__law_next, b__law_next⟩ := ok__law_next (P := P) (w := w) (base := base) T
  obtain ⟨f_InvalidContract, fd_InvalidContract, G_InvalidContract, i_InvalidContract, t_InvalidContract, b_InvalidContract⟩ := mk_InvalidContract (P := P) (w := w) (base := base) T
  obtain ⟨f_InvalidProgram, fd_InvalidProgram, G_InvalidProgram, i_InvalidProgram, t_InvalidProgram, b_InvalidProgram⟩ := mk_InvalidProgram (P := P) (w := w) (base := base) T
  obtain ⟨f_InvalidText, fd_InvalidText, G_InvalidText, i_InvalidText, t_InvalidText, b_InvalidText⟩ := mk_InvalidText (P := P) (w := w) (base := base) T
  obtain ⟨f_InvalidName, fd_InvalidName, G_InvalidName, i_InvalidName, t_InvalidName, b_InvalidName⟩ := mk_InvalidName (P := P) (w := w) (base := base) T
  obtain ⟨f_InvalidLine, fd_InvalidLine, G_InvalidLine, i_InvalidLine, t_InvalidLine, b_InvalidLine⟩ := mk_InvalidLine (P := P) (w := w) (base := base) T
  obtain ⟨f_InvalidEdit, fd_InvalidEdit, G_InvalidEdit, i_InvalidEdit, t_InvalidEdit, b_InvalidEdit⟩ := mk_InvalidEdit (P := P) (w := w) (base := base) T
  obtain ⟨f_InvalidPlaces, fd_InvalidPlaces, G_InvalidPlaces, i_InvalidPlaces, t_InvalidPlaces, b_InvalidPlaces⟩ := mk_InvalidPlaces (P := P) (w := w) (base := base) T
  obtain ⟨f_UnknownName, fd_UnknownName, G_UnknownName, i_UnknownName, t_UnknownName, b_UnknownName⟩ := mk_UnknownName (P := P) (w := w) (base := base) T
  obtain ⟨f_NameTaken, fd_NameTaken, G_NameTaken, i_NameTaken, t_NameTaken, b_NameTaken⟩ := mk_NameTaken (P := P) (w := w) (base := base) T
  obtain ⟨f_TooManyCases, fd_TooManyCases, G_TooManyCases, i_TooManyCases, t_TooManyCases, b_TooManyCases⟩ := mk_TooManyCases (P := P) (w := w) (base := base) T
  obtain ⟨f_TooLong, fd_TooLong, G_TooLong, i_TooLong, t_TooLong, b_TooLong⟩ := mk_TooLong (P := P) (w := w) (base := base) T
  obtain ⟨f_TooLarge, fd_TooLarge, G_TooLarge, i_TooLarge, t_TooLarge, b_TooLarge⟩ := mk_TooLarge (P := P) (w := w) (base := base) T
  obtain ⟨f__law_is, fd__law_is, G__law_is, m__law_is, k__law_is, b__law_is⟩ := ok__law_is (P := P) (w := w) (base := base) T
  obtain ⟨f__law_attributes, fd__law_attributes, G__law_attributes, m__law_attributes, k__law_attributes, b__law_attributes⟩ := ok__law_attributes (P := P) (w := w) (base := base) T
  refine F.ok sc_law (fun vs H Q E h => ?_) (fun cdv A outer s H vs Q E hr h => ?_)
  · obtain ⟨sc, ns, rfl, hS, hl, q⟩ := h
    rfl
  obtain ⟨sc, ns, rfl, hS, hl, q⟩ := h
  refine ⟨_, (pss_cons (ps_set (i := 1) sc_law.nd rfl (.inl rfl) (pe_call G__law_reader (hr.mono (by decide)) (by rfl) m__law_reader k__law_reader b__law_reader .nil pass0 (pa_cons (pv 0) (pa_cons pe_int pa_nil))))
      (pss_cons (ps_set (i := 2) sc_law.nd rfl (.inl rfl) (pe_op op_sub (pe_call G__law_next (hr.mono (by decide)) (by rfl) m__law_next k__law_next b__law_next .nil pass0 (pa_cons (pv 1) (pa_cons pe_int pa_nil))) pe_int))
      (pss_cons (ps_set (i := 3) sc_law.nd rfl (.inl rfl) pe_str)
      (pss_cons (ps_for PassesOwn.never rfl (pi_range1 (by rfl) T.z_range (pa_cons (pe_op op_add pe_int (pe_call G__law_next (hr.mono (by decide)) (by rfl) m__law_next k__law_next b__law_next .nil pass0 (pa_cons (pv 1) (pa_cons pe_int pa_nil)))) pa_nil)) (pg_name (i := 4) sc_law.nd rfl (.inl rfl))
      (pss_one (ps_set (i := 3) sc_law.nd rfl (.inl rfl) (pe_op op_add_str (pv 3) (pe_ix ix_str (pe_upper pe_str) (pe_call G__law_next (hr.mono (by decide)) (by rfl) m__law_next k__law_next b__law_next .nil pass0 (pa_cons (pv 1) (pa_cons pe_int pa_nil))) (fun _ _ => rfl))))))
      (pss_cons (ps_set (i := 5) sc_law.nd rfl (.inl rfl) (pe_lst (pa_cons (pe_oex T.o_InvalidText i_InvalidText t_InvalidText G_InvalidText (hr.mono (by decide)) b_InvalidText (by rfl) T.g_InvalidText (pv 2)) (pa_cons (pe_oex T.o_InvalidProgram i_InvalidProgram t_InvalidProgram G_InvalidProgram (hr.mono (by decide)) b_InvalidProgram (by rfl) T.g_InvalidProgram (pv 3)) (pa_cons (pe_oex T.o_InvalidContract i_InvalidContract t_InvalidContract G_InvalidContract (hr.mono (by decide)) b_InvalidContract (by rfl) T.g_InvalidContract (pv 3)) (pa_cons (pe_exc0 PySem.F.excBase_ValueError T.x_InvalidChange T.g_InvalidChange (T.kp _ (by decide)) (by rfl)) (pa_cons (pe_exc0 PySem.F.excBase_ValueError T.x_InvalidStream T.g_InvalidStream (T.kp _ (by decide)) (by rfl)) pa_nil)))))))
      (pss_cons (ps_set (i := 5) sc_law.nd rfl (.inl rfl) (pe_op op_cat (pv 5) (pe_lst (pa_cons (pe_oex T.o_InvalidPlaces i_InvalidPlaces t_InvalidPlaces G_InvalidPlaces (hr.mono (by decide)) b_InvalidPlaces (by rfl) T.g_InvalidPlaces (pv 2)) (pa_cons (pe_oex T.o_InvalidEdit i_InvalidEdit t_InvalidEdit G_InvalidEdit (hr.mono (by decide)) b_InvalidEdit (by rfl) T.g_InvalidEdit (pv 2)) (pa_cons (pe_oex T.o_InvalidLine i_InvalidLine t_InvalidLine G_InvalidLine (hr.mono (by decide)) b_InvalidLine (by rfl) T.g_InvalidLine (pv 2)) (pa_cons (pe_oex T.o_InvalidName i_InvalidName t_InvalidName G_InvalidName (hr.mono (by decide)) b_InvalidName (by rfl) T.g_InvalidName (pv 3)) (pa_cons (pe_exc0 PySem.F.excBase_ValueError T.x_Mismatch T.g_Mismatch (T.kp _ (by decide)) (by rfl)) pa_nil))))))))
      (pss_cons (ps_set (i := 5) sc_law.nd rfl (.inl rfl) (pe_op op_cat (pv 5) (pe_lst (pa_cons (pe_oex T.o_TooLarge i_TooLarge t_TooLarge G_TooLarge (hr.mono (by decide)) b_TooLarge (by rfl) T.g_TooLarge (pv 3)) (pa_cons (pe_oex T.o_TooLong i_TooLong t_TooLong G_TooLong (hr.mono (by decide)) b_TooLong (by rfl) T.g_TooLong (pv 3)) (pa_cons (pe_oex T.o_TooManyCases i_TooManyCases t_TooManyCases G_TooManyCases (hr.mono (by decide)) b_TooManyCases (by rfl) T.g_TooManyCases (pv 2)) (pa_cons (pe_oex T.o_NameTaken i_NameTaken t_NameTaken G_NameTaken (hr.mono (by decide)) b_NameTaken (by rfl) T.g_NameTaken (pv 3)) (pa_cons (pe_oex T.o_UnknownName i_UnknownName t_UnknownName G_UnknownName (hr.mono (by decide)) b_UnknownName (by rfl) T.g_UnknownName (pv 3)) pa_nil))))))))
      (pss_cons (ps_set (i := 5) sc_law.nd rfl (.inl rfl) (pe_op op_cat (pv 5) (pe_lst (pa_cons (pe_exc0 PySem.F.excBase_ValueError T.x_NothingToUndo T.g_NothingToUndo (T.kp _ (by decide)) (by rfl)) (pa_cons (pe_exc0 PySem.F.excBase_ValueError T.x_NothingToRedo T.g_NothingToRedo (T.kp _ (by decide)) (by rfl)) pa_nil)))))
      (pss_cons (ps_for PassesOwn.never rfl (pi_range1 (by rfl) T.z_range (pa_cons pe_int pa_nil)) (pg_name (i := 4) sc_law.nd rfl (.inl rfl))
      (pss_one (ps_if (pt_not (pt_val (pe_call G__law_is (hr.mono (by decide)) (by rfl) m__law_is k__law_is b__law_is .nil pass0 (pa_cons (pe_ix ix_list (pv 5) (pv 4) (fun _ _ => rfl)) (pa_cons (pv 4) pa_nil)))))
        (pss_one (ps_ret pe_bl))
        pss_nil)))
      (pss_one (ps_ret (pe_and (pe_call G__law_attributes (hr.mono (by decide)) (by rfl) m__law_attributes k__law_attributes b__law_attributes .nil pass0 (pa_cons (pv 2) (pa_cons (pv 3) pa_nil))) (pe_one (pe_cmpR op_eq (pe_ef (pe_ix ix_list (pv 5) pe_int (fun _ _ => rfl))) (pv 2) (nomark _))))))))))))))), ?_⟩
  refine ⟨_, rfl, sc, ns, 0, rfl, hS, fun r1 h1 nr1 z1 R1 => ?_⟩
  refine ⟨_, rfl, r1, 10000, rfl, R1, by decide, by decide, fun v2 h2 f2 R2 a2 b2 => ⟨_, _, rfl, rfl, ?_⟩⟩
  have hn : (v2 - 9).natAbs < 2 ^ 64 := by omega
  refine ⟨_, rfl, r1, 12, rfl, R2, by decide, by decide, fun v3 h3 f3 R3 a3 b3 => ⟨_, _, rfl, rfl, _, rfl, by omega, by omega, ?_⟩⟩
  refine for_range (fun i σ H' => ∃ (w : Str) (y : Option V), σ = [some (.ref sc), some (.ref r1), some (.int (v2 - 9)), some (.str w), y, none] ∧ RD H' r1 ∧ w.length = i) ⟨_, _, rfl, R3, rfl⟩ ?_ ?_
  · rintro i σ H' hi ⟨w, y, rfl, R', hw⟩
    refine ⟨_, rfl, ⟨_, rfl⟩, _, rfl, rfl, by decide +kernel, _, rfl, r1, 14, rfl, R', by decide, by decide, fun v4 h4 f4 R4 a4 b4 => ?_⟩
    obtain ⟨ch, hch⟩ := str_at (z := Txt.upper "abcxyz0189 _-(") a4 (by rw [up14]; exact b4)
    refine ⟨_, _, _, rfl, rfl, by rw [up14]; decide, hch, _, _, rfl, rfl, line_small (by rw [one_len]; omega), ?_⟩
    exact ⟨_, _, rfl, R4, by rw [app_len, one_len, hw]⟩
  rintro σ H ⟨w, y, rfl, R', hw⟩
  have hwl : w.length ≤ 100000 := by omega
  have fi : Fmt (.int (v2 - 9)) := .inr ⟨_, rfl, hn⟩
  have fz : Fmt (.str w) := .inl ⟨w, rfl, hwl⟩
  clear hS R1 R2 R3 R' f2 f3 z1
  refine ⟨_, rfl, (by show 1 ≤ 1000; decide), fun a1 n1 => ⟨a1, _, rfl, fi, upd_same, fun d1 J1 k1 ha1 hd1 _ => ⟨rfl, ?_⟩⟩⟩
  have s1 : Same H J1 := same_made n1 k1
  have e1 : ErrO J1 (c 3) a1 := .inr (.inl ⟨d1, _, ha1, hd1⟩)
  refine ⟨_, rfl, (by show 1 ≤ 1000; decide), fun a2 n2 => ⟨a2, _, rfl, fz, upd_same, fun d2 J2 k2 ha2 hd2 _ => ⟨rfl, ?_⟩⟩⟩
  have s2 : Same J1 J2 := same_made n2 k2
  have e2 : ErrO J2 (c 4) a2 := .inr (.inl ⟨d2, _, ha2, hd2⟩)
  refine ⟨_, rfl, (by show 1 ≤ 1000; decide), fun a3 n3 => ⟨a3, _, rfl, fz, upd_same, fun d3 J3 k3 ha3 hd3 _ => ⟨rfl, ?_⟩⟩⟩
  have s3 : Same J2 J3 := same_made n3 k3
  have e3 : ErrO J3 (c 5) a3 := .inr (.inl ⟨d3, _, ha3, hd3⟩)
  refine fun a4 n4 => ?_
  have s4 : Same J3 (upd J3 a4 (ExO (.ref (c 6)) a4)) := same_new n4
  have e4 : ErrO (upd J3 a4 (ExO (.ref (c 6)) a4)) (c 6) a4 := .inr (.inr upd_same)
  generalize upd J3 a4 (ExO (.ref (c 6)) a4) = J4 at s4 e4 ⊢
  refine fun a5 n5 => ?_
  have s5 : Same J4 (upd J4 a5 (ExO (.ref (c 7)) a5)) := same_new n5
  have e5 : ErrO (upd J4 a5 (ExO (.ref (c 7)) a5)) (c 7) a5 := .inr (.inr upd_same)
  generalize upd J4 a5 (ExO (.ref (c 7)) a5) = J5 at s5 e5 ⊢
  refine ⟨by show 5 ≤ sizeLine; decide, fun p1 x6 => ?_⟩
  have s6 : Same J5 (upd J5 p1 (.lst [V.ref a1, V.ref a2, V.ref a3, V.ref a4, V.ref a5])) := same_new x6
  have l6 : upd J5 p1 (.lst [V.ref a1, V.ref a2, V.ref a3, V.ref a4, V.ref a5]) p1 = some (.lst [V.ref a1, V.ref a2, V.ref a3, V.ref a4, V.ref a5]) := upd_same
  generalize upd J5 p1 (.lst [V.ref a1, V.ref a2, V.ref a3, V.ref a4, V.ref a5]) = J6 at s6 l6 ⊢
  refine ⟨_, rfl, ?_⟩
  refine ⟨_, rfl, (by show 1 ≤ 1000; decide), fun a6 n6 => ⟨a6, _, rfl, fi, upd_same, fun d6 J7 k6 ha6 hd6 _ => ⟨rfl, ?_⟩⟩⟩
  have s7 : Same J6 J7 := same_made n6 k6
  have e6 : ErrO J7 (c 8) a6 := .inr (.inl ⟨d6, _, ha6, hd6⟩)
  refine ⟨_, rfl, (by show 1 ≤ 1000; decide), fun a7 n7 => ⟨a7, _, rfl, fi, upd_same, fun d7 J8 k7 ha7 hd7 _ => ⟨rfl, ?_⟩⟩⟩
  have s8 : Same J7 J8 := same_made n7 k7
  have e7 : ErrO J8 (c 9) a7 := .inr (.inl ⟨d7, _, ha7, hd7⟩)
  refine ⟨_, rfl, (by show 1 ≤ 1000; decide), fun a8 n8 => ⟨a8, _, rfl, fi, upd_same, fun d8 J9 k8 ha8 hd8 _ => ⟨rfl, ?_⟩⟩⟩
  have s9 : Same J8 J9 := same_made n8 k8
  have e8 : ErrO J9 (c 10) a8 := .inr (.inl ⟨d8, _, ha8, hd8⟩)
  refine ⟨_, rfl, (by show 1 ≤ 1000; decide), fun a9 n9 => ⟨a9, _, rfl, fz, upd_same, fun d9 J10 k9 ha9 hd9 _ => ⟨rfl, ?_⟩⟩⟩
  have s10 : Same J9 J10 := same_made n9 k9
  have e9 : ErrO J10 (c 11) a9 := .inr (.inl ⟨d9, _, ha9, hd9⟩)
  refine fun a10 n10 => ?_
  have s11 : Same J10 (upd J10 a10 (ExO (.ref (c 12)) a10)) := same_new n10
  have e10 : ErrO (upd J10 a10 (ExO (.ref (c 12)) a10)) (c 12) a10 := .inr (.inr upd_same)
  generalize upd J10 a10 (ExO (.ref (c 12)) a10) = J11 at s11 e10 ⊢
  refine ⟨by show 5 ≤ sizeLine; decide, fun p2 x12 => ?_⟩
  have s12 : Same J11 (upd J11 p2 (.lst [V.ref a6, V.ref a7, V.ref a8, V.ref a9, V.ref a10])) := same_new x12
  have l12 : upd J11 p2 (.lst [V.ref a6, V.ref a7, V.ref a8, V.ref a9, V.ref a10]) p2 = some (.lst [V.ref a6, V.ref a7, V.ref a8, V.ref a9, V.ref a10]) := upd_same
  generalize upd J11 p2 (.lst [V.ref a6, V.ref a7, V.ref a8, V.ref a9, V.ref a10]) = J12 at s12 l12 ⊢
  refine ⟨p1, p2, _, _, rfl, rfl, (s12 _ _ (s11 _ _ (s10 _ _ (s9 _ _ (s8 _ _ (s7 _ _ l6)))))), l12, by show 10 ≤ sizeLine; decide, fun p3 x13 => ?_⟩
  have s13 : Same J12 (upd J12 p3 (.lst ([V.ref a1, V.ref a2, V.ref a3, V.ref a4, V.ref a5] ++ [V.ref a6, V.ref a7, V.ref a8, V.ref a9, V.ref a10]))) := same_new x13
  have l13 : upd J12 p3 (.lst ([V.ref a1, V.ref a2, V.ref a3, V.ref a4, V.ref a5] ++ [V.ref a6, V.ref a7, V.ref a8, V.ref a9, V.ref a10])) p3 = some (.lst [V.ref a1, V.ref a2, V.ref a3, V.ref a4, V.ref a5, V.ref a6, V.ref a7, V.ref a8, V.ref a9, V.ref a10]) := upd_same
  generalize upd J12 p3 (.lst ([V.ref a1, V.ref a2, V.ref a3, V.ref a4, V.ref a5] ++ [V.ref a6, V.ref a7, V.ref a8, V.ref a9, V.ref a10])) = J13 at s13 l13 ⊢
  refine ⟨_, rfl, ?_⟩
  refine ⟨_, rfl, (by show 1 ≤ 1000; decide), fun a11 n11 => ⟨a11, _, rfl, fz, upd_same, fun d11 J14 k11 ha11 hd11 _ => ⟨rfl, ?_⟩⟩⟩
  have s14 : Same J13 J14 := same_made n11 k11
  have e11 : ErrO J14 (c 14) a11 := .inr (.inl ⟨d11, _, ha11, hd11⟩)
  refine ⟨_, rfl, (by show 1 ≤ 1000; decide), fun a12 n12 => ⟨a12, _, rfl, fz, upd_same, fun d12 J15 k12 ha12 hd12 _ => ⟨rfl, ?_⟩⟩⟩
  have s15 : Same J14 J15 := same_made n12 k12
  have e12 : ErrO J15 (c 15) a12 := .inr (.inl ⟨d12, _, ha12, hd12⟩)
  refine ⟨_, rfl, (by show 1 ≤ 1000; decide), fun a13 n13 => ⟨a13, _, rfl, fi, upd_same, fun d13 J16 k13 ha13 hd13 _ => ⟨rfl, ?_⟩⟩⟩
  have s16 : Same J15 J16 := same_made n13 k13
  have e13 : ErrO J16 (c 16) a13 := .inr (.inl ⟨d13, _, ha13, hd13⟩)
  refine ⟨_, rfl, (by show 1 ≤ 1000; decide), fun a14 n14 => ⟨a14, _, rfl, fz, upd_same, fun d14 J17 k14 ha14 hd14 _ => ⟨rfl, ?_⟩⟩⟩
  have s17 : Same J16 J17 := same_made n14 k14
  have e14 : ErrO J17 (c 18) a14 := .inr (.inl ⟨d14, _, ha14, hd14⟩)
  refine ⟨_, rfl, (by show 1 ≤ 1000; decide), fun a15 n15 => ⟨a15, _, rfl, fz, upd_same, fun d15 J18 k15 ha15 hd15 _ => ⟨rfl, ?_⟩⟩⟩
  have s18 : Same J17 J18 := same_made n15 k15
  have e15 : ErrO J18 (c 19) a15 := .inr (.inl ⟨d15, _, ha15, hd15⟩)
  refine ⟨by show 5 ≤ sizeLine; decide, fun p4 x19 => ?_⟩
  have s19 : Same J18 (upd J18 p4 (.lst [V.ref a11, V.ref a12, V.ref a13, V.ref a14, V.ref a15])) := same_new x19
  have l19 : upd J18 p4 (.lst [V.ref a11, V.ref a12, V.ref a13, V.ref a14, V.ref a15]) p4 = some (.lst [V.ref a11, V.ref a12, V.ref a13, V.ref a14, V.ref a15]) := upd_same
  generalize upd J18 p4 (.lst [V.ref a11, V.ref a12, V.ref a13, V.ref a14, V.ref a15]) = J19 at s19 l19 ⊢
  refine ⟨p3, p4, _, _, rfl, rfl, (s19 _ _ (s18 _ _ (s17 _ _ (s16 _ _ (s15 _ _ (s14 _ _ l13)))))), l19, by show 15 ≤ sizeLine; decide, fun p5 x20 => ?_⟩
  have s20 : Same J19 (upd J19 p5 (.lst ([V.ref a1, V.ref a2, V.ref a3, V.ref a4, V.ref a5, V.ref a6, V.ref a7, V.ref a8, V.ref a9, V.ref a10] ++ [V.ref a11, V.ref a12, V.ref a13, V.ref a14, V.ref a15]))) := same_new x20
  have l20 : upd J19 p5 (.lst ([V.ref a1, V.ref a2, V.ref a3, V.ref a4, V.ref a5, V.ref a6, V.ref a7, V.ref a8, V.ref a9, V.ref a10] ++ [V.ref a11, V.ref a12, V.ref a13, V.ref a14, V.ref a15])) p5 = some (.lst [V.ref a1, V.ref a2, V.ref a3, V.ref a4, V.ref a5, V.ref a6, V.ref a7, V.ref a8, V.ref a9, V.ref a10, V.ref a11, V.ref a12, V.ref a13, V.ref a14, V.ref a15]) := upd_same
  generalize upd J19 p5 (.lst ([V.ref a1, V.ref a2, V.ref a3, V.ref a4, V.ref a5, V.ref a6, V.ref a7, V.ref a8, V.ref a9, V.ref a10] ++ [V.ref a11, V.ref a12, V.ref a13, V.ref a14, V.ref a15])) = J20 at s20 l20 ⊢
  refine ⟨_, rfl, ?_⟩
  refine fun a16 n16 => ?_
  have s21 : Same J20 (upd J20 a16 (ExO (.ref (c 20)) a16)) := same_new n16
  have e16 : ErrO (upd J20 a16 (ExO (.ref (c 20)) a16)) (c 20) a16 := .inr (.inr upd_same)
  generalize upd J20 a16 (ExO (.ref (c 20)) a16) = J21 at s21 e16 ⊢
  refine fun a17 n17 => ?_
  have s22 : Same J21 (upd J21 a17 (ExO (.ref (c 21)) a17)) := same_new n17
  have e17 : ErrO (upd J21 a17 (ExO (.ref (c 21)) a17)) (c 21) a17 := .inr (.inr upd_same)
  generalize upd J21 a17 (ExO (.ref (c 21)) a17) = J22 at s22 e17 ⊢
  refine ⟨by show 2 ≤ sizeLine; decide, fun p6 x23 => ?_⟩
  have s23 : Same J22 (upd J22 p6 (.lst [V.ref a16, V.ref a17])) := same_new x23
  have l23 : upd J22 p6 (.lst [V.ref a16, V.ref a17]) p6 = some (.lst [V.ref a16, V.ref a17]) := upd_same
  generalize upd J22 p6 (.lst [V.ref a16, V.ref a17]) = J23 at s23 l23 ⊢
  refine ⟨p5, p6, _, _, rfl, rfl, (s23 _ _ (s22 _ _ (s21 _ _ l20))), l23, by show 17 ≤ sizeLine; decide, fun p7 x24 => ?_⟩
  have s24 : Same J23 (upd J23 p7 (.lst ([V.ref a1, V.ref a2, V.ref a3, V.ref a4, V.ref a5, V.ref a6, V.ref a7, V.ref a8, V.ref a9, V.ref a10, V.ref a11, V.ref a12, V.ref a13, V.ref a14, V.ref a15] ++ [V.ref a16, V.ref a17]))) := same_new x24
  have l24 : upd J23 p7 (.lst ([V.ref a1, V.ref a2, V.ref a3, V.ref a4, V.ref a5, V.ref a6, V.ref a7, V.ref a8, V.ref a9, V.ref a10, V.ref a11, V.ref a12, V.ref a13, V.ref a14, V.ref a15] ++ [V.ref a16, V.ref a17])) p7 = some (.lst [V.ref a1, V.ref a2, V.ref a3, V.ref a4, V.ref a5, V.ref a6, V.ref a7, V.ref a8, V.ref a9, V.ref a10, V.ref a11, V.ref a12, V.ref a13, V.ref a14, V.ref a15, V.ref a16, V.ref a17]) := upd_same
  generalize upd J23 p7 (.lst ([V.ref a1, V.ref a2, V.ref a3, V.ref a4, V.ref a5, V.ref a6, V.ref a7, V.ref a8, V.ref a9, V.ref a10, V.ref a11, V.ref a12, V.ref a13, V.ref a14, V.ref a15] ++ [V.ref a16, V.ref a17])) = J24 at s24 l24 ⊢
  have u24 : Same J24 J24 := Same.refl _
  have u23 : Same J23 J24 := s24.trans u24
  have u22 : Same J22 J24 := s23.trans u23
  have u21 : Same J21 J24 := s22.trans u22
  have u20 : Same J20 J24 := s21.trans u21
  have u19 : Same J19 J24 := s20.trans u20
  have u18 : Same J18 J24 := s19.trans u19
  have u17 : Same J17 J24 := s18.trans u18
  have u16 : Same J16 J24 := s17.trans u17
  have u15 : Same J15 J24 := s16.trans u16
  have u14 : Same J14 J24 := s15.trans u15
  have u13 : Same J13 J24 := s14.trans u14
  have u12 : Same J12 J24 := s13.trans u13
  have u11 : Same J11 J24 := s12.trans u12
  have u10 : Same J10 J24 := s11.trans u11
  have u9 : Same J9 J24 := s10.trans u10
  have u8 : Same J8 J24 := s9.trans u9
  have u7 : Same J7 J24 := s8.trans u8
  have u6 : Same J6 J24 := s7.trans u7
  have u5 : Same J5 J24 := s6.trans u6
  have u4 : Same J4 J24 := s5.trans u5
  have u3 : Same J3 J24 := s4.trans u4
  have u2 : Same J2 J24 := s3.trans u3
  have u1 : Same J1 J24 := s2.trans u2
  have all : ∀ (i m : Nat) (a : Addr), made17[i]? = some m → ([a1, a2, a3, a4, a5, a6, a7, a8, a9, a10, a11, a12, a13, a14, a15, a16, a17] : List Addr)[i]? = some a → ErrO J24 (c m) a := fun i m a hm ha => by
    match i, hm, ha with
    | 0, hm, ha => cases hm; cases ha; exact e1.mono u1
    | 1, hm, ha => cases hm; cases ha; exact e2.mono u2
    | 2, hm, ha => cases hm; cases ha; exact e3.mono u3
    | 3, hm, ha => cases hm; cases ha; exact e4.mono u4
    | 4, hm, ha => cases hm; cases ha; exact e5.mono u5
    | 5, hm, ha => cases hm; cases ha; exact e6.mono u7
    | 6, hm, ha => cases hm; cases ha; exact e7.mono u8
    | 7, hm, ha => cases hm; cases ha; exact e8.mono u9
    | 8, hm, ha => cases hm; cases ha; exact e9.mono u10
    | 9, hm, ha => cases hm; cases ha; exact e10.mono u11
    | 10, hm, ha => cases hm; cases ha; exact e11.mono u14
    | 11, hm, ha => cases hm; cases ha; exact e12.mono u15
    | 12, hm, ha => cases hm; cases ha; exact e13.mono u16
    | 13, hm, ha => cases hm; cases ha; exact e14.mono u17
    | 14, hm, ha => cases hm; cases ha; exact e15.mono u18
    | 15, hm, ha => cases hm; cases ha; exact e16.mono u21
    | 16, hm, ha => cases hm; cases ha; exact e17.mono u22
    | i + 17, hm, ha => cases hm
  have ha0 := u1 _ _ ha1
  have hd0 := u1 _ _ hd1
  have lm : J24 p7 = some (.lst (([a1, a2, a3, a4, a5, a6, a7, a8, a9, a10, a11, a12, a13, a14, a15, a16, a17] : List Addr).map V.ref)) := l24
  generalize hal : ([a1, a2, a3, a4, a5, a6, a7, a8, a9, a10, a11, a12, a13, a14, a15, a16, a17] : List Addr) = al at all lm
  have h0al : al[0]? = some a1 := by rw [← hal]; rfl
  have hlen : al.length = 17 := by rw [← hal]; rfl
  clear hal
  refine ⟨17, rfl, by decide, by decide, for_range (fun i σ H' => ∃ (y : Option V), σ = [some (.ref sc), some (.ref r1), some (.int (v2 - 9)), some (.str w), y, some (.ref p7)] ∧ Same J24 H') ⟨_, rfl, Same.refl _⟩ ?_ ?_⟩
  · rintro i σ H' hi ⟨y, rfl, sv⟩
    have hi17 : i < 17 := hi
    obtain ⟨m, hm⟩ : ∃ m, made17[i]? = some m := ⟨_, List.getElem?_eq_getElem (by show i < 17; exact hi17)⟩
    have hai : al[i]? = some al[i] := List.getElem?_eq_getElem (by omega)
    have gi : (0 : Int) + (i : Int) = (i : Int) := Int.zero_add _
    refine ⟨_, rfl, _, rfl, p7, _, _, .ref al[i], rfl, rfl, SqL.of (sv _ _ lm), ?_, _, rfl, .ref al[i], i, m, ?_, hm, ⟨_, rfl, (all i m _ hm hai).mono sv⟩, fun H2 s2 => ⟨_, rfl, iteF ⟨_, rfl, sv.trans s2⟩⟩⟩
    · rw [gi]
      exact atI_nat (map_at hai)
    · rw [gi]
      rfl
  · rintro σ H' ⟨y, rfl, sv⟩
    refine ⟨_, rfl, _, rfl, _, w, rfl, hn, hwl, fun H2 s2 => ⟨_, rfl, iteT ?_⟩⟩
    refine ⟨_, rfl, p7, _, 0, .ref a1, rfl, rfl, SqL.of (s2 _ _ (sv _ _ lm)), atI_nat (map_at h0al), a1, c 3, d1, _, _, rfl, T.er 3 (by decide), T.f_InvalidText, s2 _ _ (sv _ _ ha0), s2 _ _ (sv _ _ hd0), rfl, ?_⟩
    refine ⟨_, rfl, rfl, ?_⟩
    rw [decide_eq_true (rfl : V.int (v2 - 9) = V.int (v2 - 9))]
    exact q H2


end
end Pf

namespace Pf
open PySem PySem.Spec PyProof.Rows L2
theorem all_mk {l : PySem.W.OpenLaw} {w : World} {K : PySem.W.Frag} {h : Heap} {mg : Str → Option Value} {fa f0 f1 f2 f3 f4 f5 f6 f7 : Addr} {C1 C2 C3 C4 C5 C6 C7 C8 C9 C10 C11 C12 C13 C14 C15 C16 C17 C18 C19 C20 C21 : Addr} (X : K.In h) (G : h.Ns mainGlobals mg) (hfa : mg "law" = some (.ref fa))
    {od0 an0 od1 an1 od2 an2 od3 an3 od4 an4 od5 an5 od6 an6 od7 an7 : Option Addr}
    {sl0 sl1 sl2 sl3 sl4 sl5 sl6 sl7 : Array (Option Value)} {oc0 kV0 dc0 pm0 cd0 ct0 oc1 kV1 dc1 pm1 cd1 ct1 oc2 kV2 dc2 pm2 cd2 ct2 oc3 kV3 dc3 pm3 cd3 ct3 oc4 kV4 dc4 pm4 cd4 ct4 oc5 kV5 dc5 pm5 cd5 ct5 oc6 kV6 dc6 pm6 cd6 ct6 oc7 kV7 dc7 pm7 cd7 ct7 : Value}
    (a0 : PySem.W.nsIn K mainGlobals "_law_reader" = some (some (.ref f0))) (l0 : K.lookup f0 = some ⟨oc0, od0, .func (PySem.W.fnOf "_law_reader" "_law_reader" (defArgs s__law_reader) (defBody s__law_reader) (defScope s__law_reader) .none kV0 dc0 pm0 an0 cd0 ct0), sl0⟩) (c0 : PySem.W.codeIn K cd0 "_law_reader" = true) (k0 : PySem.W.keepIn K (.ref f0) = true)
    (a1 : PySem.W.nsIn K mainGlobals "_law_next" = some (some (.ref f1))) (l1 : K.lookup f1 = some ⟨oc1, od1, .func (PySem.W.fnOf "_law_next" "_law_next" (defArgs s__law_next) (defBody s__law_next) (defScope s__law_next) .none kV1 dc1 pm1 an1 cd1 ct1), sl1⟩) (c1 : PySem.W.codeIn K cd1 "_law_next" = true) (k1 : PySem.W.keepIn K (.ref f1) = true)
    (a2 : PySem.W.nsIn K mainGlobals "_law_same" = some (some (.ref f2))) (l2 : K.lookup f2 = some ⟨oc2, od2, .func (PySem.W.fnOf "_law_same" "_law_same" (defArgs s__law_same) (defBody s__law_same) (defScope s__law_same) .none kV2 dc2 pm2 an2 cd2 ct2), sl2⟩) (c2 : PySem.W.codeIn K cd2 "_law_same" = true) (k2 : PySem.W.keepIn K (.ref f2) = true)
    (a3 : PySem.W.nsIn K mainGlobals "_law_inputs" = some (some (.ref f3))) (l3 : K.lookup f3 = some ⟨oc3, od3, .func (PySem.W.fnOf "_law_inputs" "_law_inputs" (defArgs s__law_inputs) (defBody s__law_inputs) (defScope s__law_inputs) .none kV3 dc3 pm3 an3 cd3 ct3), sl3⟩) (c3 : PySem.W.codeIn K cd3 "_law_inputs" = true) (k3 : PySem.W.keepIn K (.ref f3) = true)
    (a4 : PySem.W.nsIn K mainGlobals "_law_others" = some (some (.ref f4))) (l4 : K.lookup f4 = some ⟨oc4, od4, .func (PySem.W.fnOf "_law_others" "_law_others" (defArgs s__law_others) (defBody s__law_others) (defScope s__law_others) .none kV4 dc4 pm4 an4 cd4 ct4), sl4⟩) (c4 : PySem.W.codeIn K cd4 "_law_others" = true) (k4 : PySem.W.keepIn K (.ref f4) = true)
    (a5 : PySem.W.nsIn K mainGlobals "_law_is" = some (some (.ref f5))) (l5 : K.lookup f5 = some ⟨oc5, od5, .func (PySem.W.fnOf "_law_is" "_law_is" (defArgs s__law_is) (defBody s__law_is) (defScope s__law_is) .none kV5 dc5 pm5 an5 cd5 ct5), sl5⟩) (c5 : PySem.W.codeIn K cd5 "_law_is" = true) (k5 : PySem.W.keepIn K (.ref f5) = true)
    (a6 : PySem.W.nsIn K mainGlobals "_law_attributes" = some (some (.ref f6))) (l6 : K.lookup f6 = some ⟨oc6, od6, .func (PySem.W.fnOf "_law_attributes" "_law_attributes" (defArgs s__law_attributes) (defBody s__law_attributes) (defScope s__law_attributes) .none kV6 dc6 pm6 an6 cd6 ct6), sl6⟩) (c6 : PySem.W.codeIn K cd6 "_law_attributes" = true) (k6 : PySem.W.keepIn K (.ref f6) = true)
    (a7 : PySem.W.nsIn K mainGlobals "law" = some (some (.ref f7))) (l7 : K.lookup f7 = some ⟨oc7, od7, .func (PySem.W.fnOf "law" "law" (defArgs s_law) (defBody s_law) (defScope s_law) .none kV7 dc7 pm7 an7 cd7 ct7), sl7⟩) (c7 : PySem.W.codeIn K cd7 "law" = true) (k7 : PySem.W.keepIn K (.ref f7) = true)
    (z0 : PySem.W.nsIn K mainGlobals "ValueError" = some none) (z1 : PySem.W.nsIn K mainGlobals "all" = some none) (z2 : PySem.W.nsIn K mainGlobals "bool" = some none) (z3 : PySem.W.nsIn K mainGlobals "int" = some none) (z4 : PySem.W.nsIn K mainGlobals "isinstance" = some none) (z5 : PySem.W.nsIn K mainGlobals "len" = some none) (z6 : PySem.W.nsIn K mainGlobals "range" = some none) (z7 : PySem.W.nsIn K mainGlobals "str" = some none) (z8 : PySem.W.nsIn K mainGlobals "super" = some none)
    (g1 : PySem.W.nsIn K mainGlobals "MendError" = some (some (.ref C1)))
    (g2 : PySem.W.nsIn K mainGlobals "InvalidInput" = some (some (.ref C2)))
    (g3 : PySem.W.nsIn K mainGlobals "InvalidText" = some (some (.ref C3)))
    (g4 : PySem.W.nsIn K mainGlobals "InvalidProgram" = some (some (.ref C4)))
    (g5 : PySem.W.nsIn K mainGlobals "InvalidContract" = some (some (.ref C5)))
    (g6 : PySem.W.nsIn K mainGlobals "InvalidChange" = some (some (.ref C6)))
    (g7 : PySem.W.nsIn K mainGlobals "InvalidStream" = some (some (.ref C7)))
    (g8 : PySem.W.nsIn K mainGlobals "InvalidPlaces" = some (some (.ref C8)))
    (g9 : PySem.W.nsIn K mainGlobals "InvalidEdit" = some (some (.ref C9)))
    (g10 : PySem.W.nsIn K mainGlobals "InvalidLine" = some (some (.ref C10)))
    (g11 : PySem.W.nsIn K mainGlobals "InvalidName" = some (some (.ref C11)))
    (g12 : PySem.W.nsIn K mainGlobals "Mismatch" = some (some (.ref C12)))
    (g13 : PySem.W.nsIn K mainGlobals "BoundError" = some (some (.ref C13)))
    (g14 : PySem.W.nsIn K mainGlobals "TooLarge" = some (some (.ref C14)))
    (g15 : PySem.W.nsIn K mainGlobals "TooLong" = some (some (.ref C15)))
    (g16 : PySem.W.nsIn K mainGlobals "TooManyCases" = some (some (.ref C16)))
    (g17 : PySem.W.nsIn K mainGlobals "DeskError" = some (some (.ref C17)))
    (g18 : PySem.W.nsIn K mainGlobals "NameTaken" = some (some (.ref C18)))
    (g19 : PySem.W.nsIn K mainGlobals "UnknownName" = some (some (.ref C19)))
    (g20 : PySem.W.nsIn K mainGlobals "NothingToUndo" = some (some (.ref C20)))
    (g21 : PySem.W.nsIn K mainGlobals "NothingToRedo" = some (some (.ref C21)))
    (eB : errsB K (clsAt [(1, C1), (2, C2), (3, C3), (4, C4), (5, C5), (6, C6), (7, C7), (8, C8), (9, C9), (10, C10), (11, C11), (12, C12), (13, C13), (14, C14), (15, C15), (16, C16), (17, C17), (18, C18), (19, C19), (20, C20), (21, C21)]) errIds errUp = true) (opq : PySem.W.nsIn K cStatics "thirdparty.any" = some none) (tp : (l.prog.main.scope.names.lookup ("super" : Str)).isSome = false)
    (xC1 : PySem.W.excIn K C1 [.type "ValueError", .type "Exception", .type "BaseException", .type "object"] "ValueError.__new__" = true)
    (xC2 : PySem.W.excIn K C2 [.type "ValueError", .type "Exception", .type "BaseException", .type "object"] "ValueError.__new__" = true)
    {nm3 q3 qu3 fl3 : Str} {N3 I3 cc3 cda3 : Addr} {bs3 bm3 sub3 : List Value} {sn3 : List Str} {ab3 : Bool} {col3 : Option Bool} {dd3 od1_3 od2_3 od3_3 an_3 : Option Addr} {k0_3 k1_3 k2_3 k3_3 k5_3 : Option Value} {oc1_3 oc2_3 oc3_3 kW3 doc3 pmm3 ctt3 : Value} {sl1_3 sl2_3 sl3_3 : Array (Option Value)} {vs3 : Array Value} {tf3 : Tok}
    (oC3 : K.lookup C3 = some (excClassObj nm3 q3 C3 N3 bs3 bm3 true sn3 sub3 ab3 col3 dd3 k0_3 k1_3 k2_3 k3_3 k5_3 "ValueError.__new__")) (rv3 : PySem.HandSPX.refsVE bm3 = true) (ib3 : initB' K C3 "position" = true)
    (iC3 : PySem.W.findIn K (.ref C3) "__init__" = some (some (.ref I3))) (tI3 : PySem.W.typeIn K (.ref I3) = some (.type "function"))
    (lI3 : K.lookup I3 = some ⟨oc1_3, od1_3, .func (PySem.W.fnX "__init__" qu3 (defArgs (inClass (topS 3) 0)) (defBody (inClass (topS 3) 0)) (initSc "position") [("__class__", cc3)] .none kW3 doc3 pmm3 an_3 (.ref cda3) ctt3), sl1_3⟩) (cI3 : PySem.W.codeIn K (.ref cda3) qu3 = true)
    (lD3 : K.lookup cda3 = some ⟨oc2_3, od2_3, .fields vs3, sl2_3⟩) (vD3 : vs3[2]? = some (.str fl3 tf3)) (fD3 : (l.prog.main.file == fl3) = true) (lc3 : K.lookup cc3 = some ⟨oc3_3, od3_3, .cell (some (.ref C3)), sl3_3⟩)
    {nm4 q4 qu4 fl4 : Str} {N4 I4 cc4 cda4 : Addr} {bs4 bm4 sub4 : List Value} {sn4 : List Str} {ab4 : Bool} {col4 : Option Bool} {dd4 od1_4 od2_4 od3_4 an_4 : Option Addr} {k0_4 k1_4 k2_4 k3_4 k5_4 : Option Value} {oc1_4 oc2_4 oc3_4 kW4 doc4 pmm4 ctt4 : Value} {sl1_4 sl2_4 sl3_4 : Array (Option Value)} {vs4 : Array Value} {tf4 : Tok}
    (oC4 : K.lookup C4 = some (excClassObj nm4 q4 C4 N4 bs4 bm4 true sn4 sub4 ab4 col4 dd4 k0_4 k1_4 k2_4 k3_4 k5_4 "ValueError.__new__")) (rv4 : PySem.HandSPX.refsVE bm4 = true) (ib4 : initB' K C4 "reason" = true)
    (iC4 : PySem.W.findIn K (.ref C4) "__init__" = some (some (.ref I4))) (tI4 : PySem.W.typeIn K (.ref I4) = some (.type "function"))
    (lI4 : K.lookup I4 = some ⟨oc1_4, od1_4, .func (PySem.W.fnX "__init__" qu4 (defArgs (inClass (topS 4) 0)) (defBody (inClass (topS 4) 0)) (initSc "reason") [("__class__", cc4)] .none kW4 doc4 pmm4 an_4 (.ref cda4) ctt4), sl1_4⟩) (cI4 : PySem.W.codeIn K (.ref cda4) qu4 = true)
    (lD4 : K.lookup cda4 = some ⟨oc2_4, od2_4, .fields vs4, sl2_4⟩) (vD4 : vs4[2]? = some (.str fl4 tf4)) (fD4 : (l.prog.main.file == fl4) = true) (lc4 : K.lookup cc4 = some ⟨oc3_4, od3_4, .cell (some (.ref C4)), sl3_4⟩)
    {nm5 q5 qu5 fl5 : Str} {N5 I5 cc5 cda5 : Addr} {bs5 bm5 sub5 : List Value} {sn5 : List Str} {ab5 : Bool} {col5 : Option Bool} {dd5 od1_5 od2_5 od3_5 an_5 : Option Addr} {k0_5 k1_5 k2_5 k3_5 k5_5 : Option Value} {oc1_5 oc2_5 oc3_5 kW5 doc5 pmm5 ctt5 : Value} {sl1_5 sl2_5 sl3_5 : Array (Option Value)} {vs5 : Array Value} {tf5 : Tok}
    (oC5 : K.lookup C5 = some (excClassObj nm5 q5 C5 N5 bs5 bm5 true sn5 sub5 ab5 col5 dd5 k0_5 k1_5 k2_5 k3_5 k5_5 "ValueError.__new__")) (rv5 : PySem.HandSPX.refsVE bm5 = true) (ib5 : initB' K C5 "reason" = true)
    (iC5 : PySem.W.findIn K (.ref C5) "__init__" = some (some (.ref I5))) (tI5 : PySem.W.typeIn K (.ref I5) = some (.type "function"))
    (lI5 : K.lookup I5 = some ⟨oc1_5, od1_5, .func (PySem.W.fnX "__init__" qu5 (defArgs (inClass (topS 5) 0)) (defBody (inClass (topS 5) 0)) (initSc "reason") [("__class__", cc5)] .none kW5 doc5 pmm5 an_5 (.ref cda5) ctt5), sl1_5⟩) (cI5 : PySem.W.codeIn K (.ref cda5) qu5 = true)
    (lD5 : K.lookup cda5 = some ⟨oc2_5, od2_5, .fields vs5, sl2_5⟩) (vD5 : vs5[2]? = some (.str fl5 tf5)) (fD5 : (l.prog.main.file == fl5) = true) (lc5 : K.lookup cc5 = some ⟨oc3_5, od3_5, .cell (some (.ref C5)), sl3_5⟩)
    (xC6 : PySem.W.excIn K C6 [.type "ValueError", .type "Exception", .type "BaseException", .type "object"] "ValueError.__new__" = true)
    (xC7 : PySem.W.excIn K C7 [.type "ValueError", .type "Exception", .type "BaseException", .type "object"] "ValueError.__new__" = true)
    {nm8 q8 qu8 fl8 : Str} {N8 I8 cc8 cda8 : Addr} {bs8 bm8 sub8 : List Value} {sn8 : List Str} {ab8 : Bool} {col8 : Option Bool} {dd8 od1_8 od2_8 od3_8 an_8 : Option Addr} {k0_8 k1_8 k2_8 k3_8 k5_8 : Option Value} {oc1_8 oc2_8 oc3_8 kW8 doc8 pmm8 ctt8 : Value} {sl1_8 sl2_8 sl3_8 : Array (Option Value)} {vs8 : Array Value} {tf8 : Tok}
    (oC8 : K.lookup C8 = some (excClassObj nm8 q8 C8 N8 bs8 bm8 true sn8 sub8 ab8 col8 dd8 k0_8 k1_8 k2_8 k3_8 k5_8 "ValueError.__new__")) (rv8 : PySem.HandSPX.refsVE bm8 = true) (ib8 : initB' K C8 "place" = true)
    (iC8 : PySem.W.findIn K (.ref C8) "__init__" = some (some (.ref I8))) (tI8 : PySem.W.typeIn K (.ref I8) = some (.type "function"))
    (lI8 : K.lookup I8 = some ⟨oc1_8, od1_8, .func (PySem.W.fnX "__init__" qu8 (defArgs (inClass (topS 8) 0)) (defBody (inClass (topS 8) 0)) (initSc "place") [("__class__", cc8)] .none kW8 doc8 pmm8 an_8 (.ref cda8) ctt8), sl1_8⟩) (cI8 : PySem.W.codeIn K (.ref cda8) qu8 = true)
    (lD8 : K.lookup cda8 = some ⟨oc2_8, od2_8, .fields vs8, sl2_8⟩) (vD8 : vs8[2]? = some (.str fl8 tf8)) (fD8 : (l.prog.main.file == fl8) = true) (lc8 : K.lookup cc8 = some ⟨oc3_8, od3_8, .cell (some (.ref C8)), sl3_8⟩)
    {nm9 q9 qu9 fl9 : Str} {N9 I9 cc9 cda9 : Addr} {bs9 bm9 sub9 : List Value} {sn9 : List Str} {ab9 : Bool} {col9 : Option Bool} {dd9 od1_9 od2_9 od3_9 an_9 : Option Addr} {k0_9 k1_9 k2_9 k3_9 k5_9 : Option Value} {oc1_9 oc2_9 oc3_9 kW9 doc9 pmm9 ctt9 : Value} {sl1_9 sl2_9 sl3_9 : Array (Option Value)} {vs9 : Array Value} {tf9 : Tok}
    (oC9 : K.lookup C9 = some (excClassObj nm9 q9 C9 N9 bs9 bm9 true sn9 sub9 ab9 col9 dd9 k0_9 k1_9 k2_9 k3_9 k5_9 "ValueError.__new__")) (rv9 : PySem.HandSPX.refsVE bm9 = true) (ib9 : initB' K C9 "place" = true)
    (iC9 : PySem.W.findIn K (.ref C9) "__init__" = some (some (.ref I9))) (tI9 : PySem.W.typeIn K (.ref I9) = some (.type "function"))
    (lI9 : K.lookup I9 = some ⟨oc1_9, od1_9, .func (PySem.W.fnX "__init__" qu9 (defArgs (inClass (topS 9) 0)) (defBody (inClass (topS 9) 0)) (initSc "place") [("__class__", cc9)] .none kW9 doc9 pmm9 an_9 (.ref cda9) ctt9), sl1_9⟩) (cI9 : PySem.W.codeIn K (.ref cda9) qu9 = true)
    (lD9 : K.lookup cda9 = some ⟨oc2_9, od2_9, .fields vs9, sl2_9⟩) (vD9 : vs9[2]? = some (.str fl9 tf9)) (fD9 : (l.prog.main.file == fl9) = true) (lc9 : K.lookup cc9 = some ⟨oc3_9, od3_9, .cell (some (.ref C9)), sl3_9⟩)
    {nm10 q10 qu10 fl10 : Str} {N10 I10 cc10 cda10 : Addr} {bs10 bm10 sub10 : List Value} {sn10 : List Str} {ab10 : Bool} {col10 : Option Bool} {dd10 od1_10 od2_10 od3_10 an_10 : Option Addr} {k0_10 k1_10 k2_10 k3_10 k5_10 : Option Value} {oc1_10 oc2_10 oc3_10 kW10 doc10 pmm10 ctt10 : Value} {sl1_10 sl2_10 sl3_10 : Array (Option Value)} {vs10 : Array Value} {tf10 : Tok}
    (oC10 : K.lookup C10 = some (excClassObj nm10 q10 C10 N10 bs10 bm10 true sn10 sub10 ab10 col10 dd10 k0_10 k1_10 k2_10 k3_10 k5_10 "ValueError.__new__")) (rv10 : PySem.HandSPX.refsVE bm10 = true) (ib10 : initB' K C10 "number" = true)
    (iC10 : PySem.W.findIn K (.ref C10) "__init__" = some (some (.ref I10))) (tI10 : PySem.W.typeIn K (.ref I10) = some (.type "function"))
    (lI10 : K.lookup I10 = some ⟨oc1_10, od1_10, .func (PySem.W.fnX "__init__" qu10 (defArgs (inClass (topS 10) 0)) (defBody (inClass (topS 10) 0)) (initSc "number") [("__class__", cc10)] .none kW10 doc10 pmm10 an_10 (.ref cda10) ctt10), sl1_10⟩) (cI10 : PySem.W.codeIn K (.ref cda10) qu10 = true)
    (lD10 : K.lookup cda10 = some ⟨oc2_10, od2_10, .fields vs10, sl2_10⟩) (vD10 : vs10[2]? = some (.str fl10 tf10)) (fD10 : (l.prog.main.file == fl10) = true) (lc10 : K.lookup cc10 = some ⟨oc3_10, od3_10, .cell (some (.ref C10)), sl3_10⟩)
    {nm11 q11 qu11 fl11 : Str} {N11 I11 cc11 cda11 : Addr} {bs11 bm11 sub11 : List Value} {sn11 : List Str} {ab11 : Bool} {col11 : Option Bool} {dd11 od1_11 od2_11 od3_11 an_11 : Option Addr} {k0_11 k1_11 k2_11 k3_11 k5_11 : Option Value} {oc1_11 oc2_11 oc3_11 kW11 doc11 pmm11 ctt11 : Value} {sl1_11 sl2_11 sl3_11 : Array (Option Value)} {vs11 : Array Value} {tf11 : Tok}
    (oC11 : K.lookup C11 = some (excClassObj nm11 q11 C11 N11 bs11 bm11 true sn11 sub11 ab11 col11 dd11 k0_11 k1_11 k2_11 k3_11 k5_11 "ValueError.__new__")) (rv11 : PySem.HandSPX.refsVE bm11 = true) (ib11 : initB' K C11 "name" = true)
    (iC11 : PySem.W.findIn K (.ref C11) "__init__" = some (some (.ref I11))) (tI11 : PySem.W.typeIn K (.ref I11) = some (.type "function"))
    (lI11 : K.lookup I11 = some ⟨oc1_11, od1_11, .func (PySem.W.fnX "__init__" qu11 (defArgs (inClass (topS 11) 0)) (defBody (inClass (topS 11) 0)) (initSc "name") [("__class__", cc11)] .none kW11 doc11 pmm11 an_11 (.ref cda11) ctt11), sl1_11⟩) (cI11 : PySem.W.codeIn K (.ref cda11) qu11 = true)
    (lD11 : K.lookup cda11 = some ⟨oc2_11, od2_11, .fields vs11, sl2_11⟩) (vD11 : vs11[2]? = some (.str fl11 tf11)) (fD11 : (l.prog.main.file == fl11) = true) (lc11 : K.lookup cc11 = some ⟨oc3_11, od3_11, .cell (some (.ref C11)), sl3_11⟩)
    (xC12 : PySem.W.excIn K C12 [.type "ValueError", .type "Exception", .type "BaseException", .type "object"] "ValueError.__new__" = true)
    (xC13 : PySem.W.excIn K C13 [.type "ValueError", .type "Exception", .type "BaseException", .type "object"] "ValueError.__new__" = true)
    {nm14 q14 qu14 fl14 : Str} {N14 I14 cc14 cda14 : Addr} {bs14 bm14 sub14 : List Value} {sn14 : List Str} {ab14 : Bool} {col14 : Option Bool} {dd14 od1_14 od2_14 od3_14 an_14 : Option Addr} {k0_14 k1_14 k2_14 k3_14 k5_14 : Option Value} {oc1_14 oc2_14 oc3_14 kW14 doc14 pmm14 ctt14 : Value} {sl1_14 sl2_14 sl3_14 : Array (Option Value)} {vs14 : Array Value} {tf14 : Tok}
    (oC14 : K.lookup C14 = some (excClassObj nm14 q14 C14 N14 bs14 bm14 true sn14 sub14 ab14 col14 dd14 k0_14 k1_14 k2_14 k3_14 k5_14 "ValueError.__new__")) (rv14 : PySem.HandSPX.refsVE bm14 = true) (ib14 : initB' K C14 "what" = true)
    (iC14 : PySem.W.findIn K (.ref C14) "__init__" = some (some (.ref I14))) (tI14 : PySem.W.typeIn K (.ref I14) = some (.type "function"))
    (lI14 : K.lookup I14 = some ⟨oc1_14, od1_14, .func (PySem.W.fnX "__init__" qu14 (defArgs (inClass (topS 14) 0)) (defBody (inClass (topS 14) 0)) (initSc "what") [("__class__", cc14)] .none kW14 doc14 pmm14 an_14 (.ref cda14) ctt14), sl1_14⟩) (cI14 : PySem.W.codeIn K (.ref cda14) qu14 = true)
    (lD14 : K.lookup cda14 = some ⟨oc2_14, od2_14, .fields vs14, sl2_14⟩) (vD14 : vs14[2]? = some (.str fl14 tf14)) (fD14 : (l.prog.main.file == fl14) = true) (lc14 : K.lookup cc14 = some ⟨oc3_14, od3_14, .cell (some (.ref C14)), sl3_14⟩)
    {nm15 q15 qu15 fl15 : Str} {N15 I15 cc15 cda15 : Addr} {bs15 bm15 sub15 : List Value} {sn15 : List Str} {ab15 : Bool} {col15 : Option Bool} {dd15 od1_15 od2_15 od3_15 an_15 : Option Addr} {k0_15 k1_15 k2_15 k3_15 k5_15 : Option Value} {oc1_15 oc2_15 oc3_15 kW15 doc15 pmm15 ctt15 : Value} {sl1_15 sl2_15 sl3_15 : Array (Option Value)} {vs15 : Array Value} {tf15 : Tok}
    (oC15 : K.lookup C15 = some (excClassObj nm15 q15 C15 N15 bs15 bm15 true sn15 sub15 ab15 col15 dd15 k0_15 k1_15 k2_15 k3_15 k5_15 "ValueError.__new__")) (rv15 : PySem.HandSPX.refsVE bm15 = true) (ib15 : initB' K C15 "what" = true)
    (iC15 : PySem.W.findIn K (.ref C15) "__init__" = some (some (.ref I15))) (tI15 : PySem.W.typeIn K (.ref I15) = some (.type "function"))
    (lI15 : K.lookup I15 = some ⟨oc1_15, od1_15, .func (PySem.W.fnX "__init__" qu15 (defArgs (inClass (topS 15) 0)) (defBody (inClass (topS 15) 0)) (initSc "what") [("__class__", cc15)] .none kW15 doc15 pmm15 an_15 (.ref cda15) ctt15), sl1_15⟩) (cI15 : PySem.W.codeIn K (.ref cda15) qu15 = true)
    (lD15 : K.lookup cda15 = some ⟨oc2_15, od2_15, .fields vs15, sl2_15⟩) (vD15 : vs15[2]? = some (.str fl15 tf15)) (fD15 : (l.prog.main.file == fl15) = true) (lc15 : K.lookup cc15 = some ⟨oc3_15, od3_15, .cell (some (.ref C15)), sl3_15⟩)
    {nm16 q16 qu16 fl16 : Str} {N16 I16 cc16 cda16 : Addr} {bs16 bm16 sub16 : List Value} {sn16 : List Str} {ab16 : Bool} {col16 : Option Bool} {dd16 od1_16 od2_16 od3_16 an_16 : Option Addr} {k0_16 k1_16 k2_16 k3_16 k5_16 : Option Value} {oc1_16 oc2_16 oc3_16 kW16 doc16 pmm16 ctt16 : Value} {sl1_16 sl2_16 sl3_16 : Array (Option Value)} {vs16 : Array Value} {tf16 : Tok}
    (oC16 : K.lookup C16 = some (excClassObj nm16 q16 C16 N16 bs16 bm16 true sn16 sub16 ab16 col16 dd16 k0_16 k1_16 k2_16 k3_16 k5_16 "ValueError.__new__")) (rv16 : PySem.HandSPX.refsVE bm16 = true) (ib16 : initB' K C16 "limit" = true)
    (iC16 : PySem.W.findIn K (.ref C16) "__init__" = some (some (.ref I16))) (tI16 : PySem.W.typeIn K (.ref I16) = some (.type "function"))
    (lI16 : K.lookup I16 = some ⟨oc1_16, od1_16, .func (PySem.W.fnX "__init__" qu16 (defArgs (inClass (topS 16) 0)) (defBody (inClass (topS 16) 0)) (initSc "limit") [("__class__", cc16)] .none kW16 doc16 pmm16 an_16 (.ref cda16) ctt16), sl1_16⟩) (cI16 : PySem.W.codeIn K (.ref cda16) qu16 = true)
    (lD16 : K.lookup cda16 = some ⟨oc2_16, od2_16, .fields vs16, sl2_16⟩) (vD16 : vs16[2]? = some (.str fl16 tf16)) (fD16 : (l.prog.main.file == fl16) = true) (lc16 : K.lookup cc16 = some ⟨oc3_16, od3_16, .cell (some (.ref C16)), sl3_16⟩)
    (xC17 : PySem.W.excIn K C17 [.type "ValueError", .type "Exception", .type "BaseException", .type "object"] "ValueError.__new__" = true)
    {nm18 q18 qu18 fl18 : Str} {N18 I18 cc18 cda18 : Addr} {bs18 bm18 sub18 : List Value} {sn18 : List Str} {ab18 : Bool} {col18 : Option Bool} {dd18 od1_18 od2_18 od3_18 an_18 : Option Addr} {k0_18 k1_18 k2_18 k3_18 k5_18 : Option Value} {oc1_18 oc2_18 oc3_18 kW18 doc18 pmm18 ctt18 : Value} {sl1_18 sl2_18 sl3_18 : Array (Option Value)} {vs18 : Array Value} {tf18 : Tok}
    (oC18 : K.lookup C18 = some (excClassObj nm18 q18 C18 N18 bs18 bm18 true sn18 sub18 ab18 col18 dd18 k0_18 k1_18 k2_18 k3_18 k5_18 "ValueError.__new__")) (rv18 : PySem.HandSPX.refsVE bm18 = true) (ib18 : initB' K C18 "name" = true)
    (iC18 : PySem.W.findIn K (.ref C18) "__init__" = some (some (.ref I18))) (tI18 : PySem.W.typeIn K (.ref I18) = some (.type "function"))
    (lI18 : K.lookup I18 = some ⟨oc1_18, od1_18, .func (PySem.W.fnX "__init__" qu18 (defArgs (inClass (topS 18) 0)) (defBody (inClass (topS 18) 0)) (initSc "name") [("__class__", cc18)] .none kW18 doc18 pmm18 an_18 (.ref cda18) ctt18), sl1_18⟩) (cI18 : PySem.W.codeIn K (.ref cda18) qu18 = true)
    (lD18 : K.lookup cda18 = some ⟨oc2_18, od2_18, .fields vs18, sl2_18⟩) (vD18 : vs18[2]? = some (.str fl18 tf18)) (fD18 : (l.prog.main.file == fl18) = true) (lc18 : K.lookup cc18 = some ⟨oc3_18, od3_18, .cell (some (.ref C18)), sl3_18⟩)
    {nm19 q19 qu19 fl19 : Str} {N19 I19 cc19 cda19 : Addr} {bs19 bm19 sub19 : List Value} {sn19 : List Str} {ab19 : Bool} {col19 : Option Bool} {dd19 od1_19 od2_19 od3_19 an_19 : Option Addr} {k0_19 k1_19 k2_19 k3_19 k5_19 : Option Value} {oc1_19 oc2_19 oc3_19 kW19 doc19 pmm19 ctt19 : Value} {sl1_19 sl2_19 sl3_19 : Array (Option Value)} {vs19 : Array Value} {tf19 : Tok}
    (oC19 : K.lookup C19 = some (excClassObj nm19 q19 C19 N19 bs19 bm19 true sn19 sub19 ab19 col19 dd19 k0_19 k1_19 k2_19 k3_19 k5_19 "ValueError.__new__")) (rv19 : PySem.HandSPX.refsVE bm19 = true) (ib19 : initB' K C19 "name" = true)
    (iC19 : PySem.W.findIn K (.ref C19) "__init__" = some (some (.ref I19))) (tI19 : PySem.W.typeIn K (.ref I19) = some (.type "function"))
    (lI19 : K.lookup I19 = some ⟨oc1_19, od1_19, .func (PySem.W.fnX "__init__" qu19 (defArgs (inClass (topS 19) 0)) (defBody (inClass (topS 19) 0)) (initSc "name") [("__class__", cc19)] .none kW19 doc19 pmm19 an_19 (.ref cda19) ctt19), sl1_19⟩) (cI19 : PySem.W.codeIn K (.ref cda19) qu19 = true)
    (lD19 : K.lookup cda19 = some ⟨oc2_19, od2_19, .fields vs19, sl2_19⟩) (vD19 : vs19[2]? = some (.str fl19 tf19)) (fD19 : (l.prog.main.file == fl19) = true) (lc19 : K.lookup cc19 = some ⟨oc3_19, od3_19, .cell (some (.ref C19)), sl3_19⟩)
    (xC20 : PySem.W.excIn K C20 [.type "ValueError", .type "Exception", .type "BaseException", .type "object"] "ValueError.__new__" = true)
    (xC21 : PySem.W.excIn K C21 [.type "ValueError", .type "Exception", .type "BaseException", .type "object"] "ValueError.__new__" = true)
    :
    ∃ fd : FuncData, (∀ (s : Shared) (v : Value), BindsTo s fd ⟨[v], []⟩ [("script", v)]) ∧ ∀ base : Heap, K.In base → base.Ns mainGlobals mg → FnOk l.prog w K mg base CX0 4 fa fd ["script"] (sp_law K) := by
  have e := hfa.symm.trans (PySem.W.mg_of X G a7)
  cases e
  have F0 := fun_mk (st := s__law_reader) l0 c0 k0
  have F1 := fun_mk (st := s__law_next) l1 c1 k1
  have F2 := fun_mk (st := s__law_same) l2 c2 k2
  have F3 := fun_mk (st := s__law_inputs) l3 c3 k3
  have F4 := fun_mk (st := s__law_others) l4 c4 k4
  have F5 := fun_mk (st := s__law_is) l5 c5 k5
  have F6 := fun_mk (st := s__law_attributes) l6 c6 k6
  have F7 := fun_mk (st := s_law) l7 c7 k7
  obtain ⟨e1, e2, e3, e4⟩ := errsB_ok eB
  have ix3 := initB_ok ib3
  have ox3 : OexC K C3 := ⟨⟨nm3, q3, N3, bs3, bm3, sn3, sub3, ab3, col3, dd3, k0_3, k1_3, k2_3, k3_3, k5_3, oC3, rv3⟩, ix3.2.2.2.2.1, ix3.2.2.2.2.2.1, ix3.2.2.2.2.2.2, e1 3 (by decide)⟩
  have ix4 := initB_ok ib4
  have ox4 : OexC K C4 := ⟨⟨nm4, q4, N4, bs4, bm4, sn4, sub4, ab4, col4, dd4, k0_4, k1_4, k2_4, k3_4, k5_4, oC4, rv4⟩, ix4.2.2.2.2.1, ix4.2.2.2.2.2.1, ix4.2.2.2.2.2.2, e1 4 (by decide)⟩
  have ix5 := initB_ok ib5
  have ox5 : OexC K C5 := ⟨⟨nm5, q5, N5, bs5, bm5, sn5, sub5, ab5, col5, dd5, k0_5, k1_5, k2_5, k3_5, k5_5, oC5, rv5⟩, ix5.2.2.2.2.1, ix5.2.2.2.2.2.1, ix5.2.2.2.2.2.2, e1 5 (by decide)⟩
  have ix8 := initB_ok ib8
  have ox8 : OexC K C8 := ⟨⟨nm8, q8, N8, bs8, bm8, sn8, sub8, ab8, col8, dd8, k0_8, k1_8, k2_8, k3_8, k5_8, oC8, rv8⟩, ix8.2.2.2.2.1, ix8.2.2.2.2.2.1, ix8.2.2.2.2.2.2, e1 8 (by decide)⟩
  have ix9 := initB_ok ib9
  have ox9 : OexC K C9 := ⟨⟨nm9, q9, N9, bs9, bm9, sn9, sub9, ab9, col9, dd9, k0_9, k1_9, k2_9, k3_9, k5_9, oC9, rv9⟩, ix9.2.2.2.2.1, ix9.2.2.2.2.2.1, ix9.2.2.2.2.2.2, e1 9 (by decide)⟩
  have ix10 := initB_ok ib10
  have ox10 : OexC K C10 := ⟨⟨nm10, q10, N10, bs10, bm10, sn10, sub10, ab10, col10, dd10, k0_10, k1_10, k2_10, k3_10, k5_10, oC10, rv10⟩, ix10.2.2.2.2.1, ix10.2.2.2.2.2.1, ix10.2.2.2.2.2.2, e1 10 (by decide)⟩
  have ix11 := initB_ok ib11
  have ox11 : OexC K C11 := ⟨⟨nm11, q11, N11, bs11, bm11, sn11, sub11, ab11, col11, dd11, k0_11, k1_11, k2_11, k3_11, k5_11, oC11, rv11⟩, ix11.2.2.2.2.1, ix11.2.2.2.2.2.1, ix11.2.2.2.2.2.2, e1 11 (by decide)⟩
  have ix14 := initB_ok ib14
  have ox14 : OexC K C14 := ⟨⟨nm14, q14, N14, bs14, bm14, sn14, sub14, ab14, col14, dd14, k0_14, k1_14, k2_14, k3_14, k5_14, oC14, rv14⟩, ix14.2.2.2.2.1, ix14.2.2.2.2.2.1, ix14.2.2.2.2.2.2, e1 14 (by decide)⟩
  have ix15 := initB_ok ib15
  have ox15 : OexC K C15 := ⟨⟨nm15, q15, N15, bs15, bm15, sn15, sub15, ab15, col15, dd15, k0_15, k1_15, k2_15, k3_15, k5_15, oC15, rv15⟩, ix15.2.2.2.2.1, ix15.2.2.2.2.2.1, ix15.2.2.2.2.2.2, e1 15 (by decide)⟩
  have ix16 := initB_ok ib16
  have ox16 : OexC K C16 := ⟨⟨nm16, q16, N16, bs16, bm16, sn16, sub16, ab16, col16, dd16, k0_16, k1_16, k2_16, k3_16, k5_16, oC16, rv16⟩, ix16.2.2.2.2.1, ix16.2.2.2.2.2.1, ix16.2.2.2.2.2.2, e1 16 (by decide)⟩
  have ix18 := initB_ok ib18
  have ox18 : OexC K C18 := ⟨⟨nm18, q18, N18, bs18, bm18, sn18, sub18, ab18, col18, dd18, k0_18, k1_18, k2_18, k3_18, k5_18, oC18, rv18⟩, ix18.2.2.2.2.1, ix18.2.2.2.2.2.1, ix18.2.2.2.2.2.2, e1 18 (by decide)⟩
  have ix19 := initB_ok ib19
  have ox19 : OexC K C19 := ⟨⟨nm19, q19, N19, bs19, bm19, sn19, sub19, ab19, col19, dd19, k0_19, k1_19, k2_19, k3_19, k5_19, oC19, rv19⟩, ix19.2.2.2.2.1, ix19.2.2.2.2.2.1, ix19.2.2.2.2.2.2, e1 19 (by decide)⟩
  have T : Txt l.prog K mg (clsAt [(1, C1), (2, C2), (3, C3), (4, C4), (5, C5), (6, C6), (7, C7), (8, C8), (9, C9), (10, C10), (11, C11), (12, C12), (13, C13), (14, C14), (15, C15), (16, C16), (17, C17), (18, C18), (19, C19), (20, C20), (21, C21)]) := ⟨PySem.W.mg_none_of X G z0,
    PySem.W.mg_none_of X G z1,
    PySem.W.mg_none_of X G z2,
    PySem.W.mg_none_of X G z3,
    PySem.W.mg_none_of X G z4,
    PySem.W.mg_none_of X G z5,
    PySem.W.mg_none_of X G z6,
    PySem.W.mg_none_of X G z7,
    PySem.W.mg_none_of X G z8,
    ⟨⟨_, _, F0, PySem.W.mg_of X G a0, F0.binds (ps := ["script", "k"]) fun _ _ _ _ _ _ us hl => match us, hl with | [_, _], _ => rfl⟩⟩,
    ⟨⟨_, _, F1, PySem.W.mg_of X G a1, F1.binds (ps := ["reader", "size"]) fun _ _ _ _ _ _ us hl => match us, hl with | [_, _], _ => rfl⟩⟩,
    ⟨⟨_, _, F2, PySem.W.mg_of X G a2, F2.binds (ps := ["told", "due"]) fun _ _ _ _ _ _ us hl => match us, hl with | [_, _], _ => rfl⟩⟩,
    ⟨⟨_, _, F3, PySem.W.mg_of X G a3, F3.binds (ps := ["e"]) fun _ _ _ _ _ _ us hl => match us, hl with | [_], _ => rfl⟩⟩,
    ⟨⟨_, _, F4, PySem.W.mg_of X G a4, F4.binds (ps := ["e"]) fun _ _ _ _ _ _ us hl => match us, hl with | [_], _ => rfl⟩⟩,
    ⟨⟨_, _, F5, PySem.W.mg_of X G a5, F5.binds (ps := ["e", "number"]) fun _ _ _ _ _ _ us hl => match us, hl with | [_, _], _ => rfl⟩⟩,
    ⟨⟨_, _, F6, PySem.W.mg_of X G a6, F6.binds (ps := ["number", "word"]) fun _ _ _ _ _ _ us hl => match us, hl with | [_, _], _ => rfl⟩⟩,
    ⟨⟨_, _, F7, PySem.W.mg_of X G a7, F7.binds (ps := ["script"]) fun _ _ _ _ _ _ us hl => match us, hl with | [_], _ => rfl⟩⟩,
    PySem.W.mg_of X G g1,
    PySem.W.mg_of X G g2,
    PySem.W.mg_of X G g3,
    PySem.W.mg_of X G g4,
    PySem.W.mg_of X G g5,
    PySem.W.mg_of X G g6,
    PySem.W.mg_of X G g7,
    PySem.W.mg_of X G g8,
    PySem.W.mg_of X G g9,
    PySem.W.mg_of X G g10,
    PySem.W.mg_of X G g11,
    PySem.W.mg_of X G g12,
    PySem.W.mg_of X G g13,
    PySem.W.mg_of X G g14,
    PySem.W.mg_of X G g15,
    PySem.W.mg_of X G g16,
    PySem.W.mg_of X G g17,
    PySem.W.mg_of X G g18,
    PySem.W.mg_of X G g19,
    PySem.W.mg_of X G g20,
    PySem.W.mg_of X G g21,
    e1,
    e2,
    e3,
    e4,
    xC1,
    xC2,
    ox3,
    ⟨I3, cc3, cda3, _, qu3, ⟨⟨_, _, _, _, _, _, _, _, _, rfl, lI3⟩, cI3, ⟨_, _, _, _, _, _, lD3, vD3, fD3⟩, ⟨_, _, _, lc3⟩, ox3, ix3.1, ix3.2.1, ix3.2.2.1, opq, ix3.2.2.2.1, PySem.W.mg_none_of X G z8, rfl, tp⟩, iC3, tI3, .all fun us hl => match us, hl with | [_, _], _ => rfl⟩,
    ix3.2.2.2.1,
    ox4,
    ⟨I4, cc4, cda4, _, qu4, ⟨⟨_, _, _, _, _, _, _, _, _, rfl, lI4⟩, cI4, ⟨_, _, _, _, _, _, lD4, vD4, fD4⟩, ⟨_, _, _, lc4⟩, ox4, ix4.1, ix4.2.1, ix4.2.2.1, opq, ix4.2.2.2.1, PySem.W.mg_none_of X G z8, rfl, tp⟩, iC4, tI4, .all fun us hl => match us, hl with | [_, _], _ => rfl⟩,
    ix4.2.2.2.1,
    ox5,
    ⟨I5, cc5, cda5, _, qu5, ⟨⟨_, _, _, _, _, _, _, _, _, rfl, lI5⟩, cI5, ⟨_, _, _, _, _, _, lD5, vD5, fD5⟩, ⟨_, _, _, lc5⟩, ox5, ix5.1, ix5.2.1, ix5.2.2.1, opq, ix5.2.2.2.1, PySem.W.mg_none_of X G z8, rfl, tp⟩, iC5, tI5, .all fun us hl => match us, hl with | [_, _], _ => rfl⟩,
    ix5.2.2.2.1,
    xC6,
    xC7,
    ox8,
    ⟨I8, cc8, cda8, _, qu8, ⟨⟨_, _, _, _, _, _, _, _, _, rfl, lI8⟩, cI8, ⟨_, _, _, _, _, _, lD8, vD8, fD8⟩, ⟨_, _, _, lc8⟩, ox8, ix8.1, ix8.2.1, ix8.2.2.1, opq, ix8.2.2.2.1, PySem.W.mg_none_of X G z8, rfl, tp⟩, iC8, tI8, .all fun us hl => match us, hl with | [_, _], _ => rfl⟩,
    ix8.2.2.2.1,
    ox9,
    ⟨I9, cc9, cda9, _, qu9, ⟨⟨_, _, _, _, _, _, _, _, _, rfl, lI9⟩, cI9, ⟨_, _, _, _, _, _, lD9, vD9, fD9⟩, ⟨_, _, _, lc9⟩, ox9, ix9.1, ix9.2.1, ix9.2.2.1, opq, ix9.2.2.2.1, PySem.W.mg_none_of X G z8, rfl, tp⟩, iC9, tI9, .all fun us hl => match us, hl with | [_, _], _ => rfl⟩,
    ix9.2.2.2.1,
    ox10,
    ⟨I10, cc10, cda10, _, qu10, ⟨⟨_, _, _, _, _, _, _, _, _, rfl, lI10⟩, cI10, ⟨_, _, _, _, _, _, lD10, vD10, fD10⟩, ⟨_, _, _, lc10⟩, ox10, ix10.1, ix10.2.1, ix10.2.2.1, opq, ix10.2.2.2.1, PySem.W.mg_none_of X G z8, rfl, tp⟩, iC10, tI10, .all fun us hl => match us, hl with | [_, _], _ => rfl⟩,
    ix10.2.2.2.1,
    ox11,
    ⟨I11, cc11, cda11, _, qu11, ⟨⟨_, _, _, _, _, _, _, _, _, rfl, lI11⟩, cI11, ⟨_, _, _, _, _, _, lD11, vD11, fD11⟩, ⟨_, _, _, lc11⟩, ox11, ix11.1, ix11.2.1, ix11.2.2.1, opq, ix11.2.2.2.1, PySem.W.mg_none_of X G z8, rfl, tp⟩, iC11, tI11, .all fun us hl => match us, hl with | [_, _], _ => rfl⟩,
    ix11.2.2.2.1,
    xC12,
    xC13,
    ox14,
    ⟨I14, cc14, cda14, _, qu14, ⟨⟨_, _, _, _, _, _, _, _, _, rfl, lI14⟩, cI14, ⟨_, _, _, _, _, _, lD14, vD14, fD14⟩, ⟨_, _, _, lc14⟩, ox14, ix14.1, ix14.2.1, ix14.2.2.1, opq, ix14.2.2.2.1, PySem.W.mg_none_of X G z8, rfl, tp⟩, iC14, tI14, .all fun us hl => match us, hl with | [_, _], _ => rfl⟩,
    ix14.2.2.2.1,
    ox15,
    ⟨I15, cc15, cda15, _, qu15, ⟨⟨_, _, _, _, _, _, _, _, _, rfl, lI15⟩, cI15, ⟨_, _, _, _, _, _, lD15, vD15, fD15⟩, ⟨_, _, _, lc15⟩, ox15, ix15.1, ix15.2.1, ix15.2.2.1, opq, ix15.2.2.2.1, PySem.W.mg_none_of X G z8, rfl, tp⟩, iC15, tI15, .all fun us hl => match us, hl with | [_, _], _ => rfl⟩,
    ix15.2.2.2.1,
    ox16,
    ⟨I16, cc16, cda16, _, qu16, ⟨⟨_, _, _, _, _, _, _, _, _, rfl, lI16⟩, cI16, ⟨_, _, _, _, _, _, lD16, vD16, fD16⟩, ⟨_, _, _, lc16⟩, ox16, ix16.1, ix16.2.1, ix16.2.2.1, opq, ix16.2.2.2.1, PySem.W.mg_none_of X G z8, rfl, tp⟩, iC16, tI16, .all fun us hl => match us, hl with | [_, _], _ => rfl⟩,
    ix16.2.2.2.1,
    xC17,
    ox18,
    ⟨I18, cc18, cda18, _, qu18, ⟨⟨_, _, _, _, _, _, _, _, _, rfl, lI18⟩, cI18, ⟨_, _, _, _, _, _, lD18, vD18, fD18⟩, ⟨_, _, _, lc18⟩, ox18, ix18.1, ix18.2.1, ix18.2.2.1, opq, ix18.2.2.2.1, PySem.W.mg_none_of X G z8, rfl, tp⟩, iC18, tI18, .all fun us hl => match us, hl with | [_, _], _ => rfl⟩,
    ix18.2.2.2.1,
    ox19,
    ⟨I19, cc19, cda19, _, qu19, ⟨⟨_, _, _, _, _, _, _, _, _, rfl, lI19⟩, cI19, ⟨_, _, _, _, _, _, lD19, vD19, fD19⟩, ⟨_, _, _, lc19⟩, ox19, ix19.1, ix19.2.1, ix19.2.2.1, opq, ix19.2.2.2.1, PySem.W.mg_none_of X G z8, rfl, tp⟩, iC19, tI19, .all fun us hl => match us, hl with | [_, _], _ => rfl⟩,
    ix19.2.2.2.1,
    xC20,
    xC21⟩
  refine ⟨PySem.W.fnOf "law" "law" (defArgs s_law) (defBody s_law) (defScope s_law) .none kV7 dc7 pm7 an7 cd7 ct7, fun s v => .of_eq rfl, fun base _ _ => ?_⟩
  exact ok_law (P := l.prog) (w := w) (base := base) T F7
end Pf
open PySem PySem.W PyProof.Rows
set_option maxRecDepth 100000 in
set_option maxHeartbeats 0 in
theorem PySem.Challenge.cw_allmends_k75_errors_by_position_holds : PySem.Challenge.rw_allmends_k75_errors_by_position.Holds := by
  w_on; o_law; k_head; (case hw => w_witness2)
  k_fill
  refine L2.walk_of (l := PySem.Challenge.rw_allmends_k75_errors_by_position) (n := 63) (k := 4) (x := "script") (CX := fun _ => L2.CX0) (sp := fun w => Pf.sp_law _) rfl (by decide) rfl ⟨rfl, by decide, by decide⟩ (fun w h Y => PySem.W.kIn_of Y) ?F (fun _ _ a ns hl _ hS => ⟨a, ns, rfl, hS, hl, fun _ => rfl⟩) (fun _ _ _ _ _ h => h)
  case F =>
    intro w mg fa h KX G hmg
    refine' Pf.all_mk KX G hmg ?a0 ?l0 ?c0 ?k0 ?a1 ?l1 ?c1 ?k1 ?a2 ?l2 ?c2 ?k2 ?a3 ?l3 ?c3 ?k3 ?a4 ?l4 ?c4 ?k4 ?a5 ?l5 ?c5 ?k5 ?a6 ?l6 ?c6 ?k6 ?a7 ?l7 ?c7 ?k7 ?z0 ?z1 ?z2 ?z3 ?z4 ?z5 ?z6 ?z7 ?z8 ?g1 ?g2 ?g3 ?g4 ?g5 ?g6 ?g7 ?g8 ?g9 ?g10 ?g11 ?g12 ?g13 ?g14 ?g15 ?g16 ?g17 ?g18 ?g19 ?g20 ?g21 ?eB ?opq ?tp ?xC1 ?xC2 ?oC3 ?rv3 ?ib3 ?iC3 ?tI3 ?lI3 ?cI3 ?lD3 ?vD3 ?fD3 ?lc3 ?oC4 ?rv4 ?ib4 ?iC4 ?tI4 ?lI4 ?cI4 ?lD4 ?vD4 ?fD4 ?lc4 ?oC5 ?rv5 ?ib5 ?iC5 ?tI5 ?lI5 ?cI5 ?lD5 ?vD5 ?fD5 ?lc5 ?xC6 ?xC7 ?oC8 ?rv8 ?ib8 ?iC8 ?tI8 ?lI8 ?cI8 ?lD8 ?vD8 ?fD8 ?lc8 ?oC9 ?rv9 ?ib9 ?iC9 ?tI9 ?lI9 ?cI9 ?lD9 ?vD9 ?fD9 ?lc9 ?oC10 ?rv10 ?ib10 ?iC10 ?tI10 ?lI10 ?cI10 ?lD10 ?vD10 ?fD10 ?lc10 ?oC11 ?rv11 ?ib11 ?iC11 ?tI11 ?lI11 ?cI11 ?lD11 ?vD11 ?fD11 ?lc11 ?xC12 ?xC13 ?oC14 ?rv14 ?ib14 ?iC14 ?tI14 ?lI14 ?cI14 ?lD14 ?vD14 ?fD14 ?lc14 ?oC15 ?rv15 ?ib15 ?iC15 ?tI15 ?lI15 ?cI15 ?lD15 ?vD15 ?fD15 ?lc15 ?oC16 ?rv16 ?ib16 ?iC16 ?tI16 ?lI16 ?cI16 ?lD16 ?vD16 ?fD16 ?lc16 ?xC17 ?oC18 ?rv18 ?ib18 ?iC18 ?tI18 ?lI18 ?cI18 ?lD18 ?vD18 ?fD18 ?lc18 ?oC19 ?rv19 ?ib19 ?iC19 ?tI19 ?lI19 ?cI19 ?lD19 ?vD19 ?fD19 ?lc19 ?xC20 ?xC21
    (case a0 => k_is); (case l0 => k_is); (case c0 => k_is); (case k0 => k_is); (case a1 => k_is); (case l1 => k_is)
    (case c1 => k_is); (case k1 => k_is); (case a2 => k_is); (case l2 => k_is); (case c2 => k_is); (case k2 => k_is)
    (case a3 => k_is); (case l3 => k_is); (case c3 => k_is); (case k3 => k_is); (case a4 => k_is); (case l4 => k_is)
    (case c4 => k_is); (case k4 => k_is); (case a5 => k_is); (case l5 => k_is); (case c5 => k_is); (case k5 => k_is)
    (case a6 => k_is); (case l6 => k_is); (case c6 => k_is); (case k6 => k_is); (case a7 => k_is); (case l7 => k_is)
    (case c7 => k_is); (case k7 => k_is); (case z0 => k_is); (case z1 => k_is); (case z2 => k_is); (case z3 => k_is)
    (case z4 => k_is); (case z5 => k_is); (case z6 => k_is); (case z7 => k_is); (case z8 => k_is); (case g1 => k_is)
    (case g2 => k_is); (case g3 => k_is); (case g4 => k_is); (case g5 => k_is); (case g6 => k_is); (case g7 => k_is)
    (case g8 => k_is); (case g9 => k_is); (case g10 => k_is); (case g11 => k_is); (case g12 => k_is); (case g13 => k_is)
    (case g14 => k_is); (case g15 => k_is); (case g16 => k_is); (case g17 => k_is); (case g18 => k_is); (case g19 => k_is)
    (case g20 => k_is); (case g21 => k_is); (case eB => kernel_rfl); (case opq => k_is); (case tp => rfl); (case xC1 => kernel_rfl)
    (case xC2 => kernel_rfl); (case oC3 => k_is); (case rv3 => decide +kernel); (case ib3 => kernel_rfl); (case iC3 => k_is); (case tI3 => k_is)
    (case lI3 => k_is); (case cI3 => k_is); (case lD3 => k_is); (case vD3 => rfl); (case fD3 => decide +kernel); (case lc3 => k_is)
    (case oC4 => k_is); (case rv4 => decide +kernel); (case ib4 => kernel_rfl); (case iC4 => k_is); (case tI4 => k_is); (case lI4 => k_is)
    (case cI4 => k_is); (case lD4 => k_is); (case vD4 => rfl); (case fD4 => decide +kernel); (case lc4 => k_is); (case oC5 => k_is)
    (case rv5 => decide +kernel); (case ib5 => kernel_rfl); (case iC5 => k_is); (case tI5 => k_is); (case lI5 => k_is); (case cI5 => k_is)
    (case lD5 => k_is); (case vD5 => rfl); (case fD5 => decide +kernel); (case lc5 => k_is); (case xC6 => kernel_rfl); (case xC7 => kernel_rfl)
    (case oC8 => k_is); (case rv8 => decide +kernel); (case ib8 => kernel_rfl); (case iC8 => k_is); (case tI8 => k_is); (case lI8 => k_is)
    (case cI8 => k_is); (case lD8 => k_is); (case vD8 => rfl); (case fD8 => decide +kernel); (case lc8 => k_is); (case oC9 => k_is)
    (case rv9 => decide +kernel); (case ib9 => kernel_rfl); (case iC9 => k_is); (case tI9 => k_is); (case lI9 => k_is); (case cI9 => k_is)
    (case lD9 => k_is); (case vD9 => rfl); (case fD9 => decide +kernel); (case lc9 => k_is); (case oC10 => k_is); (case rv10 => decide +kernel)
    (case ib10 => kernel_rfl); (case iC10 => k_is); (case tI10 => k_is); (case lI10 => k_is); (case cI10 => k_is); (case lD10 => k_is)
    (case vD10 => rfl); (case fD10 => decide +kernel); (case lc10 => k_is); (case oC11 => k_is); (case rv11 => decide +kernel); (case ib11 => kernel_rfl)
    (case iC11 => k_is); (case tI11 => k_is); (case lI11 => k_is); (case cI11 => k_is); (case lD11 => k_is); (case vD11 => rfl)
    (case fD11 => decide +kernel); (case lc11 => k_is); (case xC12 => kernel_rfl); (case xC13 => kernel_rfl); (case oC14 => k_is); (case rv14 => decide +kernel)
    (case ib14 => kernel_rfl); (case iC14 => k_is); (case tI14 => k_is); (case lI14 => k_is); (case cI14 => k_is); (case lD14 => k_is)
    (case vD14 => rfl); (case fD14 => decide +kernel); (case lc14 => k_is); (case oC15 => k_is); (case rv15 => decide +kernel); (case ib15 => kernel_rfl)
    (case iC15 => k_is); (case tI15 => k_is); (case lI15 => k_is); (case cI15 => k_is); (case lD15 => k_is); (case vD15 => rfl)
    (case fD15 => decide +kernel); (case lc15 => k_is); (case oC16 => k_is); (case rv16 => decide +kernel); (case ib16 => kernel_rfl); (case iC16 => k_is)
    (case tI16 => k_is); (case lI16 => k_is); (case cI16 => k_is); (case lD16 => k_is); (case vD16 => rfl); (case fD16 => decide +kernel)
    (case lc16 => k_is); (case xC17 => kernel_rfl); (case oC18 => k_is); (case rv18 => decide +kernel); (case ib18 => kernel_rfl); (case iC18 => k_is)
    (case tI18 => k_is); (case lI18 => k_is); (case cI18 => k_is); (case lD18 => k_is); (case vD18 => rfl); (case fD18 => decide +kernel)
    (case lc18 => k_is); (case oC19 => k_is); (case rv19 => decide +kernel); (case ib19 => kernel_rfl); (case iC19 => k_is); (case tI19 => k_is)
    (case lI19 => k_is); (case cI19 => k_is); (case lD19 => k_is); (case vD19 => rfl); (case fD19 => decide +kernel); (case lc19 => k_is)
    (case xC20 => kernel_rfl); (case xC21 => kernel_rfl)
