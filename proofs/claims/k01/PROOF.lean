import PyProof.Rows.All
import Wide.All
import OpenK.AllK
import Wide.FinOn
import HandS.ForMost
import HandS.IsInst
import HandS.Strs
import PySem.Challenge.RW_allmends_k01_value_of
set_option Elab.async false
set_option linter.all false
set_option maxRecDepth 100000
set_option maxHeartbeats 4000000
namespace Pf
open PySem PySem.Spec PyProof.Rows L2
def topS (i : Nat) : Stmt := PySem.Challenge.pw_allmends_k01_value_of.main.body.getD i (.Pass ⟨0, 0, 0, 0⟩)
abbrev s_value_of : Stmt := topS 1
theorem sc_value_of : FnScope ["expression", "names", "sight", "word", "left"] ["expression", "names", "sight"] (defScope s_value_of) := ⟨rfl, rfl, rfl, by decide +kernel, rfl, by decide +kernel, by decide +kernel⟩
abbrev s_joined : Stmt := topS 2
theorem sc_joined : FnScope ["operator", "left", "right"] ["operator", "left", "right"] (defScope s_joined) := ⟨rfl, rfl, rfl, by decide +kernel, rfl, by decide +kernel, by decide +kernel⟩
abbrev s_truth : Stmt := topS 3
theorem sc_truth : FnScope ["holds"] ["holds"] (defScope s_truth) := ⟨rfl, rfl, rfl, by decide +kernel, rfl, by decide +kernel, by decide +kernel⟩
abbrev s__law_cell : Stmt := topS 5
theorem sc__law_cell : FnScope ["script", "k"] ["script", "k"] (defScope s__law_cell) := ⟨rfl, rfl, rfl, by decide +kernel, rfl, by decide +kernel, by decide +kernel⟩
abbrev s__law_reader : Stmt := topS 6
theorem sc__law_reader : FnScope ["cell"] ["cell"] (defScope s__law_reader) := ⟨rfl, rfl, rfl, by decide +kernel, rfl, by decide +kernel, by decide +kernel⟩
abbrev s__law_next : Stmt := topS 7
theorem sc__law_next : FnScope ["reader", "size", "k", "rest", "mixed"] ["reader", "size"] (defScope s__law_next) := ⟨rfl, rfl, rfl, by decide +kernel, rfl, by decide +kernel, by decide +kernel⟩
abbrev s__law_same : Stmt := topS 8
theorem sc__law_same : FnScope ["told", "due", "k"] ["told", "due"] (defScope s__law_same) := ⟨rfl, rfl, rfl, by decide +kernel, rfl, by decide +kernel, by decide +kernel⟩
abbrev s__law_word : Stmt := topS 9
theorem sc__law_word : FnScope ["reader", "many", "signs", "word", "k"] ["reader", "many"] (defScope s__law_word) := ⟨rfl, rfl, rfl, by decide +kernel, rfl, by decide +kernel, by decide +kernel⟩
abbrev s__law_pool : Stmt := topS 10
theorem sc__law_pool : FnScope ["reader", "closed", "pool", "alike", "k", "word", "base", "last", "at", "first"] ["reader"] (defScope s__law_pool) := ⟨rfl, rfl, rfl, by decide +kernel, rfl, by decide +kernel, by decide +kernel⟩
abbrev s__law_deep : Stmt := topS 11
theorem sc__law_deep : FnScope ["reader", "names", "depth", "kind", "left"] ["reader", "names", "depth"] (defScope s__law_deep) := ⟨rfl, rfl, rfl, by decide +kernel, rfl, by decide +kernel, by decide +kernel⟩
abbrev s__law_value : Stmt := topS 12
theorem sc__law_value : FnScope ["expression", "names", "sight", "kind", "left", "right"] ["expression", "names", "sight"] (defScope s__law_value) := ⟨rfl, rfl, rfl, by decide +kernel, rfl, by decide +kernel, by decide +kernel⟩
abbrev s__law_parts : Stmt := topS 13
theorem sc__law_parts : FnScope ["expression", "found", "part"] ["expression"] (defScope s__law_parts) := ⟨rfl, rfl, rfl, by decide +kernel, rfl, by decide +kernel, by decide +kernel⟩
abbrev s__law_given : Stmt := topS 14
theorem sc__law_given : FnScope ["row", "as_tuple"] ["row", "as_tuple"] (defScope s__law_given) := ⟨rfl, rfl, rfl, by decide +kernel, rfl, by decide +kernel, by decide +kernel⟩
abbrev s_law : Stmt := topS 15
theorem sc_law : FnScope ["script", "reader", "names", "expression", "form", "sights", "turn", "labels", "sight", "part", "told", "k"] ["script"] (defScope s_law) := ⟨rfl, rfl, rfl, by decide +kernel, rfl, by decide +kernel, by decide +kernel⟩
/-- a def as it stands behind the top -/
structure DefAt (K : PySem.W.Frag) (mg : Str → Option Value) (x : Str) (st : Stmt) (ps : List Str) : Prop where
  ex : ∃ (f : Addr) (fd : FuncData), Fun K x x st f fd ∧ mg x = some (.ref f) ∧ Binds K fd ps []
/-- what a caller needs of a def -/
def Has (P : Program) (w : World) (K : PySem.W.Frag) (mg : Str → Option Value) (base : Heap) (k : Nat) (x : Str) (ps : List Str) (sp : Sp) : Prop :=
  ∃ (f : Addr) (fd : FuncData), FnOk P w K mg base CX0 k f fd ps sp ∧ mg x = some (.ref f) ∧ PySem.W.keepIn K (.ref f) = true ∧ Binds K fd ps []
theorem Has.none {P : Program} {w : World} {K : PySem.W.Frag} {mg : Str → Option Value} {base : Heap} {k : Nat} {x : Str} {st : Stmt} {ps : List Str} {sp : Sp} (D : DefAt K mg x st ps) (no : ∀ vs H Q E, ¬ sp vs H Q E) : Has P w K mg base k x ps sp := by
  obtain ⟨f, fd, F, m, b⟩ := D.ex
  exact ⟨f, fd, ⟨fun vs H Q E h => absurd h (no vs H Q E), fun A outer s H args us vs Q E _ _ _ _ h => absurd h (no vs H Q E)⟩, m, F.kp, b⟩
theorem Has.mono {P : Program} {w : World} {K : PySem.W.Frag} {mg : Str → Option Value} {base : Heap} {j k : Nat} {x : Str} {ps : List Str} {sp : Sp} (h : Has P w K mg base j x ps sp) (l : j ≤ k) : Has P w K mg base k x ps sp := by
  obtain ⟨f, fd, F, r⟩ := h
  exact ⟨f, fd, F.mono l, r⟩
structure Txt (K : PySem.W.Frag) (mg : Str → Option Value) : Prop where
  z_all : mg "all" = none
  z_bool : mg "bool" = none
  z_int : mg "int" = none
  z_isinstance : mg "isinstance" = none
  z_len : mg "len" = none
  z_list : mg "list" = none
  z_range : mg "range" = none
  z_str : mg "str" = none
  z_tuple : mg "tuple" = none
  d_value_of : DefAt K mg "value_of" s_value_of ["expression", "names", "sight"]
  d_joined : DefAt K mg "joined" s_joined ["operator", "left", "right"]
  d_truth : DefAt K mg "truth" s_truth ["holds"]
  d__law_cell : DefAt K mg "_law_cell" s__law_cell ["script", "k"]
  d__law_reader : DefAt K mg "_law_reader" s__law_reader ["cell"]
  d__law_next : DefAt K mg "_law_next" s__law_next ["reader", "size"]
  d__law_same : DefAt K mg "_law_same" s__law_same ["told", "due"]
  d__law_word : DefAt K mg "_law_word" s__law_word ["reader", "many"]
  d__law_pool : DefAt K mg "_law_pool" s__law_pool ["reader"]
  d__law_deep : DefAt K mg "_law_deep" s__law_deep ["reader", "names", "depth"]
  d__law_value : DefAt K mg "_law_value" s__law_value ["expression", "names", "sight"]
  d__law_parts : DefAt K mg "_law_parts" s__law_parts ["expression"]
  d__law_given : DefAt K mg "_law_given" s__law_given ["row", "as_tuple"]
  d_law : DefAt K mg "law" s_law ["script"]
/-! ### further rules -/
section
variable {X : Cx}
/-- two derivations of one expression -/
theorem pe_alt {e : Expr} {t u : TE} (h1 : PE X e t) (h2 : PE X e u) : PE X e (fun σ H Q => t σ H Q ∨ u σ H Q) :=
  ⟨fun pins s σ H Q I h => h.elim (h1.run pins s σ H Q I) (h2.run pins s σ H Q I)⟩
/-- tuple(list): the new object is known to have no dict of its own -/
def rTupF (K : PySem.W.Frag) : List V → Hp → VK → Prop := fun xs H Q => ∃ p ys, xs = [.ref p] ∧ SqL K H p ys ∧ ∀ l o, H l = none → o.cls = .type "tuple" → o.dict = none → Q (.ref l) (upd H l (.frz o (.tup ys)))
theorem call_tupleF : CallR X (.type "tuple") (rTupF X.K) := by
  intro pins s σ H xs us Q I r h
  obtain ⟨p, ys, rfl, hq, q⟩ := h
  obtain ⟨u, rfl, rx⟩ := vals1 r
  cases rx
  obtain ⟨its, r', pl, hz⟩ := I.list hq
  have hlen := r'.length
  refine call_tuple_list pl.isList (fun h' kp => ?_) (by simp only [List.size_toArray] <;> omega)
  have I1 : Inv X pins σ H { s with heap := h' } := I.kept (t' := s.toks) kp
  have e1 : (h'.push { cls := .type "tuple", data := .seq its.toArray }).get? h'.objs.size = some { cls := .type "tuple", data := .seq its.toArray } := Heap.get?_push_size _ rfl
  have I2 : Inv X pins σ (upd H h'.objs.size (.frz { cls := .type "tuple", data := .seq its.toArray } (.tup ys))) { s with heap := h'.push { cls := .type "tuple", data := .seq its.toArray } } :=
    I1.laid (t' := s.toks) (fun b o e => Heap.get?_push_of_some _ e) (Nat.le_refl _) (show ObjOk X.prog X.w _ _ _ (.frz _ (.tup ys)) from ⟨e1, hz, its, r', IsTup.new _ _⟩)
  exact ⟨.ref h'.objs.size, _, I2, rfl, q _ _ (I1.hok.fresh (Nat.le_refl _)) rfl rfl⟩
/-- a method of a tuple that was made so -/
def tyF (x : V) (H : Hp) : Prop := ∃ p o xs, x = .ref p ∧ H p = some (.frz o (.tup xs)) ∧ o.cls = .type "tuple" ∧ o.dict = none
def tBMF (r : V → List V → Hp → VK → Prop) (to : TE) (t : TA) : TE := fun σ H Q => to σ H fun x H1 => tyF x H1 ∧ t σ H1 fun xs H2 => r x xs H2 Q
theorem pe_bmF {o e : Expr} {es : List Expr} {to : TE} {t : TA} {name : Str} {apos cpos : Pos} {id : String} {r : V → List V → Hp → VK → Prop}
    (pa : PlainAttrs "tuple") (slot : Slot "tuple" name id) (hty : typeOf (.builtin id) = pure (.type "method_descriptor")) (hm : MtR X id r) (ho : PE X o to) (ha : PA X (e :: es) t)
    (hbase : attributeBase o name X.env (eval o X.env) = eval o X.env := by rfl)
    (hfew : ((backTo cpos (starEach (e :: es) X.env)).all (fun x => !x.1) && (backToKw cpos (keywordEach [] X.env)).all (fun x => x.1.isSome)
      && decide ((e :: es).length + ([] : List Keyword).length + (if ([] : List Keyword).isEmpty then 0 else 1) < 30)) = true := by rfl)
    (hline : (apos.endLine == cpos.line) = true := by rfl) (hs : starEach (e :: es) X.env = (false, eval e X.env) :: starEach es X.env := by rfl) (hplain : (backTo cpos (starEach es X.env)).any (·.1) = false := by rfl) :
    PE X (.Call (.Attribute o name apos) (e :: es) [] cpos) (tBMF r to t) := by
  refine ⟨fun pins s σ H Q I h => ?_⟩
  refine wpAny_Call_method_late hbase hfew hline rfl (thn (ho.run pins s σ H _ I h) fun v s1 ⟨x, H1, I1, r1, ty, q1⟩ => ?_)
  obtain ⟨p, ob, ys, rfl, hp, hc, hd⟩ := ty
  obtain ⟨e1, _⟩ := I1.hok p _ hp
  cases r1
  refine ⟨"tuple", id, pa, slot, hty, ⟨ob, e1, hc⟩, fun a e => ?_, ?_⟩
  · cases e
    exact ⟨ob, e1, hd⟩
  have hA := ha.run cpos pins s1 σ H1 _ I1 q1
  rw [hs] at hA ⊢
  refine Calls.callWith_builtin (by show (false || (backTo cpos (starEach es X.env)).any (·.1)) = false; rw [hplain] <;> rfl) (Calls.evalArgs_plain ?_)
  exact thn hA fun us s2 ⟨vs, H2, I2, r2, q2⟩ => hm pins s2 σ H2 (.ref p) vs (.ref p) us Q I2 rfl r2 q2
/-- xs.index(y), xs a list or a tuple made by tuple(..) -/
theorem pe_index {o e : Expr} {to te : TE} {apos cpos : Pos} (ho : PE X o to) (he : PE X e te)
    (hbase : attributeBase o "index" X.env (eval o X.env) = eval o X.env := by rfl)
    (hfew : ((backTo cpos (starEach [e] X.env)).all (fun x => !x.1) && (backToKw cpos (keywordEach [] X.env)).all (fun x => x.1.isSome)
      && decide ([e].length + ([] : List Keyword).length + (if ([] : List Keyword).isEmpty then 0 else 1) < 30)) = true := by rfl)
    (hline : (apos.endLine == cpos.line) = true := by rfl) (hs : starEach [e] X.env = (false, eval e X.env) :: starEach [] X.env := by rfl) (hplain : (backTo cpos (starEach [] X.env)).any (·.1) = false := by rfl) :
    PE X (.Call (.Attribute o "index" apos) [e] [] cpos) (fun σ H Q =>
      tBM X.K "list" (rIndex X.K) to (tCons te tNil) σ H Q ∨
      tBMF (fun x xs H Q => ∃ p, ∃ ys : List Str, ∃ z j, x = .ref p ∧ xs = [.str z] ∧ SqT X.K H p (ys.map V.str) ∧ ys[j]? = some z ∧ (∀ m, m < j → ys[m]? ≠ some z) ∧ Q (.int (j : Nat)) H) to (tCons te tNil) σ H Q) :=
  pe_alt (pe_bm PySem.F.plainAttrs_list PySem.F.slot_list_index PySem.F.type_list_index mt_index ho (pa_cons he pa_nil (hs := hs)) hbase hfew hline hs hplain)
    (pe_bmF PySem.F.plainAttrs_tuple PySem.F.slot_tuple_index PySem.F.type_tuple_index mt_tup_index ho (pa_cons he pa_nil (hs := hs)) hbase hfew hline hs hplain)
end
/-! ### the rules that speak of the written part, for the element of a comprehension: the part is named -/
section
variable {X : Cx} {K : PySem.W.Frag}
theorem ix_listK (h : X.K = K) : IxR X (rIxL K) := h ▸ ix_list
theorem ix_tupK (h : X.K = K) : IxR X (rIxT K) := h ▸ ix_tup
theorem ix_seqK (h : X.K = K) : IxR X (rIx K) := h ▸ ix_seq
theorem op_in_seqK (h : X.K = K) : OpR X (compareOp .In) (rIn K false) := h ▸ op_in_seq
theorem op_notIn_seqK (h : X.K = K) : OpR X (compareOp .NotIn) (rIn K true) := h ▸ op_notIn_seq
theorem sl_listK (h : X.K = K) : SlR X (rSlL K) := h ▸ sl_list
theorem sl_tupK (h : X.K = K) : SlR X (rSlT K) := h ▸ sl_tup
theorem call_isiK' (h : X.K = K) : CallR X (.builtin "isinstance") (rIsi K) := h ▸ call_isi
theorem call_len_seqK (h : X.K = K) : CallR X (.builtin "len") (fun xs H Q => ∃ p ys, xs = [.ref p] ∧ (SqL K H p ys ∨ SqT K H p ys) ∧ Q (.int ys.length) H) := h ▸ call_len_seq
end
/-! ### heaps: everything but what stands at r is as it was -/
def Fr (r : Addr) (H H' : Hp) : Prop := ∀ b o, b ≠ r → H b = some o → H' b = some o
theorem Fr.refl (r : Addr) (H : Hp) : Fr r H H := fun _ _ _ h => h
theorem Fr.trans {r : Addr} {H H1 H2 : Hp} (a : Fr r H H1) (b : Fr r H1 H2) : Fr r H H2 := fun c o n h => b c o n (a c o n h)
theorem Fr.of {r : Addr} {H H' : Hp} (a : Same H H') : Fr r H H' := fun c o _ h => a c o h
theorem Fr.new {r p : Addr} {H : Hp} {o : HO} (h : H p = none) : Fr r H (upd H p o) := fun b u _ e => by
  rw [upd_ne (ne_of_none e h)]
  exact e
theorem Fr.upd {r : Addr} {H : Hp} {o : HO} : Fr r H (upd H r o) := fun b u n e => by
  rw [upd_ne n]
  exact e
theorem Fr.mut {r p : Addr} {H H' : Hp} {o : HO} (a : Fr r H H') (h : H p = none) : Fr r H (L2.upd H' p o) := fun b u n e => by
  rw [upd_ne (ne_of_none e h)]
  exact a b u n e
theorem Fr.seq {K : PySem.W.Frag} {r : Addr} {H H' : Hp} {a : Addr} {xs : List V} (e : Fr r H H') (n : a ≠ r) (h : SqL K H a xs) : SqL K H' a xs := by
  rcases h with (h | ⟨o, h⟩) | h
  · exact .inl (.inl (e _ _ n h))
  · exact .inl (.inr ⟨o, e _ _ n h⟩)
  · exact .inr h
theorem same_new {H : Hp} {p : Addr} {o : HO} (h : H p = none) : Same H (upd H p o) := fun b u e => by
  rw [upd_ne (ne_of_none e h)]
  exact e
theorem same_mut {H H' : Hp} {p : Addr} {o : HO} (a : Same H H') (h : H p = none) : Same H (upd H' p o) := fun b u e => by
  rw [upd_ne (ne_of_none e h)]
  exact a b u e
theorem same_back {H H' : Hp} {p : Addr} (e : Same H H') (h : H' p = none) : H p = none := e.free h
/-- what tuples stood, stands -/
def Tp (H H' : Hp) : Prop := ∀ b xs, H b = some (.tup xs) → H' b = some (.tup xs)
theorem Tp.refl (H : Hp) : Tp H H := fun _ _ h => h
theorem Tp.trans {H H1 H2 : Hp} (a : Tp H H1) (b : Tp H1 H2) : Tp H H2 := fun c o h => b c o (a c o h)
theorem tps {H H' : Hp} (a : Same H H') : Tp H H' := fun b xs h => a b _ h
theorem tpn {H : Hp} {p : Addr} {o : HO} (h : H p = none) : Tp H (upd H p o) := tps (same_new h)
/-! ### a reader: a list of three ints -/
def RD (H : Hp) (r : Addr) : Prop := ∃ c k d : Int, H r = some (.lst [.int c, .int k, .int d])
theorem RD.of {H H' : Hp} {r : Addr} (h : RD H r) (e : Same H H') : RD H' r := by
  obtain ⟨c, k, d, h⟩ := h
  exact ⟨c, k, d, e _ _ h⟩
theorem RD.ne {H : Hp} {r p : Addr} (h : RD H r) (n : H p = none) : p ≠ r := by
  obtain ⟨c, k, d, h⟩ := h
  exact fun e => by
    subst e
    rw [n] at h
    cases h
theorem Fr.tp {r : Addr} {H H' : Hp} (a : Fr r H H') (h : RD H r) : Tp H H' := fun b xs e => by
  refine a b _ (fun z => ?_) e
  subst z
  obtain ⟨c, k, d, h⟩ := h
  rw [h] at e
  cases e
theorem Fr.free {r p : Addr} {H H' : Hp} (a : Fr r H H') (h : RD H r) (h' : RD H' r) (n : H' p = none) : H p = none := by
  cases q : H p with
  | none => rfl
  | some o =>
    have z := a p o (h'.ne n) q
    rw [n] at z
    cases z
/-! ### items -/
theorem at_in {α : Type} {xs : List α} {i : Int} (h0 : 0 ≤ i) (h : i < (xs.length : Int)) : ∃ x, xs[i.toNat]? = some x ∧ atI xs i = some x := by
  obtain ⟨n, rfl⟩ := Int.eq_ofNat_of_zero_le h0
  have h1 : n < xs.length := by omega
  have h2 : xs[n]? = some xs[n] := List.getElem?_eq_getElem h1
  exact ⟨xs[n], by simpa using h2, atI_nat h2⟩
theorem int_of_bl {i j : Int} (h : decide (V.int i = V.int j) = true) : i = j := V.int.inj (of_decide_eq_true h)
theorem int_ne_bl {i j : Int} (h : ¬ decide (V.int i = V.int j) = true) : i ≠ j := fun e => h (decide_eq_true (congrArg V.int e))
theorem dec_t {p : Prop} [Decidable p] (h : decide p = true) : p := of_decide_eq_true h
theorem dec_f {p : Prop} [Decidable p] (h : ¬ decide p = true) : ¬ p := fun z => h (decide_eq_true z)
theorem mod_lt {i n : Int} (h : 0 < n) : 0 ≤ i % n ∧ i % n < n := ⟨Int.emod_nonneg i (by omega), Int.emod_lt_of_pos i h⟩
theorem cut_to (xs : List V) (n : Nat) : cutV xs none (some (n : Int)) = xs.take n := by
  unfold cutV
  rw [HT.sIx_none, show HT.sIx xs.length xs.length (some (n : Int)) = min n xs.length from HT.sIx_nat xs.length xs.length n, Nat.sub_zero, List.drop_zero]
  by_cases h : n ≤ xs.length
  · rw [Nat.min_eq_left h]
  · rw [Nat.min_eq_right (by omega), List.take_length, List.take_of_length_le (by omega)]
theorem cut_from (xs : List V) (n : Nat) : cutV xs (some (n : Int)) none = xs.drop n := by
  unfold cutV
  rw [HT.sIx_none, show HT.sIx xs.length 0 (some (n : Int)) = min n xs.length from HT.sIx_nat xs.length 0 n]
  by_cases h : n ≤ xs.length
  · rw [Nat.min_eq_left h]
    exact List.take_of_length_le (by rw [List.length_drop]; exact Nat.le_refl _)
  · rw [Nat.min_eq_right (by omega), Nat.sub_self, List.take_zero, List.drop_of_length_le (by omega)]
theorem cutS_len (z : Str) (lo hi : Option Int) : (cutS z lo hi).length ≤ z.length := by
  show (List.toArray _).size ≤ z.cps.size
  rw [List.size_toArray, List.length_take, List.length_drop, Array.length_toList]
  omega
theorem str_at {z : Str} {i : Int} (h0 : 0 ≤ i) (h : i < (z.length : Int)) : ∃ c, atI z.cps.toList i = some c := by
  obtain ⟨c, _, e⟩ := at_in (xs := z.cps.toList) h0 (by rw [Array.length_toList]; exact h)
  exact ⟨c, e⟩
/-- what stood before r was laid -/
theorem Fr.back {r : Addr} {H0 H H' : Hp} (f : Fr r H H') (s : Same H0 H) (n : H0 r = none) : Same H0 H' := fun b o e => f b o (ne_of_none e n) (s b o e)
/-! ### texts of true signs -/
theorem sok_iff {x : Str} : PyData.strOk x = true ↔ ∀ c ∈ x.cps.toList, c < 0x110000 := by
  unfold PyData.strOk
  rw [← Array.all_toList, List.all_eq_true]
  constructor
  · intro h c hc
    exact of_decide_eq_true (h c hc)
  · intro h c hc
    exact decide_eq_true (h c hc)
theorem sok_app {x y : Str} (hx : PyData.strOk x = true) (hy : PyData.strOk y = true) : PyData.strOk (x ++ y) = true := by
  rw [sok_iff] at hx hy ⊢
  intro c hc
  have e : (x ++ y).cps.toList = x.cps.toList ++ y.cps.toList := Array.toList_append
  rw [e] at hc
  rcases List.mem_append.mp hc with h | h
  · exact hx c h
  · exact hy c h
theorem atI_mem {α : Type} {xs : List α} {i : Int} {x : α} (h : atI xs i = some x) : x ∈ xs := by
  unfold atI at h
  cases e : ixN xs.length i with
  | none => rw [e] at h; cases h
  | some j =>
    rw [e] at h
    exact List.mem_of_getElem? (show xs[j]? = some x from h)
theorem sok_one {z : Str} {i : Int} {c : Nat} (h : atI z.cps.toList i = some c) (hz : PyData.strOk z = true) : PyData.strOk ⟨#[c]⟩ = true := by
  rw [sok_iff] at hz ⊢
  intro d hd
  have e : d = c := by simpa using hd
  subst e
  exact hz d (atI_mem h)
theorem sok_cut {z : Str} {lo hi : Option Int} (hz : PyData.strOk z = true) : PyData.strOk (cutS z lo hi) = true := by
  rw [sok_iff] at hz ⊢
  intro d hd
  have e : d ∈ (z.cps.toList.drop (HT.sIx z.length 0 lo)).take (HT.sIx z.length z.length hi - HT.sIx z.length 0 lo) := by simpa [cutS] using hd
  exact hz d (List.mem_of_mem_drop (List.mem_of_mem_take e))

end Pf

namespace Pf
open PySem PySem.Spec PyProof.Rows L2
section
variable {P : Program} {w : World} {K : PySem.W.Frag} {mg : Str → Option Value} {base : Heap}
def sp__law_cell (K : PySem.W.Frag) : Sp := fun vs H Q _ => ∃ (a : Addr) (ns : List Int) (j : Nat), vs = [.ref a, .int (j : Int)] ∧ SqL K H a (ns.map V.int) ∧ ∀ c : Int, Q (.int c) H
theorem ok__law_cell (T : Txt K mg) : Has P w K mg base 1 "_law_cell" ["script", "k"] (sp__law_cell K) := by
  obtain ⟨f, fd, F, m, b⟩ := T.d__law_cell.ex
  refine ⟨f, fd, F.ok sc__law_cell (fun vs H Q E h => ?_) (fun cdv A outer s H vs Q E hr h => ?_), m, F.kp, b⟩
  · obtain ⟨a, ns, j, rfl, hS, q⟩ := h
    rfl
  obtain ⟨a, ns, j, rfl, hS, q⟩ := h
  refine ⟨_, (pss_cons (ps_if (pt_cmpR op_lt (pv 1) (pe_callB call_len_seq (by rfl) T.z_len (by decide +kernel) (pa_cons (pv 0) pa_nil)) (nomark _))
      (pss_one (ps_ret (pe_ix ix_list (pv 0) (pv 1) (fun _ _ => rfl))))
      pss_nil)
      (pss_one (ps_ret pe_int))), ?_⟩
  refine ⟨_, rfl, _, rfl, a, _, rfl, .inl hS, _, _, rfl, rfl, _, rfl, ite2 (fun e => ?_) (fun e => ?_)⟩
  · have e1 := dec_t e
    obtain ⟨x, h1, h2⟩ := at_in (xs := ns.map V.int) (i := (j : Int)) (by omega) e1
    rw [List.getElem?_map] at h1
    cases h3 : ns[(j : Int).toNat]? with
    | none => rw [h3] at h1; cases h1
    | some c =>
      rw [h3] at h1
      cases h1
      exact ⟨_, rfl, _, rfl, a, _, _, _, rfl, rfl, hS, h2, q c⟩
  · exact q 0

def sp__law_reader (K : PySem.W.Frag) : Sp := fun vs H Q _ => ∃ (c : Int), vs = [.int c] ∧ ∀ (p : Addr) H', H p = none → Same H H' → RD H' p → Q (.ref p) H'
theorem ok__law_reader (T : Txt K mg) : Has P w K mg base 1 "_law_reader" ["cell"] (sp__law_reader K) := by
  obtain ⟨f, fd, F, m, b⟩ := T.d__law_reader.ex
  refine ⟨f, fd, F.ok sc__law_reader (fun vs H Q E h => ?_) (fun cdv A outer s H vs Q E hr h => ?_), m, F.kp, b⟩
  · obtain ⟨c, rfl, q⟩ := h
    rfl
  obtain ⟨c, rfl, q⟩ := h
  refine ⟨_, (pss_one (ps_ret (pe_lst (pa_cons (pv 0) (pa_cons pe_int (pa_cons (pe_op op_sub (pv 0) (pe_op op_pow pe_int pe_int)) pa_nil)))))), ?_⟩
  refine ⟨_, rfl, _, rfl, _, _, rfl, rfl, ⟨by decide, by decide, by decide⟩, _, _, rfl, rfl, by show 3 ≤ sizeLine; decide, fun p hp => ?_⟩
  exact q p _ hp (same_new hp) ⟨_, _, _, upd_same⟩


end
end Pf

namespace Pf
open PySem PySem.Spec PyProof.Rows L2
section
variable {P : Program} {w : World} {K : PySem.W.Frag} {mg : Str → Option Value} {base : Heap}
def sp__law_next (K : PySem.W.Frag) : Sp := fun vs H Q _ => ∃ (r : Addr) (n : Int), vs = [.ref r, .int n] ∧ RD H r ∧ 0 < n ∧ n < 1073741824 ∧ ∀ (v : Int) H', Fr r H H' → RD H' r → 0 ≤ v → v < n → Q (.int v) H'
theorem g0 {x y z : V} : atI [x, y, z] 0 = some x := atI_nat (j := 0) rfl
theorem g1 {x y z : V} : atI [x, y, z] 1 = some y := atI_nat (j := 1) rfl
theorem g2 {x y z : V} : atI [x, y, z] 2 = some z := atI_nat (j := 2) rfl
theorem ok__law_next (T : Txt K mg) : Has P w K mg base 1 "_law_next" ["reader", "size"] (sp__law_next K) := by
  obtain ⟨f, fd, F, m, b⟩ := T.d__law_next.ex
  refine ⟨f, fd, F.ok sc__law_next (fun vs H Q E h => ?_) (fun cdv A outer s H vs Q E hr h => ?_), m, F.kp, b⟩
  · obtain ⟨r, n, rfl, hR, h0, h1, q⟩ := h
    rfl
  obtain ⟨r, n, rfl, hR, h0, h1, q⟩ := h
  refine ⟨_, (pss_cons (ps_set (i := 2) sc__law_next.nd rfl (.inl rfl) (pe_ix ix_list (pv 0) pe_int (fun _ _ => rfl)))
      (pss_cons (ps_asg (pe_op op_add (pv 2) pe_int) (pg_sub (pv 0) pe_int set_list))
      (pss_cons (ps_if (PW.pt (pw_and (pt_cmpR op_ge (pe_ix ix_list (pv 0) pe_int (fun _ _ => rfl)) (pe_op op_pow pe_int pe_int) (nomark _)) (pw_and1 (pt_cmpR op_gt (pe_ix ix_list (pv 0) pe_int (fun _ _ => rfl)) pe_int (nomark _)))))
      (pss_cons (ps_set (i := 3) sc__law_next.nd rfl (.inl rfl) (pe_ix ix_list (pv 0) pe_int (fun _ _ => rfl)))
        (pss_cons (ps_asg (pe_op op_fdivN (pv 3) (pv 1)) (pg_sub (pv 0) pe_int set_list))
        (pss_one (ps_ret (pe_op op_mod (pe_callTy call_int1 (by rfl) T.z_int (by decide +kernel) (pa_cons (pv 3) pa_nil)) (pv 1))))))
      pss_nil)
      (pss_cons (ps_set (i := 4) sc__law_next.nd rfl (.inl rfl) (pe_op op_mod (pe_callTy call_int1 (by rfl) T.z_int (by decide +kernel) (pa_cons (pe_op op_add (pe_op op_add (pe_ix ix_list (pv 0) pe_int (fun _ _ => rfl)) (pe_op op_mul pe_int (pv 2))) pe_int) pa_nil)) pe_int))
      (pss_cons (ps_set (i := 4) sc__law_next.nd rfl (.inl rfl) (pe_op op_mod (pe_callTy call_int1 (by rfl) T.z_int (by decide +kernel) (pa_cons (pe_op op_mul (pv 4) (pe_op op_add (pv 4) pe_int)) pa_nil)) pe_int))
      (pss_cons (ps_set (i := 4) sc__law_next.nd rfl (.inl rfl) (pe_op op_mod (pe_callTy call_int1 (by rfl) T.z_int (by decide +kernel) (pa_cons (pe_op op_add (pe_op op_mul (pv 4) (pe_op op_add (pv 4) pe_int)) (pe_op op_mul pe_int (pv 2))) pa_nil)) pe_int))
      (pss_one (ps_ret (pe_op op_mod (pe_callTy call_int1 (by rfl) T.z_int (by decide +kernel) (pa_cons (pe_op op_fdivN (pv 4) pe_int) pa_nil)) (pv 1)))))))))), ?_⟩
  obtain ⟨c, k, d, hR⟩ := hR
  -- k = reader[1]
  refine ⟨_, rfl, r, _, 1, _, rfl, rfl, SqL.of hR, g1, ?_⟩
  -- reader[1] = k + 1
  refine ⟨_, rfl, _, _, rfl, rfl, _, rfl, r, _, 1, 1, rfl, rfl, hR, rfl, ?_⟩
  -- reader[0] >= 10 ** 18 and reader[2] > 0
  refine ⟨_, rfl, r, _, 0, .int c, rfl, rfl, SqL.of upd_same, g0, _, _, rfl, rfl, ⟨by decide, by decide, by decide⟩, _, _, rfl, rfl, _, rfl, ?_⟩
  refine ite2 (fun e => ⟨_, rfl, r, _, 2, _, rfl, rfl, SqL.of upd_same, g2, _, _, rfl, rfl, _, rfl, ite2 (fun e2 => ?a) (fun e2 => ?b)⟩) (fun e => iteF ?b2)
  case a =>
    refine ⟨_, rfl, r, _, 2, _, rfl, rfl, SqL.of upd_same, g2, ?_⟩
    refine ⟨_, rfl, _, rfl, _, _, rfl, rfl, ⟨by omega, by omega⟩, _, rfl, r, _, 2, 2, rfl, rfl, upd_same, rfl, ?_⟩
    refine ⟨_, rfl, .inl ⟨_, rfl, _, rfl, _, _, rfl, rfl, h0, ?_⟩⟩
    exact q _ _ (Fr.trans Fr.upd Fr.upd) ⟨_, _, _, upd_same⟩ (mod_lt h0).1 (mod_lt h0).2
  all_goals
    refine ⟨_, rfl, r, _, 0, _, rfl, rfl, SqL.of upd_same, g0, _, rfl, _, _, rfl, rfl, .inl ⟨by decide, by decide⟩, _, _, rfl, rfl, _, _, rfl, rfl, .inl ⟨_, rfl, _, _, rfl, rfl, (show (0 : Int) < 2147483647 by decide), ?_⟩⟩
    refine ⟨_, rfl, _, rfl, _, _, rfl, rfl, _, _, rfl, rfl, .inl ⟨by omega, by omega⟩, .inl ⟨_, rfl, _, _, rfl, rfl, (show (0 : Int) < 2147483629 by decide), ?_⟩⟩
    refine ⟨_, rfl, _, rfl, _, _, rfl, rfl, _, _, rfl, rfl, .inl ⟨by omega, by omega⟩, _, rfl, _, _, rfl, rfl, .inl ⟨by decide, by decide⟩, _, _, rfl, rfl, .inl ⟨_, rfl, _, _, rfl, rfl, (show (0 : Int) < 2147483647 by decide), ?_⟩⟩
    refine ⟨_, rfl, _, _, rfl, rfl, ⟨by decide, by decide⟩, .inl ⟨_, rfl, _, rfl, _, _, rfl, rfl, h0, ?_⟩⟩
    exact q _ _ Fr.upd ⟨_, _, _, upd_same⟩ (mod_lt h0).1 (mod_lt h0).2


end
end Pf

namespace Pf
open PySem PySem.Spec PyProof.Rows L2
section
variable {P : Program} {w : World} {K : PySem.W.Frag} {mg : Str → Option Value} {base : Heap}
/-! ### expressions -/
inductive Ex where
  | num (n : Int)
  | nam (x : Str)
  | not (e : Ex)
  | bin (o : Nat) (l r : Ex)
def opS : Nat → Str
  | 0 => "+"
  | 1 => "-"
  | 2 => "*"
  | 3 => "=="
  | 4 => "<"
  | 5 => "and"
  | _ => "or"
def tr (b : Bool) : Int := if b = true then 1 else 0
def opv (o : Nat) (i j : Int) : Int := match o with
  | 0 => i + j
  | 1 => i - j
  | 2 => i * j
  | 3 => tr (decide (V.int i = V.int j))
  | 4 => tr (decide (i < j))
  | 5 => tr ((!decide (V.int i = V.int 0)) && !decide (V.int j = V.int 0))
  | _ => tr ((!decide (V.int i = V.int 0)) || !decide (V.int j = V.int 0))
def Ex.ev (env : Str → Int) : Ex → Int
  | .num n => n
  | .nam x => env x
  | .not e => tr (decide (V.int (e.ev env) = V.int 0))
  | .bin o l r => opv o (l.ev env) (r.ev env)
def Ex.depth : Ex → Nat
  | .num _ => 1
  | .nam _ => 1
  | .not e => e.depth + 1
  | .bin _ l r => max l.depth r.depth + 1
theorem Ex.depth_pos : ∀ e : Ex, 0 < e.depth
  | .num _ => Nat.one_pos
  | .nam _ => Nat.one_pos
  | .not _ => Nat.succ_pos _
  | .bin _ _ _ => Nat.succ_pos _
/-- its names lie in ws -/
def Ex.In (ws : List Str) : Ex → Prop
  | .num _ => True
  | .nam x => x ∈ ws
  | .not e => e.In ws
  | .bin _ l r => l.In ws ∧ r.In ws
/-- its numbers are at most b -/
def Ex.Nums (b : Nat) : Ex → Prop
  | .num n => n.natAbs ≤ b
  | .nam _ => True
  | .not e => e.Nums b
  | .bin _ l r => l.Nums b ∧ r.Nums b
def MulOk (o : Nat) (i : Int) : Prop := o = 2 → -(2 ^ 64) < i ∧ i < 2 ^ 64
def Ex.Mul (env : Str → Int) : Ex → Prop
  | .num _ => True
  | .nam _ => True
  | .not e => e.Mul env
  | .bin o l r => l.Mul env ∧ r.Mul env ∧ MulOk o (l.ev env)
/-- the tuple that is the expression -/
def ExIn (H : Hp) : Ex → V → Prop
  | .num n, v => ∃ a, v = .ref a ∧ H a = some (.tup [.str "number", .int n])
  | .nam x, v => ∃ a, v = .ref a ∧ H a = some (.tup [.str "name", .str x])
  | .not e, v => ∃ a y, v = .ref a ∧ H a = some (.tup [.str "not", y]) ∧ ExIn H e y
  | .bin o l r, v => ∃ a y z, v = .ref a ∧ H a = some (.tup [.str (opS o), y, z]) ∧ ExIn H l y ∧ ExIn H r z
theorem ExIn.mono {H H' : Hp} (t : Tp H H') : ∀ {e : Ex} {v : V}, ExIn H e v → ExIn H' e v
  | .num _, _, ⟨a, h, k⟩ => ⟨a, h, t _ _ k⟩
  | .nam _, _, ⟨a, h, k⟩ => ⟨a, h, t _ _ k⟩
  | .not e, _, ⟨a, y, h, k, q⟩ => ⟨a, y, h, t _ _ k, ExIn.mono t q⟩
  | .bin o l r, _, ⟨a, y, z, h, k, p, q⟩ => ⟨a, y, z, h, t _ _ k, ExIn.mono t p, ExIn.mono t q⟩
/-- the bound of a value by the depth -/
def bnd : Nat → Nat
  | 0 => 9
  | d + 1 => bnd d * bnd d
theorem bnd_ge : ∀ d, 9 ≤ bnd d
  | 0 => Nat.le_refl _
  | d + 1 => by
    have h := bnd_ge d
    exact Nat.le_trans h (Nat.le_mul_of_pos_right _ (by omega))
theorem bnd_mono : ∀ {a b : Nat}, a ≤ b → bnd a ≤ bnd b := by
  intro a b h
  induction h with
  | refl => exact Nat.le_refl _
  | step _ ih =>
    refine Nat.le_trans ih ?_
    rename_i m _
    exact Nat.le_mul_of_pos_right _ (by have := bnd_ge m; omega)
theorem tr_abs (b : Bool) : (tr b).natAbs ≤ 1 := by cases b <;> decide
theorem opv_abs {o : Nat} {i j : Int} {n : Nat} (hn : 9 ≤ n) (hi : i.natAbs ≤ n) (hj : j.natAbs ≤ n) : (opv o i j).natAbs ≤ n * n := by
  have h9 : n + n ≤ n * n := by
    have : 2 * n ≤ n * n := Nat.mul_le_mul_right n (by omega)
    omega
  unfold opv
  split
  · omega
  · omega
  · rw [Int.natAbs_mul]
    exact Nat.mul_le_mul hi hj
  all_goals exact Nat.le_trans (tr_abs _) (by omega)
theorem ev_abs {env : Str → Int} (he : ∀ x, (env x).natAbs ≤ 9) : ∀ {e : Ex} {d : Nat}, e.depth ≤ d + 1 → e.Nums 9 → (e.ev env).natAbs ≤ bnd d
  | .num n, d, _, hn => Nat.le_trans hn (bnd_ge d)
  | .nam x, d, _, _ => Nat.le_trans (he x) (bnd_ge d)
  | .not e, d, _, _ => Nat.le_trans (tr_abs _) (by have := bnd_ge d; omega)
  | .bin o l r, 0, h, _ => by
    have h1 := l.depth_pos
    have : max l.depth r.depth + 1 ≤ 1 := h
    omega
  | .bin o l r, d + 1, h, hn => by
    have hh : max l.depth r.depth + 1 ≤ d + 1 + 1 := h
    exact opv_abs (bnd_ge d) (ev_abs he (by omega) hn.1) (ev_abs he (by omega) hn.2)
theorem mul_of {env : Str → Int} (he : ∀ x, (env x).natAbs ≤ 9) : ∀ {e : Ex}, e.depth ≤ 5 → e.Nums 9 → e.Mul env
  | .num _, _, _ => True.intro
  | .nam _, _, _ => True.intro
  | .not e, h, hn => mul_of (e := e) he (by have : e.depth + 1 ≤ 5 := h; omega) hn
  | .bin o l r, h, hn => by
    have hh : max l.depth r.depth + 1 ≤ 5 := h
    refine ⟨mul_of he (by omega) hn.1, mul_of he (by omega) hn.2, fun _ => ?_⟩
    have q := ev_abs he (e := l) (d := 3) (by omega) hn.1
    have z : bnd 3 < 2 ^ 64 := by decide
    omega
/-- a part -/
inductive Ex.Sub : Ex → Ex → Prop where
  | refl (e : Ex) : Sub e e
  | not {e f : Ex} : Sub f e → Sub f (.not e)
  | l {o : Nat} {f l r : Ex} : Sub f l → Sub f (.bin o l r)
  | r {o : Nat} {f l r : Ex} : Sub f r → Sub f (.bin o l r)
theorem Ex.Sub.keep {P : Ex → Prop} (hn : ∀ e, P (.not e) → P e) (hl : ∀ o l r, P (.bin o l r) → P l ∧ P r) {f e : Ex} (s : Ex.Sub f e) (h : P e) : P f := by
  induction s with
  | refl => exact h
  | not _ ih => exact ih (hn _ h)
  | l _ ih => exact ih (hl _ _ _ h).1
  | r _ ih => exact ih (hl _ _ _ h).2
/-- names and their values -/
def EnvOk (ws : List Str) (ns : List Int) (env : Str → Int) : Prop := ∀ x ∈ ws, ∃ j : Nat, ws[j]? = some x ∧ (∀ m z, m < j → ws[m]? = some z → z ≠ x) ∧ ns[j]? = some (env x)
def envL : List Str → List Int → Str → Int
  | w :: ws, n :: ns, x => if w = x then n else envL ws ns x
  | _, _, _ => 0
theorem envL_ok : ∀ {ws : List Str} {ns : List Int}, ws.length = ns.length → EnvOk ws ns (envL ws ns)
  | [], _, _ => fun x h => absurd h (List.not_mem_nil)
  | w :: ws, [], h => by cases h
  | w :: ws, n :: ns, h => fun x hx => by
    by_cases e : w = x
    · subst e
      exact ⟨0, rfl, fun m z hm => absurd hm (Nat.not_lt_zero m), by show some n = some (envL (w :: ws) (n :: ns) w); unfold envL; rw [if_pos rfl]⟩
    · have hx' : x ∈ ws := by
        rcases List.mem_cons.mp hx with z | z
        · exact absurd z.symm e
        · exact z
      obtain ⟨j, h1, h2, h3⟩ := envL_ok (ws := ws) (ns := ns) (by simpa using h) x hx'
      refine ⟨j + 1, h1, fun m z hm hz => ?_, ?_⟩
      · cases m with
        | zero =>
          have : w = z := Option.some.inj hz
          exact this ▸ e
        | succ m => exact h2 m z (by omega) hz
      · rw [show envL (w :: ws) (n :: ns) x = envL ws ns x by
          show (if w = x then n else envL ws ns x) = _
          rw [if_neg e]]
        exact h3
theorem envL_abs {b : Nat} : ∀ {ws : List Str} {ns : List Int}, (∀ n ∈ ns, n.natAbs ≤ b) → ∀ x, (envL ws ns x).natAbs ≤ b
  | [], _, _, x => by
    unfold envL
    exact Nat.zero_le _
  | _ :: _, [], _, x => by
    unfold envL
    exact Nat.zero_le _
  | w :: ws, n :: ns, h, x => by
    show (if w = x then n else envL ws ns x).natAbs ≤ b
    split
    · exact h n List.mem_cons_self
    · exact envL_abs (fun m hm => h m (List.mem_cons_of_mem _ hm)) x
/-- a list or tuple of names, of ints -/
def NmSeq (K : PySem.W.Frag) (H : Hp) (p : Addr) (ws : List Str) : Prop := SqL K H p (ws.map V.str) ∨ ∃ o, H p = some (.frz o (.tup (ws.map V.str))) ∧ o.cls = .type "tuple" ∧ o.dict = none
def IntSeq (K : PySem.W.Frag) (H : Hp) (p : Addr) (ns : List Int) : Prop := SqL K H p (ns.map V.int) ∨ SqT K H p (ns.map V.int)
theorem t0 {x y : V} : atI [x, y] 0 = some x := atI_nat (j := 0) rfl
theorem t1 {x y : V} : atI [x, y] 1 = some y := atI_nat (j := 1) rfl
theorem u0 {x y z : V} : atI [x, y, z] 0 = some x := atI_nat (j := 0) rfl
theorem u1 {x y z : V} : atI [x, y, z] 1 = some y := atI_nat (j := 1) rfl
theorem u2 {x y z : V} : atI [x, y, z] 2 = some z := atI_nat (j := 2) rfl
theorem seqT {K : PySem.W.Frag} {H : Hp} {a : Addr} {xs : List V} (h : H a = some (.tup xs)) : SqT K H a xs := Or.inl (Or.inl h)
theorem op_num (o : Nat) : ¬ V.str (opS o) = V.str "number" := by
  obtain _ | _ | _ | _ | _ | _ | o := o
  all_goals first | decide +kernel | exact (by decide +kernel : ¬ V.str "or" = V.str "number")
theorem op_nam (o : Nat) : ¬ V.str (opS o) = V.str "name" := by
  obtain _ | _ | _ | _ | _ | _ | o := o
  all_goals first | decide +kernel | exact (by decide +kernel : ¬ V.str "or" = V.str "name")
theorem op_not (o : Nat) : ¬ V.str (opS o) = V.str "not" := by
  obtain _ | _ | _ | _ | _ | _ | o := o
  all_goals first | decide +kernel | exact (by decide +kernel : ¬ V.str "or" = V.str "not")
theorem op_in (o : Nat) : inV (.str (opS o)) [.str "number", .str "name"] = false := by
  obtain _ | _ | _ | _ | _ | _ | o := o
  all_goals first | decide +kernel | exact (by decide +kernel : inV (.str "or") [.str "number", .str "name"] = false)

def sp_truth (K : PySem.W.Frag) : Sp := fun vs H Q _ => ∃ (b : Bool), vs = [.bl b] ∧ Q (.int (tr b)) H
theorem ok_truth (T : Txt K mg) : Has P w K mg base 1 "truth" ["holds"] (sp_truth K) := by
  obtain ⟨f, fd, F, m, b⟩ := T.d_truth.ex
  refine ⟨f, fd, F.ok sc_truth (fun vs H Q E h => ?_) (fun cdv A outer s H vs Q E hr h => ?_), m, F.kp, b⟩
  · obtain ⟨b, rfl, q⟩ := h
    rfl
  obtain ⟨b, rfl, q⟩ := h
  refine ⟨_, (pss_one (ps_ret (pe_ifExp (pt_val (pv 0)) pe_int pe_int))), ?_⟩
  refine ⟨_, rfl, _, rfl, ?_⟩
  cases b with
  | true => exact iteT q
  | false => exact iteF q

theorem yes {p : Prop} [Decidable p] {A B : Prop} (h : p) (a : A) : if decide p = true then A else B := by
  rw [decide_eq_true h]
  exact iteT a
theorem nope {p : Prop} [Decidable p] {A B : Prop} (h : ¬ p) (b : B) : if decide p = true then A else B := by
  rw [decide_eq_false h]
  exact iteF b
def sp_joined (K : PySem.W.Frag) : Sp := fun vs H Q _ => ∃ (o : Nat) (i j : Int), vs = [.str (opS o), .int i, .int j] ∧ MulOk o i ∧ Q (.int (opv o i j)) H
theorem ok_joined (T : Txt K mg) : Has P w K mg base 2 "joined" ["operator", "left", "right"] (sp_joined K) := by
  obtain ⟨f, fd, F, m, b⟩ := T.d_joined.ex
  obtain ⟨f_truth, fd_truth, G_truth, m_truth, k_truth, b_truth⟩ := ok_truth (P := P) (w := w) (base := base) T
  refine ⟨f, fd, F.ok sc_joined (fun vs H Q E h => ?_) (fun cdv A outer s H vs Q E hr h => ?_), m, F.kp, b⟩
  · obtain ⟨o, i, j, rfl, hm, q⟩ := h
    rfl
  obtain ⟨o, i, j, rfl, hm, q⟩ := h
  refine ⟨_, (pss_cons (ps_if (pt_cmpR op_eq (pv 0) pe_str (nomark _))
      (pss_one (ps_ret (pe_op op_add (pv 1) (pv 2))))
      pss_nil)
      (pss_cons (ps_if (pt_cmpR op_eq (pv 0) pe_str (nomark _))
      (pss_one (ps_ret (pe_op op_sub (pv 1) (pv 2))))
      pss_nil)
      (pss_cons (ps_if (pt_cmpR op_eq (pv 0) pe_str (nomark _))
      (pss_one (ps_ret (pe_op op_mul (pv 1) (pv 2))))
      pss_nil)
      (pss_cons (ps_if (pt_cmpR op_eq (pv 0) pe_str (nomark _))
      (pss_one (ps_ret (pe_call G_truth (hr.mono (by decide)) (by rfl) m_truth k_truth b_truth .nil pass0 (pa_cons (pe_cmpR op_eq (pv 1) (pv 2) (nomark _)) pa_nil))))
      pss_nil)
      (pss_cons (ps_if (pt_cmpR op_eq (pv 0) pe_str (nomark _))
      (pss_one (ps_ret (pe_call G_truth (hr.mono (by decide)) (by rfl) m_truth k_truth b_truth .nil pass0 (pa_cons (pe_cmpR op_lt (pv 1) (pv 2) (nomark _)) pa_nil))))
      pss_nil)
      (pss_cons (ps_if (pt_cmpR op_eq (pv 0) pe_str (nomark _))
      (pss_one (ps_ret (pe_call G_truth (hr.mono (by decide)) (by rfl) m_truth k_truth b_truth .nil pass0 (pa_cons (pe_and (pe_cmpR op_ne (pv 1) pe_int (nomark _)) (pe_one (pe_cmpR op_ne (pv 2) pe_int (nomark _)))) pa_nil))))
      pss_nil)
      (pss_one (ps_ret (pe_call G_truth (hr.mono (by decide)) (by rfl) m_truth k_truth b_truth .nil pass0 (pa_cons (pe_or (pe_cmpR op_ne (pv 1) pe_int (nomark _)) (pe_one (pe_cmpR op_ne (pv 2) pe_int (nomark _)))) pa_nil)))))))))), ?_⟩
  obtain _ | _ | _ | _ | _ | _ | o := o
  · exact ⟨_, rfl, rfl, _, rfl, yes (by decide +kernel) ⟨_, rfl, _, rfl, _, _, rfl, rfl, q⟩⟩
  · exact ⟨_, rfl, rfl, _, rfl, nope (by decide +kernel) ⟨_, rfl, rfl, _, rfl, yes (by decide +kernel) ⟨_, rfl, _, rfl, _, _, rfl, rfl, q⟩⟩⟩
  · refine ⟨_, rfl, rfl, _, rfl, nope (by decide +kernel) ⟨_, rfl, rfl, _, rfl, nope (by decide +kernel) ⟨_, rfl, rfl, _, rfl, yes (by decide +kernel) ⟨_, rfl, _, rfl, _, _, rfl, rfl, .inl (hm rfl), q⟩⟩⟩⟩
  · refine ⟨_, rfl, rfl, _, rfl, nope (by decide +kernel) ⟨_, rfl, rfl, _, rfl, nope (by decide +kernel) ⟨_, rfl, rfl, _, rfl, nope (by decide +kernel) ⟨_, rfl, rfl, _, rfl, yes (by decide +kernel) ?_⟩⟩⟩⟩
    exact ⟨_, rfl, _, rfl, rfl, _, rfl, q⟩
  · refine ⟨_, rfl, rfl, _, rfl, nope (by decide +kernel) ⟨_, rfl, rfl, _, rfl, nope (by decide +kernel) ⟨_, rfl, rfl, _, rfl, nope (by decide +kernel) ⟨_, rfl, rfl, _, rfl, nope (by decide +kernel) ⟨_, rfl, rfl, _, rfl, yes (by decide +kernel) ?_⟩⟩⟩⟩⟩
    exact ⟨_, rfl, _, rfl, _, _, rfl, rfl, _, rfl, q⟩
  · refine ⟨_, rfl, rfl, _, rfl, nope (by decide +kernel) ⟨_, rfl, rfl, _, rfl, nope (by decide +kernel) ⟨_, rfl, rfl, _, rfl, nope (by decide +kernel) ⟨_, rfl, rfl, _, rfl, nope (by decide +kernel) ⟨_, rfl, rfl, _, rfl, nope (by decide +kernel) ⟨_, rfl, rfl, _, rfl, yes (by decide +kernel) ?_⟩⟩⟩⟩⟩⟩
    refine ⟨_, rfl, rfl, _, rfl, ite2 (fun e => ?_) (fun e => ?_)⟩
    · refine ⟨_, rfl, rfl, _, rfl, ?_⟩
      have z : opv (0 + 1 + 1 + 1 + 1 + 1) i j = tr (!decide (V.int j = V.int 0)) := by
        show tr ((!decide (V.int i = V.int 0)) && !decide (V.int j = V.int 0)) = _
        rw [e]; rfl
      rw [z] at q
      exact q
    · refine ⟨_, rfl, ?_⟩
      have z : opv (0 + 1 + 1 + 1 + 1 + 1) i j = tr false := by
        show tr ((!decide (V.int i = V.int 0)) && !decide (V.int j = V.int 0)) = _
        rw [Bool.eq_false_iff.mpr e]; rfl
      rw [z] at q
      exact q
  · have e0 : opS (o + 1 + 1 + 1 + 1 + 1 + 1) = "or" := rfl
    rw [e0]
    refine ⟨_, rfl, rfl, _, rfl, nope (by decide +kernel) ⟨_, rfl, rfl, _, rfl, nope (by decide +kernel) ⟨_, rfl, rfl, _, rfl, nope (by decide +kernel) ⟨_, rfl, rfl, _, rfl, nope (by decide +kernel) ⟨_, rfl, rfl, _, rfl, nope (by decide +kernel) ⟨_, rfl, rfl, _, rfl, nope (by decide +kernel) ?_⟩⟩⟩⟩⟩⟩
    refine ⟨_, rfl, rfl, _, rfl, ite2 (fun e => ?_) (fun e => ?_)⟩
    · refine ⟨_, rfl, ?_⟩
      have z : opv (o + 1 + 1 + 1 + 1 + 1 + 1) i j = tr true := by
        show tr ((!decide (V.int i = V.int 0)) || !decide (V.int j = V.int 0)) = _
        rw [e]; rfl
      rw [z] at q
      exact q
    · refine ⟨_, rfl, rfl, _, rfl, ?_⟩
      have z : opv (o + 1 + 1 + 1 + 1 + 1 + 1) i j = tr (!decide (V.int j = V.int 0)) := by
        show tr ((!decide (V.int i = V.int 0)) || !decide (V.int j = V.int 0)) = _
        rw [Bool.eq_false_iff.mpr e]; rfl
      rw [z] at q
      exact q


end
end Pf

namespace Pf
open PySem PySem.Spec PyProof.Rows L2
section
variable {P : Program} {w : World} {K : PySem.W.Frag} {mg : Str → Option Value} {base : Heap}
def sp_value_of (K : PySem.W.Frag) (n : Nat) : Sp := fun vs H Q _ => ∃ (v : V) (pn pg : Addr) (e : Ex) (ws : List Str) (ns : List Int) (env : Str → Int), vs = [v, .ref pn, .ref pg] ∧ ExIn H e v ∧ NmSeq K H pn ws ∧ IntSeq K H pg ns ∧
  EnvOk ws ns env ∧ e.In ws ∧ e.Mul env ∧ e.depth ≤ n ∧ Q (.int (e.ev env)) H
theorem strs_flat (ws : List Str) : (ws.map V.str).all flatV = true := by
  rw [List.all_map]
  exact List.all_eq_true.mpr fun _ _ => rfl
theorem map_at {α β : Type} {f : α → β} {xs : List α} {j : Nat} {x : α} (h : xs[j]? = some x) : (xs.map f)[j]? = some (f x) := by
  rw [List.getElem?_map, h]
  rfl
theorem strs_no {ws : List Str} {j : Nat} {x : Str} (h : ∀ m z, m < j → ws[m]? = some z → z ≠ x) : ∀ (m : Nat) (z' : V), m < j → (ws.map V.str)[m]? = some z' → eqV z' (.str x) = false := by
  intro m z' hm hz
  rw [List.getElem?_map] at hz
  cases e : ws[m]? with
  | none => rw [e] at hz; cases hz
  | some z =>
    rw [e] at hz
    cases hz
    exact beq_eq_false_iff_ne.mpr (h m z hm e)
theorem ok_value_of (T : Txt K mg) : ∀ n : Nat, Has P w K mg base (n + 3) "value_of" ["expression", "names", "sight"] (sp_value_of K n)
| 0 => .none T.d_value_of fun vs H Q E h => by
    obtain ⟨v, pn, pg, e, ws, ns, env, _, _, _, _, _, _, _, hd, _⟩ := h
    have := e.depth_pos
    omega
| n + 1 => by
  obtain ⟨f_value_of, fd_value_of, G_value_of, m_value_of, k_value_of, b_value_of⟩ := ok_value_of T n
  obtain ⟨f, fd, F, m, b⟩ := T.d_value_of.ex
  obtain ⟨f_truth, fd_truth, G_truth, m_truth, k_truth, b_truth⟩ := ok_truth (P := P) (w := w) (base := base) T
  obtain ⟨f_joined, fd_joined, G_joined, m_joined, k_joined, b_joined⟩ := ok_joined (P := P) (w := w) (base := base) T
  refine ⟨f, fd, F.ok sc_value_of (fun vs H Q E h => ?_) (fun cdv A outer s H vs Q E hr h => ?_), m, F.kp, b⟩
  · obtain ⟨v, pn, pg, e, ws, ns, env, rfl, hE, hN, hG, hV, hI, hM, hd, q⟩ := h
    rfl
  obtain ⟨v, pn, pg, e, ws, ns, env, rfl, hE, hN, hG, hV, hI, hM, hd, q⟩ := h
  refine ⟨_, (pss_cons (ps_set (i := 3) sc_value_of.nd rfl (.inl rfl) (pe_ix ix_tup (pv 0) pe_int (fun _ _ => rfl)))
      (pss_cons (ps_if (pt_cmpR op_eq (pv 3) pe_str (nomark _))
      (pss_one (ps_ret (pe_ix ix_tup (pv 0) pe_int (fun _ _ => rfl))))
      pss_nil)
      (pss_cons (ps_if (pt_cmpR op_eq (pv 3) pe_str (nomark _))
      (pss_one (ps_ret (pe_ix ix_seq (pv 2) (pe_index (pv 1) (pe_ix ix_tup (pv 0) pe_int (fun _ _ => rfl))) (fun _ _ => rfl))))
      pss_nil)
      (pss_cons (ps_set (i := 4) sc_value_of.nd rfl (.inl rfl) (pe_call G_value_of (hr.mono (by omega)) (by rfl) m_value_of k_value_of b_value_of .nil pass0 (pa_cons (pe_ix ix_tup (pv 0) pe_int (fun _ _ => rfl)) (pa_cons (pv 1) (pa_cons (pv 2) pa_nil)))))
      (pss_cons (ps_if (pt_cmpR op_eq (pv 3) pe_str (nomark _))
      (pss_one (ps_ret (pe_call G_truth (hr.mono (by omega)) (by rfl) m_truth k_truth b_truth .nil pass0 (pa_cons (pe_cmpR op_eq (pv 4) pe_int (nomark _)) pa_nil))))
      pss_nil)
      (pss_one (ps_ret (pe_call G_joined (hr.mono (by omega)) (by rfl) m_joined k_joined b_joined .nil pass0 (pa_cons (pv 3) (pa_cons (pv 4) (pa_cons (pe_call G_value_of (hr.mono (by omega)) (by rfl) m_value_of k_value_of b_value_of .nil pass0 (pa_cons (pe_ix ix_tup (pv 0) pe_int (fun _ _ => rfl)) (pa_cons (pv 1) (pa_cons (pv 2) pa_nil)))) pa_nil))))))))))), ?_⟩
  cases e with
  | num k =>
    obtain ⟨a, rfl, ha⟩ := hE
    refine ⟨_, rfl, a, _, 0, _, rfl, rfl, seqT ha, t0, ?_⟩
    refine ⟨_, rfl, rfl, _, rfl, yes (by decide +kernel) ?_⟩
    exact ⟨_, rfl, a, _, 1, _, rfl, rfl, seqT ha, t1, q⟩
  | nam x =>
    obtain ⟨a, rfl, ha⟩ := hE
    refine ⟨_, rfl, a, _, 0, _, rfl, rfl, seqT ha, t0, ?_⟩
    refine ⟨_, rfl, rfl, _, rfl, nope (by decide +kernel) ⟨_, rfl, rfl, _, rfl, yes (by decide +kernel) ?_⟩⟩
    obtain ⟨j, h1, h2, h3⟩ := hV x hI
    have h4 : (ns.map V.int)[j]? = some (.int (env x)) := map_at h3
    refine ⟨_, rfl, ?_⟩
    have fin : ∀ Q' : VK, Q' (.int (env x)) H → rIx K (.ref pg) (.int (j : Int)) H Q' := fun Q' q' => by
      rcases hG with hG | hG
      · exact .inl ⟨pg, _, _, _, rfl, rfl, hG, atI_nat h4, q'⟩
      · exact .inr (.inl ⟨pg, _, _, _, rfl, rfl, hG, atI_nat h4, q'⟩)
    rcases hN with hN | ⟨ob, hN, hc, hdc⟩
    · refine .inl ⟨_, rfl, .inl ⟨rfl, _, hN⟩, _, rfl, a, _, 1, _, rfl, rfl, seqT ha, t1, pn, _, _, j, _, rfl, rfl, hN, rfl, strs_flat ws, map_at h1, beq_self_eq_true x, strs_no h2, ?_⟩
      exact fin _ q
    · refine .inr ⟨_, rfl, ⟨pn, ob, _, rfl, hN, hc, hdc⟩, _, rfl, a, _, 1, _, rfl, rfl, seqT ha, t1, pn, ws, x, j, rfl, rfl, .inl (.inr ⟨ob, hN⟩), h1, fun m hm z => h2 m x hm z rfl, ?_⟩
      exact fin _ q
  | not e1 =>
    obtain ⟨a, y, rfl, ha, hy⟩ := hE
    refine ⟨_, rfl, a, _, 0, _, rfl, rfl, seqT ha, t0, ?_⟩
    refine ⟨_, rfl, rfl, _, rfl, nope (by decide +kernel) ⟨_, rfl, rfl, _, rfl, nope (by decide +kernel) ?_⟩⟩
    have hd1 : e1.depth ≤ n := Nat.le_of_succ_le_succ hd
    refine ⟨_, rfl, a, _, 1, _, rfl, rfl, seqT ha, t1, _, rfl, _, rfl, _, _, _, e1, ws, ns, env, rfl, hy, hN, hG, hV, hI, hM, hd1, ?_⟩
    refine ⟨_, rfl, rfl, _, rfl, yes (by decide +kernel) ?_⟩
    exact ⟨_, rfl, rfl, _, rfl, q⟩
  | bin o l r =>
    obtain ⟨a, y, z, rfl, ha, hy, hz⟩ := hE
    have hd1 : l.depth ≤ n ∧ r.depth ≤ n := by
      have hh : max l.depth r.depth + 1 ≤ n + 1 := hd
      omega
    refine ⟨_, rfl, a, _, 0, _, rfl, rfl, seqT ha, u0, ?_⟩
    refine ⟨_, rfl, rfl, _, rfl, nope (op_num o) ⟨_, rfl, rfl, _, rfl, nope (op_nam o) ?_⟩⟩
    refine ⟨_, rfl, a, _, 1, _, rfl, rfl, seqT ha, u1, _, rfl, _, rfl, _, _, _, l, ws, ns, env, rfl, hy, hN, hG, hV, hI.1, hM.1, hd1.1, ?_⟩
    refine ⟨_, rfl, rfl, _, rfl, nope (op_not o) ?_⟩
    refine ⟨_, rfl, _, rfl, _, rfl, a, _, 2, _, rfl, rfl, seqT ha, u2, _, rfl, _, rfl, _, _, _, r, ws, ns, env, rfl, hz, hN, hG, hV, hI.2, hM.2.1, hd1.2, ?_⟩
    exact ⟨o, _, _, rfl, hM.2.2, q⟩


end
end Pf

namespace Pf
open PySem PySem.Spec PyProof.Rows L2
section
variable {P : Program} {w : World} {K : PySem.W.Frag} {mg : Str → Option Value} {base : Heap}
/-- a list, or the tuple of its items -/
def Given (K : PySem.W.Frag) (H : Hp) (p : Addr) (xs : List V) : Prop := SqL K H p xs ∨ ∃ o, H p = some (.frz o (.tup xs)) ∧ o.cls = .type "tuple" ∧ o.dict = none
def sp__law_given (K : PySem.W.Frag) : Sp := fun vs H Q _ => ∃ (a : Addr) (xs : List V) (t : Int), vs = [.ref a, .int t] ∧ SqL K H a xs ∧ ∀ p H', Same H H' → Given K H' p xs → Q (.ref p) H'
theorem ok__law_given (T : Txt K mg) : Has P w K mg base 1 "_law_given" ["row", "as_tuple"] (sp__law_given K) := by
  obtain ⟨f, fd, F, m, b⟩ := T.d__law_given.ex
  refine ⟨f, fd, F.ok sc__law_given (fun vs H Q E h => ?_) (fun cdv A outer s H vs Q E hr h => ?_), m, F.kp, b⟩
  · obtain ⟨a, xs, t, rfl, hS, q⟩ := h
    rfl
  obtain ⟨a, xs, t, rfl, hS, q⟩ := h
  refine ⟨_, (pss_cons (ps_if (pt_cmpR op_eq (pv 1) pe_int (nomark _))
      (pss_one (ps_ret (pe_callTy call_tupleF (by rfl) T.z_tuple (by decide +kernel) (pa_cons (pv 0) pa_nil))))
      pss_nil)
      (pss_one (ps_ret (pv 0)))), ?_⟩
  refine ⟨_, rfl, rfl, _, rfl, ite2 (fun e => ?_) (fun e => ?_)⟩
  · refine ⟨_, rfl, a, xs, rfl, hS, fun l o hl hc hd => ?_⟩
    exact q l _ (same_new hl) (.inr ⟨o, upd_same, hc, hd⟩)
  · exact ⟨_, rfl, q a H (Same.refl H) (.inl hS)⟩


end
end Pf

namespace Pf
open PySem PySem.Spec PyProof.Rows L2
section
variable {P : Program} {w : World} {K : PySem.W.Frag} {mg : Str → Option Value} {base : Heap}
theorem ok__law_value (T : Txt K mg) : ∀ n : Nat, Has P w K mg base (n + 3) "_law_value" ["expression", "names", "sight"] (sp_value_of K n)
| 0 => .none T.d__law_value fun vs H Q E h => by
    obtain ⟨v, pn, pg, e, ws, ns, env, _, _, _, _, _, _, _, hd, _⟩ := h
    have := e.depth_pos
    omega
| n + 1 => by
  obtain ⟨f__law_value, fd__law_value, G__law_value, m__law_value, k__law_value, b__law_value⟩ := ok__law_value T n
  obtain ⟨f, fd, F, m, b⟩ := T.d__law_value.ex
  refine ⟨f, fd, F.ok sc__law_value (fun vs H Q E h => ?_) (fun cdv A outer s H vs Q E hr h => ?_), m, F.kp, b⟩
  · obtain ⟨v, pn, pg, e, ws, ns, env, rfl, hE, hN, hG, hV, hI, hM, hd, q⟩ := h
    rfl
  obtain ⟨v, pn, pg, e, ws, ns, env, rfl, hE, hN, hG, hV, hI, hM, hd, q⟩ := h
  refine ⟨_, (pss_cons (ps_set (i := 3) sc__law_value.nd rfl (.inl rfl) (pe_ix ix_tup (pv 0) pe_int (fun _ _ => rfl)))
      (pss_cons (ps_if (pt_cmpR op_eq (pv 3) pe_str (nomark _))
      (pss_one (ps_ret (pe_ix ix_tup (pv 0) pe_int (fun _ _ => rfl))))
      pss_nil)
      (pss_cons (ps_if (pt_cmpR op_eq (pv 3) pe_str (nomark _))
      (pss_one (ps_ret (pe_ix ix_seq (pv 2) (pe_index (pv 1) (pe_ix ix_tup (pv 0) pe_int (fun _ _ => rfl))) (fun _ _ => rfl))))
      pss_nil)
      (pss_cons (ps_set (i := 4) sc__law_value.nd rfl (.inl rfl) (pe_call G__law_value (hr.mono (by omega)) (by rfl) m__law_value k__law_value b__law_value .nil pass0 (pa_cons (pe_ix ix_tup (pv 0) pe_int (fun _ _ => rfl)) (pa_cons (pv 1) (pa_cons (pv 2) pa_nil)))))
      (pss_cons (ps_if (pt_cmpR op_eq (pv 3) pe_str (nomark _))
      (pss_one (ps_ret (pe_callTy call_int1 (by rfl) T.z_int (by decide +kernel) (pa_cons (pe_cmpR op_eq (pv 4) pe_int (nomark _)) pa_nil))))
      pss_nil)
      (pss_cons (ps_set (i := 5) sc__law_value.nd rfl (.inl rfl) (pe_call G__law_value (hr.mono (by omega)) (by rfl) m__law_value k__law_value b__law_value .nil pass0 (pa_cons (pe_ix ix_tup (pv 0) pe_int (fun _ _ => rfl)) (pa_cons (pv 1) (pa_cons (pv 2) pa_nil)))))
      (pss_cons (ps_if (pt_cmpR op_eq (pv 3) pe_str (nomark _))
      (pss_one (ps_ret (pe_op op_add (pv 4) (pv 5))))
      pss_nil)
      (pss_cons (ps_if (pt_cmpR op_eq (pv 3) pe_str (nomark _))
      (pss_one (ps_ret (pe_op op_sub (pv 4) (pv 5))))
      pss_nil)
      (pss_cons (ps_if (pt_cmpR op_eq (pv 3) pe_str (nomark _))
      (pss_one (ps_ret (pe_op op_mul (pv 4) (pv 5))))
      pss_nil)
      (pss_cons (ps_if (pt_cmpR op_eq (pv 3) pe_str (nomark _))
      (pss_one (ps_ret (pe_callTy call_int1 (by rfl) T.z_int (by decide +kernel) (pa_cons (pe_cmpR op_eq (pv 4) (pv 5) (nomark _)) pa_nil))))
      pss_nil)
      (pss_cons (ps_if (pt_cmpR op_eq (pv 3) pe_str (nomark _))
      (pss_one (ps_ret (pe_callTy call_int1 (by rfl) T.z_int (by decide +kernel) (pa_cons (pe_cmpR op_lt (pv 4) (pv 5) (nomark _)) pa_nil))))
      pss_nil)
      (pss_cons (ps_if (pt_cmpR op_eq (pv 3) pe_str (nomark _))
      (pss_one (ps_ret (pe_callTy call_int1 (by rfl) T.z_int (by decide +kernel) (pa_cons (pe_and (pe_cmpR op_ne (pv 4) pe_int (nomark _)) (pe_one (pe_cmpR op_ne (pv 5) pe_int (nomark _)))) pa_nil))))
      pss_nil)
      (pss_one (ps_ret (pe_callTy call_int1 (by rfl) T.z_int (by decide +kernel) (pa_cons (pe_or (pe_cmpR op_ne (pv 4) pe_int (nomark _)) (pe_one (pe_cmpR op_ne (pv 5) pe_int (nomark _)))) pa_nil)))))))))))))))), ?_⟩
  cases e with
  | num k =>
    obtain ⟨a, rfl, ha⟩ := hE
    refine ⟨_, rfl, a, _, 0, _, rfl, rfl, seqT ha, t0, ?_⟩
    refine ⟨_, rfl, rfl, _, rfl, yes (by decide +kernel) ?_⟩
    exact ⟨_, rfl, a, _, 1, _, rfl, rfl, seqT ha, t1, q⟩
  | nam x =>
    obtain ⟨a, rfl, ha⟩ := hE
    refine ⟨_, rfl, a, _, 0, _, rfl, rfl, seqT ha, t0, ?_⟩
    refine ⟨_, rfl, rfl, _, rfl, nope (by decide +kernel) ⟨_, rfl, rfl, _, rfl, yes (by decide +kernel) ?_⟩⟩
    obtain ⟨j, h1, h2, h3⟩ := hV x hI
    have h4 : (ns.map V.int)[j]? = some (.int (env x)) := map_at h3
    refine ⟨_, rfl, ?_⟩
    have fin : ∀ Q' : VK, Q' (.int (env x)) H → rIx K (.ref pg) (.int (j : Int)) H Q' := fun Q' q' => by
      rcases hG with hG | hG
      · exact .inl ⟨pg, _, _, _, rfl, rfl, hG, atI_nat h4, q'⟩
      · exact .inr (.inl ⟨pg, _, _, _, rfl, rfl, hG, atI_nat h4, q'⟩)
    rcases hN with hN | ⟨ob, hN, hc, hdc⟩
    · refine .inl ⟨_, rfl, .inl ⟨rfl, _, hN⟩, _, rfl, a, _, 1, _, rfl, rfl, seqT ha, t1, pn, _, _, j, _, rfl, rfl, hN, rfl, strs_flat ws, map_at h1, beq_self_eq_true x, strs_no h2, ?_⟩
      exact fin _ q
    · refine .inr ⟨_, rfl, ⟨pn, ob, _, rfl, hN, hc, hdc⟩, _, rfl, a, _, 1, _, rfl, rfl, seqT ha, t1, pn, ws, x, j, rfl, rfl, .inl (.inr ⟨ob, hN⟩), h1, fun m hm z => h2 m x hm z rfl, ?_⟩
      exact fin _ q
  | not e1 =>
    obtain ⟨a, y, rfl, ha, hy⟩ := hE
    refine ⟨_, rfl, a, _, 0, _, rfl, rfl, seqT ha, t0, ?_⟩
    refine ⟨_, rfl, rfl, _, rfl, nope (by decide +kernel) ⟨_, rfl, rfl, _, rfl, nope (by decide +kernel) ?_⟩⟩
    have hd1 : e1.depth ≤ n := Nat.le_of_succ_le_succ hd
    refine ⟨_, rfl, a, _, 1, _, rfl, rfl, seqT ha, t1, _, rfl, _, rfl, _, _, _, e1, ws, ns, env, rfl, hy, hN, hG, hV, hI, hM, hd1, ?_⟩
    refine ⟨_, rfl, rfl, _, rfl, yes (by decide +kernel) ?_⟩
    exact ⟨_, rfl, rfl, .inr ⟨_, rfl, q⟩⟩
  | bin o l r =>
    obtain ⟨a, y, z, rfl, ha, hy, hz⟩ := hE
    have hd1 : l.depth ≤ n ∧ r.depth ≤ n := by
      have hh : max l.depth r.depth + 1 ≤ n + 1 := hd
      omega
    refine ⟨_, rfl, a, _, 0, _, rfl, rfl, seqT ha, u0, ?_⟩
    refine ⟨_, rfl, rfl, _, rfl, nope (op_num o) ⟨_, rfl, rfl, _, rfl, nope (op_nam o) ?_⟩⟩
    refine ⟨_, rfl, a, _, 1, _, rfl, rfl, seqT ha, u1, _, rfl, _, rfl, _, _, _, l, ws, ns, env, rfl, hy, hN, hG, hV, hI.1, hM.1, hd1.1, ?_⟩
    refine ⟨_, rfl, rfl, _, rfl, nope (op_not o) ?_⟩
    refine ⟨_, rfl, a, _, 2, _, rfl, rfl, seqT ha, u2, _, rfl, _, rfl, _, _, _, r, ws, ns, env, rfl, hz, hN, hG, hV, hI.2, hM.2.1, hd1.2, ?_⟩
    have hm := hM.2.2
    have q' : Q (.int (opv o (l.ev env) (r.ev env))) H := q
    generalize l.ev env = i at hm q' ⊢
    generalize r.ev env = j at q' ⊢
    clear q hM hI
    obtain _ | _ | _ | _ | _ | _ | o := o
    · exact ⟨_, rfl, rfl, _, rfl, yes (by decide +kernel) ⟨_, rfl, _, rfl, _, _, rfl, rfl, q'⟩⟩
    · exact ⟨_, rfl, rfl, _, rfl, nope (by decide +kernel) ⟨_, rfl, rfl, _, rfl, yes (by decide +kernel) ⟨_, rfl, _, rfl, _, _, rfl, rfl, q'⟩⟩⟩
    · exact ⟨_, rfl, rfl, _, rfl, nope (by decide +kernel) ⟨_, rfl, rfl, _, rfl, nope (by decide +kernel) ⟨_, rfl, rfl, _, rfl, yes (by decide +kernel) ⟨_, rfl, _, rfl, _, _, rfl, rfl, .inl (hm rfl), q'⟩⟩⟩⟩
    · exact ⟨_, rfl, rfl, _, rfl, nope (by decide +kernel) ⟨_, rfl, rfl, _, rfl, nope (by decide +kernel) ⟨_, rfl, rfl, _, rfl, nope (by decide +kernel) ⟨_, rfl, rfl, _, rfl, yes (by decide +kernel) ⟨_, rfl, _, rfl, rfl, .inr ⟨_, rfl, q'⟩⟩⟩⟩⟩⟩
    · exact ⟨_, rfl, rfl, _, rfl, nope (by decide +kernel) ⟨_, rfl, rfl, _, rfl, nope (by decide +kernel) ⟨_, rfl, rfl, _, rfl, nope (by decide +kernel) ⟨_, rfl, rfl, _, rfl, nope (by decide +kernel) ⟨_, rfl, rfl, _, rfl, yes (by decide +kernel) ⟨_, rfl, _, rfl, _, _, rfl, rfl, .inr ⟨_, rfl, q'⟩⟩⟩⟩⟩⟩⟩
    · refine ⟨_, rfl, rfl, _, rfl, nope (by decide +kernel) ⟨_, rfl, rfl, _, rfl, nope (by decide +kernel) ⟨_, rfl, rfl, _, rfl, nope (by decide +kernel) ⟨_, rfl, rfl, _, rfl, nope (by decide +kernel) ⟨_, rfl, rfl, _, rfl, nope (by decide +kernel) ⟨_, rfl, rfl, _, rfl, yes (by decide +kernel) ?_⟩⟩⟩⟩⟩⟩
      refine ⟨_, rfl, rfl, _, rfl, ite2 (fun e => ?_) (fun e => ?_)⟩
      · refine ⟨_, rfl, rfl, .inr ⟨_, rfl, ?_⟩⟩
        have z2 : opv (0 + 1 + 1 + 1 + 1 + 1) i j = tr (!decide (V.int j = V.int 0)) := by
          show tr ((!decide (V.int i = V.int 0)) && !decide (V.int j = V.int 0)) = _
          rw [e]; rfl
        rw [z2] at q'
        exact q'
      · refine .inr ⟨_, rfl, ?_⟩
        have z2 : opv (0 + 1 + 1 + 1 + 1 + 1) i j = tr false := by
          show tr ((!decide (V.int i = V.int 0)) && !decide (V.int j = V.int 0)) = _
          rw [Bool.eq_false_iff.mpr e]; rfl
        rw [z2] at q'
        exact q'
    · have e0 : opS (o + 1 + 1 + 1 + 1 + 1 + 1) = "or" := rfl
      rw [e0]
      refine ⟨_, rfl, rfl, _, rfl, nope (by decide +kernel) ⟨_, rfl, rfl, _, rfl, nope (by decide +kernel) ⟨_, rfl, rfl, _, rfl, nope (by decide +kernel) ⟨_, rfl, rfl, _, rfl, nope (by decide +kernel) ⟨_, rfl, rfl, _, rfl, nope (by decide +kernel) ⟨_, rfl, rfl, _, rfl, nope (by decide +kernel) ?_⟩⟩⟩⟩⟩⟩
      refine ⟨_, rfl, rfl, _, rfl, ite2 (fun e => ?_) (fun e => ?_)⟩
      · refine .inr ⟨_, rfl, ?_⟩
        have z2 : opv (o + 1 + 1 + 1 + 1 + 1 + 1) i j = tr true := by
          show tr ((!decide (V.int i = V.int 0)) || !decide (V.int j = V.int 0)) = _
          rw [e]; rfl
        rw [z2] at q'
        exact q'
      · refine ⟨_, rfl, rfl, .inr ⟨_, rfl, ?_⟩⟩
        have z2 : opv (o + 1 + 1 + 1 + 1 + 1 + 1) i j = tr (!decide (V.int j = V.int 0)) := by
          show tr ((!decide (V.int i = V.int 0)) || !decide (V.int j = V.int 0)) = _
          rw [Bool.eq_false_iff.mpr e]; rfl
        rw [z2] at q'
        exact q'


end
end Pf

namespace Pf
open PySem PySem.Spec PyProof.Rows L2
section
variable {P : Program} {w : World} {K : PySem.W.Frag} {mg : Str → Option Value} {base : Heap}
def sp__law_word (K : PySem.W.Frag) : Sp := fun vs H Q _ => ∃ (r : Addr) (n : Int), vs = [.ref r, .int n] ∧ RD H r ∧ 0 ≤ n ∧ n ≤ 1000 ∧ ∀ (z : Str) H', Fr r H H' → RD H' r → (z.length : Int) = n + 1 → PyData.strOk z = true → Q (.str z) H'
theorem len36 : (Str.ofString "abcdefghijklmnopqrstuvwxyz0123456789").cps.toList.length = 36 := by decide +kernel
theorem one_len (c : Nat) : (⟨#[c]⟩ : Str).length = 1 := rfl
theorem app_len (x y : Str) : (x ++ y).length = x.length + y.length := by
  show (x.cps ++ y.cps).size = _
  rw [Array.size_append]
  rfl
theorem line_small {n : Nat} (h : n ≤ 100000) : n ≤ sizeLine := Nat.le_trans h (by decide)
theorem ok__law_word (T : Txt K mg) : Has P w K mg base 2 "_law_word" ["reader", "many"] (sp__law_word K) := by
  obtain ⟨f, fd, F, m, b⟩ := T.d__law_word.ex
  obtain ⟨f__law_next, fd__law_next, G__law_next, m__law_next, k__law_next, b__law_next⟩ := ok__law_next (P := P) (w := w) (base := base) T
  refine ⟨f, fd, F.ok sc__law_word (fun vs H Q E h => ?_) (fun cdv A outer s H vs Q E hr h => ?_), m, F.kp, b⟩
  · obtain ⟨r, n, rfl, hR, h0, h1, q⟩ := h
    rfl
  obtain ⟨r, n, rfl, hR, h0, h1, q⟩ := h
  refine ⟨_, (pss_cons (ps_set (i := 2) sc__law_word.nd rfl (.inl rfl) pe_str)
      (pss_cons (ps_set (i := 3) sc__law_word.nd rfl (.inl rfl) (pe_ix ix_str (pv 2) (pe_call G__law_next (hr.mono (by decide)) (by rfl) m__law_next k__law_next b__law_next .nil pass0 (pa_cons (pv 0) (pa_cons pe_int pa_nil))) (fun _ _ => rfl)))
      (pss_cons (ps_for PassesOwn.never rfl (pi_range1 (by rfl) T.z_range (pa_cons (pv 1) pa_nil)) (pg_name (i := 4) sc__law_word.nd rfl (.inl rfl))
      (pss_one (ps_set (i := 3) sc__law_word.nd rfl (.inl rfl) (pe_op op_add_str (pv 3) (pe_ix ix_str (pv 2) (pe_call G__law_next (hr.mono (by decide)) (by rfl) m__law_next k__law_next b__law_next .nil pass0 (pa_cons (pv 0) (pa_cons pe_int pa_nil))) (fun _ _ => rfl))))))
      (pss_one (ps_ret (pv 3)))))), ?_⟩
  have bs : ∀ {i : Int}, 0 ≤ i → i < 36 → ∃ c, atI (Str.ofString "abcdefghijklmnopqrstuvwxyz0123456789").cps.toList i = some c := fun {i} a b => by
    obtain ⟨c, _, h⟩ := at_in (xs := (Str.ofString "abcdefghijklmnopqrstuvwxyz0123456789").cps.toList) a (by rw [len36]; exact b)
    exact ⟨c, h⟩
  have so : PyData.strOk (Str.ofString "abcdefghijklmnopqrstuvwxyz0123456789") = true := by decide +kernel
  have ls : (Str.ofString "abcdefghijklmnopqrstuvwxyz0123456789").length ≤ sizeLine := by decide +kernel
  -- word = signs[_law_next(reader, 26)]
  refine ⟨_, rfl, _, rfl, r, 26, rfl, hR, by decide, by decide, fun v H1 f1 R1 v0 v1 => ?_⟩
  obtain ⟨c, hc⟩ := bs v0 (by omega)
  refine ⟨_, _, c, rfl, rfl, ls, hc, ?_⟩
  -- for k in range(many)
  refine ⟨_, rfl, n, rfl, by omega, by omega, for_range (fun i σ H2 => ∃ (z : Str) (y : Option V), σ = [some (.ref r), some (.int n), some (.str "abcdefghijklmnopqrstuvwxyz0123456789"), some (.str z), y] ∧ Fr r H H2 ∧ RD H2 r ∧ z.length = i + 1 ∧ PyData.strOk z = true) ⟨_, _, rfl, f1, R1, rfl, sok_one hc so⟩ ?_ ?_⟩
  · rintro i σ H2 hi ⟨z, y, rfl, f2, R2, hz, zo⟩
    refine ⟨_, rfl, _, rfl, _, rfl, r, 36, rfl, R2, by decide, by decide, fun v2 H3 f3 R3 w0 w1 => ?_⟩
    obtain ⟨c2, hc2⟩ := bs w0 w1
    refine ⟨_, _, c2, rfl, rfl, ls, hc2, ?_⟩
    refine ⟨_, _, rfl, rfl, ?_, ?_⟩
    · rw [one_len, hz]
      exact line_small (by omega)
    · refine ⟨_, _, rfl, f2.trans f3, R3, ?_, sok_app zo (sok_one hc2 so)⟩
      rw [app_len, one_len, hz]
  · rintro σ H2 ⟨z, y, rfl, f2, R2, hz, zo⟩
    refine ⟨_, rfl, q z H2 f2 R2 (by omega) zo⟩


end
end Pf

namespace Pf
open PySem PySem.Spec PyProof.Rows L2
section
variable {P : Program} {w : World} {K : PySem.W.Frag} {mg : Str → Option Value} {base : Heap}
def sp__law_pool (K : PySem.W.Frag) : Sp := fun vs H Q _ => ∃ (r : Addr), vs = [.ref r] ∧ RD H r ∧ ∀ (p : Addr) (ws : List Str) (H' : Hp), Fr r H H' → RD H' r → H p = none → H' p = some (.lst (ws.map V.str)) → ws.length ≤ 12 → (∀ x ∈ ws, PyData.strOk x = true) → Q (.ref p) H'
theorem sok_more {ws : List Str} {z : Str} (h : ∀ x ∈ ws, PyData.strOk x = true) (hz : PyData.strOk z = true) : ∀ x ∈ ws ++ [z], PyData.strOk x = true := fun x hx => by
  rcases List.mem_append.mp hx with hx | hx
  · exact h x hx
  · rcases List.mem_singleton.mp hx with rfl
    exact hz
theorem map_app {ws : List Str} {z : Str} : ws.map V.str ++ [V.str z] = (ws ++ [z]).map V.str := by simp
theorem ok__law_pool (T : Txt K mg) : Has P w K mg base 3 "_law_pool" ["reader"] (sp__law_pool K) := by
  obtain ⟨f, fd, F, m, b⟩ := T.d__law_pool.ex
  obtain ⟨f__law_next, fd__law_next, G__law_next, m__law_next, k__law_next, b__law_next⟩ := ok__law_next (P := P) (w := w) (base := base) T
  obtain ⟨f__law_word, fd__law_word, G__law_word, m__law_word, k__law_word, b__law_word⟩ := ok__law_word (P := P) (w := w) (base := base) T
  refine ⟨f, fd, F.ok sc__law_pool (fun vs H Q E h => ?_) (fun cdv A outer s H vs Q E hr h => ?_), m, F.kp, b⟩
  · obtain ⟨r, rfl, hR, q⟩ := h
    rfl
  obtain ⟨r, rfl, hR, q⟩ := h
  refine ⟨_, (pss_cons (ps_set (i := 1) sc__law_pool.nd rfl (.inl rfl) (pe_split pe_str pe_str))
      (pss_cons (ps_set (i := 2) sc__law_pool.nd rfl (.inl rfl) (pe_lst pa_nil))
      (pss_cons (ps_set (i := 3) sc__law_pool.nd rfl (.inl rfl) (pe_cmpR op_eq (pe_call G__law_next (hr.mono (by decide)) (by rfl) m__law_next k__law_next b__law_next .nil pass0 (pa_cons (pv 0) (pa_cons pe_int pa_nil))) pe_int (nomark _)))
      (pss_cons (ps_for PassesOwn.never rfl (pi_range1 (by rfl) T.z_range (pa_cons pe_int pa_nil)) (pg_name (i := 4) sc__law_pool.nd rfl (.inl rfl))
      (pss_cons (ps_set (i := 5) sc__law_pool.nd rfl (.inl rfl) (pe_call G__law_word (hr.mono (by decide)) (by rfl) m__law_word k__law_word b__law_word .nil pass0 (pa_cons (pv 0) (pa_cons (pe_call G__law_next (hr.mono (by decide)) (by rfl) m__law_next k__law_next b__law_next .nil pass0 (pa_cons (pv 0) (pa_cons pe_int pa_nil))) pa_nil))))
        (pss_one (ps_if (PW.pt (pw_and (pt_not (pt_val (pv 3))) (pw_and (pt_cmpR op_notIn_seq (pv 5) (pv 1) (by rfl)) (pw_and1 (pt_cmpR op_notIn_seq (pv 5) (pv 2) (by rfl))))))
        (pss_one (ps_expr (pe_bm PySem.F.plainAttrs_list PySem.F.slot_list_append PySem.F.type_list_append mt_append (pv 2) (pa_cons (pv 5) pa_nil))))
        pss_nil))))
      (pss_cons (ps_set (i := 6) sc__law_pool.nd rfl (.inl rfl) (pe_slice sl_str (pe_call G__law_word (hr.mono (by decide)) (by rfl) m__law_word k__law_word b__law_word .nil pass0 (pa_cons (pv 0) (pa_cons pe_int pa_nil))) po_none (po_some (pe_call G__law_next (hr.mono (by decide)) (by rfl) m__law_next k__law_next b__law_next .nil pass0 (pa_cons (pv 0) (pa_cons pe_int pa_nil))))))
      (pss_cons (ps_set (i := 7) sc__law_pool.nd rfl (.inl rfl) (pe_ix ix_str pe_str (pe_call G__law_next (hr.mono (by decide)) (by rfl) m__law_next k__law_next b__law_next .nil pass0 (pa_cons (pv 0) (pa_cons pe_int pa_nil))) (fun _ _ => rfl)))
      (pss_cons (ps_set (i := 8) sc__law_pool.nd rfl (.inl rfl) (pe_call G__law_next (hr.mono (by decide)) (by rfl) m__law_next k__law_next b__law_next .nil pass0 (pa_cons (pv 0) (pa_cons (pe_op op_add (pe_callB call_len_str (by rfl) T.z_len (by decide +kernel) (pa_cons (pv 6) pa_nil)) pe_int) pa_nil))))
      (pss_cons (ps_set (i := 9) sc__law_pool.nd rfl (.inl rfl) (pe_call G__law_next (hr.mono (by decide)) (by rfl) m__law_next k__law_next b__law_next .nil pass0 (pa_cons (pv 0) (pa_cons pe_int pa_nil))))
      (pss_cons (ps_for PassesOwn.never rfl (pi_range1 (by rfl) T.z_range (pa_cons pe_int pa_nil)) (pg_name (i := 4) sc__law_pool.nd rfl (.inl rfl))
      (pss_cons (ps_set (i := 5) sc__law_pool.nd rfl (.inl rfl) (pe_op op_add_str (pe_op op_add_str (pe_op op_add_str (pe_slice sl_str (pv 6) po_none (po_some (pv 8))) (pe_ix ix_str pe_str (pe_op op_mod (pe_callTy call_int1 (by rfl) T.z_int (by decide +kernel) (pa_cons (pe_op op_add (pv 9) (pv 4)) pa_nil)) pe_int) (fun _ _ => rfl))) (pe_slice sl_str (pv 6) (po_some (pv 8)) po_none)) (pv 7)))
        (pss_one (ps_if (pt_cmpR op_notIn_seq (pv 5) (pv 2) (by rfl))
        (pss_one (ps_expr (pe_bm PySem.F.plainAttrs_list PySem.F.slot_list_append PySem.F.type_list_append mt_append (pv 2) (pa_cons (pv 5) pa_nil))))
        pss_nil))))
      (pss_one (ps_ret (pe_slice sl_list (pv 2) po_none (po_some pe_int))))))))))))), ?_⟩
  -- closed
  refine ⟨⟨_, rfl⟩, _, _, rfl, rfl, by decide +kernel, by decide +kernel, fun cl ncl => ?_⟩
  generalize Txt.split _ _ = cs
  -- pool = []
  refine ⟨Nat.zero_le _, fun po npo => ?_⟩
  have hcl : upd (upd H cl (.lst (cs.map V.str))) po (.lst []) cl = some (.lst (cs.map V.str)) := same_new npo _ _ upd_same
  have npo' : H po = none := same_back (same_new ncl) npo
  have ncp : cl ≠ po := ne_of_none upd_same npo
  have f0 : Fr r H (upd (upd H cl (.lst (cs.map V.str))) po (.lst [])) := (Fr.new ncl).trans (Fr.new npo)
  have R0 : RD (upd (upd H cl (.lst (cs.map V.str))) po (.lst [])) r := (hR.of (same_new ncl)).of (same_new npo)
  have hpo : upd (upd H cl (.lst (cs.map V.str))) po (.lst []) po = some (.lst (([] : List Str).map V.str)) := upd_same
  generalize upd (upd H cl (.lst (cs.map V.str))) po (.lst []) = H1 at hcl f0 R0 hpo ⊢
  -- alike
  refine ⟨_, rfl, r, 2, rfl, R0, by decide, by decide, fun v H2 f2 R2 v0 v1 => ?_⟩
  refine ⟨rfl, ?_⟩
  have nr : cl ≠ r ∧ po ≠ r := ⟨hR.ne ncl, hR.ne npo'⟩
  have hcl2 := f2 _ _ nr.1 hcl
  have hpo2 := f2 _ _ nr.2 hpo
  generalize decide (V.int v = V.int 1) = al
  -- the first loop
  refine ⟨12, rfl, by decide, by decide, for_range (fun i σ H3 => ∃ (ws : List Str) (y1 y2 : Option V), σ = [some (.ref r), some (.ref cl), some (.ref po), some (.bl al), y1, y2, none, none, none, none] ∧ Fr r H H3 ∧ RD H3 r ∧ H3 cl = some (.lst (cs.map V.str)) ∧ H3 po = some (.lst (ws.map V.str)) ∧ ws.length ≤ i ∧ ∀ x ∈ ws, PyData.strOk x = true)
    ⟨_, _, _, rfl, f0.trans f2, R2, hcl2, hpo2, Nat.le_refl _, fun x hx => absurd hx List.not_mem_nil⟩ ?_ ?_⟩
  · rintro i σ H3 hi ⟨ws, y1, y2, rfl, f3, R3, hc3, hp3, hl, ho⟩
    refine ⟨_, rfl, _, rfl, r, 8, rfl, R3, by decide, by decide, fun v4 H4 f4 R4 a0 a1 => ?_⟩
    refine ⟨r, v4, rfl, R4, a0, by omega, fun z H5 f5 R5 hz zo => ?_⟩
    have hc5 := f5 _ _ nr.1 (f4 _ _ nr.1 hc3)
    have hp5 := f5 _ _ nr.2 (f4 _ _ nr.2 hp3)
    have f35 := f3.trans (f4.trans f5)
    have next : ∀ {σ' : L2.St}, σ' = [some (.ref r), some (.ref cl), some (.ref po), some (.bl al), some (.int (0 + (i : Int))), some (.str z), none, none, none, none] → ∃ (ws : List Str) (y1 y2 : Option V), σ' = [some (.ref r), some (.ref cl), some (.ref po), some (.bl al), y1, y2, none, none, none, none] ∧ Fr r H H5 ∧ RD H5 r ∧ H5 cl = some (.lst (cs.map V.str)) ∧ H5 po = some (.lst (ws.map V.str)) ∧ (ws.length ≤ i + 1 ∧ ∀ x ∈ ws, PyData.strOk x = true) :=
      fun e => ⟨ws, _, _, e, f35, R5, hc5, hp5, by omega, ho⟩
    refine ⟨_, rfl, _, rfl, ite2 (fun e => ?_) (fun e => iteF (next rfl))⟩
    refine ⟨_, rfl, _, rfl, cl, _, rfl, .inl (SqL.of hc5), rfl, strs_flat _, _, rfl, ite2 (fun e => ?_) (fun e => iteF (next rfl))⟩
    refine ⟨_, rfl, _, rfl, po, _, rfl, .inl (SqL.of hp5), rfl, strs_flat _, _, rfl, ite2 (fun e => ?_) (fun e => next rfl)⟩
    refine ⟨_, rfl, .inl ⟨rfl, _, SqL.of hp5⟩, _, rfl, po, _, _, rfl, rfl, hp5, ?_, ?_⟩
    · rw [List.length_map]
      exact small1000 (by omega)
    · refine ⟨ws ++ [z], _, _, rfl, f35.mut npo', ?_, ?_, ?_, ?_, sok_more ho zo⟩
      · obtain ⟨x1, x2, x3, x4⟩ := R5
        exact ⟨x1, x2, x3, by rw [upd_ne nr.2.symm]; exact x4⟩
      · rw [upd_ne ncp]
        exact hc5
      · rw [upd_same, map_app]
      · rw [List.length_append]
        show ws.length + 1 ≤ i + 1
        omega
  · rintro σ H3 ⟨ws, y1, y2, rfl, f3, R3, hc3, hp3, hl, ho⟩
    -- base
    refine ⟨_, rfl, r, 6, rfl, R3, by decide, by decide, fun z H5 f5 R5 hz zo => ?_⟩
    refine ⟨_, rfl, r, 7, rfl, R5, by decide, by decide, fun v6 H6 f6 R6 a0 a1 => ?_⟩
    have lz : z.length ≤ 100000 := by omega
    refine ⟨v6, rfl, z, rfl, line_small lz, ?_⟩
    have lb := cutS_len z none (some v6)
    have bo : PyData.strOk (cutS z none (some v6)) = true := sok_cut zo
    generalize cutS z none (some v6) = ba at lb bo ⊢
    -- last
    refine ⟨_, rfl, r, 10, rfl, R6, by decide, by decide, fun v7 H7 f7 R7 b0 b1 => ?_⟩
    obtain ⟨c7, hc7⟩ := str_at (z := Str.ofString "0123456789") b0 (by rw [show (Str.ofString "0123456789").length = 10 by decide +kernel]; exact b1)
    refine ⟨_, _, _, rfl, rfl, by decide +kernel, hc7, ?_⟩
    -- at
    refine ⟨_, rfl, _, rfl, _, rfl, line_small (by omega), _, _, rfl, rfl, r, _, rfl, R7, by omega, by omega, fun v8 H8 f8 R8 d0 d1 => ?_⟩
    -- first
    refine ⟨_, rfl, r, 26, rfl, R8, by decide, by decide, fun v9 H9 f9 R9 e0 e1 => ?_⟩
    have fa := f3.trans (f5.trans (f6.trans (f7.trans (f8.trans f9))))
    have hp9 := f9 _ _ nr.2 (f8 _ _ nr.2 (f7 _ _ nr.2 (f6 _ _ nr.2 (f5 _ _ nr.2 hp3))))
    refine ⟨26, rfl, by decide, by decide, for_range (fun i σ H3 => ∃ (ws : List Str) (y1 y2 : Option V), σ = [some (.ref r), some (.ref cl), some (.ref po), some (.bl al), y1, y2, some (.str ba), some (.str ⟨#[c7]⟩), some (.int v8), some (.int v9)] ∧ Fr r H H3 ∧ RD H3 r ∧ H3 po = some (.lst (ws.map V.str)) ∧ ws.length ≤ 12 + i ∧ ∀ x ∈ ws, PyData.strOk x = true)
      ⟨_, _, _, rfl, fa, R9, hp9, by omega, ho⟩ ?_ ?_⟩
    · rintro i σ H3 hi ⟨ws, y1, y2, rfl, f3, R3, hp3, hl, ho⟩
      obtain ⟨c3, hc3⟩ := str_at (z := Str.ofString "abcdefghijklmnopqrstuvwxyz") (i := (v9 + (0 + (i : Int))) % 26) (mod_lt (by decide)).1 (by rw [show (Str.ofString "abcdefghijklmnopqrstuvwxyz").length = 26 by decide +kernel]; exact (mod_lt (by decide)).2)
      have l1 := cutS_len ba none (some v8)
      have l2 := cutS_len ba (some v8) none
      refine ⟨_, rfl, ⟨_, rfl, _, rfl, _, rfl, line_small (by omega), ?_⟩⟩
      refine ⟨_, rfl, _, rfl, _, _, rfl, rfl, .inl ⟨_, rfl, _, _, rfl, rfl, (show (0 : Int) < 26 by decide), _, _, c3, rfl, rfl, by decide +kernel, hc3, ?_⟩⟩
      refine ⟨_, _, rfl, rfl, line_small (by rw [one_len]; omega), ?_⟩
      refine ⟨_, rfl, ⟨_, rfl, _, rfl, _, rfl, line_small (by omega), ?_⟩⟩
      refine ⟨_, _, rfl, rfl, line_small (by rw [app_len, one_len]; omega), ?_⟩
      refine ⟨_, rfl, _, _, rfl, rfl, line_small (by rw [app_len, app_len, one_len, one_len]; omega), ?_⟩
      refine ⟨_, rfl, _, rfl, po, _, rfl, .inl (SqL.of hp3), rfl, strs_flat _, _, rfl, ite2 (fun e => ?_) (fun e => ?_)⟩
      · refine ⟨_, rfl, .inl ⟨rfl, _, SqL.of hp3⟩, _, rfl, po, _, _, rfl, rfl, hp3, ?_, ?_⟩
        · rw [List.length_map]
          exact small1000 (by omega)
        · refine ⟨ws ++ [cutS ba none (some v8) ++ ⟨#[c3]⟩ ++ cutS ba (some v8) none ++ ⟨#[c7]⟩], _, _, rfl, f3.mut npo', ?_, ?_, ?_, sok_more ho (sok_app (sok_app (sok_app (sok_cut bo) (sok_one hc3 (by decide +kernel))) (sok_cut bo)) (sok_one hc7 (by decide +kernel)))⟩
          · obtain ⟨x1, x2, x3, x4⟩ := R3
            exact ⟨x1, x2, x3, by rw [upd_ne nr.2.symm]; exact x4⟩
          · rw [upd_same, map_app]
          · rw [List.length_append]
            show ws.length + 1 ≤ 12 + (i + 1)
            omega
      · exact ⟨ws, _, _, rfl, f3, R3, hp3, by omega, ho⟩
    · rintro σ H3 ⟨ws, y1, y2, rfl, f3, R3, hp3, hl, ho⟩
      refine ⟨_, rfl, 12, rfl, po, _, rfl, SqL.of hp3, fun p np => ?_⟩
      refine q p (ws.take 12) _ (f3.trans (Fr.new np)) (R3.of (same_new np)) (f3.free hR R3 np) ?_ ?_ (fun x hx => ho x (List.mem_of_mem_take hx))
      · rw [upd_same, show cutV (ws.map V.str) none (some 12) = (ws.map V.str).take 12 from cut_to _ 12, List.map_take]
      · rw [List.length_take]
        omega


end
end Pf

namespace Pf
open PySem PySem.Spec PyProof.Rows L2
section
variable {P : Program} {w : World} {K : PySem.W.Frag} {mg : Str → Option Value} {base : Heap}
def sp__law_deep (K : PySem.W.Frag) (n : Nat) : Sp := fun vs H Q _ => ∃ (r pn : Addr) (d : Nat) (ws : List Str), vs = [.ref r, .ref pn, .int (d : Int)] ∧ RD H r ∧ SqL K H pn (ws.map V.str) ∧ pn ≠ r ∧ ws.length ≤ 1000 ∧ d < n ∧
  ∀ (v : V) (e : Ex) (H' : Hp), Fr r H H' → RD H' r → ExIn H' e v → e.In ws → e.Nums 9 → e.depth ≤ d + 1 → Q v H'
theorem ops_at : ∀ {j : Nat}, j < 7 → atI [V.str "+", V.str "-", V.str "*", V.str "==", V.str "<", V.str "and", V.str "or"] (j : Int) = some (.str (opS j))
  | 0, _ => atI_nat rfl
  | 1, _ => atI_nat rfl
  | 2, _ => atI_nat rfl
  | 3, _ => atI_nat rfl
  | 4, _ => atI_nat rfl
  | 5, _ => atI_nat rfl
  | 6, _ => atI_nat rfl
  | j + 7, h => absurd h (by omega)
theorem ok__law_deep (T : Txt K mg) : ∀ n : Nat, Has P w K mg base (n + 3) "_law_deep" ["reader", "names", "depth"] (sp__law_deep K n)
| 0 => .none T.d__law_deep fun vs H Q E h => by
    obtain ⟨_, _, _, _, _, _, _, _, _, hd, _⟩ := h
    omega
| n + 1 => by
  obtain ⟨f__law_deep, fd__law_deep, G__law_deep, m__law_deep, k__law_deep, b__law_deep⟩ := ok__law_deep T n
  obtain ⟨f, fd, F, m, b⟩ := T.d__law_deep.ex
  obtain ⟨f__law_next, fd__law_next, G__law_next, m__law_next, k__law_next, b__law_next⟩ := ok__law_next (P := P) (w := w) (base := base) T
  refine ⟨f, fd, F.ok sc__law_deep (fun vs H Q E h => ?_) (fun cdv A outer s H vs Q E hr h => ?_), m, F.kp, b⟩
  · obtain ⟨r, pn, d, ws, rfl, hR, hN, hne, hl, hd, q⟩ := h
    rfl
  obtain ⟨r, pn, d, ws, rfl, hR, hN, hne, hl, hd, q⟩ := h
  refine ⟨_, (pss_cons (ps_set (i := 3) sc__law_deep.nd rfl (.inl rfl) (pe_call G__law_next (hr.mono (by omega)) (by rfl) m__law_next k__law_next b__law_next .nil pass0 (pa_cons (pv 0) (pa_cons pe_int pa_nil))))
      (pss_cons (ps_if (PW.pt (pw_or (pt_cmpR op_eq (pv 2) pe_int (nomark _)) (pw_or1 (pt_cmpR op_lt (pv 3) pe_int (nomark _)))))
      (pss_cons (ps_if (PW.pt (pw_and (pt_cmpR op_gt (pe_callB call_len_seq (by rfl) T.z_len (by decide +kernel) (pa_cons (pv 1) pa_nil)) pe_int (nomark _)) (pw_and1 (pt_cmpR op_gt (pe_call G__law_next (hr.mono (by omega)) (by rfl) m__law_next k__law_next b__law_next .nil pass0 (pa_cons (pv 0) (pa_cons pe_int pa_nil))) pe_int (nomark _)))))
        (pss_one (ps_ret (pe_tup (pa_cons pe_str (pa_cons (pe_ix ix_list (pv 1) (pe_call G__law_next (hr.mono (by omega)) (by rfl) m__law_next k__law_next b__law_next .nil pass0 (pa_cons (pv 0) (pa_cons (pe_callB call_len_seq (by rfl) T.z_len (by decide +kernel) (pa_cons (pv 1) pa_nil)) pa_nil))) (fun _ _ => rfl)) pa_nil)))))
        pss_nil)
        (pss_one (ps_ret (pe_tup (pa_cons pe_str (pa_cons (pe_call G__law_next (hr.mono (by omega)) (by rfl) m__law_next k__law_next b__law_next .nil pass0 (pa_cons (pv 0) (pa_cons pe_int pa_nil))) pa_nil))))))
      pss_nil)
      (pss_cons (ps_if (pt_cmpR op_lt (pv 3) pe_int (nomark _))
      (pss_one (ps_ret (pe_tup (pa_cons pe_str (pa_cons (pe_call G__law_deep (hr.mono (by omega)) (by rfl) m__law_deep k__law_deep b__law_deep .nil pass0 (pa_cons (pv 0) (pa_cons (pv 1) (pa_cons (pe_op op_sub (pv 2) pe_int) pa_nil)))) pa_nil)))))
      pss_nil)
      (pss_cons (ps_set (i := 4) sc__law_deep.nd rfl (.inl rfl) (pe_call G__law_deep (hr.mono (by omega)) (by rfl) m__law_deep k__law_deep b__law_deep .nil pass0 (pa_cons (pv 0) (pa_cons (pv 1) (pa_cons (pe_op op_sub (pv 2) pe_int) pa_nil)))))
      (pss_one (ps_ret (pe_tup (pa_cons (pe_ix ix_list (pe_lst (pa_cons pe_str (pa_cons pe_str (pa_cons pe_str (pa_cons pe_str (pa_cons pe_str (pa_cons pe_str (pa_cons pe_str pa_nil)))))))) (pe_op op_sub (pv 3) pe_int) (fun _ _ => rfl)) (pa_cons (pv 4) (pa_cons (pe_call G__law_deep (hr.mono (by omega)) (by rfl) m__law_deep k__law_deep b__law_deep .nil pass0 (pa_cons (pv 0) (pa_cons (pv 1) (pa_cons (pe_op op_sub (pv 2) pe_int) pa_nil)))) pa_nil)))))))))), ?_⟩
  -- kind
  refine ⟨_, rfl, r, 12, rfl, hR, by decide, by decide, fun k H1 f1 R1 k0 k1 => ?_⟩
  have hN1 := f1.seq hne hN
  have lw : (ws.map V.str).length = ws.length := List.length_map _
  refine ⟨_, rfl, rfl, _, rfl, ite2 (fun e => iteT ?leaf1) (fun e => ⟨_, rfl, _, _, rfl, rfl, _, rfl, ite2 (fun e2 => ?leaf2) (fun e2 => ?deep)⟩)⟩
  case deep =>
    have hd0 : d ≠ 0 := fun z => by
      subst z
      exact e (decide_eq_true rfl)
    obtain ⟨d', rfl⟩ : ∃ d', d = d' + 1 := ⟨d - 1, by omega⟩
    have ed : ((d' + 1 : Nat) : Int) - 1 = (d' : Int) := by omega
    have k3 : 3 ≤ k := by have := dec_f e2; omega
    refine ⟨_, rfl, _, _, rfl, rfl, _, rfl, ite2 (fun e3 => ?_) (fun e3 => ?_)⟩
    · -- not
      refine ⟨_, rfl, _, rfl, _, rfl, _, _, rfl, rfl, r, pn, d', ws, congrArg (fun z => [V.ref r, V.ref pn, V.int z]) ed, R1, hN1, hne, hl, by omega, fun v ex H2 f2 R2 hx hi hn hdp => ?_⟩
      refine ⟨by show 2 ≤ sizeLine; decide, fun p np => ?_⟩
      exact q (.ref p) (.not ex) _ (f1.trans (f2.trans (Fr.new np))) (R2.of (same_new np)) ⟨p, v, rfl, upd_same, hx.mono (tpn np)⟩ hi hn (Nat.succ_le_succ hdp)
    · -- two parts
      have k5 : 5 ≤ k := by have := dec_f e3; omega
      refine ⟨_, rfl, _, rfl, _, rfl, _, _, rfl, rfl, r, pn, d', ws, congrArg (fun z => [V.ref r, V.ref pn, V.int z]) ed, R1, hN1, hne, hl, by omega, fun v ex H2 f2 R2 hx hi hn hdp => ?_⟩
      refine ⟨by show 7 ≤ sizeLine; decide, fun o no => ?_⟩
      refine ⟨_, rfl, _, _, rfl, rfl, o, _, _, .str (opS (k - 5).toNat), rfl, rfl, SqL.of upd_same, ?_, ?_⟩
      · have h := ops_at (j := (k - 5).toNat) (by omega)
        rw [show (((k - 5).toNat : Nat) : Int) = k - 5 by omega] at h
        exact h
      have R2' := R2.of (same_new (o := .lst [V.str "+", V.str "-", V.str "*", V.str "==", V.str "<", V.str "and", V.str "or"]) no)
      have hN2 : SqL K (upd H2 o (.lst [V.str "+", V.str "-", V.str "*", V.str "==", V.str "<", V.str "and", V.str "or"])) pn (ws.map V.str) := (same_new no).seq (f2.seq hne hN1)
      refine ⟨_, rfl, _, rfl, _, rfl, _, rfl, _, _, rfl, rfl, r, pn, d', ws, congrArg (fun z => [V.ref r, V.ref pn, V.int z]) ed, R2', hN2, hne, hl, by omega, fun v3 ex3 H3 f3 R3 hx3 hi3 hn3 hdp3 => ?_⟩
      refine ⟨by show 3 ≤ sizeLine; decide, fun p np => ?_⟩
      have fo : Fr r H2 H3 := (Fr.of (same_new no)).trans f3
      refine q (.ref p) (.bin (k - 5).toNat ex ex3) _ (f1.trans (f2.trans (fo.trans (Fr.new np)))) (R3.of (same_new np)) ⟨p, v, v3, rfl, upd_same, ?_, hx3.mono (tpn np)⟩ ⟨hi, hi3⟩ ⟨hn, hn3⟩ ?_
      · exact (hx.mono (fo.tp R2)).mono (tpn np)
      · show max ex.depth ex3.depth + 1 ≤ d' + 1 + 1
        omega
  all_goals
    refine ⟨_, rfl, pn, _, rfl, .inl hN1, _, _, rfl, rfl, _, rfl, ite2 (fun e5 => ⟨_, rfl, r, 3, rfl, R1, by decide, by decide, fun v2 H2 f2 R2 a0 a1 => ⟨_, _, rfl, rfl, _, rfl, ite2 (fun e6 => ?nm) (fun e6 => ?nu)⟩⟩) (fun e5 => iteF ?nu2)⟩
    case nm =>
      have h0 : 0 < ws.length := by have := dec_t e5; omega
      have hN2 := f2.seq hne hN1
      refine ⟨_, rfl, _, rfl, _, rfl, pn, _, rfl, .inl hN2, r, _, rfl, R2, by omega, by omega, fun v3 H3 f3 R3 b0 b1 => ?_⟩
      obtain ⟨x, h1, h2⟩ := at_in (xs := ws.map V.str) b0 b1
      rw [List.getElem?_map] at h1
      cases h3 : ws[v3.toNat]? with
      | none => rw [h3] at h1; cases h1
      | some y =>
        rw [h3] at h1
        cases h1
        refine ⟨pn, _, _, _, rfl, rfl, f3.seq hne hN2, h2, by show 2 ≤ sizeLine; decide, fun p np => ?_⟩
        exact q (.ref p) (.nam y) _ (f1.trans (f2.trans (f3.trans (Fr.new np)))) (R3.of (same_new np)) ⟨p, rfl, upd_same⟩ (List.mem_of_getElem? h3) True.intro (by show 1 ≤ d + 1; omega)
    case nu =>
      refine ⟨_, rfl, r, 10, rfl, R2, by decide, by decide, fun v3 H3 f3 R3 b0 b1 => ⟨by show 2 ≤ sizeLine; decide, fun p np => ?_⟩⟩
      exact q (.ref p) (.num v3) _ (f1.trans (f2.trans (f3.trans (Fr.new np)))) (R3.of (same_new np)) ⟨p, rfl, upd_same⟩ True.intro (by show v3.natAbs ≤ 9; omega) (by show 1 ≤ d + 1; omega)
    case nu2 =>
      refine ⟨_, rfl, r, 10, rfl, R1, by decide, by decide, fun v3 H3 f3 R3 b0 b1 => ⟨by show 2 ≤ sizeLine; decide, fun p np => ?_⟩⟩
      exact q (.ref p) (.num v3) _ (f1.trans (f3.trans (Fr.new np))) (R3.of (same_new np)) ⟨p, rfl, upd_same⟩ True.intro (by show v3.natAbs ≤ 9; omega) (by show 1 ≤ d + 1; omega)


end
end Pf

namespace Pf
open PySem PySem.Spec PyProof.Rows L2
section
variable {P : Program} {w : World} {K : PySem.W.Frag} {mg : Str → Option Value} {base : Heap}
def sp__law_parts (K : PySem.W.Frag) (n : Nat) : Sp := fun vs H Q _ => ∃ (v : V) (e : Ex), vs = [v] ∧ ExIn H e v ∧ e.depth ≤ n ∧ n ≤ 10 ∧
  ∀ (p : Addr) (H' : Hp) (xs : List V), H p = none → Same H H' → H' p = some (.lst xs) → (∀ x ∈ xs, ∃ f, ExIn H' f x ∧ Ex.Sub f e) → xs.length < 2 ^ n → Q (.ref p) H'
def kids : Ex → List Ex
  | .num _ => []
  | .nam _ => []
  | .not e => [e]
  | .bin _ l r => [l, r]
theorem kids_sub {e f : Ex} (h : f ∈ kids e) : Ex.Sub f e := by
  cases e with
  | num _ => cases h
  | nam _ => cases h
  | not g =>
    rcases List.mem_cons.mp h with rfl | h
    · exact .not (.refl _)
    · cases h
  | bin o l r =>
    rcases List.mem_cons.mp h with rfl | h
    · exact .l (.refl _)
    · rcases List.mem_cons.mp h with rfl | h
      · exact .r (.refl _)
      · cases h
theorem kids_depth {e f : Ex} (h : f ∈ kids e) : f.depth + 1 ≤ e.depth := by
  cases e with
  | num _ => cases h
  | nam _ => cases h
  | not g =>
    rcases List.mem_cons.mp h with rfl | h
    · exact Nat.le_refl _
    · cases h
  | bin o l r =>
    rcases List.mem_cons.mp h with rfl | h
    · show f.depth + 1 ≤ max f.depth r.depth + 1; omega
    · rcases List.mem_cons.mp h with rfl | h
      · show f.depth + 1 ≤ max l.depth f.depth + 1; omega
      · cases h
theorem kids_len (e : Ex) : (kids e).length ≤ 2 := by cases e <;> simp [kids]
theorem Ex.Sub.trans {e f g : Ex} (a : Ex.Sub f g) (b : Ex.Sub e f) : Ex.Sub e g := by
  induction a with
  | refl => exact b
  | not _ ih => exact .not (ih b)
  | l _ ih => exact .l (ih b)
  | r _ ih => exact .r (ih b)
/-- the tuple of an expression: its word, its parts -/
theorem ExIn.view {H : Hp} : ∀ {e : Ex} {v : V}, ExIn H e v → ∃ (a : Addr) (x : Str) (ys : List V), v = .ref a ∧ H a = some (.tup (.str x :: ys)) ∧
    ((inV (.str x) [.str "number", .str "name"] = true ∧ kids e = []) ∨ (inV (.str x) [.str "number", .str "name"] = false ∧ ys.length = (kids e).length ∧ 0 < ys.length ∧ ∀ (i : Nat) (y : V), ys[i]? = some y → ∃ f ∈ kids e, ExIn H f y))
  | .num n, _, ⟨a, h, k⟩ => ⟨a, _, _, h, k, .inl ⟨by decide +kernel, rfl⟩⟩
  | .nam x, _, ⟨a, h, k⟩ => ⟨a, _, _, h, k, .inl ⟨by decide +kernel, rfl⟩⟩
  | .not e, _, ⟨a, y, h, k, q⟩ => ⟨a, _, _, h, k, .inr ⟨by decide +kernel, rfl, Nat.one_pos, fun i z hz => by
      match i, hz with
      | 0, hz => cases hz; exact ⟨e, List.mem_cons_self, q⟩
      | i + 1, hz => cases hz⟩⟩
  | .bin o l r, _, ⟨a, y, z, h, k, p, q⟩ => ⟨a, _, _, h, k, .inr ⟨op_in o, rfl, Nat.succ_pos _, fun i u hu => by
      match i, hu with
      | 0, hu => cases hu; exact ⟨l, List.mem_cons_self, p⟩
      | 1, hu => cases hu; exact ⟨r, List.mem_cons_of_mem _ List.mem_cons_self, q⟩
      | i + 2, hu => cases hu⟩⟩
theorem ok__law_parts (T : Txt K mg) : ∀ n : Nat, Has P w K mg base (n + 3) "_law_parts" ["expression"] (sp__law_parts K n)
| 0 => .none T.d__law_parts fun vs H Q E h => by
    obtain ⟨v, e, _, _, hd, _⟩ := h
    have := e.depth_pos
    omega
| n + 1 => by
  obtain ⟨f__law_parts, fd__law_parts, G__law_parts, m__law_parts, k__law_parts, b__law_parts⟩ := ok__law_parts T n
  obtain ⟨f, fd, F, m, b⟩ := T.d__law_parts.ex
  refine ⟨f, fd, F.ok sc__law_parts (fun vs H Q E h => ?_) (fun cdv A outer s H vs Q E hr h => ?_), m, F.kp, b⟩
  · obtain ⟨v, e, rfl, hE, hd, hn, q⟩ := h
    rfl
  obtain ⟨v, e, rfl, hE, hd, hn, q⟩ := h
  refine ⟨_, (pss_cons (ps_set (i := 1) sc__law_parts.nd rfl (.inl rfl) (pe_lst (pa_cons (pv 0) pa_nil)))
      (pss_cons (ps_if (pt_cmpR op_notIn_seq (pe_ix ix_tup (pv 0) pe_int (fun _ _ => rfl)) (pe_lst (pa_cons pe_str (pa_cons pe_str pa_nil))) (by rfl))
      (pss_one (ps_for PassesOwn.never rfl (pi_tup (pe_slice sl_tup (pv 0) (po_some pe_int) po_none)) (pg_name (i := 2) sc__law_parts.nd rfl (.inl rfl))
        (pss_one (ps_set (i := 1) sc__law_parts.nd rfl (.inl rfl) (pe_op op_cat (pv 1) (pe_call G__law_parts (hr.mono (by omega)) (by rfl) m__law_parts k__law_parts b__law_parts .nil pass0 (pa_cons (pv 2) pa_nil)))))))
      pss_nil)
      (pss_one (ps_ret (pv 1))))), ?_⟩
  obtain ⟨a, x, ys, rfl, ha, hk⟩ := hE.view
  have a0 : ∀ {y : V} {zs : List V}, atI (y :: zs) 0 = some y := fun {y zs} => atI_nat (j := 0) rfl
  -- found = [expression]
  refine ⟨_, rfl, by show 1 ≤ sizeLine; decide, fun o no => ?_⟩
  have nao : a ≠ o := ne_of_none ha no
  have ha1 : upd H o (.lst [.ref a]) a = some (.tup (.str x :: ys)) := same_new no _ _ ha
  -- the test
  refine ⟨_, rfl, a, _, 0, _, rfl, rfl, seqT ha1, a0, by show 2 ≤ sizeLine; decide, fun o2 no2 => ?_⟩
  have s2 : Same H (upd (upd H o (.lst [.ref a])) o2 (.lst [.str "number", .str "name"])) := (same_new no).trans (same_new no2)
  refine ⟨o2, _, rfl, .inl (SqL.of upd_same), rfl, rfl, _, rfl, ?_⟩
  have ho2 : upd (upd H o (.lst [.ref a])) o2 (.lst [.str "number", .str "name"]) o = some (.lst [.ref a]) := same_new no2 _ _ upd_same
  generalize upd (upd H o (.lst [.ref a])) o2 (.lst [.str "number", .str "name"]) = H2 at s2 ho2 ⊢
  have ha2 := s2 _ _ ha
  rcases hk with ⟨hx, hk⟩ | ⟨hx, hl, hp, hk⟩
  · rw [hx]
    refine iteF ⟨_, rfl, ?_⟩
    refine q o H2 _ no s2 ho2 (fun z hz => ?_) (by show 1 < 2 ^ (n + 1); exact Nat.one_lt_two_pow (Nat.succ_ne_zero n))
    rcases List.mem_cons.mp hz with rfl | hz
    · exact ⟨e, hE.mono (tps s2), .refl e⟩
    · cases hz
  · rw [hx]
    have k2 := kids_len e
    refine iteT ⟨_, rfl, 1, rfl, a, _, rfl, seqT ha2, ?_, fun c nc => ?_⟩
    · rw [show HT.sIx (V.str x :: ys).length 0 (some 1) = min 1 (V.str x :: ys).length from HT.sIx_nat _ 0 1, List.length_cons]
      omega
    rw [show cutV (V.str x :: ys) (some 1) none = ys from cut_from _ 1]
    refine ⟨c, rfl, ⟨_, seqT upd_same⟩, for_tup (xs := ys) (fun i σ H3 => ∃ (p : Addr) (xs : List V) (y : Option V), σ = [some (.ref a), some (.ref p), y] ∧ Same H H3 ∧ H p = none ∧ H3 c = some (.tup ys) ∧ H3 p = some (.lst xs) ∧ (∀ x ∈ xs, ∃ f, ExIn H3 f x ∧ Ex.Sub f e) ∧ xs.length ≤ 1 + i * (2 ^ n - 1))
      ⟨o, _, none, rfl, s2.trans (same_new nc), no, upd_same, same_new nc _ _ ho2, fun z hz => ?_, Nat.le_add_right _ _⟩ (fun i σ H3 _ h => ?_) ?_ ?_⟩
    · rcases List.mem_cons.mp hz with rfl | hz
      · exact ⟨e, hE.mono (tps (s2.trans (same_new nc))), .refl e⟩
      · cases hz
    · obtain ⟨_, _, _, _, _, _, h, _⟩ := h
      exact seqT h
    · rintro i x2 σ H3 hx2 ⟨p, xs, y, rfl, s3, np, hc3, hp3, hs, hln⟩
      obtain ⟨f2, hf, hfin⟩ := hk i x2 hx2
      have hi : i < ys.length := (List.getElem?_eq_some_iff.mp hx2).1
      have dn := kids_depth hf
      refine ⟨_, rfl, _, rfl, x2, f2, rfl, hfin.mono (tps s3), by omega, by omega, fun p2 H4 xs2 np2 s4 hp2 hs2 hl2 => ?_⟩
      have hp4 := s4 _ _ hp3
      refine ⟨p, p2, xs, xs2, rfl, rfl, hp4, hp2, ?_, fun p5 np5 => ?_⟩
      · have h9 : 2 ^ n ≤ 2 ^ 10 := Nat.pow_le_pow_right (by decide) (by omega)
        have h8 : i * (2 ^ n - 1) ≤ 2 * (2 ^ 10) := Nat.mul_le_mul (by omega) (by omega)
        exact line_small (by omega)
      · have s5 : Same H3 (upd H4 p5 (.lst (xs ++ xs2))) := s4.trans (same_new np5)
        refine ⟨p5, xs ++ xs2, _, rfl, s3.trans s5, same_back (s3.trans s4) np5, s5 _ _ hc3, upd_same, fun z hz => ?_, ?_⟩
        · rcases List.mem_append.mp hz with hz | hz
          · obtain ⟨g, h1, h2⟩ := hs z hz
            exact ⟨g, h1.mono (tps s5), h2⟩
          · obtain ⟨g, h1, h2⟩ := hs2 z hz
            exact ⟨g, h1.mono (tpn np5), (kids_sub hf).trans h2⟩
        · rw [List.length_append, Nat.succ_mul]
          omega
    · rintro σ H3 ⟨p, xs, y, rfl, s3, np, hc3, hp3, hs, hln⟩
      refine ⟨_, rfl, q p H3 xs np s3 hp3 hs ?_⟩
      have h2 : ys.length * (2 ^ n - 1) ≤ 2 * (2 ^ n - 1) := Nat.mul_le_mul_right _ (by omega)
      have h3 : 0 < 2 ^ n := Nat.two_pow_pos n
      rw [Nat.pow_succ]
      omega


end
end Pf

namespace Pf
open PySem PySem.Spec PyProof.Rows L2
section
variable {P : Program} {w : World} {K : PySem.W.Frag} {mg : Str → Option Value} {base : Heap}
/-- data without lists, of a depth -/
def tupOk : Nat → PyData → Prop
  | _, .none => True
  | _, .bool _ => True
  | _, .int _ => True
  | _, .str _ => True
  | n + 1, .tuple ds => ds.length ≤ 100000 ∧ ∀ d ∈ ds, tupOk n d
  | _, _ => False
def sp__law_same (K : PySem.W.Frag) (n : Nat) : Sp := fun vs H Q _ => ∃ (x y : V) (d : PyData), vs = [x, y] ∧ Dp K H x d ∧ Dp K H y d ∧ tupOk n d ∧ ∀ H', Same H H' → Q (.bl true) H'
theorem tyx_seq {K : PySem.W.Frag} {H : Hp} {a : Addr} {xs : List V} (h : SqT K H a xs) : TyX K H (.ref a) (.type "tuple") := by
  rcases h with (h | ⟨o, h⟩) | ⟨o, its, n, h, hc, _⟩
  · exact .base (.tup h)
  · exact .fTuple h
  · exact .kTuple h hc
theorem seqT_same {K : PySem.W.Frag} {H H' : Hp} {a : Addr} {xs : List V} (e : Same H H') (h : SqT K H a xs) : SqT K H' a xs := by
  rcases h with (h | ⟨o, h⟩) | h
  · exact .inl (.inl (e _ _ h))
  · exact .inl (.inr ⟨o, e _ _ h⟩)
  · exact .inr h
mutual
theorem dp_same {K : PySem.W.Frag} {H H' : Hp} (e : Same H H') : ∀ {v : V} {d : PyData}, Dp K H v d → Dp K H' v d
  | _, _, .non => .non
  | _, _, .bl b => .bl b
  | _, _, .int i => .int i
  | _, _, .str x => .str x
  | _, _, .lst h k => .lst (e.seq h) (dpa_same e k)
  | _, _, .tup h k => .tup (seqT_same e h) (dpa_same e k)
theorem dpa_same {K : PySem.W.Frag} {H H' : Hp} (e : Same H H') : ∀ {xs : List V} {ds : List PyData}, DpAll K H xs ds → DpAll K H' xs ds
  | _, _, .nil => .nil
  | _, _, .cons h k => .cons (dp_same e h) (dpa_same e k)
end
theorem dpa_len {K : PySem.W.Frag} {H : Hp} : ∀ {xs : List V} {ds : List PyData}, DpAll K H xs ds → xs.length = ds.length
  | _, _, .nil => rfl
  | _, _, .cons _ k => congrArg (· + 1) (dpa_len k)
theorem dpa_at {K : PySem.W.Frag} {H : Hp} : ∀ {xs : List V} {ds : List PyData} {i : Nat}, DpAll K H xs ds → i < ds.length → ∃ x d, xs[i]? = some x ∧ ds[i]? = some d ∧ Dp K H x d
  | _, _, _, .nil, h => absurd h (Nat.not_lt_zero _)
  | _, _, 0, .cons h _, _ => ⟨_, _, rfl, rfl, h⟩
  | _, _, i + 1, .cons _ k, h => dpa_at (i := i) k (Nat.lt_of_succ_lt_succ h)
theorem all_true (n : Nat) : (List.replicate n true).all id = true := by
  induction n with
  | zero => rfl
  | succ n ih => rw [List.replicate_succ, List.all_cons, ih]; rfl
theorem same_step {n : Nat} (T : Txt K mg) (R : Has P w K mg base (n + 2) "_law_same" ["told", "due"] (fun vs H Q E => ∃ m, n = m + 1 ∧ sp__law_same K m vs H Q E)) : Has P w K mg base (n + 3) "_law_same" ["told", "due"] (sp__law_same K n) := by
  obtain ⟨f__law_same, fd__law_same, G__law_same, m__law_same, k__law_same, b__law_same⟩ := R
  obtain ⟨f, fd, F, m, b⟩ := T.d__law_same.ex
  refine ⟨f, fd, F.ok sc__law_same (fun vs H Q E h => ?_) (fun cdv A outer s H vs Q E hr h => ?_), m, F.kp, b⟩
  · obtain ⟨x, y, d, rfl, hx, hy, hd, q⟩ := h
    rfl
  obtain ⟨x, y, d, rfl, hx, hy, hd, q⟩ := h
  refine ⟨_, (pss_cons (ps_if (pt_val (pe_callB call_isi (by rfl) T.z_isinstance (by decide +kernel) (pa_cons (pv 1) (pa_cons (pe_bltn (v := .ty "tuple") (by rfl) T.z_tuple (by decide +kernel) rfl) pa_nil))))
      (pss_cons (ps_if (PW.pt (pw_or (pt_not (pt_val (pe_callB call_isi (by rfl) T.z_isinstance (by decide +kernel) (pa_cons (pv 0) (pa_cons (pe_bltn (v := .ty "tuple") (by rfl) T.z_tuple (by decide +kernel) rfl) pa_nil))))) (pw_or1 (pt_cmpR op_ne (pe_callB call_len_seq (by rfl) T.z_len (by decide +kernel) (pa_cons (pv 0) pa_nil)) (pe_callB call_len_seq (by rfl) T.z_len (by decide +kernel) (pa_cons (pv 1) pa_nil)) (nomark _)))))
        (pss_one (ps_ret pe_bl))
        pss_nil)
        (pss_one (ps_ret (pe_callB (cr_all rfl) (by rfl) T.z_all (by decide +kernel) (pa_cons (pe_lc (own := [("k", 2)]) (g := gName 2) (by rfl) sc__law_same.nd (pi_range1 (by rfl) T.z_range (pa_cons (pe_callB call_len_seq (by rfl) T.z_len (by decide +kernel) (pa_cons (pv 1) pa_nil)) pa_nil)) (blkOk_by (own := [("k", 2)]) (N := ["told", "due", "k"]) (sc := defScope s__law_same) (by decide +kernel)) (fun _ _ _ _ _ => pg_name (i := 2) sc__law_same.nd rfl (Or.inl rfl)) (fun _ _ _ _ _ => pts_nil) (fun _ _ _ _ _ => (pe_call G__law_same (hr.mono (by omega)) (by rfl) m__law_same k__law_same b__law_same .nil pass0 (pa_cons (pe_ix (ix_tupK (K := K) rfl) (pv 0) (pv 2) (fun _ _ => rfl)) (pa_cons (pe_ix (ix_tupK (K := K) rfl) (pv 1) (pv 2) (fun _ _ => rfl)) pa_nil))))) pa_nil)))))
      pss_nil)
      (pss_cons (ps_if (pt_cmpR op_isN (pv 1) pe_non (nomark _))
      (pss_one (ps_ret (pe_cmpR op_isN (pv 0) pe_non (nomark _))))
      pss_nil)
      (pss_cons (ps_if (pt_val (pe_callB call_isi (by rfl) T.z_isinstance (by decide +kernel) (pa_cons (pv 1) (pa_cons (pe_bltn (v := .ty "str") (by rfl) T.z_str (by decide +kernel) rfl) pa_nil))))
      (pss_one (ps_ret (pe_and (pe_callB call_isi (by rfl) T.z_isinstance (by decide +kernel) (pa_cons (pv 0) (pa_cons (pe_bltn (v := .ty "str") (by rfl) T.z_str (by decide +kernel) rfl) pa_nil))) (pe_one (pe_cmpR op_eq (pv 0) (pv 1) (nomark _))))))
      pss_nil)
      (pss_cons (ps_if (PW.pt (pw_or (pt_val (pe_callB call_isi (by rfl) T.z_isinstance (by decide +kernel) (pa_cons (pv 0) (pa_cons (pe_bltn (v := .ty "bool") (by rfl) T.z_bool (by decide +kernel) rfl) pa_nil)))) (pw_or1 (pt_val (pe_callB call_isi (by rfl) T.z_isinstance (by decide +kernel) (pa_cons (pv 1) (pa_cons (pe_bltn (v := .ty "bool") (by rfl) T.z_bool (by decide +kernel) rfl) pa_nil)))))))
      (pss_one (ps_ret (pe_and (pe_callB call_isi (by rfl) T.z_isinstance (by decide +kernel) (pa_cons (pv 0) (pa_cons (pe_bltn (v := .ty "bool") (by rfl) T.z_bool (by decide +kernel) rfl) pa_nil))) (pe_and (pe_callB call_isi (by rfl) T.z_isinstance (by decide +kernel) (pa_cons (pv 1) (pa_cons (pe_bltn (v := .ty "bool") (by rfl) T.z_bool (by decide +kernel) rfl) pa_nil))) (pe_one (pe_cmpR op_eq (pv 0) (pv 1) (nomark _)))))))
      pss_nil)
      (pss_one (ps_ret (pe_and (pe_callB call_isi (by rfl) T.z_isinstance (by decide +kernel) (pa_cons (pv 0) (pa_cons (pe_bltn (v := .ty "int") (by rfl) T.z_int (by decide +kernel) rfl) pa_nil))) (pe_one (pe_cmpR op_eq (pv 0) (pv 1) (nomark _)))))))))), ?_⟩
  cases hy with
  | non =>
    cases hx
    refine ⟨_, rfl, _, _, _, _, _, rfl, .ty _, .base .non, kit_ty (by decide +kernel), _, rfl, iteF ?_⟩
    refine ⟨_, rfl, rfl, _, rfl, yes rfl ?_⟩
    exact ⟨_, rfl, rfl, q H (Same.refl H)⟩
  | str z =>
    cases hx
    refine ⟨_, rfl, _, _, _, _, _, rfl, .ty _, .base (.str z), kit_ty (by decide +kernel), _, rfl, iteF ?_⟩
    refine ⟨_, rfl, rfl, _, rfl, nope (fun e => nomatch e) ?_⟩
    refine ⟨_, rfl, _, _, _, _, _, rfl, .ty _, .base (.str z), kit_ty (by decide +kernel), _, rfl, iteT ?_⟩
    refine ⟨_, rfl, _, _, _, _, _, rfl, .ty _, .base (.str z), kit_ty (by decide +kernel), _, rfl, iteT ?_⟩
    refine ⟨_, rfl, _, rfl, rfl, ?_⟩
    rw [decide_eq_true (rfl : V.str z = V.str z)]
    exact q H (Same.refl H)
  | bl z =>
    cases hx
    refine ⟨_, rfl, _, _, _, _, _, rfl, .ty _, .base (.bl z), kit_ty (by decide +kernel), _, rfl, iteF ?_⟩
    refine ⟨_, rfl, rfl, _, rfl, nope (fun e => nomatch e) ?_⟩
    refine ⟨_, rfl, _, _, _, _, _, rfl, .ty _, .base (.bl z), kit_ty (by decide +kernel), _, rfl, iteF ?_⟩
    refine ⟨_, rfl, _, _, _, _, _, rfl, .ty _, .base (.bl z), kit_ty (by decide +kernel), _, rfl, iteT (iteT ?_)⟩
    refine ⟨_, rfl, _, _, _, _, _, rfl, .ty _, .base (.bl z), kit_ty (by decide +kernel), _, rfl, iteT ?_⟩
    refine ⟨_, rfl, _, _, _, _, _, rfl, .ty _, .base (.bl z), kit_ty (by decide +kernel), _, rfl, iteT ?_⟩
    refine ⟨_, rfl, _, rfl, rfl, ?_⟩
    rw [decide_eq_true (rfl : V.bl z = V.bl z)]
    exact q H (Same.refl H)
  | int z =>
    cases hx
    refine ⟨_, rfl, _, _, _, _, _, rfl, .ty _, .base (.int z), kit_ty (by decide +kernel), _, rfl, iteF ?_⟩
    refine ⟨_, rfl, rfl, _, rfl, nope (fun e => nomatch e) ?_⟩
    refine ⟨_, rfl, _, _, _, _, _, rfl, .ty _, .base (.int z), kit_ty (by decide +kernel), _, rfl, iteF ?_⟩
    refine ⟨_, rfl, _, _, _, _, _, rfl, .ty _, .base (.int z), kit_ty (by decide +kernel), _, rfl, iteF ?_⟩
    refine ⟨_, rfl, _, _, _, _, _, rfl, .ty _, .base (.int z), kit_ty (by decide +kernel), _, rfl, iteF ?_⟩
    refine ⟨_, rfl, _, _, _, _, _, rfl, .ty _, .base (.int z), kit_ty (by decide +kernel), _, rfl, iteT ?_⟩
    refine ⟨_, rfl, _, rfl, rfl, ?_⟩
    rw [decide_eq_true (rfl : V.int z = V.int z)]
    exact q H (Same.refl H)
  | lst _ _ => cases n <;> exact hd.elim
  | @tup a xs ds ha hxs =>
    obtain _ | m := n
    · exact hd.elim
    obtain ⟨hdl, hd⟩ := hd
    cases hx with
    | @tup b ys _ hb hys =>
    have lx := dpa_len hxs
    have ly := dpa_len hys
    refine ⟨_, rfl, _, _, _, _, _, rfl, .ty _, tyx_seq ha, kit_ty (r := true) (by decide +kernel), _, rfl, iteT ?_⟩
    -- not isinstance(told, tuple) or len(told) != len(due)
    refine ⟨_, rfl, _, _, _, _, _, rfl, .ty _, tyx_seq hb, kit_ty (r := true) (by decide +kernel), _, rfl, iteF ?_⟩
    refine ⟨_, rfl, b, _, rfl, .inr hb, _, rfl, a, _, rfl, .inr ha, rfl, _, rfl, ?_⟩
    rw [lx, ly, decide_eq_true (rfl : V.int ((ds.length : Nat) : Int) = V.int ((ds.length : Nat) : Int))]
    refine iteF ?_
    -- all([..])
    refine ⟨_, rfl, a, _, rfl, .inr ha, ((xs.length : Nat) : Int), rfl, by omega, by omega, fun D nD => ?_⟩
    rw [lx]
    refine lc_range (lo := 0) (fun i H' => Same H H' ∧ H' D = some (.lst ((List.replicate i true).map V.bl))) ⟨same_new nD, upd_same⟩ (fun i H' hi h => ?_) (fun H' h => ?_)
    · obtain ⟨s1, hD⟩ := h
      have hi2 : i < ds.length := by simpa using hi
      obtain ⟨x1, d1, e1, e2, p1⟩ := dpa_at hxs hi2
      obtain ⟨x2, d2, e3, e4, p2⟩ := dpa_at hys hi2
      rw [e2] at e4
      cases e4
      have gi : (0 : Int) + (i : Int) = (i : Int) := Int.zero_add _
      refine ⟨rfl, ?_⟩
      refine ⟨_, rfl, _, rfl, b, _, _, x2, rfl, rfl, seqT_same s1 hb, ?_, _, rfl, _, rfl, a, _, _, x1, rfl, rfl, seqT_same s1 ha, ?_, ?_⟩
      · rw [gi]
        exact atI_nat e3
      · rw [gi]
        exact atI_nat e1
      refine ⟨m, rfl, x2, x1, d1, rfl, dp_same s1 p2, dp_same s1 p1, hd d1 (List.mem_of_getElem? e2), fun H2 s2 => ?_⟩
      refine ⟨_, s2 _ _ hD, ?_, ⟨same_mut (s1.trans s2) nD, ?_⟩⟩
      · rw [List.length_map, List.length_replicate]
        exact Nat.lt_of_lt_of_le (Nat.lt_of_lt_of_le hi2 hdl) (by decide)
      · rw [upd_same, List.replicate_succ', List.map_append]
        rfl
    · obtain ⟨s1, hD⟩ := h
      refine ⟨D, _, rfl, SqL.of hD, ?_⟩
      rw [all_true]
      exact q H' s1
theorem ok__law_same (T : Txt K mg) : ∀ n : Nat, Has P w K mg base (n + 3) "_law_same" ["told", "due"] (sp__law_same K n)
| 0 => same_step T (.none T.d__law_same fun vs H Q E ⟨m, h, _⟩ => by cases h)
| n + 1 => same_step T (by
  obtain ⟨f, fd, G, r⟩ := ok__law_same T n
  exact ⟨f, fd, G.imp fun vs H Q E ⟨m', h, k⟩ => by cases h; exact k, r⟩)


end
end Pf

namespace Pf
open PySem PySem.Spec PyProof.Rows L2
section
variable {P : Program} {w : World} {K : PySem.W.Frag} {mg : Str → Option Value} {base : Heap}
/-! ### lists of ints, of texts, as data -/
theorem lay_ints : ∀ ns : List Int, PyData.canLayAll0 (ns.map PyData.int) = true
  | [] => by simp [PyData.canLayAll0]
  | n :: ns => by simp [PyData.canLayAll0, PyData.canLay0, lay_ints ns]
theorem lay_strs : ∀ ws : List Str, (∀ x ∈ ws, PyData.strOk x = true) → PyData.canLayAll0 (ws.map PyData.str) = true
  | [], _ => by simp [PyData.canLayAll0]
  | n :: ns, h => by simp [PyData.canLayAll0, PyData.canLay0, lay_strs ns fun x hx => h x (List.mem_cons_of_mem _ hx), h n List.mem_cons_self]
theorem dep_ints : ∀ ns : List Int, PyData.depthAll (ns.map PyData.int) ≤ 1
  | [] => by simp [PyData.depthAll]
  | n :: ns => by
    have h := dep_ints ns
    simp only [List.map_cons, PyData.depthAll, PyData.depth]
    omega
theorem dep_strs : ∀ ws : List Str, PyData.depthAll (ws.map PyData.str) ≤ 1
  | [] => by simp [PyData.depthAll]
  | n :: ns => by
    have h := dep_strs ns
    simp only [List.map_cons, PyData.depthAll, PyData.depth]
    omega
theorem shaped_lst {ds : List PyData} (h : PyData.canLayAll0 ds = true) (d : PyData.depthAll ds ≤ 60) : SeqAt.shaped (.list ds) = true := by
  show (PyData.canLay0 (.list ds) && decide (PyData.depth (.list ds) ≤ 64)) = true
  rw [Bool.and_eq_true]
  refine ⟨by simp only [PyData.canLay0]; exact h, decide_eq_true ?_⟩
  simp only [PyData.depth]
  omega
theorem shaped_ints (ns : List Int) : SeqAt.shaped (.list (ns.map PyData.int)) = true := shaped_lst (lay_ints ns) (Nat.le_trans (dep_ints ns) (by decide))
theorem shaped_strs {ws : List Str} (h : ∀ x ∈ ws, PyData.strOk x = true) : SeqAt.shaped (.list (ws.map PyData.str)) = true := shaped_lst (lay_strs ws h) (Nat.le_trans (dep_strs ws) (by decide))
theorem eqv_self {d : PyData} (h : SeqAt.shaped d = true) : PyData.eqv d d = true := SeqAt.eqv_refl d (SeqAt.canLay_of_shaped h)
theorem dpa_ints {K : PySem.W.Frag} {H : Hp} : ∀ ns : List Int, DpAll K H (ns.map V.int) (ns.map PyData.int)
  | [] => .nil
  | n :: ns => .cons (.int n) (dpa_ints ns)
theorem dpa_strs {K : PySem.W.Frag} {H : Hp} : ∀ ws : List Str, DpAll K H (ws.map V.str) (ws.map PyData.str)
  | [] => .nil
  | n :: ns => .cons (.str n) (dpa_strs ns)

def sp_law (K : PySem.W.Frag) : Sp := fun vs H Q _ => ∃ (a : Addr) (ns : List Int), vs = [.ref a] ∧ SqL K H a (ns.map V.int) ∧ ns.length ≤ 63 ∧ ∀ H', Q (.bl true) H'
theorem given_nm {K : PySem.W.Frag} {H : Hp} {p : Addr} {ws : List Str} (h : Given K H p (ws.map V.str)) : NmSeq K H p ws := h
theorem given_is {K : PySem.W.Frag} {H : Hp} {p : Addr} {ns : List Int} (h : Given K H p (ns.map V.int)) : IntSeq K H p ns := by
  rcases h with h | ⟨o, h, _⟩
  · exact .inl h
  · exact .inr (.inl (.inr ⟨o, h⟩))
theorem Given.mono {K : PySem.W.Frag} {H H' : Hp} {p : Addr} {xs : List V} (e : Same H H') (h : Given K H p xs) : Given K H' p xs := by
  rcases h with h | ⟨o, h, c⟩
  · exact .inl (e.seq h)
  · exact .inr ⟨o, e _ _ h, c⟩
theorem ok_law {f : Addr} {fd : FuncData} (T : Txt K mg) (F : Fun K "law" "law" s_law f fd) : FnOk P w K mg base CX0 9 f fd ["script"] (sp_law K) := by
  obtain ⟨f__law_reader, fd__law_reader, G__law_reader, m__law_reader, k__law_reader, b__law_reader⟩ := ok__law_reader (P := P) (w := w) (base := base) T
  obtain ⟨f__law_cell, fd__law_cell, G__law_cell, m__law_cell, k__law_cell, b__law_cell⟩ := ok__law_cell (P := P) (w := w) (base := base) T
  obtain ⟨f__law_pool, fd__law_pool, G__law_pool, m__law_pool, k__law_pool, b__law_pool⟩ := ok__law_pool (P := P) (w := w) (base := base) T
  obtain ⟨f__law_next, fd__law_next, G__law_next, m__law_next, k__law_next, b__law_next⟩ := ok__law_next (P := P) (w := w) (base := base) T
  obtain ⟨f__law_deep, fd__law_deep, G__law_deep, m__law_deep, k__law_deep, b__law_deep⟩ := ok__law_deep (P := P) (w := w) (base := base) T 5
  obtain ⟨f__law_parts, fd__law_parts, G__law_parts, m__law_parts, k__law_parts, b__law_parts⟩ := ok__law_parts (P := P) (w := w) (base := base) T 5
  obtain ⟨f_value_of, fd_value_of, G_value_of, m_value_of, k_value_of, b_value_of⟩ := ok_value_of (P := P) (w := w) (base := base) T 5
  obtain ⟨f__law_given, fd__law_given, G__law_given, m__law_given, k__law_given, b__law_given⟩ := ok__law_given (P := P) (w := w) (base := base) T
  obtain ⟨f__law_same, fd__law_same, G__law_same, m__law_same, k__law_same, b__law_same⟩ := ok__law_same (P := P) (w := w) (base := base) T 0
  obtain ⟨f__law_value, fd__law_value, G__law_value, m__law_value, k__law_value, b__law_value⟩ := ok__law_value (P := P) (w := w) (base := base) T 5
  refine F.ok sc_law (fun vs H Q E h => ?_) (fun cdv A outer s H vs Q E hr h => ?_)
  · obtain ⟨a, ns, rfl, hS, hl, q⟩ := h
    rfl
  obtain ⟨a, ns, rfl, hS, hl, q⟩ := h
  refine ⟨_, (pss_cons (ps_set (i := 1) sc_law.nd rfl (.inr rfl) (pe_call G__law_reader (hr.mono (by decide)) (by rfl) m__law_reader k__law_reader b__law_reader .nil pass0 (pa_cons (pe_call G__law_cell (hr.mono (by decide)) (by rfl) m__law_cell k__law_cell b__law_cell .nil pass0 (pa_cons (pv 0) (pa_cons pe_int pa_nil))) pa_nil)))
      (pss_cons (ps_set (i := 2) sc_law.nd rfl (.inl rfl) (pe_slice sl_list (pe_call G__law_pool (hr.mono (by decide)) (by rfl) m__law_pool k__law_pool b__law_pool .nil pass0 (pa_cons (pv 1) pa_nil)) po_none (po_some (pe_op op_add pe_int (pe_call G__law_next (hr.mono (by decide)) (by rfl) m__law_next k__law_next b__law_next .nil pass0 (pa_cons (pv 1) (pa_cons pe_int pa_nil)))))))
      (pss_cons (ps_set (i := 3) sc_law.nd rfl (.inl rfl) (pe_call G__law_deep (hr.mono (by decide)) (by rfl) m__law_deep k__law_deep b__law_deep .nil pass0 (pa_cons (pe_call G__law_reader (hr.mono (by decide)) (by rfl) m__law_reader k__law_reader b__law_reader .nil pass0 (pa_cons (pe_call G__law_cell (hr.mono (by decide)) (by rfl) m__law_cell k__law_cell b__law_cell .nil pass0 (pa_cons (pv 0) (pa_cons pe_int pa_nil))) pa_nil)) (pa_cons (pv 2) (pa_cons pe_int pa_nil)))))
      (pss_cons (ps_set (i := 1) sc_law.nd rfl (.inr rfl) (pe_call G__law_reader (hr.mono (by decide)) (by rfl) m__law_reader k__law_reader b__law_reader .nil pass0 (pa_cons (pe_call G__law_cell (hr.mono (by decide)) (by rfl) m__law_cell k__law_cell b__law_cell .nil pass0 (pa_cons (pv 0) (pa_cons pe_int pa_nil))) pa_nil)))
      (pss_cons (ps_set (i := 4) sc_law.nd rfl (.inl rfl) (pe_call G__law_next (hr.mono (by decide)) (by rfl) m__law_next k__law_next b__law_next .nil pass0 (pa_cons (pv 1) (pa_cons pe_int pa_nil))))
      (pss_cons (ps_set (i := 5) sc_law.nd rfl (.inl rfl) (pe_lst pa_nil))
      (pss_cons (ps_for PassesOwn.never rfl (pi_range1 (by rfl) T.z_range (pa_cons pe_int pa_nil)) (pg_name (i := 6) sc_law.nd rfl (.inl rfl))
      (pss_one (ps_expr (pe_bm PySem.F.plainAttrs_list PySem.F.slot_list_append PySem.F.type_list_append mt_append (pv 5) (pa_cons (pe_lc (own := [("k", 11)]) (g := gName 11) (by rfl) sc_law.nd (pi_range1 (by rfl) T.z_range (pa_cons (pe_callB call_len_seq (by rfl) T.z_len (by decide +kernel) (pa_cons (pv 2) pa_nil)) pa_nil)) (blkOk_by (own := [("k", 11)]) (N := ["script", "reader", "names", "expression", "form", "sights", "turn", "labels", "sight", "part", "told", "k"]) (sc := defScope s_law) (by decide +kernel)) (fun _ _ _ _ _ => pg_name (i := 11) sc_law.nd rfl (Or.inl rfl)) (fun _ _ _ _ _ => pts_nil) (fun _ _ _ _ _ => (pe_call G__law_next (hr.mono (by decide)) (by rfl) m__law_next k__law_next b__law_next .nil pass0 (pa_cons (pv 1) (pa_cons pe_int pa_nil))))) pa_nil)))))
      (pss_cons (ps_set (i := 7) sc_law.nd rfl (.inl rfl) (pe_callTy call_list_of (by rfl) T.z_list (by decide +kernel) (pa_cons (pv 2) pa_nil)))
      (pss_cons (ps_for PassesOwn.never rfl (pi_list (pe_lst (pa_cons pe_int (pa_cons pe_int (pa_cons pe_int pa_nil))))) (pg_name (i := 6) sc_law.nd rfl (.inl rfl))
      (pss_cons (ps_set (i := 8) sc_law.nd rfl (.inl rfl) (pe_callTy call_list_of (by rfl) T.z_list (by decide +kernel) (pa_cons (pe_ix ix_list (pv 5) (pv 6) (fun _ _ => rfl)) pa_nil)))
        (pss_cons (ps_for PassesOwn.never rfl (pi_list (pe_call G__law_parts (hr.mono (by decide)) (by rfl) m__law_parts k__law_parts b__law_parts .nil pass0 (pa_cons (pv 3) pa_nil))) (pg_name (i := 9) sc_law.nd rfl (.inl rfl))
        (pss_cons (ps_set (i := 10) sc_law.nd rfl (.inl rfl) (pe_call G_value_of (hr.mono (by decide)) (by rfl) m_value_of k_value_of b_value_of .nil pass0 (pa_cons (pv 9) (pa_cons (pe_call G__law_given (hr.mono (by decide)) (by rfl) m__law_given k__law_given b__law_given .nil pass0 (pa_cons (pv 7) (pa_cons (pe_op op_fdivN (pv 4) pe_int) pa_nil))) (pa_cons (pe_call G__law_given (hr.mono (by decide)) (by rfl) m__law_given k__law_given b__law_given .nil pass0 (pa_cons (pv 8) (pa_cons (pe_op op_mod (pv 4) pe_int) pa_nil))) pa_nil)))))
          (pss_one (ps_if (pt_not (pt_val (pe_call G__law_same (hr.mono (by decide)) (by rfl) m__law_same k__law_same b__law_same .nil pass0 (pa_cons (pv 10) (pa_cons (pe_call G__law_value (hr.mono (by decide)) (by rfl) m__law_value k__law_value b__law_value .nil pass0 (pa_cons (pv 9) (pa_cons (pv 2) (pa_cons (pe_ix ix_list (pv 5) (pv 6) (fun _ _ => rfl)) pa_nil)))) pa_nil)))))
          (pss_one (ps_ret pe_bl))
          pss_nil))))
        (pss_one (ps_if (PW.pt (pw_or (pt_cmpR (op_neD hr.units) (pv 8) (pe_ix ix_list (pv 5) (pv 6) (fun _ _ => rfl)) (nomark _)) (pw_or1 (pt_cmpR (op_neD hr.units) (pv 7) (pv 2) (nomark _)))))
        (pss_one (ps_ret pe_bl))
        pss_nil)))))
      (pss_one (ps_ret pe_bl))))))))))), ?_⟩
  -- reader
  refine ⟨_, rfl, a, ns, 0, rfl, hS, fun c0 => ⟨c0, rfl, fun r1 H1 nr1 s1 R1 => ?_⟩⟩
  -- names
  refine ⟨_, rfl, r1, rfl, R1, fun pp ws0 H2 f2 R2 np2 hp2 hl2 hw0 => ?_⟩
  refine ⟨_, rfl, r1, 10, rfl, R2, by decide, by decide, fun v3 H3 f3 R3 a3 b3 => ⟨_, _, rfl, rfl, _, rfl, pp, _, rfl, SqL.of (f3 _ _ (R1.ne np2) hp2), fun pn npn => ?_⟩⟩
  have ecut : cutV (ws0.map V.str) none (some (1 + v3)) = (ws0.take (1 + v3).toNat).map V.str := by
    rw [show (1 + v3) = (((1 + v3).toNat : Nat) : Int) by omega, cut_to, List.map_take, Int.toNat_natCast]
  rw [ecut]
  have hlw : (ws0.take (1 + v3).toNat).length ≤ 12 := by
    rw [List.length_take]
    omega
  have hw : ∀ x ∈ ws0.take (1 + v3).toNat, PyData.strOk x = true := fun x hx => hw0 x (List.mem_of_mem_take hx)
  generalize ws0.take (1 + v3).toNat = ws at hlw hw ⊢
  have s4 : Same H (upd H3 pn (.lst (ws.map V.str))) := ((f2.trans f3).back s1 nr1).trans (same_new npn)
  have hN4 : upd H3 pn (.lst (ws.map V.str)) pn = some (.lst (ws.map V.str)) := upd_same
  generalize upd H3 pn (.lst (ws.map V.str)) = H4 at s4 hN4 ⊢
  have hS4 := s4.seq hS
  -- expression
  refine ⟨_, rfl, a, ns, 1, rfl, hS4, fun c1 => ⟨c1, rfl, fun r2 H5 nr2 s5 R5 => ?_⟩⟩
  have hN5 := s5 _ _ hN4
  refine ⟨_, rfl, r2, pn, 4, ws, rfl, R5, SqL.of hN5, ne_of_none hN4 nr2, by omega, by omega, fun v e H6 f6 R6 hx hi hn hdp => ?_⟩
  have s6 : Same H4 H6 := f6.back s5 nr2
  have hN6 := s6 _ _ hN4
  have hS6 := s6.seq hS4
  -- the second reader
  refine ⟨_, rfl, a, ns, 2, rfl, hS6, fun c2 => ⟨c2, rfl, fun r3 H7 nr3 s7 R7 => ?_⟩⟩
  -- form
  refine ⟨_, rfl, r3, 4, rfl, R7, by decide, by decide, fun fm H8 f8 R8 fm0 fm1 => ?_⟩
  have s8 : Same H6 H8 := f8.back s7 nr3
  -- sights
  refine ⟨Nat.zero_le _, fun sg nsg => ?_⟩
  have nsr : sg ≠ r3 := R8.ne nsg
  have s9 : Same H6 (upd H8 sg (.lst [])) := s8.trans (same_new nsg)
  have nsg6 : H6 sg = none := same_back s8 nsg
  have R9 : RD (upd H8 sg (.lst [])) r3 := R8.of (same_new nsg)
  have hg9 : upd H8 sg (.lst []) sg = some (.lst (([] : List (Addr × List Int)).map fun x => V.ref x.1)) := upd_same
  generalize upd H8 sg (.lst []) = H9 at s9 R9 hg9 ⊢
  have lw : (ws.map V.str).length = ws.length := List.length_map _
  refine ⟨2, rfl, by decide, by decide, for_range (fun i σ H' => ∃ (L : List (Addr × List Int)) (y6 : Option V), σ = [some (.ref a), some (.ref r3), some (.ref pn), some v, some (.int fm), some (.ref sg), y6, none, none, none, none, none] ∧ Same H6 H' ∧ RD H' r3 ∧
      H' sg = some (.lst (L.map fun x => V.ref x.1)) ∧ L.length = i ∧ ∀ x ∈ L, H' x.1 = some (.lst (x.2.map V.int)) ∧ x.1 ≠ sg ∧ x.1 ≠ r3 ∧ x.2.length = ws.length ∧ ∀ n ∈ x.2, n.natAbs ≤ 9)
    ⟨[], none, rfl, s9, R9, hg9, rfl, fun x hx => absurd hx List.not_mem_nil⟩ ?_ ?_⟩
  · rintro i σ H' hi2 ⟨L, y6, rfl, s', R', hg, hL, hx'⟩
    refine ⟨_, rfl, .inl ⟨rfl, _, SqL.of hg⟩, _, rfl, pn, _, rfl, .inl (SqL.of (s' _ _ hN6)), ((ws.map V.str).length : Int), rfl, by omega, by omega, fun D nD => ?_⟩
    have ej : ((((ws.map V.str).length : Nat) : Int)).toNat = ws.length := by rw [Int.toNat_natCast, lw]
    have nDr : D ≠ r3 := R'.ne nD
    have nDs : D ≠ sg := (ne_of_none hg nD).symm
    rw [ej]
    refine lc_range (lo := 0) (fun i H'' => Fr r3 H' H'' ∧ RD H'' r3 ∧ ∃ ks : List Int, H'' D = some (.lst (ks.map V.int)) ∧ ks.length = i ∧ ∀ n ∈ ks, n.natAbs ≤ 9) ⟨Fr.new nD, R'.of (same_new nD), [], upd_same, rfl, fun n hn => absurd hn List.not_mem_nil⟩ (fun j H'' hj h => ?_) (fun H'' h => ?_)
    · obtain ⟨f1, R1', ks, hD, hk, hb⟩ := h
      refine ⟨rfl, _, rfl, r3, 4, rfl, R1', by decide, by decide, fun u H3' f3' R3' u0 u1 => ?_⟩
      refine ⟨_, f3' _ _ nDr hD, ?_, (f1.trans f3').mut nD, ?_, ks ++ [u], ?_, ?_, ?_⟩
      · rw [List.length_map]
        exact small1000 (by omega)
      · obtain ⟨x1, x2, x3, x4⟩ := R3'
        exact ⟨x1, x2, x3, by rw [upd_ne nDr.symm]; exact x4⟩
      · rw [upd_same, List.map_append]
        rfl
      · rw [List.length_append, hk]
        rfl
      · intro n hn
        rcases List.mem_append.mp hn with hn | hn
        · exact hb n hn
        · rcases List.mem_singleton.mp hn with rfl
          omega
    · obtain ⟨f1, R1', ks, hD, hk, hb⟩ := h
      have hg2 := f1 _ _ nsr hg
      refine ⟨sg, _, _, rfl, rfl, hg2, ?_, L ++ [(D, ks)], _, rfl, same_mut (f1.back s' nr3) nsg6, ?_, ?_, ?_, ?_⟩
      · rw [List.length_map]
        exact small1000 (by omega)
      · obtain ⟨x1, x2, x3, x4⟩ := R1'
        exact ⟨x1, x2, x3, by rw [upd_ne nsr.symm]; exact x4⟩
      · rw [upd_same, List.map_append]
        rfl
      · rw [List.length_append, hL]
        rfl
      · intro x hx
        rcases List.mem_append.mp hx with hx | hx
        · obtain ⟨h1, h2, h3, h4⟩ := hx' x hx
          exact ⟨by rw [upd_ne h2]; exact f1 _ _ h3 h1, h2, h3, h4⟩
        · rcases List.mem_singleton.mp hx with rfl
          exact ⟨by rw [upd_ne nDs]; exact hD, nDs, nDr, hk, hb⟩
  · rintro σ HA ⟨L, y6, rfl, sA, RA, hgA, hL, hx'⟩
    -- labels
    refine ⟨_, rfl, pn, _, rfl, .inl (SqL.of (sA _ _ hN6)), fun lb nlb => ?_⟩
    -- the turns
    refine ⟨by show 3 ≤ sizeLine; decide, fun d0 nd0 => ?_⟩
    have sB : Same HA (upd (upd HA lb (.lst (ws.map V.str))) d0 (.lst [.int 0, .int 1, .int 0])) := (same_new nlb).trans (same_new nd0)
    have hlB : upd (upd HA lb (.lst (ws.map V.str))) d0 (.lst [.int 0, .int 1, .int 0]) lb = some (.lst (ws.map V.str)) := same_new nd0 _ _ upd_same
    have hdB : upd (upd HA lb (.lst (ws.map V.str))) d0 (.lst [.int 0, .int 1, .int 0]) d0 = some (.lst [.int 0, .int 1, .int 0]) := upd_same
    generalize upd (upd HA lb (.lst (ws.map V.str))) d0 (.lst [.int 0, .int 1, .int 0]) = HB at sB hlB hdB ⊢
    have hgB := sB _ _ hgA
    have hNB := sB _ _ (sA _ _ hN6)
    have hxB : ∀ x ∈ L, HB x.1 = some (.lst (x.2.map V.int)) ∧ x.2.length = ws.length ∧ ∀ n ∈ x.2, n.natAbs ≤ 9 := fun x hx => by
      obtain ⟨h1, _, _, h2, h3⟩ := hx' x hx
      exact ⟨sB _ _ h1, h2, h3⟩
    have hEB : ExIn HB e v := hx.mono ((tps sA).trans (tps sB))
    clear hx' hgA
    refine ⟨d0, rfl, ⟨_, SqL.of hdB⟩, for_list (xs := [.int 0, .int 1, .int 0]) (fun i σ H' => ∃ (y6 y8 y9 y10 : Option V), σ = [some (.ref a), some (.ref r3), some (.ref pn), some v, some (.int fm), some (.ref sg), y6, some (.ref lb), y8, y9, y10, none] ∧ Same HB H')
      ⟨_, _, _, _, rfl, Same.refl HB⟩ (fun i σ H' _ h => ?_) ?_ ?_⟩
    · obtain ⟨_, _, _, _, _, s'⟩ := h
      exact SqL.of (s' _ _ hdB)
    · rintro i t σ H' hit ⟨y6, y8, y9, y10, rfl, s'⟩
      obtain ⟨tn, x, hx1, rfl, hxa⟩ : ∃ (tn : Nat) (x : Addr × List Int), x ∈ L ∧ t = .int (tn : Int) ∧ (L.map fun x => V.ref x.1)[tn]? = some (.ref x.1) := by
        match L, hL with
        | [x0, x1], _ =>
          match i, hit with
          | 0, hit => cases hit; exact ⟨0, x0, List.mem_cons_self, rfl, rfl⟩
          | 1, hit => cases hit; exact ⟨1, x1, List.mem_cons_of_mem _ List.mem_cons_self, rfl, rfl⟩
          | 2, hit => cases hit; exact ⟨0, x0, List.mem_cons_self, rfl, rfl⟩
          | i + 3, hit => cases hit
      obtain ⟨hxs, hxl, hxb⟩ := hxB x hx1
      have at1 : atI (L.map fun x => V.ref x.1) (tn : Int) = some (.ref x.1) := atI_nat hxa
      -- sight
      refine ⟨_, rfl, _, rfl, sg, _, _, _, rfl, rfl, SqL.of (s' _ _ hgB), at1, x.1, _, rfl, .inl (SqL.of (s' _ _ hxs)), fun st nst => ?_⟩
      have s2 : Same HB (upd H' st (.lst (x.2.map V.int))) := s'.trans (same_new nst)
      have hst : upd H' st (.lst (x.2.map V.int)) st = some (.lst (x.2.map V.int)) := upd_same
      generalize upd H' st (.lst (x.2.map V.int)) = HC at s2 hst ⊢
      -- the parts
      refine ⟨_, rfl, v, e, rfl, hEB.mono (tps s2), by omega, by decide, fun pl HD pxs npl s3 hpl hps hpn => ?_⟩
      have sD := s2.trans s3
      have hst3 := s3 _ _ hst
      refine ⟨pl, rfl, ⟨_, SqL.of hpl⟩, for_list (xs := pxs) (fun j σ H'' => ∃ (y9 y10 : Option V), σ = [some (.ref a), some (.ref r3), some (.ref pn), some v, some (.int fm), some (.ref sg), some (.int (tn : Int)), some (.ref lb), some (.ref st), y9, y10, none] ∧ Same HD H'')
        ⟨_, _, rfl, Same.refl HD⟩ (fun j σ H'' _ h => ?_) ?_ ?_⟩
      · obtain ⟨_, _, _, s4⟩ := h
        exact SqL.of (s4 _ _ hpl)
      · rintro j px σ H'' hpx ⟨y9, y10, rfl, s4⟩
        obtain ⟨g, hg1, hg2⟩ := hps px (List.mem_of_getElem? hpx)
        have gin : g.In ws := hg2.keep (P := Ex.In ws) (fun _ h => h) (fun _ _ _ h => h) hi
        have gnum : g.Nums 9 := hg2.keep (P := Ex.Nums 9) (fun _ h => h) (fun _ _ _ h => h) hn
        have gdep : g.depth ≤ 5 := hg2.keep (P := fun e => e.depth ≤ 5) (fun e h => by have h' : e.depth + 1 ≤ 5 := h; omega) (fun o l r h => by
          have h' : max l.depth r.depth + 1 ≤ 5 := h
          exact ⟨by omega, by omega⟩) (by omega)
        have env1 := envL_ok (ws := ws) (ns := x.2) hxl.symm
        have gmul : g.Mul (envL ws x.2) := mul_of (envL_abs hxb) gdep gnum
        have s5 := sD.trans s4
        -- told
        refine ⟨_, rfl, _, rfl, _, rfl, _, _, rfl, rfl, ⟨by decide, by decide⟩, lb, _, _, rfl, SqL.of (s5 _ _ hlB), fun p1 K1 z1 g1 => ?_⟩
        refine ⟨_, rfl, _, rfl, _, _, rfl, rfl, (show (0 : Int) < 2 by decide), st, _, _, rfl, SqL.of (z1 _ _ (s4 _ _ hst3)), fun p2 K2 z2 g2 => ?_⟩
        have z12 : Same H'' K2 := z1.trans z2
        have gE : ExIn K2 g px := hg1.mono (tps (s4.trans z12))
        refine ⟨px, p1, p2, g, ws, x.2, _, rfl, gE, given_nm (g1.mono z2), given_is g2, env1, gin, gmul, gdep, ?_⟩
        -- not _law_same(..)
        have s6 := s5.trans z12
        refine ⟨_, rfl, _, rfl, _, rfl, _, rfl, _, rfl, sg, _, _, _, rfl, rfl, SqL.of (s6 _ _ hgB), at1, ?_⟩
        refine ⟨px, pn, x.1, g, ws, x.2, _, rfl, gE, .inl (SqL.of (s6 _ _ hNB)), .inl (SqL.of (s6 _ _ hxs)), env1, gin, gmul, gdep, ?_⟩
        refine ⟨_, _, _, rfl, .int _, .int _, True.intro, fun K3 z3 => ⟨_, rfl, iteF ?_⟩⟩
        exact ⟨_, _, rfl, s4.trans (z12.trans z3)⟩
      · rintro σ H'' ⟨y9, y10, rfl, s4⟩
        have s5 := sD.trans s4
        -- sight != sights[turn] or labels != names
        refine ⟨_, rfl, _, rfl, _, rfl, sg, _, _, _, rfl, rfl, SqL.of (s5 _ _ hgB), at1, ?_⟩
        refine ⟨_, _, .lst (SqL.of (s4 _ _ hst3)) (dpa_ints x.2), .lst (SqL.of (s5 _ _ hxs)) (dpa_ints x.2), shaped_ints _, shaped_ints _, _, rfl, ?_⟩
        rw [eqv_self (shaped_ints _)]
        refine iteF ?_
        refine ⟨_, rfl, _, rfl, _, _, .lst (SqL.of (s5 _ _ hlB)) (dpa_strs ws), .lst (SqL.of (s5 _ _ hNB)) (dpa_strs ws), shaped_strs hw, shaped_strs hw, _, rfl, ?_⟩
        rw [eqv_self (shaped_strs hw)]
        refine iteF ?_
        exact ⟨_, _, _, _, rfl, s5⟩
    · rintro σ H' ⟨y6, y8, y9, y10, rfl, s'⟩
      exact q H'


end
end Pf

namespace Pf
open PySem PySem.Spec PyProof.Rows L2
theorem all_mk {l : PySem.W.OpenLaw} {w : World} {K : PySem.W.Frag} {h : Heap} {mg : Str → Option Value} {fa f0 f1 f2 f3 f4 f5 f6 f7 f8 f9 f10 f11 f12 f13 : Addr} (X : K.In h) (G : h.Ns mainGlobals mg) (hfa : mg "law" = some (.ref fa))
    {od0 an0 od1 an1 od2 an2 od3 an3 od4 an4 od5 an5 od6 an6 od7 an7 od8 an8 od9 an9 od10 an10 od11 an11 od12 an12 od13 an13 : Option Addr}
    {sl0 sl1 sl2 sl3 sl4 sl5 sl6 sl7 sl8 sl9 sl10 sl11 sl12 sl13 : Array (Option Value)} {oc0 kV0 dc0 pm0 cd0 ct0 oc1 kV1 dc1 pm1 cd1 ct1 oc2 kV2 dc2 pm2 cd2 ct2 oc3 kV3 dc3 pm3 cd3 ct3 oc4 kV4 dc4 pm4 cd4 ct4 oc5 kV5 dc5 pm5 cd5 ct5 oc6 kV6 dc6 pm6 cd6 ct6 oc7 kV7 dc7 pm7 cd7 ct7 oc8 kV8 dc8 pm8 cd8 ct8 oc9 kV9 dc9 pm9 cd9 ct9 oc10 kV10 dc10 pm10 cd10 ct10 oc11 kV11 dc11 pm11 cd11 ct11 oc12 kV12 dc12 pm12 cd12 ct12 oc13 kV13 dc13 pm13 cd13 ct13 : Value}
    (a0 : PySem.W.nsIn K mainGlobals "value_of" = some (some (.ref f0))) (l0 : K.lookup f0 = some ⟨oc0, od0, .func (PySem.W.fnOf "value_of" "value_of" (defArgs s_value_of) (defBody s_value_of) (defScope s_value_of) .none kV0 dc0 pm0 an0 cd0 ct0), sl0⟩) (c0 : PySem.W.codeIn K cd0 "value_of" = true) (k0 : PySem.W.keepIn K (.ref f0) = true)
    (a1 : PySem.W.nsIn K mainGlobals "joined" = some (some (.ref f1))) (l1 : K.lookup f1 = some ⟨oc1, od1, .func (PySem.W.fnOf "joined" "joined" (defArgs s_joined) (defBody s_joined) (defScope s_joined) .none kV1 dc1 pm1 an1 cd1 ct1), sl1⟩) (c1 : PySem.W.codeIn K cd1 "joined" = true) (k1 : PySem.W.keepIn K (.ref f1) = true)
    (a2 : PySem.W.nsIn K mainGlobals "truth" = some (some (.ref f2))) (l2 : K.lookup f2 = some ⟨oc2, od2, .func (PySem.W.fnOf "truth" "truth" (defArgs s_truth) (defBody s_truth) (defScope s_truth) .none kV2 dc2 pm2 an2 cd2 ct2), sl2⟩) (c2 : PySem.W.codeIn K cd2 "truth" = true) (k2 : PySem.W.keepIn K (.ref f2) = true)
    (a3 : PySem.W.nsIn K mainGlobals "_law_cell" = some (some (.ref f3))) (l3 : K.lookup f3 = some ⟨oc3, od3, .func (PySem.W.fnOf "_law_cell" "_law_cell" (defArgs s__law_cell) (defBody s__law_cell) (defScope s__law_cell) .none kV3 dc3 pm3 an3 cd3 ct3), sl3⟩) (c3 : PySem.W.codeIn K cd3 "_law_cell" = true) (k3 : PySem.W.keepIn K (.ref f3) = true)
    (a4 : PySem.W.nsIn K mainGlobals "_law_reader" = some (some (.ref f4))) (l4 : K.lookup f4 = some ⟨oc4, od4, .func (PySem.W.fnOf "_law_reader" "_law_reader" (defArgs s__law_reader) (defBody s__law_reader) (defScope s__law_reader) .none kV4 dc4 pm4 an4 cd4 ct4), sl4⟩) (c4 : PySem.W.codeIn K cd4 "_law_reader" = true) (k4 : PySem.W.keepIn K (.ref f4) = true)
    (a5 : PySem.W.nsIn K mainGlobals "_law_next" = some (some (.ref f5))) (l5 : K.lookup f5 = some ⟨oc5, od5, .func (PySem.W.fnOf "_law_next" "_law_next" (defArgs s__law_next) (defBody s__law_next) (defScope s__law_next) .none kV5 dc5 pm5 an5 cd5 ct5), sl5⟩) (c5 : PySem.W.codeIn K cd5 "_law_next" = true) (k5 : PySem.W.keepIn K (.ref f5) = true)
    (a6 : PySem.W.nsIn K mainGlobals "_law_same" = some (some (.ref f6))) (l6 : K.lookup f6 = some ⟨oc6, od6, .func (PySem.W.fnOf "_law_same" "_law_same" (defArgs s__law_same) (defBody s__law_same) (defScope s__law_same) .none kV6 dc6 pm6 an6 cd6 ct6), sl6⟩) (c6 : PySem.W.codeIn K cd6 "_law_same" = true) (k6 : PySem.W.keepIn K (.ref f6) = true)
    (a7 : PySem.W.nsIn K mainGlobals "_law_word" = some (some (.ref f7))) (l7 : K.lookup f7 = some ⟨oc7, od7, .func (PySem.W.fnOf "_law_word" "_law_word" (defArgs s__law_word) (defBody s__law_word) (defScope s__law_word) .none kV7 dc7 pm7 an7 cd7 ct7), sl7⟩) (c7 : PySem.W.codeIn K cd7 "_law_word" = true) (k7 : PySem.W.keepIn K (.ref f7) = true)
    (a8 : PySem.W.nsIn K mainGlobals "_law_pool" = some (some (.ref f8))) (l8 : K.lookup f8 = some ⟨oc8, od8, .func (PySem.W.fnOf "_law_pool" "_law_pool" (defArgs s__law_pool) (defBody s__law_pool) (defScope s__law_pool) .none kV8 dc8 pm8 an8 cd8 ct8), sl8⟩) (c8 : PySem.W.codeIn K cd8 "_law_pool" = true) (k8 : PySem.W.keepIn K (.ref f8) = true)
    (a9 : PySem.W.nsIn K mainGlobals "_law_deep" = some (some (.ref f9))) (l9 : K.lookup f9 = some ⟨oc9, od9, .func (PySem.W.fnOf "_law_deep" "_law_deep" (defArgs s__law_deep) (defBody s__law_deep) (defScope s__law_deep) .none kV9 dc9 pm9 an9 cd9 ct9), sl9⟩) (c9 : PySem.W.codeIn K cd9 "_law_deep" = true) (k9 : PySem.W.keepIn K (.ref f9) = true)
    (a10 : PySem.W.nsIn K mainGlobals "_law_value" = some (some (.ref f10))) (l10 : K.lookup f10 = some ⟨oc10, od10, .func (PySem.W.fnOf "_law_value" "_law_value" (defArgs s__law_value) (defBody s__law_value) (defScope s__law_value) .none kV10 dc10 pm10 an10 cd10 ct10), sl10⟩) (c10 : PySem.W.codeIn K cd10 "_law_value" = true) (k10 : PySem.W.keepIn K (.ref f10) = true)
    (a11 : PySem.W.nsIn K mainGlobals "_law_parts" = some (some (.ref f11))) (l11 : K.lookup f11 = some ⟨oc11, od11, .func (PySem.W.fnOf "_law_parts" "_law_parts" (defArgs s__law_parts) (defBody s__law_parts) (defScope s__law_parts) .none kV11 dc11 pm11 an11 cd11 ct11), sl11⟩) (c11 : PySem.W.codeIn K cd11 "_law_parts" = true) (k11 : PySem.W.keepIn K (.ref f11) = true)
    (a12 : PySem.W.nsIn K mainGlobals "_law_given" = some (some (.ref f12))) (l12 : K.lookup f12 = some ⟨oc12, od12, .func (PySem.W.fnOf "_law_given" "_law_given" (defArgs s__law_given) (defBody s__law_given) (defScope s__law_given) .none kV12 dc12 pm12 an12 cd12 ct12), sl12⟩) (c12 : PySem.W.codeIn K cd12 "_law_given" = true) (k12 : PySem.W.keepIn K (.ref f12) = true)
    (a13 : PySem.W.nsIn K mainGlobals "law" = some (some (.ref f13))) (l13 : K.lookup f13 = some ⟨oc13, od13, .func (PySem.W.fnOf "law" "law" (defArgs s_law) (defBody s_law) (defScope s_law) .none kV13 dc13 pm13 an13 cd13 ct13), sl13⟩) (c13 : PySem.W.codeIn K cd13 "law" = true) (k13 : PySem.W.keepIn K (.ref f13) = true)
    (z0 : PySem.W.nsIn K mainGlobals "all" = some none) (z1 : PySem.W.nsIn K mainGlobals "bool" = some none) (z2 : PySem.W.nsIn K mainGlobals "int" = some none) (z3 : PySem.W.nsIn K mainGlobals "isinstance" = some none) (z4 : PySem.W.nsIn K mainGlobals "len" = some none) (z5 : PySem.W.nsIn K mainGlobals "list" = some none) (z6 : PySem.W.nsIn K mainGlobals "range" = some none) (z7 : PySem.W.nsIn K mainGlobals "str" = some none) (z8 : PySem.W.nsIn K mainGlobals "tuple" = some none) :
    ∃ fd : FuncData, (∀ (s : Shared) (v : Value), BindsTo s fd ⟨[v], []⟩ [("script", v)]) ∧ ∀ base : Heap, K.In base → base.Ns mainGlobals mg → FnOk l.prog w K mg base CX0 9 fa fd ["script"] (sp_law K) := by
  have e := hfa.symm.trans (PySem.W.mg_of X G a13)
  cases e
  have F0 := fun_mk (st := s_value_of) l0 c0 k0
  have F1 := fun_mk (st := s_joined) l1 c1 k1
  have F2 := fun_mk (st := s_truth) l2 c2 k2
  have F3 := fun_mk (st := s__law_cell) l3 c3 k3
  have F4 := fun_mk (st := s__law_reader) l4 c4 k4
  have F5 := fun_mk (st := s__law_next) l5 c5 k5
  have F6 := fun_mk (st := s__law_same) l6 c6 k6
  have F7 := fun_mk (st := s__law_word) l7 c7 k7
  have F8 := fun_mk (st := s__law_pool) l8 c8 k8
  have F9 := fun_mk (st := s__law_deep) l9 c9 k9
  have F10 := fun_mk (st := s__law_value) l10 c10 k10
  have F11 := fun_mk (st := s__law_parts) l11 c11 k11
  have F12 := fun_mk (st := s__law_given) l12 c12 k12
  have F13 := fun_mk (st := s_law) l13 c13 k13
  have T : Txt K mg := ⟨PySem.W.mg_none_of X G z0,
    PySem.W.mg_none_of X G z1,
    PySem.W.mg_none_of X G z2,
    PySem.W.mg_none_of X G z3,
    PySem.W.mg_none_of X G z4,
    PySem.W.mg_none_of X G z5,
    PySem.W.mg_none_of X G z6,
    PySem.W.mg_none_of X G z7,
    PySem.W.mg_none_of X G z8,
    ⟨⟨_, _, F0, PySem.W.mg_of X G a0, F0.binds (ps := ["expression", "names", "sight"]) fun _ _ _ _ _ _ us hl => match us, hl with | [_, _, _], _ => rfl⟩⟩,
    ⟨⟨_, _, F1, PySem.W.mg_of X G a1, F1.binds (ps := ["operator", "left", "right"]) fun _ _ _ _ _ _ us hl => match us, hl with | [_, _, _], _ => rfl⟩⟩,
    ⟨⟨_, _, F2, PySem.W.mg_of X G a2, F2.binds (ps := ["holds"]) fun _ _ _ _ _ _ us hl => match us, hl with | [_], _ => rfl⟩⟩,
    ⟨⟨_, _, F3, PySem.W.mg_of X G a3, F3.binds (ps := ["script", "k"]) fun _ _ _ _ _ _ us hl => match us, hl with | [_, _], _ => rfl⟩⟩,
    ⟨⟨_, _, F4, PySem.W.mg_of X G a4, F4.binds (ps := ["cell"]) fun _ _ _ _ _ _ us hl => match us, hl with | [_], _ => rfl⟩⟩,
    ⟨⟨_, _, F5, PySem.W.mg_of X G a5, F5.binds (ps := ["reader", "size"]) fun _ _ _ _ _ _ us hl => match us, hl with | [_, _], _ => rfl⟩⟩,
    ⟨⟨_, _, F6, PySem.W.mg_of X G a6, F6.binds (ps := ["told", "due"]) fun _ _ _ _ _ _ us hl => match us, hl with | [_, _], _ => rfl⟩⟩,
    ⟨⟨_, _, F7, PySem.W.mg_of X G a7, F7.binds (ps := ["reader", "many"]) fun _ _ _ _ _ _ us hl => match us, hl with | [_, _], _ => rfl⟩⟩,
    ⟨⟨_, _, F8, PySem.W.mg_of X G a8, F8.binds (ps := ["reader"]) fun _ _ _ _ _ _ us hl => match us, hl with | [_], _ => rfl⟩⟩,
    ⟨⟨_, _, F9, PySem.W.mg_of X G a9, F9.binds (ps := ["reader", "names", "depth"]) fun _ _ _ _ _ _ us hl => match us, hl with | [_, _, _], _ => rfl⟩⟩,
    ⟨⟨_, _, F10, PySem.W.mg_of X G a10, F10.binds (ps := ["expression", "names", "sight"]) fun _ _ _ _ _ _ us hl => match us, hl with | [_, _, _], _ => rfl⟩⟩,
    ⟨⟨_, _, F11, PySem.W.mg_of X G a11, F11.binds (ps := ["expression"]) fun _ _ _ _ _ _ us hl => match us, hl with | [_], _ => rfl⟩⟩,
    ⟨⟨_, _, F12, PySem.W.mg_of X G a12, F12.binds (ps := ["row", "as_tuple"]) fun _ _ _ _ _ _ us hl => match us, hl with | [_, _], _ => rfl⟩⟩,
    ⟨⟨_, _, F13, PySem.W.mg_of X G a13, F13.binds (ps := ["script"]) fun _ _ _ _ _ _ us hl => match us, hl with | [_], _ => rfl⟩⟩⟩
  refine ⟨PySem.W.fnOf "law" "law" (defArgs s_law) (defBody s_law) (defScope s_law) .none kV13 dc13 pm13 an13 cd13 ct13, fun s v => .of_eq rfl, fun base _ _ => ?_⟩
  exact ok_law (P := l.prog) (w := w) (base := base) T F13
end Pf
open PySem PySem.W PyProof.Rows
set_option maxRecDepth 100000 in
set_option maxHeartbeats 0 in
theorem PySem.Challenge.cw_allmends_k01_value_of_holds : PySem.Challenge.rw_allmends_k01_value_of.Holds := by
  w_on; o_law; k_head; (case hw => w_witness2)
  k_fill
  refine L2.walk_of (l := PySem.Challenge.rw_allmends_k01_value_of) (n := 63) (k := 9) (x := "script") (CX := fun _ => L2.CX0) (sp := fun w => Pf.sp_law _) rfl (by decide) rfl ⟨rfl, by decide, by decide⟩ (fun w h Y => PySem.W.kIn_of Y) ?F (fun _ _ a ns hl _ hS => ⟨a, ns, rfl, hS, hl, fun _ => rfl⟩) (fun _ _ _ _ _ h => h)
  case F =>
    intro w mg fa h KX G hmg
    refine' Pf.all_mk KX G hmg ?a0 ?l0 ?c0 ?k0 ?a1 ?l1 ?c1 ?k1 ?a2 ?l2 ?c2 ?k2 ?a3 ?l3 ?c3 ?k3 ?a4 ?l4 ?c4 ?k4 ?a5 ?l5 ?c5 ?k5 ?a6 ?l6 ?c6 ?k6 ?a7 ?l7 ?c7 ?k7 ?a8 ?l8 ?c8 ?k8 ?a9 ?l9 ?c9 ?k9 ?a10 ?l10 ?c10 ?k10 ?a11 ?l11 ?c11 ?k11 ?a12 ?l12 ?c12 ?k12 ?a13 ?l13 ?c13 ?k13 ?z0 ?z1 ?z2 ?z3 ?z4 ?z5 ?z6 ?z7 ?z8
    (case a0 => k_is); (case l0 => k_is); (case c0 => k_is); (case k0 => k_is); (case a1 => k_is); (case l1 => k_is)
    (case c1 => k_is); (case k1 => k_is); (case a2 => k_is); (case l2 => k_is); (case c2 => k_is); (case k2 => k_is)
    (case a3 => k_is); (case l3 => k_is); (case c3 => k_is); (case k3 => k_is); (case a4 => k_is); (case l4 => k_is)
    (case c4 => k_is); (case k4 => k_is); (case a5 => k_is); (case l5 => k_is); (case c5 => k_is); (case k5 => k_is)
    (case a6 => k_is); (case l6 => k_is); (case c6 => k_is); (case k6 => k_is); (case a7 => k_is); (case l7 => k_is)
    (case c7 => k_is); (case k7 => k_is); (case a8 => k_is); (case l8 => k_is); (case c8 => k_is); (case k8 => k_is)
    (case a9 => k_is); (case l9 => k_is); (case c9 => k_is); (case k9 => k_is); (case a10 => k_is); (case l10 => k_is)
    (case c10 => k_is); (case k10 => k_is); (case a11 => k_is); (case l11 => k_is); (case c11 => k_is); (case k11 => k_is)
    (case a12 => k_is); (case l12 => k_is); (case c12 => k_is); (case k12 => k_is); (case a13 => k_is); (case l13 => k_is)
    (case c13 => k_is); (case k13 => k_is); (case z0 => k_is); (case z1 => k_is); (case z2 => k_is); (case z3 => k_is)
    (case z4 => k_is); (case z5 => k_is); (case z6 => k_is); (case z7 => k_is); (case z8 => k_is)
