import PyProof.Rows.All
import Wide.All
import OpenK.AllK
import Wide.FinOn
import HandS.ForMost
import HandS.IsInst
import HandS.Strs
import HandS.Defaults
import HandS.SortKw
import HandS.MakeKwOnly
import HandS.Conv
import HandS.DictComp
import HandS.TupAny
import HandS.More
import HandS.TupMul
import KE.GoesEnum
import KE.GoesMore
import KE.GoesZip
import HandS.ExcInit
import HandS.Nested
import HandS.FStr
import HandS.ExcValue
import KE.KExcSuper
import KE.KExcIs
import HandS.Walk
import HandS.Deep
import HandS.Zip
import HandS.Codes
import HandS.ExcOwn
import HandS.ExcField
import HandS.Flow
import HandS.WordsExc
import HandS.TryOnly
import PySem.Challenge.RW_allmends_k11_contract_rows
set_option Elab.async false
set_option linter.all false
set_option maxRecDepth 100000
set_option maxHeartbeats 4000000
namespace Pf
open PySem PySem.Spec PyProof.Rows L2
def topS (i : Nat) : Stmt := PySem.Challenge.pw_allmends_k11_contract_rows.main.body.getD i (.Pass ⟨0, 0, 0, 0⟩)
abbrev s_frozen : Stmt := topS 16
theorem sc_frozen : FnScope ["value", "part"] ["value"] (defScope s_frozen) := ⟨rfl, rfl, rfl, by decide +kernel, rfl, by decide +kernel, by decide +kernel⟩
abbrev s_letters_reason : Stmt := topS 21
theorem sc_letters_reason : FnScope ["letters", "answers"] ["letters", "answers"] (defScope s_letters_reason) := ⟨rfl, rfl, rfl, by decide +kernel, rfl, by decide +kernel, by decide +kernel⟩
abbrev s_with_item : Stmt := topS 25
theorem sc_with_item : FnScope ["items", "index", "item", "found"] ["items", "index", "item"] (defScope s_with_item) := ⟨rfl, rfl, rfl, by decide +kernel, rfl, by decide +kernel, by decide +kernel⟩
abbrev s_first_reason : Stmt := topS 26
theorem sc_first_reason : FnScope ["letters", "answers", "states"] ["letters", "answers", "states"] (defScope s_first_reason) := ⟨rfl, rfl, rfl, by decide +kernel, rfl, by decide +kernel, by decide +kernel⟩
abbrev s_states_reason : Stmt := topS 27
theorem sc_states_reason : FnScope ["letters", "answers", "states", "targets", "row", "target"] ["letters", "answers", "states"] (defScope s_states_reason) := ⟨rfl, rfl, rfl, by decide +kernel, rfl, by decide +kernel, by decide +kernel⟩
abbrev s__law_cell : Stmt := topS 29
theorem sc__law_cell : FnScope ["script", "k"] ["script", "k"] (defScope s__law_cell) := ⟨rfl, rfl, rfl, by decide +kernel, rfl, by decide +kernel, by decide +kernel⟩
abbrev s__law_reader : Stmt := topS 30
theorem sc__law_reader : FnScope ["cell"] ["cell"] (defScope s__law_reader) := ⟨rfl, rfl, rfl, by decide +kernel, rfl, by decide +kernel, by decide +kernel⟩
abbrev s__law_next : Stmt := topS 31
theorem sc__law_next : FnScope ["reader", "size", "k", "rest", "mixed"] ["reader", "size"] (defScope s__law_next) := ⟨rfl, rfl, rfl, by decide +kernel, rfl, by decide +kernel, by decide +kernel⟩
abbrev s__law_same : Stmt := topS 32
theorem sc__law_same : FnScope ["told", "due", "k"] ["told", "due"] (defScope s__law_same) := ⟨rfl, rfl, rfl, by decide +kernel, rfl, by decide +kernel, by decide +kernel⟩
abbrev s__law_put : Stmt := topS 33
theorem sc__law_put : FnScope ["row", "k", "part"] ["row", "k", "part"] (defScope s__law_put) := ⟨rfl, rfl, rfl, by decide +kernel, rfl, by decide +kernel, by decide +kernel⟩
abbrev s__law_target : Stmt := topS 34
theorem sc__law_target : FnScope ["reader", "many", "number"] ["reader", "many"] (defScope s__law_target) := ⟨rfl, rfl, rfl, by decide +kernel, rfl, by decide +kernel, by decide +kernel⟩
abbrev s__law_states : Stmt := topS 35
theorem sc__law_states : FnScope ["reader", "letters", "answers", "many", "states", "k", "reads", "over", "writes", "flags", "letter"] ["reader", "letters", "answers", "many"] (defScope s__law_states) := ⟨rfl, rfl, rfl, by decide +kernel, rfl, by decide +kernel, by decide +kernel⟩
abbrev s__law_events : Stmt := topS 36
theorem sc__law_events : FnScope ["letters", "answers", "reads", "letter"] ["letters", "answers"] (defScope s__law_events) := ⟨rfl, rfl, rfl, by decide +kernel, rfl, by decide +kernel, by decide +kernel⟩
abbrev s__law_follow : Stmt := topS 37
theorem sc__law_follow : FnScope ["states", "state", "event"] ["states", "state", "event"] (defScope s__law_follow) := ⟨rfl, rfl, rfl, by decide +kernel, rfl, by decide +kernel, by decide +kernel⟩
abbrev s__law_right : Stmt := topS 38
theorem sc__law_right : FnScope ["contract", "parts", "state", "event"] ["contract", "parts"] (defScope s__law_right) := ⟨rfl, rfl, rfl, by decide +kernel, rfl, by decide +kernel, by decide +kernel⟩
abbrev s__law_turned_row : Stmt := topS 39
theorem sc__law_turned_row : FnScope ["states", "state", "event", "target", "row"] ["states", "state", "event", "target"] (defScope s__law_turned_row) := ⟨rfl, rfl, rfl, by decide +kernel, rfl, by decide +kernel, by decide +kernel⟩
abbrev s__law_reason : Stmt := topS 40
theorem sc__law_reason : FnScope ["letters", "answers", "states", "row", "target"] ["letters", "answers", "states"] (defScope s__law_reason) := ⟨rfl, rfl, rfl, by decide +kernel, rfl, by decide +kernel, by decide +kernel⟩
abbrev s__law_faulty : Stmt := topS 41
theorem sc__law_faulty : FnScope ["reader", "parts", "fault", "states", "state", "side", "targets", "events", "event", "beyond"] ["reader", "parts", "fault"] (defScope s__law_faulty) := ⟨rfl, rfl, rfl, by decide +kernel, rfl, by decide +kernel, by decide +kernel⟩
abbrev s__law_told : Stmt := topS 42
theorem sc__law_told : FnScope ["contract", "deed", "kept", "reason", "e"] ["contract", "deed"] (defScope s__law_told) := ⟨rfl, rfl, rfl, by decide +kernel, rfl, by decide +kernel, by decide +kernel⟩
abbrev s__law_flagged : Stmt := topS 43
theorem sc__law_flagged : FnScope ["contract", "state", "flags", "form"] ["contract", "state", "flags", "form"] (defScope s__law_flagged) := ⟨rfl, rfl, rfl, by decide +kernel, rfl, by decide +kernel, by decide +kernel⟩
abbrev s__law_walked : Stmt := topS 44
theorem sc__law_walked : FnScope ["reader", "contract", "parts", "shown", "k", "many", "state", "events", "event", "target", "told", "side", "flags", "form", "row"] ["reader", "contract", "parts"] (defScope s__law_walked) := ⟨rfl, rfl, rfl, by decide +kernel, rfl, by decide +kernel, by decide +kernel⟩
abbrev s_law : Stmt := topS 45
theorem sc_law : FnScope ["script", "reader", "letters", "answers", "good", "many", "first", "faults", "parts", "fault", "form", "contracts", "asked", "passed", "told", "due", "pair", "shown", "kept"] ["script"] (defScope s_law) := ⟨rfl, rfl, rfl, by decide +kernel, rfl, by decide +kernel, by decide +kernel⟩
abbrev s_Contract_init : Stmt := inClass (topS 24) 0
theorem sc_Contract_init : FnScope ["self", "letters", "answers", "states", "reason"] ["self", "letters", "answers", "states"] (defScope s_Contract_init) := ⟨rfl, rfl, rfl, by decide +kernel, rfl, by decide +kernel, by decide +kernel⟩
abbrev s_Contract_follow : Stmt := inClass (topS 24) 1
theorem sc_Contract_follow : FnScope ["self", "state", "event", "row", "targets"] ["self", "state", "event"] (defScope s_Contract_follow) := ⟨rfl, rfl, rfl, by decide +kernel, rfl, by decide +kernel, by decide +kernel⟩
abbrev s_Contract_with_row : Stmt := inClass (topS 24) 2
theorem sc_Contract_with_row : FnScope ["self", "state", "event", "target", "reads", "over", "writes", "finish", "silence"] ["self", "state", "event", "target"] (defScope s_Contract_with_row) := ⟨rfl, rfl, rfl, by decide +kernel, rfl, by decide +kernel, by decide +kernel⟩
abbrev s_Contract_with_flags : Stmt := inClass (topS 24) 3
theorem sc_Contract_with_flags : FnScope ["self", "state", "finish", "silence", "reads", "over", "writes", "old_finish", "old_silence", "new_finish", "new_silence"] ["self", "state", "finish", "silence"] (defScope s_Contract_with_flags) := ⟨rfl, rfl, rfl, by decide +kernel, rfl, by decide +kernel, by decide +kernel⟩
abbrev s_Contract_with_state : Stmt := inClass (topS 24) 4
theorem sc_Contract_with_state : FnScope ["self", "state", "row"] ["self", "state", "row"] (defScope s_Contract_with_state) := ⟨rfl, rfl, rfl, by decide +kernel, rfl, by decide +kernel, by decide +kernel⟩
abbrev id_Contract : Nat := 24
abbrev id_MendError : Nat := 1
abbrev id_InvalidInput : Nat := 2
abbrev id_InvalidText : Nat := 3
abbrev id_InvalidProgram : Nat := 4
abbrev id_InvalidContract : Nat := 5
abbrev id_InvalidChange : Nat := 6
abbrev id_InvalidStream : Nat := 7
abbrev id_InvalidPlaces : Nat := 8
abbrev id_InvalidEdit : Nat := 9
abbrev id_InvalidLine : Nat := 10
abbrev id_InvalidName : Nat := 11
abbrev id_Mismatch : Nat := 12
abbrev id_BoundError : Nat := 13
abbrev id_DeskError : Nat := 14
/-- a class's __init__, a method, as a caller needs them -/
def HasMk (P : Program) (w : World) (K : PySem.W.Frag) (mg : Str → Option Value) (base : Heap) (k : Nat) (C : Addr) (ps : List Str) (sp : Sp) : Prop :=
  ∃ (f : Addr) (fd : FuncData), FnOk P w K mg base CX0 k f fd ps sp ∧ Mk K C f ∧ Binds K fd ps []
def HasM (P : Program) (w : World) (K : PySem.W.Frag) (mg : Str → Option Value) (base : Heap) (k : Nat) (C : Addr) (m : Str) (ps : List Str) (sp : Sp) : Prop :=
  ∃ (f : Addr) (fd : FuncData), FnOk P w K mg base CX0 k f fd ps sp ∧ Meth K C m f ∧ Binds K fd ps []
def HasMkX (P : Program) (w : World) (K : PySem.W.Frag) (mg : Str → Option Value) (base : Heap) (k : Nat) (C : Addr) (ps : List Str) (sp : Sp) : Prop :=
  ∃ (f : Addr) (fd : FuncData), FnOk P w K mg base (L2.CX P w) k f fd ps sp ∧ Mk K C f ∧ Binds K fd ps []
def HasMX (P : Program) (w : World) (K : PySem.W.Frag) (mg : Str → Option Value) (base : Heap) (k : Nat) (C : Addr) (m : Str) (ps : List Str) (sp : Sp) : Prop :=
  ∃ (f : Addr) (fd : FuncData), FnOk P w K mg base (L2.CX P w) k f fd ps sp ∧ Meth K C m f ∧ Binds K fd ps []
/-- a method of two positional parameters and two keyword-only ones whose default is None -/
def KwF (K : PySem.W.Frag) (fd : FuncData) (ps : List Str) (a b : Str) : Prop := Binds K fd ps [Value.none, Value.none] ∧ KBn K fd ps 2 [a] (fun us ws => us ++ (ws ++ [Value.none])) (fun vs zs => vs ++ (zs ++ [V.non])) ∧
  KBn K fd ps 2 [b] (fun us ws => us ++ (Value.none :: ws)) (fun vs zs => vs ++ (V.non :: zs)) ∧ KBn K fd ps 2 [a, b] (fun us ws => us ++ ws) (fun vs zs => vs ++ zs)
def HasMKw (P : Program) (w : World) (K : PySem.W.Frag) (mg : Str → Option Value) (base : Heap) (k : Nat) (C : Addr) (m : Str) (a b : Str) (ps : List Str) (sp : Sp) : Prop :=
  ∃ (f : Addr) (fd : FuncData), FnOk P w K mg base CX0 k f fd ps sp ∧ Meth K C m f ∧ KwF K fd ps a b
/-- a def that may raise -/
def HasX (P : Program) (w : World) (K : PySem.W.Frag) (mg : Str → Option Value) (base : Heap) (k : Nat) (x : Str) (ps : List Str) (sp : Sp) : Prop :=
  ∃ (f : Addr) (fd : FuncData), FnOk P w K mg base (L2.CX P w) k f fd ps sp ∧ mg x = some (.ref f) ∧ PySem.W.keepIn K (.ref f) = true ∧ Binds K fd ps []
/-- a def as it stands behind the top -/
structure DefAt (K : PySem.W.Frag) (mg : Str → Option Value) (x : Str) (st : Stmt) (ps : List Str) : Prop where
  ex : ∃ (f : Addr) (fd : FuncData), Fun K x x st f fd ∧ mg x = some (.ref f) ∧ Binds K fd ps []
/-- what a caller needs of a def -/
def Has (P : Program) (w : World) (K : PySem.W.Frag) (mg : Str → Option Value) (base : Heap) (k : Nat) (x : Str) (ps : List Str) (sp : Sp) : Prop :=
  ∃ (f : Addr) (fd : FuncData), FnOk P w K mg base CX0 k f fd ps sp ∧ mg x = some (.ref f) ∧ PySem.W.keepIn K (.ref f) = true ∧ Binds K fd ps []
theorem Has.none {P : Program} {w : World} {K : PySem.W.Frag} {mg : Str → Option Value} {base : Heap} {k : Nat} {x : Str} {st : Stmt} {ps : List Str} {sp : Sp} (D : DefAt K mg x st ps) (no : ∀ vs H Q E, ¬ sp vs H Q E) : Has P w K mg base k x ps sp := by
  obtain ⟨f, fd, F, m, b⟩ := D.ex
  exact ⟨f, fd, ⟨fun vs H Q E h => absurd h (no vs H Q E), fun A outer s H args us vs Q E _ _ _ _ h => absurd h (no vs H Q E)⟩, m, F.kp, b⟩
theorem Has.mono {P : Program} {w : World} {K : PySem.W.Frag} {mg : Str → Option Value} {base : Heap} {j k : Nat} {x : Str} {ps : List Str} {sp : Sp} (h : Has P w K mg base j x ps sp) (l : j ≤ k) : Has P w K mg base k x ps sp := by
  obtain ⟨f, fd, F, r⟩ := h
  exact ⟨f, fd, F.mono l, r⟩
/-! ### further rules -/
section
variable {X : Cx}
/-- two derivations of one expression -/
theorem pe_alt {e : Expr} {t u : TE} (h1 : PE X e t) (h2 : PE X e u) : PE X e (fun σ H Q => t σ H Q ∨ u σ H Q) :=
  ⟨fun pins s σ H Q I h => h.elim (h1.run pins s σ H Q I) (h2.run pins s σ H Q I)⟩
/-- tuple(list): the new object is known to have no dict of its own -/
def rTupF (K : PySem.W.Frag) : List V → Hp → VK → Prop := fun xs H Q => ∃ p ys, xs = [.ref p] ∧ SqL K H p ys ∧ ∀ l o, H l = none → o.cls = .type "tuple" → o.dict = none → Q (.ref l) (upd H l (.frz o (.tup ys)))
theorem call_tupleF : CallR X (.type "tuple") (rTupF X.K) := by
  intro pins s σ H xs us Q I r h
  obtain ⟨p, ys, rfl, hq, q⟩ := h
  obtain ⟨u, rfl, rx⟩ := vals1 r
  cases rx
  obtain ⟨its, r', pl, hz⟩ := I.list hq
  have hlen := r'.length
  refine call_tuple_list pl.isList (fun h' kp => ?_) (by simp only [List.size_toArray] <;> omega)
  have I1 : Inv X pins σ H { s with heap := h' } := I.kept (t' := s.toks) kp
  have e1 : (h'.push { cls := .type "tuple", data := .seq its.toArray }).get? h'.objs.size = some { cls := .type "tuple", data := .seq its.toArray } := Heap.get?_push_size _ rfl
  have I2 : Inv X pins σ (upd H h'.objs.size (.frz { cls := .type "tuple", data := .seq its.toArray } (.tup ys))) { s with heap := h'.push { cls := .type "tuple", data := .seq its.toArray } } :=
    I1.laid (t' := s.toks) (fun b o e => Heap.get?_push_of_some _ e) (Nat.le_refl _) (show ObjOk X.prog X.w _ _ _ (.frz _ (.tup ys)) from ⟨e1, hz, its, r', IsTup.new _ _⟩)
  exact ⟨.ref h'.objs.size, _, I2, rfl, q _ _ (I1.hok.fresh (Nat.le_refl _)) rfl rfl⟩
/-- a method of a tuple that was made so -/
def tyF (x : V) (H : Hp) : Prop := ∃ p o xs, x = .ref p ∧ H p = some (.frz o (.tup xs)) ∧ o.cls = .type "tuple" ∧ o.dict = none
def tBMF (r : V → List V → Hp → VK → Prop) (to : TE) (t : TA) : TE := fun σ H Q => to σ H fun x H1 => tyF x H1 ∧ t σ H1 fun xs H2 => r x xs H2 Q
theorem pe_bmF {o e : Expr} {es : List Expr} {to : TE} {t : TA} {name : Str} {apos cpos : Pos} {id : String} {r : V → List V → Hp → VK → Prop}
    (pa : PlainAttrs "tuple") (slot : Slot "tuple" name id) (hty : typeOf (.builtin id) = pure (.type "method_descriptor")) (hm : MtR X id r) (ho : PE X o to) (ha : PA X (e :: es) t)
    (hbase : attributeBase o name X.env (eval o X.env) = eval o X.env := by rfl)
    (hfew : ((backTo cpos (starEach (e :: es) X.env)).all (fun x => !x.1) && (backToKw cpos (keywordEach [] X.env)).all (fun x => x.1.isSome)
      && decide ((e :: es).length + ([] : List Keyword).length + (if ([] : List Keyword).isEmpty then 0 else 1) < 30)) = true := by rfl)
    (hline : (apos.endLine == cpos.line) = true := by rfl) (hs : starEach (e :: es) X.env = (false, eval e X.env) :: starEach es X.env := by rfl) (hplain : (backTo cpos (starEach es X.env)).any (·.1) = false := by rfl) :
    PE X (.Call (.Attribute o name apos) (e :: es) [] cpos) (tBMF r to t) := by
  refine ⟨fun pins s σ H Q I h => ?_⟩
  refine wpAny_Call_method_late hbase hfew hline rfl (thn (ho.run pins s σ H _ I h) fun v s1 ⟨x, H1, I1, r1, ty, q1⟩ => ?_)
  obtain ⟨p, ob, ys, rfl, hp, hc, hd⟩ := ty
  obtain ⟨e1, _⟩ := I1.hok p _ hp
  cases r1
  refine ⟨"tuple", id, pa, slot, hty, ⟨ob, e1, hc⟩, fun a e => ?_, ?_⟩
  · cases e
    exact ⟨ob, e1, hd⟩
  have hA := ha.run cpos pins s1 σ H1 _ I1 q1
  rw [hs] at hA ⊢
  refine Calls.callWith_builtin (by show (false || (backTo cpos (starEach es X.env)).any (·.1)) = false; rw [hplain] <;> rfl) (Calls.evalArgs_plain ?_)
  exact thn hA fun us s2 ⟨vs, H2, I2, r2, q2⟩ => hm pins s2 σ H2 (.ref p) vs (.ref p) us Q I2 rfl r2 q2
/-- xs.index(y), xs a list or a tuple made by tuple(..) -/
theorem pe_index {o e : Expr} {to te : TE} {apos cpos : Pos} (ho : PE X o to) (he : PE X e te)
    (hbase : attributeBase o "index" X.env (eval o X.env) = eval o X.env := by rfl)
    (hfew : ((backTo cpos (starEach [e] X.env)).all (fun x => !x.1) && (backToKw cpos (keywordEach [] X.env)).all (fun x => x.1.isSome)
      && decide ([e].length + ([] : List Keyword).length + (if ([] : List Keyword).isEmpty then 0 else 1) < 30)) = true := by rfl)
    (hline : (apos.endLine == cpos.line) = true := by rfl) (hs : starEach [e] X.env = (false, eval e X.env) :: starEach [] X.env := by rfl) (hplain : (backTo cpos (starEach [] X.env)).any (·.1) = false := by rfl) :
    PE X (.Call (.Attribute o "index" apos) [e] [] cpos) (fun σ H Q =>
      tBM X.K "list" (rIndex X.K) to (tCons te tNil) σ H Q ∨
      tBMF (fun x xs H Q => ∃ p, ∃ ys : List Str, ∃ z j, x = .ref p ∧ xs = [.str z] ∧ SqT X.K H p (ys.map V.str) ∧ ys[j]? = some z ∧ (∀ m, m < j → ys[m]? ≠ some z) ∧ Q (.int (j : Nat)) H) to (tCons te tNil) σ H Q) :=
  pe_alt (pe_bm PySem.F.plainAttrs_list PySem.F.slot_list_index PySem.F.type_list_index mt_index ho (pa_cons he pa_nil (hs := hs)) hbase hfew hline hs hplain)
    (pe_bmF PySem.F.plainAttrs_tuple PySem.F.slot_tuple_index PySem.F.type_tuple_index mt_tup_index ho (pa_cons he pa_nil (hs := hs)) hbase hfew hline hs hplain)
end
/-! ### the rules that speak of the written part, for the element of a comprehension: the part is named -/
section
variable {X : Cx} {K : PySem.W.Frag}
theorem ix_listK (h : X.K = K) : IxR X (rIxL K) := h ▸ ix_list
theorem ix_tupK (h : X.K = K) : IxR X (rIxT K) := h ▸ ix_tup
theorem ix_seqK (h : X.K = K) : IxR X (rIx K) := h ▸ ix_seq
theorem op_in_seqK (h : X.K = K) : OpR X (compareOp .In) (rIn K false) := h ▸ op_in_seq
theorem op_notIn_seqK (h : X.K = K) : OpR X (compareOp .NotIn) (rIn K true) := h ▸ op_notIn_seq
theorem sl_listK (h : X.K = K) : SlR X (rSlL K) := h ▸ sl_list
theorem sl_tupK (h : X.K = K) : SlR X (rSlT K) := h ▸ sl_tup
theorem call_isiK' (h : X.K = K) : CallR X (.builtin "isinstance") (rIsi K) := h ▸ call_isi
theorem call_len_seqK (h : X.K = K) : CallR X (.builtin "len") (fun xs H Q => ∃ p ys, xs = [.ref p] ∧ (SqL K H p ys ∨ SqT K H p ys) ∧ Q (.int ys.length) H) := h ▸ call_len_seq
end
section
variable {X : Cx}
/-- two derivations of one walk -/
theorem pi_alt {tg e : Expr} {t u : TI} (h1 : PI X tg e t) (h2 : PI X tg e u) : PI X tg e (fun σ H R => t σ H R ∨ u σ H R) :=
  ⟨fun pins s σ H R I h => h.elim (h1.run pins s σ H R I) (h2.run pins s σ H R I)⟩
end
section
variable {X : Cx} {K : PySem.W.Frag}
theorem pi_listK {tg l : Expr} {tl : TE} (h : X.K = K) (hl : PE X l tl) : PI X tg l (iList K tl) := h ▸ pi_list hl
theorem pi_tupK {tg l : Expr} {tl : TE} (h : X.K = K) (hl : PE X l tl) : PI X tg l (iTup K tl) := h ▸ pi_tup hl
theorem call_list_ofK (h : X.K = K) : CallR X (.type "list") (fun xs H Q => ∃ p ys, xs = [.ref p] ∧ (SqL K H p ys ∨ SqT K H p ys) ∧ ∀ l, H l = none → Q (.ref l) (upd H l (.lst ys))) := h ▸ call_list_of
end
section
variable {X : Cx} {K : PySem.W.Frag}
theorem pg_tupK {es : List Expr} {k : Nat} {t : TGs} {n : Nat} {pos : Pos} (h : X.K = K) (hc : X.calm = true) (hp : PGs X es t)
    (hn : (assignEach es X.env).length = n := by rfl) (hst : (assignEach es X.env).findIdx? (·.1) = none := by rfl) : PG X (.Tuple es k pos) (gTup K n t) := h ▸ pg_tup hc hp hn hst
end
/-! ### heaps: everything but what stands at r is as it was -/
def Fr (r : Addr) (H H' : Hp) : Prop := ∀ b o, b ≠ r → H b = some o → H' b = some o
theorem Fr.refl (r : Addr) (H : Hp) : Fr r H H := fun _ _ _ h => h
theorem Fr.trans {r : Addr} {H H1 H2 : Hp} (a : Fr r H H1) (b : Fr r H1 H2) : Fr r H H2 := fun c o n h => b c o n (a c o n h)
theorem Fr.of {r : Addr} {H H' : Hp} (a : Same H H') : Fr r H H' := fun c o _ h => a c o h
theorem Fr.new {r p : Addr} {H : Hp} {o : HO} (h : H p = none) : Fr r H (upd H p o) := fun b u _ e => by
  rw [upd_ne (ne_of_none e h)]
  exact e
theorem Fr.upd {r : Addr} {H : Hp} {o : HO} : Fr r H (upd H r o) := fun b u n e => by
  rw [upd_ne n]
  exact e
theorem Fr.mut {r p : Addr} {H H' : Hp} {o : HO} (a : Fr r H H') (h : H p = none) : Fr r H (L2.upd H' p o) := fun b u n e => by
  rw [upd_ne (ne_of_none e h)]
  exact a b u n e
theorem Fr.seq {K : PySem.W.Frag} {r : Addr} {H H' : Hp} {a : Addr} {xs : List V} (e : Fr r H H') (n : a ≠ r) (h : SqL K H a xs) : SqL K H' a xs := by
  rcases h with (h | ⟨o, h⟩) | h
  · exact .inl (.inl (e _ _ n h))
  · exact .inl (.inr ⟨o, e _ _ n h⟩)
  · exact .inr h
theorem same_new {H : Hp} {p : Addr} {o : HO} (h : H p = none) : Same H (upd H p o) := fun b u e => by
  rw [upd_ne (ne_of_none e h)]
  exact e
theorem same_mut {H H' : Hp} {p : Addr} {o : HO} (a : Same H H') (h : H p = none) : Same H (upd H' p o) := fun b u e => by
  rw [upd_ne (ne_of_none e h)]
  exact a b u e
theorem same_back {H H' : Hp} {p : Addr} (e : Same H H') (h : H' p = none) : H p = none := e.free h
/-- what tuples stood, stands -/
def Tp (H H' : Hp) : Prop := ∀ b xs, H b = some (.tup xs) → H' b = some (.tup xs)
theorem Tp.refl (H : Hp) : Tp H H := fun _ _ h => h
theorem Tp.trans {H H1 H2 : Hp} (a : Tp H H1) (b : Tp H1 H2) : Tp H H2 := fun c o h => b c o (a c o h)
theorem tps {H H' : Hp} (a : Same H H') : Tp H H' := fun b xs h => a b _ h
theorem tpn {H : Hp} {p : Addr} {o : HO} (h : H p = none) : Tp H (upd H p o) := tps (same_new h)
/-! ### a reader: a list of three ints -/
def RD (H : Hp) (r : Addr) : Prop := ∃ c k d : Int, H r = some (.lst [.int c, .int k, .int d])
theorem RD.of {H H' : Hp} {r : Addr} (h : RD H r) (e : Same H H') : RD H' r := by
  obtain ⟨c, k, d, h⟩ := h
  exact ⟨c, k, d, e _ _ h⟩
theorem RD.ne {H : Hp} {r p : Addr} (h : RD H r) (n : H p = none) : p ≠ r := by
  obtain ⟨c, k, d, h⟩ := h
  exact fun e => by
    subst e
    rw [n] at h
    cases h
theorem Fr.tp {r : Addr} {H H' : Hp} (a : Fr r H H') (h : RD H r) : Tp H H' := fun b xs e => by
  refine a b _ (fun z => ?_) e
  subst z
  obtain ⟨c, k, d, h⟩ := h
  rw [h] at e
  cases e
theorem Fr.free {r p : Addr} {H H' : Hp} (a : Fr r H H') (h : RD H r) (h' : RD H' r) (n : H' p = none) : H p = none := by
  cases q : H p with
  | none => rfl
  | some o =>
    have z := a p o (h'.ne n) q
    rw [n] at z
    cases z
/-! ### items -/
theorem at_in {α : Type} {xs : List α} {i : Int} (h0 : 0 ≤ i) (h : i < (xs.length : Int)) : ∃ x, xs[i.toNat]? = some x ∧ atI xs i = some x := by
  obtain ⟨n, rfl⟩ := Int.eq_ofNat_of_zero_le h0
  have h1 : n < xs.length := by omega
  have h2 : xs[n]? = some xs[n] := List.getElem?_eq_getElem h1
  exact ⟨xs[n], by simpa using h2, atI_nat h2⟩
theorem int_of_bl {i j : Int} (h : decide (V.int i = V.int j) = true) : i = j := V.int.inj (of_decide_eq_true h)
theorem int_ne_bl {i j : Int} (h : ¬ decide (V.int i = V.int j) = true) : i ≠ j := fun e => h (decide_eq_true (congrArg V.int e))
theorem dec_t {p : Prop} [Decidable p] (h : decide p = true) : p := of_decide_eq_true h
theorem dec_f {p : Prop} [Decidable p] (h : ¬ decide p = true) : ¬ p := fun z => h (decide_eq_true z)
theorem mod_lt {i n : Int} (h : 0 < n) : 0 ≤ i % n ∧ i % n < n := ⟨Int.emod_nonneg i (by omega), Int.emod_lt_of_pos i h⟩
theorem cut_to (xs : List V) (n : Nat) : cutV xs none (some (n : Int)) = xs.take n := by
  unfold cutV
  rw [HT.sIx_none, show HT.sIx xs.length xs.length (some (n : Int)) = min n xs.length from HT.sIx_nat xs.length xs.length n, Nat.sub_zero, List.drop_zero]
  by_cases h : n ≤ xs.length
  · rw [Nat.min_eq_left h]
  · rw [Nat.min_eq_right (by omega), List.take_length, List.take_of_length_le (by omega)]
theorem cut_from (xs : List V) (n : Nat) : cutV xs (some (n : Int)) none = xs.drop n := by
  unfold cutV
  rw [HT.sIx_none, show HT.sIx xs.length 0 (some (n : Int)) = min n xs.length from HT.sIx_nat xs.length 0 n]
  by_cases h : n ≤ xs.length
  · rw [Nat.min_eq_left h]
    exact List.take_of_length_le (by rw [List.length_drop]; exact Nat.le_refl _)
  · rw [Nat.min_eq_right (by omega), Nat.sub_self, List.take_zero, List.drop_of_length_le (by omega)]
theorem cutS_len (z : Str) (lo hi : Option Int) : (cutS z lo hi).length ≤ z.length := by
  show (List.toArray _).size ≤ z.cps.size
  rw [List.size_toArray, List.length_take, List.length_drop, Array.length_toList]
  omega
theorem str_at {z : Str} {i : Int} (h0 : 0 ≤ i) (h : i < (z.length : Int)) : ∃ c, atI z.cps.toList i = some c := by
  obtain ⟨c, _, e⟩ := at_in (xs := z.cps.toList) h0 (by rw [Array.length_toList]; exact h)
  exact ⟨c, e⟩
/-- what stood before r was laid -/
theorem Fr.back {r : Addr} {H0 H H' : Hp} (f : Fr r H H') (s : Same H0 H) (n : H0 r = none) : Same H0 H' := fun b o e => f b o (ne_of_none e n) (s b o e)
/-! ### texts of true signs -/
theorem sok_iff {x : Str} : PyData.strOk x = true ↔ ∀ c ∈ x.cps.toList, c < 0x110000 := by
  unfold PyData.strOk
  rw [← Array.all_toList, List.all_eq_true]
  constructor
  · intro h c hc
    exact of_decide_eq_true (h c hc)
  · intro h c hc
    exact decide_eq_true (h c hc)
theorem sok_app {x y : Str} (hx : PyData.strOk x = true) (hy : PyData.strOk y = true) : PyData.strOk (x ++ y) = true := by
  rw [sok_iff] at hx hy ⊢
  intro c hc
  have e : (x ++ y).cps.toList = x.cps.toList ++ y.cps.toList := Array.toList_append
  rw [e] at hc
  rcases List.mem_append.mp hc with h | h
  · exact hx c h
  · exact hy c h
theorem atI_mem {α : Type} {xs : List α} {i : Int} {x : α} (h : atI xs i = some x) : x ∈ xs := by
  unfold atI at h
  cases e : ixN xs.length i with
  | none => rw [e] at h; cases h
  | some j =>
    rw [e] at h
    exact List.mem_of_getElem? (show xs[j]? = some x from h)
theorem sok_one {z : Str} {i : Int} {c : Nat} (h : atI z.cps.toList i = some c) (hz : PyData.strOk z = true) : PyData.strOk ⟨#[c]⟩ = true := by
  rw [sok_iff] at hz ⊢
  intro d hd
  have e : d = c := by simpa using hd
  subst e
  exact hz d (atI_mem h)
theorem sok_cut {z : Str} {lo hi : Option Int} (hz : PyData.strOk z = true) : PyData.strOk (cutS z lo hi) = true := by
  rw [sok_iff] at hz ⊢
  intro d hd
  have e : d ∈ (z.cps.toList.drop (HT.sIx z.length 0 lo)).take (HT.sIx z.length z.length hi - HT.sIx z.length 0 lo) := by simpa [cutS] using hd
  exact hz d (List.mem_of_mem_drop (List.mem_of_mem_take e))
theorem one_len (c : Nat) : (⟨#[c]⟩ : Str).length = 1 := rfl
theorem app_len (x y : Str) : (x ++ y).length = x.length + y.length := by
  show (x.cps ++ y.cps).size = _
  rw [Array.size_append]
  rfl
theorem line_small {n : Nat} (h : n ≤ 100000) : n ≤ sizeLine := Nat.le_trans h (by decide)
theorem map_at {α β : Type} {f : α → β} {xs : List α} {j : Nat} {x : α} (h : xs[j]? = some x) : (xs.map f)[j]? = some (f x) := by
  rw [List.getElem?_map, h]
  rfl
/-! ### rules for what is never reached -/
section
variable {X : Cx}
theorem pe_never {e : Expr} : PE X e (fun _ _ _ => False) := ⟨fun _ _ _ _ _ _ h => h.elim⟩
theorem pt_never {e : Expr} : PT X e (fun _ _ _ => False) := ⟨fun _ _ _ _ _ _ h => h.elim⟩
theorem pi_never {tg e : Expr} : PI X tg e (fun _ _ _ => False) := ⟨fun _ _ _ _ _ _ h => h.elim⟩
end
/-! ### an iterator that hands out new tuples, told at each turn by the library's own walk of it -/
section
variable {P : Program} {w : World} {K : PySem.W.Frag}
theorem turn_new {elts : List Expr} {kk : Nat} {tpos : Pos} {J : It} {fp : List Addr} {it : Addr} {tn : Nat → Heap → Prop} (mem : it ∈ fp)
    (live : ∀ i h, tn i h → ∀ b ∈ fp, ∃ o, h.get? b = some o ∧ ∀ v, o.data ≠ .cell v) (keep : ∀ i h h', tn i h → (∀ b ∈ fp, ∀ o, h.get? b = some o → h'.get? b = some o) → tn i h')
    (tell : ∀ (X : Cx), X.prog = P → X.w = w → X.K = K → X.calm = true → ∀ (i : Nat) (pins : List (Addr × Obj)) (s : Shared) (σ : L2.St) (H : Hp), Inv X pins σ H s → tn i s.heap → (J.go i H ∨ J.stop i H) →
      ∃ (fw wr : List Addr) (n : Nat) (Pt : Nat → Array Value → Prop) (Z : Nat → Heap → Prop) (Mid : Nat → Addr → Heap → Prop), WalksT P w X.A it fw wr n Pt Z Mid ∧ (∀ b ∈ wr, b ∈ fp) ∧ Z i s.heap ∧ (J.go i H → i < n) ∧ (J.stop i H → i = n) ∧ (∀ h', Z (i + 1) h' → tn (i + 1) h') ∧
        ∀ vals, Pt i vals → ∃ xs : List V, Vals xs vals.toList ∧ xs.length ≤ sizeLine ∧ ∀ T, H T = none → J.yld i H (.ref T) (upd H T (.tup xs)))
    (self : ∀ (A : Around) (i : Nat) (s : Shared) (Q : Value → Shared → Prop) (E : Value → Shared → Prop), tn i s.heap → Q (.ref it) s → wpAny (model P w) A (pyIter (.ref it)) Q E s) :
    Turn P w K (.Tuple elts kk tpos) J fp it tn where
  mem := mem
  obj := live
  keep := keep
  self := self
  item := by
    intro X eP ew eK hc i pins s σ H E I hf ht hg
    obtain ⟨fw, wr, n, Pt, Z, Mid, W, sub, z0, hi, _, back, data⟩ := tell X eP ew eK hc i pins s σ H I ht (.inl hg)
    subst eP ew eK
    refine W.item i s _ E (hi hg) z0 fun T vals h1 tk hp le hT hm f1 => ⟨_, rfl, ?_⟩
    refine W.go elts kk tpos i T { s with heap := h1, toks := tk } _ E hm fun h2 z2 f2 => ?_
    obtain ⟨xs, rv, hl, hy⟩ := data vals hp
    have free : H T = none := I.hok.fresh le
    have hT2 : h2.IsTuple T vals := hT.at fun o e => f2 T o (W.apart i T h1 hm) e
    have nw : ObjOk X.prog X.w (upd H T (.tup xs)) h2 T (.tup xs) := ⟨hl, vals.toList, rv, hT2⟩
    refine ⟨.ref T, upd H T (.tup xs), I.turnedNew (ch := fp) (t' := tk) (fun b o hb e => f2 b o (fun m => hb (sub b m)) (f1 b o (fun m => hb (sub b m)) e)) hf le nw, rfl, hy T free, back h2 z2, fun b hb => ?_⟩
    obtain ⟨o, ho, _⟩ := live i s.heap ht b hb
    rw [upd_ne (Nat.ne_of_lt (Nat.lt_of_lt_of_le (Heap.lt_size ho) le))]
    exact (hf b hb).1
  done := by
    intro X eP ew eK hc i pins s σ H E I hf ht hg
    obtain ⟨fw, wr, n, Pt, Z, Mid, W, sub, z0, _, hn, _, _⟩ := tell X eP ew eK hc i pins s σ H I ht (.inr hg)
    subst eP ew eK
    have e := hn hg
    subst e
    exact W.done s _ E z0 fun h1 tk f1 => ⟨rfl, I.turnedL (ch := fp) (t' := tk) (fun b o hb e => f1 b o (fun m => hb (sub b m)) e) hf⟩
end
theorem vals_back : ∀ {xs : List V} {us : List Value} {i : Nat} {u : Value}, Vals xs us → us[i]? = some u → ∃ x, xs[i]? = some x ∧ RelV x u
  | _, _, _, _, .nil, h => by simp at h
  | _, _, 0, _, .cons r _, h => by
    cases h
    exact ⟨_, rfl, r⟩
  | _, _, i + 1, _, .cons _ t, h => vals_back (i := i) t h
/-! ### enumerate(x), one argument, whatever begins an iterator -/
theorem meets_enum1 {x : Value} {ob : Obj} {Hh : Heap → Prop} (B : Begins x ob Hh) :
    Meets (Builtin.«enumerate.__new__» ⟨[.type "enumerate", x], []⟩) (fun _ R s => Hh s.heap ∧ R (.ok (.ret (.ref (s.heap.push ob).objs.size)))
      { s with heap := (s.heap.push ob).push { cls := .type "enumerate", data := .fields #[.none, .bool false, .ref s.heap.objs.size, rawInt 0, .none, .none] } }) :=
  .of_wp fun pr wd ar post st both => by
    obtain ⟨hp, gens, drawn, toks, os⟩ := st
    obtain ⟨hb, both⟩ := both
    have hsub := sub_enumerate
    have go : ∀ {A' : Around} {E : Value → Shared → Prop} {Q : Value → Shared → Prop}, Q (.ref hp.objs.size) ⟨hp.push ob, gens, drawn, toks, os⟩ → wpAny (model pr wd) A' (pyIter x) Q E ⟨hp, gens, drawn, toks, os⟩ :=
      fun {A' E Q} z => B.iter pr wd A' E ⟨hp, gens, drawn, toks, os⟩ Q hb z
    wp_walk using go
    refine wpAny_stack_any fun st => wpAny_pure ?_
    split
    · rename_i cl _ _ _ _ _
      cases (cl == Value.type "enumerate") <;> (wp_walk using go; exact ⟨_, rfl, both⟩)
    · wp_walk using go
      exact ⟨_, rfl, both⟩
section
variable {prog : Program} {w : World} {A : Around} {E : Value → Shared → Prop} {s : Shared}
theorem call_enum1 {x : Value} {ob : Obj} {Hh : Heap → Prop} {Q : Value → Shared → Prop} (B : Begins x ob Hh) (hb : Hh s.heap)
    (k : ∀ h', IsEnum h' (s.heap.objs.size + 1) s.heap.objs.size (0 + ((0 : Nat) : Int)) .none → h'.get? s.heap.objs.size = some ob → h'.objs.size = s.heap.objs.size + 2 → (∀ b o, s.heap.get? b = some o → h'.get? b = some o) → Q (.ref (s.heap.objs.size + 1)) { s with heap := h' }) :
    wpAny (model prog w) A (call (.type "enumerate") [x]) Q E s := by
  refine callType_new F.called_enumerate (by decide) (F.typeCall_enumerate_1 _) (F.newCall_enumerate_1 _) (fun o => F.args_object_init_2 o _) F.entry_enumerate_new (meets_enum1 B) ⟨hb, ?_⟩
  have z1 : (s.heap.push ob).objs.size = s.heap.objs.size + 1 := by rw [Heap.size_push]
  have top := Heap.get?_push_size (s.heap.push ob) (o := { cls := .type "enumerate", data := .fields #[.none, .bool false, .ref s.heap.objs.size, rawInt 0, .none, .none] }) rfl
  show _ ∧ _
  rw [z1] at top ⊢
  exact ⟨⟨_, top, rfl⟩, k _ top (Heap.get?_push_of_some _ (Heap.get?_push_size _ B.free)) (by rw [Heap.size_push, z1]) fun b o e => Heap.get?_push_of_some _ (Heap.get?_push_of_some _ e)⟩
end
/-! ### enumerate of a tuple -/
section
variable {P : Program} {w : World} {K : PySem.W.Frag}
def ItEnT (K : PySem.W.Frag) (a : Addr) (n : Nat) : It :=
  ⟨fun i H => i < n ∧ ∃ xs, SqT K H a xs ∧ xs.length = n, fun i H v H' => ∃ T x, v = .ref T ∧ H T = none ∧ H' = upd H T (.tup [.int (i : Nat), x]) ∧ ∀ xs, SqT K H a xs → xs[i]? = some x, fun i H => i = n ∧ ∃ xs, SqT K H a xs ∧ xs.length = n⟩
theorem turn_enT {elts : List Expr} {kk : Nat} {tpos : Pos} {a e it : Addr} {n : Nat} (hne : e ≠ it) (hei : a ≠ it) (hea : e ≠ a) :
    Turn P w K (.Tuple elts kk tpos) (ItEnT K a n) [e, it] e (fun i h => (∃ old, IsEnum h e it (0 + ((i : Nat) : Int)) old) ∧ h.IsTupleIter it a i) := by
  refine turn_new (by simp) (fun i h st b hb => ?_) (fun i h h' st k => ?_) (fun X eP ew eK hc i pins s σ H I st go => ?_) (fun A i s Q E st h => let ⟨⟨_, he⟩, _⟩ := st; wpAny_pyIter_enum he h)
  · obtain ⟨⟨old, he⟩, o, ho, hcl, hd⟩ := st
    have q : b = e ∨ b = it := by simpa using hb
    rcases q with rfl | rfl
    · exact ⟨_, he, fun v z => nomatch z⟩
    · exact ⟨o, ho, fun v z => by rw [hd] at z; cases z⟩
  · obtain ⟨⟨old, he⟩, hi⟩ := st
    exact ⟨⟨old, k e (by simp) _ he⟩, hi.at fun o z => k it (by simp) o z⟩
  · obtain ⟨⟨old, he⟩, hi⟩ := st
    obtain ⟨xs, hq, hl⟩ : ∃ xs, SqT K H a xs ∧ xs.length = n := by
      rcases go with g | g
      · exact g.2
      · exact g.2
    subst eP ew eK
    obtain ⟨its, rv, tp, hz⟩ := I.tuple hq
    have hh : X.A.in1.handled = none := I.ok.hd hc
    have sz : its.toArray.size = n := by rw [List.size_toArray, ← rv.length, hl]
    have hef : e ∉ [it, a] := fun m => by
      have q : e = it ∨ e = a := by simpa using m
      exact q.elim hne hea
    refine ⟨_, _, n, _, _, _, (sz ▸ WalksT.enumFrom 0 (Draws.tuple hh it a hei its.toArray) e hne hef (by simp)), fun b hb => hb, ⟨⟨old, he⟩, hi, tp⟩, fun g => g.1, fun g => g.1, fun h' z => ⟨z.1, z.2.1⟩, ?_⟩
    · rintro vals ⟨t, u, hu, rfl⟩
      have hu' : its[i]? = some u := by simpa using hu
      obtain ⟨x, hx, rx⟩ := vals_back rv hu'
      refine ⟨[.int (i : Nat), x], .cons ⟨t, by simp⟩ (.cons rx .nil), by show 2 ≤ sizeLine; decide, fun T nT => ⟨T, x, rfl, nT, rfl, fun ys hy => ?_⟩⟩
      rw [I.tuple_inj hy hq]
      exact hx
def iEnT (K : PySem.W.Frag) (ta : TA) : TI := fun σ H R => ta σ H fun vs H1 => ∃ a xs, vs = [.ref a] ∧ SqT K H1 a xs ∧ R (ItEnT K a xs.length) H1
theorem pi_enT {X : Cx} {e : Expr} {ta : TA} {p pos tpos : Pos} {elts : List Expr} {kk : Nat} (hg : Gl X "enumerate") (hm : X.mg "enumerate" = none) (ha : PA X [e] ta) (hs : starEach [e] X.env = [(false, eval e X.env)] := by rfl) :
    PI X (.Tuple elts kk tpos) (.Call (.Name "enumerate" p) [e] [] pos) (iEnT X.K ta) := by
  refine ⟨fun pins s σ H R I h => ?_⟩
  refine Call_ (ld_blt I hg hm boot_enumerate (PyProof.Rows.callWith_type1 (thn (ha.run pos pins s σ H _ I h) fun us s1 ⟨vs, H1, I1, r1, q1⟩ => ?_) hs rfl))
  obtain ⟨a, xs, rfl, hq, q⟩ := q1
  obtain ⟨u, rfl, ru⟩ := vals1 r1
  cases ru
  obtain ⟨its, rv, tp, hz⟩ := I1.tuple hq
  obtain ⟨oa, hoa, _⟩ := id tp
  have la : a < s1.heap.objs.size := Heap.lt_size hoa
  refine call_enum1 (begins_tuple a its.toArray) tp fun h' he hi hsz hk => wpAny_pyIter_enum he ?_
  refine ⟨s1.heap.objs.size + 1, [s1.heap.objs.size + 1, s1.heap.objs.size], _, _, H1, rfl, I1.kept (t' := s1.toks) hk, turn_enT (Nat.succ_ne_self _) (Nat.ne_of_lt la) (Nat.ne_of_gt (Nat.lt_succ_of_lt la)), ⟨⟨.none, he⟩, ⟨_, hi, rfl, rfl⟩⟩, fun b hb => ?_, q⟩
  have q2 : b = s1.heap.objs.size + 1 ∨ b = s1.heap.objs.size := by simpa using hb
  have le : s1.heap.objs.size ≤ b := by
    rcases q2 with z | z
    · rw [z]; exact Nat.le_succ _
    · rw [z]; exact Nat.le_refl _
  exact I1.fpOk le (I1.hok.fresh le)
theorem walk_enT {a : Addr} {xs : List V} : Walk (ItEnT K a xs.length) xs.length (fun H => SqT K H a xs) (YPair (fun i => some (.int (i : Nat))) (fun i => xs[i]?)) :=
  ⟨fun i H hi q => ⟨hi, xs, q, rfl⟩, fun H q => ⟨rfl, xs, q, rfl⟩, fun i H v H' hi q y => by
    obtain ⟨T, x, e1, e2, e3, e4⟩ := y
    exact ⟨T, _, x, e1, e2, e3, rfl, e4 xs q⟩⟩
end
/-! ### zip of a list and a tuple -/
section
variable {P : Program} {w : World} {K : PySem.W.Frag}
def LT (K : PySem.W.Frag) (a b : Addr) (n : Nat) (H : Hp) : Prop := ∃ xs ys, SqL K H a xs ∧ SqT K H b ys ∧ min xs.length ys.length = n
def ItZiM (K : PySem.W.Frag) (a b : Addr) (n : Nat) : It :=
  ⟨fun i H => i < n ∧ LT K a b n H, fun i H v H' => ∃ T x y, v = .ref T ∧ H T = none ∧ H' = upd H T (.tup [x, y]) ∧ (∀ xs, SqL K H a xs → xs[i]? = some x) ∧ ∀ ys, SqT K H b ys → ys[i]? = some y, fun i H => i = n ∧ LT K a b n H⟩
theorem turn_ziM {elts : List Expr} {kk : Nat} {tpos : Pos} {z TI TO i1 i2 a b : Addr} {n : Nat} (S : ZipSep2 z TI TO i1 i2 [i1, a] [i2, b]) (na : a ≠ i1) (nb : b ≠ i2) :
    Turn P w K (.Tuple elts kk tpos) (ItZiM K a b n) [z, TI, TO, i1, i2] z (fun i h => IsZip h z TI TO .none ∧ IsTupOf2 h TI (.ref i1) (.ref i2) ∧ (∃ x y, IsTupOf2 h TO x y) ∧ h.IsListIter i1 a i ∧ h.IsTupleIter i2 b i) := by
  refine turn_new (by simp) (fun i h st c hc => ?_) (fun i h h' st k => ?_) (fun X eP ew eK hc i pins s σ H I st go => ?_) (fun A i s Q E st h => wpAny_pyIter_zip st.1 h)
  · obtain ⟨g0, g1, ⟨x, y, g2⟩, ⟨o1, e1, _, d1⟩, o2, e2, _, d2⟩ := st
    have q : c = z ∨ c = TI ∨ c = TO ∨ c = i1 ∨ c = i2 := by simpa using hc
    rcases q with rfl | rfl | rfl | rfl | rfl
    · exact ⟨_, g0, fun v r => nomatch r⟩
    · exact ⟨_, g1, fun v r => nomatch r⟩
    · exact ⟨_, g2, fun v r => nomatch r⟩
    · exact ⟨o1, e1, fun v r => by rw [d1] at r; cases r⟩
    · exact ⟨o2, e2, fun v r => by rw [d2] at r; cases r⟩
  · obtain ⟨g0, g1, ⟨x, y, g2⟩, g3, g4⟩ := st
    exact ⟨k z (by simp) _ g0, k TI (by simp) _ g1, ⟨x, y, k TO (by simp) _ g2⟩, g3.at fun o r => k i1 (by simp) o r, g4.at fun o r => k i2 (by simp) o r⟩
  · obtain ⟨g0, g1, g2, g3, g4⟩ := st
    obtain ⟨xs, ys, hx, hy, hl⟩ : LT K a b n H := by
      rcases go with g | g
      · exact g.2
      · exact g.2
    subst eP ew eK
    obtain ⟨us, rx, px, _⟩ := I.list hx
    obtain ⟨ws, ry, py, _⟩ := I.tuple hy
    have hh : X.A.in1.handled = none := I.ok.hd hc
    have sz : min us.toArray.size ws.toArray.size = n := by rw [List.size_toArray, List.size_toArray, ← rx.length, ← ry.length, hl]
    refine ⟨_, _, n, _, _, _, (sz ▸ WalksT.zipD2 S (Draws.list hh i1 a na us.toArray) (Draws.tuple hh i2 b nb ws.toArray)), fun c hc => ?_, ⟨g0, g1, g2, ⟨g3, px.isList⟩, g4, py⟩, fun g => g.1, fun g => g.1, fun h' r => ⟨r.1, r.2.1, r.2.2.1, r.2.2.2.1.1, r.2.2.2.2.1⟩, ?_⟩
    · have q : c = z ∨ c = TO ∨ c = i1 ∨ c = i2 := by simpa using hc
      rcases q with rfl | rfl | rfl | rfl <;> simp
    · rintro vals ⟨u, v, hu, hv, rfl⟩
      have hu' : us[i]? = some u := by simpa using hu
      have hv' : ws[i]? = some v := by simpa using hv
      obtain ⟨x, ex, kx⟩ := vals_back rx hu'
      obtain ⟨y, ey, ky⟩ := vals_back ry hv'
      refine ⟨[x, y], .cons kx (.cons ky .nil), by show 2 ≤ sizeLine; decide, fun T nT => ⟨T, x, y, rfl, nT, rfl, fun l hl => ?_, fun l hl => ?_⟩⟩
      · rw [I.list_inj hl hx]
        exact ex
      · rw [I.tuple_inj hl hy]
        exact ey
def iZiM (K : PySem.W.Frag) (ta : TA) : TI := fun σ H R => ta σ H fun vs H1 => ∃ a b xs ys, vs = [.ref a, .ref b] ∧ SqL K H1 a xs ∧ SqT K H1 b ys ∧ R (ItZiM K a b (min xs.length ys.length)) H1
theorem pi_ziM {X : Cx} {e e2 : Expr} {ta : TA} {p pos tpos : Pos} {elts : List Expr} {kk : Nat} (hg : Gl X "zip") (hm : X.mg "zip" = none) (ha : PA X [e, e2] ta)
    (hs : starEach [e, e2] X.env = (false, eval e X.env) :: starEach [e2] X.env := by rfl) (hpl : (backTo pos (starEach [e2] X.env)).any (·.1) = false := by rfl) : PI X (.Tuple elts kk tpos) (.Call (.Name "zip" p) [e, e2] [] pos) (iZiM X.K ta) := by
  refine ⟨fun pins s σ H R I h => ?_⟩
  refine Call_ (ld_blt I hg hm PyProof.Rows.boot_zip (PyProof.Rows.callWith_type1 (thn (ha.run pos pins s σ H _ I h) fun us s1 ⟨vs, H1, I1, r1, q1⟩ => ?_) hs hpl))
  obtain ⟨a, b, xs, ys, rfl, hx, hy, q⟩ := q1
  obtain ⟨u, v, rfl, ru, rv⟩ := vals2 r1
  cases ru
  cases rv
  obtain ⟨is, rx, px, _⟩ := I1.list hx
  obtain ⟨js, ry, py, _⟩ := I1.tuple hy
  obtain ⟨ob, hob, _⟩ := id py
  have la : a < s1.heap.objs.size := px.lt
  have lb : b < s1.heap.objs.size := Heap.lt_size hob
  refine zip_begins2 (begins_list a is.toArray) (begins_tuple b js.toArray) px.isList py fun h' g0 g1 g2 k1 k2 sz kp => wpAny_pyIter_zip g0 ?_
  have sep := zip_sep2 (N := s1.heap.objs.size) (fp1 := [a]) (fp2 := [b]) (fun c hc => by rw [List.mem_singleton.mp hc]; exact la) (fun c hc => by rw [List.mem_singleton.mp hc]; exact lb)
  refine ⟨s1.heap.objs.size + 4, [s1.heap.objs.size + 4, s1.heap.objs.size + 2, s1.heap.objs.size + 3, s1.heap.objs.size, s1.heap.objs.size + 1], _, _, H1, rfl, I1.kept (t' := s1.toks) kp, turn_ziM sep (Nat.ne_of_lt la) (Nat.ne_of_lt (Nat.lt_succ_of_lt lb)), ⟨g0, g1, ⟨_, _, g2⟩, ⟨_, k1, rfl, rfl⟩, _, k2, rfl, rfl⟩, fun c hc => ?_, q⟩
  have r : c = s1.heap.objs.size + 4 ∨ c = s1.heap.objs.size + 2 ∨ c = s1.heap.objs.size + 3 ∨ c = s1.heap.objs.size ∨ c = s1.heap.objs.size + 1 := by simpa using hc
  have le : s1.heap.objs.size ≤ c := by rcases r with e | e | e | e | e <;> rw [e] <;> first | exact Nat.le_refl _ | exact Nat.le_add_right _ _
  exact I1.fpOk le (I1.hok.fresh le)
theorem walk_ziM {a b : Addr} {xs ys : List V} : Walk (ItZiM K a b (min xs.length ys.length)) (min xs.length ys.length) (fun H => SqL K H a xs ∧ SqT K H b ys) (YPair (fun i => xs[i]?) (fun i => ys[i]?)) :=
  ⟨fun i H hi q => ⟨hi, xs, ys, q.1, q.2, rfl⟩, fun H q => ⟨rfl, xs, ys, q.1, q.2, rfl⟩, fun i H v H' hi q y => by
    obtain ⟨T, x, u, e1, e2, e3, e4, e5⟩ := y
    exact ⟨T, x, u, e1, e2, e3, e4 xs q.1, e5 ys q.2⟩⟩
end
/-! ### o.f as a target among others -/
section
variable {X : Cx}
def gFld (K : PySem.W.Frag) (to : TE) (f : Str) : TG := fun v σ H Q => to σ H fun x H1 => ∃ a C dx fs, x = .ref a ∧ H1 a = some (.ins C dx fs) ∧ Cls K C ∧ NoAttr K C f ∧ fs.length < 1000 ∧ Q σ (upd H1 a (.ins C dx (putF f v fs)))
theorem pg_fld {o : Expr} {to : TE} {f : Str} {pos : Pos} (ho : PE X o to) : PG X (.Attribute o f pos) (gFld X.K to f) := by
  refine ⟨fun pins s σ H v u Q I r h => ?_⟩
  rw [assign_Attribute]
  refine wpAny_bind (wpAny_holding (thn (ho.run pins s σ H _ I h) fun ov s1 ⟨x, H1, I1, r1, a, C, dx, fs, e1, e2, c, n, l, q⟩ => ?_))
  subst e1
  obtain rfl : ov = Value.ref a := r1
  refine wpAny_bind (wpAny_standAt (wpAny_bind (wpAny_holding (setattr_ok I1 e2 c n l r fun s2 I2 => ?_))))
  exact wpAny_release ⟨σ, _, I2, q⟩
end
section
variable {X : Cx} {K : PySem.W.Frag}
theorem pi_ziMK {e e2 : Expr} {ta : TA} {p pos tpos : Pos} {elts : List Expr} {kk : Nat} (h : X.K = K) (hg : Gl X "zip") (hm : X.mg "zip" = none) (ha : PA X [e, e2] ta)
    (hs : starEach [e, e2] X.env = (false, eval e X.env) :: starEach [e2] X.env := by rfl) (hpl : (backTo pos (starEach [e2] X.env)).any (·.1) = false := by rfl) : PI X (.Tuple elts kk tpos) (.Call (.Name "zip" p) [e, e2] [] pos) (iZiM K ta) := h ▸ pi_ziM hg hm ha hs hpl
end
/-! ### a comprehension's block that captures nothing -/
def blkNF (N : List Str) (scope : Scope) (own : List (Str × Nat)) : Bool := blkC N { scope with names := [] } scope own && scope.names.all fun y => match y.2 with | .free => false | _ => true
theorem blkOk_nf {N : List Str} {sc scope : Scope} {own : List (Str × Nat)} (h : blkNF N scope own = true) : BlkOk N sc scope own := by
  unfold blkNF at h
  rw [Bool.and_eq_true] at h
  obtain ⟨k1, k2, k3, k4, k5⟩ := blkOk_by h.1
  refine ⟨k1, k2, k3, fun y hy e => ?_, k5⟩
  have q := List.all_eq_true.mp h.2 y hy
  rw [e] at q
  cases q
section
variable {X : Cx} {K : PySem.W.Frag}
theorem op_catAK (h : X.K = K) : OpR X (binaryOp .Add) (rCatA K) := h ▸ op_catA
theorem sl_tupAK (h : X.K = K) : SlR X (rSlA K) := h ▸ sl_tupA
end
/-! ### a tuple of texts that the top wrote -/
def KTup (K : PySem.W.Frag) (a : Addr) (xs : List V) : Prop := ∃ (o : Obj) (its : Array Value) (n : Nat), K.lookup a = some o ∧ o.cls = .type "tuple" ∧ o.data = .seq its n ∧ its.size ≤ sizeLine ∧ Vals xs its.toList
theorem KTup.seq {K : PySem.W.Frag} {a : Addr} {xs : List V} {H : Hp} (h : KTup K a xs) : SqT K H a xs := .inr h
def strB : List Value → List Str → Bool
  | [], [] => true
  | .str x _ :: us, y :: ys => x == y && strB us ys
  | _, _ => false
def tupB (o : Obj) (ws : List Str) : Bool := o.cls == .type "tuple" && match o.data with
  | .seq its _ => strB its.toList ws && decide (its.size ≤ 1000)
  | _ => false
theorem strB_ok : ∀ {us : List Value} {ws : List Str}, strB us ws = true → Vals (ws.map V.str) us
  | [], [], _ => .nil
  | .str x t :: us, y :: ys, h => by
    unfold strB at h
    rw [Bool.and_eq_true] at h
    have e := eq_of_beq h.1
    subst e
    exact .cons ⟨t, rfl⟩ (strB_ok h.2)
  | [], _ :: _, h => by cases h
  | .none :: _, _, h => by cases h
theorem ktup_by {K : PySem.W.Frag} {a : Addr} {o : Obj} {ws : List Str} (h : K.lookup a = some o) (b : tupB o ws = true) : KTup K a (ws.map V.str) := by
  unfold tupB at b
  rw [Bool.and_eq_true] at b
  obtain ⟨b1, b2⟩ := b
  split at b2
  · rename_i its n e
    rw [Bool.and_eq_true] at b2
    exact ⟨o, its, n, h, eq_of_beq b1, e, Nat.le_trans (of_decide_eq_true b2.2) (by decide), strB_ok b2.1⟩
  · cases b2
open NdefX
/-! ### an error class whose __init__ hands a text to the class above it and keeps its argument -/
section
open NdefX PySem.W
/-- what an f-string may hold -/
def Fmt (y : V) : Prop := (∃ z : Str, y = .str z ∧ z.length ≤ 100000) ∨ ∃ i : Int, y = .int i ∧ i.natAbs < 2 ^ 64
/-- the promise of such an __init__: the field is set -/
def spInit (C : Addr) (fld : Str) : Sp := fun vs H Q _ => ∃ (a : Addr) (y : V), vs = [.ref a, y] ∧ Fmt y ∧ H a = some (exo a C none) ∧
  ∀ dx, H dx = none → dx ≠ a → Q .non (upd (upd H dx (exd dx [(fld, y)])) a (exo a C (some dx)))
/-- the scope of such an __init__ -/
abbrev initSc (par : Str) : Scope := { kind := .function, names := [("self", .local), (par, .local), ("__class__", .free), ("super", .globalImplicit)], isGenerator := false, isCoroutine := false, more := [] }
/-- the written part, as far as it speaks of the class and its __init__ -/
structure InitK (P : Program) (K : PySem.W.Frag) (mg : Str → Option Value) (f cc cda C : Addr) (qual : Str) (params : Arguments) (body : List Stmt) (fd : FuncData) (par fld : Str) : Prop where
  ex : ∃ (oc : Value) (od : Option Addr) (osl : Array (Option Value)) (dV kV doc pm ct : Value) (an : Option Addr), fd = PySem.W.fnX "__init__" qual params body (initSc par) [("__class__", cc)] dV kV doc pm an (.ref cda) ct ∧ K.lookup f = some ⟨oc, od, .func fd, osl⟩
  code : PySem.W.codeIn K (.ref cda) qual = true
  file : ∃ (oc : Value) (od : Option Addr) (vs : Array Value) (sl : Array (Option Value)) (file : Str) (tf : Tok), K.lookup cda = some ⟨oc, od, .fields vs, sl⟩ ∧ vs[2]? = some (.str file tf) ∧ (P.main.file == file) = true
  cell : ∃ (oc : Value) (od : Option Addr) (sl : Array (Option Value)), K.lookup cc = some ⟨oc, od, .cell (some (.ref C)), sl⟩
  cls : OexC K C
  me : PySem.W.mroIn K C (.ref C) = some true
  up : PySem.W.ks_superIn K C C "__init__" = some (some (.builtin "ValueError.__init__"))
  ve : PySem.W.subIn K (.ref C) (.type "ValueError") = some true
  opq : PySem.W.nsIn K cStatics "thirdparty.any" = some none
  fld : PySem.W.findIn K (.ref C) fld = some none
  zsup : mg "super" = none
  self : (params.posonlyargs ++ params.args).head?.map (·.arg) = some "self"
  top : (P.main.scope.names.lookup ("super" : Str)).isSome = false
structure InitS (par : Str) : Prop where
  n : NScope ["self", par, "__class__"] ["self", par] ["__class__"] (initSc par)
  sup : (initSc par).names.lookup ("super" : Str) = some .globalImplicit
  cls : (initSc par).names.lookup ("__class__" : Str) = some .free
  vself : (initSc par).names.lookup ("self" : Str) = some .local
  vpar : (initSc par).names.lookup par = some .local
  d1 : (par == ("__debug__" : Str)) = false
  d2 : (par == ("__classdict__" : Str)) = false
variable {CX : CXT} {P : Program} {w : World} {K : PySem.W.Frag} {mg : Str → Option Value} {base : Heap} {k : Nat} {f cc cda C : Addr} {qual : Str} {params : Arguments} {fd : FuncData} {par fld : Str}
  {p0 p1 p2 p3 p4 q0 q1 q2 q3 : Pos} {fs : Expr} {tfs : TE}
/-- the function, as HandS names it -/
abbrev initF (qual : Str) (params : Arguments) (body : List Stmt) (par : Str) (cc cda : Addr) : NF := { name := "__init__", qual := qual, params := params, body := body, scope := initSc par, cl := [("__class__", cc)], c := cda }
abbrev initB (p0 p1 p2 p3 p4 q0 q1 q2 q3 : Pos) (fs : Expr) (par fld : Str) : List Stmt :=
  [.Expr (.Call (.Attribute (.Call (.Name "super" p0) [] [] p1) "__init__" p2) [fs] [] p3) p4, .Assign [.Attribute (.Name "self" q0) fld q1] (.Name par q2) q3]
theorem init_ok (Z : InitK P K mg f cc cda C qual params (initB p0 p1 p2 p3 p4 q0 q1 q2 q3 fs par fld) fd par fld) (S : InitS par)
    (hfs : ∀ (A : Around) (outer : List Env) (s : Shared) (H : Hp) (E : XK), PE (ncx CX P w K mg base ["self", par, "__class__"] (initF qual params (initB p0 p1 p2 p3 p4 q0 q1 q2 q3 fs par fld) par cc cda) f A outer s H E) fs tfs)
    (hst : ∀ env : Env, starEach [fs] env = [(false, eval fs env)])
    {pl : Env → Sem Bool} (hev : ∀ env : Env, eval (.Call (.Attribute (.Call (.Name "super" p0) [] [] p1) "__init__" p2) [fs] [] p3) env = (do
      let o ← attributeBase (.Call (.Name "super" p0) [] [] p1) "__init__" env (eval (.Call (.Name "super" p0) [] [] p1) env)
      standAt p2.atName
      let (g, gs) ← holding [o] (getMethod o "__init__" (pl env))
      callWith p3 g gs (backTo p3 (starEach [fs] env)) []))
    (hrd : ∀ (a : Addr) (y : V) (H : Hp) (Q : VK), Fmt y → (∀ z, Q (.str z) H) → tfs [some (.ref a), some y, some (.ref C)] H Q) :
    FnOk P w K mg base CX (k + 1) f fd ["self", par] (spInit C fld) := by
  obtain ⟨oc, od, osl, dV, kV, doc, pm, ct, an, rfl, lk⟩ := Z.ex
  refine ⟨fun vs H Q E h => by obtain ⟨a, y, rfl, _⟩ := h; rfl, fun A outer s H args us vs Q E hr e0 hb r hsp => ?_⟩
  obtain ⟨a, y, rfl, hy, ha, q⟩ := hsp
  have KX : K.In s.heap := e0.mod.kin.keeps fun b o e => (e0.bs b o e).1
  have lim : s.heap.NoLimit := e0.mod.nolimit.keeps fun b o e => (e0.bs b o e).1
  have hl2 : us.length = 2 := r.length.symm
  refine codeAny_call_function hr.depth (KX _ _ lk) rfl S.n.co S.n.gen rfl (PySem.W.codeRec_of KX Z.code) (hb _ _ _ _ ?_)
  refine wpAny_newFunctionEnv S.n.nocell (fun ⟨n, _⟩ hm => S.n.par n (List.of_mem_zip hm).1) (fun g1 hns hsb => ⟨lim.fresh _ hsb, ?_⟩) S.n.kind
  have kp : ∀ b o, s.heap.get? b = some o → g1.get? b = some o := fun b o e => hsb.extBut b o (Nat.ne_of_lt (Heap.lt_size e)) (Heap.get?_push_of_some _ e)
  obtain ⟨occ, odc, slc, hcell⟩ := Z.cell
  have hC : CellsAt [("__class__", cc)] ["__class__"] [some (.ref C)] s.heap H := by
    refine ⟨rfl, fun y c e => ?_, fun x y c e1 e2 => ?_, fun i y e => ?_⟩
    · have ec : cc = c := by
        by_cases hy2 : y = "__class__"
        · subst hy2; exact Option.some.inj e
        · have hb : (y == ("__class__" : Str)) = false := by simpa using hy2
          simp [List.lookup, hb] at e
      subst ec
      exact ⟨(e0.bs _ _ (e0.mod.kin _ _ hcell)).2, _, _, KX _ _ hcell, rfl⟩
    · have one : ∀ z, List.lookup z [(("__class__" : Str), cc)] = some c → z = "__class__" := fun z e => by
        by_cases hz : z = "__class__"
        · exact hz
        · have hb : (z == ("__class__" : Str)) = false := by simpa using hz
          simp [List.lookup, hb] at e
      rw [one x e1, one y e2]
    · match i, e with
      | 0, e =>
        cases e
        exact ⟨cc, rfl, fun v hv => by cases hv; exact ⟨_, rfl, _, KX _ _ hcell, rfl⟩⟩
      | i + 1, e => cases e
  have I := inv_startN (CX := CX) (N := ["self", par, "__class__"]) (F := initF qual params (initB p0 p1 p2 p3 p4 q0 q1 q2 q3 fs par fld) par cc cda) (f := f) (ws := [some (.ref C)]) (E := E) (tk := s.toks + (List.zip (["self", par] : List Str) us).length) S.n hr.hd e0 rfl r hC hns kp
  refine ks_codeAny_funcAt ?_
  refine ks_wpAt_execs_cons (ks_wpAt_Expr_any (ks_wpAt_MethodCall ?_ (hev _)))
  obtain ⟨ocd, odd, vsd, sld, fl, tfl, hcode, hvs, hfile⟩ := Z.file
  obtain ⟨ar, har, hself⟩ : ∃ ar, (params.posonlyargs ++ params.args).head? = some ar ∧ ar.arg = "self" := by
    have z := Z.self
    cases e : (params.posonlyargs ++ params.args).head? with
    | none => rw [e] at z; cases z
    | some ar => rw [e] at z; exact ⟨ar, rfl, Option.some.inj z⟩
  have X1 : K.In g1 := fun b o e => kp b o (KX b o e)
  obtain ⟨nm, qn, N, bs, bm, sn, sub, ab, col, dd, k0, k1, k2, k3, k5, hK, hbm⟩ := Z.cls.cls
  have hC1 := X1 _ _ hK
  obtain ⟨t1, hx⟩ := exo_at I.hok ha
  have fresh : ∀ {b : Addr} {o : Obj}, g1.get? b = some o → b ≠ g1.objs.size := fun h => Nat.ne_of_lt (Heap.lt_size h)
  have mx : (List.zip (["self", par] : List Str) us).reverse.lookup ("self" : Str) = some (.ref a) := by
    match us, r with
    | [_, _], .cons ra _ =>
      cases ra
      have hne : (("self" : Str) == par) = false := by
        have nd := S.n.nd
        by_cases e : ("self" : Str) = par
        · subst e
          exact absurd nd (by simp)
        · simpa using e
      show List.lookup ("self" : Str) [(par, _), ("self", Value.ref a)] = _
      simp [List.lookup, hne]
  refine ks_wpAt_super_base (env := envX qual (initSc par) s.heap.objs.size f (.ref cda) [("__class__", cc)]) S.sup S.cls rfl rfl (X1 _ _ lk) rfl har rfl (X1 _ _ hcode) rfl hvs hfile Z.top ?_
  obtain ⟨mb, hb1, hb2⟩ := I.mod.blt
  refine ks_loadName_global rfl S.sup (Calls.loadGlobal_builtin (I.mod.glob.keeps I.bk) Z.zsup (hb1.keeps I.bk) ((hb2 "super" (by decide)).trans (by decide +kernel)) ⟨rfl, ?_⟩)
  refine wpAny_loadName_free rfl S.cls rfl ⟨_, X1 _ _ hcell, rfl⟩ ?_
  rw [hself]
  refine wpAny_loadName_local rfl S.vself hns mx ?_
  refine ks_wpAny_isType_cls hC1 rfl ⟨rfl, ?_⟩
  refine ks_wpAny_call_super hC1 rfl hx rfl (fun c e => by cases e) (looks_mroIn X1 Z.me) (fun h2 e2 kp2 => ?_)
  have I2 := I.kept (t' := s.toks + (List.zip (["self", par] : List Str) us).length) kp2
  have X2 : K.In h2 := fun b o e => kp2 _ _ (X1 b o e)
  have J2 : InstAt h2 a ({ cls := .ref C, dict := none, data := .fields #[.ref t1, .none, .none, .none, .bool false, .none] } : Obj) C none := ⟨kp2 _ _ hx, rfl, rfl, trivial⟩
  obtain ⟨cd, hcd⟩ : ∃ cd, clsIn K C = some cd := by
    unfold clsIn
    rw [hK]
    exact ⟨_, rfl⟩
  have hup := Z.up
  unfold ks_superIn at hup
  rw [hcd] at hup
  refine kxs_getMethod kxs_ValueError e2 (looks_opaque X2 Z.opq) (l₀ := cd.mro) (fun _ _ _ _ k q => wpAny_bind ((looks_clsIn X2 hcd) _ _ _ _ k (wpAny_pure q))) rfl X2 hup (J2.type.andThen (looks_subIn X2 Z.ve)) (ks_ne X2 J2 hcd) rfl ?_
  -- the bound __init__ is called
  have kp3 : ∀ b o, h2.get? b = some o → (h2.push (kxs_mw "ValueError.__init__" a)).get? b = some o := fun b o e => Heap.get?_push_of_some _ e
  have eu : (h2.push (kxs_mw "ValueError.__init__" a)).get? h2.objs.size = some (kxs_mw "ValueError.__init__" a) := Heap.get?_push_at rfl rfl
  have I3 := I2.kept (t' := s.toks + (List.zip (["self", par] : List Str) us).length + 1) kp3
  have I3p := I3.pinned (fp := [h2.objs.size]) (fun b hb => by
    rcases List.mem_singleton.mp hb with rfl
    exact I2.fpOk (Nat.le_refl _) (I2.hok.fresh (Nat.le_refl _))) (fun b hb => by
    rcases List.mem_singleton.mp hb with rfl
    exact ⟨_, eu, fun v e => by cases e⟩)
  have pa := (pa_cons (hfs A outer s H E) pa_nil (hst _)).run p3 _ _ _ H (fun xs H' => ∃ z, xs = [.str z] ∧ H' = H) I3p (hrd a y H _ hy fun z => ⟨z, rfl, rfl⟩)
  rw [hst] at pa
  rw [hst]
  refine kxs_callWith (i := "ValueError.__init__") (x := a) rfl ?_
  refine Calls.evalArgs_plain (wpAny_mono pa (fun vs s4 hv => ?_) fun e s' he => ?_)
  · obtain ⟨xs, H4, I4, rv, z, rfl, rfl⟩ := hv
    obtain ⟨pu, _⟩ := I4.pin (h2.objs.size, kxs_mw "ValueError.__init__" a) (List.mem_append_right _ (mem_pinsAt (List.mem_singleton.mpr rfl) eu))
    refine ⟨pu, ?_⟩
    obtain ⟨t4, hx4⟩ := exo_at I4.hok ha
    have X4 : K.In s4.heap := I4.kIn
    obtain ⟨h4, g4, d4, tk4, os4⟩ := s4
    have hvl : vs.length ≤ sizeLine := by
      rw [← rv.length]
      exact line_small (by show 1 ≤ 100000; decide)
    -- the method-wrapper's call
    refine wpAny_call (codeAny_of_tree ?_)
    show wpAny _ (Around.in1 _) (callAny (.ref h2.objs.size) ⟨vs, []⟩) _ _ _
    simp only [callAny]
    refine wpAny_bind (wpAny_load pu ?_)
    simp only [kxs_mw, show (Value.type "method-wrapper" == Value.type "method" || Value.type "method-wrapper" == Value.type "builtin_function_or_method" || Value.type "method-wrapper" == Value.type "method-wrapper") = true by decide, if_true]
    refine KFB.if_so (by decide) ?_
    refine wpAny_bind (check_bound_init PySem.F.excBase_ValueError.toExcCallFacts (X4 _ _ hK) hx4 rfl ?_)
    refine wpAny_bind (wpAny_pure (wpAny_pure ?_))
    refine ⟨plainId_quiet PySem.F.excBase_ValueError.init.plain _, codeAny_builtin PySem.F.excBase_ValueError.initEntry ?_⟩
    refine exc_init_tree (cls := .ref C) (t0 := t4) (dv := none) (c2 := .none) (c3 := .none) (b4 := .bool false) hx4 hvl (fun h5 k5 e5 _ => ?_)
    have J5 := (I4.write (t' := tk4) (x := a) (e := a) (o := exo a C none) (by rw [ha]; exact True.intro) (.inl rfl) k5 ⟨_, e5⟩ (exo_ok e5)).unpinned
    have eH : upd H4 a (exo a C none) = H4 := by
      funext b
      by_cases hb : b = a
      · rw [hb, upd_same, ha]
      · rw [upd_ne hb]
    rw [eH] at J5
    have ps := (pss_one (ps_ost (X := ncx CX P w K mg base ["self", par, "__class__"] (initF qual params (initB p0 p1 p2 p3 p4 q0 q1 q2 q3 fs par fld) par cc cda) f A outer s H4 E) (p' := q1) (pos := q3) (f := fld)
      (pe_var (i := 0) (pos := q0) (x := "self") rfl (.inl S.vself)) (pe_var (i := 1) (pos := q2) (x := par) rfl (.inl S.vpar) S.d1 S.d2) rfl)).run [] _ _ H4 { nx := fun _ H' => Q .non H', rt := Q } J5
      ⟨y, rfl, .ref a, rfl, a, C, rfl, Z.cls, Z.fld, .inl ⟨ha, fun dx n1 n2 => q dx n1 n2⟩⟩
    refine _root_.PySem.wpAt_of_wpAny (wpAny_mono ps (fun fl s' hs => ?_) fun e s' hs => hs)
    cases fl with
    | ret u =>
      obtain ⟨v, σ', H', J, rv, q⟩ := hs
      exact ⟨v, H', J.os, J.bare, J.base, J.hok, rv, q⟩
    | next =>
      obtain ⟨σ', H', J, q⟩ := hs
      exact ⟨.non, H', J.os, J.bare, J.base, J.hok, rfl, q⟩
    | brk =>
      obtain ⟨_, _, _, q⟩ := hs
      exact False.elim q
    | cont =>
      obtain ⟨_, _, _, q⟩ := hs
      exact False.elim q
  · exact he
end
/-! ### errors held as values -/
section
variable {X : Cx} {o e : Expr} {to te : TE} {ta : TA} {f : Str} {p pos : Pos}
/-- C(e), C's own __init__ keeping sp: the new error as a value -/
def tMkV (C : Addr) (sp : Sp) (ta : TA) : TE := fun σ H Q => ta σ H fun vs H1 => vs.length ≤ 1000 ∧ ∀ a, H1 a = none → sp (.ref a :: vs) (upd H1 a (exo a C none)) (fun v H2 => v = .non ∧ Q (.ref a) H2) E0
theorem pe_oex {x : Str} {C fI : Addr} {k : Nat} {fd : FuncData} {ps : List Str} {sp : Sp} (T : OexC X.K C) (iC : PySem.W.findIn X.K (.ref C) "__init__" = some (some (.ref fI))) (tI : PySem.W.typeIn X.K (.ref fI) = some (.type "function"))
    (G : FnOk X.prog X.w X.K X.mg X.base CX0 k fI fd ps sp) (hr : Room (k + 1) X.A) (hb : Binds X.K fd ps []) (hg : Gl X x) (hm : X.mg x = some (.ref C)) (ha : PE X e te)
    (hst : starEach [e] X.env = (false, eval e X.env) :: starEach [] X.env := by rfl) (hdb : (x == ("__debug__" : Str)) = false := by decide) :
    PE X (.Call (.Name x p) [e] [] pos) (tMkV C sp (tCons te tNil)) := by
  refine ⟨fun pins s σ H Q I h => ?_⟩
  obtain ⟨nm, q, N, bs, bm, sn, sub, ab, col, dd, k0, k1, k2, k3, k5, hC, hbm⟩ := T.cls
  refine wpAny_Call_Name_kw (ld_glob I hg hm ?_ hdb)
  refine PySem.W.callWith_K (h₀ := X.base) I.ok.mod.kin T.kC (thn ((pa_cons ha pa_nil hst).run pos pins s σ H _ I h) fun us s1 ⟨vs, H1, I1, r1, hz, q1⟩ => ⟨I1.kIn, ?_⟩) hst rfl
  show wpAny _ _ (call (.ref C) us) _ _ _
  obtain ⟨hp, g, dr, tk, os⟩ := s1
  have h1 : hp.objs.size ≤ hp.objs.size + 1 := Nat.le_succ _
  have q2 := q1 (hp.objs.size + 1) (I1.hok.fresh h1)
  have up2 : ∀ b o, hp.get? b = some o → ((hp.push (PySem.W.kdv_tup us)).push (PySem.HandSPX.excO C hp.objs.size)).get? b = some o := fun b o z => Heap.get?_push_of_some _ (Heap.get?_push_of_some _ z)
  have here : ((hp.push (PySem.W.kdv_tup us)).push (PySem.HandSPX.excO C hp.objs.size)).get? (hp.objs.size + 1) = some (PySem.HandSPX.excO C hp.objs.size) := by heap_get
  have I2 := I1.laid (t' := tk) (a := hp.objs.size + 1) (o := exo (hp.objs.size + 1) C none) (h' := (hp.push (PySem.W.kdv_tup us)).push (PySem.HandSPX.excO C hp.objs.size)) up2 h1 (exo_ok here)
  have r2 : Vals (V.ref (hp.objs.size + 1) :: vs) (Value.ref (hp.objs.size + 1) :: us) := .cons rfl r1
  have len2 : (Value.ref (hp.objs.size + 1) :: us ++ []).length = ps.length := by
    rw [List.append_nil, ← r2.length]
    exact G.len _ _ _ _ q2
  have usl : us.length ≤ sizeLine := by
    rw [← Paired.length r1]
    exact line_small (by omega)
  have bd := hb ⟨(hp.push (PySem.W.kdv_tup us)).push (PySem.HandSPX.excO C hp.objs.size), g, dr, tk, os⟩ (Value.ref (hp.objs.size + 1) :: us) I2.kIn len2
  rw [List.append_nil] at bd
  refine wpAny_call (PySem.HandSPX.call_own F.excBase_ValueError (fun Y => PySem.HandSPX.refsVE_contains Y bm hbm) (I1.kIn _ _ hC) (PySem.W.looks_findIn I1.kIn iC) (fun self => PySem.W.bind_fn I1.kIn self tI) usl
    (codeAny_mono (G.run _ X.stack _ _ ⟨Value.ref (hp.objs.size + 1) :: us, []⟩ _ _ _ E0 (hr.make C us []) (I2.env0.make C us []) bd r2 q2) fun r s' hq => ?_))
  cases r with
  | error er => exact hq.elim
  | ok fl =>
    cases fl with
    | ret u =>
      obtain ⟨v, H3, I3, rv, ev, q3⟩ := I2.after hq
      subst ev
      exact ⟨rv, .ref _, H3, I3, rfl, q3⟩
    | next => exact False.elim hq
    | brk => exact False.elim hq
    | cont => exact False.elim hq
/-- C(), C without an own __init__ -/
theorem pe_exc0 {x : Str} {C : Addr} {bmB : List Value} {B newId initId : String} (F : ExcBaseFacts B newId initId bmB) (q : PySem.W.excIn X.K C bmB newId = true) (gC : X.mg x = some (.ref C)) (kC : PySem.W.keepIn X.K (.ref C) = true) (hg : Gl X x)
    (hdb : (x == ("__debug__" : Str)) = false := by decide) :
    PE X (.Call (.Name x p) [] [] pos) (fun _ H Q => ∀ a, H a = none → Q (.ref a) (upd H a (ExO (.ref C) a))) := by
  refine ⟨fun pins s σ H Q I h => ?_⟩
  refine wpAny_Call_Name_kw (ld_glob I hg gC ?_ hdb)
  refine PySem.W.callWith_K0 I.kIn kC ?_
  show wpAny _ _ (call (.ref C) []) _ _ _
  obtain ⟨bm, N, nm, qn, bs, hdct, sn, sub, ab, col, dd, k0, k1, k2, k3, k5, mN, hC, hN, hni, T⟩ := exc_obj I.kIn q
  refine wpAny_call_exc_subT F T hC hN hni (fun h' a hm => ?_) (Nat.zero_le _)
  have hn : H a = none := I.hok.gone hm.new
  obtain ⟨t, ht, _, _⟩ := hm.there
  exact ⟨.ref a, upd H a (ExO (.ref C) a), I.laidN hm.keeps hm.new hn (exO_ok ht ⟨rfl, rfl⟩ rfl rfl rfl (show 4 < 6 by decide)), rfl, h a hn⟩
/-- what stands at an error's address: one with an own __init__, before and behind it, or one without -/
def ErrO (H : Hp) (C a : Addr) : Prop := H a = some (exo a C none) ∨ (∃ d fs, H a = some (exo a C (some d)) ∧ H d = some (exd d fs)) ∨ H a = some (ExO (.ref C) a)
/-- what the written part says of an error class, for isinstance -/
structure ErrC (K : PySem.W.Frag) (C : Addr) : Prop where
  cl : (PySem.W.clsIn K C).isSome = true
  ga : PySem.W.findIn K (.ref C) "__getattribute__" = some (some (.builtin "BaseException.__getattribute__"))
  gt : PySem.W.findIn K (.ref C) "__getattr__" = some none
  sb : PySem.W.subIn K (.ref C) (.type "BaseException") = some true
  ca : PySem.W.findIn K (.ref C) "__class__" = some (some (.builtin "object.__class__"))
  cn : PySem.W.specialIn K (.builtin "object.__class__") "__get__" = some (some (.builtin "getset_descriptor.__get__"))
  ct : PySem.W.takesIn K (.builtin "object.__class__") = some true
  cm : PySem.W.mroIn K C (.type "object") = some true
  hd : PySem.W.hasDictIn K C = true
theorem err_inst {pins : List (Addr × Obj)} {σ : L2.St} {H : Hp} {s : Shared} {C a : Addr} (I : Inv X pins σ H s) (h : ErrO H C a) : ∃ ox od, PySem.W.InstAt s.heap a ox C od := by
  rcases h with h | ⟨d, fs, h, hd⟩ | h
  · obtain ⟨t, e⟩ := exo_at I.hok h
    exact ⟨_, none, e, rfl, rfl, True.intro⟩
  · obtain ⟨t, e⟩ := exo_at I.hok h
    obtain ⟨mA, hns, _⟩ := exd_at I.hok hd
    obtain ⟨od, es, ep, e2, _⟩ := hns
    exact ⟨_, some od, e, rfl, rfl, e2⟩
  · obtain ⟨⟨oe, vs, e, z, d, _⟩, _, _⟩ := I.hok a _ h
    refine ⟨oe, none, e, z.1, ?_, ?_⟩
    · unfold PySem.W.notCls
      rw [d]
    · rw [z.2]
      exact True.intro
/-- isinstance of an error, of one class -/
def rIsE (K : PySem.W.Frag) : List V → Hp → VK → Prop := fun xs H Q => ∃ (a C : Addr) (c : V) (u : Value) (b : Bool), xs = [.ref a, c] ∧ ClsV c u ∧ ErrC K C ∧ ErrO H C a ∧ PySem.W.kitOne K (.ref C) u = some b ∧ Q (.bl b) H
theorem call_isE : CallR X (.builtin "isinstance") (rIsE X.K) := by
  intro pins s σ H xs us Q I r h
  obtain ⟨a, C, c, u, b, rfl, kc, T, he, e, q⟩ := h
  obtain ⟨u1, u2, rfl, r1, r2⟩ := vals2 r
  have e2 := kc.eq r2
  subst e2
  cases r1
  obtain ⟨ox, od, J⟩ := err_inst I he
  exact PySem.W.kia_one (PySem.W.kitx_exc T.cl T.ga T.gt T.sb T.ca T.cn T.ct T.cm) I.kIn J e (fun z => nomatch z) fun tk => ⟨.bl b, H, I.tok tk, rfl, q⟩
/-- e.f of an error held as a value -/
def tEf (K : PySem.W.Frag) (f : Str) (te : TE) : TE := fun σ H Q => te σ H fun x H1 => ∃ (a C d : Addr) (fs : List (Str × V)) (v : V), x = .ref a ∧ ErrC K C ∧ PySem.W.findIn K (.ref C) f = some none ∧ H1 a = some (exo a C (some d)) ∧ H1 d = some (exd d fs) ∧ fs.lookup f = some v ∧ Q v H1
theorem pe_ef (he : PE X e te) (hb : attributeBase e f X.env (eval e X.env) = eval e X.env := by rfl) : PE X (.Attribute e f pos) (tEf X.K f te) := by
  refine ⟨fun pins s σ H Q I h => ?_⟩
  refine attr_of hb (thn (he.run pins s σ H _ I h) fun u s1 hh => ?_)
  obtain ⟨x, H1, I1, rx, a, C, d, fs, v, rfl, T, hno, ha, hd, l, q⟩ := hh
  cases rx
  obtain ⟨t, e1⟩ := exo_at I1.hok ha
  obtain ⟨mA, hns, hr⟩ := exd_at I1.hok hd
  obtain ⟨od, ho, hl⟩ := lookIn_ns hns
  obtain ⟨u, hu, ru⟩ := RelO.some_of (v := v) (o := mA f) (by rw [← l]; exact hr f)
  have J : PySem.W.InstAt s1.heap a ({ cls := .ref C, dict := some d, data := .fields #[.ref t, .none, .none, .none, .bool false, .none] } : Obj) C (some od) := ⟨e1, rfl, rfl, ho⟩
  exact HandSPX.exc_get I1.kIn J T.ga T.gt T.sb (PySem.W.findObj_own T.hd hno rfl (by rw [hl, hu])) (handed_of ru) ⟨v, H1, I1.tok _, ru, q⟩
/-- the promise of an error's __init__, whatever heap it leaves -/
def spInitA (C : Addr) (fld : Str) : Sp := fun vs H Q _ => ∃ (a : Addr) (y : V), vs = [.ref a, y] ∧ Fmt y ∧ H a = some (exo a C none) ∧
  ∀ (d : Addr) (H' : Hp), (∀ b o, H b = some o → b ≠ a → H' b = some o) → H' a = some (exo a C (some d)) → H' d = some (exd d [(fld, y)]) → H d = none → Q .non H'
theorem initA {C : Addr} {fld : Str} (vs : List V) (H : Hp) (Q : VK) (E : XK) (h : spInitA C fld vs H Q E) : spInit C fld vs H Q E := by
  obtain ⟨a, y, rfl, hy, ha, q⟩ := h
  refine ⟨a, y, rfl, hy, ha, fun d n k => q d _ (fun b o e ne => ?_) upd_same ((upd_ne k).trans upd_same) n⟩
  rw [upd_ne ne, upd_ne (ne_of_none e n)]
  exact e
theorem same_made {H H' : Hp} {a : Addr} {o : HO} (n : H a = none) (k : ∀ b u, upd H a o b = some u → b ≠ a → H' b = some u) : Same H H' := fun b u e =>
  k b u (by rw [upd_ne (ne_of_none e n)]; exact e) (ne_of_none e n)
end
/-! ### the facts of error classes, by one look each -/
def errB (K : PySem.W.Frag) (C : Addr) : Bool := (PySem.W.clsIn K C).isSome && decide (PySem.W.findIn K (.ref C) "__getattribute__" = some (some (.builtin "BaseException.__getattribute__"))) && decide (PySem.W.findIn K (.ref C) "__getattr__" = some none) &&
  decide (PySem.W.subIn K (.ref C) (.type "BaseException") = some true) && decide (PySem.W.findIn K (.ref C) "__class__" = some (some (.builtin "object.__class__"))) && decide (PySem.W.specialIn K (.builtin "object.__class__") "__get__" = some (some (.builtin "getset_descriptor.__get__"))) &&
  decide (PySem.W.takesIn K (.builtin "object.__class__") = some true) && decide (PySem.W.mroIn K C (.type "object") = some true) && PySem.W.hasDictIn K C
theorem errB_ok {K : PySem.W.Frag} {C : Addr} (h : errB K C = true) : ErrC K C := by
  unfold errB at h
  simp only [Bool.and_eq_true, decide_eq_true_eq] at h
  obtain ⟨⟨⟨⟨⟨⟨⟨⟨h1, h2⟩, h3⟩, h4⟩, h5⟩, h6⟩, h7⟩, h8⟩, h9⟩ := h
  exact ⟨h1, h2, h3, h4, h5, h6, h7, h8, h9⟩
/-- the class with this number -/
def clsAt (l : List (Nat × Addr)) (n : Nat) : Addr := match l.lookup n with
  | some a => a
  | none => 0
def errsB (K : PySem.W.Frag) (c : Nat → Addr) (ids : List Nat) (up : Nat → Nat → Bool) : Bool := ids.all fun i => PySem.W.keepIn K (.ref (c i)) && errB K (c i) && decide (PySem.W.kitOne K (.ref (c i)) (.type "ValueError") = some true) &&
  ids.all fun j => decide (PySem.W.kitOne K (.ref (c i)) (.ref (c j)) = some (up i j))
theorem errsB_ok {K : PySem.W.Frag} {c : Nat → Addr} {ids : List Nat} {up : Nat → Nat → Bool} (h : errsB K c ids up = true) : (∀ i ∈ ids, PySem.W.keepIn K (.ref (c i)) = true) ∧ (∀ i ∈ ids, ErrC K (c i)) ∧
    (∀ i ∈ ids, ∀ j ∈ ids, PySem.W.kitOne K (.ref (c i)) (.ref (c j)) = some (up i j)) ∧ ∀ i ∈ ids, PySem.W.kitOne K (.ref (c i)) (.type "ValueError") = some true := by
  unfold errsB at h
  rw [List.all_eq_true] at h
  have z : ∀ i ∈ ids, PySem.W.keepIn K (.ref (c i)) = true ∧ ErrC K (c i) ∧ PySem.W.kitOne K (.ref (c i)) (.type "ValueError") = some true ∧ ∀ j ∈ ids, PySem.W.kitOne K (.ref (c i)) (.ref (c j)) = some (up i j) := fun i hi => by
    have q := h i hi
    simp only [Bool.and_eq_true, decide_eq_true_eq, List.all_eq_true] at q
    exact ⟨q.1.1.1, errB_ok q.1.1.2, q.1.2, q.2⟩
  exact ⟨fun i hi => (z i hi).1, fun i hi => (z i hi).2.1, fun i hi => (z i hi).2.2.2, fun i hi => (z i hi).2.2.1⟩
/-- an __init__'s facts -/
def initB' (K : PySem.W.Frag) (C : Addr) (fld : Str) : Bool := decide (PySem.W.mroIn K C (.ref C) = some true) && decide (PySem.W.ks_superIn K C C "__init__" = some (some (.builtin "ValueError.__init__"))) && decide (PySem.W.subIn K (.ref C) (.type "ValueError") = some true) &&
  decide (PySem.W.findIn K (.ref C) fld = some none) && decide (PySem.W.findIn K (.ref C) "__setattr__" = some (some (.builtin "object.__setattr__"))) && decide (PySem.W.subIn K (.ref C) (.type "BaseException") = some true) && decide (PySem.W.typeIn K (.ref C) = some (.type "type"))
theorem initB_ok {K : PySem.W.Frag} {C : Addr} {fld : Str} (h : initB' K C fld = true) : PySem.W.mroIn K C (.ref C) = some true ∧ PySem.W.ks_superIn K C C "__init__" = some (some (.builtin "ValueError.__init__")) ∧ PySem.W.subIn K (.ref C) (.type "ValueError") = some true ∧
    PySem.W.findIn K (.ref C) fld = some none ∧ PySem.W.findIn K (.ref C) "__setattr__" = some (some (.builtin "object.__setattr__")) ∧ PySem.W.subIn K (.ref C) (.type "BaseException") = some true ∧ PySem.W.typeIn K (.ref C) = some (.type "type") := by
  unfold initB' at h
  simp only [Bool.and_eq_true, decide_eq_true_eq] at h
  obtain ⟨⟨⟨⟨⟨⟨h1, h2⟩, h3⟩, h4⟩, h5⟩, h6⟩, h7⟩ := h
  exact ⟨h1, h2, h3, h4, h5, h6, h7⟩

def errsB2 (K : PySem.W.Frag) (c : Nat → Addr) (m : Nat) (ids : List Nat) : Bool := ids.all fun i => decide (PySem.W.typeIn K (.ref (c i)) = some (.type "type")) && decide (PySem.W.subIn K (.ref (c i)) (.ref (c m)) = some true)
theorem errsB2_ok {K : PySem.W.Frag} {c : Nat → Addr} {m : Nat} {ids : List Nat} (h : errsB2 K c m ids = true) : (∀ i ∈ ids, PySem.W.typeIn K (.ref (c i)) = some (.type "type")) ∧ ∀ i ∈ ids, PySem.W.subIn K (.ref (c i)) (.ref (c m)) = some true := by
  unfold errsB2 at h
  rw [List.all_eq_true] at h
  refine ⟨fun i hi => ?_, fun i hi => ?_⟩
  · have q := h i hi
    simp only [Bool.and_eq_true, decide_eq_true_eq] at q
    exact q.1
  · have q := h i hi
    simp only [Bool.and_eq_true, decide_eq_true_eq] at q
    exact q.2
def errIds : List Nat := [1, 2, 3, 4, 5, 6, 7, 8, 9, 10, 11, 12, 13, 14]
def errChains : List (Nat × List Nat) := [(1, [1]), (2, [2, 1]), (3, [3, 2, 1]), (4, [4, 2, 1]), (5, [5, 2, 1]), (6, [6, 2, 1]), (7, [7, 2, 1]), (8, [8, 2, 1]), (9, [9, 2, 1]), (10, [10, 2, 1]), (11, [11, 2, 1]), (12, [12, 2, 1]), (13, [13, 1]), (14, [14, 1])]
def errUp (i j : Nat) : Bool := match errChains.lookup i with | some l => l.contains j | none => false
/-- an error class's __init__ as it stands behind the top -/
def InitAt (P : Program) (K : PySem.W.Frag) (mg : Str → Option Value) (C : Addr) (st : Stmt) (par fld : Str) : Prop := ∃ (f cc cda : Addr) (fd : FuncData) (qual : Str), InitK P K mg f cc cda C qual (defArgs st) (defBody st) fd par fld ∧
  PySem.W.findIn K (.ref C) "__init__" = some (some (.ref f)) ∧ PySem.W.typeIn K (.ref f) = some (.type "function") ∧ Binds K fd ["self", par] []
/-- what a call of such a class needs -/
def HasI (P : Program) (w : World) (K : PySem.W.Frag) (mg : Str → Option Value) (base : Heap) (C : Addr) (par fld : Str) : Prop := ∃ (f : Addr) (fd : FuncData), FnOk P w K mg base CX0 1 f fd ["self", par] (spInitA C fld) ∧
  PySem.W.findIn K (.ref C) "__init__" = some (some (.ref f)) ∧ PySem.W.typeIn K (.ref f) = some (.type "function") ∧ Binds K fd ["self", par] []
theorem log_small {n : Nat} (h : n < 2 ^ 64) : n.log2 < 1920 := by
  by_cases e : n = 0
  · rw [e]
    decide
  · exact (Nat.log2_lt e).mpr (Nat.lt_of_lt_of_le h (Nat.pow_le_pow_right (by decide) (by decide)))
theorem fj2 {s1 : Str} (h1 : s1.length ≤ 1000) {a C : Addr} {y : V} {H : Hp} {Q : VK} (hy : Fmt y) (q : ∀ z, Q (.str z) H) : tJs [tC (.str s1), tFmt (tVar 1)] Str.empty [some (.ref a), some y, some (.ref C)] H (fun out H1 => Q (.str out) H1) := by
  have e1 : (Str.empty ++ s1).length = s1.length := by rw [app_len]; exact Nat.zero_add _
  refine ⟨s1, rfl, by rw [e1]; exact line_small (by omega), y, rfl, ?_⟩
  rcases hy with ⟨z, rfl, hz⟩ | ⟨i, rfl, hi⟩
  · exact .inl ⟨z, rfl, line_small hz, z, rfl, by rw [app_len, e1]; exact Nat.le_trans (by omega) (show 101000 ≤ sizeLine by decide), q _⟩
  · have hl := log_small hi
    exact .inr ⟨i, rfl, hl, _, rfl, by rw [app_len, e1]; exact Nat.le_trans (Nat.add_le_add h1 (int_text_len_1921 hl)) (show 2921 ≤ sizeLine by decide), q _⟩
theorem fj3 {s1 s2 : Str} (h1 : s1.length ≤ 1000) (h2 : s2.length ≤ 1000) {a C : Addr} {y : V} {H : Hp} {Q : VK} (hy : Fmt y) (q : ∀ z, Q (.str z) H) : tJs [tC (.str s1), tFmt (tVar 1), tC (.str s2)] Str.empty [some (.ref a), some y, some (.ref C)] H (fun out H1 => Q (.str out) H1) := by
  have e1 : (Str.empty ++ s1).length = s1.length := by rw [app_len]; exact Nat.zero_add _
  refine ⟨s1, rfl, by rw [e1]; exact line_small (by omega), y, rfl, ?_⟩
  rcases hy with ⟨z, rfl, hz⟩ | ⟨i, rfl, hi⟩
  · exact .inl ⟨z, rfl, line_small hz, z, rfl, by rw [app_len, e1]; exact Nat.le_trans (by omega) (show 101000 ≤ sizeLine by decide), s2, rfl, by rw [app_len, app_len, e1]; exact Nat.le_trans (by omega) (show 102000 ≤ sizeLine by decide), q _⟩
  · have hl := log_small hi
    have hs := int_text_len_1921 hl
    exact .inr ⟨i, rfl, hl, _, rfl, by rw [app_len, e1]; exact Nat.le_trans (Nat.add_le_add h1 hs) (show 2921 ≤ sizeLine by decide), s2, rfl, by rw [app_len, app_len, e1]; exact Nat.le_trans (Nat.add_le_add (Nat.add_le_add h1 hs) h2) (show 3921 ≤ sizeLine by decide), q _⟩
structure Txt (P : Program) (K : PySem.W.Frag) (mg : Str → Option Value) (c : Nat → Addr) : Prop where
  z_ValueError : mg "ValueError" = none
  z_all : mg "all" = none
  z_any : mg "any" = none
  z_bool : mg "bool" = none
  z_int : mg "int" = none
  z_isinstance : mg "isinstance" = none
  z_len : mg "len" = none
  z_list : mg "list" = none
  z_range : mg "range" = none
  z_sorted : mg "sorted" = none
  z_str : mg "str" = none
  z_super : mg "super" = none
  z_tuple : mg "tuple" = none
  d_frozen : DefAt K mg "frozen" s_frozen ["value"]
  d_letters_reason : DefAt K mg "letters_reason" s_letters_reason ["letters", "answers"]
  d_with_item : DefAt K mg "with_item" s_with_item ["items", "index", "item"]
  d_first_reason : DefAt K mg "first_reason" s_first_reason ["letters", "answers", "states"]
  d_states_reason : DefAt K mg "states_reason" s_states_reason ["letters", "answers", "states"]
  d__law_cell : DefAt K mg "_law_cell" s__law_cell ["script", "k"]
  d__law_reader : DefAt K mg "_law_reader" s__law_reader ["cell"]
  d__law_next : DefAt K mg "_law_next" s__law_next ["reader", "size"]
  d__law_same : DefAt K mg "_law_same" s__law_same ["told", "due"]
  d__law_put : DefAt K mg "_law_put" s__law_put ["row", "k", "part"]
  d__law_target : DefAt K mg "_law_target" s__law_target ["reader", "many"]
  d__law_states : DefAt K mg "_law_states" s__law_states ["reader", "letters", "answers", "many"]
  d__law_events : DefAt K mg "_law_events" s__law_events ["letters", "answers"]
  d__law_follow : DefAt K mg "_law_follow" s__law_follow ["states", "state", "event"]
  d__law_right : DefAt K mg "_law_right" s__law_right ["contract", "parts"]
  d__law_turned_row : DefAt K mg "_law_turned_row" s__law_turned_row ["states", "state", "event", "target"]
  d__law_reason : DefAt K mg "_law_reason" s__law_reason ["letters", "answers", "states"]
  d__law_faulty : DefAt K mg "_law_faulty" s__law_faulty ["reader", "parts", "fault"]
  d__law_told : DefAt K mg "_law_told" s__law_told ["contract", "deed"]
  d__law_flagged : DefAt K mg "_law_flagged" s__law_flagged ["contract", "state", "flags", "form"]
  d__law_walked : DefAt K mg "_law_walked" s__law_walked ["reader", "contract", "parts"]
  d_law : DefAt K mg "law" s_law ["script"]
  g_Contract : mg "Contract" = some (.ref (c 24))
  cl_Contract : Cls K (c 24)
  ins_Contract : C8.InsC K (c 24)
  n_Contract_letters : NoAttr K (c 24) "letters"
  n_Contract_answers : NoAttr K (c 24) "answers"
  n_Contract_states : NoAttr K (c 24) "states"
  d_Contract_init : ∃ (f : Addr) (fd : FuncData), Fun K "__init__" "Contract.__init__" s_Contract_init f fd ∧ Mk K (c 24) f ∧ Binds K fd ["self", "letters", "answers", "states"] []
  d_Contract_follow : ∃ (f : Addr) (fd : FuncData), Fun K "follow" "Contract.follow" s_Contract_follow f fd ∧ Meth K (c 24) "follow" f ∧ Binds K fd ["self", "state", "event"] []
  d_Contract_with_row : ∃ (f : Addr) (fd : FuncData), Fun K "with_row" "Contract.with_row" s_Contract_with_row f fd ∧ Meth K (c 24) "with_row" f ∧ Binds K fd ["self", "state", "event", "target"] []
  d_Contract_with_flags : ∃ (f : Addr) (fd : FuncData), Fun K "with_flags" "Contract.with_flags" s_Contract_with_flags f fd ∧ Meth K (c 24) "with_flags" f ∧ KwF K fd ["self", "state", "finish", "silence"] "finish" "silence"
  d_Contract_with_state : ∃ (f : Addr) (fd : FuncData), Fun K "with_state" "Contract.with_state" s_Contract_with_state f fd ∧ Meth K (c 24) "with_state" f ∧ Binds K fd ["self", "state", "row"] []
  c_MOST_LETTERS : ∃ t, mg "MOST_LETTERS" = some (.int 3 t)
  c_LEAST_ANSWERS : ∃ t, mg "LEAST_ANSWERS" = some (.int 2 t)
  c_MOST_ANSWERS : ∃ t, mg "MOST_ANSWERS" = some (.int 4 t)
  c_MOST_STATES : ∃ t, mg "MOST_STATES" = some (.int 8 t)
  g_MendError : mg "MendError" = some (.ref (c 1))
  g_InvalidInput : mg "InvalidInput" = some (.ref (c 2))
  g_InvalidText : mg "InvalidText" = some (.ref (c 3))
  g_InvalidProgram : mg "InvalidProgram" = some (.ref (c 4))
  g_InvalidContract : mg "InvalidContract" = some (.ref (c 5))
  g_InvalidChange : mg "InvalidChange" = some (.ref (c 6))
  g_InvalidStream : mg "InvalidStream" = some (.ref (c 7))
  g_InvalidPlaces : mg "InvalidPlaces" = some (.ref (c 8))
  g_InvalidEdit : mg "InvalidEdit" = some (.ref (c 9))
  g_InvalidLine : mg "InvalidLine" = some (.ref (c 10))
  g_InvalidName : mg "InvalidName" = some (.ref (c 11))
  g_Mismatch : mg "Mismatch" = some (.ref (c 12))
  g_BoundError : mg "BoundError" = some (.ref (c 13))
  g_DeskError : mg "DeskError" = some (.ref (c 14))
  kp : ∀ i ∈ errIds, PySem.W.keepIn K (.ref (c i)) = true
  er : ∀ i ∈ errIds, ErrC K (c i)
  isa : ∀ i ∈ errIds, ∀ j ∈ errIds, PySem.W.kitOne K (.ref (c i)) (.ref (c j)) = some (errUp i j)
  ve : ∀ i ∈ errIds, PySem.W.kitOne K (.ref (c i)) (.type "ValueError") = some true
  ty : ∀ i ∈ errIds, PySem.W.typeIn K (.ref (c i)) = some (.type "type")
  su : ∀ i ∈ errIds, PySem.W.subIn K (.ref (c i)) (.ref (c id_MendError)) = some true
  x_MendError : PySem.W.excIn K (c 1) [.type "ValueError", .type "Exception", .type "BaseException", .type "object"] "ValueError.__new__" = true
  x_InvalidInput : PySem.W.excIn K (c 2) [.type "ValueError", .type "Exception", .type "BaseException", .type "object"] "ValueError.__new__" = true
  o_InvalidText : OexC K (c 3)
  n_InvalidText : InitAt P K mg (c 3) (inClass (topS 3) 0) "position" "position"
  f_InvalidText : PySem.W.findIn K (.ref (c 3)) "position" = some none
  o_InvalidProgram : OexC K (c 4)
  n_InvalidProgram : InitAt P K mg (c 4) (inClass (topS 4) 0) "reason" "reason"
  f_InvalidProgram : PySem.W.findIn K (.ref (c 4)) "reason" = some none
  o_InvalidContract : OexC K (c 5)
  n_InvalidContract : InitAt P K mg (c 5) (inClass (topS 5) 0) "reason" "reason"
  f_InvalidContract : PySem.W.findIn K (.ref (c 5)) "reason" = some none
  x_InvalidChange : PySem.W.excIn K (c 6) [.type "ValueError", .type "Exception", .type "BaseException", .type "object"] "ValueError.__new__" = true
  x_InvalidStream : PySem.W.excIn K (c 7) [.type "ValueError", .type "Exception", .type "BaseException", .type "object"] "ValueError.__new__" = true
  o_InvalidPlaces : OexC K (c 8)
  n_InvalidPlaces : InitAt P K mg (c 8) (inClass (topS 8) 0) "place" "place"
  f_InvalidPlaces : PySem.W.findIn K (.ref (c 8)) "place" = some none
  o_InvalidEdit : OexC K (c 9)
  n_InvalidEdit : InitAt P K mg (c 9) (inClass (topS 9) 0) "place" "place"
  f_InvalidEdit : PySem.W.findIn K (.ref (c 9)) "place" = some none
  o_InvalidLine : OexC K (c 10)
  n_InvalidLine : InitAt P K mg (c 10) (inClass (topS 10) 0) "number" "number"
  f_InvalidLine : PySem.W.findIn K (.ref (c 10)) "number" = some none
  o_InvalidName : OexC K (c 11)
  n_InvalidName : InitAt P K mg (c 11) (inClass (topS 11) 0) "name" "name"
  f_InvalidName : PySem.W.findIn K (.ref (c 11)) "name" = some none
  x_Mismatch : PySem.W.excIn K (c 12) [.type "ValueError", .type "Exception", .type "BaseException", .type "object"] "ValueError.__new__" = true
  x_BoundError : PySem.W.excIn K (c 13) [.type "ValueError", .type "Exception", .type "BaseException", .type "object"] "ValueError.__new__" = true
  x_DeskError : PySem.W.excIn K (c 14) [.type "ValueError", .type "Exception", .type "BaseException", .type "object"] "ValueError.__new__" = true
section
variable {P : Program} {w : World} {K : PySem.W.Frag} {mg : Str → Option Value} {base : Heap} {c : Nat → Addr}
theorem mk_InvalidText (T : Txt P K mg c) : HasI P w K mg base (c 3) "position" "position" := by
  obtain ⟨f, cc, cda, fd, qual, Z, i, t, b⟩ := T.n_InvalidText
  exact ⟨f, fd, (init_ok Z ⟨nscope_by (by decide +kernel), rfl, rfl, rfl, rfl, rfl, rfl⟩ (fun A outer s H E => pe_joined (PJ.cons pe_str (PJ.cons (pe_fmt (pe_var (i := 1) rfl (.inl rfl))) PJ.nil))) (fun env => rfl) (fun env => rfl) (fun a y H Q hy q => fj2 (by decide +kernel) hy q)).imp initA, i, t, b⟩
theorem mk_InvalidProgram (T : Txt P K mg c) : HasI P w K mg base (c 4) "reason" "reason" := by
  obtain ⟨f, cc, cda, fd, qual, Z, i, t, b⟩ := T.n_InvalidProgram
  exact ⟨f, fd, (init_ok Z ⟨nscope_by (by decide +kernel), rfl, rfl, rfl, rfl, rfl, rfl⟩ (fun A outer s H E => pe_joined (PJ.cons pe_str (PJ.cons (pe_fmt (pe_var (i := 1) rfl (.inl rfl))) PJ.nil))) (fun env => rfl) (fun env => rfl) (fun a y H Q hy q => fj2 (by decide +kernel) hy q)).imp initA, i, t, b⟩
theorem mk_InvalidContract (T : Txt P K mg c) : HasI P w K mg base (c 5) "reason" "reason" := by
  obtain ⟨f, cc, cda, fd, qual, Z, i, t, b⟩ := T.n_InvalidContract
  exact ⟨f, fd, (init_ok Z ⟨nscope_by (by decide +kernel), rfl, rfl, rfl, rfl, rfl, rfl⟩ (fun A outer s H E => pe_joined (PJ.cons pe_str (PJ.cons (pe_fmt (pe_var (i := 1) rfl (.inl rfl))) PJ.nil))) (fun env => rfl) (fun env => rfl) (fun a y H Q hy q => fj2 (by decide +kernel) hy q)).imp initA, i, t, b⟩
theorem mk_InvalidPlaces (T : Txt P K mg c) : HasI P w K mg base (c 8) "place" "place" := by
  obtain ⟨f, cc, cda, fd, qual, Z, i, t, b⟩ := T.n_InvalidPlaces
  exact ⟨f, fd, (init_ok Z ⟨nscope_by (by decide +kernel), rfl, rfl, rfl, rfl, rfl, rfl⟩ (fun A outer s H E => pe_joined (PJ.cons pe_str (PJ.cons (pe_fmt (pe_var (i := 1) rfl (.inl rfl))) (PJ.cons pe_str PJ.nil)))) (fun env => rfl) (fun env => rfl) (fun a y H Q hy q => fj3 (by decide +kernel) (by decide +kernel) hy q)).imp initA, i, t, b⟩
theorem mk_InvalidEdit (T : Txt P K mg c) : HasI P w K mg base (c 9) "place" "place" := by
  obtain ⟨f, cc, cda, fd, qual, Z, i, t, b⟩ := T.n_InvalidEdit
  exact ⟨f, fd, (init_ok Z ⟨nscope_by (by decide +kernel), rfl, rfl, rfl, rfl, rfl, rfl⟩ (fun A outer s H E => pe_joined (PJ.cons pe_str (PJ.cons (pe_fmt (pe_var (i := 1) rfl (.inl rfl))) (PJ.cons pe_str PJ.nil)))) (fun env => rfl) (fun env => rfl) (fun a y H Q hy q => fj3 (by decide +kernel) (by decide +kernel) hy q)).imp initA, i, t, b⟩
theorem mk_InvalidLine (T : Txt P K mg c) : HasI P w K mg base (c 10) "number" "number" := by
  obtain ⟨f, cc, cda, fd, qual, Z, i, t, b⟩ := T.n_InvalidLine
  exact ⟨f, fd, (init_ok Z ⟨nscope_by (by decide +kernel), rfl, rfl, rfl, rfl, rfl, rfl⟩ (fun A outer s H E => pe_joined (PJ.cons pe_str (PJ.cons (pe_fmt (pe_var (i := 1) rfl (.inl rfl))) (PJ.cons pe_str PJ.nil)))) (fun env => rfl) (fun env => rfl) (fun a y H Q hy q => fj3 (by decide +kernel) (by decide +kernel) hy q)).imp initA, i, t, b⟩
theorem mk_InvalidName (T : Txt P K mg c) : HasI P w K mg base (c 11) "name" "name" := by
  obtain ⟨f, cc, cda, fd, qual, Z, i, t, b⟩ := T.n_InvalidName
  exact ⟨f, fd, (init_ok Z ⟨nscope_by (by decide +kernel), rfl, rfl, rfl, rfl, rfl, rfl⟩ (fun A outer s H E => pe_joined (PJ.cons pe_str (PJ.cons (pe_fmt (pe_var (i := 1) rfl (.inl rfl))) PJ.nil))) (fun env => rfl) (fun env => rfl) (fun a y H Q hy q => fj2 (by decide +kernel) hy q)).imp initA, i, t, b⟩
end
end Pf

namespace Pf
open PySem PySem.Spec PyProof.Rows L2
section
variable {P : Program} {w : World} {K : PySem.W.Frag} {mg : Str → Option Value} {base : Heap}
variable {c : Nat → Addr}
def sp__law_next (K : PySem.W.Frag) : Sp := fun vs H Q _ => ∃ (r : Addr) (n : Int), vs = [.ref r, .int n] ∧ RD H r ∧ 0 < n ∧ n < 1073741824 ∧ ∀ (v : Int) H', Fr r H H' → RD H' r → 0 ≤ v → v < n → Q (.int v) H'
theorem g0 {x y z : V} : atI [x, y, z] 0 = some x := atI_nat (j := 0) rfl
theorem g1 {x y z : V} : atI [x, y, z] 1 = some y := atI_nat (j := 1) rfl
theorem g2 {x y z : V} : atI [x, y, z] 2 = some z := atI_nat (j := 2) rfl
theorem ok__law_next (T : Txt P K mg c) : Has P w K mg base 1 "_law_next" ["reader", "size"] (sp__law_next K) := by
  obtain ⟨f, fd, F, m, b⟩ := T.d__law_next.ex
  refine ⟨f, fd, F.ok sc__law_next (fun vs H Q E h => ?_) (fun cdv A outer s H vs Q E hr h => ?_), m, F.kp, b⟩
  · obtain ⟨r, n, rfl, hR, h0, h1, q⟩ := h
    rfl
  obtain ⟨r, n, rfl, hR, h0, h1, q⟩ := h
  refine ⟨_, (pss_cons (ps_set (i := 2) sc__law_next.nd rfl (.inl rfl) (pe_ix ix_list (pv 0) pe_int (fun _ _ => rfl)))
      (pss_cons (ps_asg (pe_op op_add (pv 2) pe_int) (pg_sub (pv 0) pe_int set_list))
      (pss_cons (ps_if (PW.pt (pw_and (pt_cmpR op_ge (pe_ix ix_list (pv 0) pe_int (fun _ _ => rfl)) (pe_op op_pow pe_int pe_int) (nomark _)) (pw_and1 (pt_cmpR op_gt (pe_ix ix_list (pv 0) pe_int (fun _ _ => rfl)) pe_int (nomark _)))))
      (pss_cons (ps_set (i := 3) sc__law_next.nd rfl (.inl rfl) (pe_ix ix_list (pv 0) pe_int (fun _ _ => rfl)))
        (pss_cons (ps_asg (pe_op op_fdivN (pv 3) (pv 1)) (pg_sub (pv 0) pe_int set_list))
        (pss_one (ps_ret (pe_op op_mod (pe_callTy call_int1 (by rfl) T.z_int (by decide +kernel) (pa_cons (pv 3) pa_nil)) (pv 1))))))
      pss_nil)
      (pss_cons (ps_set (i := 4) sc__law_next.nd rfl (.inl rfl) (pe_op op_mod (pe_callTy call_int1 (by rfl) T.z_int (by decide +kernel) (pa_cons (pe_op op_add (pe_op op_add (pe_ix ix_list (pv 0) pe_int (fun _ _ => rfl)) (pe_op op_mul pe_int (pv 2))) pe_int) pa_nil)) pe_int))
      (pss_cons (ps_set (i := 4) sc__law_next.nd rfl (.inl rfl) (pe_op op_mod (pe_callTy call_int1 (by rfl) T.z_int (by decide +kernel) (pa_cons (pe_op op_mul (pv 4) (pe_op op_add (pv 4) pe_int)) pa_nil)) pe_int))
      (pss_cons (ps_set (i := 4) sc__law_next.nd rfl (.inl rfl) (pe_op op_mod (pe_callTy call_int1 (by rfl) T.z_int (by decide +kernel) (pa_cons (pe_op op_add (pe_op op_mul (pv 4) (pe_op op_add (pv 4) pe_int)) (pe_op op_mul pe_int (pv 2))) pa_nil)) pe_int))
      (pss_one (ps_ret (pe_op op_mod (pe_callTy call_int1 (by rfl) T.z_int (by decide +kernel) (pa_cons (pe_op op_fdivN (pv 4) pe_int) pa_nil)) (pv 1)))))))))), ?_⟩
  obtain ⟨c, k, d, hR⟩ := hR
  -- k = reader[1]
  refine ⟨_, rfl, r, _, 1, _, rfl, rfl, SqL.of hR, g1, ?_⟩
  -- reader[1] = k + 1
  refine ⟨_, rfl, _, _, rfl, rfl, _, rfl, r, _, 1, 1, rfl, rfl, hR, rfl, ?_⟩
  -- reader[0] >= 10 ** 18 and reader[2] > 0
  refine ⟨_, rfl, r, _, 0, .int c, rfl, rfl, SqL.of upd_same, g0, _, _, rfl, rfl, ⟨by decide, by decide, by decide⟩, _, _, rfl, rfl, _, rfl, ?_⟩
  refine ite2 (fun e => ⟨_, rfl, r, _, 2, _, rfl, rfl, SqL.of upd_same, g2, _, _, rfl, rfl, _, rfl, ite2 (fun e2 => ?a) (fun e2 => ?b)⟩) (fun e => iteF ?b2)
  case a =>
    refine ⟨_, rfl, r, _, 2, _, rfl, rfl, SqL.of upd_same, g2, ?_⟩
    refine ⟨_, rfl, _, rfl, _, _, rfl, rfl, ⟨by omega, by omega⟩, _, rfl, r, _, 2, 2, rfl, rfl, upd_same, rfl, ?_⟩
    refine ⟨_, rfl, .inl ⟨_, rfl, _, rfl, _, _, rfl, rfl, h0, ?_⟩⟩
    exact q _ _ (Fr.trans Fr.upd Fr.upd) ⟨_, _, _, upd_same⟩ (mod_lt h0).1 (mod_lt h0).2
  all_goals
    refine ⟨_, rfl, r, _, 0, _, rfl, rfl, SqL.of upd_same, g0, _, rfl, _, _, rfl, rfl, .inl ⟨by decide, by decide⟩, _, _, rfl, rfl, _, _, rfl, rfl, .inl ⟨_, rfl, _, _, rfl, rfl, (show (0 : Int) < 2147483647 by decide), ?_⟩⟩
    refine ⟨_, rfl, _, rfl, _, _, rfl, rfl, _, _, rfl, rfl, .inl ⟨by omega, by omega⟩, .inl ⟨_, rfl, _, _, rfl, rfl, (show (0 : Int) < 2147483629 by decide), ?_⟩⟩
    refine ⟨_, rfl, _, rfl, _, _, rfl, rfl, _, _, rfl, rfl, .inl ⟨by omega, by omega⟩, _, rfl, _, _, rfl, rfl, .inl ⟨by decide, by decide⟩, _, _, rfl, rfl, .inl ⟨_, rfl, _, _, rfl, rfl, (show (0 : Int) < 2147483647 by decide), ?_⟩⟩
    refine ⟨_, rfl, _, _, rfl, rfl, ⟨by decide, by decide⟩, .inl ⟨_, rfl, _, rfl, _, _, rfl, rfl, h0, ?_⟩⟩
    exact q _ _ Fr.upd ⟨_, _, _, upd_same⟩ (mod_lt h0).1 (mod_lt h0).2


end
end Pf

namespace Pf
open PySem PySem.Spec PyProof.Rows L2
section
variable {P : Program} {w : World} {K : PySem.W.Frag} {mg : Str → Option Value} {base : Heap}
variable {c : Nat → Addr}
def sp__law_cell (K : PySem.W.Frag) : Sp := fun vs H Q _ => ∃ (a : Addr) (ns : List Int) (j : Nat), vs = [.ref a, .int (j : Int)] ∧ SqL K H a (ns.map V.int) ∧ ∀ c : Int, Q (.int c) H
theorem ok__law_cell (T : Txt P K mg c) : Has P w K mg base 1 "_law_cell" ["script", "k"] (sp__law_cell K) := by
  obtain ⟨f, fd, F, m, b⟩ := T.d__law_cell.ex
  refine ⟨f, fd, F.ok sc__law_cell (fun vs H Q E h => ?_) (fun cdv A outer s H vs Q E hr h => ?_), m, F.kp, b⟩
  · obtain ⟨a, ns, j, rfl, hS, q⟩ := h
    rfl
  obtain ⟨a, ns, j, rfl, hS, q⟩ := h
  refine ⟨_, (pss_cons (ps_if (pt_cmpR op_lt (pv 1) (pe_callB call_len_seq (by rfl) T.z_len (by decide +kernel) (pa_cons (pv 0) pa_nil)) (nomark _))
      (pss_one (ps_ret (pe_ix ix_list (pv 0) (pv 1) (fun _ _ => rfl))))
      pss_nil)
      (pss_one (ps_ret pe_int))), ?_⟩
  refine ⟨_, rfl, _, rfl, a, _, rfl, .inl hS, _, _, rfl, rfl, _, rfl, ite2 (fun e => ?_) (fun e => ?_)⟩
  · have e1 := dec_t e
    obtain ⟨x, h1, h2⟩ := at_in (xs := ns.map V.int) (i := (j : Int)) (by omega) e1
    rw [List.getElem?_map] at h1
    cases h3 : ns[(j : Int).toNat]? with
    | none => rw [h3] at h1; cases h1
    | some c =>
      rw [h3] at h1
      cases h1
      exact ⟨_, rfl, _, rfl, a, _, _, _, rfl, rfl, hS, h2, q c⟩
  · exact q 0

def sp__law_reader (K : PySem.W.Frag) : Sp := fun vs H Q _ => ∃ (c : Int), vs = [.int c] ∧ ∀ (p : Addr) H', H p = none → Same H H' → RD H' p → Q (.ref p) H'
theorem ok__law_reader (T : Txt P K mg c) : Has P w K mg base 1 "_law_reader" ["cell"] (sp__law_reader K) := by
  obtain ⟨f, fd, F, m, b⟩ := T.d__law_reader.ex
  refine ⟨f, fd, F.ok sc__law_reader (fun vs H Q E h => ?_) (fun cdv A outer s H vs Q E hr h => ?_), m, F.kp, b⟩
  · obtain ⟨c, rfl, q⟩ := h
    rfl
  obtain ⟨c, rfl, q⟩ := h
  refine ⟨_, (pss_one (ps_ret (pe_lst (pa_cons (pv 0) (pa_cons pe_int (pa_cons (pe_op op_sub (pv 0) (pe_op op_pow pe_int pe_int)) pa_nil)))))), ?_⟩
  refine ⟨_, rfl, _, rfl, _, _, rfl, rfl, ⟨by decide, by decide, by decide⟩, _, _, rfl, rfl, by show 3 ≤ sizeLine; decide, fun p hp => ?_⟩
  exact q p _ hp (same_new hp) ⟨_, _, _, upd_same⟩

theorem yes {p : Prop} [Decidable p] {A B : Prop} (h : p) (a : A) : if decide p = true then A else B := by
  rw [decide_eq_true h]
  exact iteT a
theorem nope {p : Prop} [Decidable p] {A B : Prop} (h : ¬ p) (b : B) : if decide p = true then A else B := by
  rw [decide_eq_false h]
  exact iteF b

/-- data without lists, of a depth -/
def tupOk : Nat → PyData → Prop
  | _, .none => True
  | _, .bool _ => True
  | _, .int _ => True
  | _, .str _ => True
  | n + 1, .tuple ds => ds.length ≤ 100000 ∧ ∀ d ∈ ds, tupOk n d
  | _, _ => False
def sp__law_same (K : PySem.W.Frag) (n : Nat) : Sp := fun vs H Q _ => ∃ (x y : V) (d : PyData), vs = [x, y] ∧ Dp K H x d ∧ Dp K H y d ∧ tupOk n d ∧ ∀ H', Same H H' → Q (.bl true) H'
theorem tyx_seq {K : PySem.W.Frag} {H : Hp} {a : Addr} {xs : List V} (h : SqT K H a xs) : TyX K H (.ref a) (.type "tuple") := by
  rcases h with (h | ⟨o, h⟩) | ⟨o, its, n, h, hc, _⟩
  · exact .base (.tup h)
  · exact .fTuple h
  · exact .kTuple h hc
theorem seqT_same {K : PySem.W.Frag} {H H' : Hp} {a : Addr} {xs : List V} (e : Same H H') (h : SqT K H a xs) : SqT K H' a xs := by
  rcases h with (h | ⟨o, h⟩) | h
  · exact .inl (.inl (e _ _ h))
  · exact .inl (.inr ⟨o, e _ _ h⟩)
  · exact .inr h
mutual
theorem dp_same {K : PySem.W.Frag} {H H' : Hp} (e : Same H H') : ∀ {v : V} {d : PyData}, Dp K H v d → Dp K H' v d
  | _, _, .non => .non
  | _, _, .bl b => .bl b
  | _, _, .int i => .int i
  | _, _, .str x => .str x
  | _, _, .lst h k => .lst (e.seq h) (dpa_same e k)
  | _, _, .tup h k => .tup (seqT_same e h) (dpa_same e k)
theorem dpa_same {K : PySem.W.Frag} {H H' : Hp} (e : Same H H') : ∀ {xs : List V} {ds : List PyData}, DpAll K H xs ds → DpAll K H' xs ds
  | _, _, .nil => .nil
  | _, _, .cons h k => .cons (dp_same e h) (dpa_same e k)
end
theorem dpa_len {K : PySem.W.Frag} {H : Hp} : ∀ {xs : List V} {ds : List PyData}, DpAll K H xs ds → xs.length = ds.length
  | _, _, .nil => rfl
  | _, _, .cons _ k => congrArg (· + 1) (dpa_len k)
theorem dpa_at {K : PySem.W.Frag} {H : Hp} : ∀ {xs : List V} {ds : List PyData} {i : Nat}, DpAll K H xs ds → i < ds.length → ∃ x d, xs[i]? = some x ∧ ds[i]? = some d ∧ Dp K H x d
  | _, _, _, .nil, h => absurd h (Nat.not_lt_zero _)
  | _, _, 0, .cons h _, _ => ⟨_, _, rfl, rfl, h⟩
  | _, _, i + 1, .cons _ k, h => dpa_at (i := i) k (Nat.lt_of_succ_lt_succ h)
theorem all_true (n : Nat) : (List.replicate n true).all id = true := by
  induction n with
  | zero => rfl
  | succ n ih => rw [List.replicate_succ, List.all_cons, ih]; rfl
theorem same_step {n : Nat} (T : Txt P K mg c) (R : Has P w K mg base (n + 2) "_law_same" ["told", "due"] (fun vs H Q E => ∃ m, n = m + 1 ∧ sp__law_same K m vs H Q E)) : Has P w K mg base (n + 3) "_law_same" ["told", "due"] (sp__law_same K n) := by
  obtain ⟨f__law_same, fd__law_same, G__law_same, m__law_same, k__law_same, b__law_same⟩ := R
  obtain ⟨f, fd, F, m, b⟩ := T.d__law_same.ex
  refine ⟨f, fd, F.ok sc__law_same (fun vs H Q E h => ?_) (fun cdv A outer s H vs Q E hr h => ?_), m, F.kp, b⟩
  · obtain ⟨x, y, d, rfl, hx, hy, hd, q⟩ := h
    rfl
  obtain ⟨x, y, d, rfl, hx, hy, hd, q⟩ := h
  refine ⟨_, (pss_cons (ps_if (pt_val (pe_callB call_isi (by rfl) T.z_isinstance (by decide +kernel) (pa_cons (pv 1) (pa_cons (pe_bltn (v := .ty "tuple") (by rfl) T.z_tuple (by decide +kernel) rfl) pa_nil))))
      (pss_cons (ps_if (PW.pt (pw_or (pt_not (pt_val (pe_callB call_isi (by rfl) T.z_isinstance (by decide +kernel) (pa_cons (pv 0) (pa_cons (pe_bltn (v := .ty "tuple") (by rfl) T.z_tuple (by decide +kernel) rfl) pa_nil))))) (pw_or1 (pt_cmpR op_ne (pe_callB call_len_seq (by rfl) T.z_len (by decide +kernel) (pa_cons (pv 0) pa_nil)) (pe_callB call_len_seq (by rfl) T.z_len (by decide +kernel) (pa_cons (pv 1) pa_nil)) (nomark _)))))
        (pss_one (ps_ret pe_bl))
        pss_nil)
        (pss_one (ps_ret (pe_callB (cr_all rfl) (by rfl) T.z_all (by decide +kernel) (pa_cons (pe_lc (own := [("k", 2)]) (g := gName 2) (by rfl) sc__law_same.nd (pi_range1 (by rfl) T.z_range (pa_cons (pe_callB call_len_seq (by rfl) T.z_len (by decide +kernel) (pa_cons (pv 1) pa_nil)) pa_nil)) (blkOk_by (own := [("k", 2)]) (N := ["told", "due", "k"]) (sc := defScope s__law_same) (by decide +kernel)) (fun _ _ _ _ _ => pg_name (i := 2) sc__law_same.nd rfl (Or.inl rfl)) (fun _ _ _ _ _ => pts_nil) (fun _ _ _ _ _ => (pe_call G__law_same (hr.mono (by omega)) (by rfl) m__law_same k__law_same b__law_same .nil pass0 (pa_cons (pe_ix (ix_tupK (K := K) rfl) (pv 0) (pv 2) (fun _ _ => rfl)) (pa_cons (pe_ix (ix_tupK (K := K) rfl) (pv 1) (pv 2) (fun _ _ => rfl)) pa_nil))))) pa_nil)))))
      pss_nil)
      (pss_cons (ps_if (pt_cmpR op_isN (pv 1) pe_non (nomark _))
      (pss_one (ps_ret (pe_cmpR op_isN (pv 0) pe_non (nomark _))))
      pss_nil)
      (pss_cons (ps_if (pt_val (pe_callB call_isi (by rfl) T.z_isinstance (by decide +kernel) (pa_cons (pv 1) (pa_cons (pe_bltn (v := .ty "str") (by rfl) T.z_str (by decide +kernel) rfl) pa_nil))))
      (pss_one (ps_ret (pe_and (pe_callB call_isi (by rfl) T.z_isinstance (by decide +kernel) (pa_cons (pv 0) (pa_cons (pe_bltn (v := .ty "str") (by rfl) T.z_str (by decide +kernel) rfl) pa_nil))) (pe_one (pe_cmpR op_eq (pv 0) (pv 1) (nomark _))))))
      pss_nil)
      (pss_cons (ps_if (PW.pt (pw_or (pt_val (pe_callB call_isi (by rfl) T.z_isinstance (by decide +kernel) (pa_cons (pv 0) (pa_cons (pe_bltn (v := .ty "bool") (by rfl) T.z_bool (by decide +kernel) rfl) pa_nil)))) (pw_or1 (pt_val (pe_callB call_isi (by rfl) T.z_isinstance (by decide +kernel) (pa_cons (pv 1) (pa_cons (pe_bltn (v := .ty "bool") (by rfl) T.z_bool (by decide +kernel) rfl) pa_nil)))))))
      (pss_one (ps_ret (pe_and (pe_callB call_isi (by rfl) T.z_isinstance (by decide +kernel) (pa_cons (pv 0) (pa_cons (pe_bltn (v := .ty "bool") (by rfl) T.z_bool (by decide +kernel) rfl) pa_nil))) (pe_and (pe_callB call_isi (by rfl) T.z_isinstance (by decide +kernel) (pa_cons (pv 1) (pa_cons (pe_bltn (v := .ty "bool") (by rfl) T.z_bool (by decide +kernel) rfl) pa_nil))) (pe_one (pe_cmpR op_eq (pv 0) (pv 1) (nomark _)))))))
      pss_nil)
      (pss_one (ps_ret (pe_and (pe_callB call_isi (by rfl) T.z_isinstance (by decide +kernel) (pa_cons (pv 0) (pa_cons (pe_bltn (v := .ty "int") (by rfl) T.z_int (by decide +kernel) rfl) pa_nil))) (pe_one (pe_cmpR op_eq (pv 0) (pv 1) (nomark _)))))))))), ?_⟩
  cases hy with
  | non =>
    cases hx
    refine ⟨_, rfl, _, _, _, _, _, rfl, .ty _, .base .non, kit_ty (by decide +kernel), _, rfl, iteF ?_⟩
    refine ⟨_, rfl, rfl, _, rfl, yes rfl ?_⟩
    exact ⟨_, rfl, rfl, q H (Same.refl H)⟩
  | str z =>
    cases hx
    refine ⟨_, rfl, _, _, _, _, _, rfl, .ty _, .base (.str z), kit_ty (by decide +kernel), _, rfl, iteF ?_⟩
    refine ⟨_, rfl, rfl, _, rfl, nope (fun e => nomatch e) ?_⟩
    refine ⟨_, rfl, _, _, _, _, _, rfl, .ty _, .base (.str z), kit_ty (by decide +kernel), _, rfl, iteT ?_⟩
    refine ⟨_, rfl, _, _, _, _, _, rfl, .ty _, .base (.str z), kit_ty (by decide +kernel), _, rfl, iteT ?_⟩
    refine ⟨_, rfl, _, rfl, rfl, ?_⟩
    rw [decide_eq_true (rfl : V.str z = V.str z)]
    exact q H (Same.refl H)
  | bl z =>
    cases hx
    refine ⟨_, rfl, _, _, _, _, _, rfl, .ty _, .base (.bl z), kit_ty (by decide +kernel), _, rfl, iteF ?_⟩
    refine ⟨_, rfl, rfl, _, rfl, nope (fun e => nomatch e) ?_⟩
    refine ⟨_, rfl, _, _, _, _, _, rfl, .ty _, .base (.bl z), kit_ty (by decide +kernel), _, rfl, iteF ?_⟩
    refine ⟨_, rfl, _, _, _, _, _, rfl, .ty _, .base (.bl z), kit_ty (by decide +kernel), _, rfl, iteT (iteT ?_)⟩
    refine ⟨_, rfl, _, _, _, _, _, rfl, .ty _, .base (.bl z), kit_ty (by decide +kernel), _, rfl, iteT ?_⟩
    refine ⟨_, rfl, _, _, _, _, _, rfl, .ty _, .base (.bl z), kit_ty (by decide +kernel), _, rfl, iteT ?_⟩
    refine ⟨_, rfl, _, rfl, rfl, ?_⟩
    rw [decide_eq_true (rfl : V.bl z = V.bl z)]
    exact q H (Same.refl H)
  | int z =>
    cases hx
    refine ⟨_, rfl, _, _, _, _, _, rfl, .ty _, .base (.int z), kit_ty (by decide +kernel), _, rfl, iteF ?_⟩
    refine ⟨_, rfl, rfl, _, rfl, nope (fun e => nomatch e) ?_⟩
    refine ⟨_, rfl, _, _, _, _, _, rfl, .ty _, .base (.int z), kit_ty (by decide +kernel), _, rfl, iteF ?_⟩
    refine ⟨_, rfl, _, _, _, _, _, rfl, .ty _, .base (.int z), kit_ty (by decide +kernel), _, rfl, iteF ?_⟩
    refine ⟨_, rfl, _, _, _, _, _, rfl, .ty _, .base (.int z), kit_ty (by decide +kernel), _, rfl, iteF ?_⟩
    refine ⟨_, rfl, _, _, _, _, _, rfl, .ty _, .base (.int z), kit_ty (by decide +kernel), _, rfl, iteT ?_⟩
    refine ⟨_, rfl, _, rfl, rfl, ?_⟩
    rw [decide_eq_true (rfl : V.int z = V.int z)]
    exact q H (Same.refl H)
  | lst _ _ => cases n <;> exact hd.elim
  | @tup a xs ds ha hxs =>
    obtain _ | m := n
    · exact hd.elim
    obtain ⟨hdl, hd⟩ := hd
    cases hx with
    | @tup b ys _ hb hys =>
    have lx := dpa_len hxs
    have ly := dpa_len hys
    refine ⟨_, rfl, _, _, _, _, _, rfl, .ty _, tyx_seq ha, kit_ty (r := true) (by decide +kernel), _, rfl, iteT ?_⟩
    -- not isinstance(told, tuple) or len(told) != len(due)
    refine ⟨_, rfl, _, _, _, _, _, rfl, .ty _, tyx_seq hb, kit_ty (r := true) (by decide +kernel), _, rfl, iteF ?_⟩
    refine ⟨_, rfl, b, _, rfl, .inr hb, _, rfl, a, _, rfl, .inr ha, rfl, _, rfl, ?_⟩
    rw [lx, ly, decide_eq_true (rfl : V.int ((ds.length : Nat) : Int) = V.int ((ds.length : Nat) : Int))]
    refine iteF ?_
    -- all([..])
    refine ⟨_, rfl, a, _, rfl, .inr ha, ((xs.length : Nat) : Int), rfl, by omega, by omega, fun D nD => ?_⟩
    rw [lx]
    refine lc_range (lo := 0) (fun i H' => Same H H' ∧ H' D = some (.lst ((List.replicate i true).map V.bl))) ⟨same_new nD, upd_same⟩ (fun i H' hi h => ?_) (fun H' h => ?_)
    · obtain ⟨s1, hD⟩ := h
      have hi2 : i < ds.length := by simpa using hi
      obtain ⟨x1, d1, e1, e2, p1⟩ := dpa_at hxs hi2
      obtain ⟨x2, d2, e3, e4, p2⟩ := dpa_at hys hi2
      rw [e2] at e4
      cases e4
      have gi : (0 : Int) + (i : Int) = (i : Int) := Int.zero_add _
      refine ⟨rfl, ?_⟩
      refine ⟨_, rfl, _, rfl, b, _, _, x2, rfl, rfl, seqT_same s1 hb, ?_, _, rfl, _, rfl, a, _, _, x1, rfl, rfl, seqT_same s1 ha, ?_, ?_⟩
      · rw [gi]
        exact atI_nat e3
      · rw [gi]
        exact atI_nat e1
      refine ⟨m, rfl, x2, x1, d1, rfl, dp_same s1 p2, dp_same s1 p1, hd d1 (List.mem_of_getElem? e2), fun H2 s2 => ?_⟩
      refine ⟨_, s2 _ _ hD, ?_, ⟨same_mut (s1.trans s2) nD, ?_⟩⟩
      · rw [List.length_map, List.length_replicate]
        exact Nat.lt_of_lt_of_le (Nat.lt_of_lt_of_le hi2 hdl) (by decide)
      · rw [upd_same, List.replicate_succ', List.map_append]
        rfl
    · obtain ⟨s1, hD⟩ := h
      refine ⟨D, _, rfl, SqL.of hD, ?_⟩
      rw [all_true]
      exact q H' s1
theorem ok__law_same (T : Txt P K mg c) : ∀ n : Nat, Has P w K mg base (n + 3) "_law_same" ["told", "due"] (sp__law_same K n)
| 0 => same_step T (.none T.d__law_same fun vs H Q E ⟨m, h, _⟩ => by cases h)
| n + 1 => same_step T (by
  obtain ⟨f, fd, G, r⟩ := ok__law_same T n
  exact ⟨f, fd, G.imp fun vs H Q E ⟨m', h, k⟩ => by cases h; exact k, r⟩)

/-! ### lists of ints, of texts, as data -/
theorem lay_ints : ∀ ns : List Int, PyData.canLayAll0 (ns.map PyData.int) = true
  | [] => by simp [PyData.canLayAll0]
  | n :: ns => by simp [PyData.canLayAll0, PyData.canLay0, lay_ints ns]
theorem lay_strs : ∀ ws : List Str, (∀ x ∈ ws, PyData.strOk x = true) → PyData.canLayAll0 (ws.map PyData.str) = true
  | [], _ => by simp [PyData.canLayAll0]
  | n :: ns, h => by simp [PyData.canLayAll0, PyData.canLay0, lay_strs ns fun x hx => h x (List.mem_cons_of_mem _ hx), h n List.mem_cons_self]
theorem dep_ints : ∀ ns : List Int, PyData.depthAll (ns.map PyData.int) ≤ 1
  | [] => by simp [PyData.depthAll]
  | n :: ns => by
    have h := dep_ints ns
    simp only [List.map_cons, PyData.depthAll, PyData.depth]
    omega
theorem dep_strs : ∀ ws : List Str, PyData.depthAll (ws.map PyData.str) ≤ 1
  | [] => by simp [PyData.depthAll]
  | n :: ns => by
    have h := dep_strs ns
    simp only [List.map_cons, PyData.depthAll, PyData.depth]
    omega
theorem shaped_lst {ds : List PyData} (h : PyData.canLayAll0 ds = true) (d : PyData.depthAll ds ≤ 60) : SeqAt.shaped (.list ds) = true := by
  show (PyData.canLay0 (.list ds) && decide (PyData.depth (.list ds) ≤ 64)) = true
  rw [Bool.and_eq_true]
  refine ⟨by simp only [PyData.canLay0]; exact h, decide_eq_true ?_⟩
  simp only [PyData.depth]
  omega
theorem shaped_ints (ns : List Int) : SeqAt.shaped (.list (ns.map PyData.int)) = true := shaped_lst (lay_ints ns) (Nat.le_trans (dep_ints ns) (by decide))
theorem shaped_strs {ws : List Str} (h : ∀ x ∈ ws, PyData.strOk x = true) : SeqAt.shaped (.list (ws.map PyData.str)) = true := shaped_lst (lay_strs ws h) (Nat.le_trans (dep_strs ws) (by decide))
theorem eqv_self {d : PyData} (h : SeqAt.shaped d = true) : PyData.eqv d d = true := SeqAt.eqv_refl d (SeqAt.canLay_of_shaped h)
theorem dpa_ints {K : PySem.W.Frag} {H : Hp} : ∀ ns : List Int, DpAll K H (ns.map V.int) (ns.map PyData.int)
  | [] => .nil
  | n :: ns => .cons (.int n) (dpa_ints ns)
theorem dpa_strs {K : PySem.W.Frag} {H : Hp} : ∀ ws : List Str, DpAll K H (ws.map V.str) (ws.map PyData.str)
  | [] => .nil
  | n :: ns => .cons (.str n) (dpa_strs ns)


end
end Pf

namespace Pf
open PySem PySem.Spec PyProof.Rows L2
section
variable {P : Program} {w : World} {K : PySem.W.Frag} {mg : Str → Option Value} {base : Heap}
variable {c : Nat → Addr}
/-! ### contracts as data, right or not: a target is None or any int -/
inductive Ev where
  | over
  | read (n : Nat)
  | write (n : Nat)
def Ev.d : Ev → PyData
  | .over => .tuple [.str "over"]
  | .read n => .tuple [.str "read", .int n]
  | .write n => .tuple [.str "write", .int n]
structure Row where
  rd : List (Option Int)
  ov : Option Int
  wr : List (Option Int)
  fi : Bool
  si : Bool
def oD : Option Int → PyData
  | none => .none
  | some n => .int n
def oV : Option Int → V
  | none => .non
  | some n => .int n
def Row.d (r : Row) : PyData := .tuple [.tuple (r.rd.map oD), oD r.ov, .tuple (r.wr.map oD), .bool r.fi, .bool r.si]
def stD (s : List Row) : PyData := .tuple (s.map Row.d)
structure Cn where
  l : Int
  a : Int
  st : List Row
def Cn.d (c : Cn) : PyData := .tuple [.int c.l, .int c.a, stD c.st]
/-- no larger than what is ever asked -/
structure Cn.Sm (c : Cn) : Prop where
  s10 : c.st.length ≤ 10
  rows : ∀ r ∈ c.st, r.rd.length ≤ 10 ∧ r.wr.length ≤ 10
/-! the reasons of point 19 -/
def lrs (l a : Int) : Str := if 1 ≤ l ∧ l ≤ 3 then (if 2 ≤ a ∧ a ≤ 4 then Str.empty else "answers") else "letters"
def rowBad (l a : Int) (r : Row) : Bool := (!decide ((r.rd.length : Int) = l)) || (!decide ((r.wr.length : Int) = a))
def tgBad (n : Nat) : Option Int → Bool
  | none => false
  | some t => !(decide (0 ≤ t) && decide (t < (n : Int)))
def Row.ts (r : Row) : List (Option Int) := (r.rd ++ [r.ov]) ++ r.wr
def srs (c : Cn) : Str := if 1 ≤ c.st.length ∧ c.st.length ≤ 8 then (if c.st.any (rowBad c.l c.a) = true then "rows" else if (c.st.flatMap Row.ts).any (tgBad c.st.length) = true then "target" else Str.empty) else "states"
def Cn.why (c : Cn) : Str := if lrs c.l c.a = Str.empty then srs c else lrs c.l c.a
/-- a contract that keeps point 19 -/
structure Cn.Ok (c : Cn) : Prop where
  l1 : 1 ≤ c.l
  l3 : c.l ≤ 3
  a2 : 2 ≤ c.a
  a4 : c.a ≤ 4
  s1 : 1 ≤ c.st.length
  s8 : c.st.length ≤ 8
  rl : ∀ r ∈ c.st, (r.rd.length : Int) = c.l ∧ (r.wr.length : Int) = c.a
  tg : ∀ r ∈ c.st, ∀ o ∈ r.ts, ∀ t, o = some t → 0 ≤ t ∧ t < (c.st.length : Int)
theorem ne_empty : ¬ ("answers" : Str) = Str.empty ∧ ¬ ("letters" : Str) = Str.empty ∧ ¬ ("rows" : Str) = Str.empty ∧ ¬ ("target" : Str) = Str.empty ∧ ¬ ("states" : Str) = Str.empty := by decide +kernel
theorem why_ok {c : Cn} (h : c.why = Str.empty) : c.Ok := by
  obtain ⟨n1, n2, n3, n4, n5⟩ := ne_empty
  unfold Cn.why at h
  by_cases hl : lrs c.l c.a = Str.empty
  · rw [if_pos hl] at h
    unfold lrs at hl
    by_cases h1 : 1 ≤ c.l ∧ c.l ≤ 3
    case neg => rw [if_neg h1] at hl; exact absurd hl n2
    rw [if_pos h1] at hl
    by_cases h2 : 2 ≤ c.a ∧ c.a ≤ 4
    case neg => rw [if_neg h2] at hl; exact absurd hl n1
    unfold srs at h
    by_cases h3 : 1 ≤ c.st.length ∧ c.st.length ≤ 8
    case neg => rw [if_neg h3] at h; exact absurd h n5
    rw [if_pos h3] at h
    by_cases h4 : c.st.any (rowBad c.l c.a) = true
    case pos => rw [if_pos h4] at h; exact absurd h n3
    rw [if_neg h4] at h
    by_cases h5 : (c.st.flatMap Row.ts).any (tgBad c.st.length) = true
    case pos => rw [if_pos h5] at h; exact absurd h n4
    refine ⟨h1.1, h1.2, h2.1, h2.2, h3.1, h3.2, fun r hr => ?_, fun r hr o ho t e => ?_⟩
    · have : ¬ rowBad c.l c.a r = true := fun z => h4 (List.any_eq_true.mpr ⟨r, hr, z⟩)
      unfold rowBad at this
      simp at this
      exact this
    · have : ¬ tgBad c.st.length o = true := fun z => h5 (List.any_eq_true.mpr ⟨o, List.mem_flatMap.mpr ⟨r, hr, ho⟩, z⟩)
      subst e
      simp [tgBad] at this
      exact this
  · rw [if_neg hl] at h
    exact absurd h hl
theorem ok_why {c : Cn} (h : c.Ok) : c.why = Str.empty := by
  have e : lrs c.l c.a = Str.empty := by
    unfold lrs
    rw [if_pos ⟨h.l1, h.l3⟩, if_pos ⟨h.a2, h.a4⟩]
  unfold Cn.why
  rw [if_pos e]
  unfold srs
  have h4 : ¬ c.st.any (rowBad c.l c.a) = true := fun z => by
    obtain ⟨r, hr, z⟩ := List.any_eq_true.mp z
    obtain ⟨e1, e2⟩ := h.rl r hr
    unfold rowBad at z
    rw [decide_eq_true e1, decide_eq_true e2] at z
    cases z
  have h5 : ¬ (c.st.flatMap Row.ts).any (tgBad c.st.length) = true := fun z => by
    obtain ⟨o, ho, z⟩ := List.any_eq_true.mp z
    obtain ⟨r, hr, ho⟩ := List.mem_flatMap.mp ho
    cases o with
    | none => cases z
    | some t =>
      obtain ⟨e1, e2⟩ := h.tg r hr _ ho t rfl
      simp only [tgBad] at z
      rw [decide_eq_true e1, decide_eq_true e2] at z
      cases z
  rw [if_pos ⟨h.s1, h.s8⟩, if_neg h4, if_neg h5]
def evs (l a : Nat) : List Ev := .over :: ((List.range l).map .read ++ (List.range a).map .write)
def Row.at (r : Row) : Ev → Option Int
  | .over => r.ov
  | .read n => r.rd.getD n none
  | .write n => r.wr.getD n none
/-- an event of these letters and answers -/
def Ev.Ok (l a : Int) : Ev → Prop
  | .over => True
  | .read n => (n : Int) < l
  | .write n => (n : Int) < a
theorem evs_ok {l a : Nat} {e : Ev} (h : e ∈ evs l a) : e.Ok l a := by
  rcases List.mem_cons.mp h with rfl | h
  · trivial
  rcases List.mem_append.mp h with h | h
  · obtain ⟨n, hn, rfl⟩ := List.mem_map.mp h
    have := List.mem_range.mp hn
    show (n : Int) < l
    omega
  · obtain ⟨n, hn, rfl⟩ := List.mem_map.mp h
    have := List.mem_range.mp hn
    show (n : Int) < a
    omega
theorem evs_len (l a : Nat) : (evs l a).length = 1 + l + a := by
  simp only [evs, List.length_cons, List.length_append, List.length_map, List.length_range]
  omega
/-! ### tuples as data -/
theorem dp_o {K : PySem.W.Frag} {H : Hp} (o : Option Int) : Dp K H (oV o) (oD o) := by
  cases o with
  | none => exact .non
  | some n => exact .int n
theorem dp_oV {K : PySem.W.Frag} {H : Hp} {v : V} {o : Option Int} (h : Dp K H v (oD o)) : v = oV o := by
  cases o with
  | none =>
    have h' : Dp K H v .none := h
    cases h'
    rfl
  | some n =>
    have h' : Dp K H v (.int n) := h
    cases h'
    rfl
theorem dp_tup {K : PySem.W.Frag} {H : Hp} {v : V} {ds : List PyData} (h : Dp K H v (.tuple ds)) : ∃ a xs, v = .ref a ∧ SqT K H a xs ∧ DpAll K H xs ds := by
  cases h with
  | tup h k => exact ⟨_, _, rfl, h, k⟩
theorem dp_ix {K : PySem.W.Frag} {H : Hp} {v : V} {ds : List PyData} {d : PyData} {i : Nat} (h : Dp K H v (.tuple ds)) (e : ds[i]? = some d) : ∃ a xs x, v = .ref a ∧ SqT K H a xs ∧ atI xs (i : Int) = some x ∧ Dp K H x d := by
  obtain ⟨a, xs, rfl, h, k⟩ := dp_tup h
  obtain ⟨x, d', e1, e2, p⟩ := dpa_at k (List.getElem?_eq_some_iff.mp e).1
  rw [e] at e2
  cases e2
  exact ⟨a, xs, x, rfl, h, atI_nat e1, p⟩

/-! ### two sources in one comprehension -/
section
variable {J : It} {n : Nat} {G : Hp → Prop} {Y : Nat → Hp → V → Hp → Prop}
theorem two_out (w : Walk J n G Y) {H0 : Hp} {Qd : Hp → Prop} {T : (Hp → Prop) → V → Hp → Prop} (Pv : Nat → Hp → Prop) (h0 : Pv 0 H0) (hG : ∀ i H, i ≤ n → Pv i H → G H)
    (hs : ∀ i x H H', i < n → Pv i H → Y i H x H' → T (Pv (i + 1)) x H') (hd : ∀ H, Pv n H → Qd H) :
    ∃ W : Nat → Nat → Hp → Prop, (∃ m, W 0 m H0) ∧ ∀ i m H, W i m H → (J.stop i H ∧ Qd H) ∨ (J.go i H ∧ ∃ N : Hp → Prop, (∀ H', N H' → ∃ m', m' < m ∧ W (i + 1) m' H') ∧ ∀ x H', J.yld i H x H' → T N x H') := by
  refine ⟨fun i m H => m = n - i ∧ i ≤ n ∧ Pv i H, ⟨n, by omega, Nat.zero_le _, h0⟩, fun i m H hw => ?_⟩
  obtain ⟨rfl, hi, p⟩ := hw
  have gH := hG i H hi p
  rcases Nat.lt_or_eq_of_le hi with hlt | rfl
  · exact .inr ⟨w.goes i H hlt gH, Pv (i + 1), fun H' p' => ⟨_, by omega, rfl, hlt, p'⟩, fun x H' y => hs i x H H' hlt p (w.yields i H x H' hlt gH y)⟩
  · exact .inl ⟨w.stops H gH, hd H p⟩
end

mutual
def frz : PyData → PyData
  | .list ds => .tuple (frzs ds)
  | .tuple ds => .tuple (frzs ds)
  | d => d
def frzs : List PyData → List PyData
  | [] => []
  | d :: ds => frz d :: frzs ds
end
theorem frzs_map : ∀ ds : List PyData, frzs ds = ds.map frz
  | [] => by simp [frzs]
  | d :: ds => by simp [frzs, frzs_map ds]
/-- data of a depth -/
def datOk : Nat → PyData → Prop
  | _, .none => True
  | _, .bool _ => True
  | _, .int _ => True
  | _, .str _ => True
  | n + 1, .list ds => ds.length ≤ 1000 ∧ ∀ d ∈ ds, datOk n d
  | n + 1, .tuple ds => ds.length ≤ 1000 ∧ ∀ d ∈ ds, datOk n d
  | _, _ => False

mutual
inductive Dl (K : PySem.W.Frag) (H : Hp) : V → PyData → Prop
  | non : Dl K H .non .none
  | bl (b : Bool) : Dl K H (.bl b) (.bool b)
  | int (i : Int) : Dl K H (.int i) (.int i)
  | str (x : Str) : Dl K H (.str x) (.str x)
  | lst {a : Addr} {xs : List V} {ds : List PyData} : H a = some (.lst xs) → DlAll K H xs ds → Dl K H (.ref a) (.list ds)
  | tup {a : Addr} {xs : List V} {ds : List PyData} : SqT K H a xs → DlAll K H xs ds → Dl K H (.ref a) (.tuple ds)
inductive DlAll (K : PySem.W.Frag) (H : Hp) : List V → List PyData → Prop
  | nil : DlAll K H [] []
  | cons {v : V} {vs : List V} {d : PyData} {ds : List PyData} : Dl K H v d → DlAll K H vs ds → DlAll K H (v :: vs) (d :: ds)
end
mutual
theorem dl_same {K : PySem.W.Frag} {H H' : Hp} (e : Same H H') : ∀ {v : V} {d : PyData}, Dl K H v d → Dl K H' v d
  | _, _, .non => .non
  | _, _, .bl b => .bl b
  | _, _, .int i => .int i
  | _, _, .str x => .str x
  | _, _, .lst h k => .lst (e _ _ h) (dla_same e k)
  | _, _, .tup h k => .tup (seqT_same e h) (dla_same e k)
theorem dla_same {K : PySem.W.Frag} {H H' : Hp} (e : Same H H') : ∀ {xs : List V} {ds : List PyData}, DlAll K H xs ds → DlAll K H' xs ds
  | _, _, .nil => .nil
  | _, _, .cons h k => .cons (dl_same e h) (dla_same e k)
end
theorem dla_len {K : PySem.W.Frag} {H : Hp} : ∀ {xs : List V} {ds : List PyData}, DlAll K H xs ds → xs.length = ds.length
  | _, _, .nil => rfl
  | _, _, .cons _ k => congrArg (· + 1) (dla_len k)
theorem dla_at {K : PySem.W.Frag} {H : Hp} : ∀ {xs : List V} {ds : List PyData} {i : Nat} {x : V}, DlAll K H xs ds → xs[i]? = some x → ∃ d, ds[i]? = some d ∧ Dl K H x d
  | _, _, _, _, .nil, h => by simp at h
  | _, _, 0, _, .cons h _, e => by
    have e' := Option.some.inj e
    subst e'
    exact ⟨_, rfl, h⟩
  | _, _, i + 1, _, .cons _ k, e => dla_at (i := i) k e
def sp_frozen (K : PySem.W.Frag) (n : Nat) : Sp := fun vs H Q _ => ∃ (v : V) (d : PyData), vs = [v] ∧ Dl K H v d ∧ datOk n d ∧ ∀ (v' : V) (H' : Hp), Same H H' → Dp K H' v' (frz d) → Q v' H'
theorem dpa_app {K : PySem.W.Frag} {H : Hp} {v : V} {d : PyData} : ∀ {xs : List V} {ds : List PyData}, DpAll K H xs ds → Dp K H v d → DpAll K H (xs ++ [v]) (ds ++ [d])
  | _, _, .nil, h => .cons h .nil
  | _, _, .cons k l, h => .cons k (dpa_app l h)
theorem seqT_mut {K : PySem.W.Frag} {H : Hp} {D a : Addr} {ys xs : List V} {o : HO} (e : H D = some (.lst ys)) (h : SqT K H a xs) : SqT K (upd H D o) a xs := by
  rcases h with (h | ⟨o', h⟩) | h
  · refine .inl (.inl ((upd_ne fun z => ?_).trans h))
    subst z
    rw [e] at h
    cases h
  · refine .inl (.inr ⟨o', (upd_ne fun z => ?_).trans h⟩)
    subst z
    rw [e] at h
    cases h
  · exact .inr h
theorem two_cls : Paired ClsV [V.ty "list", V.ty "tuple"] [Value.type "list", Value.type "tuple"] := .cons (.ty _) (.cons (.ty _) .nil)
theorem kitA2 {K : PySem.W.Frag} {t : Value} {b1 b2 : Bool} (h1 : PySem.W.kitOne K t (.type "list") = some b1) (h2 : PySem.W.kitOne K t (.type "tuple") = some b2) : PySem.W.kitAny K t [.type "list", .type "tuple"] = some (b1 || b2) :=
  kitAny_cons h1 (fun e => kitAny_cons h2 (fun e2 => by rw [e, e2]; exact kitAny_nil) (fun e2 => by rw [e, e2]; rfl)) (fun e => by rw [e]; rfl)
def lt2 : List Value := [.type "list", .type "tuple"]
theorem kl_non {K : PySem.W.Frag} : PySem.W.kitAny K (.type "NoneType") [.type "list", .type "tuple"] = some false := kitA2 (kit_ty (r := false) (by decide +kernel)) (kit_ty (r := false) (by decide +kernel))
theorem kl_bool {K : PySem.W.Frag} : PySem.W.kitAny K (.type "bool") [.type "list", .type "tuple"] = some false := kitA2 (kit_ty (r := false) (by decide +kernel)) (kit_ty (r := false) (by decide +kernel))
theorem kl_int {K : PySem.W.Frag} : PySem.W.kitAny K (.type "int") [.type "list", .type "tuple"] = some false := kitA2 (kit_ty (r := false) (by decide +kernel)) (kit_ty (r := false) (by decide +kernel))
theorem kl_str {K : PySem.W.Frag} : PySem.W.kitAny K (.type "str") [.type "list", .type "tuple"] = some false := kitA2 (kit_ty (r := false) (by decide +kernel)) (kit_ty (r := false) (by decide +kernel))
theorem kl_list {K : PySem.W.Frag} : PySem.W.kitAny K (.type "list") [.type "list", .type "tuple"] = some true := kitA2 (kit_ty (r := true) (by decide +kernel)) (kit_ty (r := false) (by decide +kernel))
theorem kl_tup {K : PySem.W.Frag} : PySem.W.kitAny K (.type "tuple") [.type "list", .type "tuple"] = some true := kitA2 (kit_ty (r := false) (by decide +kernel)) (kit_ty (r := true) (by decide +kernel))
mutual
theorem dp_mut {K : PySem.W.Frag} {H : Hp} {D : Addr} {ys : List V} {o : HO} (e : H D = some (.lst ys)) : ∀ {v : V} {d : PyData} (n : Nat), tupOk n d → Dp K H v d → Dp K (upd H D o) v d
  | _, _, _, _, .non => .non
  | _, _, _, _, .bl b => .bl b
  | _, _, _, _, .int i => .int i
  | _, _, _, _, .str x => .str x
  | _, _, 0, h, .lst _ _ => h.elim
  | _, _, _ + 1, h, .lst _ _ => h.elim
  | _, _, 0, h, .tup _ _ => h.elim
  | _, _, n + 1, h, .tup q k => .tup (seqT_mut e q) (dpa_mut e n h.2 k)
theorem dpa_mut {K : PySem.W.Frag} {H : Hp} {D : Addr} {ys : List V} {o : HO} (e : H D = some (.lst ys)) : ∀ {xs : List V} {ds : List PyData} (n : Nat), (∀ d ∈ ds, tupOk n d) → DpAll K H xs ds → DpAll K (upd H D o) xs ds
  | _, _, _, _, .nil => .nil
  | _, _, n, h, .cons p k => .cons (dp_mut e n (h _ List.mem_cons_self) p) (dpa_mut e n (fun d hd => h d (List.mem_cons_of_mem _ hd)) k)
end
theorem frz_ok : ∀ (n : Nat) (d : PyData), datOk n d → tupOk n (frz d)
  | 0, .none, _ => by simp [frz, tupOk]
  | 0, .bool _, _ => by simp [frz, tupOk]
  | 0, .int _, _ => by simp [frz, tupOk]
  | 0, .str _, _ => by simp [frz, tupOk]
  | n + 1, .none, _ => by simp [frz, tupOk]
  | n + 1, .bool _, _ => by simp [frz, tupOk]
  | n + 1, .int _, _ => by simp [frz, tupOk]
  | n + 1, .str _, _ => by simp [frz, tupOk]
  | n + 1, .list ds, h => by
    rw [frz, frzs_map]
    refine ⟨by rw [List.length_map]; exact Nat.le_trans h.1 (by decide), fun d hd => ?_⟩
    obtain ⟨d', hd', rfl⟩ := List.mem_map.mp hd
    exact frz_ok n d' (h.2 d' hd')
  | n + 1, .tuple ds, h => by
    rw [frz, frzs_map]
    refine ⟨by rw [List.length_map]; exact Nat.le_trans h.1 (by decide), fun d hd => ?_⟩
    obtain ⟨d', hd', rfl⟩ := List.mem_map.mp hd
    exact frz_ok n d' (h.2 d' hd')
theorem take_frz {ds : List PyData} {i : Nat} {d : PyData} (h : ds[i]? = some d) : (ds.take i).map frz ++ [frz d] = (ds.take (i + 1)).map frz := by
  obtain ⟨hi, e⟩ := List.getElem?_eq_some_iff.mp h
  rw [List.take_succ, List.map_append, h]
  rfl
theorem frozen_step {n : Nat} (T : Txt P K mg c) (R : Has P w K mg base (n + 1) "frozen" ["value"] (fun vs H Q E => ∃ m, n = m + 1 ∧ sp_frozen K m vs H Q E)) : Has P w K mg base (n + 2) "frozen" ["value"] (sp_frozen K n) := by
  obtain ⟨f_frozen, fd_frozen, G_frozen, m_frozen, k_frozen, b_frozen⟩ := R
  obtain ⟨f, fd, F, m, b⟩ := T.d_frozen.ex
  refine ⟨f, fd, F.ok sc_frozen (fun vs H Q E h => ?_) (fun cdv A outer s H vs Q E hr h => ?_), m, F.kp, b⟩
  · obtain ⟨v, d, rfl, hv, hd, q⟩ := h
    rfl
  obtain ⟨v, d, rfl, hv, hd, q⟩ := h
  refine ⟨_, (pss_cons (ps_if (pt_val (pe_callB call_isiT (by rfl) T.z_isinstance (by decide +kernel) (pa_cons (pv 0) (pa_cons (pe_tup (pa_cons (pe_bltn (v := .ty "list") (by rfl) T.z_list (by decide +kernel) rfl) (pa_cons (pe_bltn (v := .ty "tuple") (by rfl) T.z_tuple (by decide +kernel) rfl) pa_nil))) pa_nil))))
      (pss_one (ps_ret (pe_callTy call_tuple_of (by rfl) T.z_tuple (by decide +kernel) (pa_cons (pe_lc (own := [("part", 1)]) (g := gName 1) (by rfl) sc_frozen.nd (pi_alt (pi_list (pv 0)) (pi_tup (pv 0))) (blkOk_by (own := [("part", 1)]) (N := ["value", "part"]) (sc := defScope s_frozen) (by decide +kernel)) (fun _ _ _ _ _ => pg_name (i := 1) sc_frozen.nd rfl (Or.inl rfl)) (fun _ _ _ _ _ => pts_nil) (fun _ _ _ _ _ => (pe_call G_frozen (hr.mono (by omega)) (by rfl) m_frozen k_frozen b_frozen .nil pass0 (pa_cons (pv 1) pa_nil)))) pa_nil))))
      pss_nil)
      (pss_one (ps_ret (pv 0)))), ?_⟩
  refine ⟨_, rfl, (by show 2 ≤ sizeLine; decide), fun tp ntp => ?_⟩
  have s0 : Same H (upd H tp (.tup [.ty "list", .ty "tuple"])) := same_new ntp
  cases hv with
  | non => exact ⟨_, _, _, _, _, false, rfl, upd_same, two_cls, .base .non, kl_non, _, rfl, iteF ⟨_, rfl, q _ _ s0 .non⟩⟩
  | bl z => exact ⟨_, _, _, _, _, false, rfl, upd_same, two_cls, .base (.bl z), kl_bool, _, rfl, iteF ⟨_, rfl, q _ _ s0 (.bl z)⟩⟩
  | int z => exact ⟨_, _, _, _, _, false, rfl, upd_same, two_cls, .base (.int z), kl_int, _, rfl, iteF ⟨_, rfl, q _ _ s0 (.int z)⟩⟩
  | str z => exact ⟨_, _, _, _, _, false, rfl, upd_same, two_cls, .base (.str z), kl_str, _, rfl, iteF ⟨_, rfl, q _ _ s0 (.str z)⟩⟩
  | @lst a xs ds h k =>
    obtain _ | m := n
    · exact hd.elim
    obtain ⟨hdl, hd⟩ := hd
    have lx := dla_len k
    refine ⟨_, _, _, _, _, true, rfl, upd_same, two_cls, .base (.lst (s0 _ _ h)), kl_list, _, rfl, iteT ?_⟩
    refine .inl ⟨_, rfl, a, rfl, ⟨_, SqL.of (s0 _ _ h)⟩, fun D nD => lc_it walk_list (fun i H' => Same (upd H tp (.tup [.ty "list", .ty "tuple"])) H' ∧ ∃ ws, H' D = some (.lst ws) ∧ DpAll K H' ws ((ds.take i).map frz)) ⟨same_new nD, [], upd_same, .nil⟩ (fun i H' _ h' => h'.1.seq (SqL.of (s0 _ _ h))) ?_ ?_⟩
    · rintro i x H1 H2 hi ⟨s1, ws, hD, hws⟩ ⟨rfl, hx⟩
      obtain ⟨d, ed, hx2⟩ := dla_at k hx
      refine ⟨rfl, _, rfl, m, rfl, x, d, rfl, dl_same (s0.trans s1) hx2, hd d (List.mem_of_getElem? ed), fun v' H3 s3 hv' => ⟨ws, s3 _ _ hD, ?_, same_mut (s1.trans s3) nD, ws ++ [v'], upd_same, ?_⟩⟩
      · have := dpa_len hws
        rw [List.length_map, List.length_take] at this
        exact Nat.lt_of_lt_of_le (show ws.length < 1001 by omega) (by decide)
      · rw [← take_frz ed]
        have hl : ∀ d' ∈ (ds.take i).map frz, tupOk m d' := fun d' hd' => by
          obtain ⟨d0, h0, rfl⟩ := List.mem_map.mp hd'
          exact frz_ok m d0 (hd d0 (List.mem_of_mem_take h0))
        exact dpa_app (dpa_mut (s3 _ _ hD) m hl (dpa_same s3 hws)) (dp_mut (s3 _ _ hD) m (frz_ok m d (hd d (List.mem_of_getElem? ed))) hv')
    · rintro H1 ⟨s1, ws, hD, hws⟩
      refine ⟨D, ws, rfl, .inl ⟨SqL.of hD, fun l nl => ?_⟩⟩
      refine q _ _ ((s0.trans s1).trans (same_new nl)) ?_
      rw [lx, List.take_length] at hws
      rw [frz, frzs_map]
      exact .tup (SqT.of upd_same) (dpa_same (same_new nl) hws)
  | @tup a xs ds h k =>
    obtain _ | m := n
    · exact hd.elim
    obtain ⟨hdl, hd⟩ := hd
    have lx := dla_len k
    refine ⟨_, _, _, _, _, true, rfl, upd_same, two_cls, tyx_seq (seqT_same s0 h), kl_tup, _, rfl, iteT ?_⟩
    refine .inr ⟨_, rfl, a, rfl, ⟨_, seqT_same s0 h⟩, fun D nD => lc_it walk_tup (fun i H' => Same (upd H tp (.tup [.ty "list", .ty "tuple"])) H' ∧ ∃ ws, H' D = some (.lst ws) ∧ DpAll K H' ws ((ds.take i).map frz)) ⟨same_new nD, [], upd_same, .nil⟩ (fun i H' _ h' => seqT_same h'.1 (seqT_same s0 h)) ?_ ?_⟩
    · rintro i x H1 H2 hi ⟨s1, ws, hD, hws⟩ ⟨rfl, hx⟩
      obtain ⟨d, ed, hx2⟩ := dla_at k hx
      refine ⟨rfl, _, rfl, m, rfl, x, d, rfl, dl_same (s0.trans s1) hx2, hd d (List.mem_of_getElem? ed), fun v' H3 s3 hv' => ⟨ws, s3 _ _ hD, ?_, same_mut (s1.trans s3) nD, ws ++ [v'], upd_same, ?_⟩⟩
      · have := dpa_len hws
        rw [List.length_map, List.length_take] at this
        exact Nat.lt_of_lt_of_le (show ws.length < 1001 by omega) (by decide)
      · rw [← take_frz ed]
        have hl : ∀ d' ∈ (ds.take i).map frz, tupOk m d' := fun d' hd' => by
          obtain ⟨d0, h0, rfl⟩ := List.mem_map.mp hd'
          exact frz_ok m d0 (hd d0 (List.mem_of_mem_take h0))
        exact dpa_app (dpa_mut (s3 _ _ hD) m hl (dpa_same s3 hws)) (dp_mut (s3 _ _ hD) m (frz_ok m d (hd d (List.mem_of_getElem? ed))) hv')
    · rintro H1 ⟨s1, ws, hD, hws⟩
      refine ⟨D, ws, rfl, .inl ⟨SqL.of hD, fun l nl => ?_⟩⟩
      refine q _ _ ((s0.trans s1).trans (same_new nl)) ?_
      rw [lx, List.take_length] at hws
      rw [frz, frzs_map]
      exact .tup (SqT.of upd_same) (dpa_same (same_new nl) hws)
theorem ok_frozen (T : Txt P K mg c) : ∀ n : Nat, Has P w K mg base (n + 2) "frozen" ["value"] (sp_frozen K n)
| 0 => frozen_step T (.none T.d_frozen fun vs H Q E ⟨m, h, _⟩ => by cases h)
| n + 1 => frozen_step T (by
  obtain ⟨f, fd, G, r⟩ := ok_frozen T n
  exact ⟨f, fd, G.imp fun vs H Q E ⟨m', h, k⟩ => by cases h; exact k, r⟩)

/-! ### within a try: an instance is made, a method is called, where what they raise is taken at the slots as they stand -/
section
variable {X : Cx} {CX : CXT} {k : Nat} {f C : Addr} {fd : FuncData} {ps : List Str} {sp : Sp} {Ex : L2.St → XK} {x m : Str} {p pos apos : Pos} {e o : Expr} {es : List Expr} {ta : TE} {t : TA}
/-- what a call may let out at these slots is, for this one state, what it may let out at all: the promise with the outs that these slots take -/
def tMakeSx (C : Addr) (sp : Sp) (Ex : L2.St → XK) (t : TA) : TE := fun σ H Q => t σ H fun vs H1 => ∀ a dx, H1 a = none → H1 dx = none → dx ≠ a → sp (.ref a :: vs) (upd (upd H1 dx (.own a)) a (.ins C dx [])) (fun v H2 => v = .non ∧ Q (.ref a) H2) (Ex σ)
def tMethSx (C : Addr) (m : Str) (sp : Sp) (Ex : L2.St → XK) (ta : TE) (t : TA) : TE := fun σ H Q => ta σ H fun y H1 => ∃ a dx fs, y = .ref a ∧ H1 a = some (.ins C dx fs) ∧ fs.lookup m = none ∧ t σ H1 fun vs H2 => sp (y :: vs) H2 Q (Ex σ)
theorem made_at {pins : List (Addr × Obj)} {σ : L2.St} {H : Hp} {s : Shared} {Q : VK} {us : List Value} {vs : List V} {E1 : XK}
    (mk : Mk X.K C f) (fo : FnOk X.prog X.w X.K X.mg X.base CX k f fd ps sp) (rm : Room (k + 1) X.A) (bd : Binds X.K fd ps []) (px : PassesAt CX X σ E1)
    (iv : Inv X pins σ H s) (vv : Vals vs us)
    (hq : ∀ a dx, H a = none → H dx = none → dx ≠ a → sp (.ref a :: vs) (upd (upd H dx (.own a)) a (.ins C dx [])) (fun v H2 => v = .non ∧ Q (.ref a) H2) E1) :
    wpAny (model X.prog X.w) X.A (call (.ref C) us) (EP X pins σ Q) X.xe s := by
  have q0 := hq (s.heap.objs.size + 1) s.heap.objs.size (iv.hok.fresh (Nat.le_succ _)) (iv.hok.fresh (Nat.le_refl _)) (Nat.ne_of_lt (Nat.lt_succ_self _))
  have iv2 := Inv.made (C := C) iv
  have vv2 : Vals (V.ref (s.heap.objs.size + 1) :: vs) (Value.ref (s.heap.objs.size + 1) :: us) := .cons rfl vv
  have len : (Value.ref (s.heap.objs.size + 1) :: us).length = ps.length := by
    rw [← fo.len _ _ _ _ q0]
    exact vv2.length.symm
  have bd2 := bd _ (Value.ref (s.heap.objs.size + 1) :: us) iv2.kIn (by rw [List.append_nil]; exact len)
  rw [List.append_nil] at bd2
  have run := fo.run _ X.stack _ _ ⟨Value.ref (s.heap.objs.size + 1) :: us, []⟩ _ _ _ E1 (rm.make C us []) (iv2.env0.make C us []) bd2 vv2 q0
  refine wpAny_call (make_map (f := f) iv.kIn mk.makes mk.init (beq_iff_eq.mp mk.fn) (codeAny_mono run fun r s' out => ?_))
  cases r with
  | error ev => exact px pins _ _ ev s' iv2 out
  | ok fl =>
    cases fl with
    | ret u =>
      obtain ⟨v, H', iv3, rv, ve, q3⟩ := iv2.after out
      subst ve
      exact ⟨rv, V.ref (s.heap.objs.size + 1), H', iv3, rfl, q3⟩
    | next => exact out.elim
    | brk => exact out.elim
    | cont => exact out.elim
theorem pe_makeSx (mk : Mk X.K C f) (fo : FnOk X.prog X.w X.K X.mg X.base CX k f fd ps sp) (rm : Room (k + 1) X.A) (gl : Gl X x) (at' : X.mg x = some (.ref C)) (bd : Binds X.K fd ps []) (px : ∀ σ, PassesAt CX X σ (Ex σ))
    (pa : PA X (e :: es) t) (nd : (x == ("__debug__" : Str)) = false := by decide)
    (st : starEach (e :: es) X.env = (false, eval e X.env) :: starEach es X.env := by rfl) (pl : (backTo pos (starEach es X.env)).any (·.1) = false := by rfl) :
    PE X (.Call (.Name x p) (e :: es) [] pos) (tMakeSx C sp Ex t) :=
  ⟨fun pins s σ H Q iv hh => wpAny_Call_Name_kw (ld_glob iv gl at' (PySem.W.callWith_K (h₀ := X.base) iv.ok.mod.kin mk.kp (thn (pa.run pos pins s σ H _ iv hh) fun us s1 ⟨vs, H1, iv1, r, q⟩ => ⟨iv1.kIn, made_at mk fo rm bd (px σ) iv1 r q⟩) st pl) nd)⟩
theorem pe_methSx {pl : Sem Bool} (po : PE X o ta) (cl : Cls X.K C) (me : Meth X.K C m f) (fo : FnOk X.prog X.w X.K X.mg X.base CX k f fd ps sp) (rm : Room k X.A) (bd : Binds X.K fd ps []) (px : ∀ σ, PassesAt CX X σ (Ex σ)) (pa : PA X (e :: es) t)
    (st : starEach (e :: es) X.env = (false, eval e X.env) :: starEach es X.env := by rfl) (ps' : (backTo pos (starEach es X.env)).any (·.1) = false := by rfl)
    (hh : eval (.Call (.Attribute o m apos) (e :: es) [] pos) X.env = (eval o X.env >>= fun ov => standAt apos.atName >>= fun _ => holding [ov] (getMethod ov m pl) >>= fun ff => callWith pos ff.1 ff.2 (backTo pos (starEach (e :: es) X.env)) (backToKw pos (keywordEach [] X.env))) := by rfl) :
    PE X (.Call (.Attribute o m apos) (e :: es) [] pos) (tMethSx C m sp Ex ta t) := by
  constructor
  intro pins s σ H Q iv h
  refine PySem.W.methodCall_KW (pl := pl) (thn (po.run pins s σ H _ iv h) fun u s1 ⟨y, H1, iv1, ry, a, dx, fs, ey, ha, no, q⟩ => ?_) hh
  cases ey
  cases (show u = Value.ref a from ry)
  refine getmeth_ok iv1 ha cl me no (PySem.W.callWith_K (first := [.ref a]) (h₀ := X.base) iv.ok.mod.kin me.kp (thn (pa.run pos pins s1 σ H1 _ iv1 q) fun us s2 ⟨vs, H2, iv2, r, q2⟩ => ⟨iv2.kIn, ?_⟩) st ps')
  exact run_fnS (us := .ref a :: us) (vs := .ref a :: vs) fo rm bd (px σ) iv2 (.cons rfl r) q2
/-- o.m(e, .., k = v, ..) -/
def tMethKw (C : Addr) (m : Str) (n j : Nat) (sp : Sp) (gV : List V → List V → List V) (E1 : XK) (ta : TE) (t tk : TA) : TE := fun σ H Q => ta σ H fun y H1 => ∃ a dx fs, y = .ref a ∧ H1 a = some (.ins C dx fs) ∧ fs.lookup m = none ∧ t σ H1 fun vs H2 => tk σ H2 fun zs H3 => vs.length = n ∧ zs.length = j ∧ sp (gV (y :: vs) zs) H3 Q E1
theorem pe_methKw {n : Nat} {ks : List Str} {kws : List Keyword} {g : List Value → List Value → List Value} {gV : List V → List V → List V} {E1 : XK} {tk : TA} {pl : Sem Bool} (po : PE X o ta) (cl : Cls X.K C) (me : Meth X.K C m f) (fo : FnOk X.prog X.w X.K X.mg X.base CX k f fd ps sp) (rm : Room k X.A)
    (kb : KBn X.K fd ps (n + 1) ks g gV) (px : Passes CX X E1) (pa : PA X (e :: es) t) (pk : PK X kws tk)
    (al : (backToKw pos (keywordEach kws X.env)).all (·.1.isSome) = true := by rfl) (nm : (backToKw pos (keywordEach kws X.env)).filterMap (·.1) = ks := by rfl)
    (st : starEach (e :: es) X.env = (false, eval e X.env) :: starEach es X.env := by rfl) (no : ((backTo pos (starEach (e :: es) X.env)).any (·.1) || (backToKw pos (keywordEach kws X.env)).any (·.1.isNone)) = false := by rfl)
    (hh : eval (.Call (.Attribute o m apos) (e :: es) kws pos) X.env = (eval o X.env >>= fun ov => standAt apos.atName >>= fun _ => holding [ov] (getMethod ov m pl) >>= fun ff => callWith pos ff.1 ff.2 (backTo pos (starEach (e :: es) X.env)) (backToKw pos (keywordEach kws X.env))) := by rfl) :
    PE X (.Call (.Attribute o m apos) (e :: es) kws pos) (tMethKw C m n ks.length sp gV E1 ta t tk) := by
  constructor
  intro pins s σ H Q iv h
  refine PySem.W.methodCall_KW (pl := pl) (thn (po.run pins s σ H _ iv h) fun u s1 ⟨y, H1, iv1, ry, a, dx, fs, ey, ha, nl, q⟩ => ?_) hh
  cases ey
  cases (show u = Value.ref a from ry)
  refine getmeth_ok iv1 ha cl me nl (PySem.W.callWith_KW (first := [.ref a]) (h₀ := X.base) iv.ok.mod.kin me.kp al (thn (pa.run pos pins s1 σ H1 _ iv1 q) fun us s2 ⟨vs, H2, iv2, r, q2⟩ => thn (pk.run pos pins s2 σ H2 _ iv2 q2) fun ws s3 ⟨zs, H3, iv3, rz, l1, l2, q3⟩ => ⟨iv3.kIn, ?_⟩) no st)
  rw [nm]
  exact run_fnN (us := .ref a :: us) (vs := .ref a :: vs) fo rm kb px iv3 (.cons rfl r) rz (by rw [List.length_cons, l1]) l2 q3
/-- nothing is let out -/
theorem passX0 {P : Program} {w : World} {σ : L2.St} : PassesAt (L2.CX P w) X σ E0 := fun _ _ _ _ _ _ h => by
  obtain ⟨_, _, _, _, _, _, _, _, _, _, _, _, h⟩ := h
  exact h.elim
end


end
end Pf

namespace Pf
open PySem PySem.Spec PyProof.Rows L2
section
variable {P : Program} {w : World} {K : PySem.W.Frag} {mg : Str → Option Value} {base : Heap}
variable {c : Nat → Addr}
theorem nyes {p : Prop} [Decidable p] {A B : Prop} (h : p) (b : B) : if (!decide p) = true then A else B := by
  rw [decide_eq_true h]
  exact iteF b
theorem take_succ_at {α : Type} {xs : List α} {i : Nat} {x : α} (h : xs[i]? = some x) : xs.take (i + 1) = xs.take i ++ [x] := by rw [List.take_succ, h]; rfl
theorem nnope {p : Prop} [Decidable p] {A B : Prop} (h : ¬ p) (a : A) : if (!decide p) = true then A else B := by
  rw [decide_eq_false h]
  exact iteT a
def sp_letters_reason (K : PySem.W.Frag) : Sp := fun vs H Q _ => ∃ l a : Int, vs = [.int l, .int a] ∧ Q (.str (lrs l a)) H
theorem ok_letters_reason (T : Txt P K mg c) : Has P w K mg base 1 "letters_reason" ["letters", "answers"] (sp_letters_reason K) := by
  obtain ⟨f, fd, F, m, b⟩ := T.d_letters_reason.ex
  obtain ⟨tk_MOST_LETTERS, cc_MOST_LETTERS⟩ := T.c_MOST_LETTERS
  obtain ⟨tk_LEAST_ANSWERS, cc_LEAST_ANSWERS⟩ := T.c_LEAST_ANSWERS
  obtain ⟨tk_MOST_ANSWERS, cc_MOST_ANSWERS⟩ := T.c_MOST_ANSWERS
  refine ⟨f, fd, F.ok sc_letters_reason (fun vs H Q E h => ?_) (fun cdv A outer s H vs Q E hr h => ?_), m, F.kp, b⟩
  · obtain ⟨l, a, rfl, q⟩ := h
    rfl
  obtain ⟨l, a, rfl, q⟩ := h
  refine ⟨_, (pss_cons (ps_if (pt_not (pt_chain op_le op_le pe_int (pv 0) (pe_glob (v := .int 3) rfl cc_MOST_LETTERS ⟨_, rfl⟩)))
      (pss_one (ps_ret pe_str))
      pss_nil)
      (pss_cons (ps_if (pt_not (pt_chain op_le op_le (pe_glob (v := .int 2) rfl cc_LEAST_ANSWERS ⟨_, rfl⟩) (pv 1) (pe_glob (v := .int 4) rfl cc_MOST_ANSWERS ⟨_, rfl⟩)))
      (pss_one (ps_ret pe_str))
      pss_nil)
      (pss_one (ps_ret pe_str)))), ?_⟩
  unfold lrs at q
  by_cases h1 : 1 ≤ l
  case neg =>
    rw [if_neg (fun z => h1 z.1)] at q
    exact ⟨_, rfl, _, _, rfl, rfl, _, rfl, nope h1 ⟨_, rfl, iteT q⟩⟩
  refine ⟨_, rfl, _, _, rfl, rfl, _, rfl, yes h1 ⟨_, _, rfl, rfl, _, rfl, ?_⟩⟩
  by_cases h2 : l ≤ 3
  case neg =>
    rw [if_neg (fun z => h2 z.2)] at q
    exact nnope h2 q
  rw [if_pos ⟨h1, h2⟩] at q
  refine nyes h2 ?_
  by_cases h3 : 2 ≤ a
  case neg =>
    rw [if_neg (fun z => h3 z.1)] at q
    exact ⟨_, rfl, _, _, rfl, rfl, _, rfl, nope h3 ⟨_, rfl, iteT q⟩⟩
  refine ⟨_, rfl, _, _, rfl, rfl, _, rfl, yes h3 ⟨_, _, rfl, rfl, _, rfl, ?_⟩⟩
  by_cases h4 : a ≤ 4
  case neg =>
    rw [if_neg (fun z => h4 z.2)] at q
    exact nnope h4 q
  rw [if_pos ⟨h3, h4⟩] at q
  exact nyes h4 q
/-- rows as they are handed in: lists or tuples of targets -/
def isSeq (d : PyData) (ds : List PyData) : Prop := d = .list ds ∨ d = .tuple ds
def rawRow (d : PyData) (r : Row) : Prop := ∃ s1 s2, d = .tuple [s1, oD r.ov, s2, .bool r.fi, .bool r.si] ∧ isSeq s1 (r.rd.map oD) ∧ isSeq s2 (r.wr.map oD)
def rawSt (d : PyData) (st : List Row) : Prop := ∃ ds, isSeq d ds ∧ ds.length = st.length ∧ ∀ (i : Nat) (d' : PyData) (r : Row), ds[i]? = some d' → st[i]? = some r → rawRow d' r
def RawSt (K : PySem.W.Frag) (H : Hp) (v : V) (st : List Row) : Prop := ∃ d, Dl K H v d ∧ rawSt d st
theorem RawSt.same {K : PySem.W.Frag} {H H' : Hp} {v : V} {st : List Row} (e : Same H H') (h : RawSt K H v st) : RawSt K H' v st := by
  obtain ⟨d, h, r⟩ := h
  exact ⟨d, dl_same e h, r⟩
theorem dl_seq {K : PySem.W.Frag} {H : Hp} {v : V} {d : PyData} {ds : List PyData} (h : Dl K H v d) (e : isSeq d ds) : ∃ a xs, v = .ref a ∧ (SqL K H a xs ∨ SqT K H a xs) ∧ DlAll K H xs ds := by
  rcases e with rfl | rfl
  · cases h with
    | lst h k => exact ⟨_, _, rfl, .inl (SqL.of h), k⟩
  · cases h with
    | tup h k => exact ⟨_, _, rfl, .inr h, k⟩
theorem dla_idx {K : PySem.W.Frag} {H : Hp} : ∀ {xs : List V} {ds : List PyData} {i : Nat} {d : PyData}, DlAll K H xs ds → ds[i]? = some d → ∃ x, xs[i]? = some x ∧ Dl K H x d
  | _, _, _, _, .nil, h => by simp at h
  | _, _, 0, _, .cons h _, e => by
    have e' := Option.some.inj e
    subst e'
    exact ⟨_, rfl, h⟩
  | _, _, i + 1, _, .cons _ k, e => dla_idx (i := i) k e
theorem dl_ix {K : PySem.W.Frag} {H : Hp} {v : V} {ds : List PyData} {d : PyData} {i : Nat} (h : Dl K H v (.tuple ds)) (e : ds[i]? = some d) : ∃ a xs x, v = .ref a ∧ SqT K H a xs ∧ atI xs (i : Int) = some x ∧ Dl K H x d := by
  cases h with
  | @tup a xs _ h k =>
    obtain ⟨x, e1, p⟩ := dla_idx k e
    exact ⟨a, xs, x, rfl, h, atI_nat e1, p⟩
def sp_states_reason (K : PySem.W.Frag) : Sp := fun vs H Q _ => ∃ (cn : Cn) (v : V), vs = [.int cn.l, .int cn.a, v] ∧ cn.Sm ∧ RawSt K H v cn.st ∧ ∀ H', Same H H' → Q (.str (srs cn)) H'
theorem alt_seq {K : PySem.W.Frag} {i : Nat} {σ : L2.St} {H : Hp} {R : It → Hp → Prop} {a : Addr} {xs : List V} (hi : σ[i]? = some (some (.ref a))) (hq : SqL K H a xs ∨ SqT K H a xs)
    (k : ∀ (J : It) (G : Hp → Prop), Walk J xs.length G (YAt xs) → (∀ H', Same H H' → G H') → R J H) : iList K (tVar i) σ H R ∨ iTup K (tVar i) σ H R := by
  rcases hq with h | h
  · exact .inl ⟨_, hi, a, rfl, ⟨_, h⟩, k _ _ walk_list fun H' s => s.seq h⟩
  · exact .inr ⟨_, hi, a, rfl, ⟨_, h⟩, k _ _ walk_tup fun H' s => seqT_same s h⟩
theorem dl_oV {K : PySem.W.Frag} {H : Hp} {v : V} {o : Option Int} (h : Dl K H v (oD o)) : v = oV o := by
  cases o with
  | none =>
    have h' : Dl K H v .none := h
    cases h'
    rfl
  | some n =>
    have h' : Dl K H v (.int n) := h
    cases h'
    rfl
theorem dla_oV {K : PySem.W.Frag} {H : Hp} : ∀ {os : List (Option Int)} {ws : List V}, DlAll K H ws (os.map oD) → ws = os.map oV
  | [], _, .nil => rfl
  | o :: os, _, .cons h k => by rw [dl_oV h, dla_oV k]; rfl
/-- one row, read -/
structure RowAt (K : PySem.W.Frag) (H : Hp) (x : V) (r : Row) : Prop where
  at0 : ∃ p ws q, x = .ref p ∧ SqT K H p ws ∧ atI ws 0 = some (.ref q) ∧ (SqL K H q (r.rd.map oV) ∨ SqT K H q (r.rd.map oV))
  at1 : ∃ p ws, x = .ref p ∧ SqT K H p ws ∧ atI ws 1 = some (oV r.ov)
  at2 : ∃ p ws q, x = .ref p ∧ SqT K H p ws ∧ atI ws 2 = some (.ref q) ∧ (SqL K H q (r.wr.map oV) ∨ SqT K H q (r.wr.map oV))
theorem row_at {K : PySem.W.Frag} {H : Hp} {x : V} {d : PyData} {r : Row} (h : Dl K H x d) (e : rawRow d r) : RowAt K H x r := by
  obtain ⟨s1, s2, rfl, e1, e2⟩ := e
  refine ⟨?_, ?_, ?_⟩
  · obtain ⟨p, ws, y, rfl, hq, hy, hd⟩ := dl_ix h (i := 0) rfl
    obtain ⟨q, us, rfl, hs, hk⟩ := dl_seq hd e1
    rw [dla_oV hk] at hs
    exact ⟨p, ws, q, rfl, hq, hy, hs⟩
  · obtain ⟨p, ws, y, rfl, hq, hy, hd⟩ := dl_ix h (i := 1) rfl
    rw [dl_oV hd] at hy
    exact ⟨p, ws, rfl, hq, hy⟩
  · obtain ⟨p, ws, y, rfl, hq, hy, hd⟩ := dl_ix h (i := 2) rfl
    obtain ⟨q, us, rfl, hs, hk⟩ := dl_seq hd e2
    rw [dla_oV hk] at hs
    exact ⟨p, ws, q, rfl, hq, hy, hs⟩
theorem seq_same {K : PySem.W.Frag} {H H' : Hp} {a : Addr} {xs : List V} (e : Same H H') (h : SqL K H a xs ∨ SqT K H a xs) : SqL K H' a xs ∨ SqT K H' a xs := h.imp (fun h => e.seq h) (fun h => seqT_same e h)
theorem RowAt.same {K : PySem.W.Frag} {H H' : Hp} {x : V} {r : Row} (e : Same H H') (h : RowAt K H x r) : RowAt K H' x r := by
  obtain ⟨⟨p, ws, q, h1, h2, h3, h4⟩, ⟨p', ws', h5, h6, h7⟩, ⟨p2, ws2, q2, h8, h9, h10, h11⟩⟩ := h
  exact ⟨⟨p, ws, q, h1, seqT_same e h2, h3, seq_same e h4⟩, ⟨p', ws', h5, seqT_same e h6, h7⟩, ⟨p2, ws2, q2, h8, seqT_same e h9, h10, seq_same e h11⟩⟩
theorem dec_vi {i j : Int} : decide (V.int i = V.int j) = decide (i = j) := by
  by_cases h : i = j
  · rw [decide_eq_true h, decide_eq_true (congrArg V.int h)]
  · rw [decide_eq_false h, decide_eq_false fun z => h (V.int.inj z)]
theorem ok_states_reason (T : Txt P K mg c) : Has P w K mg base 1 "states_reason" ["letters", "answers", "states"] (sp_states_reason K) := by
  obtain ⟨f, fd, F, m, b⟩ := T.d_states_reason.ex
  obtain ⟨tk_MOST_STATES, cc_MOST_STATES⟩ := T.c_MOST_STATES
  refine ⟨f, fd, F.ok sc_states_reason (fun vs H Q E h => ?_) (fun cdv A outer s H vs Q E hr h => ?_), m, F.kp, b⟩
  · obtain ⟨cn, v, rfl, ho, hv, q⟩ := h
    rfl
  obtain ⟨cn, v, rfl, ho, hv, q⟩ := h
  refine ⟨_, (pss_cons (ps_if (pt_not (pt_chain op_le op_le pe_int (pe_callB call_len_seq (by rfl) T.z_len (by decide +kernel) (pa_cons (pv 2) pa_nil)) (pe_glob (v := .int 8) rfl cc_MOST_STATES ⟨_, rfl⟩)))
      (pss_one (ps_ret pe_str))
      pss_nil)
      (pss_cons (ps_if (pt_val (pe_callB (cr_any rfl) (by rfl) T.z_any (by decide +kernel) (pa_cons (pe_lc (own := [("row", 4)]) (g := gName 4) (by rfl) sc_states_reason.nd (pi_alt (pi_list (pv 2)) (pi_tup (pv 2))) (blkOk_by (own := [("row", 4)]) (N := ["letters", "answers", "states", "targets", "row", "target"]) (sc := defScope s_states_reason) (by decide +kernel)) (fun _ _ _ _ _ => pg_name (i := 4) sc_states_reason.nd rfl (Or.inl rfl)) (fun _ _ _ _ _ => pts_nil) (fun _ _ _ _ _ => (pe_or (pe_cmpR op_ne (pe_callB (call_len_seqK (K := K) rfl) (by rfl) T.z_len (by decide +kernel) (pa_cons (pe_ix (ix_tupK (K := K) rfl) (pv 4) pe_int (fun _ _ => rfl)) pa_nil)) (pv 0) (nomark _)) (pe_one (pe_cmpR op_ne (pe_callB (call_len_seqK (K := K) rfl) (by rfl) T.z_len (by decide +kernel) (pa_cons (pe_ix (ix_tupK (K := K) rfl) (pv 4) pe_int (fun _ _ => rfl)) pa_nil)) (pv 1) (nomark _)))))) pa_nil)))
      (pss_one (ps_ret pe_str))
      pss_nil)
      (pss_cons (ps_setLc2 (i := 3) (own := [("row", 4), ("target", 5)]) (vs1 := [5]) (g := gName 4) (g1 := gName 5) (by rfl) sc_states_reason.nd rfl rfl (sw_true rfl rfl rfl (by decide +kernel)) (pi_alt (pi_list (pv 2)) (pi_tup (pv 2))) (blkOk_by (own := [("row", 4), ("target", 5)]) (N := ["letters", "answers", "states", "targets", "row", "target"]) (sc := defScope s_states_reason) (by decide +kernel)) (by decide) (fun _ _ _ _ _ => (pg_name (i := 4) sc_states_reason.nd rfl (.inl rfl))) (fun _ _ _ _ _ => pts_nil) (fun _ _ _ _ _ => (pi_listK (K := K) rfl (pe_op op_cat (pe_op op_cat (pe_callTy (call_list_ofK (K := K) rfl) (by rfl) T.z_list (by decide +kernel) (pa_cons (pe_ix (ix_tupK (K := K) rfl) (pv 4) pe_int (fun _ _ => rfl)) pa_nil)) (pe_lst (pa_cons (pe_ix (ix_tupK (K := K) rfl) (pv 4) pe_int (fun _ _ => rfl)) pa_nil))) (pe_callTy (call_list_ofK (K := K) rfl) (by rfl) T.z_list (by decide +kernel) (pa_cons (pe_ix (ix_tupK (K := K) rfl) (pv 4) pe_int (fun _ _ => rfl)) pa_nil))))) (fun _ _ _ _ _ => (pg_name (i := 5) sc_states_reason.nd rfl (.inl rfl))) (fun _ _ _ _ _ => pts_nil) (fun _ _ _ _ _ => (pv 5)))
      (pss_cons (ps_if (pt_val (pe_callB (cr_any rfl) (by rfl) T.z_any (by decide +kernel) (pa_cons (pe_lc (own := [("target", 5)]) (g := gName 5) (by rfl) sc_states_reason.nd (pi_list (pv 3)) (blkOk_by (own := [("target", 5)]) (N := ["letters", "answers", "states", "targets", "row", "target"]) (sc := defScope s_states_reason) (by decide +kernel)) (fun _ _ _ _ _ => pg_name (i := 5) sc_states_reason.nd rfl (Or.inl rfl)) (fun _ _ _ _ _ => pts_nil) (fun _ _ _ _ _ => (pe_and (pe_cmpR op_notN (pv 5) pe_non (nomark _)) (pe_one (pe_not (pe_chain op_le op_lt pe_int (pv 5) (pe_callB (call_len_seqK (K := K) rfl) (by rfl) T.z_len (by decide +kernel) (pa_cons (pv 2) pa_nil)))))))) pa_nil)))
      (pss_one (ps_ret pe_str))
      pss_nil)
      (pss_one (ps_ret pe_str)))))), ?_⟩
  obtain ⟨d, hv, ds, es, el, er⟩ := hv
  obtain ⟨a, xs, rfl, hq, hk⟩ := dl_seq hv es
  have lx : xs.length = cn.st.length := (dla_len hk).trans el
  have s10 := ho.s10
  have rows : ∀ (i : Nat) (x : V), xs[i]? = some x → ∃ r, cn.st[i]? = some r ∧ RowAt K H x r := fun i x hx => by
    obtain ⟨d', e1, h1⟩ := dla_at hk hx
    have hi : i < cn.st.length := by
      have := (List.getElem?_eq_some_iff.mp hx).1
      omega
    exact ⟨cn.st[i], List.getElem?_eq_getElem hi, row_at h1 (er i d' _ e1 (List.getElem?_eq_getElem hi))⟩
  unfold srs at q
  by_cases h1 : 1 ≤ xs.length
  case neg =>
    rw [if_neg (fun z => h1 (lx ▸ z.1))] at q
    exact ⟨_, rfl, a, xs, rfl, hq, _, _, rfl, rfl, _, rfl, nope (by omega) ⟨_, rfl, iteT (q _ (Same.refl _))⟩⟩
  by_cases h2 : xs.length ≤ 8
  case neg =>
    rw [if_neg (fun z => h2 (lx ▸ z.2))] at q
    exact ⟨_, rfl, a, xs, rfl, hq, _, _, rfl, rfl, _, rfl, yes (by omega) ⟨_, _, rfl, rfl, _, rfl, nnope (by omega) (q _ (Same.refl _))⟩⟩
  rw [if_pos ⟨lx ▸ h1, lx ▸ h2⟩] at q
  refine ⟨_, rfl, a, xs, rfl, hq, _, _, rfl, rfl, _, rfl, yes (by omega) ⟨_, _, rfl, rfl, _, rfl, nyes (by omega) ?_⟩⟩
  -- any([..])
  refine alt_seq rfl hq fun J G w g => fun D nD => lc_it w (fun i H' => Same H H' ∧ H' D = some (.lst (((cn.st.take i).map (rowBad cn.l cn.a)).map V.bl))) ⟨same_new nD, upd_same⟩ (fun i H' _ h' => g _ h'.1) ?_ ?_
  · rintro i x H1 H2 hi ⟨s1, hD⟩ ⟨rfl, hx⟩
    obtain ⟨r, er, ra⟩ := rows i x hx
    obtain ⟨⟨p, ws, q0, h1, h2, h3, h4⟩, _, ⟨p2, ws2, q2, h8, h9, h10, h11⟩⟩ := ra.same s1
    subst h1
    cases h8
    have fin : ∀ H', H' = H2 → ∀ b, b = rowBad cn.l cn.a r → ∃ acc, H' D = some (.lst acc) ∧ acc.length < sizeLine ∧ Same H (upd H' D (.lst (acc ++ [V.bl b]))) ∧ (upd H' D (.lst (acc ++ [V.bl b]))) D = some (.lst (((cn.st.take (i + 1)).map (rowBad cn.l cn.a)).map V.bl)) := by
      rintro H' rfl b rfl
      refine ⟨_, hD, ?_, same_mut s1 nD, ?_⟩
      · rw [List.length_map, List.length_map, List.length_take]
        exact small1000 (by omega)
      · rw [upd_same, take_succ_at er, List.map_append, List.map_append]
        rfl
    refine ⟨rfl, _, rfl, p, ws, _, _, rfl, rfl, h2, h3, q0, _, rfl, h4, _, rfl, rfl, _, rfl, ?_⟩
    rw [List.length_map]
    by_cases e1 : (r.rd.length : Int) = cn.l
    case neg =>
      refine nnope (fun z => e1 (V.int.inj z)) (fin _ rfl _ ?_)
      unfold rowBad
      rw [decide_eq_false e1]
      rfl
    refine nyes (congrArg V.int e1) ⟨_, rfl, p, ws2, _, _, rfl, rfl, h9, h10, q2, _, rfl, h11, _, rfl, rfl, ?_⟩
    rw [List.length_map]
    refine fin _ rfl _ ?_
    unfold rowBad
    rw [decide_eq_true e1, dec_vi]
    rfl
  rintro H1 ⟨s1, hD⟩
  rw [lx, List.take_length] at hD
  have ean : ((cn.st.map (rowBad cn.l cn.a)).any id) = cn.st.any (rowBad cn.l cn.a) := by rw [List.any_map]; rfl
  refine ⟨D, _, rfl, SqL.of hD, _, rfl, ?_⟩
  rw [ean]
  by_cases hb : cn.st.any (rowBad cn.l cn.a) = true
  case pos =>
    rw [if_pos hb] at q
    rw [if_pos hb]
    exact q _ s1
  rw [if_neg hb] at q
  rw [if_neg hb]
  -- targets
  refine alt_seq rfl (seq_same s1 hq) fun J G w g => fun D2 nD2 => two_out w (fun i H' => Same H1 H' ∧ H' D2 = some (.lst (((cn.st.take i).flatMap Row.ts).map oV)) ∧ ((cn.st.take i).flatMap Row.ts).length ≤ 30 * i) ⟨same_new nD2, upd_same, Nat.zero_le _⟩ (fun i H' _ h' => g _ h'.1) ?_ ?_
  · rintro i x H2 H3 hi ⟨s2, hD2, la⟩ ⟨rfl, hx⟩
    obtain ⟨r, er, ra⟩ := rows i x hx
    obtain ⟨rl, wl⟩ := ho.rows r (List.mem_of_getElem? er)
    have s12 := s1.trans s2
    refine ⟨rfl, ?_⟩
    obtain ⟨⟨p, ws, q0, h1, h2, h3, h4⟩, ⟨p1, ws1, h5, h6, h7⟩, ⟨p2, ws2, q2, h8, h9, h10, h11⟩⟩ := ra.same s12
    subst h1
    cases h5
    cases h8
    refine ⟨_, rfl, p, ws, _, _, rfl, rfl, h2, h3, q0, _, rfl, h4, fun l0 n0 => ?_⟩
    have t0 := same_new (o := .lst (r.rd.map oV)) n0
    refine ⟨_, rfl, p, ws1, _, _, rfl, rfl, seqT_same t0 h6, h7, by show 1 ≤ sizeLine; decide, fun l1 n1 => ?_⟩
    have t1 := t0.trans (same_new (o := .lst [oV r.ov]) n1)
    refine ⟨l0, l1, _, _, rfl, rfl, same_new n1 _ _ upd_same, upd_same, line_small (by rw [List.length_map]; show r.rd.length + 1 ≤ _; omega), fun l2 n2 => ?_⟩
    have t2 := t1.trans (same_new (o := .lst (r.rd.map oV ++ [oV r.ov])) n2)
    refine ⟨_, rfl, p, ws2, _, _, rfl, rfl, seqT_same t2 h9, h10, q2, _, rfl, seq_same t2 h11, fun l3 n3 => ?_⟩
    have t3 := t2.trans (same_new (o := .lst (r.wr.map oV)) n3)
    refine ⟨l2, l3, _, _, rfl, rfl, same_new n3 _ _ upd_same, upd_same, line_small (by rw [List.length_append, List.length_map, List.length_map]; show r.rd.length + 1 + r.wr.length ≤ _; omega), fun l4 n4 => ?_⟩
    have t4 := t3.trans (same_new (o := .lst ((r.rd.map oV ++ [oV r.ov]) ++ r.wr.map oV)) n4)
    have h14 : l4 ≠ D2 := (ne_of_none (t3 _ _ hD2) n4).symm
    have ets : (r.rd.map oV ++ [oV r.ov]) ++ r.wr.map oV = r.ts.map oV := by
      unfold Row.ts
      rw [List.map_append, List.map_append]
      rfl
    have lts : r.ts.length ≤ 30 := by
      unfold Row.ts
      rw [List.length_append, List.length_append]
      show r.rd.length + 1 + r.wr.length ≤ _
      omega
    have here := upd_same (H := upd (upd (upd (upd H3 l0 (.lst (r.rd.map oV))) l1 (.lst [oV r.ov])) l2 (.lst (r.rd.map oV ++ [oV r.ov]))) l3 (.lst (r.wr.map oV))) (a := l4) (o := .lst ((r.rd.map oV ++ [oV r.ov]) ++ r.wr.map oV))
    generalize upd (upd (upd (upd (upd H3 l0 (.lst (r.rd.map oV))) l1 (.lst [oV r.ov])) l2 (.lst (r.rd.map oV ++ [oV r.ov]))) l3 (.lst (r.wr.map oV))) l4 (.lst ((r.rd.map oV ++ [oV r.ov]) ++ r.wr.map oV)) = H4 at t4 here ⊢
    rw [ets] at here
    refine ⟨l4, rfl, ⟨_, SqL.of here⟩, ?_⟩
    show Exists _
    refine two_out (walk_list (xs := r.ts.map oV)) (fun j H' => Fr D2 H4 H' ∧ Same H1 H' ∧ H' D2 = some (.lst (((cn.st.take i).flatMap Row.ts ++ r.ts.take j).map oV))) ⟨Fr.refl _ _, s2.trans t4, by rw [List.take_zero, List.append_nil]; exact t4 _ _ hD2⟩ (fun j H' _ h' => h'.1.seq h14 (SqL.of here)) ?_ ?_
    · rintro j y H5 H6 hj ⟨f5, s5, hD5⟩ ⟨rfl, hy⟩
      rw [List.getElem?_map] at hy
      cases eo : r.ts[j]? with
      | none => rw [eo] at hy; cases hy
      | some o =>
      rw [eo] at hy
      cases hy
      refine ⟨rfl, ?_⟩
      refine ⟨_, rfl, _, hD5, ?_, f5.trans Fr.upd, same_mut s5 nD2, ?_⟩
      · rw [List.length_map, List.length_append, List.length_take]
        exact small1000 (by omega)
      · rw [upd_same, take_succ_at eo, ← List.append_assoc, List.map_append (l₂ := [o])]
        rfl
    · rintro H5 ⟨f5, s5, hD5⟩
      rw [List.length_map, List.take_length] at hD5
      refine ⟨s5, ?_, ?_⟩
      · rw [take_succ_at er, List.flatMap_append]
        simpa using hD5
      · rw [take_succ_at er, List.flatMap_append, List.length_append, List.flatMap_cons, List.flatMap_nil, List.append_nil]
        omega
  rintro H2 ⟨s2, hD2, la⟩
  rw [lx, List.take_length] at hD2 la
  have s12 := s1.trans s2
  generalize cn.st.flatMap Row.ts = T0 at hD2 q la
  -- any([..])
  refine ⟨_, rfl, D2, rfl, ⟨_, SqL.of hD2⟩, fun D3 nD3 => lc_it (walk_list (xs := T0.map oV)) (fun i H' => Same H2 H' ∧ H' D3 = some (.lst (((T0.take i).map (tgBad cn.st.length)).map V.bl))) ⟨same_new nD3, upd_same⟩ (fun i H' _ h' => h'.1.seq (SqL.of hD2)) ?_ ?_⟩
  · rintro i x H3 H4 hi ⟨s3, hD3⟩ ⟨rfl, hx⟩
    rw [List.getElem?_map] at hx
    cases eo : T0[i]? with
    | none => rw [eo] at hx; cases hx
    | some o =>
    rw [eo] at hx
    cases hx
    have fin : ∀ H', H' = H4 → ∀ b, b = tgBad cn.st.length o → ∃ acc, H' D3 = some (.lst acc) ∧ acc.length < sizeLine ∧ Same H2 (upd H' D3 (.lst (acc ++ [V.bl b]))) ∧ (upd H' D3 (.lst (acc ++ [V.bl b]))) D3 = some (.lst (((T0.take (i + 1)).map (tgBad cn.st.length)).map V.bl)) := by
      rintro H' rfl b rfl
      refine ⟨_, hD3, ?_, same_mut s3 nD3, ?_⟩
      · rw [List.length_map, List.length_map, List.length_take]
        exact small1000 (by omega)
      · rw [upd_same, take_succ_at eo, List.map_append, List.map_append]
        rfl
    refine ⟨rfl, ?_⟩
    refine ⟨_, rfl, rfl, _, rfl, ?_⟩
    cases o with
    | none => exact iteF (fin _ rfl _ rfl)
    | some n =>
      refine iteT ?_
      by_cases h0 : 0 ≤ n
      case neg =>
        refine ⟨_, rfl, _, _, rfl, rfl, _, rfl, nope h0 ⟨_, rfl, fin _ rfl _ ?_⟩⟩
        simp only [tgBad]
        rw [decide_eq_false h0]
        rfl
      refine ⟨_, rfl, _, _, rfl, rfl, _, rfl, yes h0 ⟨_, rfl, a, xs, rfl, seq_same (s12.trans s3) hq, _, _, rfl, rfl, _, rfl, ?_⟩⟩
      rw [lx]
      refine fin _ rfl _ ?_
      simp only [tgBad]
      rw [decide_eq_true h0, Bool.true_and]
  rintro H3 ⟨s3, hD3⟩
  rw [List.length_map, List.take_length] at hD3
  have ean2 : ((T0.map (tgBad cn.st.length)).any id) = T0.any (tgBad cn.st.length) := by rw [List.any_map]; rfl
  refine ⟨D3, _, rfl, SqL.of hD3, _, rfl, ?_⟩
  rw [ean2]
  by_cases ht : T0.any (tgBad cn.st.length) = true
  · rw [if_pos ht] at q
    rw [if_pos ht]
    exact q _ (s12.trans s3)
  · rw [if_neg ht] at q
    rw [if_neg ht]
    exact q _ (s12.trans s3)
def sp_first_reason (K : PySem.W.Frag) : Sp := fun vs H Q _ => ∃ (cn : Cn) (v : V), vs = [.int cn.l, .int cn.a, v] ∧ cn.Sm ∧ RawSt K H v cn.st ∧ ∀ H', Same H H' → Q (.str cn.why) H'
theorem lrs_cases (l a : Int) : lrs l a = Str.empty ∨ lrs l a = "answers" ∨ lrs l a = "letters" := by
  unfold lrs
  by_cases h1 : 1 ≤ l ∧ l ≤ 3
  · rw [if_pos h1]
    by_cases h2 : 2 ≤ a ∧ a ≤ 4
    · rw [if_pos h2]
      exact .inl rfl
    · rw [if_neg h2]
      exact .inr (.inl rfl)
  · rw [if_neg h1]
    exact .inr (.inr rfl)
theorem ok_first_reason (T : Txt P K mg c) : Has P w K mg base 2 "first_reason" ["letters", "answers", "states"] (sp_first_reason K) := by
  obtain ⟨f, fd, F, m, b⟩ := T.d_first_reason.ex
  obtain ⟨f_letters_reason, fd_letters_reason, G_letters_reason, m_letters_reason, k_letters_reason, b_letters_reason⟩ := ok_letters_reason (P := P) (w := w) (base := base) T
  obtain ⟨f_states_reason, fd_states_reason, G_states_reason, m_states_reason, k_states_reason, b_states_reason⟩ := ok_states_reason (P := P) (w := w) (base := base) T
  refine ⟨f, fd, F.ok sc_first_reason (fun vs H Q E h => ?_) (fun cdv A outer s H vs Q E hr h => ?_), m, F.kp, b⟩
  · obtain ⟨cn, v, rfl, ho, hv, q⟩ := h
    rfl
  obtain ⟨cn, v, rfl, ho, hv, q⟩ := h
  refine ⟨_, (pss_one (ps_ret (pe_orT (pe_call G_letters_reason (hr.mono (by decide)) (by rfl) m_letters_reason k_letters_reason b_letters_reason .nil pass0 (pa_cons (pv 0) (pa_cons (pv 1) pa_nil))) (pe_one (pe_call G_states_reason (hr.mono (by decide)) (by rfl) m_states_reason k_states_reason b_states_reason .nil pass0 (pa_cons (pv 0) (pa_cons (pv 1) (pa_cons (pv 2) pa_nil)))))))), ?_⟩
  obtain ⟨n1, n2, n3, n4, n5⟩ := ne_empty
  unfold Cn.why at q
  refine ⟨_, rfl, _, rfl, _, _, rfl, ?_⟩
  rcases lrs_cases cn.l cn.a with e | e | e
  · rw [if_pos e] at q
    rw [e]
    exact ⟨false, ⟨Nat.zero_le _, rfl⟩, iteF ⟨_, rfl, _, rfl, _, rfl, cn, v, rfl, ho, hv, q⟩⟩
  · rw [if_neg (by rw [e]; exact n1), e] at q
    rw [e]
    exact ⟨true, ⟨by decide +kernel, by decide +kernel⟩, iteT (q _ (Same.refl _))⟩
  · rw [if_neg (by rw [e]; exact n2), e] at q
    rw [e]
    exact ⟨true, ⟨by decide +kernel, by decide +kernel⟩, iteT (q _ (Same.refl _))⟩


end
end Pf

namespace Pf
open PySem PySem.Spec PyProof.Rows L2
section
variable {P : Program} {w : World} {K : PySem.W.Frag} {mg : Str → Option Value} {base : Heap}
variable {c : Nat → Addr}
/-- a contract's fields -/
def cf (c : Cn) (s : V) : List (Str × V) := putF "states" s (putF "answers" (.int c.a) (putF "letters" (.int c.l) []))
theorem cf_no {c : Cn} {s : V} {m : Str} (h1 : ¬ m = "states") (h2 : ¬ m = "answers") (h3 : ¬ m = "letters") : (cf c s).lookup m = none := by
  unfold cf
  rw [lookup_putF, if_neg h1, lookup_putF, if_neg h2, lookup_putF, if_neg h3]
  rfl
theorem cf_s {c : Cn} {s : V} : (cf c s).lookup ("states" : Str) = some s := by
  unfold cf
  rw [lookup_putF, if_pos rfl]
theorem cf_a {c : Cn} {s : V} : (cf c s).lookup ("answers" : Str) = some (.int c.a) := by
  unfold cf
  rw [lookup_putF, if_neg (by decide +kernel), lookup_putF, if_pos rfl]
theorem cf_l {c : Cn} {s : V} : (cf c s).lookup ("letters" : Str) = some (.int c.l) := by
  unfold cf
  rw [lookup_putF, if_neg (by decide +kernel), lookup_putF, if_neg (by decide +kernel), lookup_putF, if_pos rfl]
/-- a contract stands at p -/
def ConAt (K : PySem.W.Frag) (C : Addr) (H : Hp) (p : Addr) (c : Cn) : Prop := ∃ (dx : Addr) (s : V), H p = some (.ins C dx (cf c s)) ∧ Dp K H s (stD c.st)
theorem ConAt.same {K : PySem.W.Frag} {C : Addr} {H H' : Hp} {p : Addr} {c : Cn} (e : Same H H') (h : ConAt K C H p c) : ConAt K C H' p c := by
  obtain ⟨dx, s, h, d⟩ := h
  exact ⟨dx, s, e _ _ h, dp_same e d⟩
theorem seqT_fr {K : PySem.W.Frag} {H H' : Hp} {p a C dx : Addr} {fs : List (Str × V)} {xs : List V} (hp : H p = some (.ins C dx fs)) (f : Fr p H H') (h : SqT K H a xs) : SqT K H' a xs := by
  rcases h with (h | ⟨o', h⟩) | h
  · refine .inl (.inl (f _ _ (fun z => ?_) h))
    subst z
    rw [hp] at h
    cases h
  · refine .inl (.inr ⟨o', f _ _ (fun z => ?_) h⟩)
    subst z
    rw [hp] at h
    cases h
  · exact .inr h
theorem seqL_fr {K : PySem.W.Frag} {H H' : Hp} {p a C dx : Addr} {fs : List (Str × V)} {xs : List V} (hp : H p = some (.ins C dx fs)) (f : Fr p H H') (h : SqL K H a xs) : SqL K H' a xs := by
  rcases h with (h | ⟨o', h⟩) | h
  · refine .inl (.inl (f _ _ (fun z => ?_) h))
    subst z
    rw [hp] at h
    cases h
  · refine .inl (.inr ⟨o', f _ _ (fun z => ?_) h⟩)
    subst z
    rw [hp] at h
    cases h
  · exact .inr h
mutual
theorem dl_fr {K : PySem.W.Frag} {H H' : Hp} {p C dx : Addr} {fs : List (Str × V)} (hp : H p = some (.ins C dx fs)) (f : Fr p H H') : ∀ {v : V} {d : PyData}, Dl K H v d → Dl K H' v d
  | _, _, .non => .non
  | _, _, .bl b => .bl b
  | _, _, .int i => .int i
  | _, _, .str x => .str x
  | _, _, .lst h k => .lst (f _ _ (fun z => by subst z; rw [hp] at h; cases h) h) (dla_fr hp f k)
  | _, _, .tup h k => .tup (seqT_fr hp f h) (dla_fr hp f k)
theorem dla_fr {K : PySem.W.Frag} {H H' : Hp} {p C dx : Addr} {fs : List (Str × V)} (hp : H p = some (.ins C dx fs)) (f : Fr p H H') : ∀ {xs : List V} {ds : List PyData}, DlAll K H xs ds → DlAll K H' xs ds
  | _, _, .nil => .nil
  | _, _, .cons h k => .cons (dl_fr hp f h) (dla_fr hp f k)
end
mutual
theorem dp_fr {K : PySem.W.Frag} {H H' : Hp} {p C dx : Addr} {fs : List (Str × V)} (hp : H p = some (.ins C dx fs)) (f : Fr p H H') : ∀ {v : V} {d : PyData}, Dp K H v d → Dp K H' v d
  | _, _, .non => .non
  | _, _, .bl b => .bl b
  | _, _, .int i => .int i
  | _, _, .str x => .str x
  | _, _, .lst h k => .lst (seqL_fr hp f h) (dpa_fr hp f k)
  | _, _, .tup h k => .tup (seqT_fr hp f h) (dpa_fr hp f k)
theorem dpa_fr {K : PySem.W.Frag} {H H' : Hp} {p C dx : Addr} {fs : List (Str × V)} (hp : H p = some (.ins C dx fs)) (f : Fr p H H') : ∀ {xs : List V} {ds : List PyData}, DpAll K H xs ds → DpAll K H' xs ds
  | _, _, .nil => .nil
  | _, _, .cons h k => .cons (dp_fr hp f h) (dpa_fr hp f k)
end
def sp_Contract_init (K : PySem.W.Frag) (C L : Addr) : Sp := fun vs H Q E => ∃ (p dx : Addr) (cn : Cn) (v : V), vs = [.ref p, .int cn.l, .int cn.a, v] ∧ H p = some (.ins C dx []) ∧ cn.Sm ∧ RawSt K H v cn.st ∧
  (cn.why = Str.empty → ∀ H', (∀ b o, H b = some o → b ≠ p → H' b = some o) → ConAt K C H' p cn → Q .non H') ∧
  (¬ cn.why = Str.empty → ∀ (d : Addr) (H' : Hp), Same H H' → H d = none → H' d = some (.xd [("reason", .str cn.why)]) → E (.ref L) (some d) H')
theorem frz_atoms : ∀ os : List (Option Int), (os.map oD).map frz = os.map oD
  | [] => rfl
  | o :: os => by
    rw [List.map_cons, List.map_cons, frz_atoms os]
    cases o <;> simp [oD, frz]
theorem frz_row {d : PyData} {r : Row} (h : rawRow d r) : frz d = r.d := by
  obtain ⟨s1, s2, rfl, e1, e2⟩ := h
  have z : ∀ (s : PyData) (os : List (Option Int)), isSeq s (os.map oD) → frz s = .tuple (os.map oD) := fun s os e => by
    rcases e with rfl | rfl <;> rw [frz, frzs_map, frz_atoms]
  have y : frz (oD r.ov) = oD r.ov := by cases r.ov <;> simp [oD, frz]
  simp [frz, frzs, z _ _ e1, z _ _ e2, y, Row.d]
theorem frz_st {d : PyData} {st : List Row} (h : rawSt d st) : frz d = stD st := by
  obtain ⟨ds, es, el, er⟩ := h
  have e : ds.map frz = st.map Row.d := by
    apply List.ext_getElem?
    intro i
    rw [List.getElem?_map, List.getElem?_map]
    cases h1 : ds[i]? with
    | none =>
      rw [List.getElem?_eq_none (by have := List.getElem?_eq_none_iff.mp h1; omega)]
      rfl
    | some d' =>
      have hi : i < st.length := by
        have := (List.getElem?_eq_some_iff.mp h1).1
        omega
      rw [List.getElem?_eq_getElem hi]
      exact congrArg some (frz_row (er i d' _ h1 (List.getElem?_eq_getElem hi)))
  rcases es with rfl | rfl <;> rw [frz, frzs_map, e] <;> rfl
theorem dat_raw {d : PyData} {cn : Cn} (ho : cn.Sm) (h : rawSt d cn.st) : datOk 3 d := by
  obtain ⟨ds, es, el, er⟩ := h
  have atom : ∀ n o, datOk n (oD o) := fun n o => by cases n <;> cases o <;> simp [oD, datOk]
  have sq : ∀ (s : PyData) (os : List (Option Int)), os.length ≤ 1000 → isSeq s (os.map oD) → datOk 1 s := fun s os l e => by
    have a : ∀ d ∈ os.map oD, datOk 0 d := fun d hd => by
      obtain ⟨o, _, rfl⟩ := List.mem_map.mp hd
      exact atom 0 o
    rcases e with rfl | rfl
    · exact ⟨by rw [List.length_map]; exact l, a⟩
    · exact ⟨by rw [List.length_map]; exact l, a⟩
  have o8 := ho.s10
  have all : ds.length ≤ 1000 ∧ ∀ d ∈ ds, datOk 2 d := by
    refine ⟨by omega, fun d hd => ?_⟩
    obtain ⟨i, hi, rfl⟩ := List.getElem_of_mem hd
    have hi2 : i < cn.st.length := by omega
    obtain ⟨s1, s2, e, e1, e2⟩ := er i _ _ (List.getElem?_eq_getElem hi) (List.getElem?_eq_getElem hi2)
    obtain ⟨rl, wl⟩ := ho.rows _ (List.getElem_mem hi2)
    rw [e]
    refine ⟨by show 5 ≤ 1000; decide, fun d hd => ?_⟩
    rcases List.mem_cons.mp hd with rfl | hd
    · exact sq _ _ (by omega) e1
    rcases List.mem_cons.mp hd with rfl | hd
    · exact atom _ _
    rcases List.mem_cons.mp hd with rfl | hd
    · exact sq _ _ (by omega) e2
    rcases List.mem_cons.mp hd with rfl | hd
    · trivial
    rcases List.mem_cons.mp hd with rfl | hd
    · trivial
    · cases hd
  rcases es with rfl | rfl
  · exact all
  · exact all
theorem why_cases (c : Cn) : c.why = Str.empty ∨ (c.why.length ≤ 100000 ∧ true = ((c.why.length : Int) != 0)) ∧ ¬ c.why = Str.empty := by
  unfold Cn.why srs
  obtain ⟨n1, n2, n3, n4, n5⟩ := ne_empty
  rcases lrs_cases c.l c.a with e | e | e
  · rw [if_pos e]
    by_cases h1 : 1 ≤ c.st.length ∧ c.st.length ≤ 8
    case neg => rw [if_neg h1]; exact .inr ⟨⟨by decide +kernel, by decide +kernel⟩, n5⟩
    rw [if_pos h1]
    by_cases h2 : c.st.any (rowBad c.l c.a) = true
    case pos => rw [if_pos h2]; exact .inr ⟨⟨by decide +kernel, by decide +kernel⟩, n3⟩
    rw [if_neg h2]
    by_cases h3 : (c.st.flatMap Row.ts).any (tgBad c.st.length) = true
    case pos => rw [if_pos h3]; exact .inr ⟨⟨by decide +kernel, by decide +kernel⟩, n4⟩
    rw [if_neg h3]
    exact .inl rfl
  · rw [e, if_neg n1]
    exact .inr ⟨⟨by decide +kernel, by decide +kernel⟩, n1⟩
  · rw [e, if_neg n2]
    exact .inr ⟨⟨by decide +kernel, by decide +kernel⟩, n2⟩
theorem ok_Contract_init (T : Txt P K mg c) : HasMkX P w K mg base 6 (c 24) ["self", "letters", "answers", "states"] (sp_Contract_init K (c id_Contract) (c id_InvalidContract)) := by
  obtain ⟨f, fd, F, m, b⟩ := T.d_Contract_init
  obtain ⟨f_InvalidContract, fd_InvalidContract, G_InvalidContract, i_InvalidContract, t_InvalidContract, b_InvalidContract⟩ := mk_InvalidContract (P := P) (w := w) (base := base) T
  obtain ⟨f_first_reason, fd_first_reason, G_first_reason, m_first_reason, k_first_reason, b_first_reason⟩ := ok_first_reason (P := P) (w := w) (base := base) T
  obtain ⟨f_frozen, fd_frozen, G_frozen, m_frozen, k_frozen, b_frozen⟩ := ok_frozen (P := P) (w := w) (base := base) T 3
  refine ⟨f, fd, F.okX sc_Contract_init (fun vs H Q E h => ?_) (fun cdv A outer s H vs Q E hr h => ?_), m, b⟩
  · obtain ⟨p, dx, cn, v, rfl, hp, ho, hv, q, qe⟩ := h
    rfl
  obtain ⟨p, dx, cn, v, rfl, hp, ho, hv, q, qe⟩ := h
  refine ⟨_, (pss_cons (ps_set (i := 4) sc_Contract_init.nd rfl (.inl rfl) (pe_call G_first_reason (hr.mono (by decide)) (by rfl) m_first_reason k_first_reason b_first_reason .nil pass0 (pa_cons (pv 1) (pa_cons (pv 2) (pa_cons (pv 3) pa_nil)))))
      (pss_cons (ps_if (pt_truth (pv 4) (by intro _; rfl))
      (pss_one (ps_raise rfl (takes_of rfl rfl rfl rfl) (pmk_oex T.o_InvalidContract i_InvalidContract t_InvalidContract G_InvalidContract (hr.mono (by decide)) b_InvalidContract .nil pass0 (by rfl) T.g_InvalidContract (pa_cons (pv 4) pa_nil))))
      pss_nil)
      (pss_cons (ps_fld (pv 0) (pv 1) rfl)
      (pss_cons (ps_fld (pv 0) (pv 2) rfl)
      (pss_one (ps_fld (pv 0) (pe_call G_frozen (hr.mono (by decide)) (by rfl) m_frozen k_frozen b_frozen .nil pass0 (pa_cons (pv 3) pa_nil)) rfl)))))), ?_⟩
  refine ⟨_, rfl, _, rfl, _, rfl, cn, v, rfl, ho, hv, fun H1 s1 => ?_⟩
  have hp1 := s1 _ _ hp
  have hv1 := hv.same s1
  rcases why_cases cn with e | ⟨ht, e⟩
  case inr =>
    refine ⟨_, rfl, true, ⟨line_small ht.1, ht.2⟩, iteT ?_⟩
    refine ⟨_, rfl, by show 1 ≤ 1000; decide, fun a na => ⟨a, .str cn.why, rfl, .inl ⟨_, rfl, ht.1⟩, upd_same, fun d H5 kp ha hd nd => ⟨rfl, d, _, ha, hd, (same_new na).free nd, ?_⟩⟩⟩
    have nd4 := (same_new na).free nd
    have s5 : Same H1 (upd (del H5 a) d (.xd [("reason", .str cn.why)])) := fun b o hb => by
      have ba := ne_of_none hb na
      rw [upd_ne (ne_of_none hb nd4), del_ne ba]
      exact same_made na kp b o hb
    exact qe e d _ (s1.trans s5) (s1.free nd4) upd_same
  have q := q e
  rw [e]
  refine ⟨_, rfl, false, ⟨Nat.zero_le _, rfl⟩, iteF ?_⟩
  refine ⟨_, rfl, _, rfl, p, c id_Contract, dx, [], rfl, hp1, T.cl_Contract, T.n_Contract_letters, (by show 0 < 1000; decide), ?_⟩
  refine ⟨_, rfl, _, rfl, p, c id_Contract, dx, _, rfl, upd_same, T.cl_Contract, T.n_Contract_answers, (by show 1 < 1000; decide), ?_⟩
  have f2 : Fr p H1 (upd (upd H1 p (.ins (c id_Contract) dx (putF "letters" (.int cn.l) []))) p (.ins (c id_Contract) dx (putF "answers" (.int cn.a) (putF "letters" (.int cn.l) [])))) := Fr.trans Fr.upd Fr.upd
  obtain ⟨d, hd, hr0⟩ := hv1
  refine ⟨_, rfl, v, d, rfl, dl_fr hp1 f2 hd, dat_raw ho hr0, fun v' H3 s3 hv3 => ?_⟩
  rw [frz_st hr0] at hv3
  have hp3 := s3 _ _ upd_same
  refine ⟨_, rfl, p, c id_Contract, dx, _, rfl, hp3, T.cl_Contract, T.n_Contract_states, (by show 2 < 1000; decide), ?_⟩
  refine q _ (fun b o hb hne => ?_) ⟨dx, v', upd_same, dp_fr hp3 Fr.upd hv3⟩
  rw [upd_ne hne]
  exact s3 _ _ (f2 b o hne (s1 _ _ hb))
/-- what follows an event in a state -/
def tgt (s : List Row) (k : Nat) (e : Ev) : Option Int := match s[k]? with
  | none => none
  | some r => r.at e
def sp_Contract_follow (K : PySem.W.Frag) (C : Addr) : Sp := fun vs H Q _ => ∃ (p : Addr) (cn : Cn) (k : Nat) (e : Ev) (ev : V), vs = [.ref p, .int (k : Int), ev] ∧ ConAt K C H p cn ∧ cn.Ok ∧ k < cn.st.length ∧ Dp K H ev e.d ∧ e.Ok cn.l cn.a ∧ Q (oV (tgt cn.st k e)) H
theorem opt_at {os : List (Option Int)} {n : Nat} (h : n < os.length) : (os.map oD)[n]? = some (oD (os.getD n none)) := by
  rw [List.getElem?_map, List.getElem?_eq_getElem h, List.getD_eq_getElem?_getD, List.getElem?_eq_getElem h]
  rfl
theorem ok_Contract_follow (T : Txt P K mg c) : HasM P w K mg base 1 (c 24) "follow" ["self", "state", "event"] (sp_Contract_follow K (c id_Contract)) := by
  obtain ⟨f, fd, F, m, b⟩ := T.d_Contract_follow
  refine ⟨f, fd, F.ok sc_Contract_follow (fun vs H Q E h => ?_) (fun cdv A outer s H vs Q E hr h => ?_), m, b⟩
  · obtain ⟨p, cn, k, e, ev, rfl, hc, ho, hk, he, heo, q⟩ := h
    rfl
  obtain ⟨p, cn, k, e, ev, rfl, hc, ho, hk, he, heo, q⟩ := h
  refine ⟨_, (pss_cons (ps_set (i := 3) sc_Contract_follow.nd rfl (.inl rfl) (pe_ix ix_tup (pe_fld (pv 0) rfl) (pv 1) (fun _ _ => rfl)))
      (pss_cons (ps_if (pt_cmpR op_eq (pe_ix ix_tup (pv 2) pe_int (fun _ _ => rfl)) pe_str (nomark _))
      (pss_one (ps_ret (pe_ix ix_tup (pv 3) pe_int (fun _ _ => rfl))))
      pss_nil)
      (pss_cons (ps_set (i := 4) sc_Contract_follow.nd rfl (.inl rfl) (pe_ifExp (pt_cmpR op_eq (pe_ix ix_tup (pv 2) pe_int (fun _ _ => rfl)) pe_str (nomark _)) (pe_ix ix_tup (pv 3) pe_int (fun _ _ => rfl)) (pe_ix ix_tup (pv 3) pe_int (fun _ _ => rfl))))
      (pss_one (ps_ret (pe_ix ix_tup (pv 4) (pe_ix ix_tup (pv 2) pe_int (fun _ _ => rfl)) (fun _ _ => rfl))))))), ?_⟩
  obtain ⟨dx, s, hp, hs⟩ := hc
  have hr : cn.st[k]? = some cn.st[k] := List.getElem?_eq_getElem hk
  obtain ⟨rl, wl⟩ := ho.rl _ (List.getElem_mem hk)
  have ht : ∀ e, tgt cn.st k e = cn.st[k].at e := fun e => by
    unfold tgt
    rw [hr]
  obtain ⟨a1, xs1, x1, rfl, q1, i1, d1⟩ := dp_ix hs (i := k) (d := cn.st[k].d) (by rw [List.getElem?_map, hr]; rfl)
  obtain ⟨a2, xs2, x2, rfl, q2, i2, d2⟩ := dp_ix d1 (i := 1) rfl
  rw [ht] at q
  generalize cn.st[k] = r at d1 d2 rl wl q
  refine ⟨_, rfl, p, _, dx, _, _, rfl, hp, T.cl_Contract, T.n_Contract_states, cf_s, _, rfl, a1, xs1, _, _, rfl, rfl, q1, i1, ?_⟩
  cases e with
  | over =>
    obtain ⟨b, ys, y, rfl, q3, i3, d3⟩ := dp_ix he (i := 0) rfl
    cases d3
    refine ⟨_, rfl, b, ys, _, _, rfl, rfl, q3, i3, rfl, _, rfl, yes rfl ?_⟩
    refine ⟨_, rfl, _, xs2, _, _, rfl, rfl, q2, i2, ?_⟩
    rw [dp_oV d2]
    exact q
  | read n =>
    obtain ⟨b, ys, y, rfl, q3, i3, d3⟩ := dp_ix he (i := 0) rfl
    obtain ⟨b', ys', y', eb, q4, i4, d4⟩ := dp_ix he (i := 1) rfl
    cases eb
    cases d3
    cases d4
    obtain ⟨a3, xs3, x3, e3, q5, i5, d5⟩ := dp_ix d1 (i := 0) rfl
    cases e3
    obtain ⟨a6, xs6, x6, rfl, q6, i6, d6⟩ := dp_ix d5 (i := n) (opt_at (by have : (n : Int) < cn.l := heo; omega))
    refine ⟨_, rfl, b, ys, _, _, rfl, rfl, q3, i3, rfl, _, rfl, nope (by decide +kernel) ?_⟩
    refine ⟨_, rfl, b, ys, _, _, rfl, rfl, q3, i3, rfl, _, rfl, yes (by decide +kernel) ?_⟩
    refine ⟨_, rfl, _, xs3, _, _, rfl, rfl, q5, i5, ?_⟩
    refine ⟨_, rfl, _, rfl, b, ys', _, _, rfl, rfl, q4, i4, a6, xs6, _, _, rfl, rfl, q6, i6, ?_⟩
    rw [dp_oV d6]
    exact q
  | write n =>
    obtain ⟨b, ys, y, rfl, q3, i3, d3⟩ := dp_ix he (i := 0) rfl
    obtain ⟨b', ys', y', eb, q4, i4, d4⟩ := dp_ix he (i := 1) rfl
    cases eb
    cases d3
    cases d4
    obtain ⟨a3, xs3, x3, e3, q5, i5, d5⟩ := dp_ix d1 (i := 2) rfl
    cases e3
    obtain ⟨a6, xs6, x6, rfl, q6, i6, d6⟩ := dp_ix d5 (i := n) (opt_at (by have : (n : Int) < cn.a := heo; omega))
    refine ⟨_, rfl, b, ys, _, _, rfl, rfl, q3, i3, rfl, _, rfl, nope (by decide +kernel) ?_⟩
    refine ⟨_, rfl, b, ys, _, _, rfl, rfl, q3, i3, rfl, _, rfl, nope (by decide +kernel) ?_⟩
    refine ⟨_, rfl, _, xs3, _, _, rfl, rfl, q5, i5, ?_⟩
    refine ⟨_, rfl, _, rfl, b, ys', _, _, rfl, rfl, q4, i4, a6, xs6, _, _, rfl, rfl, q6, i6, ?_⟩
    rw [dp_oV d6]
    exact q


end
end Pf

namespace Pf
open PySem PySem.Spec PyProof.Rows L2
section
variable {P : Program} {w : World} {K : PySem.W.Frag} {mg : Str → Option Value} {base : Heap}
variable {c : Nat → Addr}
/-! ### data and lists that grow -/
theorem push_dp {K : PySem.W.Frag} {H : Hp} {D : Addr} {ws : List V} {ds : List PyData} {v : V} {d : PyData} {o : HO} (n : Nat) (hD : H D = some (.lst ws)) (hw : DpAll K H ws ds) (ok : ∀ d ∈ ds, tupOk n d) (hv : Dp K H v d) (okd : tupOk n d) : DpAll K (upd H D o) (ws ++ [v]) (ds ++ [d]) :=
  dpa_app (dpa_mut hD n ok hw) (dp_mut hD n okd hv)
theorem seqT_frl {K : PySem.W.Frag} {H H' : Hp} {r a : Addr} {ys xs : List V} (hr : H r = some (.lst ys)) (f : Fr r H H') (h : SqT K H a xs) : SqT K H' a xs := by
  rcases h with (h | ⟨o', h⟩) | h
  · refine .inl (.inl (f _ _ (fun z => ?_) h))
    subst z
    rw [hr] at h
    cases h
  · refine .inl (.inr ⟨o', f _ _ (fun z => ?_) h⟩)
    subst z
    rw [hr] at h
    cases h
  · exact .inr h
mutual
theorem dp_frl {K : PySem.W.Frag} {H H' : Hp} {r : Addr} {ys : List V} (hr : H r = some (.lst ys)) (f : Fr r H H') : ∀ {v : V} {d : PyData} (n : Nat), tupOk n d → Dp K H v d → Dp K H' v d
  | _, _, _, _, .non => .non
  | _, _, _, _, .bl b => .bl b
  | _, _, _, _, .int i => .int i
  | _, _, _, _, .str x => .str x
  | _, _, 0, h, .lst _ _ => h.elim
  | _, _, _ + 1, h, .lst _ _ => h.elim
  | _, _, 0, h, .tup _ _ => h.elim
  | _, _, n + 1, h, .tup q k => .tup (seqT_frl hr f q) (dpa_frl hr f n h.2 k)
theorem dpa_frl {K : PySem.W.Frag} {H H' : Hp} {r : Addr} {ys : List V} (hr : H r = some (.lst ys)) (f : Fr r H H') : ∀ {xs : List V} {ds : List PyData} (n : Nat), (∀ d ∈ ds, tupOk n d) → DpAll K H xs ds → DpAll K H' xs ds
  | _, _, _, _, .nil => .nil
  | _, _, n, h, .cons p k => .cons (dp_frl hr f n (h _ List.mem_cons_self) p) (dpa_frl hr f n (fun d hd => h d (List.mem_cons_of_mem _ hd)) k)
end
theorem ok_o (n : Nat) (o : Option Int) : tupOk n (oD o) := by cases n <;> cases o <;> simp [oD, tupOk]
theorem ok_ev (n : Nat) (e : Ev) : tupOk (n + 1) e.d := by
  have h0 : ∀ x : Str, tupOk n (.str x) := fun x => by cases n <;> simp [tupOk]
  have h1 : ∀ i : Int, tupOk n (.int i) := fun x => by cases n <;> simp [tupOk]
  cases e with
  | over => exact ⟨by show 1 ≤ 100000; decide, fun d hd => by rcases List.mem_singleton.mp hd with rfl; exact h0 _⟩
  | read k =>
    refine ⟨by show 2 ≤ 100000; decide, fun d hd => ?_⟩
    rcases List.mem_cons.mp hd with rfl | hd
    · exact h0 _
    · rcases List.mem_singleton.mp hd with rfl
      exact h1 _
  | write k =>
    refine ⟨by show 2 ≤ 100000; decide, fun d hd => ?_⟩
    rcases List.mem_cons.mp hd with rfl | hd
    · exact h0 _
    · rcases List.mem_singleton.mp hd with rfl
      exact h1 _
theorem ok_evs (n l a : Nat) : ∀ d ∈ (evs l a).map Ev.d, tupOk (n + 1) d := fun d hd => by
  obtain ⟨e, _, rfl⟩ := List.mem_map.mp hd
  exact ok_ev n e
theorem ok_row (n : Nat) (r : Row) (h1 : r.rd.length ≤ 1000) (h2 : r.wr.length ≤ 1000) : tupOk (n + 2) r.d := by
  have hb : ∀ b : Bool, tupOk (n + 1) (.bool b) := fun b => by simp [tupOk]
  have hl : ∀ os : List (Option Int), os.length ≤ 1000 → tupOk (n + 1) (.tuple (os.map oD)) := fun os h => by
    refine ⟨by rw [List.length_map]; exact Nat.le_trans h (by decide), fun d hd => ?_⟩
    obtain ⟨o, _, rfl⟩ := List.mem_map.mp hd
    exact ok_o n o
  refine ⟨by show 5 ≤ 100000; decide, fun d hd => ?_⟩
  rcases List.mem_cons.mp hd with rfl | hd
  · exact hl _ h1
  rcases List.mem_cons.mp hd with rfl | hd
  · exact ok_o _ _
  rcases List.mem_cons.mp hd with rfl | hd
  · exact hl _ h2
  rcases List.mem_cons.mp hd with rfl | hd
  · exact hb _
  rcases List.mem_cons.mp hd with rfl | hd
  · exact hb _
  · cases hd
theorem ok_rows {cn : Cn} (h : cn.Sm) : ∀ d ∈ cn.st.map Row.d, tupOk 2 d := fun d hd => by
  obtain ⟨r, hr, rfl⟩ := List.mem_map.mp hd
  obtain ⟨o1, o2⟩ := h.rows r hr
  exact ok_row 0 r (by omega) (by omega)
theorem ok_st {cn : Cn} (h : cn.Sm) : tupOk 3 (stD cn.st) := ⟨by rw [List.length_map]; have := h.s10; omega, ok_rows h⟩
theorem Cn.Ok.sm {cn : Cn} (h : cn.Ok) : cn.Sm := ⟨by have := h.s8; omega, fun r hr => by
  obtain ⟨e1, e2⟩ := h.rl r hr
  have := h.l3
  have := h.a4
  omega⟩
theorem u65 {k : Nat} {A : Around} (r : Room k A) : A.units + 65 < cLine := by
  have := r.un
  omega
mutual
theorem dl_dp {K : PySem.W.Frag} {H : Hp} : ∀ {v : V} {d : PyData} (n : Nat), tupOk n d → Dp K H v d → Dl K H v d
  | _, _, _, _, .non => .non
  | _, _, _, _, .bl b => .bl b
  | _, _, _, _, .int i => .int i
  | _, _, _, _, .str x => .str x
  | _, _, 0, h, .lst _ _ => h.elim
  | _, _, _ + 1, h, .lst _ _ => h.elim
  | _, _, 0, h, .tup _ _ => h.elim
  | _, _, n + 1, h, .tup q k => .tup q (dla_dp n h.2 k)
theorem dla_dp {K : PySem.W.Frag} {H : Hp} : ∀ {xs : List V} {ds : List PyData} (n : Nat), (∀ d ∈ ds, tupOk n d) → DpAll K H xs ds → DlAll K H xs ds
  | _, _, _, _, .nil => .nil
  | _, _, n, h, .cons p k => .cons (dl_dp n (h _ List.mem_cons_self) p) (dla_dp n (fun d hd => h d (List.mem_cons_of_mem _ hd)) k)
end


end
end Pf

namespace Pf
open PySem PySem.Spec PyProof.Rows L2
section
variable {P : Program} {w : World} {K : PySem.W.Frag} {mg : Str → Option Value} {base : Heap}
variable {c : Nat → Addr}
theorem ix_at {n j : Nat} (h : j < n) : ixN n (j : Int) = some j := by
  simp only [ixN]
  split
  · split
    · simp
    · omega
  · omega
def sp_with_item (K : PySem.W.Frag) : Sp := fun vs H Q _ => ∃ (a : Addr) (xs : List V) (k : Nat) (y : V), vs = [.ref a, .int (k : Int), y] ∧ (SqL K H a xs ∨ SqT K H a xs) ∧ k < xs.length ∧ ∀ (l : Addr) (H' : Hp), Same H H' → H l = none → H' l = some (.lst (xs.set k y)) → Q (.ref l) H'
theorem ok_with_item (T : Txt P K mg c) : Has P w K mg base 1 "with_item" ["items", "index", "item"] (sp_with_item K) := by
  obtain ⟨f, fd, F, m, b⟩ := T.d_with_item.ex
  refine ⟨f, fd, F.ok sc_with_item (fun vs H Q E h => ?_) (fun cdv A outer s H vs Q E hr h => ?_), m, F.kp, b⟩
  · obtain ⟨a, xs, k, y, rfl, hq, hk, q⟩ := h
    rfl
  obtain ⟨a, xs, k, y, rfl, hq, hk, q⟩ := h
  refine ⟨_, (pss_cons (ps_set (i := 3) sc_with_item.nd rfl (.inl rfl) (pe_callTy call_list_of (by rfl) T.z_list (by decide +kernel) (pa_cons (pv 0) pa_nil)))
      (pss_cons (ps_asg (pv 2) (pg_sub (pv 3) (pv 1) set_list))
      (pss_one (ps_ret (pv 3))))), ?_⟩
  refine ⟨_, rfl, a, xs, rfl, hq, fun l nl => ?_⟩
  refine ⟨_, rfl, _, rfl, _, rfl, l, xs, _, k, rfl, rfl, upd_same, ix_at hk, ?_⟩
  exact ⟨_, rfl, q l _ (same_mut (same_new nl) nl) nl upd_same⟩
/-- with another row for a state -/
def Cn.put (c : Cn) (k : Nat) (r : Row) : Cn := ⟨c.l, c.a, c.st.set k r⟩
theorem put_sm {c : Cn} {k : Nat} {r : Row} (h : c.Sm) (h1 : r.rd.length ≤ 10) (h2 : r.wr.length ≤ 10) : (c.put k r).Sm := ⟨by show (c.st.set k r).length ≤ _; rw [List.length_set]; exact h.s10, fun x hx => by
  rcases List.mem_or_eq_of_mem_set hx with hx | rfl
  · exact h.rows x hx
  · exact ⟨h1, h2⟩⟩
theorem dla_set {K : PySem.W.Frag} {H : Hp} {y : V} {d : PyData} (hy : Dl K H y d) : ∀ {xs : List V} {ds : List PyData} (k : Nat), DlAll K H xs ds → DlAll K H (xs.set k y) (ds.set k d)
  | _, _, _, .nil => .nil
  | _, _, 0, .cons _ k => .cons hy k
  | _, _, n + 1, .cons p k => .cons p (dla_set hy n k)
theorem raw_put {K : PySem.W.Frag} {H : Hp} {l : Addr} {xs : List V} {y : V} {d : PyData} {cn : Cn} {k : Nat} {r : Row} (hs : cn.Sm) (hk : DpAll K H xs (cn.st.map Row.d)) (hy : Dl K H y d) (rr : rawRow d r) (hl : H l = some (.lst (xs.set k y))) : RawSt K H (.ref l) (cn.put k r).st := by
  refine ⟨.list ((cn.st.map Row.d).set k d), .lst hl (dla_set hy k (dla_dp 2 (ok_rows hs) hk)), _, .inl rfl, ?_, fun i d' r' e1 e2 => ?_⟩
  · rw [List.length_set, List.length_map]
    exact (List.length_set ..).symm
  · have e2' : (cn.st.set k r)[i]? = some r' := e2
    by_cases h : k = i
    · subst h
      have hlt : k < cn.st.length := by
        have := (List.getElem?_eq_some_iff.mp e2').1
        rwa [List.length_set] at this
      rw [List.getElem?_set_self hlt] at e2'
      rw [List.getElem?_set_self (by rw [List.length_map]; exact hlt)] at e1
      cases e1
      cases e2'
      exact rr
    · rw [List.getElem?_set_ne h] at e2'
      rw [List.getElem?_set_ne h, List.getElem?_map, e2'] at e1
      cases e1
      exact ⟨_, _, rfl, .inr rfl, .inr rfl⟩
def sp_with_state (K : PySem.W.Frag) (C L : Addr) : Sp := fun vs H Q E => ∃ (p : Addr) (cn : Cn) (k : Nat) (r : Row) (y : V) (d : PyData), vs = [.ref p, .int (k : Int), y] ∧ ConAt K C H p cn ∧ cn.Sm ∧ k < cn.st.length ∧ Dl K H y d ∧ rawRow d r ∧ r.rd.length ≤ 10 ∧ r.wr.length ≤ 10 ∧
  ((cn.put k r).why = Str.empty → ∀ (p' : Addr) (H' : Hp), Same H H' → H p' = none → ConAt K C H' p' (cn.put k r) → Q (.ref p') H') ∧
  (¬ (cn.put k r).why = Str.empty → ∀ (d : Addr) (H' : Hp), Same H H' → H d = none → H' d = some (.xd [("reason", .str (cn.put k r).why)]) → E (.ref L) (some d) H')
theorem ok_Contract_with_state (T : Txt P K mg c) : HasMX P w K mg base 8 (c 24) "with_state" ["self", "state", "row"] (sp_with_state K (c id_Contract) (c id_InvalidContract)) := by
  obtain ⟨f, fd, F, m, b⟩ := T.d_Contract_with_state
  obtain ⟨f_Contract_init, fd_Contract_init, G_Contract_init, M_Contract_init, b_Contract_init⟩ := ok_Contract_init (P := P) (w := w) (base := base) T
  obtain ⟨f_with_item, fd_with_item, G_with_item, m_with_item, k_with_item, b_with_item⟩ := ok_with_item (P := P) (w := w) (base := base) T
  refine ⟨f, fd, F.okX sc_Contract_with_state (fun vs H Q E h => ?_) (fun cdv A outer s H vs Q E hr h => ?_), m, b⟩
  · obtain ⟨p, cn, k, r, y, d, rfl, hc, hs, hk, hy, rr, r1, r2, q, qe⟩ := h
    rfl
  obtain ⟨p, cn, k, r, y, d, rfl, hc, hs, hk, hy, rr, r1, r2, q, qe⟩ := h
  refine ⟨_, (pss_one (ps_ret (pe_makeSx M_Contract_init G_Contract_init (hr.mono (by decide)) (by rfl) T.g_Contract b_Contract_init (fun σ => passAt (takes_of rfl rfl rfl rfl) σ) (pa_cons (pe_fld (pv 0) rfl) (pa_cons (pe_fld (pv 0) rfl) (pa_cons (pe_call G_with_item (hr.mono (by decide)) (by rfl) m_with_item k_with_item b_with_item .nil pass0 (pa_cons (pe_fld (pv 0) rfl) (pa_cons (pv 1) (pa_cons (pv 2) pa_nil)))) pa_nil)))))), ?_⟩
  obtain ⟨dx, sv, hp, hd⟩ := hc
  obtain ⟨sa, xs, rfl, hq, hx⟩ := dp_tup hd
  have lx : xs.length = cn.st.length := by
    have := dpa_len hx
    rwa [List.length_map] at this
  refine ⟨_, rfl, p, _, dx, _, _, rfl, hp, T.cl_Contract, T.n_Contract_letters, cf_l, _, rfl, p, _, dx, _, _, rfl, hp, T.cl_Contract, T.n_Contract_answers, cf_a, _, rfl, p, _, dx, _, _, rfl, hp, T.cl_Contract, T.n_Contract_states, cf_s, ?_⟩
  refine ⟨_, rfl, _, rfl, sa, xs, k, y, rfl, .inr hq, by omega, fun l H1 s1 nl hl => ?_⟩
  intro b dx2 nb nd ne
  have s2 : Same H1 (upd (upd H1 dx2 (.own b)) b (.ins (c id_Contract) dx2 [])) := fun z o e => by
    rw [upd_ne (ne_of_none e nb), upd_ne (ne_of_none e nd)]
    exact e
  refine ⟨b, dx2, cn.put k r, .ref l, rfl, upd_same, put_sm hs r1 r2, raw_put hs (dpa_same (s1.trans s2) hx) (dl_same (s1.trans s2) hy) rr (s2 _ _ hl), fun e H' kp hc => ⟨rfl, ?_⟩, fun e d' H' s3 nd' hd' => ?_⟩
  · have s4 : Same H H' := fun z o hz => kp z o (s2 _ _ (s1 _ _ hz)) (ne_of_none (s1 _ _ hz) nb)
    exact q e b H' s4 (s1.free nb) hc
  · exact qe e d' H' ((s1.trans s2).trans s3) ((s1.trans s2).free nd') hd'
/-- a row with another target for an event -/
def Row.turn (r : Row) (e : Ev) (t : Option Int) : Row := match e with
  | .over => ⟨r.rd, t, r.wr, r.fi, r.si⟩
  | .read n => ⟨r.rd.set n t, r.ov, r.wr, r.fi, r.si⟩
  | .write n => ⟨r.rd, r.ov, r.wr.set n t, r.fi, r.si⟩
theorem dpa_oV {K : PySem.W.Frag} {H : Hp} : ∀ {os : List (Option Int)} {ws : List V}, DpAll K H ws (os.map oD) → ws = os.map oV
  | [], _, .nil => rfl
  | o :: os, _, .cons h k => by rw [dp_oV h, dpa_oV k]; rfl
theorem dl_o {K : PySem.W.Frag} {H : Hp} (o : Option Int) : Dl K H (oV o) (oD o) := by
  cases o with
  | none => exact .non
  | some n => exact .int n
theorem dla_oVs {K : PySem.W.Frag} {H : Hp} : ∀ os : List (Option Int), DlAll K H (os.map oV) (os.map oD)
  | [] => .nil
  | o :: os => .cons (dl_o o) (dla_oVs os)
def sp_with_row (K : PySem.W.Frag) (C L : Addr) : Sp := fun vs H Q E => ∃ (p : Addr) (cn : Cn) (k : Nat) (r : Row) (e : Ev) (ev : V) (t : Option Int), vs = [.ref p, .int (k : Int), ev, oV t] ∧ ConAt K C H p cn ∧ cn.Ok ∧ cn.st[k]? = some r ∧ Dp K H ev e.d ∧ e.Ok cn.l cn.a ∧
  ((cn.put k (r.turn e t)).why = Str.empty → ∀ (p' : Addr) (H' : Hp), Same H H' → H p' = none → ConAt K C H' p' (cn.put k (r.turn e t)) → Q (.ref p') H') ∧
  (¬ (cn.put k (r.turn e t)).why = Str.empty → ∀ (d : Addr) (H' : Hp), Same H H' → H d = none → H' d = some (.xd [("reason", .str (cn.put k (r.turn e t)).why)]) → E (.ref L) (some d) H')
theorem ok_Contract_with_row (T : Txt P K mg c) : HasMX P w K mg base 9 (c 24) "with_row" ["self", "state", "event", "target"] (sp_with_row K (c id_Contract) (c id_InvalidContract)) := by
  obtain ⟨f, fd, F, m, b⟩ := T.d_Contract_with_row
  obtain ⟨f_with_item, fd_with_item, G_with_item, m_with_item, k_with_item, b_with_item⟩ := ok_with_item (P := P) (w := w) (base := base) T
  obtain ⟨f_Contract_with_state, fd_Contract_with_state, G_Contract_with_state, M_Contract_with_state, b_Contract_with_state⟩ := ok_Contract_with_state (P := P) (w := w) (base := base) T
  refine ⟨f, fd, F.okX sc_Contract_with_row (fun vs H Q E h => ?_) (fun cdv A outer s H vs Q E hr h => ?_), m, b⟩
  · obtain ⟨p, cn, k, r, e, ev, t, rfl, hc, ho, hrk, he, heo, q, qe⟩ := h
    rfl
  obtain ⟨p, cn, k, r, e, ev, t, rfl, hc, ho, hrk, he, heo, q, qe⟩ := h
  refine ⟨_, (pss_cons (ps_asg (pe_ix ix_tup (pe_fld (pv 0) rfl) (pv 1) (fun _ _ => rfl)) (pg_tup rfl (pgs_cons (pg_name (i := 4) sc_Contract_with_row.nd rfl (.inl rfl)) (pgs_cons (pg_name (i := 5) sc_Contract_with_row.nd rfl (.inl rfl)) (pgs_cons (pg_name (i := 6) sc_Contract_with_row.nd rfl (.inl rfl)) (pgs_cons (pg_name (i := 7) sc_Contract_with_row.nd rfl (.inl rfl)) (pgs_cons (pg_name (i := 8) sc_Contract_with_row.nd rfl (.inl rfl)) pgs_nil)))))))
      (C8.pss_cut (ps_if (pt_cmpR op_eq (pe_ix ix_tup (pv 2) pe_int (fun _ _ => rfl)) pe_str (nomark _))
      (pss_one (ps_set (i := 5) sc_Contract_with_row.nd rfl (.inl rfl) (pv 3)))
      (pss_one (ps_if (pt_cmpR op_eq (pe_ix ix_tup (pv 2) pe_int (fun _ _ => rfl)) pe_str (nomark _))
        (pss_one (ps_set (i := 4) sc_Contract_with_row.nd rfl (.inl rfl) (pe_call G_with_item (hr.mono (by decide)) (by rfl) m_with_item k_with_item b_with_item .nil pass0 (pa_cons (pv 4) (pa_cons (pe_ix ix_tup (pv 2) pe_int (fun _ _ => rfl)) (pa_cons (pv 3) pa_nil))))))
        (pss_one (ps_set (i := 6) sc_Contract_with_row.nd rfl (.inl rfl) (pe_call G_with_item (hr.mono (by decide)) (by rfl) m_with_item k_with_item b_with_item .nil pass0 (pa_cons (pv 6) (pa_cons (pe_ix ix_tup (pv 2) pe_int (fun _ _ => rfl)) (pa_cons (pv 3) pa_nil)))))))))
      (pss_one (ps_ret (pe_methSx (pv 0) T.cl_Contract M_Contract_with_state G_Contract_with_state (hr.mono (by decide)) b_Contract_with_state (fun σ => passAt (takes_of rfl rfl rfl rfl) σ) (pa_cons (pv 1) (pa_cons (pe_tup (pa_cons (pv 4) (pa_cons (pv 5) (pa_cons (pv 6) (pa_cons (pv 7) (pa_cons (pv 8) pa_nil)))))) pa_nil))))))), ?_⟩
  obtain ⟨dx, sv, hp, hd⟩ := id hc
  have hk := (List.getElem?_eq_some_iff.mp hrk).1
  obtain ⟨rl, wl⟩ := ho.rl r (List.mem_of_getElem? hrk)
  have l3 := ho.l3
  have a4 := ho.a4
  obtain ⟨sa, xs, x, rfl, hq, hx, hrow⟩ := dp_ix hd (i := k) (d := r.d) (by rw [List.getElem?_map, hrk]; rfl)
  have hrow' : Dp K H x (.tuple [.tuple (r.rd.map oD), oD r.ov, .tuple (r.wr.map oD), .bool r.fi, .bool r.si]) := hrow
  obtain ⟨ra, ws, rfl, hqr, hw⟩ := dp_tup hrow'
  cases hw with
  | cons w0 hw =>
  cases hw with
  | cons w1 hw =>
  cases hw with
  | cons w2 hw =>
  cases hw with
  | cons w3 hw =>
  cases hw with
  | cons w4 hw =>
  cases hw
  cases w3
  cases w4
  obtain rfl := dp_oV w1
  have tO : ∀ os : List (Option Int), os.length ≤ 10 → tupOk 1 (.tuple (os.map oD)) := fun os h => ⟨by rw [List.length_map]; omega, fun d hd => by
    obtain ⟨o, _, rfl⟩ := List.mem_map.mp hd
    exact ok_o 0 o⟩
  have m0 := dl_dp 1 (tO _ (by omega)) w0
  have m2 := dl_dp 1 (tO _ (by omega)) w2
  refine ⟨_, rfl, p, _, dx, _, _, rfl, hp, T.cl_Contract, T.n_Contract_states, cf_s, _, rfl, sa, xs, _, _, rfl, rfl, hq, hx, ?_⟩
  obtain ⟨a0, ys0, rfl, hq0, hk0⟩ := dp_tup w0
  obtain ⟨a2, ys2, rfl, hq2, hk2⟩ := dp_tup w2
  obtain rfl := dpa_oV hk0
  obtain rfl := dpa_oV hk2
  refine ⟨ra, _, rfl, hqr, rfl, _, _, rfl, _, _, rfl, _, _, rfl, _, _, rfl, _, _, rfl, rfl, ?_⟩
  refine ⟨fun σ' H' => ∃ (x0 x2 : V) (s0 s2 : PyData), σ' = [some (.ref p), some (.int (k : Int)), some ev, some (oV t), some x0, some (oV (r.turn e t).ov), some x2, some (.bl r.fi), some (.bl r.si)] ∧ Same H H' ∧ Dl K H' x0 s0 ∧ isSeq s0 ((r.turn e t).rd.map oD) ∧ Dl K H' x2 s2 ∧ isSeq s2 ((r.turn e t).wr.map oD), ?_, ?_⟩
  · cases e with
    | over =>
      obtain ⟨b, ys, y, rfl, q3, i3, d3⟩ := dp_ix he (i := 0) rfl
      cases d3
      refine ⟨_, rfl, b, ys, _, _, rfl, rfl, q3, i3, rfl, _, rfl, yes rfl ?_⟩
      exact ⟨_, rfl, _, _, _, _, rfl, Same.refl _, m0, .inr rfl, m2, .inr rfl⟩
    | read n =>
      obtain ⟨b, ys, y, rfl, q3, i3, d3⟩ := dp_ix he (i := 0) rfl
      obtain ⟨b', ys', y', eb, q4, i4, d4⟩ := dp_ix he (i := 1) rfl
      cases eb
      cases d3
      cases d4
      have hn : (n : Int) < cn.l := heo
      refine ⟨_, rfl, b, ys, _, _, rfl, rfl, q3, i3, rfl, _, rfl, nope (by decide +kernel) ?_⟩
      refine ⟨_, rfl, b, ys, _, _, rfl, rfl, q3, i3, rfl, _, rfl, yes rfl ?_⟩
      refine ⟨_, rfl, _, rfl, b, ys', _, _, rfl, rfl, q4, i4, _, rfl, a0, _, n, oV t, rfl, .inr hq0, by rw [List.length_map]; omega, fun l H1 s1 nl hl => ?_⟩
      rw [← List.map_set] at hl
      exact ⟨_, _, _, _, rfl, s1, .lst hl (dla_oVs _), .inl rfl, dl_same s1 m2, .inr rfl⟩
    | write n =>
      obtain ⟨b, ys, y, rfl, q3, i3, d3⟩ := dp_ix he (i := 0) rfl
      obtain ⟨b', ys', y', eb, q4, i4, d4⟩ := dp_ix he (i := 1) rfl
      cases eb
      cases d3
      cases d4
      have hn : (n : Int) < cn.a := heo
      refine ⟨_, rfl, b, ys, _, _, rfl, rfl, q3, i3, rfl, _, rfl, nope (by decide +kernel) ?_⟩
      refine ⟨_, rfl, b, ys, _, _, rfl, rfl, q3, i3, rfl, _, rfl, nope (by decide +kernel) ?_⟩
      refine ⟨_, rfl, _, rfl, b, ys', _, _, rfl, rfl, q4, i4, _, rfl, a2, _, n, oV t, rfl, .inr hq2, by rw [List.length_map]; omega, fun l H1 s1 nl hl => ?_⟩
      rw [← List.map_set] at hl
      exact ⟨_, _, _, _, rfl, s1, dl_same s1 m0, .inr rfl, .lst hl (dla_oVs _), .inl rfl⟩
  rintro σ' H1 ⟨x0, x2, s0, s2, rfl, s1, hx0, hs0, hx2, hs2⟩
  refine ⟨_, rfl, p, dx, _, rfl, s1 _ _ hp, cf_no (by decide +kernel) (by decide +kernel) (by decide +kernel), _, rfl, _, rfl, _, rfl, _, rfl, _, rfl, _, rfl, by show 5 ≤ sizeLine; decide, fun tp ntp => ?_⟩
  have e2 := same_new (o := .tup [x0, oV (r.turn e t).ov, x2, .bl r.fi, .bl r.si]) ntp
  have len : (r.turn e t).rd.length ≤ 10 ∧ (r.turn e t).wr.length ≤ 10 := by
    cases e with
    | over => exact ⟨by show r.rd.length ≤ _; omega, by show r.wr.length ≤ _; omega⟩
    | read n => exact ⟨by show (r.rd.set n t).length ≤ _; rw [List.length_set]; omega, by show r.wr.length ≤ _; omega⟩
    | write n => exact ⟨by show r.rd.length ≤ _; omega, by show (r.wr.set n t).length ≤ _; rw [List.length_set]; omega⟩
  have flg : (r.turn e t).fi = r.fi ∧ (r.turn e t).si = r.si := by cases e <;> exact ⟨rfl, rfl⟩
  refine ⟨p, cn, k, r.turn e t, .ref tp, .tuple [s0, oD (r.turn e t).ov, s2, .bool r.fi, .bool r.si], rfl, hc.same (s1.trans e2), ho.sm, hk, ?_, ⟨s0, s2, by rw [flg.1, flg.2], hs0, hs2⟩, len.1, len.2, fun w p' H' s3 np' => ?_, fun w d H' s3 nd hd' => ?_⟩
  · exact .tup (SqT.of upd_same) (.cons (dl_same e2 hx0) (.cons (dl_o _) (.cons (dl_same e2 hx2) (.cons (.bl _) (.cons (.bl _) .nil)))))
  · exact q w p' H' ((s1.trans e2).trans s3) ((s1.trans e2).free np')
  · exact qe w d H' ((s1.trans e2).trans s3) ((s1.trans e2).free nd) hd'


end
end Pf

namespace Pf
open PySem PySem.Spec PyProof.Rows L2
section
variable {P : Program} {w : World} {K : PySem.W.Frag} {mg : Str → Option Value} {base : Heap}
variable {c : Nat → Addr}
theorem evs_push (f : Nat → Ev) (i : Nat) : (List.range i).map (fun k => (f k).d) ++ [(f i).d] = (List.range (i + 1)).map fun k => (f k).d := by
  rw [List.range_succ, List.map_append]
  rfl
theorem evs_d (l a : Nat) : (evs l a).map Ev.d = (Ev.over.d :: (List.range l).map fun k => (Ev.read k).d) ++ (List.range a).map fun k => (Ev.write k).d := by
  simp [evs, Function.comp_def]
theorem dpa_cat {K : PySem.W.Frag} {H : Hp} : ∀ {xs ys : List V} {ds es : List PyData}, DpAll K H xs ds → DpAll K H ys es → DpAll K H (xs ++ ys) (ds ++ es)
  | _, _, _, _, .nil, h => h
  | _, _, _, _, .cons p k, h => .cons p (dpa_cat k h)
def sp__law_events (K : PySem.W.Frag) : Sp := fun vs H Q _ => ∃ (l a : Nat), vs = [.int (l : Int), .int (a : Int)] ∧ l ≤ 3 ∧ a ≤ 4 ∧ ∀ (p : Addr) (H' : Hp) (xs : List V), Same H H' → H p = none → H' p = some (.lst xs) → DpAll K H' xs ((evs l a).map Ev.d) → Q (.ref p) H'
theorem s3h {H : Hp} {t p0 p1 : Addr} {o o0 o1 : HO} (nt : H t = none) (n0 : (upd H t o) p0 = none) (n1 : (upd (upd H t o) p0 o0) p1 = none) : (upd (upd (upd H t o) p0 o0) p1 o1) t = some o := by
  have a : (upd H t o) t = some o := upd_same
  have b : (upd (upd H t o) p0 o0) t = some o := (upd_ne (ne_of_none a n0)).trans a
  exact (upd_ne (ne_of_none b n1)).trans b
theorem ok__law_events (T : Txt P K mg c) : Has P w K mg base 1 "_law_events" ["letters", "answers"] (sp__law_events K) := by
  obtain ⟨f, fd, F, m, b⟩ := T.d__law_events.ex
  refine ⟨f, fd, F.ok sc__law_events (fun vs H Q E h => ?_) (fun cdv A outer s H vs Q E hr h => ?_), m, F.kp, b⟩
  · obtain ⟨l, a, rfl, hl, ha, q⟩ := h
    rfl
  obtain ⟨l, a, rfl, hl, ha, q⟩ := h
  refine ⟨_, (pss_cons (ps_setLc (i := 2) (own := [("letter", 3)]) (g := gName 3) (by rfl) sc__law_events.nd rfl rfl (sw_true rfl rfl rfl (by decide +kernel)) (pi_range1 (by rfl) T.z_range (pa_cons (pv 0) pa_nil)) (blkOk_by (own := [("letter", 3)]) (N := ["letters", "answers", "reads", "letter"]) (sc := defScope s__law_events) (by decide +kernel)) (fun _ _ _ _ _ => (pg_name (i := 3) sc__law_events.nd rfl (.inl rfl))) (fun _ _ _ _ _ => pts_nil) (fun _ _ _ _ _ => (pe_tup (pa_cons pe_str (pa_cons (pv 3) pa_nil)))))
      (pss_one (ps_ret (pe_op op_cat (pe_op op_cat (pe_lst (pa_cons (pe_tup (pa_cons pe_str pa_nil)) pa_nil)) (pv 2)) (pe_lc (own := [("letter", 3)]) (g := gName 3) (by rfl) sc__law_events.nd (pi_range1 (by rfl) T.z_range (pa_cons (pv 1) pa_nil)) (blkOk_by (own := [("letter", 3)]) (N := ["letters", "answers", "reads", "letter"]) (sc := defScope s__law_events) (by decide +kernel)) (fun _ _ _ _ _ => pg_name (i := 3) sc__law_events.nd rfl (Or.inl rfl)) (fun _ _ _ _ _ => pts_nil) (fun _ _ _ _ _ => (pe_tup (pa_cons pe_str (pa_cons (pv 3) pa_nil))))))))), ?_⟩
  refine ⟨_, rfl, (l : Int), rfl, by omega, by omega, fun D nD => ?_⟩
  refine lc_range (lo := 0) (fun i H' => Same H H' ∧ ∃ ws, H' D = some (.lst ws) ∧ DpAll K H' ws ((List.range i).map fun k => (Ev.read k).d)) ⟨same_new nD, [], upd_same, .nil⟩ (fun i H' hi h => ?_) (fun H9 h => ?_)
  · obtain ⟨s1, ws, hD, hw⟩ := h
    have hi2 : i < l := by simpa using hi
    have gi : (0 : Int) + (i : Int) = (i : Int) := Int.zero_add _
    refine ⟨rfl, _, rfl, by show 2 ≤ sizeLine; decide, fun t nt => ?_⟩
    have st := same_new (o := .tup [.str "read", .int (0 + (i : Int))]) nt
    refine ⟨ws, st _ _ hD, ?_, same_mut (s1.trans st) nD, ws ++ [.ref t], upd_same, ?_⟩
    · have := dpa_len hw
      rw [List.length_map, List.length_range] at this
      exact small1000 (by omega)
    · rw [← evs_push]
      refine push_dp 1 (st _ _ hD) (dpa_same st hw) (fun d hd => ?_) (.tup (SqT.of upd_same) (.cons (.str _) (.cons ?_ .nil))) (ok_ev 0 _)
      · obtain ⟨k, _, rfl⟩ := List.mem_map.mp hd
        exact ok_ev 0 _
      · rw [gi]
        exact .int _
  obtain ⟨s1, ws, hD, hw⟩ := h
  have lw : ws.length = l := by
    have := dpa_len hw
    simpa using this
  clear nD
  refine ⟨by show 1 ≤ sizeLine; decide, fun t nt => ⟨by show 1 ≤ sizeLine; decide, fun p0 n0 => ?_⟩⟩
  have s2 := (same_new (o := .tup [.str "over"]) nt).trans (same_new (o := .lst [.ref t]) n0)
  refine ⟨_, rfl, p0, D, _, _, rfl, rfl, upd_same, s2 _ _ hD, line_small (by show 1 + ws.length ≤ _; omega), fun p1 n1 => ?_⟩
  have s3 := s2.trans (same_new (o := .lst ([.ref t] ++ ws)) n1)
  have h1 : DpAll K (upd (upd (upd H9 t (.tup [.str "over"])) p0 (.lst [.ref t])) p1 (.lst ([.ref t] ++ ws))) ([.ref t] ++ ws) (Ev.over.d :: (List.range l).map fun k => (Ev.read k).d) := by
    have := dpa_same s3 hw
    simp only [Int.toNat_natCast] at this
    exact .cons (.tup (SqT.of (s3h nt n0 n1)) (.cons (.str _) .nil)) this
  have hp1 : (upd (upd (upd H9 t (.tup [.str "over"])) p0 (.lst [.ref t])) p1 (.lst ([.ref t] ++ ws))) p1 = some (.lst ([.ref t] ++ ws)) := upd_same
  have s13 := s1.trans s3
  have l1 : ([V.ref t] ++ ws).length = 1 + l := by
    show ([V.ref t] ++ ws).length = 1 + l
    rw [List.length_append, lw]
    rfl
  generalize upd (upd (upd H9 t (.tup [.str "over"])) p0 (.lst [.ref t])) p1 (.lst ([.ref t] ++ ws)) = H1 at h1 hp1 s13
  generalize ([V.ref t] ++ ws) = vs1 at h1 hp1 l1
  clear s3 s2 n0 n1 nt s1 hD hw
  refine ⟨_, rfl, (a : Int), rfl, by omega, by omega, fun D nD => ?_⟩
  refine lc_range (lo := 0) (fun i H' => Same H1 H' ∧ ∃ ws, H' D = some (.lst ws) ∧ DpAll K H' ws ((List.range i).map fun k => (Ev.write k).d)) ⟨same_new nD, [], upd_same, .nil⟩ (fun i H' hi h => ?_) (fun H9 h => ?_)
  · obtain ⟨s1, ws, hD, hw⟩ := h
    have hi2 : i < a := by simpa using hi
    have gi : (0 : Int) + (i : Int) = (i : Int) := Int.zero_add _
    refine ⟨rfl, _, rfl, by show 2 ≤ sizeLine; decide, fun t nt => ?_⟩
    have st := same_new (o := .tup [.str "write", .int (0 + (i : Int))]) nt
    refine ⟨ws, st _ _ hD, ?_, same_mut (s1.trans st) nD, ws ++ [.ref t], upd_same, ?_⟩
    · have := dpa_len hw
      rw [List.length_map, List.length_range] at this
      exact small1000 (by omega)
    · rw [← evs_push]
      refine push_dp 1 (st _ _ hD) (dpa_same st hw) (fun d hd => ?_) (.tup (SqT.of upd_same) (.cons (.str _) (.cons ?_ .nil))) (ok_ev 0 _)
      · obtain ⟨k, _, rfl⟩ := List.mem_map.mp hd
        exact ok_ev 0 _
      · rw [gi]
        exact .int _
  obtain ⟨s1, ws2, hD, hw⟩ := h
  have lw2 : ws2.length = a := by
    have := dpa_len hw
    simpa using this
  refine ⟨p1, D, _, _, rfl, rfl, s1 _ _ hp1, hD, line_small (by omega), fun p2 n2 => ?_⟩
  have s4 := same_new (o := .lst (vs1 ++ ws2)) n2
  have sall := (s13.trans s1).trans s4
  refine q p2 _ _ sall ((s13.trans s1).free n2) upd_same ?_
  rw [evs_d]
  have := dpa_same s4 hw
  simp only [Int.toNat_natCast] at this
  exact dpa_cat (dpa_same (s1.trans s4) h1) this
/-- what follows an event in a state, the law's own way -/
def sp__law_follow (K : PySem.W.Frag) : Sp := fun vs H Q _ => ∃ (cn : Cn) (s : V) (k : Nat) (e : Ev) (ev : V), vs = [s, .int (k : Int), ev] ∧ Dp K H s (stD cn.st) ∧ cn.Ok ∧ k < cn.st.length ∧ Dp K H ev e.d ∧ e.Ok cn.l cn.a ∧ Q (oV (tgt cn.st k e)) H
theorem ok__law_follow (T : Txt P K mg c) : Has P w K mg base 1 "_law_follow" ["states", "state", "event"] (sp__law_follow K) := by
  obtain ⟨f, fd, F, m, b⟩ := T.d__law_follow.ex
  refine ⟨f, fd, F.ok sc__law_follow (fun vs H Q E h => ?_) (fun cdv A outer s H vs Q E hr h => ?_), m, F.kp, b⟩
  · obtain ⟨cn, s, k, e, ev, rfl, hs, ho, hk, he, heo, q⟩ := h
    rfl
  obtain ⟨cn, s, k, e, ev, rfl, hs, ho, hk, he, heo, q⟩ := h
  refine ⟨_, (pss_cons (ps_if (pt_cmpR op_eq (pe_ix ix_tup (pv 2) pe_int (fun _ _ => rfl)) pe_str (nomark _))
      (pss_one (ps_ret (pe_ix ix_tup (pe_ix ix_tup (pv 0) (pv 1) (fun _ _ => rfl)) pe_int (fun _ _ => rfl))))
      pss_nil)
      (pss_cons (ps_if (pt_cmpR op_eq (pe_ix ix_tup (pv 2) pe_int (fun _ _ => rfl)) pe_str (nomark _))
      (pss_one (ps_ret (pe_ix ix_tup (pe_ix ix_tup (pe_ix ix_tup (pv 0) (pv 1) (fun _ _ => rfl)) pe_int (fun _ _ => rfl)) (pe_ix ix_tup (pv 2) pe_int (fun _ _ => rfl)) (fun _ _ => rfl))))
      pss_nil)
      (pss_one (ps_ret (pe_ix ix_tup (pe_ix ix_tup (pe_ix ix_tup (pv 0) (pv 1) (fun _ _ => rfl)) pe_int (fun _ _ => rfl)) (pe_ix ix_tup (pv 2) pe_int (fun _ _ => rfl)) (fun _ _ => rfl)))))), ?_⟩
  have hr : cn.st[k]? = some cn.st[k] := List.getElem?_eq_getElem hk
  obtain ⟨rl, wl⟩ := ho.rl _ (List.getElem_mem hk)
  have ht : ∀ e, tgt cn.st k e = cn.st[k].at e := fun e => by
    unfold tgt
    rw [hr]
  obtain ⟨a1, xs1, x1, rfl, q1, i1, d1⟩ := dp_ix hs (i := k) (d := cn.st[k].d) (by rw [List.getElem?_map, hr]; rfl)
  obtain ⟨a2, xs2, x2, rfl, q2, i2, d2⟩ := dp_ix d1 (i := 1) rfl
  rw [ht] at q
  generalize cn.st[k] = r at d1 d2 rl wl q
  cases e with
  | over =>
    obtain ⟨b, ys, y, rfl, q3, i3, d3⟩ := dp_ix he (i := 0) rfl
    cases d3
    refine ⟨_, rfl, b, ys, _, _, rfl, rfl, q3, i3, rfl, _, rfl, yes rfl ?_⟩
    refine ⟨_, rfl, _, rfl, a1, xs1, _, _, rfl, rfl, q1, i1, a2, xs2, _, _, rfl, rfl, q2, i2, ?_⟩
    rw [dp_oV d2]
    exact q
  | read n =>
    obtain ⟨b, ys, y, rfl, q3, i3, d3⟩ := dp_ix he (i := 0) rfl
    obtain ⟨b', ys', y', eb, q4, i4, d4⟩ := dp_ix he (i := 1) rfl
    cases eb
    cases d3
    cases d4
    obtain ⟨a3, xs3, x3, e3, q5, i5, d5⟩ := dp_ix d1 (i := 0) rfl
    cases e3
    obtain ⟨a6, xs6, x6, rfl, q6, i6, d6⟩ := dp_ix d5 (i := n) (opt_at (by have : (n : Int) < cn.l := heo; omega))
    refine ⟨_, rfl, b, ys, _, _, rfl, rfl, q3, i3, rfl, _, rfl, nope (by decide +kernel) ?_⟩
    refine ⟨_, rfl, b, ys, _, _, rfl, rfl, q3, i3, rfl, _, rfl, yes (by decide +kernel) ?_⟩
    refine ⟨_, rfl, _, rfl, a1, xs1, _, _, rfl, rfl, q1, i1, a2, xs3, _, _, rfl, rfl, q5, i5, _, rfl, b, ys', _, _, rfl, rfl, q4, i4, a6, xs6, _, _, rfl, rfl, q6, i6, ?_⟩
    rw [dp_oV d6]
    exact q
  | write n =>
    obtain ⟨b, ys, y, rfl, q3, i3, d3⟩ := dp_ix he (i := 0) rfl
    obtain ⟨b', ys', y', eb, q4, i4, d4⟩ := dp_ix he (i := 1) rfl
    cases eb
    cases d3
    cases d4
    obtain ⟨a3, xs3, x3, e3, q5, i5, d5⟩ := dp_ix d1 (i := 2) rfl
    cases e3
    obtain ⟨a6, xs6, x6, rfl, q6, i6, d6⟩ := dp_ix d5 (i := n) (opt_at (by have : (n : Int) < cn.a := heo; omega))
    refine ⟨_, rfl, b, ys, _, _, rfl, rfl, q3, i3, rfl, _, rfl, nope (by decide +kernel) ?_⟩
    refine ⟨_, rfl, b, ys, _, _, rfl, rfl, q3, i3, rfl, _, rfl, nope (by decide +kernel) ?_⟩
    refine ⟨_, rfl, _, rfl, a1, xs1, _, _, rfl, rfl, q1, i1, a2, xs3, _, _, rfl, rfl, q5, i5, _, rfl, b, ys', _, _, rfl, rfl, q4, i4, a6, xs6, _, _, rfl, rfl, q6, i6, ?_⟩
    rw [dp_oV d6]
    exact q


end
end Pf

namespace Pf
open PySem PySem.Spec PyProof.Rows L2
section
variable {P : Program} {w : World} {K : PySem.W.Frag} {mg : Str → Option Value} {base : Heap}
variable {c : Nat → Addr}
theorem dp_tup' {K : PySem.W.Frag} {H : Hp} {v : V} {ds : List PyData} (h : Dp K H v (.tuple ds)) : ∃ a xs, v = .ref a ∧ SqT K H a xs ∧ DpAll K H xs ds := dp_tup h
theorem catA_ok {K : PySem.W.Frag} {H : Hp} {a b : Addr} {xs ys : List V} {Q : VK} (h1 : SqT K H a xs) (h2 : SqT K H b ys) (l : xs.length + ys.length ≤ sizeLine) (q : ∀ r H', Same H H' → SqT K H' r (xs ++ ys) → Q (.ref r) H') : rCatA K (.ref a) (.ref b) H Q :=
  ⟨a, b, xs, ys, rfl, rfl, h1, h2, l, fun e => by subst e; exact q b H (Same.refl H) h2, fun _ e => by subst e; rw [List.append_nil] at q; exact q a H (Same.refl H) h1, fun _ _ r nr => q r _ (same_new nr) (SqT.of upd_same)⟩
theorem slA_ok {K : PySem.W.Frag} {H : Hp} {a : Addr} {xs : List V} {lo hi : Option Int} {Q : VK} (h : SqT K H a xs) (q : ∀ r H', Same H H' → SqT K H' r (cutV xs lo hi) → Q (.ref r) H') : rSlA K (.ref a) lo hi H Q := by
  refine ⟨a, xs, rfl, h, fun e => q a H (Same.refl H) ?_, fun _ p np => q p _ (same_new np) (SqT.of upd_same)⟩
  have : cutV xs lo hi = xs := by
    unfold cutV
    rw [e.1, e.2, List.drop_zero, Nat.sub_zero, List.take_length]
  rw [this]
  exact h
theorem dpa_take {K : PySem.W.Frag} {H : Hp} : ∀ {xs : List V} {ds : List PyData} (n : Nat), DpAll K H xs ds → DpAll K H (xs.take n) (ds.take n)
  | _, _, _, .nil => by rw [List.take_nil, List.take_nil]; exact .nil
  | _, _, 0, .cons _ _ => by rw [List.take_zero, List.take_zero]; exact .nil
  | _, _, n + 1, .cons h k => .cons h (dpa_take n k)
theorem dpa_drop {K : PySem.W.Frag} {H : Hp} : ∀ {xs : List V} {ds : List PyData} (n : Nat), DpAll K H xs ds → DpAll K H (xs.drop n) (ds.drop n)
  | _, _, _, .nil => by rw [List.drop_nil, List.drop_nil]; exact .nil
  | _, _, 0, .cons h k => .cons h k
  | _, _, n + 1, .cons _ k => dpa_drop n k
theorem dpa_get' {K : PySem.W.Frag} {H : Hp} : ∀ {xs : List V} {ds : List PyData} {i : Nat} {d : PyData}, DpAll K H xs ds → ds[i]? = some d → ∃ x, xs[i]? = some x ∧ Dp K H x d
  | _, _, _, _, .nil, h => by simp at h
  | _, _, 0, _, .cons h _, e => by
    cases e
    exact ⟨_, rfl, h⟩
  | _, _, i + 1, _, .cons _ k, e => dpa_get' (i := i) k e
def putD (ds : List PyData) (k : Nat) (d : PyData) : List PyData := (ds.take k ++ [d]) ++ ds.drop (k + 1)
def sp__law_put (K : PySem.W.Frag) : Sp := fun us H Q _ => ∃ (v x : V) (ds : List PyData) (k : Nat) (d : PyData), us = [v, .int (k : Int), x] ∧ Dp K H v (.tuple ds) ∧ Dp K H x d ∧ ds.length ≤ 1000 ∧ k ≤ 1000 ∧ ∀ w H', Same H H' → Dp K H' w (.tuple (putD ds k d)) → Q w H'
theorem ok__law_put (T : Txt P K mg c) : Has P w K mg base 1 "_law_put" ["row", "k", "part"] (sp__law_put K) := by
  obtain ⟨f, fd, F, m, b⟩ := T.d__law_put.ex
  refine ⟨f, fd, F.ok sc__law_put (fun vs H Q E h => ?_) (fun cdv A outer s H vs Q E hr h => ?_), m, F.kp, b⟩
  · obtain ⟨v, x, ds, k, d, rfl, hv, hx, l1, l2, q⟩ := h
    rfl
  obtain ⟨v, x, ds, k, d, rfl, hv, hx, l1, l2, q⟩ := h
  refine ⟨_, (pss_one (ps_ret (pe_op op_catA (pe_op op_catA (pe_slice sl_tupA (pv 0) po_none (po_some (pv 1))) (pe_tup (pa_cons (pv 2) pa_nil))) (pe_slice sl_tupA (pv 0) (po_some (pe_op op_add (pv 1) pe_int)) po_none)))), ?_⟩
  obtain ⟨a, xs, rfl, hq, hk⟩ := dp_tup' hv
  have lx := dpa_len hk
  refine ⟨_, rfl, _, rfl, (k : Int), rfl, slA_ok hq fun r1 H1 s1 h1 => ?_⟩
  rw [cut_to] at h1
  refine ⟨_, rfl, by show 1 ≤ sizeLine; decide, fun t nt => ?_⟩
  have s2 := s1.trans (same_new (o := .tup [x]) nt)
  have h1' := seqT_same (same_new (o := .tup [x]) nt) h1
  refine catA_ok h1' (SqT.of upd_same) (line_small (by rw [List.length_take]; show min k xs.length + 1 ≤ _; omega)) fun r2 H3 s3 h3 => ?_
  have s23 := s2.trans s3
  refine ⟨_, rfl, _, rfl, _, _, rfl, rfl, _, rfl, ?_⟩
  unfold tNoPart
  refine slA_ok (seqT_same s23 hq) fun r3 H4 s4 h4 => ?_
  have e : cutV xs (some ((k : Int) + 1)) none = xs.drop (k + 1) := cut_from xs (k + 1)
  have h4' : SqT K H4 r3 (xs.drop (k + 1)) := e ▸ h4
  refine catA_ok (seqT_same s4 h3) h4' (line_small (by rw [List.length_append, List.length_take, List.length_drop]; show min k xs.length + 1 + (xs.length - (k + 1)) ≤ _; omega)) fun r4 H5 s5 h5 => ?_
  have s25 := (s23.trans s4).trans s5
  refine q _ _ s25 (.tup h5 (dpa_cat (dpa_cat (dpa_take k (dpa_same s25 hk)) (.cons (dp_same s25 hx) .nil)) (dpa_drop (k + 1) (dpa_same s25 hk))))
theorem putD_set {ds : List PyData} {k : Nat} {d : PyData} (h : k < ds.length) : putD ds k d = ds.set k d := by
  unfold putD
  rw [List.set_eq_take_append_cons_drop, if_pos h, List.append_assoc]
  rfl
def Row.Fit (r : Row) : Ev → Prop
  | .over => True
  | .read n => n < r.rd.length
  | .write n => n < r.wr.length
def sp__law_turned_row (K : PySem.W.Frag) : Sp := fun us H Q _ => ∃ (v : V) (st : List Row) (k : Nat) (r : Row) (e : Ev) (ev : V) (t : Option Int), us = [v, .int (k : Int), ev, oV t] ∧ Dp K H v (stD st) ∧ st.length ≤ 1000 ∧ st[k]? = some r ∧ r.rd.length ≤ 1000 ∧ r.wr.length ≤ 1000 ∧ Dp K H ev e.d ∧ r.Fit e ∧
  ∀ w H', Same H H' → Dp K H' w (stD (st.set k (r.turn e t))) → Q w H'
theorem ok__law_turned_row (T : Txt P K mg c) : Has P w K mg base 2 "_law_turned_row" ["states", "state", "event", "target"] (sp__law_turned_row K) := by
  obtain ⟨f, fd, F, m, b⟩ := T.d__law_turned_row.ex
  obtain ⟨f__law_put, fd__law_put, G__law_put, m__law_put, k__law_put, b__law_put⟩ := ok__law_put (P := P) (w := w) (base := base) T
  refine ⟨f, fd, F.ok sc__law_turned_row (fun vs H Q E h => ?_) (fun cdv A outer s H vs Q E hr h => ?_), m, F.kp, b⟩
  · obtain ⟨v, st, k, r, e, ev, t, rfl, hv, l1, hrk, l2, l3, he, hf, q⟩ := h
    rfl
  obtain ⟨v, st, k, r, e, ev, t, rfl, hv, l1, hrk, l2, l3, he, hf, q⟩ := h
  refine ⟨_, (pss_cons (ps_set (i := 4) sc__law_turned_row.nd rfl (.inl rfl) (pe_ix ix_tup (pv 0) (pv 1) (fun _ _ => rfl)))
      (C8.pss_cut (ps_if (pt_cmpR op_eq (pe_ix ix_tup (pv 2) pe_int (fun _ _ => rfl)) pe_str (nomark _))
      (pss_one (ps_set (i := 4) sc__law_turned_row.nd rfl (.inl rfl) (pe_call G__law_put (hr.mono (by decide)) (by rfl) m__law_put k__law_put b__law_put .nil pass0 (pa_cons (pv 4) (pa_cons pe_int (pa_cons (pv 3) pa_nil))))))
      (pss_one (ps_if (pt_cmpR op_eq (pe_ix ix_tup (pv 2) pe_int (fun _ _ => rfl)) pe_str (nomark _))
        (pss_one (ps_set (i := 4) sc__law_turned_row.nd rfl (.inl rfl) (pe_call G__law_put (hr.mono (by decide)) (by rfl) m__law_put k__law_put b__law_put .nil pass0 (pa_cons (pv 4) (pa_cons pe_int (pa_cons (pe_call G__law_put (hr.mono (by decide)) (by rfl) m__law_put k__law_put b__law_put .nil pass0 (pa_cons (pe_ix ix_tup (pv 4) pe_int (fun _ _ => rfl)) (pa_cons (pe_ix ix_tup (pv 2) pe_int (fun _ _ => rfl)) (pa_cons (pv 3) pa_nil)))) pa_nil))))))
        (pss_one (ps_set (i := 4) sc__law_turned_row.nd rfl (.inl rfl) (pe_call G__law_put (hr.mono (by decide)) (by rfl) m__law_put k__law_put b__law_put .nil pass0 (pa_cons (pv 4) (pa_cons pe_int (pa_cons (pe_call G__law_put (hr.mono (by decide)) (by rfl) m__law_put k__law_put b__law_put .nil pass0 (pa_cons (pe_ix ix_tup (pv 4) pe_int (fun _ _ => rfl)) (pa_cons (pe_ix ix_tup (pv 2) pe_int (fun _ _ => rfl)) (pa_cons (pv 3) pa_nil)))) pa_nil)))))))))
      (pss_one (ps_ret (pe_call G__law_put (hr.mono (by decide)) (by rfl) m__law_put k__law_put b__law_put .nil pass0 (pa_cons (pv 0) (pa_cons (pv 1) (pa_cons (pv 4) pa_nil)))))))), ?_⟩
  have hk := (List.getElem?_eq_some_iff.mp hrk).1
  obtain ⟨sa, xs, x, rfl, hq, hx, hrow⟩ := dp_ix hv (i := k) (d := r.d) (by rw [List.getElem?_map, hrk]; rfl)
  have hrow' : Dp K H x (.tuple [.tuple (r.rd.map oD), oD r.ov, .tuple (r.wr.map oD), .bool r.fi, .bool r.si]) := hrow
  refine ⟨_, rfl, _, rfl, sa, xs, _, _, rfl, rfl, hq, hx, ?_⟩
  refine ⟨fun σ' H' => ∃ (y : V), σ' = [some (.ref sa), some (.int (k : Int)), some ev, some (oV t), some y] ∧ Same H H' ∧ Dp K H' y (r.turn e t).d, ?_, ?_⟩
  · cases e with
    | over =>
      obtain ⟨b, ys, y, rfl, q3, i3, d3⟩ := dp_ix he (i := 0) rfl
      cases d3
      refine ⟨_, rfl, b, ys, _, _, rfl, rfl, q3, i3, rfl, _, rfl, yes rfl ?_⟩
      exact ⟨_, rfl, _, rfl, x, oV t, _, 1, oD t, rfl, hrow', dp_o t, by show 5 ≤ 1000; decide, by decide, fun w H' s' hw => ⟨w, rfl, s', hw⟩⟩
    | read n =>
      obtain ⟨b, ys, y, rfl, q3, i3, d3⟩ := dp_ix he (i := 0) rfl
      obtain ⟨b', ys', y', eb, q4, i4, d4⟩ := dp_ix he (i := 1) rfl
      cases eb
      cases d3
      cases d4
      have hn : n < r.rd.length := hf
      obtain ⟨ra, ws, rr, rfl, hqr, hir, hrr⟩ := dp_ix hrow' (i := 0) rfl
      refine ⟨_, rfl, b, ys, _, _, rfl, rfl, q3, i3, rfl, _, rfl, nope (by decide +kernel) ?_⟩
      refine ⟨_, rfl, b, ys, _, _, rfl, rfl, q3, i3, rfl, _, rfl, yes rfl ?_⟩
      refine ⟨_, rfl, _, rfl, ra, ws, _, _, rfl, rfl, hqr, hir, _, rfl, b, ys', _, _, rfl, rfl, q4, i4, _, rfl, rr, oV t, _, n, oD t, rfl, hrr, dp_o t, by rw [List.length_map]; exact l2, by omega, fun w H1 s1 hw => ?_⟩
      rw [putD_set (by rw [List.length_map]; exact hn), ← List.map_set] at hw
      exact ⟨.ref ra, w, _, 0, _, rfl, dp_same s1 hrow', hw, by show 5 ≤ 1000; decide, by decide, fun z H2 s2 hz => ⟨z, rfl, s1.trans s2, hz⟩⟩
    | write n =>
      obtain ⟨b, ys, y, rfl, q3, i3, d3⟩ := dp_ix he (i := 0) rfl
      obtain ⟨b', ys', y', eb, q4, i4, d4⟩ := dp_ix he (i := 1) rfl
      cases eb
      cases d3
      cases d4
      have hn : n < r.wr.length := hf
      obtain ⟨ra, ws, rr, rfl, hqr, hir, hrr⟩ := dp_ix hrow' (i := 2) rfl
      refine ⟨_, rfl, b, ys, _, _, rfl, rfl, q3, i3, rfl, _, rfl, nope (by decide +kernel) ?_⟩
      refine ⟨_, rfl, b, ys, _, _, rfl, rfl, q3, i3, rfl, _, rfl, nope (by decide +kernel) ?_⟩
      refine ⟨_, rfl, _, rfl, ra, ws, _, _, rfl, rfl, hqr, hir, _, rfl, b, ys', _, _, rfl, rfl, q4, i4, _, rfl, rr, oV t, _, n, oD t, rfl, hrr, dp_o t, by rw [List.length_map]; exact l3, by omega, fun w H1 s1 hw => ?_⟩
      rw [putD_set (by rw [List.length_map]; exact hn), ← List.map_set] at hw
      exact ⟨.ref ra, w, _, 2, _, rfl, dp_same s1 hrow', hw, by show 5 ≤ 1000; decide, by decide, fun z H2 s2 hz => ⟨z, rfl, s1.trans s2, hz⟩⟩
  rintro σ' H1 ⟨y, rfl, s1, hy⟩
  refine ⟨_, rfl, _, rfl, _, rfl, .ref sa, y, _, k, _, rfl, dp_same s1 hv, hy, by rw [List.length_map]; exact l1, by omega, fun w H2 s2 hw => ?_⟩
  rw [putD_set (by rw [List.length_map]; exact hk), ← List.map_set] at hw
  exact q w H2 (s1.trans s2) hw


end
end Pf

namespace Pf
open PySem PySem.Spec PyProof.Rows L2
section
variable {P : Program} {w : World} {K : PySem.W.Frag} {mg : Str → Option Value} {base : Heap}
variable {c : Nat → Addr}
def sp__law_target (K : PySem.W.Frag) : Sp := fun vs H Q _ => ∃ (r : Addr) (n : Nat), vs = [.ref r, .int (n : Int)] ∧ RD H r ∧ n ≤ 1000 ∧ ∀ (o : Option Int) (H' : Hp), Fr r H H' → RD H' r → (∀ k, o = some k → 0 ≤ k ∧ k < (n : Int)) → Q (oV o) H'
theorem ok__law_target (T : Txt P K mg c) : Has P w K mg base 2 "_law_target" ["reader", "many"] (sp__law_target K) := by
  obtain ⟨f, fd, F, m, b⟩ := T.d__law_target.ex
  obtain ⟨f__law_next, fd__law_next, G__law_next, m__law_next, k__law_next, b__law_next⟩ := ok__law_next (P := P) (w := w) (base := base) T
  refine ⟨f, fd, F.ok sc__law_target (fun vs H Q E h => ?_) (fun cdv A outer s H vs Q E hr h => ?_), m, F.kp, b⟩
  · obtain ⟨r, n, rfl, hR, hn, q⟩ := h
    rfl
  obtain ⟨r, n, rfl, hR, hn, q⟩ := h
  refine ⟨_, (pss_cons (ps_set (i := 2) sc__law_target.nd rfl (.inl rfl) (pe_call G__law_next (hr.mono (by decide)) (by rfl) m__law_next k__law_next b__law_next .nil pass0 (pa_cons (pv 0) (pa_cons (pe_op op_add (pv 1) pe_int) pa_nil))))
      (pss_cons (ps_if (pt_cmpR op_eq (pv 2) (pv 1) (nomark _))
      (pss_one (ps_ret pe_non))
      pss_nil)
      (pss_one (ps_ret (pv 2))))), ?_⟩
  refine ⟨_, rfl, _, rfl, _, _, rfl, rfl, r, (n : Int) + 1, rfl, hR, by omega, by omega, fun v H1 f1 R1 a b => ?_⟩
  refine ⟨_, rfl, _, rfl, rfl, _, rfl, ite2 (fun e => ?_) (fun e => ?_)⟩
  · exact q none H1 f1 R1 fun k h => by cases h
  · have e2 := int_ne_bl e
    exact ⟨_, rfl, q (some v) H1 f1 R1 fun k h => by cases h; omega⟩
structure Row.Ok (r : Row) (l a n : Nat) : Prop where
  rl : r.rd.length = l
  wl : r.wr.length = a
  rt : ∀ t ∈ r.rd, ∀ k, t = some k → 0 ≤ k ∧ k < (n : Int)
  ot : ∀ k, r.ov = some k → 0 ≤ k ∧ k < (n : Int)
  wt : ∀ t ∈ r.wr, ∀ k, t = some k → 0 ≤ k ∧ k < (n : Int)
theorem oks_rows {st : List Row} {l a m : Nat} (hl : l ≤ 1000) (ha : a ≤ 1000) (h : ∀ r ∈ st, r.Ok l a m) : ∀ d ∈ st.map Row.d, tupOk 2 d := fun d hd => by
  obtain ⟨r, hr, rfl⟩ := List.mem_map.mp hd
  have o := h r hr
  exact ok_row 0 r (by rw [o.rl]; exact hl) (by rw [o.wl]; exact ha)
/-- what is drawn keeps point 19 -/
theorem drawn_ok {l a n : Nat} {st : List Row} (l1 : 1 ≤ l) (l3 : l ≤ 3) (a2 : 2 ≤ a) (a4 : a ≤ 4) (n1 : 1 ≤ n) (n8 : n ≤ 8) (ls : st.length = n) (h : ∀ r ∈ st, r.Ok l a n) : (⟨l, a, st⟩ : Cn).Ok := by
  refine ⟨by show 1 ≤ (l : Int); omega, by show (l : Int) ≤ 3; omega, by show 2 ≤ (a : Int); omega, by show (a : Int) ≤ 4; omega, by show 1 ≤ st.length; omega, by show st.length ≤ 8; omega, fun r hr => ?_, fun r hr o ho t e => ?_⟩
  · have o := h r hr
    refine ⟨?_, ?_⟩
    · show (r.rd.length : Int) = (l : Int)
      rw [o.rl]
    · show (r.wr.length : Int) = (a : Int)
      rw [o.wl]
  · show 0 ≤ t ∧ t < (st.length : Int)
    rw [ls]
    have ok := h r hr
    unfold Row.ts at ho
    rcases List.mem_append.mp ho with ho | ho
    · rcases List.mem_append.mp ho with ho | ho
      · exact ok.rt o ho t e
      · rcases List.mem_singleton.mp ho with rfl
        exact ok.ot t e
    · exact ok.wt o ho t e
theorem dp_R {K : PySem.W.Frag} {H H' : Hp} {r : Addr} {v : V} {d : PyData} (n : Nat) (R : RD H r) (f : Fr r H H') (ok : tupOk n d) (h : Dp K H v d) : Dp K H' v d := by
  obtain ⟨_, _, _, e⟩ := R
  exact dp_frl e f n ok h
theorem dpa_R {K : PySem.W.Frag} {H H' : Hp} {r : Addr} {vs : List V} {ds : List PyData} (n : Nat) (R : RD H r) (f : Fr r H H') (ok : ∀ d ∈ ds, tupOk n d) (h : DpAll K H vs ds) : DpAll K H' vs ds := by
  obtain ⟨_, _, _, e⟩ := R
  exact dpa_frl e f n ok h
theorem dpa_oVs {K : PySem.W.Frag} {H : Hp} : ∀ os : List (Option Int), DpAll K H (os.map oV) (os.map oD)
  | [] => .nil
  | o :: os => .cons (dp_o o) (dpa_oVs os)
theorem ok_os (n : Nat) (os : List (Option Int)) (h : os.length ≤ 1000) : tupOk (n + 1) (.tuple (os.map oD)) := by
  refine ⟨by rw [List.length_map]; exact Nat.le_trans h (by decide), fun d hd => ?_⟩
  obtain ⟨o, _, rfl⟩ := List.mem_map.mp hd
  exact ok_o n o
def sp__law_states (K : PySem.W.Frag) : Sp := fun vs H Q _ => ∃ (r : Addr) (l a n : Nat), vs = [.ref r, .int (l : Int), .int (a : Int), .int (n : Int)] ∧ RD H r ∧ l ≤ 3 ∧ a ≤ 4 ∧ n ≤ 8 ∧
  ∀ (v : V) (st : List Row) (H' : Hp), Fr r H H' → RD H' r → st.length = n → (∀ x ∈ st, x.Ok l a n) → Dp K H' v (stD st) → Q v H'
theorem ok__law_states (T : Txt P K mg c) : Has P w K mg base 3 "_law_states" ["reader", "letters", "answers", "many"] (sp__law_states K) := by
  obtain ⟨f, fd, F, m, b⟩ := T.d__law_states.ex
  obtain ⟨f__law_target, fd__law_target, G__law_target, m__law_target, k__law_target, b__law_target⟩ := ok__law_target (P := P) (w := w) (base := base) T
  obtain ⟨f__law_next, fd__law_next, G__law_next, m__law_next, k__law_next, b__law_next⟩ := ok__law_next (P := P) (w := w) (base := base) T
  refine ⟨f, fd, F.ok sc__law_states (fun vs H Q E h => ?_) (fun cdv A outer s H vs Q E hr h => ?_), m, F.kp, b⟩
  · obtain ⟨r, l, a, n, rfl, hR, hl, ha, hn, q⟩ := h
    rfl
  obtain ⟨r, l, a, n, rfl, hR, hl, ha, hn, q⟩ := h
  refine ⟨_, (pss_cons (ps_set (i := 4) sc__law_states.nd rfl (.inl rfl) (pe_lst pa_nil))
      (pss_cons (ps_for PassesOwn.never rfl (pi_range1 (by rfl) T.z_range (pa_cons (pv 3) pa_nil)) (pg_name (i := 5) sc__law_states.nd rfl (.inl rfl))
      (pss_cons (ps_set (i := 6) sc__law_states.nd rfl (.inl rfl) (pe_callTy call_tuple_of (by rfl) T.z_tuple (by decide +kernel) (pa_cons (pe_lc (own := [("letter", 10)]) (g := gName 10) (by rfl) sc__law_states.nd (pi_range1 (by rfl) T.z_range (pa_cons (pv 1) pa_nil)) (blkOk_by (own := [("letter", 10)]) (N := ["reader", "letters", "answers", "many", "states", "k", "reads", "over", "writes", "flags", "letter"]) (sc := defScope s__law_states) (by decide +kernel)) (fun _ _ _ _ _ => pg_name (i := 10) sc__law_states.nd rfl (Or.inl rfl)) (fun _ _ _ _ _ => pts_nil) (fun _ _ _ _ _ => (pe_call G__law_target (hr.mono (by decide)) (by rfl) m__law_target k__law_target b__law_target .nil pass0 (pa_cons (pv 0) (pa_cons (pv 3) pa_nil))))) pa_nil)))
        (pss_cons (ps_set (i := 7) sc__law_states.nd rfl (.inl rfl) (pe_call G__law_target (hr.mono (by decide)) (by rfl) m__law_target k__law_target b__law_target .nil pass0 (pa_cons (pv 0) (pa_cons (pv 3) pa_nil))))
        (pss_cons (ps_set (i := 8) sc__law_states.nd rfl (.inl rfl) (pe_callTy call_tuple_of (by rfl) T.z_tuple (by decide +kernel) (pa_cons (pe_lc (own := [("letter", 10)]) (g := gName 10) (by rfl) sc__law_states.nd (pi_range1 (by rfl) T.z_range (pa_cons (pv 2) pa_nil)) (blkOk_by (own := [("letter", 10)]) (N := ["reader", "letters", "answers", "many", "states", "k", "reads", "over", "writes", "flags", "letter"]) (sc := defScope s__law_states) (by decide +kernel)) (fun _ _ _ _ _ => pg_name (i := 10) sc__law_states.nd rfl (Or.inl rfl)) (fun _ _ _ _ _ => pts_nil) (fun _ _ _ _ _ => (pe_call G__law_target (hr.mono (by decide)) (by rfl) m__law_target k__law_target b__law_target .nil pass0 (pa_cons (pv 0) (pa_cons (pv 3) pa_nil))))) pa_nil)))
        (pss_cons (ps_set (i := 9) sc__law_states.nd rfl (.inl rfl) (pe_call G__law_next (hr.mono (by decide)) (by rfl) m__law_next k__law_next b__law_next .nil pass0 (pa_cons (pv 0) (pa_cons pe_int pa_nil))))
        (pss_one (ps_expr (pe_bm PySem.F.plainAttrs_list PySem.F.slot_list_append PySem.F.type_list_append mt_append (pv 4) (pa_cons (pe_tup (pa_cons (pv 6) (pa_cons (pv 7) (pa_cons (pv 8) (pa_cons (pe_cmpR op_eq (pe_op op_fdivN (pv 9) pe_int) pe_int (nomark _)) (pa_cons (pe_cmpR op_eq (pe_op op_mod (pe_callTy call_int1 (by rfl) T.z_int (by decide +kernel) (pa_cons (pv 9) pa_nil)) pe_int) pe_int (nomark _)) pa_nil)))))) pa_nil)))))))))
      (pss_one (ps_ret (pe_callTy call_tuple_of (by rfl) T.z_tuple (by decide +kernel) (pa_cons (pv 4) pa_nil)))))), ?_⟩
  refine ⟨by show 0 ≤ sizeLine; decide, fun D nD => ?_⟩
  have neD : D ≠ r := hR.ne nD
  refine ⟨_, rfl, (n : Int), rfl, by omega, by omega, for_range (fun i σ H' => ∃ (xs : List V) (st : List Row) (y5 y6 y7 y8 y9 : Option V), σ = [some (.ref r), some (.int (l : Int)), some (.int (a : Int)), some (.int (n : Int)), some (.ref D), y5, y6, y7, y8, y9, none] ∧
    Fr r H H' ∧ RD H' r ∧ H' D = some (.lst xs) ∧ DpAll K H' xs (st.map Row.d) ∧ st.length = i ∧ ∀ x ∈ st, x.Ok l a n) ⟨[], [], none, none, none, none, none, rfl, Fr.new nD, hR.of (same_new nD), upd_same, .nil, rfl, fun x h => nomatch h⟩ ?_ ?_⟩
  · rintro i σ H1 hi ⟨xs, st, y5, y6, y7, y8, y9, rfl, f1, R1, hD, hx, ls, oks⟩
    have hi8 : i < n := by simpa using hi
    have okx := oks_rows (Nat.le_trans hl (by decide)) (Nat.le_trans ha (by decide)) oks
    -- reads
    refine ⟨_, rfl, (l : Int), rfl, by omega, by omega, fun D2 nD2 => ?_⟩
    have neD2 : D2 ≠ r := R1.ne nD2
    refine lc_range (lo := 0) (fun j H' => Fr r H1 H' ∧ RD H' r ∧ ∃ os : List (Option Int), os.length = j ∧ (∀ t ∈ os, ∀ k, t = some k → 0 ≤ k ∧ k < (n : Int)) ∧ H' D2 = some (.lst (os.map oV))) ⟨Fr.new nD2, R1.of (same_new nD2), [], rfl, (fun t h => nomatch h), upd_same⟩ (fun j H2 hj h => ?_) (fun H2 h => ?_)
    · obtain ⟨f2, R2, os, lo, oos, hD2⟩ := h
      have hj3 : j < l := by simpa using hj
      refine ⟨rfl, _, rfl, _, rfl, r, n, rfl, R2, by omega, fun o H3 f3 R3 ho => ⟨_, f3 _ _ neD2 hD2, ?_, ?_, ?_, os ++ [o], ?_, ?_, ?_⟩⟩
      · rw [List.length_map]
        exact small1000 (by omega)
      · exact (f2.trans f3).mut nD2
      · obtain ⟨c', k', d', e⟩ := R3
        exact ⟨c', k', d', (upd_ne neD2.symm).trans e⟩
      · rw [List.length_append, lo]
        rfl
      · intro t ht
        rcases List.mem_append.mp ht with ht | ht
        · exact oos t ht
        · rcases List.mem_singleton.mp ht with rfl
          exact ho
      · rw [upd_same, List.map_append]
        rfl
    obtain ⟨f2, R2, os, lo, oos, hD2⟩ := h
    have lo2 : os.length = l := by simpa using lo
    refine ⟨D2, _, rfl, .inl ⟨SqL.of hD2, fun t1 nt1 => ?_⟩⟩
    have f3 : Fr r H1 (upd H2 t1 (.tup (os.map oV))) := f2.trans (Fr.new nt1)
    have R3 := R2.of (same_new (o := .tup (os.map oV)) nt1)
    have hd1 : Dp K (upd H2 t1 (.tup (os.map oV))) (.ref t1) (.tuple (os.map oD)) := .tup (SqT.of upd_same) (dpa_oVs os)
    generalize upd H2 t1 (.tup (os.map oV)) = H3 at f3 R3 hd1 ⊢
    -- over
    refine ⟨_, rfl, _, rfl, r, n, rfl, R3, by omega, fun ov H4 f4 R4 hov => ?_⟩
    have hd2 := dp_R 1 R3 f4 (ok_os 0 os (by omega)) hd1
    have f14 := f3.trans f4
    -- writes
    refine ⟨_, rfl, (a : Int), rfl, by omega, by omega, fun D3 nD3 => ?_⟩
    have neD3 : D3 ≠ r := R4.ne nD3
    refine lc_range (lo := 0) (fun j H' => Fr r H4 H' ∧ RD H' r ∧ ∃ os : List (Option Int), os.length = j ∧ (∀ t ∈ os, ∀ k, t = some k → 0 ≤ k ∧ k < (n : Int)) ∧ H' D3 = some (.lst (os.map oV))) ⟨Fr.new nD3, R4.of (same_new nD3), [], rfl, (fun t h => nomatch h), upd_same⟩ (fun j H5 hj h => ?_) (fun H5 h => ?_)
    · obtain ⟨f5, R5, os, lo, oos, hD3⟩ := h
      have hj3 : j < a := by simpa using hj
      refine ⟨rfl, _, rfl, _, rfl, r, n, rfl, R5, by omega, fun o H6 f6 R6 ho => ⟨_, f6 _ _ neD3 hD3, ?_, ?_, ?_, os ++ [o], ?_, ?_, ?_⟩⟩
      · rw [List.length_map]
        exact small1000 (by omega)
      · exact (f5.trans f6).mut nD3
      · obtain ⟨c', k', d', e⟩ := R6
        exact ⟨c', k', d', (upd_ne neD3.symm).trans e⟩
      · rw [List.length_append, lo]
        rfl
      · intro t ht
        rcases List.mem_append.mp ht with ht | ht
        · exact oos t ht
        · rcases List.mem_singleton.mp ht with rfl
          exact ho
      · rw [upd_same, List.map_append]
        rfl
    obtain ⟨f5, R5, ws, lw, ows, hD3⟩ := h
    have lw2 : ws.length = a := by simpa using lw
    refine ⟨D3, _, rfl, .inl ⟨SqL.of hD3, fun t2 nt2 => ?_⟩⟩
    have f6 : Fr r H4 (upd H5 t2 (.tup (ws.map oV))) := f5.trans (Fr.new nt2)
    have R6 := R5.of (same_new (o := .tup (ws.map oV)) nt2)
    have hd3 : Dp K (upd H5 t2 (.tup (ws.map oV))) (.ref t2) (.tuple (ws.map oD)) := .tup (SqT.of upd_same) (dpa_oVs ws)
    generalize upd H5 t2 (.tup (ws.map oV)) = H6 at f6 R6 hd3 ⊢
    have hd4 := dp_R 1 R4 f6 (ok_os 0 os (by omega)) hd2
    have f16 := f14.trans f6
    -- flags
    refine ⟨_, rfl, r, 4, rfl, R6, by decide, by decide, fun fl H7 f7 R7 fa fb => ?_⟩
    have hd5 := dp_R 1 R6 f7 (ok_os 0 os (by omega)) hd4
    have hd6 := dp_R 1 R6 f7 (ok_os 0 ws (by omega)) hd3
    have f17 := f16.trans f7
    have hD7 := f17 _ _ neD hD
    have hx7 := dpa_R 2 R1 f17 okx hx
    refine ⟨_, rfl, .inl ⟨rfl, _, SqL.of hD7⟩, _, rfl, _, rfl, _, rfl, ?_⟩
    refine ⟨_, rfl, _, _, rfl, rfl, ⟨by decide, by decide⟩, rfl, ?_⟩
    refine ⟨_, rfl, .inl ⟨_, rfl, _, _, rfl, rfl, (show (0 : Int) < 2 by decide), rfl, ?_⟩⟩
    refine ⟨by show 5 ≤ sizeLine; decide, fun t3 nt3 => ⟨D, xs, _, rfl, rfl, same_new nt3 _ _ hD7, small1000 ?_, ?_⟩⟩
    · have := dpa_len hx7
      rw [List.length_map] at this
      omega
    have s8 := same_new (o := .tup [.ref t1, oV ov, .ref t2, .bl (decide (V.int (Int.fdiv fl 2) = V.int 1)), .bl (decide (V.int (fl % 2) = V.int 1))]) nt3
    have R8 := R7.of s8
    refine ⟨_, st ++ [⟨os, ov, ws, decide (V.int (Int.fdiv fl 2) = V.int 1), decide (V.int (fl % 2) = V.int 1)⟩], _, _, _, _, _, rfl, ?_, ?_, upd_same, ?_, ?_, ?_⟩
    · exact ((f1.trans f17).trans (Fr.of s8)).mut nD
    · obtain ⟨c', k', d', e⟩ := R8
      exact ⟨c', k', d', (upd_ne neD.symm).trans e⟩
    · rw [List.map_append]
      exact push_dp 2 (s8 _ _ hD7) (dpa_same s8 hx7) okx (.tup (SqT.of upd_same) (.cons (dp_same s8 hd5) (.cons (dp_o ov) (.cons (dp_same s8 hd6) (.cons (.bl _) (.cons (.bl _) .nil)))))) (ok_row 0 _ (by show os.length ≤ 1000; omega) (by show ws.length ≤ 1000; omega))
    · rw [List.length_append, ls]
      rfl
    · intro x hx
      rcases List.mem_append.mp hx with hx | hx
      · exact oks x hx
      · rcases List.mem_singleton.mp hx with rfl
        exact ⟨lo2, lw2, oos, hov, ows⟩
  · rintro σ H1 ⟨xs, st, y5, y6, y7, y8, y9, rfl, f1, R1, hD, hx, ls, oks⟩
    refine ⟨_, rfl, D, xs, rfl, .inl ⟨SqL.of hD, fun t nt => ?_⟩⟩
    have s2 := same_new (o := .tup xs) nt
    exact q _ st _ (f1.trans (Fr.of s2)) (R1.of s2) (by simpa using ls) oks (.tup (SqT.of upd_same) (dpa_same s2 hx))


end
end Pf

namespace Pf
open PySem PySem.Spec PyProof.Rows L2
section
variable {P : Program} {w : World} {K : PySem.W.Frag} {mg : Str → Option Value} {base : Heap}
variable {c : Nat → Addr}
theorem dpa_getx {K : PySem.W.Frag} {H : Hp} {x : V} : ∀ {xs : List V} {ds : List PyData} {i : Nat}, DpAll K H xs ds → xs[i]? = some x → ∃ d, ds[i]? = some d ∧ Dp K H x d
  | _, _, _, .nil, h => by simp at h
  | _, _, 0, .cons h _, e => by
    have e' := Option.some.inj e
    subst e'
    exact ⟨_, rfl, h⟩
  | _, _, i + 1, .cons _ k, e => dpa_getx (i := i) k e
theorem ok_two (n : Nat) (x y : Int) : tupOk (n + 1) (.tuple [.int x, .int y]) := by
  have h1 : ∀ i : Int, tupOk n (.int i) := fun x => by cases n <;> simp [tupOk]
  refine ⟨by show 2 ≤ 100000; decide, fun d hd => ?_⟩
  rcases List.mem_cons.mp hd with rfl | hd
  · exact h1 _
  · rcases List.mem_singleton.mp hd with rfl
    exact h1 _
def sp__law_right (K : PySem.W.Frag) (C : Addr) : Sp := fun vs H Q _ => ∃ (p : Addr) (v : V) (cn : Cn), vs = [.ref p, v] ∧ ConAt K C H p cn ∧ Dp K H v cn.d ∧ cn.Ok ∧ ∀ H', Same H H' → Q (.bl true) H'
theorem ok__law_right (T : Txt P K mg c) : Has P w K mg base 7 "_law_right" ["contract", "parts"] (sp__law_right K (c id_Contract)) := by
  obtain ⟨f, fd, F, m, b⟩ := T.d__law_right.ex
  obtain ⟨f__law_same, fd__law_same, G__law_same, m__law_same, k__law_same, b__law_same⟩ := ok__law_same (P := P) (w := w) (base := base) T 3
  obtain ⟨f__law_events, fd__law_events, G__law_events, m__law_events, k__law_events, b__law_events⟩ := ok__law_events (P := P) (w := w) (base := base) T
  obtain ⟨f__law_follow, fd__law_follow, G__law_follow, m__law_follow, k__law_follow, b__law_follow⟩ := ok__law_follow (P := P) (w := w) (base := base) T
  obtain ⟨f_Contract_follow, fd_Contract_follow, G_Contract_follow, M_Contract_follow, b_Contract_follow⟩ := ok_Contract_follow (P := P) (w := w) (base := base) T
  refine ⟨f, fd, F.ok sc__law_right (fun vs H Q E h => ?_) (fun cdv A outer s H vs Q E hr h => ?_), m, F.kp, b⟩
  · obtain ⟨p, v, cn, rfl, hc, hv, ho, q⟩ := h
    rfl
  obtain ⟨p, v, cn, rfl, hc, hv, ho, q⟩ := h
  refine ⟨_, (pss_cons (ps_if (PW.pt (pw_or (pt_not (pt_val (pe_callB (C8.call_isC T.ins_Contract) (by rfl) T.z_isinstance (by decide +kernel) (pa_cons (pv 0) (pa_cons (pe_glob (v := .ref (c 24)) (by rfl) T.g_Contract rfl) pa_nil))))) (pw_or1 (pt_not (pt_val (pe_call G__law_same (hr.mono (by decide)) (by rfl) m__law_same k__law_same b__law_same .nil pass0 (pa_cons (pe_tup (pa_cons (pe_fld (pv 0) rfl) (pa_cons (pe_fld (pv 0) rfl) pa_nil))) (pa_cons (pe_tup (pa_cons (pe_ix ix_tup (pv 1) pe_int (fun _ _ => rfl)) (pa_cons (pe_ix ix_tup (pv 1) pe_int (fun _ _ => rfl)) pa_nil))) pa_nil))))))))
      (pss_one (ps_ret pe_bl))
      pss_nil)
      (pss_cons (ps_for PassesOwn.never rfl (pi_range1 (by rfl) T.z_range (pa_cons (pe_callB call_len_seq (by rfl) T.z_len (by decide +kernel) (pa_cons (pe_ix ix_tup (pv 1) pe_int (fun _ _ => rfl)) pa_nil)) pa_nil)) (pg_name (i := 2) sc__law_right.nd rfl (.inl rfl))
      (pss_one (ps_for PassesOwn.never rfl (pi_list (pe_call G__law_events (hr.mono (by decide)) (by rfl) m__law_events k__law_events b__law_events .nil pass0 (pa_cons (pe_ix ix_tup (pv 1) pe_int (fun _ _ => rfl)) (pa_cons (pe_ix ix_tup (pv 1) pe_int (fun _ _ => rfl)) pa_nil)))) (pg_name (i := 3) sc__law_right.nd rfl (.inl rfl))
        (pss_one (ps_if (pt_not (pt_val (pe_call G__law_same (hr.mono (by decide)) (by rfl) m__law_same k__law_same b__law_same .nil pass0 (pa_cons (pe_meth (pv 0) T.cl_Contract M_Contract_follow G_Contract_follow (hr.mono (by decide)) b_Contract_follow .nil pass0 (pa_cons (pv 2) (pa_cons (pv 3) pa_nil))) (pa_cons (pe_call G__law_follow (hr.mono (by decide)) (by rfl) m__law_follow k__law_follow b__law_follow .nil pass0 (pa_cons (pe_ix ix_tup (pv 1) pe_int (fun _ _ => rfl)) (pa_cons (pv 2) (pa_cons (pv 3) pa_nil)))) pa_nil)))))
          (pss_one (ps_ret pe_bl))
          pss_nil)))))
      (pss_one (ps_ret (pe_call G__law_same (hr.mono (by decide)) (by rfl) m__law_same k__law_same b__law_same .nil pass0 (pa_cons (pe_fld (pv 0) rfl) (pa_cons (pe_ix ix_tup (pv 1) pe_int (fun _ _ => rfl)) pa_nil))))))), ?_⟩
  obtain ⟨dx, sv, hp, hs⟩ := id hc
  obtain ⟨l, hl⟩ := Int.eq_ofNat_of_zero_le (show 0 ≤ cn.l by have := ho.l1; omega)
  obtain ⟨a, ha⟩ := Int.eq_ofNat_of_zero_le (show 0 ≤ cn.a by have := ho.a2; omega)
  obtain ⟨a1, xs1, x1, rfl, q1, i1, d1⟩ := dp_ix hv (i := 0) rfl
  obtain ⟨a2, xs2, x2, e2, q2, i2, d2⟩ := dp_ix hv (i := 1) rfl
  obtain ⟨a3, xs3, x3, e3, q3, i3, d3⟩ := dp_ix hv (i := 2) rfl
  cases e2
  cases e3
  cases d1
  cases d2
  refine ⟨_, rfl, p, dx, _, rfl, hp, ?_⟩
  refine ⟨_, rfl, ?_⟩
  refine ⟨_, rfl, p, _, dx, _, _, rfl, hp, T.cl_Contract, T.n_Contract_letters, cf_l, _, rfl, p, _, dx, _, _, rfl, hp, T.cl_Contract, T.n_Contract_answers, cf_a, by show 2 ≤ sizeLine; decide, fun t1 n1 => ?_⟩
  have s1 := same_new (o := .tup [.int cn.l, .int cn.a]) n1
  refine ⟨_, rfl, a1, xs1, _, _, rfl, rfl, seqT_same s1 q1, i1, _, rfl, a1, xs2, _, _, rfl, rfl, seqT_same s1 q2, i2, by show 2 ≤ sizeLine; decide, fun t2 n2 => ?_⟩
  have s2 := s1.trans (same_new (o := .tup [.int cn.l, .int cn.a]) n2)
  refine ⟨_, _, .tuple [.int cn.l, .int cn.a], rfl, .tup (SqT.of ((upd_ne (ne_of_none upd_same n2)).trans upd_same)) (.cons (.int _) (.cons (.int _) .nil)), .tup (SqT.of upd_same) (.cons (.int _) (.cons (.int _) .nil)), ok_two 2 _ _, fun H1 s3 => ?_⟩
  have s13 := s2.trans s3
  refine ⟨_, rfl, ?_⟩
  obtain ⟨b, ys, rfl, qb, kb⟩ := dp_tup d3
  have lb : ys.length = cn.st.length := by
    have := dpa_len kb
    rwa [List.length_map] at this
  have o8 := ho.s8
  refine ⟨_, rfl, a1, xs3, _, _, rfl, rfl, seqT_same s13 q3, i3, b, ys, rfl, .inr (seqT_same s13 qb), ((ys.length : Nat) : Int), rfl, by omega, by omega, for_range (fun i σ H' => ∃ (y1 y2 : Option V), σ = [some (.ref p), some (.ref a1), y1, y2] ∧ Same H H') ⟨none, none, rfl, s13⟩ ?_ ?_⟩
  · rintro i σ H2 hi ⟨y1, y2, rfl, s4⟩
    have hi2 : i < cn.st.length := by
      have : i < ((ys.length : Nat) : Int).toNat := hi
      simp only [Int.toNat_natCast] at this
      omega
    have gi : (0 : Int) + (i : Int) = (i : Int) := Int.zero_add _
    rw [gi]
    refine ⟨_, rfl, a1, xs1, _, _, rfl, rfl, seqT_same s4 q1, i1, _, rfl, a1, xs2, _, _, rfl, rfl, seqT_same s4 q2, i2, l, a, by rw [hl, ha]; rfl, by have := ho.l3; omega, by have := ho.a4; omega, fun pe H3 es s5 nE hE hes => ?_⟩
    refine ⟨pe, rfl, ⟨_, SqL.of hE⟩, for_list (K := K) (a := pe) (xs := es) (fun j σ H' => ∃ (y2 : Option V), σ = [some (.ref p), some (.ref a1), some (.int (i : Int)), y2] ∧ Same H3 H') ⟨y2, rfl, Same.refl _⟩ (fun j σ H' _ h' => ?_) ?_ ?_⟩
    · obtain ⟨_, _, sh⟩ := h'
      exact SqL.of (sh _ _ hE)
    · rintro j y σ H4 hj ⟨z2, rfl, s6⟩
      have s46 := (s4.trans s5).trans s6
      obtain ⟨d, ed, hy⟩ := dpa_getx (dpa_same s6 hes) hj
      rw [List.getElem?_map] at ed
      cases ev1 : (evs l a)[j]? with
      | none => rw [ev1] at ed; cases ed
      | some ev =>
      rw [ev1] at ed
      cases ed
      have evm : ev.Ok cn.l cn.a := by rw [hl, ha]; exact evs_ok (List.mem_of_getElem? ev1)
      refine ⟨_, rfl, p, dx, _, rfl, s46 _ _ hp, cf_no (by decide +kernel) (by decide +kernel) (by decide +kernel), _, rfl, _, rfl, p, cn, i, ev, y, rfl, hc.same s46, ho, hi2, hy, evm, ?_⟩
      refine ⟨_, rfl, a1, xs3, _, _, rfl, rfl, seqT_same s46 q3, i3, _, rfl, _, rfl, cn, .ref b, i, ev, y, rfl, dp_same s46 d3, ho, hi2, hy, evm, ?_⟩
      refine ⟨_, _, oD (tgt cn.st i ev), rfl, dp_o _, dp_o _, ok_o 3 _, fun H5 s7 => ?_⟩
      refine ⟨_, rfl, ?_⟩
      exact ⟨_, rfl, s6.trans s7⟩
    · rintro σ H4 ⟨z2, rfl, s6⟩
      exact ⟨_, z2, rfl, (s4.trans s5).trans s6⟩
  · rintro σ H2 ⟨y1, y2, rfl, s4⟩
    have ok3 : tupOk 3 (stD cn.st) := ok_st ho.sm
    refine ⟨_, rfl, p, _, dx, _, _, rfl, s4 _ _ hp, T.cl_Contract, T.n_Contract_states, cf_s, _, rfl, a1, xs3, _, _, rfl, rfl, seqT_same s4 q3, i3, _, _, stD cn.st, rfl, dp_same s4 hs, dp_same s4 d3, ok3, fun H3 s5 => q H3 (s4.trans s5)⟩


end
end Pf

namespace Pf
open PySem PySem.Spec PyProof.Rows L2
section
variable {P : Program} {w : World} {K : PySem.W.Frag} {mg : Str → Option Value} {base : Heap}
variable {c : Nat → Addr}
theorem in_three {n a b c : Int} : inV (V.int n) [.int a, .int b, .int c] = (decide (n = a) || (decide (n = b) || decide (n = c))) := by
  have e : ∀ x y : Int, eqV (V.int x) (V.int y) = decide (y = x) := fun x y => by
    by_cases h : y = x
    · subst h
      simp [eqV]
    · simp [eqV, h, Ne.symm h]
  simp only [inV, List.any_cons, List.any_nil, e, Bool.or_false]
def sp__law_reason (K : PySem.W.Frag) : Sp := fun us H Q _ => ∃ (cn : Cn) (v : V), us = [.int cn.l, .int cn.a, v] ∧ cn.Sm ∧ Dp K H v (stD cn.st) ∧ ∀ H', Same H H' → Q (.str cn.why) H'
theorem ok__law_reason (T : Txt P K mg c) : Has P w K mg base 1 "_law_reason" ["letters", "answers", "states"] (sp__law_reason K) := by
  obtain ⟨f, fd, F, m, b⟩ := T.d__law_reason.ex
  refine ⟨f, fd, F.ok sc__law_reason (fun vs H Q E h => ?_) (fun cdv A outer s H vs Q E hr h => ?_), m, F.kp, b⟩
  · obtain ⟨cn, v, rfl, hs, hv, q⟩ := h
    rfl
  obtain ⟨cn, v, rfl, hs, hv, q⟩ := h
  refine ⟨_, (pss_cons (ps_if (pt_cmpR op_notIn_seq (pv 0) (pe_lst (pa_cons pe_int (pa_cons pe_int (pa_cons pe_int pa_nil)))) (by rfl))
      (pss_one (ps_ret pe_str))
      pss_nil)
      (pss_cons (ps_if (pt_cmpR op_notIn_seq (pv 1) (pe_lst (pa_cons pe_int (pa_cons pe_int (pa_cons pe_int pa_nil)))) (by rfl))
      (pss_one (ps_ret pe_str))
      pss_nil)
      (pss_cons (ps_if (PW.pt (pw_or (pt_cmpR op_lt (pe_callB call_len_seq (by rfl) T.z_len (by decide +kernel) (pa_cons (pv 2) pa_nil)) pe_int (nomark _)) (pw_or1 (pt_cmpR op_gt (pe_callB call_len_seq (by rfl) T.z_len (by decide +kernel) (pa_cons (pv 2) pa_nil)) pe_int (nomark _)))))
      (pss_one (ps_ret pe_str))
      pss_nil)
      (pss_cons (ps_for PassesOwn.never rfl (pi_tup (pv 2)) (pg_name (i := 3) sc__law_reason.nd rfl (.inl rfl))
      (pss_one (ps_if (PW.pt (pw_or (pt_cmpR op_ne (pe_callB call_len_seq (by rfl) T.z_len (by decide +kernel) (pa_cons (pe_ix ix_tup (pv 3) pe_int (fun _ _ => rfl)) pa_nil)) (pv 0) (nomark _)) (pw_or1 (pt_cmpR op_ne (pe_callB call_len_seq (by rfl) T.z_len (by decide +kernel) (pa_cons (pe_ix ix_tup (pv 3) pe_int (fun _ _ => rfl)) pa_nil)) (pv 1) (nomark _)))))
        (pss_one (ps_ret pe_str))
        pss_nil)))
      (pss_cons (ps_for PassesOwn.never rfl (pi_tup (pv 2)) (pg_name (i := 3) sc__law_reason.nd rfl (.inl rfl))
      (pss_one (ps_for PassesOwn.never rfl (pi_tup (pe_op op_catA (pe_op op_catA (pe_ix ix_tup (pv 3) pe_int (fun _ _ => rfl)) (pe_tup (pa_cons (pe_ix ix_tup (pv 3) pe_int (fun _ _ => rfl)) pa_nil))) (pe_ix ix_tup (pv 3) pe_int (fun _ _ => rfl)))) (pg_name (i := 4) sc__law_reason.nd rfl (.inl rfl))
        (pss_one (ps_if (PW.pt (pw_and (pt_cmpR op_notN (pv 4) pe_non (nomark _)) (pw_and1 (pt_not (pt_chain op_le op_lt pe_int (pv 4) (pe_callB call_len_seq (by rfl) T.z_len (by decide +kernel) (pa_cons (pv 2) pa_nil)))))))
          (pss_one (ps_ret pe_str))
          pss_nil)))))
      (pss_one (ps_ret pe_str))))))), ?_⟩
  obtain ⟨a, xs, rfl, hq, hk⟩ := dp_tup hv
  have lx : xs.length = cn.st.length := by
    have := dpa_len hk
    rwa [List.length_map] at this
  have s10 := hs.s10
  obtain ⟨n1, n2, n3, n4, n5⟩ := ne_empty
  -- letters
  refine ⟨_, rfl, by show 3 ≤ sizeLine; decide, fun t1 m1 => ?_⟩
  have e1 := same_new (o := .lst [.int 1, .int 2, .int 3]) m1
  refine ⟨t1, _, rfl, .inl (SqL.of upd_same), rfl, rfl, _, rfl, ?_⟩
  by_cases h1 : 1 ≤ cn.l ∧ cn.l ≤ 3
  case neg =>
    have ew : cn.why = "letters" := by
      have : lrs cn.l cn.a = "letters" := by unfold lrs; rw [if_neg h1]
      unfold Cn.why
      rw [this, if_neg n2]
    have ei : inV (V.int cn.l) [.int 1, .int 2, .int 3] = false := by
      rw [in_three, decide_eq_false (by omega), decide_eq_false (by omega), decide_eq_false (by omega)]
      rfl
    rw [ew] at q
    show if (!inV (V.int cn.l) [.int 1, .int 2, .int 3]) = true then _ else _
    rw [ei]
    exact iteT (q _ e1)
  have ei : inV (V.int cn.l) [.int 1, .int 2, .int 3] = true := by
    rw [in_three]
    have : cn.l = 1 ∨ cn.l = 2 ∨ cn.l = 3 := by omega
    simpa using this
  show if (!inV (V.int cn.l) [.int 1, .int 2, .int 3]) = true then _ else _
  rw [ei]
  refine iteF ?_
  -- answers
  refine ⟨_, rfl, by show 3 ≤ sizeLine; decide, fun t2 m2 => ?_⟩
  have e2 := e1.trans (same_new (o := .lst [.int 2, .int 3, .int 4]) m2)
  refine ⟨t2, _, rfl, .inl (SqL.of upd_same), rfl, rfl, _, rfl, ?_⟩
  generalize upd (upd H t1 (.lst [.int 1, .int 2, .int 3])) t2 (.lst [.int 2, .int 3, .int 4]) = H2 at e2 ⊢
  clear e1 ei m2 m1
  by_cases h2 : 2 ≤ cn.a ∧ cn.a ≤ 4
  case neg =>
    have ew : cn.why = "answers" := by
      have : lrs cn.l cn.a = "answers" := by unfold lrs; rw [if_pos h1, if_neg h2]
      unfold Cn.why
      rw [this, if_neg n1]
    have ei : inV (V.int cn.a) [.int 2, .int 3, .int 4] = false := by
      rw [in_three, decide_eq_false (by omega), decide_eq_false (by omega), decide_eq_false (by omega)]
      rfl
    rw [ew] at q
    show if (!inV (V.int cn.a) [.int 2, .int 3, .int 4]) = true then _ else _
    rw [ei]
    exact iteT (q _ e2)
  have ei : inV (V.int cn.a) [.int 2, .int 3, .int 4] = true := by
    rw [in_three]
    have : cn.a = 2 ∨ cn.a = 3 ∨ cn.a = 4 := by omega
    simpa using this
  show if (!inV (V.int cn.a) [.int 2, .int 3, .int 4]) = true then _ else _
  rw [ei]
  refine iteF ?_
  have ew : cn.why = srs cn := by
    have : lrs cn.l cn.a = Str.empty := by unfold lrs; rw [if_pos h1, if_pos h2]
    unfold Cn.why
    rw [if_pos this]
  rw [ew] at q
  unfold srs at q
  have hq2 := seqT_same e2 hq
  have hk2 := dpa_same e2 hk
  -- states
  by_cases h3 : 1 ≤ xs.length
  case neg =>
    rw [if_neg (fun z => h3 (lx ▸ z.1))] at q
    exact ⟨_, rfl, a, xs, rfl, .inr hq2, _, _, rfl, rfl, _, rfl, yes (by omega) (iteT (q _ e2))⟩
  by_cases h4 : xs.length ≤ 8
  case neg =>
    rw [if_neg (fun z => h4 (lx ▸ z.2))] at q
    exact ⟨_, rfl, a, xs, rfl, .inr hq2, _, _, rfl, rfl, _, rfl, nope (by omega) ⟨_, rfl, a, xs, rfl, .inr hq2, _, _, rfl, rfl, _, rfl, yes (by omega) (q _ e2)⟩⟩
  rw [if_pos ⟨lx ▸ h3, lx ▸ h4⟩] at q
  refine ⟨_, rfl, a, xs, rfl, .inr hq2, _, _, rfl, rfl, _, rfl, nope (by omega) ⟨_, rfl, a, xs, rfl, .inr hq2, _, _, rfl, rfl, _, rfl, nope (by omega) ?_⟩⟩
  have lk : ∀ (i : Nat) (x : V), xs[i]? = some x → ∃ r, cn.st[i]? = some r ∧ Dp K H2 x r.d := fun i x hx => by
    obtain ⟨d, ed, hd⟩ := dpa_getx hk2 hx
    rw [List.getElem?_map] at ed
    cases er : cn.st[i]? with
    | none => rw [er] at ed; cases ed
    | some r =>
      rw [er] at ed
      cases ed
      exact ⟨r, rfl, hd⟩
  have row : ∀ (H' : Hp) (x : V) (r : Row), Same H2 H' → Dp K H2 x r.d → ∃ (ta : Addr) (ws : List V) (z0 z2 : Addr), x = .ref ta ∧ SqT K H' ta ws ∧ atI ws 0 = some (.ref z0) ∧ atI ws 1 = some (oV r.ov) ∧ atI ws 2 = some (.ref z2) ∧ SqT K H' z0 (r.rd.map oV) ∧ SqT K H' z2 (r.wr.map oV) := fun H' x r e hd => by
    have hd' : Dp K H' x (.tuple [.tuple (r.rd.map oD), oD r.ov, .tuple (r.wr.map oD), .bool r.fi, .bool r.si]) := dp_same e hd
    obtain ⟨ta, ws, rfl, ht, hw⟩ := dp_tup hd'
    cases hw with
    | cons w0 hw =>
    cases hw with
    | cons w1 hw =>
    cases hw with
    | cons w2 hw =>
    obtain ⟨z0, y0, rfl, g0', k0⟩ := dp_tup w0
    obtain ⟨z2, y2, rfl, g2', k2⟩ := dp_tup w2
    obtain rfl := dpa_oV k0
    obtain rfl := dpa_oV k2
    obtain rfl := dp_oV w1
    exact ⟨ta, _, z0, z2, rfl, ht, atI_nat (j := 0) rfl, atI_nat (j := 1) rfl, atI_nat (j := 2) rfl, g0', g2'⟩
  refine ⟨_, rfl, a, rfl, ⟨_, hq2⟩, for_it (walk_tup (xs := xs)) (fun i σ H' => ∃ (y3 : Option V), σ = [some (.int cn.l), some (.int cn.a), some (.ref a), y3, none] ∧ Same H2 H' ∧ ¬ (cn.st.take i).any (rowBad cn.l cn.a) = true) ⟨_, rfl, Same.refl _, by rw [List.take_zero]; exact Bool.false_ne_true⟩ (fun i σ H' _ h' => ?_) ?_ ?_⟩
  · obtain ⟨_, _, e, _⟩ := h'
    exact seqT_same e hq2
  · rintro i x σ H3 H4 hi ⟨y3, rfl, s3, nb⟩ ⟨rfl, hx⟩
    obtain ⟨r, er, hr⟩ := lk i x hx
    obtain ⟨ta, ws, z0, z2, rfl, ht, i0, i1, i2, g0', g2'⟩ := row _ _ _ s3 hr
    have bad : rowBad cn.l cn.a r = true → Q (.str "rows") H4 := fun hb => by
      have : cn.st.any (rowBad cn.l cn.a) = true := List.any_eq_true.mpr ⟨r, List.mem_of_getElem? er, hb⟩
      rw [if_pos this] at q
      exact q _ (e2.trans s3)
    refine ⟨_, rfl, ta, ws, _, _, rfl, rfl, ht, i0, z0, _, rfl, .inr g0', _, rfl, rfl, _, rfl, ?_⟩
    rw [List.length_map]
    by_cases c1 : (r.rd.length : Int) = cn.l
    case neg =>
      refine nnope (fun z => c1 (V.int.inj z)) (iteT (bad ?_))
      unfold rowBad
      rw [decide_eq_false c1]
      rfl
    refine nyes (congrArg V.int c1) ⟨_, rfl, ta, ws, _, _, rfl, rfl, ht, i2, z2, _, rfl, .inr g2', _, rfl, rfl, _, rfl, ?_⟩
    rw [List.length_map]
    by_cases c2 : (r.wr.length : Int) = cn.a
    case neg =>
      refine nnope (fun z => c2 (V.int.inj z)) (bad ?_)
      unfold rowBad
      rw [decide_eq_false c2, Bool.not_false, Bool.or_true]
    refine nyes (congrArg V.int c2) ?_
    refine ⟨_, rfl, s3, ?_⟩
    rw [take_succ_at er, List.any_append]
    have : rowBad cn.l cn.a r = false := by
      unfold rowBad
      rw [decide_eq_true c1, decide_eq_true c2]
      rfl
    simp only [List.any_cons, List.any_nil, this, Bool.or_false]
    exact nb
  rintro σ H3 ⟨y3, rfl, s3, nb⟩
  rw [lx, List.take_length] at nb
  rw [if_neg nb] at q
  have e3 := e2.trans s3
  have hq3 := seqT_same s3 hq2
  refine ⟨_, rfl, a, rfl, ⟨_, hq3⟩, for_it (walk_tup (xs := xs)) (fun i σ H' => ∃ (y3 y4 : Option V), σ = [some (.int cn.l), some (.int cn.a), some (.ref a), y3, y4] ∧ Same H3 H' ∧ ¬ ((cn.st.take i).flatMap Row.ts).any (tgBad cn.st.length) = true) ⟨_, _, rfl, Same.refl _, by rw [List.take_zero]; exact Bool.false_ne_true⟩ (fun i σ H' _ h' => ?_) ?_ ?_⟩
  · obtain ⟨_, _, _, e, _⟩ := h'
    exact seqT_same e hq3
  · rintro i x σ H4 H5 hi ⟨y3, y4, rfl, s4, nt⟩ ⟨rfl, hx⟩
    obtain ⟨r, er, hr⟩ := lk i x hx
    obtain ⟨rl, wl⟩ := hs.rows r (List.mem_of_getElem? er)
    obtain ⟨ta, ws, z0, z2, rfl, ht, i0, i1, i2, g0', g2'⟩ := row _ _ _ (s3.trans s4) hr
    refine ⟨_, rfl, ta, ws, _, _, rfl, rfl, ht, i0, _, rfl, ta, ws, _, _, rfl, rfl, ht, i1, by show 1 ≤ sizeLine; decide, fun t5 n5' => ?_⟩
    have s5 := same_new (o := .tup [oV r.ov]) n5'
    refine catA_ok (seqT_same s5 g0') (SqT.of upd_same) (line_small (by rw [List.length_map]; show r.rd.length + 1 ≤ _; omega)) fun u6 H6 s6 g6 => ?_
    have s56 := s5.trans s6
    refine ⟨_, rfl, ta, ws, _, _, rfl, rfl, seqT_same s56 ht, i2, ?_⟩
    refine catA_ok g6 (seqT_same s56 g2') (line_small (by rw [List.length_append, List.length_map, List.length_map]; show r.rd.length + 1 + r.wr.length ≤ _; omega)) fun u7 H7 s7 g7 => ?_
    have s57 := s56.trans s7
    have ets : (r.rd.map oV ++ [oV r.ov]) ++ r.wr.map oV = r.ts.map oV := by
      unfold Row.ts
      rw [List.map_append, List.map_append]
      rfl
    rw [ets] at g7
    refine ⟨u7, rfl, ⟨_, g7⟩, for_it (walk_tup (xs := r.ts.map oV)) (fun j σ H' => ∃ (y4 : Option V), σ = [some (.int cn.l), some (.int cn.a), some (.ref a), some (.ref ta), y4] ∧ Same H7 H' ∧ ¬ (r.ts.take j).any (tgBad cn.st.length) = true) ⟨_, rfl, Same.refl _, by rw [List.take_zero]; exact Bool.false_ne_true⟩ (fun j σ H' _ h' => ?_) ?_ ?_⟩
    · obtain ⟨_, _, e, _⟩ := h'
      exact seqT_same e g7
    · rintro j y σ H8 H9 hj ⟨y4, rfl, s8, nt8⟩ ⟨rfl, hy⟩
      rw [List.getElem?_map] at hy
      cases eo : r.ts[j]? with
      | none => rw [eo] at hy; cases hy
      | some o =>
      rw [eo] at hy
      cases hy
      have s48 := (s4.trans s57).trans s8
      have tb : tgBad cn.st.length o = true → Q (.str "target") H9 := fun hb => by
        have : (cn.st.flatMap Row.ts).any (tgBad cn.st.length) = true := List.any_eq_true.mpr ⟨o, List.mem_flatMap.mpr ⟨r, List.mem_of_getElem? er, List.mem_of_getElem? eo⟩, hb⟩
        rw [if_pos this] at q
        exact q _ (e3.trans s48)
      have go : tgBad cn.st.length o = false → ¬ (r.ts.take (j + 1)).any (tgBad cn.st.length) = true := fun hb => by
        rw [take_succ_at eo, List.any_append]
        simp only [List.any_cons, List.any_nil, hb, Bool.or_false]
        exact nt8
      refine ⟨_, rfl, rfl, _, rfl, ?_⟩
      cases o with
      | none => exact iteF (iteF ⟨_, rfl, s8, go rfl⟩)
      | some n =>
        refine iteT ?_
        by_cases h0 : 0 ≤ n
        case neg =>
          refine ⟨_, rfl, _, _, rfl, rfl, _, rfl, nope h0 ⟨_, rfl, iteT (tb ?_)⟩⟩
          simp only [tgBad]
          rw [decide_eq_false h0]
          rfl
        refine ⟨_, rfl, _, _, rfl, rfl, _, rfl, yes h0 ⟨_, rfl, a, xs, rfl, .inr (seqT_same s48 hq3), _, _, rfl, rfl, _, rfl, ?_⟩⟩
        rw [lx]
        by_cases h9 : n < (cn.st.length : Int)
        · refine nyes h9 ⟨_, rfl, s8, go ?_⟩
          simp only [tgBad]
          rw [decide_eq_true h0, decide_eq_true h9]
          rfl
        · refine nnope h9 (tb ?_)
          simp only [tgBad]
          rw [decide_eq_false h9, Bool.and_false]
          rfl
    · rintro σ H8 ⟨y4, rfl, s8, nt8⟩
      rw [List.length_map, List.take_length] at nt8
      refine ⟨_, _, rfl, (s4.trans s57).trans s8, ?_⟩
      rw [take_succ_at er, List.flatMap_append, List.any_append, List.flatMap_cons, List.flatMap_nil, List.append_nil]
      intro z
      rcases Bool.or_eq_true _ _ ▸ z with z | z
      · exact nt z
      · exact nt8 z
  rintro σ H4 ⟨y3, y4, rfl, s4, nt⟩
  rw [lx, List.take_length] at nt
  rw [if_neg nt] at q
  exact q _ (e3.trans s4)


end
end Pf

namespace Pf
open PySem PySem.Spec PyProof.Rows L2
section
variable {P : Program} {w : World} {K : PySem.W.Frag} {mg : Str → Option Value} {base : Heap}
variable {c : Nat → Addr}
/-! ### isinstance of the error that a suite holds, with a dict of its own or without -/
def rIsEX (K : PySem.W.Frag) (a : Addr) (cls : Value) (d : Option Addr) : List V → Hp → VK → Prop := fun xs H Q => ∃ (C : Addr) (c : V) (u : Value) (b : Bool), xs = [.ref a, c] ∧ cls = .ref C ∧ (d = none ∨ ∃ dd fs, d = some dd ∧ H dd = some (.xd fs)) ∧ ClsV c u ∧ ErrC K C ∧ PySem.W.kitOne K (.ref C) u = some b ∧ Q (.bl b) H
theorem call_isEX {X : Cx} {a : Addr} {oe : Obj} {cls : Value} {d : Option Addr} {pn : List (Addr × Obj)} (hz : Zc cls d oe) (hf : ∃ vs, oe.data = .fields vs) : CallR (X.suite a ((a, oe) :: pn)) (.builtin "isinstance") (rIsEX X.K a cls d) := by
  intro pins s σ H xs us Q I r h
  obtain ⟨C, c, u, b, rfl, rfl, hd, kc, T, e, q⟩ := h
  obtain ⟨u1, u2, rfl, r1, r2⟩ := vals2 r
  have e2 := kc.eq r2
  subst e2
  cases r1
  obtain ⟨hg, _⟩ := I.pin (a, oe) (List.mem_append_left _ List.mem_cons_self)
  obtain ⟨vs, hv⟩ := hf
  obtain ⟨z1, z2⟩ := hz
  have J : ∃ od, PySem.W.InstAt s.heap a oe C od := by
    rcases hd with rfl | ⟨dd, fs, rfl, hdd⟩
    · refine ⟨none, hg, z1, ?_, ?_⟩
      · unfold PySem.W.notCls
        rw [hv]
      · rw [z2]
        exact True.intro
    · have ox : ObjOk X.prog X.w H s.heap dd (.xd fs) := I.hok dd _ hdd
      obtain ⟨mA, hns, hr⟩ := ox
      obtain ⟨od, ho, hl⟩ := lookIn_ns hns
      refine ⟨some od, hg, z1, ?_, ?_⟩
      · unfold PySem.W.notCls
        rw [hv]
      · rw [z2]
        exact ho
  obtain ⟨od, J⟩ := J
  exact PySem.W.kia_one (PySem.W.kitx_exc T.cl T.ga T.gt T.sb T.ca T.cn T.ct T.cm) I.kIn J e (fun z => nomatch z) fun tk => ⟨.bl b, H, I.tok tk, rfl, q⟩
theorem xfc {K : PySem.W.Frag} {C : Addr} (T : ErrC K C) : XfC K C := ⟨T.ga, T.gt, T.sb, T.hd⟩
theorem pe_bmK {X : Cx} {K : PySem.W.Frag} {o e : Expr} {es : List Expr} {to : TE} {t : TA} {name : Str} {apos cpos : Pos} {T id : String} {r : V → List V → Hp → VK → Prop} (hK : X.K = K) (pa : PlainAttrs T) (slot : Slot T name id) (hty : typeOf (.builtin id) = pure (.type "method_descriptor")) (hm : MtR X id r) (ho : PE X o to) (ha : PA X (e :: es) t)
    (hbase : attributeBase o name X.env (eval o X.env) = eval o X.env := by rfl) (hfew : ((backTo cpos (starEach (e :: es) X.env)).all (fun x => !x.1) && (backToKw cpos (keywordEach [] X.env)).all (fun x => x.1.isSome) && decide ((e :: es).length + ([] : List Keyword).length + (if ([] : List Keyword).isEmpty then 0 else 1) < 30)) = true := by rfl)
    (hline : (apos.endLine == cpos.line) = true := by rfl) (hs : starEach (e :: es) X.env = (false, eval e X.env) :: starEach es X.env := by rfl) (hplain : (backTo cpos (starEach es X.env)).any (·.1) = false := by rfl) : PE X (.Call (.Attribute o name apos) (e :: es) [] cpos) (tBM K T r to t) :=
  hK ▸ pe_bm pa slot hty hm ho ha hbase hfew hline hs hplain
theorem exm_up {K : PySem.W.Frag} {C S : Addr} (h1 : PySem.W.subIn K (.ref S) (.type "BaseException") = some true) (h2 : (PySem.W.clsIn K S).isSome = true) (h3 : PySem.W.typeIn K (.ref S) = some (.type "type")) (h4 : PySem.W.subIn K (.ref C) (.ref S) = some true) : PySem.W.exmOne K (.ref C) (.ref S) = some true := by
  have g1 : (PySem.W.subIn K (.ref S) (.type "BaseException") == some true) = true := by rw [h1]; rfl
  have g2 : ((PySem.W.clsIn K S).isSome && PySem.W.typeIn K (.ref S) == some (.type "type")) = true := by rw [h2, h3]; rfl
  exact (if_pos g1).trans ((if_pos g2).trans h4)

def toldIs (K : PySem.W.Frag) (C : Addr) (cn : Cn) (w : Str) (ks : List V) (H : Hp) : Prop := w = cn.why ∧ ((cn.why = Str.empty ∧ ∃ p, ks = [.ref p] ∧ ConAt K C H p cn) ∨ (¬ cn.why = Str.empty ∧ ks = []))
def sp__law_told (K : PySem.W.Frag) (C : Addr) : Sp := fun vs H Q _ => ∃ (x : V) (dd : Addr) (cn : Cn), vs = [x, .ref dd] ∧
  ((∃ v, SqT K H dd [.str "new", .int cn.l, .int cn.a, v] ∧ cn.Sm ∧ RawSt K H v cn.st) ∨ (∃ (p : Addr) (c0 : Cn) (k : Nat) (r : Row) (e : Ev) (ev : V) (t : Option Int), x = .ref p ∧ SqT K H dd [.str "row", .int (k : Int), ev, oV t] ∧ ConAt K C H p c0 ∧ c0.Ok ∧ c0.st[k]? = some r ∧ Dp K H ev e.d ∧ e.Ok c0.l c0.a ∧ cn = c0.put k (r.turn e t))) ∧
  ∀ (w : Str) (ks : List V) (t kl : Addr) (H' : Hp), Same H H' → H kl = none → SqT K H' t [.str w, .ref kl] → H' kl = some (.lst ks) → toldIs K C cn w ks H' → Q (.ref t) H'
theorem ok__law_told (T : Txt P K mg c) : Has P w K mg base 10 "_law_told" ["contract", "deed"] (sp__law_told K (c id_Contract)) := by
  obtain ⟨f, fd, F, m, b⟩ := T.d__law_told.ex
  obtain ⟨f_Contract_init, fd_Contract_init, G_Contract_init, M_Contract_init, b_Contract_init⟩ := ok_Contract_init (P := P) (w := w) (base := base) T
  obtain ⟨f_Contract_with_row, fd_Contract_with_row, G_Contract_with_row, M_Contract_with_row, b_Contract_with_row⟩ := ok_Contract_with_row (P := P) (w := w) (base := base) T
  refine ⟨f, fd, F.ok sc__law_told (fun vs H Q E h => ?_) (fun cdv A outer s H vs Q E hr h => ?_), m, F.kp, b⟩
  · obtain ⟨x, dd, cn, rfl, hcase, q⟩ := h
    rfl
  obtain ⟨x, dd, cn, rfl, hcase, q⟩ := h
  refine ⟨_, (pss_cons (ps_set (i := 2) sc__law_told.nd rfl (.inl rfl) (pe_lst pa_nil))
      (pss_cons (ps_set (i := 3) sc__law_told.nd rfl (.inl rfl) pe_str)
      (pss_cons (ps_try_as (i := 4) rfl rfl sc__law_told.nd rfl rfl ⟨rfl, by decide, .inl T.g_MendError⟩ takes0 (fun W pn xe tk _ => (pss_one (ps_if (pt_cmpR op_eq (pe_ix (ix_tupK (K := K) rfl) (pv 1) pe_int (fun _ _ => rfl)) pe_str (nomark _))
        (pss_one (ps_expr (by exact (pe_bmK (K := K) rfl PySem.F.plainAttrs_list PySem.F.slot_list_append PySem.F.type_list_append mt_append (pv 2) (pa_cons (pe_makeSx M_Contract_init G_Contract_init (hr.mono (by decide)) (by rfl) T.g_Contract b_Contract_init (fun σ => passAt tk σ) (pa_cons (pe_ix (ix_tupK (K := K) rfl) (pv 1) pe_int (fun _ _ => rfl)) (pa_cons (pe_ix (ix_tupK (K := K) rfl) (pv 1) pe_int (fun _ _ => rfl)) (pa_cons (pe_ix (ix_tupK (K := K) rfl) (pv 1) pe_int (fun _ _ => rfl)) pa_nil)))) pa_nil)))))
        (pss_one (ps_expr (by exact (pe_bmK (K := K) rfl PySem.F.plainAttrs_list PySem.F.slot_list_append PySem.F.type_list_append mt_append (pv 2) (pa_cons (pe_methSx (pv 0) T.cl_Contract M_Contract_with_row G_Contract_with_row (hr.mono (by decide)) b_Contract_with_row (fun σ => passAt tk σ) (pa_cons (pe_ix (ix_tupK (K := K) rfl) (pv 1) pe_int (fun _ _ => rfl)) (pa_cons (pe_ix (ix_tupK (K := K) rfl) (pv 1) pe_int (fun _ _ => rfl)) (pa_cons (pe_ix (ix_tupK (K := K) rfl) (pv 1) pe_int (fun _ _ => rfl)) pa_nil)))) pa_nil))))))))
      (fun a oe cls d pn hz hf => (pss_cons (ps_set (i := 3) sc__law_told.nd rfl (.inl rfl) pe_str)
        (pss_cons (ps_if (PW.pt (pw_and (pt_val (pe_callB (call_isEX hz hf) (by rfl) T.z_isinstance (by decide +kernel) (pa_cons (pv 4) (pa_cons (pe_glob (v := .ref (c 5)) (by rfl) T.g_InvalidContract rfl) pa_nil)))) (pw_and (pt_val (pe_callB (call_isEX hz hf) (by rfl) T.z_isinstance (by decide +kernel) (pa_cons (pv 4) (pa_cons (pe_glob (v := .ref (c 2)) (by rfl) T.g_InvalidInput rfl) pa_nil)))) (pw_and1 (pt_val (pe_callB (call_isEX hz hf) (by rfl) T.z_isinstance (by decide +kernel) (pa_cons (pv 4) (pa_cons (pe_bltn (v := .ty "ValueError") (by rfl) T.z_ValueError (by decide +kernel) rfl) pa_nil))))))))
        (pss_one (ps_if (pt_val (pe_callB (call_isiK' (K := K) rfl) (by rfl) T.z_isinstance (by decide +kernel) (pa_cons (pe_xf (xfc (T.er id_InvalidContract (by decide))) T.f_InvalidContract hz hf (pv 4)) (pa_cons (pe_bltn (v := .ty "str") (by rfl) T.z_str (by decide +kernel) rfl) pa_nil))))
          (pss_one (ps_set (i := 3) sc__law_told.nd rfl (.inl rfl) (pe_xf (xfc (T.er id_InvalidContract (by decide))) T.f_InvalidContract hz hf (pv 4))))
          pss_nil))
        pss_nil)
        (pss_cons (ps_if (PW.pt (pw_or (pt_val (pe_callB (call_isEX hz hf) (by rfl) T.z_isinstance (by decide +kernel) (pa_cons (pv 4) (pa_cons (pe_glob (v := .ref (c 13)) (by rfl) T.g_BoundError rfl) pa_nil)))) (pw_or (pt_val (pe_callB (call_isEX hz hf) (by rfl) T.z_isinstance (by decide +kernel) (pa_cons (pv 4) (pa_cons (pe_glob (v := .ref (c 14)) (by rfl) T.g_DeskError rfl) pa_nil)))) (pw_or1 (pt_val (pe_callB (call_isEX hz hf) (by rfl) T.z_isinstance (by decide +kernel) (pa_cons (pv 4) (pa_cons (pe_glob (v := .ref (c 3)) (by rfl) T.g_InvalidText rfl) pa_nil))))))))
        (pss_one (ps_set (i := 3) sc__law_told.nd rfl (.inl rfl) pe_str))
        pss_nil)
        (pss_cons (ps_if (PW.pt (pw_or (pt_val (pe_callB (call_isEX hz hf) (by rfl) T.z_isinstance (by decide +kernel) (pa_cons (pv 4) (pa_cons (pe_glob (v := .ref (c 4)) (by rfl) T.g_InvalidProgram rfl) pa_nil)))) (pw_or (pt_val (pe_callB (call_isEX hz hf) (by rfl) T.z_isinstance (by decide +kernel) (pa_cons (pv 4) (pa_cons (pe_glob (v := .ref (c 6)) (by rfl) T.g_InvalidChange rfl) pa_nil)))) (pw_or1 (pt_val (pe_callB (call_isEX hz hf) (by rfl) T.z_isinstance (by decide +kernel) (pa_cons (pv 4) (pa_cons (pe_glob (v := .ref (c 7)) (by rfl) T.g_InvalidStream rfl) pa_nil))))))))
        (pss_one (ps_set (i := 3) sc__law_told.nd rfl (.inl rfl) pe_str))
        pss_nil)
        (pss_cons (ps_if (PW.pt (pw_or (pt_val (pe_callB (call_isEX hz hf) (by rfl) T.z_isinstance (by decide +kernel) (pa_cons (pv 4) (pa_cons (pe_glob (v := .ref (c 8)) (by rfl) T.g_InvalidPlaces rfl) pa_nil)))) (pw_or (pt_val (pe_callB (call_isEX hz hf) (by rfl) T.z_isinstance (by decide +kernel) (pa_cons (pv 4) (pa_cons (pe_glob (v := .ref (c 9)) (by rfl) T.g_InvalidEdit rfl) pa_nil)))) (pw_or1 (pt_val (pe_callB (call_isEX hz hf) (by rfl) T.z_isinstance (by decide +kernel) (pa_cons (pv 4) (pa_cons (pe_glob (v := .ref (c 10)) (by rfl) T.g_InvalidLine rfl) pa_nil))))))))
        (pss_one (ps_set (i := 3) sc__law_told.nd rfl (.inl rfl) pe_str))
        pss_nil)
        (pss_one (ps_if (PW.pt (pw_or (pt_val (pe_callB (call_isEX hz hf) (by rfl) T.z_isinstance (by decide +kernel) (pa_cons (pv 4) (pa_cons (pe_glob (v := .ref (c 11)) (by rfl) T.g_InvalidName rfl) pa_nil)))) (pw_or1 (pt_val (pe_callB (call_isEX hz hf) (by rfl) T.z_isinstance (by decide +kernel) (pa_cons (pv 4) (pa_cons (pe_glob (v := .ref (c 12)) (by rfl) T.g_Mismatch rfl) pa_nil)))))))
        (pss_one (ps_set (i := 3) sc__law_told.nd rfl (.inl rfl) pe_str))
        pss_nil)))))))))
      (pss_one (ps_ret (pe_tup (pa_cons (pv 3) (pa_cons (pv 2) pa_nil)))))))), ?_⟩
  refine ⟨by show 0 ≤ sizeLine; decide, fun kl nk => ?_⟩
  have s0 := same_new (o := .lst []) nk
  have hk : (upd H kl (.lst [])) kl = some (.lst []) := upd_same
  generalize upd H kl (.lst []) = H0 at s0 hk ⊢
  have exm : ∀ m ∈ errIds, PySem.W.exmOne K (.ref (c m)) (.ref (c id_MendError)) = some true := fun m hm => exm_up (T.er id_MendError (by decide)).sb (T.er id_MendError (by decide)).cl (T.ty _ (by decide)) (T.su m hm)
  rcases hcase with ⟨v, hq, sm, hv⟩ | ⟨p, c0, k, r, e, ev, t, rfl, hq, hc, ho, hr, he, heo, rfl⟩
  · have hq0 := seqT_same s0 hq
    refine ⟨_, rfl, dd, _, _, _, rfl, rfl, hq0, atI_nat (j := 0) rfl, rfl, _, rfl, yes rfl ?_⟩
    refine ⟨_, rfl, .inl ⟨rfl, _, SqL.of hk⟩, _, rfl, dd, _, _, _, rfl, rfl, hq0, atI_nat (j := 1) rfl, _, rfl, dd, _, _, _, rfl, rfl, hq0, atI_nat (j := 2) rfl, _, rfl, dd, _, _, _, rfl, rfl, hq0, atI_nat (j := 3) rfl, ?_⟩
    intro p' dx np nd ndp
    have s2 : Same H0 (upd (upd H0 dx (.own p')) p' (.ins (c id_Contract) dx [])) := fun b o hb => by
      rw [upd_ne (ne_of_none hb np), upd_ne (ne_of_none hb nd)]
      exact hb
    refine ⟨p', dx, cn, v, rfl, upd_same, sm, hv.same (s0.trans s2), fun ee H1 kp hc1 => ⟨rfl, ?_⟩, fun ne d H1 s1 nd1 hd1 => ?_⟩
    · have s1 : Same H0 H1 := fun b o hb => kp b o (s2 _ _ hb) (ne_of_none hb np)
      have hk1 := s1 _ _ hk
      refine ⟨kl, _, _, rfl, rfl, hk1, by decide, ?_⟩
      refine ⟨_, rfl, _, rfl, by show 2 ≤ sizeLine; decide, fun tp ntp => ?_⟩
      have sk : Same H (upd H1 kl (.lst ([] ++ [.ref p']))) := fun b o hb => by
        rw [upd_ne (ne_of_none hb nk)]
        exact s1 _ _ (s0 _ _ hb)
      have hc' : ConAt K (c id_Contract) (upd H1 kl (.lst ([] ++ [.ref p']))) p' cn := by
        obtain ⟨dx, sv, hp, hs⟩ := hc1
        refine ⟨dx, sv, (upd_ne fun z => ?_).trans hp, dp_mut hk1 3 (ok_st (why_ok ee).sm) hs⟩
        subst z
        rw [hk1] at hp
        cases hp
      skip
      exact q _ [.ref p'] tp kl _ (sk.trans (same_new ntp)) nk (SqT.of upd_same) (same_new ntp _ _ upd_same) ⟨ee.symm, .inl ⟨ee, p', rfl, hc'.same (same_new ntp)⟩⟩
    · have s1 := s2.trans s1
      refine ⟨true, exm 5 (by decide), fun _ a na => ?_, fun z => nomatch z⟩
      have hd : (some d : Option Addr) = none ∨ ∃ dd fs, (some d : Option Addr) = some dd ∧ H1 dd = some (.xd fs) := .inr ⟨d, _, rfl, hd1⟩
      have k5 : PySem.W.kitOne K (.ref (c 5)) (.ref (c 5)) = some true := T.isa _ (by decide) _ (by decide)
      have k2 : PySem.W.kitOne K (.ref (c 5)) (.ref (c 2)) = some true := T.isa _ (by decide) _ (by decide)
      have k13 : PySem.W.kitOne K (.ref (c 5)) (.ref (c 13)) = some false := T.isa _ (by decide) _ (by decide)
      have k14 : PySem.W.kitOne K (.ref (c 5)) (.ref (c 14)) = some false := T.isa _ (by decide) _ (by decide)
      have k3 : PySem.W.kitOne K (.ref (c 5)) (.ref (c 3)) = some false := T.isa _ (by decide) _ (by decide)
      have k4 : PySem.W.kitOne K (.ref (c 5)) (.ref (c 4)) = some false := T.isa _ (by decide) _ (by decide)
      have k6 : PySem.W.kitOne K (.ref (c 5)) (.ref (c 6)) = some false := T.isa _ (by decide) _ (by decide)
      have k7 : PySem.W.kitOne K (.ref (c 5)) (.ref (c 7)) = some false := T.isa _ (by decide) _ (by decide)
      have k8 : PySem.W.kitOne K (.ref (c 5)) (.ref (c 8)) = some false := T.isa _ (by decide) _ (by decide)
      have k9 : PySem.W.kitOne K (.ref (c 5)) (.ref (c 9)) = some false := T.isa _ (by decide) _ (by decide)
      have k10 : PySem.W.kitOne K (.ref (c 5)) (.ref (c 10)) = some false := T.isa _ (by decide) _ (by decide)
      have k11 : PySem.W.kitOne K (.ref (c 5)) (.ref (c 11)) = some false := T.isa _ (by decide) _ (by decide)
      have k12 : PySem.W.kitOne K (.ref (c 5)) (.ref (c 12)) = some false := T.isa _ (by decide) _ (by decide)
      have kv := T.ve 5 (by decide)
      have em := T.er 5 (by decide)
      refine ⟨_, rfl, _, _, _, _, rfl, rfl, hd, .own _, em, k5, _, rfl, _, rfl, _, _, _, _, rfl, rfl, hd, .own _, em, k2, _, rfl, _, rfl, _, _, _, _, rfl, rfl, hd, .ty _, em, kv, _, rfl, ?_⟩
      refine ⟨_, rfl, rfl, rfl, d, _, _, rfl, hd1, rfl, _, _, _, _, true, rfl, .ty _, .base (.str _), kit_ty (by decide +kernel), _, rfl, ?_⟩
      refine ⟨_, rfl, rfl, rfl, d, _, _, rfl, hd1, rfl, ?_⟩
      refine ⟨_, rfl, _, _, _, _, rfl, rfl, hd, .own _, em, k13, _, rfl, _, rfl, _, _, _, _, rfl, rfl, hd, .own _, em, k14, _, rfl, _, rfl, _, _, _, _, rfl, rfl, hd, .own _, em, k3, _, rfl, ?_⟩
      refine ⟨_, rfl, _, _, _, _, rfl, rfl, hd, .own _, em, k4, _, rfl, _, rfl, _, _, _, _, rfl, rfl, hd, .own _, em, k6, _, rfl, _, rfl, _, _, _, _, rfl, rfl, hd, .own _, em, k7, _, rfl, ?_⟩
      refine ⟨_, rfl, _, _, _, _, rfl, rfl, hd, .own _, em, k8, _, rfl, _, rfl, _, _, _, _, rfl, rfl, hd, .own _, em, k9, _, rfl, _, rfl, _, _, _, _, rfl, rfl, hd, .own _, em, k10, _, rfl, ?_⟩
      refine ⟨_, rfl, _, _, _, _, rfl, rfl, hd, .own _, em, k11, _, rfl, _, rfl, _, _, _, _, rfl, rfl, hd, .own _, em, k12, _, rfl, ?_⟩
      refine ⟨_, rfl, _, rfl, by show 2 ≤ sizeLine; decide, fun tp ntp => ?_⟩
      exact q _ [] tp kl _ ((s0.trans s1).trans (same_new ntp)) nk (SqT.of upd_same) (same_new ntp _ _ (s1 _ _ hk)) ⟨rfl, .inr ⟨ne, rfl⟩⟩
  · have hq0 := seqT_same s0 hq
    refine ⟨_, rfl, dd, _, _, _, rfl, rfl, hq0, atI_nat (j := 0) rfl, rfl, _, rfl, nope (by decide +kernel) ?_⟩
    obtain ⟨dx, sv, hp, hd⟩ := id hc
    refine ⟨_, rfl, .inl ⟨rfl, _, SqL.of hk⟩, _, rfl, p, dx, _, rfl, s0 _ _ hp, cf_no (by decide +kernel) (by decide +kernel) (by decide +kernel), _, rfl, dd, _, _, _, rfl, rfl, hq0, atI_nat (j := 1) rfl, _, rfl, dd, _, _, _, rfl, rfl, hq0, atI_nat (j := 2) rfl, _, rfl, dd, _, _, _, rfl, rfl, hq0, atI_nat (j := 3) rfl, ?_⟩
    refine ⟨p, c0, k, r, e, ev, t, rfl, hc.same s0, ho, hr, dp_same s0 he, heo, fun ee p' H1 s1 np' hc1 => ?_, fun ne d H1 s1 nd1 hd1 => ?_⟩
    · have hk1 := s1 _ _ hk
      generalize c0.put k (r.turn e t) = cn at *
      refine ⟨kl, _, _, rfl, rfl, hk1, by decide, ?_⟩
      refine ⟨_, rfl, _, rfl, by show 2 ≤ sizeLine; decide, fun tp ntp => ?_⟩
      have sk : Same H (upd H1 kl (.lst ([] ++ [.ref p']))) := fun b o hb => by
        rw [upd_ne (ne_of_none hb nk)]
        exact s1 _ _ (s0 _ _ hb)
      have hc' : ConAt K (c id_Contract) (upd H1 kl (.lst ([] ++ [.ref p']))) p' cn := by
        obtain ⟨dx, sv, hp, hs⟩ := hc1
        refine ⟨dx, sv, (upd_ne fun z => ?_).trans hp, dp_mut hk1 3 (ok_st (why_ok ee).sm) hs⟩
        subst z
        rw [hk1] at hp
        cases hp
      skip
      exact q _ [.ref p'] tp kl _ (sk.trans (same_new ntp)) nk (SqT.of upd_same) (same_new ntp _ _ upd_same) ⟨ee.symm, .inl ⟨ee, p', rfl, hc'.same (same_new ntp)⟩⟩
    · generalize c0.put k (r.turn e t) = cn at *
      refine ⟨true, exm 5 (by decide), fun _ a na => ?_, fun z => nomatch z⟩
      have hd : (some d : Option Addr) = none ∨ ∃ dd fs, (some d : Option Addr) = some dd ∧ H1 dd = some (.xd fs) := .inr ⟨d, _, rfl, hd1⟩
      have k5 : PySem.W.kitOne K (.ref (c 5)) (.ref (c 5)) = some true := T.isa _ (by decide) _ (by decide)
      have k2 : PySem.W.kitOne K (.ref (c 5)) (.ref (c 2)) = some true := T.isa _ (by decide) _ (by decide)
      have k13 : PySem.W.kitOne K (.ref (c 5)) (.ref (c 13)) = some false := T.isa _ (by decide) _ (by decide)
      have k14 : PySem.W.kitOne K (.ref (c 5)) (.ref (c 14)) = some false := T.isa _ (by decide) _ (by decide)
      have k3 : PySem.W.kitOne K (.ref (c 5)) (.ref (c 3)) = some false := T.isa _ (by decide) _ (by decide)
      have k4 : PySem.W.kitOne K (.ref (c 5)) (.ref (c 4)) = some false := T.isa _ (by decide) _ (by decide)
      have k6 : PySem.W.kitOne K (.ref (c 5)) (.ref (c 6)) = some false := T.isa _ (by decide) _ (by decide)
      have k7 : PySem.W.kitOne K (.ref (c 5)) (.ref (c 7)) = some false := T.isa _ (by decide) _ (by decide)
      have k8 : PySem.W.kitOne K (.ref (c 5)) (.ref (c 8)) = some false := T.isa _ (by decide) _ (by decide)
      have k9 : PySem.W.kitOne K (.ref (c 5)) (.ref (c 9)) = some false := T.isa _ (by decide) _ (by decide)
      have k10 : PySem.W.kitOne K (.ref (c 5)) (.ref (c 10)) = some false := T.isa _ (by decide) _ (by decide)
      have k11 : PySem.W.kitOne K (.ref (c 5)) (.ref (c 11)) = some false := T.isa _ (by decide) _ (by decide)
      have k12 : PySem.W.kitOne K (.ref (c 5)) (.ref (c 12)) = some false := T.isa _ (by decide) _ (by decide)
      have kv := T.ve 5 (by decide)
      have em := T.er 5 (by decide)
      refine ⟨_, rfl, _, _, _, _, rfl, rfl, hd, .own _, em, k5, _, rfl, _, rfl, _, _, _, _, rfl, rfl, hd, .own _, em, k2, _, rfl, _, rfl, _, _, _, _, rfl, rfl, hd, .ty _, em, kv, _, rfl, ?_⟩
      refine ⟨_, rfl, rfl, rfl, d, _, _, rfl, hd1, rfl, _, _, _, _, true, rfl, .ty _, .base (.str _), kit_ty (by decide +kernel), _, rfl, ?_⟩
      refine ⟨_, rfl, rfl, rfl, d, _, _, rfl, hd1, rfl, ?_⟩
      refine ⟨_, rfl, _, _, _, _, rfl, rfl, hd, .own _, em, k13, _, rfl, _, rfl, _, _, _, _, rfl, rfl, hd, .own _, em, k14, _, rfl, _, rfl, _, _, _, _, rfl, rfl, hd, .own _, em, k3, _, rfl, ?_⟩
      refine ⟨_, rfl, _, _, _, _, rfl, rfl, hd, .own _, em, k4, _, rfl, _, rfl, _, _, _, _, rfl, rfl, hd, .own _, em, k6, _, rfl, _, rfl, _, _, _, _, rfl, rfl, hd, .own _, em, k7, _, rfl, ?_⟩
      refine ⟨_, rfl, _, _, _, _, rfl, rfl, hd, .own _, em, k8, _, rfl, _, rfl, _, _, _, _, rfl, rfl, hd, .own _, em, k9, _, rfl, _, rfl, _, _, _, _, rfl, rfl, hd, .own _, em, k10, _, rfl, ?_⟩
      refine ⟨_, rfl, _, _, _, _, rfl, rfl, hd, .own _, em, k11, _, rfl, _, rfl, _, _, _, _, rfl, rfl, hd, .own _, em, k12, _, rfl, ?_⟩
      refine ⟨_, rfl, _, rfl, by show 2 ≤ sizeLine; decide, fun tp ntp => ?_⟩
      exact q _ [] tp kl _ ((s0.trans s1).trans (same_new ntp)) nk (SqT.of upd_same) (same_new ntp _ _ (s1 _ _ hk)) ⟨rfl, .inr ⟨ne, rfl⟩⟩


end
end Pf

namespace Pf
open PySem PySem.Spec PyProof.Rows L2
section
variable {P : Program} {w : World} {K : PySem.W.Frag} {mg : Str → Option Value} {base : Heap}
variable {c : Nat → Addr}
def flV : Option Bool → V
  | none => .non
  | some b => .bl b
def Row.flag (r : Row) (fi si : Option Bool) : Row := ⟨r.rd, r.ov, r.wr, fi.getD r.fi, si.getD r.si⟩
theorem put_ok {cn : Cn} {k : Nat} {rf r : Row} (ho : cn.Ok) (hr : cn.st[k]? = some r) (e1 : rf.rd = r.rd) (e2 : rf.ov = r.ov) (e3 : rf.wr = r.wr) : (cn.put k rf).Ok := by
  have hm := List.mem_of_getElem? hr
  have ets : rf.ts = r.ts := by unfold Row.ts; rw [e1, e2, e3]
  refine ⟨ho.l1, ho.l3, ho.a2, ho.a4, by show 1 ≤ (cn.st.set k rf).length; rw [List.length_set]; exact ho.s1, by show (cn.st.set k rf).length ≤ 8; rw [List.length_set]; exact ho.s8, fun x hx => ?_, fun x hx o hx2 t e => ?_⟩
  · rcases List.mem_or_eq_of_mem_set (show x ∈ cn.st.set k rf from hx) with hx | rfl
    · exact ho.rl x hx
    · rw [e1, e3]
      exact ho.rl r hm
  · show 0 ≤ t ∧ t < ((cn.st.set k rf).length : Int)
    rw [List.length_set]
    rcases List.mem_or_eq_of_mem_set (show x ∈ cn.st.set k rf from hx) with hx | rfl
    · exact ho.tg x hx o hx2 t e
    · rw [ets] at hx2
      exact ho.tg r hm o hx2 t e
def sp_with_flags (K : PySem.W.Frag) (C : Addr) : Sp := fun vs H Q _ => ∃ (p : Addr) (cn : Cn) (k : Nat) (r : Row) (fi si : Option Bool), vs = [.ref p, .int (k : Int), flV fi, flV si] ∧ ConAt K C H p cn ∧ cn.Ok ∧ cn.st[k]? = some r ∧
  ∀ (p' : Addr) (H' : Hp), Same H H' → H p' = none → ConAt K C H' p' (cn.put k (r.flag fi si)) → Q (.ref p') H'
theorem ok_Contract_with_flags (T : Txt P K mg c) : HasMKw P w K mg base 9 (c 24) "with_flags" "finish" "silence" ["self", "state", "finish", "silence"] (sp_with_flags K (c id_Contract)) := by
  obtain ⟨f, fd, F, m, b⟩ := T.d_Contract_with_flags
  obtain ⟨f_Contract_with_state, fd_Contract_with_state, G_Contract_with_state, M_Contract_with_state, b_Contract_with_state⟩ := ok_Contract_with_state (P := P) (w := w) (base := base) T
  refine ⟨f, fd, F.ok sc_Contract_with_flags (fun vs H Q E h => ?_) (fun cdv A outer s H vs Q E hr h => ?_), m, b⟩
  · obtain ⟨p, cn, k, r, fi, si, rfl, hc, ho, hrk, q⟩ := h
    rfl
  obtain ⟨p, cn, k, r, fi, si, rfl, hc, ho, hrk, q⟩ := h
  refine ⟨_, (pss_cons (ps_asg (pe_ix ix_tup (pe_fld (pv 0) rfl) (pv 1) (fun _ _ => rfl)) (pg_tup rfl (pgs_cons (pg_name (i := 4) sc_Contract_with_flags.nd rfl (.inl rfl)) (pgs_cons (pg_name (i := 5) sc_Contract_with_flags.nd rfl (.inl rfl)) (pgs_cons (pg_name (i := 6) sc_Contract_with_flags.nd rfl (.inl rfl)) (pgs_cons (pg_name (i := 7) sc_Contract_with_flags.nd rfl (.inl rfl)) (pgs_cons (pg_name (i := 8) sc_Contract_with_flags.nd rfl (.inl rfl)) pgs_nil)))))))
      (pss_cons (ps_set (i := 9) sc_Contract_with_flags.nd rfl (.inl rfl) (pe_ifExp (pt_cmpR op_isN (pv 2) pe_non (nomark _)) (pv 7) (pv 2)))
      (pss_cons (ps_set (i := 10) sc_Contract_with_flags.nd rfl (.inl rfl) (pe_ifExp (pt_cmpR op_isN (pv 3) pe_non (nomark _)) (pv 8) (pv 3)))
      (pss_one (ps_ret (pe_methSx (pv 0) T.cl_Contract M_Contract_with_state G_Contract_with_state (hr.mono (by decide)) b_Contract_with_state (fun σ => passX0 (σ := σ)) (pa_cons (pv 1) (pa_cons (pe_tup (pa_cons (pv 4) (pa_cons (pv 5) (pa_cons (pv 6) (pa_cons (pv 9) (pa_cons (pv 10) pa_nil)))))) pa_nil)))))))), ?_⟩
  obtain ⟨dx, sv, hp, hd⟩ := id hc
  have hk := (List.getElem?_eq_some_iff.mp hrk).1
  obtain ⟨rl, wl⟩ := ho.rl r (List.mem_of_getElem? hrk)
  have l3 := ho.l3
  have a4 := ho.a4
  obtain ⟨sa, xs, x, rfl, hq, hx, hrow⟩ := dp_ix hd (i := k) (d := r.d) (by rw [List.getElem?_map, hrk]; rfl)
  have hrow' : Dp K H x (.tuple [.tuple (r.rd.map oD), oD r.ov, .tuple (r.wr.map oD), .bool r.fi, .bool r.si]) := hrow
  obtain ⟨ra, ws, rfl, hqr, hw⟩ := dp_tup hrow'
  cases hw with
  | cons w0 hw =>
  cases hw with
  | cons w1 hw =>
  cases hw with
  | cons w2 hw =>
  cases hw with
  | cons w3 hw =>
  cases hw with
  | cons w4 hw =>
  cases hw
  cases w3
  cases w4
  obtain rfl := dp_oV w1
  have tO : ∀ os : List (Option Int), os.length ≤ 10 → tupOk 1 (.tuple (os.map oD)) := fun os h => ⟨by rw [List.length_map]; omega, fun d hd => by
    obtain ⟨o, _, rfl⟩ := List.mem_map.mp hd
    exact ok_o 0 o⟩
  have m0 := dl_dp 1 (tO _ (by omega)) w0
  have m2 := dl_dp 1 (tO _ (by omega)) w2
  refine ⟨_, rfl, p, _, dx, _, _, rfl, hp, T.cl_Contract, T.n_Contract_states, cf_s, _, rfl, sa, xs, _, _, rfl, rfl, hq, hx, ?_⟩
  obtain ⟨a0, ys0, rfl, hq0, hk0⟩ := dp_tup w0
  obtain ⟨a2, ys2, rfl, hq2, hk2⟩ := dp_tup w2
  obtain rfl := dpa_oV hk0
  obtain rfl := dpa_oV hk2
  refine ⟨ra, _, rfl, hqr, rfl, _, _, rfl, _, _, rfl, _, _, rfl, _, _, rfl, _, _, rfl, rfl, ?_⟩
  obtain ⟨rf, q, f1, f2, f3, hfi, hsi⟩ : ∃ rf : Row, (∀ (p' : Addr) (H' : Hp), Same H H' → H p' = none → ConAt K (c id_Contract) H' p' (cn.put k rf) → Q (.ref p') H') ∧ rf.rd = r.rd ∧ rf.ov = r.ov ∧ rf.wr = r.wr ∧ rf.fi = fi.getD r.fi ∧ rf.si = si.getD r.si := ⟨_, q, rfl, rfl, rfl, rfl, rfl⟩
  have w0 := ok_why (put_ok ho hrk f1 f2 f3)
  have fin : ∀ tp, H tp = none → sp_with_state K (c id_Contract) (c id_InvalidContract) [.ref p, .int (k : Int), .ref tp] (upd H tp (.tup [.ref a0, oV r.ov, .ref a2, .bl rf.fi, .bl rf.si])) Q E0 := fun tp ntp => by
    have e2 := same_new (o := .tup [.ref a0, oV r.ov, .ref a2, .bl rf.fi, .bl rf.si]) ntp
    refine ⟨p, cn, k, rf, .ref tp, .tuple [.tuple (r.rd.map oD), oD r.ov, .tuple (r.wr.map oD), .bool rf.fi, .bool rf.si], rfl, hc.same e2, ho.sm, hk, ?_, ⟨.tuple (r.rd.map oD), .tuple (r.wr.map oD), by rw [f2], by rw [f1]; exact .inr rfl, by rw [f3]; exact .inr rfl⟩, by rw [f1]; omega, by rw [f3]; omega, fun w p' H' s3 np' hc' => q p' H' (e2.trans s3) (e2.free np') hc', fun w => absurd w0 w⟩
    exact .tup (SqT.of upd_same) (.cons (dl_same e2 m0) (.cons (dl_o _) (.cons (dl_same e2 m2) (.cons (.bl _) (.cons (.bl _) .nil)))))
  rcases fi with _ | fi <;> rcases si with _ | si
  all_goals
    simp only [Option.getD] at hfi hsi
    refine ⟨_, rfl, rfl, _, rfl, ?_⟩
    first | refine yes rfl ⟨_, rfl, ?_⟩ | refine nope (fun z => nomatch z) ⟨_, rfl, ?_⟩
    refine ⟨_, rfl, rfl, _, rfl, ?_⟩
    first | refine yes rfl ⟨_, rfl, ?_⟩ | refine nope (fun z => nomatch z) ⟨_, rfl, ?_⟩
    refine ⟨_, rfl, p, dx, _, rfl, hp, cf_no (by decide +kernel) (by decide +kernel) (by decide +kernel), _, rfl, _, rfl, _, rfl, _, rfl, _, rfl, _, rfl, by show 5 ≤ sizeLine; decide, fun tp ntp => ?_⟩
    have z := fin tp ntp
    rw [hfi, hsi] at z
    exact z


end
end Pf

namespace Pf
open PySem PySem.Spec PyProof.Rows L2
section
variable {P : Program} {w : World} {K : PySem.W.Frag} {mg : Str → Option Value} {base : Heap}
variable {c : Nat → Addr}
def sp__law_flagged (K : PySem.W.Frag) (C : Addr) : Sp := fun vs H Q _ => ∃ (p : Addr) (cn : Cn) (k : Nat) (r : Row) (fl : Addr) (f0 f1 : Option Bool) (fm : Int), vs = [.ref p, .int (k : Int), .ref fl, .int fm] ∧ ConAt K C H p cn ∧ cn.Ok ∧ cn.st[k]? = some r ∧ SqL K H fl [flV f0, flV f1] ∧
  ∀ (p' : Addr) (H' : Hp), Same H H' → H p' = none → ConAt K C H' p' (cn.put k (r.flag (if fm = 0 ∨ fm = 2 then none else f0) (if fm = 0 ∨ fm = 1 then none else f1))) → Q (.ref p') H'
theorem ok__law_flagged (T : Txt P K mg c) : Has P w K mg base 10 "_law_flagged" ["contract", "state", "flags", "form"] (sp__law_flagged K (c id_Contract)) := by
  obtain ⟨f, fd, F, m, b⟩ := T.d__law_flagged.ex
  obtain ⟨f_Contract_with_flags, fd_Contract_with_flags, G_Contract_with_flags, M_Contract_with_flags, b_Contract_with_flags⟩ := ok_Contract_with_flags (P := P) (w := w) (base := base) T
  refine ⟨f, fd, F.ok sc__law_flagged (fun vs H Q E h => ?_) (fun cdv A outer s H vs Q E hr h => ?_), m, F.kp, b⟩
  · obtain ⟨p, cn, k, r, fl, f0, f1, fm, rfl, hc, ho, hrk, hfl, q⟩ := h
    rfl
  obtain ⟨p, cn, k, r, fl, f0, f1, fm, rfl, hc, ho, hrk, hfl, q⟩ := h
  refine ⟨_, (pss_cons (ps_if (pt_cmpR op_eq (pv 3) pe_int (nomark _))
      (pss_one (ps_ret (pe_meth (pv 0) T.cl_Contract M_Contract_with_flags G_Contract_with_flags (hr.mono (by decide)) b_Contract_with_flags.1 (show Vals [V.non, V.non] [Value.none, Value.none] from .cons rfl (.cons rfl .nil)) pass0 (pa_cons (pv 1) pa_nil))))
      pss_nil)
      (pss_cons (ps_if (pt_cmpR op_eq (pv 3) pe_int (nomark _))
      (pss_one (ps_ret (pe_methKw (pv 0) T.cl_Contract M_Contract_with_flags G_Contract_with_flags (hr.mono (by decide)) b_Contract_with_flags.2.1 pass0 (pa_cons (pv 1) pa_nil) (pk_cons (pe_ix ix_list (pv 2) pe_int (fun _ _ => rfl)) pk_nil))))
      pss_nil)
      (pss_cons (ps_if (pt_cmpR op_eq (pv 3) pe_int (nomark _))
      (pss_one (ps_ret (pe_methKw (pv 0) T.cl_Contract M_Contract_with_flags G_Contract_with_flags (hr.mono (by decide)) b_Contract_with_flags.2.2.1 pass0 (pa_cons (pv 1) pa_nil) (pk_cons (pe_ix ix_list (pv 2) pe_int (fun _ _ => rfl)) pk_nil))))
      pss_nil)
      (pss_one (ps_ret (pe_methKw (pv 0) T.cl_Contract M_Contract_with_flags G_Contract_with_flags (hr.mono (by decide)) b_Contract_with_flags.2.2.2 pass0 (pa_cons (pv 1) pa_nil) (pk_cons (pe_ix ix_list (pv 2) pe_int (fun _ _ => rfl)) (pk_cons (pe_ix ix_list (pv 2) pe_int (fun _ _ => rfl)) pk_nil)))))))), ?_⟩
  obtain ⟨dx, sv, hp, hd⟩ := id hc
  have no : (cf cn sv).lookup ("with_flags" : Str) = none := cf_no (by decide +kernel) (by decide +kernel) (by decide +kernel)
  have x0 : atI [flV f0, flV f1] 0 = some (flV f0) := atI_nat (j := 0) rfl
  have x1 : atI [flV f0, flV f1] 1 = some (flV f1) := atI_nat (j := 1) rfl
  have call : ∀ (fi si : Option Bool), fi = (if fm = 0 ∨ fm = 2 then none else f0) → si = (if fm = 0 ∨ fm = 1 then none else f1) → sp_with_flags K (c id_Contract) [.ref p, .int (k : Int), flV fi, flV si] H Q E0 := fun fi si e1 e2 => ⟨p, cn, k, r, fi, si, rfl, hc, ho, hrk, by rw [e1, e2]; exact q⟩
  refine ⟨_, rfl, rfl, _, rfl, ite2 (fun e => ?_) (fun e => ?_)⟩
  · have e := int_of_bl e
    exact ⟨_, rfl, p, dx, _, rfl, hp, no, _, rfl, call none none (by rw [if_pos (.inl e)]) (by rw [if_pos (.inl e)])⟩
  have ne0 := int_ne_bl e
  refine ⟨_, rfl, rfl, _, rfl, ite2 (fun e => ?_) (fun e => ?_)⟩
  · have e := int_of_bl e
    exact ⟨_, rfl, p, dx, _, rfl, hp, no, _, rfl, _, rfl, fl, _, _, _, rfl, rfl, hfl, x0, rfl, rfl, call f0 none (by rw [if_neg (by omega)]) (by rw [if_pos (.inr e)])⟩
  have ne1 := int_ne_bl e
  refine ⟨_, rfl, rfl, _, rfl, ite2 (fun e => ?_) (fun e => ?_)⟩
  · have e := int_of_bl e
    exact ⟨_, rfl, p, dx, _, rfl, hp, no, _, rfl, _, rfl, fl, _, _, _, rfl, rfl, hfl, x1, rfl, rfl, call none f1 (by rw [if_pos (.inr e)]) (by rw [if_neg (by omega)])⟩
  have ne2 := int_ne_bl e
  exact ⟨_, rfl, p, dx, _, rfl, hp, no, _, rfl, _, rfl, fl, _, _, _, rfl, rfl, hfl, x0, _, rfl, fl, _, _, _, rfl, rfl, hfl, x1, rfl, rfl, call f0 f1 (by rw [if_neg (by omega)]) (by rw [if_neg (by omega)])⟩


end
end Pf

namespace Pf
open PySem PySem.Spec PyProof.Rows L2
section
variable {P : Program} {w : World} {K : PySem.W.Frag} {mg : Str → Option Value} {base : Heap}
variable {c : Nat → Addr}
/-! ### a row with another target: right exactly if the target is a state or None -/
theorem turn_len (r : Row) (e : Ev) (t : Option Int) : (r.turn e t).rd.length = r.rd.length ∧ (r.turn e t).wr.length = r.wr.length := by
  cases e with
  | over => exact ⟨rfl, rfl⟩
  | read n => exact ⟨List.length_set, rfl⟩
  | write n => exact ⟨rfl, List.length_set⟩
theorem mem_turn {r : Row} {e : Ev} {t o : Option Int} (h : o ∈ (r.turn e t).ts) : o = t ∨ o ∈ r.ts := by
  unfold Row.ts at h ⊢
  cases e with
  | over =>
    rcases List.mem_append.mp h with h | h
    · rcases List.mem_append.mp h with h | h
      · exact .inr (List.mem_append_left _ (List.mem_append_left _ h))
      · exact .inl (List.mem_singleton.mp h)
    · exact .inr (List.mem_append_right _ h)
  | read n =>
    rcases List.mem_append.mp h with h | h
    · rcases List.mem_append.mp h with h | h
      · rcases List.mem_or_eq_of_mem_set (show o ∈ r.rd.set n t from h) with h | h
        · exact .inr (List.mem_append_left _ (List.mem_append_left _ h))
        · exact .inl h
      · exact .inr (List.mem_append_left _ (List.mem_append_right _ h))
    · exact .inr (List.mem_append_right _ h)
  | write n =>
    rcases List.mem_append.mp h with h | h
    · exact .inr (List.mem_append_left _ h)
    · rcases List.mem_or_eq_of_mem_set (show o ∈ r.wr.set n t from h) with h | h
      · exact .inr (List.mem_append_right _ h)
      · exact .inl h
theorem turn_mem {r : Row} {e : Ev} {t : Option Int} (h : r.Fit e) : t ∈ (r.turn e t).ts := by
  unfold Row.ts
  cases e with
  | over => exact List.mem_append_left _ (List.mem_append_right _ (List.mem_singleton.mpr rfl))
  | read n => exact List.mem_append_left _ (List.mem_append_left _ (List.mem_set (show n < r.rd.length from h) t))
  | write n => exact List.mem_append_right _ (List.mem_set (show n < r.wr.length from h) t)
theorem fit_of {cn : Cn} {k : Nat} {r : Row} {e : Ev} (ho : cn.Ok) (hr : cn.st[k]? = some r) (he : e.Ok cn.l cn.a) : r.Fit e := by
  obtain ⟨h1, h2⟩ := ho.rl r (List.mem_of_getElem? hr)
  cases e with
  | over => trivial
  | read n =>
    have : (n : Int) < cn.l := he
    show n < r.rd.length
    omega
  | write n =>
    have : (n : Int) < cn.a := he
    show n < r.wr.length
    omega
theorem put_rl {cn : Cn} {k : Nat} {r : Row} {e : Ev} {t : Option Int} (ho : cn.Ok) (hr : cn.st[k]? = some r) : ∀ x ∈ (cn.put k (r.turn e t)).st, (x.rd.length : Int) = cn.l ∧ (x.wr.length : Int) = cn.a := fun x hx => by
  rcases List.mem_or_eq_of_mem_set (show x ∈ cn.st.set k (r.turn e t) from hx) with hx | rfl
  · exact ho.rl x hx
  · obtain ⟨h1, h2⟩ := ho.rl r (List.mem_of_getElem? hr)
    obtain ⟨l1, l2⟩ := turn_len r e t
    rw [l1, l2]
    exact ⟨h1, h2⟩
theorem turn_ok {cn : Cn} {k : Nat} {r : Row} {e : Ev} {t : Option Int} (ho : cn.Ok) (hr : cn.st[k]? = some r) (ht : ∀ x, t = some x → 0 ≤ x ∧ x < (cn.st.length : Int)) : (cn.put k (r.turn e t)).Ok := by
  refine ⟨ho.l1, ho.l3, ho.a2, ho.a4, by show 1 ≤ (cn.st.set k _).length; rw [List.length_set]; exact ho.s1, by show (cn.st.set k _).length ≤ 8; rw [List.length_set]; exact ho.s8, put_rl ho hr, fun x hx o hx2 u eu => ?_⟩
  show 0 ≤ u ∧ u < ((cn.st.set k (r.turn e t)).length : Int)
  rw [List.length_set]
  rcases List.mem_or_eq_of_mem_set (show x ∈ cn.st.set k (r.turn e t) from hx) with hx | rfl
  · exact ho.tg x hx o hx2 u eu
  · rcases mem_turn hx2 with rfl | h
    · exact ht u eu
    · exact ho.tg r (List.mem_of_getElem? hr) o h u eu
theorem turn_bad {cn : Cn} {k : Nat} {r : Row} {e : Ev} {x : Int} (ho : cn.Ok) (hr : cn.st[k]? = some r) (he : e.Ok cn.l cn.a) (hx : ¬ (0 ≤ x ∧ x < (cn.st.length : Int))) : (cn.put k (r.turn e (some x))).why = "target" := by
  have hk := (List.getElem?_eq_some_iff.mp hr).1
  have el : lrs (cn.put k (r.turn e (some x))).l (cn.put k (r.turn e (some x))).a = Str.empty := by
    show lrs cn.l cn.a = _
    unfold lrs
    rw [if_pos ⟨ho.l1, ho.l3⟩, if_pos ⟨ho.a2, ho.a4⟩]
  unfold Cn.why
  rw [if_pos el]
  unfold srs
  have h3 : (cn.put k (r.turn e (some x))).st.length = cn.st.length := List.length_set
  have h4 : ¬ (cn.put k (r.turn e (some x))).st.any (rowBad (cn.put k (r.turn e (some x))).l (cn.put k (r.turn e (some x))).a) = true := fun z => by
    obtain ⟨y, hy, z⟩ := List.any_eq_true.mp z
    obtain ⟨e1, e2⟩ := put_rl ho hr y hy
    have z' : rowBad cn.l cn.a y = true := z
    unfold rowBad at z'
    rw [decide_eq_true e1, decide_eq_true e2] at z'
    cases z'
  have h5 : ((cn.put k (r.turn e (some x))).st.flatMap Row.ts).any (tgBad (cn.put k (r.turn e (some x))).st.length) = true := by
    refine List.any_eq_true.mpr ⟨some x, List.mem_flatMap.mpr ⟨r.turn e (some x), List.mem_set hk _, turn_mem (fit_of ho hr he)⟩, ?_⟩
    rw [h3]
    simp only [tgBad, Bool.not_eq_true', Bool.and_eq_false_imp, decide_eq_true_eq, decide_eq_false_iff_not]
    exact fun h => fun h' => hx ⟨h, h'⟩
  have s1 := ho.s1
  have s8 := ho.s8
  rw [if_pos ⟨by rw [h3]; exact s1, by rw [h3]; exact s8⟩, if_neg h4, if_pos h5]


end
end Pf

namespace Pf
open PySem PySem.Spec PyProof.Rows L2
section
variable {P : Program} {w : World} {K : PySem.W.Frag} {mg : Str → Option Value} {base : Heap}
variable {c : Nat → Addr}
def Cur (K : PySem.W.Frag) (C : Addr) (H : Hp) (p : Addr) (v : V) (cn : Cn) : Prop := cn.Ok ∧ ConAt K C H p cn ∧ Dp K H v cn.d
theorem ok_cn {cn : Cn} (h : cn.Ok) : tupOk 4 cn.d := ⟨by show 3 ≤ 100000; decide, fun d hd => by
  rcases List.mem_cons.mp hd with rfl | hd
  · simp [tupOk]
  rcases List.mem_cons.mp hd with rfl | hd
  · simp [tupOk]
  rcases List.mem_singleton.mp hd with rfl
  exact ok_st h.sm⟩
theorem Cur.same {K : PySem.W.Frag} {C : Addr} {H H' : Hp} {p : Addr} {v : V} {cn : Cn} (e : Same H H') (h : Cur K C H p v cn) : Cur K C H' p v cn := ⟨h.1, h.2.1.same e, dp_same e h.2.2⟩
theorem Cur.frl {K : PySem.W.Frag} {C : Addr} {H H' : Hp} {r p : Addr} {ys : List V} {v : V} {cn : Cn} (hr : H r = some (.lst ys)) (f : Fr r H H') (h : Cur K C H p v cn) : Cur K C H' p v cn := by
  obtain ⟨ho, ⟨dx, s, hp, hs⟩, hd⟩ := h
  refine ⟨ho, ⟨dx, s, f _ _ (fun e => ?_) hp, dp_frl hr f 3 (ok_st ho.sm) hs⟩, dp_frl hr f 4 (ok_cn ho) hd⟩
  subst e
  rw [hr] at hp
  cases hp
theorem Cur.R {K : PySem.W.Frag} {C : Addr} {H H' : Hp} {r p : Addr} {v : V} {cn : Cn} (R : RD H r) (f : Fr r H H') (h : Cur K C H p v cn) : Cur K C H' p v cn := by
  obtain ⟨_, _, _, e⟩ := R
  exact h.frl e f
def Shw (K : PySem.W.Frag) (C : Addr) (H : Hp) (x : V) : Prop := ∃ (t p : Addr) (v : V) (cn : Cn), x = .ref t ∧ SqT K H t [.ref p, v] ∧ Cur K C H p v cn
theorem Shw.same {K : PySem.W.Frag} {C : Addr} {H H' : Hp} {x : V} (e : Same H H') (h : Shw K C H x) : Shw K C H' x := by
  obtain ⟨t, p, v, cn, rfl, ht, hc⟩ := h
  exact ⟨t, p, v, cn, rfl, seqT_same e ht, hc.same e⟩
theorem Shw.frl {K : PySem.W.Frag} {C : Addr} {H H' : Hp} {r : Addr} {ys : List V} {x : V} (hr : H r = some (.lst ys)) (f : Fr r H H') (h : Shw K C H x) : Shw K C H' x := by
  obtain ⟨t, p, v, cn, rfl, ht, hc⟩ := h
  exact ⟨t, p, v, cn, rfl, seqT_frl hr f ht, hc.frl hr f⟩
theorem Shw.R {K : PySem.W.Frag} {C : Addr} {H H' : Hp} {r : Addr} {x : V} (R : RD H r) (f : Fr r H H') (h : Shw K C H x) : Shw K C H' x := by
  obtain ⟨_, _, _, e⟩ := R
  exact h.frl e f
/-- how things stand between the steps -/
structure Wk (K : PySem.W.Frag) (C : Addr) (H0 : Hp) (r L : Addr) (xs : List V) (p : Addr) (v : V) (cn : Cn) (H : Hp) : Prop where
  fr : Fr r H0 H
  rd : RD H r
  li : H L = some (.lst xs)
  sh : ∀ x ∈ xs, Shw K C H x
  cu : Cur K C H p v cn
theorem Wk.same {K : PySem.W.Frag} {C : Addr} {H0 H H' : Hp} {r L p : Addr} {xs : List V} {v : V} {cn : Cn} (h : Wk K C H0 r L xs p v cn H) (e : Same H H') : Wk K C H0 r L xs p v cn H' := ⟨h.fr.trans (Fr.of e), h.rd.of e, e _ _ h.li, fun x hx => (h.sh x hx).same e, h.cu.same e⟩
theorem Wk.R {K : PySem.W.Frag} {C : Addr} {H0 H H' : Hp} {r L p : Addr} {xs : List V} {v : V} {cn : Cn} (h : Wk K C H0 r L xs p v cn H) (n : L ≠ r) (f : Fr r H H') (R : RD H' r) : Wk K C H0 r L xs p v cn H' := ⟨h.fr.trans f, R, f _ _ n h.li, fun x hx => (h.sh x hx).R h.rd f, h.cu.R h.rd f⟩
theorem Wk.put {K : PySem.W.Frag} {C : Addr} {H0 H : Hp} {r L p t : Addr} {xs : List V} {v : V} {cn : Cn} (h : Wk K C H0 r L xs p v cn H) (n : L ≠ r) (n0 : H0 L = none) (ht : SqT K H t [.ref p, v]) : Wk K C H0 r L (xs ++ [.ref t]) p v cn (upd H L (.lst (xs ++ [.ref t]))) := by
  have f : Fr L H (upd H L (.lst (xs ++ [.ref t]))) := Fr.upd
  obtain ⟨a, b, d, e⟩ := h.rd
  have hc := h.cu.frl h.li f
  refine ⟨h.fr.mut n0, ⟨a, b, d, (upd_ne n.symm).trans e⟩, upd_same, fun x hx => ?_, hc⟩
  rcases List.mem_append.mp hx with hx | hx
  · exact (h.sh x hx).frl h.li f
  · rcases List.mem_singleton.mp hx with rfl
    exact ⟨t, p, v, cn, rfl, seqT_frl h.li f ht, hc⟩
theorem Wk.swap {K : PySem.W.Frag} {C : Addr} {H0 H : Hp} {r L p p' : Addr} {xs : List V} {v v' : V} {cn cn' : Cn} (h : Wk K C H0 r L xs p v cn H) (hc : Cur K C H p' v' cn') : Wk K C H0 r L xs p' v' cn' H := ⟨h.fr, h.rd, h.li, h.sh, hc⟩
theorem Wk.oth {K : PySem.W.Frag} {C : Addr} {H0 H : Hp} {r L p D : Addr} {xs ys : List V} {v : V} {cn : Cn} {o : HO} (h : Wk K C H0 r L xs p v cn H) (hD : H D = some (.lst ys)) (n1 : D ≠ r) (n2 : D ≠ L) (n0 : H0 D = none) : Wk K C H0 r L xs p v cn (upd H D o) := by
  have f : Fr D H (upd H D o) := Fr.upd
  obtain ⟨a, b, d, e⟩ := h.rd
  exact ⟨h.fr.mut n0, ⟨a, b, d, (upd_ne n1.symm).trans e⟩, (upd_ne n2.symm).trans h.li, fun x hx => (h.sh x hx).frl hD f, h.cu.frl hD f⟩
theorem put_self {cn : Cn} {k : Nat} {r : Row} (h : cn.st[k]? = some r) : cn.put k r = cn := by
  obtain ⟨l, a, st⟩ := cn
  have : st.set k r = st := by
    apply List.ext_getElem?
    intro i
    by_cases e : k = i
    · subst e
      rw [List.getElem?_set_self (List.getElem?_eq_some_iff.mp h).1]
      exact h.symm
    · rw [List.getElem?_set_ne e]
  show (⟨l, a, st.set k r⟩ : Cn) = _
  rw [this]
theorem put_put {cn : Cn} {k : Nat} {r q : Row} : (cn.put k r).put k q = cn.put k q := by
  show (⟨cn.l, cn.a, (cn.st.set k r).set k q⟩ : Cn) = _
  rw [List.set_set]
  rfl
theorem in_two {n a b : Int} : inV (V.int n) [.int a, .int b] = (decide (n = a) || decide (n = b)) := by
  have e : ∀ x y : Int, eqV (V.int x) (V.int y) = decide (y = x) := fun x y => by
    by_cases h : y = x
    · subst h
      simp [eqV]
    · simp [eqV, h, Ne.symm h]
  simp only [inV, List.any_cons, List.any_nil, e, Bool.or_false]
def sp__law_walked (K : PySem.W.Frag) (C : Addr) : Sp := fun us H Q _ => ∃ (r p : Addr) (v : V) (cn : Cn), us = [.ref r, .ref p, v] ∧ RD H r ∧ Cur K C H p v cn ∧
  ∀ (L : Addr) (xs : List V) (H' : Hp), Fr r H H' → RD H' r → H L = none → H' L = some (.lst xs) → xs ≠ [] → xs.length ≤ 7 → (∀ x ∈ xs, Shw K C H' x) → Q (.ref L) H'
theorem ok__law_walked (T : Txt P K mg c) : Has P w K mg base 11 "_law_walked" ["reader", "contract", "parts"] (sp__law_walked K (c id_Contract)) := by
  obtain ⟨f, fd, F, m, b⟩ := T.d__law_walked.ex
  obtain ⟨f__law_next, fd__law_next, G__law_next, m__law_next, k__law_next, b__law_next⟩ := ok__law_next (P := P) (w := w) (base := base) T
  obtain ⟨f__law_events, fd__law_events, G__law_events, m__law_events, k__law_events, b__law_events⟩ := ok__law_events (P := P) (w := w) (base := base) T
  obtain ⟨f__law_told, fd__law_told, G__law_told, m__law_told, k__law_told, b__law_told⟩ := ok__law_told (P := P) (w := w) (base := base) T
  obtain ⟨f__law_put, fd__law_put, G__law_put, m__law_put, k__law_put, b__law_put⟩ := ok__law_put (P := P) (w := w) (base := base) T
  obtain ⟨f__law_turned_row, fd__law_turned_row, G__law_turned_row, m__law_turned_row, k__law_turned_row, b__law_turned_row⟩ := ok__law_turned_row (P := P) (w := w) (base := base) T
  obtain ⟨f__law_flagged, fd__law_flagged, G__law_flagged, m__law_flagged, k__law_flagged, b__law_flagged⟩ := ok__law_flagged (P := P) (w := w) (base := base) T
  refine ⟨f, fd, F.ok sc__law_walked (fun vs H Q E h => ?_) (fun cdv A outer s H vs Q E hr h => ?_), m, F.kp, b⟩
  · obtain ⟨r, p, v, cn, rfl, hR, hcur, q⟩ := h
    rfl
  obtain ⟨r, p, v, cn, rfl, hR, hcur, q⟩ := h
  refine ⟨_, (pss_cons (ps_set (i := 3) sc__law_walked.nd rfl (.inl rfl) (pe_lst (pa_cons (pe_tup (pa_cons (pv 1) (pa_cons (pv 2) pa_nil))) pa_nil)))
      (pss_cons (ps_for PassesOwn.never rfl (pi_range1 (by rfl) T.z_range (pa_cons pe_int pa_nil)) (pg_name (i := 4) sc__law_walked.nd rfl (.inl rfl))
      (pss_cons (ps_set (i := 5) sc__law_walked.nd rfl (.inl rfl) (pe_callB call_len_seq (by rfl) T.z_len (by decide +kernel) (pa_cons (pe_ix ix_tup (pv 2) pe_int (fun _ _ => rfl)) pa_nil)))
        (pss_cons (ps_set (i := 6) sc__law_walked.nd rfl (.inl rfl) (pe_call G__law_next (hr.mono (by decide)) (by rfl) m__law_next k__law_next b__law_next .nil pass0 (pa_cons (pv 0) (pa_cons (pv 5) pa_nil))))
        (pss_cons (ps_set (i := 7) sc__law_walked.nd rfl (.inl rfl) (pe_call G__law_events (hr.mono (by decide)) (by rfl) m__law_events k__law_events b__law_events .nil pass0 (pa_cons (pe_ix ix_tup (pv 2) pe_int (fun _ _ => rfl)) (pa_cons (pe_ix ix_tup (pv 2) pe_int (fun _ _ => rfl)) pa_nil))))
        (pss_cons (ps_set (i := 8) sc__law_walked.nd rfl (.inl rfl) (pe_ix ix_list (pv 7) (pe_call G__law_next (hr.mono (by decide)) (by rfl) m__law_next k__law_next b__law_next .nil pass0 (pa_cons (pv 0) (pa_cons (pe_callB call_len_seq (by rfl) T.z_len (by decide +kernel) (pa_cons (pv 7) pa_nil)) pa_nil))) (fun _ _ => rfl)))
        (pss_cons (ps_set (i := 9) sc__law_walked.nd rfl (.inl rfl) (pe_ix ix_list (pe_lst (pa_cons pe_non (pa_cons (pe_call G__law_next (hr.mono (by decide)) (by rfl) m__law_next k__law_next b__law_next .nil pass0 (pa_cons (pv 0) (pa_cons (pv 5) pa_nil))) (pa_cons (pv 5) (pa_cons (pe_un un_neg pe_int) pa_nil))))) (pe_call G__law_next (hr.mono (by decide)) (by rfl) m__law_next k__law_next b__law_next .nil pass0 (pa_cons (pv 0) (pa_cons pe_int pa_nil))) (fun _ _ => rfl)))
        (pss_cons (ps_set (i := 10) sc__law_walked.nd rfl (.inl rfl) (pe_call G__law_told (hr.mono (by decide)) (by rfl) m__law_told k__law_told b__law_told .nil pass0 (pa_cons (pv 1) (pa_cons (pe_tup (pa_cons pe_str (pa_cons (pv 6) (pa_cons (pv 8) (pa_cons (pv 9) pa_nil))))) pa_nil))))
        (C8.pss_cut (ps_if (PW.pt (pw_and (pt_cmpR op_notN (pv 9) pe_non (nomark _)) (pw_and1 (pt_not (pt_chain op_le op_lt pe_int (pv 9) (pv 5))))))
        (pss_one (ps_if (PW.pt (pw_or (pt_cmpR op_ne (pe_ix ix_tup (pv 10) pe_int (fun _ _ => rfl)) pe_str (nomark _)) (pw_or1 (pt_cmpR op_ne (pe_callB call_len_seq (by rfl) T.z_len (by decide +kernel) (pa_cons (pe_ix ix_tup (pv 10) pe_int (fun _ _ => rfl)) pa_nil)) pe_int (nomark _)))))
          (pss_one (ps_ret (pe_lst pa_nil)))
          pss_nil))
        (pss_cons (ps_if (PW.pt (pw_or (pt_cmpR op_ne (pe_ix ix_tup (pv 10) pe_int (fun _ _ => rfl)) pe_str (nomark _)) (pw_or1 (pt_cmpR op_ne (pe_callB call_len_seq (by rfl) T.z_len (by decide +kernel) (pa_cons (pe_ix ix_tup (pv 10) pe_int (fun _ _ => rfl)) pa_nil)) pe_int (nomark _)))))
          (pss_one (ps_ret (pe_lst pa_nil)))
          pss_nil)
          (pss_cons (ps_set (i := 1) sc__law_walked.nd rfl (.inl rfl) (pe_ix ix_list (pe_ix ix_tup (pv 10) pe_int (fun _ _ => rfl)) pe_int (fun _ _ => rfl)))
          (pss_cons (ps_set (i := 2) sc__law_walked.nd rfl (.inl rfl) (pe_call G__law_put (hr.mono (by decide)) (by rfl) m__law_put k__law_put b__law_put .nil pass0 (pa_cons (pv 2) (pa_cons pe_int (pa_cons (pe_call G__law_turned_row (hr.mono (by decide)) (by rfl) m__law_turned_row k__law_turned_row b__law_turned_row .nil pass0 (pa_cons (pe_ix ix_tup (pv 2) pe_int (fun _ _ => rfl)) (pa_cons (pv 6) (pa_cons (pv 8) (pa_cons (pv 9) pa_nil))))) pa_nil)))))
          (pss_one (ps_expr (pe_bm PySem.F.plainAttrs_list PySem.F.slot_list_append PySem.F.type_list_append mt_append (pv 3) (pa_cons (pe_tup (pa_cons (pv 1) (pa_cons (pv 2) pa_nil))) pa_nil))))))))
        (pss_cons (ps_set (i := 6) sc__law_walked.nd rfl (.inl rfl) (pe_call G__law_next (hr.mono (by decide)) (by rfl) m__law_next k__law_next b__law_next .nil pass0 (pa_cons (pv 0) (pa_cons (pv 5) pa_nil))))
        (pss_cons (ps_setLc (i := 12) (own := [("side", 11)]) (g := gName 11) (by rfl) sc__law_walked.nd rfl rfl (sw_true rfl rfl rfl (by decide +kernel)) (pi_range1 (by rfl) T.z_range (pa_cons pe_int pa_nil)) (blkOk_by (own := [("side", 11)]) (N := ["reader", "contract", "parts", "shown", "k", "many", "state", "events", "event", "target", "told", "side", "flags", "form", "row"]) (sc := defScope s__law_walked) (by decide +kernel)) (fun _ _ _ _ _ => (pg_name (i := 11) sc__law_walked.nd rfl (.inl rfl))) (fun _ _ _ _ _ => pts_nil) (fun _ _ _ _ _ => (pe_ix (ix_listK (K := K) rfl) (pe_lst (pa_cons pe_non (pa_cons pe_bl (pa_cons pe_bl pa_nil)))) (pe_call G__law_next (hr.mono (by decide)) (by rfl) m__law_next k__law_next b__law_next .nil pass0 (pa_cons (pv 0) (pa_cons pe_int pa_nil))) (fun _ _ => rfl))))
        (pss_cons (ps_set (i := 13) sc__law_walked.nd rfl (.inl rfl) (pe_call G__law_next (hr.mono (by decide)) (by rfl) m__law_next k__law_next b__law_next .nil pass0 (pa_cons (pv 0) (pa_cons pe_int pa_nil))))
        (pss_cons (ps_set (i := 1) sc__law_walked.nd rfl (.inl rfl) (pe_call G__law_flagged (hr.mono (by decide)) (by rfl) m__law_flagged k__law_flagged b__law_flagged .nil pass0 (pa_cons (pv 1) (pa_cons (pv 6) (pa_cons (pv 12) (pa_cons (pv 13) pa_nil))))))
        (pss_cons (ps_for PassesOwn.never rfl (pi_range1 (by rfl) T.z_range (pa_cons pe_int pa_nil)) (pg_name (i := 11) sc__law_walked.nd rfl (.inl rfl))
        (pss_one (ps_if (PW.pt (pw_and (pt_cmpR op_notN (pe_ix ix_list (pv 12) (pv 11) (fun _ _ => rfl)) pe_non (nomark _)) (pw_and1 (pt_cmpR op_in_seq (pv 13) (pe_lst (pa_cons (pe_op op_add pe_int (pv 11)) (pa_cons pe_int pa_nil))) (by rfl)))))
          (pss_cons (ps_set (i := 14) sc__law_walked.nd rfl (.inl rfl) (pe_call G__law_put (hr.mono (by decide)) (by rfl) m__law_put k__law_put b__law_put .nil pass0 (pa_cons (pe_ix ix_tup (pe_ix ix_tup (pv 2) pe_int (fun _ _ => rfl)) (pv 6) (fun _ _ => rfl)) (pa_cons (pe_op op_add pe_int (pv 11)) (pa_cons (pe_ix ix_list (pv 12) (pv 11) (fun _ _ => rfl)) pa_nil)))))
            (pss_one (ps_set (i := 2) sc__law_walked.nd rfl (.inl rfl) (pe_call G__law_put (hr.mono (by decide)) (by rfl) m__law_put k__law_put b__law_put .nil pass0 (pa_cons (pv 2) (pa_cons pe_int (pa_cons (pe_call G__law_put (hr.mono (by decide)) (by rfl) m__law_put k__law_put b__law_put .nil pass0 (pa_cons (pe_ix ix_tup (pv 2) pe_int (fun _ _ => rfl)) (pa_cons (pv 6) (pa_cons (pv 14) pa_nil)))) pa_nil)))))))
          pss_nil)))
        (pss_one (ps_expr (pe_bm PySem.F.plainAttrs_list PySem.F.slot_list_append PySem.F.type_list_append mt_append (pv 3) (pa_cons (pe_tup (pa_cons (pv 1) (pa_cons (pv 2) pa_nil))) pa_nil)))))))))))))))))
      (pss_one (ps_ret (pv 3))))), ?_⟩
  refine ⟨_, rfl, _, rfl, by show 2 ≤ sizeLine; decide, fun t nt => ⟨by show 1 ≤ sizeLine; decide, fun L nL => ?_⟩⟩
  have e1 := same_new (o := .tup [.ref p, v]) nt
  have e2 := e1.trans (same_new (o := .lst [.ref t]) nL)
  have nLH : H L = none := same_back e1 nL
  have nLr : L ≠ r := hR.ne nLH
  have W1 : Wk K (c id_Contract) H r L [.ref t] p v cn (upd (upd H t (.tup [.ref p, v])) L (.lst [.ref t])) := ⟨Fr.of e2, hR.of e2, upd_same, fun x hx => by
    rcases List.mem_singleton.mp hx with rfl
    exact ⟨t, p, v, cn, rfl, SqT.of (same_new nL _ _ upd_same), hcur.same e2⟩, hcur.same e2⟩
  generalize upd (upd H t (.tup [.ref p, v])) L (.lst [.ref t]) = H1 at W1 ⊢
  refine ⟨3, rfl, by decide, by decide, ?_⟩
  refine for_range (fun i σ H' => ∃ (y4 y5 y6 y7 y8 y9 y10 y11 y12 y13 y14 : Option V) (p : Addr) (v : V) (cn : Cn) (xs : List V), σ = [some (.ref r), some (.ref p), some v, some (.ref L), y4, y5, y6, y7, y8, y9, y10, y11, y12, y13, y14] ∧ Wk K (c id_Contract) H r L xs p v cn H' ∧ xs ≠ [] ∧ xs.length ≤ 1 + 2 * i) ⟨_, _, _, _, _, _, _, _, _, _, _, p, v, cn, _, rfl, W1, List.cons_ne_nil _ _, Nat.le_refl _⟩ ?_ ?_
  · rintro i σ H2 hi ⟨y4, y5, y6, y7, y8, y9, y10, y11, y12, y13, y14, p, v, cn, xs, rfl, W2, nex, lxs⟩
    have i3 : i < 3 := hi
    obtain ⟨ho, hc2, hv2⟩ := id W2.cu
    have o8 := ho.s8
    have o1 := ho.s1
    obtain ⟨pa, pxs, pl, rfl, hpq, ip0, dp0⟩ := dp_ix hv2 (i := 0) rfl
    obtain ⟨pa', pxs', pn, ee, hpq', ip1, dp1⟩ := dp_ix hv2 (i := 1) rfl
    cases ee
    obtain ⟨pa', pxs2, ps, ee, hpq2, ip2, dp2⟩ := dp_ix hv2 (i := 2) rfl
    cases ee
    cases dp0
    cases dp1
    obtain ⟨sa, ss, rfl, hss, hks⟩ := dp_tup dp2
    have lss : ss.length = cn.st.length := by
      have := dpa_len hks
      rwa [List.length_map] at this
    obtain ⟨ln, hln⟩ := Int.eq_ofNat_of_zero_le (show 0 ≤ cn.l by have := ho.l1; omega)
    obtain ⟨an, han⟩ := Int.eq_ofNat_of_zero_le (show 0 ≤ cn.a by have := ho.a2; omega)
    -- many
    refine ⟨_, rfl, pa, pxs2, _, _, rfl, rfl, hpq2, ip2, sa, ss, rfl, .inr hss, ?_⟩
    rw [lss]
    -- state
    refine ⟨_, rfl, _, rfl, r, (cn.st.length : Int), rfl, W2.rd, by omega, by omega, fun stt H3 f3 R3 st0 st1 => ?_⟩
    have W3 := W2.R nLr f3 R3
    obtain ⟨sn, rfl⟩ := Int.eq_ofNat_of_zero_le st0
    have hv3 := W3.cu.2.2
    obtain ⟨pa', pxs, pl, ee, hpq, ip0, dp0⟩ := dp_ix hv3 (i := 0) rfl
    cases ee
    obtain ⟨pa', pxs', pn, ee, hpq', ip1, dp1⟩ := dp_ix hv3 (i := 1) rfl
    cases ee
    cases dp0
    cases dp1
    -- events
    refine ⟨_, rfl, pa, pxs, _, _, rfl, rfl, hpq, ip0, _, rfl, pa, pxs', _, _, rfl, rfl, hpq', ip1, ln, an, by rw [hln, han]; rfl, by have := ho.l3; omega, by have := ho.a4; omega, fun pe H4 es s4 nE hE hes => ?_⟩
    have W4 := W3.same s4
    have nEr : pe ≠ r := R3.ne nE
    have les : es.length = 1 + ln + an := by
      have := dpa_len hes
      rwa [List.length_map, evs_len] at this
    have l3 := ho.l3
    have a4 := ho.a4
    -- event
    refine ⟨_, rfl, _, rfl, _, rfl, pe, es, rfl, .inl (SqL.of hE), r, _, rfl, W4.rd, by omega, by omega, fun ei H5 f5 R5 ei0 ei1 => ?_⟩
    obtain ⟨en, rfl⟩ := Int.eq_ofNat_of_zero_le ei0
    have W5 := W4.R nLr f5 R5
    have hE5 := f5 _ _ nEr hE
    have hen : en < es.length := by omega
    obtain ⟨ev, eev⟩ : ∃ ev, es[en]? = some ev := ⟨_, List.getElem?_eq_getElem hen⟩
    refine ⟨pe, es, _, ev, rfl, rfl, SqL.of hE5, atI_nat eev, ?_⟩
    obtain ⟨ed, eed, hev⟩ := dpa_getx hes eev
    rw [List.getElem?_map] at eed
    cases eev2 : (evs ln an)[en]? with
    | none => rw [eev2] at eed; cases eed
    | some evt =>
    rw [eev2] at eed
    cases eed
    have evok : evt.Ok cn.l cn.a := by rw [hln, han]; exact evs_ok (List.mem_of_getElem? eev2)
    have hev5 := dp_R 1 W4.rd f5 (ok_ev 0 evt) hev
    -- target
    refine ⟨_, rfl, _, rfl, r, (cn.st.length : Int), rfl, W5.rd, by omega, by omega, fun tv H6 f6 R6 tv0 tv1 => ?_⟩
    have W6 := W5.R nLr f6 R6
    have hev6 := dp_R 1 W5.rd f6 (ok_ev 0 evt) hev5
    refine ⟨_, rfl, 1, rfl, by show 4 ≤ sizeLine; decide, fun tl ntl => ?_⟩
    have e7 := same_new (o := .lst [.non, .int tv, .int (cn.st.length : Int), .int (-1)]) ntl
    have W7 := W6.same e7
    have htl := upd_same (H := H6) (a := tl) (o := .lst [.non, .int tv, .int (cn.st.length : Int), .int (-1)])
    have hev7 := dp_same e7 hev6
    have ntlr : tl ≠ r := W6.rd.ne ntl
    generalize upd H6 tl (.lst [.non, .int tv, .int (cn.st.length : Int), .int (-1)]) = H7 at e7 W7 htl hev7 ⊢
    refine ⟨_, rfl, r, 4, rfl, W7.rd, by decide, by decide, fun ti H8 f8 R8 ti0 ti1 => ?_⟩
    have W8 := W7.R nLr f8 R8
    have hev8 := dp_R 1 W7.rd f8 (ok_ev 0 evt) hev7
    obtain ⟨tg, htg⟩ : ∃ tg : Option Int, atI [V.non, .int tv, .int (cn.st.length : Int), .int (-1)] ti = some (oV tg) := by
      obtain ⟨m, rfl⟩ := Int.eq_ofNat_of_zero_le ti0
      obtain _ | _ | _ | _ | m := m
      · exact ⟨none, atI_nat rfl⟩
      · exact ⟨some tv, atI_nat rfl⟩
      · exact ⟨some _, atI_nat rfl⟩
      · exact ⟨some (-1), atI_nat rfl⟩
      · omega
    refine ⟨tl, _, ti, _, rfl, rfl, SqL.of (f8 _ _ ntlr htl), htg, ?_⟩
    -- told
    refine ⟨_, rfl, _, rfl, _, rfl, _, rfl, by show 4 ≤ sizeLine; decide, fun dt ndt => ?_⟩
    have e9 := same_new (o := .tup [.str "row", .int (sn : Int), ev, oV tg]) ndt
    have W9 := W8.same e9
    have hev9 := dp_same e9 hev8
    obtain ⟨rw, erw⟩ : ∃ rw, cn.st[sn]? = some rw := ⟨_, List.getElem?_eq_getElem (by omega)⟩
    have hdt := SqT.of (K := K) (upd_same (H := H8) (a := dt) (o := .tup [.str "row", .int (sn : Int), ev, oV tg]))
    generalize upd H8 dt (.tup [.str "row", .int (sn : Int), ev, oV tg]) = H9 at e9 W9 hev9 hdt ⊢
    refine ⟨_, dt, cn.put sn (rw.turn evt tg), rfl, .inr ⟨p, cn, sn, rw, evt, ev, tg, rfl, hdt, W9.cu.2.1, ho, erw, hev9, evok, rfl⟩, fun wd ks tt kl H10 s10 _ htt hkl ⟨hwd, htold⟩ => ?_⟩
    have W10 := W9.same s10
    have hev10 := dp_same s10 hev9
    have eemp : Str.empty = ("" : Str) := by decide +kernel
    refine ⟨fun σ' H' => ∃ (p' : Addr) (v' : V) (cn' : Cn) (xs' : List V), σ' = [some (.ref r), some (.ref p'), some v', some (.ref L), some (.int (0 + (i : Int))), some (.int (cn.st.length : Int)), some (.int (sn : Int)), some (.ref pe), some ev, some (oV tg), some (.ref tt), y11, y12, y13, y14] ∧ Wk K (c id_Contract) H r L xs' p' v' cn' H' ∧ xs' ≠ [] ∧ xs'.length ≤ 2 + 2 * i ∧ cn'.st.length = cn.st.length, ?_, ?_⟩
    · by_cases hg : ∀ x, tg = some x → 0 ≤ x ∧ x < (cn.st.length : Int)
      · have hok := turn_ok (e := evt) ho erw hg
        have hwe := ok_why hok
        rw [hwe] at hwd htold
        subst hwd
        rcases htold with ⟨_, p2, rfl, hc10⟩ | ⟨z, _⟩
        case inr => exact absurd rfl z
        have fit := fit_of ho erw evok
        obtain ⟨rl, wl⟩ := ho.rl rw (List.mem_of_getElem? erw)
        have hv10 := W10.cu.2.2
        obtain ⟨pa', pxs2, ps, ee, hpq2, ip2, dp2⟩ := dp_ix hv10 (i := 2) rfl
        cases ee
        have hput : ∀ (w v' : V) (H' : Hp), Dp K H' v' (.tuple (putD [.int cn.l, .int cn.a, stD cn.st] 2 (stD (cn.st.set sn (rw.turn evt tg))))) → Dp K H' v' (cn.put sn (rw.turn evt tg)).d := fun _ _ _ h => h
        rcases tg with _ | x
        · refine ⟨_, rfl, rfl, _, rfl, iteF (iteF ?_)⟩
          refine ⟨_, rfl, tt, _, _, _, rfl, rfl, htt, atI_nat (j := 0) rfl, rfl, _, rfl, nyes (congrArg V.str eemp) ?_⟩
          refine ⟨_, rfl, tt, _, _, _, rfl, rfl, htt, atI_nat (j := 1) rfl, kl, _, rfl, .inl (SqL.of hkl), rfl, _, rfl, nyes rfl ?_⟩
          refine ⟨_, rfl, tt, _, _, _, rfl, rfl, htt, atI_nat (j := 1) rfl, kl, _, _, _, rfl, rfl, SqL.of hkl, atI_nat (j := 0) rfl, ?_⟩
          refine ⟨_, rfl, _, rfl, pa, pxs2, _, _, rfl, rfl, hpq2, ip2, _, rfl, _, rfl, _, rfl, ?_⟩
          refine ⟨ps, cn.st, sn, rw, evt, ev, none, rfl, dp2, by omega, erw, by omega, by omega, hev10, fit, fun w H11 s11 hw => ?_⟩
          refine ⟨.ref pa, w, _, 2, _, rfl, dp_same s11 hv10, hw, by show 3 ≤ 1000; decide, by decide, fun v' H12 s12 hv12 => ?_⟩
          have s1012 := s11.trans s12
          have W12 := (W10.same s1012).swap ⟨hok, hc10.same s1012, hput w v' H12 hv12⟩
          refine ⟨_, rfl, .inl ⟨rfl, _, SqL.of W12.li⟩, _, rfl, _, rfl, by show 2 ≤ sizeLine; decide, fun tq ntq => ?_⟩
          have W13 := W12.same (same_new (o := .tup [.ref p2, v']) ntq)
          refine ⟨L, xs, _, rfl, rfl, W13.li, small1000 (by omega), ?_⟩
          exact ⟨p2, v', _, _, rfl, W13.put nLr nLH (SqT.of upd_same), by simp, by rw [List.length_append]; show xs.length + 1 ≤ _; omega, List.length_set⟩
        · obtain ⟨g1, g2⟩ := hg x rfl
          refine ⟨_, rfl, rfl, _, rfl, iteT ⟨_, rfl, _, _, rfl, rfl, _, rfl, yes g1 ⟨_, rfl, _, _, rfl, rfl, _, rfl, nyes g2 ?_⟩⟩⟩
          refine ⟨_, rfl, tt, _, _, _, rfl, rfl, htt, atI_nat (j := 0) rfl, rfl, _, rfl, nyes (congrArg V.str eemp) ?_⟩
          refine ⟨_, rfl, tt, _, _, _, rfl, rfl, htt, atI_nat (j := 1) rfl, kl, _, rfl, .inl (SqL.of hkl), rfl, _, rfl, nyes rfl ?_⟩
          refine ⟨_, rfl, tt, _, _, _, rfl, rfl, htt, atI_nat (j := 1) rfl, kl, _, _, _, rfl, rfl, SqL.of hkl, atI_nat (j := 0) rfl, ?_⟩
          refine ⟨_, rfl, _, rfl, pa, pxs2, _, _, rfl, rfl, hpq2, ip2, _, rfl, _, rfl, _, rfl, ?_⟩
          refine ⟨ps, cn.st, sn, rw, evt, ev, some x, rfl, dp2, by omega, erw, by omega, by omega, hev10, fit, fun w H11 s11 hw => ?_⟩
          refine ⟨.ref pa, w, _, 2, _, rfl, dp_same s11 hv10, hw, by show 3 ≤ 1000; decide, by decide, fun v' H12 s12 hv12 => ?_⟩
          have s1012 := s11.trans s12
          have W12 := (W10.same s1012).swap ⟨hok, hc10.same s1012, hput w v' H12 hv12⟩
          refine ⟨_, rfl, .inl ⟨rfl, _, SqL.of W12.li⟩, _, rfl, _, rfl, by show 2 ≤ sizeLine; decide, fun tq ntq => ?_⟩
          have W13 := W12.same (same_new (o := .tup [.ref p2, v']) ntq)
          refine ⟨L, xs, _, rfl, rfl, W13.li, small1000 (by omega), ?_⟩
          exact ⟨p2, v', _, _, rfl, W13.put nLr nLH (SqT.of upd_same), by simp, by rw [List.length_append]; show xs.length + 1 ≤ _; omega, List.length_set⟩
      · obtain ⟨x, rfl, hx⟩ : ∃ x, tg = some x ∧ ¬ (0 ≤ x ∧ x < (cn.st.length : Int)) := by
          rcases tg with _ | x
          · exact absurd (fun x h => nomatch h) hg
          · refine ⟨x, rfl, fun z => hg fun y hy => ?_⟩
            cases hy
            exact z
        have hwe := turn_bad ho erw evok hx
        rw [hwe] at hwd htold
        subst hwd
        rcases htold with ⟨z, _⟩ | ⟨_, rfl⟩
        · exact absurd z ne_empty.2.2.2.1
        refine ⟨_, rfl, rfl, _, rfl, iteT ?_⟩
        by_cases g1 : 0 ≤ x
        · refine ⟨_, rfl, _, _, rfl, rfl, _, rfl, yes g1 ⟨_, rfl, _, _, rfl, rfl, _, rfl, nnope (fun z => hx ⟨g1, z⟩) ?_⟩⟩
          refine ⟨_, rfl, tt, _, _, _, rfl, rfl, htt, atI_nat (j := 0) rfl, rfl, _, rfl, nyes rfl ?_⟩
          refine ⟨_, rfl, tt, _, _, _, rfl, rfl, htt, atI_nat (j := 1) rfl, kl, _, rfl, .inl (SqL.of hkl), rfl, _, rfl, nyes rfl ?_⟩
          exact ⟨p, .ref pa, cn, xs, rfl, W10, nex, by omega, rfl⟩
        · refine ⟨_, rfl, _, _, rfl, rfl, _, rfl, nope g1 ⟨_, rfl, iteT ?_⟩⟩
          refine ⟨_, rfl, tt, _, _, _, rfl, rfl, htt, atI_nat (j := 0) rfl, rfl, _, rfl, nyes rfl ?_⟩
          refine ⟨_, rfl, tt, _, _, _, rfl, rfl, htt, atI_nat (j := 1) rfl, kl, _, rfl, .inl (SqL.of hkl), rfl, _, rfl, nyes rfl ?_⟩
          exact ⟨p, .ref pa, cn, xs, rfl, W10, nex, by omega, rfl⟩
    rintro σ' H11 ⟨p, v, cn2, xs, rfl, W11, nex, lxs, lst⟩
    clear hc2 hv2 W10 W9 W8 W7 W6 W5 W4 W3 W2 htold hev10 hev9 hev8 hev7 hev6 hev5 hev hpq hpq' hpq2 ip0 ip1 ip2
    -- state
    refine ⟨_, rfl, _, rfl, r, (cn.st.length : Int), rfl, W11.rd, by omega, by omega, fun st2 H12 f12 R12 b0 b1 => ?_⟩
    have W12 := W11.R nLr f12 R12
    obtain ⟨sn2, rfl⟩ := Int.eq_ofNat_of_zero_le b0
    -- flags
    refine ⟨2, rfl, by decide, by decide, fun D nD => ?_⟩
    have nDH : H D = none := W12.fr.free hR W12.rd nD
    have nDr : D ≠ r := W12.rd.ne nD
    have nDL : D ≠ L := (ne_of_none W12.li nD).symm
    refine lc_range (lo := 0) (n := 2) (fun j H' => Wk K (c id_Contract) H r L xs p v cn2 H' ∧ ∃ fs : List (Option Bool), fs.length = j ∧ H' D = some (.lst (fs.map flV))) ⟨W12.same (same_new nD), [], rfl, upd_same⟩ (fun j H13 hj h => ?_) (fun H13 h => ?_)
    · obtain ⟨W13, fs, lfs, hD13⟩ := h
      refine ⟨rfl, by show 3 ≤ sizeLine; decide, fun fl nfl => ?_⟩
      have e14 := same_new (o := .lst [.non, .bl true, .bl false]) nfl
      have hfl := upd_same (H := H13) (a := fl) (o := .lst [.non, .bl true, .bl false])
      have W14 := W13.same e14
      have hD14 := e14 _ _ hD13
      have nflr : fl ≠ r := W13.rd.ne nfl
      refine ⟨_, rfl, r, 3, rfl, W14.rd, by decide, by decide, fun fi H15 f15 R15 g0 g1 => ?_⟩
      obtain ⟨ob, hob⟩ : ∃ ob : Option Bool, atI [V.non, .bl true, .bl false] fi = some (flV ob) := by
        obtain ⟨m, rfl⟩ := Int.eq_ofNat_of_zero_le g0
        obtain _ | _ | _ | m := m
        · exact ⟨none, atI_nat rfl⟩
        · exact ⟨some true, atI_nat rfl⟩
        · exact ⟨some false, atI_nat rfl⟩
        · omega
      have W15 := W14.R nLr f15 R15
      have hD15 := f15 _ _ nDr hD14
      refine ⟨fl, _, fi, _, rfl, rfl, SqL.of (f15 _ _ nflr hfl), hob, _, hD15, ?_, W15.oth hD15 nDr nDL nDH, fs ++ [ob], ?_, ?_⟩
      · rw [List.length_map]
        have : j < 2 := hj
        exact small1000 (by omega)
      · rw [List.length_append, lfs]
        rfl
      · rw [upd_same, List.map_append]
        rfl
    obtain ⟨W13, fs, lfs, hD13⟩ := h
    obtain _ | ⟨f0, _ | ⟨f1, _ | ⟨f2, fs⟩⟩⟩ := fs
    · cases lfs
    · cases lfs
    case cons.cons.cons => simp at lfs
    -- form
    refine ⟨_, rfl, r, 4, rfl, W13.rd, by decide, by decide, fun fm H14 f14 R14 g0 g1 => ?_⟩
    have W14 := W13.R nLr f14 R14
    have hD14 := f14 _ _ nDr hD13
    obtain ⟨rw2, erw2⟩ : ∃ rw, cn2.st[sn2]? = some rw := ⟨_, List.getElem?_eq_getElem (by omega)⟩
    -- flagged
    refine ⟨_, rfl, _, rfl, _, rfl, _, rfl, p, cn2, sn2, rw2, D, f0, f1, fm, rfl, W14.cu.2.1, W14.cu.1, erw2, SqL.of hD14, fun p' H15 s15 np' hc15 => ?_⟩
    have W15 := W14.same s15
    have hD15 := s15 _ _ hD14
    have hco : ∀ fi si, (cn2.put sn2 (rw2.flag fi si)).Ok := fun fi si => put_ok W14.cu.1 erw2 rfl rfl rfl
    -- the flags, taken one by one
    refine ⟨2, rfl, by decide, by decide, ?_⟩
    refine for_range (fun j σ H' => ∃ (y11 y14 : Option V) (vj : V), σ = [some (.ref r), some (.ref p'), some vj, some (.ref L), some (.int (0 + (i : Int))), some (.int (cn.st.length : Int)), some (.int (sn2 : Int)), some (.ref pe), some ev, some (oV tg), some (.ref tt), y11, some (.ref D), some (.int fm), y14] ∧ Same H15 H' ∧ Dp K H' vj (cn2.put sn2 (if j = 0 then rw2 else if j = 1 then rw2.flag (if fm = 0 ∨ fm = 2 then none else f0) none else rw2.flag (if fm = 0 ∨ fm = 2 then none else f0) (if fm = 0 ∨ fm = 1 then none else f1))).d) ⟨_, _, v, rfl, Same.refl _, by rw [if_pos rfl, put_self erw2]; exact W15.cu.2.2⟩ ?_ ?_
    · rintro j σ H16 hj ⟨y11, y14, vj, rfl, s16, hvj⟩
      have hj2 : j < 2 := hj
      obtain _ | _ | j := j
      · have hvj : Dp K H16 vj (cn2.put sn2 rw2).d := hvj
        have hx : atI ([f0, f1].map flV) (0 + ((0 : Nat) : Int)) = some (flV f0) := atI_nat (j := 0) rfl
        refine ⟨_, rfl, _, rfl, D, _, _, _, rfl, rfl, SqL.of (s16 _ _ hD15), hx, rfl, _, rfl, ?_⟩
        have skip : f0 = none ∨ (fm = 0 ∨ fm = 2) → Dp K H16 vj (cn2.put sn2 (rw2.flag (if fm = 0 ∨ fm = 2 then none else f0) none)).d := fun h => by
          have e : (if fm = 0 ∨ fm = 2 then none else f0) = none := by
            rcases h with h | h
            · rw [h]; split <;> rfl
            · exact if_pos h
          rw [e]
          exact hvj
        by_cases hn : f0 = none
        · refine nyes (by rw [hn]; rfl) (iteF ⟨_, _, vj, rfl, s16, skip (.inl hn)⟩)
        obtain ⟨bb, hb⟩ : ∃ bb, f0 = some bb := by
          cases e : f0 with
          | none => exact absurd e hn
          | some bb => exact ⟨bb, rfl⟩
        refine nnope (by rw [hb]; exact fun z => nomatch z) ?_
        refine ⟨_, rfl, _, rfl, _, _, rfl, rfl, by show 2 ≤ sizeLine; decide, fun tw ntw => ?_⟩
        have e17 := same_new (o := .lst [.int (1 + (0 + ((0 : Nat) : Int))), .int 3]) ntw
        refine ⟨tw, _, rfl, .inl (SqL.of upd_same), rfl, rfl, _, rfl, ?_⟩
        have s17 := s16.trans e17
        generalize upd H16 tw (.lst [.int (1 + (0 + ((0 : Nat) : Int))), .int 3]) = H17 at e17 s17 ⊢
        show if inV (V.int fm) [.int (1 + (0 + ((0 : Nat) : Int))), .int 3] = true then _ else _
        rw [in_two]
        by_cases hc : fm = 0 ∨ fm = 2
        · rw [decide_eq_false (show ¬ fm = 1 + (0 + ((0 : Nat) : Int)) by omega), decide_eq_false (show ¬ fm = 3 by omega)]
          exact iteF ⟨_, _, vj, rfl, s17, dp_same e17 (skip (.inr hc))⟩
        have hin : (decide (fm = 1 + (0 + ((0 : Nat) : Int))) || decide (fm = 3)) = true := by
          have : fm = 1 + (0 + ((0 : Nat) : Int)) ∨ fm = 3 := by omega
          simpa using this
        rw [hin]
        refine iteT ?_
        have hv17 : Dp K H17 vj (.tuple [.int cn2.l, .int cn2.a, stD (cn2.st.set sn2 (rw2))]) := dp_same e17 hvj
        have ea : (if fm = 0 ∨ fm = 2 then none else f0) = some bb := by rw [if_neg hc, hb]
        obtain ⟨va, vxs, vs, rfl, hvq, iv2, dv2⟩ := dp_ix hv17 (i := 2) rfl
        have hlt2 : sn2 < cn2.st.length := (List.getElem?_eq_some_iff.mp erw2).1
        have egt : ((cn2.st.set sn2 (rw2)).map Row.d)[sn2]? = some (rw2).d := by rw [List.getElem?_map, List.getElem?_set_self hlt2]; rfl
        obtain ⟨vsa, vss, vrow, rfl, hvss, ivr, dvr⟩ := dp_ix dv2 (i := sn2) egt
        have dvr' : Dp K H17 vrow (.tuple [.tuple ((rw2).rd.map oD), oD (rw2).ov, .tuple ((rw2).wr.map oD), .bool (rw2).fi, .bool (rw2).si]) := dvr
        refine ⟨_, rfl, va, vxs, _, _, rfl, rfl, hvq, iv2, _, rfl, vsa, vss, _, _, rfl, rfl, hvss, ivr, _, rfl, _, _, rfl, rfl, _, rfl, _, rfl, D, _, _, _, rfl, rfl, SqL.of (s17 _ _ hD15), hx, ?_⟩
        refine ⟨vrow, flV f0, _, 3, .bool bb, rfl, dvr', by rw [hb]; exact .bl bb, by show 5 ≤ 1000; decide, by decide, fun w H18 s18 hw => ?_⟩
        have hw' : Dp K H18 w (rw2.flag (some bb) none).d := hw
        have hv18 := dp_same s18 hv17
        refine ⟨_, rfl, _, rfl, va, vxs, _, _, rfl, rfl, seqT_same s18 hvq, iv2, _, rfl, _, rfl, ?_⟩
        refine ⟨.ref vsa, w, _, sn2, _, rfl, dp_same s18 dv2, hw', by rw [List.length_map, List.length_set]; omega, by omega, fun z H19 s19 hz => ?_⟩
        rw [putD_set (by rw [List.length_map, List.length_set]; exact hlt2), ← List.map_set, List.set_set] at hz
        refine ⟨.ref va, z, _, 2, _, rfl, dp_same s19 hv18, hz, by show 3 ≤ 1000; decide, by decide, fun v' H20 s20 hv' => ?_⟩
        refine ⟨_, _, v', rfl, s17.trans (s18.trans (s19.trans s20)), ?_⟩
        show Dp K H20 v' (cn2.put sn2 (rw2.flag (if fm = 0 ∨ fm = 2 then none else f0) none)).d
        rw [ea]
        exact hv'
      · have hvj : Dp K H16 vj (cn2.put sn2 (rw2.flag (if fm = 0 ∨ fm = 2 then none else f0) none)).d := hvj
        have hx : atI ([f0, f1].map flV) (0 + ((1 : Nat) : Int)) = some (flV f1) := atI_nat (j := 1) rfl
        refine ⟨_, rfl, _, rfl, D, _, _, _, rfl, rfl, SqL.of (s16 _ _ hD15), hx, rfl, _, rfl, ?_⟩
        have skip : f1 = none ∨ (fm = 0 ∨ fm = 1) → Dp K H16 vj (cn2.put sn2 (rw2.flag (if fm = 0 ∨ fm = 2 then none else f0) (if fm = 0 ∨ fm = 1 then none else f1))).d := fun h => by
          have e : (if fm = 0 ∨ fm = 1 then none else f1) = none := by
            rcases h with h | h
            · rw [h]; split <;> rfl
            · exact if_pos h
          rw [e]
          exact hvj
        by_cases hn : f1 = none
        · refine nyes (by rw [hn]; rfl) (iteF ⟨_, _, vj, rfl, s16, skip (.inl hn)⟩)
        obtain ⟨bb, hb⟩ : ∃ bb, f1 = some bb := by
          cases e : f1 with
          | none => exact absurd e hn
          | some bb => exact ⟨bb, rfl⟩
        refine nnope (by rw [hb]; exact fun z => nomatch z) ?_
        refine ⟨_, rfl, _, rfl, _, _, rfl, rfl, by show 2 ≤ sizeLine; decide, fun tw ntw => ?_⟩
        have e17 := same_new (o := .lst [.int (1 + (0 + ((1 : Nat) : Int))), .int 3]) ntw
        refine ⟨tw, _, rfl, .inl (SqL.of upd_same), rfl, rfl, _, rfl, ?_⟩
        have s17 := s16.trans e17
        generalize upd H16 tw (.lst [.int (1 + (0 + ((1 : Nat) : Int))), .int 3]) = H17 at e17 s17 ⊢
        show if inV (V.int fm) [.int (1 + (0 + ((1 : Nat) : Int))), .int 3] = true then _ else _
        rw [in_two]
        by_cases hc : fm = 0 ∨ fm = 1
        · rw [decide_eq_false (show ¬ fm = 1 + (0 + ((1 : Nat) : Int)) by omega), decide_eq_false (show ¬ fm = 3 by omega)]
          exact iteF ⟨_, _, vj, rfl, s17, dp_same e17 (skip (.inr hc))⟩
        have hin : (decide (fm = 1 + (0 + ((1 : Nat) : Int))) || decide (fm = 3)) = true := by
          have : fm = 1 + (0 + ((1 : Nat) : Int)) ∨ fm = 3 := by omega
          simpa using this
        rw [hin]
        refine iteT ?_
        have hv17 : Dp K H17 vj (.tuple [.int cn2.l, .int cn2.a, stD (cn2.st.set sn2 (rw2.flag (if fm = 0 ∨ fm = 2 then none else f0) none))]) := dp_same e17 hvj
        have ea : (if fm = 0 ∨ fm = 1 then none else f1) = some bb := by rw [if_neg hc, hb]
        obtain ⟨va, vxs, vs, rfl, hvq, iv2, dv2⟩ := dp_ix hv17 (i := 2) rfl
        have hlt2 : sn2 < cn2.st.length := (List.getElem?_eq_some_iff.mp erw2).1
        have egt : ((cn2.st.set sn2 (rw2.flag (if fm = 0 ∨ fm = 2 then none else f0) none)).map Row.d)[sn2]? = some (rw2.flag (if fm = 0 ∨ fm = 2 then none else f0) none).d := by rw [List.getElem?_map, List.getElem?_set_self hlt2]; rfl
        obtain ⟨vsa, vss, vrow, rfl, hvss, ivr, dvr⟩ := dp_ix dv2 (i := sn2) egt
        have dvr' : Dp K H17 vrow (.tuple [.tuple ((rw2.flag (if fm = 0 ∨ fm = 2 then none else f0) none).rd.map oD), oD (rw2.flag (if fm = 0 ∨ fm = 2 then none else f0) none).ov, .tuple ((rw2.flag (if fm = 0 ∨ fm = 2 then none else f0) none).wr.map oD), .bool (rw2.flag (if fm = 0 ∨ fm = 2 then none else f0) none).fi, .bool (rw2.flag (if fm = 0 ∨ fm = 2 then none else f0) none).si]) := dvr
        refine ⟨_, rfl, va, vxs, _, _, rfl, rfl, hvq, iv2, _, rfl, vsa, vss, _, _, rfl, rfl, hvss, ivr, _, rfl, _, _, rfl, rfl, _, rfl, _, rfl, D, _, _, _, rfl, rfl, SqL.of (s17 _ _ hD15), hx, ?_⟩
        refine ⟨vrow, flV f1, _, 4, .bool bb, rfl, dvr', by rw [hb]; exact .bl bb, by show 5 ≤ 1000; decide, by decide, fun w H18 s18 hw => ?_⟩
        have hw' : Dp K H18 w (rw2.flag (if fm = 0 ∨ fm = 2 then none else f0) (some bb)).d := hw
        have hv18 := dp_same s18 hv17
        refine ⟨_, rfl, _, rfl, va, vxs, _, _, rfl, rfl, seqT_same s18 hvq, iv2, _, rfl, _, rfl, ?_⟩
        refine ⟨.ref vsa, w, _, sn2, _, rfl, dp_same s18 dv2, hw', by rw [List.length_map, List.length_set]; omega, by omega, fun z H19 s19 hz => ?_⟩
        rw [putD_set (by rw [List.length_map, List.length_set]; exact hlt2), ← List.map_set, List.set_set] at hz
        refine ⟨.ref va, z, _, 2, _, rfl, dp_same s19 hv18, hz, by show 3 ≤ 1000; decide, by decide, fun v' H20 s20 hv' => ?_⟩
        refine ⟨_, _, v', rfl, s17.trans (s18.trans (s19.trans s20)), ?_⟩
        show Dp K H20 v' (cn2.put sn2 (rw2.flag (if fm = 0 ∨ fm = 2 then none else f0) (if fm = 0 ∨ fm = 1 then none else f1))).d
        rw [ea]
        exact hv'
      · omega
    rintro σ H16 ⟨y11, y14, vj, rfl, s16, hvj⟩
    have hvj : Dp K H16 vj (cn2.put sn2 (rw2.flag (if fm = 0 ∨ fm = 2 then none else f0) (if fm = 0 ∨ fm = 1 then none else f1))).d := hvj
    have W16 := (W15.same s16).swap ⟨hco _ _, hc15.same s16, hvj⟩
    refine ⟨_, rfl, .inl ⟨rfl, _, SqL.of W16.li⟩, _, rfl, _, rfl, by show 2 ≤ sizeLine; decide, fun tq ntq => ?_⟩
    have W17 := W16.same (same_new (o := .tup [.ref p', vj]) ntq)
    refine ⟨L, xs, _, rfl, rfl, W17.li, small1000 (by omega), ?_⟩
    exact ⟨_, _, _, _, _, _, _, _, _, _, _, p', vj, _, _, rfl, W17.put nLr nLH (SqT.of upd_same), by simp, by rw [List.length_append]; show xs.length + 1 ≤ _; omega⟩
  · rintro σ H2 ⟨y4, y5, y6, y7, y8, y9, y10, y11, y12, y13, y14, p, v, cn, xs, rfl, W2, nex, lxs⟩
    exact ⟨_, rfl, q L xs H2 W2.fr W2.rd nLH W2.li nex lxs W2.sh⟩


end
end Pf

namespace Pf
open PySem PySem.Spec PyProof.Rows L2
section
variable {P : Program} {w : World} {K : PySem.W.Frag} {mg : Str → Option Value} {base : Heap}
variable {c : Nat → Addr}
/-! ### a tuple once: t * 1 is t -/
theorem tuple_once (l : Addr) (items : Array Value) (n : Nat) (dd : Option Addr) (sl : Array (Option Value)) (u : Tok) :
    Meets (Builtin.«tuple.__mul__» ⟨[.ref l, .int 1 u], []⟩) (fun _ R s => s.heap.get? l = some { cls := .type "tuple", dict := dd, data := .seq items n, slots := sl } ∧ R (.ok (.ret (Value.ref l))) s) := by
  refine .of_wp fun prog w A R s h => ?_
  obtain ⟨hp, g, d, tk, os⟩ := s
  obtain ⟨hl, hr⟩ := h
  have ix := AutoSeq1.idx_int
  have c1 : (items.isEmpty || (1 : Int) == 1) = true := by rw [Bool.or_eq_true]; exact .inr rfl
  wp_walk using wpAny_loadPart' hl
  repeat (first
    | (refine wpAny_ite_true (decide_eq_true c1) ?_; wp_walk using wpAny_loadPart' hl)
    | (refine wpAny_ite_false (decide_eq_false (by decide)) ?_; wp_walk using wpAny_loadPart' hl))
  exact ⟨_, rfl, hr⟩
section
variable {X : Cx}
def rRep1 (K : PySem.W.Frag) : R2 := fun x y H Q => ∃ l xs, x = .ref l ∧ y = .int 1 ∧ SqT K H l xs ∧ Q (.ref l) H
theorem op_rep1 : OpR X (binaryOp .Mult) (rRep1 X.K) := by
  intro pins s σ H x y v u Q iv hx hy h
  obtain ⟨l, xs, rfl, rfl, ht, q⟩ := h
  cases hx
  obtain ⟨tk, rfl⟩ := hy
  obtain ⟨its, rel, ⟨⟨cl, dd, da, sl⟩, here, hcl, n, hda⟩, _⟩ := iv.tuple ht
  simp only at hcl hda
  subst hcl hda
  have one := tuple_once l its.toArray n dd sl tk
  have two := int_rmul_tuple 1 tk l its.toArray n dd sl
  exact wpAny_binaryOp_repeat_ref (T := "tuple") (U := "int") (by decide) ⟨_, here, rfl⟩
    (fun z => typeIs_int z 1 tk) noFill_tuple_mul F.fills_int_mul F.slot_int_rmul repeat_tuple F.slot_int_index.lookup
    (call_meets F.slot_int_rmul (typeIs_int s 1 tk) F.entry_int_rmul (F.args_int_rmul_2 _ _) two
      ⟨here, rfl, ⟨_, here, rfl⟩, call_meets F.slot_tuple_mul ⟨_, here, rfl⟩ F.entry_tuple_mul (F.args_tuple_mul_2 _ _) one
        ⟨here, .ref l, H, iv, rfl, q⟩⟩)
def rRepA (K : PySem.W.Frag) : R2 := fun x y H Q => rRepT K x y H Q ∨ rRep1 K x y H Q
theorem op_repA : OpR X (binaryOp .Mult) (rRepA X.K) := fun pins s σ H x y v u Q iv hx hy h => h.elim (fun h => op_repT pins s σ H x y v u Q iv hx hy h) (fun h => op_rep1 pins s σ H x y v u Q iv hx hy h)
end

theorem dpa_cat' {K : PySem.W.Frag} {H : Hp} : ∀ {xs ys : List V} {ds es : List PyData}, DpAll K H xs ds → DpAll K H ys es → DpAll K H (xs ++ ys) (ds ++ es)
  | _, _, _, _, .nil, h => h
  | _, _, _, _, .cons p k, h => .cons p (dpa_cat' k h)
theorem dpa_rep {K : PySem.W.Frag} {H : Hp} {xs : List V} {ds : List PyData} (h : DpAll K H xs ds) : ∀ n : Nat, DpAll K H (List.replicate n xs).flatten (List.replicate n ds).flatten
  | 0 => .nil
  | n + 1 => by
    rw [List.replicate_succ, List.replicate_succ, List.flatten_cons, List.flatten_cons]
    exact dpa_cat' h (dpa_rep h n)
theorem rep_ok {K : PySem.W.Frag} {H : Hp} {a : Addr} {x : V} {k : Int} {Q : VK} (h : SqT K H a [x]) (k1 : 1 ≤ k) (k2 : k ≤ 1000) (q : ∀ r H', Same H H' → SqT K H' r (List.replicate k.toNat [x]).flatten → Q (.ref r) H') : rRepA K (.ref a) (.int k) H Q := by
  by_cases e : k = 1
  · subst e
    exact .inr ⟨a, _, rfl, rfl, h, q a H (Same.refl H) h⟩
  · exact .inl ⟨a, k, _, rfl, rfl, h, List.cons_ne_nil _ _, by omega, k2, by show 1 ≤ 1000; decide, fun p np => q p _ (same_new np) (SqT.of upd_same)⟩
/-- parts no larger than: states, rows -/
def Cn.Le (c : Cn) (m : Nat) : Prop := c.st.length ≤ 9 ∧ ∀ r ∈ c.st, r.rd.length ≤ m ∧ r.wr.length ≤ m
def sp__law_faulty (K : PySem.W.Frag) : Sp := fun us H Q _ => ∃ (r : Addr) (v : V) (cn : Cn) (f : Int) (m : Nat), us = [.ref r, v, .int f] ∧ RD H r ∧ Dp K H v cn.d ∧ 1 ≤ f ∧ f ≤ 5 ∧ cn.Le m ∧ 4 ≤ m ∧ m ≤ 8 ∧ (3 ≤ f → 1 ≤ cn.st.length ∧ cn.st.length ≤ 8) ∧ (f = 5 → cn.Ok) ∧
  ∀ (w : V) (c2 : Cn) (H' : Hp), Fr r H H' → RD H' r → Dp K H' w c2.d → c2.Le (m + 1) → (4 ≤ f → c2.st.length = cn.st.length) → Q w H'
theorem ok__law_faulty (T : Txt P K mg c) : Has P w K mg base 3 "_law_faulty" ["reader", "parts", "fault"] (sp__law_faulty K) := by
  obtain ⟨f, fd, F, m, b⟩ := T.d__law_faulty.ex
  obtain ⟨f__law_put, fd__law_put, G__law_put, m__law_put, k__law_put, b__law_put⟩ := ok__law_put (P := P) (w := w) (base := base) T
  obtain ⟨f__law_next, fd__law_next, G__law_next, m__law_next, k__law_next, b__law_next⟩ := ok__law_next (P := P) (w := w) (base := base) T
  obtain ⟨f__law_events, fd__law_events, G__law_events, m__law_events, k__law_events, b__law_events⟩ := ok__law_events (P := P) (w := w) (base := base) T
  obtain ⟨f__law_turned_row, fd__law_turned_row, G__law_turned_row, m__law_turned_row, k__law_turned_row, b__law_turned_row⟩ := ok__law_turned_row (P := P) (w := w) (base := base) T
  refine ⟨f, fd, F.ok sc__law_faulty (fun vs H Q E h => ?_) (fun cdv A outer s H vs Q E hr h => ?_), m, F.kp, b⟩
  · obtain ⟨r, v, cn, f, m, rfl, hR, hv, f1, f5, hle, m4, m8, hst, hok, q⟩ := h
    rfl
  obtain ⟨r, v, cn, f, m, rfl, hR, hv, f1, f5, hle, m4, m8, hst, hok, q⟩ := h
  refine ⟨_, (pss_cons (ps_set (i := 3) sc__law_faulty.nd rfl (.inl rfl) (pe_ix ix_tup (pv 1) pe_int (fun _ _ => rfl)))
      (pss_cons (ps_if (pt_cmpR op_lt (pv 2) pe_int (nomark _))
      (pss_one (ps_ret (pe_call G__law_put (hr.mono (by decide)) (by rfl) m__law_put k__law_put b__law_put .nil pass0 (pa_cons (pv 1) (pa_cons (pe_op op_sub (pv 2) pe_int) (pa_cons (pe_ix ix_seq (pe_ix ix_list (pe_lst (pa_cons (pe_lst (pa_cons pe_int (pa_cons pe_int (pa_cons (pe_un un_neg pe_int) (pa_cons pe_int pa_nil))))) (pa_cons (pe_lst (pa_cons pe_int (pa_cons pe_int (pa_cons pe_int (pa_cons pe_int pa_nil))))) pa_nil))) (pe_op op_sub (pv 2) pe_int) (fun _ _ => rfl)) (pe_call G__law_next (hr.mono (by decide)) (by rfl) m__law_next k__law_next b__law_next .nil pass0 (pa_cons (pv 0) (pa_cons pe_int pa_nil))) (fun _ _ => rfl)) pa_nil))))))
      pss_nil)
      (pss_cons (ps_if (pt_cmpR op_eq (pv 2) pe_int (nomark _))
      (pss_one (ps_ret (pe_call G__law_put (hr.mono (by decide)) (by rfl) m__law_put k__law_put b__law_put .nil pass0 (pa_cons (pv 1) (pa_cons pe_int (pa_cons (pe_ix ix_list (pe_lst (pa_cons (pe_tup pa_nil) (pa_cons (pe_op op_catA (pv 3) (pe_op op_repA (pe_slice sl_tupA (pv 3) po_none (po_some pe_int)) (pe_op op_sub pe_int (pe_callB call_len_seq (by rfl) T.z_len (by decide +kernel) (pa_cons (pv 3) pa_nil))))) pa_nil))) (pe_call G__law_next (hr.mono (by decide)) (by rfl) m__law_next k__law_next b__law_next .nil pass0 (pa_cons (pv 0) (pa_cons pe_int pa_nil))) (fun _ _ => rfl)) pa_nil))))))
      pss_nil)
      (pss_cons (ps_set (i := 4) sc__law_faulty.nd rfl (.inl rfl) (pe_call G__law_next (hr.mono (by decide)) (by rfl) m__law_next k__law_next b__law_next .nil pass0 (pa_cons (pv 0) (pa_cons (pe_callB call_len_seq (by rfl) T.z_len (by decide +kernel) (pa_cons (pv 3) pa_nil)) pa_nil))))
      (pss_cons (ps_set (i := 5) sc__law_faulty.nd rfl (.inl rfl) (pe_op op_mul pe_int (pe_call G__law_next (hr.mono (by decide)) (by rfl) m__law_next k__law_next b__law_next .nil pass0 (pa_cons (pv 0) (pa_cons pe_int pa_nil)))))
      (pss_cons (ps_set (i := 6) sc__law_faulty.nd rfl (.inl rfl) (pe_ix ix_tup (pe_ix ix_tup (pv 3) (pv 4) (fun _ _ => rfl)) (pv 5) (fun _ _ => rfl)))
      (pss_cons (ps_if (pt_cmpR op_eq (pv 2) pe_int (nomark _))
      (pss_cons (ps_set (i := 6) sc__law_faulty.nd rfl (.inl rfl) (pe_ix ix_list (pe_lst (pa_cons (pe_slice sl_tupA (pv 6) (po_some pe_int) po_none) (pa_cons (pe_op op_catA (pv 6) (pe_tup (pa_cons pe_non pa_nil))) (pa_cons (pe_op op_catA (pv 6) (pe_tup (pa_cons pe_int pa_nil))) pa_nil)))) (pe_call G__law_next (hr.mono (by decide)) (by rfl) m__law_next k__law_next b__law_next .nil pass0 (pa_cons (pv 0) (pa_cons pe_int pa_nil))) (fun _ _ => rfl)))
        (pss_one (ps_ret (pe_call G__law_put (hr.mono (by decide)) (by rfl) m__law_put k__law_put b__law_put .nil pass0 (pa_cons (pv 1) (pa_cons pe_int (pa_cons (pe_call G__law_put (hr.mono (by decide)) (by rfl) m__law_put k__law_put b__law_put .nil pass0 (pa_cons (pv 3) (pa_cons (pv 4) (pa_cons (pe_call G__law_put (hr.mono (by decide)) (by rfl) m__law_put k__law_put b__law_put .nil pass0 (pa_cons (pe_ix ix_tup (pv 3) (pv 4) (fun _ _ => rfl)) (pa_cons (pv 5) (pa_cons (pv 6) pa_nil)))) pa_nil)))) pa_nil)))))))
      pss_nil)
      (pss_cons (ps_set (i := 7) sc__law_faulty.nd rfl (.inl rfl) (pe_call G__law_events (hr.mono (by decide)) (by rfl) m__law_events k__law_events b__law_events .nil pass0 (pa_cons (pe_ix ix_tup (pv 1) pe_int (fun _ _ => rfl)) (pa_cons (pe_ix ix_tup (pv 1) pe_int (fun _ _ => rfl)) pa_nil))))
      (pss_cons (ps_set (i := 8) sc__law_faulty.nd rfl (.inl rfl) (pe_ix ix_list (pv 7) (pe_call G__law_next (hr.mono (by decide)) (by rfl) m__law_next k__law_next b__law_next .nil pass0 (pa_cons (pv 0) (pa_cons (pe_callB call_len_seq (by rfl) T.z_len (by decide +kernel) (pa_cons (pv 7) pa_nil)) pa_nil))) (fun _ _ => rfl)))
      (pss_cons (ps_set (i := 9) sc__law_faulty.nd rfl (.inl rfl) (pe_ix ix_list (pe_lst (pa_cons (pe_callB call_len_seq (by rfl) T.z_len (by decide +kernel) (pa_cons (pv 3) pa_nil)) (pa_cons (pe_un un_neg pe_int) (pa_cons (pe_op op_add (pe_callB call_len_seq (by rfl) T.z_len (by decide +kernel) (pa_cons (pv 3) pa_nil)) pe_int) pa_nil)))) (pe_call G__law_next (hr.mono (by decide)) (by rfl) m__law_next k__law_next b__law_next .nil pass0 (pa_cons (pv 0) (pa_cons pe_int pa_nil))) (fun _ _ => rfl)))
      (pss_one (ps_ret (pe_call G__law_put (hr.mono (by decide)) (by rfl) m__law_put k__law_put b__law_put .nil pass0 (pa_cons (pv 1) (pa_cons pe_int (pa_cons (pe_call G__law_turned_row (hr.mono (by decide)) (by rfl) m__law_turned_row k__law_turned_row b__law_turned_row .nil pass0 (pa_cons (pv 3) (pa_cons (pv 4) (pa_cons (pv 8) (pa_cons (pv 9) pa_nil))))) pa_nil)))))))))))))))), ?_⟩
  have hv' : Dp K H v (.tuple [.int cn.l, .int cn.a, stD cn.st]) := hv
  have nles : ∀ c2 : Cn, c2.st = cn.st → c2.Le (m + 1) := fun c2 e => ⟨by rw [e]; exact hle.1, fun r hr => by
    rw [e] at hr
    obtain ⟨a, b⟩ := hle.2 r hr
    omega⟩
  obtain ⟨pa, pxs, ps, rfl, hpq, ip2, dp2⟩ := dp_ix hv' (i := 2) rfl
  have tv : tupOk 4 (.tuple [.int cn.l, .int cn.a, stD cn.st]) := by
    have hr : ∀ d ∈ cn.st.map Row.d, tupOk 2 d := fun d hd => by
      obtain ⟨r, hr, rfl⟩ := List.mem_map.mp hd
      obtain ⟨a, b⟩ := hle.2 r hr
      exact ok_row 0 r (by omega) (by omega)
    have hs : tupOk 3 (stD cn.st) := ⟨by rw [List.length_map]; have := hle.1; omega, hr⟩
    refine ⟨by show 3 ≤ 100000; decide, fun d hd => ?_⟩
    rcases List.mem_cons.mp hd with rfl | hd
    · simp [tupOk]
    rcases List.mem_cons.mp hd with rfl | hd
    · simp [tupOk]
    rcases List.mem_singleton.mp hd with rfl
    exact hs
  refine ⟨_, rfl, pa, pxs, _, _, rfl, rfl, hpq, ip2, ?_⟩
  refine ⟨_, rfl, _, _, rfl, rfl, _, rfl, ite2 (fun e => ?_) (fun e => ?_)⟩
  · have e := dec_t e
    refine ⟨_, rfl, _, rfl, _, _, rfl, rfl, ?_⟩
    refine ⟨1, rfl, by show 4 ≤ sizeLine; decide, fun t1 n1 => ⟨by show 4 ≤ sizeLine; decide, fun t2 n2 => ⟨by show 2 ≤ sizeLine; decide, fun t3 n3 => ?_⟩⟩⟩
    have e1 := same_new (o := .lst [.int 0, .int 4, .int (-1), .int 5]) n1
    have e2 := same_new (o := .lst [.int 1, .int 5, .int 0, .int 6]) n2
    have e3 := same_new (o := .lst [.ref t1, .ref t2]) n3
    have s3 := e1.trans (e2.trans e3)
    have g1 : (upd (upd (upd H t1 (.lst [.int 0, .int 4, .int (-1), .int 5])) t2 (.lst [.int 1, .int 5, .int 0, .int 6])) t3 (.lst [.ref t1, .ref t2])) t1 = some (.lst [.int 0, .int 4, .int (-1), .int 5]) := e3 _ _ (e2 _ _ upd_same)
    have g2 : (upd (upd (upd H t1 (.lst [.int 0, .int 4, .int (-1), .int 5])) t2 (.lst [.int 1, .int 5, .int 0, .int 6])) t3 (.lst [.ref t1, .ref t2])) t2 = some (.lst [.int 1, .int 5, .int 0, .int 6]) := e3 _ _ upd_same
    have g3 := upd_same (H := upd (upd H t1 (.lst [.int 0, .int 4, .int (-1), .int 5])) t2 (.lst [.int 1, .int 5, .int 0, .int 6])) (a := t3) (o := .lst [.ref t1, .ref t2])
    have gs := same_back s3 (p := t1)
    have R3 := hR.of s3
    have n1r : t1 ≠ r := hR.ne n1
    have n2r : t2 ≠ r := hR.ne (same_back e1 n2)
    generalize upd (upd (upd H t1 (.lst [.int 0, .int 4, .int (-1), .int 5])) t2 (.lst [.int 1, .int 5, .int 0, .int 6])) t3 (.lst [.ref t1, .ref t2]) = H3 at s3 g1 g2 g3 R3 ⊢
    have fin : ∀ (z : Int) (H' : Hp), Fr r H3 H' → RD H' r → sp__law_put K [.ref pa, .int (f - 1), .int z] H' Q E0 := fun z H' fr R' => by
      have fr0 := (Fr.of s3).trans fr
      have hv4 := dp_R 4 R3 fr tv (dp_same s3 hv')
      have ef : f = 1 ∨ f = 2 := by omega
      rcases ef with rfl | rfl
      · exact ⟨.ref pa, .int z, _, 0, .int z, rfl, hv4, .int z, by show 3 ≤ 1000; decide, by decide, fun w H5 s5 hw => q w ⟨z, cn.a, cn.st⟩ H5 (fr0.trans (Fr.of s5)) (R'.of s5) hw (nles _ rfl) fun h => by omega⟩
      · exact ⟨.ref pa, .int z, _, 1, .int z, rfl, hv4, .int z, by show 3 ≤ 1000; decide, by decide, fun w H5 s5 hw => q w ⟨cn.l, z, cn.st⟩ H5 (fr0.trans (Fr.of s5)) (R'.of s5) hw (nles _ rfl) fun h => by omega⟩
    have four : ∀ (a b c d z : Int), 0 ≤ z → z < 4 → ∃ y, atI [V.int a, .int b, .int c, .int d] z = some (.int y) := fun a b c d z z0 z1 => by
      obtain ⟨n, rfl⟩ := Int.eq_ofNat_of_zero_le z0
      obtain _ | _ | _ | _ | n := n
      · exact ⟨a, atI_nat rfl⟩
      · exact ⟨b, atI_nat rfl⟩
      · exact ⟨c, atI_nat rfl⟩
      · exact ⟨d, atI_nat rfl⟩
      · omega
    have ef : f = 1 ∨ f = 2 := by omega
    rcases ef with rfl | rfl
    · refine ⟨_, rfl, _, _, rfl, rfl, t3, _, _, _, rfl, rfl, SqL.of g3, atI_nat (j := 0) rfl, ?_⟩
      refine ⟨_, rfl, r, 4, rfl, R3, by decide, by decide, fun z H4 f4 R4 z0 z1 => ?_⟩
      obtain ⟨y, hy⟩ := four 0 4 (-1) 5 z z0 z1
      exact .inl ⟨t1, _, z, _, rfl, rfl, SqL.of (f4 _ _ n1r g1), hy, fin y H4 f4 R4⟩
    · refine ⟨_, rfl, _, _, rfl, rfl, t3, _, _, _, rfl, rfl, SqL.of g3, atI_nat (j := 1) rfl, ?_⟩
      refine ⟨_, rfl, r, 4, rfl, R3, by decide, by decide, fun z H4 f4 R4 z0 z1 => ?_⟩
      obtain ⟨y, hy⟩ := four 1 5 0 6 z z0 z1
      exact .inl ⟨t2, _, z, _, rfl, rfl, SqL.of (f4 _ _ n2r g2), hy, fin y H4 f4 R4⟩
  have nf3 := dec_f e
  obtain ⟨s1, s8⟩ := hst (by omega)
  obtain ⟨sa, ss, rfl, hss, hks⟩ := dp_tup dp2
  have lss : ss.length = cn.st.length := by
    have := dpa_len hks
    rwa [List.length_map] at this
  refine ⟨_, rfl, rfl, _, rfl, ite2 (fun e => ?_) (fun e => ?_)⟩
  · have e := int_of_bl e
    refine ⟨_, rfl, by show 0 ≤ sizeLine; decide, fun t1 n1 => ?_⟩
    have e1 := same_new (o := .tup []) n1
    obtain ⟨x0, ss', hxs⟩ : ∃ x0 ss', ss = x0 :: ss' := by
      cases ss with
      | nil => rw [← lss] at s1; simp at s1
      | cons x y => exact ⟨x, y, rfl⟩
    refine ⟨_, rfl, _, rfl, _, rfl, slA_ok (seqT_same e1 hss) fun r2 H2 s2 h2 => ?_⟩
    have h2 : SqT K H2 r2 [x0] := by
      have e : cutV ss none (some ((1 : Nat) : Int)) = [x0] := by
        rw [cut_to, hxs]
        rfl
      exact e ▸ h2
    have s02 := e1.trans s2
    refine ⟨_, rfl, sa, ss, rfl, .inr (seqT_same s02 hss), _, _, rfl, rfl, ?_⟩
    refine rep_ok (x := x0) h2 (by omega) (by omega) fun r3 H3 s3 h3 => ?_
    have s03 := s02.trans s3
    obtain ⟨n9, hn9⟩ : ∃ n : Nat, (9 - ((ss.length : Nat) : Int)).toNat = n := ⟨_, rfl⟩
    rw [hn9] at h3
    have l3 : (List.replicate n9 [x0]).flatten.length = n9 := by
      rw [List.length_flatten]
      simp
    refine catA_ok (seqT_same s03 hss) h3 (line_small (by rw [l3]; omega)) fun r4 H4 s4 h4 => ?_
    have s04 := s03.trans s4
    refine ⟨by show 2 ≤ sizeLine; decide, fun t5 n5 => ?_⟩
    have s05 := s04.trans (same_new (o := .lst [.ref t1, .ref r4]) n5)
    have g5 := upd_same (H := H4) (a := t5) (o := .lst [.ref t1, .ref r4])
    have h45 := seqT_same (same_new (o := .lst [.ref t1, .ref r4]) n5) h4
    have g1 : SqT K (upd H4 t5 (.lst [.ref t1, .ref r4])) t1 [] := SqT.of (same_new n5 _ _ (s4 _ _ (s3 _ _ (s2 _ _ upd_same))))
    have R5 := hR.of s05
    have n5r : t5 ≠ r := hR.ne (same_back s04 n5)
    generalize upd H4 t5 (.lst [.ref t1, .ref r4]) = H5 at s05 g5 h45 g1 R5 ⊢
    refine ⟨_, rfl, r, 2, rfl, R5, by decide, by decide, fun z H6 f6 R6 z0 z1 => ?_⟩
    have hv6 := dp_R 4 R5 f6 tv (dp_same s05 hv')
    have fr6 := (Fr.of s05).trans f6
    obtain ⟨r0, rest, hst0⟩ : ∃ r0 rest, cn.st = r0 :: rest := by
      cases e : cn.st with
      | nil => rw [e] at s1; simp at s1
      | cons a b => exact ⟨a, b, rfl⟩
    obtain ⟨_, _, _, eR⟩ := id R5
    have g1' := seqT_frl eR f6 g1
    have h46 := seqT_frl eR f6 h45
    obtain ⟨zn, rfl⟩ := Int.eq_ofNat_of_zero_le z0
    obtain _ | _ | zn := zn
    · refine ⟨t5, _, _, _, rfl, rfl, SqL.of (f6 _ _ n5r g5), atI_nat (j := 0) rfl, ?_⟩
      exact ⟨.ref pa, .ref t1, _, 2, .tuple [], rfl, hv6, .tup g1' .nil, by show 3 ≤ 1000; decide, by decide, fun w H7 s7 hw => q w ⟨cn.l, cn.a, []⟩ H7 (fr6.trans (Fr.of s7)) (R6.of s7) hw ⟨by show 0 ≤ 9; decide, fun r h => nomatch h⟩ fun h => by omega⟩
    · refine ⟨t5, _, _, _, rfl, rfl, SqL.of (f6 _ _ n5r g5), atI_nat (j := 1) rfl, ?_⟩
      have okr : ∀ d ∈ cn.st.map Row.d, tupOk 2 d := fun d hd => by
        obtain ⟨r, hr, rfl⟩ := List.mem_map.mp hd
        obtain ⟨a, b⟩ := hle.2 r hr
        exact ok_row 0 r (by omega) (by omega)
      have hk6 := dpa_R 2 R5 f6 okr (dpa_same s05 hks)
      have h0 : Dp K H6 x0 r0.d := by
        have z := hk6
        rw [hxs, hst0] at z
        cases z with
        | cons a b => exact a
      have em : (cn.st ++ (List.replicate n9 [r0]).flatten).map Row.d = cn.st.map Row.d ++ (List.replicate n9 [r0.d]).flatten := by
        rw [List.map_append, List.map_flatten, List.map_replicate]
        rfl
      have hx : Dp K H6 (.ref r4) (stD (cn.st ++ (List.replicate n9 [r0]).flatten)) := by
        unfold stD
        rw [em]
        exact .tup h46 (dpa_cat' hk6 (dpa_rep (.cons h0 .nil) n9))
      have lr : (List.replicate n9 [r0]).flatten.length = n9 := by
        rw [List.length_flatten]
        simp
      refine ⟨.ref pa, .ref r4, _, 2, _, rfl, hv6, hx, by show 3 ≤ 1000; decide, by decide, fun w H7 s7 hw => q w ⟨cn.l, cn.a, cn.st ++ (List.replicate n9 [r0]).flatten⟩ H7 (fr6.trans (Fr.of s7)) (R6.of s7) hw ⟨?_, fun r hr => ?_⟩ fun h => by omega⟩
      · show (cn.st ++ (List.replicate n9 [r0]).flatten).length ≤ 9
        rw [List.length_append, lr]
        omega
      · have hm : r ∈ cn.st := by
          rcases List.mem_append.mp (show r ∈ cn.st ++ (List.replicate n9 [r0]).flatten from hr) with h | h
          · exact h
          · obtain ⟨l, hl, h⟩ := List.mem_flatten.mp h
            have := List.eq_of_mem_replicate hl
            subst this
            rcases List.mem_singleton.mp h with rfl
            rw [hst0]
            exact List.mem_cons_self
        obtain ⟨a, b⟩ := hle.2 r hm
        exact ⟨by omega, by omega⟩
    · omega
  have ne3 := int_ne_bl e
  have okr : ∀ d ∈ cn.st.map Row.d, tupOk 2 d := fun d hd => by
    obtain ⟨r, hr, rfl⟩ := List.mem_map.mp hd
    obtain ⟨a, b⟩ := hle.2 r hr
    exact ok_row 0 r (by omega) (by omega)
  refine ⟨_, rfl, _, rfl, sa, ss, rfl, .inr hss, r, _, rfl, hR, by omega, by omega, fun stt H1 g1 R1 a0 a1 => ?_⟩
  obtain ⟨sn, rfl⟩ := Int.eq_ofNat_of_zero_le a0
  refine ⟨_, rfl, r, 2, rfl, R1, by decide, by decide, fun sd H2 g2 R2 b0 b1 => ?_⟩
  have gg := g1.trans g2
  have hv2 := dp_R 4 hR gg tv hv'
  obtain ⟨rw, erw⟩ : ∃ rw, cn.st[sn]? = some rw := ⟨_, List.getElem?_eq_getElem (by omega)⟩
  obtain ⟨l1, l2⟩ := hle.2 rw (List.mem_of_getElem? erw)
  have hsd : tupOk 3 (stD cn.st) := ⟨by rw [List.length_map]; omega, okr⟩
  have dp22 : Dp K H2 (.ref sa) (stD cn.st) := dp_R 3 hR gg hsd (.tup hss hks)
  obtain ⟨sa', ss2, rw0, ee, hss2, irw, drw⟩ := dp_ix dp22 (i := sn) (d := rw.d) (by rw [List.getElem?_map, erw]; rfl)
  cases ee
  have hlt : sn < cn.st.length := (List.getElem?_eq_some_iff.mp erw).1
  obtain ⟨kS, os, wth, eS, kS5, los, eos, ewth, lwth⟩ : ∃ (kS : Nat) (os : List (Option Int)) (wth : List (Option Int) → Row), 2 * sd = (kS : Int) ∧ kS ≤ 4 ∧ os.length ≤ m ∧ [PyData.tuple (rw.rd.map oD), oD rw.ov, .tuple (rw.wr.map oD), .bool rw.fi, .bool rw.si][kS]? = some (.tuple (os.map oD)) ∧
      (∀ os', PyData.tuple (putD [.tuple (rw.rd.map oD), oD rw.ov, .tuple (rw.wr.map oD), .bool rw.fi, .bool rw.si] kS (.tuple (os'.map oD))) = (wth os').d) ∧ ∀ os', os'.length ≤ m + 1 → (wth os').rd.length ≤ m + 1 ∧ (wth os').wr.length ≤ m + 1 := by
    have es : sd = 0 ∨ sd = 1 := by omega
    rcases es with rfl | rfl
    · exact ⟨0, rw.rd, fun o => ⟨o, rw.ov, rw.wr, rw.fi, rw.si⟩, rfl, by decide, l1, rfl, fun _ => rfl, fun o h => ⟨h, by show rw.wr.length ≤ _; omega⟩⟩
    · exact ⟨2, rw.wr, fun o => ⟨rw.rd, rw.ov, o, rw.fi, rw.si⟩, rfl, by decide, l2, rfl, fun _ => rfl, fun o h => ⟨by show rw.rd.length ≤ _; omega, h⟩⟩
  have drw' : Dp K H2 rw0 (.tuple [.tuple (rw.rd.map oD), oD rw.ov, .tuple (rw.wr.map oD), .bool rw.fi, .bool rw.si]) := drw
  obtain ⟨ra, rxs, rt, rfl, hra, irt, drt⟩ := dp_ix drw' eos
  obtain ⟨ta, txs, rfl, hta, hkt⟩ := dp_tup drt
  obtain rfl := dpa_oV hkt
  rw [← eS] at irt
  refine ⟨_, _, rfl, rfl, .inl ⟨by decide, by decide⟩, ?_⟩
  refine ⟨_, rfl, _, rfl, sa, ss2, _, _, rfl, rfl, hss2, irw, _, rfl, ra, rxs, _, _, rfl, rfl, hra, irt, ?_⟩
  refine ⟨_, rfl, rfl, _, rfl, ite2 (fun e => ?_) (fun e => ?_)⟩
  · have e := int_of_bl e
    refine ⟨_, rfl, 1, rfl, ?_⟩
    unfold tNoPart
    refine slA_ok hta fun u1 H3 s3 h3 => ?_
    have h3 : SqT K H3 u1 ((os.drop 1).map oV) := by
      have e : cutV (os.map oV) (some ((1 : Nat) : Int)) none = (os.drop 1).map oV := by rw [cut_from, List.map_drop]
      exact e ▸ h3
    refine ⟨_, rfl, by show 1 ≤ sizeLine; decide, fun v1 w1 => ?_⟩
    have e4 := same_new (o := .tup [.non]) w1
    refine catA_ok (seqT_same (s3.trans e4) hta) (SqT.of upd_same) (line_small (by rw [List.length_map]; show os.length + 1 ≤ _; omega)) fun u2 H4 s4 h4 => ?_
    have s24 := s3.trans (e4.trans s4)
    refine ⟨_, rfl, by show 1 ≤ sizeLine; decide, fun v2 w2 => ?_⟩
    have e5 := same_new (o := .tup [.int 0]) w2
    refine catA_ok (seqT_same (s24.trans e5) hta) (SqT.of upd_same) (line_small (by rw [List.length_map]; show os.length + 1 ≤ _; omega)) fun u3 H5 s5 h5 => ?_
    have s25 := s24.trans (e5.trans s5)
    refine ⟨by show 3 ≤ sizeLine; decide, fun tl ntl => ?_⟩
    have e6 := same_new (o := .lst [.ref u1, .ref u2, .ref u3]) ntl
    have s26 := s25.trans e6
    have g6 := upd_same (H := H5) (a := tl) (o := .lst [.ref u1, .ref u2, .ref u3])
    have k1 := seqT_same ((e4.trans s4).trans ((e5.trans s5).trans e6)) h3
    have k2 := seqT_same ((e5.trans s5).trans e6) h4
    have k3 := seqT_same e6 h5
    have R6 := R2.of s26
    have ntr : tl ≠ r := R2.ne (same_back s25 ntl)
    generalize upd H5 tl (.lst [.ref u1, .ref u2, .ref u3]) = H6 at s26 g6 k1 k2 k3 R6 ⊢
    refine ⟨_, rfl, r, 3, rfl, R6, by decide, by decide, fun z H7 f7 R7 z0 z1 => ?_⟩
    obtain ⟨_, _, _, eR⟩ := id R6
    obtain ⟨x, os', hat, hx, lx⟩ : ∃ (x : V) (os' : List (Option Int)), atI [V.ref u1, .ref u2, .ref u3] z = some x ∧ Dp K H7 x (.tuple (os'.map oD)) ∧ os'.length ≤ m + 1 := by
      obtain ⟨n, rfl⟩ := Int.eq_ofNat_of_zero_le z0
      obtain _ | _ | _ | n := n
      · exact ⟨_, os.drop 1, atI_nat rfl, .tup (seqT_frl eR f7 k1) (dpa_oVs _), by rw [List.length_drop]; omega⟩
      · refine ⟨_, os ++ [none], atI_nat rfl, .tup (seqT_frl eR f7 k2) ?_, by rw [List.length_append]; show os.length + 1 ≤ _; omega⟩
        have := dpa_oVs (K := K) (H := H7) (os ++ [none])
        rw [List.map_append (f := oV)] at this
        exact this
      · refine ⟨_, os ++ [some 0], atI_nat rfl, .tup (seqT_frl eR f7 k3) ?_, by rw [List.length_append]; show os.length + 1 ≤ _; omega⟩
        have := dpa_oVs (K := K) (H := H7) (os ++ [some 0])
        rw [List.map_append (f := oV)] at this
        exact this
      · omega
    refine ⟨tl, _, z, x, rfl, rfl, SqL.of (f7 _ _ ntr g6), hat, ?_⟩
    have fr7 := (gg.trans (Fr.of s26)).trans f7
    have hv7 := dp_R 4 hR fr7 tv hv'
    have d7 := dp_R 3 R6 f7 hsd (dp_same s26 dp22)
    have row7 := dp_R 2 R6 f7 (okr _ (List.mem_map.mpr ⟨rw, List.mem_of_getElem? erw, rfl⟩)) (dp_same s26 drw)
    have hss7 := seqT_frl eR f7 (seqT_same s26 hss2)
    refine ⟨_, rfl, _, rfl, _, rfl, _, rfl, _, rfl, sa, ss2, _, _, rfl, rfl, hss7, irw, _, rfl, _, rfl, ?_⟩
    refine ⟨.ref ra, x, _, kS, _, by show [V.ref ra, .int (2 * sd), x] = _; rw [eS], row7, hx, by show 5 ≤ 1000; decide, by omega, fun w H8 s8 hw => ?_⟩
    rw [ewth] at hw
    refine ⟨.ref sa, w, _, sn, _, rfl, dp_same s8 d7, hw, by rw [List.length_map]; omega, by omega, fun y H9 s9 hy => ?_⟩
    rw [putD_set (by rw [List.length_map]; exact hlt), ← List.map_set] at hy
    refine ⟨.ref pa, y, _, 2, _, rfl, dp_same (s8.trans s9) hv7, hy, by show 3 ≤ 1000; decide, by decide, fun b H10 s10 hb => ?_⟩
    have s710 := s8.trans (s9.trans s10)
    refine q b ⟨cn.l, cn.a, cn.st.set sn (wth os')⟩ H10 (fr7.trans (Fr.of s710)) (R7.of s710) hb ⟨by show (cn.st.set sn _).length ≤ 9; rw [List.length_set]; omega, fun r' hr' => ?_⟩ fun _ => by show (cn.st.set sn _).length = _; rw [List.length_set]
    rcases List.mem_or_eq_of_mem_set (show r' ∈ cn.st.set sn (wth os') from hr') with h | rfl
    · obtain ⟨a, b⟩ := hle.2 r' h
      omega
    · exact lwth os' lx
  have ho := hok (by have := int_ne_bl e; omega)
  obtain ⟨ln, hln⟩ := Int.eq_ofNat_of_zero_le (show 0 ≤ cn.l by have := ho.l1; omega)
  obtain ⟨an, han⟩ := Int.eq_ofNat_of_zero_le (show 0 ≤ cn.a by have := ho.a2; omega)
  have l3 := ho.l3
  have a4 := ho.a4
  have hv2' : Dp K H2 (.ref pa) (.tuple [.int cn.l, .int cn.a, stD cn.st]) := hv2
  obtain ⟨pa', px0, p0, ee, hp0, ip0, dp0⟩ := dp_ix hv2' (i := 0) rfl
  cases ee
  obtain ⟨pa', px1, p1, ee, hp1, ip1, dp1⟩ := dp_ix hv2' (i := 1) rfl
  cases ee
  cases dp0
  cases dp1
  refine ⟨_, rfl, pa, px0, _, _, rfl, rfl, hp0, ip0, _, rfl, pa, px1, _, _, rfl, rfl, hp1, ip1, ln, an, by rw [hln, han]; rfl, by omega, by omega, fun pe H4 es s4 nE hE hes => ?_⟩
  have R4 := R2.of s4
  have nEr : pe ≠ r := R2.ne nE
  have les : es.length = 1 + ln + an := by
    have := dpa_len hes
    rwa [List.length_map, evs_len] at this
  refine ⟨_, rfl, _, rfl, _, rfl, pe, es, rfl, .inl (SqL.of hE), r, _, rfl, R4, by omega, by omega, fun ei H5 f5 R5 ei0 ei1 => ?_⟩
  obtain ⟨en, rfl⟩ := Int.eq_ofNat_of_zero_le ei0
  have hE5 := f5 _ _ nEr hE
  have hen : en < es.length := by omega
  obtain ⟨ev, eev⟩ : ∃ ev, es[en]? = some ev := ⟨_, List.getElem?_eq_getElem hen⟩
  refine ⟨pe, es, _, ev, rfl, rfl, SqL.of hE5, atI_nat eev, ?_⟩
  obtain ⟨ed, eed, hev⟩ := dpa_getx hes eev
  rw [List.getElem?_map] at eed
  cases eev2 : (evs ln an)[en]? with
  | none => rw [eev2] at eed; cases eed
  | some evt =>
  rw [eev2] at eed
  cases eed
  have evok : evt.Ok cn.l cn.a := by rw [hln, han]; exact evs_ok (List.mem_of_getElem? eev2)
  have hev5 := dp_R 1 R4 f5 (ok_ev 0 evt) hev
  have fr5 := (gg.trans (Fr.of s4)).trans f5
  have sa5 := dp_R 3 hR fr5 hsd (.tup hss hks)
  obtain ⟨_, _, _, eR⟩ := id hR
  have hss5 := seqT_frl eR fr5 hss
  -- beyond
  refine ⟨_, rfl, sa, ss, rfl, .inr hss5, 1, rfl, _, rfl, sa, ss, rfl, .inr hss5, _, _, rfl, rfl, by show 3 ≤ sizeLine; decide, fun tl ntl => ?_⟩
  have e6 := same_new (o := .lst [.int (ss.length : Int), .int (-1), .int ((ss.length : Int) + 1)]) ntl
  have g6 := upd_same (H := H5) (a := tl) (o := .lst [.int (ss.length : Int), .int (-1), .int ((ss.length : Int) + 1)])
  have R6 := R5.of e6
  have ntr : tl ≠ r := R5.ne ntl
  have hev6 := dp_same e6 hev5
  generalize upd H5 tl (.lst [.int (ss.length : Int), .int (-1), .int ((ss.length : Int) + 1)]) = H6 at e6 g6 R6 hev6 ⊢
  refine ⟨_, rfl, r, 3, rfl, R6, by decide, by decide, fun z H7 f7 R7 z0 z1 => ?_⟩
  obtain ⟨bz, hbz⟩ : ∃ bz : Int, atI [V.int (ss.length : Int), .int (-1), .int ((ss.length : Int) + 1)] z = some (.int bz) := by
    obtain ⟨n, rfl⟩ := Int.eq_ofNat_of_zero_le z0
    obtain _ | _ | _ | n := n
    · exact ⟨_, atI_nat rfl⟩
    · exact ⟨_, atI_nat rfl⟩
    · exact ⟨_, atI_nat rfl⟩
    · omega
  refine ⟨tl, _, z, _, rfl, rfl, SqL.of (f7 _ _ ntr g6), hbz, ?_⟩
  have fr7 := (fr5.trans (Fr.of e6)).trans f7
  have hev7 := dp_R 1 R6 f7 (ok_ev 0 evt) hev6
  have hv7 := dp_R 4 hR fr7 tv hv'
  have d7 := dp_R 3 hR fr7 hsd (.tup hss hks)
  refine ⟨_, rfl, _, rfl, _, rfl, _, rfl, _, rfl, ?_⟩
  refine ⟨.ref sa, cn.st, sn, rw, evt, ev, some bz, rfl, d7, by omega, erw, by omega, by omega, hev7, fit_of ho erw evok, fun w H8 s8 hw => ?_⟩
  refine ⟨.ref pa, w, _, 2, _, rfl, dp_same s8 hv7, hw, by show 3 ≤ 1000; decide, by decide, fun b H9 s9 hb => ?_⟩
  have s79 := s8.trans s9
  refine q b ⟨cn.l, cn.a, cn.st.set sn (rw.turn evt (some bz))⟩ H9 (fr7.trans (Fr.of s79)) (R7.of s79) hb ⟨by show (cn.st.set sn _).length ≤ 9; rw [List.length_set]; omega, fun r' hr' => ?_⟩ fun _ => by show (cn.st.set sn _).length = _; rw [List.length_set]
  rcases List.mem_or_eq_of_mem_set (show r' ∈ cn.st.set sn (rw.turn evt (some bz)) from hr') with h | rfl
  · obtain ⟨a, b⟩ := hle.2 r' h
    omega
  · obtain ⟨t1, t2⟩ := turn_len rw evt (some bz)
    rw [t1, t2]
    omega

/-! ### a method of two positional parameters and two keyword-only ones: what each way of calling it binds -/
theorem kwf_flags {K : PySem.W.Frag} {f D : Addr} {od an : Option Addr} {sl : Array (Option Value)} {oc dc pm cd ct : Value} (lk : K.lookup f = some ⟨oc, od, .func (PySem.W.fnOf "with_flags" "Contract.with_flags" (defArgs s_Contract_with_flags) (defBody s_Contract_with_flags) (defScope s_Contract_with_flags) .none (.ref D) dc pm an cd ct), sl⟩)
    (co : PySem.W.codeIn K cd "Contract.with_flags" = true) (kp : PySem.W.keepIn K (.ref f) = true) (kf : PySem.W.nsIn K D "finish" = some (some .none)) (ks : PySem.W.nsIn K D "silence" = some (some .none)) :
    KwF K (PySem.W.fnOf "with_flags" "Contract.with_flags" (defArgs s_Contract_with_flags) (defBody s_Contract_with_flags) (defScope s_Contract_with_flags) .none (.ref D) dc pm an cd ct) ["self", "state", "finish", "silence"] "finish" "silence" := by
  have F : FunD K "with_flags" "Contract.with_flags" (defArgs s_Contract_with_flags) (defBody s_Contract_with_flags) (defScope s_Contract_with_flags) [] [("finish", V.non), ("silence", V.non)] f (PySem.W.fnOf "with_flags" "Contract.with_flags" (defArgs s_Contract_with_flags) (defBody s_Contract_with_flags) (defScope s_Contract_with_flags) .none (.ref D) dc pm an cd ct) :=
    ⟨⟨oc, od, .none, .ref D, dc, pm, an, cd, ct, sl, rfl, lk, co, .inl ⟨rfl, rfl⟩, .inr ⟨D, rfl, fun q hq => by
      rcases List.mem_cons.mp hq with rfl | hq
      · exact ⟨.none, kf, rfl⟩
      · rcases List.mem_singleton.mp hq with rfl
        exact ⟨.none, ks, rfl⟩⟩⟩, kp⟩
  refine ⟨?_, ?_, ?_, ?_⟩
  · obtain ⟨ds, hv, hb⟩ := F.binds0 (ps := ["self", "state", "finish", "silence"]) 2 (by simp) rfl fun D doc pm an cdv ct us ks h1 h2 => match us, ks, h1, h2 with
      | [_, _], [_, _], _, _ => ⟨_, _, _, _, _, _, rfl, rfl, _, _, _, _, _, _, rfl, rfl, rfl⟩
    obtain ⟨u1, u2, rfl, e1, e2⟩ := vals2 hv
    cases (show u1 = Value.none from e1)
    cases (show u2 = Value.none from e2)
    exact hb
  · obtain ⟨mv, kb⟩ := F.kbinds0 (ps := ["self", "state", "finish", "silence"]) 2 ["finish"] [("silence", V.non)] (fun us ms ws => us ++ (ws ++ ms)) (by simp) (fun q hq => by rcases List.mem_singleton.mp hq with rfl; exact List.mem_cons_of_mem _ List.mem_cons_self) (fun a b c => a.append (c.append b)) fun D doc pm an cdv ct us mv ws h1 h2 h3 => match us, mv, ws, h1, h2, h3 with
      | [_, _], [_], [_], _, _, _ => ⟨_, _, _, _, _, _, rfl, rfl, rfl⟩
    obtain ⟨u, rfl, e⟩ := vals1 (show Vals [V.non] mv from kb.rel .nil .nil)
    cases (show u = Value.none from e)
    exact kb
  · obtain ⟨mv, kb⟩ := F.kbinds0 (ps := ["self", "state", "finish", "silence"]) 2 ["silence"] [("finish", V.non)] (fun us ms ws => us ++ (ms ++ ws)) (by simp) (fun q hq => by rcases List.mem_singleton.mp hq with rfl; exact List.mem_cons_self) (fun a b c => a.append (b.append c)) fun D doc pm an cdv ct us mv ws h1 h2 h3 => match us, mv, ws, h1, h2, h3 with
      | [_, _], [_], [_], _, _, _ => ⟨_, _, _, _, _, _, rfl, rfl, rfl⟩
    obtain ⟨u, rfl, e⟩ := vals1 (show Vals [V.non] mv by have e0 := kb.rel .nil .nil; rw [List.append_nil, List.append_nil] at e0; exact e0)
    cases (show u = Value.none from e)
    exact kb
  · obtain ⟨mv, kb⟩ := F.kbinds0 (ps := ["self", "state", "finish", "silence"]) 2 ["finish", "silence"] [] (fun us ms ws => us ++ (ms ++ ws)) (by simp) (fun q hq => nomatch hq) (fun a b c => a.append (b.append c)) fun D doc pm an cdv ct us mv ws h1 h2 h3 => match us, mv, ws, h1, h2, h3 with
      | [_, _], [], [_, _], _, _, _ => rfl
    obtain rfl : mv = [] := by
      have e0 := kb.rel .nil .nil
      rw [List.append_nil, List.append_nil] at e0
      cases (show Vals [] mv from e0)
      rfl
    exact kb


end
end Pf

namespace Pf
open PySem PySem.Spec PyProof.Rows L2
section
variable {P : Program} {w : World} {K : PySem.W.Frag} {mg : Str → Option Value} {base : Heap}
variable {c : Nat → Addr}
theorem lay_os : ∀ os : List (Option Int), PyData.canLayAll0 (os.map oD) = true
  | [] => by simp [PyData.canLayAll0]
  | none :: os => by simp [PyData.canLayAll0, PyData.canLay0, oD, lay_os os]
  | some n :: os => by simp [PyData.canLayAll0, PyData.canLay0, oD, lay_os os]
theorem dep_os : ∀ os : List (Option Int), PyData.depthAll (os.map oD) ≤ 1
  | [] => by simp [PyData.depthAll]
  | o :: os => by
    have h := dep_os os
    have : PyData.depth (oD o) = 0 := by cases o <;> simp [oD, PyData.depth]
    simp only [List.map_cons, PyData.depthAll, this]
    omega
theorem lay_row (r : Row) : PyData.canLay0 r.d = true := by
  have : PyData.canLay0 (oD r.ov) = true := by cases r.ov <;> simp [oD, PyData.canLay0]
  simp [Row.d, PyData.canLay0, PyData.canLayAll0, lay_os, this]
theorem dep_row (r : Row) : PyData.depth r.d ≤ 3 := by
  have := dep_os r.rd
  have := dep_os r.wr
  have : PyData.depth (oD r.ov) = 0 := by cases r.ov <;> simp [oD, PyData.depth]
  simp only [Row.d, PyData.depth, PyData.depthAll, this]
  omega
theorem lay_rows : ∀ st : List Row, PyData.canLayAll0 (st.map Row.d) = true
  | [] => by simp [PyData.canLayAll0]
  | r :: st => by simp [PyData.canLayAll0, lay_row r, lay_rows st]
theorem dep_rows : ∀ st : List Row, PyData.depthAll (st.map Row.d) ≤ 3
  | [] => by simp [PyData.depthAll]
  | r :: st => by
    have h := dep_rows st
    have := dep_row r
    simp only [List.map_cons, PyData.depthAll]
    omega
theorem shaped_rows (st : List Row) : SeqAt.shaped (.list (st.map Row.d)) = true := shaped_lst (lay_rows st) (Nat.le_trans (dep_rows st) (by decide))
theorem ok_cnS {cn : Cn} (h : cn.Sm) : tupOk 4 cn.d := ⟨by show 3 ≤ 100000; decide, fun d hd => by
  rcases List.mem_cons.mp hd with rfl | hd
  · simp [tupOk]
  rcases List.mem_cons.mp hd with rfl | hd
  · simp [tupOk]
  rcases List.mem_singleton.mp hd with rfl
  exact ok_st h⟩
/-- two different numbers from 1 to 5, perhaps not both, the larger one first -/
structure Fts (fs : List Int) : Prop where
  in5 : ∀ f ∈ fs, 1 ≤ f ∧ f ≤ 5
  two : fs.length ≤ 2
  lt : ∀ (i j : Nat) (x y : Int), i < j → fs[i]? = some x → fs[j]? = some y → y < x
theorem fts_of {a b : Int} {m : Nat} {fs : List Int} (ha : 1 ≤ a ∧ a ≤ 5) (hb : 1 ≤ b ∧ b ≤ 5) (n : a ≠ b) (p : fs.Perm ([a, b].take m)) (o : OrdB true fs) : Fts fs := by
  have o' : fs.Pairwise (· ≥ ·) := o
  have sub : ([a, b].take m).Nodup := by
    refine List.Sublist.nodup (List.take_sublist _ _) ?_
    simp [n]
  have nd : fs.Nodup := p.nodup_iff.mpr sub
  refine ⟨fun f hf => ?_, ?_, fun i j x y h e1 e2 => ?_⟩
  · have := List.mem_of_mem_take (p.mem_iff.mp hf)
    simp at this
    rcases this with rfl | rfl
    · exact ha
    · exact hb
  · rw [p.length_eq, List.length_take]
    exact Nat.min_le_right _ _
  · obtain ⟨hi, ei⟩ := List.getElem?_eq_some_iff.mp e1
    obtain ⟨hj, ej⟩ := List.getElem?_eq_some_iff.mp e2
    have h1 : fs[i] ≥ fs[j] := List.pairwise_iff_getElem.mp o' i j hi hj h
    have h2 : fs[i] ≠ fs[j] := List.pairwise_iff_getElem.mp nd i j hi hj h
    rw [ei, ej] at h1 h2
    omega
def sp_law (K : PySem.W.Frag) : Sp := fun vs H Q _ => ∃ (a : Addr) (ns : List Int), vs = [.ref a] ∧ SqL K H a (ns.map V.int) ∧ ns.length ≤ 63 ∧ ∀ H', Q (.bl true) H'
theorem ok_law {f : Addr} {fd : FuncData} (T : Txt P K mg c) (F : Fun K "law" "law" s_law f fd) : FnOk P w K mg base CX0 12 f fd ["script"] (sp_law K) := by
  obtain ⟨f__law_reader, fd__law_reader, G__law_reader, m__law_reader, k__law_reader, b__law_reader⟩ := ok__law_reader (P := P) (w := w) (base := base) T
  obtain ⟨f__law_cell, fd__law_cell, G__law_cell, m__law_cell, k__law_cell, b__law_cell⟩ := ok__law_cell (P := P) (w := w) (base := base) T
  obtain ⟨f__law_next, fd__law_next, G__law_next, m__law_next, k__law_next, b__law_next⟩ := ok__law_next (P := P) (w := w) (base := base) T
  obtain ⟨f__law_states, fd__law_states, G__law_states, m__law_states, k__law_states, b__law_states⟩ := ok__law_states (P := P) (w := w) (base := base) T
  obtain ⟨f__law_faulty, fd__law_faulty, G__law_faulty, m__law_faulty, k__law_faulty, b__law_faulty⟩ := ok__law_faulty (P := P) (w := w) (base := base) T
  obtain ⟨f__law_told, fd__law_told, G__law_told, m__law_told, k__law_told, b__law_told⟩ := ok__law_told (P := P) (w := w) (base := base) T
  obtain ⟨f__law_reason, fd__law_reason, G__law_reason, m__law_reason, k__law_reason, b__law_reason⟩ := ok__law_reason (P := P) (w := w) (base := base) T
  obtain ⟨f__law_walked, fd__law_walked, G__law_walked, m__law_walked, k__law_walked, b__law_walked⟩ := ok__law_walked (P := P) (w := w) (base := base) T
  obtain ⟨f__law_right, fd__law_right, G__law_right, m__law_right, k__law_right, b__law_right⟩ := ok__law_right (P := P) (w := w) (base := base) T
  refine F.ok sc_law (fun vs H Q E h => ?_) (fun cdv A outer s H vs Q E hr h => ?_)
  · obtain ⟨sc, ns, rfl, hS, hl, q⟩ := h
    rfl
  obtain ⟨sc, ns, rfl, hS, hl, q⟩ := h
  refine ⟨_, (pss_cons (ps_set (i := 1) sc_law.nd rfl (.inl rfl) (pe_call G__law_reader (hr.mono (by decide)) (by rfl) m__law_reader k__law_reader b__law_reader .nil pass0 (pa_cons (pe_call G__law_cell (hr.mono (by decide)) (by rfl) m__law_cell k__law_cell b__law_cell .nil pass0 (pa_cons (pv 0) (pa_cons pe_int pa_nil))) pa_nil)))
      (pss_cons (ps_set (i := 2) sc_law.nd rfl (.inl rfl) (pe_op op_add pe_int (pe_call G__law_next (hr.mono (by decide)) (by rfl) m__law_next k__law_next b__law_next .nil pass0 (pa_cons (pv 1) (pa_cons pe_int pa_nil)))))
      (pss_cons (ps_set (i := 3) sc_law.nd rfl (.inl rfl) (pe_op op_add pe_int (pe_call G__law_next (hr.mono (by decide)) (by rfl) m__law_next k__law_next b__law_next .nil pass0 (pa_cons (pv 1) (pa_cons pe_int pa_nil)))))
      (pss_cons (ps_set (i := 4) sc_law.nd rfl (.inl rfl) (pe_tup (pa_cons (pv 2) (pa_cons (pv 3) (pa_cons (pe_call G__law_states (hr.mono (by decide)) (by rfl) m__law_states k__law_states b__law_states .nil pass0 (pa_cons (pv 1) (pa_cons (pv 2) (pa_cons (pv 3) (pa_cons (pe_op op_add pe_int (pe_call G__law_next (hr.mono (by decide)) (by rfl) m__law_next k__law_next b__law_next .nil pass0 (pa_cons (pv 1) (pa_cons pe_int pa_nil)))) pa_nil))))) pa_nil)))))
      (pss_cons (ps_set (i := 1) sc_law.nd rfl (.inl rfl) (pe_call G__law_reader (hr.mono (by decide)) (by rfl) m__law_reader k__law_reader b__law_reader .nil pass0 (pa_cons (pe_call G__law_cell (hr.mono (by decide)) (by rfl) m__law_cell k__law_cell b__law_cell .nil pass0 (pa_cons (pv 0) (pa_cons pe_int pa_nil))) pa_nil)))
      (pss_cons (ps_set (i := 5) sc_law.nd rfl (.inl rfl) (pe_call G__law_next (hr.mono (by decide)) (by rfl) m__law_next k__law_next b__law_next .nil pass0 (pa_cons (pv 1) (pa_cons pe_int pa_nil))))
      (pss_cons (ps_set (i := 6) sc_law.nd rfl (.inl rfl) (pe_op op_add pe_int (pe_call G__law_next (hr.mono (by decide)) (by rfl) m__law_next k__law_next b__law_next .nil pass0 (pa_cons (pv 1) (pa_cons pe_int pa_nil)))))
      (pss_cons (ps_set (i := 7) sc_law.nd rfl (.inl rfl) (pe_callBK (cr_sortedRev (b := true)) (by rfl) T.z_sorted (by decide +kernel) (pa_cons (pe_slice sl_list (pe_lst (pa_cons (pv 6) (pa_cons (pe_op op_add pe_int (pe_op op_mod (pe_callTy call_int1 (by rfl) T.z_int (by decide +kernel) (pa_cons (pe_op op_add (pv 6) (pe_call G__law_next (hr.mono (by decide)) (by rfl) m__law_next k__law_next b__law_next .nil pass0 (pa_cons (pv 1) (pa_cons pe_int pa_nil)))) pa_nil)) pe_int)) pa_nil))) po_none (po_some (pv 5))) pa_nil) (pk_cons pe_bl pk_nil)))
      (pss_cons (ps_set (i := 8) sc_law.nd rfl (.inl rfl) (pv 4))
      (pss_cons (ps_for PassesOwn.never rfl (pi_list (pv 7)) (pg_name (i := 9) sc_law.nd rfl (.inl rfl))
      (pss_one (ps_set (i := 8) sc_law.nd rfl (.inl rfl) (pe_call G__law_faulty (hr.mono (by decide)) (by rfl) m__law_faulty k__law_faulty b__law_faulty .nil pass0 (pa_cons (pv 1) (pa_cons (pv 8) (pa_cons (pv 9) pa_nil)))))))
      (pss_cons (ps_set (i := 10) sc_law.nd rfl (.inl rfl) (pe_call G__law_next (hr.mono (by decide)) (by rfl) m__law_next k__law_next b__law_next .nil pass0 (pa_cons (pv 1) (pa_cons pe_int pa_nil))))
      (pss_cons (ps_set (i := 11) sc_law.nd rfl (.inl rfl) (pe_lst pa_nil))
      (pss_cons (ps_for PassesOwn.never rfl (pi_list (pe_lst (pa_cons (pv 8) (pa_cons (pv 4) (pa_cons (pv 8) pa_nil))))) (pg_name (i := 12) sc_law.nd rfl (.inl rfl))
      (pss_cons (ps_set (i := 13) sc_law.nd rfl (.inl rfl) (pe_ix ix_list (pe_lst (pa_cons (pe_ix ix_tup (pv 12) pe_int (fun _ _ => rfl)) (pa_cons (pe_callTy call_list_of (by rfl) T.z_list (by decide +kernel) (pa_cons (pe_ix ix_tup (pv 12) pe_int (fun _ _ => rfl)) pa_nil)) pa_nil))) (pv 10) (fun _ _ => rfl)))
        (pss_cons (ps_set (i := 14) sc_law.nd rfl (.inl rfl) (pe_call G__law_told (hr.mono (by decide)) (by rfl) m__law_told k__law_told b__law_told .nil pass0 (pa_cons pe_non (pa_cons (pe_tup (pa_cons pe_str (pa_cons (pe_ix ix_tup (pv 12) pe_int (fun _ _ => rfl)) (pa_cons (pe_ix ix_tup (pv 12) pe_int (fun _ _ => rfl)) (pa_cons (pv 13) pa_nil))))) pa_nil))))
        (C8.pss_cut (ps_if (pt_cmpR op_eq (pv 10) pe_int (nomark _))
        (pss_cons (ps_if (pt_cmpR (op_neD hr.units) (pv 13) (pe_callTy call_list_of (by rfl) T.z_list (by decide +kernel) (pa_cons (pe_ix ix_tup (pv 12) pe_int (fun _ _ => rfl)) pa_nil)) (nomark _))
          (pss_one (ps_ret pe_bl))
          pss_nil)
          (pss_cons (ps_expr (pe_bm0 PySem.F.plainAttrs_list PySem.F.slot_list_reverse PySem.F.type_list_reverse mt_reverse (pv 13)))
          (pss_one (ps_expr (pe_bm PySem.F.plainAttrs_list PySem.F.slot_list_append PySem.F.type_list_append mt_append (pv 13) (pa_cons (pe_tup (pa_cons (pe_tup pa_nil) (pa_cons pe_non (pa_cons (pe_tup pa_nil) (pa_cons pe_bl (pa_cons pe_bl pa_nil)))))) pa_nil))))))
        pss_nil)
        (pss_cons (ps_set (i := 15) sc_law.nd rfl (.inl rfl) (pe_call G__law_reason (hr.mono (by decide)) (by rfl) m__law_reason k__law_reason b__law_reason .nil pass0 (pa_cons (pe_ix ix_tup (pv 12) pe_int (fun _ _ => rfl)) (pa_cons (pe_ix ix_tup (pv 12) pe_int (fun _ _ => rfl)) (pa_cons (pe_ix ix_tup (pv 12) pe_int (fun _ _ => rfl)) pa_nil)))))
        (pss_cons (ps_if (PW.pt (pw_or (pt_cmpR op_ne (pe_ix ix_tup (pv 14) pe_int (fun _ _ => rfl)) (pv 15) (nomark _)) (pw_or1 (pt_cmpR op_ne (pe_callB call_len_seq (by rfl) T.z_len (by decide +kernel) (pa_cons (pe_ix ix_tup (pv 14) pe_int (fun _ _ => rfl)) pa_nil)) (pe_callTy call_int1 (by rfl) T.z_int (by decide +kernel) (pa_cons (pe_cmpR op_eq (pv 15) pe_str (nomark _)) pa_nil)) (nomark _)))))
        (pss_one (ps_ret pe_bl))
        pss_nil)
        (pss_one (ps_if (pt_cmpR op_eq (pv 15) pe_str (nomark _))
        (pss_one (ps_expr (pe_bm PySem.F.plainAttrs_list PySem.F.slot_list_append PySem.F.type_list_append mt_append (pv 11) (pa_cons (pe_tup (pa_cons (pe_ix ix_list (pe_ix ix_tup (pv 14) pe_int (fun _ _ => rfl)) pe_int (fun _ _ => rfl)) (pa_cons (pv 12) pa_nil))) pa_nil))))
        pss_nil))))))))
      (pss_cons (ps_for PassesOwn.never rfl (pi_list (pv 11)) (pg_name (i := 16) sc_law.nd rfl (.inl rfl))
      (pss_cons (ps_set (i := 17) sc_law.nd rfl (.inl rfl) (pe_call G__law_walked (hr.mono (by decide)) (by rfl) m__law_walked k__law_walked b__law_walked .nil pass0 (pa_cons (pv 1) (pa_cons (pe_ix ix_tup (pv 16) pe_int (fun _ _ => rfl)) (pa_cons (pe_ix ix_tup (pv 16) pe_int (fun _ _ => rfl)) pa_nil)))))
        (pss_one (ps_if (PW.pt (pw_or (pt_cmpR op_eq (pe_callB call_len_seq (by rfl) T.z_len (by decide +kernel) (pa_cons (pv 17) pa_nil)) pe_int (nomark _)) (pw_or1 (pt_not (pt_val (pe_callB (cr_all rfl) (by rfl) T.z_all (by decide +kernel) (pa_cons (pe_lc (own := [("kept", 18)]) (g := gName 18) (by rfl) sc_law.nd (pi_list (pe_op op_cat (pv 17) (pv 11))) (blkOk_by (own := [("kept", 18)]) (N := ["script", "reader", "letters", "answers", "good", "many", "first", "faults", "parts", "fault", "form", "contracts", "asked", "passed", "told", "due", "pair", "shown", "kept"]) (sc := defScope s_law) (by decide +kernel)) (fun _ _ _ _ _ => pg_name (i := 18) sc_law.nd rfl (Or.inl rfl)) (fun _ _ _ _ _ => pts_nil) (fun _ _ _ _ _ => (pe_call G__law_right (hr.mono (by decide)) (by rfl) m__law_right k__law_right b__law_right .nil pass0 (pa_cons (pe_ix (ix_tupK (K := K) rfl) (pv 18) pe_int (fun _ _ => rfl)) (pa_cons (pe_ix (ix_tupK (K := K) rfl) (pv 18) pe_int (fun _ _ => rfl)) pa_nil))))) pa_nil)))))))
        (pss_one (ps_ret pe_bl))
        pss_nil))))
      (pss_one (ps_ret pe_bl)))))))))))))))), ?_⟩
  refine ⟨_, rfl, sc, ns, 0, rfl, hS, fun cl => ⟨cl, rfl, fun r H1 nr e1 R1 => ?_⟩⟩
  refine ⟨_, rfl, r, 3, rfl, R1, by decide, by decide, fun v2 H2 f2 R2 a2 b2 => ⟨_, _, rfl, rfl, ?_⟩⟩
  refine ⟨_, rfl, r, 3, rfl, R2, by decide, by decide, fun v3 H3 f3 R3 a3 b3 => ⟨_, _, rfl, rfl, ?_⟩⟩
  obtain ⟨l0, rfl⟩ := Int.eq_ofNat_of_zero_le a2
  obtain ⟨a0, rfl⟩ := Int.eq_ofNat_of_zero_le a3
  refine ⟨_, rfl, _, rfl, _, rfl, _, rfl, _, rfl, _, rfl, r, 8, rfl, R3, by decide, by decide, fun v4 H4 f4 R4 a4 b4 => ⟨_, _, rfl, rfl, ?_⟩⟩
  obtain ⟨m0, rfl⟩ := Int.eq_ofNat_of_zero_le a4
  refine ⟨r, 1 + l0, 2 + a0, 1 + m0, rfl, R4, by omega, by omega, by omega, fun gv st H5 f5 R5 ls oks hgv => ?_⟩
  refine ⟨by show 3 ≤ sizeLine; decide, fun gt ngt => ?_⟩
  have f15 := ((f2.trans f3).trans f4).trans f5
  have s5 := f15.back e1 nr
  have e6 := same_new (o := .tup [.int (1 + (l0 : Int)), .int (2 + (a0 : Int)), gv]) ngt
  obtain ⟨g, hg, og⟩ : ∃ g : Cn, Dp K (upd H5 gt (.tup [.int (1 + (l0 : Int)), .int (2 + (a0 : Int)), gv])) (.ref gt) g.d ∧ g.Ok := by
    refine ⟨⟨((1 + l0 : Nat) : Int), ((2 + a0 : Nat) : Int), st⟩, .tup (SqT.of upd_same) (.cons (.int _) (.cons (.int _) (.cons (dp_same e6 hgv) .nil))), drawn_ok (by omega) (by omega) (by omega) (by omega) (by omega) (by omega) ls oks⟩
  have s6 := s5.trans e6
  generalize upd H5 gt (.tup [.int (1 + (l0 : Int)), .int (2 + (a0 : Int)), gv]) = H6 at e6 hg s6 ⊢
  have hS6 := s6.seq hS
  -- the second reader
  refine ⟨_, rfl, sc, ns, 1, rfl, hS6, fun cl2 => ⟨cl2, rfl, fun r2 H7 nr2 e7 R7 => ?_⟩⟩
  refine ⟨_, rfl, r2, 3, rfl, R7, by decide, by decide, fun v5 H8 f8 R8 a5 b5 => ?_⟩
  refine ⟨_, rfl, r2, 5, rfl, R8, by decide, by decide, fun v6 H9 f9 R9 a6 b6 => ⟨_, _, rfl, rfl, ?_⟩⟩
  obtain ⟨m1, rfl⟩ := Int.eq_ofNat_of_zero_le a5
  refine ⟨_, rfl, _, rfl, _, rfl, r2, 2, rfl, R9, by decide, by decide, fun v7 H10 f10 R10 a7 b7 => ?_⟩
  refine ⟨_, _, rfl, rfl, .inl ⟨_, rfl, _, _, rfl, rfl, by show (0 : Int) < 5; decide, _, _, rfl, rfl, by show 2 ≤ sizeLine; decide, fun D nD => ?_⟩⟩
  refine ⟨_, rfl, _, rfl, D, _, rfl, SqL.of upd_same, fun D2 nD2 => ?_⟩
  refine ⟨D2, [1 + v6, 1 + (1 + v6 + v7) % 5].take m1, rfl, rfl, SqL.of (by rw [upd_same, cut_to, List.map_take]; rfl), fun fs D3 perm ord nD3 => ?_⟩
  have ft : Fts fs := fts_of (by omega) (by omega) (by omega) perm ord
  have f710 := (f8.trans f9).trans f10
  have e11 := ((same_new (o := .lst [.int (1 + v6), .int (1 + (1 + v6 + v7) % 5)]) nD).trans (same_new (o := .lst (cutV [V.int (1 + v6), .int (1 + (1 + v6 + v7) % 5)] none (some ((m1 : Nat) : Int)))) nD2)).trans (same_new (o := .lst (fs.map V.int)) nD3)
  have R11 := R10.of e11
  have f11 := f710.trans (Fr.of e11)
  have hD3 : ∀ H' : Hp, (upd H' D3 (.lst (fs.map V.int))) D3 = some (.lst (fs.map V.int)) := fun _ => upd_same
  have hD3 := hD3 (upd (upd H10 D (.lst [.int (1 + v6), .int (1 + (1 + v6 + v7) % 5)])) D2 (.lst (cutV [V.int (1 + v6), .int (1 + (1 + v6 + v7) % 5)] none (some ((m1 : Nat) : Int)))))
  have nD3r : D3 ≠ r2 := R10.ne (same_back ((same_new (o := .lst [.int (1 + v6), .int (1 + (1 + v6 + v7) % 5)]) nD).trans (same_new (o := .lst (cutV [V.int (1 + v6), .int (1 + (1 + v6 + v7) % 5)] none (some ((m1 : Nat) : Int)))) nD2)) nD3)
  generalize upd (upd (upd H10 D (.lst [.int (1 + v6), .int (1 + (1 + v6 + v7) % 5)])) D2 (.lst (cutV [V.int (1 + v6), .int (1 + (1 + v6 + v7) % 5)] none (some ((m1 : Nat) : Int))))) D3 (.lst (fs.map V.int)) = H11 at R11 f11 hD3 ⊢
  have s11 := f11.back e7 nr2
  have hg11 := dp_same s11 hg
  refine ⟨_, rfl, ?_⟩
  refine ⟨_, rfl, D3, rfl, ⟨_, SqL.of hD3⟩, for_list (K := K) (a := D3) (xs := fs.map V.int) (fun i σ H' => ∃ (v : V) (cn : Cn) (y9 : Option V), σ = [some (.ref sc), some (.ref r2), some (.int (1 + (l0 : Int))), some (.int (2 + (a0 : Int))), some (.ref gt), some (.int (m1 : Int)), some (.int (1 + v6)), some (.ref D3), some v, y9, none, none, none, none, none, none, none, none, none] ∧
    Fr r2 H11 H' ∧ RD H' r2 ∧ Dp K H' v cn.d ∧ cn.Le (4 + i) ∧ (i = 0 → cn = g) ∧ ((∀ (j : Nat) (x : Int), j < i → fs[j]? = some x → 4 ≤ x) → cn.st.length = g.st.length))
    ⟨_, g, _, rfl, Fr.refl _ _, R11, hg11, ⟨by have := og.s8; omega, fun x hx => by
      obtain ⟨u1, u2⟩ := og.rl x hx
      have := og.l3
      have := og.a4
      omega⟩, fun _ => rfl, fun _ => rfl⟩ (fun i σ H' _ h' => ?_) ?_ ?_⟩
  · obtain ⟨_, _, _, _, f', _⟩ := h'
    exact SqL.of (f' _ _ nD3r hD3)
  · rintro i x σ H12 hi ⟨v, cn, y9, rfl, f12, R12, hv, hle, h0, hlen⟩
    rw [List.getElem?_map] at hi
    cases efx : fs[i]? with
    | none => rw [efx] at hi; cases hi
    | some f =>
    rw [efx] at hi
    cases hi
    have hf := ft.in5 f (List.mem_of_getElem? efx)
    have il : i < fs.length := (List.getElem?_eq_some_iff.mp efx).1
    have i2 := ft.two
    have hst : 3 ≤ f → cn.st.length = g.st.length := fun h3 => hlen fun j y hj ey => by
      have := ft.lt j i y f hj ey efx
      omega
    refine ⟨_, rfl, _, rfl, _, rfl, r2, v, cn, f, 4 + i, rfl, R12, hv, hf.1, hf.2, hle, by omega, by omega, fun h3 => by rw [hst h3]; exact ⟨og.s1, og.s8⟩, fun h5 => ?_, fun w c2 H13 f13 R13 hw hle2 hl2 => ?_⟩
    · rw [h0]
      · exact og
      · by_cases e : i = 0
        · exact e
        · obtain ⟨x0, ex0⟩ : ∃ x0, fs[0]? = some x0 := ⟨_, List.getElem?_eq_getElem (by omega)⟩
          have := ft.lt 0 i x0 f (by omega) ex0 efx
          have := (ft.in5 x0 (List.mem_of_getElem? ex0)).2
          omega
    · refine ⟨w, c2, _, rfl, f12.trans f13, R13, hw, hle2, fun z => absurd z (Nat.succ_ne_zero _), fun h => ?_⟩
      have h4 := h i f (Nat.lt_succ_self _) efx
      rw [hl2 h4]
      exact hlen fun j y hj ey => h j y (Nat.lt_succ_of_lt hj) ey
  rintro σ H12 ⟨vp, pc, y9, rfl, f12, R12, hvp, hle, _, _⟩
  have hg12 := dp_R 4 R11 f12 (ok_cnS og.sm) hg11
  have sm : pc.Sm := ⟨by have := hle.1; omega, fun x hx => by
    have := hle.2 x hx
    have := ft.two
    have : (fs.map V.int).length = fs.length := List.length_map ..
    omega⟩
  refine ⟨_, rfl, r2, 2, rfl, R12, by decide, by decide, fun fm H13 f13 R13 fm0 fm1 => ?_⟩
  refine ⟨by show 0 ≤ sizeLine; decide, fun LC nLC => ?_⟩
  refine ⟨_, rfl, _, rfl, _, rfl, by show 3 ≤ sizeLine; decide, fun L3 nL3 => ?_⟩
  have e14 := same_new (o := .lst []) nLC
  have e15 := e14.trans (same_new (o := .lst [vp, .ref gt, vp]) nL3)
  have hLC : (upd (upd H13 LC (.lst [])) L3 (.lst [vp, .ref gt, vp])) LC = some (.lst []) := same_new nL3 _ _ upd_same
  have hL3 := upd_same (H := upd H13 LC (.lst [])) (a := L3) (o := .lst [vp, .ref gt, vp])
  have nL3C : L3 ≠ LC := fun e => by
    rw [e, upd_same] at nL3
    cases nL3
  have hvp15 := dp_same e15 (dp_R 4 R12 f13 (ok_cnS sm) hvp)
  have hg15 := dp_same e15 (dp_R 4 R12 f13 (ok_cnS og.sm) hg12)
  have R15 := R13.of e15
  have nLCr : LC ≠ r2 := R13.ne nLC
  generalize upd (upd H13 LC (.lst [])) L3 (.lst [vp, .ref gt, vp]) = H15 at hLC hL3 hvp15 hg15 R15 ⊢
  have kt : ∀ (j : Nat) (x : V), [vp, .ref gt, vp][j]? = some x → ∃ cn : Cn, Dp K H15 x cn.d ∧ cn.Sm := fun j x hx => by
    obtain _ | _ | _ | j := j
    · cases hx
      exact ⟨pc, hvp15, sm⟩
    · cases hx
      exact ⟨g, hg15, og.sm⟩
    · cases hx
      exact ⟨pc, hvp15, sm⟩
    · simp at hx
  refine ⟨L3, rfl, ⟨_, SqL.of hL3⟩, for_list (K := K) (a := L3) (xs := [vp, .ref gt, vp]) (fun i σ H' => ∃ (y12 y13 y14 y15 : Option V) (xs : List V), σ = [some (.ref sc), some (.ref r2), some (.int (1 + (l0 : Int))), some (.int (2 + (a0 : Int))), some (.ref gt), some (.int (m1 : Int)), some (.int (1 + v6)), some (.ref D3), some vp, y9, some (.int fm), some (.ref LC), y12, y13, y14, y15, none, none, none] ∧
    Fr LC H15 H' ∧ H' LC = some (.lst xs) ∧ xs.length ≤ i ∧ ∀ x ∈ xs, Shw K (c id_Contract) H' x) ⟨_, _, _, _, [], rfl, Fr.refl _ _, hLC, Nat.le_refl _, fun x h => nomatch h⟩ (fun i σ H' _ h' => ?_) ?_ ?_⟩
  · obtain ⟨_, _, _, _, _, _, f', _⟩ := h'
    exact SqL.of (f' _ _ nL3C hL3)
  · rintro i x σ H16 hi ⟨y12, y13, y14, y15, xs, rfl, f16, hLC16, lxs, hxs⟩
    obtain ⟨cn, hx15, sm⟩ := kt i x hi
    have hx16 : Dp K H16 x (.tuple [.int cn.l, .int cn.a, stD cn.st]) := dp_frl hLC f16 4 (ok_cnS sm) hx15
    obtain ⟨pa, pxs, pl, rfl, hpq, ip0, dp0⟩ := dp_ix hx16 (i := 0) rfl
    obtain ⟨pa', pxs', pn, ee, hpq', ip1, dp1⟩ := dp_ix hx16 (i := 1) rfl
    cases ee
    obtain ⟨pa', pxs2, ps, ee, hpq2, ip2, dp2⟩ := dp_ix hx16 (i := 2) rfl
    cases ee
    cases dp0
    cases dp1
    obtain ⟨sa, ss, rfl, hss, hks⟩ := dp_tup dp2
    -- passed
    refine ⟨_, rfl, pa, pxs2, _, _, rfl, rfl, hpq2, ip2, _, rfl, pa, pxs2, _, _, rfl, rfl, hpq2, ip2, sa, ss, rfl, .inr hss, fun LL nLL => ⟨by show 2 ≤ sizeLine; decide, fun LB nLB => ?_⟩⟩
    have e17 := (same_new (o := .lst ss) nLL).trans (same_new (o := .lst [.ref sa, .ref LL]) nLB)
    have hLL : (upd (upd H16 LL (.lst ss)) LB (.lst [.ref sa, .ref LL])) LL = some (.lst ss) := same_new nLB _ _ upd_same
    have hLB := upd_same (H := upd H16 LL (.lst ss)) (a := LB) (o := .lst [.ref sa, .ref LL])
    have nLLC : LC ≠ LL := ne_of_none hLC16 nLL
    have hLC17 := e17 _ _ hLC16
    generalize upd (upd H16 LL (.lst ss)) LB (.lst [.ref sa, .ref LL]) = H17 at e17 hLL hLB hLC17 ⊢
    have hx17 := dp_same e17 hx16
    obtain ⟨pv, hpv, hcase⟩ : ∃ pv, atI [V.ref sa, .ref LL] fm = some pv ∧ ((fm = 0 ∧ pv = .ref sa) ∨ (fm = 1 ∧ pv = .ref LL)) := by
      obtain ⟨m, rfl⟩ := Int.eq_ofNat_of_zero_le fm0
      obtain _ | _ | m := m
      · exact ⟨_, atI_nat rfl, .inl ⟨rfl, rfl⟩⟩
      · exact ⟨_, atI_nat rfl, .inr ⟨rfl, rfl⟩⟩
      · omega
    refine ⟨_, rfl, LB, _, _, _, rfl, rfl, SqL.of hLB, hpv, ?_⟩
    -- told
    refine ⟨_, rfl, pa, pxs, _, _, rfl, rfl, seqT_same e17 hpq, ip0, _, rfl, pa, pxs', _, _, rfl, rfl, seqT_same e17 hpq', ip1, _, rfl, by show 4 ≤ sizeLine; decide, fun td ntd => ?_⟩
    have e18 := same_new (o := .tup [.str "new", .int cn.l, .int cn.a, pv]) ntd
    have dpa17 := dpa_same e17 hks
    have raw : RawSt K H17 pv cn.st := by
      have dla : DlAll K H17 ss (cn.st.map Row.d) := dla_dp 2 (ok_rows sm) dpa17
      have ix : ∀ (i : Nat) (d' : PyData) (r : Row), (cn.st.map Row.d)[i]? = some d' → cn.st[i]? = some r → rawRow d' r := fun i d' r e1 e2 => by
        rw [List.getElem?_map, e2] at e1
        cases e1
        exact ⟨_, _, rfl, .inr rfl, .inr rfl⟩
      rcases hcase with ⟨_, rfl⟩ | ⟨_, rfl⟩
      · exact ⟨.tuple (cn.st.map Row.d), .tup (seqT_same e17 hss) dla, cn.st.map Row.d, .inr rfl, by rw [List.length_map], ix⟩
      · exact ⟨.list (cn.st.map Row.d), .lst hLL dla, cn.st.map Row.d, .inl rfl, by rw [List.length_map], ix⟩
    refine ⟨.non, td, cn, rfl, .inl ⟨pv, SqT.of upd_same, sm, raw.same e18⟩, fun w ks t kl H18 s18 nkl ht hkl hto => ?_⟩
    have s718 := e18.trans s18
    have hx18 := dp_same s718 hx17
    have hLL18 := s718 _ _ hLL
    have hLC18 := s718 _ _ hLC17
    have f18 : Fr LC H15 H18 := f16.trans ((Fr.of e17).trans (Fr.of s718))
    have hxs18 : ∀ x ∈ xs, Shw K (c id_Contract) H18 x := fun x hx => (hxs x hx).same (e17.trans s718)
    -- the list is changed
    refine ⟨fun σ' H' => σ' = [some (.ref sc), some (.ref r2), some (.int (1 + (l0 : Int))), some (.int (2 + (a0 : Int))), some (.ref gt), some (.int (m1 : Int)), some (.int (1 + v6)), some (.ref D3), some vp, y9, some (.int fm), some (.ref LC), some (.ref pa), some pv, some (.ref t), y15, none, none, none] ∧ Fr LL H18 H', ?_, ?_⟩
    · rcases hcase with ⟨rfl, rfl⟩ | ⟨rfl, rfl⟩
      · refine ⟨_, rfl, rfl, _, rfl, nope (by decide) ⟨rfl, Fr.refl _ _⟩⟩
      · refine ⟨_, rfl, rfl, _, rfl, yes rfl ?_⟩
        refine ⟨_, rfl, _, rfl, pa, pxs2, _, _, rfl, rfl, seqT_same (e17.trans s718) hpq2, ip2, sa, ss, rfl, .inr (seqT_same (e17.trans s718) hss), fun L5 nL5 => ?_⟩
        have e20 := same_new (o := .lst ss) nL5
        have dpa18 := dpa_same s718 dpa17
        refine ⟨.list (cn.st.map Row.d), .list (cn.st.map Row.d), .lst (SqL.of (e20 _ _ hLL18)) (dpa_same e20 dpa18), .lst (SqL.of upd_same) (dpa_same e20 dpa18), shaped_rows _, shaped_rows _, ?_⟩
        rw [eqv_self (shaped_rows _)]
        refine ⟨_, rfl, iteF ?_⟩
        have hLL20 := e20 _ _ hLL18
        generalize upd H18 L5 (.lst ss) = H20 at e20 hLL20 ⊢
        refine ⟨_, rfl, .inl ⟨rfl, _, SqL.of hLL20⟩, LL, _, rfl, rfl, hLL20, ?_⟩
        have hLL21 := upd_same (H := H20) (a := LL) (o := .lst ss.reverse)
        have f21 : Fr LL H18 (upd H20 LL (.lst ss.reverse)) := (Fr.of e20).trans Fr.upd
        generalize upd H20 LL (.lst ss.reverse) = H21 at hLL21 f21 ⊢
        refine ⟨_, rfl, .inl ⟨rfl, _, SqL.of hLL21⟩, by show 0 ≤ sizeLine; decide, fun q1 nq1 => ⟨by show 0 ≤ sizeLine; decide, fun q2 nq2 => ⟨by show 5 ≤ sizeLine; decide, fun q3 nq3 => ?_⟩⟩⟩
        have e22 := ((same_new (o := .tup []) nq1).trans (same_new (o := .tup []) nq2)).trans (same_new (o := .tup [.ref q1, .non, .ref q2, .bl true, .bl true]) nq3)
        refine ⟨LL, ss.reverse, _, rfl, rfl, e22 _ _ hLL21, ?_, rfl, (f21.trans (Fr.of e22)).trans Fr.upd⟩
        rw [List.length_reverse]
        have := dpa_len hks
        rw [List.length_map] at this
        have := sm.s10
        exact small1000 (by omega)
    rintro σ' H19 ⟨rfl, f19⟩
    have hLC19 := f19 _ _ nLLC hLC18
    have hx19 : Dp K H19 (.ref pa) (.tuple [.int cn.l, .int cn.a, stD cn.st]) := dp_frl hLL18 f19 4 (ok_cnS sm) hx18
    have hpq19 := seqT_frl hLL18 f19 (seqT_same (e17.trans s718) hpq)
    have hpq19' := seqT_frl hLL18 f19 (seqT_same (e17.trans s718) hpq')
    have hpq192 := seqT_frl hLL18 f19 (seqT_same (e17.trans s718) hpq2)
    have dp2' := dp_frl hLL18 f19 3 (ok_st sm) (dp_same (e17.trans s718) dp2)
    refine ⟨_, rfl, pa, pxs, _, _, rfl, rfl, hpq19, ip0, _, rfl, pa, pxs', _, _, rfl, rfl, hpq19', ip1, _, rfl, pa, pxs2, _, _, rfl, rfl, hpq192, ip2, cn, .ref sa, rfl, sm, dp2', fun H20 s20 => ?_⟩
    have ht20 := seqT_same s20 (seqT_frl hLL18 f19 ht)
    have hkl20 : H20 kl = some (.lst ks) := s20 _ _ (f19 _ _ (fun e => by
      rw [e, e18 _ _ hLL] at nkl
      cases nkl) hkl)
    have hLC20 := s20 _ _ hLC19
    have hx20 := dp_same s20 hx19
    have f20 : Fr LC H15 H20 := fun b o n hb => s20 _ _ (f19 _ _ (ne_of_none (f16 b o n hb) nLL) (f18 b o n hb))
    have hxs20 : ∀ x ∈ xs, Shw K (c id_Contract) H20 x := fun x hx => ((hxs18 x hx).frl hLL18 f19).same s20
    obtain ⟨rfl, hto⟩ := hto
    refine ⟨_, rfl, t, _, _, _, rfl, rfl, ht20, atI_nat (j := 0) rfl, _, rfl, rfl, _, rfl, nyes rfl ?_⟩
    refine ⟨_, rfl, t, _, _, _, rfl, rfl, ht20, atI_nat (j := 1) rfl, kl, ks, rfl, .inl (SqL.of hkl20), _, rfl, rfl, .inr ⟨_, rfl, rfl, _, rfl, ?_⟩⟩
    rcases hto with ⟨hw, p, rfl, hc⟩ | ⟨hw, rfl⟩
    · have hw' : cn.why = "" := hw.trans (by decide +kernel)
      have hb : decide (V.str cn.why = V.str "") = true := decide_eq_true (congrArg V.str hw')
      have hcur : Cur K (c id_Contract) H20 p (.ref pa) cn := (Cur.frl hLL18 f19 ⟨why_ok hw, hc, hx18⟩).same s20
      refine nyes (by rw [if_pos hb]; rfl) ?_
      refine ⟨_, rfl, rfl, _, rfl, yes (congrArg V.str hw') ?_⟩
      refine ⟨_, rfl, .inl ⟨rfl, _, SqL.of hLC20⟩, _, rfl, t, _, _, _, rfl, rfl, ht20, atI_nat (j := 1) rfl, kl, _, _, _, rfl, rfl, SqL.of hkl20, atI_nat (j := 0) rfl, _, rfl, by show 2 ≤ sizeLine; decide, fun tp ntp => ?_⟩
      have e21 := same_new (o := .tup [.ref p, .ref pa]) ntp
      have htp := upd_same (H := H20) (a := tp) (o := .tup [.ref p, .ref pa])
      generalize upd H20 tp (.tup [.ref p, .ref pa]) = H21 at e21 htp ⊢
      have hLC21 := e21 _ _ hLC20
      have i3 : i < 3 := (List.getElem?_eq_some_iff.mp hi).1
      refine ⟨LC, xs, _, rfl, rfl, hLC21, small1000 (by omega), _, _, _, _, xs ++ [.ref tp], rfl, (f20.trans (Fr.of e21)).trans Fr.upd, upd_same, by rw [List.length_append]; exact Nat.succ_le_succ lxs, fun x hx => ?_⟩
      rcases List.mem_append.mp hx with hx | hx
      · exact ((hxs20 x hx).same e21).frl hLC21 Fr.upd
      · rcases List.mem_singleton.mp hx with rfl
        exact Shw.frl hLC21 Fr.upd ⟨tp, p, .ref pa, cn, rfl, SqT.of htp, hcur.same e21⟩
    · have hb : ¬ decide (V.str cn.why = V.str "") = true := fun z => hw ((V.str.inj (of_decide_eq_true z)).trans (by decide +kernel))
      refine nyes (by rw [if_neg hb]; rfl) ?_
      exact ⟨_, rfl, rfl, _, rfl, nope (fun z => hb (decide_eq_true z)) ⟨_, _, _, _, xs, rfl, f20, hLC20, by omega, hxs20⟩⟩
  rintro σ H16 ⟨y12, y13, y14, y15, xs, rfl, f16, hLC16, lxs, hxs⟩
  have R16 : RD H16 r2 := by
    obtain ⟨u1, u2, u3, hu⟩ := R15
    exact ⟨u1, u2, u3, f16 _ _ nLCr.symm hu⟩
  have lx3 : xs.length ≤ 3 := lxs
  refine ⟨_, rfl, LC, rfl, ⟨_, SqL.of hLC16⟩, for_list (K := K) (a := LC) (xs := xs) (fun i σ H' => ∃ (y16 y17 : Option V), σ = [some (.ref sc), some (.ref r2), some (.int (1 + (l0 : Int))), some (.int (2 + (a0 : Int))), some (.ref gt), some (.int (m1 : Int)), some (.int (1 + v6)), some (.ref D3), some vp, y9, some (.int fm), some (.ref LC), y12, y13, y14, y15, y16, y17, none] ∧ Fr r2 H16 H' ∧ RD H' r2) ⟨_, _, rfl, Fr.refl _ _, R16⟩ (fun i σ H' _ h' => ?_) ?_ ?_⟩
  · obtain ⟨_, _, _, f', _⟩ := h'
    exact SqL.of (f' _ _ nLCr hLC16)
  · rintro i x σ H17 hi ⟨y16, y17, rfl, f17, R17⟩
    obtain ⟨t, p, v, cn, rfl, ht, hcur⟩ := (hxs x (List.mem_of_getElem? hi)).R R16 f17
    refine ⟨_, rfl, _, rfl, t, _, _, _, rfl, rfl, ht, atI_nat (j := 0) rfl, _, rfl, t, _, _, _, rfl, rfl, ht, atI_nat (j := 1) rfl, r2, p, v, cn, rfl, R17, hcur, fun LS zs H18 f18 R18 nLS hLS nez lz hz => ?_⟩
    refine ⟨_, rfl, LS, zs, rfl, .inl (SqL.of hLS), rfl, _, rfl, nope (fun z => ?_) ?_⟩
    · exact nez (List.length_eq_zero_iff.mp (by have := V.int.inj z; omega))
    have hLC18 := f18 _ _ nLCr (f17 _ _ nLCr hLC16)
    refine ⟨_, rfl, _, rfl, LS, LC, zs, xs, rfl, rfl, hLS, hLC18, Nat.le_trans (show zs.length + xs.length ≤ 10 by omega) (by decide), fun LA nLA => ?_⟩
    have e19 := same_new (o := .lst (zs ++ xs)) nLA
    have hLA := upd_same (H := H18) (a := LA) (o := .lst (zs ++ xs))
    have hall : ∀ y ∈ zs ++ xs, Shw K (c id_Contract) (upd H18 LA (.lst (zs ++ xs))) y := fun y hy => by
      rcases List.mem_append.mp hy with hy | hy
      · exact (hz y hy).same e19
      · exact (((hxs y hy).R R16 f17).R R17 f18).same e19
    have R19 := R18.of e19
    have f19 := (f17.trans f18).trans (Fr.of e19)
    generalize upd H18 LA (.lst (zs ++ xs)) = H19 at hLA hall R19 f19 ⊢
    refine ⟨LA, rfl, ⟨_, SqL.of hLA⟩, fun D nD => lc_it (walk_list (xs := zs ++ xs)) (fun i H' => Same H19 H' ∧ H' D = some (.lst ((List.replicate i true).map V.bl)))
      ⟨same_new nD, upd_same⟩ (fun i H' _ h' => h'.1.seq (SqL.of hLA)) ?_ ?_⟩
    · rintro i y H20 H21 hi ⟨s20, hD⟩ ⟨rfl, hy⟩
      obtain ⟨t, p, v, cn, rfl, ht, hc1, hc2, hc3⟩ := (hall y (List.mem_of_getElem? hy)).same s20
      refine ⟨rfl, _, rfl, t, _, _, _, rfl, rfl, ht, atI_nat (j := 0) rfl, _, rfl, t, _, _, _, rfl, rfl, ht, atI_nat (j := 1) rfl, p, v, cn, rfl, hc2, hc3, hc1, fun H22 s22 => ?_⟩
      refine ⟨_, s22 _ _ hD, ?_, same_mut (s20.trans s22) nD, ?_⟩
      · rw [List.length_map, List.length_replicate]
        have : i < (zs ++ xs).length := hi
        rw [List.length_append] at this
        exact small1000 (by omega)
      · rw [upd_same, List.replicate_succ', List.map_append]
        rfl
    · rintro H20 ⟨s20, hD⟩
      refine ⟨D, _, rfl, SqL.of hD, ?_⟩
      rw [all_true]
      exact ⟨true, rfl, iteF ⟨_, _, rfl, f19.trans (Fr.of s20), R19.of s20⟩⟩
  rintro σ H17 ⟨y16, y17, rfl, f17, R17⟩
  exact q H17


end
end Pf

namespace Pf
open PySem PySem.Spec PyProof.Rows L2
theorem all_mk {l : PySem.W.OpenLaw} {w : World} {K : PySem.W.Frag} {h : Heap} {mg : Str → Option Value} {fa f0 f1 f2 f3 f4 f5 f6 f7 f8 f9 f10 f11 f12 f13 f14 f15 f16 f17 f18 f19 f20 f21 : Addr} {C1 C2 C3 C4 C5 C6 C7 C8 C9 C10 C11 C12 C13 C14 C24 : Addr} (X : K.In h) (G : h.Ns mainGlobals mg) (hfa : mg "law" = some (.ref fa))
    {od0 an0 od1 an1 od2 an2 od3 an3 od4 an4 od5 an5 od6 an6 od7 an7 od8 an8 od9 an9 od10 an10 od11 an11 od12 an12 od13 an13 od14 an14 od15 an15 od16 an16 od17 an17 od18 an18 od19 an19 od20 an20 od21 an21 : Option Addr}
    {sl0 sl1 sl2 sl3 sl4 sl5 sl6 sl7 sl8 sl9 sl10 sl11 sl12 sl13 sl14 sl15 sl16 sl17 sl18 sl19 sl20 sl21 : Array (Option Value)} {oc0 kV0 dc0 pm0 cd0 ct0 oc1 kV1 dc1 pm1 cd1 ct1 oc2 kV2 dc2 pm2 cd2 ct2 oc3 kV3 dc3 pm3 cd3 ct3 oc4 kV4 dc4 pm4 cd4 ct4 oc5 kV5 dc5 pm5 cd5 ct5 oc6 kV6 dc6 pm6 cd6 ct6 oc7 kV7 dc7 pm7 cd7 ct7 oc8 kV8 dc8 pm8 cd8 ct8 oc9 kV9 dc9 pm9 cd9 ct9 oc10 kV10 dc10 pm10 cd10 ct10 oc11 kV11 dc11 pm11 cd11 ct11 oc12 kV12 dc12 pm12 cd12 ct12 oc13 kV13 dc13 pm13 cd13 ct13 oc14 kV14 dc14 pm14 cd14 ct14 oc15 kV15 dc15 pm15 cd15 ct15 oc16 kV16 dc16 pm16 cd16 ct16 oc17 kV17 dc17 pm17 cd17 ct17 oc18 kV18 dc18 pm18 cd18 ct18 oc19 kV19 dc19 pm19 cd19 ct19 oc20 kV20 dc20 pm20 cd20 ct20 oc21 kV21 dc21 pm21 cd21 ct21 : Value}
    (a0 : PySem.W.nsIn K mainGlobals "frozen" = some (some (.ref f0))) (l0 : K.lookup f0 = some ⟨oc0, od0, .func (PySem.W.fnOf "frozen" "frozen" (defArgs s_frozen) (defBody s_frozen) (defScope s_frozen) .none kV0 dc0 pm0 an0 cd0 ct0), sl0⟩) (c0 : PySem.W.codeIn K cd0 "frozen" = true) (k0 : PySem.W.keepIn K (.ref f0) = true)
    (a1 : PySem.W.nsIn K mainGlobals "letters_reason" = some (some (.ref f1))) (l1 : K.lookup f1 = some ⟨oc1, od1, .func (PySem.W.fnOf "letters_reason" "letters_reason" (defArgs s_letters_reason) (defBody s_letters_reason) (defScope s_letters_reason) .none kV1 dc1 pm1 an1 cd1 ct1), sl1⟩) (c1 : PySem.W.codeIn K cd1 "letters_reason" = true) (k1 : PySem.W.keepIn K (.ref f1) = true)
    (a2 : PySem.W.nsIn K mainGlobals "with_item" = some (some (.ref f2))) (l2 : K.lookup f2 = some ⟨oc2, od2, .func (PySem.W.fnOf "with_item" "with_item" (defArgs s_with_item) (defBody s_with_item) (defScope s_with_item) .none kV2 dc2 pm2 an2 cd2 ct2), sl2⟩) (c2 : PySem.W.codeIn K cd2 "with_item" = true) (k2 : PySem.W.keepIn K (.ref f2) = true)
    (a3 : PySem.W.nsIn K mainGlobals "first_reason" = some (some (.ref f3))) (l3 : K.lookup f3 = some ⟨oc3, od3, .func (PySem.W.fnOf "first_reason" "first_reason" (defArgs s_first_reason) (defBody s_first_reason) (defScope s_first_reason) .none kV3 dc3 pm3 an3 cd3 ct3), sl3⟩) (c3 : PySem.W.codeIn K cd3 "first_reason" = true) (k3 : PySem.W.keepIn K (.ref f3) = true)
    (a4 : PySem.W.nsIn K mainGlobals "states_reason" = some (some (.ref f4))) (l4 : K.lookup f4 = some ⟨oc4, od4, .func (PySem.W.fnOf "states_reason" "states_reason" (defArgs s_states_reason) (defBody s_states_reason) (defScope s_states_reason) .none kV4 dc4 pm4 an4 cd4 ct4), sl4⟩) (c4 : PySem.W.codeIn K cd4 "states_reason" = true) (k4 : PySem.W.keepIn K (.ref f4) = true)
    (a5 : PySem.W.nsIn K mainGlobals "_law_cell" = some (some (.ref f5))) (l5 : K.lookup f5 = some ⟨oc5, od5, .func (PySem.W.fnOf "_law_cell" "_law_cell" (defArgs s__law_cell) (defBody s__law_cell) (defScope s__law_cell) .none kV5 dc5 pm5 an5 cd5 ct5), sl5⟩) (c5 : PySem.W.codeIn K cd5 "_law_cell" = true) (k5 : PySem.W.keepIn K (.ref f5) = true)
    (a6 : PySem.W.nsIn K mainGlobals "_law_reader" = some (some (.ref f6))) (l6 : K.lookup f6 = some ⟨oc6, od6, .func (PySem.W.fnOf "_law_reader" "_law_reader" (defArgs s__law_reader) (defBody s__law_reader) (defScope s__law_reader) .none kV6 dc6 pm6 an6 cd6 ct6), sl6⟩) (c6 : PySem.W.codeIn K cd6 "_law_reader" = true) (k6 : PySem.W.keepIn K (.ref f6) = true)
    (a7 : PySem.W.nsIn K mainGlobals "_law_next" = some (some (.ref f7))) (l7 : K.lookup f7 = some ⟨oc7, od7, .func (PySem.W.fnOf "_law_next" "_law_next" (defArgs s__law_next) (defBody s__law_next) (defScope s__law_next) .none kV7 dc7 pm7 an7 cd7 ct7), sl7⟩) (c7 : PySem.W.codeIn K cd7 "_law_next" = true) (k7 : PySem.W.keepIn K (.ref f7) = true)
    (a8 : PySem.W.nsIn K mainGlobals "_law_same" = some (some (.ref f8))) (l8 : K.lookup f8 = some ⟨oc8, od8, .func (PySem.W.fnOf "_law_same" "_law_same" (defArgs s__law_same) (defBody s__law_same) (defScope s__law_same) .none kV8 dc8 pm8 an8 cd8 ct8), sl8⟩) (c8 : PySem.W.codeIn K cd8 "_law_same" = true) (k8 : PySem.W.keepIn K (.ref f8) = true)
    (a9 : PySem.W.nsIn K mainGlobals "_law_put" = some (some (.ref f9))) (l9 : K.lookup f9 = some ⟨oc9, od9, .func (PySem.W.fnOf "_law_put" "_law_put" (defArgs s__law_put) (defBody s__law_put) (defScope s__law_put) .none kV9 dc9 pm9 an9 cd9 ct9), sl9⟩) (c9 : PySem.W.codeIn K cd9 "_law_put" = true) (k9 : PySem.W.keepIn K (.ref f9) = true)
    (a10 : PySem.W.nsIn K mainGlobals "_law_target" = some (some (.ref f10))) (l10 : K.lookup f10 = some ⟨oc10, od10, .func (PySem.W.fnOf "_law_target" "_law_target" (defArgs s__law_target) (defBody s__law_target) (defScope s__law_target) .none kV10 dc10 pm10 an10 cd10 ct10), sl10⟩) (c10 : PySem.W.codeIn K cd10 "_law_target" = true) (k10 : PySem.W.keepIn K (.ref f10) = true)
    (a11 : PySem.W.nsIn K mainGlobals "_law_states" = some (some (.ref f11))) (l11 : K.lookup f11 = some ⟨oc11, od11, .func (PySem.W.fnOf "_law_states" "_law_states" (defArgs s__law_states) (defBody s__law_states) (defScope s__law_states) .none kV11 dc11 pm11 an11 cd11 ct11), sl11⟩) (c11 : PySem.W.codeIn K cd11 "_law_states" = true) (k11 : PySem.W.keepIn K (.ref f11) = true)
    (a12 : PySem.W.nsIn K mainGlobals "_law_events" = some (some (.ref f12))) (l12 : K.lookup f12 = some ⟨oc12, od12, .func (PySem.W.fnOf "_law_events" "_law_events" (defArgs s__law_events) (defBody s__law_events) (defScope s__law_events) .none kV12 dc12 pm12 an12 cd12 ct12), sl12⟩) (c12 : PySem.W.codeIn K cd12 "_law_events" = true) (k12 : PySem.W.keepIn K (.ref f12) = true)
    (a13 : PySem.W.nsIn K mainGlobals "_law_follow" = some (some (.ref f13))) (l13 : K.lookup f13 = some ⟨oc13, od13, .func (PySem.W.fnOf "_law_follow" "_law_follow" (defArgs s__law_follow) (defBody s__law_follow) (defScope s__law_follow) .none kV13 dc13 pm13 an13 cd13 ct13), sl13⟩) (c13 : PySem.W.codeIn K cd13 "_law_follow" = true) (k13 : PySem.W.keepIn K (.ref f13) = true)
    (a14 : PySem.W.nsIn K mainGlobals "_law_right" = some (some (.ref f14))) (l14 : K.lookup f14 = some ⟨oc14, od14, .func (PySem.W.fnOf "_law_right" "_law_right" (defArgs s__law_right) (defBody s__law_right) (defScope s__law_right) .none kV14 dc14 pm14 an14 cd14 ct14), sl14⟩) (c14 : PySem.W.codeIn K cd14 "_law_right" = true) (k14 : PySem.W.keepIn K (.ref f14) = true)
    (a15 : PySem.W.nsIn K mainGlobals "_law_turned_row" = some (some (.ref f15))) (l15 : K.lookup f15 = some ⟨oc15, od15, .func (PySem.W.fnOf "_law_turned_row" "_law_turned_row" (defArgs s__law_turned_row) (defBody s__law_turned_row) (defScope s__law_turned_row) .none kV15 dc15 pm15 an15 cd15 ct15), sl15⟩) (c15 : PySem.W.codeIn K cd15 "_law_turned_row" = true) (k15 : PySem.W.keepIn K (.ref f15) = true)
    (a16 : PySem.W.nsIn K mainGlobals "_law_reason" = some (some (.ref f16))) (l16 : K.lookup f16 = some ⟨oc16, od16, .func (PySem.W.fnOf "_law_reason" "_law_reason" (defArgs s__law_reason) (defBody s__law_reason) (defScope s__law_reason) .none kV16 dc16 pm16 an16 cd16 ct16), sl16⟩) (c16 : PySem.W.codeIn K cd16 "_law_reason" = true) (k16 : PySem.W.keepIn K (.ref f16) = true)
    (a17 : PySem.W.nsIn K mainGlobals "_law_faulty" = some (some (.ref f17))) (l17 : K.lookup f17 = some ⟨oc17, od17, .func (PySem.W.fnOf "_law_faulty" "_law_faulty" (defArgs s__law_faulty) (defBody s__law_faulty) (defScope s__law_faulty) .none kV17 dc17 pm17 an17 cd17 ct17), sl17⟩) (c17 : PySem.W.codeIn K cd17 "_law_faulty" = true) (k17 : PySem.W.keepIn K (.ref f17) = true)
    (a18 : PySem.W.nsIn K mainGlobals "_law_told" = some (some (.ref f18))) (l18 : K.lookup f18 = some ⟨oc18, od18, .func (PySem.W.fnOf "_law_told" "_law_told" (defArgs s__law_told) (defBody s__law_told) (defScope s__law_told) .none kV18 dc18 pm18 an18 cd18 ct18), sl18⟩) (c18 : PySem.W.codeIn K cd18 "_law_told" = true) (k18 : PySem.W.keepIn K (.ref f18) = true)
    (a19 : PySem.W.nsIn K mainGlobals "_law_flagged" = some (some (.ref f19))) (l19 : K.lookup f19 = some ⟨oc19, od19, .func (PySem.W.fnOf "_law_flagged" "_law_flagged" (defArgs s__law_flagged) (defBody s__law_flagged) (defScope s__law_flagged) .none kV19 dc19 pm19 an19 cd19 ct19), sl19⟩) (c19 : PySem.W.codeIn K cd19 "_law_flagged" = true) (k19 : PySem.W.keepIn K (.ref f19) = true)
    (a20 : PySem.W.nsIn K mainGlobals "_law_walked" = some (some (.ref f20))) (l20 : K.lookup f20 = some ⟨oc20, od20, .func (PySem.W.fnOf "_law_walked" "_law_walked" (defArgs s__law_walked) (defBody s__law_walked) (defScope s__law_walked) .none kV20 dc20 pm20 an20 cd20 ct20), sl20⟩) (c20 : PySem.W.codeIn K cd20 "_law_walked" = true) (k20 : PySem.W.keepIn K (.ref f20) = true)
    (a21 : PySem.W.nsIn K mainGlobals "law" = some (some (.ref f21))) (l21 : K.lookup f21 = some ⟨oc21, od21, .func (PySem.W.fnOf "law" "law" (defArgs s_law) (defBody s_law) (defScope s_law) .none kV21 dc21 pm21 an21 cd21 ct21), sl21⟩) (c21 : PySem.W.codeIn K cd21 "law" = true) (k21 : PySem.W.keepIn K (.ref f21) = true)
    (g24 : PySem.W.nsIn K mainGlobals "Contract" = some (some (.ref C24))) (pg24 : PySem.W.plainGet K C24 Str.empty = true) (hd24 : PySem.W.hasDictIn K C24 = true) (po24 : PySem.W.plainOver K C24 = true) (sa24 : PySem.W.findIn K (.ref C24) "__setattr__" = some (some (.builtin "object.__setattr__"))) (mk24 : PySem.W.makesIn K C24 = true) (kc24 : PySem.W.keepIn K (.ref C24) = true)
    (ha24 : PySem.W.findIn K (.ref C24) "__class__" = some (some (.builtin "object.__class__"))) (hn24 : PySem.W.specialIn K (.builtin "object.__class__") "__get__" = some (some (.builtin "getset_descriptor.__get__"))) (ht24 : PySem.W.takesIn K (.builtin "object.__class__") = some true) (hm24 : PySem.W.mroIn K C24 (.type "object") = some true) (me24 : PySem.W.kitOne K (.ref C24) (.ref C24) = some true)
    (n24_letters : PySem.W.findIn K (.ref C24) "letters" = some none)
    (n24_answers : PySem.W.findIn K (.ref C24) "answers" = some none)
    (n24_states : PySem.W.findIn K (.ref C24) "states" = some none)
    {fm24_0 : Addr} {odm24_0 anm24_0 : Option Addr} {slm24_0 : Array (Option Value)} {ocm24_0 kVm24_0 dcm24_0 pmm24_0 cdm24_0 ctm24_0 : Value} (am24_0 : PySem.W.findIn K (.ref C24) "__init__" = some (some (.ref fm24_0))) (im24_0 : PySem.W.isFn K (.ref fm24_0) = true) (lm24_0 : K.lookup fm24_0 = some ⟨ocm24_0, odm24_0, .func (PySem.W.fnOf "__init__" "Contract.__init__" (defArgs s_Contract_init) (defBody s_Contract_init) (defScope s_Contract_init) .none kVm24_0 dcm24_0 pmm24_0 anm24_0 cdm24_0 ctm24_0), slm24_0⟩) (cm24_0 : PySem.W.codeIn K cdm24_0 "Contract.__init__" = true) (km24_0 : PySem.W.keepIn K (.ref fm24_0) = true)
    {fm24_1 : Addr} {odm24_1 anm24_1 : Option Addr} {slm24_1 : Array (Option Value)} {ocm24_1 kVm24_1 dcm24_1 pmm24_1 cdm24_1 ctm24_1 : Value} (am24_1 : PySem.W.findIn K (.ref C24) "follow" = some (some (.ref fm24_1))) (im24_1 : PySem.W.isFn K (.ref fm24_1) = true) (lm24_1 : K.lookup fm24_1 = some ⟨ocm24_1, odm24_1, .func (PySem.W.fnOf "follow" "Contract.follow" (defArgs s_Contract_follow) (defBody s_Contract_follow) (defScope s_Contract_follow) .none kVm24_1 dcm24_1 pmm24_1 anm24_1 cdm24_1 ctm24_1), slm24_1⟩) (cm24_1 : PySem.W.codeIn K cdm24_1 "Contract.follow" = true) (km24_1 : PySem.W.keepIn K (.ref fm24_1) = true)
    {fm24_2 : Addr} {odm24_2 anm24_2 : Option Addr} {slm24_2 : Array (Option Value)} {ocm24_2 kVm24_2 dcm24_2 pmm24_2 cdm24_2 ctm24_2 : Value} (am24_2 : PySem.W.findIn K (.ref C24) "with_row" = some (some (.ref fm24_2))) (im24_2 : PySem.W.isFn K (.ref fm24_2) = true) (lm24_2 : K.lookup fm24_2 = some ⟨ocm24_2, odm24_2, .func (PySem.W.fnOf "with_row" "Contract.with_row" (defArgs s_Contract_with_row) (defBody s_Contract_with_row) (defScope s_Contract_with_row) .none kVm24_2 dcm24_2 pmm24_2 anm24_2 cdm24_2 ctm24_2), slm24_2⟩) (cm24_2 : PySem.W.codeIn K cdm24_2 "Contract.with_row" = true) (km24_2 : PySem.W.keepIn K (.ref fm24_2) = true)
    {kD24_3 : Addr} {fm24_3 : Addr} {odm24_3 anm24_3 : Option Addr} {slm24_3 : Array (Option Value)} {ocm24_3 dcm24_3 pmm24_3 cdm24_3 ctm24_3 : Value} (am24_3 : PySem.W.findIn K (.ref C24) "with_flags" = some (some (.ref fm24_3))) (im24_3 : PySem.W.isFn K (.ref fm24_3) = true) (lm24_3 : K.lookup fm24_3 = some ⟨ocm24_3, odm24_3, .func (PySem.W.fnOf "with_flags" "Contract.with_flags" (defArgs s_Contract_with_flags) (defBody s_Contract_with_flags) (defScope s_Contract_with_flags) .none (.ref kD24_3) dcm24_3 pmm24_3 anm24_3 cdm24_3 ctm24_3), slm24_3⟩) (cm24_3 : PySem.W.codeIn K cdm24_3 "Contract.with_flags" = true) (km24_3 : PySem.W.keepIn K (.ref fm24_3) = true) (kf24_3 : PySem.W.nsIn K kD24_3 "finish" = some (some .none)) (ks24_3 : PySem.W.nsIn K kD24_3 "silence" = some (some .none))
    {fm24_4 : Addr} {odm24_4 anm24_4 : Option Addr} {slm24_4 : Array (Option Value)} {ocm24_4 kVm24_4 dcm24_4 pmm24_4 cdm24_4 ctm24_4 : Value} (am24_4 : PySem.W.findIn K (.ref C24) "with_state" = some (some (.ref fm24_4))) (im24_4 : PySem.W.isFn K (.ref fm24_4) = true) (lm24_4 : K.lookup fm24_4 = some ⟨ocm24_4, odm24_4, .func (PySem.W.fnOf "with_state" "Contract.with_state" (defArgs s_Contract_with_state) (defBody s_Contract_with_state) (defScope s_Contract_with_state) .none kVm24_4 dcm24_4 pmm24_4 anm24_4 cdm24_4 ctm24_4), slm24_4⟩) (cm24_4 : PySem.W.codeIn K cdm24_4 "Contract.with_state" = true) (km24_4 : PySem.W.keepIn K (.ref fm24_4) = true)
    {tc18 : Tok} (vc18 : PySem.W.nsIn K mainGlobals "MOST_LETTERS" = some (some (.int 3 tc18)))
    {tc19 : Tok} (vc19 : PySem.W.nsIn K mainGlobals "LEAST_ANSWERS" = some (some (.int 2 tc19)))
    {tc20 : Tok} (vc20 : PySem.W.nsIn K mainGlobals "MOST_ANSWERS" = some (some (.int 4 tc20)))
    {tc23 : Tok} (vc23 : PySem.W.nsIn K mainGlobals "MOST_STATES" = some (some (.int 8 tc23)))
    (z0 : PySem.W.nsIn K mainGlobals "ValueError" = some none) (z1 : PySem.W.nsIn K mainGlobals "all" = some none) (z2 : PySem.W.nsIn K mainGlobals "any" = some none) (z3 : PySem.W.nsIn K mainGlobals "bool" = some none) (z4 : PySem.W.nsIn K mainGlobals "int" = some none) (z5 : PySem.W.nsIn K mainGlobals "isinstance" = some none) (z6 : PySem.W.nsIn K mainGlobals "len" = some none) (z7 : PySem.W.nsIn K mainGlobals "list" = some none) (z8 : PySem.W.nsIn K mainGlobals "range" = some none) (z9 : PySem.W.nsIn K mainGlobals "sorted" = some none) (z10 : PySem.W.nsIn K mainGlobals "str" = some none) (z11 : PySem.W.nsIn K mainGlobals "super" = some none) (z12 : PySem.W.nsIn K mainGlobals "tuple" = some none)
    (g1 : PySem.W.nsIn K mainGlobals "MendError" = some (some (.ref C1)))
    (g2 : PySem.W.nsIn K mainGlobals "InvalidInput" = some (some (.ref C2)))
    (g3 : PySem.W.nsIn K mainGlobals "InvalidText" = some (some (.ref C3)))
    (g4 : PySem.W.nsIn K mainGlobals "InvalidProgram" = some (some (.ref C4)))
    (g5 : PySem.W.nsIn K mainGlobals "InvalidContract" = some (some (.ref C5)))
    (g6 : PySem.W.nsIn K mainGlobals "InvalidChange" = some (some (.ref C6)))
    (g7 : PySem.W.nsIn K mainGlobals "InvalidStream" = some (some (.ref C7)))
    (g8 : PySem.W.nsIn K mainGlobals "InvalidPlaces" = some (some (.ref C8)))
    (g9 : PySem.W.nsIn K mainGlobals "InvalidEdit" = some (some (.ref C9)))
    (g10 : PySem.W.nsIn K mainGlobals "InvalidLine" = some (some (.ref C10)))
    (g11 : PySem.W.nsIn K mainGlobals "InvalidName" = some (some (.ref C11)))
    (g12 : PySem.W.nsIn K mainGlobals "Mismatch" = some (some (.ref C12)))
    (g13 : PySem.W.nsIn K mainGlobals "BoundError" = some (some (.ref C13)))
    (g14 : PySem.W.nsIn K mainGlobals "DeskError" = some (some (.ref C14)))
    (eB : errsB K (clsAt [(1, C1), (2, C2), (3, C3), (4, C4), (5, C5), (6, C6), (7, C7), (8, C8), (9, C9), (10, C10), (11, C11), (12, C12), (13, C13), (14, C14), (24, C24)]) errIds errUp = true) (opq : PySem.W.nsIn K cStatics "thirdparty.any" = some none) (tp : (l.prog.main.scope.names.lookup ("super" : Str)).isSome = false)
    (eB2 : errsB2 K (clsAt [(1, C1), (2, C2), (3, C3), (4, C4), (5, C5), (6, C6), (7, C7), (8, C8), (9, C9), (10, C10), (11, C11), (12, C12), (13, C13), (14, C14), (24, C24)]) id_MendError errIds = true)
    (xC1 : PySem.W.excIn K C1 [.type "ValueError", .type "Exception", .type "BaseException", .type "object"] "ValueError.__new__" = true)
    (xC2 : PySem.W.excIn K C2 [.type "ValueError", .type "Exception", .type "BaseException", .type "object"] "ValueError.__new__" = true)
    {nm3 q3 qu3 fl3 : Str} {N3 I3 cc3 cda3 : Addr} {bs3 bm3 sub3 : List Value} {sn3 : List Str} {ab3 : Bool} {col3 : Option Bool} {dd3 od1_3 od2_3 od3_3 an_3 : Option Addr} {k0_3 k1_3 k2_3 k3_3 k5_3 : Option Value} {oc1_3 oc2_3 oc3_3 kW3 doc3 pmm3 ctt3 : Value} {sl1_3 sl2_3 sl3_3 : Array (Option Value)} {vs3 : Array Value} {tf3 : Tok}
    (oC3 : K.lookup C3 = some (excClassObj nm3 q3 C3 N3 bs3 bm3 true sn3 sub3 ab3 col3 dd3 k0_3 k1_3 k2_3 k3_3 k5_3 "ValueError.__new__")) (rv3 : PySem.HandSPX.refsVE bm3 = true) (ib3 : initB' K C3 "position" = true)
    (iC3 : PySem.W.findIn K (.ref C3) "__init__" = some (some (.ref I3))) (tI3 : PySem.W.typeIn K (.ref I3) = some (.type "function"))
    (lI3 : K.lookup I3 = some ⟨oc1_3, od1_3, .func (PySem.W.fnX "__init__" qu3 (defArgs (inClass (topS 3) 0)) (defBody (inClass (topS 3) 0)) (initSc "position") [("__class__", cc3)] .none kW3 doc3 pmm3 an_3 (.ref cda3) ctt3), sl1_3⟩) (cI3 : PySem.W.codeIn K (.ref cda3) qu3 = true)
    (lD3 : K.lookup cda3 = some ⟨oc2_3, od2_3, .fields vs3, sl2_3⟩) (vD3 : vs3[2]? = some (.str fl3 tf3)) (fD3 : (l.prog.main.file == fl3) = true) (lc3 : K.lookup cc3 = some ⟨oc3_3, od3_3, .cell (some (.ref C3)), sl3_3⟩)
    {nm4 q4 qu4 fl4 : Str} {N4 I4 cc4 cda4 : Addr} {bs4 bm4 sub4 : List Value} {sn4 : List Str} {ab4 : Bool} {col4 : Option Bool} {dd4 od1_4 od2_4 od3_4 an_4 : Option Addr} {k0_4 k1_4 k2_4 k3_4 k5_4 : Option Value} {oc1_4 oc2_4 oc3_4 kW4 doc4 pmm4 ctt4 : Value} {sl1_4 sl2_4 sl3_4 : Array (Option Value)} {vs4 : Array Value} {tf4 : Tok}
    (oC4 : K.lookup C4 = some (excClassObj nm4 q4 C4 N4 bs4 bm4 true sn4 sub4 ab4 col4 dd4 k0_4 k1_4 k2_4 k3_4 k5_4 "ValueError.__new__")) (rv4 : PySem.HandSPX.refsVE bm4 = true) (ib4 : initB' K C4 "reason" = true)
    (iC4 : PySem.W.findIn K (.ref C4) "__init__" = some (some (.ref I4))) (tI4 : PySem.W.typeIn K (.ref I4) = some (.type "function"))
    (lI4 : K.lookup I4 = some ⟨oc1_4, od1_4, .func (PySem.W.fnX "__init__" qu4 (defArgs (inClass (topS 4) 0)) (defBody (inClass (topS 4) 0)) (initSc "reason") [("__class__", cc4)] .none kW4 doc4 pmm4 an_4 (.ref cda4) ctt4), sl1_4⟩) (cI4 : PySem.W.codeIn K (.ref cda4) qu4 = true)
    (lD4 : K.lookup cda4 = some ⟨oc2_4, od2_4, .fields vs4, sl2_4⟩) (vD4 : vs4[2]? = some (.str fl4 tf4)) (fD4 : (l.prog.main.file == fl4) = true) (lc4 : K.lookup cc4 = some ⟨oc3_4, od3_4, .cell (some (.ref C4)), sl3_4⟩)
    {nm5 q5 qu5 fl5 : Str} {N5 I5 cc5 cda5 : Addr} {bs5 bm5 sub5 : List Value} {sn5 : List Str} {ab5 : Bool} {col5 : Option Bool} {dd5 od1_5 od2_5 od3_5 an_5 : Option Addr} {k0_5 k1_5 k2_5 k3_5 k5_5 : Option Value} {oc1_5 oc2_5 oc3_5 kW5 doc5 pmm5 ctt5 : Value} {sl1_5 sl2_5 sl3_5 : Array (Option Value)} {vs5 : Array Value} {tf5 : Tok}
    (oC5 : K.lookup C5 = some (excClassObj nm5 q5 C5 N5 bs5 bm5 true sn5 sub5 ab5 col5 dd5 k0_5 k1_5 k2_5 k3_5 k5_5 "ValueError.__new__")) (rv5 : PySem.HandSPX.refsVE bm5 = true) (ib5 : initB' K C5 "reason" = true)
    (iC5 : PySem.W.findIn K (.ref C5) "__init__" = some (some (.ref I5))) (tI5 : PySem.W.typeIn K (.ref I5) = some (.type "function"))
    (lI5 : K.lookup I5 = some ⟨oc1_5, od1_5, .func (PySem.W.fnX "__init__" qu5 (defArgs (inClass (topS 5) 0)) (defBody (inClass (topS 5) 0)) (initSc "reason") [("__class__", cc5)] .none kW5 doc5 pmm5 an_5 (.ref cda5) ctt5), sl1_5⟩) (cI5 : PySem.W.codeIn K (.ref cda5) qu5 = true)
    (lD5 : K.lookup cda5 = some ⟨oc2_5, od2_5, .fields vs5, sl2_5⟩) (vD5 : vs5[2]? = some (.str fl5 tf5)) (fD5 : (l.prog.main.file == fl5) = true) (lc5 : K.lookup cc5 = some ⟨oc3_5, od3_5, .cell (some (.ref C5)), sl3_5⟩)
    (xC6 : PySem.W.excIn K C6 [.type "ValueError", .type "Exception", .type "BaseException", .type "object"] "ValueError.__new__" = true)
    (xC7 : PySem.W.excIn K C7 [.type "ValueError", .type "Exception", .type "BaseException", .type "object"] "ValueError.__new__" = true)
    {nm8 q8 qu8 fl8 : Str} {N8 I8 cc8 cda8 : Addr} {bs8 bm8 sub8 : List Value} {sn8 : List Str} {ab8 : Bool} {col8 : Option Bool} {dd8 od1_8 od2_8 od3_8 an_8 : Option Addr} {k0_8 k1_8 k2_8 k3_8 k5_8 : Option Value} {oc1_8 oc2_8 oc3_8 kW8 doc8 pmm8 ctt8 : Value} {sl1_8 sl2_8 sl3_8 : Array (Option Value)} {vs8 : Array Value} {tf8 : Tok}
    (oC8 : K.lookup C8 = some (excClassObj nm8 q8 C8 N8 bs8 bm8 true sn8 sub8 ab8 col8 dd8 k0_8 k1_8 k2_8 k3_8 k5_8 "ValueError.__new__")) (rv8 : PySem.HandSPX.refsVE bm8 = true) (ib8 : initB' K C8 "place" = true)
    (iC8 : PySem.W.findIn K (.ref C8) "__init__" = some (some (.ref I8))) (tI8 : PySem.W.typeIn K (.ref I8) = some (.type "function"))
    (lI8 : K.lookup I8 = some ⟨oc1_8, od1_8, .func (PySem.W.fnX "__init__" qu8 (defArgs (inClass (topS 8) 0)) (defBody (inClass (topS 8) 0)) (initSc "place") [("__class__", cc8)] .none kW8 doc8 pmm8 an_8 (.ref cda8) ctt8), sl1_8⟩) (cI8 : PySem.W.codeIn K (.ref cda8) qu8 = true)
    (lD8 : K.lookup cda8 = some ⟨oc2_8, od2_8, .fields vs8, sl2_8⟩) (vD8 : vs8[2]? = some (.str fl8 tf8)) (fD8 : (l.prog.main.file == fl8) = true) (lc8 : K.lookup cc8 = some ⟨oc3_8, od3_8, .cell (some (.ref C8)), sl3_8⟩)
    {nm9 q9 qu9 fl9 : Str} {N9 I9 cc9 cda9 : Addr} {bs9 bm9 sub9 : List Value} {sn9 : List Str} {ab9 : Bool} {col9 : Option Bool} {dd9 od1_9 od2_9 od3_9 an_9 : Option Addr} {k0_9 k1_9 k2_9 k3_9 k5_9 : Option Value} {oc1_9 oc2_9 oc3_9 kW9 doc9 pmm9 ctt9 : Value} {sl1_9 sl2_9 sl3_9 : Array (Option Value)} {vs9 : Array Value} {tf9 : Tok}
    (oC9 : K.lookup C9 = some (excClassObj nm9 q9 C9 N9 bs9 bm9 true sn9 sub9 ab9 col9 dd9 k0_9 k1_9 k2_9 k3_9 k5_9 "ValueError.__new__")) (rv9 : PySem.HandSPX.refsVE bm9 = true) (ib9 : initB' K C9 "place" = true)
    (iC9 : PySem.W.findIn K (.ref C9) "__init__" = some (some (.ref I9))) (tI9 : PySem.W.typeIn K (.ref I9) = some (.type "function"))
    (lI9 : K.lookup I9 = some ⟨oc1_9, od1_9, .func (PySem.W.fnX "__init__" qu9 (defArgs (inClass (topS 9) 0)) (defBody (inClass (topS 9) 0)) (initSc "place") [("__class__", cc9)] .none kW9 doc9 pmm9 an_9 (.ref cda9) ctt9), sl1_9⟩) (cI9 : PySem.W.codeIn K (.ref cda9) qu9 = true)
    (lD9 : K.lookup cda9 = some ⟨oc2_9, od2_9, .fields vs9, sl2_9⟩) (vD9 : vs9[2]? = some (.str fl9 tf9)) (fD9 : (l.prog.main.file == fl9) = true) (lc9 : K.lookup cc9 = some ⟨oc3_9, od3_9, .cell (some (.ref C9)), sl3_9⟩)
    {nm10 q10 qu10 fl10 : Str} {N10 I10 cc10 cda10 : Addr} {bs10 bm10 sub10 : List Value} {sn10 : List Str} {ab10 : Bool} {col10 : Option Bool} {dd10 od1_10 od2_10 od3_10 an_10 : Option Addr} {k0_10 k1_10 k2_10 k3_10 k5_10 : Option Value} {oc1_10 oc2_10 oc3_10 kW10 doc10 pmm10 ctt10 : Value} {sl1_10 sl2_10 sl3_10 : Array (Option Value)} {vs10 : Array Value} {tf10 : Tok}
    (oC10 : K.lookup C10 = some (excClassObj nm10 q10 C10 N10 bs10 bm10 true sn10 sub10 ab10 col10 dd10 k0_10 k1_10 k2_10 k3_10 k5_10 "ValueError.__new__")) (rv10 : PySem.HandSPX.refsVE bm10 = true) (ib10 : initB' K C10 "number" = true)
    (iC10 : PySem.W.findIn K (.ref C10) "__init__" = some (some (.ref I10))) (tI10 : PySem.W.typeIn K (.ref I10) = some (.type "function"))
    (lI10 : K.lookup I10 = some ⟨oc1_10, od1_10, .func (PySem.W.fnX "__init__" qu10 (defArgs (inClass (topS 10) 0)) (defBody (inClass (topS 10) 0)) (initSc "number") [("__class__", cc10)] .none kW10 doc10 pmm10 an_10 (.ref cda10) ctt10), sl1_10⟩) (cI10 : PySem.W.codeIn K (.ref cda10) qu10 = true)
    (lD10 : K.lookup cda10 = some ⟨oc2_10, od2_10, .fields vs10, sl2_10⟩) (vD10 : vs10[2]? = some (.str fl10 tf10)) (fD10 : (l.prog.main.file == fl10) = true) (lc10 : K.lookup cc10 = some ⟨oc3_10, od3_10, .cell (some (.ref C10)), sl3_10⟩)
    {nm11 q11 qu11 fl11 : Str} {N11 I11 cc11 cda11 : Addr} {bs11 bm11 sub11 : List Value} {sn11 : List Str} {ab11 : Bool} {col11 : Option Bool} {dd11 od1_11 od2_11 od3_11 an_11 : Option Addr} {k0_11 k1_11 k2_11 k3_11 k5_11 : Option Value} {oc1_11 oc2_11 oc3_11 kW11 doc11 pmm11 ctt11 : Value} {sl1_11 sl2_11 sl3_11 : Array (Option Value)} {vs11 : Array Value} {tf11 : Tok}
    (oC11 : K.lookup C11 = some (excClassObj nm11 q11 C11 N11 bs11 bm11 true sn11 sub11 ab11 col11 dd11 k0_11 k1_11 k2_11 k3_11 k5_11 "ValueError.__new__")) (rv11 : PySem.HandSPX.refsVE bm11 = true) (ib11 : initB' K C11 "name" = true)
    (iC11 : PySem.W.findIn K (.ref C11) "__init__" = some (some (.ref I11))) (tI11 : PySem.W.typeIn K (.ref I11) = some (.type "function"))
    (lI11 : K.lookup I11 = some ⟨oc1_11, od1_11, .func (PySem.W.fnX "__init__" qu11 (defArgs (inClass (topS 11) 0)) (defBody (inClass (topS 11) 0)) (initSc "name") [("__class__", cc11)] .none kW11 doc11 pmm11 an_11 (.ref cda11) ctt11), sl1_11⟩) (cI11 : PySem.W.codeIn K (.ref cda11) qu11 = true)
    (lD11 : K.lookup cda11 = some ⟨oc2_11, od2_11, .fields vs11, sl2_11⟩) (vD11 : vs11[2]? = some (.str fl11 tf11)) (fD11 : (l.prog.main.file == fl11) = true) (lc11 : K.lookup cc11 = some ⟨oc3_11, od3_11, .cell (some (.ref C11)), sl3_11⟩)
    (xC12 : PySem.W.excIn K C12 [.type "ValueError", .type "Exception", .type "BaseException", .type "object"] "ValueError.__new__" = true)
    (xC13 : PySem.W.excIn K C13 [.type "ValueError", .type "Exception", .type "BaseException", .type "object"] "ValueError.__new__" = true)
    (xC14 : PySem.W.excIn K C14 [.type "ValueError", .type "Exception", .type "BaseException", .type "object"] "ValueError.__new__" = true)
    :
    ∃ fd : FuncData, (∀ (s : Shared) (v : Value), BindsTo s fd ⟨[v], []⟩ [("script", v)]) ∧ ∀ base : Heap, K.In base → base.Ns mainGlobals mg → FnOk l.prog w K mg base CX0 12 fa fd ["script"] (sp_law K) := by
  have e := hfa.symm.trans (PySem.W.mg_of X G a21)
  cases e
  have F0 := fun_mk (st := s_frozen) l0 c0 k0
  have F1 := fun_mk (st := s_letters_reason) l1 c1 k1
  have F2 := fun_mk (st := s_with_item) l2 c2 k2
  have F3 := fun_mk (st := s_first_reason) l3 c3 k3
  have F4 := fun_mk (st := s_states_reason) l4 c4 k4
  have F5 := fun_mk (st := s__law_cell) l5 c5 k5
  have F6 := fun_mk (st := s__law_reader) l6 c6 k6
  have F7 := fun_mk (st := s__law_next) l7 c7 k7
  have F8 := fun_mk (st := s__law_same) l8 c8 k8
  have F9 := fun_mk (st := s__law_put) l9 c9 k9
  have F10 := fun_mk (st := s__law_target) l10 c10 k10
  have F11 := fun_mk (st := s__law_states) l11 c11 k11
  have F12 := fun_mk (st := s__law_events) l12 c12 k12
  have F13 := fun_mk (st := s__law_follow) l13 c13 k13
  have F14 := fun_mk (st := s__law_right) l14 c14 k14
  have F15 := fun_mk (st := s__law_turned_row) l15 c15 k15
  have F16 := fun_mk (st := s__law_reason) l16 c16 k16
  have F17 := fun_mk (st := s__law_faulty) l17 c17 k17
  have F18 := fun_mk (st := s__law_told) l18 c18 k18
  have F19 := fun_mk (st := s__law_flagged) l19 c19 k19
  have F20 := fun_mk (st := s__law_walked) l20 c20 k20
  have F21 := fun_mk (st := s_law) l21 c21 k21
  have Fm24_0 := fun_mk (st := s_Contract_init) lm24_0 cm24_0 km24_0
  have Fm24_1 := fun_mk (st := s_Contract_follow) lm24_1 cm24_1 km24_1
  have Fm24_2 := fun_mk (st := s_Contract_with_row) lm24_2 cm24_2 km24_2
  have Fm24_3 := fun_mk (st := s_Contract_with_flags) lm24_3 cm24_3 km24_3
  have Fm24_4 := fun_mk (st := s_Contract_with_state) lm24_4 cm24_4 km24_4
  obtain ⟨e1, e2, e3, e4⟩ := errsB_ok eB
  obtain ⟨e5, e6⟩ := errsB2_ok eB2
  have ix3 := initB_ok ib3
  have ox3 : OexC K C3 := ⟨⟨nm3, q3, N3, bs3, bm3, sn3, sub3, ab3, col3, dd3, k0_3, k1_3, k2_3, k3_3, k5_3, oC3, rv3⟩, ix3.2.2.2.2.1, ix3.2.2.2.2.2.1, ix3.2.2.2.2.2.2, e1 3 (by decide)⟩
  have ix4 := initB_ok ib4
  have ox4 : OexC K C4 := ⟨⟨nm4, q4, N4, bs4, bm4, sn4, sub4, ab4, col4, dd4, k0_4, k1_4, k2_4, k3_4, k5_4, oC4, rv4⟩, ix4.2.2.2.2.1, ix4.2.2.2.2.2.1, ix4.2.2.2.2.2.2, e1 4 (by decide)⟩
  have ix5 := initB_ok ib5
  have ox5 : OexC K C5 := ⟨⟨nm5, q5, N5, bs5, bm5, sn5, sub5, ab5, col5, dd5, k0_5, k1_5, k2_5, k3_5, k5_5, oC5, rv5⟩, ix5.2.2.2.2.1, ix5.2.2.2.2.2.1, ix5.2.2.2.2.2.2, e1 5 (by decide)⟩
  have ix8 := initB_ok ib8
  have ox8 : OexC K C8 := ⟨⟨nm8, q8, N8, bs8, bm8, sn8, sub8, ab8, col8, dd8, k0_8, k1_8, k2_8, k3_8, k5_8, oC8, rv8⟩, ix8.2.2.2.2.1, ix8.2.2.2.2.2.1, ix8.2.2.2.2.2.2, e1 8 (by decide)⟩
  have ix9 := initB_ok ib9
  have ox9 : OexC K C9 := ⟨⟨nm9, q9, N9, bs9, bm9, sn9, sub9, ab9, col9, dd9, k0_9, k1_9, k2_9, k3_9, k5_9, oC9, rv9⟩, ix9.2.2.2.2.1, ix9.2.2.2.2.2.1, ix9.2.2.2.2.2.2, e1 9 (by decide)⟩
  have ix10 := initB_ok ib10
  have ox10 : OexC K C10 := ⟨⟨nm10, q10, N10, bs10, bm10, sn10, sub10, ab10, col10, dd10, k0_10, k1_10, k2_10, k3_10, k5_10, oC10, rv10⟩, ix10.2.2.2.2.1, ix10.2.2.2.2.2.1, ix10.2.2.2.2.2.2, e1 10 (by decide)⟩
  have ix11 := initB_ok ib11
  have ox11 : OexC K C11 := ⟨⟨nm11, q11, N11, bs11, bm11, sn11, sub11, ab11, col11, dd11, k0_11, k1_11, k2_11, k3_11, k5_11, oC11, rv11⟩, ix11.2.2.2.2.1, ix11.2.2.2.2.2.1, ix11.2.2.2.2.2.2, e1 11 (by decide)⟩
  have T : Txt l.prog K mg (clsAt [(1, C1), (2, C2), (3, C3), (4, C4), (5, C5), (6, C6), (7, C7), (8, C8), (9, C9), (10, C10), (11, C11), (12, C12), (13, C13), (14, C14), (24, C24)]) := ⟨PySem.W.mg_none_of X G z0,
    PySem.W.mg_none_of X G z1,
    PySem.W.mg_none_of X G z2,
    PySem.W.mg_none_of X G z3,
    PySem.W.mg_none_of X G z4,
    PySem.W.mg_none_of X G z5,
    PySem.W.mg_none_of X G z6,
    PySem.W.mg_none_of X G z7,
    PySem.W.mg_none_of X G z8,
    PySem.W.mg_none_of X G z9,
    PySem.W.mg_none_of X G z10,
    PySem.W.mg_none_of X G z11,
    PySem.W.mg_none_of X G z12,
    ⟨⟨_, _, F0, PySem.W.mg_of X G a0, F0.binds (ps := ["value"]) fun _ _ _ _ _ _ us hl => match us, hl with | [_], _ => rfl⟩⟩,
    ⟨⟨_, _, F1, PySem.W.mg_of X G a1, F1.binds (ps := ["letters", "answers"]) fun _ _ _ _ _ _ us hl => match us, hl with | [_, _], _ => rfl⟩⟩,
    ⟨⟨_, _, F2, PySem.W.mg_of X G a2, F2.binds (ps := ["items", "index", "item"]) fun _ _ _ _ _ _ us hl => match us, hl with | [_, _, _], _ => rfl⟩⟩,
    ⟨⟨_, _, F3, PySem.W.mg_of X G a3, F3.binds (ps := ["letters", "answers", "states"]) fun _ _ _ _ _ _ us hl => match us, hl with | [_, _, _], _ => rfl⟩⟩,
    ⟨⟨_, _, F4, PySem.W.mg_of X G a4, F4.binds (ps := ["letters", "answers", "states"]) fun _ _ _ _ _ _ us hl => match us, hl with | [_, _, _], _ => rfl⟩⟩,
    ⟨⟨_, _, F5, PySem.W.mg_of X G a5, F5.binds (ps := ["script", "k"]) fun _ _ _ _ _ _ us hl => match us, hl with | [_, _], _ => rfl⟩⟩,
    ⟨⟨_, _, F6, PySem.W.mg_of X G a6, F6.binds (ps := ["cell"]) fun _ _ _ _ _ _ us hl => match us, hl with | [_], _ => rfl⟩⟩,
    ⟨⟨_, _, F7, PySem.W.mg_of X G a7, F7.binds (ps := ["reader", "size"]) fun _ _ _ _ _ _ us hl => match us, hl with | [_, _], _ => rfl⟩⟩,
    ⟨⟨_, _, F8, PySem.W.mg_of X G a8, F8.binds (ps := ["told", "due"]) fun _ _ _ _ _ _ us hl => match us, hl with | [_, _], _ => rfl⟩⟩,
    ⟨⟨_, _, F9, PySem.W.mg_of X G a9, F9.binds (ps := ["row", "k", "part"]) fun _ _ _ _ _ _ us hl => match us, hl with | [_, _, _], _ => rfl⟩⟩,
    ⟨⟨_, _, F10, PySem.W.mg_of X G a10, F10.binds (ps := ["reader", "many"]) fun _ _ _ _ _ _ us hl => match us, hl with | [_, _], _ => rfl⟩⟩,
    ⟨⟨_, _, F11, PySem.W.mg_of X G a11, F11.binds (ps := ["reader", "letters", "answers", "many"]) fun _ _ _ _ _ _ us hl => match us, hl with | [_, _, _, _], _ => rfl⟩⟩,
    ⟨⟨_, _, F12, PySem.W.mg_of X G a12, F12.binds (ps := ["letters", "answers"]) fun _ _ _ _ _ _ us hl => match us, hl with | [_, _], _ => rfl⟩⟩,
    ⟨⟨_, _, F13, PySem.W.mg_of X G a13, F13.binds (ps := ["states", "state", "event"]) fun _ _ _ _ _ _ us hl => match us, hl with | [_, _, _], _ => rfl⟩⟩,
    ⟨⟨_, _, F14, PySem.W.mg_of X G a14, F14.binds (ps := ["contract", "parts"]) fun _ _ _ _ _ _ us hl => match us, hl with | [_, _], _ => rfl⟩⟩,
    ⟨⟨_, _, F15, PySem.W.mg_of X G a15, F15.binds (ps := ["states", "state", "event", "target"]) fun _ _ _ _ _ _ us hl => match us, hl with | [_, _, _, _], _ => rfl⟩⟩,
    ⟨⟨_, _, F16, PySem.W.mg_of X G a16, F16.binds (ps := ["letters", "answers", "states"]) fun _ _ _ _ _ _ us hl => match us, hl with | [_, _, _], _ => rfl⟩⟩,
    ⟨⟨_, _, F17, PySem.W.mg_of X G a17, F17.binds (ps := ["reader", "parts", "fault"]) fun _ _ _ _ _ _ us hl => match us, hl with | [_, _, _], _ => rfl⟩⟩,
    ⟨⟨_, _, F18, PySem.W.mg_of X G a18, F18.binds (ps := ["contract", "deed"]) fun _ _ _ _ _ _ us hl => match us, hl with | [_, _], _ => rfl⟩⟩,
    ⟨⟨_, _, F19, PySem.W.mg_of X G a19, F19.binds (ps := ["contract", "state", "flags", "form"]) fun _ _ _ _ _ _ us hl => match us, hl with | [_, _, _, _], _ => rfl⟩⟩,
    ⟨⟨_, _, F20, PySem.W.mg_of X G a20, F20.binds (ps := ["reader", "contract", "parts"]) fun _ _ _ _ _ _ us hl => match us, hl with | [_, _, _], _ => rfl⟩⟩,
    ⟨⟨_, _, F21, PySem.W.mg_of X G a21, F21.binds (ps := ["script"]) fun _ _ _ _ _ _ us hl => match us, hl with | [_], _ => rfl⟩⟩,
    PySem.W.mg_of X G g24,
    ⟨pg24, hd24, po24, sa24⟩,
    ⟨⟨pg24, hd24, po24, sa24⟩, ha24, hn24, ht24, hm24, me24⟩,
    n24_letters,
    n24_answers,
    n24_states,
    ⟨_, _, Fm24_0, ⟨mk24, am24_0, im24_0, kc24⟩, Fm24_0.binds (ps := ["self", "letters", "answers", "states"]) fun _ _ _ _ _ _ us hl => match us, hl with | [_, _, _, _], _ => rfl⟩,
    ⟨_, _, Fm24_1, ⟨am24_1, im24_1, km24_1⟩, Fm24_1.binds (ps := ["self", "state", "event"]) fun _ _ _ _ _ _ us hl => match us, hl with | [_, _, _], _ => rfl⟩,
    ⟨_, _, Fm24_2, ⟨am24_2, im24_2, km24_2⟩, Fm24_2.binds (ps := ["self", "state", "event", "target"]) fun _ _ _ _ _ _ us hl => match us, hl with | [_, _, _, _], _ => rfl⟩,
    ⟨_, _, Fm24_3, ⟨am24_3, im24_3, km24_3⟩, kwf_flags lm24_3 cm24_3 km24_3 kf24_3 ks24_3⟩,
    ⟨_, _, Fm24_4, ⟨am24_4, im24_4, km24_4⟩, Fm24_4.binds (ps := ["self", "state", "row"]) fun _ _ _ _ _ _ us hl => match us, hl with | [_, _, _], _ => rfl⟩,
    ⟨tc18, PySem.W.mg_of X G vc18⟩,
    ⟨tc19, PySem.W.mg_of X G vc19⟩,
    ⟨tc20, PySem.W.mg_of X G vc20⟩,
    ⟨tc23, PySem.W.mg_of X G vc23⟩,
    PySem.W.mg_of X G g1,
    PySem.W.mg_of X G g2,
    PySem.W.mg_of X G g3,
    PySem.W.mg_of X G g4,
    PySem.W.mg_of X G g5,
    PySem.W.mg_of X G g6,
    PySem.W.mg_of X G g7,
    PySem.W.mg_of X G g8,
    PySem.W.mg_of X G g9,
    PySem.W.mg_of X G g10,
    PySem.W.mg_of X G g11,
    PySem.W.mg_of X G g12,
    PySem.W.mg_of X G g13,
    PySem.W.mg_of X G g14,
    e1,
    e2,
    e3,
    e4,
    e5,
    e6,
    xC1,
    xC2,
    ox3,
    ⟨I3, cc3, cda3, _, qu3, ⟨⟨_, _, _, _, _, _, _, _, _, rfl, lI3⟩, cI3, ⟨_, _, _, _, _, _, lD3, vD3, fD3⟩, ⟨_, _, _, lc3⟩, ox3, ix3.1, ix3.2.1, ix3.2.2.1, opq, ix3.2.2.2.1, PySem.W.mg_none_of X G z11, rfl, tp⟩, iC3, tI3, .all fun us hl => match us, hl with | [_, _], _ => rfl⟩,
    ix3.2.2.2.1,
    ox4,
    ⟨I4, cc4, cda4, _, qu4, ⟨⟨_, _, _, _, _, _, _, _, _, rfl, lI4⟩, cI4, ⟨_, _, _, _, _, _, lD4, vD4, fD4⟩, ⟨_, _, _, lc4⟩, ox4, ix4.1, ix4.2.1, ix4.2.2.1, opq, ix4.2.2.2.1, PySem.W.mg_none_of X G z11, rfl, tp⟩, iC4, tI4, .all fun us hl => match us, hl with | [_, _], _ => rfl⟩,
    ix4.2.2.2.1,
    ox5,
    ⟨I5, cc5, cda5, _, qu5, ⟨⟨_, _, _, _, _, _, _, _, _, rfl, lI5⟩, cI5, ⟨_, _, _, _, _, _, lD5, vD5, fD5⟩, ⟨_, _, _, lc5⟩, ox5, ix5.1, ix5.2.1, ix5.2.2.1, opq, ix5.2.2.2.1, PySem.W.mg_none_of X G z11, rfl, tp⟩, iC5, tI5, .all fun us hl => match us, hl with | [_, _], _ => rfl⟩,
    ix5.2.2.2.1,
    xC6,
    xC7,
    ox8,
    ⟨I8, cc8, cda8, _, qu8, ⟨⟨_, _, _, _, _, _, _, _, _, rfl, lI8⟩, cI8, ⟨_, _, _, _, _, _, lD8, vD8, fD8⟩, ⟨_, _, _, lc8⟩, ox8, ix8.1, ix8.2.1, ix8.2.2.1, opq, ix8.2.2.2.1, PySem.W.mg_none_of X G z11, rfl, tp⟩, iC8, tI8, .all fun us hl => match us, hl with | [_, _], _ => rfl⟩,
    ix8.2.2.2.1,
    ox9,
    ⟨I9, cc9, cda9, _, qu9, ⟨⟨_, _, _, _, _, _, _, _, _, rfl, lI9⟩, cI9, ⟨_, _, _, _, _, _, lD9, vD9, fD9⟩, ⟨_, _, _, lc9⟩, ox9, ix9.1, ix9.2.1, ix9.2.2.1, opq, ix9.2.2.2.1, PySem.W.mg_none_of X G z11, rfl, tp⟩, iC9, tI9, .all fun us hl => match us, hl with | [_, _], _ => rfl⟩,
    ix9.2.2.2.1,
    ox10,
    ⟨I10, cc10, cda10, _, qu10, ⟨⟨_, _, _, _, _, _, _, _, _, rfl, lI10⟩, cI10, ⟨_, _, _, _, _, _, lD10, vD10, fD10⟩, ⟨_, _, _, lc10⟩, ox10, ix10.1, ix10.2.1, ix10.2.2.1, opq, ix10.2.2.2.1, PySem.W.mg_none_of X G z11, rfl, tp⟩, iC10, tI10, .all fun us hl => match us, hl with | [_, _], _ => rfl⟩,
    ix10.2.2.2.1,
    ox11,
    ⟨I11, cc11, cda11, _, qu11, ⟨⟨_, _, _, _, _, _, _, _, _, rfl, lI11⟩, cI11, ⟨_, _, _, _, _, _, lD11, vD11, fD11⟩, ⟨_, _, _, lc11⟩, ox11, ix11.1, ix11.2.1, ix11.2.2.1, opq, ix11.2.2.2.1, PySem.W.mg_none_of X G z11, rfl, tp⟩, iC11, tI11, .all fun us hl => match us, hl with | [_, _], _ => rfl⟩,
    ix11.2.2.2.1,
    xC12,
    xC13,
    xC14⟩
  refine ⟨PySem.W.fnOf "law" "law" (defArgs s_law) (defBody s_law) (defScope s_law) .none kV21 dc21 pm21 an21 cd21 ct21, fun s v => .of_eq rfl, fun base _ _ => ?_⟩
  exact ok_law (P := l.prog) (w := w) (base := base) T F21
end Pf
open PySem PySem.W PyProof.Rows
set_option maxRecDepth 100000 in
set_option maxHeartbeats 0 in
theorem PySem.Challenge.cw_allmends_k11_contract_rows_holds : PySem.Challenge.rw_allmends_k11_contract_rows.Holds := by
  w_on; o_law; k_head; (case hw => w_witness2)
  k_fill
  refine L2.walk_of (l := PySem.Challenge.rw_allmends_k11_contract_rows) (n := 63) (k := 12) (x := "script") (CX := fun _ => L2.CX0) (sp := fun w => Pf.sp_law _) rfl (by decide) rfl ⟨rfl, by decide, by decide⟩ (fun w h Y => PySem.W.kIn_of Y) ?F (fun _ _ a ns hl _ hS => ⟨a, ns, rfl, hS, hl, fun _ => rfl⟩) (fun _ _ _ _ _ h => h)
  case F =>
    intro w mg fa h KX G hmg
    refine' Pf.all_mk KX G hmg ?a0 ?l0 ?c0 ?k0 ?a1 ?l1 ?c1 ?k1 ?a2 ?l2 ?c2 ?k2 ?a3 ?l3 ?c3 ?k3 ?a4 ?l4 ?c4 ?k4 ?a5 ?l5 ?c5 ?k5 ?a6 ?l6 ?c6 ?k6 ?a7 ?l7 ?c7 ?k7 ?a8 ?l8 ?c8 ?k8 ?a9 ?l9 ?c9 ?k9 ?a10 ?l10 ?c10 ?k10 ?a11 ?l11 ?c11 ?k11 ?a12 ?l12 ?c12 ?k12 ?a13 ?l13 ?c13 ?k13 ?a14 ?l14 ?c14 ?k14 ?a15 ?l15 ?c15 ?k15 ?a16 ?l16 ?c16 ?k16 ?a17 ?l17 ?c17 ?k17 ?a18 ?l18 ?c18 ?k18 ?a19 ?l19 ?c19 ?k19 ?a20 ?l20 ?c20 ?k20 ?a21 ?l21 ?c21 ?k21 ?g24 ?pg24 ?hd24 ?po24 ?sa24 ?mk24 ?kc24 ?ha24 ?hn24 ?ht24 ?hm24 ?me24 ?n24_letters ?n24_answers ?n24_states ?am24_0 ?im24_0 ?lm24_0 ?cm24_0 ?km24_0 ?am24_1 ?im24_1 ?lm24_1 ?cm24_1 ?km24_1 ?am24_2 ?im24_2 ?lm24_2 ?cm24_2 ?km24_2 ?am24_3 ?im24_3 ?lm24_3 ?cm24_3 ?km24_3 ?kf24_3 ?ks24_3 ?am24_4 ?im24_4 ?lm24_4 ?cm24_4 ?km24_4 ?vc18 ?vc19 ?vc20 ?vc23 ?z0 ?z1 ?z2 ?z3 ?z4 ?z5 ?z6 ?z7 ?z8 ?z9 ?z10 ?z11 ?z12 ?g1 ?g2 ?g3 ?g4 ?g5 ?g6 ?g7 ?g8 ?g9 ?g10 ?g11 ?g12 ?g13 ?g14 ?eB2 ?eB ?opq ?tp ?xC1 ?xC2 ?oC3 ?rv3 ?ib3 ?iC3 ?tI3 ?lI3 ?cI3 ?lD3 ?vD3 ?fD3 ?lc3 ?oC4 ?rv4 ?ib4 ?iC4 ?tI4 ?lI4 ?cI4 ?lD4 ?vD4 ?fD4 ?lc4 ?oC5 ?rv5 ?ib5 ?iC5 ?tI5 ?lI5 ?cI5 ?lD5 ?vD5 ?fD5 ?lc5 ?xC6 ?xC7 ?oC8 ?rv8 ?ib8 ?iC8 ?tI8 ?lI8 ?cI8 ?lD8 ?vD8 ?fD8 ?lc8 ?oC9 ?rv9 ?ib9 ?iC9 ?tI9 ?lI9 ?cI9 ?lD9 ?vD9 ?fD9 ?lc9 ?oC10 ?rv10 ?ib10 ?iC10 ?tI10 ?lI10 ?cI10 ?lD10 ?vD10 ?fD10 ?lc10 ?oC11 ?rv11 ?ib11 ?iC11 ?tI11 ?lI11 ?cI11 ?lD11 ?vD11 ?fD11 ?lc11 ?xC12 ?xC13 ?xC14
    (case a0 => k_is); (case l0 => k_is); (case c0 => k_is); (case k0 => k_is); (case a1 => k_is); (case l1 => k_is)
    (case c1 => k_is); (case k1 => k_is); (case a2 => k_is); (case l2 => k_is); (case c2 => k_is); (case k2 => k_is)
    (case a3 => k_is); (case l3 => k_is); (case c3 => k_is); (case k3 => k_is); (case a4 => k_is); (case l4 => k_is)
    (case c4 => k_is); (case k4 => k_is); (case a5 => k_is); (case l5 => k_is); (case c5 => k_is); (case k5 => k_is)
    (case a6 => k_is); (case l6 => k_is); (case c6 => k_is); (case k6 => k_is); (case a7 => k_is); (case l7 => k_is)
    (case c7 => k_is); (case k7 => k_is); (case a8 => k_is); (case l8 => k_is); (case c8 => k_is); (case k8 => k_is)
    (case a9 => k_is); (case l9 => k_is); (case c9 => k_is); (case k9 => k_is); (case a10 => k_is); (case l10 => k_is)
    (case c10 => k_is); (case k10 => k_is); (case a11 => k_is); (case l11 => k_is); (case c11 => k_is); (case k11 => k_is)
    (case a12 => k_is); (case l12 => k_is); (case c12 => k_is); (case k12 => k_is); (case a13 => k_is); (case l13 => k_is)
    (case c13 => k_is); (case k13 => k_is); (case a14 => k_is); (case l14 => k_is); (case c14 => k_is); (case k14 => k_is)
    (case a15 => k_is); (case l15 => k_is); (case c15 => k_is); (case k15 => k_is); (case a16 => k_is); (case l16 => k_is)
    (case c16 => k_is); (case k16 => k_is); (case a17 => k_is); (case l17 => k_is); (case c17 => k_is); (case k17 => k_is)
    (case a18 => k_is); (case l18 => k_is); (case c18 => k_is); (case k18 => k_is); (case a19 => k_is); (case l19 => k_is)
    (case c19 => k_is); (case k19 => k_is); (case a20 => k_is); (case l20 => k_is); (case c20 => k_is); (case k20 => k_is)
    (case a21 => k_is); (case l21 => k_is); (case c21 => k_is); (case k21 => k_is); (case g24 => k_is); (case pg24 => k_is)
    (case hd24 => k_is); (case po24 => k_is); (case sa24 => k_is); (case mk24 => k_is); (case kc24 => k_is); (case ha24 => k_is)
    (case hn24 => k_is); (case ht24 => k_is); (case hm24 => k_is); (case me24 => kernel_rfl); (case n24_letters => k_is); (case n24_answers => k_is)
    (case n24_states => k_is); (case am24_0 => k_is); (case im24_0 => k_is); (case lm24_0 => k_is); (case cm24_0 => k_is); (case km24_0 => k_is)
    (case am24_1 => k_is); (case im24_1 => k_is); (case lm24_1 => k_is); (case cm24_1 => k_is); (case km24_1 => k_is); (case am24_2 => k_is)
    (case im24_2 => k_is); (case lm24_2 => k_is); (case cm24_2 => k_is); (case km24_2 => k_is); (case am24_3 => k_is); (case im24_3 => k_is)
    (case lm24_3 => k_is); (case cm24_3 => k_is); (case km24_3 => k_is); (case kf24_3 => k_is); (case ks24_3 => k_is); (case am24_4 => k_is)
    (case im24_4 => k_is); (case lm24_4 => k_is); (case cm24_4 => k_is); (case km24_4 => k_is); (case vc18 => k_is); (case vc19 => k_is)
    (case vc20 => k_is); (case vc23 => k_is); (case z0 => k_is); (case z1 => k_is); (case z2 => k_is); (case z3 => k_is)
    (case z4 => k_is); (case z5 => k_is); (case z6 => k_is); (case z7 => k_is); (case z8 => k_is); (case z9 => k_is)
    (case z10 => k_is); (case z11 => k_is); (case z12 => k_is); (case g1 => k_is); (case g2 => k_is); (case g3 => k_is)
    (case g4 => k_is); (case g5 => k_is); (case g6 => k_is); (case g7 => k_is); (case g8 => k_is); (case g9 => k_is)
    (case g10 => k_is); (case g11 => k_is); (case g12 => k_is); (case g13 => k_is); (case g14 => k_is); (case eB2 => kernel_rfl)
    (case eB => kernel_rfl); (case opq => first | k_is | kernel_rfl); (case tp => rfl); (case xC1 => kernel_rfl); (case xC2 => kernel_rfl); (case oC3 => k_is)
    (case rv3 => decide +kernel); (case ib3 => kernel_rfl); (case iC3 => k_is); (case tI3 => k_is); (case lI3 => k_is); (case cI3 => k_is)
    (case lD3 => k_is); (case vD3 => rfl); (case fD3 => decide +kernel); (case lc3 => k_is); (case oC4 => k_is); (case rv4 => decide +kernel)
    (case ib4 => kernel_rfl); (case iC4 => k_is); (case tI4 => k_is); (case lI4 => k_is); (case cI4 => k_is); (case lD4 => k_is)
    (case vD4 => rfl); (case fD4 => decide +kernel); (case lc4 => k_is); (case oC5 => k_is); (case rv5 => decide +kernel); (case ib5 => kernel_rfl)
    (case iC5 => k_is); (case tI5 => k_is); (case lI5 => k_is); (case cI5 => k_is); (case lD5 => k_is); (case vD5 => rfl)
    (case fD5 => decide +kernel); (case lc5 => k_is); (case xC6 => kernel_rfl); (case xC7 => kernel_rfl); (case oC8 => k_is); (case rv8 => decide +kernel)
    (case ib8 => kernel_rfl); (case iC8 => k_is); (case tI8 => k_is); (case lI8 => k_is); (case cI8 => k_is); (case lD8 => k_is)
    (case vD8 => rfl); (case fD8 => decide +kernel); (case lc8 => k_is); (case oC9 => k_is); (case rv9 => decide +kernel); (case ib9 => kernel_rfl)
    (case iC9 => k_is); (case tI9 => k_is); (case lI9 => k_is); (case cI9 => k_is); (case lD9 => k_is); (case vD9 => rfl)
    (case fD9 => decide +kernel); (case lc9 => k_is); (case oC10 => k_is); (case rv10 => decide +kernel); (case ib10 => kernel_rfl); (case iC10 => k_is)
    (case tI10 => k_is); (case lI10 => k_is); (case cI10 => k_is); (case lD10 => k_is); (case vD10 => rfl); (case fD10 => decide +kernel)
    (case lc10 => k_is); (case oC11 => k_is); (case rv11 => decide +kernel); (case ib11 => kernel_rfl); (case iC11 => k_is); (case tI11 => k_is)
    (case lI11 => k_is); (case cI11 => k_is); (case lD11 => k_is); (case vD11 => rfl); (case fD11 => decide +kernel); (case lc11 => k_is)
    (case xC12 => kernel_rfl); (case xC13 => kernel_rfl); (case xC14 => kernel_rfl)
