import PyProof.Rows.All
import Wide.All
import OpenK.AllK
import Wide.FinOn
import HandS.ForMost
import HandS.IsInst
import HandS.Strs
import HandS.Conv
import HandS.DictComp
import HandS.TupAny
import HandS.More
import KE.GoesEnum
import KE.GoesMore
import KE.GoesZip
import HandS.ExcInit
import HandS.Nested
import HandS.FStr
import HandS.ExcValue
import KE.KExcSuper
import KE.KExcIs
import HandS.Walk
import HandS.Deep
import HandS.Zip
import HandS.Codes
import HandS.ExcOwn
import HandS.ExcField
import HandS.Flow
import HandS.WordsExc
import HandS.TryOnly
import PySem.Challenge.RW_allmends_k03_sights_in_order
set_option Elab.async false
set_option linter.all false
set_option maxRecDepth 100000
set_option maxHeartbeats 4000000
namespace Pf
open PySem PySem.Spec PyProof.Rows L2
def topS (i : Nat) : Stmt := PySem.Challenge.pw_allmends_k03_sights_in_order.main.body.getD i (.Pass ⟨0, 0, 0, 0⟩)
abbrev s__wall : Stmt := topS 0
theorem sc__wall : FnScope ["k"] ["k"] (defScope s__wall) := ⟨rfl, rfl, rfl, by decide +kernel, rfl, by decide +kernel, by decide +kernel⟩
abbrev s_frozen : Stmt := topS 7
theorem sc_frozen : FnScope ["value", "part"] ["value"] (defScope s_frozen) := ⟨rfl, rfl, rfl, by decide +kernel, rfl, by decide +kernel, by decide +kernel⟩
abbrev s_product_of : Stmt := topS 8
theorem sc_product_of : FnScope ["sizes", "result", "size"] ["sizes"] (defScope s_product_of) := ⟨rfl, rfl, rfl, by decide +kernel, rfl, by decide +kernel, by decide +kernel⟩
abbrev s_in_sight : Stmt := topS 9
theorem sc_in_sight : FnScope ["variables", "procedure"] ["variables", "procedure"] (defScope s_in_sight) := ⟨rfl, rfl, rfl, by decide +kernel, rfl, by decide +kernel, by decide +kernel⟩
abbrev s_bodies_of : Stmt := topS 10
theorem sc_bodies_of : FnScope ["statement"] ["statement"] (defScope s_bodies_of) := ⟨rfl, rfl, rfl, by decide +kernel, rfl, by decide +kernel, by decide +kernel⟩
abbrev s_expressions_of : Stmt := topS 11
theorem sc_expressions_of : FnScope ["statement", "word"] ["statement"] (defScope s_expressions_of) := ⟨rfl, rfl, rfl, by decide +kernel, rfl, by decide +kernel, by decide +kernel⟩
abbrev s_statements_of : Stmt := topS 12
theorem sc_statements_of : FnScope ["body", "found", "statement", "waiting", "depth", "inner", "below"] ["body"] (defScope s_statements_of) := ⟨rfl, rfl, rfl, by decide +kernel, rfl, by decide +kernel, by decide +kernel⟩
abbrev s_is_deeper : Stmt := topS 13
theorem sc_is_deeper : FnScope ["expression", "limit", "part"] ["expression", "limit"] (defScope s_is_deeper) := ⟨rfl, rfl, rfl, by decide +kernel, rfl, by decide +kernel, by decide +kernel⟩
abbrev s_leaves_of : Stmt := topS 14
theorem sc_leaves_of : FnScope ["expression", "part", "leaf"] ["expression"] (defScope s_leaves_of) := ⟨rfl, rfl, rfl, by decide +kernel, rfl, by decide +kernel, by decide +kernel⟩
abbrev s_lay_out : Stmt := topS 16
theorem sc_lay_out : FnScope ["answers", "variables", "procedures", "procedure", "names", "places", "points", "number", "sight", "rows", "statement", "ways", "first", "aims", "expression", "role", "size"] ["answers", "variables", "procedures"] (defScope s_lay_out) := ⟨rfl, rfl, rfl, by decide +kernel, rfl, by decide +kernel, by decide +kernel⟩
abbrev s_body_length : Stmt := topS 17
theorem sc_body_length : FnScope ["body"] ["body"] (defScope s_body_length) := ⟨rfl, rfl, rfl, by decide +kernel, rfl, by decide +kernel, by decide +kernel⟩
abbrev s_body_ways : Stmt := topS 18
theorem sc_body_ways : FnScope ["body", "first", "behind", "found", "index", "statement", "point", "is_last", "follows"] ["body", "first", "behind"] (defScope s_body_ways) := ⟨rfl, rfl, rfl, by decide +kernel, rfl, by decide +kernel, by decide +kernel⟩
abbrev s_statement_ways : Stmt := topS 19
theorem sc_statement_ways : FnScope ["statement", "point", "follows", "word", "behind", "inner", "starts", "body", "start", "ways"] ["statement", "point", "follows"] (defScope s_statement_ways) := ⟨rfl, rfl, rfl, by decide +kernel, rfl, by decide +kernel, by decide +kernel⟩
abbrev s_aims_of : Stmt := topS 20
theorem sc_aims_of : FnScope ["statement", "sight", "answers", "procedures", "word", "name", "size", "procedure"] ["statement", "sight", "answers", "procedures"] (defScope s_aims_of) := ⟨rfl, rfl, rfl, by decide +kernel, rfl, by decide +kernel, by decide +kernel⟩
abbrev s_point_row : Stmt := topS 21
theorem sc_point_row : FnScope ["statement", "sight", "names", "places", "ways", "word"] ["statement", "sight", "names", "places", "ways"] (defScope s_point_row) := ⟨rfl, rfl, rfl, by decide +kernel, rfl, by decide +kernel, by decide +kernel⟩
abbrev s_slot_of : Stmt := topS 22
theorem sc_slot_of : FnScope ["sight", "name", "pair"] ["sight", "name"] (defScope s_slot_of) := ⟨rfl, rfl, rfl, by decide +kernel, rfl, by decide +kernel, by decide +kernel⟩
abbrev s_letters_reason : Stmt := topS 27
theorem sc_letters_reason : FnScope ["letters", "answers"] ["letters", "answers"] (defScope s_letters_reason) := ⟨rfl, rfl, rfl, by decide +kernel, rfl, by decide +kernel, by decide +kernel⟩
abbrev s_is_name : Stmt := topS 33
theorem sc_is_name : FnScope ["text", "character"] ["text"] (defScope s_is_name) := ⟨rfl, rfl, rfl, by decide +kernel, rfl, by decide +kernel, by decide +kernel⟩
abbrev s_first_reason : Stmt := topS 46
theorem sc_first_reason : FnScope ["letters", "answers", "variables", "procedures"] ["letters", "answers", "variables", "procedures"] (defScope s_first_reason) := ⟨rfl, rfl, rfl, by decide +kernel, rfl, by decide +kernel, by decide +kernel⟩
abbrev s_count_reason : Stmt := topS 47
theorem sc_count_reason : FnScope ["variables", "procedures", "procedure"] ["variables", "procedures"] (defScope s_count_reason) := ⟨rfl, rfl, rfl, by decide +kernel, rfl, by decide +kernel, by decide +kernel⟩
abbrev s_has_many_variables : Stmt := topS 48
theorem sc_has_many_variables : FnScope ["procedure"] ["procedure"] (defScope s_has_many_variables) := ⟨rfl, rfl, rfl, by decide +kernel, rfl, by decide +kernel, by decide +kernel⟩
abbrev s_declaration_reason : Stmt := topS 49
theorem sc_declaration_reason : FnScope ["variables", "procedures", "procedure_names", "scopes", "scope_names", "scope_sizes", "procedure", "scope", "name", "size", "names", "sizes"] ["variables", "procedures"] (defScope s_declaration_reason) := ⟨rfl, rfl, rfl, by decide +kernel, rfl, by decide +kernel, by decide +kernel⟩
abbrev s_shape_reason : Stmt := topS 50
theorem sc_shape_reason : FnScope ["procedures", "found", "expressions", "procedure", "pair", "statement", "depth", "expression"] ["procedures"] (defScope s_shape_reason) := ⟨rfl, rfl, rfl, by decide +kernel, rfl, by decide +kernel, by decide +kernel⟩
abbrev s_meaning_reason : Stmt := topS 51
theorem sc_meaning_reason : FnScope ["letters", "variables", "procedures", "found", "procedure", "scope", "many", "name", "size", "statement", "sizes", "depth"] ["letters", "variables", "procedures"] (defScope s_meaning_reason) := ⟨rfl, rfl, rfl, by decide +kernel, rfl, by decide +kernel, by decide +kernel⟩
abbrev s_has_wrong_number : Stmt := topS 52
theorem sc_has_wrong_number : FnScope ["statement", "leaves", "expression", "leaf", "word", "worth"] ["statement"] (defScope s_has_wrong_number) := ⟨rfl, rfl, rfl, by decide +kernel, rfl, by decide +kernel, by decide +kernel⟩
abbrev s_has_unknown : Stmt := topS 53
theorem sc_has_unknown : FnScope ["statement", "sizes", "many", "leaves", "expression", "leaf", "word", "worth"] ["statement", "sizes", "many"] (defScope s_has_unknown) := ⟨rfl, rfl, rfl, by decide +kernel, rfl, by decide +kernel, by decide +kernel⟩
abbrev s_is_wrong_call : Stmt := topS 54
theorem sc_is_wrong_call : FnScope ["statement", "main", "many"] ["statement", "main", "many"] (defScope s_is_wrong_call) := ⟨rfl, rfl, rfl, by decide +kernel, rfl, by decide +kernel, by decide +kernel⟩
abbrev s_sights_of : Stmt := topS 57
theorem sc_sights_of : FnScope ["sizes", "sights", "size", "sight", "value"] ["sizes"] (defScope s_sights_of) := ⟨rfl, rfl, rfl, by decide +kernel, rfl, by decide +kernel, by decide +kernel⟩
abbrev s__law_cell : Stmt := topS 59
theorem sc__law_cell : FnScope ["script", "k"] ["script", "k"] (defScope s__law_cell) := ⟨rfl, rfl, rfl, by decide +kernel, rfl, by decide +kernel, by decide +kernel⟩
abbrev s__law_reader : Stmt := topS 60
theorem sc__law_reader : FnScope ["cell"] ["cell"] (defScope s__law_reader) := ⟨rfl, rfl, rfl, by decide +kernel, rfl, by decide +kernel, by decide +kernel⟩
abbrev s__law_next : Stmt := topS 61
theorem sc__law_next : FnScope ["reader", "size", "k", "rest", "mixed"] ["reader", "size"] (defScope s__law_next) := ⟨rfl, rfl, rfl, by decide +kernel, rfl, by decide +kernel, by decide +kernel⟩
abbrev s__law_same : Stmt := topS 62
theorem sc__law_same : FnScope ["told", "due", "k"] ["told", "due"] (defScope s__law_same) := ⟨rfl, rfl, rfl, by decide +kernel, rfl, by decide +kernel, by decide +kernel⟩
abbrev s__law_word : Stmt := topS 63
theorem sc__law_word : FnScope ["reader", "many", "signs", "word", "k"] ["reader", "many"] (defScope s__law_word) := ⟨rfl, rfl, rfl, by decide +kernel, rfl, by decide +kernel, by decide +kernel⟩
abbrev s__law_pool : Stmt := topS 64
theorem sc__law_pool : FnScope ["reader", "closed", "pool", "alike", "k", "word", "base", "last", "at", "first"] ["reader"] (defScope s__law_pool) := ⟨rfl, rfl, rfl, by decide +kernel, rfl, by decide +kernel, by decide +kernel⟩
abbrev s__law_declared : Stmt := topS 65
theorem sc__law_declared : FnScope ["reader", "pool", "start", "many", "room", "pairs", "k", "size"] ["reader", "pool", "start", "many", "room"] (defScope s__law_declared) := ⟨rfl, rfl, rfl, by decide +kernel, rfl, by decide +kernel, by decide +kernel⟩
abbrev s__law_heads : Stmt := topS 66
theorem sc__law_heads : FnScope ["reader", "most", "pool", "letters", "answers", "room", "shared", "own", "first", "procedures", "k", "left", "start", "passed", "held"] ["reader", "most"] (defScope s__law_heads) := ⟨rfl, rfl, rfl, by decide +kernel, rfl, by decide +kernel, by decide +kernel⟩
abbrev s__law_put : Stmt := topS 67
theorem sc__law_put : FnScope ["row", "k", "part"] ["row", "k", "part"] (defScope s__law_put) := ⟨rfl, rfl, rfl, by decide +kernel, rfl, by decide +kernel, by decide +kernel⟩
abbrev s__law_headed : Stmt := topS 68
theorem sc__law_headed : FnScope ["parts", "number", "part", "thing"] ["parts", "number", "part", "thing"] (defScope s__law_headed) := ⟨rfl, rfl, rfl, by decide +kernel, rfl, by decide +kernel, by decide +kernel⟩
abbrev s__law_loose : Stmt := topS 69
theorem sc__law_loose : FnScope ["body", "rows", "statement", "row"] ["body"] (defScope s__law_loose) := ⟨rfl, rfl, rfl, by decide +kernel, rfl, by decide +kernel, by decide +kernel⟩
abbrev s__law_spoil : Stmt := topS 70
theorem sc__law_spoil : FnScope ["body", "statement", "arguments"] ["body"] (defScope s__law_spoil) := ⟨rfl, rfl, rfl, by decide +kernel, rfl, by decide +kernel, by decide +kernel⟩
abbrev s__law_made : Stmt := topS 71
theorem sc__law_made : FnScope ["parts", "form", "variables", "told", "procedures", "program"] ["parts", "form"] (defScope s__law_made) := ⟨rfl, rfl, rfl, by decide +kernel, rfl, by decide +kernel, by decide +kernel⟩
abbrev s__law_sights : Stmt := topS 72
theorem sc__law_sights : FnScope ["sizes", "rows", "size", "longer", "row", "worth"] ["sizes"] (defScope s__law_sights) := ⟨rfl, rfl, rfl, by decide +kernel, rfl, by decide +kernel, by decide +kernel⟩
abbrev s_law : Stmt := topS 73
theorem sc_law : FnScope ["script", "several", "programs", "turn", "reader", "parts", "number", "seen", "sizes", "pair"] ["script"] (defScope s_law) := ⟨rfl, rfl, rfl, by decide +kernel, rfl, by decide +kernel, by decide +kernel⟩
abbrev s_Program_init : Stmt := inClass (topS 56) 0
theorem sc_Program_init : FnScope ["self", "letters", "answers", "variables", "procedures", "reason", "scopes", "procedure", "scope", "sizes", "name", "size"] ["self", "letters", "answers", "variables", "procedures"] (defScope s_Program_init) := ⟨rfl, rfl, rfl, by decide +kernel, rfl, by decide +kernel, by decide +kernel⟩
abbrev s_Program_names : Stmt := inClass (topS 56) 1
theorem sc_Program_names : FnScope ["self", "procedure"] ["self", "procedure"] (defScope s_Program_names) := ⟨rfl, rfl, rfl, by decide +kernel, rfl, by decide +kernel, by decide +kernel⟩
abbrev s_Program_sizes : Stmt := inClass (topS 56) 2
theorem sc_Program_sizes : FnScope ["self", "procedure"] ["self", "procedure"] (defScope s_Program_sizes) := ⟨rfl, rfl, rfl, by decide +kernel, rfl, by decide +kernel, by decide +kernel⟩
abbrev s_Program_sights : Stmt := inClass (topS 56) 3
theorem sc_Program_sights : FnScope ["self", "procedure"] ["self", "procedure"] (defScope s_Program_sights) := ⟨rfl, rfl, rfl, by decide +kernel, rfl, by decide +kernel, by decide +kernel⟩
abbrev s_Program_points : Stmt := inClass (topS 56) 4
theorem sc_Program_points : FnScope ["self", "procedure"] ["self", "procedure"] (defScope s_Program_points) := ⟨rfl, rfl, rfl, by decide +kernel, rfl, by decide +kernel, by decide +kernel⟩
abbrev id_Program : Nat := 56
abbrev id_MendError : Nat := 2
abbrev id_InvalidInput : Nat := 3
abbrev id_InvalidProgram : Nat := 4
/-- a class's __init__, a method, as a caller needs them -/
def HasMk (P : Program) (w : World) (K : PySem.W.Frag) (mg : Str → Option Value) (base : Heap) (k : Nat) (C : Addr) (ps : List Str) (sp : Sp) : Prop :=
  ∃ (f : Addr) (fd : FuncData), FnOk P w K mg base CX0 k f fd ps sp ∧ Mk K C f ∧ Binds K fd ps []
def HasM (P : Program) (w : World) (K : PySem.W.Frag) (mg : Str → Option Value) (base : Heap) (k : Nat) (C : Addr) (m : Str) (ps : List Str) (sp : Sp) : Prop :=
  ∃ (f : Addr) (fd : FuncData), FnOk P w K mg base CX0 k f fd ps sp ∧ Meth K C m f ∧ Binds K fd ps []
/-- a def that may raise -/
def HasX (P : Program) (w : World) (K : PySem.W.Frag) (mg : Str → Option Value) (base : Heap) (k : Nat) (x : Str) (ps : List Str) (sp : Sp) : Prop :=
  ∃ (f : Addr) (fd : FuncData), FnOk P w K mg base (L2.CX P w) k f fd ps sp ∧ mg x = some (.ref f) ∧ PySem.W.keepIn K (.ref f) = true ∧ Binds K fd ps []
/-- a def as it stands behind the top -/
structure DefAt (K : PySem.W.Frag) (mg : Str → Option Value) (x : Str) (st : Stmt) (ps : List Str) : Prop where
  ex : ∃ (f : Addr) (fd : FuncData), Fun K x x st f fd ∧ mg x = some (.ref f) ∧ Binds K fd ps []
/-- what a caller needs of a def -/
def Has (P : Program) (w : World) (K : PySem.W.Frag) (mg : Str → Option Value) (base : Heap) (k : Nat) (x : Str) (ps : List Str) (sp : Sp) : Prop :=
  ∃ (f : Addr) (fd : FuncData), FnOk P w K mg base CX0 k f fd ps sp ∧ mg x = some (.ref f) ∧ PySem.W.keepIn K (.ref f) = true ∧ Binds K fd ps []
theorem Has.none {P : Program} {w : World} {K : PySem.W.Frag} {mg : Str → Option Value} {base : Heap} {k : Nat} {x : Str} {st : Stmt} {ps : List Str} {sp : Sp} (D : DefAt K mg x st ps) (no : ∀ vs H Q E, ¬ sp vs H Q E) : Has P w K mg base k x ps sp := by
  obtain ⟨f, fd, F, m, b⟩ := D.ex
  exact ⟨f, fd, ⟨fun vs H Q E h => absurd h (no vs H Q E), fun A outer s H args us vs Q E _ _ _ _ h => absurd h (no vs H Q E)⟩, m, F.kp, b⟩
theorem Has.mono {P : Program} {w : World} {K : PySem.W.Frag} {mg : Str → Option Value} {base : Heap} {j k : Nat} {x : Str} {ps : List Str} {sp : Sp} (h : Has P w K mg base j x ps sp) (l : j ≤ k) : Has P w K mg base k x ps sp := by
  obtain ⟨f, fd, F, r⟩ := h
  exact ⟨f, fd, F.mono l, r⟩
/-! ### further rules -/
section
variable {X : Cx}
/-- two derivations of one expression -/
theorem pe_alt {e : Expr} {t u : TE} (h1 : PE X e t) (h2 : PE X e u) : PE X e (fun σ H Q => t σ H Q ∨ u σ H Q) :=
  ⟨fun pins s σ H Q I h => h.elim (h1.run pins s σ H Q I) (h2.run pins s σ H Q I)⟩
/-- tuple(list): the new object is known to have no dict of its own -/
def rTupF (K : PySem.W.Frag) : List V → Hp → VK → Prop := fun xs H Q => ∃ p ys, xs = [.ref p] ∧ SqL K H p ys ∧ ∀ l o, H l = none → o.cls = .type "tuple" → o.dict = none → Q (.ref l) (upd H l (.frz o (.tup ys)))
theorem call_tupleF : CallR X (.type "tuple") (rTupF X.K) := by
  intro pins s σ H xs us Q I r h
  obtain ⟨p, ys, rfl, hq, q⟩ := h
  obtain ⟨u, rfl, rx⟩ := vals1 r
  cases rx
  obtain ⟨its, r', pl, hz⟩ := I.list hq
  have hlen := r'.length
  refine call_tuple_list pl.isList (fun h' kp => ?_) (by simp only [List.size_toArray] <;> omega)
  have I1 : Inv X pins σ H { s with heap := h' } := I.kept (t' := s.toks) kp
  have e1 : (h'.push { cls := .type "tuple", data := .seq its.toArray }).get? h'.objs.size = some { cls := .type "tuple", data := .seq its.toArray } := Heap.get?_push_size _ rfl
  have I2 : Inv X pins σ (upd H h'.objs.size (.frz { cls := .type "tuple", data := .seq its.toArray } (.tup ys))) { s with heap := h'.push { cls := .type "tuple", data := .seq its.toArray } } :=
    I1.laid (t' := s.toks) (fun b o e => Heap.get?_push_of_some _ e) (Nat.le_refl _) (show ObjOk X.prog X.w _ _ _ (.frz _ (.tup ys)) from ⟨e1, hz, its, r', IsTup.new _ _⟩)
  exact ⟨.ref h'.objs.size, _, I2, rfl, q _ _ (I1.hok.fresh (Nat.le_refl _)) rfl rfl⟩
/-- a method of a tuple that was made so -/
def tyF (x : V) (H : Hp) : Prop := ∃ p o xs, x = .ref p ∧ H p = some (.frz o (.tup xs)) ∧ o.cls = .type "tuple" ∧ o.dict = none
def tBMF (r : V → List V → Hp → VK → Prop) (to : TE) (t : TA) : TE := fun σ H Q => to σ H fun x H1 => tyF x H1 ∧ t σ H1 fun xs H2 => r x xs H2 Q
theorem pe_bmF {o e : Expr} {es : List Expr} {to : TE} {t : TA} {name : Str} {apos cpos : Pos} {id : String} {r : V → List V → Hp → VK → Prop}
    (pa : PlainAttrs "tuple") (slot : Slot "tuple" name id) (hty : typeOf (.builtin id) = pure (.type "method_descriptor")) (hm : MtR X id r) (ho : PE X o to) (ha : PA X (e :: es) t)
    (hbase : attributeBase o name X.env (eval o X.env) = eval o X.env := by rfl)
    (hfew : ((backTo cpos (starEach (e :: es) X.env)).all (fun x => !x.1) && (backToKw cpos (keywordEach [] X.env)).all (fun x => x.1.isSome)
      && decide ((e :: es).length + ([] : List Keyword).length + (if ([] : List Keyword).isEmpty then 0 else 1) < 30)) = true := by rfl)
    (hline : (apos.endLine == cpos.line) = true := by rfl) (hs : starEach (e :: es) X.env = (false, eval e X.env) :: starEach es X.env := by rfl) (hplain : (backTo cpos (starEach es X.env)).any (·.1) = false := by rfl) :
    PE X (.Call (.Attribute o name apos) (e :: es) [] cpos) (tBMF r to t) := by
  refine ⟨fun pins s σ H Q I h => ?_⟩
  refine wpAny_Call_method_late hbase hfew hline rfl (thn (ho.run pins s σ H _ I h) fun v s1 ⟨x, H1, I1, r1, ty, q1⟩ => ?_)
  obtain ⟨p, ob, ys, rfl, hp, hc, hd⟩ := ty
  obtain ⟨e1, _⟩ := I1.hok p _ hp
  cases r1
  refine ⟨"tuple", id, pa, slot, hty, ⟨ob, e1, hc⟩, fun a e => ?_, ?_⟩
  · cases e
    exact ⟨ob, e1, hd⟩
  have hA := ha.run cpos pins s1 σ H1 _ I1 q1
  rw [hs] at hA ⊢
  refine Calls.callWith_builtin (by show (false || (backTo cpos (starEach es X.env)).any (·.1)) = false; rw [hplain] <;> rfl) (Calls.evalArgs_plain ?_)
  exact thn hA fun us s2 ⟨vs, H2, I2, r2, q2⟩ => hm pins s2 σ H2 (.ref p) vs (.ref p) us Q I2 rfl r2 q2
/-- xs.index(y), xs a list or a tuple made by tuple(..) -/
theorem pe_index {o e : Expr} {to te : TE} {apos cpos : Pos} (ho : PE X o to) (he : PE X e te)
    (hbase : attributeBase o "index" X.env (eval o X.env) = eval o X.env := by rfl)
    (hfew : ((backTo cpos (starEach [e] X.env)).all (fun x => !x.1) && (backToKw cpos (keywordEach [] X.env)).all (fun x => x.1.isSome)
      && decide ([e].length + ([] : List Keyword).length + (if ([] : List Keyword).isEmpty then 0 else 1) < 30)) = true := by rfl)
    (hline : (apos.endLine == cpos.line) = true := by rfl) (hs : starEach [e] X.env = (false, eval e X.env) :: starEach [] X.env := by rfl) (hplain : (backTo cpos (starEach [] X.env)).any (·.1) = false := by rfl) :
    PE X (.Call (.Attribute o "index" apos) [e] [] cpos) (fun σ H Q =>
      tBM X.K "list" (rIndex X.K) to (tCons te tNil) σ H Q ∨
      tBMF (fun x xs H Q => ∃ p, ∃ ys : List Str, ∃ z j, x = .ref p ∧ xs = [.str z] ∧ SqT X.K H p (ys.map V.str) ∧ ys[j]? = some z ∧ (∀ m, m < j → ys[m]? ≠ some z) ∧ Q (.int (j : Nat)) H) to (tCons te tNil) σ H Q) :=
  pe_alt (pe_bm PySem.F.plainAttrs_list PySem.F.slot_list_index PySem.F.type_list_index mt_index ho (pa_cons he pa_nil (hs := hs)) hbase hfew hline hs hplain)
    (pe_bmF PySem.F.plainAttrs_tuple PySem.F.slot_tuple_index PySem.F.type_tuple_index mt_tup_index ho (pa_cons he pa_nil (hs := hs)) hbase hfew hline hs hplain)
end
/-! ### the rules that speak of the written part, for the element of a comprehension: the part is named -/
section
variable {X : Cx} {K : PySem.W.Frag}
theorem ix_listK (h : X.K = K) : IxR X (rIxL K) := h ▸ ix_list
theorem ix_tupK (h : X.K = K) : IxR X (rIxT K) := h ▸ ix_tup
theorem ix_seqK (h : X.K = K) : IxR X (rIx K) := h ▸ ix_seq
theorem op_in_seqK (h : X.K = K) : OpR X (compareOp .In) (rIn K false) := h ▸ op_in_seq
theorem op_notIn_seqK (h : X.K = K) : OpR X (compareOp .NotIn) (rIn K true) := h ▸ op_notIn_seq
theorem sl_listK (h : X.K = K) : SlR X (rSlL K) := h ▸ sl_list
theorem sl_tupK (h : X.K = K) : SlR X (rSlT K) := h ▸ sl_tup
theorem call_isiK' (h : X.K = K) : CallR X (.builtin "isinstance") (rIsi K) := h ▸ call_isi
theorem call_len_seqK (h : X.K = K) : CallR X (.builtin "len") (fun xs H Q => ∃ p ys, xs = [.ref p] ∧ (SqL K H p ys ∨ SqT K H p ys) ∧ Q (.int ys.length) H) := h ▸ call_len_seq
end
section
variable {X : Cx}
/-- two derivations of one walk -/
theorem pi_alt {tg e : Expr} {t u : TI} (h1 : PI X tg e t) (h2 : PI X tg e u) : PI X tg e (fun σ H R => t σ H R ∨ u σ H R) :=
  ⟨fun pins s σ H R I h => h.elim (h1.run pins s σ H R I) (h2.run pins s σ H R I)⟩
end
section
variable {X : Cx} {K : PySem.W.Frag}
theorem pi_listK {tg l : Expr} {tl : TE} (h : X.K = K) (hl : PE X l tl) : PI X tg l (iList K tl) := h ▸ pi_list hl
theorem pi_tupK {tg l : Expr} {tl : TE} (h : X.K = K) (hl : PE X l tl) : PI X tg l (iTup K tl) := h ▸ pi_tup hl
theorem call_list_ofK (h : X.K = K) : CallR X (.type "list") (fun xs H Q => ∃ p ys, xs = [.ref p] ∧ (SqL K H p ys ∨ SqT K H p ys) ∧ ∀ l, H l = none → Q (.ref l) (upd H l (.lst ys))) := h ▸ call_list_of
end
section
variable {X : Cx} {K : PySem.W.Frag}
theorem pg_tupK {es : List Expr} {k : Nat} {t : TGs} {n : Nat} {pos : Pos} (h : X.K = K) (hc : X.calm = true) (hp : PGs X es t)
    (hn : (assignEach es X.env).length = n := by rfl) (hst : (assignEach es X.env).findIdx? (·.1) = none := by rfl) : PG X (.Tuple es k pos) (gTup K n t) := h ▸ pg_tup hc hp hn hst
end
/-! ### heaps: everything but what stands at r is as it was -/
def Fr (r : Addr) (H H' : Hp) : Prop := ∀ b o, b ≠ r → H b = some o → H' b = some o
theorem Fr.refl (r : Addr) (H : Hp) : Fr r H H := fun _ _ _ h => h
theorem Fr.trans {r : Addr} {H H1 H2 : Hp} (a : Fr r H H1) (b : Fr r H1 H2) : Fr r H H2 := fun c o n h => b c o n (a c o n h)
theorem Fr.of {r : Addr} {H H' : Hp} (a : Same H H') : Fr r H H' := fun c o _ h => a c o h
theorem Fr.new {r p : Addr} {H : Hp} {o : HO} (h : H p = none) : Fr r H (upd H p o) := fun b u _ e => by
  rw [upd_ne (ne_of_none e h)]
  exact e
theorem Fr.upd {r : Addr} {H : Hp} {o : HO} : Fr r H (upd H r o) := fun b u n e => by
  rw [upd_ne n]
  exact e
theorem Fr.mut {r p : Addr} {H H' : Hp} {o : HO} (a : Fr r H H') (h : H p = none) : Fr r H (L2.upd H' p o) := fun b u n e => by
  rw [upd_ne (ne_of_none e h)]
  exact a b u n e
theorem Fr.seq {K : PySem.W.Frag} {r : Addr} {H H' : Hp} {a : Addr} {xs : List V} (e : Fr r H H') (n : a ≠ r) (h : SqL K H a xs) : SqL K H' a xs := by
  rcases h with (h | ⟨o, h⟩) | h
  · exact .inl (.inl (e _ _ n h))
  · exact .inl (.inr ⟨o, e _ _ n h⟩)
  · exact .inr h
theorem same_new {H : Hp} {p : Addr} {o : HO} (h : H p = none) : Same H (upd H p o) := fun b u e => by
  rw [upd_ne (ne_of_none e h)]
  exact e
theorem same_mut {H H' : Hp} {p : Addr} {o : HO} (a : Same H H') (h : H p = none) : Same H (upd H' p o) := fun b u e => by
  rw [upd_ne (ne_of_none e h)]
  exact a b u e
theorem same_back {H H' : Hp} {p : Addr} (e : Same H H') (h : H' p = none) : H p = none := e.free h
/-- what tuples stood, stands -/
def Tp (H H' : Hp) : Prop := ∀ b xs, H b = some (.tup xs) → H' b = some (.tup xs)
theorem Tp.refl (H : Hp) : Tp H H := fun _ _ h => h
theorem Tp.trans {H H1 H2 : Hp} (a : Tp H H1) (b : Tp H1 H2) : Tp H H2 := fun c o h => b c o (a c o h)
theorem tps {H H' : Hp} (a : Same H H') : Tp H H' := fun b xs h => a b _ h
theorem tpn {H : Hp} {p : Addr} {o : HO} (h : H p = none) : Tp H (upd H p o) := tps (same_new h)
/-! ### a reader: a list of three ints -/
def RD (H : Hp) (r : Addr) : Prop := ∃ c k d : Int, H r = some (.lst [.int c, .int k, .int d])
theorem RD.of {H H' : Hp} {r : Addr} (h : RD H r) (e : Same H H') : RD H' r := by
  obtain ⟨c, k, d, h⟩ := h
  exact ⟨c, k, d, e _ _ h⟩
theorem RD.ne {H : Hp} {r p : Addr} (h : RD H r) (n : H p = none) : p ≠ r := by
  obtain ⟨c, k, d, h⟩ := h
  exact fun e => by
    subst e
    rw [n] at h
    cases h
theorem Fr.tp {r : Addr} {H H' : Hp} (a : Fr r H H') (h : RD H r) : Tp H H' := fun b xs e => by
  refine a b _ (fun z => ?_) e
  subst z
  obtain ⟨c, k, d, h⟩ := h
  rw [h] at e
  cases e
theorem Fr.free {r p : Addr} {H H' : Hp} (a : Fr r H H') (h : RD H r) (h' : RD H' r) (n : H' p = none) : H p = none := by
  cases q : H p with
  | none => rfl
  | some o =>
    have z := a p o (h'.ne n) q
    rw [n] at z
    cases z
/-! ### items -/
theorem at_in {α : Type} {xs : List α} {i : Int} (h0 : 0 ≤ i) (h : i < (xs.length : Int)) : ∃ x, xs[i.toNat]? = some x ∧ atI xs i = some x := by
  obtain ⟨n, rfl⟩ := Int.eq_ofNat_of_zero_le h0
  have h1 : n < xs.length := by omega
  have h2 : xs[n]? = some xs[n] := List.getElem?_eq_getElem h1
  exact ⟨xs[n], by simpa using h2, atI_nat h2⟩
theorem int_of_bl {i j : Int} (h : decide (V.int i = V.int j) = true) : i = j := V.int.inj (of_decide_eq_true h)
theorem int_ne_bl {i j : Int} (h : ¬ decide (V.int i = V.int j) = true) : i ≠ j := fun e => h (decide_eq_true (congrArg V.int e))
theorem dec_t {p : Prop} [Decidable p] (h : decide p = true) : p := of_decide_eq_true h
theorem dec_f {p : Prop} [Decidable p] (h : ¬ decide p = true) : ¬ p := fun z => h (decide_eq_true z)
theorem mod_lt {i n : Int} (h : 0 < n) : 0 ≤ i % n ∧ i % n < n := ⟨Int.emod_nonneg i (by omega), Int.emod_lt_of_pos i h⟩
theorem cut_to (xs : List V) (n : Nat) : cutV xs none (some (n : Int)) = xs.take n := by
  unfold cutV
  rw [HT.sIx_none, show HT.sIx xs.length xs.length (some (n : Int)) = min n xs.length from HT.sIx_nat xs.length xs.length n, Nat.sub_zero, List.drop_zero]
  by_cases h : n ≤ xs.length
  · rw [Nat.min_eq_left h]
  · rw [Nat.min_eq_right (by omega), List.take_length, List.take_of_length_le (by omega)]
theorem cut_from (xs : List V) (n : Nat) : cutV xs (some (n : Int)) none = xs.drop n := by
  unfold cutV
  rw [HT.sIx_none, show HT.sIx xs.length 0 (some (n : Int)) = min n xs.length from HT.sIx_nat xs.length 0 n]
  by_cases h : n ≤ xs.length
  · rw [Nat.min_eq_left h]
    exact List.take_of_length_le (by rw [List.length_drop]; exact Nat.le_refl _)
  · rw [Nat.min_eq_right (by omega), Nat.sub_self, List.take_zero, List.drop_of_length_le (by omega)]
theorem cutS_len (z : Str) (lo hi : Option Int) : (cutS z lo hi).length ≤ z.length := by
  show (List.toArray _).size ≤ z.cps.size
  rw [List.size_toArray, List.length_take, List.length_drop, Array.length_toList]
  omega
theorem str_at {z : Str} {i : Int} (h0 : 0 ≤ i) (h : i < (z.length : Int)) : ∃ c, atI z.cps.toList i = some c := by
  obtain ⟨c, _, e⟩ := at_in (xs := z.cps.toList) h0 (by rw [Array.length_toList]; exact h)
  exact ⟨c, e⟩
/-- what stood before r was laid -/
theorem Fr.back {r : Addr} {H0 H H' : Hp} (f : Fr r H H') (s : Same H0 H) (n : H0 r = none) : Same H0 H' := fun b o e => f b o (ne_of_none e n) (s b o e)
/-! ### texts of true signs -/
theorem sok_iff {x : Str} : PyData.strOk x = true ↔ ∀ c ∈ x.cps.toList, c < 0x110000 := by
  unfold PyData.strOk
  rw [← Array.all_toList, List.all_eq_true]
  constructor
  · intro h c hc
    exact of_decide_eq_true (h c hc)
  · intro h c hc
    exact decide_eq_true (h c hc)
theorem sok_app {x y : Str} (hx : PyData.strOk x = true) (hy : PyData.strOk y = true) : PyData.strOk (x ++ y) = true := by
  rw [sok_iff] at hx hy ⊢
  intro c hc
  have e : (x ++ y).cps.toList = x.cps.toList ++ y.cps.toList := Array.toList_append
  rw [e] at hc
  rcases List.mem_append.mp hc with h | h
  · exact hx c h
  · exact hy c h
theorem atI_mem {α : Type} {xs : List α} {i : Int} {x : α} (h : atI xs i = some x) : x ∈ xs := by
  unfold atI at h
  cases e : ixN xs.length i with
  | none => rw [e] at h; cases h
  | some j =>
    rw [e] at h
    exact List.mem_of_getElem? (show xs[j]? = some x from h)
theorem sok_one {z : Str} {i : Int} {c : Nat} (h : atI z.cps.toList i = some c) (hz : PyData.strOk z = true) : PyData.strOk ⟨#[c]⟩ = true := by
  rw [sok_iff] at hz ⊢
  intro d hd
  have e : d = c := by simpa using hd
  subst e
  exact hz d (atI_mem h)
theorem sok_cut {z : Str} {lo hi : Option Int} (hz : PyData.strOk z = true) : PyData.strOk (cutS z lo hi) = true := by
  rw [sok_iff] at hz ⊢
  intro d hd
  have e : d ∈ (z.cps.toList.drop (HT.sIx z.length 0 lo)).take (HT.sIx z.length z.length hi - HT.sIx z.length 0 lo) := by simpa [cutS] using hd
  exact hz d (List.mem_of_mem_drop (List.mem_of_mem_take e))
theorem one_len (c : Nat) : (⟨#[c]⟩ : Str).length = 1 := rfl
theorem app_len (x y : Str) : (x ++ y).length = x.length + y.length := by
  show (x.cps ++ y.cps).size = _
  rw [Array.size_append]
  rfl
theorem line_small {n : Nat} (h : n ≤ 100000) : n ≤ sizeLine := Nat.le_trans h (by decide)
theorem map_at {α β : Type} {f : α → β} {xs : List α} {j : Nat} {x : α} (h : xs[j]? = some x) : (xs.map f)[j]? = some (f x) := by
  rw [List.getElem?_map, h]
  rfl
/-! ### rules for what is never reached -/
section
variable {X : Cx}
theorem pe_never {e : Expr} : PE X e (fun _ _ _ => False) := ⟨fun _ _ _ _ _ _ h => h.elim⟩
theorem pt_never {e : Expr} : PT X e (fun _ _ _ => False) := ⟨fun _ _ _ _ _ _ h => h.elim⟩
theorem pi_never {tg e : Expr} : PI X tg e (fun _ _ _ => False) := ⟨fun _ _ _ _ _ _ h => h.elim⟩
end
/-! ### an iterator that hands out new tuples, told at each turn by the library's own walk of it -/
section
variable {P : Program} {w : World} {K : PySem.W.Frag}
theorem turn_new {elts : List Expr} {kk : Nat} {tpos : Pos} {J : It} {fp : List Addr} {it : Addr} {tn : Nat → Heap → Prop} (mem : it ∈ fp)
    (live : ∀ i h, tn i h → ∀ b ∈ fp, ∃ o, h.get? b = some o ∧ ∀ v, o.data ≠ .cell v) (keep : ∀ i h h', tn i h → (∀ b ∈ fp, ∀ o, h.get? b = some o → h'.get? b = some o) → tn i h')
    (tell : ∀ (X : Cx), X.prog = P → X.w = w → X.K = K → X.calm = true → ∀ (i : Nat) (pins : List (Addr × Obj)) (s : Shared) (σ : L2.St) (H : Hp), Inv X pins σ H s → tn i s.heap → (J.go i H ∨ J.stop i H) →
      ∃ (fw wr : List Addr) (n : Nat) (Pt : Nat → Array Value → Prop) (Z : Nat → Heap → Prop) (Mid : Nat → Addr → Heap → Prop), WalksT P w X.A it fw wr n Pt Z Mid ∧ (∀ b ∈ wr, b ∈ fp) ∧ Z i s.heap ∧ (J.go i H → i < n) ∧ (J.stop i H → i = n) ∧ (∀ h', Z (i + 1) h' → tn (i + 1) h') ∧
        ∀ vals, Pt i vals → ∃ xs : List V, Vals xs vals.toList ∧ xs.length ≤ sizeLine ∧ ∀ T, H T = none → J.yld i H (.ref T) (upd H T (.tup xs)))
    (self : ∀ (A : Around) (i : Nat) (s : Shared) (Q : Value → Shared → Prop) (E : Value → Shared → Prop), tn i s.heap → Q (.ref it) s → wpAny (model P w) A (pyIter (.ref it)) Q E s) :
    Turn P w K (.Tuple elts kk tpos) J fp it tn where
  mem := mem
  obj := live
  keep := keep
  self := self
  item := by
    intro X eP ew eK hc i pins s σ H E I hf ht hg
    obtain ⟨fw, wr, n, Pt, Z, Mid, W, sub, z0, hi, _, back, data⟩ := tell X eP ew eK hc i pins s σ H I ht (.inl hg)
    subst eP ew eK
    refine W.item i s _ E (hi hg) z0 fun T vals h1 tk hp le hT hm f1 => ⟨_, rfl, ?_⟩
    refine W.go elts kk tpos i T { s with heap := h1, toks := tk } _ E hm fun h2 z2 f2 => ?_
    obtain ⟨xs, rv, hl, hy⟩ := data vals hp
    have free : H T = none := I.hok.fresh le
    have hT2 : h2.IsTuple T vals := hT.at fun o e => f2 T o (W.apart i T h1 hm) e
    have nw : ObjOk X.prog X.w (upd H T (.tup xs)) h2 T (.tup xs) := ⟨hl, vals.toList, rv, hT2⟩
    refine ⟨.ref T, upd H T (.tup xs), I.turnedNew (ch := fp) (t' := tk) (fun b o hb e => f2 b o (fun m => hb (sub b m)) (f1 b o (fun m => hb (sub b m)) e)) hf le nw, rfl, hy T free, back h2 z2, fun b hb => ?_⟩
    obtain ⟨o, ho, _⟩ := live i s.heap ht b hb
    rw [upd_ne (Nat.ne_of_lt (Nat.lt_of_lt_of_le (Heap.lt_size ho) le))]
    exact (hf b hb).1
  done := by
    intro X eP ew eK hc i pins s σ H E I hf ht hg
    obtain ⟨fw, wr, n, Pt, Z, Mid, W, sub, z0, _, hn, _, _⟩ := tell X eP ew eK hc i pins s σ H I ht (.inr hg)
    subst eP ew eK
    have e := hn hg
    subst e
    exact W.done s _ E z0 fun h1 tk f1 => ⟨rfl, I.turnedL (ch := fp) (t' := tk) (fun b o hb e => f1 b o (fun m => hb (sub b m)) e) hf⟩
end
theorem vals_back : ∀ {xs : List V} {us : List Value} {i : Nat} {u : Value}, Vals xs us → us[i]? = some u → ∃ x, xs[i]? = some x ∧ RelV x u
  | _, _, _, _, .nil, h => by simp at h
  | _, _, 0, _, .cons r _, h => by
    cases h
    exact ⟨_, rfl, r⟩
  | _, _, i + 1, _, .cons _ t, h => vals_back (i := i) t h
/-! ### enumerate(x), one argument, whatever begins an iterator -/
theorem meets_enum1 {x : Value} {ob : Obj} {Hh : Heap → Prop} (B : Begins x ob Hh) :
    Meets (Builtin.«enumerate.__new__» ⟨[.type "enumerate", x], []⟩) (fun _ R s => Hh s.heap ∧ R (.ok (.ret (.ref (s.heap.push ob).objs.size)))
      { s with heap := (s.heap.push ob).push { cls := .type "enumerate", data := .fields #[.none, .bool false, .ref s.heap.objs.size, rawInt 0, .none, .none] } }) :=
  .of_wp fun pr wd ar post st both => by
    obtain ⟨hp, gens, drawn, toks, os⟩ := st
    obtain ⟨hb, both⟩ := both
    have hsub := sub_enumerate
    have go : ∀ {A' : Around} {E : Value → Shared → Prop} {Q : Value → Shared → Prop}, Q (.ref hp.objs.size) ⟨hp.push ob, gens, drawn, toks, os⟩ → wpAny (model pr wd) A' (pyIter x) Q E ⟨hp, gens, drawn, toks, os⟩ :=
      fun {A' E Q} z => B.iter pr wd A' E ⟨hp, gens, drawn, toks, os⟩ Q hb z
    wp_walk using go
    refine wpAny_stack_any fun st => wpAny_pure ?_
    split
    · rename_i cl _ _ _ _ _
      cases (cl == Value.type "enumerate") <;> (wp_walk using go; exact ⟨_, rfl, both⟩)
    · wp_walk using go
      exact ⟨_, rfl, both⟩
section
variable {prog : Program} {w : World} {A : Around} {E : Value → Shared → Prop} {s : Shared}
theorem call_enum1 {x : Value} {ob : Obj} {Hh : Heap → Prop} {Q : Value → Shared → Prop} (B : Begins x ob Hh) (hb : Hh s.heap)
    (k : ∀ h', IsEnum h' (s.heap.objs.size + 1) s.heap.objs.size (0 + ((0 : Nat) : Int)) .none → h'.get? s.heap.objs.size = some ob → h'.objs.size = s.heap.objs.size + 2 → (∀ b o, s.heap.get? b = some o → h'.get? b = some o) → Q (.ref (s.heap.objs.size + 1)) { s with heap := h' }) :
    wpAny (model prog w) A (call (.type "enumerate") [x]) Q E s := by
  refine callType_new F.called_enumerate (by decide) (F.typeCall_enumerate_1 _) (F.newCall_enumerate_1 _) (fun o => F.args_object_init_2 o _) F.entry_enumerate_new (meets_enum1 B) ⟨hb, ?_⟩
  have z1 : (s.heap.push ob).objs.size = s.heap.objs.size + 1 := by rw [Heap.size_push]
  have top := Heap.get?_push_size (s.heap.push ob) (o := { cls := .type "enumerate", data := .fields #[.none, .bool false, .ref s.heap.objs.size, rawInt 0, .none, .none] }) rfl
  show _ ∧ _
  rw [z1] at top ⊢
  exact ⟨⟨_, top, rfl⟩, k _ top (Heap.get?_push_of_some _ (Heap.get?_push_size _ B.free)) (by rw [Heap.size_push, z1]) fun b o e => Heap.get?_push_of_some _ (Heap.get?_push_of_some _ e)⟩
end
/-! ### enumerate of a tuple -/
section
variable {P : Program} {w : World} {K : PySem.W.Frag}
def ItEnT (K : PySem.W.Frag) (a : Addr) (n : Nat) : It :=
  ⟨fun i H => i < n ∧ ∃ xs, SqT K H a xs ∧ xs.length = n, fun i H v H' => ∃ T x, v = .ref T ∧ H T = none ∧ H' = upd H T (.tup [.int (i : Nat), x]) ∧ ∀ xs, SqT K H a xs → xs[i]? = some x, fun i H => i = n ∧ ∃ xs, SqT K H a xs ∧ xs.length = n⟩
theorem turn_enT {elts : List Expr} {kk : Nat} {tpos : Pos} {a e it : Addr} {n : Nat} (hne : e ≠ it) (hei : a ≠ it) (hea : e ≠ a) :
    Turn P w K (.Tuple elts kk tpos) (ItEnT K a n) [e, it] e (fun i h => (∃ old, IsEnum h e it (0 + ((i : Nat) : Int)) old) ∧ h.IsTupleIter it a i) := by
  refine turn_new (by simp) (fun i h st b hb => ?_) (fun i h h' st k => ?_) (fun X eP ew eK hc i pins s σ H I st go => ?_) (fun A i s Q E st h => let ⟨⟨_, he⟩, _⟩ := st; wpAny_pyIter_enum he h)
  · obtain ⟨⟨old, he⟩, o, ho, hcl, hd⟩ := st
    have q : b = e ∨ b = it := by simpa using hb
    rcases q with rfl | rfl
    · exact ⟨_, he, fun v z => nomatch z⟩
    · exact ⟨o, ho, fun v z => by rw [hd] at z; cases z⟩
  · obtain ⟨⟨old, he⟩, hi⟩ := st
    exact ⟨⟨old, k e (by simp) _ he⟩, hi.at fun o z => k it (by simp) o z⟩
  · obtain ⟨⟨old, he⟩, hi⟩ := st
    obtain ⟨xs, hq, hl⟩ : ∃ xs, SqT K H a xs ∧ xs.length = n := by
      rcases go with g | g
      · exact g.2
      · exact g.2
    subst eP ew eK
    obtain ⟨its, rv, tp, hz⟩ := I.tuple hq
    have hh : X.A.in1.handled = none := I.ok.hd hc
    have sz : its.toArray.size = n := by rw [List.size_toArray, ← rv.length, hl]
    have hef : e ∉ [it, a] := fun m => by
      have q : e = it ∨ e = a := by simpa using m
      exact q.elim hne hea
    refine ⟨_, _, n, _, _, _, (sz ▸ WalksT.enumFrom 0 (Draws.tuple hh it a hei its.toArray) e hne hef (by simp)), fun b hb => hb, ⟨⟨old, he⟩, hi, tp⟩, fun g => g.1, fun g => g.1, fun h' z => ⟨z.1, z.2.1⟩, ?_⟩
    · rintro vals ⟨t, u, hu, rfl⟩
      have hu' : its[i]? = some u := by simpa using hu
      obtain ⟨x, hx, rx⟩ := vals_back rv hu'
      refine ⟨[.int (i : Nat), x], .cons ⟨t, by simp⟩ (.cons rx .nil), by show 2 ≤ sizeLine; decide, fun T nT => ⟨T, x, rfl, nT, rfl, fun ys hy => ?_⟩⟩
      rw [I.tuple_inj hy hq]
      exact hx
def iEnT (K : PySem.W.Frag) (ta : TA) : TI := fun σ H R => ta σ H fun vs H1 => ∃ a xs, vs = [.ref a] ∧ SqT K H1 a xs ∧ R (ItEnT K a xs.length) H1
theorem pi_enT {X : Cx} {e : Expr} {ta : TA} {p pos tpos : Pos} {elts : List Expr} {kk : Nat} (hg : Gl X "enumerate") (hm : X.mg "enumerate" = none) (ha : PA X [e] ta) (hs : starEach [e] X.env = [(false, eval e X.env)] := by rfl) :
    PI X (.Tuple elts kk tpos) (.Call (.Name "enumerate" p) [e] [] pos) (iEnT X.K ta) := by
  refine ⟨fun pins s σ H R I h => ?_⟩
  refine Call_ (ld_blt I hg hm boot_enumerate (PyProof.Rows.callWith_type1 (thn (ha.run pos pins s σ H _ I h) fun us s1 ⟨vs, H1, I1, r1, q1⟩ => ?_) hs rfl))
  obtain ⟨a, xs, rfl, hq, q⟩ := q1
  obtain ⟨u, rfl, ru⟩ := vals1 r1
  cases ru
  obtain ⟨its, rv, tp, hz⟩ := I1.tuple hq
  obtain ⟨oa, hoa, _⟩ := id tp
  have la : a < s1.heap.objs.size := Heap.lt_size hoa
  refine call_enum1 (begins_tuple a its.toArray) tp fun h' he hi hsz hk => wpAny_pyIter_enum he ?_
  refine ⟨s1.heap.objs.size + 1, [s1.heap.objs.size + 1, s1.heap.objs.size], _, _, H1, rfl, I1.kept (t' := s1.toks) hk, turn_enT (Nat.succ_ne_self _) (Nat.ne_of_lt la) (Nat.ne_of_gt (Nat.lt_succ_of_lt la)), ⟨⟨.none, he⟩, ⟨_, hi, rfl, rfl⟩⟩, fun b hb => ?_, q⟩
  have q2 : b = s1.heap.objs.size + 1 ∨ b = s1.heap.objs.size := by simpa using hb
  have le : s1.heap.objs.size ≤ b := by
    rcases q2 with z | z
    · rw [z]; exact Nat.le_succ _
    · rw [z]; exact Nat.le_refl _
  exact I1.fpOk le (I1.hok.fresh le)
theorem walk_enT {a : Addr} {xs : List V} : Walk (ItEnT K a xs.length) xs.length (fun H => SqT K H a xs) (YPair (fun i => some (.int (i : Nat))) (fun i => xs[i]?)) :=
  ⟨fun i H hi q => ⟨hi, xs, q, rfl⟩, fun H q => ⟨rfl, xs, q, rfl⟩, fun i H v H' hi q y => by
    obtain ⟨T, x, e1, e2, e3, e4⟩ := y
    exact ⟨T, _, x, e1, e2, e3, rfl, e4 xs q⟩⟩
end
/-! ### zip of a list and a tuple -/
section
variable {P : Program} {w : World} {K : PySem.W.Frag}
def LT (K : PySem.W.Frag) (a b : Addr) (n : Nat) (H : Hp) : Prop := ∃ xs ys, SqL K H a xs ∧ SqT K H b ys ∧ min xs.length ys.length = n
def ItZiM (K : PySem.W.Frag) (a b : Addr) (n : Nat) : It :=
  ⟨fun i H => i < n ∧ LT K a b n H, fun i H v H' => ∃ T x y, v = .ref T ∧ H T = none ∧ H' = upd H T (.tup [x, y]) ∧ (∀ xs, SqL K H a xs → xs[i]? = some x) ∧ ∀ ys, SqT K H b ys → ys[i]? = some y, fun i H => i = n ∧ LT K a b n H⟩
theorem turn_ziM {elts : List Expr} {kk : Nat} {tpos : Pos} {z TI TO i1 i2 a b : Addr} {n : Nat} (S : ZipSep2 z TI TO i1 i2 [i1, a] [i2, b]) (na : a ≠ i1) (nb : b ≠ i2) :
    Turn P w K (.Tuple elts kk tpos) (ItZiM K a b n) [z, TI, TO, i1, i2] z (fun i h => IsZip h z TI TO .none ∧ IsTupOf2 h TI (.ref i1) (.ref i2) ∧ (∃ x y, IsTupOf2 h TO x y) ∧ h.IsListIter i1 a i ∧ h.IsTupleIter i2 b i) := by
  refine turn_new (by simp) (fun i h st c hc => ?_) (fun i h h' st k => ?_) (fun X eP ew eK hc i pins s σ H I st go => ?_) (fun A i s Q E st h => wpAny_pyIter_zip st.1 h)
  · obtain ⟨g0, g1, ⟨x, y, g2⟩, ⟨o1, e1, _, d1⟩, o2, e2, _, d2⟩ := st
    have q : c = z ∨ c = TI ∨ c = TO ∨ c = i1 ∨ c = i2 := by simpa using hc
    rcases q with rfl | rfl | rfl | rfl | rfl
    · exact ⟨_, g0, fun v r => nomatch r⟩
    · exact ⟨_, g1, fun v r => nomatch r⟩
    · exact ⟨_, g2, fun v r => nomatch r⟩
    · exact ⟨o1, e1, fun v r => by rw [d1] at r; cases r⟩
    · exact ⟨o2, e2, fun v r => by rw [d2] at r; cases r⟩
  · obtain ⟨g0, g1, ⟨x, y, g2⟩, g3, g4⟩ := st
    exact ⟨k z (by simp) _ g0, k TI (by simp) _ g1, ⟨x, y, k TO (by simp) _ g2⟩, g3.at fun o r => k i1 (by simp) o r, g4.at fun o r => k i2 (by simp) o r⟩
  · obtain ⟨g0, g1, g2, g3, g4⟩ := st
    obtain ⟨xs, ys, hx, hy, hl⟩ : LT K a b n H := by
      rcases go with g | g
      · exact g.2
      · exact g.2
    subst eP ew eK
    obtain ⟨us, rx, px, _⟩ := I.list hx
    obtain ⟨ws, ry, py, _⟩ := I.tuple hy
    have hh : X.A.in1.handled = none := I.ok.hd hc
    have sz : min us.toArray.size ws.toArray.size = n := by rw [List.size_toArray, List.size_toArray, ← rx.length, ← ry.length, hl]
    refine ⟨_, _, n, _, _, _, (sz ▸ WalksT.zipD2 S (Draws.list hh i1 a na us.toArray) (Draws.tuple hh i2 b nb ws.toArray)), fun c hc => ?_, ⟨g0, g1, g2, ⟨g3, px.isList⟩, g4, py⟩, fun g => g.1, fun g => g.1, fun h' r => ⟨r.1, r.2.1, r.2.2.1, r.2.2.2.1.1, r.2.2.2.2.1⟩, ?_⟩
    · have q : c = z ∨ c = TO ∨ c = i1 ∨ c = i2 := by simpa using hc
      rcases q with rfl | rfl | rfl | rfl <;> simp
    · rintro vals ⟨u, v, hu, hv, rfl⟩
      have hu' : us[i]? = some u := by simpa using hu
      have hv' : ws[i]? = some v := by simpa using hv
      obtain ⟨x, ex, kx⟩ := vals_back rx hu'
      obtain ⟨y, ey, ky⟩ := vals_back ry hv'
      refine ⟨[x, y], .cons kx (.cons ky .nil), by show 2 ≤ sizeLine; decide, fun T nT => ⟨T, x, y, rfl, nT, rfl, fun l hl => ?_, fun l hl => ?_⟩⟩
      · rw [I.list_inj hl hx]
        exact ex
      · rw [I.tuple_inj hl hy]
        exact ey
def iZiM (K : PySem.W.Frag) (ta : TA) : TI := fun σ H R => ta σ H fun vs H1 => ∃ a b xs ys, vs = [.ref a, .ref b] ∧ SqL K H1 a xs ∧ SqT K H1 b ys ∧ R (ItZiM K a b (min xs.length ys.length)) H1
theorem pi_ziM {X : Cx} {e e2 : Expr} {ta : TA} {p pos tpos : Pos} {elts : List Expr} {kk : Nat} (hg : Gl X "zip") (hm : X.mg "zip" = none) (ha : PA X [e, e2] ta)
    (hs : starEach [e, e2] X.env = (false, eval e X.env) :: starEach [e2] X.env := by rfl) (hpl : (backTo pos (starEach [e2] X.env)).any (·.1) = false := by rfl) : PI X (.Tuple elts kk tpos) (.Call (.Name "zip" p) [e, e2] [] pos) (iZiM X.K ta) := by
  refine ⟨fun pins s σ H R I h => ?_⟩
  refine Call_ (ld_blt I hg hm PyProof.Rows.boot_zip (PyProof.Rows.callWith_type1 (thn (ha.run pos pins s σ H _ I h) fun us s1 ⟨vs, H1, I1, r1, q1⟩ => ?_) hs hpl))
  obtain ⟨a, b, xs, ys, rfl, hx, hy, q⟩ := q1
  obtain ⟨u, v, rfl, ru, rv⟩ := vals2 r1
  cases ru
  cases rv
  obtain ⟨is, rx, px, _⟩ := I1.list hx
  obtain ⟨js, ry, py, _⟩ := I1.tuple hy
  obtain ⟨ob, hob, _⟩ := id py
  have la : a < s1.heap.objs.size := px.lt
  have lb : b < s1.heap.objs.size := Heap.lt_size hob
  refine zip_begins2 (begins_list a is.toArray) (begins_tuple b js.toArray) px.isList py fun h' g0 g1 g2 k1 k2 sz kp => wpAny_pyIter_zip g0 ?_
  have sep := zip_sep2 (N := s1.heap.objs.size) (fp1 := [a]) (fp2 := [b]) (fun c hc => by rw [List.mem_singleton.mp hc]; exact la) (fun c hc => by rw [List.mem_singleton.mp hc]; exact lb)
  refine ⟨s1.heap.objs.size + 4, [s1.heap.objs.size + 4, s1.heap.objs.size + 2, s1.heap.objs.size + 3, s1.heap.objs.size, s1.heap.objs.size + 1], _, _, H1, rfl, I1.kept (t' := s1.toks) kp, turn_ziM sep (Nat.ne_of_lt la) (Nat.ne_of_lt (Nat.lt_succ_of_lt lb)), ⟨g0, g1, ⟨_, _, g2⟩, ⟨_, k1, rfl, rfl⟩, _, k2, rfl, rfl⟩, fun c hc => ?_, q⟩
  have r : c = s1.heap.objs.size + 4 ∨ c = s1.heap.objs.size + 2 ∨ c = s1.heap.objs.size + 3 ∨ c = s1.heap.objs.size ∨ c = s1.heap.objs.size + 1 := by simpa using hc
  have le : s1.heap.objs.size ≤ c := by rcases r with e | e | e | e | e <;> rw [e] <;> first | exact Nat.le_refl _ | exact Nat.le_add_right _ _
  exact I1.fpOk le (I1.hok.fresh le)
theorem walk_ziM {a b : Addr} {xs ys : List V} : Walk (ItZiM K a b (min xs.length ys.length)) (min xs.length ys.length) (fun H => SqL K H a xs ∧ SqT K H b ys) (YPair (fun i => xs[i]?) (fun i => ys[i]?)) :=
  ⟨fun i H hi q => ⟨hi, xs, ys, q.1, q.2, rfl⟩, fun H q => ⟨rfl, xs, ys, q.1, q.2, rfl⟩, fun i H v H' hi q y => by
    obtain ⟨T, x, u, e1, e2, e3, e4, e5⟩ := y
    exact ⟨T, x, u, e1, e2, e3, e4 xs q.1, e5 ys q.2⟩⟩
end
/-! ### o.f as a target among others -/
section
variable {X : Cx}
def gFld (K : PySem.W.Frag) (to : TE) (f : Str) : TG := fun v σ H Q => to σ H fun x H1 => ∃ a C dx fs, x = .ref a ∧ H1 a = some (.ins C dx fs) ∧ Cls K C ∧ NoAttr K C f ∧ fs.length < 1000 ∧ Q σ (upd H1 a (.ins C dx (putF f v fs)))
theorem pg_fld {o : Expr} {to : TE} {f : Str} {pos : Pos} (ho : PE X o to) : PG X (.Attribute o f pos) (gFld X.K to f) := by
  refine ⟨fun pins s σ H v u Q I r h => ?_⟩
  rw [assign_Attribute]
  refine wpAny_bind (wpAny_holding (thn (ho.run pins s σ H _ I h) fun ov s1 ⟨x, H1, I1, r1, a, C, dx, fs, e1, e2, c, n, l, q⟩ => ?_))
  subst e1
  obtain rfl : ov = Value.ref a := r1
  refine wpAny_bind (wpAny_standAt (wpAny_bind (wpAny_holding (setattr_ok I1 e2 c n l r fun s2 I2 => ?_))))
  exact wpAny_release ⟨σ, _, I2, q⟩
end
section
variable {X : Cx} {K : PySem.W.Frag}
theorem pi_ziMK {e e2 : Expr} {ta : TA} {p pos tpos : Pos} {elts : List Expr} {kk : Nat} (h : X.K = K) (hg : Gl X "zip") (hm : X.mg "zip" = none) (ha : PA X [e, e2] ta)
    (hs : starEach [e, e2] X.env = (false, eval e X.env) :: starEach [e2] X.env := by rfl) (hpl : (backTo pos (starEach [e2] X.env)).any (·.1) = false := by rfl) : PI X (.Tuple elts kk tpos) (.Call (.Name "zip" p) [e, e2] [] pos) (iZiM K ta) := h ▸ pi_ziM hg hm ha hs hpl
end
/-! ### a comprehension's block that captures nothing -/
def blkNF (N : List Str) (scope : Scope) (own : List (Str × Nat)) : Bool := blkC N { scope with names := [] } scope own && scope.names.all fun y => match y.2 with | .free => false | _ => true
theorem blkOk_nf {N : List Str} {sc scope : Scope} {own : List (Str × Nat)} (h : blkNF N scope own = true) : BlkOk N sc scope own := by
  unfold blkNF at h
  rw [Bool.and_eq_true] at h
  obtain ⟨k1, k2, k3, k4, k5⟩ := blkOk_by h.1
  refine ⟨k1, k2, k3, fun y hy e => ?_, k5⟩
  have q := List.all_eq_true.mp h.2 y hy
  rw [e] at q
  cases q
section
variable {X : Cx} {K : PySem.W.Frag}
theorem op_catAK (h : X.K = K) : OpR X (binaryOp .Add) (rCatA K) := h ▸ op_catA
theorem sl_tupAK (h : X.K = K) : SlR X (rSlA K) := h ▸ sl_tupA
end
/-! ### a tuple of texts that the top wrote -/
def KTup (K : PySem.W.Frag) (a : Addr) (xs : List V) : Prop := ∃ (o : Obj) (its : Array Value) (n : Nat), K.lookup a = some o ∧ o.cls = .type "tuple" ∧ o.data = .seq its n ∧ its.size ≤ sizeLine ∧ Vals xs its.toList
theorem KTup.seq {K : PySem.W.Frag} {a : Addr} {xs : List V} {H : Hp} (h : KTup K a xs) : SqT K H a xs := .inr h
def strB : List Value → List Str → Bool
  | [], [] => true
  | .str x _ :: us, y :: ys => x == y && strB us ys
  | _, _ => false
def tupB (o : Obj) (ws : List Str) : Bool := o.cls == .type "tuple" && match o.data with
  | .seq its _ => strB its.toList ws && decide (its.size ≤ 1000)
  | _ => false
theorem strB_ok : ∀ {us : List Value} {ws : List Str}, strB us ws = true → Vals (ws.map V.str) us
  | [], [], _ => .nil
  | .str x t :: us, y :: ys, h => by
    unfold strB at h
    rw [Bool.and_eq_true] at h
    have e := eq_of_beq h.1
    subst e
    exact .cons ⟨t, rfl⟩ (strB_ok h.2)
  | [], _ :: _, h => by cases h
  | .none :: _, _, h => by cases h
theorem ktup_by {K : PySem.W.Frag} {a : Addr} {o : Obj} {ws : List Str} (h : K.lookup a = some o) (b : tupB o ws = true) : KTup K a (ws.map V.str) := by
  unfold tupB at b
  rw [Bool.and_eq_true] at b
  obtain ⟨b1, b2⟩ := b
  split at b2
  · rename_i its n e
    rw [Bool.and_eq_true] at b2
    exact ⟨o, its, n, h, eq_of_beq b1, e, Nat.le_trans (of_decide_eq_true b2.2) (by decide), strB_ok b2.1⟩
  · cases b2
open NdefX
/-! ### an error class whose __init__ hands a text to the class above it and keeps its argument -/
section
open NdefX PySem.W
/-- what an f-string may hold -/
def Fmt (y : V) : Prop := (∃ z : Str, y = .str z ∧ z.length ≤ 100000) ∨ ∃ i : Int, y = .int i ∧ i.natAbs < 2 ^ 64
/-- the promise of such an __init__: the field is set -/
def spInit (C : Addr) (fld : Str) : Sp := fun vs H Q _ => ∃ (a : Addr) (y : V), vs = [.ref a, y] ∧ Fmt y ∧ H a = some (exo a C none) ∧
  ∀ dx, H dx = none → dx ≠ a → Q .non (upd (upd H dx (exd dx [(fld, y)])) a (exo a C (some dx)))
/-- the scope of such an __init__ -/
abbrev initSc (par : Str) : Scope := { kind := .function, names := [("self", .local), (par, .local), ("__class__", .free), ("super", .globalImplicit)], isGenerator := false, isCoroutine := false, more := [] }
/-- the written part, as far as it speaks of the class and its __init__ -/
structure InitK (P : Program) (K : PySem.W.Frag) (mg : Str → Option Value) (f cc cda C : Addr) (qual : Str) (params : Arguments) (body : List Stmt) (fd : FuncData) (par fld : Str) : Prop where
  ex : ∃ (oc : Value) (od : Option Addr) (osl : Array (Option Value)) (dV kV doc pm ct : Value) (an : Option Addr), fd = PySem.W.fnX "__init__" qual params body (initSc par) [("__class__", cc)] dV kV doc pm an (.ref cda) ct ∧ K.lookup f = some ⟨oc, od, .func fd, osl⟩
  code : PySem.W.codeIn K (.ref cda) qual = true
  file : ∃ (oc : Value) (od : Option Addr) (vs : Array Value) (sl : Array (Option Value)) (file : Str) (tf : Tok), K.lookup cda = some ⟨oc, od, .fields vs, sl⟩ ∧ vs[2]? = some (.str file tf) ∧ (P.main.file == file) = true
  cell : ∃ (oc : Value) (od : Option Addr) (sl : Array (Option Value)), K.lookup cc = some ⟨oc, od, .cell (some (.ref C)), sl⟩
  cls : OexC K C
  me : PySem.W.mroIn K C (.ref C) = some true
  up : PySem.W.ks_superIn K C C "__init__" = some (some (.builtin "ValueError.__init__"))
  ve : PySem.W.subIn K (.ref C) (.type "ValueError") = some true
  opq : PySem.W.nsIn K cStatics "thirdparty.any" = some none
  fld : PySem.W.findIn K (.ref C) fld = some none
  zsup : mg "super" = none
  self : (params.posonlyargs ++ params.args).head?.map (·.arg) = some "self"
  top : (P.main.scope.names.lookup ("super" : Str)).isSome = false
structure InitS (par : Str) : Prop where
  n : NScope ["self", par, "__class__"] ["self", par] ["__class__"] (initSc par)
  sup : (initSc par).names.lookup ("super" : Str) = some .globalImplicit
  cls : (initSc par).names.lookup ("__class__" : Str) = some .free
  vself : (initSc par).names.lookup ("self" : Str) = some .local
  vpar : (initSc par).names.lookup par = some .local
  d1 : (par == ("__debug__" : Str)) = false
  d2 : (par == ("__classdict__" : Str)) = false
variable {CX : CXT} {P : Program} {w : World} {K : PySem.W.Frag} {mg : Str → Option Value} {base : Heap} {k : Nat} {f cc cda C : Addr} {qual : Str} {params : Arguments} {fd : FuncData} {par fld : Str}
  {p0 p1 p2 p3 p4 q0 q1 q2 q3 : Pos} {fs : Expr} {tfs : TE}
/-- the function, as HandS names it -/
abbrev initF (qual : Str) (params : Arguments) (body : List Stmt) (par : Str) (cc cda : Addr) : NF := { name := "__init__", qual := qual, params := params, body := body, scope := initSc par, cl := [("__class__", cc)], c := cda }
abbrev initB (p0 p1 p2 p3 p4 q0 q1 q2 q3 : Pos) (fs : Expr) (par fld : Str) : List Stmt :=
  [.Expr (.Call (.Attribute (.Call (.Name "super" p0) [] [] p1) "__init__" p2) [fs] [] p3) p4, .Assign [.Attribute (.Name "self" q0) fld q1] (.Name par q2) q3]
theorem init_ok (Z : InitK P K mg f cc cda C qual params (initB p0 p1 p2 p3 p4 q0 q1 q2 q3 fs par fld) fd par fld) (S : InitS par)
    (hfs : ∀ (A : Around) (outer : List Env) (s : Shared) (H : Hp) (E : XK), PE (ncx CX P w K mg base ["self", par, "__class__"] (initF qual params (initB p0 p1 p2 p3 p4 q0 q1 q2 q3 fs par fld) par cc cda) f A outer s H E) fs tfs)
    (hst : ∀ env : Env, starEach [fs] env = [(false, eval fs env)])
    {pl : Env → Sem Bool} (hev : ∀ env : Env, eval (.Call (.Attribute (.Call (.Name "super" p0) [] [] p1) "__init__" p2) [fs] [] p3) env = (do
      let o ← attributeBase (.Call (.Name "super" p0) [] [] p1) "__init__" env (eval (.Call (.Name "super" p0) [] [] p1) env)
      standAt p2.atName
      let (g, gs) ← holding [o] (getMethod o "__init__" (pl env))
      callWith p3 g gs (backTo p3 (starEach [fs] env)) []))
    (hrd : ∀ (a : Addr) (y : V) (H : Hp) (Q : VK), Fmt y → (∀ z, Q (.str z) H) → tfs [some (.ref a), some y, some (.ref C)] H Q) :
    FnOk P w K mg base CX (k + 1) f fd ["self", par] (spInit C fld) := by
  obtain ⟨oc, od, osl, dV, kV, doc, pm, ct, an, rfl, lk⟩ := Z.ex
  refine ⟨fun vs H Q E h => by obtain ⟨a, y, rfl, _⟩ := h; rfl, fun A outer s H args us vs Q E hr e0 hb r hsp => ?_⟩
  obtain ⟨a, y, rfl, hy, ha, q⟩ := hsp
  have KX : K.In s.heap := e0.mod.kin.keeps fun b o e => (e0.bs b o e).1
  have lim : s.heap.NoLimit := e0.mod.nolimit.keeps fun b o e => (e0.bs b o e).1
  have hl2 : us.length = 2 := r.length.symm
  refine codeAny_call_function hr.depth (KX _ _ lk) rfl S.n.co S.n.gen rfl (PySem.W.codeRec_of KX Z.code) (hb _ _ _ _ ?_)
  refine wpAny_newFunctionEnv S.n.nocell (fun ⟨n, _⟩ hm => S.n.par n (List.of_mem_zip hm).1) (fun g1 hns hsb => ⟨lim.fresh _ hsb, ?_⟩) S.n.kind
  have kp : ∀ b o, s.heap.get? b = some o → g1.get? b = some o := fun b o e => hsb.extBut b o (Nat.ne_of_lt (Heap.lt_size e)) (Heap.get?_push_of_some _ e)
  obtain ⟨occ, odc, slc, hcell⟩ := Z.cell
  have hC : CellsAt [("__class__", cc)] ["__class__"] [some (.ref C)] s.heap H := by
    refine ⟨rfl, fun y c e => ?_, fun x y c e1 e2 => ?_, fun i y e => ?_⟩
    · have ec : cc = c := by
        by_cases hy2 : y = "__class__"
        · subst hy2; exact Option.some.inj e
        · have hb : (y == ("__class__" : Str)) = false := by simpa using hy2
          simp [List.lookup, hb] at e
      subst ec
      exact ⟨(e0.bs _ _ (e0.mod.kin _ _ hcell)).2, _, _, KX _ _ hcell, rfl⟩
    · have one : ∀ z, List.lookup z [(("__class__" : Str), cc)] = some c → z = "__class__" := fun z e => by
        by_cases hz : z = "__class__"
        · exact hz
        · have hb : (z == ("__class__" : Str)) = false := by simpa using hz
          simp [List.lookup, hb] at e
      rw [one x e1, one y e2]
    · match i, e with
      | 0, e =>
        cases e
        exact ⟨cc, rfl, fun v hv => by cases hv; exact ⟨_, rfl, _, KX _ _ hcell, rfl⟩⟩
      | i + 1, e => cases e
  have I := inv_startN (CX := CX) (N := ["self", par, "__class__"]) (F := initF qual params (initB p0 p1 p2 p3 p4 q0 q1 q2 q3 fs par fld) par cc cda) (f := f) (ws := [some (.ref C)]) (E := E) (tk := s.toks + (List.zip (["self", par] : List Str) us).length) S.n hr.hd e0 rfl r hC hns kp
  refine ks_codeAny_funcAt ?_
  refine ks_wpAt_execs_cons (ks_wpAt_Expr_any (ks_wpAt_MethodCall ?_ (hev _)))
  obtain ⟨ocd, odd, vsd, sld, fl, tfl, hcode, hvs, hfile⟩ := Z.file
  obtain ⟨ar, har, hself⟩ : ∃ ar, (params.posonlyargs ++ params.args).head? = some ar ∧ ar.arg = "self" := by
    have z := Z.self
    cases e : (params.posonlyargs ++ params.args).head? with
    | none => rw [e] at z; cases z
    | some ar => rw [e] at z; exact ⟨ar, rfl, Option.some.inj z⟩
  have X1 : K.In g1 := fun b o e => kp b o (KX b o e)
  obtain ⟨nm, qn, N, bs, bm, sn, sub, ab, col, dd, k0, k1, k2, k3, k5, hK, hbm⟩ := Z.cls.cls
  have hC1 := X1 _ _ hK
  obtain ⟨t1, hx⟩ := exo_at I.hok ha
  have fresh : ∀ {b : Addr} {o : Obj}, g1.get? b = some o → b ≠ g1.objs.size := fun h => Nat.ne_of_lt (Heap.lt_size h)
  have mx : (List.zip (["self", par] : List Str) us).reverse.lookup ("self" : Str) = some (.ref a) := by
    match us, r with
    | [_, _], .cons ra _ =>
      cases ra
      have hne : (("self" : Str) == par) = false := by
        have nd := S.n.nd
        by_cases e : ("self" : Str) = par
        · subst e
          exact absurd nd (by simp)
        · simpa using e
      show List.lookup ("self" : Str) [(par, _), ("self", Value.ref a)] = _
      simp [List.lookup, hne]
  refine ks_wpAt_super_base (env := envX qual (initSc par) s.heap.objs.size f (.ref cda) [("__class__", cc)]) S.sup S.cls rfl rfl (X1 _ _ lk) rfl har rfl (X1 _ _ hcode) rfl hvs hfile Z.top ?_
  obtain ⟨mb, hb1, hb2⟩ := I.mod.blt
  refine ks_loadName_global rfl S.sup (Calls.loadGlobal_builtin (I.mod.glob.keeps I.bk) Z.zsup (hb1.keeps I.bk) ((hb2 "super" (by decide)).trans (by decide +kernel)) ⟨rfl, ?_⟩)
  refine wpAny_loadName_free rfl S.cls rfl ⟨_, X1 _ _ hcell, rfl⟩ ?_
  rw [hself]
  refine wpAny_loadName_local rfl S.vself hns mx ?_
  refine ks_wpAny_isType_cls hC1 rfl ⟨rfl, ?_⟩
  refine ks_wpAny_call_super hC1 rfl hx rfl (fun c e => by cases e) (looks_mroIn X1 Z.me) (fun h2 e2 kp2 => ?_)
  have I2 := I.kept (t' := s.toks + (List.zip (["self", par] : List Str) us).length) kp2
  have X2 : K.In h2 := fun b o e => kp2 _ _ (X1 b o e)
  have J2 : InstAt h2 a ({ cls := .ref C, dict := none, data := .fields #[.ref t1, .none, .none, .none, .bool false, .none] } : Obj) C none := ⟨kp2 _ _ hx, rfl, rfl, trivial⟩
  obtain ⟨cd, hcd⟩ : ∃ cd, clsIn K C = some cd := by
    unfold clsIn
    rw [hK]
    exact ⟨_, rfl⟩
  have hup := Z.up
  unfold ks_superIn at hup
  rw [hcd] at hup
  refine kxs_getMethod kxs_ValueError e2 (looks_opaque X2 Z.opq) (l₀ := cd.mro) (fun _ _ _ _ k q => wpAny_bind ((looks_clsIn X2 hcd) _ _ _ _ k (wpAny_pure q))) rfl X2 hup (J2.type.andThen (looks_subIn X2 Z.ve)) (ks_ne X2 J2 hcd) rfl ?_
  -- the bound __init__ is called
  have kp3 : ∀ b o, h2.get? b = some o → (h2.push (kxs_mw "ValueError.__init__" a)).get? b = some o := fun b o e => Heap.get?_push_of_some _ e
  have eu : (h2.push (kxs_mw "ValueError.__init__" a)).get? h2.objs.size = some (kxs_mw "ValueError.__init__" a) := Heap.get?_push_at rfl rfl
  have I3 := I2.kept (t' := s.toks + (List.zip (["self", par] : List Str) us).length + 1) kp3
  have I3p := I3.pinned (fp := [h2.objs.size]) (fun b hb => by
    rcases List.mem_singleton.mp hb with rfl
    exact I2.fpOk (Nat.le_refl _) (I2.hok.fresh (Nat.le_refl _))) (fun b hb => by
    rcases List.mem_singleton.mp hb with rfl
    exact ⟨_, eu, fun v e => by cases e⟩)
  have pa := (pa_cons (hfs A outer s H E) pa_nil (hst _)).run p3 _ _ _ H (fun xs H' => ∃ z, xs = [.str z] ∧ H' = H) I3p (hrd a y H _ hy fun z => ⟨z, rfl, rfl⟩)
  rw [hst] at pa
  rw [hst]
  refine kxs_callWith (i := "ValueError.__init__") (x := a) rfl ?_
  refine Calls.evalArgs_plain (wpAny_mono pa (fun vs s4 hv => ?_) fun e s' he => ?_)
  · obtain ⟨xs, H4, I4, rv, z, rfl, rfl⟩ := hv
    obtain ⟨pu, _⟩ := I4.pin (h2.objs.size, kxs_mw "ValueError.__init__" a) (List.mem_append_right _ (mem_pinsAt (List.mem_singleton.mpr rfl) eu))
    refine ⟨pu, ?_⟩
    obtain ⟨t4, hx4⟩ := exo_at I4.hok ha
    have X4 : K.In s4.heap := I4.kIn
    obtain ⟨h4, g4, d4, tk4, os4⟩ := s4
    have hvl : vs.length ≤ sizeLine := by
      rw [← rv.length]
      exact line_small (by show 1 ≤ 100000; decide)
    -- the method-wrapper's call
    refine wpAny_call (codeAny_of_tree ?_)
    show wpAny _ (Around.in1 _) (callAny (.ref h2.objs.size) ⟨vs, []⟩) _ _ _
    simp only [callAny]
    refine wpAny_bind (wpAny_load pu ?_)
    simp only [kxs_mw, show (Value.type "method-wrapper" == Value.type "method" || Value.type "method-wrapper" == Value.type "builtin_function_or_method" || Value.type "method-wrapper" == Value.type "method-wrapper") = true by decide, if_true]
    refine KFB.if_so (by decide) ?_
    refine wpAny_bind (check_bound_init PySem.F.excBase_ValueError.toExcCallFacts (X4 _ _ hK) hx4 rfl ?_)
    refine wpAny_bind (wpAny_pure (wpAny_pure ?_))
    refine ⟨plainId_quiet PySem.F.excBase_ValueError.init.plain _, codeAny_builtin PySem.F.excBase_ValueError.initEntry ?_⟩
    refine exc_init_tree (cls := .ref C) (t0 := t4) (dv := none) (c2 := .none) (c3 := .none) (b4 := .bool false) hx4 hvl (fun h5 k5 e5 _ => ?_)
    have J5 := (I4.write (t' := tk4) (x := a) (e := a) (o := exo a C none) (by rw [ha]; exact True.intro) (.inl rfl) k5 ⟨_, e5⟩ (exo_ok e5)).unpinned
    have eH : upd H4 a (exo a C none) = H4 := by
      funext b
      by_cases hb : b = a
      · rw [hb, upd_same, ha]
      · rw [upd_ne hb]
    rw [eH] at J5
    have ps := (pss_one (ps_ost (X := ncx CX P w K mg base ["self", par, "__class__"] (initF qual params (initB p0 p1 p2 p3 p4 q0 q1 q2 q3 fs par fld) par cc cda) f A outer s H4 E) (p' := q1) (pos := q3) (f := fld)
      (pe_var (i := 0) (pos := q0) (x := "self") rfl (.inl S.vself)) (pe_var (i := 1) (pos := q2) (x := par) rfl (.inl S.vpar) S.d1 S.d2) rfl)).run [] _ _ H4 { nx := fun _ H' => Q .non H', rt := Q } J5
      ⟨y, rfl, .ref a, rfl, a, C, rfl, Z.cls, Z.fld, .inl ⟨ha, fun dx n1 n2 => q dx n1 n2⟩⟩
    refine _root_.PySem.wpAt_of_wpAny (wpAny_mono ps (fun fl s' hs => ?_) fun e s' hs => hs)
    cases fl with
    | ret u =>
      obtain ⟨v, σ', H', J, rv, q⟩ := hs
      exact ⟨v, H', J.os, J.bare, J.base, J.hok, rv, q⟩
    | next =>
      obtain ⟨σ', H', J, q⟩ := hs
      exact ⟨.non, H', J.os, J.bare, J.base, J.hok, rfl, q⟩
    | brk =>
      obtain ⟨_, _, _, q⟩ := hs
      exact False.elim q
    | cont =>
      obtain ⟨_, _, _, q⟩ := hs
      exact False.elim q
  · exact he
end
/-! ### errors held as values -/
section
variable {X : Cx} {o e : Expr} {to te : TE} {ta : TA} {f : Str} {p pos : Pos}
/-- C(e), C's own __init__ keeping sp: the new error as a value -/
def tMkV (C : Addr) (sp : Sp) (ta : TA) : TE := fun σ H Q => ta σ H fun vs H1 => vs.length ≤ 1000 ∧ ∀ a, H1 a = none → sp (.ref a :: vs) (upd H1 a (exo a C none)) (fun v H2 => v = .non ∧ Q (.ref a) H2) E0
theorem pe_oex {x : Str} {C fI : Addr} {k : Nat} {fd : FuncData} {ps : List Str} {sp : Sp} (T : OexC X.K C) (iC : PySem.W.findIn X.K (.ref C) "__init__" = some (some (.ref fI))) (tI : PySem.W.typeIn X.K (.ref fI) = some (.type "function"))
    (G : FnOk X.prog X.w X.K X.mg X.base CX0 k fI fd ps sp) (hr : Room (k + 1) X.A) (hb : Binds X.K fd ps []) (hg : Gl X x) (hm : X.mg x = some (.ref C)) (ha : PE X e te)
    (hst : starEach [e] X.env = (false, eval e X.env) :: starEach [] X.env := by rfl) (hdb : (x == ("__debug__" : Str)) = false := by decide) :
    PE X (.Call (.Name x p) [e] [] pos) (tMkV C sp (tCons te tNil)) := by
  refine ⟨fun pins s σ H Q I h => ?_⟩
  obtain ⟨nm, q, N, bs, bm, sn, sub, ab, col, dd, k0, k1, k2, k3, k5, hC, hbm⟩ := T.cls
  refine wpAny_Call_Name_kw (ld_glob I hg hm ?_ hdb)
  refine PySem.W.callWith_K (h₀ := X.base) I.ok.mod.kin T.kC (thn ((pa_cons ha pa_nil hst).run pos pins s σ H _ I h) fun us s1 ⟨vs, H1, I1, r1, hz, q1⟩ => ⟨I1.kIn, ?_⟩) hst rfl
  show wpAny _ _ (call (.ref C) us) _ _ _
  obtain ⟨hp, g, dr, tk, os⟩ := s1
  have h1 : hp.objs.size ≤ hp.objs.size + 1 := Nat.le_succ _
  have q2 := q1 (hp.objs.size + 1) (I1.hok.fresh h1)
  have up2 : ∀ b o, hp.get? b = some o → ((hp.push (PySem.W.kdv_tup us)).push (PySem.HandSPX.excO C hp.objs.size)).get? b = some o := fun b o z => Heap.get?_push_of_some _ (Heap.get?_push_of_some _ z)
  have here : ((hp.push (PySem.W.kdv_tup us)).push (PySem.HandSPX.excO C hp.objs.size)).get? (hp.objs.size + 1) = some (PySem.HandSPX.excO C hp.objs.size) := by heap_get
  have I2 := I1.laid (t' := tk) (a := hp.objs.size + 1) (o := exo (hp.objs.size + 1) C none) (h' := (hp.push (PySem.W.kdv_tup us)).push (PySem.HandSPX.excO C hp.objs.size)) up2 h1 (exo_ok here)
  have r2 : Vals (V.ref (hp.objs.size + 1) :: vs) (Value.ref (hp.objs.size + 1) :: us) := .cons rfl r1
  have len2 : (Value.ref (hp.objs.size + 1) :: us ++ []).length = ps.length := by
    rw [List.append_nil, ← r2.length]
    exact G.len _ _ _ _ q2
  have usl : us.length ≤ sizeLine := by
    rw [← Paired.length r1]
    exact line_small (by omega)
  have bd := hb ⟨(hp.push (PySem.W.kdv_tup us)).push (PySem.HandSPX.excO C hp.objs.size), g, dr, tk, os⟩ (Value.ref (hp.objs.size + 1) :: us) I2.kIn len2
  rw [List.append_nil] at bd
  refine wpAny_call (PySem.HandSPX.call_own F.excBase_ValueError (fun Y => PySem.HandSPX.refsVE_contains Y bm hbm) (I1.kIn _ _ hC) (PySem.W.looks_findIn I1.kIn iC) (fun self => PySem.W.bind_fn I1.kIn self tI) usl
    (codeAny_mono (G.run _ X.stack _ _ ⟨Value.ref (hp.objs.size + 1) :: us, []⟩ _ _ _ E0 (hr.make C us []) (I2.env0.make C us []) bd r2 q2) fun r s' hq => ?_))
  cases r with
  | error er => exact hq.elim
  | ok fl =>
    cases fl with
    | ret u =>
      obtain ⟨v, H3, I3, rv, ev, q3⟩ := I2.after hq
      subst ev
      exact ⟨rv, .ref _, H3, I3, rfl, q3⟩
    | next => exact False.elim hq
    | brk => exact False.elim hq
    | cont => exact False.elim hq
/-- C(), C without an own __init__ -/
theorem pe_exc0 {x : Str} {C : Addr} {bmB : List Value} {B newId initId : String} (F : ExcBaseFacts B newId initId bmB) (q : PySem.W.excIn X.K C bmB newId = true) (gC : X.mg x = some (.ref C)) (kC : PySem.W.keepIn X.K (.ref C) = true) (hg : Gl X x)
    (hdb : (x == ("__debug__" : Str)) = false := by decide) :
    PE X (.Call (.Name x p) [] [] pos) (fun _ H Q => ∀ a, H a = none → Q (.ref a) (upd H a (ExO (.ref C) a))) := by
  refine ⟨fun pins s σ H Q I h => ?_⟩
  refine wpAny_Call_Name_kw (ld_glob I hg gC ?_ hdb)
  refine PySem.W.callWith_K0 I.kIn kC ?_
  show wpAny _ _ (call (.ref C) []) _ _ _
  obtain ⟨bm, N, nm, qn, bs, hdct, sn, sub, ab, col, dd, k0, k1, k2, k3, k5, mN, hC, hN, hni, T⟩ := exc_obj I.kIn q
  refine wpAny_call_exc_subT F T hC hN hni (fun h' a hm => ?_) (Nat.zero_le _)
  have hn : H a = none := I.hok.gone hm.new
  obtain ⟨t, ht, _, _⟩ := hm.there
  exact ⟨.ref a, upd H a (ExO (.ref C) a), I.laidN hm.keeps hm.new hn (exO_ok ht ⟨rfl, rfl⟩ rfl rfl rfl (show 4 < 6 by decide)), rfl, h a hn⟩
/-- what stands at an error's address: one with an own __init__, before and behind it, or one without -/
def ErrO (H : Hp) (C a : Addr) : Prop := H a = some (exo a C none) ∨ (∃ d fs, H a = some (exo a C (some d)) ∧ H d = some (exd d fs)) ∨ H a = some (ExO (.ref C) a)
/-- what the written part says of an error class, for isinstance -/
structure ErrC (K : PySem.W.Frag) (C : Addr) : Prop where
  cl : (PySem.W.clsIn K C).isSome = true
  ga : PySem.W.findIn K (.ref C) "__getattribute__" = some (some (.builtin "BaseException.__getattribute__"))
  gt : PySem.W.findIn K (.ref C) "__getattr__" = some none
  sb : PySem.W.subIn K (.ref C) (.type "BaseException") = some true
  ca : PySem.W.findIn K (.ref C) "__class__" = some (some (.builtin "object.__class__"))
  cn : PySem.W.specialIn K (.builtin "object.__class__") "__get__" = some (some (.builtin "getset_descriptor.__get__"))
  ct : PySem.W.takesIn K (.builtin "object.__class__") = some true
  cm : PySem.W.mroIn K C (.type "object") = some true
  hd : PySem.W.hasDictIn K C = true
theorem err_inst {pins : List (Addr × Obj)} {σ : L2.St} {H : Hp} {s : Shared} {C a : Addr} (I : Inv X pins σ H s) (h : ErrO H C a) : ∃ ox od, PySem.W.InstAt s.heap a ox C od := by
  rcases h with h | ⟨d, fs, h, hd⟩ | h
  · obtain ⟨t, e⟩ := exo_at I.hok h
    exact ⟨_, none, e, rfl, rfl, True.intro⟩
  · obtain ⟨t, e⟩ := exo_at I.hok h
    obtain ⟨mA, hns, _⟩ := exd_at I.hok hd
    obtain ⟨od, es, ep, e2, _⟩ := hns
    exact ⟨_, some od, e, rfl, rfl, e2⟩
  · obtain ⟨⟨oe, vs, e, z, d, _⟩, _, _⟩ := I.hok a _ h
    refine ⟨oe, none, e, z.1, ?_, ?_⟩
    · unfold PySem.W.notCls
      rw [d]
    · rw [z.2]
      exact True.intro
/-- isinstance of an error, of one class -/
def rIsE (K : PySem.W.Frag) : List V → Hp → VK → Prop := fun xs H Q => ∃ (a C : Addr) (c : V) (u : Value) (b : Bool), xs = [.ref a, c] ∧ ClsV c u ∧ ErrC K C ∧ ErrO H C a ∧ PySem.W.kitOne K (.ref C) u = some b ∧ Q (.bl b) H
theorem call_isE : CallR X (.builtin "isinstance") (rIsE X.K) := by
  intro pins s σ H xs us Q I r h
  obtain ⟨a, C, c, u, b, rfl, kc, T, he, e, q⟩ := h
  obtain ⟨u1, u2, rfl, r1, r2⟩ := vals2 r
  have e2 := kc.eq r2
  subst e2
  cases r1
  obtain ⟨ox, od, J⟩ := err_inst I he
  exact PySem.W.kia_one (PySem.W.kitx_exc T.cl T.ga T.gt T.sb T.ca T.cn T.ct T.cm) I.kIn J e (fun z => nomatch z) fun tk => ⟨.bl b, H, I.tok tk, rfl, q⟩
/-- e.f of an error held as a value -/
def tEf (K : PySem.W.Frag) (f : Str) (te : TE) : TE := fun σ H Q => te σ H fun x H1 => ∃ (a C d : Addr) (fs : List (Str × V)) (v : V), x = .ref a ∧ ErrC K C ∧ PySem.W.findIn K (.ref C) f = some none ∧ H1 a = some (exo a C (some d)) ∧ H1 d = some (exd d fs) ∧ fs.lookup f = some v ∧ Q v H1
theorem pe_ef (he : PE X e te) (hb : attributeBase e f X.env (eval e X.env) = eval e X.env := by rfl) : PE X (.Attribute e f pos) (tEf X.K f te) := by
  refine ⟨fun pins s σ H Q I h => ?_⟩
  refine attr_of hb (thn (he.run pins s σ H _ I h) fun u s1 hh => ?_)
  obtain ⟨x, H1, I1, rx, a, C, d, fs, v, rfl, T, hno, ha, hd, l, q⟩ := hh
  cases rx
  obtain ⟨t, e1⟩ := exo_at I1.hok ha
  obtain ⟨mA, hns, hr⟩ := exd_at I1.hok hd
  obtain ⟨od, ho, hl⟩ := lookIn_ns hns
  obtain ⟨u, hu, ru⟩ := RelO.some_of (v := v) (o := mA f) (by rw [← l]; exact hr f)
  have J : PySem.W.InstAt s1.heap a ({ cls := .ref C, dict := some d, data := .fields #[.ref t, .none, .none, .none, .bool false, .none] } : Obj) C (some od) := ⟨e1, rfl, rfl, ho⟩
  exact HandSPX.exc_get I1.kIn J T.ga T.gt T.sb (PySem.W.findObj_own T.hd hno rfl (by rw [hl, hu])) (handed_of ru) ⟨v, H1, I1.tok _, ru, q⟩
/-- the promise of an error's __init__, whatever heap it leaves -/
def spInitA (C : Addr) (fld : Str) : Sp := fun vs H Q _ => ∃ (a : Addr) (y : V), vs = [.ref a, y] ∧ Fmt y ∧ H a = some (exo a C none) ∧
  ∀ (d : Addr) (H' : Hp), (∀ b o, H b = some o → b ≠ a → H' b = some o) → H' a = some (exo a C (some d)) → H' d = some (exd d [(fld, y)]) → H d = none → Q .non H'
theorem initA {C : Addr} {fld : Str} (vs : List V) (H : Hp) (Q : VK) (E : XK) (h : spInitA C fld vs H Q E) : spInit C fld vs H Q E := by
  obtain ⟨a, y, rfl, hy, ha, q⟩ := h
  refine ⟨a, y, rfl, hy, ha, fun d n k => q d _ (fun b o e ne => ?_) upd_same ((upd_ne k).trans upd_same) n⟩
  rw [upd_ne ne, upd_ne (ne_of_none e n)]
  exact e
theorem same_made {H H' : Hp} {a : Addr} {o : HO} (n : H a = none) (k : ∀ b u, upd H a o b = some u → b ≠ a → H' b = some u) : Same H H' := fun b u e =>
  k b u (by rw [upd_ne (ne_of_none e n)]; exact e) (ne_of_none e n)
end
/-! ### the facts of error classes, by one look each -/
def errB (K : PySem.W.Frag) (C : Addr) : Bool := (PySem.W.clsIn K C).isSome && decide (PySem.W.findIn K (.ref C) "__getattribute__" = some (some (.builtin "BaseException.__getattribute__"))) && decide (PySem.W.findIn K (.ref C) "__getattr__" = some none) &&
  decide (PySem.W.subIn K (.ref C) (.type "BaseException") = some true) && decide (PySem.W.findIn K (.ref C) "__class__" = some (some (.builtin "object.__class__"))) && decide (PySem.W.specialIn K (.builtin "object.__class__") "__get__" = some (some (.builtin "getset_descriptor.__get__"))) &&
  decide (PySem.W.takesIn K (.builtin "object.__class__") = some true) && decide (PySem.W.mroIn K C (.type "object") = some true) && PySem.W.hasDictIn K C
theorem errB_ok {K : PySem.W.Frag} {C : Addr} (h : errB K C = true) : ErrC K C := by
  unfold errB at h
  simp only [Bool.and_eq_true, decide_eq_true_eq] at h
  obtain ⟨⟨⟨⟨⟨⟨⟨⟨h1, h2⟩, h3⟩, h4⟩, h5⟩, h6⟩, h7⟩, h8⟩, h9⟩ := h
  exact ⟨h1, h2, h3, h4, h5, h6, h7, h8, h9⟩
/-- the class with this number -/
def clsAt (l : List (Nat × Addr)) (n : Nat) : Addr := match l.lookup n with
  | some a => a
  | none => 0
def errsB (K : PySem.W.Frag) (c : Nat → Addr) (ids : List Nat) (up : Nat → Nat → Bool) : Bool := ids.all fun i => PySem.W.keepIn K (.ref (c i)) && errB K (c i) && decide (PySem.W.kitOne K (.ref (c i)) (.type "ValueError") = some true) &&
  ids.all fun j => decide (PySem.W.kitOne K (.ref (c i)) (.ref (c j)) = some (up i j))
theorem errsB_ok {K : PySem.W.Frag} {c : Nat → Addr} {ids : List Nat} {up : Nat → Nat → Bool} (h : errsB K c ids up = true) : (∀ i ∈ ids, PySem.W.keepIn K (.ref (c i)) = true) ∧ (∀ i ∈ ids, ErrC K (c i)) ∧
    (∀ i ∈ ids, ∀ j ∈ ids, PySem.W.kitOne K (.ref (c i)) (.ref (c j)) = some (up i j)) ∧ ∀ i ∈ ids, PySem.W.kitOne K (.ref (c i)) (.type "ValueError") = some true := by
  unfold errsB at h
  rw [List.all_eq_true] at h
  have z : ∀ i ∈ ids, PySem.W.keepIn K (.ref (c i)) = true ∧ ErrC K (c i) ∧ PySem.W.kitOne K (.ref (c i)) (.type "ValueError") = some true ∧ ∀ j ∈ ids, PySem.W.kitOne K (.ref (c i)) (.ref (c j)) = some (up i j) := fun i hi => by
    have q := h i hi
    simp only [Bool.and_eq_true, decide_eq_true_eq, List.all_eq_true] at q
    exact ⟨q.1.1.1, errB_ok q.1.1.2, q.1.2, q.2⟩
  exact ⟨fun i hi => (z i hi).1, fun i hi => (z i hi).2.1, fun i hi => (z i hi).2.2.2, fun i hi => (z i hi).2.2.1⟩
/-- an __init__'s facts -/
def initB' (K : PySem.W.Frag) (C : Addr) (fld : Str) : Bool := decide (PySem.W.mroIn K C (.ref C) = some true) && decide (PySem.W.ks_superIn K C C "__init__" = some (some (.builtin "ValueError.__init__"))) && decide (PySem.W.subIn K (.ref C) (.type "ValueError") = some true) &&
  decide (PySem.W.findIn K (.ref C) fld = some none) && decide (PySem.W.findIn K (.ref C) "__setattr__" = some (some (.builtin "object.__setattr__"))) && decide (PySem.W.subIn K (.ref C) (.type "BaseException") = some true) && decide (PySem.W.typeIn K (.ref C) = some (.type "type"))
theorem initB_ok {K : PySem.W.Frag} {C : Addr} {fld : Str} (h : initB' K C fld = true) : PySem.W.mroIn K C (.ref C) = some true ∧ PySem.W.ks_superIn K C C "__init__" = some (some (.builtin "ValueError.__init__")) ∧ PySem.W.subIn K (.ref C) (.type "ValueError") = some true ∧
    PySem.W.findIn K (.ref C) fld = some none ∧ PySem.W.findIn K (.ref C) "__setattr__" = some (some (.builtin "object.__setattr__")) ∧ PySem.W.subIn K (.ref C) (.type "BaseException") = some true ∧ PySem.W.typeIn K (.ref C) = some (.type "type") := by
  unfold initB' at h
  simp only [Bool.and_eq_true, decide_eq_true_eq] at h
  obtain ⟨⟨⟨⟨⟨⟨h1, h2⟩, h3⟩, h4⟩, h5⟩, h6⟩, h7⟩ := h
  exact ⟨h1, h2, h3, h4, h5, h6, h7⟩

def errsB2 (K : PySem.W.Frag) (c : Nat → Addr) (m : Nat) (ids : List Nat) : Bool := ids.all fun i => decide (PySem.W.typeIn K (.ref (c i)) = some (.type "type")) && decide (PySem.W.subIn K (.ref (c i)) (.ref (c m)) = some true)
theorem errsB2_ok {K : PySem.W.Frag} {c : Nat → Addr} {m : Nat} {ids : List Nat} (h : errsB2 K c m ids = true) : (∀ i ∈ ids, PySem.W.typeIn K (.ref (c i)) = some (.type "type")) ∧ ∀ i ∈ ids, PySem.W.subIn K (.ref (c i)) (.ref (c m)) = some true := by
  unfold errsB2 at h
  rw [List.all_eq_true] at h
  refine ⟨fun i hi => ?_, fun i hi => ?_⟩
  · have q := h i hi
    simp only [Bool.and_eq_true, decide_eq_true_eq] at q
    exact q.1
  · have q := h i hi
    simp only [Bool.and_eq_true, decide_eq_true_eq] at q
    exact q.2
def errIds : List Nat := [2, 3, 4]
def errChains : List (Nat × List Nat) := [(2, [2]), (3, [3, 2]), (4, [4, 3, 2])]
def errUp (i j : Nat) : Bool := match errChains.lookup i with | some l => l.contains j | none => false
/-- an error class's __init__ as it stands behind the top -/
def InitAt (P : Program) (K : PySem.W.Frag) (mg : Str → Option Value) (C : Addr) (st : Stmt) (par fld : Str) : Prop := ∃ (f cc cda : Addr) (fd : FuncData) (qual : Str), InitK P K mg f cc cda C qual (defArgs st) (defBody st) fd par fld ∧
  PySem.W.findIn K (.ref C) "__init__" = some (some (.ref f)) ∧ PySem.W.typeIn K (.ref f) = some (.type "function") ∧ Binds K fd ["self", par] []
/-- what a call of such a class needs -/
def HasI (P : Program) (w : World) (K : PySem.W.Frag) (mg : Str → Option Value) (base : Heap) (C : Addr) (par fld : Str) : Prop := ∃ (f : Addr) (fd : FuncData), FnOk P w K mg base CX0 1 f fd ["self", par] (spInitA C fld) ∧
  PySem.W.findIn K (.ref C) "__init__" = some (some (.ref f)) ∧ PySem.W.typeIn K (.ref f) = some (.type "function") ∧ Binds K fd ["self", par] []
theorem log_small {n : Nat} (h : n < 2 ^ 64) : n.log2 < 1920 := by
  by_cases e : n = 0
  · rw [e]
    decide
  · exact (Nat.log2_lt e).mpr (Nat.lt_of_lt_of_le h (Nat.pow_le_pow_right (by decide) (by decide)))
theorem fj2 {s1 : Str} (h1 : s1.length ≤ 1000) {a C : Addr} {y : V} {H : Hp} {Q : VK} (hy : Fmt y) (q : ∀ z, Q (.str z) H) : tJs [tC (.str s1), tFmt (tVar 1)] Str.empty [some (.ref a), some y, some (.ref C)] H (fun out H1 => Q (.str out) H1) := by
  have e1 : (Str.empty ++ s1).length = s1.length := by rw [app_len]; exact Nat.zero_add _
  refine ⟨s1, rfl, by rw [e1]; exact line_small (by omega), y, rfl, ?_⟩
  rcases hy with ⟨z, rfl, hz⟩ | ⟨i, rfl, hi⟩
  · exact .inl ⟨z, rfl, line_small hz, z, rfl, by rw [app_len, e1]; exact Nat.le_trans (by omega) (show 101000 ≤ sizeLine by decide), q _⟩
  · have hl := log_small hi
    exact .inr ⟨i, rfl, hl, _, rfl, by rw [app_len, e1]; exact Nat.le_trans (Nat.add_le_add h1 (int_text_len_1921 hl)) (show 2921 ≤ sizeLine by decide), q _⟩
theorem fj3 {s1 s2 : Str} (h1 : s1.length ≤ 1000) (h2 : s2.length ≤ 1000) {a C : Addr} {y : V} {H : Hp} {Q : VK} (hy : Fmt y) (q : ∀ z, Q (.str z) H) : tJs [tC (.str s1), tFmt (tVar 1), tC (.str s2)] Str.empty [some (.ref a), some y, some (.ref C)] H (fun out H1 => Q (.str out) H1) := by
  have e1 : (Str.empty ++ s1).length = s1.length := by rw [app_len]; exact Nat.zero_add _
  refine ⟨s1, rfl, by rw [e1]; exact line_small (by omega), y, rfl, ?_⟩
  rcases hy with ⟨z, rfl, hz⟩ | ⟨i, rfl, hi⟩
  · exact .inl ⟨z, rfl, line_small hz, z, rfl, by rw [app_len, e1]; exact Nat.le_trans (by omega) (show 101000 ≤ sizeLine by decide), s2, rfl, by rw [app_len, app_len, e1]; exact Nat.le_trans (by omega) (show 102000 ≤ sizeLine by decide), q _⟩
  · have hl := log_small hi
    have hs := int_text_len_1921 hl
    exact .inr ⟨i, rfl, hl, _, rfl, by rw [app_len, e1]; exact Nat.le_trans (Nat.add_le_add h1 hs) (show 2921 ≤ sizeLine by decide), s2, rfl, by rw [app_len, app_len, e1]; exact Nat.le_trans (Nat.add_le_add (Nat.add_le_add h1 hs) h2) (show 3921 ≤ sizeLine by decide), q _⟩
structure Txt (P : Program) (K : PySem.W.Frag) (mg : Str → Option Value) (c : Nat → Addr) : Prop where
  z_ValueError : mg "ValueError" = none
  z_all : mg "all" = none
  z_any : mg "any" = none
  z_bool : mg "bool" = none
  z_enumerate : mg "enumerate" = none
  z_int : mg "int" = none
  z_isinstance : mg "isinstance" = none
  z_len : mg "len" = none
  z_list : mg "list" = none
  z_range : mg "range" = none
  z_set : mg "set" = none
  z_str : mg "str" = none
  z_super : mg "super" = none
  z_tuple : mg "tuple" = none
  z_zip : mg "zip" = none
  d__wall : DefAt K mg "_wall" s__wall ["k"]
  d_frozen : DefAt K mg "frozen" s_frozen ["value"]
  d_product_of : DefAt K mg "product_of" s_product_of ["sizes"]
  d_in_sight : DefAt K mg "in_sight" s_in_sight ["variables", "procedure"]
  d_bodies_of : DefAt K mg "bodies_of" s_bodies_of ["statement"]
  d_expressions_of : DefAt K mg "expressions_of" s_expressions_of ["statement"]
  d_statements_of : DefAt K mg "statements_of" s_statements_of ["body"]
  d_is_deeper : DefAt K mg "is_deeper" s_is_deeper ["expression", "limit"]
  d_leaves_of : DefAt K mg "leaves_of" s_leaves_of ["expression"]
  d_lay_out : DefAt K mg "lay_out" s_lay_out ["answers", "variables", "procedures"]
  d_body_length : DefAt K mg "body_length" s_body_length ["body"]
  d_body_ways : DefAt K mg "body_ways" s_body_ways ["body", "first", "behind"]
  d_statement_ways : DefAt K mg "statement_ways" s_statement_ways ["statement", "point", "follows"]
  d_aims_of : DefAt K mg "aims_of" s_aims_of ["statement", "sight", "answers", "procedures"]
  d_point_row : DefAt K mg "point_row" s_point_row ["statement", "sight", "names", "places", "ways"]
  d_slot_of : DefAt K mg "slot_of" s_slot_of ["sight", "name"]
  d_letters_reason : DefAt K mg "letters_reason" s_letters_reason ["letters", "answers"]
  d_is_name : DefAt K mg "is_name" s_is_name ["text"]
  d_first_reason : DefAt K mg "first_reason" s_first_reason ["letters", "answers", "variables", "procedures"]
  d_count_reason : DefAt K mg "count_reason" s_count_reason ["variables", "procedures"]
  d_has_many_variables : DefAt K mg "has_many_variables" s_has_many_variables ["procedure"]
  d_declaration_reason : DefAt K mg "declaration_reason" s_declaration_reason ["variables", "procedures"]
  d_shape_reason : DefAt K mg "shape_reason" s_shape_reason ["procedures"]
  d_meaning_reason : DefAt K mg "meaning_reason" s_meaning_reason ["letters", "variables", "procedures"]
  d_has_wrong_number : DefAt K mg "has_wrong_number" s_has_wrong_number ["statement"]
  d_has_unknown : DefAt K mg "has_unknown" s_has_unknown ["statement", "sizes", "many"]
  d_is_wrong_call : DefAt K mg "is_wrong_call" s_is_wrong_call ["statement", "main", "many"]
  d_sights_of : DefAt K mg "sights_of" s_sights_of ["sizes"]
  d__law_cell : DefAt K mg "_law_cell" s__law_cell ["script", "k"]
  d__law_reader : DefAt K mg "_law_reader" s__law_reader ["cell"]
  d__law_next : DefAt K mg "_law_next" s__law_next ["reader", "size"]
  d__law_same : DefAt K mg "_law_same" s__law_same ["told", "due"]
  d__law_word : DefAt K mg "_law_word" s__law_word ["reader", "many"]
  d__law_pool : DefAt K mg "_law_pool" s__law_pool ["reader"]
  d__law_declared : DefAt K mg "_law_declared" s__law_declared ["reader", "pool", "start", "many", "room"]
  d__law_heads : DefAt K mg "_law_heads" s__law_heads ["reader", "most"]
  d__law_put : DefAt K mg "_law_put" s__law_put ["row", "k", "part"]
  d__law_headed : DefAt K mg "_law_headed" s__law_headed ["parts", "number", "part", "thing"]
  d__law_loose : DefAt K mg "_law_loose" s__law_loose ["body"]
  d__law_spoil : DefAt K mg "_law_spoil" s__law_spoil ["body"]
  d__law_made : DefAt K mg "_law_made" s__law_made ["parts", "form"]
  d__law_sights : DefAt K mg "_law_sights" s__law_sights ["sizes"]
  d_law : DefAt K mg "law" s_law ["script"]
  g_Program : mg "Program" = some (.ref (c 56))
  cl_Program : Cls K (c 56)
  ins_Program : C8.InsC K (c 56)
  n_Program_letters : NoAttr K (c 56) "letters"
  n_Program_answers : NoAttr K (c 56) "answers"
  n_Program_variables : NoAttr K (c 56) "variables"
  n_Program_procedures : NoAttr K (c 56) "procedures"
  n_Program__names : NoAttr K (c 56) "_names"
  n_Program__sizes : NoAttr K (c 56) "_sizes"
  n_Program__sights : NoAttr K (c 56) "_sights"
  n_Program_places : NoAttr K (c 56) "places"
  n_Program__points : NoAttr K (c 56) "_points"
  d_Program_init : ∃ (f : Addr) (fd : FuncData), Fun K "__init__" "Program.__init__" s_Program_init f fd ∧ Mk K (c 56) f ∧ Binds K fd ["self", "letters", "answers", "variables", "procedures"] []
  d_Program_names : ∃ (f : Addr) (fd : FuncData), Fun K "names" "Program.names" s_Program_names f fd ∧ Meth K (c 56) "names" f ∧ Binds K fd ["self", "procedure"] []
  d_Program_sizes : ∃ (f : Addr) (fd : FuncData), Fun K "sizes" "Program.sizes" s_Program_sizes f fd ∧ Meth K (c 56) "sizes" f ∧ Binds K fd ["self", "procedure"] []
  d_Program_sights : ∃ (f : Addr) (fd : FuncData), Fun K "sights" "Program.sights" s_Program_sights f fd ∧ Meth K (c 56) "sights" f ∧ Binds K fd ["self", "procedure"] []
  d_Program_points : ∃ (f : Addr) (fd : FuncData), Fun K "points" "Program.points" s_Program_points f fd ∧ Meth K (c 56) "points" f ∧ Binds K fd ["self", "procedure"] []
  c_LEAVES : ∃ a, mg "LEAVES" = some (.ref a) ∧ KTup K a [.str "number", .str "name"]
  c_MOST_LETTERS : ∃ t, mg "MOST_LETTERS" = some (.int 3 t)
  c_LEAST_ANSWERS : ∃ t, mg "LEAST_ANSWERS" = some (.int 2 t)
  c_MOST_ANSWERS : ∃ t, mg "MOST_ANSWERS" = some (.int 4 t)
  c_LETTERS : ∃ t, mg "LETTERS" = some (.str "abcdefghijklmnopqrstuvwxyz" t)
  c_WORD_CHARACTERS : ∃ t, mg "WORD_CHARACTERS" = some (.str "abcdefghijklmnopqrstuvwxyz0123456789" t)
  c_LONGEST_NAME : ∃ t, mg "LONGEST_NAME" = some (.int 8 t)
  c_KEYWORDS : ∃ a, mg "KEYWORDS" = some (.ref a) ∧ KTup K a [.str "letters", .str "answers", .str "global", .str "proc", .str "local", .str "read", .str "write", .str "if", .str "then", .str "else", .str "while", .str "do", .str "call", .str "skip", .str "end", .str "and", .str "or", .str "not"]
  c_MOST_PROCEDURES : ∃ t, mg "MOST_PROCEDURES" = some (.int 5 t)
  c_MOST_GLOBALS : ∃ t, mg "MOST_GLOBALS" = some (.int 4 t)
  c_MOST_PARAMETERS : ∃ t, mg "MOST_PARAMETERS" = some (.int 3 t)
  c_MOST_LOCALS : ∃ t, mg "MOST_LOCALS" = some (.int 3 t)
  c_LEAST_SIZE : ∃ t, mg "LEAST_SIZE" = some (.int 2 t)
  c_MOST_SIZE : ∃ t, mg "MOST_SIZE" = some (.int 4 t)
  c_MOST_SIGHTS : ∃ t, mg "MOST_SIGHTS" = some (.int 64 t)
  c_MOST_STATEMENTS : ∃ t, mg "MOST_STATEMENTS" = some (.int 60 t)
  c_MOST_NESTING : ∃ t, mg "MOST_NESTING" = some (.int 6 t)
  c_MOST_DEPTH : ∃ t, mg "MOST_DEPTH" = some (.int 5 t)
  c_MOST_NUMBER : ∃ t, mg "MOST_NUMBER" = some (.int 9 t)
  g_MendError : mg "MendError" = some (.ref (c 2))
  g_InvalidInput : mg "InvalidInput" = some (.ref (c 3))
  g_InvalidProgram : mg "InvalidProgram" = some (.ref (c 4))
  kp : ∀ i ∈ errIds, PySem.W.keepIn K (.ref (c i)) = true
  er : ∀ i ∈ errIds, ErrC K (c i)
  isa : ∀ i ∈ errIds, ∀ j ∈ errIds, PySem.W.kitOne K (.ref (c i)) (.ref (c j)) = some (errUp i j)
  ve : ∀ i ∈ errIds, PySem.W.kitOne K (.ref (c i)) (.type "ValueError") = some true
  ty : ∀ i ∈ errIds, PySem.W.typeIn K (.ref (c i)) = some (.type "type")
  su : ∀ i ∈ errIds, PySem.W.subIn K (.ref (c i)) (.ref (c id_MendError)) = some true
  x_MendError : PySem.W.excIn K (c 2) [.type "ValueError", .type "Exception", .type "BaseException", .type "object"] "ValueError.__new__" = true
  x_InvalidInput : PySem.W.excIn K (c 3) [.type "ValueError", .type "Exception", .type "BaseException", .type "object"] "ValueError.__new__" = true
  o_InvalidProgram : OexC K (c 4)
  n_InvalidProgram : InitAt P K mg (c 4) (inClass (topS 4) 0) "reason" "reason"
  f_InvalidProgram : PySem.W.findIn K (.ref (c 4)) "reason" = some none
section
variable {P : Program} {w : World} {K : PySem.W.Frag} {mg : Str → Option Value} {base : Heap} {c : Nat → Addr}
theorem mk_InvalidProgram (T : Txt P K mg c) : HasI P w K mg base (c 4) "reason" "reason" := by
  obtain ⟨f, cc, cda, fd, qual, Z, i, t, b⟩ := T.n_InvalidProgram
  exact ⟨f, fd, (init_ok Z ⟨nscope_by (by decide +kernel), rfl, rfl, rfl, rfl, rfl, rfl⟩ (fun A outer s H E => pe_joined (PJ.cons pe_str (PJ.cons (pe_fmt (pe_var (i := 1) rfl (.inl rfl))) PJ.nil))) (fun env => rfl) (fun env => rfl) (fun a y H Q hy q => fj2 (by decide +kernel) hy q)).imp initA, i, t, b⟩
end
end Pf

namespace Pf
open PySem PySem.Spec PyProof.Rows L2
section
variable {P : Program} {w : World} {K : PySem.W.Frag} {mg : Str → Option Value} {base : Heap}
variable {c : Nat → Addr}
def sp__law_next (K : PySem.W.Frag) : Sp := fun vs H Q _ => ∃ (r : Addr) (n : Int), vs = [.ref r, .int n] ∧ RD H r ∧ 0 < n ∧ n < 1073741824 ∧ ∀ (v : Int) H', Fr r H H' → RD H' r → 0 ≤ v → v < n → Q (.int v) H'
theorem g0 {x y z : V} : atI [x, y, z] 0 = some x := atI_nat (j := 0) rfl
theorem g1 {x y z : V} : atI [x, y, z] 1 = some y := atI_nat (j := 1) rfl
theorem g2 {x y z : V} : atI [x, y, z] 2 = some z := atI_nat (j := 2) rfl
theorem ok__law_next (T : Txt P K mg c) : Has P w K mg base 1 "_law_next" ["reader", "size"] (sp__law_next K) := by
  obtain ⟨f, fd, F, m, b⟩ := T.d__law_next.ex
  refine ⟨f, fd, F.ok sc__law_next (fun vs H Q E h => ?_) (fun cdv A outer s H vs Q E hr h => ?_), m, F.kp, b⟩
  · obtain ⟨r, n, rfl, hR, h0, h1, q⟩ := h
    rfl
  obtain ⟨r, n, rfl, hR, h0, h1, q⟩ := h
  refine ⟨_, (pss_cons (ps_set (i := 2) sc__law_next.nd rfl (.inl rfl) (pe_ix ix_list (pv 0) pe_int (fun _ _ => rfl)))
      (pss_cons (ps_asg (pe_op op_add (pv 2) pe_int) (pg_sub (pv 0) pe_int set_list))
      (pss_cons (ps_if (PW.pt (pw_and (pt_cmpR op_ge (pe_ix ix_list (pv 0) pe_int (fun _ _ => rfl)) (pe_op op_pow pe_int pe_int) (nomark _)) (pw_and1 (pt_cmpR op_gt (pe_ix ix_list (pv 0) pe_int (fun _ _ => rfl)) pe_int (nomark _)))))
      (pss_cons (ps_set (i := 3) sc__law_next.nd rfl (.inl rfl) (pe_ix ix_list (pv 0) pe_int (fun _ _ => rfl)))
        (pss_cons (ps_asg (pe_op op_fdivN (pv 3) (pv 1)) (pg_sub (pv 0) pe_int set_list))
        (pss_one (ps_ret (pe_op op_mod (pe_callTy call_int1 (by rfl) T.z_int (by decide +kernel) (pa_cons (pv 3) pa_nil)) (pv 1))))))
      pss_nil)
      (pss_cons (ps_set (i := 4) sc__law_next.nd rfl (.inl rfl) (pe_op op_mod (pe_callTy call_int1 (by rfl) T.z_int (by decide +kernel) (pa_cons (pe_op op_add (pe_op op_add (pe_ix ix_list (pv 0) pe_int (fun _ _ => rfl)) (pe_op op_mul pe_int (pv 2))) pe_int) pa_nil)) pe_int))
      (pss_cons (ps_set (i := 4) sc__law_next.nd rfl (.inl rfl) (pe_op op_mod (pe_callTy call_int1 (by rfl) T.z_int (by decide +kernel) (pa_cons (pe_op op_mul (pv 4) (pe_op op_add (pv 4) pe_int)) pa_nil)) pe_int))
      (pss_cons (ps_set (i := 4) sc__law_next.nd rfl (.inl rfl) (pe_op op_mod (pe_callTy call_int1 (by rfl) T.z_int (by decide +kernel) (pa_cons (pe_op op_add (pe_op op_mul (pv 4) (pe_op op_add (pv 4) pe_int)) (pe_op op_mul pe_int (pv 2))) pa_nil)) pe_int))
      (pss_one (ps_ret (pe_op op_mod (pe_callTy call_int1 (by rfl) T.z_int (by decide +kernel) (pa_cons (pe_op op_fdivN (pv 4) pe_int) pa_nil)) (pv 1)))))))))), ?_⟩
  obtain ⟨c, k, d, hR⟩ := hR
  -- k = reader[1]
  refine ⟨_, rfl, r, _, 1, _, rfl, rfl, SqL.of hR, g1, ?_⟩
  -- reader[1] = k + 1
  refine ⟨_, rfl, _, _, rfl, rfl, _, rfl, r, _, 1, 1, rfl, rfl, hR, rfl, ?_⟩
  -- reader[0] >= 10 ** 18 and reader[2] > 0
  refine ⟨_, rfl, r, _, 0, .int c, rfl, rfl, SqL.of upd_same, g0, _, _, rfl, rfl, ⟨by decide, by decide, by decide⟩, _, _, rfl, rfl, _, rfl, ?_⟩
  refine ite2 (fun e => ⟨_, rfl, r, _, 2, _, rfl, rfl, SqL.of upd_same, g2, _, _, rfl, rfl, _, rfl, ite2 (fun e2 => ?a) (fun e2 => ?b)⟩) (fun e => iteF ?b2)
  case a =>
    refine ⟨_, rfl, r, _, 2, _, rfl, rfl, SqL.of upd_same, g2, ?_⟩
    refine ⟨_, rfl, _, rfl, _, _, rfl, rfl, ⟨by omega, by omega⟩, _, rfl, r, _, 2, 2, rfl, rfl, upd_same, rfl, ?_⟩
    refine ⟨_, rfl, .inl ⟨_, rfl, _, rfl, _, _, rfl, rfl, h0, ?_⟩⟩
    exact q _ _ (Fr.trans Fr.upd Fr.upd) ⟨_, _, _, upd_same⟩ (mod_lt h0).1 (mod_lt h0).2
  all_goals
    refine ⟨_, rfl, r, _, 0, _, rfl, rfl, SqL.of upd_same, g0, _, rfl, _, _, rfl, rfl, .inl ⟨by decide, by decide⟩, _, _, rfl, rfl, _, _, rfl, rfl, .inl ⟨_, rfl, _, _, rfl, rfl, (show (0 : Int) < 2147483647 by decide), ?_⟩⟩
    refine ⟨_, rfl, _, rfl, _, _, rfl, rfl, _, _, rfl, rfl, .inl ⟨by omega, by omega⟩, .inl ⟨_, rfl, _, _, rfl, rfl, (show (0 : Int) < 2147483629 by decide), ?_⟩⟩
    refine ⟨_, rfl, _, rfl, _, _, rfl, rfl, _, _, rfl, rfl, .inl ⟨by omega, by omega⟩, _, rfl, _, _, rfl, rfl, .inl ⟨by decide, by decide⟩, _, _, rfl, rfl, .inl ⟨_, rfl, _, _, rfl, rfl, (show (0 : Int) < 2147483647 by decide), ?_⟩⟩
    refine ⟨_, rfl, _, _, rfl, rfl, ⟨by decide, by decide⟩, .inl ⟨_, rfl, _, rfl, _, _, rfl, rfl, h0, ?_⟩⟩
    exact q _ _ Fr.upd ⟨_, _, _, upd_same⟩ (mod_lt h0).1 (mod_lt h0).2


end
end Pf

namespace Pf
open PySem PySem.Spec PyProof.Rows L2
section
variable {P : Program} {w : World} {K : PySem.W.Frag} {mg : Str → Option Value} {base : Heap}
variable {c : Nat → Addr}
def sp__law_cell (K : PySem.W.Frag) : Sp := fun vs H Q _ => ∃ (a : Addr) (ns : List Int) (j : Nat), vs = [.ref a, .int (j : Int)] ∧ SqL K H a (ns.map V.int) ∧ ∀ c : Int, Q (.int c) H
theorem ok__law_cell (T : Txt P K mg c) : Has P w K mg base 1 "_law_cell" ["script", "k"] (sp__law_cell K) := by
  obtain ⟨f, fd, F, m, b⟩ := T.d__law_cell.ex
  refine ⟨f, fd, F.ok sc__law_cell (fun vs H Q E h => ?_) (fun cdv A outer s H vs Q E hr h => ?_), m, F.kp, b⟩
  · obtain ⟨a, ns, j, rfl, hS, q⟩ := h
    rfl
  obtain ⟨a, ns, j, rfl, hS, q⟩ := h
  refine ⟨_, (pss_cons (ps_if (pt_cmpR op_lt (pv 1) (pe_callB call_len_seq (by rfl) T.z_len (by decide +kernel) (pa_cons (pv 0) pa_nil)) (nomark _))
      (pss_one (ps_ret (pe_ix ix_list (pv 0) (pv 1) (fun _ _ => rfl))))
      pss_nil)
      (pss_one (ps_ret pe_int))), ?_⟩
  refine ⟨_, rfl, _, rfl, a, _, rfl, .inl hS, _, _, rfl, rfl, _, rfl, ite2 (fun e => ?_) (fun e => ?_)⟩
  · have e1 := dec_t e
    obtain ⟨x, h1, h2⟩ := at_in (xs := ns.map V.int) (i := (j : Int)) (by omega) e1
    rw [List.getElem?_map] at h1
    cases h3 : ns[(j : Int).toNat]? with
    | none => rw [h3] at h1; cases h1
    | some c =>
      rw [h3] at h1
      cases h1
      exact ⟨_, rfl, _, rfl, a, _, _, _, rfl, rfl, hS, h2, q c⟩
  · exact q 0

def sp__law_reader (K : PySem.W.Frag) : Sp := fun vs H Q _ => ∃ (c : Int), vs = [.int c] ∧ ∀ (p : Addr) H', H p = none → Same H H' → RD H' p → Q (.ref p) H'
theorem ok__law_reader (T : Txt P K mg c) : Has P w K mg base 1 "_law_reader" ["cell"] (sp__law_reader K) := by
  obtain ⟨f, fd, F, m, b⟩ := T.d__law_reader.ex
  refine ⟨f, fd, F.ok sc__law_reader (fun vs H Q E h => ?_) (fun cdv A outer s H vs Q E hr h => ?_), m, F.kp, b⟩
  · obtain ⟨c, rfl, q⟩ := h
    rfl
  obtain ⟨c, rfl, q⟩ := h
  refine ⟨_, (pss_one (ps_ret (pe_lst (pa_cons (pv 0) (pa_cons pe_int (pa_cons (pe_op op_sub (pv 0) (pe_op op_pow pe_int pe_int)) pa_nil)))))), ?_⟩
  refine ⟨_, rfl, _, rfl, _, _, rfl, rfl, ⟨by decide, by decide, by decide⟩, _, _, rfl, rfl, by show 3 ≤ sizeLine; decide, fun p hp => ?_⟩
  exact q p _ hp (same_new hp) ⟨_, _, _, upd_same⟩

theorem yes {p : Prop} [Decidable p] {A B : Prop} (h : p) (a : A) : if decide p = true then A else B := by
  rw [decide_eq_true h]
  exact iteT a
theorem nope {p : Prop} [Decidable p] {A B : Prop} (h : ¬ p) (b : B) : if decide p = true then A else B := by
  rw [decide_eq_false h]
  exact iteF b

/-- data without lists, of a depth -/
def tupOk : Nat → PyData → Prop
  | _, .none => True
  | _, .bool _ => True
  | _, .int _ => True
  | _, .str _ => True
  | n + 1, .tuple ds => ds.length ≤ 100000 ∧ ∀ d ∈ ds, tupOk n d
  | _, _ => False
def sp__law_same (K : PySem.W.Frag) (n : Nat) : Sp := fun vs H Q _ => ∃ (x y : V) (d : PyData), vs = [x, y] ∧ Dp K H x d ∧ Dp K H y d ∧ tupOk n d ∧ ∀ H', Same H H' → Q (.bl true) H'
theorem tyx_seq {K : PySem.W.Frag} {H : Hp} {a : Addr} {xs : List V} (h : SqT K H a xs) : TyX K H (.ref a) (.type "tuple") := by
  rcases h with (h | ⟨o, h⟩) | ⟨o, its, n, h, hc, _⟩
  · exact .base (.tup h)
  · exact .fTuple h
  · exact .kTuple h hc
theorem seqT_same {K : PySem.W.Frag} {H H' : Hp} {a : Addr} {xs : List V} (e : Same H H') (h : SqT K H a xs) : SqT K H' a xs := by
  rcases h with (h | ⟨o, h⟩) | h
  · exact .inl (.inl (e _ _ h))
  · exact .inl (.inr ⟨o, e _ _ h⟩)
  · exact .inr h
mutual
theorem dp_same {K : PySem.W.Frag} {H H' : Hp} (e : Same H H') : ∀ {v : V} {d : PyData}, Dp K H v d → Dp K H' v d
  | _, _, .non => .non
  | _, _, .bl b => .bl b
  | _, _, .int i => .int i
  | _, _, .str x => .str x
  | _, _, .lst h k => .lst (e.seq h) (dpa_same e k)
  | _, _, .tup h k => .tup (seqT_same e h) (dpa_same e k)
theorem dpa_same {K : PySem.W.Frag} {H H' : Hp} (e : Same H H') : ∀ {xs : List V} {ds : List PyData}, DpAll K H xs ds → DpAll K H' xs ds
  | _, _, .nil => .nil
  | _, _, .cons h k => .cons (dp_same e h) (dpa_same e k)
end
theorem dpa_len {K : PySem.W.Frag} {H : Hp} : ∀ {xs : List V} {ds : List PyData}, DpAll K H xs ds → xs.length = ds.length
  | _, _, .nil => rfl
  | _, _, .cons _ k => congrArg (· + 1) (dpa_len k)
theorem dpa_at {K : PySem.W.Frag} {H : Hp} : ∀ {xs : List V} {ds : List PyData} {i : Nat}, DpAll K H xs ds → i < ds.length → ∃ x d, xs[i]? = some x ∧ ds[i]? = some d ∧ Dp K H x d
  | _, _, _, .nil, h => absurd h (Nat.not_lt_zero _)
  | _, _, 0, .cons h _, _ => ⟨_, _, rfl, rfl, h⟩
  | _, _, i + 1, .cons _ k, h => dpa_at (i := i) k (Nat.lt_of_succ_lt_succ h)
theorem all_true (n : Nat) : (List.replicate n true).all id = true := by
  induction n with
  | zero => rfl
  | succ n ih => rw [List.replicate_succ, List.all_cons, ih]; rfl
theorem same_step {n : Nat} (T : Txt P K mg c) (R : Has P w K mg base (n + 2) "_law_same" ["told", "due"] (fun vs H Q E => ∃ m, n = m + 1 ∧ sp__law_same K m vs H Q E)) : Has P w K mg base (n + 3) "_law_same" ["told", "due"] (sp__law_same K n) := by
  obtain ⟨f__law_same, fd__law_same, G__law_same, m__law_same, k__law_same, b__law_same⟩ := R
  obtain ⟨f, fd, F, m, b⟩ := T.d__law_same.ex
  refine ⟨f, fd, F.ok sc__law_same (fun vs H Q E h => ?_) (fun cdv A outer s H vs Q E hr h => ?_), m, F.kp, b⟩
  · obtain ⟨x, y, d, rfl, hx, hy, hd, q⟩ := h
    rfl
  obtain ⟨x, y, d, rfl, hx, hy, hd, q⟩ := h
  refine ⟨_, (pss_cons (ps_if (pt_val (pe_callB call_isi (by rfl) T.z_isinstance (by decide +kernel) (pa_cons (pv 1) (pa_cons (pe_bltn (v := .ty "tuple") (by rfl) T.z_tuple (by decide +kernel) rfl) pa_nil))))
      (pss_cons (ps_if (PW.pt (pw_or (pt_not (pt_val (pe_callB call_isi (by rfl) T.z_isinstance (by decide +kernel) (pa_cons (pv 0) (pa_cons (pe_bltn (v := .ty "tuple") (by rfl) T.z_tuple (by decide +kernel) rfl) pa_nil))))) (pw_or1 (pt_cmpR op_ne (pe_callB call_len_seq (by rfl) T.z_len (by decide +kernel) (pa_cons (pv 0) pa_nil)) (pe_callB call_len_seq (by rfl) T.z_len (by decide +kernel) (pa_cons (pv 1) pa_nil)) (nomark _)))))
        (pss_one (ps_ret pe_bl))
        pss_nil)
        (pss_one (ps_ret (pe_callB (cr_all rfl) (by rfl) T.z_all (by decide +kernel) (pa_cons (pe_lc (own := [("k", 2)]) (g := gName 2) (by rfl) sc__law_same.nd (pi_range1 (by rfl) T.z_range (pa_cons (pe_callB call_len_seq (by rfl) T.z_len (by decide +kernel) (pa_cons (pv 1) pa_nil)) pa_nil)) (blkOk_by (own := [("k", 2)]) (N := ["told", "due", "k"]) (sc := defScope s__law_same) (by decide +kernel)) (fun _ _ _ _ _ => pg_name (i := 2) sc__law_same.nd rfl (Or.inl rfl)) (fun _ _ _ _ _ => pts_nil) (fun _ _ _ _ _ => (pe_call G__law_same (hr.mono (by omega)) (by rfl) m__law_same k__law_same b__law_same .nil pass0 (pa_cons (pe_ix (ix_tupK (K := K) rfl) (pv 0) (pv 2) (fun _ _ => rfl)) (pa_cons (pe_ix (ix_tupK (K := K) rfl) (pv 1) (pv 2) (fun _ _ => rfl)) pa_nil))))) pa_nil)))))
      pss_nil)
      (pss_cons (ps_if (pt_cmpR op_isN (pv 1) pe_non (nomark _))
      (pss_one (ps_ret (pe_cmpR op_isN (pv 0) pe_non (nomark _))))
      pss_nil)
      (pss_cons (ps_if (pt_val (pe_callB call_isi (by rfl) T.z_isinstance (by decide +kernel) (pa_cons (pv 1) (pa_cons (pe_bltn (v := .ty "str") (by rfl) T.z_str (by decide +kernel) rfl) pa_nil))))
      (pss_one (ps_ret (pe_and (pe_callB call_isi (by rfl) T.z_isinstance (by decide +kernel) (pa_cons (pv 0) (pa_cons (pe_bltn (v := .ty "str") (by rfl) T.z_str (by decide +kernel) rfl) pa_nil))) (pe_one (pe_cmpR op_eq (pv 0) (pv 1) (nomark _))))))
      pss_nil)
      (pss_cons (ps_if (PW.pt (pw_or (pt_val (pe_callB call_isi (by rfl) T.z_isinstance (by decide +kernel) (pa_cons (pv 0) (pa_cons (pe_bltn (v := .ty "bool") (by rfl) T.z_bool (by decide +kernel) rfl) pa_nil)))) (pw_or1 (pt_val (pe_callB call_isi (by rfl) T.z_isinstance (by decide +kernel) (pa_cons (pv 1) (pa_cons (pe_bltn (v := .ty "bool") (by rfl) T.z_bool (by decide +kernel) rfl) pa_nil)))))))
      (pss_one (ps_ret (pe_and (pe_callB call_isi (by rfl) T.z_isinstance (by decide +kernel) (pa_cons (pv 0) (pa_cons (pe_bltn (v := .ty "bool") (by rfl) T.z_bool (by decide +kernel) rfl) pa_nil))) (pe_and (pe_callB call_isi (by rfl) T.z_isinstance (by decide +kernel) (pa_cons (pv 1) (pa_cons (pe_bltn (v := .ty "bool") (by rfl) T.z_bool (by decide +kernel) rfl) pa_nil))) (pe_one (pe_cmpR op_eq (pv 0) (pv 1) (nomark _)))))))
      pss_nil)
      (pss_one (ps_ret (pe_and (pe_callB call_isi (by rfl) T.z_isinstance (by decide +kernel) (pa_cons (pv 0) (pa_cons (pe_bltn (v := .ty "int") (by rfl) T.z_int (by decide +kernel) rfl) pa_nil))) (pe_one (pe_cmpR op_eq (pv 0) (pv 1) (nomark _)))))))))), ?_⟩
  cases hy with
  | non =>
    cases hx
    refine ⟨_, rfl, _, _, _, _, _, rfl, .ty _, .base .non, kit_ty (by decide +kernel), _, rfl, iteF ?_⟩
    refine ⟨_, rfl, rfl, _, rfl, yes rfl ?_⟩
    exact ⟨_, rfl, rfl, q H (Same.refl H)⟩
  | str z =>
    cases hx
    refine ⟨_, rfl, _, _, _, _, _, rfl, .ty _, .base (.str z), kit_ty (by decide +kernel), _, rfl, iteF ?_⟩
    refine ⟨_, rfl, rfl, _, rfl, nope (fun e => nomatch e) ?_⟩
    refine ⟨_, rfl, _, _, _, _, _, rfl, .ty _, .base (.str z), kit_ty (by decide +kernel), _, rfl, iteT ?_⟩
    refine ⟨_, rfl, _, _, _, _, _, rfl, .ty _, .base (.str z), kit_ty (by decide +kernel), _, rfl, iteT ?_⟩
    refine ⟨_, rfl, _, rfl, rfl, ?_⟩
    rw [decide_eq_true (rfl : V.str z = V.str z)]
    exact q H (Same.refl H)
  | bl z =>
    cases hx
    refine ⟨_, rfl, _, _, _, _, _, rfl, .ty _, .base (.bl z), kit_ty (by decide +kernel), _, rfl, iteF ?_⟩
    refine ⟨_, rfl, rfl, _, rfl, nope (fun e => nomatch e) ?_⟩
    refine ⟨_, rfl, _, _, _, _, _, rfl, .ty _, .base (.bl z), kit_ty (by decide +kernel), _, rfl, iteF ?_⟩
    refine ⟨_, rfl, _, _, _, _, _, rfl, .ty _, .base (.bl z), kit_ty (by decide +kernel), _, rfl, iteT (iteT ?_)⟩
    refine ⟨_, rfl, _, _, _, _, _, rfl, .ty _, .base (.bl z), kit_ty (by decide +kernel), _, rfl, iteT ?_⟩
    refine ⟨_, rfl, _, _, _, _, _, rfl, .ty _, .base (.bl z), kit_ty (by decide +kernel), _, rfl, iteT ?_⟩
    refine ⟨_, rfl, _, rfl, rfl, ?_⟩
    rw [decide_eq_true (rfl : V.bl z = V.bl z)]
    exact q H (Same.refl H)
  | int z =>
    cases hx
    refine ⟨_, rfl, _, _, _, _, _, rfl, .ty _, .base (.int z), kit_ty (by decide +kernel), _, rfl, iteF ?_⟩
    refine ⟨_, rfl, rfl, _, rfl, nope (fun e => nomatch e) ?_⟩
    refine ⟨_, rfl, _, _, _, _, _, rfl, .ty _, .base (.int z), kit_ty (by decide +kernel), _, rfl, iteF ?_⟩
    refine ⟨_, rfl, _, _, _, _, _, rfl, .ty _, .base (.int z), kit_ty (by decide +kernel), _, rfl, iteF ?_⟩
    refine ⟨_, rfl, _, _, _, _, _, rfl, .ty _, .base (.int z), kit_ty (by decide +kernel), _, rfl, iteF ?_⟩
    refine ⟨_, rfl, _, _, _, _, _, rfl, .ty _, .base (.int z), kit_ty (by decide +kernel), _, rfl, iteT ?_⟩
    refine ⟨_, rfl, _, rfl, rfl, ?_⟩
    rw [decide_eq_true (rfl : V.int z = V.int z)]
    exact q H (Same.refl H)
  | lst _ _ => cases n <;> exact hd.elim
  | @tup a xs ds ha hxs =>
    obtain _ | m := n
    · exact hd.elim
    obtain ⟨hdl, hd⟩ := hd
    cases hx with
    | @tup b ys _ hb hys =>
    have lx := dpa_len hxs
    have ly := dpa_len hys
    refine ⟨_, rfl, _, _, _, _, _, rfl, .ty _, tyx_seq ha, kit_ty (r := true) (by decide +kernel), _, rfl, iteT ?_⟩
    -- not isinstance(told, tuple) or len(told) != len(due)
    refine ⟨_, rfl, _, _, _, _, _, rfl, .ty _, tyx_seq hb, kit_ty (r := true) (by decide +kernel), _, rfl, iteF ?_⟩
    refine ⟨_, rfl, b, _, rfl, .inr hb, _, rfl, a, _, rfl, .inr ha, rfl, _, rfl, ?_⟩
    rw [lx, ly, decide_eq_true (rfl : V.int ((ds.length : Nat) : Int) = V.int ((ds.length : Nat) : Int))]
    refine iteF ?_
    -- all([..])
    refine ⟨_, rfl, a, _, rfl, .inr ha, ((xs.length : Nat) : Int), rfl, by omega, by omega, fun D nD => ?_⟩
    rw [lx]
    refine lc_range (lo := 0) (fun i H' => Same H H' ∧ H' D = some (.lst ((List.replicate i true).map V.bl))) ⟨same_new nD, upd_same⟩ (fun i H' hi h => ?_) (fun H' h => ?_)
    · obtain ⟨s1, hD⟩ := h
      have hi2 : i < ds.length := by simpa using hi
      obtain ⟨x1, d1, e1, e2, p1⟩ := dpa_at hxs hi2
      obtain ⟨x2, d2, e3, e4, p2⟩ := dpa_at hys hi2
      rw [e2] at e4
      cases e4
      have gi : (0 : Int) + (i : Int) = (i : Int) := Int.zero_add _
      refine ⟨rfl, ?_⟩
      refine ⟨_, rfl, _, rfl, b, _, _, x2, rfl, rfl, seqT_same s1 hb, ?_, _, rfl, _, rfl, a, _, _, x1, rfl, rfl, seqT_same s1 ha, ?_, ?_⟩
      · rw [gi]
        exact atI_nat e3
      · rw [gi]
        exact atI_nat e1
      refine ⟨m, rfl, x2, x1, d1, rfl, dp_same s1 p2, dp_same s1 p1, hd d1 (List.mem_of_getElem? e2), fun H2 s2 => ?_⟩
      refine ⟨_, s2 _ _ hD, ?_, ⟨same_mut (s1.trans s2) nD, ?_⟩⟩
      · rw [List.length_map, List.length_replicate]
        exact Nat.lt_of_lt_of_le (Nat.lt_of_lt_of_le hi2 hdl) (by decide)
      · rw [upd_same, List.replicate_succ', List.map_append]
        rfl
    · obtain ⟨s1, hD⟩ := h
      refine ⟨D, _, rfl, SqL.of hD, ?_⟩
      rw [all_true]
      exact q H' s1
theorem ok__law_same (T : Txt P K mg c) : ∀ n : Nat, Has P w K mg base (n + 3) "_law_same" ["told", "due"] (sp__law_same K n)
| 0 => same_step T (.none T.d__law_same fun vs H Q E ⟨m, h, _⟩ => by cases h)
| n + 1 => same_step T (by
  obtain ⟨f, fd, G, r⟩ := ok__law_same T n
  exact ⟨f, fd, G.imp fun vs H Q E ⟨m', h, k⟩ => by cases h; exact k, r⟩)

/-! ### lists of ints, of texts, as data -/
theorem lay_ints : ∀ ns : List Int, PyData.canLayAll0 (ns.map PyData.int) = true
  | [] => by simp [PyData.canLayAll0]
  | n :: ns => by simp [PyData.canLayAll0, PyData.canLay0, lay_ints ns]
theorem lay_strs : ∀ ws : List Str, (∀ x ∈ ws, PyData.strOk x = true) → PyData.canLayAll0 (ws.map PyData.str) = true
  | [], _ => by simp [PyData.canLayAll0]
  | n :: ns, h => by simp [PyData.canLayAll0, PyData.canLay0, lay_strs ns fun x hx => h x (List.mem_cons_of_mem _ hx), h n List.mem_cons_self]
theorem dep_ints : ∀ ns : List Int, PyData.depthAll (ns.map PyData.int) ≤ 1
  | [] => by simp [PyData.depthAll]
  | n :: ns => by
    have h := dep_ints ns
    simp only [List.map_cons, PyData.depthAll, PyData.depth]
    omega
theorem dep_strs : ∀ ws : List Str, PyData.depthAll (ws.map PyData.str) ≤ 1
  | [] => by simp [PyData.depthAll]
  | n :: ns => by
    have h := dep_strs ns
    simp only [List.map_cons, PyData.depthAll, PyData.depth]
    omega
theorem shaped_lst {ds : List PyData} (h : PyData.canLayAll0 ds = true) (d : PyData.depthAll ds ≤ 60) : SeqAt.shaped (.list ds) = true := by
  show (PyData.canLay0 (.list ds) && decide (PyData.depth (.list ds) ≤ 64)) = true
  rw [Bool.and_eq_true]
  refine ⟨by simp only [PyData.canLay0]; exact h, decide_eq_true ?_⟩
  simp only [PyData.depth]
  omega
theorem shaped_ints (ns : List Int) : SeqAt.shaped (.list (ns.map PyData.int)) = true := shaped_lst (lay_ints ns) (Nat.le_trans (dep_ints ns) (by decide))
theorem shaped_strs {ws : List Str} (h : ∀ x ∈ ws, PyData.strOk x = true) : SeqAt.shaped (.list (ws.map PyData.str)) = true := shaped_lst (lay_strs ws h) (Nat.le_trans (dep_strs ws) (by decide))
theorem eqv_self {d : PyData} (h : SeqAt.shaped d = true) : PyData.eqv d d = true := SeqAt.eqv_refl d (SeqAt.canLay_of_shaped h)
theorem dpa_ints {K : PySem.W.Frag} {H : Hp} : ∀ ns : List Int, DpAll K H (ns.map V.int) (ns.map PyData.int)
  | [] => .nil
  | n :: ns => .cons (.int n) (dpa_ints ns)
theorem dpa_strs {K : PySem.W.Frag} {H : Hp} : ∀ ws : List Str, DpAll K H (ws.map V.str) (ws.map PyData.str)
  | [] => .nil
  | n :: ns => .cons (.str n) (dpa_strs ns)


end
end Pf

namespace Pf
open PySem PySem.Spec PyProof.Rows L2
section
variable {P : Program} {w : World} {K : PySem.W.Frag} {mg : Str → Option Value} {base : Heap}
variable {c : Nat → Addr}
mutual
def frz : PyData → PyData
  | .list ds => .tuple (frzs ds)
  | .tuple ds => .tuple (frzs ds)
  | d => d
def frzs : List PyData → List PyData
  | [] => []
  | d :: ds => frz d :: frzs ds
end
theorem frzs_map : ∀ ds : List PyData, frzs ds = ds.map frz
  | [] => by simp [frzs]
  | d :: ds => by simp [frzs, frzs_map ds]
/-- data of a depth -/
def datOk : Nat → PyData → Prop
  | _, .none => True
  | _, .bool _ => True
  | _, .int _ => True
  | _, .str _ => True
  | n + 1, .list ds => ds.length ≤ 1000 ∧ ∀ d ∈ ds, datOk n d
  | n + 1, .tuple ds => ds.length ≤ 1000 ∧ ∀ d ∈ ds, datOk n d
  | _, _ => False

mutual
inductive Dl (K : PySem.W.Frag) (H : Hp) : V → PyData → Prop
  | non : Dl K H .non .none
  | bl (b : Bool) : Dl K H (.bl b) (.bool b)
  | int (i : Int) : Dl K H (.int i) (.int i)
  | str (x : Str) : Dl K H (.str x) (.str x)
  | lst {a : Addr} {xs : List V} {ds : List PyData} : H a = some (.lst xs) → DlAll K H xs ds → Dl K H (.ref a) (.list ds)
  | tup {a : Addr} {xs : List V} {ds : List PyData} : SqT K H a xs → DlAll K H xs ds → Dl K H (.ref a) (.tuple ds)
inductive DlAll (K : PySem.W.Frag) (H : Hp) : List V → List PyData → Prop
  | nil : DlAll K H [] []
  | cons {v : V} {vs : List V} {d : PyData} {ds : List PyData} : Dl K H v d → DlAll K H vs ds → DlAll K H (v :: vs) (d :: ds)
end
mutual
theorem dl_same {K : PySem.W.Frag} {H H' : Hp} (e : Same H H') : ∀ {v : V} {d : PyData}, Dl K H v d → Dl K H' v d
  | _, _, .non => .non
  | _, _, .bl b => .bl b
  | _, _, .int i => .int i
  | _, _, .str x => .str x
  | _, _, .lst h k => .lst (e _ _ h) (dla_same e k)
  | _, _, .tup h k => .tup (seqT_same e h) (dla_same e k)
theorem dla_same {K : PySem.W.Frag} {H H' : Hp} (e : Same H H') : ∀ {xs : List V} {ds : List PyData}, DlAll K H xs ds → DlAll K H' xs ds
  | _, _, .nil => .nil
  | _, _, .cons h k => .cons (dl_same e h) (dla_same e k)
end
theorem dla_len {K : PySem.W.Frag} {H : Hp} : ∀ {xs : List V} {ds : List PyData}, DlAll K H xs ds → xs.length = ds.length
  | _, _, .nil => rfl
  | _, _, .cons _ k => congrArg (· + 1) (dla_len k)
theorem dla_at {K : PySem.W.Frag} {H : Hp} : ∀ {xs : List V} {ds : List PyData} {i : Nat} {x : V}, DlAll K H xs ds → xs[i]? = some x → ∃ d, ds[i]? = some d ∧ Dl K H x d
  | _, _, _, _, .nil, h => by simp at h
  | _, _, 0, _, .cons h _, e => by
    have e' := Option.some.inj e
    subst e'
    exact ⟨_, rfl, h⟩
  | _, _, i + 1, _, .cons _ k, e => dla_at (i := i) k e
def sp_frozen (K : PySem.W.Frag) (n : Nat) : Sp := fun vs H Q _ => ∃ (v : V) (d : PyData), vs = [v] ∧ Dl K H v d ∧ datOk n d ∧ ∀ (v' : V) (H' : Hp), Same H H' → Dp K H' v' (frz d) → Q v' H'
theorem dpa_app {K : PySem.W.Frag} {H : Hp} {v : V} {d : PyData} : ∀ {xs : List V} {ds : List PyData}, DpAll K H xs ds → Dp K H v d → DpAll K H (xs ++ [v]) (ds ++ [d])
  | _, _, .nil, h => .cons h .nil
  | _, _, .cons k l, h => .cons k (dpa_app l h)
theorem seqT_mut {K : PySem.W.Frag} {H : Hp} {D a : Addr} {ys xs : List V} {o : HO} (e : H D = some (.lst ys)) (h : SqT K H a xs) : SqT K (upd H D o) a xs := by
  rcases h with (h | ⟨o', h⟩) | h
  · refine .inl (.inl ((upd_ne fun z => ?_).trans h))
    subst z
    rw [e] at h
    cases h
  · refine .inl (.inr ⟨o', (upd_ne fun z => ?_).trans h⟩)
    subst z
    rw [e] at h
    cases h
  · exact .inr h
theorem two_cls : Paired ClsV [V.ty "list", V.ty "tuple"] [Value.type "list", Value.type "tuple"] := .cons (.ty _) (.cons (.ty _) .nil)
theorem kitA2 {K : PySem.W.Frag} {t : Value} {b1 b2 : Bool} (h1 : PySem.W.kitOne K t (.type "list") = some b1) (h2 : PySem.W.kitOne K t (.type "tuple") = some b2) : PySem.W.kitAny K t [.type "list", .type "tuple"] = some (b1 || b2) :=
  kitAny_cons h1 (fun e => kitAny_cons h2 (fun e2 => by rw [e, e2]; exact kitAny_nil) (fun e2 => by rw [e, e2]; rfl)) (fun e => by rw [e]; rfl)
def lt2 : List Value := [.type "list", .type "tuple"]
theorem kl_non {K : PySem.W.Frag} : PySem.W.kitAny K (.type "NoneType") [.type "list", .type "tuple"] = some false := kitA2 (kit_ty (r := false) (by decide +kernel)) (kit_ty (r := false) (by decide +kernel))
theorem kl_bool {K : PySem.W.Frag} : PySem.W.kitAny K (.type "bool") [.type "list", .type "tuple"] = some false := kitA2 (kit_ty (r := false) (by decide +kernel)) (kit_ty (r := false) (by decide +kernel))
theorem kl_int {K : PySem.W.Frag} : PySem.W.kitAny K (.type "int") [.type "list", .type "tuple"] = some false := kitA2 (kit_ty (r := false) (by decide +kernel)) (kit_ty (r := false) (by decide +kernel))
theorem kl_str {K : PySem.W.Frag} : PySem.W.kitAny K (.type "str") [.type "list", .type "tuple"] = some false := kitA2 (kit_ty (r := false) (by decide +kernel)) (kit_ty (r := false) (by decide +kernel))
theorem kl_list {K : PySem.W.Frag} : PySem.W.kitAny K (.type "list") [.type "list", .type "tuple"] = some true := kitA2 (kit_ty (r := true) (by decide +kernel)) (kit_ty (r := false) (by decide +kernel))
theorem kl_tup {K : PySem.W.Frag} : PySem.W.kitAny K (.type "tuple") [.type "list", .type "tuple"] = some true := kitA2 (kit_ty (r := false) (by decide +kernel)) (kit_ty (r := true) (by decide +kernel))
mutual
theorem dp_mut {K : PySem.W.Frag} {H : Hp} {D : Addr} {ys : List V} {o : HO} (e : H D = some (.lst ys)) : ∀ {v : V} {d : PyData} (n : Nat), tupOk n d → Dp K H v d → Dp K (upd H D o) v d
  | _, _, _, _, .non => .non
  | _, _, _, _, .bl b => .bl b
  | _, _, _, _, .int i => .int i
  | _, _, _, _, .str x => .str x
  | _, _, 0, h, .lst _ _ => h.elim
  | _, _, _ + 1, h, .lst _ _ => h.elim
  | _, _, 0, h, .tup _ _ => h.elim
  | _, _, n + 1, h, .tup q k => .tup (seqT_mut e q) (dpa_mut e n h.2 k)
theorem dpa_mut {K : PySem.W.Frag} {H : Hp} {D : Addr} {ys : List V} {o : HO} (e : H D = some (.lst ys)) : ∀ {xs : List V} {ds : List PyData} (n : Nat), (∀ d ∈ ds, tupOk n d) → DpAll K H xs ds → DpAll K (upd H D o) xs ds
  | _, _, _, _, .nil => .nil
  | _, _, n, h, .cons p k => .cons (dp_mut e n (h _ List.mem_cons_self) p) (dpa_mut e n (fun d hd => h d (List.mem_cons_of_mem _ hd)) k)
end
theorem frz_ok : ∀ (n : Nat) (d : PyData), datOk n d → tupOk n (frz d)
  | 0, .none, _ => by simp [frz, tupOk]
  | 0, .bool _, _ => by simp [frz, tupOk]
  | 0, .int _, _ => by simp [frz, tupOk]
  | 0, .str _, _ => by simp [frz, tupOk]
  | n + 1, .none, _ => by simp [frz, tupOk]
  | n + 1, .bool _, _ => by simp [frz, tupOk]
  | n + 1, .int _, _ => by simp [frz, tupOk]
  | n + 1, .str _, _ => by simp [frz, tupOk]
  | n + 1, .list ds, h => by
    rw [frz, frzs_map]
    refine ⟨by rw [List.length_map]; exact Nat.le_trans h.1 (by decide), fun d hd => ?_⟩
    obtain ⟨d', hd', rfl⟩ := List.mem_map.mp hd
    exact frz_ok n d' (h.2 d' hd')
  | n + 1, .tuple ds, h => by
    rw [frz, frzs_map]
    refine ⟨by rw [List.length_map]; exact Nat.le_trans h.1 (by decide), fun d hd => ?_⟩
    obtain ⟨d', hd', rfl⟩ := List.mem_map.mp hd
    exact frz_ok n d' (h.2 d' hd')
theorem take_frz {ds : List PyData} {i : Nat} {d : PyData} (h : ds[i]? = some d) : (ds.take i).map frz ++ [frz d] = (ds.take (i + 1)).map frz := by
  obtain ⟨hi, e⟩ := List.getElem?_eq_some_iff.mp h
  rw [List.take_succ, List.map_append, h]
  rfl
theorem frozen_step {n : Nat} (T : Txt P K mg c) (R : Has P w K mg base (n + 1) "frozen" ["value"] (fun vs H Q E => ∃ m, n = m + 1 ∧ sp_frozen K m vs H Q E)) : Has P w K mg base (n + 2) "frozen" ["value"] (sp_frozen K n) := by
  obtain ⟨f_frozen, fd_frozen, G_frozen, m_frozen, k_frozen, b_frozen⟩ := R
  obtain ⟨f, fd, F, m, b⟩ := T.d_frozen.ex
  refine ⟨f, fd, F.ok sc_frozen (fun vs H Q E h => ?_) (fun cdv A outer s H vs Q E hr h => ?_), m, F.kp, b⟩
  · obtain ⟨v, d, rfl, hv, hd, q⟩ := h
    rfl
  obtain ⟨v, d, rfl, hv, hd, q⟩ := h
  refine ⟨_, (pss_cons (ps_if (pt_val (pe_callB call_isiT (by rfl) T.z_isinstance (by decide +kernel) (pa_cons (pv 0) (pa_cons (pe_tup (pa_cons (pe_bltn (v := .ty "list") (by rfl) T.z_list (by decide +kernel) rfl) (pa_cons (pe_bltn (v := .ty "tuple") (by rfl) T.z_tuple (by decide +kernel) rfl) pa_nil))) pa_nil))))
      (pss_one (ps_ret (pe_callTy call_tuple_of (by rfl) T.z_tuple (by decide +kernel) (pa_cons (pe_lc (own := [("part", 1)]) (g := gName 1) (by rfl) sc_frozen.nd (pi_alt (pi_list (pv 0)) (pi_tup (pv 0))) (blkOk_by (own := [("part", 1)]) (N := ["value", "part"]) (sc := defScope s_frozen) (by decide +kernel)) (fun _ _ _ _ _ => pg_name (i := 1) sc_frozen.nd rfl (Or.inl rfl)) (fun _ _ _ _ _ => pts_nil) (fun _ _ _ _ _ => (pe_call G_frozen (hr.mono (by omega)) (by rfl) m_frozen k_frozen b_frozen .nil pass0 (pa_cons (pv 1) pa_nil)))) pa_nil))))
      pss_nil)
      (pss_one (ps_ret (pv 0)))), ?_⟩
  refine ⟨_, rfl, (by show 2 ≤ sizeLine; decide), fun tp ntp => ?_⟩
  have s0 : Same H (upd H tp (.tup [.ty "list", .ty "tuple"])) := same_new ntp
  cases hv with
  | non => exact ⟨_, _, _, _, _, false, rfl, upd_same, two_cls, .base .non, kl_non, _, rfl, iteF ⟨_, rfl, q _ _ s0 .non⟩⟩
  | bl z => exact ⟨_, _, _, _, _, false, rfl, upd_same, two_cls, .base (.bl z), kl_bool, _, rfl, iteF ⟨_, rfl, q _ _ s0 (.bl z)⟩⟩
  | int z => exact ⟨_, _, _, _, _, false, rfl, upd_same, two_cls, .base (.int z), kl_int, _, rfl, iteF ⟨_, rfl, q _ _ s0 (.int z)⟩⟩
  | str z => exact ⟨_, _, _, _, _, false, rfl, upd_same, two_cls, .base (.str z), kl_str, _, rfl, iteF ⟨_, rfl, q _ _ s0 (.str z)⟩⟩
  | @lst a xs ds h k =>
    obtain _ | m := n
    · exact hd.elim
    obtain ⟨hdl, hd⟩ := hd
    have lx := dla_len k
    refine ⟨_, _, _, _, _, true, rfl, upd_same, two_cls, .base (.lst (s0 _ _ h)), kl_list, _, rfl, iteT ?_⟩
    refine .inl ⟨_, rfl, a, rfl, ⟨_, SqL.of (s0 _ _ h)⟩, fun D nD => lc_it walk_list (fun i H' => Same (upd H tp (.tup [.ty "list", .ty "tuple"])) H' ∧ ∃ ws, H' D = some (.lst ws) ∧ DpAll K H' ws ((ds.take i).map frz)) ⟨same_new nD, [], upd_same, .nil⟩ (fun i H' _ h' => h'.1.seq (SqL.of (s0 _ _ h))) ?_ ?_⟩
    · rintro i x H1 H2 hi ⟨s1, ws, hD, hws⟩ ⟨rfl, hx⟩
      obtain ⟨d, ed, hx2⟩ := dla_at k hx
      refine ⟨rfl, _, rfl, m, rfl, x, d, rfl, dl_same (s0.trans s1) hx2, hd d (List.mem_of_getElem? ed), fun v' H3 s3 hv' => ⟨ws, s3 _ _ hD, ?_, same_mut (s1.trans s3) nD, ws ++ [v'], upd_same, ?_⟩⟩
      · have := dpa_len hws
        rw [List.length_map, List.length_take] at this
        exact Nat.lt_of_lt_of_le (show ws.length < 1001 by omega) (by decide)
      · rw [← take_frz ed]
        have hl : ∀ d' ∈ (ds.take i).map frz, tupOk m d' := fun d' hd' => by
          obtain ⟨d0, h0, rfl⟩ := List.mem_map.mp hd'
          exact frz_ok m d0 (hd d0 (List.mem_of_mem_take h0))
        exact dpa_app (dpa_mut (s3 _ _ hD) m hl (dpa_same s3 hws)) (dp_mut (s3 _ _ hD) m (frz_ok m d (hd d (List.mem_of_getElem? ed))) hv')
    · rintro H1 ⟨s1, ws, hD, hws⟩
      refine ⟨D, ws, rfl, .inl ⟨SqL.of hD, fun l nl => ?_⟩⟩
      refine q _ _ ((s0.trans s1).trans (same_new nl)) ?_
      rw [lx, List.take_length] at hws
      rw [frz, frzs_map]
      exact .tup (SqT.of upd_same) (dpa_same (same_new nl) hws)
  | @tup a xs ds h k =>
    obtain _ | m := n
    · exact hd.elim
    obtain ⟨hdl, hd⟩ := hd
    have lx := dla_len k
    refine ⟨_, _, _, _, _, true, rfl, upd_same, two_cls, tyx_seq (seqT_same s0 h), kl_tup, _, rfl, iteT ?_⟩
    refine .inr ⟨_, rfl, a, rfl, ⟨_, seqT_same s0 h⟩, fun D nD => lc_it walk_tup (fun i H' => Same (upd H tp (.tup [.ty "list", .ty "tuple"])) H' ∧ ∃ ws, H' D = some (.lst ws) ∧ DpAll K H' ws ((ds.take i).map frz)) ⟨same_new nD, [], upd_same, .nil⟩ (fun i H' _ h' => seqT_same h'.1 (seqT_same s0 h)) ?_ ?_⟩
    · rintro i x H1 H2 hi ⟨s1, ws, hD, hws⟩ ⟨rfl, hx⟩
      obtain ⟨d, ed, hx2⟩ := dla_at k hx
      refine ⟨rfl, _, rfl, m, rfl, x, d, rfl, dl_same (s0.trans s1) hx2, hd d (List.mem_of_getElem? ed), fun v' H3 s3 hv' => ⟨ws, s3 _ _ hD, ?_, same_mut (s1.trans s3) nD, ws ++ [v'], upd_same, ?_⟩⟩
      · have := dpa_len hws
        rw [List.length_map, List.length_take] at this
        exact Nat.lt_of_lt_of_le (show ws.length < 1001 by omega) (by decide)
      · rw [← take_frz ed]
        have hl : ∀ d' ∈ (ds.take i).map frz, tupOk m d' := fun d' hd' => by
          obtain ⟨d0, h0, rfl⟩ := List.mem_map.mp hd'
          exact frz_ok m d0 (hd d0 (List.mem_of_mem_take h0))
        exact dpa_app (dpa_mut (s3 _ _ hD) m hl (dpa_same s3 hws)) (dp_mut (s3 _ _ hD) m (frz_ok m d (hd d (List.mem_of_getElem? ed))) hv')
    · rintro H1 ⟨s1, ws, hD, hws⟩
      refine ⟨D, ws, rfl, .inl ⟨SqL.of hD, fun l nl => ?_⟩⟩
      refine q _ _ ((s0.trans s1).trans (same_new nl)) ?_
      rw [lx, List.take_length] at hws
      rw [frz, frzs_map]
      exact .tup (SqT.of upd_same) (dpa_same (same_new nl) hws)
theorem ok_frozen (T : Txt P K mg c) : ∀ n : Nat, Has P w K mg base (n + 2) "frozen" ["value"] (sp_frozen K n)
| 0 => frozen_step T (.none T.d_frozen fun vs H Q E ⟨m, h, _⟩ => by cases h)
| n + 1 => frozen_step T (by
  obtain ⟨f, fd, G, r⟩ := ok_frozen T n
  exact ⟨f, fd, G.imp fun vs H Q E ⟨m', h, k⟩ => by cases h; exact k, r⟩)

mutual
theorem dl_dp {K : PySem.W.Frag} {H : Hp} : ∀ {v : V} {d : PyData} (n : Nat), tupOk n d → Dp K H v d → Dl K H v d
  | _, _, _, _, .non => .non
  | _, _, _, _, .bl b => .bl b
  | _, _, _, _, .int i => .int i
  | _, _, _, _, .str x => .str x
  | _, _, 0, h, .lst _ _ => h.elim
  | _, _, _ + 1, h, .lst _ _ => h.elim
  | _, _, 0, h, .tup _ _ => h.elim
  | _, _, n + 1, h, .tup q k => .tup q (dla_dp n h.2 k)
theorem dla_dp {K : PySem.W.Frag} {H : Hp} : ∀ {xs : List V} {ds : List PyData} (n : Nat), (∀ d ∈ ds, tupOk n d) → DpAll K H xs ds → DlAll K H xs ds
  | _, _, _, _, .nil => .nil
  | _, _, n, h, .cons p k => .cons (dl_dp n (h _ List.mem_cons_self) p) (dla_dp n (fun d hd => h d (List.mem_cons_of_mem _ hd)) k)
end

/-! ### programs whose bodies are empty or one skip, as data -/
structure Vr where
  nm : Str
  sz : Int
structure Pr where
  nm : Str
  ps : List Vr
  ls : List Vr
  sk : Bool
structure Pg where
  l : Int
  a : Int
  vs : List Vr
  ps : List Pr
def Vr.d (v : Vr) : PyData := .tuple [.str v.nm, .int v.sz]
def skD : PyData := .tuple [.str "skip"]
def bdD (b : Bool) : List PyData := if b then [skD] else []
def Pr.d (p : Pr) : PyData := .tuple [.str p.nm, .tuple (p.ps.map Vr.d), .tuple (p.ls.map Vr.d), .tuple (bdD p.sk)]
def Pg.d (g : Pg) : PyData := .tuple [.int g.l, .int g.a, .tuple (g.vs.map Vr.d), .tuple (g.ps.map Pr.d)]
def scp (g : List Vr) (p : Pr) : List Vr := (g ++ p.ps) ++ p.ls
def isSeq (d : PyData) (ds : List PyData) : Prop := d = .list ds ∨ d = .tuple ds
def rawPr (d : PyData) (p : Pr) : Prop := ∃ s1 s2 s3, d = .tuple [.str p.nm, s1, s2, s3] ∧ isSeq s1 (p.ps.map Vr.d) ∧ isSeq s2 (p.ls.map Vr.d) ∧ isSeq s3 (bdD p.sk)
def rawPs (d : PyData) (ps : List Pr) : Prop := ∃ ds, isSeq d ds ∧ ds.length = ps.length ∧ ∀ (i : Nat) (d' : PyData) (p : Pr), ds[i]? = some d' → ps[i]? = some p → rawPr d' p
/-! ### names -/
def lowS : List Nat := (Str.ofString "abcdefghijklmnopqrstuvwxyz").cps.toList
def wrdS : List Nat := (Str.ofString "abcdefghijklmnopqrstuvwxyz0123456789").cps.toList
def kwS : List Str := ["letters", "answers", "global", "proc", "local", "read", "write", "if", "then", "else", "while", "do", "call", "skip", "end", "and", "or", "not"]
structure NmOk (z : Str) : Prop where
  n1 : 1 ≤ z.length
  n8 : z.length ≤ 8
  hd : ∃ c, z.cps.toList[0]? = some c ∧ c ∈ lowS
  ch : ∀ c ∈ z.cps.toList, c ∈ wrdS
  kw : z ∉ kwS
def prodZ : List Int → Int := fun ns => ns.foldl (· * ·) 1
structure Pg.Ok (g : Pg) : Prop where
  l1 : 1 ≤ g.l
  l3 : g.l ≤ 3
  a2 : 2 ≤ g.a
  a4 : g.a ≤ 4
  p1 : 1 ≤ g.ps.length
  p5 : g.ps.length ≤ 5
  v4 : g.vs.length ≤ 4
  p3 : ∀ p ∈ g.ps, p.ps.length ≤ 3
  l33 : ∀ p ∈ g.ps, p.ls.length ≤ 3
  pn : ∀ p ∈ g.ps, NmOk p.nm
  vn : ∀ p ∈ g.ps, ∀ v ∈ scp g.vs p, NmOk v.nm
  pd : (g.ps.map Pr.nm).Nodup
  vd : ∀ p ∈ g.ps, ((scp g.vs p).map Vr.nm).Nodup
  s2 : ∀ p ∈ g.ps, ∀ v ∈ scp g.vs p, 2 ≤ v.sz
  s4 : ∀ p ∈ g.ps, ∀ v ∈ scp g.vs p, v.sz ≤ 4
  si : ∀ p ∈ g.ps, prodZ ((scp g.vs p).map Vr.sz) ≤ 64
  mn : ∀ p, g.ps[0]? = some p → p.ps = []
/-! ### lists item by item -/
def All2 {α β : Type} (R : α → β → Prop) (xs : List α) (ys : List β) : Prop := xs.length = ys.length ∧ ∀ (i : Nat) (x : α) (y : β), xs[i]? = some x → ys[i]? = some y → R x y
theorem All2.nil {α β : Type} {R : α → β → Prop} : All2 R [] [] := ⟨rfl, fun i x y h => by simp at h⟩
theorem All2.at {α β : Type} {R : α → β → Prop} {xs : List α} {ys : List β} (h : All2 R xs ys) {i : Nat} {x : α} (hx : xs[i]? = some x) : ∃ y, ys[i]? = some y ∧ R x y := by
  have hi : i < ys.length := by rw [← h.1]; exact (List.getElem?_eq_some_iff.mp hx).1
  exact ⟨ys[i], List.getElem?_eq_getElem hi, h.2 i x _ hx (List.getElem?_eq_getElem hi)⟩
theorem All2.of {α β : Type} {R : α → β → Prop} {xs : List α} {ys : List β} (h : All2 R xs ys) {i : Nat} {y : β} (hy : ys[i]? = some y) : ∃ x, xs[i]? = some x ∧ R x y := by
  have hi : i < xs.length := by rw [h.1]; exact (List.getElem?_eq_some_iff.mp hy).1
  exact ⟨xs[i], List.getElem?_eq_getElem hi, h.2 i _ y (List.getElem?_eq_getElem hi) hy⟩
theorem All2.imp {α β : Type} {R S : α → β → Prop} {xs : List α} {ys : List β} (h : All2 R xs ys) (k : ∀ x y, R x y → S x y) : All2 S xs ys := ⟨h.1, fun i x y a b => k x y (h.2 i x y a b)⟩
theorem All2.app {α β : Type} {R : α → β → Prop} {xs xs' : List α} {ys ys' : List β} (h : All2 R xs ys) (h' : All2 R xs' ys') : All2 R (xs ++ xs') (ys ++ ys') := by
  refine ⟨by rw [List.length_append, List.length_append, h.1, h'.1], fun i x y hx hy => ?_⟩
  by_cases hi : i < xs.length
  · rw [List.getElem?_append_left hi] at hx
    rw [List.getElem?_append_left (by rw [← h.1]; exact hi)] at hy
    exact h.2 i x y hx hy
  · rw [List.getElem?_append_right (by omega)] at hx
    rw [List.getElem?_append_right (by rw [← h.1]; omega), ← h.1] at hy
    exact h'.2 _ x y hx hy
theorem All2.one {α β : Type} {R : α → β → Prop} {x : α} {y : β} (h : R x y) : All2 R [x] [y] := ⟨rfl, fun i a b ha hb => by
  obtain _ | i := i
  · cases ha
    cases hb
    exact h
  · simp at ha⟩
theorem take_succ_at {α : Type} {xs : List α} {i : Nat} {x : α} (h : xs[i]? = some x) : xs.take (i + 1) = xs.take i ++ [x] := by rw [List.take_succ, h]; rfl
/-! ### what stands in the heap, read as such data -/
section
variable {K : PySem.W.Frag} {H H' : Hp}
def SeqV (K : PySem.W.Frag) (H : Hp) (a : Addr) (xs : List V) : Prop := SqL K H a xs ∨ SqT K H a xs
def VrAt (K : PySem.W.Frag) (H : Hp) (x : V) (v : Vr) : Prop := ∃ p, x = .ref p ∧ SqT K H p [.str v.nm, .int v.sz]
def VrsAt (K : PySem.W.Frag) (H : Hp) (v : V) (vs : List Vr) : Prop := ∃ a xs, v = .ref a ∧ SeqV K H a xs ∧ All2 (VrAt K H) xs vs
def BdAt (K : PySem.W.Frag) (H : Hp) (v : V) (sk : Bool) : Prop := ∃ a xs, v = .ref a ∧ SeqV K H a xs ∧ ((sk = false ∧ xs = []) ∨ sk = true ∧ ∃ q, xs = [.ref q] ∧ SqT K H q [.str "skip"])
def PrAt (K : PySem.W.Frag) (H : Hp) (x : V) (p : Pr) : Prop := ∃ q s1 s2 s3, x = .ref q ∧ SqT K H q [.str p.nm, s1, s2, s3] ∧ VrsAt K H s1 p.ps ∧ VrsAt K H s2 p.ls ∧ BdAt K H s3 p.sk
def PrsAt (K : PySem.W.Frag) (H : Hp) (v : V) (ps : List Pr) : Prop := ∃ a xs, v = .ref a ∧ SeqV K H a xs ∧ All2 (PrAt K H) xs ps
theorem SeqV.same {a : Addr} {xs : List V} (e : Same H H') (h : SeqV K H a xs) : SeqV K H' a xs := h.imp (fun h => e.seq h) (fun h => seqT_same e h)
theorem VrAt.same {x : V} {v : Vr} (e : Same H H') (h : VrAt K H x v) : VrAt K H' x v := let ⟨p, h1, h2⟩ := h; ⟨p, h1, seqT_same e h2⟩
theorem VrsAt.same {x : V} {v : List Vr} (e : Same H H') (h : VrsAt K H x v) : VrsAt K H' x v := let ⟨a, xs, h1, h2, h3⟩ := h; ⟨a, xs, h1, h2.same e, h3.imp fun _ _ => VrAt.same e⟩
theorem BdAt.same {x : V} {v : Bool} (e : Same H H') (h : BdAt K H x v) : BdAt K H' x v := by
  obtain ⟨a, xs, h1, h2, h3⟩ := h
  refine ⟨a, xs, h1, h2.same e, h3.imp id fun ⟨h4, q, h5, h6⟩ => ⟨h4, q, h5, seqT_same e h6⟩⟩
theorem PrAt.same {x : V} {v : Pr} (e : Same H H') (h : PrAt K H x v) : PrAt K H' x v := let ⟨q, s1, s2, s3, h1, h2, h3, h4, h5⟩ := h; ⟨q, s1, s2, s3, h1, seqT_same e h2, h3.same e, h4.same e, h5.same e⟩
theorem PrsAt.same {x : V} {v : List Pr} (e : Same H H') (h : PrsAt K H x v) : PrsAt K H' x v := let ⟨a, xs, h1, h2, h3⟩ := h; ⟨a, xs, h1, h2.same e, h3.imp fun _ _ => PrAt.same e⟩
theorem dl_seqV {v : V} {d : PyData} {ds : List PyData} (h : Dl K H v d) (e : isSeq d ds) : ∃ a xs, v = .ref a ∧ SeqV K H a xs ∧ DlAll K H xs ds := by
  rcases e with rfl | rfl
  · cases h with
    | lst h k => exact ⟨_, _, rfl, .inl (SqL.of h), k⟩
  · cases h with
    | tup h k => exact ⟨_, _, rfl, .inr h, k⟩
theorem dla_all2 : ∀ {xs : List V} {ds : List PyData}, DlAll K H xs ds → All2 (Dl K H) xs ds
  | _, _, .nil => .nil
  | _, _, .cons h k => All2.app (xs := [_]) (ys := [_]) (.one h) (dla_all2 k)
theorem dl_vr {x : V} {v : Vr} (h : Dl K H x v.d) : VrAt K H x v := by
  have h' : Dl K H x (.tuple [.str v.nm, .int v.sz]) := h
  cases h' with
  | tup q k =>
    cases k with
    | cons a k =>
      cases k with
      | cons b k =>
        cases k
        cases a
        cases b
        exact ⟨_, rfl, q⟩
theorem dl_vrs {v : V} {d : PyData} {vs : List Vr} (h : Dl K H v d) (e : isSeq d (vs.map Vr.d)) : VrsAt K H v vs := by
  obtain ⟨a, xs, rfl, hq, k⟩ := dl_seqV h e
  refine ⟨a, xs, rfl, hq, ?_⟩
  obtain ⟨l, r⟩ := dla_all2 k
  refine ⟨by rw [l, List.length_map], fun i x y hx hy => dl_vr (r i x y.d hx ?_)⟩
  rw [List.getElem?_map, hy]
  rfl
theorem dl_bd {v : V} {d : PyData} {sk : Bool} (h : Dl K H v d) (e : isSeq d (bdD sk)) : BdAt K H v sk := by
  obtain ⟨a, xs, rfl, hq, k⟩ := dl_seqV h e
  refine ⟨a, xs, rfl, hq, ?_⟩
  cases sk with
  | false =>
    have k' : DlAll K H xs [] := k
    cases k'
    exact .inl ⟨rfl, rfl⟩
  | true =>
    have k' : DlAll K H xs [.tuple [.str "skip"]] := k
    cases k' with
    | cons p k =>
      cases k
      cases p with
      | tup q k =>
        cases k with
        | cons b k =>
          cases k
          cases b
          exact .inr ⟨rfl, _, rfl, q⟩
theorem dl_pr {x : V} {d : PyData} {p : Pr} (h : Dl K H x d) (e : rawPr d p) : PrAt K H x p := by
  obtain ⟨s1, s2, s3, rfl, e1, e2, e3⟩ := e
  cases h with
  | tup q k =>
    cases k with
    | cons a k =>
      cases k with
      | cons b k =>
        cases k with
        | cons c k =>
          cases k with
          | cons d k =>
            cases k
            cases a
            exact ⟨_, _, _, _, rfl, q, dl_vrs b e1, dl_vrs c e2, dl_bd d e3⟩
theorem dl_prs {v : V} {d : PyData} {ps : List Pr} (h : Dl K H v d) (e : rawPs d ps) : PrsAt K H v ps := by
  obtain ⟨ds, e1, e2, e3⟩ := e
  obtain ⟨a, xs, rfl, hq, k⟩ := dl_seqV h e1
  refine ⟨a, xs, rfl, hq, ?_⟩
  obtain ⟨l, r⟩ := dla_all2 k
  refine ⟨by rw [l, e2], fun i x y hx hy => ?_⟩
  have hi : i < ds.length := by rw [e2]; exact (List.getElem?_eq_some_iff.mp hy).1
  exact dl_pr (r i x _ hx (List.getElem?_eq_getElem hi)) (e3 i _ y (List.getElem?_eq_getElem hi) hy)
theorem VrsAt.len {v : V} {vs : List Vr} {a : Addr} {xs : List V} (h : All2 (VrAt K H) xs vs) : xs.length = vs.length := h.1
end


end
end Pf

namespace Pf
open PySem PySem.Spec PyProof.Rows L2
section
variable {P : Program} {w : World} {K : PySem.W.Frag} {mg : Str → Option Value} {base : Heap}
variable {c : Nat → Addr}
/-! ### len(set(xs)) of texts -/
/-- how many of the first i stand there for the first time -/
def fresh1 (xs : List Str) : Nat → Nat
  | 0 => 0
  | i + 1 => if (xs.take i).any (· == xs.getD i Str.empty) then fresh1 xs i else fresh1 xs i + 1
theorem fresh1_le (xs : List Str) : ∀ i, fresh1 xs i ≤ i
  | 0 => Nat.le_refl _
  | i + 1 => by
    have := fresh1_le xs i
    unfold fresh1
    split <;> omega
theorem take_has {xs : List Str} {i : Nat} (h : i < xs.length) (k : Str) : (xs.take (i + 1)).any (· == k) = ((xs.take i).any (· == k) || decide (k = xs.getD i Str.empty)) := by
  have e : xs.getD i Str.empty = xs[i] := by simp [List.getD_eq_getElem?_getD, List.getElem?_eq_getElem h]
  rw [List.take_succ_eq_append_getElem h, List.any_append, e]
  congr 1
  by_cases q : k = xs[i]
  · subst q
    simp
  · have hb : (xs[i] == k) = false := by simpa [beq_iff_eq] using (fun z : xs[i] = k => q z.symm)
    simp [hb, q]
theorem fresh1_nodup {xs : List Str} (nd : xs.Nodup) : ∀ i, i ≤ xs.length → fresh1 xs i = i
  | 0, _ => rfl
  | i + 1, h => by
    have hi : i < xs.length := h
    have e : xs.getD i Str.empty = xs[i] := by simp [List.getD_eq_getElem?_getD, List.getElem?_eq_getElem hi]
    have no : (xs.take i).any (· == xs.getD i Str.empty) = false := by
      rw [Bool.eq_false_iff]
      intro t
      obtain ⟨y, hy, ey⟩ := List.any_eq_true.mp t
      rw [e] at ey
      have ey := eq_of_beq ey
      subst ey
      obtain ⟨j, hj, ej⟩ := List.mem_take_iff_getElem.mp hy
      have hj2 : j < i := by omega
      exact absurd ej (List.pairwise_iff_getElem.mp nd j i (by omega) hi hj2)
    have ih := fresh1_nodup nd i (Nat.le_of_lt hi)
    unfold fresh1
    rw [no, ih]
    rfl
section
variable {prog : Program} {w : World} {A : Around} {R : Result → Shared → Prop} {I : Addr} {fp wr : List Addr} {G : Array GenState → Array GenState → Prop} {n : Nat} {P : Nat → Value → Prop} {St : Nat → Shared → Prop}
/-- the set of the first i texts, at S -/
def SetUp (prog : Program) (w : World) (xs : List Str) (S : Addr) (i : Nat) (h : Heap) : Prop := h.SetOf (PySem.strKind prog w) S (fun k => (xs.take i).any (· == k)) (fresh1 xs i)
theorem SetUp.at {xs : List Str} {S : Addr} {i : Nat} {h h' : Heap} (u : SetUp prog w xs S i h) (k : ∀ o, h.get? S = some o → h'.get? S = some o) : SetUp prog w xs S i h' := by
  obtain ⟨o, es, ep, t, ho, r⟩ := u
  exact ⟨o, es, ep, t, k o ho, r⟩
theorem set_turns (W : WalksS prog w A.in1 I fp wr G n P St) (S : Addr) (apart : S ∉ fp) (xs : List Str) (len : xs.length = n) (room : n + 1 < scanBound) (told : ∀ i v, P i v → ∃ t, v = .str (xs.getD i Str.empty) t) :
    ∀ (m i : Nat) (s : Shared), i + m = n → St i s → SetUp prog w xs S i s.heap → (∀ s', Moved (S :: wr) G s s' → SetUp prog w xs S n s'.heap → R (.ok (.ret .none)) s') →
      codeAny (model prog w) A (.builtin "set.update.loop" ⟨[.ref S, .ref I], []⟩) R s := by
  have off : S ∉ wr := fun h => apart (W.sub _ h)
  have more : ∀ b ∈ wr, b ∈ S :: wr := fun b hb => List.mem_cons_of_mem _ hb
  intro m
  induction m with
  | zero =>
    rintro i s rfl z up fin
    refine codeAny_builtin PyProof.Rows.F.entry_set_update_loop ?_
    rw [Around.under_plainId PyProof.Rows.F.plain_set_update_loop _]
    exact wpAny_bind (W.done s _ _ z fun s1 mv => wpAny_pure (fin s1 (mv.mono more) (up.at fun o e => mv.heap S _ off e)))
  | succ m ih =>
    intro i s e z up fin
    have lt : i < n := by omega
    refine codeAny_builtin PyProof.Rows.F.entry_set_update_loop ?_
    rw [Around.under_plainId PyProof.Rows.F.plain_set_update_loop _]
    refine wpAny_bind (W.item i s _ _ lt z fun v s1 hp z1 mv => ?_)
    obtain ⟨t, rfl⟩ := told i v hp
    have up1 : SetUp prog w xs S i s1.heap := up.at fun o e => mv.heap S _ off e
    show wpAny _ A.in1 (holding [Value.str (xs.getD i Str.empty) t] (setAdd S (.str (xs.getD i Str.empty) t)) >>= _) _ _ s1
    refine wpAny_bind (wpAny_holding ?_)
    unfold setAdd
    refine wpAny_holding (wpAny_bind ((PySem.strKind prog w).pyHash (k := xs.getD i Str.empty) (strKind_is _ _ _ _) ?_))
    have fits : fresh1 xs i + 1 < scanBound := by
      have := fresh1_le xs i
      omega
    refine wpAny_setAddHashed_of (knd := PySem.strKind prog w) (s := { s1 with toks := s1.toks + 1 }) (strKind_is _ _ _ _) rfl up1 fits fun h2 sb up2 => ?_
    have up3 : SetUp prog w xs S (i + 1) h2 := PyProof.Rows.SetOf_congr up2 (fun k => (take_has (by omega) k).symm) rfl
    refine wpAny_pure ⟨plainId_quiet PyProof.Rows.F.plain_set_update_loop _, ih (i + 1) _ (by omega) (W.frame _ s1 _ _ z1 (Nat.le_succ _) fun b hb o q => (sb.2 b fun k => apart (k ▸ hb)).trans q) up3 fun s3 mv3 up4 => fin s3 ?_ up4⟩
    exact Moved.trans W.gtrans ((mv.mono more).then_heap (Nat.le_succ _) fun b o hb q => (sb.2 b fun k => hb (k ▸ List.mem_cons_self)).trans q) mv3
end
section
variable {prog : Program} {w : World} {A : Around} {E : Value → Shared → Prop} {s : Shared}
/-- an empty set, newly made -/
abbrev set0 (led : Bool) : Obj := { cls := .type "set", dict := none, data := .set #[] 0 (.fresh 0 0 led) }
set_option maxHeartbeats 3200000 in
theorem call_set_txt {l : Addr} {items : Array Value} {xs : List Str} {Q : Value → Shared → Prop} (hh : A.handled = none) (isl : s.heap.IsList l items) (are : PyProof.Rows.StrsAre items.toList xs) (room : items.size + 1 < scanBound)
    (fin : ∀ (h1 : Heap) (tk : Nat), SetUp prog w xs s.heap.objs.size items.size h1 → (∀ b o, b < s.heap.objs.size → s.heap.get? b = some o → h1.get? b = some o) → Q (.ref s.heap.objs.size) { s with heap := h1, toks := tk }) :
    wpAny (model prog w) A (call (.type "set") [.ref l]) Q E s := by
  obtain ⟨c, tl, hmro⟩ := PySem.F.called_set.mro
  have made := PySem.F.called_set.made
  have sub := PySem.F.called_set.sub
  refine wpAny_call (codeAny_of_tree ?_)
  show wpAny _ _ (callAny (.type "set") _) _ _ _
  refine wpAny_pure ⟨Code.quiet_builtin _ (by decide +kernel), codeAny_builtin PySem.F.entry_type_call ?_⟩
  rw [Around.under_plain (weight_type_call_type "set" [.ref l] []) rfl]
  have nt := PySem.F.called_set.notType
  have cc := PySem.F.called_set.canCreate
  have tc := PySem.F.typeCall_set_1 (.ref l)
  repeat (any_goals (first | assumption | wp_step))
  refine codeAny_mono (code_set_new_1 (.ref l) (E := E) (Q₁ := fun ob s1 => ∃ led, ob = .ref s.heap.objs.size ∧ s1 = { s with heap := s.heap.push (set0 led) }) fun led => ⟨led, rfl, rfl⟩) fun r s1 hr => ?_
  obtain e | fl := r
  · exact hr
  cases fl <;> try exact hr.elim
  rename_i ob
  obtain ⟨led, rfl, rfl⟩ := hr
  have gS : (s.heap.push (set0 led)).get? s.heap.objs.size = some (set0 led) := Heap.get?_push_size _ rfl
  have tS : Shared.TypeIs { s with heap := s.heap.push (set0 led) } (.ref s.heap.objs.size) "set" := ⟨_, gS, rfl⟩
  have lk := PySem.F.called_set.init.lookup
  have bd := PySem.F.called_set.init.bind (.ref s.heap.objs.size)
  repeat (any_goals (first | assumption | wp_step))
  refine codeAny_mono (codeAny_call_builtin (R := wants (fun r s2 => r = .none ∧ ∃ h1 tk, s2 = { s with heap := h1, toks := tk } ∧ SetUp prog w xs s.heap.objs.size items.size h1 ∧ ∀ b o, b < s.heap.objs.size → s.heap.get? b = some o → h1.get? b = some o) E)
    PySem.F.called_set.init.plain PySem.F.entry_set_init (check_set_init_1 tS ?_)) fun r2 s2 hr2 => ?_
  · obtain ⟨ol, hol, kc, nl, kd⟩ := isl
    obtain ⟨ocls, odict, odata, oslots⟩ := ol
    simp only at kc kd
    subst kc kd
    have gl : (s.heap.push (set0 led)).get? l = some { cls := .type "list", dict := odict, data := .seq items nl, slots := oslots } := Heap.get?_push_of_some _ hol
    have n1 := PySem.F.sub_list_set
    have n2 := PySem.F.sub_list_frozenset
    have n3 : (Value.type "list" == Value.type "dict") = false := by decide
    have isl2 : (s.heap.push (set0 led)).IsList l items := ⟨_, gl, rfl, nl, rfl⟩
    unfold Builtin.«set.__init__» noKeywords Builtin.Frozenset.updateFrom
    generalize hold : pyIter = PI
    wp_walk
    subst hold
    refine wpAny_pyIter_list isl2 (wpAny_bind (wpAny_runValue ?_))
    have lS : l < s.heap.objs.size := Heap.lt_size hol
    have h3 : A.in1.in1.in1.handled = none := by simp [hh]
    have sz : (s.heap.push (set0 led)).objs.size = s.heap.objs.size + 1 := by rw [Heap.size_push]
    have ne : l ≠ (s.heap.push (set0 led)).objs.size := by
      rw [sz]
      exact Nat.ne_of_lt (Nat.lt_succ_of_lt lS)
    have away : s.heap.objs.size ∉ [(s.heap.push (set0 led)).objs.size, l] := by
      rw [sz]
      intro m
      have q : s.heap.objs.size = s.heap.objs.size + 1 ∨ s.heap.objs.size = l := by simpa using m
      rcases q with q | q
      · exact Nat.ne_of_lt (Nat.lt_succ_self _) q
      · exact Nat.ne_of_gt lS q
    have len : xs.length = items.size := by rw [← StrsAre.len_eq are, Array.length_toList]
    refine set_turns ((Walks.list h3 _ l ne items).toS) s.heap.objs.size away xs len room (fun i v hv => SS.strs_at are i v (by rw [Array.getElem?_toList]; exact hv)) items.size 0 _ (by omega)
      ⟨⟨_, Heap.get?_push_size _ rfl, rfl, rfl⟩, (isl2.push _)⟩ ?_ fun s' mv up => ?_
    · have g2 := Heap.get?_push_of_some { cls := .type "list_iterator", data := .fields #[.ref l, .int 0 0] } gS
      exact PyProof.Rows.SetOf_congr ((PyProof.Rows.setObjOf_fresh (knd := PySem.strKind prog w) led).setOf g2 (by unfold scanBound; omega)) (fun _ => rfl) rfl
    · obtain ⟨h1, g1, d1, t1, o1⟩ := s'
      have a1 : g1 = s.gens := mv.gens
      have a2 : d1 = s.drawn := mv.drawn
      have a3 : o1 = s.os := mv.os
      subst a1 a2 a3
      refine wpAny_pure ?_
      show wpAny _ _ (ret Value.none) _ _ _
      refine wpAny_pure ⟨rfl, h1, t1, rfl, up, fun b o hb e => ?_⟩
      refine mv.heap b o (fun m => ?_) (Heap.get?_push_of_some _ (Heap.get?_push_of_some _ e))
      have q : b = s.heap.objs.size ∨ b = (s.heap.push (set0 led)).objs.size := by simpa using m
      rw [sz] at q
      rcases q with q | q
      · exact Nat.ne_of_lt hb q
      · exact Nat.ne_of_lt (Nat.lt_succ_of_lt hb) q
  · obtain e | fl := r2
    · exact hr2
    cases fl <;> try exact hr2.elim
    obtain ⟨rfl, h1, tk, rfl, up, kp⟩ := hr2
    repeat (any_goals (first | assumption | wp_step))
    exact fin _ _ up kp
end
section
variable {X : Cx}
def tLenSetS (K : PySem.W.Frag) (ta : TE) : TE := fun σ H Q => ta σ H fun x H1 => ∃ (l : Addr) (xs : List Str), x = .ref l ∧ SqL K H1 l (xs.map V.str) ∧ xs.length ≤ 1000 ∧ Q (.int (fresh1 xs xs.length)) H1
theorem pe_lenSetS {a : Expr} {ta : TE} {p p2 q pos : Pos} (hg : Gl X "len") (hm : X.mg "len" = none) (hg2 : Gl X "set") (hm2 : X.mg "set" = none) (ha : PE X a ta) (hc : X.calm = true := by rfl)
    (na : starEach [a] X.env = (false, eval a X.env) :: starEach [] X.env := by rfl) : PE X (.Call (.Name "len" p) [.Call (.Name "set" p2) [a] [] q] [] pos) (tLenSetS X.K ta) := by
  refine ⟨fun pins s σ H Q I h => ?_⟩
  refine Call_ (ld_blt I hg hm boot_len (PyProof.Rows.callWith_builtin1 (PyProof.Rows.args_cons ?_ rfl) rfl rfl))
  refine Call_ (ld_blt I hg2 hm2 boot_set (PyProof.Rows.callWith_type1 (PyProof.Rows.args_cons (thn (ha.run pins s σ H _ I h) fun v s1 ⟨x, H1, I1, r1, q1⟩ => PyProof.Rows.args_nil ?_) na) na rfl))
  obtain ⟨l, xs, rfl, hq, hl, q1⟩ := q1
  cases r1
  obtain ⟨its, r, pl, hz⟩ := I1.list hq
  have sz : its.toArray.size = xs.length := by rw [List.size_toArray, ← r.length, List.length_map]
  refine call_set_txt (I1.ok.hd hc) pl.isList (by simpa using strsAre_of r) (by rw [sz]; unfold scanBound; omega) fun h1 tk up kp => ?_
  refine PyProof.Rows.args_nil ?_
  rw [sz] at up
  obtain ⟨o, es, ep, t, ho, hex, hd, _, _, _, hf, hn⟩ := up
  have I2 : Inv X pins σ H1 { s1 with heap := h1, toks := tk } := I1.kept fun b o e => kp b o (Heap.lt_size e) e
  have le := fresh1_le xs xs.length
  exact call_len_set ho hex hd hf (by rw [hn]; omega) ⟨.int (fresh1 xs xs.length), H1, I2.tok _, ⟨_, by rw [hn]⟩, q1⟩
end

/-! ### two sources in one comprehension -/
section
variable {J : It} {n : Nat} {G : Hp → Prop} {Y : Nat → Hp → V → Hp → Prop}
theorem two_out (w : Walk J n G Y) {H0 : Hp} {Qd : Hp → Prop} {T : (Hp → Prop) → V → Hp → Prop} (Pv : Nat → Hp → Prop) (h0 : Pv 0 H0) (hG : ∀ i H, i ≤ n → Pv i H → G H)
    (hs : ∀ i x H H', i < n → Pv i H → Y i H x H' → T (Pv (i + 1)) x H') (hd : ∀ H, Pv n H → Qd H) :
    ∃ W : Nat → Nat → Hp → Prop, (∃ m, W 0 m H0) ∧ ∀ i m H, W i m H → (J.stop i H ∧ Qd H) ∨ (J.go i H ∧ ∃ N : Hp → Prop, (∀ H', N H' → ∃ m', m' < m ∧ W (i + 1) m' H') ∧ ∀ x H', J.yld i H x H' → T N x H') := by
  refine ⟨fun i m H => m = n - i ∧ i ≤ n ∧ Pv i H, ⟨n, by omega, Nat.zero_le _, h0⟩, fun i m H hw => ?_⟩
  obtain ⟨rfl, hi, p⟩ := hw
  have gH := hG i H hi p
  rcases Nat.lt_or_eq_of_le hi with hlt | rfl
  · exact .inr ⟨w.goes i H hlt gH, Pv (i + 1), fun H' p' => ⟨_, by omega, rfl, hlt, p'⟩, fun x H' y => hs i x H H' hlt p (w.yields i H x H' hlt gH y)⟩
  · exact .inl ⟨w.stops H gH, hd H p⟩
end


end
end Pf

namespace Pf
open PySem PySem.Spec PyProof.Rows L2
section
variable {P : Program} {w : World} {K : PySem.W.Frag} {mg : Str → Option Value} {base : Heap}
variable {c : Nat → Addr}
/-! ### what is never reached, by names that stay -/
def noE : TE := fun _ _ _ => False
def noT : TT := fun _ _ _ => False
def noI : TI := fun _ _ _ => False
def noS : TS := fun _ _ _ => False
section
variable {X : Cx}
theorem pe_dead {e : Expr} : PE X e noE := ⟨fun _ _ _ _ _ _ h => False.elim h⟩
theorem pt_dead {e : Expr} : PT X e noT := ⟨fun _ _ _ _ _ _ h => False.elim h⟩
theorem pi_dead {tg e : Expr} : PI X tg e noI := ⟨fun _ _ _ _ _ _ h => False.elim h⟩
theorem ps_dead {st : Stmt} : PS X st noS := ⟨fun _ _ _ _ _ _ h => False.elim h⟩
end
section
variable {X : Cx} {K : PySem.W.Frag}
theorem pe_lenSetSK {a : Expr} {ta : TE} {p p2 q pos : Pos} (h : X.K = K) (hg : Gl X "len") (hm : X.mg "len" = none) (hg2 : Gl X "set") (hm2 : X.mg "set" = none) (ha : PE X a ta) (hc : X.calm = true := by rfl)
    (na : starEach [a] X.env = (false, eval a X.env) :: starEach [] X.env := by rfl) : PE X (.Call (.Name "len" p) [.Call (.Name "set" p2) [a] [] q] [] pos) (tLenSetS K ta) := h ▸ pe_lenSetS hg hm hg2 hm2 ha hc na
end

theorem nyes {p : Prop} [Decidable p] {A B : Prop} (h : p) (b : B) : if (!decide p) = true then A else B := by
  rw [decide_eq_true h]
  exact iteF b
theorem nnope {p : Prop} [Decidable p] {A B : Prop} (h : ¬ p) (a : A) : if (!decide p) = true then A else B := by
  rw [decide_eq_false h]
  exact iteT a
theorem prodZ_app (ns : List Int) (n : Int) : prodZ (ns ++ [n]) = prodZ ns * n := by unfold prodZ; rw [List.foldl_append]; rfl
theorem alt_seq {K : PySem.W.Frag} {i : Nat} {σ : L2.St} {H : Hp} {R : It → Hp → Prop} {a : Addr} {xs : List V} (hi : σ[i]? = some (some (.ref a))) (hq : SqL K H a xs ∨ SqT K H a xs)
    (k : ∀ (J : It) (G : Hp → Prop), Walk J xs.length G (YAt xs) → (∀ H', Same H H' → G H') → R J H) : iList K (tVar i) σ H R ∨ iTup K (tVar i) σ H R := by
  rcases hq with h | h
  · exact .inl ⟨_, hi, a, rfl, ⟨_, h⟩, k _ _ walk_list fun H' s => s.seq h⟩
  · exact .inr ⟨_, hi, a, rfl, ⟨_, h⟩, k _ _ walk_tup fun H' s => seqT_same s h⟩
theorem any_false (n : Nat) : (List.replicate n false).any id = false := by
  induction n with
  | zero => rfl
  | succ n ih => rw [List.replicate_succ, List.any_cons, ih]; rfl
def sp_product_of (K : PySem.W.Frag) : Sp := fun vs H Q _ => ∃ (a : Addr) (ns : List Int), vs = [.ref a] ∧ SqL K H a (ns.map V.int) ∧ ns.length ≤ 10 ∧ (∀ n ∈ ns, 0 ≤ n ∧ n ≤ 4) ∧ Q (.int (prodZ ns)) H
theorem four_le {i : Nat} (h : i ≤ 10) : (4 : Int) ^ i ≤ 1048576 := by
  have h1 : (4 : Nat) ^ i ≤ 4 ^ 10 := Nat.pow_le_pow_right (by decide) h
  have h2 : ((4 ^ i : Nat) : Int) ≤ ((4 ^ 10 : Nat) : Int) := Int.ofNat_le.mpr h1
  rw [Int.natCast_pow] at h2
  exact Int.le_trans h2 (by decide)
theorem ok_product_of (T : Txt P K mg c) : Has P w K mg base 1 "product_of" ["sizes"] (sp_product_of K) := by
  obtain ⟨f, fd, F, m, b⟩ := T.d_product_of.ex
  refine ⟨f, fd, F.ok sc_product_of (fun vs H Q E h => ?_) (fun cdv A outer s H vs Q E hr h => ?_), m, F.kp, b⟩
  · obtain ⟨a, ns, rfl, hq, hl, hn, q⟩ := h
    rfl
  obtain ⟨a, ns, rfl, hq, hl, hn, q⟩ := h
  refine ⟨_, (pss_cons (ps_set (i := 1) sc_product_of.nd rfl (.inl rfl) pe_int)
      (pss_cons (ps_for PassesOwn.never rfl (pi_list (pv 0)) (pg_name (i := 2) sc_product_of.nd rfl (.inl rfl))
      (pss_one (ps_set (i := 1) sc_product_of.nd rfl (.inl rfl) (pe_op op_mul (pv 1) (pv 2)))))
      (pss_one (ps_ret (pv 1))))), ?_⟩
  refine ⟨_, rfl, a, rfl, ⟨_, hq⟩, for_list (K := K) (a := a) (xs := ns.map V.int) (fun i σ H' => ∃ y, σ = [some (.ref a), some (.int (prodZ (ns.take i))), y] ∧ H' = H ∧ 0 ≤ prodZ (ns.take i) ∧ prodZ (ns.take i) ≤ 4 ^ i) ⟨_, rfl, rfl, by rw [List.take_zero]; decide, by rw [List.take_zero]; decide⟩ (fun i σ H' _ h' => ?_) ?_ ?_⟩
  · obtain ⟨_, _, rfl, _⟩ := h'
    exact hq
  · rintro i x σ H' hx ⟨y, rfl, rfl, b0, b1⟩
    rw [List.getElem?_map] at hx
    cases hx0 : ns[i]? with
    | none => rw [hx0] at hx; cases hx
    | some n =>
    rw [hx0] at hx
    cases hx
    obtain ⟨n0, n4⟩ := hn n (List.mem_of_getElem? hx0)
    have hi : i < ns.length := (List.getElem?_eq_some_iff.mp hx0).1
    have b2 := four_le (i := i) (by omega)
    refine ⟨_, rfl, _, rfl, _, _, rfl, rfl, .inl ⟨by omega, by omega⟩, ?_⟩
    refine ⟨some (.int n), ?_, rfl, ?_, ?_⟩
    · rw [take_succ_at hx0, prodZ_app]
      rfl
    · rw [take_succ_at hx0, prodZ_app]
      exact Int.mul_nonneg b0 n0
    · rw [take_succ_at hx0, prodZ_app, Int.pow_succ]
      exact Int.mul_le_mul b1 n4 n0 (by omega)
  · rintro σ H' ⟨y, rfl, rfl, b0, b1⟩
    refine ⟨_, rfl, ?_⟩
    rw [List.length_map, List.take_length]
    exact q
def sp_in_sight (K : PySem.W.Frag) : Sp := fun us H Q _ => ∃ (v x : V) (vs : List Vr) (p : Pr), us = [v, x] ∧ VrsAt K H v vs ∧ PrAt K H x p ∧ vs.length ≤ 4 ∧ p.ps.length ≤ 3 ∧ p.ls.length ≤ 3 ∧
  ∀ (l : Addr) (ws : List V) (H' : Hp), Same H H' → H l = none → H' l = some (.lst ws) → All2 (VrAt K H') ws (scp vs p) → Q (.ref l) H'
theorem p0 {x y z w : V} : atI [x, y, z, w] 0 = some x := atI_nat (j := 0) rfl
theorem p1 {x y z w : V} : atI [x, y, z, w] 1 = some y := atI_nat (j := 1) rfl
theorem p2 {x y z w : V} : atI [x, y, z, w] 2 = some z := atI_nat (j := 2) rfl
theorem p3 {x y z w : V} : atI [x, y, z, w] 3 = some w := atI_nat (j := 3) rfl
theorem ok_in_sight (T : Txt P K mg c) : Has P w K mg base 1 "in_sight" ["variables", "procedure"] (sp_in_sight K) := by
  obtain ⟨f, fd, F, m, b⟩ := T.d_in_sight.ex
  refine ⟨f, fd, F.ok sc_in_sight (fun vs H Q E h => ?_) (fun cdv A outer s H vs Q E hr h => ?_), m, F.kp, b⟩
  · obtain ⟨v, x, vs, p, rfl, hv, hx, v4, p3, l3, q⟩ := h
    rfl
  obtain ⟨v, x, vs, p, rfl, hv, hx, v4, p3, l3, q⟩ := h
  refine ⟨_, (pss_one (ps_ret (pe_op op_cat (pe_op op_cat (pe_callTy call_list_of (by rfl) T.z_list (by decide +kernel) (pa_cons (pv 0) pa_nil)) (pe_callTy call_list_of (by rfl) T.z_list (by decide +kernel) (pa_cons (pe_ix ix_tup (pv 1) pe_int (fun _ _ => rfl)) pa_nil))) (pe_callTy call_list_of (by rfl) T.z_list (by decide +kernel) (pa_cons (pe_ix ix_tup (pv 1) pe_int (fun _ _ => rfl)) pa_nil))))), ?_⟩
  obtain ⟨a, xs, rfl, hq, ha⟩ := hv
  obtain ⟨r, s1, s2, s3, rfl, hr, ⟨a1, x1, rfl, hq1, ha1⟩, ⟨a2, x2, rfl, hq2, ha2⟩, h3⟩ := hx
  have e0 := ha.1
  have e1 := ha1.1
  have e2 := ha2.1
  refine ⟨_, rfl, a, _, rfl, hq, fun l0 n0 => ?_⟩
  have t0 := same_new (o := .lst xs) n0
  refine ⟨_, rfl, r, _, _, _, rfl, rfl, seqT_same t0 hr, p1, a1, _, rfl, hq1.same t0, fun l1 n1 => ?_⟩
  have t1 := t0.trans (same_new (o := .lst x1) n1)
  refine ⟨l0, l1, _, _, rfl, rfl, same_new n1 _ _ upd_same, upd_same, line_small (by omega), fun l2 n2 => ?_⟩
  have t2 := t1.trans (same_new (o := .lst (xs ++ x1)) n2)
  refine ⟨_, rfl, r, _, _, _, rfl, rfl, seqT_same t2 hr, p2, a2, _, rfl, hq2.same t2, fun l4 n4 => ?_⟩
  have t4 := t2.trans (same_new (o := .lst x2) n4)
  refine ⟨l2, l4, _, _, rfl, rfl, same_new n4 _ _ upd_same, upd_same, line_small (by rw [List.length_append]; omega), fun l5 n5 => ?_⟩
  have t5 := t4.trans (same_new (o := .lst ((xs ++ x1) ++ x2)) n5)
  refine q l5 _ _ t5 (same_back t4 n5) upd_same ?_
  exact ((ha.imp fun _ _ => VrAt.same t5).app (ha1.imp fun _ _ => VrAt.same t5)).app (ha2.imp fun _ _ => VrAt.same t5)
theorem o0 {x : V} : atI [x] 0 = some x := atI_nat (j := 0) rfl
def sp_bodies_of (K : PySem.W.Frag) : Sp := fun us H Q _ => ∃ q, us = [.ref q] ∧ SqT K H q [.str "skip"] ∧ ∀ t, H t = none → Q (.ref t) (upd H t (.tup []))
theorem ok_bodies_of (T : Txt P K mg c) : Has P w K mg base 1 "bodies_of" ["statement"] (sp_bodies_of K) := by
  obtain ⟨f, fd, F, m, b⟩ := T.d_bodies_of.ex
  refine ⟨f, fd, F.ok sc_bodies_of (fun vs H Q E h => ?_) (fun cdv A outer s H vs Q E hr h => ?_), m, F.kp, b⟩
  · obtain ⟨s, rfl, hs, q⟩ := h
    rfl
  obtain ⟨s, rfl, hs, q⟩ := h
  refine ⟨_, (pss_cons (ps_if (pt_cmpR op_eq (pe_ix ix_tup (pv 0) pe_int (fun _ _ => rfl)) pe_str (nomark _))
      (pss_one ps_dead)
      pss_nil)
      (pss_cons (ps_if (pt_cmpR op_eq (pe_ix ix_tup (pv 0) pe_int (fun _ _ => rfl)) pe_str (nomark _))
      (pss_one ps_dead)
      pss_nil)
      (pss_one (ps_ret (pe_tup pa_nil))))), ?_⟩
  refine ⟨_, rfl, s, _, _, _, rfl, rfl, hs, o0, rfl, _, rfl, nope (by decide +kernel) ?_⟩
  refine ⟨_, rfl, s, _, _, _, rfl, rfl, hs, o0, rfl, _, rfl, nope (by decide +kernel) ?_⟩
  exact ⟨by show 0 ≤ sizeLine; decide, fun t nt => q t nt⟩
def sp_expressions_of (K : PySem.W.Frag) : Sp := fun us H Q _ => ∃ q, us = [.ref q] ∧ SqT K H q [.str "skip"] ∧ ∀ t H', Same H H' → H' t = some (.tup []) → Q (.ref t) H'
theorem ok_expressions_of (T : Txt P K mg c) : Has P w K mg base 1 "expressions_of" ["statement"] (sp_expressions_of K) := by
  obtain ⟨f, fd, F, m, b⟩ := T.d_expressions_of.ex
  refine ⟨f, fd, F.ok sc_expressions_of (fun vs H Q E h => ?_) (fun cdv A outer s H vs Q E hr h => ?_), m, F.kp, b⟩
  · obtain ⟨s, rfl, hs, q⟩ := h
    rfl
  obtain ⟨s, rfl, hs, q⟩ := h
  refine ⟨_, (pss_cons (ps_set (i := 1) sc_expressions_of.nd rfl (.inl rfl) (pe_ix ix_tup (pv 0) pe_int (fun _ _ => rfl)))
      (pss_cons (ps_if (pt_cmpR op_eq (pv 1) pe_str (nomark _))
      (pss_one ps_dead)
      pss_nil)
      (pss_cons (ps_if (pt_cmpR op_eq (pv 1) pe_str (nomark _))
      (pss_one ps_dead)
      pss_nil)
      (pss_cons (ps_if (pt_cmpR op_in_seq (pv 1) (pe_tup (pa_cons pe_str (pa_cons pe_str (pa_cons pe_str pa_nil)))) (by rfl))
      (pss_one ps_dead)
      pss_nil)
      (pss_one (ps_ret (pe_tup pa_nil))))))), ?_⟩
  refine ⟨_, rfl, s, _, _, _, rfl, rfl, hs, o0, ?_⟩
  refine ⟨_, rfl, rfl, _, rfl, nope (by decide +kernel) ?_⟩
  refine ⟨_, rfl, rfl, _, rfl, nope (by decide +kernel) ?_⟩
  refine ⟨_, rfl, by show 3 ≤ sizeLine; decide, fun t nt => ?_⟩
  refine ⟨t, _, rfl, .inr (SqT.of upd_same), rfl, by decide +kernel, _, rfl, ?_⟩
  refine ite2 (fun e => absurd e (by decide +kernel)) fun _ => ⟨by show 0 ≤ sizeLine; decide, fun t2 n2 => q t2 _ ((same_new nt).trans (same_new n2)) upd_same⟩
def sp_has_many_variables (K : PySem.W.Frag) : Sp := fun us H Q _ => ∃ (x : V) (p : Pr), us = [x] ∧ PrAt K H x p ∧ p.ps.length ≤ 3 ∧ p.ls.length ≤ 3 ∧ Q (.bl false) H
theorem ok_has_many_variables (T : Txt P K mg c) : Has P w K mg base 1 "has_many_variables" ["procedure"] (sp_has_many_variables K) := by
  obtain ⟨f, fd, F, m, b⟩ := T.d_has_many_variables.ex
  obtain ⟨tk_MOST_PARAMETERS, cc_MOST_PARAMETERS⟩ := T.c_MOST_PARAMETERS
  obtain ⟨tk_MOST_LOCALS, cc_MOST_LOCALS⟩ := T.c_MOST_LOCALS
  refine ⟨f, fd, F.ok sc_has_many_variables (fun vs H Q E h => ?_) (fun cdv A outer s H vs Q E hr h => ?_), m, F.kp, b⟩
  · obtain ⟨x, p, rfl, hx, l1, l2, q⟩ := h
    rfl
  obtain ⟨x, p, rfl, hx, l1, l2, q⟩ := h
  refine ⟨_, (pss_one (ps_ret (pe_or (pe_cmpR op_gt (pe_callB call_len_seq (by rfl) T.z_len (by decide +kernel) (pa_cons (pe_ix ix_tup (pv 0) pe_int (fun _ _ => rfl)) pa_nil)) (pe_glob (v := .int 3) rfl cc_MOST_PARAMETERS ⟨_, rfl⟩) (nomark _)) (pe_one (pe_cmpR op_gt (pe_callB call_len_seq (by rfl) T.z_len (by decide +kernel) (pa_cons (pe_ix ix_tup (pv 0) pe_int (fun _ _ => rfl)) pa_nil)) (pe_glob (v := .int 3) rfl cc_MOST_LOCALS ⟨_, rfl⟩) (nomark _)))))), ?_⟩
  obtain ⟨r, s1, s2, s3, rfl, hr, ⟨a1, x1, rfl, hq1, ha1⟩, ⟨a2, x2, rfl, hq2, ha2⟩, h3⟩ := hx
  have e1 := ha1.1
  have e2 := ha2.1
  refine ⟨_, rfl, r, _, _, _, rfl, rfl, hr, p1, a1, _, rfl, hq1, _, _, rfl, rfl, _, rfl, ?_⟩
  rw [decide_eq_false (show ¬ ((3 : Int) < ((x1.length : Nat) : Int)) by omega)]
  refine iteF ⟨_, rfl, r, _, _, _, rfl, rfl, hr, p2, a2, _, rfl, hq2, _, _, rfl, rfl, ?_⟩
  show Q (.bl (decide ((3 : Int) < ((x2.length : Nat) : Int)))) H
  rw [decide_eq_false (show ¬ ((3 : Int) < ((x2.length : Nat) : Int)) by omega)]
  exact q


end
end Pf

namespace Pf
open PySem PySem.Spec PyProof.Rows L2
section
variable {P : Program} {w : World} {K : PySem.W.Frag} {mg : Str → Option Value} {base : Heap}
variable {c : Nat → Addr}
def sp_is_name (K : PySem.W.Frag) : Sp := fun us H Q _ => ∃ z, us = [.str z] ∧ NmOk z ∧ ∀ H', Same H H' → Q (.bl true) H'
theorem kw_flat : (kwS.map V.str).all flatV = true := by decide +kernel
theorem in_kw {z : Str} (h : z ∉ kwS) : inV (.str z) (kwS.map V.str) = false := by
  unfold inV
  rw [List.any_eq_false]
  intro x hx
  obtain ⟨y, hy, rfl⟩ := List.mem_map.mp hx
  intro e
  have e2 : y = z := by simpa [eqV] using e
  exact h (e2 ▸ hy)
theorem ok_is_name (T : Txt P K mg c) : Has P w K mg base 1 "is_name" ["text"] (sp_is_name K) := by
  obtain ⟨f, fd, F, m, b⟩ := T.d_is_name.ex
  obtain ⟨tk_LONGEST_NAME, cc_LONGEST_NAME⟩ := T.c_LONGEST_NAME
  obtain ⟨tk_LETTERS, cc_LETTERS⟩ := T.c_LETTERS
  obtain ⟨ka_KEYWORDS, cc_KEYWORDS, kt_KEYWORDS⟩ := T.c_KEYWORDS
  obtain ⟨tk_WORD_CHARACTERS, cc_WORD_CHARACTERS⟩ := T.c_WORD_CHARACTERS
  refine ⟨f, fd, F.ok sc_is_name (fun vs H Q E h => ?_) (fun cdv A outer s H vs Q E hr h => ?_), m, F.kp, b⟩
  · obtain ⟨z, rfl, hz, q⟩ := h
    rfl
  obtain ⟨z, rfl, hz, q⟩ := h
  refine ⟨_, (pss_cons (ps_if (PW.pt (pw_or (pt_not (pt_chain op_le op_le pe_int (pe_callB call_len_str (by rfl) T.z_len (by decide +kernel) (pa_cons (pv 0) pa_nil)) (pe_glob (v := .int 8) rfl cc_LONGEST_NAME ⟨_, rfl⟩))) (pw_or1 (pt_cmpR op_notIn_sign (pe_ix ix_str (pv 0) pe_int (fun _ _ => rfl)) (pe_glob (v := .str "abcdefghijklmnopqrstuvwxyz") rfl cc_LETTERS ⟨_, rfl⟩) (by rfl)))))
      (pss_one (ps_ret pe_bl))
      pss_nil)
      (pss_one (ps_ret (pe_and (pe_cmpR op_notIn_seq (pv 0) (pe_glob (v := .ref ka_KEYWORDS) rfl cc_KEYWORDS rfl) (by rfl)) (pe_one (pe_callB (cr_all rfl) (by rfl) T.z_all (by decide +kernel) (pa_cons (pe_lc (own := [("character", 1)]) (g := gName 1) (by rfl) sc_is_name.nd (pi_str (pv 0)) (blkOk_by (own := [("character", 1)]) (N := ["text", "character"]) (sc := defScope s_is_name) (by decide +kernel)) (fun _ _ _ _ _ => pg_name (i := 1) sc_is_name.nd rfl (Or.inl rfl)) (fun _ _ _ _ _ => pts_nil) (fun _ _ _ _ _ => (pe_cmpR op_in_sign (pv 1) (pe_glob (v := .str "abcdefghijklmnopqrstuvwxyz0123456789") rfl cc_WORD_CHARACTERS ⟨_, rfl⟩) (by rfl)))) pa_nil))))))), ?_⟩
  obtain ⟨n1, n8, ⟨c, hc, hl⟩, hw, hk⟩ := hz
  refine ⟨_, rfl, _, rfl, line_small (by omega), _, _, rfl, rfl, _, rfl, yes (by omega) ⟨_, _, rfl, rfl, _, rfl, nyes (by omega) ?_⟩⟩
  refine ⟨_, rfl, _, _, _, rfl, rfl, line_small (by omega), atI_nat (j := 0) hc, c, _, rfl, rfl, ?_⟩
  refine ⟨_, rfl, nyes hl ?_⟩
  refine ⟨_, rfl, ka_KEYWORDS, _, rfl, .inr (KTup.seq kt_KEYWORDS), rfl, kw_flat, ?_⟩
  have nk : inV (.str z) (kwS.map V.str) = false := in_kw hk
  refine ⟨true, by show V.bl (!inV (V.str z) (kwS.map V.str)) = V.bl true; rw [nk]; rfl, ?_⟩
  refine ⟨_, rfl, z, rfl, fun D nD => lc_it (walk_str (z := z)) (fun i H' => Same H H' ∧ H' D = some (.lst ((List.replicate i true).map V.bl))) ⟨same_new nD, upd_same⟩ (fun i H' _ h' => trivial) ?_ ?_⟩
  · rintro i x H1 H2 hi ⟨s1, hD⟩ ⟨rfl, c2, hc2, rfl⟩
    refine ⟨rfl, _, rfl, c2, _, rfl, rfl, ?_⟩
    have m2 : c2 ∈ wrdS := hw c2 (List.mem_of_getElem? (by rw [Array.getElem?_toList]; exact hc2))
    rw [show (decide (c2 ∈ (Str.ofString "abcdefghijklmnopqrstuvwxyz0123456789").cps.toList)) = true from decide_eq_true m2]
    refine ⟨_, hD, ?_, same_mut s1 nD, ?_⟩
    · rw [List.length_map, List.length_replicate]
      have : i < z.length := hi
      exact small1000 (by omega)
    · rw [upd_same, List.replicate_succ', List.map_append]
      rfl
  · rintro H1 ⟨s1, hD⟩
    refine ⟨D, _, rfl, SqL.of hD, ?_⟩
    rw [all_true]
    exact q H1 s1
def sp_statements_of (K : PySem.W.Frag) : Sp := fun us H Q _ => ∃ (v : V) (sk : Bool), us = [v] ∧ BdAt K H v sk ∧ ∀ (l : Addr) (ws : List V) (H' : Hp), Same H H' → H l = none → H' l = some (.lst ws) →
  ((sk = false ∧ ws = []) ∨ sk = true ∧ ∃ t q, ws = [.ref t] ∧ SqT K H' t [.ref q, .int 1] ∧ SqT K H' q [.str "skip"]) → Q (.ref l) H'
theorem ok_statements_of (T : Txt P K mg c) : Has P w K mg base 2 "statements_of" ["body"] (sp_statements_of K) := by
  obtain ⟨f, fd, F, m, b⟩ := T.d_statements_of.ex
  obtain ⟨f_bodies_of, fd_bodies_of, G_bodies_of, m_bodies_of, k_bodies_of, b_bodies_of⟩ := ok_bodies_of (P := P) (w := w) (base := base) T
  refine ⟨f, fd, F.ok sc_statements_of (fun vs H Q E h => ?_) (fun cdv A outer s H vs Q E hr h => ?_), m, F.kp, b⟩
  · obtain ⟨v, sk, rfl, hv, q⟩ := h
    rfl
  obtain ⟨v, sk, rfl, hv, q⟩ := h
  refine ⟨_, (pss_cons (ps_set (i := 1) sc_statements_of.nd rfl (.inl rfl) (pe_lst pa_nil))
      (pss_cons (ps_setLc (i := 3) (own := [("statement", 2)]) (g := gName 2) (by rfl) sc_statements_of.nd rfl rfl (sw_true rfl rfl rfl (by decide +kernel)) (pi_alt (pi_list (pv 0)) (pi_tup (pv 0))) (blkOk_by (own := [("statement", 2)]) (N := ["body", "found", "statement", "waiting", "depth", "inner", "below"]) (sc := defScope s_statements_of) (by decide +kernel)) (fun _ _ _ _ _ => (pg_name (i := 2) sc_statements_of.nd rfl (.inl rfl))) (fun _ _ _ _ _ => pts_nil) (fun _ _ _ _ _ => (pe_tup (pa_cons (pv 2) (pa_cons pe_int pa_nil)))))
      (pss_cons (ps_while PassesOwn.never (pt_truth (pv 3) (by intro _; rfl))
      (pss_cons (ps_asg (pe_bm0 PySem.F.plainAttrs_list PySem.F.slot_list_pop PySem.F.type_list_pop mt_pop (pv 3)) (pg_tup rfl (pgs_cons (pg_name (i := 2) sc_statements_of.nd rfl (.inl rfl)) (pgs_cons (pg_name (i := 4) sc_statements_of.nd rfl (.inr rfl)) pgs_nil))))
        (pss_cons (ps_expr (pe_bm PySem.F.plainAttrs_list PySem.F.slot_list_append PySem.F.type_list_append mt_append (pv 1) (pa_cons (pe_tup (pa_cons (pv 2) (pa_cons (pv 4) pa_nil))) pa_nil)))
        (pss_one (ps_for PassesOwn.never rfl (pi_tup (pe_call G_bodies_of (hr.mono (by decide)) (by rfl) m_bodies_of k_bodies_of b_bodies_of .nil pass0 (pa_cons (pv 2) pa_nil))) (pg_name (i := 5) sc_statements_of.nd rfl (.inl rfl))
        (pss_one ps_dead))))))
      (pss_one (ps_ret (pv 1)))))), ?_⟩
  obtain ⟨a, xs, rfl, hq, hb⟩ := hv
  refine ⟨by show 0 ≤ sizeLine; decide, fun f nf => ?_⟩
  have s0 := same_new (o := .lst []) nf
  have hf : (upd H f (.lst [])) f = some (.lst []) := upd_same
  generalize upd H f (.lst []) = H0 at s0 hf ⊢
  -- waiting
  refine alt_seq rfl (hq.same s0) fun J G w g => fun D nD => lc_it w (fun i H' => Same H0 H' ∧ ∃ ts, H' D = some (.lst ts) ∧ All2 (fun t x => ∃ p, t = .ref p ∧ SqT K H' p [x, .int 1]) ts (xs.take i)) ⟨same_new nD, [], upd_same, .nil⟩ (fun i H' _ h' => g _ h'.1) ?_ ?_
  · rintro i x H1 H2 hi ⟨s1, ts, hD, ha⟩ ⟨rfl, hx⟩
    have hlt : ts.length = i := by rw [ha.1, List.length_take]; omega
    have l1 : xs.length ≤ 1 := by rcases hb with ⟨_, rfl⟩ | ⟨_, _, rfl, _⟩ <;> simp
    refine ⟨rfl, _, rfl, by show 2 ≤ sizeLine; decide, fun t nt => ⟨ts, same_new nt _ _ hD, small1000 (by omega), same_mut (s1.trans (same_new nt)) nD, ts ++ [.ref t], upd_same, ?_⟩⟩
    have hD2 : (upd H2 t (.tup [x, .int 1])) D = some (.lst ts) := same_new nt _ _ hD
    rw [take_succ_at hx]
    refine (ha.imp fun t' x' ⟨p, e, h⟩ => ⟨p, e, seqT_mut hD2 (seqT_same (same_new nt) h)⟩).app (.one ⟨t, rfl, seqT_mut hD2 (SqT.of upd_same)⟩)
  rintro H1 ⟨s1, ts, hD, ha⟩
  rw [List.take_length] at ha
  have nDf : f ≠ D := ne_of_none hf nD
  have s01 := s0.trans s1
  have hf1 := s1 _ _ hf
  have key : ∀ Q' : Ends, Q'.nx = Q'.nx → True := fun _ _ => trivial
  rcases hb with ⟨rfl, rfl⟩ | ⟨rfl, qs, rfl, hqs⟩
  · obtain rfl : ts = [] := by
      have := ha.1
      cases ts
      · rfl
      · simp at this
    unfold gName
    dsimp only [tSeq]
    refine while_by (fun σ H' => σ = [some (.ref a), some (.ref f), none, some (.ref D), none, none, none] ∧ H' = H1) (fun _ _ => 0) ⟨rfl, rfl⟩ ?_ (fun σ H Q Q' m h => ?_)
    · rintro σ H' ⟨rfl, rfl⟩
      refine ⟨_, rfl, false, .inl ⟨[], SqL.of hD, rfl⟩, ?_⟩
      refine iteF ⟨_, rfl, ?_⟩
      exact q f [] _ s01 nf hf1 (.inl ⟨rfl, rfl⟩)
    · obtain ⟨v, h1, k, h2, h3⟩ := h
      exact ⟨v, h1, k, h2, m _ _ h3⟩
  · obtain ⟨t, rfl, ht⟩ : ∃ t, ts = [.ref t] ∧ SqT K H1 t [.ref qs, .int 1] := by
      have e := ha.1
      obtain _ | ⟨t, _ | ⟨t2, ts⟩⟩ := ts
      · simp at e
      · obtain ⟨p, rfl, hp⟩ := ha.2 0 t (.ref qs) rfl rfl
        exact ⟨p, rfl, hp⟩
      · simp at e
    unfold gName
    dsimp only [tSeq]
    refine while_by (fun σ H' => (σ = [some (.ref a), some (.ref f), none, some (.ref D), none, none, none] ∧ H1 = H') ∨ (H' D = some (.lst []) ∧ ∃ t2 y5, σ = [some (.ref a), some (.ref f), some (.ref qs), some (.ref D), some (.int 1), y5, none] ∧ H' f = some (.lst [.ref t2]) ∧ SqT K H' t2 [.ref qs, .int 1] ∧ SqT K H' qs [.str "skip"] ∧ Same H H'))
      (fun σ H' => match H' D with | some (.lst xs) => xs.length | _ => 0) (.inl ⟨rfl, rfl⟩) ?_ (fun σ H Q Q' m h => ?_)
    · rintro σ H' (⟨rfl, rfl⟩ | ⟨hD2, t2, y5, rfl, hf2, ht2, hq2, s2⟩)
      · refine ⟨_, rfl, true, .inl ⟨_, SqL.of hD, rfl⟩, ?_⟩
        refine iteT ?_
        refine ⟨_, rfl, .inl ⟨rfl, _, SqL.of hD⟩, D, _, _, rfl, rfl, hD, rfl, ?_⟩
        have hD3 : (upd H1 D (.lst ([V.ref t] : List V).dropLast)) D = some (.lst []) := upd_same
        have s3 : Same H (upd H1 D (.lst ([V.ref t] : List V).dropLast)) := fun b o e => by
          rw [upd_ne (ne_of_none (s0 _ _ e) nD)]
          exact s01 _ _ e
        have hf3 : (upd H1 D (.lst ([V.ref t] : List V).dropLast)) f = some (.lst []) := (upd_ne nDf).trans hf1
        have ht3 := seqT_mut (o := .lst ([V.ref t] : List V).dropLast) hD ht
        have hq3 := seqT_mut (o := .lst ([V.ref t] : List V).dropLast) hD (seqT_same s01 hqs)
        generalize upd H1 D (.lst ([V.ref t] : List V).dropLast) = H3 at hD3 s3 hf3 ht3 hq3 ⊢
        refine ⟨t, _, rfl, ht3, rfl, _, _, rfl, _, _, rfl, rfl, ?_⟩
        refine ⟨_, rfl, .inl ⟨rfl, _, SqL.of hf3⟩, _, rfl, _, rfl, by show 2 ≤ sizeLine; decide, fun t2 nt2 => ⟨f, _, _, rfl, rfl, same_new nt2 _ _ hf3, by decide, ?_⟩⟩
        have e4 := same_new (o := .tup [.ref qs, .int 1]) nt2
        have hf4 := e4 _ _ hf3
        have s5 : Same H (upd (upd H3 t2 (.tup [.ref qs, .int 1])) f (.lst ([] ++ [.ref t2]))) := fun b o e => by
          rw [upd_ne (ne_of_none e nf)]
          exact e4 _ _ (s3 _ _ e)
        have hD5 : (upd (upd H3 t2 (.tup [.ref qs, .int 1])) f (.lst ([] ++ [.ref t2]))) D = some (.lst []) := (upd_ne nDf.symm).trans (e4 _ _ hD3)
        have hf5 : (upd (upd H3 t2 (.tup [.ref qs, .int 1])) f (.lst ([] ++ [.ref t2]))) f = some (.lst [.ref t2]) := upd_same
        have ht5 := seqT_mut (o := .lst ([] ++ [.ref t2])) hf4 (SqT.of (K := K) (upd_same (H := H3) (a := t2) (o := .tup [.ref qs, .int 1])))
        have hq5 := seqT_mut (o := .lst ([] ++ [.ref t2])) hf4 (seqT_same e4 hq3)
        generalize upd (upd H3 t2 (.tup [.ref qs, .int 1])) f (.lst ([] ++ [.ref t2])) = H5 at s5 hD5 hf5 ht5 hq5 ⊢
        refine ⟨_, rfl, qs, rfl, hq5, fun te ne => ⟨te, rfl, ⟨_, SqT.of upd_same⟩, ?_⟩⟩
        refine ⟨fun i m σ H' => i = 0 ∧ σ = [some (.ref a), some (.ref f), some (.ref qs), some (.ref D), some (.int 1), none, none] ∧ H' = upd H5 te (.tup []), ⟨0, rfl, rfl, rfl⟩, ?_⟩
        rintro i m σ H' ⟨rfl, rfl, rfl⟩
        refine .inl ⟨⟨[], SqT.of upd_same, Nat.le_refl _⟩, ?_⟩
        have e6 := same_new (o := .tup []) ne
        refine ⟨.inr ⟨e6 _ _ hD5, t2, _, rfl, e6 _ _ hf5, seqT_same e6 ht5, seqT_same e6 hq5, s5.trans e6⟩, ?_⟩
        rw [e6 _ _ hD5, hD]
        exact Nat.zero_lt_one
      · refine ⟨_, rfl, false, .inl ⟨[], SqL.of hD2, rfl⟩, ?_⟩
        refine iteF ⟨_, rfl, ?_⟩
        exact q f _ _ s2 nf hf2 (.inr ⟨rfl, t2, qs, rfl, ht2, hq2⟩)
    · obtain ⟨v, h1, k, h2, h3⟩ := h
      exact ⟨v, h1, k, h2, m _ _ h3⟩
def sp_body_length (K : PySem.W.Frag) : Sp := fun us H Q _ => ∃ (v : V) (sk : Bool), us = [v] ∧ BdAt K H v sk ∧ ∀ H', Same H H' → Q (.int (if sk = true then 1 else 0)) H'
theorem ok_body_length (T : Txt P K mg c) : Has P w K mg base 3 "body_length" ["body"] (sp_body_length K) := by
  obtain ⟨f, fd, F, m, b⟩ := T.d_body_length.ex
  obtain ⟨f_statements_of, fd_statements_of, G_statements_of, m_statements_of, k_statements_of, b_statements_of⟩ := ok_statements_of (P := P) (w := w) (base := base) T
  refine ⟨f, fd, F.ok sc_body_length (fun vs H Q E h => ?_) (fun cdv A outer s H vs Q E hr h => ?_), m, F.kp, b⟩
  · obtain ⟨v, sk, rfl, hv, q⟩ := h
    rfl
  obtain ⟨v, sk, rfl, hv, q⟩ := h
  refine ⟨_, (pss_one (ps_ret (pe_callB call_len_seq (by rfl) T.z_len (by decide +kernel) (pa_cons (pe_call G_statements_of (hr.mono (by decide)) (by rfl) m_statements_of k_statements_of b_statements_of .nil pass0 (pa_cons (pv 0) pa_nil)) pa_nil)))), ?_⟩
  refine ⟨_, rfl, v, sk, rfl, hv, fun l ws H1 s1 nl hl hw => ⟨l, _, rfl, .inl (SqL.of hl), ?_⟩⟩
  rcases hw with ⟨rfl, rfl⟩ | ⟨rfl, t, p, rfl, _⟩
  · exact q _ s1
  · exact q _ s1
def sp_has_wrong_number (K : PySem.W.Frag) : Sp := fun us H Q _ => ∃ q, us = [.ref q] ∧ SqT K H q [.str "skip"] ∧ ∀ H', Same H H' → Q (.bl false) H'
theorem ok_has_wrong_number (T : Txt P K mg c) : Has P w K mg base 2 "has_wrong_number" ["statement"] (sp_has_wrong_number K) := by
  obtain ⟨f, fd, F, m, b⟩ := T.d_has_wrong_number.ex
  obtain ⟨f_expressions_of, fd_expressions_of, G_expressions_of, m_expressions_of, k_expressions_of, b_expressions_of⟩ := ok_expressions_of (P := P) (w := w) (base := base) T
  refine ⟨f, fd, F.ok sc_has_wrong_number (fun vs H Q E h => ?_) (fun cdv A outer s H vs Q E hr h => ?_), m, F.kp, b⟩
  · obtain ⟨s, rfl, hs, q⟩ := h
    rfl
  obtain ⟨s, rfl, hs, q⟩ := h
  refine ⟨_, (pss_cons (ps_setLc2 (i := 1) (own := [("expression", 2), ("leaf", 3)]) (vs1 := [3]) (g := gName 2) (g1 := gName 3) (by rfl) sc_has_wrong_number.nd rfl rfl (sw_true rfl rfl rfl (by decide +kernel)) (pi_tup (pe_call G_expressions_of (hr.mono (by decide)) (by rfl) m_expressions_of k_expressions_of b_expressions_of .nil pass0 (pa_cons (pv 0) pa_nil))) (blkOk_by (own := [("expression", 2), ("leaf", 3)]) (N := ["statement", "leaves", "expression", "leaf", "word", "worth"]) (sc := defScope s_has_wrong_number) (by decide +kernel)) (by decide) (fun _ _ _ _ _ => (pg_name (i := 2) sc_has_wrong_number.nd rfl (.inl rfl))) (fun _ _ _ _ _ => pts_nil) (fun _ _ _ _ _ => pi_dead) (fun _ _ _ _ _ => (pg_name (i := 3) sc_has_wrong_number.nd rfl (.inl rfl))) (fun _ _ _ _ _ => pts_nil) (fun _ _ _ _ _ => (pv 3)))
      (pss_one (ps_ret (pe_callB (cr_any rfl) (by rfl) T.z_any (by decide +kernel) (pa_cons (pe_lc (own := [("word", 4), ("worth", 5)]) (by rfl) sc_has_wrong_number.nd (pi_list (pv 1)) (blkOk_by (own := [("word", 4), ("worth", 5)]) (N := ["statement", "leaves", "expression", "leaf", "word", "worth"]) (sc := defScope s_has_wrong_number) (by decide +kernel)) (fun _ _ _ _ _ => (pg_tupK (K := K) (n := 2) rfl rfl (pgs_cons (pg_name (i := 4) sc_has_wrong_number.nd rfl (.inl rfl)) (pgs_cons (pg_name (i := 5) sc_has_wrong_number.nd rfl (.inl rfl)) pgs_nil)))) (fun _ _ _ _ _ => pts_nil) (fun _ _ _ _ _ => pe_dead)) pa_nil))))), ?_⟩
  refine ⟨_, rfl, s, rfl, hs, fun t H1 s1 ht => ⟨t, rfl, ⟨_, SqT.of ht⟩, fun D nD => two_out (walk_tup (K := K) (a := t) (xs := [])) (fun _ H' => H' = upd H1 D (.lst [])) rfl (fun i H' _ h' => by rw [h']; exact SqT.of (same_new nD _ _ ht)) ?_ ?_⟩⟩
  · exact fun i x H' H'' hi => absurd hi (Nat.not_lt_zero _)
  rintro H' rfl
  have s2 := s1.trans (same_new (o := .lst []) nD)
  have hD : (upd H1 D (.lst [])) D = some (.lst []) := upd_same
  refine ⟨_, rfl, D, rfl, ⟨_, SqL.of hD⟩, fun D2 n2 => lc_it (walk_list (K := K) (a := D) (xs := [])) (fun _ H' => H' = upd (upd H1 D (.lst [])) D2 (.lst [])) rfl (fun i H' _ h' => by rw [h']; exact SqL.of (same_new n2 _ _ hD)) ?_ ?_⟩
  · exact fun i x H' H'' hi => absurd hi (Nat.not_lt_zero _)
  rintro H' rfl
  refine ⟨D2, [], rfl, SqL.of upd_same, ?_⟩
  exact q _ (s2.trans (same_new n2))
def sp_has_unknown (K : PySem.W.Frag) : Sp := fun us H Q _ => ∃ (q : Addr) (x y : V), us = [.ref q, x, y] ∧ SqT K H q [.str "skip"] ∧ ∀ H', Same H H' → Q (.bl false) H'
theorem ok_has_unknown (T : Txt P K mg c) : Has P w K mg base 2 "has_unknown" ["statement", "sizes", "many"] (sp_has_unknown K) := by
  obtain ⟨f, fd, F, m, b⟩ := T.d_has_unknown.ex
  obtain ⟨f_expressions_of, fd_expressions_of, G_expressions_of, m_expressions_of, k_expressions_of, b_expressions_of⟩ := ok_expressions_of (P := P) (w := w) (base := base) T
  refine ⟨f, fd, F.ok sc_has_unknown (fun vs H Q E h => ?_) (fun cdv A outer s H vs Q E hr h => ?_), m, F.kp, b⟩
  · obtain ⟨s, x, y, rfl, hs, q⟩ := h
    rfl
  obtain ⟨s, x, y, rfl, hs, q⟩ := h
  refine ⟨_, (pss_cons (ps_if (PW.pt (pw_and (pt_cmpR op_eq (pe_ix ix_tup (pv 0) pe_int (fun _ _ => rfl)) pe_str (nomark _)) (pw_and1 pt_dead)))
      (pss_one ps_dead)
      pss_nil)
      (pss_cons (ps_if (PW.pt (pw_and (pt_cmpR op_in_seq (pe_ix ix_tup (pv 0) pe_int (fun _ _ => rfl)) (pe_tup (pa_cons pe_str (pa_cons pe_str pa_nil))) (by rfl)) (pw_and1 pt_dead)))
      (pss_one ps_dead)
      pss_nil)
      (pss_cons (ps_setLc2 (i := 3) (own := [("expression", 4), ("leaf", 5)]) (vs1 := [5]) (g := gName 4) (g1 := gName 5) (by rfl) sc_has_unknown.nd rfl rfl (sw_true rfl rfl rfl (by decide +kernel)) (pi_tup (pe_call G_expressions_of (hr.mono (by decide)) (by rfl) m_expressions_of k_expressions_of b_expressions_of .nil pass0 (pa_cons (pv 0) pa_nil))) (blkOk_by (own := [("expression", 4), ("leaf", 5)]) (N := ["statement", "sizes", "many", "leaves", "expression", "leaf", "word", "worth"]) (sc := defScope s_has_unknown) (by decide +kernel)) (by decide) (fun _ _ _ _ _ => (pg_name (i := 4) sc_has_unknown.nd rfl (.inl rfl))) (fun _ _ _ _ _ => pts_nil) (fun _ _ _ _ _ => pi_dead) (fun _ _ _ _ _ => (pg_name (i := 5) sc_has_unknown.nd rfl (.inl rfl))) (fun _ _ _ _ _ => pts_nil) (fun _ _ _ _ _ => (pv 5)))
      (pss_one (ps_ret (pe_callB (cr_any rfl) (by rfl) T.z_any (by decide +kernel) (pa_cons (pe_lc (own := [("word", 6), ("worth", 7)]) (by rfl) sc_has_unknown.nd (pi_list (pv 3)) (blkOk_by (own := [("word", 6), ("worth", 7)]) (N := ["statement", "sizes", "many", "leaves", "expression", "leaf", "word", "worth"]) (sc := defScope s_has_unknown) (by decide +kernel)) (fun _ _ _ _ _ => (pg_tupK (K := K) (n := 2) rfl rfl (pgs_cons (pg_name (i := 6) sc_has_unknown.nd rfl (.inl rfl)) (pgs_cons (pg_name (i := 7) sc_has_unknown.nd rfl (.inl rfl)) pgs_nil)))) (fun _ _ _ _ _ => pts_nil) (fun _ _ _ _ _ => pe_dead)) pa_nil))))))), ?_⟩
  refine ⟨_, rfl, s, _, _, _, rfl, rfl, hs, o0, rfl, _, rfl, nope (by decide +kernel) ?_⟩
  refine ⟨_, rfl, s, _, _, _, rfl, rfl, hs, o0, by show 2 ≤ sizeLine; decide, fun t nt => ?_⟩
  refine ⟨t, _, rfl, .inr (SqT.of upd_same), rfl, by decide +kernel, _, rfl, ite2 (fun e => absurd e (by decide +kernel)) fun _ => iteF ?_⟩
  have s0 := same_new (o := .tup [.str "set", .str "read"]) nt
  refine ⟨_, rfl, s, rfl, seqT_same s0 hs, fun t H1 s1 ht => ⟨t, rfl, ⟨_, SqT.of ht⟩, fun D nD => two_out (walk_tup (K := K) (a := t) (xs := [])) (fun _ H' => H' = upd H1 D (.lst [])) rfl (fun i H' _ h' => by rw [h']; exact SqT.of (same_new nD _ _ ht)) ?_ ?_⟩⟩
  · exact fun i x H' H'' hi => absurd hi (Nat.not_lt_zero _)
  rintro H' rfl
  have s2 := (s0.trans s1).trans (same_new (o := .lst []) nD)
  have hD : (upd H1 D (.lst [])) D = some (.lst []) := upd_same
  refine ⟨_, rfl, D, rfl, ⟨_, SqL.of hD⟩, fun D2 n2 => lc_it (walk_list (K := K) (a := D) (xs := [])) (fun _ H' => H' = upd (upd H1 D (.lst [])) D2 (.lst [])) rfl (fun i H' _ h' => by rw [h']; exact SqL.of (same_new n2 _ _ hD)) ?_ ?_⟩
  · exact fun i x H' H'' hi => absurd hi (Nat.not_lt_zero _)
  rintro H' rfl
  refine ⟨D2, [], rfl, SqL.of upd_same, ?_⟩
  exact q _ (s2.trans (same_new n2))
def sp_is_wrong_call (K : PySem.W.Frag) : Sp := fun us H Q _ => ∃ (q : Addr) (x y : V), us = [.ref q, x, y] ∧ SqT K H q [.str "skip"] ∧ Q (.bl false) H
theorem ok_is_wrong_call (T : Txt P K mg c) : Has P w K mg base 1 "is_wrong_call" ["statement", "main", "many"] (sp_is_wrong_call K) := by
  obtain ⟨f, fd, F, m, b⟩ := T.d_is_wrong_call.ex
  refine ⟨f, fd, F.ok sc_is_wrong_call (fun vs H Q E h => ?_) (fun cdv A outer s H vs Q E hr h => ?_), m, F.kp, b⟩
  · obtain ⟨s, x, y, rfl, hs, q⟩ := h
    rfl
  obtain ⟨s, x, y, rfl, hs, q⟩ := h
  refine ⟨_, (pss_cons (ps_if (pt_cmpR op_ne (pe_ix ix_tup (pv 0) pe_int (fun _ _ => rfl)) pe_str (nomark _))
      (pss_one (ps_ret pe_bl))
      pss_nil)
      (pss_one ps_dead)), ?_⟩
  refine ⟨_, rfl, s, _, _, _, rfl, rfl, hs, o0, rfl, _, rfl, ?_⟩
  refine nnope (by decide +kernel) ?_
  exact q


end
end Pf

namespace Pf
open PySem PySem.Spec PyProof.Rows L2
section
variable {P : Program} {w : World} {K : PySem.W.Frag} {mg : Str → Option Value} {base : Heap}
variable {c : Nat → Addr}
def sp_count_reason (K : PySem.W.Frag) : Sp := fun us H Q _ => ∃ (v x : V) (g : Pg), us = [v, x] ∧ VrsAt K H v g.vs ∧ PrsAt K H x g.ps ∧ g.Ok ∧ ∀ H', Same H H' → Q (.str Str.empty) H'
theorem ok_count_reason (T : Txt P K mg c) : Has P w K mg base 2 "count_reason" ["variables", "procedures"] (sp_count_reason K) := by
  obtain ⟨f, fd, F, m, b⟩ := T.d_count_reason.ex
  obtain ⟨tk_MOST_PROCEDURES, cc_MOST_PROCEDURES⟩ := T.c_MOST_PROCEDURES
  obtain ⟨tk_MOST_GLOBALS, cc_MOST_GLOBALS⟩ := T.c_MOST_GLOBALS
  obtain ⟨f_has_many_variables, fd_has_many_variables, G_has_many_variables, m_has_many_variables, k_has_many_variables, b_has_many_variables⟩ := ok_has_many_variables (P := P) (w := w) (base := base) T
  refine ⟨f, fd, F.ok sc_count_reason (fun vs H Q E h => ?_) (fun cdv A outer s H vs Q E hr h => ?_), m, F.kp, b⟩
  · obtain ⟨v, x, g, rfl, hv, hx, ho, q⟩ := h
    rfl
  obtain ⟨v, x, g, rfl, hv, hx, ho, q⟩ := h
  refine ⟨_, (pss_cons (ps_if (pt_not (pt_chain op_le op_le pe_int (pe_callB call_len_seq (by rfl) T.z_len (by decide +kernel) (pa_cons (pv 1) pa_nil)) (pe_glob (v := .int 5) rfl cc_MOST_PROCEDURES ⟨_, rfl⟩)))
      (pss_one (ps_ret pe_str))
      pss_nil)
      (pss_cons (ps_if (PW.pt (pw_or (pt_cmpR op_gt (pe_callB call_len_seq (by rfl) T.z_len (by decide +kernel) (pa_cons (pv 0) pa_nil)) (pe_glob (v := .int 4) rfl cc_MOST_GLOBALS ⟨_, rfl⟩) (nomark _)) (pw_or1 (pt_val (pe_callB (cr_any rfl) (by rfl) T.z_any (by decide +kernel) (pa_cons (pe_lc (own := [("procedure", 2)]) (g := gName 2) (by rfl) sc_count_reason.nd (pi_alt (pi_list (pv 1)) (pi_tup (pv 1))) (blkOk_by (own := [("procedure", 2)]) (N := ["variables", "procedures", "procedure"]) (sc := defScope s_count_reason) (by decide +kernel)) (fun _ _ _ _ _ => pg_name (i := 2) sc_count_reason.nd rfl (Or.inl rfl)) (fun _ _ _ _ _ => pts_nil) (fun _ _ _ _ _ => (pe_call G_has_many_variables (hr.mono (by decide)) (by rfl) m_has_many_variables k_has_many_variables b_has_many_variables .nil pass0 (pa_cons (pv 2) pa_nil)))) pa_nil))))))
      (pss_one (ps_ret pe_str))
      pss_nil)
      (pss_one (ps_ret pe_str)))), ?_⟩
  obtain ⟨a, xs, rfl, hq, ha⟩ := hx
  obtain ⟨b, ys, rfl, hqv, hb⟩ := hv
  have la := ha.1
  have lb := hb.1
  have o1 := ho.p1
  have o5 := ho.p5
  have o4 := ho.v4
  refine ⟨_, rfl, a, xs, rfl, hq, _, _, rfl, rfl, _, rfl, yes (by omega) ⟨_, _, rfl, rfl, _, rfl, nyes (by omega) ?_⟩⟩
  refine ⟨_, rfl, b, ys, rfl, hqv, _, _, rfl, rfl, _, rfl, nope (by omega) ?_⟩
  refine alt_seq rfl hq fun J G w gd => fun D nD => lc_it w (fun i H' => Same H H' ∧ H' D = some (.lst ((List.replicate i false).map V.bl))) ⟨same_new nD, upd_same⟩ (fun i H' _ h' => gd _ h'.1) ?_ ?_
  · rintro i x H1 H2 hi ⟨s1, hD⟩ ⟨rfl, hx⟩
    obtain ⟨p, ep, hp⟩ := ha.at hx
    have mp := List.mem_of_getElem? ep
    refine ⟨rfl, _, rfl, x, p, rfl, hp.same s1, ho.p3 p mp, ho.l33 p mp, _, hD, ?_, same_mut s1 nD, ?_⟩
    · rw [List.length_map, List.length_replicate]
      exact small1000 (by omega)
    · rw [upd_same, List.replicate_succ', List.map_append]
      rfl
  · rintro H1 ⟨s1, hD⟩
    refine ⟨D, _, rfl, SqL.of hD, _, rfl, ?_⟩
    rw [any_false]
    exact iteF (q _ s1)
/-- a list of the module's making, apart from D -/
def LsN (D : Addr) (H : Hp) (x : V) (ys : List V) : Prop := ∃ p, x = .ref p ∧ p ≠ D ∧ H p = some (.lst ys)
def ScN (K : PySem.W.Frag) (D : Addr) (H : Hp) (x : V) (vs : List Vr) : Prop := ∃ p ws, x = .ref p ∧ p ≠ D ∧ H p = some (.lst ws) ∧ All2 (VrAt K H) ws vs
theorem LsN.same {D : Addr} {H H' : Hp} {x : V} {ys : List V} (e : Same H H') (h : LsN D H x ys) : LsN D H' x ys := let ⟨p, h1, h2, h3⟩ := h; ⟨p, h1, h2, e _ _ h3⟩
theorem LsN.mut {D : Addr} {H : Hp} {x : V} {ys : List V} {o : HO} (h : LsN D H x ys) : LsN D (upd H D o) x ys := let ⟨p, h1, h2, h3⟩ := h; ⟨p, h1, h2, (upd_ne h2).trans h3⟩
theorem VrAt.mut {K : PySem.W.Frag} {D : Addr} {H : Hp} {x : V} {v : Vr} {zs : List V} {o : HO} (e : H D = some (.lst zs)) (h : VrAt K H x v) : VrAt K (upd H D o) x v := let ⟨p, h1, h2⟩ := h; ⟨p, h1, seqT_mut e h2⟩
theorem ScN.same {K : PySem.W.Frag} {D : Addr} {H H' : Hp} {x : V} {vs : List Vr} (e : Same H H') (h : ScN K D H x vs) : ScN K D H' x vs := let ⟨p, ws, h1, h2, h3, h4⟩ := h; ⟨p, ws, h1, h2, e _ _ h3, h4.imp fun _ _ => VrAt.same e⟩
theorem ScN.mut {K : PySem.W.Frag} {D : Addr} {H : Hp} {x : V} {vs : List Vr} {zs : List V} {o : HO} (e : H D = some (.lst zs)) (h : ScN K D H x vs) : ScN K D (upd H D o) x vs := let ⟨p, ws, h1, h2, h3, h4⟩ := h; ⟨p, ws, h1, h2, (upd_ne h2).trans h3, h4.imp fun _ _ => VrAt.mut e⟩
theorem map_take_at {α β : Type} {f : α → β} {xs : List α} {i : Nat} {x : α} (h : xs[i]? = some x) : (xs.take (i + 1)).map f = (xs.take i).map f ++ [f x] := by rw [take_succ_at h, List.map_append]; rfl
def nmsV (vs : List Vr) : List V := (vs.map Vr.nm).map V.str
def szsV (vs : List Vr) : List V := (vs.map Vr.sz).map V.int
/-- what the declarations come to: names and sizes, list by list -/
structure Decl (g : Pg) : Prop where
  len : ∀ p ∈ g.ps, (scp g.vs p).length ≤ 10
theorem Pg.Ok.decl {g : Pg} (ho : g.Ok) : Decl g := ⟨fun p hp => by
  have h1 := ho.v4
  have h2 := ho.p3 p hp
  have h3 := ho.l33 p hp
  unfold scp
  rw [List.length_append, List.length_append]
  omega⟩
theorem ix_seqV {K : PySem.W.Frag} {H : Hp} {a : Addr} {xs : List V} {i : Int} {x : V} {Q : VK} (h : SeqV K H a xs) (e : atI xs i = some x) (q : Q x H) : rIx K (.ref a) (.int i) H Q := by
  rcases h with h | h
  · exact .inl ⟨a, _, _, _, rfl, rfl, h, e, q⟩
  · exact .inr (.inl ⟨a, _, _, _, rfl, rfl, h, e, q⟩)
def sp_declaration_reason (K : PySem.W.Frag) : Sp := sp_count_reason K
theorem ok_declaration_reason (T : Txt P K mg c) : Has P w K mg base 2 "declaration_reason" ["variables", "procedures"] (sp_declaration_reason K) := by
  obtain ⟨f, fd, F, m, b⟩ := T.d_declaration_reason.ex
  obtain ⟨tk_LEAST_SIZE, cc_LEAST_SIZE⟩ := T.c_LEAST_SIZE
  obtain ⟨tk_MOST_SIZE, cc_MOST_SIZE⟩ := T.c_MOST_SIZE
  obtain ⟨tk_MOST_SIGHTS, cc_MOST_SIGHTS⟩ := T.c_MOST_SIGHTS
  obtain ⟨f_in_sight, fd_in_sight, G_in_sight, m_in_sight, k_in_sight, b_in_sight⟩ := ok_in_sight (P := P) (w := w) (base := base) T
  obtain ⟨f_is_name, fd_is_name, G_is_name, m_is_name, k_is_name, b_is_name⟩ := ok_is_name (P := P) (w := w) (base := base) T
  obtain ⟨f_product_of, fd_product_of, G_product_of, m_product_of, k_product_of, b_product_of⟩ := ok_product_of (P := P) (w := w) (base := base) T
  refine ⟨f, fd, F.ok sc_declaration_reason (fun vs H Q E h => ?_) (fun cdv A outer s H vs Q E hr h => ?_), m, F.kp, b⟩
  · obtain ⟨v, x, g, rfl, hv, hx, ho, q⟩ := h
    rfl
  obtain ⟨v, x, g, rfl, hv, hx, ho, q⟩ := h
  refine ⟨_, (pss_cons (ps_setLc (i := 2) (own := [("procedure", 6)]) (g := gName 6) (by rfl) sc_declaration_reason.nd rfl rfl (sw_true rfl rfl rfl (by decide +kernel)) (pi_alt (pi_list (pv 1)) (pi_tup (pv 1))) (blkOk_by (own := [("procedure", 6)]) (N := ["variables", "procedures", "procedure_names", "scopes", "scope_names", "scope_sizes", "procedure", "scope", "name", "size", "names", "sizes"]) (sc := defScope s_declaration_reason) (by decide +kernel)) (fun _ _ _ _ _ => (pg_name (i := 6) sc_declaration_reason.nd rfl (.inl rfl))) (fun _ _ _ _ _ => pts_nil) (fun _ _ _ _ _ => (pe_ix (ix_tupK (K := K) rfl) (pv 6) pe_int (fun _ _ => rfl))))
      (pss_cons (ps_setLc (i := 3) (own := [("procedure", 6)]) (g := gName 6) (by rfl) sc_declaration_reason.nd rfl rfl (sw_true rfl rfl rfl (by decide +kernel)) (pi_alt (pi_list (pv 1)) (pi_tup (pv 1))) (blkOk_by (own := [("procedure", 6)]) (N := ["variables", "procedures", "procedure_names", "scopes", "scope_names", "scope_sizes", "procedure", "scope", "name", "size", "names", "sizes"]) (sc := defScope s_declaration_reason) (by decide +kernel)) (fun _ _ _ _ _ => (pg_name (i := 6) sc_declaration_reason.nd rfl (.inl rfl))) (fun _ _ _ _ _ => pts_nil) (fun _ _ _ _ _ => (pe_call G_in_sight (hr.mono (by decide)) (by rfl) m_in_sight k_in_sight b_in_sight .nil pass0 (pa_cons (pv 0) (pa_cons (pv 6) pa_nil)))))
      (pss_cons (ps_setLc (i := 4) (own := [("scope", 7)]) (g := gName 7) (by rfl) sc_declaration_reason.nd rfl rfl (sw_true rfl rfl rfl (by decide +kernel)) (pi_list (pv 3)) (blkOk_by (own := [("scope", 7)]) (N := ["variables", "procedures", "procedure_names", "scopes", "scope_names", "scope_sizes", "procedure", "scope", "name", "size", "names", "sizes"]) (sc := defScope s_declaration_reason) (by decide +kernel)) (fun _ _ _ _ _ => (pg_name (i := 7) sc_declaration_reason.nd rfl (.inl rfl))) (fun _ _ _ _ _ => pts_nil) (fun _ _ _ _ _ => (pe_lc (own := [("name", 8), ("size", 9)]) (by rfl) sc_declaration_reason.nd (pi_listK (K := K) rfl (pv 7)) (blkOk_nf (own := [("name", 8), ("size", 9)]) (N := ["variables", "procedures", "procedure_names", "scopes", "scope_names", "scope_sizes", "procedure", "scope", "name", "size", "names", "sizes"]) (by decide +kernel)) (fun _ _ _ _ _ => (pg_tupK (K := K) (n := 2) rfl rfl (pgs_cons (pg_name (i := 8) sc_declaration_reason.nd rfl (.inl rfl)) (pgs_cons (pg_name (i := 9) sc_declaration_reason.nd rfl (.inl rfl)) pgs_nil)))) (fun _ _ _ _ _ => pts_nil) (fun _ _ _ _ _ => (pv 8)))))
      (pss_cons (ps_setLc (i := 5) (own := [("scope", 7)]) (g := gName 7) (by rfl) sc_declaration_reason.nd rfl rfl (sw_true rfl rfl rfl (by decide +kernel)) (pi_list (pv 3)) (blkOk_by (own := [("scope", 7)]) (N := ["variables", "procedures", "procedure_names", "scopes", "scope_names", "scope_sizes", "procedure", "scope", "name", "size", "names", "sizes"]) (sc := defScope s_declaration_reason) (by decide +kernel)) (fun _ _ _ _ _ => (pg_name (i := 7) sc_declaration_reason.nd rfl (.inl rfl))) (fun _ _ _ _ _ => pts_nil) (fun _ _ _ _ _ => (pe_lc (own := [("name", 8), ("size", 9)]) (by rfl) sc_declaration_reason.nd (pi_listK (K := K) rfl (pv 7)) (blkOk_nf (own := [("name", 8), ("size", 9)]) (N := ["variables", "procedures", "procedure_names", "scopes", "scope_names", "scope_sizes", "procedure", "scope", "name", "size", "names", "sizes"]) (by decide +kernel)) (fun _ _ _ _ _ => (pg_tupK (K := K) (n := 2) rfl rfl (pgs_cons (pg_name (i := 8) sc_declaration_reason.nd rfl (.inl rfl)) (pgs_cons (pg_name (i := 9) sc_declaration_reason.nd rfl (.inl rfl)) pgs_nil)))) (fun _ _ _ _ _ => pts_nil) (fun _ _ _ _ _ => (pv 9)))))
      (pss_cons (ps_if (pt_not (pt_val (pe_callB (cr_all rfl) (by rfl) T.z_all (by decide +kernel) (pa_cons (pe_lc2 (own := [("names", 10), ("name", 8)]) (vs1 := [8]) (g := gName 10) (g1 := gName 8) (by rfl) sc_declaration_reason.nd (pi_list (pe_op op_cat (pe_lst (pa_cons (pv 2) pa_nil)) (pv 4))) (blkOk_by (own := [("names", 10), ("name", 8)]) (N := ["variables", "procedures", "procedure_names", "scopes", "scope_names", "scope_sizes", "procedure", "scope", "name", "size", "names", "sizes"]) (sc := defScope s_declaration_reason) (by decide +kernel)) (by decide) (fun _ _ _ _ _ => (pg_name (i := 10) sc_declaration_reason.nd rfl (.inl rfl))) (fun _ _ _ _ _ => pts_nil) (fun _ _ _ _ _ => (pi_listK (K := K) rfl (pv 10))) (fun _ _ _ _ _ => (pg_name (i := 8) sc_declaration_reason.nd rfl (.inl rfl))) (fun _ _ _ _ _ => pts_nil) (fun _ _ _ _ _ => (pe_call G_is_name (hr.mono (by decide)) (by rfl) m_is_name k_is_name b_is_name .nil pass0 (pa_cons (pv 8) pa_nil)))) pa_nil))))
      (pss_one (ps_ret pe_str))
      pss_nil)
      (pss_cons (ps_if (pt_val (pe_callB (cr_any rfl) (by rfl) T.z_any (by decide +kernel) (pa_cons (pe_lc (own := [("names", 10)]) (g := gName 10) (by rfl) sc_declaration_reason.nd (pi_list (pe_op op_cat (pe_lst (pa_cons (pv 2) pa_nil)) (pv 4))) (blkOk_by (own := [("names", 10)]) (N := ["variables", "procedures", "procedure_names", "scopes", "scope_names", "scope_sizes", "procedure", "scope", "name", "size", "names", "sizes"]) (sc := defScope s_declaration_reason) (by decide +kernel)) (fun _ _ _ _ _ => pg_name (i := 10) sc_declaration_reason.nd rfl (Or.inl rfl)) (fun _ _ _ _ _ => pts_nil) (fun _ _ _ _ _ => (pe_cmpR op_lt (pe_lenSetSK (K := K) rfl (by rfl) T.z_len (by rfl) T.z_set (pv 10)) (pe_callB (call_len_seqK (K := K) rfl) (by rfl) T.z_len (by decide +kernel) (pa_cons (pv 10) pa_nil)) (nomark _)))) pa_nil)))
      (pss_one (ps_ret pe_str))
      pss_nil)
      (pss_cons (ps_if (pt_not (pt_val (pe_callB (cr_all rfl) (by rfl) T.z_all (by decide +kernel) (pa_cons (pe_lc2 (own := [("sizes", 11), ("size", 9)]) (vs1 := [9]) (g := gName 11) (g1 := gName 9) (by rfl) sc_declaration_reason.nd (pi_list (pv 5)) (blkOk_by (own := [("sizes", 11), ("size", 9)]) (N := ["variables", "procedures", "procedure_names", "scopes", "scope_names", "scope_sizes", "procedure", "scope", "name", "size", "names", "sizes"]) (sc := defScope s_declaration_reason) (by decide +kernel)) (by decide) (fun _ _ _ _ _ => (pg_name (i := 11) sc_declaration_reason.nd rfl (.inl rfl))) (fun _ _ _ _ _ => pts_nil) (fun _ _ _ _ _ => (pi_listK (K := K) rfl (pv 11))) (fun _ _ _ _ _ => (pg_name (i := 9) sc_declaration_reason.nd rfl (.inl rfl))) (fun _ _ _ _ _ => pts_nil) (fun _ _ _ _ _ => (pe_chain op_le op_le (pe_glob (v := .int 2) rfl cc_LEAST_SIZE ⟨_, rfl⟩) (pv 9) (pe_glob (v := .int 4) rfl cc_MOST_SIZE ⟨_, rfl⟩)))) pa_nil))))
      (pss_one (ps_ret pe_str))
      pss_nil)
      (pss_cons (ps_if (pt_val (pe_callB (cr_any rfl) (by rfl) T.z_any (by decide +kernel) (pa_cons (pe_lc (own := [("sizes", 11)]) (g := gName 11) (by rfl) sc_declaration_reason.nd (pi_list (pv 5)) (blkOk_by (own := [("sizes", 11)]) (N := ["variables", "procedures", "procedure_names", "scopes", "scope_names", "scope_sizes", "procedure", "scope", "name", "size", "names", "sizes"]) (sc := defScope s_declaration_reason) (by decide +kernel)) (fun _ _ _ _ _ => pg_name (i := 11) sc_declaration_reason.nd rfl (Or.inl rfl)) (fun _ _ _ _ _ => pts_nil) (fun _ _ _ _ _ => (pe_cmpR op_gt (pe_call G_product_of (hr.mono (by decide)) (by rfl) m_product_of k_product_of b_product_of .nil pass0 (pa_cons (pv 11) pa_nil)) (pe_glob (v := .int 64) rfl cc_MOST_SIGHTS ⟨_, rfl⟩) (nomark _)))) pa_nil)))
      (pss_one (ps_ret pe_str))
      pss_nil)
      (pss_cons (ps_if (pt_cmpR op_gt (pe_callB call_len_seq (by rfl) T.z_len (by decide +kernel) (pa_cons (pe_ix ix_tup (pe_ix ix_seq (pv 1) pe_int (fun _ _ => rfl)) pe_int (fun _ _ => rfl)) pa_nil)) pe_int (nomark _))
      (pss_one (ps_ret pe_str))
      pss_nil)
      (pss_one (ps_ret pe_str))))))))))), ?_⟩
  obtain ⟨a, xs, rfl, hq, ha⟩ := id hx
  have la := ha.1
  have o5 := ho.p5
  have o4 := ho.v4
  have dl := ho.decl.len
  -- procedure_names
  refine alt_seq rfl hq fun J G w gd => fun D1 n1 => lc_it w (fun i H' => Same H H' ∧ H' D1 = some (.lst (((g.ps.take i).map Pr.nm).map V.str))) ⟨same_new n1, upd_same⟩ (fun i H' _ h' => gd _ h'.1) ?_ ?_
  · rintro i x H1 H2 hi ⟨s1, hD⟩ ⟨rfl, hx⟩
    obtain ⟨p, ep, r, t1, t2, t3, rfl, hr, _⟩ := ha.at hx
    refine ⟨rfl, _, rfl, r, _, _, _, rfl, rfl, seqT_same s1 hr, p0, _, hD, ?_, same_mut s1 n1, ?_⟩
    · rw [List.length_map, List.length_map, List.length_take]
      exact small1000 (by omega)
    · rw [upd_same, map_take_at ep, List.map_append]
      rfl
  rintro H1 ⟨s1, hD1⟩
  rw [la, List.take_length] at hD1
  -- scopes
  refine alt_seq rfl (hq.same s1) fun J G w gd => fun D2 n2 => lc_it w (fun i H' => Same H1 H' ∧ ∃ rs, H' D2 = some (.lst rs) ∧ All2 (ScN K D2 H') rs ((g.ps.take i).map (scp g.vs))) ⟨same_new n2, [], upd_same, .nil⟩ (fun i H' _ h' => gd _ h'.1) ?_ ?_
  · rintro i x H2 H3 hi ⟨s2, rs, hD, hrs⟩ ⟨rfl, hx⟩
    obtain ⟨p, ep, hp⟩ := ha.at hx
    have mp := List.mem_of_getElem? ep
    have lr : rs.length = i := by rw [hrs.1, List.length_map, List.length_take]; omega
    refine ⟨rfl, _, rfl, _, rfl, v, x, g.vs, p, rfl, hv.same (s1.trans s2), hp.same (s1.trans s2), o4, ho.p3 p mp, ho.l33 p mp, fun l ws H4 s4 nl hl hw => ⟨rs, s4 _ _ hD, small1000 (by omega), same_mut (s2.trans s4) n2, rs ++ [.ref l], upd_same, ?_⟩⟩
    have nlD : l ≠ D2 := fun z => by
      subst z
      rw [hD] at nl
      cases nl
    rw [map_take_at ep]
    exact (hrs.imp fun _ _ h => (h.same s4).mut (s4 _ _ hD)).app (.one ⟨l, ws, rfl, nlD, (upd_ne nlD).trans hl, hw.imp fun _ _ => VrAt.mut (s4 _ _ hD)⟩)
  rintro H2 ⟨s2, rs, hD2, hrs⟩
  rw [la, List.take_length] at hrs
  have s12 := s1.trans s2
  have hD1 := s2 _ _ hD1
  have mapped : ∀ {β : Type} {f : Pr → β} {i : Nat} {y : β}, (g.ps.map f)[i]? = some y → ∃ p, g.ps[i]? = some p ∧ f p = y := fun {β f i y} e => by
    rw [List.getElem?_map] at e
    cases ep : g.ps[i]? with
    | none => rw [ep] at e; cases e
    | some p =>
      rw [ep] at e
      exact ⟨p, rfl, Option.some.inj e⟩
  have lrs : rs.length = g.ps.length := by rw [hrs.1, List.length_map]
  -- scope_names
  refine ⟨_, rfl, D2, rfl, ⟨_, SqL.of hD2⟩, fun D3 n3 => lc_it walk_list (fun i H' => Same H2 H' ∧ ∃ ns, H' D3 = some (.lst ns) ∧ All2 (LsN D3 H') ns ((g.ps.take i).map fun p => nmsV (scp g.vs p))) ⟨same_new n3, [], upd_same, .nil⟩ (fun i H' _ h' => SqL.of (h'.1 _ _ hD2)) ?_ ?_⟩
  · rintro i x H3 H4 hi ⟨s3, ns, hD, hns⟩ ⟨rfl, hx⟩
    obtain ⟨vs, evs, l, ws, rfl, nl, hl, hw⟩ := hrs.at hx
    obtain ⟨p, ep, rfl⟩ := mapped evs
    have mp := List.mem_of_getElem? ep
    have lp := dl p mp
    have lns : ns.length = i := by rw [hns.1, List.length_map, List.length_take]; omega
    refine ⟨rfl, _, rfl, l, rfl, ⟨_, SqL.of (s3 _ _ hl)⟩, fun D4 n4 => lc_it walk_list (fun j H' => Same H4 H' ∧ H' D4 = some (.lst (nmsV ((scp g.vs p).take j)))) ⟨same_new n4, upd_same⟩ (fun j H' _ h' => SqL.of (h'.1 _ _ (s3 _ _ hl))) ?_ ?_⟩
    · rintro j y H5 H6 hj ⟨s5, hD4⟩ ⟨rfl, hy⟩
      obtain ⟨vr, evr, t, rfl, ht⟩ := hw.at hy
      refine ⟨t, _, rfl, seqT_same (s3.trans s5) ht, rfl, _, _, rfl, _, _, rfl, rfl, rfl, _, rfl, _, hD4, ?_, same_mut s5 n4, ?_⟩
      · unfold nmsV
        rw [List.length_map, List.length_map, List.length_take]
        exact small1000 (by omega)
      · unfold nmsV
        rw [upd_same, map_take_at evr, List.map_append]
        rfl
    · rintro H5 ⟨s5, hD4⟩
      have nDD : D4 ≠ D3 := (ne_of_none hD n4).symm
      rw [hw.1, List.take_length] at hD4
      refine ⟨ns, s5 _ _ hD, small1000 (by omega), same_mut (s3.trans s5) n3, ns ++ [.ref D4], upd_same, ?_⟩
      rw [map_take_at ep]
      exact (hns.imp fun _ _ h => (h.same s5).mut).app (.one ⟨D4, rfl, nDD, (upd_ne nDD).trans hD4⟩)
  rintro H3 ⟨s3, ns, hD3, hns⟩
  rw [lrs, List.take_length] at hns
  have s13 := s12.trans s3
  have hD1 := s3 _ _ hD1
  have hD2 := s3 _ _ hD2
  have hrs := hrs.imp fun _ _ h => h.same s3
  have lns : ns.length = g.ps.length := by rw [hns.1, List.length_map]
  -- scope_sizes
  refine ⟨_, rfl, D2, rfl, ⟨_, SqL.of hD2⟩, fun D5 n5 => lc_it walk_list (fun i H' => Same H3 H' ∧ ∃ zs, H' D5 = some (.lst zs) ∧ All2 (LsN D5 H') zs ((g.ps.take i).map fun p => szsV (scp g.vs p))) ⟨same_new n5, [], upd_same, .nil⟩ (fun i H' _ h' => SqL.of (h'.1 _ _ hD2)) ?_ ?_⟩
  · rintro i x H4 H5 hi ⟨s4, zs, hD, hzs⟩ ⟨rfl, hx⟩
    obtain ⟨vs, evs, l, ws, rfl, nl, hl, hw⟩ := hrs.at hx
    obtain ⟨p, ep, rfl⟩ := mapped evs
    have mp := List.mem_of_getElem? ep
    have lp := dl p mp
    have lzs : zs.length = i := by rw [hzs.1, List.length_map, List.length_take]; omega
    refine ⟨rfl, _, rfl, l, rfl, ⟨_, SqL.of (s4 _ _ hl)⟩, fun D4 n4 => lc_it walk_list (fun j H' => Same H5 H' ∧ H' D4 = some (.lst (szsV ((scp g.vs p).take j)))) ⟨same_new n4, upd_same⟩ (fun j H' _ h' => SqL.of (h'.1 _ _ (s4 _ _ hl))) ?_ ?_⟩
    · rintro j y H6 H7 hj ⟨s6, hD4⟩ ⟨rfl, hy⟩
      obtain ⟨vr, evr, t, rfl, ht⟩ := hw.at hy
      refine ⟨t, _, rfl, seqT_same (s4.trans s6) ht, rfl, _, _, rfl, _, _, rfl, rfl, rfl, _, rfl, _, hD4, ?_, same_mut s6 n4, ?_⟩
      · unfold szsV
        rw [List.length_map, List.length_map, List.length_take]
        exact small1000 (by omega)
      · unfold szsV
        rw [upd_same, map_take_at evr, List.map_append]
        rfl
    · rintro H6 ⟨s6, hD4⟩
      have nDD : D4 ≠ D5 := (ne_of_none hD n4).symm
      rw [hw.1, List.take_length] at hD4
      refine ⟨zs, s6 _ _ hD, small1000 (by omega), same_mut (s4.trans s6) n5, zs ++ [.ref D4], upd_same, ?_⟩
      rw [map_take_at ep]
      exact (hzs.imp fun _ _ h => (h.same s6).mut).app (.one ⟨D4, rfl, nDD, (upd_ne nDD).trans hD4⟩)
  rintro H4 ⟨s4, zs, hD5, hzs⟩
  rw [lrs, List.take_length] at hzs
  have s14 := s13.trans s4
  have hD1 := s4 _ _ hD1
  have hD3 := s4 _ _ hD3
  have hns := hns.imp fun _ _ h => h.same s4
  have lzs : zs.length = g.ps.length := by rw [hzs.1, List.length_map]
  -- all names, list by list
  have AN : All2 (fun x (ys : List Str) => ∃ p, x = V.ref p ∧ H4 p = some (.lst (ys.map V.str))) (.ref D1 :: ns) (g.ps.map Pr.nm :: g.ps.map fun p => (scp g.vs p).map Vr.nm) := by
    refine All2.app (xs := [_]) (ys := [_]) (.one ⟨D1, rfl, hD1⟩) ⟨by rw [lns, List.length_map], fun i x y hx hy => ?_⟩
    obtain ⟨p, ep, rfl⟩ := mapped hy
    obtain ⟨r, e1, _, e3⟩ := hns.2 i x (nmsV (scp g.vs p)) hx (by rw [List.getElem?_map, ep]; rfl)
    exact ⟨r, e1, e3⟩
  have AL : ∀ ys ∈ (g.ps.map Pr.nm :: g.ps.map fun p => (scp g.vs p).map Vr.nm), ys.length ≤ 10 ∧ ys.Nodup ∧ ∀ z ∈ ys, NmOk z := fun ys hy => by
    rcases List.mem_cons.mp hy with rfl | hy
    · refine ⟨by rw [List.length_map]; omega, ho.pd, fun z hz => ?_⟩
      obtain ⟨p, hp, rfl⟩ := List.mem_map.mp hz
      exact ho.pn p hp
    · obtain ⟨p, hp, rfl⟩ := List.mem_map.mp hy
      refine ⟨by rw [List.length_map]; exact dl p hp, ho.vd p hp, fun z hz => ?_⟩
      obtain ⟨u, hu, rfl⟩ := List.mem_map.mp hz
      exact ho.vn p hp u hu
  generalize hNS : (g.ps.map Pr.nm :: g.ps.map fun p => (scp g.vs p).map Vr.nm) = NS at AN AL
  have lAN : (V.ref D1 :: ns).length ≤ 6 := by
    rw [List.length_cons]
    omega
  -- is_name of each
  refine ⟨_, rfl, by show 1 ≤ sizeLine; decide, fun l0 m0 => ⟨_, rfl, l0, D3, _, _, rfl, rfl, upd_same, same_new m0 _ _ hD3, line_small (by rw [List.length_cons, List.length_nil]; omega), fun L mL => ⟨L, rfl, ⟨_, SqL.of upd_same⟩, fun D6 n6 => ?_⟩⟩⟩
  have sL : Same H4 (upd (upd H4 l0 (.lst [.ref D1])) L (.lst ([.ref D1] ++ ns))) := (same_new m0).trans (same_new mL)
  have hL : (upd (upd H4 l0 (.lst [.ref D1])) L (.lst ([.ref D1] ++ ns))) L = some (.lst (.ref D1 :: ns)) := upd_same
  generalize upd (upd H4 l0 (.lst [.ref D1])) L (.lst ([.ref D1] ++ ns)) = HL at sL hL n6 ⊢
  refine two_out (walk_list (xs := .ref D1 :: ns)) (fun i H' => Same HL H' ∧ ∃ n, H' D6 = some (.lst ((List.replicate n true).map V.bl)) ∧ n ≤ 10 * i) ⟨same_new n6, 0, upd_same, Nat.zero_le _⟩ (fun i H' _ h' => SqL.of (h'.1 _ _ hL)) ?_ ?_
  · rintro i x H5 H6 hi ⟨s5, n, hD, hn⟩ ⟨rfl, hx⟩
    obtain ⟨ys, ey, p, rfl, hp⟩ := AN.at hx
    obtain ⟨l10, nd, ok⟩ := AL ys (List.mem_of_getElem? ey)
    have hp6 := s5 _ _ (sL _ _ hp)
    have i6 : i < 6 := by omega
    refine ⟨rfl, ⟨_, rfl, p, rfl, ⟨_, SqL.of hp6⟩, ?_⟩⟩
    show Exists _
    refine two_out (walk_list (xs := ys.map V.str)) (fun j H' => Same HL H' ∧ ∃ n, H' D6 = some (.lst ((List.replicate n true).map V.bl)) ∧ n ≤ 10 * i + j) ⟨s5, n, hD, by omega⟩ (fun j H' _ h' => SqL.of (h'.1 _ _ (sL _ _ hp))) ?_ ?_
    · rintro j y H7 H8 hj ⟨s7, n7, hD7, hn7⟩ ⟨rfl, hy⟩
      rw [List.getElem?_map] at hy
      cases ez : ys[j]? with
      | none => rw [ez] at hy; cases hy
      | some z =>
      rw [ez] at hy
      cases hy
      have hj10 : j < ys.length := (List.getElem?_eq_some_iff.mp ez).1
      refine ⟨rfl, _, rfl, z, rfl, ok z (List.mem_of_getElem? ez), fun H9 s9 => ⟨_, s9 _ _ hD7, ?_, same_mut (s7.trans s9) n6, n7 + 1, ?_, by omega⟩⟩
      · rw [List.length_map, List.length_replicate]
        exact small1000 (by omega)
      · rw [upd_same, List.replicate_succ', List.map_append]
        rfl
    · rintro H7 ⟨s7, n7, hD7, hn7⟩
      refine ⟨s7, n7, hD7, ?_⟩
      rw [List.length_map] at hn7
      omega
  · rintro H5 ⟨s5, n, hD, hn⟩
    refine ⟨D6, _, rfl, SqL.of hD, _, rfl, ?_⟩
    rw [all_true]
    refine iteF ?_
    have s45 := sL.trans s5
    -- no name twice
    refine ⟨_, rfl, by show 1 ≤ sizeLine; decide, fun l1 m1 => ⟨_, rfl, l1, D3, _, _, rfl, rfl, upd_same, same_new m1 _ _ (s45 _ _ hD3), line_small (by rw [List.length_cons, List.length_nil]; omega), fun Lb mLb => ⟨Lb, rfl, ⟨_, SqL.of upd_same⟩, fun D7 n7 => ?_⟩⟩⟩
    have sM : Same H4 (upd (upd H5 l1 (.lst [.ref D1])) Lb (.lst ([.ref D1] ++ ns))) := (s45.trans (same_new m1)).trans (same_new mLb)
    have hM : (upd (upd H5 l1 (.lst [.ref D1])) Lb (.lst ([.ref D1] ++ ns))) Lb = some (.lst (.ref D1 :: ns)) := upd_same
    generalize upd (upd H5 l1 (.lst [.ref D1])) Lb (.lst ([.ref D1] ++ ns)) = HM at sM hM n7 ⊢
    refine lc_it (walk_list (xs := .ref D1 :: ns)) (fun i H' => Same HM H' ∧ H' D7 = some (.lst ((List.replicate i false).map V.bl))) ⟨same_new n7, upd_same⟩ (fun i H' _ h' => SqL.of (h'.1 _ _ hM)) ?_ ?_
    · rintro i x H6 H7 hi ⟨s6, hD6⟩ ⟨rfl, hx⟩
      obtain ⟨ys, ey, p, rfl, hp⟩ := AN.at hx
      obtain ⟨l10, nd, ok⟩ := AL ys (List.mem_of_getElem? ey)
      have hp7 := s6 _ _ (sM _ _ hp)
      refine ⟨rfl, _, rfl, p, ys, rfl, SqL.of hp7, by omega, _, rfl, p, _, rfl, .inl (SqL.of hp7), ?_⟩
      refine ⟨_, _, rfl, rfl, ?_⟩
      refine ⟨_, hD6, ?_, same_mut s6 n7, ?_⟩
      · rw [List.length_map, List.length_replicate]
        exact small1000 (by omega)
      · rw [upd_same, List.replicate_succ', List.map_append]
        exact congrArg (fun z => some (HO.lst (List.map V.bl (List.replicate i false) ++ [V.bl z]))) (decide_eq_false (by rw [fresh1_nodup nd _ (Nat.le_refl _), List.length_map]; omega))
    · rintro H6 ⟨s6, hD6⟩
      refine ⟨D7, _, rfl, SqL.of hD6, _, rfl, ?_⟩
      rw [any_false]
      refine iteF ?_
      have s46 := sM.trans s6
      -- sizes
      have AZ : All2 (fun x (p : Pr) => ∃ r, x = V.ref r ∧ H6 r = some (.lst (szsV (scp g.vs p)))) zs g.ps := ⟨lzs, fun i x p hx hp => by
        obtain ⟨r, e1, _, e3⟩ := hzs.2 i x (szsV (scp g.vs p)) hx (by rw [List.getElem?_map, hp]; rfl)
        exact ⟨r, e1, s46 _ _ e3⟩⟩
      have hD56 := s46 _ _ hD5
      refine ⟨_, rfl, D5, rfl, ⟨_, SqL.of hD56⟩, fun D8 n8 => ?_⟩
      refine two_out (walk_list (xs := zs)) (fun i H' => Same H6 H' ∧ ∃ n, H' D8 = some (.lst ((List.replicate n true).map V.bl)) ∧ n ≤ 10 * i) ⟨same_new n8, 0, upd_same, Nat.zero_le _⟩ (fun i H' _ h' => SqL.of (h'.1 _ _ hD56)) ?_ ?_
      · rintro i x H7 H8 hi ⟨s7, n, hD, hn⟩ ⟨rfl, hx⟩
        obtain ⟨p, ep, r, rfl, hr⟩ := AZ.at hx
        have mp := List.mem_of_getElem? ep
        have hr8 := s7 _ _ hr
        refine ⟨rfl, ⟨_, rfl, r, rfl, ⟨_, SqL.of hr8⟩, ?_⟩⟩
        show Exists _
        refine two_out (walk_list (xs := szsV (scp g.vs p))) (fun j H' => Same H6 H' ∧ ∃ n, H' D8 = some (.lst ((List.replicate n true).map V.bl)) ∧ n ≤ 10 * i + j) ⟨s7, n, hD, by omega⟩ (fun j H' _ h' => SqL.of (h'.1 _ _ hr)) ?_ ?_
        · rintro j y H9 H10 hj ⟨s9, n9, hD9, hn9⟩ ⟨rfl, hy⟩
          unfold szsV at hy hj
          rw [List.length_map, List.length_map] at hj
          rw [List.map_map, List.getElem?_map] at hy
          cases eu : (scp g.vs p)[j]? with
          | none => rw [eu] at hy; cases hy
          | some u =>
          rw [eu] at hy
          cases hy
          have mu := List.mem_of_getElem? eu
          have u2 := ho.s2 p mp u mu
          have u4 := ho.s4 p mp u mu
          have lp := dl p mp
          refine ⟨rfl, ?_⟩
          refine ⟨_, rfl, _, _, rfl, rfl, _, rfl, yes u2 ⟨_, _, rfl, rfl, ?_⟩⟩
          refine ⟨_, hD9, ?_, same_mut s9 n8, n9 + 1, ?_, by omega⟩
          · rw [List.length_map, List.length_replicate]
            exact small1000 (by omega)
          · rw [upd_same, List.replicate_succ', List.map_append]
            exact congrArg (fun z => some (HO.lst (List.map V.bl (List.replicate n9 true) ++ [V.bl z]))) (decide_eq_true u4)
        · rintro H9 ⟨s9, n9, hD9, hn9⟩
          refine ⟨s9, n9, hD9, ?_⟩
          have lp := dl p mp
          unfold szsV at hn9
          rw [List.length_map, List.length_map] at hn9
          omega
      · rintro H7 ⟨s7, n, hD, hn⟩
        refine ⟨D8, _, rfl, SqL.of hD, _, rfl, ?_⟩
        rw [all_true]
        refine iteF ?_
        have hD57 := s7 _ _ hD56
        -- sights
        refine ⟨_, rfl, D5, rfl, ⟨_, SqL.of hD57⟩, fun D9 n9 => lc_it (walk_list (xs := zs)) (fun i H' => Same H7 H' ∧ H' D9 = some (.lst ((List.replicate i false).map V.bl))) ⟨same_new n9, upd_same⟩ (fun i H' _ h' => SqL.of (h'.1 _ _ hD57)) ?_ ?_⟩
        · rintro i x H8 H9 hi ⟨s8, hD⟩ ⟨rfl, hx⟩
          obtain ⟨p, ep, r, rfl, hr⟩ := AZ.at hx
          have mp := List.mem_of_getElem? ep
          have hr8 := s8 _ _ (s7 _ _ hr)
          have lp := dl p mp
          have si := ho.si p mp
          refine ⟨rfl, _, rfl, r, (scp g.vs p).map Vr.sz, rfl, SqL.of hr8, by rw [List.length_map]; exact lp, fun z hz => ?_, ?_⟩
          · obtain ⟨u, hu, rfl⟩ := List.mem_map.mp hz
            have u2 := ho.s2 p mp u hu
            have u4 := ho.s4 p mp u hu
            omega
          refine ⟨_, _, rfl, rfl, ?_⟩
          refine ⟨_, hD, ?_, same_mut s8 n9, ?_⟩
          · rw [List.length_map, List.length_replicate]
            exact small1000 (by omega)
          · rw [upd_same, List.replicate_succ', List.map_append]
            exact congrArg (fun z => some (HO.lst (List.map V.bl (List.replicate i false) ++ [V.bl z]))) (decide_eq_false (by omega))
        · rintro H8 ⟨s8, hD⟩
          refine ⟨D9, _, rfl, SqL.of hD, _, rfl, ?_⟩
          rw [any_false]
          refine iteF ?_
          -- main
          have s08 := ((s14.trans s46).trans s7).trans s8
          have o1 := ho.p1
          have hx0 : xs[0]? = some xs[0] := List.getElem?_eq_getElem (by omega)
          obtain ⟨p, ep, r, t1, t2, t3, ex, hr, ⟨a1, x1, rfl, hq1, ha1⟩, _⟩ := ha.at hx0
          have e0 := ho.mn p ep
          have l1 := ha1.1
          rw [e0] at l1
          refine ⟨_, rfl, ix_seqV (hq.same s08) (atI_nat (j := 0) hx0) ?_⟩
          rw [ex]
          refine ⟨r, _, _, _, rfl, rfl, seqT_same s08 hr, p1, a1, _, rfl, hq1.same s08, _, _, rfl, rfl, _, rfl, nope (by rw [l1]; decide) ?_⟩
          exact q _ s08


end
end Pf

namespace Pf
open PySem PySem.Spec PyProof.Rows L2
section
variable {P : Program} {w : World} {K : PySem.W.Frag} {mg : Str → Option Value} {base : Heap}
variable {c : Nat → Addr}
def sp_letters_reason (K : PySem.W.Frag) : Sp := fun vs H Q _ => ∃ l a : Int, vs = [.int l, .int a] ∧ 1 ≤ l ∧ l ≤ 3 ∧ 2 ≤ a ∧ a ≤ 4 ∧ Q (.str Str.empty) H
theorem ok_letters_reason (T : Txt P K mg c) : Has P w K mg base 1 "letters_reason" ["letters", "answers"] (sp_letters_reason K) := by
  obtain ⟨f, fd, F, m, b⟩ := T.d_letters_reason.ex
  obtain ⟨tk_MOST_LETTERS, cc_MOST_LETTERS⟩ := T.c_MOST_LETTERS
  obtain ⟨tk_LEAST_ANSWERS, cc_LEAST_ANSWERS⟩ := T.c_LEAST_ANSWERS
  obtain ⟨tk_MOST_ANSWERS, cc_MOST_ANSWERS⟩ := T.c_MOST_ANSWERS
  refine ⟨f, fd, F.ok sc_letters_reason (fun vs H Q E h => ?_) (fun cdv A outer s H vs Q E hr h => ?_), m, F.kp, b⟩
  · obtain ⟨l, a, rfl, h1, h2, h3, h4, q⟩ := h
    rfl
  obtain ⟨l, a, rfl, h1, h2, h3, h4, q⟩ := h
  refine ⟨_, (pss_cons (ps_if (pt_not (pt_chain op_le op_le pe_int (pv 0) (pe_glob (v := .int 3) rfl cc_MOST_LETTERS ⟨_, rfl⟩)))
      (pss_one (ps_ret pe_str))
      pss_nil)
      (pss_cons (ps_if (pt_not (pt_chain op_le op_le (pe_glob (v := .int 2) rfl cc_LEAST_ANSWERS ⟨_, rfl⟩) (pv 1) (pe_glob (v := .int 4) rfl cc_MOST_ANSWERS ⟨_, rfl⟩)))
      (pss_one (ps_ret pe_str))
      pss_nil)
      (pss_one (ps_ret pe_str)))), ?_⟩
  refine ⟨_, rfl, _, _, rfl, rfl, _, rfl, yes h1 ⟨_, _, rfl, rfl, _, rfl, nyes h2 ?_⟩⟩
  refine ⟨_, rfl, _, _, rfl, rfl, _, rfl, yes h3 ⟨_, _, rfl, rfl, _, rfl, nyes h4 ?_⟩⟩
  exact q
theorem alt_seqB {K : PySem.W.Frag} {i : Nat} {σ : L2.St} {Hb H : Hp} {R : It → Hp → Prop} {a : Addr} {xs : List V} (hi : σ[i]? = some (some (.ref a))) (hq : SeqV K Hb a xs) (e : Same Hb H)
    (k : ∀ (J : It) (G : Hp → Prop), Walk J xs.length G (YAt xs) → (∀ H', Same Hb H' → G H') → R J H) : iList K (tVar i) σ H R ∨ iTup K (tVar i) σ H R := by
  rcases hq with h | h
  · exact .inl ⟨_, hi, a, rfl, ⟨_, e.seq h⟩, k _ _ walk_list fun H' s => s.seq h⟩
  · exact .inr ⟨_, hi, a, rfl, ⟨_, seqT_same e h⟩, k _ _ walk_tup fun H' s => seqT_same s h⟩
theorem seqT_fl {K : PySem.W.Frag} {H H' : Hp} {r a : Addr} {ys xs : List V} (hr : H r = some (.lst ys)) (f : Fr r H H') (h : SqT K H a xs) : SqT K H' a xs := by
  have ne : ∀ o, (∀ zs, o ≠ HO.lst zs) → H a = some o → H' a = some o := fun o no e => f a o (fun z => by
    subst z
    rw [hr] at e
    exact no ys (Option.some.inj e).symm) e
  rcases h with (h | ⟨o, h⟩) | h
  · exact .inl (.inl (ne _ (fun zs z => nomatch z) h))
  · exact .inl (.inr ⟨o, ne _ (fun zs z => nomatch z) h⟩)
  · exact .inr h
/-- a skip with its depth -/
def StAt (K : PySem.W.Frag) (H : Hp) (x : V) : Prop := ∃ t q, x = .ref t ∧ SqT K H t [.ref q, .int 1] ∧ SqT K H q [.str "skip"]
theorem StAt.same {K : PySem.W.Frag} {H H' : Hp} {x : V} (e : Same H H') (h : StAt K H x) : StAt K H' x := let ⟨t, q, h1, h2, h3⟩ := h; ⟨t, q, h1, seqT_same e h2, seqT_same e h3⟩
theorem StAt.mut {K : PySem.W.Frag} {H : Hp} {x : V} {D : Addr} {zs : List V} {o : HO} (e : H D = some (.lst zs)) (h : StAt K H x) : StAt K (upd H D o) x := let ⟨t, q, h1, h2, h3⟩ := h; ⟨t, q, h1, seqT_mut e h2, seqT_mut e h3⟩
theorem StAt.fl {K : PySem.W.Frag} {H H' : Hp} {x : V} {D : Addr} {zs : List V} (e : H D = some (.lst zs)) (f : Fr D H H') (h : StAt K H x) : StAt K H' x := let ⟨t, q, h1, h2, h3⟩ := h; ⟨t, q, h1, seqT_fl e f h2, seqT_fl e f h3⟩
def sp_shape_reason (K : PySem.W.Frag) : Sp := fun us H Q _ => ∃ (x : V) (g : Pg), us = [x] ∧ PrsAt K H x g.ps ∧ g.Ok ∧ ∀ H', Same H H' → Q (.str Str.empty) H'
theorem ok_shape_reason (T : Txt P K mg c) : Has P w K mg base 3 "shape_reason" ["procedures"] (sp_shape_reason K) := by
  obtain ⟨f, fd, F, m, b⟩ := T.d_shape_reason.ex
  obtain ⟨tk_MOST_STATEMENTS, cc_MOST_STATEMENTS⟩ := T.c_MOST_STATEMENTS
  obtain ⟨tk_MOST_NESTING, cc_MOST_NESTING⟩ := T.c_MOST_NESTING
  obtain ⟨f_statements_of, fd_statements_of, G_statements_of, m_statements_of, k_statements_of, b_statements_of⟩ := ok_statements_of (P := P) (w := w) (base := base) T
  obtain ⟨f_expressions_of, fd_expressions_of, G_expressions_of, m_expressions_of, k_expressions_of, b_expressions_of⟩ := ok_expressions_of (P := P) (w := w) (base := base) T
  refine ⟨f, fd, F.ok sc_shape_reason (fun vs H Q E h => ?_) (fun cdv A outer s H vs Q E hr h => ?_), m, F.kp, b⟩
  · obtain ⟨x, g, rfl, hx, ho, q⟩ := h
    rfl
  obtain ⟨x, g, rfl, hx, ho, q⟩ := h
  refine ⟨_, (pss_cons (ps_setLc2 (i := 1) (own := [("procedure", 3), ("pair", 4)]) (vs1 := [4]) (g := gName 3) (g1 := gName 4) (by rfl) sc_shape_reason.nd rfl rfl (sw_true rfl rfl rfl (by decide +kernel)) (pi_alt (pi_list (pv 0)) (pi_tup (pv 0))) (blkOk_by (own := [("procedure", 3), ("pair", 4)]) (N := ["procedures", "found", "expressions", "procedure", "pair", "statement", "depth", "expression"]) (sc := defScope s_shape_reason) (by decide +kernel)) (by decide) (fun _ _ _ _ _ => (pg_name (i := 3) sc_shape_reason.nd rfl (.inl rfl))) (fun _ _ _ _ _ => pts_nil) (fun _ _ _ _ _ => (pi_listK (K := K) rfl (pe_call G_statements_of (hr.mono (by decide)) (by rfl) m_statements_of k_statements_of b_statements_of .nil pass0 (pa_cons (pe_ix (ix_tupK (K := K) rfl) (pv 3) pe_int (fun _ _ => rfl)) pa_nil)))) (fun _ _ _ _ _ => (pg_name (i := 4) sc_shape_reason.nd rfl (.inl rfl))) (fun _ _ _ _ _ => pts_nil) (fun _ _ _ _ _ => (pv 4)))
      (pss_cons (ps_if (pt_cmpR op_gt (pe_callB call_len_seq (by rfl) T.z_len (by decide +kernel) (pa_cons (pv 1) pa_nil)) (pe_glob (v := .int 60) rfl cc_MOST_STATEMENTS ⟨_, rfl⟩) (nomark _))
      (pss_one (ps_ret pe_str))
      pss_nil)
      (pss_cons (ps_if (pt_val (pe_callB (cr_any rfl) (by rfl) T.z_any (by decide +kernel) (pa_cons (pe_lc (own := [("statement", 5), ("depth", 6)]) (by rfl) sc_shape_reason.nd (pi_list (pv 1)) (blkOk_by (own := [("statement", 5), ("depth", 6)]) (N := ["procedures", "found", "expressions", "procedure", "pair", "statement", "depth", "expression"]) (sc := defScope s_shape_reason) (by decide +kernel)) (fun _ _ _ _ _ => (pg_tupK (K := K) (n := 2) rfl rfl (pgs_cons (pg_name (i := 5) sc_shape_reason.nd rfl (.inl rfl)) (pgs_cons (pg_name (i := 6) sc_shape_reason.nd rfl (.inl rfl)) pgs_nil)))) (fun _ _ _ _ _ => pts_nil) (fun _ _ _ _ _ => (pe_cmpR op_gt (pv 6) (pe_glob (v := .int 6) rfl cc_MOST_NESTING ⟨_, rfl⟩) (nomark _)))) pa_nil)))
      (pss_one (ps_ret pe_str))
      pss_nil)
      (pss_cons (ps_setLc2 (i := 2) (own := [("statement", 5), ("depth", 6), ("expression", 7)]) (vs1 := [7]) (g1 := gName 7) (by rfl) sc_shape_reason.nd rfl rfl (sw_true rfl rfl rfl (by decide +kernel)) (pi_list (pv 1)) (blkOk_by (own := [("statement", 5), ("depth", 6), ("expression", 7)]) (N := ["procedures", "found", "expressions", "procedure", "pair", "statement", "depth", "expression"]) (sc := defScope s_shape_reason) (by decide +kernel)) (by decide) (fun _ _ _ _ _ => (pg_tupK (K := K) (n := 2) rfl rfl (pgs_cons (pg_name (i := 5) sc_shape_reason.nd rfl (.inl rfl)) (pgs_cons (pg_name (i := 6) sc_shape_reason.nd rfl (.inl rfl)) pgs_nil)))) (fun _ _ _ _ _ => pts_nil) (fun _ _ _ _ _ => (pi_tupK (K := K) rfl (pe_call G_expressions_of (hr.mono (by decide)) (by rfl) m_expressions_of k_expressions_of b_expressions_of .nil pass0 (pa_cons (pv 5) pa_nil)))) (fun _ _ _ _ _ => (pg_name (i := 7) sc_shape_reason.nd rfl (.inl rfl))) (fun _ _ _ _ _ => pts_nil) (fun _ _ _ _ _ => (pv 7)))
      (pss_cons (ps_if (pt_val (pe_callB (cr_any rfl) (by rfl) T.z_any (by decide +kernel) (pa_cons (pe_lc (own := [("expression", 7)]) (g := gName 7) (by rfl) sc_shape_reason.nd (pi_list (pv 2)) (blkOk_by (own := [("expression", 7)]) (N := ["procedures", "found", "expressions", "procedure", "pair", "statement", "depth", "expression"]) (sc := defScope s_shape_reason) (by decide +kernel)) (fun _ _ _ _ _ => pg_name (i := 7) sc_shape_reason.nd rfl (Or.inl rfl)) (fun _ _ _ _ _ => pts_nil) (fun _ _ _ _ _ => pe_dead)) pa_nil)))
      (pss_one (ps_ret pe_str))
      pss_nil)
      (pss_one (ps_ret pe_str))))))), ?_⟩
  obtain ⟨a, xs, rfl, hq, ha⟩ := id hx
  have la := ha.1
  have o5 := ho.p5
  refine alt_seq rfl hq fun J G w gd => fun D nD => two_out w (fun i H' => Same H H' ∧ ∃ acc, H' D = some (.lst acc) ∧ acc.length ≤ i ∧ ∀ x ∈ acc, StAt K H' x) ⟨same_new nD, [], upd_same, Nat.zero_le _, fun x h => nomatch h⟩ (fun i H' _ h' => gd _ h'.1) ?_ ?_
  · rintro i x H1 H2 hi ⟨s1, acc, hD, lc, hacc⟩ ⟨rfl, hx⟩
    obtain ⟨p, ep, r, t1, t2, t3, rfl, hr, _, _, hb⟩ := ha.at hx
    refine ⟨rfl, _, rfl, r, _, _, _, rfl, rfl, seqT_same s1 hr, p3, t3, p.sk, rfl, hb.same s1, fun l ws H3 s3 nl hl hw => ⟨l, rfl, ⟨_, SqL.of hl⟩, ?_⟩⟩
    have nlD : l ≠ D := fun z => by
      subst z
      rw [hD] at nl
      cases nl
    have hD3 := s3 _ _ hD
    have hws : ws.length ≤ 1 ∧ ∀ x ∈ ws, StAt K H3 x := by
      rcases hw with ⟨_, rfl⟩ | ⟨_, t, u, rfl, ht, hu⟩
      · exact ⟨Nat.zero_le _, fun x h => nomatch h⟩
      · exact ⟨Nat.le_refl _, fun x h => by
          rcases List.mem_singleton.mp h with rfl
          exact ⟨t, u, rfl, ht, hu⟩⟩
    show Exists _
    refine two_out (walk_list (xs := ws)) (fun j H' => Fr D H3 H' ∧ Same H H' ∧ ∃ acc, H' D = some (.lst acc) ∧ acc.length ≤ i + j ∧ ∀ x ∈ acc, StAt K H' x) ⟨Fr.refl _ _, s1.trans s3, acc, hD3, lc, fun x h => (hacc x h).same s3⟩ (fun j H' _ h' => h'.1.seq nlD (SqL.of hl)) ?_ ?_
    · rintro j y H5 H6 hj ⟨f5, s5, acc5, hD5, l5, h5⟩ ⟨rfl, hy⟩
      refine ⟨rfl, _, rfl, acc5, hD5, small1000 (by omega), f5.trans Fr.upd, same_mut s5 nD, acc5 ++ [y], upd_same, ?_, fun x hx => ?_⟩
      · rw [List.length_append]
        show acc5.length + 1 ≤ _
        omega
      · rcases List.mem_append.mp hx with hx | hx
        · exact (h5 x hx).mut hD5
        · rcases List.mem_singleton.mp hx with rfl
          exact ((hws.2 _ (List.mem_of_getElem? hy)).fl hD3 f5).mut hD5
    · rintro H5 ⟨f5, s5, acc5, hD5, l5, h5⟩
      exact ⟨s5, acc5, hD5, by omega, h5⟩
  rintro H1 ⟨s1, acc, hD, lc, hacc⟩
  refine ⟨_, rfl, D, acc, rfl, .inl (SqL.of hD), _, _, rfl, rfl, _, rfl, nope (by omega) ?_⟩
  refine ⟨_, rfl, D, rfl, ⟨_, SqL.of hD⟩, fun D2 n2 => lc_it walk_list (fun i H' => Same H1 H' ∧ H' D2 = some (.lst ((List.replicate i false).map V.bl))) ⟨same_new n2, upd_same⟩ (fun i H' _ h' => SqL.of (h'.1 _ _ hD)) ?_ ?_⟩
  · rintro i x H2 H3 hi ⟨s2, hD2⟩ ⟨rfl, hx⟩
    obtain ⟨t, u, rfl, ht, hu⟩ := hacc x (List.mem_of_getElem? hx)
    refine ⟨t, _, rfl, seqT_same s2 ht, rfl, _, _, rfl, _, _, rfl, rfl, rfl, _, rfl, _, _, rfl, rfl, _, hD2, ?_, same_mut s2 n2, ?_⟩
    · rw [List.length_map, List.length_replicate]
      exact small1000 (by omega)
    · rw [upd_same, List.replicate_succ', List.map_append]
      rfl
  rintro H2 ⟨s2, hD2⟩
  refine ⟨D2, _, rfl, SqL.of hD2, _, rfl, ?_⟩
  rw [any_false]
  refine iteF ?_
  have hDx := s2 _ _ hD
  refine ⟨_, rfl, D, rfl, ⟨_, SqL.of hDx⟩, fun D3 n3 => two_out walk_list (fun i H' => Same H2 H' ∧ H' D3 = some (.lst [])) ⟨same_new n3, upd_same⟩ (fun i H' _ h' => SqL.of (h'.1 _ _ hDx)) ?_ ?_⟩
  · rintro i x H3 H4 hi ⟨s3, hD3⟩ ⟨rfl, hx⟩
    obtain ⟨t, u, rfl, ht, hu⟩ := hacc x (List.mem_of_getElem? hx)
    have s23 := s2.trans s3
    refine ⟨t, _, rfl, seqT_same s23 ht, rfl, _, _, rfl, _, _, rfl, rfl, rfl, _, rfl, u, rfl, seqT_same s23 hu, fun te H5 s5 he => ⟨te, rfl, ⟨_, SqT.of he⟩, ?_⟩⟩
    refine ⟨fun j m H' => j = 0 ∧ H' = H5, ⟨0, rfl, rfl⟩, ?_⟩
    rintro j m H' ⟨rfl, rfl⟩
    exact .inl ⟨⟨[], SqT.of he, Nat.le_refl _⟩, s3.trans s5, s5 _ _ hD3⟩
  rintro H3 ⟨s3, hD3⟩
  refine ⟨_, rfl, D3, rfl, ⟨_, SqL.of hD3⟩, fun D4 n4 => lc_it (walk_list (xs := [])) (fun i H' => Same H3 H' ∧ H' D4 = some (.lst [])) ⟨same_new n4, upd_same⟩ (fun i H' _ h' => SqL.of (h'.1 _ _ hD3)) ?_ ?_⟩
  · exact fun i x H' H'' hi => absurd hi (Nat.not_lt_zero _)
  rintro H4 ⟨s4, hD4⟩
  refine ⟨D4, [], rfl, SqL.of hD4, _, rfl, ?_⟩
  refine iteF ?_
  exact q _ (((s1.trans s2).trans s3).trans s4)
/-- a skip with what is in sight -/
def FdAt (K : PySem.W.Frag) (H : Hp) (x : V) : Prop := ∃ t q d, x = .ref t ∧ SqT K H t [.ref q, .ref d] ∧ SqT K H q [.str "skip"]
theorem FdAt.same {K : PySem.W.Frag} {H H' : Hp} {x : V} (e : Same H H') (h : FdAt K H x) : FdAt K H' x := let ⟨t, q, d, h1, h2, h3⟩ := h; ⟨t, q, d, h1, seqT_same e h2, seqT_same e h3⟩
theorem FdAt.mut {K : PySem.W.Frag} {H : Hp} {x : V} {D : Addr} {zs : List V} {o : HO} (e : H D = some (.lst zs)) (h : FdAt K H x) : FdAt K (upd H D o) x := let ⟨t, q, d, h1, h2, h3⟩ := h; ⟨t, q, d, h1, seqT_mut e h2, seqT_mut e h3⟩
def sp_meaning_reason (K : PySem.W.Frag) : Sp := fun us H Q _ => ∃ (l : Int) (v x : V) (g : Pg), us = [.int l, v, x] ∧ VrsAt K H v g.vs ∧ PrsAt K H x g.ps ∧ g.Ok ∧ ∀ H', Same H H' → Q (.str Str.empty) H'
theorem ok_meaning_reason (T : Txt P K mg c) : Has P w K mg base 3 "meaning_reason" ["letters", "variables", "procedures"] (sp_meaning_reason K) := by
  obtain ⟨f, fd, F, m, b⟩ := T.d_meaning_reason.ex
  obtain ⟨f_in_sight, fd_in_sight, G_in_sight, m_in_sight, k_in_sight, b_in_sight⟩ := ok_in_sight (P := P) (w := w) (base := base) T
  obtain ⟨f_statements_of, fd_statements_of, G_statements_of, m_statements_of, k_statements_of, b_statements_of⟩ := ok_statements_of (P := P) (w := w) (base := base) T
  obtain ⟨f_has_wrong_number, fd_has_wrong_number, G_has_wrong_number, m_has_wrong_number, k_has_wrong_number, b_has_wrong_number⟩ := ok_has_wrong_number (P := P) (w := w) (base := base) T
  obtain ⟨f_has_unknown, fd_has_unknown, G_has_unknown, m_has_unknown, k_has_unknown, b_has_unknown⟩ := ok_has_unknown (P := P) (w := w) (base := base) T
  obtain ⟨f_is_wrong_call, fd_is_wrong_call, G_is_wrong_call, m_is_wrong_call, k_is_wrong_call, b_is_wrong_call⟩ := ok_is_wrong_call (P := P) (w := w) (base := base) T
  refine ⟨f, fd, F.ok sc_meaning_reason (fun vs H Q E h => ?_) (fun cdv A outer s H vs Q E hr h => ?_), m, F.kp, b⟩
  · obtain ⟨l, v, x, g, rfl, hv, hx, ho, q⟩ := h
    rfl
  obtain ⟨l, v, x, g, rfl, hv, hx, ho, q⟩ := h
  refine ⟨_, (pss_cons (ps_set (i := 3) sc_meaning_reason.nd rfl (.inl rfl) (pe_lst pa_nil))
      (pss_cons (ps_for PassesOwn.never rfl (pi_alt (pi_list (pv 2)) (pi_tup (pv 2))) (pg_name (i := 4) sc_meaning_reason.nd rfl (.inl rfl))
      (pss_cons (ps_set (i := 5) sc_meaning_reason.nd rfl (.inr rfl) (pe_dc (own := [("name", 7), ("size", 8)]) (by rfl) sc_meaning_reason.nd (pi_list (pe_call G_in_sight (hr.mono (by decide)) (by rfl) m_in_sight k_in_sight b_in_sight .nil pass0 (pa_cons (pv 1) (pa_cons (pv 4) pa_nil)))) (blkOk_by (own := [("name", 7), ("size", 8)]) (N := ["letters", "variables", "procedures", "found", "procedure", "scope", "many", "name", "size", "statement", "sizes", "depth"]) (sc := defScope s_meaning_reason) (by decide +kernel)) (fun _ _ _ _ _ => (pg_tupK (K := K) (n := 2) rfl rfl (pgs_cons (pg_name (i := 7) sc_meaning_reason.nd rfl (.inl rfl)) (pgs_cons (pg_name (i := 8) sc_meaning_reason.nd rfl (.inl rfl)) pgs_nil)))) (fun _ _ _ _ _ => pts_nil) (fun _ _ _ _ _ => (pv 7)) (fun _ _ _ _ _ => (pv 8))))
        (pss_one (ps_expr (pe_bm PySem.F.plainAttrs_list PySem.F.slot_list_extend PySem.F.type_list_extend mt_extend (pv 3) (pa_cons (pe_lc (own := [("statement", 9), ("depth", 11)]) (by rfl) sc_meaning_reason.nd (pi_list (pe_call G_statements_of (hr.mono (by decide)) (by rfl) m_statements_of k_statements_of b_statements_of .nil pass0 (pa_cons (pe_ix ix_tup (pv 4) pe_int (fun _ _ => rfl)) pa_nil))) (blkOk_by (own := [("statement", 9), ("depth", 11)]) (N := ["letters", "variables", "procedures", "found", "procedure", "scope", "many", "name", "size", "statement", "sizes", "depth"]) (sc := defScope s_meaning_reason) (by decide +kernel)) (fun _ _ _ _ _ => (pg_tupK (K := K) (n := 2) rfl rfl (pgs_cons (pg_name (i := 9) sc_meaning_reason.nd rfl (.inl rfl)) (pgs_cons (pg_name (i := 11) sc_meaning_reason.nd rfl (.inl rfl)) pgs_nil)))) (fun _ _ _ _ _ => pts_nil) (fun _ _ _ _ _ => (pe_tup (pa_cons (pv 9) (pa_cons (pv 5) pa_nil))))) pa_nil))))))
      (pss_cons (ps_set (i := 6) sc_meaning_reason.nd rfl (.inr rfl) (pe_dc (own := [("procedure", 4)]) (g := gName 4) (by rfl) sc_meaning_reason.nd (pi_alt (pi_list (pv 2)) (pi_tup (pv 2))) (blkOk_by (own := [("procedure", 4)]) (N := ["letters", "variables", "procedures", "found", "procedure", "scope", "many", "name", "size", "statement", "sizes", "depth"]) (sc := defScope s_meaning_reason) (by decide +kernel)) (fun _ _ _ _ _ => (pg_name (i := 4) sc_meaning_reason.nd rfl (.inl rfl))) (fun _ _ _ _ _ => pts_nil) (fun _ _ _ _ _ => (pe_ix (ix_tupK (K := K) rfl) (pv 4) pe_int (fun _ _ => rfl))) (fun _ _ _ _ _ => (pe_callB (call_len_seqK (K := K) rfl) (by rfl) T.z_len (by decide +kernel) (pa_cons (pe_ix (ix_tupK (K := K) rfl) (pv 4) pe_int (fun _ _ => rfl)) pa_nil)))))
      (pss_cons (ps_if (pt_val (pe_callB (cr_any rfl) (by rfl) T.z_any (by decide +kernel) (pa_cons (pe_lc (own := [("statement", 9), ("sizes", 10)]) (by rfl) sc_meaning_reason.nd (pi_list (pv 3)) (blkOk_by (own := [("statement", 9), ("sizes", 10)]) (N := ["letters", "variables", "procedures", "found", "procedure", "scope", "many", "name", "size", "statement", "sizes", "depth"]) (sc := defScope s_meaning_reason) (by decide +kernel)) (fun _ _ _ _ _ => (pg_tupK (K := K) (n := 2) rfl rfl (pgs_cons (pg_name (i := 9) sc_meaning_reason.nd rfl (.inl rfl)) (pgs_cons (pg_name (i := 10) sc_meaning_reason.nd rfl (.inl rfl)) pgs_nil)))) (fun _ _ _ _ _ => pts_nil) (fun _ _ _ _ _ => (pe_call G_has_wrong_number (hr.mono (by decide)) (by rfl) m_has_wrong_number k_has_wrong_number b_has_wrong_number .nil pass0 (pa_cons (pv 9) pa_nil)))) pa_nil)))
      (pss_one (ps_ret pe_str))
      pss_nil)
      (pss_cons (ps_if (pt_val (pe_callB (cr_any rfl) (by rfl) T.z_any (by decide +kernel) (pa_cons (pe_lc (own := [("statement", 9), ("sizes", 10)]) (by rfl) sc_meaning_reason.nd (pi_list (pv 3)) (blkOk_by (own := [("statement", 9), ("sizes", 10)]) (N := ["letters", "variables", "procedures", "found", "procedure", "scope", "many", "name", "size", "statement", "sizes", "depth"]) (sc := defScope s_meaning_reason) (by decide +kernel)) (fun _ _ _ _ _ => (pg_tupK (K := K) (n := 2) rfl rfl (pgs_cons (pg_name (i := 9) sc_meaning_reason.nd rfl (.inl rfl)) (pgs_cons (pg_name (i := 10) sc_meaning_reason.nd rfl (.inl rfl)) pgs_nil)))) (fun _ _ _ _ _ => pts_nil) (fun _ _ _ _ _ => (pe_call G_has_unknown (hr.mono (by decide)) (by rfl) m_has_unknown k_has_unknown b_has_unknown .nil pass0 (pa_cons (pv 9) (pa_cons (pv 10) (pa_cons (pv 6) pa_nil)))))) pa_nil)))
      (pss_one (ps_ret pe_str))
      pss_nil)
      (pss_cons (ps_if (pt_val (pe_callB (cr_any rfl) (by rfl) T.z_any (by decide +kernel) (pa_cons (pe_lc (own := [("statement", 9), ("sizes", 10)]) (by rfl) sc_meaning_reason.nd (pi_list (pv 3)) (blkOk_by (own := [("statement", 9), ("sizes", 10)]) (N := ["letters", "variables", "procedures", "found", "procedure", "scope", "many", "name", "size", "statement", "sizes", "depth"]) (sc := defScope s_meaning_reason) (by decide +kernel)) (fun _ _ _ _ _ => (pg_tupK (K := K) (n := 2) rfl rfl (pgs_cons (pg_name (i := 9) sc_meaning_reason.nd rfl (.inl rfl)) (pgs_cons (pg_name (i := 10) sc_meaning_reason.nd rfl (.inl rfl)) pgs_nil)))) (fun _ _ _ _ _ => pts_nil) (fun _ _ _ _ _ => (pe_call G_is_wrong_call (hr.mono (by decide)) (by rfl) m_is_wrong_call k_is_wrong_call b_is_wrong_call .nil pass0 (pa_cons (pv 9) (pa_cons (pe_ix (ix_tupK (K := K) rfl) (pe_ix (ix_seqK (K := K) rfl) (pv 2) pe_int (fun _ _ => rfl)) pe_int (fun _ _ => rfl)) (pa_cons (pv 6) pa_nil)))))) pa_nil)))
      (pss_one (ps_ret pe_str))
      pss_nil)
      (pss_cons (ps_if (pt_val (pe_callB (cr_any rfl) (by rfl) T.z_any (by decide +kernel) (pa_cons (pe_lc (own := [("statement", 9), ("sizes", 10)]) (by rfl) sc_meaning_reason.nd (pi_list (pv 3)) (blkOk_by (own := [("statement", 9), ("sizes", 10)]) (N := ["letters", "variables", "procedures", "found", "procedure", "scope", "many", "name", "size", "statement", "sizes", "depth"]) (sc := defScope s_meaning_reason) (by decide +kernel)) (fun _ _ _ _ _ => (pg_tupK (K := K) (n := 2) rfl rfl (pgs_cons (pg_name (i := 9) sc_meaning_reason.nd rfl (.inl rfl)) (pgs_cons (pg_name (i := 10) sc_meaning_reason.nd rfl (.inl rfl)) pgs_nil)))) (fun _ _ _ _ _ => pts_nil) (fun _ _ _ _ _ => (pe_and (pe_cmpR op_eq (pe_ix (ix_tupK (K := K) rfl) (pv 9) pe_int (fun _ _ => rfl)) pe_str (nomark _)) (pe_one pe_dead)))) pa_nil)))
      (pss_one (ps_ret pe_str))
      pss_nil)
      (pss_one (ps_ret pe_str))))))))), ?_⟩
  obtain ⟨a, xs, rfl, hq, ha⟩ := id hx
  have la := ha.1
  have o5 := ho.p5
  have o1 := ho.p1
  have o4 := ho.v4
  have dl := ho.decl.len
  refine ⟨by show 0 ≤ sizeLine; decide, fun F nF => ?_⟩
  have s0 := same_new (o := .lst []) nF
  have hF0 : (upd H F (.lst [])) F = some (.lst []) := upd_same
  generalize upd H F (.lst []) = H0 at s0 hF0 ⊢
  -- for procedure in procedures
  refine alt_seqB rfl hq s0 fun J G w gd => for_it w (fun i σ H' => ∃ y4 y5 y6 y7 y8 y9 y10 y11, σ = [some (.int l), some v, some (.ref a), some (.ref F), y4, y5, y6, y7, y8, y9, y10, y11] ∧ Same H H' ∧ ∃ acc, H' F = some (.lst acc) ∧ acc.length ≤ i ∧ ∀ x ∈ acc, FdAt K H' x)
    ⟨_, _, _, _, _, _, _, _, rfl, s0, [], hF0, Nat.zero_le _, fun x h => nomatch h⟩ (fun i σ H' _ h' => ?_) ?_ ?_
  · obtain ⟨_, _, _, _, _, _, _, _, _, s1, _⟩ := h'
    exact gd _ s1
  · rintro i x σ H1 H2 hi ⟨y4, y5, y6, y7, y8, y9, y10, y11, rfl, s1, acc, hF, lc, hacc⟩ ⟨rfl, hx⟩
    obtain ⟨p, ep, hp⟩ := ha.at hx
    have mp := List.mem_of_getElem? ep
    obtain ⟨r, t1, t2, t3, rfl, hr, _, _, hb⟩ := id hp
    have lp := dl p mp
    refine ⟨_, rfl, _, rfl, v, _, g.vs, p, rfl, hv.same s1, hp.same s1, o4, ho.p3 p mp, ho.l33 p mp, fun ls ws H3 s3 nl hl hw => ⟨ls, rfl, ⟨_, SqL.of hl⟩, fun D nD => ?_⟩⟩
    refine two_out walk_list (fun i H' => Same H3 H' ∧ ∃ kvs, H' D = some (.dK kvs) ∧ kvs.length ≤ i) ⟨same_new nD, [], upd_same, Nat.zero_le _⟩ (fun i H' _ h' => SqL.of (h'.1 _ _ hl)) ?_ ?_
    · rintro j y H4 H5 hj ⟨s4, kvs, hD, lk⟩ ⟨rfl, hy⟩
      obtain ⟨vr, evr, t, rfl, ht⟩ := hw.at hy
      have lw := hw.1
      refine ⟨t, _, rfl, seqT_same s4 ht, rfl, _, _, rfl, _, _, rfl, rfl, rfl, _, rfl, _, rfl, kvs, Sum.inr vr.nm, rfl, hD, small1000 (by omega), same_mut s4 nD, _, upd_same, ?_⟩
      have := length_putK kvs (Sum.inr vr.nm) (V.int vr.sz)
      omega
    rintro H4 ⟨s4, kvs, hD, lk⟩
    have s14 := (s1.trans s3).trans s4
    refine ⟨_, rfl, .inl ⟨rfl, _, SqL.of (s4 _ _ (s3 _ _ hF))⟩, ?_⟩
    refine ⟨_, rfl, r, _, _, _, rfl, rfl, seqT_same s14 hr, p3, t3, p.sk, rfl, hb.same s14, fun l2 ws2 H5 s5 nl2 hl2 hw2 => ⟨l2, rfl, ⟨_, SqL.of hl2⟩, fun D2 n2 => ?_⟩⟩
    have h2 : ws2.length ≤ 1 ∧ ∀ x ∈ ws2, StAt K H5 x := by
      rcases hw2 with ⟨_, rfl⟩ | ⟨_, t, u, rfl, ht, hu⟩
      · exact ⟨Nat.zero_le _, fun x h => nomatch h⟩
      · exact ⟨Nat.le_refl _, fun x h => by
          rcases List.mem_singleton.mp h with rfl
          exact ⟨t, u, rfl, ht, hu⟩⟩
    refine lc_it walk_list (fun j H' => Same H5 H' ∧ ∃ zs, H' D2 = some (.lst zs) ∧ zs.length ≤ j ∧ ∀ x ∈ zs, FdAt K H' x) ⟨same_new n2, [], upd_same, Nat.zero_le _, fun x h => nomatch h⟩ (fun j H' _ h' => SqL.of (h'.1 _ _ hl2)) ?_ ?_
    · rintro j y H6 H7 hj ⟨s6, zs, hD2, lz, hzs⟩ ⟨rfl, hy⟩
      obtain ⟨t, u, rfl, ht, hu⟩ := h2.2 y (List.mem_of_getElem? hy)
      refine ⟨t, _, rfl, seqT_same s6 ht, rfl, _, _, rfl, _, _, rfl, rfl, rfl, _, rfl, _, rfl, by show 2 ≤ sizeLine; decide, fun tn ntn => ?_⟩
      have s7 := same_new (o := .tup [.ref u, .ref D]) ntn
      refine ⟨zs, s7 _ _ hD2, small1000 (by omega), same_mut (s6.trans s7) n2, zs ++ [.ref tn], upd_same, ?_, fun x hx => ?_⟩
      · rw [List.length_append]
        show zs.length + 1 ≤ _
        omega
      · rcases List.mem_append.mp hx with hx | hx
        · exact ((hzs x hx).same s7).mut (s7 _ _ hD2)
        · rcases List.mem_singleton.mp hx with rfl
          exact FdAt.mut (s7 _ _ hD2) ⟨tn, u, D, rfl, SqT.of upd_same, seqT_same (s6.trans s7) hu⟩
    rintro H6 ⟨s6, zs, hD2, lz, hzs⟩
    have s16 := (s14.trans s5).trans s6
    have hF6 : H6 F = some (.lst acc) := s6 _ _ (s5 _ _ (s4 _ _ (s3 _ _ hF)))
    have sH := ((s3.trans s4).trans s5).trans s6
    refine ⟨F, D2, acc, zs, rfl, rfl, hF6, hD2, line_small (by omega), ?_⟩
    refine ⟨_, _, _, _, _, _, _, _, rfl, same_mut s16 nF, acc ++ zs, upd_same, ?_, fun x hx => ?_⟩
    · rw [List.length_append]
      omega
    · rcases List.mem_append.mp hx with hx | hx
      · exact ((hacc x hx).same sH).mut hF6
      · exact (hzs x hx).mut hF6
  · rintro σ H1 ⟨y4, y5, y6, y7, y8, y9, y10, y11, rfl, s1, acc, hF, lc, hacc⟩
    -- many
    refine alt_seqB rfl hq s1 fun J G w gd => fun D nD => two_out w (fun i H' => Same H1 H' ∧ ∃ kvs, H' D = some (.dK kvs) ∧ kvs.length ≤ i) ⟨same_new nD, [], upd_same, Nat.zero_le _⟩ (fun i H' _ h' => gd _ (s1.trans h'.1)) ?_ ?_
    · rintro i x H2 H3 hi ⟨s2, kvs, hD, lk⟩ ⟨rfl, hx⟩
      obtain ⟨p, ep, r, t1, t2, t3, rfl, hr, ⟨a1, x1, rfl, hq1, ha1⟩, _, hb⟩ := ha.at hx
      have s12 := s1.trans s2
      refine ⟨rfl, _, rfl, r, _, _, _, rfl, rfl, seqT_same s12 hr, p0, _, rfl, r, _, _, _, rfl, rfl, seqT_same s12 hr, p1, a1, _, rfl, hq1.same s12, kvs, Sum.inr p.nm, rfl, hD, small1000 (by omega), same_mut s2 nD, _, upd_same, ?_⟩
      have := length_putK kvs (Sum.inr p.nm) (V.int ((x1.length : Nat) : Int))
      omega
    rintro H2 ⟨s2, kvs, hD, lk⟩
    have s12 := s1.trans s2
    have hF2 := s2 _ _ hF
    have hacc := fun x hx => (hacc x hx).same s2
    -- number
    refine ⟨_, rfl, F, rfl, ⟨_, SqL.of hF2⟩, fun D2 n2 => lc_it walk_list (fun i H' => Same H2 H' ∧ H' D2 = some (.lst ((List.replicate i false).map V.bl))) ⟨same_new n2, upd_same⟩ (fun i H' _ h' => SqL.of (h'.1 _ _ hF2)) ?_ ?_⟩
    · rintro i x H3 H4 hi ⟨s3, hD3⟩ ⟨rfl, hx⟩
      obtain ⟨t, u, d, rfl, ht, hu⟩ := hacc x (List.mem_of_getElem? hx)
      refine ⟨t, _, rfl, seqT_same s3 ht, rfl, _, _, rfl, _, _, rfl, rfl, rfl, _, rfl, u, rfl, seqT_same s3 hu, fun H5 s5 => ⟨_, s5 _ _ hD3, ?_, same_mut (s3.trans s5) n2, ?_⟩⟩
      · rw [List.length_map, List.length_replicate]
        exact small1000 (by omega)
      · rw [upd_same, List.replicate_succ', List.map_append]
        rfl
    rintro H3 ⟨s3, hD3⟩
    refine ⟨D2, _, rfl, SqL.of hD3, _, rfl, ?_⟩
    rw [any_false]
    refine iteF ?_
    have hF3 := s3 _ _ hF2
    -- unknown
    refine ⟨_, rfl, F, rfl, ⟨_, SqL.of hF3⟩, fun D2 n2 => lc_it walk_list (fun i H' => Same H3 H' ∧ H' D2 = some (.lst ((List.replicate i false).map V.bl))) ⟨same_new n2, upd_same⟩ (fun i H' _ h' => SqL.of (h'.1 _ _ hF3)) ?_ ?_⟩
    · rintro i x H4 H5 hi ⟨s4, hD4⟩ ⟨rfl, hx⟩
      obtain ⟨t, u, d, rfl, ht, hu⟩ := hacc x (List.mem_of_getElem? hx)
      have s34 := s3.trans s4
      refine ⟨t, _, rfl, seqT_same s34 ht, rfl, _, _, rfl, _, _, rfl, rfl, rfl, _, rfl, _, rfl, _, rfl, u, _, _, rfl, seqT_same s34 hu, fun H6 s6 => ⟨_, s6 _ _ hD4, ?_, same_mut (s4.trans s6) n2, ?_⟩⟩
      · rw [List.length_map, List.length_replicate]
        exact small1000 (by omega)
      · rw [upd_same, List.replicate_succ', List.map_append]
        rfl
    rintro H4 ⟨s4, hD4⟩
    refine ⟨D2, _, rfl, SqL.of hD4, _, rfl, ?_⟩
    rw [any_false]
    refine iteF ?_
    have hF4 := s4 _ _ hF3
    have s24 := s3.trans s4
    -- call
    have hx0 : xs[0]? = some xs[0] := List.getElem?_eq_getElem (by omega)
    obtain ⟨p, ep, r, t1, t2, t3, ex, hr, _⟩ := ha.at hx0
    refine ⟨_, rfl, F, rfl, ⟨_, SqL.of hF4⟩, fun D2 n2 => lc_it walk_list (fun i H' => Same H4 H' ∧ H' D2 = some (.lst ((List.replicate i false).map V.bl))) ⟨same_new n2, upd_same⟩ (fun i H' _ h' => SqL.of (h'.1 _ _ hF4)) ?_ ?_⟩
    · rintro i x H5 H6 hi ⟨s5, hD5⟩ ⟨rfl, hx⟩
      obtain ⟨t, u, d, rfl, ht, hu⟩ := hacc x (List.mem_of_getElem? hx)
      have s25 := s24.trans s5
      have s05 := (s12.trans s24).trans s5
      refine ⟨t, _, rfl, seqT_same s25 ht, rfl, _, _, rfl, _, _, rfl, rfl, rfl, _, rfl, _, rfl, ix_seqV (hq.same s05) (atI_nat (j := 0) hx0) ?_⟩
      rw [ex]
      refine ⟨r, _, _, _, rfl, rfl, seqT_same s05 hr, p0, _, rfl, u, _, _, rfl, seqT_same s25 hu, ⟨_, hD5, ?_, same_mut s5 n2, ?_⟩⟩
      · rw [List.length_map, List.length_replicate]
        exact small1000 (by omega)
      · rw [upd_same, List.replicate_succ', List.map_append]
        rfl
    rintro H5 ⟨s5, hD5⟩
    refine ⟨D2, _, rfl, SqL.of hD5, _, rfl, ?_⟩
    rw [any_false]
    refine iteF ?_
    have hF5 := s5 _ _ hF4
    have s25 := s24.trans s5
    -- read
    refine ⟨_, rfl, F, rfl, ⟨_, SqL.of hF5⟩, fun D2 n2 => lc_it walk_list (fun i H' => Same H5 H' ∧ H' D2 = some (.lst ((List.replicate i false).map V.bl))) ⟨same_new n2, upd_same⟩ (fun i H' _ h' => SqL.of (h'.1 _ _ hF5)) ?_ ?_⟩
    · rintro i x H6 H7 hi ⟨s6, hD6⟩ ⟨rfl, hx⟩
      obtain ⟨t, u, d, rfl, ht, hu⟩ := hacc x (List.mem_of_getElem? hx)
      have s26 := s25.trans s6
      refine ⟨t, _, rfl, seqT_same s26 ht, rfl, _, _, rfl, _, _, rfl, rfl, rfl, _, rfl, u, _, _, _, rfl, rfl, seqT_same s26 hu, o0, rfl, ?_⟩
      refine ⟨false, congrArg V.bl (decide_eq_false (by decide +kernel)), ?_⟩
      refine ⟨_, hD6, ?_, same_mut s6 n2, ?_⟩
      · rw [List.length_map, List.length_replicate]
        exact small1000 (by omega)
      · rw [upd_same, List.replicate_succ', List.map_append]
        rfl
    rintro H6 ⟨s6, hD6⟩
    refine ⟨D2, _, rfl, SqL.of hD6, _, rfl, ?_⟩
    rw [any_false]
    refine iteF ?_
    exact q _ (s12.trans (s25.trans s6))
def sp_first_reason (K : PySem.W.Frag) : Sp := fun us H Q _ => ∃ (v x : V) (g : Pg), us = [.int g.l, .int g.a, v, x] ∧ VrsAt K H v g.vs ∧ PrsAt K H x g.ps ∧ g.Ok ∧ ∀ H', Same H H' → Q (.str Str.empty) H'
theorem ok_first_reason (T : Txt P K mg c) : Has P w K mg base 4 "first_reason" ["letters", "answers", "variables", "procedures"] (sp_first_reason K) := by
  obtain ⟨f, fd, F, m, b⟩ := T.d_first_reason.ex
  obtain ⟨f_letters_reason, fd_letters_reason, G_letters_reason, m_letters_reason, k_letters_reason, b_letters_reason⟩ := ok_letters_reason (P := P) (w := w) (base := base) T
  obtain ⟨f_count_reason, fd_count_reason, G_count_reason, m_count_reason, k_count_reason, b_count_reason⟩ := ok_count_reason (P := P) (w := w) (base := base) T
  obtain ⟨f_declaration_reason, fd_declaration_reason, G_declaration_reason, m_declaration_reason, k_declaration_reason, b_declaration_reason⟩ := ok_declaration_reason (P := P) (w := w) (base := base) T
  obtain ⟨f_shape_reason, fd_shape_reason, G_shape_reason, m_shape_reason, k_shape_reason, b_shape_reason⟩ := ok_shape_reason (P := P) (w := w) (base := base) T
  obtain ⟨f_meaning_reason, fd_meaning_reason, G_meaning_reason, m_meaning_reason, k_meaning_reason, b_meaning_reason⟩ := ok_meaning_reason (P := P) (w := w) (base := base) T
  refine ⟨f, fd, F.ok sc_first_reason (fun vs H Q E h => ?_) (fun cdv A outer s H vs Q E hr h => ?_), m, F.kp, b⟩
  · obtain ⟨v, x, g, rfl, hv, hx, ho, q⟩ := h
    rfl
  obtain ⟨v, x, g, rfl, hv, hx, ho, q⟩ := h
  refine ⟨_, (pss_one (ps_ret (pe_orT (pe_call G_letters_reason (hr.mono (by decide)) (by rfl) m_letters_reason k_letters_reason b_letters_reason .nil pass0 (pa_cons (pv 0) (pa_cons (pv 1) pa_nil))) (pe_orT (pe_call G_count_reason (hr.mono (by decide)) (by rfl) m_count_reason k_count_reason b_count_reason .nil pass0 (pa_cons (pv 2) (pa_cons (pv 3) pa_nil))) (pe_orT (pe_call G_declaration_reason (hr.mono (by decide)) (by rfl) m_declaration_reason k_declaration_reason b_declaration_reason .nil pass0 (pa_cons (pv 2) (pa_cons (pv 3) pa_nil))) (pe_orT (pe_call G_shape_reason (hr.mono (by decide)) (by rfl) m_shape_reason k_shape_reason b_shape_reason .nil pass0 (pa_cons (pv 3) pa_nil)) (pe_one (pe_call G_meaning_reason (hr.mono (by decide)) (by rfl) m_meaning_reason k_meaning_reason b_meaning_reason .nil pass0 (pa_cons (pv 0) (pa_cons (pv 2) (pa_cons (pv 3) pa_nil))))))))))), ?_⟩
  refine ⟨_, rfl, _, rfl, _, _, rfl, ho.l1, ho.l3, ho.a2, ho.a4, false, ⟨Nat.zero_le _, rfl⟩, iteF ?_⟩
  refine ⟨_, rfl, _, rfl, v, x, g, rfl, hv, hx, ho, fun H1 s1 => ⟨false, ⟨Nat.zero_le _, rfl⟩, iteF ?_⟩⟩
  refine ⟨_, rfl, _, rfl, v, x, g, rfl, hv.same s1, hx.same s1, ho, fun H2 s2 => ⟨false, ⟨Nat.zero_le _, rfl⟩, iteF ?_⟩⟩
  have s12 := s1.trans s2
  refine ⟨_, rfl, x, g, rfl, hx.same s12, ho, fun H3 s3 => ⟨false, ⟨Nat.zero_le _, rfl⟩, iteF ?_⟩⟩
  have s13 := s12.trans s3
  exact ⟨_, rfl, _, rfl, _, rfl, _, v, x, g, rfl, hv.same s13, hx.same s13, ho, fun H4 s4 => q _ (s13.trans s4)⟩


end
end Pf

namespace Pf
open PySem PySem.Spec PyProof.Rows L2
section
variable {P : Program} {w : World} {K : PySem.W.Frag} {mg : Str → Option Value} {base : Heap}
variable {c : Nat → Addr}
def sp_statement_ways (K : PySem.W.Frag) : Sp := fun us H Q _ => ∃ (q : Addr) (pt fo : Int), us = [.ref q, .int pt, .int fo] ∧ SqT K H q [.str "skip"] ∧
  ∀ (l t u : Addr) (H' : Hp), Same H H' → H l = none → H' l = some (.lst [.ref t]) → SqT K H' t [.ref q, .ref u] → SqT K H' u [.int fo] → Q (.ref l) H'
theorem ok_statement_ways (T : Txt P K mg c) : Has P w K mg base 1 "statement_ways" ["statement", "point", "follows"] (sp_statement_ways K) := by
  obtain ⟨f, fd, F, m, b⟩ := T.d_statement_ways.ex
  refine ⟨f, fd, F.ok sc_statement_ways (fun vs H Q E h => ?_) (fun cdv A outer s H vs Q E hr h => ?_), m, F.kp, b⟩
  · obtain ⟨s, pt, fo, rfl, hs, q⟩ := h
    rfl
  obtain ⟨s, pt, fo, rfl, hs, q⟩ := h
  refine ⟨_, (pss_cons (ps_set (i := 3) sc_statement_ways.nd rfl (.inl rfl) (pe_ix ix_tup (pv 0) pe_int (fun _ _ => rfl)))
      (pss_cons (ps_if (pt_cmpR op_notIn_seq (pv 3) (pe_tup (pa_cons pe_str (pa_cons pe_str pa_nil))) (by rfl))
      (pss_one (ps_ret (pe_lst (pa_cons (pe_tup (pa_cons (pv 0) (pa_cons (pe_tup (pa_cons (pv 2) pa_nil)) pa_nil))) pa_nil))))
      pss_nil)
      (pss_cons ps_dead
      (pss_cons ps_dead
      (pss_cons ps_dead
      (pss_cons ps_dead
      (pss_cons ps_dead
      (pss_one ps_dead)))))))), ?_⟩
  refine ⟨_, rfl, s, _, _, _, rfl, rfl, hs, o0, ?_⟩
  refine ⟨_, rfl, by show 2 ≤ sizeLine; decide, fun t nt => ⟨t, _, rfl, .inr (SqT.of upd_same), rfl, by decide +kernel, _, rfl, ?_⟩⟩
  refine ite2 (fun _ => ?_) (fun e => absurd (by decide +kernel) e)
  have s0 := same_new (o := .tup [.str "if", .str "while"]) nt
  refine ⟨_, rfl, _, rfl, by show 1 ≤ sizeLine; decide, fun u nu => ⟨by show 2 ≤ sizeLine; decide, fun t2 n2 => ⟨by show 1 ≤ sizeLine; decide, fun l nl => ?_⟩⟩⟩
  have s1 := s0.trans (same_new (o := .tup [.int fo]) nu)
  have s2 := s1.trans (same_new (o := .tup [.ref s, .ref u]) n2)
  have s3 := s2.trans (same_new (o := .lst [.ref t2]) nl)
  exact q l t2 u _ s3 (same_back s2 nl) upd_same (SqT.of (same_new nl _ _ upd_same)) (SqT.of (same_new nl _ _ (same_new n2 _ _ upd_same)))
/-- a body as a tuple -/
def BdT (K : PySem.W.Frag) (H : Hp) (v : V) (sk : Bool) : Prop := ∃ a xs, v = .ref a ∧ SqT K H a xs ∧ ((sk = false ∧ xs = []) ∨ sk = true ∧ ∃ q, xs = [.ref q] ∧ SqT K H q [.str "skip"])
theorem BdT.bd {K : PySem.W.Frag} {H : Hp} {v : V} {sk : Bool} (h : BdT K H v sk) : BdAt K H v sk := let ⟨a, xs, h1, h2, h3⟩ := h; ⟨a, xs, h1, .inr h2, h3⟩
theorem BdT.same {K : PySem.W.Frag} {H H' : Hp} {x : V} {v : Bool} (e : Same H H') (h : BdT K H x v) : BdT K H' x v := by
  obtain ⟨a, xs, h1, h2, h3⟩ := h
  refine ⟨a, xs, h1, seqT_same e h2, h3.imp id fun ⟨h4, q, h5, h6⟩ => ⟨h4, q, h5, seqT_same e h6⟩⟩
/-- ways of a body -/
def WyAt (K : PySem.W.Frag) (H : Hp) (x : V) : Prop := ∃ t q u fo, x = .ref t ∧ SqT K H t [.ref q, .ref u] ∧ SqT K H q [.str "skip"] ∧ SqT K H u [.int fo]
theorem WyAt.same {K : PySem.W.Frag} {H H' : Hp} {x : V} (e : Same H H') (h : WyAt K H x) : WyAt K H' x := let ⟨t, q, u, fo, h1, h2, h3, h4⟩ := h; ⟨t, q, u, fo, h1, seqT_same e h2, seqT_same e h3, seqT_same e h4⟩
theorem WyAt.mut {K : PySem.W.Frag} {H : Hp} {x : V} {D : Addr} {zs : List V} {o : HO} (e : H D = some (.lst zs)) (h : WyAt K H x) : WyAt K (upd H D o) x := let ⟨t, q, u, fo, h1, h2, h3, h4⟩ := h; ⟨t, q, u, fo, h1, seqT_mut e h2, seqT_mut e h3, seqT_mut e h4⟩
def sp_body_ways (K : PySem.W.Frag) : Sp := fun us H Q _ => ∃ (v : V) (sk : Bool) (fi be : Int), us = [v, .int fi, .int be] ∧ BdT K H v sk ∧
  ∀ (l : Addr) (ws : List V) (H' : Hp), Same H H' → H l = none → H' l = some (.lst ws) → ws.length ≤ 1 → (∀ x ∈ ws, WyAt K H' x) → Q (.ref l) H'
theorem ok_body_ways (T : Txt P K mg c) : Has P w K mg base 4 "body_ways" ["body", "first", "behind"] (sp_body_ways K) := by
  obtain ⟨f, fd, F, m, b⟩ := T.d_body_ways.ex
  obtain ⟨f_statement_ways, fd_statement_ways, G_statement_ways, m_statement_ways, k_statement_ways, b_statement_ways⟩ := ok_statement_ways (P := P) (w := w) (base := base) T
  refine ⟨f, fd, F.ok sc_body_ways (fun vs H Q E h => ?_) (fun cdv A outer s H vs Q E hr h => ?_), m, F.kp, b⟩
  · obtain ⟨v, sk, fi, be, rfl, hv, q⟩ := h
    rfl
  obtain ⟨v, sk, fi, be, rfl, hv, q⟩ := h
  refine ⟨_, (pss_cons (ps_set (i := 3) sc_body_ways.nd rfl (.inl rfl) (pe_lst pa_nil))
      (pss_cons (ps_for PassesOwn.never rfl (pi_enT (by rfl) T.z_enumerate (pa_cons (pv 0) pa_nil)) (pg_tup rfl (pgs_cons (pg_name (i := 4) sc_body_ways.nd rfl (.inl rfl)) (pgs_cons (pg_name (i := 5) sc_body_ways.nd rfl (.inl rfl)) pgs_nil)))
      (pss_cons (ps_set (i := 6) sc_body_ways.nd rfl (.inl rfl) (pe_op op_add (pv 1) (pe_callB call_len_seq (by rfl) T.z_len (by decide +kernel) (pa_cons (pv 3) pa_nil))))
        (pss_cons (ps_set (i := 7) sc_body_ways.nd rfl (.inl rfl) (pe_cmpR op_eq (pe_op op_add (pv 4) pe_int) (pe_callB call_len_seq (by rfl) T.z_len (by decide +kernel) (pa_cons (pv 0) pa_nil)) (nomark _)))
        (pss_cons (ps_set (i := 8) sc_body_ways.nd rfl (.inl rfl) (pe_ifExp (pt_val (pv 7)) (pv 2) pe_dead))
        (pss_one (ps_expr (pe_bm PySem.F.plainAttrs_list PySem.F.slot_list_extend PySem.F.type_list_extend mt_extend (pv 3) (pa_cons (pe_call G_statement_ways (hr.mono (by decide)) (by rfl) m_statement_ways k_statement_ways b_statement_ways .nil pass0 (pa_cons (pv 5) (pa_cons (pv 6) (pa_cons (pv 8) pa_nil)))) pa_nil))))))))
      (pss_one (ps_ret (pv 3))))), ?_⟩
  obtain ⟨a, xs, rfl, hq, hb⟩ := hv
  refine ⟨by show 0 ≤ sizeLine; decide, fun F nF => ?_⟩
  have s0 := same_new (o := .lst []) nF
  have hF0 : (upd H F (.lst [])) F = some (.lst []) := upd_same
  generalize upd H F (.lst []) = H0 at s0 hF0 ⊢
  refine ⟨_, rfl, a, xs, rfl, seqT_same s0 hq, for_it walk_enT (fun i σ H' => ∃ y4 y5 y6 y7 y8, σ = [some (.ref a), some (.int fi), some (.int be), some (.ref F), y4, y5, y6, y7, y8] ∧ Same H H' ∧ ∃ acc, H' F = some (.lst acc) ∧ acc.length ≤ i ∧ ∀ x ∈ acc, WyAt K H' x)
    ⟨_, _, _, _, _, rfl, s0, [], hF0, Nat.zero_le _, fun x h => nomatch h⟩ (fun i σ H' _ h' => ?_) ?_ ?_⟩
  · obtain ⟨_, _, _, _, _, _, s1, _⟩ := h'
    exact seqT_same s1 hq
  · rintro i x σ H1 H2 hi ⟨y4, y5, y6, y7, y8, rfl, s1, acc, hF, lc, hacc⟩ ⟨T, z, x, rfl, nT, rfl, hz, hx⟩
    cases hz
    rcases hb with ⟨_, rfl⟩ | ⟨_, u, rfl, hu⟩
    · exact absurd hi (Nat.not_lt_zero _)
    obtain rfl : i = 0 := Nat.lt_one_iff.mp hi
    cases hx
    obtain rfl : acc = [] := List.length_eq_zero_iff.mp (Nat.le_zero.mp lc)
    have s2 := s1.trans (same_new (o := .tup [.int ((0 : Nat) : Int), .ref u]) nT)
    have hF2 := same_new (o := .tup [.int ((0 : Nat) : Int), .ref u]) nT _ _ hF
    refine ⟨T, _, rfl, SqT.of upd_same, rfl, _, _, rfl, _, _, rfl, rfl, ?_⟩
    generalize upd H1 T (.tup [.int ((0 : Nat) : Int), .ref u]) = H2 at s2 hF2 ⊢
    refine ⟨_, rfl, _, rfl, F, _, rfl, .inl (SqL.of hF2), _, _, rfl, rfl, ?_⟩
    refine ⟨_, rfl, _, _, rfl, rfl, _, rfl, a, _, rfl, .inr (seqT_same s2 hq), rfl, ?_⟩
    refine ⟨_, rfl, _, rfl, yes rfl ⟨_, rfl, ?_⟩⟩
    refine ⟨_, rfl, .inl ⟨rfl, _, SqL.of hF2⟩, _, rfl, _, rfl, _, rfl, u, _, _, rfl, seqT_same s2 hu, fun l t w H3 s3 nl hl ht hw => ?_⟩
    have s23 := s2.trans s3
    refine ⟨F, l, [], [.ref t], rfl, rfl, s3 _ _ hF2, hl, line_small (show 0 + 1 ≤ 100000 by decide), ?_⟩
    refine ⟨_, _, _, _, _, rfl, same_mut s23 nF, [.ref t], upd_same, Nat.le_refl _, fun x hx => ?_⟩
    rcases List.mem_singleton.mp hx with rfl
    exact WyAt.mut (s3 _ _ hF2) ⟨t, u, w, _, rfl, ht, seqT_same s23 hu, hw⟩
  · rintro σ H1 ⟨y4, y5, y6, y7, y8, rfl, s1, acc, hF, lc, hacc⟩
    have lx : xs.length ≤ 1 := by rcases hb with ⟨_, rfl⟩ | ⟨_, u, rfl, _⟩ <;> simp
    exact ⟨_, rfl, q F acc _ s1 nF hF (by omega) hacc⟩
def sp_aims_of (K : PySem.W.Frag) : Sp := fun us H Q _ => ∃ (q : Addr) (x y z : V), us = [.ref q, x, y, z] ∧ SqT K H q [.str "skip"] ∧ ∀ l H', Same H H' → H l = none → H' l = some (.lst []) → Q (.ref l) H'
theorem ok_aims_of (T : Txt P K mg c) : Has P w K mg base 1 "aims_of" ["statement", "sight", "answers", "procedures"] (sp_aims_of K) := by
  obtain ⟨f, fd, F, m, b⟩ := T.d_aims_of.ex
  refine ⟨f, fd, F.ok sc_aims_of (fun vs H Q E h => ?_) (fun cdv A outer s H vs Q E hr h => ?_), m, F.kp, b⟩
  · obtain ⟨s, x, y, z, rfl, hs, q⟩ := h
    rfl
  obtain ⟨s, x, y, z, rfl, hs, q⟩ := h
  refine ⟨_, (pss_cons (ps_set (i := 4) sc_aims_of.nd rfl (.inl rfl) (pe_ix ix_tup (pv 0) pe_int (fun _ _ => rfl)))
      (pss_cons (ps_if (pt_cmpR op_eq (pv 4) pe_str (nomark _))
      (pss_one ps_dead)
      pss_nil)
      (pss_cons (ps_if (pt_cmpR op_eq (pv 4) pe_str (nomark _))
      (pss_one ps_dead)
      pss_nil)
      (pss_cons (ps_if (pt_cmpR op_in_seq (pv 4) (pe_tup (pa_cons pe_str (pa_cons pe_str pa_nil))) (by rfl))
      (pss_one ps_dead)
      pss_nil)
      (pss_cons (ps_if (pt_cmpR op_eq (pv 4) pe_str (nomark _))
      (pss_one ps_dead)
      pss_nil)
      (pss_one (ps_ret (pe_lst pa_nil)))))))), ?_⟩
  refine ⟨_, rfl, s, _, _, _, rfl, rfl, hs, o0, ?_⟩
  refine ⟨_, rfl, rfl, _, rfl, nope (by decide +kernel) ?_⟩
  refine ⟨_, rfl, rfl, _, rfl, nope (by decide +kernel) ?_⟩
  refine ⟨_, rfl, by show 2 ≤ sizeLine; decide, fun t nt => ⟨t, _, rfl, .inr (SqT.of upd_same), rfl, by decide +kernel, _, rfl, ?_⟩⟩
  refine ite2 (fun e => absurd e (by decide +kernel)) fun _ => ?_
  have s0 := same_new (o := .tup [.str "if", .str "while"]) nt
  refine ⟨_, rfl, rfl, _, rfl, nope (by decide +kernel) ?_⟩
  exact ⟨by show 0 ≤ sizeLine; decide, fun l nl => q l _ (s0.trans (same_new nl)) (same_back s0 nl) upd_same⟩
def sp_point_row (K : PySem.W.Frag) : Sp := fun us H Q _ => ∃ (q u : Addr) (x y z : V) (fo : Int), us = [.ref q, x, y, z, .ref u] ∧ SqT K H q [.str "skip"] ∧ SqT K H u [.int fo] ∧ ∀ v H', Same H H' → Q v H'
theorem ok_point_row (T : Txt P K mg c) : Has P w K mg base 1 "point_row" ["statement", "sight", "names", "places", "ways"] (sp_point_row K) := by
  obtain ⟨f, fd, F, m, b⟩ := T.d_point_row.ex
  refine ⟨f, fd, F.ok sc_point_row (fun vs H Q E h => ?_) (fun cdv A outer s H vs Q E hr h => ?_), m, F.kp, b⟩
  · obtain ⟨s, u, x, y, z, fo, rfl, hs, hu, q⟩ := h
    rfl
  obtain ⟨s, u, x, y, z, fo, rfl, hs, hu, q⟩ := h
  refine ⟨_, (pss_cons (ps_set (i := 5) sc_point_row.nd rfl (.inl rfl) (pe_ix ix_tup (pv 0) pe_int (fun _ _ => rfl)))
      (pss_cons (ps_if (pt_cmpR op_eq (pv 5) pe_str (nomark _))
      (pss_one ps_dead)
      pss_nil)
      (pss_cons (ps_if (pt_cmpR op_eq (pv 5) pe_str (nomark _))
      (pss_one ps_dead)
      pss_nil)
      (pss_cons (ps_if (pt_cmpR op_eq (pv 5) pe_str (nomark _))
      (pss_one ps_dead)
      pss_nil)
      (pss_cons (ps_if (pt_cmpR op_eq (pv 5) pe_str (nomark _))
      (pss_one ps_dead)
      pss_nil)
      (pss_cons (ps_if (pt_cmpR op_eq (pv 5) pe_str (nomark _))
      (pss_one (ps_ret (pe_tup (pa_cons pe_str (pa_cons (pe_ix ix_tup (pv 4) pe_int (fun _ _ => rfl)) pa_nil)))))
      pss_nil)
      (pss_one ps_dead))))))), ?_⟩
  refine ⟨_, rfl, s, _, _, _, rfl, rfl, hs, o0, ?_⟩
  refine ⟨_, rfl, rfl, _, rfl, nope (by decide +kernel) ?_⟩
  refine ⟨_, rfl, rfl, _, rfl, nope (by decide +kernel) ?_⟩
  refine ⟨_, rfl, rfl, _, rfl, nope (by decide +kernel) ?_⟩
  refine ⟨_, rfl, rfl, _, rfl, nope (by decide +kernel) ?_⟩
  refine ⟨_, rfl, rfl, _, rfl, yes (by decide +kernel) ?_⟩
  exact ⟨_, rfl, u, _, _, _, rfl, rfl, hu, o0, by show 2 ≤ sizeLine; decide, fun t nt => q _ _ (same_new nt)⟩
def PrT (K : PySem.W.Frag) (H : Hp) (x : V) (p : Pr) : Prop := ∃ q s1 s2 s3, x = .ref q ∧ SqT K H q [.str p.nm, s1, s2, s3] ∧ VrsAt K H s1 p.ps ∧ VrsAt K H s2 p.ls ∧ BdT K H s3 p.sk
def PrsT (K : PySem.W.Frag) (H : Hp) (v : V) (ps : List Pr) : Prop := ∃ a xs, v = .ref a ∧ SqT K H a xs ∧ All2 (PrT K H) xs ps
theorem PrT.at {K : PySem.W.Frag} {H : Hp} {x : V} {p : Pr} (h : PrT K H x p) : PrAt K H x p := let ⟨q, s1, s2, s3, h1, h2, h3, h4, h5⟩ := h; ⟨q, s1, s2, s3, h1, h2, h3, h4, h5.bd⟩
theorem PrT.same {K : PySem.W.Frag} {H H' : Hp} {x : V} {v : Pr} (e : Same H H') (h : PrT K H x v) : PrT K H' x v := let ⟨q, s1, s2, s3, h1, h2, h3, h4, h5⟩ := h; ⟨q, s1, s2, s3, h1, seqT_same e h2, h3.same e, h4.same e, h5.same e⟩
theorem PrsT.same {K : PySem.W.Frag} {H H' : Hp} {x : V} {v : List Pr} (e : Same H H') (h : PrsT K H x v) : PrsT K H' x v := let ⟨a, xs, h1, h2, h3⟩ := h; ⟨a, xs, h1, seqT_same e h2, h3.imp fun _ _ => PrT.same e⟩
def sp_lay_out (K : PySem.W.Frag) : Sp := fun us H Q _ => ∃ (an : Int) (v x : V) (g : Pg), us = [.int an, v, x] ∧ VrsAt K H v g.vs ∧ PrsT K H x g.ps ∧ g.Ok ∧ ∀ (t : Addr) (u1 u2 : V) (H' : Hp), Same H H' → SqT K H' t [u1, u2] → Q (.ref t) H'
theorem ok_lay_out (T : Txt P K mg c) : Has P w K mg base 5 "lay_out" ["answers", "variables", "procedures"] (sp_lay_out K) := by
  obtain ⟨f, fd, F, m, b⟩ := T.d_lay_out.ex
  obtain ⟨f_in_sight, fd_in_sight, G_in_sight, m_in_sight, k_in_sight, b_in_sight⟩ := ok_in_sight (P := P) (w := w) (base := base) T
  obtain ⟨f_body_ways, fd_body_ways, G_body_ways, m_body_ways, k_body_ways, b_body_ways⟩ := ok_body_ways (P := P) (w := w) (base := base) T
  obtain ⟨f_body_length, fd_body_length, G_body_length, m_body_length, k_body_length, b_body_length⟩ := ok_body_length (P := P) (w := w) (base := base) T
  obtain ⟨f_aims_of, fd_aims_of, G_aims_of, m_aims_of, k_aims_of, b_aims_of⟩ := ok_aims_of (P := P) (w := w) (base := base) T
  obtain ⟨f_expressions_of, fd_expressions_of, G_expressions_of, m_expressions_of, k_expressions_of, b_expressions_of⟩ := ok_expressions_of (P := P) (w := w) (base := base) T
  obtain ⟨f_point_row, fd_point_row, G_point_row, m_point_row, k_point_row, b_point_row⟩ := ok_point_row (P := P) (w := w) (base := base) T
  refine ⟨f, fd, F.ok sc_lay_out (fun vs H Q E h => ?_) (fun cdv A outer s H vs Q E hr h => ?_), m, F.kp, b⟩
  · obtain ⟨an, v, x, g, rfl, hv, hx, ho, q⟩ := h
    rfl
  obtain ⟨an, v, x, g, rfl, hv, hx, ho, q⟩ := h
  refine ⟨_, (pss_cons (ps_setLc (i := 4) (own := [("procedure", 3)]) (g := gName 3) (by rfl) sc_lay_out.nd rfl rfl (sw_true rfl rfl rfl (by decide +kernel)) (pi_tup (pv 2)) (blkOk_by (own := [("procedure", 3)]) (N := ["answers", "variables", "procedures", "procedure", "names", "places", "points", "number", "sight", "rows", "statement", "ways", "first", "aims", "expression", "role", "size"]) (sc := defScope s_lay_out) (by decide +kernel)) (fun _ _ _ _ _ => (pg_name (i := 3) sc_lay_out.nd rfl (.inl rfl))) (fun _ _ _ _ _ => pts_nil) (fun _ _ _ _ _ => (pe_ix (ix_tupK (K := K) rfl) (pv 3) pe_int (fun _ _ => rfl))))
      (pss_cons (ps_set (i := 5) sc_lay_out.nd rfl (.inl rfl) (pe_lst pa_nil))
      (pss_cons (ps_set (i := 6) sc_lay_out.nd rfl (.inl rfl) (pe_lst pa_nil))
      (pss_cons (ps_for PassesOwn.never rfl (pi_enT (by rfl) T.z_enumerate (pa_cons (pv 2) pa_nil)) (pg_tup rfl (pgs_cons (pg_name (i := 7) sc_lay_out.nd rfl (.inr rfl)) (pgs_cons (pg_name (i := 3) sc_lay_out.nd rfl (.inl rfl)) pgs_nil)))
      (pss_cons (ps_set (i := 8) sc_lay_out.nd rfl (.inl rfl) (pe_call G_in_sight (hr.mono (by decide)) (by rfl) m_in_sight k_in_sight b_in_sight .nil pass0 (pa_cons (pv 1) (pa_cons (pv 3) pa_nil))))
        (pss_cons (ps_set (i := 9) sc_lay_out.nd rfl (.inl rfl) (pe_lst pa_nil))
        (pss_cons (ps_for PassesOwn.never rfl (pi_list (pe_call G_body_ways (hr.mono (by decide)) (by rfl) m_body_ways k_body_ways b_body_ways .nil pass0 (pa_cons (pe_ix ix_tup (pv 3) pe_int (fun _ _ => rfl)) (pa_cons pe_int (pa_cons (pe_call G_body_length (hr.mono (by decide)) (by rfl) m_body_length k_body_length b_body_length .nil pass0 (pa_cons (pe_ix ix_tup (pv 3) pe_int (fun _ _ => rfl)) pa_nil)) pa_nil))))) (pg_tup rfl (pgs_cons (pg_name (i := 10) sc_lay_out.nd rfl (.inl rfl)) (pgs_cons (pg_name (i := 11) sc_lay_out.nd rfl (.inl rfl)) pgs_nil)))
        (pss_cons (ps_set (i := 12) sc_lay_out.nd rfl (.inl rfl) (pe_callB call_len_seq (by rfl) T.z_len (by decide +kernel) (pa_cons (pv 5) pa_nil)))
          (pss_cons (ps_set (i := 13) sc_lay_out.nd rfl (.inl rfl) (pe_call G_aims_of (hr.mono (by decide)) (by rfl) m_aims_of k_aims_of b_aims_of .nil pass0 (pa_cons (pv 10) (pa_cons (pv 8) (pa_cons (pv 0) (pa_cons (pv 2) pa_nil))))))
          (pss_cons (ps_expr (pe_bm PySem.F.plainAttrs_list PySem.F.slot_list_extend PySem.F.type_list_extend mt_extend (pv 5) (pa_cons (pe_lc (own := [("expression", 14), ("role", 15), ("size", 16)]) (by rfl) sc_lay_out.nd (pi_ziM (by rfl) T.z_zip (pa_cons (pv 13) (pa_cons (pe_call G_expressions_of (hr.mono (by decide)) (by rfl) m_expressions_of k_expressions_of b_expressions_of .nil pass0 (pa_cons (pv 10) pa_nil)) pa_nil))) (blkOk_by (own := [("expression", 14), ("role", 15), ("size", 16)]) (N := ["answers", "variables", "procedures", "procedure", "names", "places", "points", "number", "sight", "rows", "statement", "ways", "first", "aims", "expression", "role", "size"]) (sc := defScope s_lay_out) (by decide +kernel)) (fun _ _ _ _ _ => (pg_tupK (K := K) (n := 2) rfl rfl (pgs_cons (pg_tupK (K := K) (n := 2) rfl rfl (pgs_cons (pg_name (i := 15) sc_lay_out.nd rfl (.inl rfl)) (pgs_cons (pg_name (i := 16) sc_lay_out.nd rfl (.inl rfl)) pgs_nil))) (pgs_cons (pg_name (i := 14) sc_lay_out.nd rfl (.inl rfl)) pgs_nil)))) (fun _ _ _ _ _ => pts_nil) (fun _ _ _ _ _ => (pe_tup (pa_cons (pv 7) (pa_cons (pv 15) (pa_cons (pv 16) (pa_cons (pv 14) pa_nil))))))) pa_nil)))
          (pss_one (ps_expr (pe_bm PySem.F.plainAttrs_list PySem.F.slot_list_append PySem.F.type_list_append mt_append (pv 9) (pa_cons (pe_call G_point_row (hr.mono (by decide)) (by rfl) m_point_row k_point_row b_point_row .nil pass0 (pa_cons (pv 10) (pa_cons (pv 8) (pa_cons (pv 4) (pa_cons (pe_tupRg rfl (by rfl) T.z_tuple (prg_2 (by rfl) T.z_range (pv 12) (pe_callB call_len_seq (by rfl) T.z_len (by decide +kernel) (pa_cons (pv 5) pa_nil)))) (pa_cons (pv 11) pa_nil)))))) pa_nil))))))))
        (pss_one (ps_expr (pe_bm PySem.F.plainAttrs_list PySem.F.slot_list_append PySem.F.type_list_append mt_append (pv 6) (pa_cons (pe_callTy call_tuple_of (by rfl) T.z_tuple (by decide +kernel) (pa_cons (pe_op op_cat (pv 9) (pe_lst (pa_cons (pe_tup (pa_cons pe_str pa_nil)) pa_nil))) pa_nil)) pa_nil))))))))
      (pss_one (ps_ret (pe_tup (pa_cons (pe_callTy call_tuple_of (by rfl) T.z_tuple (by decide +kernel) (pa_cons (pv 5) pa_nil)) (pa_cons (pe_callTy call_tuple_of (by rfl) T.z_tuple (by decide +kernel) (pa_cons (pv 6) pa_nil)) pa_nil))))))))), ?_⟩
  obtain ⟨a, xs, rfl, hq, ha⟩ := id hx
  have la := ha.1
  have o5 := ho.p5
  have o4 := ho.v4
  -- names
  refine ⟨_, rfl, a, rfl, ⟨_, hq⟩, fun D1 n1 => lc_it walk_tup (fun i H' => Same H H' ∧ ∃ zs, H' D1 = some (.lst zs) ∧ zs.length ≤ i) ⟨same_new n1, [], upd_same, Nat.zero_le _⟩ (fun i H' _ h' => seqT_same h'.1 hq) ?_ ?_⟩
  · rintro i x H1 H2 hi ⟨s1, zs, hD, lz⟩ ⟨rfl, hx⟩
    obtain ⟨p, ep, r, t1, t2, t3, rfl, hr, _⟩ := ha.at hx
    refine ⟨rfl, _, rfl, r, _, _, _, rfl, rfl, seqT_same s1 hr, p0, zs, hD, small1000 (by omega), same_mut s1 n1, zs ++ [.str p.nm], upd_same, ?_⟩
    rw [List.length_append]
    show zs.length + 1 ≤ _
    omega
  rintro H1 ⟨s1, zs, hD1, lz⟩
  refine ⟨by show 0 ≤ sizeLine; decide, fun P nP => ⟨by show 0 ≤ sizeLine; decide, fun R nR => ?_⟩⟩
  have e0 := same_new (o := .lst []) nP
  have e1 := same_new (o := .lst []) nR
  have hP0 := e1 _ _ (upd_same (H := H1) (a := P) (o := .lst []))
  have hR0 := upd_same (H := upd H1 P (.lst [])) (a := R) (o := .lst [])
  have s2 := s1.trans (e0.trans e1)
  have nPH := s1.free nP
  have nRH := (s1.trans e0).free nR
  have nPR : P ≠ R := ne_of_none (upd_same (H := H1) (a := P) (o := .lst [])) nR
  generalize upd (upd H1 P (.lst [])) R (.lst []) = H2 at s2 hP0 hR0 ⊢
  refine ⟨_, rfl, a, xs, rfl, seqT_same s2 hq, for_it walk_enT (fun i σ H' => ∃ y3 y7 y8 y9 y10 y11 y12 y13 y14 y15 y16, σ = [some (.int an), some v, some (.ref a), y3, some (.ref D1), some (.ref P), some (.ref R), y7, y8, y9, y10, y11, y12, y13, y14, y15, y16] ∧ Same H H' ∧ H' P = some (.lst []) ∧ ∃ acc, H' R = some (.lst acc) ∧ acc.length ≤ i)
    ⟨_, _, _, _, _, _, _, _, _, _, _, rfl, s2, hP0, [], hR0, Nat.zero_le _⟩ (fun i σ H' _ h' => ?_) ?_ ?_⟩
  · obtain ⟨_, _, _, _, _, _, _, _, _, _, _, _, s1, _⟩ := h'
    exact seqT_same s1 hq
  · rintro i x σ H3 H4 hi ⟨y3, y7, y8, y9, y10, y11, y12, y13, y14, y15, y16, rfl, s3, hP, acc, hR, lc⟩ ⟨T, z, x, rfl, nT, rfl, hz, hx⟩
    cases hz
    obtain ⟨p, ep, hp⟩ := ha.at hx
    have mp := List.mem_of_getElem? ep
    have hat := hp.at
    obtain ⟨r, t1, t2, t3, rfl, hr, _, _, hb⟩ := hp
    have e4 := same_new (o := .tup [.int (i : Nat), .ref r]) nT
    refine ⟨T, _, rfl, SqT.of upd_same, rfl, _, _, rfl, _, _, rfl, rfl, ?_⟩
    have s4 := s3.trans e4
    have hP4 := e4 _ _ hP
    have hR4 := e4 _ _ hR
    generalize upd H3 T (.tup [.int (i : Nat), .ref r]) = H4 at s4 hP4 hR4 ⊢
    -- sight
    refine ⟨_, rfl, _, rfl, v, _, g.vs, p, rfl, hv.same s4, hat.same s4, o4, ho.p3 p mp, ho.l33 p mp, fun l8 w8 H5 s5 n8 hl8 hw8 => ?_⟩
    have hP5 := s5 _ _ hP4
    have hR5 := s5 _ _ hR4
    have s45 := s4.trans s5
    -- rows
    refine ⟨by show 0 ≤ sizeLine; decide, fun W nW => ?_⟩
    have e6 := same_new (o := .lst []) nW
    have hW6 := upd_same (H := H5) (a := W) (o := .lst [])
    have nWP : W ≠ P := (ne_of_none hP5 nW).symm
    have nWR : W ≠ R := (ne_of_none hR5 nW).symm
    have hP6 := e6 _ _ hP5
    have hR6 := e6 _ _ hR5
    have s6 := s45.trans e6
    have nWH := s45.free nW
    generalize upd H5 W (.lst []) = H6 at s6 hW6 hP6 hR6 ⊢
    -- for statement, ways in ..
    refine ⟨_, rfl, r, _, _, _, rfl, rfl, seqT_same s6 hr, p3, _, rfl, r, _, _, _, rfl, rfl, seqT_same s6 hr, p3, t3, p.sk, rfl, hb.bd.same s6, fun H7 s7 => ?_⟩
    have s67 := s6.trans s7
    refine ⟨t3, p.sk, 0, _, rfl, hb.same s67, fun l ws H8 s8 nl hl lw hws => ⟨l, rfl, ⟨_, SqL.of hl⟩, ?_⟩⟩
    have s68 := s67.trans s8
    have hP8 := s8 _ _ (s7 _ _ hP6)
    have hR8 := s8 _ _ (s7 _ _ hR6)
    have hW8 := s8 _ _ (s7 _ _ hW6)
    have nlP : l ≠ P := (ne_of_none (s7 _ _ hP6) nl).symm
    have nlR : l ≠ R := (ne_of_none (s7 _ _ hR6) nl).symm
    have nlW : l ≠ W := (ne_of_none (s7 _ _ hW6) nl).symm
    show Exists _
    refine for_it (walk_list (xs := ws)) (fun j σ H' => ∃ y10 y11 y12 y13 y14 y15 y16, σ = [some (.int an), some v, some (.ref a), some (.ref r), some (.ref D1), some (.ref P), some (.ref R), some (.int (i : Nat)), some (.ref l8), some (.ref W), y10, y11, y12, y13, y14, y15, y16] ∧ Same H H' ∧ H' P = some (.lst []) ∧ H' R = some (.lst acc) ∧ H' l = some (.lst ws) ∧ (∀ x ∈ ws, WyAt K H' x) ∧ ∃ rs, H' W = some (.lst rs) ∧ rs.length ≤ j)
      ⟨_, _, _, _, _, _, _, rfl, s68, hP8, hR8, hl, hws, [], hW8, Nat.zero_le _⟩ (fun j σ H' _ h' => ?_) ?_ ?_
    · obtain ⟨_, _, _, _, _, _, _, _, _, _, _, h, _⟩ := h'
      exact SqL.of h
    · rintro j y σ H9 H10 hj ⟨z10, z11, z12, z13, z14, z15, z16, rfl, s9, hP9, hR9, hl9, hw9, rs, hW9, lr⟩ ⟨rfl, hy⟩
      obtain ⟨t, u, w, fo, rfl, ht, hu, hw⟩ := hw9 y (List.mem_of_getElem? hy)
      refine ⟨t, _, rfl, ht, rfl, _, _, rfl, _, _, rfl, rfl, ?_⟩
      refine ⟨_, rfl, P, _, rfl, .inl (SqL.of hP9), ?_⟩
      refine ⟨_, rfl, _, rfl, _, rfl, _, rfl, u, _, _, _, rfl, hu, fun la H11 s11 na hla => ?_⟩
      have hP11 := s11 _ _ hP9
      have nPa : P ≠ la := ne_of_none hP9 na
      -- places.extend
      refine ⟨_, rfl, .inl ⟨rfl, _, SqL.of hP11⟩, ?_⟩
      refine ⟨_, rfl, _, rfl, u, rfl, seqT_same s11 hu, fun te H12 s12 he => ?_⟩
      have s912 := s11.trans s12
      refine ⟨la, te, [], [], rfl, SqL.of (s12 _ _ hla), SqT.of he, fun D nD => ?_⟩
      have eD := same_new (o := .lst []) nD
      refine ⟨fun k m H' => k = 0 ∧ H' = upd H12 D (.lst []), ⟨0, rfl, rfl⟩, ?_⟩
      rintro k m H' ⟨rfl, rfl⟩
      refine .inl ⟨⟨rfl, [], [], SqL.of (eD _ _ (s12 _ _ hla)), SqT.of (eD _ _ he), rfl⟩, ?_⟩
      have s913 := s912.trans eD
      have hP13 := s913 _ _ hP9
      have hR13 := s913 _ _ hR9
      have hl13 := s913 _ _ hl9
      have hW13 := s913 _ _ hW9
      have hD13 := upd_same (H := H12) (a := D) (o := .lst [])
      have s13 := s9.trans s913
      have hws13 := fun x hx => (hw9 x hx).same s913
      have hu13 := seqT_same s913 hu
      have hw13 := seqT_same s913 hw
      generalize upd H12 D (.lst []) = H13 at s913 hP13 hR13 hl13 hW13 hD13 s13 hws13 hu13 hw13 ⊢
      refine ⟨P, D, [], [], rfl, rfl, hP13, hD13, Nat.zero_le _, ?_⟩
      have s14 : Same H (upd H13 P (.lst ([] ++ []))) := same_mut s13 nPH
      have hP14 : (upd H13 P (.lst ([] ++ []))) P = some (.lst []) := upd_same
      have hR14 := (upd_ne (H := H13) (a := P) (o := .lst ([] ++ [])) nPR.symm).trans hR13
      have hl14 := (upd_ne (H := H13) (a := P) (o := .lst ([] ++ [])) nlP).trans hl13
      have hW14 := (upd_ne (H := H13) (a := P) (o := .lst ([] ++ [])) nWP).trans hW13
      have hws14 := fun x hx => (hws13 x hx).mut (o := .lst ([] ++ [])) hP13
      have hu14 := seqT_mut (o := .lst ([] ++ [])) hP13 hu13
      have hw14 := seqT_mut (o := .lst ([] ++ [])) hP13 hw13
      generalize upd H13 P (.lst ([] ++ [])) = H14 at s14 hP14 hR14 hl14 hW14 hws14 hu14 hw14 ⊢
      refine ⟨_, rfl, .inl ⟨rfl, _, SqL.of hW14⟩, _, rfl, _, rfl, _, rfl, ?_⟩
      refine ⟨_, rfl, _, rfl, P, _, rfl, .inl (SqL.of hP14), _, _, rfl, rfl, ⟨by decide, by decide, by decide, by decide, by decide⟩, fun tr ntr => ⟨_, rfl, ?_⟩⟩
      have er := same_new (o := .tup (rgV 0 0)) ntr
      refine ⟨u, w, _, _, _, fo, rfl, seqT_same er hu14, seqT_same er hw14, fun v15 H15 s15 => ?_⟩
      have s1415 := er.trans s15
      have hW15 := s1415 _ _ hW14
      refine ⟨W, rs, _, rfl, rfl, hW15, small1000 (by omega), ?_⟩
      refine ⟨_, _, _, _, _, _, _, rfl, same_mut (s14.trans s1415) nWH, (upd_ne nWP.symm).trans (s1415 _ _ hP14), (upd_ne nWR.symm).trans (s1415 _ _ hR14), (upd_ne nlW).trans (s1415 _ _ hl14), fun x hx => ((hws14 x hx).same s1415).mut hW15, rs ++ [v15], upd_same, ?_⟩
      rw [List.length_append]
      show rs.length + 1 ≤ _
      omega
    · rintro σ H9 ⟨z10, z11, z12, z13, z14, z15, z16, rfl, s9, hP9, hR9, hl9, hw9, rs, hW9, lr⟩
      refine ⟨_, rfl, .inl ⟨rfl, _, SqL.of hR9⟩, _, rfl, by show 1 ≤ sizeLine; decide, fun tn m1 => ⟨by show 1 ≤ sizeLine; decide, fun l0 m2 => ?_⟩⟩
      have f1 := same_new (o := .tup [.str "end"]) m1
      have f2 := f1.trans (same_new (o := .lst [.ref tn]) m2)
      refine ⟨W, l0, rs, _, rfl, rfl, f2 _ _ hW9, upd_same, line_small (by show rs.length + 1 ≤ _; omega), fun l2 m3 => ?_⟩
      have f3 := f2.trans (same_new (o := .lst (rs ++ [.ref tn])) m3)
      refine ⟨l2, _, rfl, .inl ⟨SqL.of upd_same, fun t2 m4 => ?_⟩⟩
      have f4 := f3.trans (same_new (o := .tup (rs ++ [.ref tn])) m4)
      refine ⟨R, acc, _, rfl, rfl, f4 _ _ hR9, small1000 (by omega), ?_⟩
      refine ⟨_, _, _, _, _, _, _, _, _, _, _, rfl, same_mut (s9.trans f4) nRH, (upd_ne nPR).trans (f4 _ _ hP9), acc ++ [.ref t2], upd_same, ?_⟩
      rw [List.length_append]
      show acc.length + 1 ≤ _
      omega
  · rintro σ H3 ⟨y3, y7, y8, y9, y10, y11, y12, y13, y14, y15, y16, rfl, s3, hP, acc, hR, lc⟩
    refine ⟨_, rfl, P, _, rfl, .inl ⟨SqL.of hP, fun u1 m1 => ?_⟩⟩
    refine ⟨_, rfl, R, _, rfl, .inl ⟨SqL.of (same_new m1 _ _ hR), fun u2 m2 => ?_⟩⟩
    refine ⟨by show 2 ≤ sizeLine; decide, fun t nt => ?_⟩
    exact q t _ _ _ (((s3.trans (same_new m1)).trans (same_new m2)).trans (same_new nt)) (SqT.of upd_same)


end
end Pf

namespace Pf
open PySem PySem.Spec PyProof.Rows L2
section
variable {P : Program} {w : World} {K : PySem.W.Frag} {mg : Str → Option Value} {base : Heap}
variable {c : Nat → Addr}
def sgStep (S : List (List Int)) (n : Int) : List (List Int) := S.flatMap fun s => (List.range n.toNat).map fun (k : Nat) => s ++ [(k : Int)]
def sgs (ns : List Int) : List (List Int) := ns.foldl sgStep [[]]
def sgD (s : List Int) : PyData := .tuple (s.map .int)
def sgsD (ns : List Int) : PyData := .tuple ((sgs ns).map sgD)
theorem sgs_app (ns : List Int) (n : Int) : sgs (ns ++ [n]) = sgStep (sgs ns) n := by unfold sgs; rw [List.foldl_append]; rfl
theorem sgStep_app (S : List (List Int)) (s : List Int) (n : Int) : sgStep (S ++ [s]) n = sgStep S n ++ (List.range n.toNat).map fun (k : Nat) => s ++ [(k : Int)] := by
  unfold sgStep
  rw [List.flatMap_append]
  simp
theorem sgStep_len (n : Int) : ∀ S : List (List Int), (sgStep S n).length = S.length * n.toNat
  | [] => by simp [sgStep]
  | s :: S => by
    have ih := sgStep_len n S
    unfold sgStep at ih ⊢
    rw [List.flatMap_cons, List.length_append, ih, List.length_map, List.length_range, List.length_cons, Nat.add_mul, Nat.one_mul, Nat.add_comm]
theorem sgStep_each {S : List (List Int)} {n : Int} {m : Nat} (h : ∀ s ∈ S, s.length = m) : ∀ s ∈ sgStep S n, s.length = m + 1 := fun s hs => by
  obtain ⟨u, hu, hs⟩ := List.mem_flatMap.mp hs
  obtain ⟨k, _, rfl⟩ := List.mem_map.mp hs
  rw [List.length_append, h u hu]
  rfl
theorem catA_ok {K : PySem.W.Frag} {H : Hp} {a b : Addr} {xs ys : List V} {Q : VK} (h1 : SqT K H a xs) (h2 : SqT K H b ys) (l : xs.length + ys.length ≤ sizeLine) (q : ∀ r H', Same H H' → SqT K H' r (xs ++ ys) → Q (.ref r) H') : rCatA K (.ref a) (.ref b) H Q :=
  ⟨a, b, xs, ys, rfl, rfl, h1, h2, l, fun e => by subst e; exact q b H (Same.refl H) h2, fun _ e => by subst e; rw [List.append_nil] at q; exact q a H (Same.refl H) h1, fun _ _ r nr => q r _ (same_new nr) (SqT.of upd_same)⟩
theorem dpa_intV {K : PySem.W.Frag} {H : Hp} : ∀ {ns : List Int} {ws : List V}, DpAll K H ws (ns.map PyData.int) → ws = ns.map V.int
  | [], _, .nil => rfl
  | n :: ns, _, .cons h k => by
    have h' : Dp K H _ (.int n) := h
    cases h'
    rw [dpa_intV k]
    rfl
theorem ok_sg (n : Nat) (s : List Int) (h : s.length ≤ 100000) : tupOk (n + 1) (sgD s) := by
  refine ⟨by rw [List.length_map]; exact h, fun d hd => ?_⟩
  obtain ⟨i, _, rfl⟩ := List.mem_map.mp hd
  cases n <;> simp [tupOk]
theorem four_pow {i : Nat} (h : i ≤ 10) : 4 ^ i ≤ 1048576 := Nat.le_trans (Nat.pow_le_pow_right (by decide) h) (by decide)
theorem dpa_getx' {K : PySem.W.Frag} {H : Hp} {x : V} : ∀ {xs : List V} {ds : List PyData} {i : Nat}, DpAll K H xs ds → xs[i]? = some x → ∃ d, ds[i]? = some d ∧ Dp K H x d
  | _, _, _, .nil, h => by simp at h
  | _, _, 0, .cons h _, e => by
    have e' := Option.some.inj e
    subst e'
    exact ⟨_, rfl, h⟩
  | _, _, i + 1, .cons _ k, e => dpa_getx' (i := i) k e
theorem dp_tup' {K : PySem.W.Frag} {H : Hp} {v : V} {ds : List PyData} (h : Dp K H v (.tuple ds)) : ∃ a xs, v = .ref a ∧ SqT K H a xs ∧ DpAll K H xs ds := by
  cases h with
  | tup h k => exact ⟨_, _, rfl, h, k⟩
def sp_sights_of (K : PySem.W.Frag) : Sp := fun us H Q _ => ∃ (a : Addr) (ns : List Int), us = [.ref a] ∧ SqT K H a (ns.map V.int) ∧ ns.length ≤ 10 ∧ (∀ n ∈ ns, 0 ≤ n ∧ n ≤ 4) ∧ ∀ v H', Same H H' → Dp K H' v (sgsD ns) → Q v H'
theorem ok_sights_of (T : Txt P K mg c) : Has P w K mg base 1 "sights_of" ["sizes"] (sp_sights_of K) := by
  obtain ⟨f, fd, F, m, b⟩ := T.d_sights_of.ex
  refine ⟨f, fd, F.ok sc_sights_of (fun vs H Q E h => ?_) (fun cdv A outer s H vs Q E hr h => ?_), m, F.kp, b⟩
  · obtain ⟨a, ns, rfl, hq, hl, hn, q⟩ := h
    rfl
  obtain ⟨a, ns, rfl, hq, hl, hn, q⟩ := h
  refine ⟨_, (pss_cons (ps_set (i := 1) sc_sights_of.nd rfl (.inl rfl) (pe_lst (pa_cons (pe_tup pa_nil) pa_nil)))
      (pss_cons (ps_for PassesOwn.never rfl (pi_tup (pv 0)) (pg_name (i := 2) sc_sights_of.nd rfl (.inr rfl))
      (pss_one (ps_setLc2 (i := 1) (own := [("sight", 3), ("value", 4)]) (vs1 := [4]) (g := gName 3) (g1 := gName 4) (by rfl) sc_sights_of.nd rfl rfl (sw_true rfl rfl rfl (by decide +kernel)) (pi_list (pv 1)) (blkOk_by (own := [("sight", 3), ("value", 4)]) (N := ["sizes", "sights", "size", "sight", "value"]) (sc := defScope s_sights_of) (by decide +kernel)) (by decide) (fun _ _ _ _ _ => (pg_name (i := 3) sc_sights_of.nd rfl (.inl rfl))) (fun _ _ _ _ _ => pts_nil) (fun _ _ _ _ _ => (pi_range1 (by rfl) T.z_range (pa_cons (pv 2) pa_nil))) (fun _ _ _ _ _ => (pg_name (i := 4) sc_sights_of.nd rfl (.inl rfl))) (fun _ _ _ _ _ => pts_nil) (fun _ _ _ _ _ => (pe_op (op_catAK (K := K) rfl) (pv 3) (pe_tup (pa_cons (pv 4) pa_nil)))))))
      (pss_one (ps_ret (pe_callTy call_tuple_of (by rfl) T.z_tuple (by decide +kernel) (pa_cons (pv 1) pa_nil)))))), ?_⟩
  refine ⟨by show 0 ≤ sizeLine; decide, fun t0 m0 => ⟨by show 1 ≤ sizeLine; decide, fun D0 n0 => ?_⟩⟩
  have e0 := same_new (o := .tup []) m0
  have e1 := same_new (o := .lst [.ref t0]) n0
  have hD0 := upd_same (H := upd H t0 (.tup [])) (a := D0) (o := .lst [.ref t0])
  have hx0 : DpAll K (upd (upd H t0 (.tup [])) D0 (.lst [.ref t0])) [.ref t0] ((sgs (ns.take 0)).map sgD) := .cons (.tup (SqT.of (e1 _ _ upd_same)) .nil) .nil
  have s1 := e0.trans e1
  generalize upd (upd H t0 (.tup [])) D0 (.lst [.ref t0]) = H1 at hD0 hx0 s1 ⊢
  refine ⟨_, rfl, a, rfl, ⟨_, seqT_same s1 hq⟩, for_it (walk_tup (xs := ns.map V.int)) (fun i σ H' => ∃ D ws y2 y3 y4, σ = [some (.ref a), some (.ref D), y2, y3, y4] ∧ Same H H' ∧ H' D = some (.lst ws) ∧ DpAll K H' ws ((sgs (ns.take i)).map sgD) ∧ (sgs (ns.take i)).length ≤ 4 ^ i ∧ ∀ s ∈ sgs (ns.take i), s.length = i)
    ⟨_, _, _, _, _, rfl, s1, hD0, hx0, by rw [List.take_zero]; exact Nat.le_refl _, fun s hs => by rw [List.take_zero] at hs; rcases List.mem_singleton.mp hs with rfl; rfl⟩ (fun i σ H' _ h' => ?_) ?_ ?_⟩
  · obtain ⟨_, _, _, _, _, _, s2, _⟩ := h'
    exact seqT_same s2 hq
  · rintro i x σ H2 H3 hi ⟨D, ws, y2, y3, y4, rfl, s2, hD, hw, lw, le⟩ ⟨rfl, hx⟩
    rw [List.length_map] at hi
    rw [List.getElem?_map] at hx
    cases en : ns[i]? with
    | none => rw [en] at hx; cases hx
    | some n =>
    rw [en] at hx
    cases hx
    obtain ⟨n0', n4⟩ := hn n (List.mem_of_getElem? en)
    have b4 := four_pow (i := i) (by omega)
    have lws : ws.length = (sgs (ns.take i)).length := by
      have := dpa_len hw
      rwa [List.length_map] at this
    generalize hS : sgs (ns.take i) = S at hw lw le lws
    refine ⟨_, rfl, D, rfl, ⟨_, SqL.of hD⟩, fun D2 n2 => two_out (walk_list (xs := ws)) (fun k H' => Same H3 H' ∧ ∃ zs, H' D2 = some (.lst zs) ∧ DpAll K H' zs ((sgStep (S.take k) n).map sgD)) ⟨same_new n2, [], upd_same, .nil⟩ (fun k H' _ h' => SqL.of (h'.1 _ _ hD)) ?_ ?_⟩
    · rintro k x H4 H5 hk ⟨s4, zs, hD2, hz⟩ ⟨rfl, hx⟩
      obtain ⟨d, ed, hd⟩ := dpa_getx' (dpa_same s4 hw) hx
      rw [List.getElem?_map] at ed
      cases es : S[k]? with
      | none => rw [es] at ed; cases ed
      | some sg =>
      rw [es] at ed
      cases ed
      have lsg : sg.length = i := le sg (List.mem_of_getElem? es)
      have lk : (S.take k).length = k := by
        have := (List.getElem?_eq_some_iff.mp es).1
        rw [List.length_take]
        omega
      have lzs : zs.length = k * n.toNat := by
        have := dpa_len hz
        rw [List.length_map, sgStep_len, lk] at this
        exact this
      have kle : k ≤ 1048576 := by
        have := (List.getElem?_eq_some_iff.mp es).1
        omega
      have nle : n.toNat ≤ 4 := by omega
      obtain ⟨p, vs, rfl, hp, hvs⟩ := dp_tup' hd
      obtain rfl := dpa_intV hvs
      refine ⟨rfl, ⟨_, rfl, n, rfl, by omega, by omega, ?_⟩⟩
      show Exists _
      refine two_out (walk_range (lo := 0) (n := n.toNat)) (fun m H' => Same H3 H' ∧ ∃ zs, H' D2 = some (.lst zs) ∧ DpAll K H' zs ((sgStep (S.take k) n ++ (List.range m).map fun (k' : Nat) => sg ++ [(k' : Int)]).map sgD)) ⟨s4, zs, hD2, by rw [List.range_zero, List.map_nil, List.append_nil]; exact hz⟩ (fun m H' _ h' => trivial) ?_ ?_
      · rintro m y H6 H7 hm ⟨s6, zs6, hD6, hz6⟩ ⟨rfl, rfl⟩
        have l6 : zs6.length = k * n.toNat + m := by
          have := dpa_len hz6
          rw [List.length_map, List.length_append, sgStep_len, lk, List.length_map, List.length_range] at this
          exact this
        have kn : k * n.toNat ≤ 1048576 * 4 := Nat.mul_le_mul kle nle
        have hp6 : SqT K H7 p (sg.map V.int) := by
          obtain ⟨d', ed', hd'⟩ := dpa_getx' (dpa_same s6 hw) hx
          rw [List.getElem?_map, es] at ed'
          cases ed'
          obtain ⟨p', vs', e', hp', hvs'⟩ := dp_tup' hd'
          cases e'
          rw [dpa_intV hvs'] at hp'
          exact hp'
        refine ⟨rfl, _, rfl, _, rfl, by show 1 ≤ sizeLine; decide, fun t nt => catA_ok (seqT_same (same_new nt) hp6) (SqT.of upd_same) (line_small (by rw [List.length_map]; show sg.length + 1 ≤ _; omega)) fun r H8 s8 hr8 => ?_⟩
        have s68 := (same_new (o := .tup [.int (0 + (m : Int))]) nt).trans s8
        have hD8 := s68 _ _ hD6
        refine ⟨zs6, hD8, Nat.lt_of_lt_of_le (show zs6.length < 10000000 by omega) (by decide), same_mut (s6.trans s68) n2, zs6 ++ [.ref r], upd_same, ?_⟩
        have e9 : (sgStep (S.take k) n ++ (List.range (m + 1)).map fun (k' : Nat) => sg ++ [(k' : Int)]).map sgD = (sgStep (S.take k) n ++ (List.range m).map fun (k' : Nat) => sg ++ [(k' : Int)]).map sgD ++ [sgD (sg ++ [(m : Int)])] := by
          rw [List.range_succ]
          simp
        rw [e9]
        refine dpa_app (dpa_mut hD8 1 (fun d hd => ?_) (dpa_same s68 hz6)) (dp_mut hD8 1 (ok_sg 0 _ (by rw [List.length_append]; show sg.length + 1 ≤ _; omega)) ?_)
        · obtain ⟨u, hu, rfl⟩ := List.mem_map.mp hd
          refine ok_sg 0 u ?_
          rcases List.mem_append.mp hu with hu | hu
          · have := sgStep_each (fun s hs => le s (List.mem_of_mem_take hs)) u hu
            omega
          · obtain ⟨k', _, rfl⟩ := List.mem_map.mp hu
            rw [List.length_append]
            show sg.length + 1 ≤ _
            omega
        · refine .tup hr8 ?_
          show DpAll K H8 (sg.map V.int ++ [V.int (0 + (m : Int))]) _
          rw [Int.zero_add]
          have := dpa_ints (K := K) (H := H8) (sg ++ [(m : Int)])
          rw [List.map_append] at this
          exact this
      · rintro H6 ⟨s6, zs6, hD6, hz6⟩
        refine ⟨s6, zs6, hD6, ?_⟩
        rw [take_succ_at es, sgStep_app]
        exact hz6
    · rintro H4 ⟨s4, zs, hD2, hz⟩
      rw [lws, List.take_length] at hz
      refine ⟨D2, zs, _, _, _, rfl, s2.trans s4, hD2, ?_, ?_, ?_⟩
      · rw [take_succ_at en, sgs_app, hS]
        exact hz
      · rw [take_succ_at en, sgs_app, hS, sgStep_len, Nat.pow_succ]
        exact Nat.mul_le_mul lw (by omega)
      · rw [take_succ_at en, sgs_app, hS]
        exact sgStep_each le
  · rintro σ H2 ⟨D, ws, y2, y3, y4, rfl, s2, hD, hw, lw, le⟩
    rw [List.length_map, List.take_length] at hw
    refine ⟨_, rfl, D, ws, rfl, .inl ⟨SqL.of hD, fun t nt => ?_⟩⟩
    exact q _ _ (s2.trans (same_new nt)) (.tup (SqT.of upd_same) (dpa_same (same_new nt) hw))


end
end Pf

namespace Pf
open PySem PySem.Spec PyProof.Rows L2
section
variable {P : Program} {w : World} {K : PySem.W.Frag} {mg : Str → Option Value} {base : Heap}
variable {c : Nat → Addr}
/-! ### what stands beside an instance that changes -/
theorem seqT_fr {K : PySem.W.Frag} {H H' : Hp} {p a C dx : Addr} {fs : List (Str × V)} {xs : List V} (hp : H p = some (.ins C dx fs)) (f : Fr p H H') (h : SqT K H a xs) : SqT K H' a xs := by
  rcases h with (h | ⟨o', h⟩) | h
  · refine .inl (.inl (f _ _ (fun z => ?_) h))
    subst z
    rw [hp] at h
    cases h
  · refine .inl (.inr ⟨o', f _ _ (fun z => ?_) h⟩)
    subst z
    rw [hp] at h
    cases h
  · exact .inr h
theorem seqL_fr {K : PySem.W.Frag} {H H' : Hp} {p a C dx : Addr} {fs : List (Str × V)} {xs : List V} (hp : H p = some (.ins C dx fs)) (f : Fr p H H') (h : SqL K H a xs) : SqL K H' a xs := by
  rcases h with (h | ⟨o', h⟩) | h
  · refine .inl (.inl (f _ _ (fun z => ?_) h))
    subst z
    rw [hp] at h
    cases h
  · refine .inl (.inr ⟨o', f _ _ (fun z => ?_) h⟩)
    subst z
    rw [hp] at h
    cases h
  · exact .inr h
mutual
theorem dl_fr {K : PySem.W.Frag} {H H' : Hp} {p C dx : Addr} {fs : List (Str × V)} (hp : H p = some (.ins C dx fs)) (f : Fr p H H') : ∀ {v : V} {d : PyData}, Dl K H v d → Dl K H' v d
  | _, _, .non => .non
  | _, _, .bl b => .bl b
  | _, _, .int i => .int i
  | _, _, .str x => .str x
  | _, _, .lst h k => .lst (f _ _ (fun z => by subst z; rw [hp] at h; cases h) h) (dla_fr hp f k)
  | _, _, .tup h k => .tup (seqT_fr hp f h) (dla_fr hp f k)
theorem dla_fr {K : PySem.W.Frag} {H H' : Hp} {p C dx : Addr} {fs : List (Str × V)} (hp : H p = some (.ins C dx fs)) (f : Fr p H H') : ∀ {xs : List V} {ds : List PyData}, DlAll K H xs ds → DlAll K H' xs ds
  | _, _, .nil => .nil
  | _, _, .cons h k => .cons (dl_fr hp f h) (dla_fr hp f k)
end
mutual
theorem dp_fr {K : PySem.W.Frag} {H H' : Hp} {p C dx : Addr} {fs : List (Str × V)} (hp : H p = some (.ins C dx fs)) (f : Fr p H H') : ∀ {v : V} {d : PyData}, Dp K H v d → Dp K H' v d
  | _, _, .non => .non
  | _, _, .bl b => .bl b
  | _, _, .int i => .int i
  | _, _, .str x => .str x
  | _, _, .lst h k => .lst (seqL_fr hp f h) (dpa_fr hp f k)
  | _, _, .tup h k => .tup (seqT_fr hp f h) (dpa_fr hp f k)
theorem dpa_fr {K : PySem.W.Frag} {H H' : Hp} {p C dx : Addr} {fs : List (Str × V)} (hp : H p = some (.ins C dx fs)) (f : Fr p H H') : ∀ {xs : List V} {ds : List PyData}, DpAll K H xs ds → DpAll K H' xs ds
  | _, _, .nil => .nil
  | _, _, .cons h k => .cons (dp_fr hp f h) (dpa_fr hp f k)
end
theorem pe_fldK {X : Cx} {K : PySem.W.Frag} {e : Expr} {f : Str} {pos : Pos} {ta : TE} (h : X.K = K) (he : PE X e ta) (hb : attributeBase e f X.env (eval e X.env) = eval e X.env) : PE X (.Attribute e f pos) (tFld K ta f) := h ▸ pe_fld he hb
theorem call_tuple_ofK {X : Cx} {K : PySem.W.Frag} (h : X.K = K) : CallR X (.type "tuple") (fun xs H Q => ∃ p ys, xs = [.ref p] ∧ ((SqL K H p ys ∧ ∀ l, H l = none → Q (.ref l) (upd H l (.tup ys))) ∨ SqT K H p ys ∧ Q (.ref p) H)) := h ▸ call_tuple_of

def nmsD (g : Pg) : PyData := .tuple (g.ps.map fun p => .tuple (((scp g.vs p).map Vr.nm).map .str))
def szsD (g : Pg) : PyData := .tuple (g.ps.map fun p => .tuple (((scp g.vs p).map Vr.sz).map .int))
def sgtD (g : Pg) : PyData := .tuple (g.ps.map fun p => sgsD ((scp g.vs p).map Vr.sz))
def pf2 (g : Pg) : List (Str × V) := putF "answers" (.int g.a) (putF "letters" (.int g.l) [])
def pf4 (g : Pg) (v x : V) : List (Str × V) := putF "procedures" x (putF "variables" v (pf2 g))
def pf7 (g : Pg) (v x n z s : V) : List (Str × V) := putF "_sights" s (putF "_sizes" z (putF "_names" n (pf4 g v x)))
def pf9 (g : Pg) (v x n z s pl pt : V) : List (Str × V) := putF "_points" pt (putF "places" pl (pf7 g v x n z s))
theorem lk_no {f m : Str} {v : V} {fs : List (Str × V)} (h : ¬ m = f) (k : fs.lookup m = none) : (putF f v fs).lookup m = none := by rw [lookup_putF, if_neg h]; exact k
theorem lk_ne {f m : Str} {v w : V} {fs : List (Str × V)} (h : ¬ m = f) (k : fs.lookup m = some w) : (putF f v fs).lookup m = some w := by rw [lookup_putF, if_neg h]; exact k
theorem lk_eq {f : Str} {v : V} {fs : List (Str × V)} : (putF f v fs).lookup f = some v := by rw [lookup_putF, if_pos rfl]
theorem pf9_no {g : Pg} {v x n z s pl pt : V} {m : Str} (h : m ∉ (["_points", "places", "_sights", "_sizes", "_names", "procedures", "variables", "answers", "letters"] : List Str)) : (pf9 g v x n z s pl pt).lookup m = none := by
  have k : ∀ y, y ∈ (["_points", "places", "_sights", "_sizes", "_names", "procedures", "variables", "answers", "letters"] : List Str) → ¬ m = y := fun y hy e => h (e ▸ hy)
  exact lk_no (k _ (by simp)) (lk_no (k _ (by simp)) (lk_no (k _ (by simp)) (lk_no (k _ (by simp)) (lk_no (k _ (by simp)) (lk_no (k _ (by simp)) (lk_no (k _ (by simp)) (lk_no (k _ (by simp)) (lk_no (k _ (by simp)) rfl))))))))
theorem pf9_n {g : Pg} {v x n z s pl pt : V} : (pf9 g v x n z s pl pt).lookup ("_names" : Str) = some n := lk_ne (by decide +kernel) (lk_ne (by decide +kernel) (lk_ne (by decide +kernel) (lk_ne (by decide +kernel) lk_eq)))
theorem pf9_z {g : Pg} {v x n z s pl pt : V} : (pf9 g v x n z s pl pt).lookup ("_sizes" : Str) = some z := lk_ne (by decide +kernel) (lk_ne (by decide +kernel) (lk_ne (by decide +kernel) lk_eq))
theorem pf9_s {g : Pg} {v x n z s pl pt : V} : (pf9 g v x n z s pl pt).lookup ("_sights" : Str) = some s := lk_ne (by decide +kernel) (lk_ne (by decide +kernel) lk_eq)
def PgAt (K : PySem.W.Frag) (C : Addr) (H : Hp) (p : Addr) (g : Pg) : Prop := ∃ (dx : Addr) (v x n z s pl pt : V), H p = some (.ins C dx (pf9 g v x n z s pl pt)) ∧ Dp K H n (nmsD g) ∧ Dp K H z (szsD g) ∧ Dp K H s (sgtD g)
theorem PgAt.same {K : PySem.W.Frag} {C : Addr} {H H' : Hp} {p : Addr} {g : Pg} (e : Same H H') (h : PgAt K C H p g) : PgAt K C H' p g := by
  obtain ⟨dx, v, x, n, z, s, pl, pt, h, d1, d2, d3⟩ := h
  exact ⟨dx, v, x, n, z, s, pl, pt, e _ _ h, dp_same e d1, dp_same e d2, dp_same e d3⟩
/-! ### the data frozen -/
def rawVs (d : PyData) (vs : List Vr) : Prop := isSeq d (vs.map Vr.d)
theorem frz_vr (v : Vr) : frz v.d = v.d := by simp [Vr.d, frz, frzs]
theorem frz_vs {d : PyData} {vs : List Vr} (h : rawVs d vs) : frz d = .tuple (vs.map Vr.d) := by
  have e : (vs.map Vr.d).map frz = vs.map Vr.d := by
    rw [List.map_map]
    exact List.map_congr_left fun v _ => frz_vr v
  rcases h with rfl | rfl <;> rw [frz, frzs_map, e]
theorem frz_bd {d : PyData} {b : Bool} (h : isSeq d (bdD b)) : frz d = .tuple (bdD b) := by
  have e : (bdD b).map frz = bdD b := by cases b <;> simp [bdD, skD, frz, frzs]
  rcases h with rfl | rfl <;> rw [frz, frzs_map, e]
theorem frz_pr {d : PyData} {p : Pr} (h : rawPr d p) : frz d = p.d := by
  obtain ⟨s1, s2, s3, rfl, e1, e2, e3⟩ := h
  simp only [frz, frzs, frz_vs e1, frz_vs e2, frz_bd e3, Pr.d]
theorem frz_ps {d : PyData} {ps : List Pr} (h : rawPs d ps) : frz d = .tuple (ps.map Pr.d) := by
  obtain ⟨ds, es, el, er⟩ := h
  have e : ds.map frz = ps.map Pr.d := by
    apply List.ext_getElem?
    intro i
    rw [List.getElem?_map, List.getElem?_map]
    cases h1 : ds[i]? with
    | none =>
      rw [List.getElem?_eq_none (by have := List.getElem?_eq_none_iff.mp h1; omega)]
      rfl
    | some d' =>
      have hi : i < ps.length := by
        have := (List.getElem?_eq_some_iff.mp h1).1
        omega
      rw [List.getElem?_eq_getElem hi]
      exact congrArg some (frz_pr (er i d' _ h1 (List.getElem?_eq_getElem hi)))
  rcases es with rfl | rfl <;> rw [frz, frzs_map, e]
theorem dat_sq {d : PyData} {ds : List PyData} {n : Nat} (h : isSeq d ds) (l : ds.length ≤ 1000) (k : ∀ e ∈ ds, datOk n e) : datOk (n + 1) d := by
  rcases h with rfl | rfl
  · exact ⟨l, k⟩
  · exact ⟨l, k⟩
theorem dat_atom (n : Nat) : (∀ i : Int, datOk n (.int i)) ∧ ∀ z : Str, datOk n (.str z) := by constructor <;> intro x <;> cases n <;> simp [datOk]
theorem dat_vr (n : Nat) (v : Vr) : datOk (n + 1) v.d := dat_sq (.inr rfl) (by show 2 ≤ 1000; decide) fun e he => by
  rcases List.mem_cons.mp he with rfl | he
  · exact (dat_atom n).2 _
  · rcases List.mem_singleton.mp he with rfl
    exact (dat_atom n).1 _
theorem dat_vs (n : Nat) {d : PyData} {vs : List Vr} (h : rawVs d vs) (l : vs.length ≤ 1000) : datOk (n + 2) d := dat_sq h (by rw [List.length_map]; exact l) fun e he => by
  obtain ⟨v, _, rfl⟩ := List.mem_map.mp he
  exact dat_vr n v
theorem dat_bd (n : Nat) {d : PyData} {b : Bool} (h : isSeq d (bdD b)) : datOk (n + 2) d := dat_sq h (by cases b <;> simp [bdD]) fun e he => by
  have : e = skD := by cases b <;> simp [bdD] at he; exact he
  subst this
  exact dat_sq (.inr rfl) (by show 1 ≤ 1000; decide) fun e he => by
    rcases List.mem_singleton.mp he with rfl
    exact (dat_atom n).2 _
theorem dat_ps {d : PyData} {g : Pg} (ho : g.Ok) (h : rawPs d g.ps) : datOk 4 d := by
  obtain ⟨ds, es, el, er⟩ := h
  have o5 := ho.p5
  refine dat_sq es (by omega) fun e he => ?_
  obtain ⟨i, hi, rfl⟩ := List.getElem_of_mem he
  have hi2 : i < g.ps.length := by omega
  obtain ⟨s1, s2, s3, e0, e1, e2, e3⟩ := er i _ _ (List.getElem?_eq_getElem hi) (List.getElem?_eq_getElem hi2)
  have mp := List.getElem_mem hi2
  have p3 := ho.p3 _ mp
  have l3 := ho.l33 _ mp
  rw [e0]
  refine dat_sq (.inr rfl) (by show 4 ≤ 1000; decide) fun e he => ?_
  rcases List.mem_cons.mp he with rfl | he
  · exact (dat_atom 2).2 _
  rcases List.mem_cons.mp he with rfl | he
  · exact dat_vs 0 e1 (by omega)
  rcases List.mem_cons.mp he with rfl | he
  · exact dat_vs 0 e2 (by omega)
  rcases List.mem_singleton.mp he with rfl
  exact dat_bd 0 e3
theorem tup_seq {n : Nat} {ds : List PyData} (l : ds.length ≤ 100000) (k : ∀ d ∈ ds, tupOk n d) : tupOk (n + 1) (.tuple ds) := ⟨l, k⟩
theorem tup_atom (n : Nat) : (∀ i : Int, tupOk n (.int i)) ∧ ∀ z : Str, tupOk n (.str z) := by constructor <;> intro x <;> cases n <;> simp [tupOk]
theorem tup_vs (n : Nat) {vs : List Vr} (l : vs.length ≤ 1000) : tupOk (n + 2) (.tuple (vs.map Vr.d)) := tup_seq (by rw [List.length_map]; omega) fun d hd => by
  obtain ⟨v, _, rfl⟩ := List.mem_map.mp hd
  refine tup_seq (by show 2 ≤ 100000; decide) fun e he => ?_
  rcases List.mem_cons.mp he with rfl | he
  · exact (tup_atom n).2 _
  · rcases List.mem_singleton.mp he with rfl
    exact (tup_atom n).1 _
theorem tup_bd (n : Nat) (b : Bool) : tupOk (n + 2) (.tuple (bdD b)) := tup_seq (by cases b <;> simp [bdD]) fun e he => by
  have : e = skD := by cases b <;> simp [bdD] at he; exact he
  subst this
  exact tup_seq (by show 1 ≤ 100000; decide) fun e he => by
    rcases List.mem_singleton.mp he with rfl
    exact (tup_atom n).2 _
theorem tup_pr {p : Pr} (l1 : p.ps.length ≤ 1000) (l2 : p.ls.length ≤ 1000) : tupOk 3 p.d := tup_seq (by show 4 ≤ 100000; decide) fun e he => by
  rcases List.mem_cons.mp he with rfl | he
  · exact (tup_atom 2).2 _
  rcases List.mem_cons.mp he with rfl | he
  · exact tup_vs 0 l1
  rcases List.mem_cons.mp he with rfl | he
  · exact tup_vs 0 l2
  rcases List.mem_singleton.mp he with rfl
  exact tup_bd 0 p.sk
theorem tup_ps {g : Pg} (ho : g.Ok) : tupOk 4 (.tuple (g.ps.map Pr.d)) := tup_seq (by rw [List.length_map]; have := ho.p5; omega) fun d hd => by
  obtain ⟨p, hp, rfl⟩ := List.mem_map.mp hd
  have := ho.p3 p hp
  have := ho.l33 p hp
  exact tup_pr (by omega) (by omega)
/-! ### a frozen program, read -/
theorem dl_bdT {K : PySem.W.Frag} {H : Hp} {v : V} {sk : Bool} (h : Dl K H v (.tuple (bdD sk))) : BdT K H v sk := by
  cases h with
  | tup q k =>
    refine ⟨_, _, rfl, q, ?_⟩
    cases sk with
    | false =>
      have k' : DlAll K H _ [] := k
      cases k'
      exact .inl ⟨rfl, rfl⟩
    | true =>
      have k' : DlAll K H _ [.tuple [.str "skip"]] := k
      cases k' with
      | cons p k =>
        cases k
        cases p with
        | tup q k =>
          cases k with
          | cons b k =>
            cases k
            cases b
            exact .inr ⟨rfl, _, rfl, q⟩
theorem dl_prT {K : PySem.W.Frag} {H : Hp} {x : V} {p : Pr} (h : Dl K H x p.d) : PrT K H x p := by
  have h' : Dl K H x (.tuple [.str p.nm, .tuple (p.ps.map Vr.d), .tuple (p.ls.map Vr.d), .tuple (bdD p.sk)]) := h
  cases h' with
  | tup q k =>
    cases k with
    | cons a k =>
      cases k with
      | cons b k =>
        cases k with
        | cons c k =>
          cases k with
          | cons d k =>
            cases k
            cases a
            exact ⟨_, _, _, _, rfl, q, dl_vrs b (.inr rfl), dl_vrs c (.inr rfl), dl_bdT d⟩
theorem dl_prsT {K : PySem.W.Frag} {H : Hp} {v : V} {ps : List Pr} (h : Dl K H v (.tuple (ps.map Pr.d))) : PrsT K H v ps := by
  cases h with
  | tup q k =>
    obtain ⟨l, r⟩ := dla_all2 k
    refine ⟨_, _, rfl, q, by rw [l, List.length_map], fun i x y hx hy => dl_prT (r i x y.d hx ?_)⟩
    rw [List.getElem?_map, hy]
    rfl
theorem ScN.fr {K : PySem.W.Frag} {D p C dx : Addr} {fs : List (Str × V)} {H H' : Hp} {x : V} {vs : List Vr} (hp : H p = some (.ins C dx fs)) (f : Fr p H H') (h : ScN K D H x vs) : ScN K D H' x vs := by
  obtain ⟨l, ws, h1, h2, h3, h4⟩ := h
  refine ⟨l, ws, h1, h2, f _ _ (fun z => ?_) h3, h4.imp fun _ _ ⟨t, e, k⟩ => ⟨t, e, seqT_fr hp f k⟩⟩
  subst z
  rw [hp] at h3
  cases h3
theorem ne_ins {p a C dx : Addr} {fs : List (Str × V)} {zs : List V} {H : Hp} (hp : H p = some (.ins C dx fs)) (h : H a = some (.lst zs)) : a ≠ p := fun z => by
  subst z
  rw [hp] at h
  cases h
theorem okz {ns : List Int} (l : ns.length ≤ 100000) : tupOk 1 (.tuple (ns.map .int)) := tup_seq (by rw [List.length_map]; exact l) fun e he => by
  obtain ⟨z, _, rfl⟩ := List.mem_map.mp he
  exact (tup_atom 0).1 z
theorem sgs_len : ∀ (ns : List Int) (S : List (List Int)) (m : Nat), (∀ s ∈ S, s.length = m) → (∀ n ∈ ns, n ≤ 4) → (ns.foldl sgStep S).length ≤ S.length * 4 ^ ns.length ∧ ∀ s ∈ ns.foldl sgStep S, s.length = m + ns.length
  | [], S, m, h, _ => ⟨by simp, fun s hs => h s hs⟩
  | n :: ns, S, m, h, k => by
    obtain ⟨i1, i2⟩ := sgs_len ns (sgStep S n) (m + 1) (sgStep_each h) fun z hz => k z (List.mem_cons_of_mem _ hz)
    have n4 := k n List.mem_cons_self
    refine ⟨Nat.le_trans i1 ?_, fun s hs => ?_⟩
    · rw [sgStep_len, List.length_cons, Nat.pow_succ, Nat.mul_comm (4 ^ ns.length) 4, ← Nat.mul_assoc]
      exact Nat.mul_le_mul_right _ (Nat.mul_le_mul_left _ (by omega))
    · rw [i2 s hs, List.length_cons]
      omega
/-- the sights as data of a depth -/
theorem ok_sgs {ns : List Int} (l : ns.length ≤ 10) (k : ∀ n ∈ ns, n ≤ 4) (b : (sgs ns).length ≤ 100000) : tupOk 2 (sgsD ns) := tup_seq (by rw [List.length_map]; exact b) fun d hd => by
  obtain ⟨s, hs, rfl⟩ := List.mem_map.mp hd
  have := (sgs_len ns [[]] 0 (fun s hs => by rcases List.mem_singleton.mp hs with rfl; rfl) k).2 s hs
  exact ok_sg 0 s (by omega)
theorem sgs_prod : ∀ (ns : List Int) (S : List (List Int)), (∀ n ∈ ns, 0 ≤ n) → ((ns.foldl sgStep S).length : Int) = ns.foldl (· * ·) ((S.length : Nat) : Int)
  | [], S, _ => rfl
  | n :: ns, S, h => by
    have n0 := h n List.mem_cons_self
    have e : (((sgStep S n).length : Nat) : Int) = ((S.length : Nat) : Int) * n := by
      rw [sgStep_len, Int.natCast_mul, Int.toNat_of_nonneg n0]
    rw [List.foldl_cons, List.foldl_cons, sgs_prod ns (sgStep S n) fun z hz => h z (List.mem_cons_of_mem _ hz), e]
theorem Pg.Ok.sg {g : Pg} (ho : g.Ok) {p : Pr} (hp : p ∈ g.ps) : tupOk 2 (sgsD ((scp g.vs p).map Vr.sz)) := by
  have l := ho.decl.len p hp
  refine ok_sgs (by rw [List.length_map]; exact l) (fun n hn => ?_) ?_
  · obtain ⟨v, hv, rfl⟩ := List.mem_map.mp hn
    exact ho.s4 p hp v hv
  · have e := sgs_prod ((scp g.vs p).map Vr.sz) [[]] fun n hn => by
      obtain ⟨v, hv, rfl⟩ := List.mem_map.mp hn
      have := ho.s2 p hp v hv
      omega
    have k := ho.si p hp
    have e' : (((sgs ((scp g.vs p).map Vr.sz)).length : Nat) : Int) = prodZ ((scp g.vs p).map Vr.sz) := e
    omega


end
end Pf

namespace Pf
open PySem PySem.Spec PyProof.Rows L2
section
variable {P : Program} {w : World} {K : PySem.W.Frag} {mg : Str → Option Value} {base : Heap}
variable {c : Nat → Addr}
def sp_Program_init (K : PySem.W.Frag) (C : Addr) : Sp := fun us H Q _ => ∃ (p dx : Addr) (g : Pg) (v x : V) (dv dp : PyData), us = [.ref p, .int g.l, .int g.a, v, x] ∧ H p = some (.ins C dx []) ∧ g.Ok ∧ Dl K H v dv ∧ rawVs dv g.vs ∧ Dl K H x dp ∧ rawPs dp g.ps ∧
  ∀ H', (∀ b o, H b = some o → b ≠ p → H' b = some o) → PgAt K C H' p g → Q .non H'
theorem ok_Program_init (T : Txt P K mg c) : HasMk P w K mg base 7 (c 56) ["self", "letters", "answers", "variables", "procedures"] (sp_Program_init K (c id_Program)) := by
  obtain ⟨f, fd, F, m, b⟩ := T.d_Program_init
  obtain ⟨f_first_reason, fd_first_reason, G_first_reason, m_first_reason, k_first_reason, b_first_reason⟩ := ok_first_reason (P := P) (w := w) (base := base) T
  obtain ⟨f_frozen, fd_frozen, G_frozen, m_frozen, k_frozen, b_frozen⟩ := ok_frozen (P := P) (w := w) (base := base) T 4
  obtain ⟨f_in_sight, fd_in_sight, G_in_sight, m_in_sight, k_in_sight, b_in_sight⟩ := ok_in_sight (P := P) (w := w) (base := base) T
  obtain ⟨f_sights_of, fd_sights_of, G_sights_of, m_sights_of, k_sights_of, b_sights_of⟩ := ok_sights_of (P := P) (w := w) (base := base) T
  obtain ⟨f_lay_out, fd_lay_out, G_lay_out, m_lay_out, k_lay_out, b_lay_out⟩ := ok_lay_out (P := P) (w := w) (base := base) T
  refine ⟨f, fd, F.ok sc_Program_init (fun vs H Q E h => ?_) (fun cdv A outer s H vs Q E hr h => ?_), m, b⟩
  · obtain ⟨p, dx, g, v, x, dv, dp, rfl, hp, ho, hv, rv, hx, rx, q⟩ := h
    rfl
  obtain ⟨p, dx, g, v, x, dv, dp, rfl, hp, ho, hv, rv, hx, rx, q⟩ := h
  refine ⟨_, (pss_cons (ps_set (i := 5) sc_Program_init.nd rfl (.inl rfl) (pe_call G_first_reason (hr.mono (by decide)) (by rfl) m_first_reason k_first_reason b_first_reason .nil pass0 (pa_cons (pv 1) (pa_cons (pv 2) (pa_cons (pv 3) (pa_cons (pv 4) pa_nil))))))
      (pss_cons (ps_if (pt_truth (pv 5) (by intro _; rfl))
      (pss_one ps_dead)
      pss_nil)
      (pss_cons (ps_fld (pv 0) (pv 1) rfl)
      (pss_cons (ps_fld (pv 0) (pv 2) rfl)
      (pss_cons (ps_fld (pv 0) (pe_call G_frozen (hr.mono (by decide)) (by rfl) m_frozen k_frozen b_frozen .nil pass0 (pa_cons (pv 3) pa_nil)) rfl)
      (pss_cons (ps_fld (pv 0) (pe_call G_frozen (hr.mono (by decide)) (by rfl) m_frozen k_frozen b_frozen .nil pass0 (pa_cons (pv 4) pa_nil)) rfl)
      (pss_cons (ps_setLc (i := 6) (own := [("procedure", 7)]) (g := gName 7) (by rfl) sc_Program_init.nd rfl rfl (sw_true rfl rfl rfl (by decide +kernel)) (pi_tup (pe_fld (pv 0) rfl)) (blkOk_by (own := [("procedure", 7)]) (N := ["self", "letters", "answers", "variables", "procedures", "reason", "scopes", "procedure", "scope", "sizes", "name", "size"]) (sc := defScope s_Program_init) (by decide +kernel)) (fun _ _ _ _ _ => (pg_name (i := 7) sc_Program_init.nd rfl (.inl rfl))) (fun _ _ _ _ _ => pts_nil) (fun _ _ _ _ _ => (pe_call G_in_sight (hr.mono (by decide)) (by rfl) m_in_sight k_in_sight b_in_sight .nil pass0 (pa_cons (pe_fldK (K := K) rfl (pv 0) rfl) (pa_cons (pv 7) pa_nil)))))
      (pss_cons (ps_fld (pv 0) (pe_callTy call_tuple_of (by rfl) T.z_tuple (by decide +kernel) (pa_cons (pe_lc (own := [("scope", 8)]) (g := gName 8) (by rfl) sc_Program_init.nd (pi_list (pv 6)) (blkOk_by (own := [("scope", 8)]) (N := ["self", "letters", "answers", "variables", "procedures", "reason", "scopes", "procedure", "scope", "sizes", "name", "size"]) (sc := defScope s_Program_init) (by decide +kernel)) (fun _ _ _ _ _ => pg_name (i := 8) sc_Program_init.nd rfl (Or.inl rfl)) (fun _ _ _ _ _ => pts_nil) (fun _ _ _ _ _ => (pe_callTy (call_tuple_ofK (K := K) rfl) (by rfl) T.z_tuple (by decide +kernel) (pa_cons (pe_lc (own := [("name", 10), ("size", 11)]) (by rfl) sc_Program_init.nd (pi_listK (K := K) rfl (pv 8)) (blkOk_nf (own := [("name", 10), ("size", 11)]) (N := ["self", "letters", "answers", "variables", "procedures", "reason", "scopes", "procedure", "scope", "sizes", "name", "size"]) (by decide +kernel)) (fun _ _ _ _ _ => (pg_tupK (K := K) (n := 2) rfl rfl (pgs_cons (pg_name (i := 10) sc_Program_init.nd rfl (.inl rfl)) (pgs_cons (pg_name (i := 11) sc_Program_init.nd rfl (.inl rfl)) pgs_nil)))) (fun _ _ _ _ _ => pts_nil) (fun _ _ _ _ _ => (pv 10))) pa_nil)))) pa_nil)) rfl)
      (pss_cons (ps_fld (pv 0) (pe_callTy call_tuple_of (by rfl) T.z_tuple (by decide +kernel) (pa_cons (pe_lc (own := [("scope", 8)]) (g := gName 8) (by rfl) sc_Program_init.nd (pi_list (pv 6)) (blkOk_by (own := [("scope", 8)]) (N := ["self", "letters", "answers", "variables", "procedures", "reason", "scopes", "procedure", "scope", "sizes", "name", "size"]) (sc := defScope s_Program_init) (by decide +kernel)) (fun _ _ _ _ _ => pg_name (i := 8) sc_Program_init.nd rfl (Or.inl rfl)) (fun _ _ _ _ _ => pts_nil) (fun _ _ _ _ _ => (pe_callTy (call_tuple_ofK (K := K) rfl) (by rfl) T.z_tuple (by decide +kernel) (pa_cons (pe_lc (own := [("name", 10), ("size", 11)]) (by rfl) sc_Program_init.nd (pi_listK (K := K) rfl (pv 8)) (blkOk_nf (own := [("name", 10), ("size", 11)]) (N := ["self", "letters", "answers", "variables", "procedures", "reason", "scopes", "procedure", "scope", "sizes", "name", "size"]) (by decide +kernel)) (fun _ _ _ _ _ => (pg_tupK (K := K) (n := 2) rfl rfl (pgs_cons (pg_name (i := 10) sc_Program_init.nd rfl (.inl rfl)) (pgs_cons (pg_name (i := 11) sc_Program_init.nd rfl (.inl rfl)) pgs_nil)))) (fun _ _ _ _ _ => pts_nil) (fun _ _ _ _ _ => (pv 11))) pa_nil)))) pa_nil)) rfl)
      (pss_cons (ps_fld (pv 0) (pe_callTy call_tuple_of (by rfl) T.z_tuple (by decide +kernel) (pa_cons (pe_lc (own := [("sizes", 9)]) (g := gName 9) (by rfl) sc_Program_init.nd (pi_tup (pe_fld (pv 0) rfl)) (blkOk_by (own := [("sizes", 9)]) (N := ["self", "letters", "answers", "variables", "procedures", "reason", "scopes", "procedure", "scope", "sizes", "name", "size"]) (sc := defScope s_Program_init) (by decide +kernel)) (fun _ _ _ _ _ => pg_name (i := 9) sc_Program_init.nd rfl (Or.inl rfl)) (fun _ _ _ _ _ => pts_nil) (fun _ _ _ _ _ => (pe_call G_sights_of (hr.mono (by decide)) (by rfl) m_sights_of k_sights_of b_sights_of .nil pass0 (pa_cons (pv 9) pa_nil)))) pa_nil)) rfl)
      (pss_one (ps_asg (pe_call G_lay_out (hr.mono (by decide)) (by rfl) m_lay_out k_lay_out b_lay_out .nil pass0 (pa_cons (pv 2) (pa_cons (pe_fld (pv 0) rfl) (pa_cons (pe_fld (pv 0) rfl) pa_nil)))) (pg_tup rfl (pgs_cons (pg_fld (pv 0)) (pgs_cons (pg_fld (pv 0)) pgs_nil))))))))))))))), ?_⟩
  have o4 := ho.v4
  have o5 := ho.p5
  refine ⟨_, rfl, _, rfl, _, rfl, _, rfl, v, x, g, rfl, dl_vrs hv rv, dl_prs hx rx, ho, fun H1 s1 => ?_⟩
  have hp1 := s1 _ _ hp
  refine ⟨_, rfl, false, ⟨Nat.zero_le _, rfl⟩, iteF ?_⟩
  refine ⟨_, rfl, _, rfl, p, c id_Program, dx, [], rfl, hp1, T.cl_Program, T.n_Program_letters, (by show 0 < 1000; decide), ?_⟩
  refine ⟨_, rfl, _, rfl, p, c id_Program, dx, _, rfl, upd_same, T.cl_Program, T.n_Program_answers, (by show 1 < 1000; decide), ?_⟩
  have f2 : Fr p H1 (upd (upd H1 p (.ins (c id_Program) dx (putF "letters" (.int g.l) []))) p (.ins (c id_Program) dx (putF "answers" (.int g.a) (putF "letters" (.int g.l) [])))) := Fr.trans Fr.upd Fr.upd
  have hp2 := upd_same (H := upd H1 p (.ins (c id_Program) dx (putF "letters" (.int g.l) []))) (a := p) (o := .ins (c id_Program) dx (pf2 g))
  have hv2 := dl_fr hp1 f2 (dl_same s1 hv)
  have hx2 := dl_fr hp1 f2 (dl_same s1 hx)
  have k2 : Fr p H (upd (upd H1 p (.ins (c id_Program) dx (putF "letters" (.int g.l) []))) p (.ins (c id_Program) dx (putF "answers" (.int g.a) (putF "letters" (.int g.l) [])))) := (Fr.of s1).trans f2
  change (upd (upd H1 p (.ins (c id_Program) dx (putF "letters" (.int g.l) []))) p (.ins (c id_Program) dx (putF "answers" (.int g.a) (putF "letters" (.int g.l) [])))) p = _ at hp2
  generalize upd (upd H1 p (.ins (c id_Program) dx (putF "letters" (.int g.l) []))) p (.ins (c id_Program) dx (putF "answers" (.int g.a) (putF "letters" (.int g.l) []))) = H2 at f2 hp2 hv2 hx2 k2 ⊢
  -- variables, procedures
  refine ⟨_, rfl, v, dv, rfl, hv2, dat_vs 2 rv (by omega), fun v' H3 s3 hv3 => ?_⟩
  rw [frz_vs rv] at hv3
  have hp3 := s3 _ _ hp2
  refine ⟨_, rfl, p, c id_Program, dx, _, rfl, hp3, T.cl_Program, T.n_Program_variables, (by show 2 < 1000; decide), ?_⟩
  have f4 : Fr p H3 (upd H3 p (.ins (c id_Program) dx (putF "variables" v' (pf2 g)))) := Fr.upd
  have hp4 := upd_same (H := H3) (a := p) (o := .ins (c id_Program) dx (putF "variables" v' (pf2 g)))
  have hv4 := dp_fr hp3 f4 hv3
  have hx4 := dl_fr hp3 f4 (dl_same s3 hx2)
  have k4 := (k2.trans (Fr.of s3)).trans f4
  generalize upd H3 p (.ins (c id_Program) dx (putF "variables" v' (pf2 g))) = H4 at f4 hp4 hv4 hx4 k4 ⊢
  refine ⟨_, rfl, x, dp, rfl, hx4, dat_ps ho rx, fun x' H5 s5 hx5 => ?_⟩
  rw [frz_ps rx] at hx5
  have hp5 := s5 _ _ hp4
  refine ⟨_, rfl, p, c id_Program, dx, _, rfl, hp5, T.cl_Program, T.n_Program_procedures, (by show 3 < 1000; decide), ?_⟩
  have f6 : Fr p H5 (upd H5 p (.ins (c id_Program) dx (pf4 g v' x'))) := Fr.upd
  have hp6 := upd_same (H := H5) (a := p) (o := .ins (c id_Program) dx (pf4 g v' x'))
  have hv6 := dp_fr hp5 f6 (dp_same s5 hv4)
  have hx6 := dp_fr hp5 f6 hx5
  have k6 := (k4.trans (Fr.of s5)).trans f6
  change tSeq _ _ _ _ (upd H5 p (.ins (c id_Program) dx (pf4 g v' x')))
  generalize upd H5 p (.ins (c id_Program) dx (pf4 g v' x')) = H6 at f6 hp6 hv6 hx6 k6 ⊢
  have hV := dl_vrs (dl_dp 2 (tup_vs 0 (by omega)) hv6) (.inr rfl)
  have hT := dl_prsT (dl_dp 4 (tup_ps ho) hx6)
  obtain ⟨a, xs, rfl, hq, ha⟩ := id hT
  have la := ha.1
  have dl := ho.decl.len
  have mapped : ∀ {β : Type} {f : Pr → β} {i : Nat} {y : β}, (g.ps.map f)[i]? = some y → ∃ p, g.ps[i]? = some p ∧ f p = y := fun {β f i y} e => by
    rw [List.getElem?_map] at e
    cases ep : g.ps[i]? with
    | none => rw [ep] at e; cases e
    | some p =>
      rw [ep] at e
      exact ⟨p, rfl, Option.some.inj e⟩
  -- scopes
  refine ⟨_, rfl, p, _, dx, _, _, rfl, hp6, T.cl_Program, T.n_Program_procedures, lk_eq, a, rfl, ⟨_, hq⟩, fun D1 n1 => lc_it (walk_tup (xs := xs)) (fun i H' => Same H6 H' ∧ ∃ rs, H' D1 = some (.lst rs) ∧ All2 (ScN K D1 H') rs ((g.ps.take i).map (scp g.vs))) ⟨same_new n1, [], upd_same, .nil⟩ (fun i H' _ h' => seqT_same h'.1 hq) ?_ ?_⟩
  · rintro i y H7 H8 hi ⟨s7, rs, hD, hrs⟩ ⟨rfl, hy⟩
    obtain ⟨pr, ep, hpr⟩ := ha.at hy
    have mp := List.mem_of_getElem? ep
    have lr : rs.length = i := by rw [hrs.1, List.length_map, List.length_take]; omega
    refine ⟨rfl, _, rfl, p, _, dx, _, _, rfl, s7 _ _ hp6, T.cl_Program, T.n_Program_variables, lk_ne (by decide +kernel) lk_eq, _, rfl, v', y, g.vs, pr, rfl, hV.same s7, (hpr.same s7).at, o4, ho.p3 pr mp, ho.l33 pr mp, fun l ws H9 s9 nl hl hw => ⟨rs, s9 _ _ hD, small1000 (by omega), same_mut (s7.trans s9) n1, rs ++ [.ref l], upd_same, ?_⟩⟩
    have nlD : l ≠ D1 := fun z => by
      subst z
      rw [hD] at nl
      cases nl
    rw [map_take_at ep]
    exact (hrs.imp fun _ _ h => (h.same s9).mut (s9 _ _ hD)).app (.one ⟨l, ws, rfl, nlD, (upd_ne nlD).trans hl, hw.imp fun _ _ => VrAt.mut (s9 _ _ hD)⟩)
  rintro H7 ⟨s7, rs, hD1, hrs⟩
  rw [la, List.take_length] at hrs
  have lrs : rs.length = g.ps.length := by rw [hrs.1, List.length_map]
  have hp7 := s7 _ _ hp6
  -- _names
  refine ⟨_, rfl, D1, rfl, ⟨_, SqL.of hD1⟩, fun D2 n2 => lc_it (walk_list (xs := rs)) (fun i H' => Same H7 H' ∧ ∃ ts, H' D2 = some (.lst ts) ∧ DpAll K H' ts ((g.ps.take i).map fun p => .tuple (((scp g.vs p).map Vr.nm).map .str))) ⟨same_new n2, [], upd_same, .nil⟩ (fun i H' _ h' => SqL.of (h'.1 _ _ hD1)) ?_ ?_⟩
  · rintro i y H8 H9 hi ⟨s8, ts, hD, hts⟩ ⟨rfl, hy⟩
    obtain ⟨vs, evs, l, ws, rfl, nl, hl, hw⟩ := hrs.at hy
    obtain ⟨pr, ep, rfl⟩ := mapped evs
    have lp := dl pr (List.mem_of_getElem? ep)
    have lts : ts.length = i := by
      have := dpa_len hts
      rw [List.length_map, List.length_take] at this
      omega
    refine ⟨rfl, _, rfl, l, rfl, ⟨_, SqL.of (s8 _ _ hl)⟩, fun D3 n3 => lc_it (walk_list (xs := ws)) (fun j H' => Same H9 H' ∧ H' D3 = some (.lst (nmsV ((scp g.vs pr).take j)))) ⟨same_new n3, upd_same⟩ (fun j H' _ h' => SqL.of (h'.1 _ _ (s8 _ _ hl))) ?_ ?_⟩
    · rintro j y H10 H11 hj ⟨s10, hD3⟩ ⟨rfl, hy⟩
      obtain ⟨vr, evr, t, rfl, ht⟩ := hw.at hy
      refine ⟨t, _, rfl, seqT_same (s8.trans s10) ht, rfl, _, _, rfl, _, _, rfl, rfl, rfl, _, rfl, _, hD3, ?_, same_mut s10 n3, ?_⟩
      · unfold nmsV
        rw [List.length_map, List.length_map, List.length_take]
        exact small1000 (by omega)
      · unfold nmsV
        rw [upd_same, map_take_at evr, List.map_append]
        rfl
    · rintro H10 ⟨s10, hD3⟩
      rw [hw.1, List.take_length] at hD3
      refine ⟨D3, _, rfl, .inl ⟨SqL.of hD3, fun t nt => ?_⟩⟩
      have s11 := s10.trans (same_new (o := .tup (nmsV (scp g.vs pr))) nt)
      have hD11 := s11 _ _ hD
      refine ⟨ts, hD11, small1000 (by omega), same_mut (s8.trans s11) n2, ts ++ [.ref t], upd_same, ?_⟩
      rw [map_take_at ep]
      have okd : ∀ q : Pr, q ∈ g.ps → tupOk 1 (.tuple (((scp g.vs q).map Vr.nm).map .str)) := fun q hq => tup_seq (by rw [List.length_map, List.length_map]; have := dl q hq; omega) fun e he => by
        obtain ⟨z, _, rfl⟩ := List.mem_map.mp he
        exact (tup_atom 0).2 z
      refine dpa_app (dpa_mut hD11 1 (fun d hd => ?_) (dpa_same s11 hts)) (dp_mut hD11 1 (okd pr (List.mem_of_getElem? ep)) (.tup (SqT.of upd_same) (dpa_strs _)))
      obtain ⟨q, hq, rfl⟩ := List.mem_map.mp hd
      exact okd q (List.mem_of_mem_take hq)
  rintro H8 ⟨s8, ts, hD2, hts⟩
  rw [lrs, List.take_length] at hts
  refine ⟨D2, _, rfl, .inl ⟨SqL.of hD2, fun tn ntn => ?_⟩⟩
  have e9 := same_new (o := .tup ts) ntn
  have hn9 : Dp K (upd H8 tn (.tup ts)) (.ref tn) (nmsD g) := .tup (SqT.of upd_same) (dpa_same e9 hts)
  have s69 := (s7.trans s8).trans e9
  have s79 := s8.trans e9
  generalize upd H8 tn (.tup ts) = H9 at e9 hn9 s69 s79 ⊢
  have hp9 := s69 _ _ hp6
  refine ⟨_, rfl, p, c id_Program, dx, _, rfl, hp9, T.cl_Program, T.n_Program__names, (by show 4 < 1000; decide), ?_⟩
  have f10 : Fr p H9 (upd H9 p (.ins (c id_Program) dx (putF "_names" (.ref tn) (pf4 g v' (.ref a))))) := Fr.upd
  have hp10 := upd_same (H := H9) (a := p) (o := .ins (c id_Program) dx (putF "_names" (.ref tn) (pf4 g v' (.ref a))))
  have hn10 := dp_fr hp9 f10 hn9
  have hv10 := dp_fr hp9 f10 (dp_same s69 hv6)
  have hx10 := dp_fr hp9 f10 (dp_same s69 hx6)
  have hD9 := s79 _ _ hD1
  have hD10 := f10 _ _ (ne_ins hp9 hD9) hD9
  have hrs10 := hrs.imp fun _ _ h => (h.same s79).fr hp9 f10
  have k10 := (k6.trans (Fr.of s69)).trans f10
  generalize upd H9 p (.ins (c id_Program) dx (putF "_names" (.ref tn) (pf4 g v' (.ref a)))) = H10 at f10 hp10 hn10 hv10 hx10 hD10 hrs10 k10 ⊢
  -- _sizes
  refine ⟨_, rfl, D1, rfl, ⟨_, SqL.of hD10⟩, fun D4 n4 => lc_it (walk_list (xs := rs)) (fun i H' => Same H10 H' ∧ ∃ ts, H' D4 = some (.lst ts) ∧ DpAll K H' ts ((g.ps.take i).map fun p => .tuple (((scp g.vs p).map Vr.sz).map .int))) ⟨same_new n4, [], upd_same, .nil⟩ (fun i H' _ h' => SqL.of (h'.1 _ _ hD10)) ?_ ?_⟩
  · rintro i y H11 H12 hi ⟨s11, ts, hD, hts⟩ ⟨rfl, hy⟩
    obtain ⟨vs, evs, l, ws, rfl, nl, hl, hw⟩ := hrs10.at hy
    obtain ⟨pr, ep, rfl⟩ := mapped evs
    have lp := dl pr (List.mem_of_getElem? ep)
    have lts : ts.length = i := by
      have := dpa_len hts
      rw [List.length_map, List.length_take] at this
      omega
    refine ⟨rfl, _, rfl, l, rfl, ⟨_, SqL.of (s11 _ _ hl)⟩, fun D3 n3 => lc_it (walk_list (xs := ws)) (fun j H' => Same H12 H' ∧ H' D3 = some (.lst (szsV ((scp g.vs pr).take j)))) ⟨same_new n3, upd_same⟩ (fun j H' _ h' => SqL.of (h'.1 _ _ (s11 _ _ hl))) ?_ ?_⟩
    · rintro j y H13 H14 hj ⟨s13, hD3⟩ ⟨rfl, hy⟩
      obtain ⟨vr, evr, t, rfl, ht⟩ := hw.at hy
      refine ⟨t, _, rfl, seqT_same (s11.trans s13) ht, rfl, _, _, rfl, _, _, rfl, rfl, rfl, _, rfl, _, hD3, ?_, same_mut s13 n3, ?_⟩
      · unfold szsV
        rw [List.length_map, List.length_map, List.length_take]
        exact small1000 (by omega)
      · unfold szsV
        rw [upd_same, map_take_at evr, List.map_append]
        rfl
    · rintro H13 ⟨s13, hD3⟩
      rw [hw.1, List.take_length] at hD3
      refine ⟨D3, _, rfl, .inl ⟨SqL.of hD3, fun t nt => ?_⟩⟩
      have s14 := s13.trans (same_new (o := .tup (szsV (scp g.vs pr))) nt)
      have hD14 := s14 _ _ hD
      refine ⟨ts, hD14, small1000 (by omega), same_mut (s11.trans s14) n4, ts ++ [.ref t], upd_same, ?_⟩
      rw [map_take_at ep]
      have okd : ∀ q : Pr, q ∈ g.ps → tupOk 1 (.tuple (((scp g.vs q).map Vr.sz).map .int)) := fun q hq => okz (by rw [List.length_map]; have := dl q hq; omega)
      refine dpa_app (dpa_mut hD14 1 (fun d hd => ?_) (dpa_same s14 hts)) (dp_mut hD14 1 (okd pr (List.mem_of_getElem? ep)) (.tup (SqT.of upd_same) (dpa_ints _)))
      obtain ⟨q, hq, rfl⟩ := List.mem_map.mp hd
      exact okd q (List.mem_of_mem_take hq)
  rintro H11 ⟨s11, ts2, hD4, hts2⟩
  have lrs10 : rs.length = g.ps.length := lrs
  rw [lrs10, List.take_length] at hts2
  refine ⟨D4, _, rfl, .inl ⟨SqL.of hD4, fun tz ntz => ?_⟩⟩
  have e12 := same_new (o := .tup ts2) ntz
  have hz12 : Dp K (upd H11 tz (.tup ts2)) (.ref tz) (szsD g) := .tup (SqT.of upd_same) (dpa_same e12 hts2)
  have s12 := s11.trans e12
  generalize upd H11 tz (.tup ts2) = H12 at e12 hz12 s12 ⊢
  have hp12 := s12 _ _ hp10
  refine ⟨_, rfl, p, c id_Program, dx, _, rfl, hp12, T.cl_Program, T.n_Program__sizes, (by show 5 < 1000; decide), ?_⟩
  have f13 : Fr p H12 (upd H12 p (.ins (c id_Program) dx (putF "_sizes" (.ref tz) (putF "_names" (.ref tn) (pf4 g v' (.ref a)))))) := Fr.upd
  have hp13 := upd_same (H := H12) (a := p) (o := .ins (c id_Program) dx (putF "_sizes" (.ref tz) (putF "_names" (.ref tn) (pf4 g v' (.ref a)))))
  have hz13 := dp_fr hp12 f13 hz12
  have hn13 := dp_fr hp12 f13 (dp_same s12 hn10)
  have hv13 := dp_fr hp12 f13 (dp_same s12 hv10)
  have hx13 := dp_fr hp12 f13 (dp_same s12 hx10)
  have k13 := (k10.trans (Fr.of s12)).trans f13
  generalize upd H12 p (.ins (c id_Program) dx (putF "_sizes" (.ref tz) (putF "_names" (.ref tn) (pf4 g v' (.ref a))))) = H13 at f13 hp13 hz13 hn13 hv13 hx13 k13 ⊢
  -- _sights
  obtain ⟨tz', zs, ez, hzq, hza⟩ := dp_tup' hz13
  cases ez
  have lzs : zs.length = g.ps.length := by
    have := dpa_len hza
    rwa [List.length_map] at this
  refine ⟨_, rfl, p, _, dx, _, _, rfl, hp13, T.cl_Program, T.n_Program__sizes, lk_eq, tz, rfl, ⟨_, hzq⟩, fun D5 n5 => lc_it (walk_tup (xs := zs)) (fun i H' => Same H13 H' ∧ ∃ ts, H' D5 = some (.lst ts) ∧ DpAll K H' ts ((g.ps.take i).map fun p => sgsD ((scp g.vs p).map Vr.sz))) ⟨same_new n5, [], upd_same, .nil⟩ (fun i H' _ h' => seqT_same h'.1 hzq) ?_ ?_⟩
  · rintro i y H14 H15 hi ⟨s14, ts, hD, hts⟩ ⟨rfl, hy⟩
    obtain ⟨d, ed, hd⟩ := dpa_getx' hza hy
    obtain ⟨pr, ep, rfl⟩ := mapped ed
    have mp := List.mem_of_getElem? ep
    have lp := dl pr mp
    obtain ⟨ta, us, rfl, hta, hua⟩ := dp_tup' hd
    obtain rfl := dpa_intV hua
    have lts : ts.length = i := by
      have := dpa_len hts
      rw [List.length_map, List.length_take] at this
      omega
    refine ⟨rfl, _, rfl, ta, (scp g.vs pr).map Vr.sz, rfl, seqT_same s14 hta, by rw [List.length_map]; exact lp, fun n hn => ?_, fun sv H16 s16 hsv => ?_⟩
    · obtain ⟨u, hu, rfl⟩ := List.mem_map.mp hn
      have := ho.s2 pr mp u hu
      have := ho.s4 pr mp u hu
      omega
    have hD16 := s16 _ _ hD
    refine ⟨ts, hD16, small1000 (by omega), same_mut (s14.trans s16) n5, ts ++ [sv], upd_same, ?_⟩
    rw [map_take_at ep]
    refine dpa_app (dpa_mut hD16 2 (fun d hd => ?_) (dpa_same s16 hts)) (dp_mut hD16 2 (ho.sg mp) hsv)
    obtain ⟨q, hq, rfl⟩ := List.mem_map.mp hd
    exact ho.sg (List.mem_of_mem_take hq)
  rintro H14 ⟨s14, ts3, hD5, hts3⟩
  rw [lzs, List.take_length] at hts3
  refine ⟨D5, _, rfl, .inl ⟨SqL.of hD5, fun tg ntg => ?_⟩⟩
  have e15 := same_new (o := .tup ts3) ntg
  have hg15 : Dp K (upd H14 tg (.tup ts3)) (.ref tg) (sgtD g) := .tup (SqT.of upd_same) (dpa_same e15 hts3)
  have s15 := s14.trans e15
  generalize upd H14 tg (.tup ts3) = H15 at e15 hg15 s15 ⊢
  have hp15 := s15 _ _ hp13
  refine ⟨_, rfl, p, c id_Program, dx, _, rfl, hp15, T.cl_Program, T.n_Program__sights, (by show 6 < 1000; decide), ?_⟩
  have f16 : Fr p H15 (upd H15 p (.ins (c id_Program) dx (pf7 g v' (.ref a) (.ref tn) (.ref tz) (.ref tg)))) := Fr.upd
  have hp16 := upd_same (H := H15) (a := p) (o := .ins (c id_Program) dx (pf7 g v' (.ref a) (.ref tn) (.ref tz) (.ref tg)))
  have hg16 := dp_fr hp15 f16 hg15
  have hz16 := dp_fr hp15 f16 (dp_same s15 hz13)
  have hn16 := dp_fr hp15 f16 (dp_same s15 hn13)
  have hv16 := dp_fr hp15 f16 (dp_same s15 hv13)
  have hx16 := dp_fr hp15 f16 (dp_same s15 hx13)
  have k16 := (k13.trans (Fr.of s15)).trans f16
  change Ends.nx _ _ (upd H15 p (.ins (c id_Program) dx (pf7 g v' (.ref a) (.ref tn) (.ref tz) (.ref tg))))
  generalize upd H15 p (.ins (c id_Program) dx (pf7 g v' (.ref a) (.ref tn) (.ref tz) (.ref tg))) = H16 at f16 hp16 hg16 hz16 hn16 hv16 hx16 k16 ⊢
  -- places, _points
  have hV := dl_vrs (dl_dp 2 (tup_vs 0 (by omega)) hv16) (.inr rfl)
  have hT := dl_prsT (dl_dp 4 (tup_ps ho) hx16)
  have lkP : (pf7 g v' (.ref a) (.ref tn) (.ref tz) (.ref tg)).lookup ("procedures" : Str) = some (.ref a) := lk_ne (by decide +kernel) (lk_ne (by decide +kernel) (lk_ne (by decide +kernel) lk_eq))
  have lkV : (pf7 g v' (.ref a) (.ref tn) (.ref tz) (.ref tg)).lookup ("variables" : Str) = some v' := lk_ne (by decide +kernel) (lk_ne (by decide +kernel) (lk_ne (by decide +kernel) (lk_ne (by decide +kernel) lk_eq)))
  refine ⟨_, rfl, _, rfl, p, _, dx, _, _, rfl, hp16, T.cl_Program, T.n_Program_variables, lkV, _, rfl, p, _, dx, _, _, rfl, hp16, T.cl_Program, T.n_Program_procedures, lkP, ?_⟩
  refine ⟨_, v', _, g, rfl, hV, hT, ho, fun t u1 u2 H17 s17 ht => ?_⟩
  have hp17 := s17 _ _ hp16
  refine ⟨t, _, rfl, ht, rfl, _, _, rfl, _, rfl, p, c id_Program, dx, _, rfl, hp17, T.cl_Program, T.n_Program_places, (by show 7 < 1000; decide), _, _, rfl, _, rfl, p, c id_Program, dx, _, rfl, upd_same, T.cl_Program, T.n_Program__points, (by show 8 < 1000; decide), rfl, ?_⟩
  have f18 : Fr p H17 (upd (upd H17 p (.ins (c id_Program) dx (putF "places" u1 (pf7 g v' (.ref a) (.ref tn) (.ref tz) (.ref tg))))) p (.ins (c id_Program) dx (putF "_points" u2 (putF "places" u1 (pf7 g v' (.ref a) (.ref tn) (.ref tz) (.ref tg)))))) := Fr.trans Fr.upd Fr.upd
  refine q _ (fun b o hb hne => (k16.trans ((Fr.of s17).trans f18)) b o hne hb) ⟨dx, v', .ref a, .ref tn, .ref tz, .ref tg, u1, u2, upd_same, dp_fr hp17 f18 (dp_same s17 hn16), dp_fr hp17 f18 (dp_same s17 hz16), dp_fr hp17 f18 (dp_same s17 hg16)⟩
/-- what a method hands out of a program -/
theorem dp_row {K : PySem.W.Frag} {H : Hp} {v : V} {α : Type} {xs : List α} {f : α → PyData} {k : Nat} {x : α} (h : Dp K H v (.tuple (xs.map f))) (e : xs[k]? = some x) : ∃ a ys y, v = .ref a ∧ SqT K H a ys ∧ atI ys (k : Int) = some y ∧ Dp K H y (f x) := by
  obtain ⟨a, ys, rfl, hq, hk⟩ := dp_tup' h
  have l := dpa_len hk
  rw [List.length_map] at l
  have hi : k < ys.length := by rw [l]; exact (List.getElem?_eq_some_iff.mp e).1
  obtain ⟨d, ed, hd⟩ := dpa_getx' hk (List.getElem?_eq_getElem hi)
  rw [List.getElem?_map, e] at ed
  cases ed
  exact ⟨a, ys, _, rfl, hq, atI_nat (List.getElem?_eq_getElem hi), hd⟩
def sp_meth (K : PySem.W.Frag) (C : Addr) (f : Pg → Pr → PyData) : Sp := fun us H Q _ => ∃ (p : Addr) (g : Pg) (k : Nat) (pr : Pr), us = [.ref p, .int (k : Int)] ∧ PgAt K C H p g ∧ g.ps[k]? = some pr ∧ ∀ v, Dp K H v (f g pr) → Q v H
theorem ok_Program_names (T : Txt P K mg c) : HasM P w K mg base 1 (c 56) "names" ["self", "procedure"] (sp_meth K (c id_Program) fun g p => .tuple (((scp g.vs p).map Vr.nm).map .str)) := by
  obtain ⟨f, fd, F, m, b⟩ := T.d_Program_names
  refine ⟨f, fd, F.ok sc_Program_names (fun vs H Q E h => ?_) (fun cdv A outer s H vs Q E hr h => ?_), m, b⟩
  · obtain ⟨p, g, k, pr, rfl, hc, hk, q⟩ := h
    rfl
  obtain ⟨p, g, k, pr, rfl, hc, hk, q⟩ := h
  refine ⟨_, (pss_one (ps_ret (pe_ix ix_tup (pe_fld (pv 0) rfl) (pv 1) (fun _ _ => rfl)))), ?_⟩
  obtain ⟨dx, v, x, n, z, s, pl, pt, hp, d1, d2, d3⟩ := hc
  obtain ⟨a, ys, y, rfl, hq, hy, hd⟩ := dp_row d1 hk
  exact ⟨_, rfl, p, _, dx, _, _, rfl, hp, T.cl_Program, T.n_Program__names, pf9_n, _, rfl, a, ys, _, _, rfl, rfl, hq, hy, q _ hd⟩
theorem ok_Program_sizes (T : Txt P K mg c) : HasM P w K mg base 1 (c 56) "sizes" ["self", "procedure"] (sp_meth K (c id_Program) fun g p => .tuple (((scp g.vs p).map Vr.sz).map .int)) := by
  obtain ⟨f, fd, F, m, b⟩ := T.d_Program_sizes
  refine ⟨f, fd, F.ok sc_Program_sizes (fun vs H Q E h => ?_) (fun cdv A outer s H vs Q E hr h => ?_), m, b⟩
  · obtain ⟨p, g, k, pr, rfl, hc, hk, q⟩ := h
    rfl
  obtain ⟨p, g, k, pr, rfl, hc, hk, q⟩ := h
  refine ⟨_, (pss_one (ps_ret (pe_ix ix_tup (pe_fld (pv 0) rfl) (pv 1) (fun _ _ => rfl)))), ?_⟩
  obtain ⟨dx, v, x, n, z, s, pl, pt, hp, d1, d2, d3⟩ := hc
  obtain ⟨a, ys, y, rfl, hq, hy, hd⟩ := dp_row d2 hk
  exact ⟨_, rfl, p, _, dx, _, _, rfl, hp, T.cl_Program, T.n_Program__sizes, pf9_z, _, rfl, a, ys, _, _, rfl, rfl, hq, hy, q _ hd⟩
theorem ok_Program_sights (T : Txt P K mg c) : HasM P w K mg base 1 (c 56) "sights" ["self", "procedure"] (sp_meth K (c id_Program) fun g p => sgsD ((scp g.vs p).map Vr.sz)) := by
  obtain ⟨f, fd, F, m, b⟩ := T.d_Program_sights
  refine ⟨f, fd, F.ok sc_Program_sights (fun vs H Q E h => ?_) (fun cdv A outer s H vs Q E hr h => ?_), m, b⟩
  · obtain ⟨p, g, k, pr, rfl, hc, hk, q⟩ := h
    rfl
  obtain ⟨p, g, k, pr, rfl, hc, hk, q⟩ := h
  refine ⟨_, (pss_one (ps_ret (pe_ix ix_tup (pe_fld (pv 0) rfl) (pv 1) (fun _ _ => rfl)))), ?_⟩
  obtain ⟨dx, v, x, n, z, s, pl, pt, hp, d1, d2, d3⟩ := hc
  obtain ⟨a, ys, y, rfl, hq, hy, hd⟩ := dp_row d3 hk
  exact ⟨_, rfl, p, _, dx, _, _, rfl, hp, T.cl_Program, T.n_Program__sights, pf9_s, _, rfl, a, ys, _, _, rfl, rfl, hq, hy, q _ hd⟩


end
end Pf

namespace Pf
open PySem PySem.Spec PyProof.Rows L2
section
variable {P : Program} {w : World} {K : PySem.W.Frag} {mg : Str → Option Value} {base : Heap}
variable {c : Nat → Addr}
/-! ### names that are drawn -/
def digS : List Nat := (Str.ofString "0123456789").cps.toList
theorem wrd_split : wrdS = lowS ++ digS := by decide +kernel
theorem low_len : lowS.length = 26 := by decide +kernel
theorem dig_len : digS.length = 10 := by decide +kernel
theorem low_nd : lowS.Nodup := by decide +kernel
theorem low_wrd {c : Nat} (h : c ∈ lowS) : c ∈ wrdS := by rw [wrd_split]; exact List.mem_append_left _ h
theorem dig_wrd {c : Nat} (h : c ∈ digS) : c ∈ wrdS := by rw [wrd_split]; exact List.mem_append_right _ h
theorem wrd_low {i c : Nat} (h : wrdS[i]? = some c) (l : i < 26) : c ∈ lowS := by
  rw [wrd_split, List.getElem?_append_left (by rw [low_len]; exact l)] at h
  exact List.mem_of_getElem? h
theorem kw_dig : ∀ z ∈ kwS, ∀ c ∈ z.cps.toList, c ∉ digS := by decide +kernel
theorem kw_split : Txt.split (Str.ofString "letters answers global proc local read write if then else while do call skip end and or not") (Str.ofString " ") = kwS := by decide +kernel
theorem not_inV {z : Str} {ws : List Str} (h : inV (.str z) (ws.map V.str) = false) : z ∉ ws := fun m => by
  unfold inV at h
  rw [List.any_eq_false] at h
  exact h (.str z) (List.mem_map.mpr ⟨z, m, rfl⟩) (by simp [eqV])
theorem is_inV {z : Str} {ws : List Str} (h : inV (.str z) (ws.map V.str) = true) : z ∈ ws := by
  unfold inV at h
  obtain ⟨x, hx, e⟩ := List.any_eq_true.mp h
  obtain ⟨y, hy, rfl⟩ := List.mem_map.mp hx
  have e2 : y = z := by simpa [eqV] using e
  exact e2 ▸ hy
theorem cutS_to {z : Str} {v : Int} (h : 0 ≤ v) : (cutS z none (some v)).cps.toList = z.cps.toList.take v.toNat := by
  obtain ⟨n, rfl⟩ := Int.eq_ofNat_of_zero_le h
  unfold cutS
  rw [HT.sIx_none, show HT.sIx z.length z.length (some (n : Int)) = min n z.length from HT.sIx_nat z.length z.length n, Nat.sub_zero, List.drop_zero]
  show z.cps.toList.take (min n z.length) = _
  rw [Int.toNat_natCast]
  by_cases e : n ≤ z.length
  · rw [Nat.min_eq_left e]
  · have l : z.cps.toList.length = z.length := Array.length_toList
    rw [Nat.min_eq_right (by omega), List.take_of_length_le (by omega), List.take_of_length_le (by omega)]
theorem cutS_from {z : Str} {v : Int} (h : 0 ≤ v) : (cutS z (some v) none).cps.toList = z.cps.toList.drop v.toNat := by
  obtain ⟨n, rfl⟩ := Int.eq_ofNat_of_zero_le h
  have l : z.cps.toList.length = z.length := Array.length_toList
  unfold cutS
  rw [HT.sIx_none, show HT.sIx z.length 0 (some (n : Int)) = min n z.length from HT.sIx_nat z.length 0 n]
  show (z.cps.toList.drop (min n z.length)).take (z.length - min n z.length) = _
  rw [Int.toNat_natCast]
  by_cases e : n ≤ z.length
  · rw [Nat.min_eq_left e]
    exact List.take_of_length_le (by rw [List.length_drop]; omega)
  · rw [Nat.min_eq_right (by omega), Nat.sub_self, List.take_zero, List.drop_of_length_le (by omega)]
theorem str_ext {x y : Str} (h : x.cps.toList = y.cps.toList) : x = y := by
  cases x
  cases y
  congr 1
  exact Array.toList_inj.mp h
theorem str_app (x y : Str) : (x ++ y).cps.toList = x.cps.toList ++ y.cps.toList := Array.toList_append
theorem str_one (c : Nat) : (⟨#[c]⟩ : Str).cps.toList = [c] := rfl
theorem nodup_le {α : Type} [DecidableEq α] : ∀ {xs ys : List α}, xs.Nodup → (∀ x ∈ xs, x ∈ ys) → xs.length ≤ ys.length
  | [], _, _, _ => Nat.zero_le _
  | x :: xs, ys, h, k => by
    have hx := k x List.mem_cons_self
    rw [List.nodup_cons] at h
    have ih := nodup_le (ys := ys.erase x) h.2 fun y hy => (List.mem_erase_of_ne (a := y) (b := x) (fun e : y = x => h.1 (by rw [← e]; exact hy))).mpr (k y (List.mem_cons_of_mem _ hy))
    rw [List.length_erase_of_mem hx] at ih
    have : 0 < ys.length := List.length_pos_of_mem hx
    rw [List.length_cons]
    omega
/-- a word of letters and digits behind a letter -/
structure WdOk (z : Str) : Prop where
  hd : ∃ c, z.cps.toList[0]? = some c ∧ c ∈ lowS
  ch : ∀ c ∈ z.cps.toList, c ∈ wrdS
/-- the k-th of the words that differ in one letter -/
def letK (f : Int) (k : Nat) : Nat := lowS.getD ((f + (k : Int)) % 26).toNat 0
def wdK (A B : Str) (f : Int) (d : Nat) (k : Nat) : Str := A ++ ⟨#[letK f k]⟩ ++ B ++ ⟨#[d]⟩
theorem letK_at {f : Int} {k : Nat} : lowS[((f + (k : Int)) % 26).toNat]? = some (letK f k) := by
  have h : ((f + (k : Int)) % 26).toNat < lowS.length := by rw [low_len]; omega
  unfold letK
  rw [List.getD_eq_getElem?_getD, List.getElem?_eq_getElem h]
  rfl
theorem letK_low (f : Int) (k : Nat) : letK f k ∈ lowS := List.mem_of_getElem? letK_at
theorem letK_inj {f : Int} {i j : Nat} (hi : i < 26) (hj : j < 26) (h : letK f i = letK f j) : i = j := by
  have e1 := letK_at (f := f) (k := i)
  have e2 := letK_at (f := f) (k := j)
  rw [h] at e1
  have l1 := (List.getElem?_eq_some_iff.mp e1)
  have l2 := (List.getElem?_eq_some_iff.mp e2)
  have e : ((f + (i : Int)) % 26).toNat = ((f + (j : Int)) % 26).toNat := by
    obtain ⟨a, ea⟩ := l1
    obtain ⟨b, eb⟩ := l2
    exact (List.getElem_inj low_nd).mp (ea.trans eb.symm)
  omega
theorem wdK_cps (A B : Str) (f : Int) (d k : Nat) : (wdK A B f d k).cps.toList = A.cps.toList ++ ([letK f k] ++ (B.cps.toList ++ [d])) := by
  unfold wdK
  rw [str_app, str_app, str_app, str_one, str_one, List.append_assoc, List.append_assoc]
theorem wdK_inj {A B : Str} {f : Int} {d i j : Nat} (hi : i < 26) (hj : j < 26) (h : wdK A B f d i = wdK A B f d j) : i = j := by
  have e := congrArg (fun z : Str => z.cps.toList) h
  have e : (wdK A B f d i).cps.toList = (wdK A B f d j).cps.toList := e
  rw [wdK_cps, wdK_cps] at e
  have e2 := List.append_cancel_left e
  exact letK_inj hi hj (List.cons.inj e2).1
theorem wdK_nm {z : Str} {v f : Int} {d k : Nat} (hz : z.length ≤ 6) (hw : z.length = 0 ∨ WdOk z) (h0 : 0 ≤ v) (h1 : v ≤ z.length) (hd : d ∈ digS) : NmOk (wdK (cutS z none (some v)) (cutS z (some v) none) f d k) := by
  have l : z.cps.toList.length = z.length := Array.length_toList
  have chz : ∀ c ∈ z.cps.toList, c ∈ wrdS := fun c hc => by
    rcases hw with e | w
    · rw [List.eq_nil_of_length_eq_zero (l.trans e)] at hc
      cases hc
    · exact w.ch c hc
  have cps := wdK_cps (cutS z none (some v)) (cutS z (some v) none) f d k
  rw [cutS_to h0, cutS_from h0] at cps
  generalize wdK (cutS z none (some v)) (cutS z (some v) none) f d k = w at cps
  have lw : w.cps.toList.length = w.length := Array.length_toList
  have ln : w.length = z.length + 2 := by
    rw [← lw, cps, List.length_append, List.length_append, List.length_append, List.length_take, List.length_drop, l]
    show min v.toNat z.length + (1 + (z.length - v.toNat + 1)) = _
    omega
  refine ⟨by omega, by omega, ?_, fun c hc => ?_, fun m => ?_⟩
  · rw [cps]
    by_cases e : v.toNat = 0
    · rw [e, List.take_zero]
      exact ⟨_, rfl, letK_low f k⟩
    · rcases hw with e0 | w
      · omega
      · obtain ⟨c, hc, hl⟩ := w.hd
        refine ⟨c, ?_, hl⟩
        rw [List.getElem?_append_left (by rw [List.length_take, l]; omega), List.getElem?_take_of_lt (by omega)]
        exact hc
  · rw [cps] at hc
    rcases List.mem_append.mp hc with hc | hc
    · exact chz c (List.mem_of_mem_take hc)
    rcases List.mem_append.mp hc with hc | hc
    · rcases List.mem_singleton.mp hc with rfl
      exact low_wrd (letK_low f k)
    rcases List.mem_append.mp hc with hc | hc
    · exact chz c (List.mem_of_mem_drop hc)
    · rcases List.mem_singleton.mp hc with rfl
      exact dig_wrd hd
  · refine kw_dig w m d ?_ hd
    rw [cps]
    exact List.mem_append_right _ (List.mem_append_right _ (List.mem_append_right _ (List.mem_singleton.mpr rfl)))


end
end Pf

namespace Pf
open PySem PySem.Spec PyProof.Rows L2
section
variable {P : Program} {w : World} {K : PySem.W.Frag} {mg : Str → Option Value} {base : Heap}
variable {c : Nat → Addr}
theorem strs_flat (ws : List Str) : (ws.map V.str).all flatV = true := by
  rw [List.all_map]
  exact List.all_eq_true.mpr fun _ _ => rfl
def sp__law_word (K : PySem.W.Frag) : Sp := fun vs H Q _ => ∃ (r : Addr) (n : Int), vs = [.ref r, .int n] ∧ RD H r ∧ 0 ≤ n ∧ n ≤ 1000 ∧ ∀ (z : Str) H', Fr r H H' → RD H' r → (z.length : Int) = n + 1 → WdOk z → Q (.str z) H'
theorem ok__law_word (T : Txt P K mg c) : Has P w K mg base 2 "_law_word" ["reader", "many"] (sp__law_word K) := by
  obtain ⟨f, fd, F, m, b⟩ := T.d__law_word.ex
  obtain ⟨f__law_next, fd__law_next, G__law_next, m__law_next, k__law_next, b__law_next⟩ := ok__law_next (P := P) (w := w) (base := base) T
  refine ⟨f, fd, F.ok sc__law_word (fun vs H Q E h => ?_) (fun cdv A outer s H vs Q E hr h => ?_), m, F.kp, b⟩
  · obtain ⟨r, n, rfl, hR, h0, h1, q⟩ := h
    rfl
  obtain ⟨r, n, rfl, hR, h0, h1, q⟩ := h
  refine ⟨_, (pss_cons (ps_set (i := 2) sc__law_word.nd rfl (.inl rfl) pe_str)
      (pss_cons (ps_set (i := 3) sc__law_word.nd rfl (.inl rfl) (pe_ix ix_str (pv 2) (pe_call G__law_next (hr.mono (by decide)) (by rfl) m__law_next k__law_next b__law_next .nil pass0 (pa_cons (pv 0) (pa_cons pe_int pa_nil))) (fun _ _ => rfl)))
      (pss_cons (ps_for PassesOwn.never rfl (pi_range1 (by rfl) T.z_range (pa_cons (pv 1) pa_nil)) (pg_name (i := 4) sc__law_word.nd rfl (.inl rfl))
      (pss_one (ps_set (i := 3) sc__law_word.nd rfl (.inl rfl) (pe_op op_add_str (pv 3) (pe_ix ix_str (pv 2) (pe_call G__law_next (hr.mono (by decide)) (by rfl) m__law_next k__law_next b__law_next .nil pass0 (pa_cons (pv 0) (pa_cons pe_int pa_nil))) (fun _ _ => rfl))))))
      (pss_one (ps_ret (pv 3)))))), ?_⟩
  have bs : ∀ {i : Int}, 0 ≤ i → i < 36 → ∃ c, wrdS[i.toNat]? = some c ∧ atI (Str.ofString "abcdefghijklmnopqrstuvwxyz0123456789").cps.toList i = some c := fun {i} a b =>
    at_in (xs := (Str.ofString "abcdefghijklmnopqrstuvwxyz0123456789").cps.toList) a (by rw [show (Str.ofString "abcdefghijklmnopqrstuvwxyz0123456789").cps.toList.length = 36 by decide +kernel]; exact b)
  have ls : (Str.ofString "abcdefghijklmnopqrstuvwxyz0123456789").length ≤ sizeLine := by decide +kernel
  refine ⟨_, rfl, _, rfl, r, 26, rfl, hR, by decide, by decide, fun v H1 f1 R1 v0 v1 => ?_⟩
  obtain ⟨c, hm, hc⟩ := bs v0 (by omega)
  have hlow := wrd_low hm (by omega)
  refine ⟨_, _, c, rfl, rfl, ls, hc, ?_⟩
  refine ⟨_, rfl, n, rfl, by omega, by omega, for_range (fun i σ H2 => ∃ (z : Str) (y : Option V), σ = [some (.ref r), some (.int n), some (.str "abcdefghijklmnopqrstuvwxyz0123456789"), some (.str z), y] ∧ Fr r H H2 ∧ RD H2 r ∧ z.length = i + 1 ∧ WdOk z) ⟨_, _, rfl, f1, R1, rfl, ⟨c, rfl, hlow⟩, fun d hd => by rcases List.mem_singleton.mp hd with rfl; exact low_wrd hlow⟩ ?_ ?_⟩
  · rintro i σ H2 hi ⟨z, y, rfl, f2, R2, hz, zo⟩
    refine ⟨_, rfl, _, rfl, _, rfl, r, 36, rfl, R2, by decide, by decide, fun v2 H3 f3 R3 w0 w1 => ?_⟩
    obtain ⟨c2, hm2, hc2⟩ := bs w0 w1
    refine ⟨_, _, c2, rfl, rfl, ls, hc2, ?_⟩
    refine ⟨_, _, rfl, rfl, ?_, ?_⟩
    · rw [one_len, hz]
      exact line_small (by omega)
    · refine ⟨_, _, rfl, f2.trans f3, R3, ?_, ?_⟩
      · rw [app_len, one_len, hz]
      · obtain ⟨⟨d, hd, hl⟩, hch⟩ := zo
        refine ⟨⟨d, ?_, hl⟩, fun e he => ?_⟩
        · rw [str_app, List.getElem?_append_left (List.getElem?_eq_some_iff.mp hd).1]
          exact hd
        · rw [str_app] at he
          rcases List.mem_append.mp he with he | he
          · exact hch e he
          · rcases List.mem_singleton.mp he with rfl
            exact List.mem_of_getElem? hm2
  · rintro σ H2 ⟨z, y, rfl, f2, R2, hz, zo⟩
    refine ⟨_, rfl, q z H2 f2 R2 (by omega) zo⟩
/-- a pool of names -/
structure PoolOk (ws : List Str) : Prop where
  nd : ws.Nodup
  nm : ∀ z ∈ ws, NmOk z
theorem PoolOk.more {ws : List Str} {z : Str} (h : PoolOk ws) (n : z ∉ ws) (k : NmOk z) : PoolOk (ws ++ [z]) := by
  refine ⟨List.nodup_append.mpr ⟨h.nd, by simp, fun a ha b hb e => ?_⟩, fun y hy => ?_⟩
  · rcases List.mem_singleton.mp hb with rfl
    exact n (e ▸ ha)
  · rcases List.mem_append.mp hy with hy | hy
    · exact h.nm y hy
    · rcases List.mem_singleton.mp hy with rfl
      exact k
def sp__law_pool (K : PySem.W.Frag) : Sp := fun vs H Q _ => ∃ (r : Addr), vs = [.ref r] ∧ RD H r ∧ ∀ (p : Addr) (ws : List Str) (H' : Hp), Fr r H H' → RD H' r → H p = none → H' p = some (.lst (ws.map V.str)) → ws.length = 12 → PoolOk ws → Q (.ref p) H'
theorem ok__law_pool (T : Txt P K mg c) : Has P w K mg base 3 "_law_pool" ["reader"] (sp__law_pool K) := by
  obtain ⟨f, fd, F, m, b⟩ := T.d__law_pool.ex
  obtain ⟨f__law_next, fd__law_next, G__law_next, m__law_next, k__law_next, b__law_next⟩ := ok__law_next (P := P) (w := w) (base := base) T
  obtain ⟨f__law_word, fd__law_word, G__law_word, m__law_word, k__law_word, b__law_word⟩ := ok__law_word (P := P) (w := w) (base := base) T
  refine ⟨f, fd, F.ok sc__law_pool (fun vs H Q E h => ?_) (fun cdv A outer s H vs Q E hr h => ?_), m, F.kp, b⟩
  · obtain ⟨r, rfl, hR, q⟩ := h
    rfl
  obtain ⟨r, rfl, hR, q⟩ := h
  refine ⟨_, (pss_cons (ps_set (i := 1) sc__law_pool.nd rfl (.inl rfl) (pe_split pe_str pe_str))
      (pss_cons (ps_set (i := 2) sc__law_pool.nd rfl (.inl rfl) (pe_lst pa_nil))
      (pss_cons (ps_set (i := 3) sc__law_pool.nd rfl (.inl rfl) (pe_cmpR op_eq (pe_call G__law_next (hr.mono (by decide)) (by rfl) m__law_next k__law_next b__law_next .nil pass0 (pa_cons (pv 0) (pa_cons pe_int pa_nil))) pe_int (nomark _)))
      (pss_cons (ps_for PassesOwn.never rfl (pi_range1 (by rfl) T.z_range (pa_cons pe_int pa_nil)) (pg_name (i := 4) sc__law_pool.nd rfl (.inl rfl))
      (pss_cons (ps_set (i := 5) sc__law_pool.nd rfl (.inl rfl) (pe_call G__law_word (hr.mono (by decide)) (by rfl) m__law_word k__law_word b__law_word .nil pass0 (pa_cons (pv 0) (pa_cons (pe_call G__law_next (hr.mono (by decide)) (by rfl) m__law_next k__law_next b__law_next .nil pass0 (pa_cons (pv 0) (pa_cons pe_int pa_nil))) pa_nil))))
        (pss_one (ps_if (PW.pt (pw_and (pt_not (pt_val (pv 3))) (pw_and (pt_cmpR op_notIn_seq (pv 5) (pv 1) (by rfl)) (pw_and1 (pt_cmpR op_notIn_seq (pv 5) (pv 2) (by rfl))))))
        (pss_one (ps_expr (pe_bm PySem.F.plainAttrs_list PySem.F.slot_list_append PySem.F.type_list_append mt_append (pv 2) (pa_cons (pv 5) pa_nil))))
        pss_nil))))
      (pss_cons (ps_set (i := 6) sc__law_pool.nd rfl (.inl rfl) (pe_slice sl_str (pe_call G__law_word (hr.mono (by decide)) (by rfl) m__law_word k__law_word b__law_word .nil pass0 (pa_cons (pv 0) (pa_cons pe_int pa_nil))) po_none (po_some (pe_call G__law_next (hr.mono (by decide)) (by rfl) m__law_next k__law_next b__law_next .nil pass0 (pa_cons (pv 0) (pa_cons pe_int pa_nil))))))
      (pss_cons (ps_set (i := 7) sc__law_pool.nd rfl (.inl rfl) (pe_ix ix_str pe_str (pe_call G__law_next (hr.mono (by decide)) (by rfl) m__law_next k__law_next b__law_next .nil pass0 (pa_cons (pv 0) (pa_cons pe_int pa_nil))) (fun _ _ => rfl)))
      (pss_cons (ps_set (i := 8) sc__law_pool.nd rfl (.inl rfl) (pe_call G__law_next (hr.mono (by decide)) (by rfl) m__law_next k__law_next b__law_next .nil pass0 (pa_cons (pv 0) (pa_cons (pe_op op_add (pe_callB call_len_str (by rfl) T.z_len (by decide +kernel) (pa_cons (pv 6) pa_nil)) pe_int) pa_nil))))
      (pss_cons (ps_set (i := 9) sc__law_pool.nd rfl (.inl rfl) (pe_call G__law_next (hr.mono (by decide)) (by rfl) m__law_next k__law_next b__law_next .nil pass0 (pa_cons (pv 0) (pa_cons pe_int pa_nil))))
      (pss_cons (ps_for PassesOwn.never rfl (pi_range1 (by rfl) T.z_range (pa_cons pe_int pa_nil)) (pg_name (i := 4) sc__law_pool.nd rfl (.inl rfl))
      (pss_cons (ps_set (i := 5) sc__law_pool.nd rfl (.inl rfl) (pe_op op_add_str (pe_op op_add_str (pe_op op_add_str (pe_slice sl_str (pv 6) po_none (po_some (pv 8))) (pe_ix ix_str pe_str (pe_op op_mod (pe_callTy call_int1 (by rfl) T.z_int (by decide +kernel) (pa_cons (pe_op op_add (pv 9) (pv 4)) pa_nil)) pe_int) (fun _ _ => rfl))) (pe_slice sl_str (pv 6) (po_some (pv 8)) po_none)) (pv 7)))
        (pss_one (ps_if (pt_cmpR op_notIn_seq (pv 5) (pv 2) (by rfl))
        (pss_one (ps_expr (pe_bm PySem.F.plainAttrs_list PySem.F.slot_list_append PySem.F.type_list_append mt_append (pv 2) (pa_cons (pv 5) pa_nil))))
        pss_nil))))
      (pss_one (ps_ret (pe_slice sl_list (pv 2) po_none (po_some pe_int))))))))))))), ?_⟩
  refine ⟨⟨_, rfl⟩, _, _, rfl, rfl, by decide +kernel, by decide +kernel, fun cl ncl => ?_⟩
  rw [kw_split]
  refine ⟨Nat.zero_le _, fun po npo => ?_⟩
  have hcl : upd (upd H cl (.lst (kwS.map V.str))) po (.lst []) cl = some (.lst (kwS.map V.str)) := same_new npo _ _ upd_same
  have npo' : H po = none := same_back (same_new ncl) npo
  have ncp : cl ≠ po := ne_of_none upd_same npo
  have f0 : Fr r H (upd (upd H cl (.lst (kwS.map V.str))) po (.lst [])) := (Fr.new ncl).trans (Fr.new npo)
  have R0 : RD (upd (upd H cl (.lst (kwS.map V.str))) po (.lst [])) r := (hR.of (same_new ncl)).of (same_new npo)
  have hpo : upd (upd H cl (.lst (kwS.map V.str))) po (.lst []) po = some (.lst (([] : List Str).map V.str)) := upd_same
  generalize upd (upd H cl (.lst (kwS.map V.str))) po (.lst []) = H1 at hcl f0 R0 hpo ⊢
  refine ⟨_, rfl, r, 2, rfl, R0, by decide, by decide, fun v H2 f2 R2 v0 v1 => ?_⟩
  refine ⟨rfl, ?_⟩
  have nr : cl ≠ r ∧ po ≠ r := ⟨hR.ne ncl, hR.ne npo'⟩
  have hcl2 := f2 _ _ nr.1 hcl
  have hpo2 := f2 _ _ nr.2 hpo
  generalize decide (V.int v = V.int 1) = al
  refine ⟨12, rfl, by decide, by decide, for_range (fun i σ H3 => ∃ (ws : List Str) (y1 y2 : Option V), σ = [some (.ref r), some (.ref cl), some (.ref po), some (.bl al), y1, y2, none, none, none, none] ∧ Fr r H H3 ∧ RD H3 r ∧ H3 cl = some (.lst (kwS.map V.str)) ∧ H3 po = some (.lst (ws.map V.str)) ∧ ws.length ≤ i ∧ PoolOk ws)
    ⟨_, _, _, rfl, f0.trans f2, R2, hcl2, hpo2, Nat.le_refl _, List.nodup_nil, fun x hx => nomatch hx⟩ ?_ ?_⟩
  · rintro i σ H3 hi ⟨ws, y1, y2, rfl, f3, R3, hc3, hp3, hl, ho⟩
    refine ⟨_, rfl, _, rfl, r, 8, rfl, R3, by decide, by decide, fun v4 H4 f4 R4 a0 a1 => ?_⟩
    refine ⟨r, v4, rfl, R4, a0, by omega, fun z H5 f5 R5 hz zo => ?_⟩
    have hc5 := f5 _ _ nr.1 (f4 _ _ nr.1 hc3)
    have hp5 := f5 _ _ nr.2 (f4 _ _ nr.2 hp3)
    have f35 := f3.trans (f4.trans f5)
    have next : ∀ {σ' : L2.St}, σ' = [some (.ref r), some (.ref cl), some (.ref po), some (.bl al), some (.int (0 + (i : Int))), some (.str z), none, none, none, none] → ∃ (ws : List Str) (y1 y2 : Option V), σ' = [some (.ref r), some (.ref cl), some (.ref po), some (.bl al), y1, y2, none, none, none, none] ∧ Fr r H H5 ∧ RD H5 r ∧ H5 cl = some (.lst (kwS.map V.str)) ∧ H5 po = some (.lst (ws.map V.str)) ∧ (ws.length ≤ i + 1 ∧ PoolOk ws) :=
      fun e => ⟨ws, _, _, e, f35, R5, hc5, hp5, by omega, ho⟩
    refine ⟨_, rfl, _, rfl, ite2 (fun e => ?_) (fun e => iteF (next rfl))⟩
    refine ⟨_, rfl, _, rfl, cl, _, rfl, .inl (SqL.of hc5), rfl, kw_flat, _, rfl, ite2 (fun e1 => ?_) (fun e => iteF (next rfl))⟩
    refine ⟨_, rfl, _, rfl, po, _, rfl, .inl (SqL.of hp5), rfl, strs_flat _, _, rfl, ite2 (fun e2 => ?_) (fun e => next rfl)⟩
    have k1 : z ∉ kwS := not_inV (by simpa using e1)
    have k2 : z ∉ ws := not_inV (by simpa using e2)
    refine ⟨_, rfl, .inl ⟨rfl, _, SqL.of hp5⟩, _, rfl, po, _, _, rfl, rfl, hp5, ?_, ?_⟩
    · rw [List.length_map]
      exact small1000 (by omega)
    · refine ⟨ws ++ [z], _, _, rfl, f35.mut npo', ?_, ?_, ?_, ?_, ho.more k2 ⟨by omega, by omega, zo.hd, zo.ch, k1⟩⟩
      · obtain ⟨x1, x2, x3, x4⟩ := R5
        exact ⟨x1, x2, x3, by rw [upd_ne nr.2.symm]; exact x4⟩
      · rw [upd_ne ncp]
        exact hc5
      · rw [upd_same]
        simp
      · rw [List.length_append]
        show ws.length + 1 ≤ i + 1
        omega
  · rintro σ H3 ⟨ws, y1, y2, rfl, f3, R3, hc3, hp3, hl, ho⟩
    refine ⟨_, rfl, r, 6, rfl, R3, by decide, by decide, fun z H5 f5 R5 hz zo => ?_⟩
    refine ⟨_, rfl, r, 7, rfl, R5, by decide, by decide, fun v6 H6 f6 R6 a0 a1 => ?_⟩
    have lz : z.length ≤ 100000 := by omega
    refine ⟨v6, rfl, z, rfl, line_small lz, ?_⟩
    have cb := cutS_to (z := z) a0
    generalize cutS z none (some v6) = ba at cb ⊢
    have lb : ba.length ≤ 6 := by
      have : ba.cps.toList.length = ba.length := Array.length_toList
      rw [← this, cb, List.length_take]
      omega
    have bo : ba.length = 0 ∨ WdOk ba := by
      by_cases e0 : v6.toNat = 0
      · left
        have : ba.cps.toList.length = ba.length := Array.length_toList
        rw [← this, cb, e0, List.take_zero]
        rfl
      · right
        refine ⟨?_, fun c hc => ?_⟩
        · obtain ⟨c, hc, hl⟩ := zo.hd
          refine ⟨c, ?_, hl⟩
          rw [cb, List.getElem?_take_of_lt (by omega)]
          exact hc
        · rw [cb] at hc
          exact zo.ch c (List.mem_of_mem_take hc)
    refine ⟨_, rfl, r, 10, rfl, R6, by decide, by decide, fun v7 H7 f7 R7 b0 b1 => ?_⟩
    obtain ⟨c7, hm7, hc7⟩ := at_in (xs := (Str.ofString "0123456789").cps.toList) b0 (by rw [show (Str.ofString "0123456789").cps.toList.length = 10 by decide +kernel]; exact b1)
    have h7 : c7 ∈ digS := List.mem_of_getElem? hm7
    refine ⟨_, _, _, rfl, rfl, by decide +kernel, hc7, ?_⟩
    refine ⟨_, rfl, _, rfl, _, rfl, line_small (by omega), _, _, rfl, rfl, r, _, rfl, R7, by omega, by omega, fun v8 H8 f8 R8 d0 d1 => ?_⟩
    refine ⟨_, rfl, r, 26, rfl, R8, by decide, by decide, fun v9 H9 f9 R9 e0 e1 => ?_⟩
    have fa := f3.trans (f5.trans (f6.trans (f7.trans (f8.trans f9))))
    have hp9 := f9 _ _ nr.2 (f8 _ _ nr.2 (f7 _ _ nr.2 (f6 _ _ nr.2 (f5 _ _ nr.2 hp3))))
    refine ⟨26, rfl, by decide, by decide, for_range (fun i σ H3 => ∃ (ws : List Str) (y1 y2 : Option V), σ = [some (.ref r), some (.ref cl), some (.ref po), some (.bl al), y1, y2, some (.str ba), some (.str ⟨#[c7]⟩), some (.int v8), some (.int v9)] ∧ Fr r H H3 ∧ RD H3 r ∧ H3 po = some (.lst (ws.map V.str)) ∧ ws.length ≤ 12 + i ∧ PoolOk ws ∧ ∀ k, k < i → wdK (cutS ba none (some v8)) (cutS ba (some v8) none) v9 c7 k ∈ ws)
      ⟨_, _, _, rfl, fa, R9, hp9, by omega, ho, fun k hk => absurd hk (Nat.not_lt_zero _)⟩ ?_ ?_⟩
    · rintro i σ H3 hi ⟨ws, y1, y2, rfl, f3, R3, hp3, hl, ho, hk⟩
      have hat : atI (Str.ofString "abcdefghijklmnopqrstuvwxyz").cps.toList ((v9 + (0 + (i : Int))) % 26) = some (letK v9 i) := by
        rw [Int.zero_add]
        have h := letK_at (f := v9) (k := i)
        have hn : 0 ≤ (v9 + (i : Int)) % 26 := (mod_lt (by decide)).1
        obtain ⟨n, en⟩ := Int.eq_ofNat_of_zero_le hn
        rw [en] at h ⊢
        exact atI_nat h
      have l1 := cutS_len ba none (some v8)
      have l2 := cutS_len ba (some v8) none
      refine ⟨_, rfl, ⟨_, rfl, _, rfl, _, rfl, line_small (by omega), ?_⟩⟩
      refine ⟨_, rfl, _, rfl, _, _, rfl, rfl, .inl ⟨_, rfl, _, _, rfl, rfl, (show (0 : Int) < 26 by decide), _, _, _, rfl, rfl, by decide +kernel, hat, ?_⟩⟩
      refine ⟨_, _, rfl, rfl, line_small (by rw [one_len]; omega), ?_⟩
      refine ⟨_, rfl, ⟨_, rfl, _, rfl, _, rfl, line_small (by omega), ?_⟩⟩
      refine ⟨_, _, rfl, rfl, line_small (by rw [app_len, one_len]; omega), ?_⟩
      refine ⟨_, rfl, _, _, rfl, rfl, line_small (by rw [app_len, app_len, one_len, one_len]; omega), ?_⟩
      refine ⟨_, rfl, _, rfl, po, _, rfl, .inl (SqL.of hp3), rfl, strs_flat _, _, rfl, ite2 (fun e => ?_) (fun e => ?_)⟩
      · have k2 : wdK (cutS ba none (some v8)) (cutS ba (some v8) none) v9 c7 i ∉ ws := not_inV (by simpa [wdK] using e)
        refine ⟨_, rfl, .inl ⟨rfl, _, SqL.of hp3⟩, _, rfl, po, _, _, rfl, rfl, hp3, ?_, ?_⟩
        · rw [List.length_map]
          exact small1000 (by omega)
        · refine ⟨ws ++ [wdK (cutS ba none (some v8)) (cutS ba (some v8) none) v9 c7 i], _, _, rfl, f3.mut npo', ?_, ?_, ?_, ho.more k2 (wdK_nm lb bo d0 (by omega) h7), fun k hk' => ?_⟩
          · obtain ⟨x1, x2, x3, x4⟩ := R3
            exact ⟨x1, x2, x3, by rw [upd_ne nr.2.symm]; exact x4⟩
          · rw [upd_same]
            simp [wdK]
          · rw [List.length_append]
            show ws.length + 1 ≤ 12 + (i + 1)
            omega
          · rcases Nat.lt_succ_iff_lt_or_eq.mp hk' with hk' | rfl
            · exact List.mem_append_left _ (hk k hk')
            · exact List.mem_append_right _ (List.mem_singleton.mpr rfl)
      · have k2 : wdK (cutS ba none (some v8)) (cutS ba (some v8) none) v9 c7 i ∈ ws := is_inV (by simpa [wdK] using e)
        refine ⟨ws, _, _, rfl, f3, R3, hp3, by omega, ho, fun k hk' => ?_⟩
        rcases Nat.lt_succ_iff_lt_or_eq.mp hk' with hk' | rfl
        · exact hk k hk'
        · exact k2
    · rintro σ H3 ⟨ws, y1, y2, rfl, f3, R3, hp3, hl, ho, hk⟩
      have big : 26 ≤ ws.length := by
        have h := nodup_le (xs := (List.range 26).map (wdK (cutS ba none (some v8)) (cutS ba (some v8) none) v9 c7)) (ys := ws) ?_ fun x hx => ?_
        · rw [List.length_map, List.length_range] at h
          exact h
        · rw [List.nodup_iff_pairwise_ne, List.pairwise_map]
          exact (List.nodup_range (n := 26)).imp_of_mem fun ha hb hne e => hne (wdK_inj (List.mem_range.mp ha) (List.mem_range.mp hb) e)
        · obtain ⟨k, hk', rfl⟩ := List.mem_map.mp hx
          exact hk k (List.mem_range.mp hk')
      refine ⟨_, rfl, 12, rfl, po, _, rfl, SqL.of hp3, fun p np => ?_⟩
      refine q p (ws.take 12) _ (f3.trans (Fr.new np)) (R3.of (same_new np)) (f3.free hR R3 np) ?_ ?_ ⟨?_, fun x hx => ho.nm x (List.mem_of_mem_take hx)⟩
      · rw [upd_same, show cutV (ws.map V.str) none (some 12) = (ws.map V.str).take 12 from cut_to _ 12, List.map_take]
      · rw [List.length_take]
        omega
      · exact ho.nd.sublist (List.take_sublist _ _)


end
end Pf

namespace Pf
open PySem PySem.Spec PyProof.Rows L2
section
variable {P : Program} {w : World} {K : PySem.W.Frag} {mg : Str → Option Value} {base : Heap}
variable {c : Nat → Addr}
/-! ### all but two objects as they were; data beside lists that change -/
def Fr2 (r m : Addr) (H H' : Hp) : Prop := ∀ b o, b ≠ r → b ≠ m → H b = some o → H' b = some o
theorem Fr2.refl (r m : Addr) (H : Hp) : Fr2 r m H H := fun _ _ _ _ h => h
theorem Fr2.trans {r m : Addr} {H H1 H2 : Hp} (a : Fr2 r m H H1) (b : Fr2 r m H1 H2) : Fr2 r m H H2 := fun c o n k h => b c o n k (a c o n k h)
theorem Fr2.of {r m : Addr} {H H' : Hp} (a : Fr r H H') : Fr2 r m H H' := fun b o n _ h => a b o n h
theorem Fr2.new {r m p : Addr} {H : Hp} {o : HO} (h : H p = none) : Fr2 r m H (upd H p o) := Fr2.of (Fr.new h)
theorem Fr2.upd {r m : Addr} {H : Hp} {o : HO} : Fr2 r m H (upd H m o) := fun b u _ n e => by
  rw [upd_ne n]
  exact e
theorem Fr2.mut {r m p : Addr} {H H' : Hp} {o : HO} (a : Fr2 r m H H') (h : H p = none) : Fr2 r m H (L2.upd H' p o) := fun b u n k e => by
  rw [upd_ne (ne_of_none e h)]
  exact a b u n k e
/-- both are lists -/
def IsL (H : Hp) (r : Addr) : Prop := ∃ ys, H r = some (.lst ys)
theorem RD.l {H : Hp} {r : Addr} (h : RD H r) : IsL H r := let ⟨_, _, _, h⟩ := h; ⟨_, h⟩
theorem seqT_f2 {K : PySem.W.Frag} {H H' : Hp} {r m a : Addr} {xs : List V} (hr : IsL H r) (hm : IsL H m) (f : Fr2 r m H H') (h : SqT K H a xs) : SqT K H' a xs := by
  have ne : ∀ o, (∀ zs, o ≠ HO.lst zs) → H a = some o → H' a = some o := fun o no e => f a o (fun z => by
    subst z
    obtain ⟨ys, hr⟩ := hr
    rw [hr] at e
    exact no ys (Option.some.inj e).symm) (fun z => by
    subst z
    obtain ⟨ys, hm⟩ := hm
    rw [hm] at e
    exact no ys (Option.some.inj e).symm) e
  rcases h with (h | ⟨o, h⟩) | h
  · exact .inl (.inl (ne _ (fun zs z => nomatch z) h))
  · exact .inl (.inr ⟨o, ne _ (fun zs z => nomatch z) h⟩)
  · exact .inr h
mutual
theorem dp_f2 {K : PySem.W.Frag} {H H' : Hp} {r m : Addr} (hr : IsL H r) (hm : IsL H m) (f : Fr2 r m H H') : ∀ {v : V} {d : PyData} (n : Nat), tupOk n d → Dp K H v d → Dp K H' v d
  | _, _, _, _, .non => .non
  | _, _, _, _, .bl b => .bl b
  | _, _, _, _, .int i => .int i
  | _, _, _, _, .str x => .str x
  | _, _, 0, h, .lst _ _ => h.elim
  | _, _, _ + 1, h, .lst _ _ => h.elim
  | _, _, 0, h, .tup _ _ => h.elim
  | _, _, n + 1, h, .tup q k => .tup (seqT_f2 hr hm f q) (dpa_f2 hr hm f n h.2 k)
theorem dpa_f2 {K : PySem.W.Frag} {H H' : Hp} {r m : Addr} (hr : IsL H r) (hm : IsL H m) (f : Fr2 r m H H') : ∀ {xs : List V} {ds : List PyData} (n : Nat), (∀ d ∈ ds, tupOk n d) → DpAll K H xs ds → DpAll K H' xs ds
  | _, _, _, _, .nil => .nil
  | _, _, n, h, .cons p k => .cons (dp_f2 hr hm f n (h _ List.mem_cons_self) p) (dpa_f2 hr hm f n (fun d hd => h d (List.mem_cons_of_mem _ hd)) k)
end
theorem dp_f1 {K : PySem.W.Frag} {H H' : Hp} {r : Addr} (hr : IsL H r) (f : Fr r H H') {v : V} {d : PyData} (n : Nat) (ok : tupOk n d) (h : Dp K H v d) : Dp K H' v d := dp_f2 hr hr (Fr2.of (m := r) f) n ok h
theorem dpa_f1 {K : PySem.W.Frag} {H H' : Hp} {r : Addr} (hr : IsL H r) (f : Fr r H H') {xs : List V} {ds : List PyData} (n : Nat) (ok : ∀ d ∈ ds, tupOk n d) (h : DpAll K H xs ds) : DpAll K H' xs ds := dpa_f2 hr hr (Fr2.of (m := r) f) n ok h
theorem tup_vr (n : Nat) (v : Vr) : tupOk (n + 1) v.d := tup_seq (by show 2 ≤ 100000; decide) fun e he => by
  rcases List.mem_cons.mp he with rfl | he
  · exact (tup_atom n).2 _
  · rcases List.mem_singleton.mp he with rfl
    exact (tup_atom n).1 _
theorem tup_vrs (n : Nat) (vs : List Vr) : ∀ d ∈ vs.map Vr.d, tupOk (n + 1) d := fun d hd => by
  obtain ⟨v, _, rfl⟩ := List.mem_map.mp hd
  exact tup_vr n v

/-- the names that are taken from a pool, one behind the other -/
def pick (ws : List Str) (st n : Nat) : List Str := (List.range n).map fun j => ws.getD ((st + j) % ws.length) Str.empty
theorem t0 {x y : V} : atI [x, y] 0 = some x := atI_nat (j := 0) rfl
theorem t1 {x y : V} : atI [x, y] 1 = some y := atI_nat (j := 1) rfl
theorem pick_succ (ws : List Str) (st n : Nat) : pick ws st (n + 1) = pick ws st n ++ [ws.getD ((st + n) % ws.length) Str.empty] := by unfold pick; rw [List.range_succ, List.map_append]; rfl
def sp__law_declared (K : PySem.W.Frag) : Sp := fun us H Q _ => ∃ (r pl rm : Addr) (ws : List Str) (st : Nat) (mn a b : Int), us = [.ref r, .ref pl, .int (st : Int), .int mn, .ref rm] ∧ RD H r ∧ H pl = some (.lst (ws.map V.str)) ∧ H rm = some (.lst [.int a, .int b]) ∧ 1 ≤ ws.length ∧ ws.length ≤ 12 ∧ st ≤ 100 ∧ 0 ≤ mn ∧ mn ≤ 4 ∧ 1 ≤ a ∧ a ≤ 64 ∧ b ≤ 64 ∧ a ≤ b ∧
  ∀ (t : V) (vs : List Vr) (a' : Int) (H' : Hp), Fr2 r rm H H' → RD H' r → H' rm = some (.lst [.int a', .int b]) → Dp K H' t (.tuple (vs.map Vr.d)) → (vs.length : Int) ≤ mn → vs.map Vr.nm = pick ws st vs.length → (∀ v ∈ vs, 2 ≤ v.sz ∧ v.sz ≤ 4) → a' = a * prodZ (vs.map Vr.sz) → 1 ≤ a' → a' ≤ b → Q t H'
theorem ok__law_declared (T : Txt P K mg c) : Has P w K mg base 2 "_law_declared" ["reader", "pool", "start", "many", "room"] (sp__law_declared K) := by
  obtain ⟨f, fd, F, m, b⟩ := T.d__law_declared.ex
  obtain ⟨f__law_next, fd__law_next, G__law_next, m__law_next, k__law_next, b__law_next⟩ := ok__law_next (P := P) (w := w) (base := base) T
  refine ⟨f, fd, F.ok sc__law_declared (fun vs H Q E h => ?_) (fun cdv A outer s H vs Q E hr h => ?_), m, F.kp, b⟩
  · obtain ⟨r, pl, rm, ws, st, mn, a, b, rfl, hR, hpl, hrm, w1, w12, st100, m0, m4, a1, a64, b64, ab, q⟩ := h
    rfl
  obtain ⟨r, pl, rm, ws, st, mn, a, b, rfl, hR, hpl, hrm, w1, w12, st100, m0, m4, a1, a64, b64, ab, q⟩ := h
  refine ⟨_, (pss_cons (ps_set (i := 5) sc__law_declared.nd rfl (.inl rfl) (pe_lst pa_nil))
      (pss_cons (ps_for PassesOwn.never rfl (pi_range1 (by rfl) T.z_range (pa_cons (pe_call G__law_next (hr.mono (by decide)) (by rfl) m__law_next k__law_next b__law_next .nil pass0 (pa_cons (pv 0) (pa_cons (pe_op op_add (pv 3) pe_int) pa_nil))) pa_nil)) (pg_name (i := 6) sc__law_declared.nd rfl (.inl rfl))
      (pss_cons (ps_set (i := 7) sc__law_declared.nd rfl (.inl rfl) (pe_op op_add pe_int (pe_call G__law_next (hr.mono (by decide)) (by rfl) m__law_next k__law_next b__law_next .nil pass0 (pa_cons (pv 0) (pa_cons pe_int pa_nil)))))
        (pss_one (ps_if (pt_cmpR op_le (pe_op op_mul (pe_ix ix_list (pv 4) pe_int (fun _ _ => rfl)) (pv 7)) (pe_ix ix_list (pv 4) pe_int (fun _ _ => rfl)) (nomark _))
        (pss_cons (ps_asg (pe_op op_mul (pe_ix ix_list (pv 4) pe_int (fun _ _ => rfl)) (pv 7)) (pg_sub (pv 4) pe_int set_list))
          (pss_one (ps_expr (pe_bm PySem.F.plainAttrs_list PySem.F.slot_list_append PySem.F.type_list_append mt_append (pv 5) (pa_cons (pe_tup (pa_cons (pe_ix ix_list (pv 1) (pe_op op_mod (pe_callTy call_int1 (by rfl) T.z_int (by decide +kernel) (pa_cons (pe_op op_add (pv 2) (pe_callB call_len_seq (by rfl) T.z_len (by decide +kernel) (pa_cons (pv 5) pa_nil))) pa_nil)) (pe_callB call_len_seq (by rfl) T.z_len (by decide +kernel) (pa_cons (pv 1) pa_nil))) (fun _ _ => rfl)) (pa_cons (pv 7) pa_nil))) pa_nil)))))
        pss_nil))))
      (pss_one (ps_ret (pe_callTy call_tuple_of (by rfl) T.z_tuple (by decide +kernel) (pa_cons (pv 5) pa_nil)))))), ?_⟩
  have nrm : r ≠ rm := fun e => by
    subst e
    obtain ⟨x, y, z, h⟩ := hR
    rw [h] at hrm
    cases hrm
  have npl : pl ≠ r := fun e => by
    subst e
    obtain ⟨x, y, z, h⟩ := hR
    rw [h] at hpl
    cases ws with
    | nil => simp at w1
    | cons => cases hpl
  have nplm : pl ≠ rm := fun e => by
    subst e
    rw [hpl] at hrm
    cases ws with
    | nil => simp at w1
    | cons => cases hrm
  refine ⟨by show 0 ≤ sizeLine; decide, fun D nD => ?_⟩
  have e0 := same_new (o := .lst []) nD
  have hD0 := upd_same (H := H) (a := D) (o := .lst [])
  have nDr : D ≠ r := hR.ne nD
  have nDm : D ≠ rm := (ne_of_none hrm nD).symm
  have nDp : D ≠ pl := (ne_of_none hpl nD).symm
  refine ⟨_, rfl, _, rfl, _, _, rfl, rfl, r, mn + 1, rfl, hR.of e0, by omega, by omega, fun cnt H1 f1 R1 c0 c1 => ?_⟩
  refine ⟨cnt, rfl, by omega, by omega, for_range (fun i σ H' => ∃ (y6 y7 : Option V) (xs : List V) (vs : List Vr), σ = [some (.ref r), some (.ref pl), some (.int (st : Int)), some (.int mn), some (.ref rm), some (.ref D), y6, y7] ∧ Fr2 r rm H H' ∧ RD H' r ∧ H' rm = some (.lst [.int (a * prodZ (vs.map Vr.sz)), .int b]) ∧ H' D = some (.lst xs) ∧ DpAll K H' xs (vs.map Vr.d) ∧ vs.length ≤ i ∧ vs.map Vr.nm = pick ws st vs.length ∧ (∀ v ∈ vs, 2 ≤ v.sz ∧ v.sz ≤ 4) ∧ 1 ≤ a * prodZ (vs.map Vr.sz) ∧ a * prodZ (vs.map Vr.sz) ≤ b)
    ⟨_, _, [], [], rfl, (Fr2.new nD).trans (Fr2.of f1), R1, ?_, f1 _ _ nDr hD0, .nil, Nat.zero_le _, rfl, fun v hv => (nomatch hv), ?_, ?_⟩ ?_ ?_⟩
  · show H1 rm = some (.lst [.int (a * 1), .int b])
    rw [Int.mul_one]
    exact f1 _ _ nrm.symm (e0 _ _ hrm)
  · show 1 ≤ a * 1
    omega
  · show a * 1 ≤ b
    omega
  · rintro i σ H2 hi ⟨y6, y7, xs, vs, rfl, f2, R2, hrm2, hD2, hx2, lv, nv, sv, p1, pb⟩
    refine ⟨_, rfl, r, 3, rfl, R2, by decide, by decide, fun z H3 f3 R3 z0 z1 => ?_⟩
    refine ⟨_, _, rfl, rfl, ?_⟩
    have hrm3 := f3 _ _ nrm.symm hrm2
    have hD3 := f3 _ _ nDr hD2
    have hpl3 : H3 pl = some (.lst (ws.map V.str)) := f3 _ _ npl (f2 _ _ npl nplm hpl)
    have hx3 := dpa_f1 R2.l f3 1 (tup_vrs 0 vs) hx2
    have f23 := f2.trans (Fr2.of (m := rm) f3)
    have lx : xs.length = vs.length := by
      have := dpa_len hx3
      rwa [List.length_map] at this
    generalize hA : a * prodZ (vs.map Vr.sz) = A at hrm2 hrm3 p1 pb
    have mulb : A * (2 + z) ≤ 64 * 4 := Int.mul_le_mul (by omega) (by omega) (by omega) (by omega)
    have mul0 : 1 * 1 ≤ A * (2 + z) := Int.mul_le_mul p1 (by omega) (by omega) (by omega)
    refine ⟨_, rfl, rm, _, 0, _, rfl, rfl, SqL.of hrm3, t0, _, rfl, _, _, rfl, rfl, .inl ⟨by omega, by omega⟩, _, rfl, rm, _, 1, _, rfl, rfl, SqL.of hrm3, t1, _, _, rfl, rfl, _, rfl, ite2 (fun e => ?_) (fun e => ?_)⟩
    · have le := dec_t e
      refine ⟨_, rfl, rm, _, 0, _, rfl, rfl, SqL.of hrm3, t0, _, rfl, _, _, rfl, rfl, .inl ⟨by omega, by omega⟩, _, rfl, rm, _, 0, 0, rfl, rfl, hrm3, rfl, ?_⟩
      have hD4 := (upd_ne (H := H3) (a := rm) (o := .lst [.int (A * (2 + z)), .int b]) nDm).trans hD3
      have hpl4 := (upd_ne (H := H3) (a := rm) (o := .lst [.int (A * (2 + z)), .int b]) nplm).trans hpl3
      have hrm4 := upd_same (H := H3) (a := rm) (o := .lst [.int (A * (2 + z)), .int b])
      have R4 : RD (upd H3 rm (.lst [.int (A * (2 + z)), .int b])) r := by
        obtain ⟨x1, x2, x3, x4⟩ := R3
        exact ⟨x1, x2, x3, (upd_ne nrm).trans x4⟩
      have hx4 := dpa_mut (o := .lst [.int (A * (2 + z)), .int b]) hrm3 1 (tup_vrs 0 vs) hx3
      have f24 := f23.trans (Fr2.upd (r := r) (m := rm) (o := .lst [.int (A * (2 + z)), .int b]))
      change Ends.nx _ _ (upd H3 rm (.lst [.int (A * (2 + z)), .int b]))
      generalize upd H3 rm (.lst [.int (A * (2 + z)), .int b]) = H4 at hD4 hpl4 hrm4 R4 hx4 f24 ⊢
      have hix : (st + vs.length) % ws.length < ws.length := Nat.mod_lt _ w1
      have emod : ((st : Int) + ((xs.length : Nat) : Int)) % (((ws.map V.str).length : Nat) : Int) = (((st + vs.length) % ws.length : Nat) : Int) := by
        rw [List.length_map, lx, ← Int.natCast_add]
        exact (Int.natCast_emod _ _).symm
      refine ⟨_, rfl, .inl ⟨rfl, _, SqL.of hD4⟩, _, rfl, _, rfl, _, rfl, D, xs, rfl, .inl (SqL.of hD4), _, _, rfl, rfl, .inl ⟨_, rfl, _, rfl, pl, _, rfl, .inl (SqL.of hpl4), _, _, rfl, rfl, by rw [List.length_map]; omega, ?_⟩⟩
      have hA' : a * prodZ ((vs ++ [⟨ws[(st + vs.length) % ws.length], 2 + z⟩] : List Vr).map Vr.sz) = A * (2 + z) := by
        rw [List.map_append, show ([⟨ws[(st + vs.length) % ws.length], 2 + z⟩] : List Vr).map Vr.sz = [2 + z] from rfl, prodZ_app, ← hA, Int.mul_assoc]
      refine ⟨pl, _, _, _, rfl, rfl, SqL.of hpl4, (by rw [emod]; exact atI_nat (map_at (List.getElem?_eq_getElem hix))), _, rfl, by show 2 ≤ sizeLine; decide, fun t nt => ?_⟩
      have e5 := same_new (o := .tup [.str ws[(st + vs.length) % ws.length], .int (2 + z)]) nt
      have hD5 := e5 _ _ hD4
      refine ⟨D, xs, _, rfl, rfl, hD5, small1000 (by omega), ?_⟩
      refine ⟨_, _, xs ++ [.ref t], vs ++ [⟨ws[(st + vs.length) % ws.length], 2 + z⟩], rfl, (f24.trans (Fr2.new nt)).mut nD, ?_, ?_, upd_same, ?_, ?_, ?_, fun v hv => ?_, ?_, ?_⟩
      · obtain ⟨x1, x2, x3, x4⟩ := R4.of e5
        exact ⟨x1, x2, x3, (upd_ne nDr.symm).trans x4⟩
      · rw [hA', upd_ne nDm.symm]
        exact e5 _ _ hrm4
      · rw [List.map_append]
        exact dpa_app (dpa_mut hD5 1 (tup_vrs 0 vs) (dpa_same e5 hx4)) (dp_mut hD5 1 (tup_vr 0 _) (.tup (SqT.of upd_same) (.cons (.str _) (.cons (.int _) .nil))))
      · rw [List.length_append]
        show vs.length + 1 ≤ i + 1
        omega
      · rw [List.map_append, nv, List.length_append]
        show _ = pick ws st (vs.length + 1)
        rw [pick_succ, List.getD_eq_getElem?_getD, List.getElem?_eq_getElem hix]
        rfl
      · rcases List.mem_append.mp hv with hv | hv
        · exact sv v hv
        · rcases List.mem_singleton.mp hv with rfl
          show 2 ≤ 2 + z ∧ 2 + z ≤ 4
          omega
      · rw [hA']
        omega
      · rw [hA']
        exact le
    · exact ⟨_, _, xs, vs, rfl, f23, R3, by rw [hA]; exact hrm3, hD3, hx3, by omega, nv, sv, by rw [hA]; exact p1, by rw [hA]; exact pb⟩
  · rintro σ H2 ⟨y6, y7, xs, vs, rfl, f2, R2, hrm2, hD2, hx2, lv, nv, sv, p1, pb⟩
    refine ⟨_, rfl, D, xs, rfl, .inl ⟨SqL.of hD2, fun t nt => ?_⟩⟩
    have e3 := same_new (o := .tup xs) nt
    refine q _ vs _ _ (f2.trans (Fr2.new nt)) (R2.of e3) (e3 _ _ hrm2) (.tup (SqT.of upd_same) (dpa_same e3 hx2)) ?_ nv sv rfl p1 pb
    omega


end
end Pf

namespace Pf
open PySem PySem.Spec PyProof.Rows L2
section
variable {P : Program} {w : World} {K : PySem.W.Frag} {mg : Str → Option Value} {base : Heap}
variable {c : Nat → Addr}
/-! ### the heads of a program, drawn -/
theorem foldl_mul (a : Int) : ∀ ns : List Int, ns.foldl (· * ·) a = a * prodZ ns
  | [] => (Int.mul_one a).symm
  | n :: ns => by
    have e : prodZ (n :: ns) = n * prodZ ns := by
      show ns.foldl (· * ·) (1 * n) = _
      rw [Int.one_mul, foldl_mul n ns]
    rw [List.foldl_cons, foldl_mul (a * n) ns, e, Int.mul_assoc]
theorem prodZ_cat (ns ms : List Int) : prodZ (ns ++ ms) = prodZ ns * prodZ ms := by
  show (ns ++ ms).foldl (· * ·) 1 = _
  rw [List.foldl_append, foldl_mul]
  rfl
theorem pick_len (ws : List Str) (st n : Nat) : (pick ws st n).length = n := by unfold pick; rw [List.length_map, List.length_range]
theorem pick_add (ws : List Str) (st n : Nat) : ∀ m, pick ws st (n + m) = pick ws st n ++ pick ws (st + n) m
  | 0 => by simp [pick]
  | m + 1 => by
    rw [← Nat.add_assoc, pick_succ, pick_add ws st n m, pick_succ, List.append_assoc, Nat.add_assoc]
theorem pick_mem {ws : List Str} {st n : Nat} (h : 1 ≤ ws.length) {z : Str} (m : z ∈ pick ws st n) : z ∈ ws := by
  unfold pick at m
  obtain ⟨j, _, rfl⟩ := List.mem_map.mp m
  have hi : (st + j) % ws.length < ws.length := Nat.mod_lt _ h
  rw [List.getD_eq_getElem?_getD, List.getElem?_eq_getElem hi]
  exact List.getElem_mem hi
theorem mod_inj {st i j n : Nat} (hi : i < n) (hj : j < n) (h : (st + i) % n = (st + j) % n) : i = j := by
  have key : ∀ {i j : Nat}, i ≤ j → j < n → (st + i) % n = (st + j) % n → i = j := fun {i j} le lt h => by
    have e : (st + j - (st + i)) % n = 0 := Nat.sub_mod_eq_zero_of_mod_eq h.symm
    have e2 : st + j - (st + i) = j - i := by omega
    rw [e2, Nat.mod_eq_of_lt (by omega)] at e
    omega
  rcases Nat.le_total i j with l | l
  · exact key l hj h
  · exact (key l hi h.symm).symm
theorem pick_nodup {ws : List Str} {st n : Nat} (nd : ws.Nodup) (l : n ≤ ws.length) : (pick ws st n).Nodup := by
  unfold pick
  rw [List.nodup_iff_pairwise_ne, List.pairwise_map]
  refine (List.nodup_range (n := n)).imp_of_mem fun {i j} hi hj hne e => hne ?_
  have hi := List.mem_range.mp hi
  have hj := List.mem_range.mp hj
  have li : (st + i) % ws.length < ws.length := Nat.mod_lt _ (by omega)
  have lj : (st + j) % ws.length < ws.length := Nat.mod_lt _ (by omega)
  rw [List.getD_eq_getElem?_getD, List.getElem?_eq_getElem li, List.getD_eq_getElem?_getD, List.getElem?_eq_getElem lj] at e
  exact mod_inj (by omega) (by omega) ((List.getElem_inj nd).mp e)
theorem pick_take {ws : List Str} {n : Nat} (l : n ≤ ws.length) : pick ws 0 n = ws.take n := by
  apply List.ext_getElem?
  intro i
  unfold pick
  rw [List.getElem?_map]
  by_cases hi : i < n
  · rw [List.getElem?_range hi, List.getElem?_take_of_lt hi]
    show some (ws.getD ((0 + i) % ws.length) Str.empty) = _
    rw [Nat.zero_add, Nat.mod_eq_of_lt (by omega), List.getD_eq_getElem?_getD, List.getElem?_eq_getElem (by omega)]
    rfl
  · rw [List.getElem?_eq_none (by rw [List.length_range]; omega), List.getElem?_eq_none (by rw [List.length_take]; omega)]
    rfl
/-- a procedure as the heads draw it: own are the names left, A the sights of the globals -/
structure PrGood (own : List Str) (A : Int) (p : Pr) : Prop where
  p3 : p.ps.length ≤ 3
  l3 : p.ls.length ≤ 3
  sk : p.sk = false
  nm : ∃ st, (p.ps ++ p.ls).map Vr.nm = pick own st (p.ps ++ p.ls).length
  sz : ∀ v ∈ p.ps ++ p.ls, 2 ≤ v.sz ∧ v.sz ≤ 4
  si : A * prodZ ((p.ps ++ p.ls).map Vr.sz) ≤ 64
theorem heads_ok {ws : List Str} {vs : List Vr} {prs : List Pr} {l a : Int} {f : Nat} (w12 : ws.length = 12) (wo : PoolOk ws) (l1 : 1 ≤ l) (l3 : l ≤ 3) (a2 : 2 ≤ a) (a4 : a ≤ 4) (v4 : vs.length ≤ 4) (vn : vs.map Vr.nm = pick ws 0 vs.length) (vz : ∀ v ∈ vs, 2 ≤ v.sz ∧ v.sz ≤ 4)
    (p1 : 1 ≤ prs.length) (p5 : prs.length ≤ 5) (pg : ∀ p ∈ prs, PrGood (ws.drop vs.length) (prodZ (vs.map Vr.sz)) p) (pm : ∀ p, prs[0]? = some p → p.ps = []) (pn : prs.map Pr.nm = pick ws f prs.length) : (⟨l, a, vs, prs⟩ : Pg).Ok := by
  have lo : (ws.drop vs.length).length = 12 - vs.length := by rw [List.length_drop, w12]
  have sc : ∀ p : Pr, scp vs p = vs ++ (p.ps ++ p.ls) := fun p => by unfold scp; rw [List.append_assoc]
  have vt : vs.map Vr.nm = ws.take vs.length := by rw [vn, pick_take (by omega)]
  have onm : ∀ p ∈ prs, ∀ z ∈ (p.ps ++ p.ls).map Vr.nm, z ∈ ws.drop vs.length := fun p hp z hz => by
    obtain ⟨st, e⟩ := (pg p hp).nm
    rw [e] at hz
    exact pick_mem (by omega) hz
  refine ⟨l1, l3, a2, a4, p1, p5, v4, fun p hp => (pg p hp).p3, fun p hp => (pg p hp).l3, fun p hp => ?_, fun p hp v hv => ?_, ?_, fun p hp => ?_, fun p hp v hv => ?_, fun p hp v hv => ?_, fun p hp => ?_, pm⟩
  · have m : p.nm ∈ prs.map Pr.nm := List.mem_map.mpr ⟨p, hp, rfl⟩
    rw [pn] at m
    exact wo.nm _ (pick_mem (by omega) m)
  · rw [sc] at hv
    rcases List.mem_append.mp hv with hv | hv
    · have m : v.nm ∈ vs.map Vr.nm := List.mem_map.mpr ⟨v, hv, rfl⟩
      rw [vt] at m
      exact wo.nm _ (List.mem_of_mem_take m)
    · exact wo.nm _ (List.mem_of_mem_drop (onm p hp _ (List.mem_map.mpr ⟨v, hv, rfl⟩)))
  · show (prs.map Pr.nm).Nodup
    rw [pn]
    exact pick_nodup wo.nd (by omega)
  · rw [sc, List.map_append]
    obtain ⟨st, e⟩ := (pg p hp).nm
    have lp := (pg p hp).p3
    have ll := (pg p hp).l3
    refine List.nodup_append.mpr ⟨?_, ?_, fun x hx y hy e0 => ?_⟩
    · rw [vt]
      exact wo.nd.sublist (List.take_sublist _ _)
    · rw [e]
      exact pick_nodup (wo.nd.sublist (List.drop_sublist _ _)) (by rw [lo, List.length_append]; omega)
    · rw [vt] at hx
      have hy := onm p hp y hy
      subst e0
      have nd := wo.nd
      rw [← List.take_append_drop vs.length ws] at nd
      exact (List.nodup_append.mp nd).2.2 x hx x hy rfl
  · rw [sc] at hv
    rcases List.mem_append.mp hv with hv | hv
    · exact (vz v hv).1
    · exact ((pg p hp).sz v hv).1
  · rw [sc] at hv
    rcases List.mem_append.mp hv with hv | hv
    · exact (vz v hv).2
    · exact ((pg p hp).sz v hv).2
  · rw [sc, List.map_append, prodZ_cat]
    exact (pg p hp).si
theorem Fr.keep2 {r m : Addr} {H H1 H2 : Hp} (a : Fr r H H1) (n : H m = none) (b : Fr2 r m H1 H2) : Fr r H H2 := fun x o h e => b x o h (ne_of_none e n) (a x o h e)


end
end Pf

namespace Pf
open PySem PySem.Spec PyProof.Rows L2
section
variable {P : Program} {w : World} {K : PySem.W.Frag} {mg : Str → Option Value} {base : Heap}
variable {c : Nat → Addr}
theorem dl_vs {K : PySem.W.Frag} {H : Hp} {v : V} {vs : List Vr} (h : Dp K H v (.tuple (vs.map Vr.d))) : ∃ t xs, v = .ref t ∧ SqT K H t xs ∧ xs.length = vs.length := by
  obtain ⟨t, xs, rfl, hq, hk⟩ := dp_tup' h
  have := dpa_len hk
  rw [List.length_map] at this
  exact ⟨t, xs, rfl, hq, this⟩
def sp__law_heads (K : PySem.W.Frag) : Sp := fun us H Q _ => ∃ (r : Addr) (mo : Int), us = [.ref r, .int mo] ∧ RD H r ∧ 1 ≤ mo ∧ mo ≤ 64 ∧ ∀ (v : V) (g : Pg) (H' : Hp), Fr r H H' → RD H' r → g.Ok → (∀ p ∈ g.ps, p.sk = false) → Dp K H' v g.d → Q v H'
theorem ok__law_heads (T : Txt P K mg c) : Has P w K mg base 4 "_law_heads" ["reader", "most"] (sp__law_heads K) := by
  obtain ⟨f, fd, F, m, b⟩ := T.d__law_heads.ex
  obtain ⟨f__law_pool, fd__law_pool, G__law_pool, m__law_pool, k__law_pool, b__law_pool⟩ := ok__law_pool (P := P) (w := w) (base := base) T
  obtain ⟨f__law_next, fd__law_next, G__law_next, m__law_next, k__law_next, b__law_next⟩ := ok__law_next (P := P) (w := w) (base := base) T
  obtain ⟨f__law_declared, fd__law_declared, G__law_declared, m__law_declared, k__law_declared, b__law_declared⟩ := ok__law_declared (P := P) (w := w) (base := base) T
  refine ⟨f, fd, F.ok sc__law_heads (fun vs H Q E h => ?_) (fun cdv A outer s H vs Q E hr h => ?_), m, F.kp, b⟩
  · obtain ⟨r, mo, rfl, hR, m1, m64, q⟩ := h
    rfl
  obtain ⟨r, mo, rfl, hR, m1, m64, q⟩ := h
  refine ⟨_, (pss_cons (ps_set (i := 2) sc__law_heads.nd rfl (.inl rfl) (pe_call G__law_pool (hr.mono (by decide)) (by rfl) m__law_pool k__law_pool b__law_pool .nil pass0 (pa_cons (pv 0) pa_nil)))
      (pss_cons (ps_set (i := 3) sc__law_heads.nd rfl (.inl rfl) (pe_op op_add pe_int (pe_call G__law_next (hr.mono (by decide)) (by rfl) m__law_next k__law_next b__law_next .nil pass0 (pa_cons (pv 0) (pa_cons pe_int pa_nil)))))
      (pss_cons (ps_set (i := 4) sc__law_heads.nd rfl (.inl rfl) (pe_op op_add pe_int (pe_call G__law_next (hr.mono (by decide)) (by rfl) m__law_next k__law_next b__law_next .nil pass0 (pa_cons (pv 0) (pa_cons pe_int pa_nil)))))
      (pss_cons (ps_set (i := 5) sc__law_heads.nd rfl (.inl rfl) (pe_lst (pa_cons pe_int (pa_cons (pv 1) pa_nil))))
      (pss_cons (ps_set (i := 6) sc__law_heads.nd rfl (.inl rfl) (pe_call G__law_declared (hr.mono (by decide)) (by rfl) m__law_declared k__law_declared b__law_declared .nil pass0 (pa_cons (pv 0) (pa_cons (pv 2) (pa_cons pe_int (pa_cons (pe_ix ix_list (pe_lst (pa_cons pe_int (pa_cons pe_int (pa_cons pe_int (pa_cons pe_int pa_nil))))) (pe_call G__law_next (hr.mono (by decide)) (by rfl) m__law_next k__law_next b__law_next .nil pass0 (pa_cons (pv 0) (pa_cons pe_int pa_nil))) (fun _ _ => rfl)) (pa_cons (pv 5) pa_nil)))))))
      (pss_cons (ps_set (i := 7) sc__law_heads.nd rfl (.inl rfl) (pe_slice sl_list (pv 2) (po_some (pe_callB call_len_seq (by rfl) T.z_len (by decide +kernel) (pa_cons (pv 6) pa_nil))) po_none))
      (pss_cons (ps_set (i := 8) sc__law_heads.nd rfl (.inl rfl) (pe_call G__law_next (hr.mono (by decide)) (by rfl) m__law_next k__law_next b__law_next .nil pass0 (pa_cons (pv 0) (pa_cons pe_int pa_nil))))
      (pss_cons (ps_set (i := 9) sc__law_heads.nd rfl (.inl rfl) (pe_lst pa_nil))
      (pss_cons (ps_for PassesOwn.never rfl (pi_range1 (by rfl) T.z_range (pa_cons (pe_op op_add pe_int (pe_call G__law_next (hr.mono (by decide)) (by rfl) m__law_next k__law_next b__law_next .nil pass0 (pa_cons (pv 0) (pa_cons pe_int pa_nil)))) pa_nil)) (pg_name (i := 10) sc__law_heads.nd rfl (.inl rfl))
      (pss_cons (ps_set (i := 11) sc__law_heads.nd rfl (.inl rfl) (pe_lst (pa_cons (pe_ix ix_list (pv 5) pe_int (fun _ _ => rfl)) (pa_cons (pv 1) pa_nil))))
        (pss_cons (ps_set (i := 12) sc__law_heads.nd rfl (.inl rfl) (pe_call G__law_next (hr.mono (by decide)) (by rfl) m__law_next k__law_next b__law_next .nil pass0 (pa_cons (pv 0) (pa_cons (pe_callB call_len_seq (by rfl) T.z_len (by decide +kernel) (pa_cons (pv 7) pa_nil)) pa_nil))))
        (pss_cons (ps_set (i := 13) sc__law_heads.nd rfl (.inl rfl) (pe_tup pa_nil))
        (C8.pss_cut (ps_if (pt_cmpR op_gt (pv 10) pe_int (nomark _))
        (pss_one (ps_set (i := 13) sc__law_heads.nd rfl (.inl rfl) (pe_call G__law_declared (hr.mono (by decide)) (by rfl) m__law_declared k__law_declared b__law_declared .nil pass0 (pa_cons (pv 0) (pa_cons (pv 7) (pa_cons (pv 12) (pa_cons pe_int (pa_cons (pv 11) pa_nil))))))))
        pss_nil)
        (pss_cons (ps_set (i := 14) sc__law_heads.nd rfl (.inl rfl) (pe_call G__law_declared (hr.mono (by decide)) (by rfl) m__law_declared k__law_declared b__law_declared .nil pass0 (pa_cons (pv 0) (pa_cons (pv 7) (pa_cons (pe_op op_add (pv 12) (pe_callB call_len_seq (by rfl) T.z_len (by decide +kernel) (pa_cons (pv 13) pa_nil))) (pa_cons pe_int (pa_cons (pv 11) pa_nil)))))))
        (pss_one (ps_expr (pe_bm PySem.F.plainAttrs_list PySem.F.slot_list_append PySem.F.type_list_append mt_append (pv 9) (pa_cons (pe_tup (pa_cons (pe_ix ix_list (pv 2) (pe_op op_mod (pe_callTy call_int1 (by rfl) T.z_int (by decide +kernel) (pa_cons (pe_op op_add (pv 8) (pv 10)) pa_nil)) pe_int) (fun _ _ => rfl)) (pa_cons (pv 13) (pa_cons (pv 14) (pa_cons (pe_tup pa_nil) pa_nil))))) pa_nil))))))))))
      (pss_one (ps_ret (pe_tup (pa_cons (pv 3) (pa_cons (pv 4) (pa_cons (pv 6) (pa_cons (pe_callTy call_tuple_of (by rfl) T.z_tuple (by decide +kernel) (pa_cons (pv 9) pa_nil)) pa_nil)))))))))))))))), ?_⟩
  refine ⟨_, rfl, r, rfl, hR, fun P ws H1 f1 R1 nP hP l12 wo => ?_⟩
  have nPr : P ≠ r := hR.ne nP
  refine ⟨_, rfl, r, 3, rfl, R1, by decide, by decide, fun v2 H2 f2 R2 a0 a1 => ⟨_, _, rfl, rfl, ?_⟩⟩
  refine ⟨_, rfl, r, 3, rfl, R2, by decide, by decide, fun v3 H3 f3 R3 b0 b1 => ⟨_, _, rfl, rfl, ?_⟩⟩
  have hP3 := f3 _ _ nPr (f2 _ _ nPr hP)
  have f13 := f1.trans (f2.trans f3)
  -- room
  refine ⟨_, rfl, by show 2 ≤ sizeLine; decide, fun rm nrm => ?_⟩
  have e4 := same_new (o := .lst [.int 1, .int mo]) nrm
  have hrm4 := upd_same (H := H3) (a := rm) (o := .lst [.int 1, .int mo])
  have hP4 := e4 _ _ hP3
  have f14 := f13.trans (Fr.of e4)
  have R4 := R3.of e4
  have nrmr : rm ≠ r := R3.ne nrm
  have nrmP : rm ≠ P := (ne_of_none hP3 nrm).symm
  have nrmH : H rm = none := f13.free hR R3 nrm
  generalize upd H3 rm (.lst [.int 1, .int mo]) = H4 at hrm4 hP4 f14 R4 ⊢
  -- shared
  refine ⟨_, rfl, _, rfl, by show 4 ≤ sizeLine; decide, fun ld nld => ?_⟩
  have e5 := same_new (o := .lst [.int 0, .int 1, .int 2, .int 4]) nld
  have hld := upd_same (H := H4) (a := ld) (o := .lst [.int 0, .int 1, .int 2, .int 4])
  have nldr : ld ≠ r := R4.ne nld
  refine ⟨_, rfl, r, 4, rfl, R4.of e5, by decide, by decide, fun z H5 f5 R5 z0 z1 => ?_⟩
  obtain ⟨mn, hmn, n0, n4⟩ : ∃ mn : Int, atI [V.int 0, V.int 1, V.int 2, V.int 4] z = some (.int mn) ∧ 0 ≤ mn ∧ mn ≤ 4 := by
    obtain ⟨n, rfl⟩ := Int.eq_ofNat_of_zero_le z0
    obtain _ | _ | _ | _ | n := n
    · exact ⟨0, atI_nat rfl, by decide, by decide⟩
    · exact ⟨1, atI_nat rfl, by decide, by decide⟩
    · exact ⟨2, atI_nat rfl, by decide, by decide⟩
    · exact ⟨4, atI_nat rfl, by decide, by decide⟩
    · omega
  have f45 := (Fr.of e5).trans f5
  refine ⟨ld, _, _, _, rfl, rfl, SqL.of (f5 _ _ nldr hld), hmn, _, rfl, ?_⟩
  have hP5 := f45 _ _ nPr hP4
  have hrm5 := f45 _ _ nrmr hrm4
  have f15 := f14.trans f45
  refine ⟨r, P, rm, ws, 0, mn, 1, mo, rfl, R5, hP5, hrm5, by omega, by omega, by decide, n0, n4, by decide, by decide, m64, m1, fun sh vs A H6 g6 R6 hrm6 hsh lvs nvs svs eA A1 Am => ?_⟩
  obtain rfl : A = prodZ (vs.map Vr.sz) := by rw [eA, Int.one_mul]
  have v4 : vs.length ≤ 4 := by omega
  have hP6 := g6 _ _ nPr nrmP.symm hP5
  have f16 := f15.keep2 nrmH g6
  have tshv := tup_vrs 0 vs
  have tsh : tupOk 2 (.tuple (vs.map Vr.d)) := tup_vs 0 (by omega)
  -- own
  obtain ⟨ts, xs, rfl, hts, lts⟩ := dl_vs hsh
  refine ⟨_, rfl, _, rfl, ts, xs, rfl, .inr hts, ((xs.length : Nat) : Int), rfl, P, _, rfl, SqL.of hP6, fun O nO => ?_⟩
  rw [show cutV (ws.map V.str) (some ((xs.length : Nat) : Int)) none = (ws.drop vs.length).map V.str from by rw [cut_from, lts, List.map_drop]]
  have e7 := same_new (o := .lst ((ws.drop vs.length).map V.str)) nO
  have hO7 := upd_same (H := H6) (a := O) (o := .lst ((ws.drop vs.length).map V.str))
  have hP7 := e7 _ _ hP6
  have hrm7 := e7 _ _ hrm6
  have hsh7 := dp_same e7 hsh
  have f17 := f16.trans (Fr.of e7)
  have R7 := R6.of e7
  have nOr : O ≠ r := R6.ne nO
  have nOP : O ≠ P := (ne_of_none hP6 nO).symm
  have nOrm : O ≠ rm := (ne_of_none hrm6 nO).symm
  generalize upd H6 O (.lst ((ws.drop vs.length).map V.str)) = H7 at hO7 hP7 hrm7 hsh7 f17 R7 ⊢
  -- first
  refine ⟨_, rfl, r, 12, rfl, R7, by decide, by decide, fun fi H8 f8 R8 fi0 fi1 => ?_⟩
  have hO8 := f8 _ _ nOr hO7
  have hP8 := f8 _ _ nPr hP7
  have hrm8 := f8 _ _ nrmr hrm7
  have hsh8 := dp_f1 R7.l f8 2 tsh hsh7
  have f18 := f17.trans f8
  -- procedures
  refine ⟨by show 0 ≤ sizeLine; decide, fun D nD => ?_⟩
  have e9 := same_new (o := .lst []) nD
  have hD9 := upd_same (H := H8) (a := D) (o := .lst [])
  have hO9 := e9 _ _ hO8
  have hP9 := e9 _ _ hP8
  have hrm9 := e9 _ _ hrm8
  have hsh9 := dp_same e9 hsh8
  have f19 := f18.trans (Fr.of e9)
  have R9 := R8.of e9
  have nDr : D ≠ r := R8.ne nD
  have nDP : D ≠ P := (ne_of_none hP8 nD).symm
  have nDO : D ≠ O := (ne_of_none hO8 nD).symm
  have nDrm : D ≠ rm := (ne_of_none hrm8 nD).symm
  have nDH : H D = none := f18.free hR R8 nD
  generalize upd H8 D (.lst []) = H9 at hD9 hO9 hP9 hrm9 hsh9 f19 R9 ⊢
  obtain ⟨fn, rfl⟩ := Int.eq_ofNat_of_zero_le fi0
  have lo : (ws.drop vs.length).length = 12 - vs.length := by rw [List.length_drop, l12]
  -- for k in range(..)
  refine ⟨_, rfl, r, 5, rfl, R9, by decide, by decide, fun cn H10 f10 R10 cn0 cn1 => ⟨_, _, rfl, rfl, 1 + cn, rfl, by omega, by omega, ?_⟩⟩
  refine for_range (fun i σ H' => ∃ (y10 y11 y12 y13 y14 : Option V) (zs : List V) (prs : List Pr), σ = [some (.ref r), some (.int mo), some (.ref P), some (.int (1 + v2)), some (.int (2 + v3)), some (.ref rm), some (.ref ts), some (.ref O), some (.int ((fn : Nat) : Int)), some (.ref D), y10, y11, y12, y13, y14] ∧ Fr r H H' ∧ RD H' r ∧ H' P = some (.lst (ws.map V.str)) ∧ H' O = some (.lst ((ws.drop vs.length).map V.str)) ∧ H' rm = some (.lst [.int (prodZ (vs.map Vr.sz)), .int mo]) ∧ Dp K H' (.ref ts) (.tuple (vs.map Vr.d)) ∧ H' D = some (.lst zs) ∧ DpAll K H' zs (prs.map Pr.d) ∧ prs.length = i ∧ (∀ p ∈ prs, PrGood (ws.drop vs.length) (prodZ (vs.map Vr.sz)) p) ∧ (∀ p, prs[0]? = some p → p.ps = []) ∧ prs.map Pr.nm = pick ws fn prs.length)
    ⟨_, _, _, _, _, [], [], rfl, f19.trans f10, R10, f10 _ _ nPr hP9, f10 _ _ nOr hO9, f10 _ _ nrmr hrm9, dp_f1 R9.l f10 2 tsh hsh9, f10 _ _ nDr hD9, .nil, rfl, fun p hp => (nomatch hp), fun p hp => (nomatch hp), rfl⟩ ?_ ?_
  · rintro i σ H11 hi ⟨y10, y11, y12, y13, y14, zs, prs, rfl, f11, R11, hP11, hO11, hrm11, hsh11, hD11, hz11, lp, pg, pm, pn⟩
    have tz : ∀ d ∈ prs.map Pr.d, tupOk 3 d := fun d hd => by
      obtain ⟨p, hp, rfl⟩ := List.mem_map.mp hd
      have := (pg p hp).p3
      have := (pg p hp).l3
      exact tup_pr (by omega) (by omega)
    have own1 : 1 ≤ (ws.drop vs.length).length := by omega
    have own12 : (ws.drop vs.length).length ≤ 12 := by omega
    generalize hA : prodZ (vs.map Vr.sz) = A at hrm11 A1 Am pg
    generalize hOW : ws.drop vs.length = OW at hO11 own1 own12 pg lo
    have i5 : i < 5 := by
      have : i < (1 + cn).toNat := hi
      omega
    -- left
    refine ⟨_, rfl, rm, _, 0, _, rfl, rfl, SqL.of hrm11, t0, _, rfl, by show 2 ≤ sizeLine; decide, fun lf nlf => ?_⟩
    have e12 := same_new (o := .lst [.int A, .int mo]) nlf
    have hlf12 := upd_same (H := H11) (a := lf) (o := .lst [.int A, .int mo])
    have nlfr : lf ≠ r := R11.ne nlf
    have nlfP : lf ≠ P := (ne_of_none hP11 nlf).symm
    have nlfO : lf ≠ O := (ne_of_none hO11 nlf).symm
    have nlfrm : lf ≠ rm := (ne_of_none hrm11 nlf).symm
    have nlfD : lf ≠ D := (ne_of_none hD11 nlf).symm
    have nlfH : H lf = none := f11.free hR R11 nlf
    -- start
    refine ⟨_, rfl, _, rfl, O, _, rfl, .inl (SqL.of (e12 _ _ hO11)), r, _, rfl, R11.of e12, by rw [List.length_map]; omega, by rw [List.length_map]; omega, fun st H13 f13' R13 st0 st1 => ?_⟩
    rw [List.length_map] at st1
    obtain ⟨sn, rfl⟩ := Int.eq_ofNat_of_zero_le st0
    have k13 := (Fr.of e12).trans f13'
    have hlf13 := f13' _ _ nlfr hlf12
    have hP13 := k13 _ _ nPr hP11
    have hO13 := k13 _ _ nOr hO11
    have hrm13 := k13 _ _ nrmr hrm11
    have hD13 := k13 _ _ nDr hD11
    have hsh13 := dp_f1 R11.l k13 2 tsh hsh11
    have hz13 := dpa_f1 R11.l k13 3 tz hz11
    have f113 := f11.trans k13
    -- passed
    refine ⟨by show 0 ≤ sizeLine; decide, fun tp ntp => ?_⟩
    have e14 := same_new (o := .tup []) ntp
    refine ⟨fun σ' H' => ∃ (pv : V) (ps : List Vr) (y14 : Option V) (a' : Int), σ' = [some (.ref r), some (.int mo), some (.ref P), some (.int (1 + v2)), some (.int (2 + v3)), some (.ref rm), some (.ref ts), some (.ref O), some (.int ((fn : Nat) : Int)), some (.ref D), some (.int (0 + (i : Int))), some (.ref lf), some (.int ((sn : Nat) : Int)), some pv, y14] ∧ Fr r H H' ∧ RD H' r ∧ H' P = some (.lst (ws.map V.str)) ∧ H' O = some (.lst (OW.map V.str)) ∧ H' rm = some (.lst [.int A, .int mo]) ∧ Dp K H' (.ref ts) (.tuple (vs.map Vr.d)) ∧ H' D = some (.lst zs) ∧ DpAll K H' zs (prs.map Pr.d) ∧
      H' lf = some (.lst [.int a', .int mo]) ∧ Dp K H' pv (.tuple (ps.map Vr.d)) ∧ ps.length ≤ 3 ∧ ps.map Vr.nm = pick OW sn ps.length ∧ (∀ v ∈ ps, 2 ≤ v.sz ∧ v.sz ≤ 4) ∧ a' = A * prodZ (ps.map Vr.sz) ∧ 1 ≤ a' ∧ a' ≤ mo ∧ (i = 0 → ps = []), ?_, ?_⟩
    · refine ⟨_, rfl, _, _, rfl, rfl, _, rfl, ite2 (fun e => ?_) (fun e => ?_)⟩
      · have ipos := dec_t e
        refine ⟨_, rfl, _, rfl, _, rfl, _, rfl, ?_⟩
        refine ⟨r, O, lf, OW, sn, 3, A, mo, rfl, R13.of e14, e14 _ _ hO13, e14 _ _ hlf13, own1, own12, by omega, by decide, by decide, A1, by omega, m64, Am, fun t ps a' H15 g15 R15 hlf15 hps lps nps sps ea a1' am' => ?_⟩
        have g := (Fr2.of (m := lf) (Fr.of e14)).trans g15
        exact ⟨t, ps, _, a', rfl, f113.keep2 nlfH g, R15, g _ _ nPr nlfP.symm hP13, g _ _ nOr nlfO.symm hO13, g _ _ nrmr nlfrm.symm hrm13, dp_f2 R13.l ⟨_, hlf13⟩ g 2 tsh hsh13, g _ _ nDr nlfD.symm hD13, dpa_f2 R13.l ⟨_, hlf13⟩ g 3 tz hz13, hlf15, hps, by omega, nps, sps, ea, a1', am', fun e => by omega⟩
      · have i0 := dec_f e
        refine ⟨.ref tp, [], _, A, rfl, f113.trans (Fr.of e14), R13.of e14, e14 _ _ hP13, e14 _ _ hO13, e14 _ _ hrm13, dp_same e14 hsh13, e14 _ _ hD13, dpa_same e14 hz13, e14 _ _ hlf13, .tup (SqT.of upd_same) .nil, Nat.zero_le _, rfl, fun v hv => (nomatch hv), ?_, A1, Am, fun _ => rfl⟩
        show A = A * 1
        rw [Int.mul_one]
    rintro σ' H15 ⟨pv, ps, y14, a', rfl, f15', R15, hP15, hO15, hrm15, hsh15, hD15, hz15, hlf15, hps15, lps, nps, sps, ea, a1', am', i0⟩
    obtain ⟨tpa, pxs, rfl, hpt, lpt⟩ := dl_vs hps15
    -- held
    refine ⟨_, rfl, _, rfl, _, rfl, _, rfl, tpa, pxs, rfl, .inr hpt, _, _, rfl, rfl, _, rfl, ?_⟩
    refine ⟨r, O, lf, OW, sn + pxs.length, 3, a', mo, rfl, R15, hO15, hlf15, own1, own12, by omega, by decide, by decide, a1', by omega, m64, am', fun hv ls b' H16 g16 R16 hlf16 hls lls nls sls eb b1 bm => ?_⟩
    rw [lpt] at nls
    have tps : tupOk 2 (.tuple (ps.map Vr.d)) := tup_vs 0 (by omega)
    have hP16 := g16 _ _ nPr nlfP.symm hP15
    have hO16 := g16 _ _ nOr nlfO.symm hO15
    have hrm16 := g16 _ _ nrmr nlfrm.symm hrm15
    have hD16 := g16 _ _ nDr nlfD.symm hD15
    have hsh16 := dp_f2 R15.l ⟨_, hlf15⟩ g16 2 tsh hsh15
    have hz16 := dpa_f2 R15.l ⟨_, hlf15⟩ g16 3 tz hz15
    have hps16 := dp_f2 R15.l ⟨_, hlf15⟩ g16 2 tps hps15
    have f16' := f15'.keep2 nlfH g16
    -- procedures.append
    have hix : (fn + i) % 12 < ws.length := by omega
    have emod : (((fn : Nat) : Int) + (0 + (i : Int))) % 12 = (((fn + i) % 12 : Nat) : Int) := by omega
    refine ⟨_, rfl, .inl ⟨rfl, _, SqL.of hD16⟩, _, rfl, _, rfl, _, rfl, _, _, rfl, rfl, .inl ⟨_, rfl, _, _, rfl, rfl, (show (0 : Int) < 12 by decide), ?_⟩⟩
    refine ⟨P, _, _, _, rfl, rfl, SqL.of hP16, (by rw [emod]; exact atI_nat (map_at (List.getElem?_eq_getElem hix))), _, rfl, _, rfl, by show 0 ≤ sizeLine; decide, fun te nte => ⟨by show 4 ≤ sizeLine; decide, fun t nt => ?_⟩⟩
    have k1 := same_new (o := .tup []) nte
    have k2 := k1.trans (same_new (o := .tup [.str ws[(fn + i) % 12], .ref tpa, hv, .ref te]) nt)
    have hD18 := k2 _ _ hD16
    refine ⟨D, zs, _, rfl, rfl, hD18, small1000 (by have := dpa_len hz16; rw [List.length_map] at this; omega), ?_⟩
    have R18 := R16.of k2
    have tnew : tupOk 3 (Pr.d ⟨ws[(fn + i) % 12], ps, ls, false⟩) := tup_pr (by show ps.length ≤ 1000; omega) (by show ls.length ≤ 1000; omega)
    have nprs : prs.length = i := lp
    refine ⟨_, _, _, _, _, zs ++ [.ref t], prs ++ [⟨ws[(fn + i) % 12], ps, ls, false⟩], rfl, (f16'.trans (Fr.of k2)).mut nDH, ?_, (upd_ne nDP.symm).trans (k2 _ _ hP16), (upd_ne nDO.symm).trans (k2 _ _ hO16), (upd_ne nDrm.symm).trans (k2 _ _ hrm16), dp_mut hD18 2 tsh (dp_same k2 hsh16), upd_same, ?_, by rw [List.length_append, lp]; rfl, fun p hp => ?_, fun p hp => ?_, ?_⟩
    · obtain ⟨x1, x2, x3, x4⟩ := R18
      exact ⟨x1, x2, x3, (upd_ne nDr.symm).trans x4⟩
    · rw [List.map_append]
      refine dpa_app (dpa_mut hD18 3 tz (dpa_same k2 hz16)) (dp_mut hD18 3 tnew ?_)
      exact .tup (SqT.of upd_same) (.cons (.str _) (.cons (dp_same k2 hps16) (.cons (dp_same k2 hls) (.cons (.tup (SqT.of (same_new nt _ _ upd_same)) .nil) .nil))))
    · rcases List.mem_append.mp hp with hp | hp
      · exact pg p hp
      · rcases List.mem_singleton.mp hp with rfl
        refine ⟨lps, by show ls.length ≤ 3; omega, rfl, ⟨sn, ?_⟩, fun v hv => ?_, ?_⟩
        · show (ps ++ ls).map Vr.nm = pick OW sn (ps ++ ls).length
          rw [List.map_append, nps, nls, List.length_append, pick_add]
        · rcases List.mem_append.mp hv with hv | hv
          · exact sps v hv
          · exact sls v hv
        · show A * prodZ ((ps ++ ls).map Vr.sz) ≤ 64
          rw [List.map_append, prodZ_cat, ← Int.mul_assoc, ← ea, ← eb]
          omega
    · by_cases e0 : i = 0
      · subst e0
        obtain rfl : prs = [] := List.length_eq_zero_iff.mp nprs
        cases hp
        exact i0 rfl
      · rw [List.getElem?_append_left (by omega)] at hp
        exact pm p hp
    · rw [List.map_append, pn, List.length_append]
      show _ = pick ws fn (prs.length + 1)
      rw [pick_succ, nprs, l12, List.getD_eq_getElem?_getD, List.getElem?_eq_getElem hix]
      rfl
  · rintro σ H11 ⟨y10, y11, y12, y13, y14, zs, prs, rfl, f11, R11, hP11, hO11, hrm11, hsh11, hD11, hz11, lp, pg, pm, pn⟩
    refine ⟨_, rfl, _, rfl, _, rfl, _, rfl, D, zs, rfl, .inl ⟨SqL.of hD11, fun t1 m1 => ⟨by show 4 ≤ sizeLine; decide, fun t2 m2 => ?_⟩⟩⟩
    have k1 := same_new (o := .tup zs) m1
    have k2 := k1.trans (same_new (o := .tup [.int (1 + v2), .int (2 + v3), .ref ts, .ref t1]) m2)
    have lp' : prs.length = (1 + cn).toNat := lp
    refine q _ ⟨1 + v2, 2 + v3, vs, prs⟩ _ (f11.trans (Fr.of k2)) (R11.of k2) (heads_ok l12 wo (by omega) (by omega) (by omega) (by omega) v4 nvs svs (by omega) (by omega) pg pm pn) (fun p hp => (pg p hp).sk) ?_
    exact .tup (SqT.of upd_same) (.cons (.int _) (.cons (.int _) (.cons (dp_same k2 hsh11) (.cons (.tup (SqT.of (same_new m2 _ _ upd_same)) (dpa_same k2 hz11)) .nil))))


end
end Pf

namespace Pf
open PySem PySem.Spec PyProof.Rows L2
section
variable {P : Program} {w : World} {K : PySem.W.Frag} {mg : Str → Option Value} {base : Heap}
variable {c : Nat → Addr}
theorem slA_ok {K : PySem.W.Frag} {H : Hp} {a : Addr} {xs : List V} {lo hi : Option Int} {Q : VK} (h : SqT K H a xs) (q : ∀ r H', Same H H' → SqT K H' r (cutV xs lo hi) → Q (.ref r) H') : rSlA K (.ref a) lo hi H Q := by
  refine ⟨a, xs, rfl, h, fun e => q a H (Same.refl H) ?_, fun _ p np => q p _ (same_new np) (SqT.of upd_same)⟩
  have : cutV xs lo hi = xs := by
    unfold cutV
    rw [e.1, e.2, List.drop_zero, Nat.sub_zero, List.take_length]
  rw [this]
  exact h
theorem dpa_take {K : PySem.W.Frag} {H : Hp} : ∀ {xs : List V} {ds : List PyData} (n : Nat), DpAll K H xs ds → DpAll K H (xs.take n) (ds.take n)
  | _, _, _, .nil => by rw [List.take_nil, List.take_nil]; exact .nil
  | _, _, 0, .cons _ _ => by rw [List.take_zero, List.take_zero]; exact .nil
  | _, _, n + 1, .cons h k => .cons h (dpa_take n k)
theorem dpa_drop {K : PySem.W.Frag} {H : Hp} : ∀ {xs : List V} {ds : List PyData} (n : Nat), DpAll K H xs ds → DpAll K H (xs.drop n) (ds.drop n)
  | _, _, _, .nil => by rw [List.drop_nil, List.drop_nil]; exact .nil
  | _, _, 0, .cons h k => .cons h k
  | _, _, n + 1, .cons _ k => dpa_drop n k
theorem dpa_cat {K : PySem.W.Frag} {H : Hp} : ∀ {xs ys : List V} {ds es : List PyData}, DpAll K H xs ds → DpAll K H ys es → DpAll K H (xs ++ ys) (ds ++ es)
  | _, _, _, _, .nil, h => h
  | _, _, _, _, .cons p k, h => .cons p (dpa_cat k h)
theorem dpa_get' {K : PySem.W.Frag} {H : Hp} : ∀ {xs : List V} {ds : List PyData} {i : Nat} {d : PyData}, DpAll K H xs ds → ds[i]? = some d → ∃ x, xs[i]? = some x ∧ Dp K H x d
  | _, _, _, _, .nil, h => by simp at h
  | _, _, 0, _, .cons h _, e => by
    cases e
    exact ⟨_, rfl, h⟩
  | _, _, i + 1, _, .cons _ k, e => dpa_get' (i := i) k e
def putD (ds : List PyData) (k : Nat) (d : PyData) : List PyData := (ds.take k ++ [d]) ++ ds.drop (k + 1)
def sp__law_put (K : PySem.W.Frag) : Sp := fun us H Q _ => ∃ (v x : V) (ds : List PyData) (k : Nat) (d : PyData), us = [v, .int (k : Int), x] ∧ Dp K H v (.tuple ds) ∧ Dp K H x d ∧ ds.length ≤ 1000 ∧ k ≤ 1000 ∧ ∀ w H', Same H H' → Dp K H' w (.tuple (putD ds k d)) → Q w H'
theorem ok__law_put (T : Txt P K mg c) : Has P w K mg base 1 "_law_put" ["row", "k", "part"] (sp__law_put K) := by
  obtain ⟨f, fd, F, m, b⟩ := T.d__law_put.ex
  refine ⟨f, fd, F.ok sc__law_put (fun vs H Q E h => ?_) (fun cdv A outer s H vs Q E hr h => ?_), m, F.kp, b⟩
  · obtain ⟨v, x, ds, k, d, rfl, hv, hx, l1, l2, q⟩ := h
    rfl
  obtain ⟨v, x, ds, k, d, rfl, hv, hx, l1, l2, q⟩ := h
  refine ⟨_, (pss_one (ps_ret (pe_op op_catA (pe_op op_catA (pe_slice sl_tupA (pv 0) po_none (po_some (pv 1))) (pe_tup (pa_cons (pv 2) pa_nil))) (pe_slice sl_tupA (pv 0) (po_some (pe_op op_add (pv 1) pe_int)) po_none)))), ?_⟩
  obtain ⟨a, xs, rfl, hq, hk⟩ := dp_tup' hv
  have lx := dpa_len hk
  refine ⟨_, rfl, _, rfl, (k : Int), rfl, slA_ok hq fun r1 H1 s1 h1 => ?_⟩
  rw [cut_to] at h1
  refine ⟨_, rfl, by show 1 ≤ sizeLine; decide, fun t nt => ?_⟩
  have s2 := s1.trans (same_new (o := .tup [x]) nt)
  have h1' := seqT_same (same_new (o := .tup [x]) nt) h1
  refine catA_ok h1' (SqT.of upd_same) (line_small (by rw [List.length_take]; show min k xs.length + 1 ≤ _; omega)) fun r2 H3 s3 h3 => ?_
  have s23 := s2.trans s3
  refine ⟨_, rfl, _, rfl, _, _, rfl, rfl, _, rfl, ?_⟩
  unfold tNoPart
  refine slA_ok (seqT_same s23 hq) fun r3 H4 s4 h4 => ?_
  have e : cutV xs (some ((k : Int) + 1)) none = xs.drop (k + 1) := cut_from xs (k + 1)
  have h4' : SqT K H4 r3 (xs.drop (k + 1)) := e ▸ h4
  refine catA_ok (seqT_same s4 h3) h4' (line_small (by rw [List.length_append, List.length_take, List.length_drop]; show min k xs.length + 1 + (xs.length - (k + 1)) ≤ _; omega)) fun r4 H5 s5 h5 => ?_
  have s25 := (s23.trans s4).trans s5
  refine q _ _ s25 (.tup h5 (dpa_cat (dpa_cat (dpa_take k (dpa_same s25 hk)) (.cons (dp_same s25 hx) .nil)) (dpa_drop (k + 1) (dpa_same s25 hk))))
/-- the first body made one skip -/
def skip1 : List Pr → List Pr
  | [] => []
  | p :: ps => ⟨p.nm, p.ps, p.ls, true⟩ :: ps
def Pg.skip (g : Pg) : Pg := ⟨g.l, g.a, g.vs, skip1 g.ps⟩
theorem Pg.Ok.skip {g : Pg} (h : g.Ok) : g.skip.Ok := by
  obtain ⟨l, a, vs, ps⟩ := g
  cases ps with
  | nil => exact h
  | cons p ps =>
    obtain ⟨l1, l3, a2, a4, p1, p5, v4, p3, l33, pn, vn, pd, vd, s2, s4, si, mn⟩ := h
    have up : ∀ {R : Pr → Prop}, (∀ q ∈ p :: ps, R q) → (R p → R ⟨p.nm, p.ps, p.ls, true⟩) → ∀ q ∈ (⟨p.nm, p.ps, p.ls, true⟩ : Pr) :: ps, R q := fun {R} a k q hq => by
      rcases List.mem_cons.mp hq with rfl | hq
      · exact k (a p List.mem_cons_self)
      · exact a q (List.mem_cons_of_mem _ hq)
    refine ⟨l1, l3, a2, a4, p1, p5, v4, up p3 id, up l33 id, up pn id, up (R := fun q => ∀ v ∈ scp vs q, NmOk v.nm) vn id, pd, up (R := fun q => ((scp vs q).map Vr.nm).Nodup) vd id, up (R := fun q => ∀ v ∈ scp vs q, 2 ≤ v.sz) s2 id, up (R := fun q => ∀ v ∈ scp vs q, v.sz ≤ 4) s4 id, up (R := fun q => prodZ ((scp vs q).map Vr.sz) ≤ 64) si id, fun q hq => ?_⟩
    cases hq
    exact mn p rfl
theorem skip_d (g : Pg) (p : Pr) (ps : List Pr) (e : g.ps = p :: ps) : PyData.tuple (putD [.int g.l, .int g.a, .tuple (g.vs.map Vr.d), .tuple (g.ps.map Pr.d)] 3 (.tuple (putD (g.ps.map Pr.d) 0 (.tuple (putD [.str p.nm, .tuple (p.ps.map Vr.d), .tuple (p.ls.map Vr.d), .tuple (bdD p.sk)] 3 (.tuple (bdD true))))))) = g.skip.d := by
  obtain ⟨l, a, vs, ps'⟩ := g
  cases e
  rfl
def sp__law_headed (K : PySem.W.Frag) : Sp := fun us H Q _ => ∃ (v x : V) (g : Pg), us = [v, .int 0, .int 3, x] ∧ Dp K H v g.d ∧ Dp K H x (.tuple (bdD true)) ∧ g.Ok ∧ ∀ w H', Same H H' → Dp K H' w g.skip.d → Q w H'
theorem ok__law_headed (T : Txt P K mg c) : Has P w K mg base 2 "_law_headed" ["parts", "number", "part", "thing"] (sp__law_headed K) := by
  obtain ⟨f, fd, F, m, b⟩ := T.d__law_headed.ex
  obtain ⟨f__law_put, fd__law_put, G__law_put, m__law_put, k__law_put, b__law_put⟩ := ok__law_put (P := P) (w := w) (base := base) T
  refine ⟨f, fd, F.ok sc__law_headed (fun vs H Q E h => ?_) (fun cdv A outer s H vs Q E hr h => ?_), m, F.kp, b⟩
  · obtain ⟨v, x, g, rfl, hv, hx, ho, q⟩ := h
    rfl
  obtain ⟨v, x, g, rfl, hv, hx, ho, q⟩ := h
  refine ⟨_, (pss_one (ps_ret (pe_call G__law_put (hr.mono (by decide)) (by rfl) m__law_put k__law_put b__law_put .nil pass0 (pa_cons (pv 0) (pa_cons pe_int (pa_cons (pe_call G__law_put (hr.mono (by decide)) (by rfl) m__law_put k__law_put b__law_put .nil pass0 (pa_cons (pe_ix ix_tup (pv 0) pe_int (fun _ _ => rfl)) (pa_cons (pv 1) (pa_cons (pe_call G__law_put (hr.mono (by decide)) (by rfl) m__law_put k__law_put b__law_put .nil pass0 (pa_cons (pe_ix ix_tup (pe_ix ix_tup (pv 0) pe_int (fun _ _ => rfl)) (pv 1) (fun _ _ => rfl)) (pa_cons (pv 2) (pa_cons (pv 3) pa_nil)))) pa_nil)))) pa_nil)))))), ?_⟩
  have o1 := ho.p1
  have o5 := ho.p5
  obtain ⟨p, ps, eg⟩ : ∃ p ps, g.ps = p :: ps := by
    cases e : g.ps with
    | nil => rw [e] at o1; simp at o1
    | cons p ps => exact ⟨p, ps, rfl⟩
  have hv' : Dp K H v (.tuple [.int g.l, .int g.a, .tuple (g.vs.map Vr.d), .tuple (g.ps.map Pr.d)]) := hv
  obtain ⟨a, xs, rfl, hq, hk⟩ := dp_tup' hv'
  obtain ⟨x3, e3, h3⟩ := dpa_get' hk (i := 3) rfl
  obtain ⟨a3, xs3, rfl, hq3, hk3⟩ := dp_tup' h3
  obtain ⟨x0, e0, h0⟩ := dpa_get' hk3 (i := 0) (d := p.d) (by rw [eg]; rfl)
  have h0' : Dp K H x0 (.tuple [.str p.nm, .tuple (p.ps.map Vr.d), .tuple (p.ls.map Vr.d), .tuple (bdD p.sk)]) := h0
  refine ⟨_, rfl, _, rfl, a, xs, _, _, rfl, rfl, hq, atI_nat e3, _, rfl, _, rfl, a, xs, _, _, rfl, rfl, hq, atI_nat e3, _, rfl, ?_⟩
  refine ⟨a3, xs3, _, _, rfl, rfl, hq3, atI_nat (j := 0) e0, _, rfl, _, rfl, ?_⟩
  refine ⟨x0, x, _, 3, _, rfl, h0', hx, by show 4 ≤ 1000; decide, by decide, fun w1 H1 s1 hw1 => ?_⟩
  refine ⟨_, w1, _, 0, _, rfl, dp_same s1 h3, hw1, by rw [List.length_map]; omega, by decide, fun w2 H2 s2 hw2 => ?_⟩
  refine ⟨_, w2, _, 3, _, rfl, dp_same (s1.trans s2) hv', hw2, by show 4 ≤ 1000; decide, by decide, fun w3 H3 s3 hw3 => ?_⟩
  refine q _ _ ((s1.trans s2).trans s3) ?_
  rw [← skip_d g p ps eg]
  exact hw3


end
end Pf

namespace Pf
open PySem PySem.Spec PyProof.Rows L2
section
variable {P : Program} {w : World} {K : PySem.W.Frag} {mg : Str → Option Value} {base : Heap}
variable {c : Nat → Addr}
def sp__law_loose (K : PySem.W.Frag) : Sp := fun us H Q _ => ∃ (v : V) (sk : Bool), us = [v] ∧ Dp K H v (.tuple (bdD sk)) ∧ ∀ (l : Addr) (ws : List V) (H' : Hp), Same H H' → H l = none → H' l = some (.lst ws) → DpAll K H' ws (bdD sk) → Q (.ref l) H'
theorem ok__law_loose (T : Txt P K mg c) : Has P w K mg base 1 "_law_loose" ["body"] (sp__law_loose K) := by
  obtain ⟨f, fd, F, m, b⟩ := T.d__law_loose.ex
  refine ⟨f, fd, F.ok sc__law_loose (fun vs H Q E h => ?_) (fun cdv A outer s H vs Q E hr h => ?_), m, F.kp, b⟩
  · obtain ⟨v, sk, rfl, hv, q⟩ := h
    rfl
  obtain ⟨v, sk, rfl, hv, q⟩ := h
  refine ⟨_, (pss_cons (ps_set (i := 1) sc__law_loose.nd rfl (.inl rfl) (pe_lst pa_nil))
      (pss_cons (ps_for PassesOwn.never rfl (pi_tup (pv 0)) (pg_name (i := 2) sc__law_loose.nd rfl (.inl rfl))
      (pss_cons (ps_set (i := 3) sc__law_loose.nd rfl (.inl rfl) (pv 2))
        (pss_cons (ps_if (pt_cmpR op_eq (pe_ix ix_tup (pv 2) pe_int (fun _ _ => rfl)) pe_str (nomark _))
        (pss_one ps_dead)
        pss_nil)
        (pss_cons (ps_if (pt_cmpR op_eq (pe_ix ix_tup (pv 2) pe_int (fun _ _ => rfl)) pe_str (nomark _))
        (pss_one ps_dead)
        pss_nil)
        (pss_cons (ps_if (pt_cmpR op_eq (pe_ix ix_tup (pv 2) pe_int (fun _ _ => rfl)) pe_str (nomark _))
        (pss_one ps_dead)
        pss_nil)
        (pss_one (ps_expr (pe_bm PySem.F.plainAttrs_list PySem.F.slot_list_append PySem.F.type_list_append mt_append (pv 1) (pa_cons (pv 3) pa_nil)))))))))
      (pss_one (ps_ret (pv 1))))), ?_⟩
  obtain ⟨a, xs, rfl, hq, hk⟩ := dp_tup' hv
  have lx : xs.length ≤ 1 := by
    have := dpa_len hk
    have : (bdD sk).length ≤ 1 := by cases sk <;> simp [bdD]
    omega
  refine ⟨by show 0 ≤ sizeLine; decide, fun L nL => ?_⟩
  have e0 := same_new (o := .lst []) nL
  refine ⟨_, rfl, a, rfl, ⟨_, seqT_same e0 hq⟩, for_it (walk_tup (xs := xs)) (fun i σ H' => ∃ (y2 y3 : Option V), σ = [some (.ref a), some (.ref L), y2, y3] ∧ Same H H' ∧ H' L = some (.lst (xs.take i))) ⟨_, _, rfl, e0, upd_same⟩ (fun i σ H' _ h' => ?_) ?_ ?_⟩
  · obtain ⟨_, _, _, s1, _⟩ := h'
    exact seqT_same s1 hq
  · rintro i x σ H1 H2 hi ⟨y2, y3, rfl, s1, hL⟩ ⟨rfl, hx⟩
    obtain ⟨d, ed, hd⟩ := dpa_getx' (dpa_same s1 hk) hx
    have e : d = skD := by
      cases sk
      · simp [bdD] at ed
      · obtain _ | i := i
        · cases ed
          rfl
        · simp [bdD] at ed
    subst e
    have hd' : Dp K H2 x (.tuple [.str "skip"]) := hd
    obtain ⟨t, us, rfl, ht, hu⟩ := dp_tup' hd'
    cases hu with
    | cons h1 h2 =>
    cases h2
    cases h1
    refine ⟨_, rfl, ?_⟩
    refine ⟨_, rfl, t, _, _, _, rfl, rfl, ht, o0, rfl, _, rfl, nope (by decide +kernel) ?_⟩
    refine ⟨_, rfl, t, _, _, _, rfl, rfl, ht, o0, rfl, _, rfl, nope (by decide +kernel) ?_⟩
    refine ⟨_, rfl, t, _, _, _, rfl, rfl, ht, o0, rfl, _, rfl, nope (by decide +kernel) ?_⟩
    refine ⟨_, rfl, .inl ⟨rfl, _, SqL.of hL⟩, _, rfl, L, _, _, rfl, rfl, hL, small1000 (by rw [List.length_take]; omega), ?_⟩
    refine ⟨_, _, rfl, same_mut s1 nL, ?_⟩
    rw [upd_same, take_succ_at hx]
  · rintro σ H1 ⟨y2, y3, rfl, s1, hL⟩
    rw [List.take_length] at hL
    exact ⟨_, rfl, q L xs H1 s1 nL hL (dpa_same s1 hk)⟩
/-- a tuple that begins with a text which no test asks for -/
def SpIt (K : PySem.W.Frag) (H : Hp) (x : V) : Prop := ∃ q z r, x = .ref q ∧ SqT K H q (.str z :: r) ∧ z ∉ (["if", "while", "call"] : List Str)
def SpL (K : PySem.W.Frag) (H : Hp) (l : Addr) (n : Nat) : Prop := ∃ ys, H l = some (.lst ys) ∧ ys.length ≤ n ∧ ∀ y ∈ ys, SpIt K H y
theorem SpIt.same {K : PySem.W.Frag} {H H' : Hp} {x : V} (e : Same H H') (h : SpIt K H x) : SpIt K H' x := let ⟨q, z, r, h1, h2, h3⟩ := h; ⟨q, z, r, h1, seqT_same e h2, h3⟩
theorem SpIt.mut {K : PySem.W.Frag} {H : Hp} {x : V} {D : Addr} {zs : List V} {o : HO} (e : H D = some (.lst zs)) (h : SpIt K H x) : SpIt K (upd H D o) x := let ⟨q, z, r, h1, h2, h3⟩ := h; ⟨q, z, r, h1, seqT_mut e h2, h3⟩
theorem SpL.same {K : PySem.W.Frag} {H H' : Hp} {l : Addr} {n : Nat} (e : Same H H') (h : SpL K H l n) : SpL K H' l n := let ⟨ys, h1, h2, h3⟩ := h; ⟨ys, e _ _ h1, h2, fun y hy => (h3 y hy).same e⟩
theorem SpL.up {K : PySem.W.Frag} {H : Hp} {l : Addr} {n m : Nat} (h : SpL K H l n) (k : n ≤ m) : SpL K H l m := let ⟨ys, h1, h2, h3⟩ := h; ⟨ys, h1, Nat.le_trans h2 k, h3⟩
/-- one such list gets items anew -/
theorem SpL.put {K : PySem.W.Frag} {H : Hp} {l D : Addr} {n : Nat} {ys zs : List V} (h : SpL K H l n) (hD : H D = some (.lst ys)) (lz : zs.length ≤ n) (hz : ∀ z ∈ zs, SpIt K H z) : SpL K (upd H D (.lst zs)) l n := by
  obtain ⟨us, h1, h2, h3⟩ := h
  by_cases e : l = D
  · subst e
    exact ⟨zs, upd_same, lz, fun z m => (hz z m).mut hD⟩
  · exact ⟨us, (upd_ne e).trans h1, h2, fun y m => (h3 y m).mut hD⟩
theorem skip_it {K : PySem.W.Frag} {H : Hp} {t : Addr} (h : SqT K H t [.str "skip"]) : SpIt K H (.ref t) := ⟨t, "skip", [], rfl, h, by decide +kernel⟩
def sp__law_spoil (K : PySem.W.Frag) : Sp := fun us H Q _ => ∃ (l : Addr) (ys : List V), us = [.ref l] ∧ H l = some (.lst ys) ∧ ys.length ≤ 1000 ∧ (∀ y ∈ ys, SpIt K H y) ∧ ∀ (t : Addr) (H' : Hp), H t = none → H' = upd (upd H t (.tup [.str "skip"])) l (.lst (.ref t :: ys)) → Q .non H'
theorem ok__law_spoil (T : Txt P K mg c) : Has P w K mg base 1 "_law_spoil" ["body"] (sp__law_spoil K) := by
  obtain ⟨f, fd, F, m, b⟩ := T.d__law_spoil.ex
  refine ⟨f, fd, F.ok sc__law_spoil (fun vs H Q E h => ?_) (fun cdv A outer s H vs Q E hr h => ?_), m, F.kp, b⟩
  · obtain ⟨l, ys, rfl, hl, ly, hy, q⟩ := h
    rfl
  obtain ⟨l, ys, rfl, hl, ly, hy, q⟩ := h
  refine ⟨_, (pss_cons (ps_for PassesOwn.never rfl (pi_list (pv 0)) (pg_name (i := 1) sc__law_spoil.nd rfl (.inl rfl))
      (pss_cons (ps_if (pt_cmpR op_eq (pe_ix ix_tup (pv 1) pe_int (fun _ _ => rfl)) pe_str (nomark _))
        (pss_cons ps_dead
          (pss_one ps_dead))
        pss_nil)
        (pss_cons (ps_if (pt_cmpR op_eq (pe_ix ix_tup (pv 1) pe_int (fun _ _ => rfl)) pe_str (nomark _))
        (pss_one ps_dead)
        pss_nil)
        (pss_one (ps_if (pt_cmpR op_eq (pe_ix ix_tup (pv 1) pe_int (fun _ _ => rfl)) pe_str (nomark _))
        (pss_cons ps_dead
          (pss_one ps_dead))
        pss_nil)))))
      (pss_one (ps_expr (pe_bm PySem.F.plainAttrs_list PySem.F.slot_list_insert PySem.F.type_list_insert mt_insert (pv 0) (pa_cons pe_int (pa_cons (pe_tup (pa_cons pe_str pa_nil)) pa_nil)))))), ?_⟩
  refine ⟨_, rfl, l, rfl, ⟨_, SqL.of hl⟩, for_it (walk_list (xs := ys)) (fun i σ H' => ∃ (y1 y2 : Option V), σ = [some (.ref l), y1, y2] ∧ H' = H) ⟨_, _, rfl, rfl⟩ (fun i σ H' _ h' => ?_) ?_ ?_⟩
  · obtain ⟨_, _, _, rfl⟩ := h'
    exact SqL.of hl
  · rintro i x σ H1 H2 hi ⟨y1, y2, rfl, rfl⟩ ⟨rfl, hx⟩
    obtain ⟨t, z, r, rfl, ht, hz⟩ := hy x (List.mem_of_getElem? hx)
    have n1 : z ≠ "if" := fun e => hz (by rw [e]; exact List.mem_cons_self)
    have n2 : z ≠ "while" := fun e => hz (by rw [e]; exact List.mem_cons_of_mem _ List.mem_cons_self)
    have n3 : z ≠ "call" := fun e => hz (by rw [e]; exact List.mem_cons_of_mem _ (List.mem_cons_of_mem _ List.mem_cons_self))
    have a0 : atI (V.str z :: r) 0 = some (.str z) := atI_nat (j := 0) rfl
    refine ⟨_, rfl, t, _, _, _, rfl, rfl, ht, a0, rfl, _, rfl, nope (fun e => n1 (V.str.inj e)) ?_⟩
    refine ⟨_, rfl, t, _, _, _, rfl, rfl, ht, a0, rfl, _, rfl, nope (fun e => n2 (V.str.inj e)) ?_⟩
    refine ⟨_, rfl, t, _, _, _, rfl, rfl, ht, a0, rfl, _, rfl, nope (fun e => n3 (V.str.inj e)) ?_⟩
    exact ⟨_, _, rfl, rfl⟩
  · rintro σ H1 ⟨y1, y2, rfl, rfl⟩
    refine ⟨_, rfl, .inl ⟨rfl, _, SqL.of hl⟩, by show 1 ≤ sizeLine; decide, fun t nt => ⟨l, ys, 0, _, rfl, rfl, same_new nt _ _ hl, small1000 (by omega), by decide, by decide, ?_⟩⟩
    exact q t _ nt rfl


end
end Pf

namespace Pf
open PySem PySem.Spec PyProof.Rows L2
section
variable {P : Program} {w : World} {K : PySem.W.Frag} {mg : Str → Option Value} {base : Heap}
variable {c : Nat → Addr}
/-- a procedure with lists of its own, apart from D -/
def PrL (K : PySem.W.Frag) (H0 : Hp) (D : Addr) (H : Hp) (x : V) (p : Pr) : Prop := ∃ (t l1 l2 l3 : Addr) (x1 x2 x3 : List V), x = .ref t ∧ SqT K H t [.str p.nm, .ref l1, .ref l2, .ref l3] ∧ (H0 l1 = none ∧ H0 l2 = none ∧ H0 l3 = none) ∧ l1 ≠ D ∧ l2 ≠ D ∧ l3 ≠ D ∧ H l1 = some (.lst x1) ∧ H l2 = some (.lst x2) ∧ H l3 = some (.lst x3) ∧
  DpAll K H x1 (p.ps.map Vr.d) ∧ DpAll K H x2 (p.ls.map Vr.d) ∧ DpAll K H x3 (bdD p.sk)
theorem PrL.same {K : PySem.W.Frag} {H0 : Hp} {D : Addr} {H H' : Hp} {x : V} {p : Pr} (e : Same H H') (h : PrL K H0 D H x p) : PrL K H0 D H' x p := by
  obtain ⟨t, l1, l2, l3, x1, x2, x3, h0, h1, nn, n1, n2, n3, a1, a2, a3, d1, d2, d3⟩ := h
  exact ⟨t, l1, l2, l3, x1, x2, x3, h0, seqT_same e h1, nn, n1, n2, n3, e _ _ a1, e _ _ a2, e _ _ a3, dpa_same e d1, dpa_same e d2, dpa_same e d3⟩
theorem ok_bd (n : Nat) (b : Bool) : ∀ d ∈ bdD b, tupOk (n + 1) d := fun d hd => by
  have : d = skD := by cases b <;> simp [bdD] at hd; exact hd
  subst this
  exact tup_seq (by show 1 ≤ 100000; decide) fun e he => by
    rcases List.mem_singleton.mp he with rfl
    exact (tup_atom n).2 _
theorem PrL.mut {K : PySem.W.Frag} {H0 : Hp} {D : Addr} {H : Hp} {x : V} {p : Pr} {zs : List V} {o : HO} (e : H D = some (.lst zs)) (h : PrL K H0 D H x p) : PrL K H0 D (upd H D o) x p := by
  obtain ⟨t, l1, l2, l3, x1, x2, x3, h0, h1, nn, n1, n2, n3, a1, a2, a3, d1, d2, d3⟩ := h
  exact ⟨t, l1, l2, l3, x1, x2, x3, h0, seqT_mut e h1, nn, n1, n2, n3, (upd_ne n1).trans a1, (upd_ne n2).trans a2, (upd_ne n3).trans a3, dpa_mut e 1 (tup_vrs 0 _) d1, dpa_mut e 1 (tup_vrs 0 _) d2, dpa_mut e 1 (ok_bd 0 _) d3⟩
theorem dla_of {K : PySem.W.Frag} {H : Hp} {xs : List V} {ds : List PyData} (l : xs.length = ds.length) (h : ∀ (i : Nat) (x : V) (d : PyData), xs[i]? = some x → ds[i]? = some d → Dl K H x d) : DlAll K H xs ds := by
  induction xs generalizing ds with
  | nil =>
    cases ds with
    | nil => exact .nil
    | cons d ds => simp at l
  | cons x xs ih =>
    cases ds with
    | nil => simp at l
    | cons d ds => exact .cons (h 0 x d rfl rfl) (ih (by simpa using l) fun i y e a b => h (i + 1) y e a b)
def looseD (p : Pr) : PyData := .tuple [.str p.nm, .list (p.ps.map Vr.d), .list (p.ls.map Vr.d), .list (bdD p.sk)]
theorem PrL.dl {K : PySem.W.Frag} {H0 : Hp} {D : Addr} {H : Hp} {x : V} {p : Pr} (h : PrL K H0 D H x p) : Dl K H x (looseD p) := by
  obtain ⟨t, l1, l2, l3, x1, x2, x3, rfl, h1, nn, n1, n2, n3, a1, a2, a3, d1, d2, d3⟩ := h
  exact .tup h1 (.cons (.str _) (.cons (.lst a1 (dla_dp 1 (tup_vrs 0 _) d1)) (.cons (.lst a2 (dla_dp 1 (tup_vrs 0 _) d2)) (.cons (.lst a3 (dla_dp 1 (ok_bd 0 _) d3)) .nil))))
theorem raw_loose (ps : List Pr) : rawPs (.list (ps.map looseD)) ps := ⟨_, .inl rfl, by rw [List.length_map], fun i d p e1 e2 => by
  rw [List.getElem?_map, e2] at e1
  cases e1
  exact ⟨_, _, _, rfl, .inl rfl, .inl rfl, .inl rfl⟩⟩
theorem raw_tight (ps : List Pr) : rawPs (.tuple (ps.map Pr.d)) ps := ⟨_, .inr rfl, by rw [List.length_map], fun i d p e1 e2 => by
  rw [List.getElem?_map, e2] at e1
  cases e1
  exact ⟨_, _, _, rfl, .inr rfl, .inr rfl, .inr rfl⟩⟩
theorem tup_sgt {g : Pg} (ho : g.Ok) : tupOk 3 (nmsD g) ∧ tupOk 3 (szsD g) ∧ tupOk 3 (sgtD g) := by
  have o5 := ho.p5
  have dl := ho.decl.len
  refine ⟨tup_seq (by rw [List.length_map]; omega) fun d hd => ?_, tup_seq (by rw [List.length_map]; omega) fun d hd => ?_, tup_seq (by rw [List.length_map]; omega) fun d hd => ?_⟩
  · obtain ⟨p, hp, rfl⟩ := List.mem_map.mp hd
    have := dl p hp
    refine tup_seq (by rw [List.length_map, List.length_map]; omega) fun e he => ?_
    obtain ⟨z, _, rfl⟩ := List.mem_map.mp he
    exact (tup_atom 1).2 z
  · obtain ⟨p, hp, rfl⟩ := List.mem_map.mp hd
    have := dl p hp
    refine tup_seq (by rw [List.length_map, List.length_map]; omega) fun e he => ?_
    obtain ⟨z, _, rfl⟩ := List.mem_map.mp he
    exact (tup_atom 1).1 z
  · obtain ⟨p, hp, rfl⟩ := List.mem_map.mp hd
    exact ho.sg hp
theorem PgAt.mut {K : PySem.W.Frag} {C D p : Addr} {H : Hp} {g : Pg} {zs : List V} {o : HO} (ho : g.Ok) (e : H D = some (.lst zs)) (h : PgAt K C H p g) : PgAt K C (upd H D o) p g := by
  obtain ⟨dx, v, x, n, z, s, pl, pt, hp, d1, d2, d3⟩ := h
  obtain ⟨t1, t2, t3⟩ := tup_sgt ho
  refine ⟨dx, v, x, n, z, s, pl, pt, (upd_ne fun z => ?_).trans hp, dp_mut e 3 t1 d1, dp_mut e 3 t2 d2, dp_mut e 3 t3 d3⟩
  subst z
  rw [e] at hp
  cases hp
theorem vr_it {K : PySem.W.Frag} {H : Hp} {x : V} {v : Vr} (h : Dp K H x v.d) (n : NmOk v.nm) : SpIt K H x := by
  have h' : Dp K H x (.tuple [.str v.nm, .int v.sz]) := h
  obtain ⟨t, us, rfl, ht, hu⟩ := dp_tup' h'
  cases hu with
  | cons h1 h2 =>
  cases h1
  refine ⟨t, v.nm, _, rfl, ht, fun m => n.kw ?_⟩
  rcases List.mem_cons.mp m with e | m
  · rw [e]; decide +kernel
  rcases List.mem_cons.mp m with e | m
  · rw [e]; decide +kernel
  rcases List.mem_cons.mp m with e | m
  · rw [e]; decide +kernel
  · cases m
theorem bd_it {K : PySem.W.Frag} {H : Hp} {xs : List V} {b : Bool} (h : DpAll K H xs (bdD b)) : ∀ x ∈ xs, SpIt K H x := fun x hx => by
  obtain ⟨i, hi⟩ := List.getElem?_of_mem hx
  obtain ⟨d, ed, hd⟩ := dpa_getx' h hi
  have e : d = skD := by
    cases b
    · simp [bdD] at ed
    · obtain _ | i := i
      · cases ed
        rfl
      · simp [bdD] at ed
  subst e
  have hd' : Dp K H x (.tuple [.str "skip"]) := hd
  obtain ⟨t, us, rfl, ht, hu⟩ := dp_tup' hd'
  cases hu with
  | cons h1 h2 =>
  cases h2
  cases h1
  exact skip_it ht
theorem vs_it {K : PySem.W.Frag} {H : Hp} {xs : List V} {vs : List Vr} (h : DpAll K H xs (vs.map Vr.d)) (n : ∀ v ∈ vs, NmOk v.nm) : ∀ x ∈ xs, SpIt K H x := fun x hx => by
  obtain ⟨i, hi⟩ := List.getElem?_of_mem hx
  obtain ⟨d, ed, hd⟩ := dpa_getx' h hi
  rw [List.getElem?_map] at ed
  cases ev : vs[i]? with
  | none => rw [ev] at ed; cases ed
  | some v =>
    rw [ev] at ed
    cases ed
    exact vr_it hd (n v (List.mem_of_getElem? ev))
/-- how things stand while the lists are changed behind the call -/
def Sta (K : PySem.W.Frag) (C : Addr) (H0 : Hp) (x : Addr) (g : Pg) (D W : Addr) (ts : List V) (H : Hp) (n : Nat) : Prop := Same H0 H ∧ PgAt K C H x g ∧ H D = some (.lst ts) ∧ SpL K H W n ∧ ∀ t ∈ ts, ∃ (u : Addr) (z : Str) (l1 l2 l3 : Addr), t = .ref u ∧ SqT K H u [.str z, .ref l1, .ref l2, .ref l3] ∧ (H0 l1 = none ∧ H0 l2 = none ∧ H0 l3 = none) ∧ (l1 ≠ D ∧ l2 ≠ D ∧ l3 ≠ D) ∧ SpL K H l1 n ∧ SpL K H l2 n ∧ SpL K H l3 n
theorem Sta.same {K : PySem.W.Frag} {C : Addr} {H0 : Hp} {x : Addr} {g : Pg} {D W : Addr} {ts : List V} {H H' : Hp} {n : Nat} (h : Sta K C H0 x g D W ts H n) (e : Same H H') : Sta K C H0 x g D W ts H' n := by
  obtain ⟨a, b, d, w, k⟩ := h
  refine ⟨a.trans e, b.same e, e _ _ d, w.same e, fun t ht => ?_⟩
  obtain ⟨u, z, l1, l2, l3, k1, k2, k3, k4, k5, k6, k7⟩ := k t ht
  exact ⟨u, z, l1, l2, l3, k1, seqT_same e k2, k3, k4, k5.same e, k6.same e, k7.same e⟩
theorem Sta.put {K : PySem.W.Frag} {C : Addr} {H0 : Hp} {x : Addr} {g : Pg} {D W l : Addr} {ts ys zs : List V} {H : Hp} {n m : Nat} (h : Sta K C H0 x g D W ts H n) (ho : g.Ok) (hl : H l = some (.lst ys)) (nl : H0 l = none) (nD : l ≠ D) (le : n ≤ m) (lz : zs.length ≤ m) (hz : ∀ z ∈ zs, SpIt K H z) : Sta K C H0 x g D W ts (upd H l (.lst zs)) m := by
  obtain ⟨a, b, d, w, k⟩ := h
  refine ⟨same_mut a nl, b.mut ho hl, (upd_ne nD.symm).trans d, (w.up le).put hl lz hz, fun t ht => ?_⟩
  obtain ⟨u, z, l1, l2, l3, k1, k2, k3, k4, k5, k6, k7⟩ := k t ht
  exact ⟨u, z, l1, l2, l3, k1, seqT_mut hl k2, k3, k4, (k5.up le).put hl lz hz, (k6.up le).put hl lz hz, (k7.up le).put hl lz hz⟩
theorem pair_it {K : PySem.W.Frag} {H : Hp} {t : Addr} {i : Int} (h : SqT K H t [.str "spoilt", .int i]) : SpIt K H (.ref t) := ⟨t, "spoilt", _, rfl, h, by decide +kernel⟩
def sp__law_made (K : PySem.W.Frag) (C : Addr) : Sp := fun us H Q _ => ∃ (v : V) (f : Int) (g : Pg), us = [v, .int f] ∧ Dp K H v g.d ∧ g.Ok ∧ ∀ (p : Addr) (H' : Hp), Same H H' → PgAt K C H' p g → Q (.ref p) H'
theorem ok__law_made (T : Txt P K mg c) : Has P w K mg base 9 "_law_made" ["parts", "form"] (sp__law_made K (c id_Program)) := by
  obtain ⟨f, fd, F, m, b⟩ := T.d__law_made.ex
  obtain ⟨f_Program_init, fd_Program_init, G_Program_init, M_Program_init, b_Program_init⟩ := ok_Program_init (P := P) (w := w) (base := base) T
  obtain ⟨f__law_loose, fd__law_loose, G__law_loose, m__law_loose, k__law_loose, b__law_loose⟩ := ok__law_loose (P := P) (w := w) (base := base) T
  obtain ⟨f__law_spoil, fd__law_spoil, G__law_spoil, m__law_spoil, k__law_spoil, b__law_spoil⟩ := ok__law_spoil (P := P) (w := w) (base := base) T
  refine ⟨f, fd, F.ok sc__law_made (fun vs H Q E h => ?_) (fun cdv A outer s H vs Q E hr h => ?_), m, F.kp, b⟩
  · obtain ⟨v, f, g, rfl, hv, ho, q⟩ := h
    rfl
  obtain ⟨v, f, g, rfl, hv, ho, q⟩ := h
  refine ⟨_, (C8.pss_cut (ps_if (pt_cmpR op_gt (pv 1) pe_int (nomark _))
      (pss_one (ps_ret (pe_make M_Program_init G_Program_init (hr.mono (by decide)) (by rfl) T.g_Program b_Program_init .nil pass0 (pa_cons (pe_ix ix_tup (pv 0) pe_int (fun _ _ => rfl)) (pa_cons (pe_ix ix_tup (pv 0) pe_int (fun _ _ => rfl)) (pa_cons (pe_ix ix_tup (pv 0) pe_int (fun _ _ => rfl)) (pa_cons (pe_ix ix_tup (pv 0) pe_int (fun _ _ => rfl)) pa_nil)))))))
      pss_nil)
      (pss_cons (ps_set (i := 2) sc__law_made.nd rfl (.inl rfl) (pe_callTy call_list_of (by rfl) T.z_list (by decide +kernel) (pa_cons (pe_ix ix_tup (pv 0) pe_int (fun _ _ => rfl)) pa_nil)))
      (pss_cons (ps_setLc (i := 4) (own := [("told", 3)]) (g := gName 3) (by rfl) sc__law_made.nd rfl rfl (sw_true rfl rfl rfl (by decide +kernel)) (pi_tup (pe_ix ix_tup (pv 0) pe_int (fun _ _ => rfl))) (blkOk_by (own := [("told", 3)]) (N := ["parts", "form", "variables", "told", "procedures", "program"]) (sc := defScope s__law_made) (by decide +kernel)) (fun _ _ _ _ _ => (pg_name (i := 3) sc__law_made.nd rfl (.inl rfl))) (fun _ _ _ _ _ => pts_nil) (fun _ _ _ _ _ => (pe_tup (pa_cons (pe_ix (ix_tupK (K := K) rfl) (pv 3) pe_int (fun _ _ => rfl)) (pa_cons (pe_callTy (call_list_ofK (K := K) rfl) (by rfl) T.z_list (by decide +kernel) (pa_cons (pe_ix (ix_tupK (K := K) rfl) (pv 3) pe_int (fun _ _ => rfl)) pa_nil)) (pa_cons (pe_callTy (call_list_ofK (K := K) rfl) (by rfl) T.z_list (by decide +kernel) (pa_cons (pe_ix (ix_tupK (K := K) rfl) (pv 3) pe_int (fun _ _ => rfl)) pa_nil)) (pa_cons (pe_call G__law_loose (hr.mono (by decide)) (by rfl) m__law_loose k__law_loose b__law_loose .nil pass0 (pa_cons (pe_ix (ix_tupK (K := K) rfl) (pv 3) pe_int (fun _ _ => rfl)) pa_nil)) pa_nil)))))))
      (pss_cons (ps_set (i := 5) sc__law_made.nd rfl (.inl rfl) (pe_make M_Program_init G_Program_init (hr.mono (by decide)) (by rfl) T.g_Program b_Program_init .nil pass0 (pa_cons (pe_ix ix_tup (pv 0) pe_int (fun _ _ => rfl)) (pa_cons (pe_ix ix_tup (pv 0) pe_int (fun _ _ => rfl)) (pa_cons (pv 2) (pa_cons (pv 4) pa_nil))))))
      (pss_cons (ps_for PassesOwn.never rfl (pi_list (pv 4)) (pg_name (i := 3) sc__law_made.nd rfl (.inl rfl))
      (pss_cons (ps_expr (pe_call G__law_spoil (hr.mono (by decide)) (by rfl) m__law_spoil k__law_spoil b__law_spoil .nil pass0 (pa_cons (pe_ix ix_tup (pv 3) pe_int (fun _ _ => rfl)) pa_nil)))
        (pss_cons (ps_expr (pe_bm PySem.F.plainAttrs_list PySem.F.slot_list_append PySem.F.type_list_append mt_append (pe_ix ix_tup (pv 3) pe_int (fun _ _ => rfl)) (pa_cons (pe_tup (pa_cons pe_str (pa_cons pe_int pa_nil))) pa_nil)))
        (pss_one (ps_expr (pe_bm0 PySem.F.plainAttrs_list PySem.F.slot_list_clear PySem.F.type_list_clear mt_clear (pe_ix ix_tup (pv 3) pe_int (fun _ _ => rfl))))))))
      (pss_cons (ps_expr (pe_bm PySem.F.plainAttrs_list PySem.F.slot_list_append PySem.F.type_list_append mt_append (pv 2) (pa_cons (pe_tup (pa_cons pe_str (pa_cons pe_int pa_nil))) pa_nil)))
      (pss_cons (ps_expr (pe_bm0 PySem.F.plainAttrs_list PySem.F.slot_list_reverse PySem.F.type_list_reverse mt_reverse (pv 4)))
      (pss_one (ps_ret (pv 5)))))))))), ?_⟩
  have o4 := ho.v4
  have o5 := ho.p5
  have hv' : Dp K H v (.tuple [.int g.l, .int g.a, .tuple (g.vs.map Vr.d), .tuple (g.ps.map Pr.d)]) := hv
  obtain ⟨a, xs, rfl, hq, hk⟩ := dp_tup' hv'
  obtain ⟨x0, e0, h0⟩ := dpa_get' hk (i := 0) rfl
  obtain ⟨x1, e1, h1⟩ := dpa_get' hk (i := 1) rfl
  obtain ⟨x2, e2, h2⟩ := dpa_get' hk (i := 2) rfl
  obtain ⟨x3, e3, h3⟩ := dpa_get' hk (i := 3) rfl
  cases h0
  cases h1
  refine ⟨fun σ H' => σ = [some (.ref a), some (.int f), none, none, none, none] ∧ H = H', ?_, ?_⟩
  · refine ⟨_, rfl, _, _, rfl, rfl, _, rfl, ite2 (fun e => ?_) (fun e => ⟨rfl, rfl⟩)⟩
    refine ⟨_, rfl, a, xs, _, _, rfl, rfl, hq, atI_nat e0, _, rfl, a, xs, _, _, rfl, rfl, hq, atI_nat e1, _, rfl, a, xs, _, _, rfl, rfl, hq, atI_nat e2, _, rfl, a, xs, _, _, rfl, rfl, hq, atI_nat e3, fun x dx nx ndx nex => ?_⟩
    have s3 : Same H (upd (upd H dx (.own x)) x (.ins (c id_Program) dx [])) := fun b o e => by
      rw [upd_ne (ne_of_none e nx), upd_ne (ne_of_none e ndx)]
      exact e
    refine ⟨x, dx, g, x2, x3, _, _, rfl, upd_same, ho, dl_dp 2 (tup_vs 0 (by omega)) (dp_same s3 h2), .inr rfl, dl_dp 4 (tup_ps ho) (dp_same s3 h3), raw_tight g.ps, fun H' kp hc => ?_⟩
    exact ⟨rfl, q x H' (fun b o e => kp b o (s3 _ _ e) (ne_of_none e nx)) hc⟩
  rintro σ H' ⟨rfl, rfl⟩
  obtain ⟨a2, xs2, rfl, hq2, hk2⟩ := dp_tup' h2
  obtain ⟨a3, xs3, rfl, hq3, hk3⟩ := dp_tup' h3
  have lx2 : xs2.length ≤ 4 := by
    have := dpa_len hk2
    rw [List.length_map] at this
    omega
  have lx3 : xs3.length = g.ps.length := by
    have := dpa_len hk3
    rwa [List.length_map] at this
  -- variables
  refine ⟨_, rfl, a, xs, _, _, rfl, rfl, hq, atI_nat e2, a2, xs2, rfl, .inr hq2, fun W nW => ?_⟩
  have s1 := same_new (o := .lst xs2) nW
  have hW1 := upd_same (H := H) (a := W) (o := .lst xs2)
  generalize upd H W (.lst xs2) = H1 at s1 hW1 ⊢
  -- procedures
  refine ⟨_, rfl, a, xs, _, _, rfl, rfl, seqT_same s1 hq, atI_nat e3, a3, rfl, ⟨_, seqT_same s1 hq3⟩, fun D nD => lc_it (walk_tup (xs := xs3)) (fun i H' => Same H1 H' ∧ ∃ ts, H' D = some (.lst ts) ∧ All2 (PrL K H D H') ts (g.ps.take i)) ⟨same_new nD, [], upd_same, .nil⟩ (fun i H' _ h' => seqT_same (s1.trans h'.1) hq3) ?_ ?_⟩
  · rintro i y H2 H3 hi ⟨s2, ts, hD, hts⟩ ⟨rfl, hy⟩
    have s12 := s1.trans s2
    obtain ⟨d, ed, hd⟩ := dpa_getx' hk3 hy
    rw [List.getElem?_map] at ed
    cases ep : g.ps[i]? with
    | none => rw [ep] at ed; cases ed
    | some p =>
    rw [ep] at ed
    cases ed
    have mp := List.mem_of_getElem? ep
    have lts : ts.length = i := by rw [hts.1, List.length_take]; have := (List.getElem?_eq_some_iff.mp ep).1; omega
    have hd' : Dp K H3 y (.tuple [.str p.nm, .tuple (p.ps.map Vr.d), .tuple (p.ls.map Vr.d), .tuple (bdD p.sk)]) := dp_same s12 hd
    obtain ⟨t, us, rfl, ht, hu⟩ := dp_tup' hd'
    obtain ⟨u0, f0, g0⟩ := dpa_get' hu (i := 0) rfl
    obtain ⟨u1, f1, g1⟩ := dpa_get' hu (i := 1) rfl
    obtain ⟨u2, f2, g2⟩ := dpa_get' hu (i := 2) rfl
    obtain ⟨u3, f3, g3⟩ := dpa_get' hu (i := 3) rfl
    cases g0
    obtain ⟨b1, w1, rfl, hb1, hw1⟩ := dp_tup' g1
    obtain ⟨b2, w2, rfl, hb2, hw2⟩ := dp_tup' g2
    refine ⟨rfl, _, rfl, t, us, _, _, rfl, rfl, ht, atI_nat f0, _, rfl, t, us, _, _, rfl, rfl, ht, atI_nat f1, b1, w1, rfl, .inr hb1, fun l1 nl1 => ?_⟩
    have k1 := same_new (o := .lst w1) nl1
    refine ⟨_, rfl, t, us, _, _, rfl, rfl, seqT_same k1 ht, atI_nat f2, b2, w2, rfl, .inr (seqT_same k1 hb2), fun l2 nl2 => ?_⟩
    have k2 := k1.trans (same_new (o := .lst w2) nl2)
    refine ⟨_, rfl, t, us, _, _, rfl, rfl, seqT_same k2 ht, atI_nat f3, u3, p.sk, rfl, dp_same k2 g3, fun l3 ws H4 s4 nl3 hl3 hws => ?_⟩
    have k3 := k2.trans s4
    refine ⟨by show 4 ≤ sizeLine; decide, fun tn ntn => ?_⟩
    have k4 := k3.trans (same_new (o := .tup [.str p.nm, .ref l1, .ref l2, .ref l3]) ntn)
    have hD4 := k4 _ _ hD
    refine ⟨ts, hD4, small1000 (by omega), same_mut (s2.trans k4) nD, ts ++ [.ref tn], upd_same, ?_⟩
    have z1 : l1 ≠ D := (ne_of_none hD nl1).symm
    have z2 : l2 ≠ D := (ne_of_none (k1 _ _ hD) nl2).symm
    have z3 : l3 ≠ D := (ne_of_none (k2 _ _ hD) nl3).symm
    have y1 : H l1 = none := s12.free nl1
    have y2 : H l2 = none := (s12.trans k1).free nl2
    have y3 : H l3 = none := (s12.trans k2).free nl3
    have e4 := same_new (o := .tup [.str p.nm, .ref l1, .ref l2, .ref l3]) ntn
    have al1 := e4 _ _ (s4 _ _ (same_new nl2 _ _ (upd_same (H := H3) (a := l1) (o := .lst w1))))
    have al2 := e4 _ _ (s4 _ _ (upd_same (H := upd H3 l1 (.lst w1)) (a := l2) (o := .lst w2)))
    have al3 := e4 _ _ hl3
    rw [take_succ_at ep]
    refine (hts.imp fun _ _ h => (h.same k4).mut hD4).app (.one (PrL.mut hD4 ⟨tn, l1, l2, l3, w1, w2, ws, rfl, SqT.of upd_same, ⟨y1, y2, y3⟩, z1, z2, z3, al1, al2, al3, dpa_same k4 hw1, dpa_same k4 hw2, dpa_same e4 hws⟩))
  rintro H2 ⟨s2, ts, hD, hts⟩
  rw [lx3, List.take_length] at hts
  have s12 := s1.trans s2
  have nDH : H D = none := s1.free nD
  have nWH : H W = none := nW
  have hW2 := s2 _ _ hW1
  have nWD : W ≠ D := ne_of_none hW1 nD
  -- program
  refine ⟨_, rfl, a, xs, _, _, rfl, rfl, seqT_same s12 hq, atI_nat e0, _, rfl, a, xs, _, _, rfl, rfl, seqT_same s12 hq, atI_nat e1, _, rfl, _, rfl, fun x dx nx ndx nex => ?_⟩
  have s3 : Same H2 (upd (upd H2 dx (.own x)) x (.ins (c id_Program) dx [])) := fun b o e => by
    rw [upd_ne (ne_of_none e nx), upd_ne (ne_of_none e ndx)]
    exact e
  have s13 := s12.trans s3
  refine ⟨x, dx, g, .ref W, .ref D, .list (g.vs.map Vr.d), .list (g.ps.map looseD), rfl, upd_same, ho, .lst (s3 _ _ hW2) (dla_dp 1 (tup_vrs 0 _) (dpa_same s13 hk2)), .inl rfl, .lst (s3 _ _ hD) ?_, raw_loose g.ps, fun H4 kp hc => ⟨rfl, ?_⟩⟩
  · refine dla_of (by rw [hts.1, List.length_map]) fun i y d hy ed => ?_
    rw [List.getElem?_map] at ed
    cases ep : g.ps[i]? with
    | none => rw [ep] at ed; cases ed
    | some p =>
      rw [ep] at ed
      cases ed
      exact ((hts.2 i y p hy ep).same s3).dl
  have s24 : Same H2 H4 := fun b o e => kp b o (s3 _ _ e) (ne_of_none e nx)
  have s14 := s12.trans s24
  have hW4 := s24 _ _ hW2
  have hD4 := s24 _ _ hD
  -- for told in procedures
  have o1 := ho.p1
  have gn : ∀ v ∈ g.vs, NmOk v.nm := fun v hv => ho.vn g.ps[0] (List.getElem_mem (by omega)) v (List.mem_append_left _ (List.mem_append_left _ hv))
  have st0 : Sta K (c id_Program) H x g D W ts H4 10 := by
    refine ⟨s14, hc, hD4, ⟨xs2, hW4, by omega, vs_it (dpa_same s14 hk2) gn⟩, fun t ht => ?_⟩
    obtain ⟨i, hi⟩ := List.getElem?_of_mem ht
    obtain ⟨p, ep, hp⟩ := hts.at hi
    have mp := List.mem_of_getElem? ep
    obtain ⟨u, l1, l2, l3, x1, x2, x3, rfl, h1, nn, n1, n2, n3, a1, a2, a3, d1, d2, d3⟩ := hp.same s24
    have p3 := ho.p3 p mp
    have l33 := ho.l33 p mp
    have b1 := dpa_len d1
    have b2 := dpa_len d2
    have b3 := dpa_len d3
    rw [List.length_map] at b1 b2
    have b4 : (bdD p.sk).length ≤ 1 := by cases p.sk <;> simp [bdD]
    exact ⟨u, p.nm, l1, l2, l3, rfl, h1, nn, ⟨n1, n2, n3⟩, ⟨x1, a1, by omega, vs_it d1 fun v hv => ho.vn p mp v (List.mem_append_left _ (List.mem_append_right _ hv))⟩, ⟨x2, a2, by omega, vs_it d2 fun v hv => ho.vn p mp v (List.mem_append_right _ hv)⟩, ⟨x3, a3, by omega, bd_it d3⟩⟩
  have lts : ts.length ≤ 5 := by rw [hts.1]; omega
  refine ⟨_, rfl, D, rfl, ⟨_, SqL.of hD4⟩, for_it (walk_list (xs := ts)) (fun i σ H' => ∃ (y3 : Option V), σ = [some (.ref a), some (.int f), some (.ref W), y3, some (.ref D), some (.ref x)] ∧ Sta K (c id_Program) H x g D W ts H' (10 + 2 * i)) ⟨_, rfl, st0⟩ (fun i σ H' _ h' => ?_) ?_ ?_⟩
  · obtain ⟨_, _, _, _, h, _⟩ := h'
    exact SqL.of h
  · rintro i y σ H5 H6 hi ⟨y3, rfl, st⟩ ⟨rfl, hy⟩
    obtain ⟨u, z, l1, l2, l3, rfl, hu, ⟨m1, m2, m3⟩, ⟨d1, d2, d3⟩, k1, k2, ys3, h3, b3, i3⟩ := st.2.2.2.2 y (List.mem_of_getElem? hy)
    refine ⟨_, rfl, u, _, _, _, rfl, rfl, hu, p3, ?_⟩
    refine ⟨l3, ys3, rfl, h3, by omega, i3, fun tn H7 ntn eH => ?_⟩
    have e7 := same_new (o := .tup [.str "skip"]) ntn
    have st7 := (st.same e7).put (zs := .ref tn :: ys3) (m := 10 + 2 * i + 1) ho (e7 _ _ h3) m3 d3 (by omega) (by rw [List.length_cons]; omega) (fun w hw => by
      rcases List.mem_cons.mp hw with rfl | hw
      · exact skip_it (SqT.of upd_same)
      · exact (i3 w hw).same e7)
    have hu7 : SqT K (upd (upd H6 tn (.tup [.str "skip"])) l3 (.lst (.ref tn :: ys3))) u [.str z, .ref l1, .ref l2, .ref l3] := seqT_mut (e7 _ _ h3) (seqT_same e7 hu)
    have w1 : SpL K (upd (upd H6 tn (.tup [.str "skip"])) l3 (.lst (.ref tn :: ys3))) l1 (10 + 2 * i + 1) := ((k1.same e7).up (by omega)).put (e7 _ _ h3) (by rw [List.length_cons]; omega) (fun w hw => by
      rcases List.mem_cons.mp hw with rfl | hw
      · exact skip_it (SqT.of upd_same)
      · exact (i3 w hw).same e7)
    have w2 : SpL K (upd (upd H6 tn (.tup [.str "skip"])) l3 (.lst (.ref tn :: ys3))) l2 (10 + 2 * i + 1) := ((k2.same e7).up (by omega)).put (e7 _ _ h3) (by rw [List.length_cons]; omega) (fun w hw => by
      rcases List.mem_cons.mp hw with rfl | hw
      · exact skip_it (SqT.of upd_same)
      · exact (i3 w hw).same e7)
    rw [← eH] at st7 hu7 w1 w2
    obtain ⟨ys1, h1, b1, i1⟩ := w1
    refine ⟨_, rfl, u, _, _, _, rfl, rfl, hu7, p1, .inl ⟨rfl, _, SqL.of h1⟩, by show 2 ≤ sizeLine; decide, fun t8 n8 => ?_⟩
    have e8 := same_new (o := .tup [.str "spoilt", .int 2]) n8
    have z8 : ∀ w ∈ ys1 ++ [.ref t8], SpIt K (upd H7 t8 (.tup [.str "spoilt", .int 2])) w := fun w hw => by
      rcases List.mem_append.mp hw with hw | hw
      · exact (i1 w hw).same e8
      · rcases List.mem_singleton.mp hw with rfl
        exact pair_it (SqT.of upd_same)
    have st8 := (st7.same e8).put (zs := ys1 ++ [.ref t8]) (m := 10 + 2 * i + 2) ho (e8 _ _ h1) m1 d1 (by omega) (by rw [List.length_append]; show ys1.length + 1 ≤ _; omega) z8
    have hu8 := seqT_mut (o := .lst (ys1 ++ [.ref t8])) (e8 _ _ h1) (seqT_same e8 hu7)
    have w3 := ((w2.same e8).up (m := 10 + 2 * i + 2) (by omega)).put (zs := ys1 ++ [.ref t8]) (e8 _ _ h1) (by rw [List.length_append]; show ys1.length + 1 ≤ _; omega) z8
    refine ⟨l1, ys1, _, rfl, rfl, e8 _ _ h1, small1000 (by omega), ?_⟩
    generalize upd (upd H7 t8 (.tup [.str "spoilt", .int 2])) l1 (.lst (ys1 ++ [.ref t8])) = H8 at st8 hu8 w3 ⊢
    obtain ⟨ys2, h2, b2, i2⟩ := w3
    refine ⟨_, rfl, u, _, _, _, rfl, rfl, hu8, p2, .inl ⟨rfl, _, SqL.of h2⟩, l2, ys2, rfl, rfl, h2, ?_⟩
    exact ⟨_, rfl, st8.put ho h2 m2 d2 (by omega) (Nat.zero_le _) (fun w hw => nomatch hw)⟩
  · rintro σ H5 ⟨y3, rfl, st⟩
    obtain ⟨s5, c5, hD5, ⟨vw, hW5, lw, iw⟩, k5⟩ := id st
    refine ⟨_, rfl, .inl ⟨rfl, _, SqL.of hW5⟩, by show 2 ≤ sizeLine; decide, fun t6 n6 => ?_⟩
    have e6 := same_new (o := .tup [.str "spoilt", .int 2]) n6
    refine ⟨W, vw, _, rfl, rfl, e6 _ _ hW5, small1000 (by omega), ?_⟩
    have hD6 := (upd_ne (H := upd H5 t6 (.tup [.str "spoilt", .int 2])) (a := W) (o := .lst (vw ++ [.ref t6])) nWD.symm).trans (e6 _ _ hD5)
    have c6 := (c5.same e6).mut (o := .lst (vw ++ [.ref t6])) ho (e6 _ _ hW5)
    have s6 := same_mut (o := .lst (vw ++ [.ref t6])) (s5.trans e6) nWH
    generalize upd (upd H5 t6 (.tup [.str "spoilt", .int 2])) W (.lst (vw ++ [.ref t6])) = H6 at hD6 c6 s6 ⊢
    refine ⟨_, rfl, .inl ⟨rfl, _, SqL.of hD6⟩, D, ts, rfl, rfl, hD6, ?_⟩
    exact ⟨_, rfl, q x _ (same_mut s6 nDH) (c6.mut ho hD6)⟩


end
end Pf

namespace Pf
open PySem PySem.Spec PyProof.Rows L2
section
variable {P : Program} {w : World} {K : PySem.W.Frag} {mg : Str → Option Value} {base : Heap}
variable {c : Nat → Addr}
def sp__law_sights (K : PySem.W.Frag) : Sp := fun us H Q _ => ∃ (a : Addr) (ns : List Int), us = [.ref a] ∧ SqL K H a (ns.map V.int) ∧ ns.length ≤ 10 ∧ (∀ n ∈ ns, 0 ≤ n ∧ n ≤ 4) ∧ ∀ l ws H', Same H H' → H' l = some (.lst ws) → DpAll K H' ws ((sgs ns).map sgD) → Q (.ref l) H'
theorem ok__law_sights (T : Txt P K mg c) : Has P w K mg base 1 "_law_sights" ["sizes"] (sp__law_sights K) := by
  obtain ⟨f, fd, F, m, b⟩ := T.d__law_sights.ex
  refine ⟨f, fd, F.ok sc__law_sights (fun vs H Q E h => ?_) (fun cdv A outer s H vs Q E hr h => ?_), m, F.kp, b⟩
  · obtain ⟨a, ns, rfl, hq, hl, hn, q⟩ := h
    rfl
  obtain ⟨a, ns, rfl, hq, hl, hn, q⟩ := h
  refine ⟨_, (pss_cons (ps_set (i := 1) sc__law_sights.nd rfl (.inl rfl) (pe_lst (pa_cons (pe_tup pa_nil) pa_nil)))
      (pss_cons (ps_for PassesOwn.never rfl (pi_list (pv 0)) (pg_name (i := 2) sc__law_sights.nd rfl (.inl rfl))
      (pss_cons (ps_set (i := 3) sc__law_sights.nd rfl (.inl rfl) (pe_lst pa_nil))
        (pss_cons (ps_for PassesOwn.never rfl (pi_list (pe_callTy call_list_of (by rfl) T.z_list (by decide +kernel) (pa_cons (pv 1) pa_nil))) (pg_name (i := 4) sc__law_sights.nd rfl (.inl rfl))
        (pss_one (ps_for PassesOwn.never rfl (pi_range1 (by rfl) T.z_range (pa_cons (pv 2) pa_nil)) (pg_name (i := 5) sc__law_sights.nd rfl (.inl rfl))
          (pss_one (ps_expr (pe_bm PySem.F.plainAttrs_list PySem.F.slot_list_append PySem.F.type_list_append mt_append (pv 3) (pa_cons (pe_op op_catA (pv 4) (pe_tup (pa_cons (pv 5) pa_nil))) pa_nil)))))))
        (pss_one (ps_set (i := 1) sc__law_sights.nd rfl (.inl rfl) (pv 3))))))
      (pss_one (ps_ret (pv 1))))), ?_⟩
  refine ⟨by show 0 ≤ sizeLine; decide, fun t0 m0 => ⟨by show 1 ≤ sizeLine; decide, fun D0 n0 => ?_⟩⟩
  have e0 := same_new (o := .tup []) m0
  have e1 := same_new (o := .lst [.ref t0]) n0
  have hD0 := upd_same (H := upd H t0 (.tup [])) (a := D0) (o := .lst [.ref t0])
  have hx0 : DpAll K (upd (upd H t0 (.tup [])) D0 (.lst [.ref t0])) [.ref t0] ((sgs (ns.take 0)).map sgD) := .cons (.tup (SqT.of (e1 _ _ upd_same)) .nil) .nil
  have s1 := e0.trans e1
  generalize upd (upd H t0 (.tup [])) D0 (.lst [.ref t0]) = H1 at hD0 hx0 s1 ⊢
  refine ⟨_, rfl, a, rfl, ⟨_, s1.seq hq⟩, for_it (walk_list (a := a) (xs := ns.map V.int)) (fun i σ H' => ∃ D ws y2 y3 y4 y5, σ = [some (.ref a), some (.ref D), y2, y3, y4, y5] ∧ Same H H' ∧ H' D = some (.lst ws) ∧ DpAll K H' ws ((sgs (ns.take i)).map sgD) ∧ (sgs (ns.take i)).length ≤ 4 ^ i ∧ ∀ s ∈ sgs (ns.take i), s.length = i)
    ⟨_, _, _, _, _, _, rfl, s1, hD0, hx0, by rw [List.take_zero]; exact Nat.le_refl _, fun s hs => by rw [List.take_zero] at hs; rcases List.mem_singleton.mp hs with rfl; rfl⟩ (fun i σ H' _ h' => ?_) ?_ ?_⟩
  · obtain ⟨_, _, _, _, _, _, _, s2, _⟩ := h'
    exact s2.seq hq
  · rintro i x σ H2 H3 hi ⟨D, ws, y2, y3, y4, y5, rfl, s2, hD, hw, lw, le⟩ ⟨rfl, hx⟩
    rw [List.length_map] at hi
    rw [List.getElem?_map] at hx
    cases en : ns[i]? with
    | none => rw [en] at hx; cases hx
    | some n =>
    rw [en] at hx
    cases hx
    obtain ⟨n0', n4⟩ := hn n (List.mem_of_getElem? en)
    have b4 := four_pow (i := i) (by omega)
    have lws : ws.length = (sgs (ns.take i)).length := by
      have := dpa_len hw
      rwa [List.length_map] at this
    generalize hS : sgs (ns.take i) = S at hw lw le lws
    refine ⟨by show 0 ≤ sizeLine; decide, fun D2 n2 => ?_⟩
    have s3 := s2.trans (same_new (o := .lst []) n2)
    have hD3 := same_new (o := .lst []) n2 _ _ hD
    have hw3 := dpa_same (same_new (o := .lst []) n2) hw
    have h23 := upd_same (H := H3) (a := D2) (o := .lst [])
    have n2H : H D2 = none := same_back s2 n2
    generalize upd H3 D2 (.lst []) = H4 at s3 hD3 hw3 h23 ⊢
    refine ⟨_, rfl, D, ws, rfl, .inl (SqL.of hD3), fun C nC => ?_⟩
    have hC := upd_same (H := H4) (a := C) (o := .lst ws)
    have eC := same_new (o := .lst ws) nC
    have nC2 : C ≠ D2 := (ne_of_none h23 nC).symm
    have s5 := s3.trans eC
    have h25 := eC _ _ h23
    have hw5 := dpa_same eC hw3
    generalize upd H4 C (.lst ws) = H5 at s5 h25 hC hw5 ⊢
    refine ⟨C, rfl, ⟨_, SqL.of hC⟩, ?_⟩
    have hCD : ∀ H', Same H5 H' → SqL K H' C ws := fun H' e => SqL.of (e _ _ hC)
    refine for_it (walk_list (a := C) (xs := ws)) (fun k σ H' => ∃ zs y4 y5, σ = [some (.ref a), some (.ref D), some (.int n), some (.ref D2), y4, y5] ∧ Same H H' ∧ H' C = some (.lst ws) ∧ DpAll K H' ws (S.map sgD) ∧ H' D2 = some (.lst zs) ∧ DpAll K H' zs ((sgStep (S.take k) n).map sgD)) ⟨[], _, _, rfl, s5, hC, hw5, h25, .nil⟩ (fun k σ H' _ h' => ?_) ?_ ?_
    · obtain ⟨_, _, _, _, _, h, _⟩ := h'
      exact SqL.of h
    · rintro k x σ H6 H7 hk ⟨zs, y4, y5, rfl, s6, hC6, hw6, hD2, hz⟩ ⟨rfl, hx⟩
      obtain ⟨d, ed, hd⟩ := dpa_getx' hw6 hx
      rw [List.getElem?_map] at ed
      cases es : S[k]? with
      | none => rw [es] at ed; cases ed
      | some sg =>
      rw [es] at ed
      cases ed
      have lsg : sg.length = i := le sg (List.mem_of_getElem? es)
      have lk : (S.take k).length = k := by
        have := (List.getElem?_eq_some_iff.mp es).1
        rw [List.length_take]
        omega
      have kle : k ≤ 1048576 := by
        have := (List.getElem?_eq_some_iff.mp es).1
        omega
      have nle : n.toNat ≤ 4 := by omega
      have kn : k * n.toNat ≤ 1048576 * 4 := Nat.mul_le_mul kle nle
      obtain ⟨p, vs, rfl, hp, hvs⟩ := dp_tup' hd
      obtain rfl := dpa_intV hvs
      have tw : ∀ d ∈ S.map sgD, tupOk 1 d := fun d hd => by
        obtain ⟨u, hu, rfl⟩ := List.mem_map.mp hd
        have := le u hu
        exact ok_sg 0 u (by omega)
      refine ⟨_, rfl, n, rfl, by omega, by omega, ?_⟩
      refine for_it (walk_range (lo := 0) (n := n.toNat)) (fun m σ H' => ∃ zs y5, σ = [some (.ref a), some (.ref D), some (.int n), some (.ref D2), some (.ref p), y5] ∧ Same H H' ∧ H' C = some (.lst ws) ∧ DpAll K H' ws (S.map sgD) ∧ SqT K H' p (sg.map V.int) ∧ H' D2 = some (.lst zs) ∧ DpAll K H' zs ((sgStep (S.take k) n ++ (List.range m).map fun (k' : Nat) => sg ++ [(k' : Int)]).map sgD)) ⟨zs, _, rfl, s6, hC6, hw6, hp, hD2, by rw [List.range_zero, List.map_nil, List.append_nil]; exact hz⟩ (fun m σ H' _ h' => trivial) ?_ ?_
      · rintro m y σ H8 H9 hm ⟨zs8, y5, rfl, s8, hC8, hw8, hp8, hD8, hz8⟩ ⟨rfl, rfl⟩
        have l8 : zs8.length = k * n.toNat + m := by
          have := dpa_len hz8
          rw [List.length_map, List.length_append, sgStep_len, lk, List.length_map, List.length_range] at this
          exact this
        refine ⟨_, rfl, .inl ⟨rfl, _, SqL.of hD8⟩, _, rfl, _, rfl, by show 1 ≤ sizeLine; decide, fun t nt => catA_ok (seqT_same (same_new nt) hp8) (SqT.of upd_same) (line_small (by rw [List.length_map]; show sg.length + 1 ≤ _; omega)) fun r H10 s10 hr10 => ?_⟩
        have s810 := (same_new (o := .tup [.int (0 + (m : Int))]) nt).trans s10
        have hD10 := s810 _ _ hD8
        have hC10 := s810 _ _ hC8
        refine ⟨D2, zs8, _, rfl, rfl, hD10, Nat.lt_of_lt_of_le (show zs8.length < 10000000 by omega) (by decide), ?_⟩
        refine ⟨zs8 ++ [.ref r], _, rfl, same_mut (s8.trans s810) n2H, (upd_ne nC2).trans hC10, dpa_mut hD10 1 tw (dpa_same s810 hw8), seqT_mut hD10 (seqT_same s810 hp8), upd_same, ?_⟩
        have e9 : (sgStep (S.take k) n ++ (List.range (m + 1)).map fun (k' : Nat) => sg ++ [(k' : Int)]).map sgD = (sgStep (S.take k) n ++ (List.range m).map fun (k' : Nat) => sg ++ [(k' : Int)]).map sgD ++ [sgD (sg ++ [(m : Int)])] := by
          rw [List.range_succ]
          simp
        rw [e9]
        refine dpa_app (dpa_mut hD10 1 (fun d hd => ?_) (dpa_same s810 hz8)) (dp_mut hD10 1 (ok_sg 0 _ (by rw [List.length_append]; show sg.length + 1 ≤ _; omega)) ?_)
        · obtain ⟨u, hu, rfl⟩ := List.mem_map.mp hd
          refine ok_sg 0 u ?_
          rcases List.mem_append.mp hu with hu | hu
          · have := sgStep_each (fun s hs => le s (List.mem_of_mem_take hs)) u hu
            omega
          · obtain ⟨k', _, rfl⟩ := List.mem_map.mp hu
            rw [List.length_append]
            show sg.length + 1 ≤ _
            omega
        · refine .tup hr10 ?_
          show DpAll K H10 (sg.map V.int ++ [V.int (0 + (m : Int))]) _
          rw [Int.zero_add]
          have := dpa_ints (K := K) (H := H10) (sg ++ [(m : Int)])
          rw [List.map_append] at this
          exact this
      · rintro σ H8 ⟨zs8, y5, rfl, s8, hC8, hw8, hp8, hD8, hz8⟩
        refine ⟨zs8, _, _, rfl, s8, hC8, hw8, hD8, ?_⟩
        rw [take_succ_at es, sgStep_app]
        exact hz8
    · rintro σ H6 ⟨zs, y4, y5, rfl, s6, hC6, hw6, hD2, hz⟩
      rw [lws, List.take_length] at hz
      refine ⟨_, rfl, D2, zs, _, _, _, _, rfl, s6, hD2, ?_, ?_, ?_⟩
      · rw [take_succ_at en, sgs_app, hS]
        exact hz
      · rw [take_succ_at en, sgs_app, hS, sgStep_len, Nat.pow_succ]
        exact Nat.mul_le_mul lw (by omega)
      · rw [take_succ_at en, sgs_app, hS]
        exact sgStep_each le
  · rintro σ H2 ⟨D, ws, y2, y3, y4, y5, rfl, s2, hD, hw, lw, le⟩
    rw [List.length_map, List.take_length] at hw
    exact ⟨_, rfl, q _ _ _ s2 hD hw⟩


end
end Pf

namespace Pf
open PySem PySem.Spec PyProof.Rows L2
section
variable {P : Program} {w : World} {K : PySem.W.Frag} {mg : Str → Option Value} {base : Heap}
variable {c : Nat → Addr}
/-- two lists: the parts of programs, and the programs made of them -/
def Mad (K : PySem.W.Frag) (C : Addr) (H : Hp) (v : V) (p : Addr) (g : Pg) : Prop := g.Ok ∧ Dp K H v g.d ∧ PgAt K C H p g
theorem tup_pg {g : Pg} (ho : g.Ok) : tupOk 5 g.d := tup_seq (by show 4 ≤ 100000; decide) fun e he => by
  rcases List.mem_cons.mp he with rfl | he
  · exact (tup_atom 4).1 _
  rcases List.mem_cons.mp he with rfl | he
  · exact (tup_atom 4).1 _
  rcases List.mem_cons.mp he with rfl | he
  · have := ho.v4
    exact tup_vs 2 (by omega)
  rcases List.mem_singleton.mp he with rfl
  exact tup_ps ho
theorem Mad.same {K : PySem.W.Frag} {C : Addr} {H H' : Hp} {v : V} {p : Addr} {g : Pg} (e : Same H H') (h : Mad K C H v p g) : Mad K C H' v p g := ⟨h.1, dp_same e h.2.1, h.2.2.same e⟩
theorem Mad.mut {K : PySem.W.Frag} {C D : Addr} {H : Hp} {v : V} {p : Addr} {g : Pg} {zs : List V} {o : HO} (e : H D = some (.lst zs)) (h : Mad K C H v p g) : Mad K C (upd H D o) v p g := ⟨h.1, dp_mut e 5 (tup_pg h.1) h.2.1, h.2.2.mut h.1 e⟩
theorem Mad.f1 {K : PySem.W.Frag} {C : Addr} {H H' : Hp} {r : Addr} {v : V} {p : Addr} {g : Pg} (R : RD H r) (f : Fr r H H') (h : Mad K C H v p g) : Mad K C H' v p g := by
  obtain ⟨ho, hd, dx, v, x, n, z, s, pl, pt, hp, d1, d2, d3⟩ := h
  obtain ⟨t1, t2, t3⟩ := tup_sgt ho
  refine ⟨ho, dp_f1 R.l f 5 (tup_pg ho) hd, dx, v, x, n, z, s, pl, pt, f _ _ (fun e => ?_) hp, dp_f1 R.l f 3 t1 d1, dp_f1 R.l f 3 t2 d2, dp_f1 R.l f 3 t3 d3⟩
  subst e
  obtain ⟨_, _, _, R⟩ := R
  rw [R] at hp
  cases hp
theorem PgAt.hd {K : PySem.W.Frag} {C : Addr} {H : Hp} {p : Addr} {g : Pg} (h : PgAt K C H p g) {m : Str} (no : m ∉ (["_points", "places", "_sights", "_sizes", "_names", "procedures", "variables", "answers", "letters"] : List Str)) : ∃ dx fs, H p = some (.ins C dx fs) ∧ fs.lookup m = none := by
  obtain ⟨dx, v, x, n, z, s, pl, pt, hp, _⟩ := h
  exact ⟨dx, _, hp, pf9_no no⟩
theorem ok_flat {ds : List PyData} (l : ds.length ≤ 100000) (h : ∀ d ∈ ds, (∃ i, d = .int i) ∨ ∃ z, d = .str z) : tupOk 2 (.tuple ds) := tup_seq l fun d hd => by
  rcases h d hd with ⟨i, rfl⟩ | ⟨z, rfl⟩
  · exact (tup_atom 1).1 _
  · exact (tup_atom 1).2 _
def sp_law (K : PySem.W.Frag) : Sp := fun vs H Q _ => ∃ (a : Addr) (ns : List Int), vs = [.ref a] ∧ SqL K H a (ns.map V.int) ∧ ns.length ≤ 63 ∧ ∀ H', Q (.bl true) H'
theorem ok_law {f : Addr} {fd : FuncData} (T : Txt P K mg c) (F : Fun K "law" "law" s_law f fd) : FnOk P w K mg base CX0 10 f fd ["script"] (sp_law K) := by
  obtain ⟨f__law_reader, fd__law_reader, G__law_reader, m__law_reader, k__law_reader, b__law_reader⟩ := ok__law_reader (P := P) (w := w) (base := base) T
  obtain ⟨f__law_cell, fd__law_cell, G__law_cell, m__law_cell, k__law_cell, b__law_cell⟩ := ok__law_cell (P := P) (w := w) (base := base) T
  obtain ⟨f__law_heads, fd__law_heads, G__law_heads, m__law_heads, k__law_heads, b__law_heads⟩ := ok__law_heads (P := P) (w := w) (base := base) T
  obtain ⟨f__law_next, fd__law_next, G__law_next, m__law_next, k__law_next, b__law_next⟩ := ok__law_next (P := P) (w := w) (base := base) T
  obtain ⟨f__law_headed, fd__law_headed, G__law_headed, m__law_headed, k__law_headed, b__law_headed⟩ := ok__law_headed (P := P) (w := w) (base := base) T
  obtain ⟨f__law_made, fd__law_made, G__law_made, m__law_made, k__law_made, b__law_made⟩ := ok__law_made (P := P) (w := w) (base := base) T
  obtain ⟨f__law_same, fd__law_same, G__law_same, m__law_same, k__law_same, b__law_same⟩ := ok__law_same (P := P) (w := w) (base := base) T 2
  obtain ⟨f_Program_names, fd_Program_names, G_Program_names, M_Program_names, b_Program_names⟩ := ok_Program_names (P := P) (w := w) (base := base) T
  obtain ⟨f_Program_sizes, fd_Program_sizes, G_Program_sizes, M_Program_sizes, b_Program_sizes⟩ := ok_Program_sizes (P := P) (w := w) (base := base) T
  obtain ⟨f__law_sights, fd__law_sights, G__law_sights, m__law_sights, k__law_sights, b__law_sights⟩ := ok__law_sights (P := P) (w := w) (base := base) T
  obtain ⟨f_Program_sights, fd_Program_sights, G_Program_sights, M_Program_sights, b_Program_sights⟩ := ok_Program_sights (P := P) (w := w) (base := base) T
  refine F.ok sc_law (fun vs H Q E h => ?_) (fun cdv A outer s H vs Q E hr h => ?_)
  · obtain ⟨sc, ns, rfl, hS, hl, q⟩ := h
    rfl
  obtain ⟨sc, ns, rfl, hS, hl, q⟩ := h
  refine ⟨_, (pss_cons (ps_set (i := 1) sc_law.nd rfl (.inl rfl) (pe_lst pa_nil))
      (pss_cons (ps_set (i := 2) sc_law.nd rfl (.inl rfl) (pe_lst pa_nil))
      (pss_cons (ps_for PassesOwn.never rfl (pi_range1 (by rfl) T.z_range (pa_cons pe_int pa_nil)) (pg_name (i := 3) sc_law.nd rfl (.inl rfl))
      (pss_cons (ps_set (i := 4) sc_law.nd rfl (.inl rfl) (pe_call G__law_reader (hr.mono (by decide)) (by rfl) m__law_reader k__law_reader b__law_reader .nil pass0 (pa_cons (pe_call G__law_cell (hr.mono (by decide)) (by rfl) m__law_cell k__law_cell b__law_cell .nil pass0 (pa_cons (pv 0) (pa_cons (pv 3) pa_nil))) pa_nil)))
        (pss_cons (ps_set (i := 5) sc_law.nd rfl (.inl rfl) (pe_call G__law_heads (hr.mono (by decide)) (by rfl) m__law_heads k__law_heads b__law_heads .nil pass0 (pa_cons (pv 4) (pa_cons pe_int pa_nil))))
        (C8.pss_cut (ps_if (pt_cmpR op_eq (pe_call G__law_next (hr.mono (by decide)) (by rfl) m__law_next k__law_next b__law_next .nil pass0 (pa_cons (pv 4) (pa_cons pe_int pa_nil))) pe_int (nomark _))
        (pss_one (ps_set (i := 5) sc_law.nd rfl (.inl rfl) (pe_call G__law_headed (hr.mono (by decide)) (by rfl) m__law_headed k__law_headed b__law_headed .nil pass0 (pa_cons (pv 5) (pa_cons pe_int (pa_cons pe_int (pa_cons (pe_tup (pa_cons (pe_tup (pa_cons pe_str pa_nil)) pa_nil)) pa_nil)))))))
        pss_nil)
        (pss_cons (ps_expr (pe_bm PySem.F.plainAttrs_list PySem.F.slot_list_append PySem.F.type_list_append mt_append (pv 1) (pa_cons (pv 5) pa_nil)))
        (pss_one (ps_expr (pe_bm PySem.F.plainAttrs_list PySem.F.slot_list_append PySem.F.type_list_append mt_append (pv 2) (pa_cons (pe_call G__law_made (hr.mono (by decide)) (by rfl) m__law_made k__law_made b__law_made .nil pass0 (pa_cons (pv 5) (pa_cons (pe_call G__law_next (hr.mono (by decide)) (by rfl) m__law_next k__law_next b__law_next .nil pass0 (pa_cons (pv 4) (pa_cons pe_int pa_nil))) pa_nil))) pa_nil)))))))))
      (pss_cons (ps_for PassesOwn.never rfl (pi_list (pe_lst (pa_cons pe_int (pa_cons pe_int (pa_cons pe_int pa_nil))))) (pg_name (i := 3) sc_law.nd rfl (.inl rfl))
      (pss_cons (ps_set (i := 5) sc_law.nd rfl (.inl rfl) (pe_ix ix_list (pv 1) (pv 3) (fun _ _ => rfl)))
        (pss_one (ps_for PassesOwn.never rfl (pi_range1 (by rfl) T.z_range (pa_cons (pe_callB call_len_seq (by rfl) T.z_len (by decide +kernel) (pa_cons (pe_ix ix_tup (pv 5) pe_int (fun _ _ => rfl)) pa_nil)) pa_nil)) (pg_name (i := 6) sc_law.nd rfl (.inl rfl))
        (pss_cons (ps_set (i := 7) sc_law.nd rfl (.inl rfl) (pe_op op_catA (pe_op op_catA (pe_ix ix_tup (pv 5) pe_int (fun _ _ => rfl)) (pe_ix ix_seq (pe_ix ix_tup (pe_ix ix_tup (pv 5) pe_int (fun _ _ => rfl)) (pv 6) (fun _ _ => rfl)) pe_int (fun _ _ => rfl))) (pe_ix ix_seq (pe_ix ix_tup (pe_ix ix_tup (pv 5) pe_int (fun _ _ => rfl)) (pv 6) (fun _ _ => rfl)) pe_int (fun _ _ => rfl))))
          (pss_cons (ps_setLc (i := 8) (own := [("pair", 9)]) (g := gName 9) (by rfl) sc_law.nd rfl rfl (sw_true rfl rfl rfl (by decide +kernel)) (pi_tup (pv 7)) (blkOk_by (own := [("pair", 9)]) (N := ["script", "several", "programs", "turn", "reader", "parts", "number", "seen", "sizes", "pair"]) (sc := defScope s_law) (by decide +kernel)) (fun _ _ _ _ _ => (pg_name (i := 9) sc_law.nd rfl (.inl rfl))) (fun _ _ _ _ _ => pts_nil) (fun _ _ _ _ _ => (pe_ix (ix_tupK (K := K) rfl) (pv 9) pe_int (fun _ _ => rfl))))
          (pss_cons (ps_if (pt_not (pt_val (pe_call G__law_same (hr.mono (by decide)) (by rfl) m__law_same k__law_same b__law_same .nil pass0 (pa_cons (pe_meth (pe_ix ix_list (pv 2) (pv 3) (fun _ _ => rfl)) T.cl_Program M_Program_names G_Program_names (hr.mono (by decide)) b_Program_names .nil pass0 (pa_cons (pv 6) pa_nil)) (pa_cons (pe_callTy call_tuple_of (by rfl) T.z_tuple (by decide +kernel) (pa_cons (pe_lc (own := [("pair", 9)]) (g := gName 9) (by rfl) sc_law.nd (pi_tup (pv 7)) (blkOk_by (own := [("pair", 9)]) (N := ["script", "several", "programs", "turn", "reader", "parts", "number", "seen", "sizes", "pair"]) (sc := defScope s_law) (by decide +kernel)) (fun _ _ _ _ _ => pg_name (i := 9) sc_law.nd rfl (Or.inl rfl)) (fun _ _ _ _ _ => pts_nil) (fun _ _ _ _ _ => (pe_ix (ix_tupK (K := K) rfl) (pv 9) pe_int (fun _ _ => rfl)))) pa_nil)) pa_nil)))))
          (pss_one (ps_ret pe_bl))
          pss_nil)
          (pss_cons (ps_if (pt_not (pt_val (pe_call G__law_same (hr.mono (by decide)) (by rfl) m__law_same k__law_same b__law_same .nil pass0 (pa_cons (pe_meth (pe_ix ix_list (pv 2) (pv 3) (fun _ _ => rfl)) T.cl_Program M_Program_sizes G_Program_sizes (hr.mono (by decide)) b_Program_sizes .nil pass0 (pa_cons (pv 6) pa_nil)) (pa_cons (pe_callTy call_tuple_of (by rfl) T.z_tuple (by decide +kernel) (pa_cons (pv 8) pa_nil)) pa_nil)))))
          (pss_one (ps_ret pe_bl))
          pss_nil)
          (pss_one (ps_if (pt_not (pt_val (pe_call G__law_same (hr.mono (by decide)) (by rfl) m__law_same k__law_same b__law_same .nil pass0 (pa_cons (pe_meth (pe_ix ix_list (pv 2) (pv 3) (fun _ _ => rfl)) T.cl_Program M_Program_sights G_Program_sights (hr.mono (by decide)) b_Program_sights .nil pass0 (pa_cons (pv 6) pa_nil)) (pa_cons (pe_callTy call_tuple_of (by rfl) T.z_tuple (by decide +kernel) (pa_cons (pe_call G__law_sights (hr.mono (by decide)) (by rfl) m__law_sights k__law_sights b__law_sights .nil pass0 (pa_cons (pv 8) pa_nil)) pa_nil)) pa_nil)))))
          (pss_one (ps_ret pe_bl))
          pss_nil))))))))))
      (pss_one (ps_ret pe_bl)))))), ?_⟩
  refine ⟨by show 0 ≤ sizeLine; decide, fun S nS => ⟨by show 0 ≤ sizeLine; decide, fun D nD => ?_⟩⟩
  have eS := same_new (o := .lst []) nS
  have eD := same_new (o := .lst []) nD
  have hS1 : (upd (upd H S (.lst [])) D (.lst [])) S = some (.lst []) := eD _ _ upd_same
  have hD1 := upd_same (H := upd H S (.lst [])) (a := D) (o := .lst [])
  have nSD : S ≠ D := ne_of_none (upd_same (H := H) (a := S) (o := .lst [])) nD
  have nDH : H D = none := same_back eS nD
  have s1 := eS.trans eD
  generalize upd (upd H S (.lst [])) D (.lst []) = H1 at hS1 hD1 s1 ⊢
  refine ⟨2, rfl, by decide, by decide, ?_⟩
  refine for_range (fun i σ H' => ∃ (y3 y4 y5 : Option V) (vs : List V) (ps : List Addr), σ = [some (.ref sc), some (.ref S), some (.ref D), y3, y4, y5, none, none, none, none] ∧ Same H H' ∧ H' S = some (.lst vs) ∧ H' D = some (.lst (ps.map V.ref)) ∧ vs.length = i ∧ ps.length = i ∧ ∀ (j : Nat) (v : V) (p : Addr), vs[j]? = some v → ps[j]? = some p → ∃ g, Mad K (c id_Program) H' v p g)
    ⟨_, _, _, [], [], rfl, s1, hS1, hD1, rfl, rfl, fun j v p h => by simp at h⟩ ?_ ?_
  · rintro i σ H2 hi ⟨y3, y4, y5, vs, ps, rfl, s2, hS2, hD2, lv, lp, hm⟩
    have i2 : i < 2 := hi
    have gi : (0 : Int) + (i : Int) = (i : Int) := Int.zero_add _
    refine ⟨_, rfl, _, rfl, sc, ns, i, congrArg (fun z => [V.ref sc, V.int z]) gi, s2.seq hS, fun cl => ?_⟩
    refine ⟨cl, rfl, fun r H3 nr e3 R3 => ?_⟩
    have nSr : S ≠ r := ne_of_none hS2 nr
    have nDr : D ≠ r := ne_of_none hD2 nr
    refine ⟨_, rfl, r, 64, rfl, R3, by decide, by decide, fun v0 g0 H4 f4 R4 ok0 sk0 d0 => ?_⟩
    have s4 := f4.back e3 nr
    refine ⟨fun σ' H' => ∃ (v : V) (g : Pg), σ' = [some (.ref sc), some (.ref S), some (.ref D), some (.int (0 + (i : Int))), some (.ref r), some v, none, none, none, none] ∧ Fr r H4 H' ∧ RD H' r ∧ g.Ok ∧ Dp K H' v g.d, ?_, ?_⟩
    · refine ⟨_, rfl, r, 2, rfl, R4, by decide, by decide, fun b H5 f5 R5 b0 b1 => ?_⟩
      have d5 := dp_f1 R4.l f5 5 (tup_pg ok0) d0
      refine ⟨rfl, _, rfl, ite2 (fun e => ?_) (fun e => ?_)⟩
      · refine ⟨_, rfl, by show 1 ≤ sizeLine; decide, fun t1 n1 => ⟨by show 1 ≤ sizeLine; decide, fun t2 n2 => ?_⟩⟩
        have e6 := same_new (o := .tup [.str "skip"]) n1
        have e7 := same_new (o := .tup [.ref t1]) n2
        have hx : Dp K (upd (upd H5 t1 (.tup [.str "skip"])) t2 (.tup [.ref t1])) (.ref t2) (.tuple (bdD true)) := .tup (SqT.of upd_same) (.cons (.tup (SqT.of (e7 _ _ upd_same)) (.cons (.str _) .nil)) .nil)
        refine ⟨v0, .ref t2, g0, rfl, dp_same (e6.trans e7) d5, hx, ok0, fun w H6 e8 d6 => ?_⟩
        have e68 := (e6.trans e7).trans e8
        exact ⟨w, _, rfl, f5.trans (Fr.of e68), R5.of e68, ok0.skip, d6⟩
      · exact ⟨v0, g0, rfl, f5, R5, ok0, d5⟩
    rintro σ' H5 ⟨v, g, rfl, f5, R5, ok, d5⟩
    have f35 := f4.trans f5
    have s35 := f35.back e3 nr
    have hS5 := s35 _ _ hS2
    have hD5 := s35 _ _ hD2
    refine ⟨_, rfl, .inl ⟨rfl, _, SqL.of hS5⟩, _, rfl, S, vs, _, rfl, rfl, hS5, small1000 (by omega), ?_⟩
    have nSH : H S = none := nS
    have hS6 := upd_same (H := H5) (a := S) (o := .lst (vs ++ [v]))
    have hD6 := (upd_ne (H := H5) (a := S) (o := .lst (vs ++ [v])) nSD.symm).trans hD5
    have d6 := dp_mut (o := .lst (vs ++ [v])) hS5 5 (tup_pg ok) d5
    have s6 := same_mut (o := .lst (vs ++ [v])) (s2.trans s35) nSH
    have m6 : ∀ (j : Nat) (v' : V) (p : Addr), vs[j]? = some v' → ps[j]? = some p → ∃ g, Mad K (c id_Program) (upd H5 S (.lst (vs ++ [v]))) v' p g := fun j v' p a b => by
      obtain ⟨g', h⟩ := hm j v' p a b
      exact ⟨g', (h.same s35).mut hS5⟩
    have R6 : RD (upd H5 S (.lst (vs ++ [v]))) r := by
      obtain ⟨x, y, z, h⟩ := R5
      exact ⟨x, y, z, (upd_ne nSr.symm).trans h⟩
    generalize upd H5 S (.lst (vs ++ [v])) = H6 at hS6 hD6 d6 s6 m6 R6 ⊢
    have nrH : H r = none := same_back s2 nr
    refine ⟨_, rfl, .inl ⟨rfl, _, SqL.of hD6⟩, _, rfl, _, rfl, r, 3, rfl, R6, by decide, by decide, fun z H7 f7 R7 z0 z1 => ?_⟩
    have d7 := dp_f1 R6.l f7 5 (tup_pg ok) d6
    refine ⟨v, z, g, rfl, d7, ok, fun p H8 e8 c8 => ?_⟩
    have s8 := (f7.back s6 nrH).trans e8
    have hS8 := e8 _ _ (f7 _ _ nSr hS6)
    have hD8 := e8 _ _ (f7 _ _ nDr hD6)
    refine ⟨D, _, _, rfl, rfl, hD8, small1000 (by rw [List.length_map]; omega), ?_⟩
    have hS9 := (upd_ne (H := H8) (a := D) (o := .lst (ps.map V.ref ++ [.ref p])) nSD).trans hS8
    refine ⟨_, _, _, vs ++ [v], ps ++ [p], rfl, same_mut s8 nDH, hS9, ?_, ?_, ?_, fun j v' p' a b => ?_⟩
    · rw [upd_same, List.map_append]
      rfl
    · rw [List.length_append, lv]
      rfl
    · rw [List.length_append, lp]
      rfl
    · have hji : j < vs.length ∨ j = vs.length := by
        have := (List.getElem?_eq_some_iff.mp a).1
        rw [List.length_append] at this
        have h1 : [v].length = 1 := rfl
        omega
      rcases hji with hj | hj
      · rw [List.getElem?_append_left hj] at a
        rw [List.getElem?_append_left (by omega)] at b
        obtain ⟨g', h⟩ := m6 j v' p' a b
        exact ⟨g', ((h.f1 R6 f7).same e8).mut hD8⟩
      · subst hj
        rw [List.getElem?_append_right (Nat.le_refl _), Nat.sub_self] at a
        rw [lv, ← lp, List.getElem?_append_right (Nat.le_refl _), Nat.sub_self] at b
        cases a
        cases b
        exact ⟨g, Mad.mut hD8 ⟨ok, dp_same e8 d7, c8⟩⟩
  · rintro σ H2 ⟨y3, y4, y5, vs, ps, rfl, s2, hS2, hD2, lv, lp, hm⟩
    obtain _ | ⟨v1, _ | ⟨v2, _ | ⟨v3, vs⟩⟩⟩ := vs
    · cases lv
    · cases lv
    case cons.cons.cons => simp at lv
    obtain _ | ⟨p1, _ | ⟨p2, _ | ⟨p3, ps⟩⟩⟩ := ps
    · cases lp
    · cases lp
    case cons.cons.cons => simp at lp
    refine ⟨by show 3 ≤ sizeLine; decide, fun L nL => ?_⟩
    have e3 := same_new (o := .lst [.int 0, .int 1, .int 0]) nL
    have hL := upd_same (H := H2) (a := L) (o := .lst [.int 0, .int 1, .int 0])
    have hS3 := e3 _ _ hS2
    have hD3 := e3 _ _ hD2
    have s3 := s2.trans e3
    have two : ∀ (i : Nat) (x : V), [V.int 0, .int 1, .int 0][i]? = some x → ∃ (j : Nat) (v : V) (p : Addr) (g : Pg), x = .int (j : Int) ∧ [v1, v2][j]? = some v ∧ ([p1, p2].map V.ref)[j]? = some (.ref p) ∧ Mad K (c id_Program) (upd H2 L (.lst [.int 0, .int 1, .int 0])) v p g := fun i x hx => by
      obtain ⟨g1, m1⟩ := hm 0 v1 p1 rfl rfl
      obtain ⟨g2, m2⟩ := hm 1 v2 p2 rfl rfl
      obtain _ | _ | _ | i := i
      · cases hx
        exact ⟨0, v1, p1, g1, rfl, rfl, rfl, m1.same e3⟩
      · cases hx
        exact ⟨1, v2, p2, g2, rfl, rfl, rfl, m2.same e3⟩
      · cases hx
        exact ⟨0, v1, p1, g1, rfl, rfl, rfl, m1.same e3⟩
      · simp at hx
    generalize upd H2 L (.lst [.int 0, .int 1, .int 0]) = H3 at hL hS3 hD3 s3 two ⊢
    refine ⟨L, rfl, ⟨_, SqL.of hL⟩, for_it (walk_list (a := L) (xs := [.int 0, .int 1, .int 0])) (fun i σ H' => ∃ (y3 y4 y5 y6 y7 y8 : Option V), σ = [some (.ref sc), some (.ref S), some (.ref D), y3, y4, y5, y6, y7, y8, none] ∧ Same H3 H') ⟨_, _, _, _, _, _, rfl, Same.refl _⟩ (fun i σ H' _ h' => ?_) ?_ ?_⟩
    · obtain ⟨_, _, _, _, _, _, _, h⟩ := h'
      exact SqL.of (h _ _ hL)
    · rintro i x σ H4 H5 hi ⟨y3, y4, y5, y6, y7, y8, rfl, s4⟩ ⟨rfl, hx⟩
      obtain ⟨j, v, p, g, rfl, ev, ep, hmad⟩ := two i x hx
      obtain ⟨ok, hd, hp⟩ := hmad.same s4
      refine ⟨_, rfl, _, rfl, S, _, _, _, rfl, rfl, SqL.of (s4 _ _ hS3), atI_nat ev, ?_⟩
      have hd' : Dp K H5 v (.tuple [.int g.l, .int g.a, .tuple (g.vs.map Vr.d), .tuple (g.ps.map Pr.d)]) := hd
      obtain ⟨a, xs, rfl, hq, hk⟩ := dp_tup' hd'
      obtain ⟨x2, a2, h2⟩ := dpa_get' hk (i := 2) rfl
      obtain ⟨x3, a3, h3⟩ := dpa_get' hk (i := 3) rfl
      obtain ⟨t2, xs2, rfl, hq2, hk2⟩ := dp_tup' h2
      obtain ⟨t3, xs3, rfl, hq3, hk3⟩ := dp_tup' h3
      have l2 := dpa_len hk2
      have l3 := dpa_len hk3
      rw [List.length_map] at l2 l3
      have o5 := ok.p5
      refine ⟨_, rfl, a, xs, _, _, rfl, rfl, hq, atI_nat a3, t3, xs3, rfl, .inr hq3, ((xs3.length : Nat) : Int), rfl, by omega, by omega, ?_⟩
      refine for_range (fun k σ H' => ∃ (y6 y7 y8 : Option V), σ = [some (.ref sc), some (.ref S), some (.ref D), some (.int (j : Int)), y4, some (.ref a), y6, y7, y8, none] ∧ Same H5 H') ⟨_, _, _, rfl, Same.refl _⟩ ?_ ?_
      · rintro k σ H6 hk ⟨y6, y7, y8, rfl, s6⟩
        have gk : (0 : Int) + (k : Int) = (k : Int) := Int.zero_add _
        have hkg : k < g.ps.length := by
          have : k < ((xs3.length : Nat) : Int).toNat := hk
          omega
        obtain ⟨pr, epr⟩ : ∃ pr, g.ps[k]? = some pr := ⟨_, List.getElem?_eq_getElem hkg⟩
        have hpr := List.mem_of_getElem? epr
        have h26 := dp_same s6 h2
        have h36 := dp_same s6 h3
        obtain ⟨tr, yr, row, er, hqr, hir, hdr⟩ := dp_row h36 epr
        cases er
        have hdr' : Dp K H6 row (.tuple [.str pr.nm, .tuple (pr.ps.map Vr.d), .tuple (pr.ls.map Vr.d), .tuple (bdD pr.sk)]) := hdr
        obtain ⟨ra, xr, rfl, hqw, hkw⟩ := dp_tup' hdr'
        obtain ⟨z1, b1, w1⟩ := dpa_get' hkw (i := 1) rfl
        obtain ⟨z2, b2, w2⟩ := dpa_get' hkw (i := 2) rfl
        obtain ⟨u1, y1, rfl, hq1, hk1⟩ := dp_tup' w1
        obtain ⟨u2, y2, rfl, hq2, hk2⟩ := dp_tup' w2
        have s56 := s6
        refine ⟨_, rfl, a, xs, _, _, rfl, rfl, seqT_same s6 hq, atI_nat a2, ?_⟩
        have i3 := atI_nat a3
        have s6q := seqT_same s6 hq
        have hir' : atI yr (0 + (k : Int)) = some (.ref ra) := by rw [gk]; exact hir
        have h26' := h26
        obtain ⟨_, ws2, e2, hqs2, hks2⟩ := dp_tup' h26'
        cases e2
        have ll2 := dpa_len hks2
        have lk1 := dpa_len hk1
        have lk2 := dpa_len hk2
        rw [List.length_map] at ll2 lk1 lk2
        have lsc : (scp g.vs pr).length ≤ 10 := ok.decl.len pr hpr
        have lsc' : g.vs.length + pr.ps.length + pr.ls.length ≤ 10 := by
          unfold scp at lsc
          rwa [List.length_append, List.length_append] at lsc
        refine ⟨_, rfl, a, xs, _, _, rfl, rfl, s6q, i3, _, rfl, t3, yr, _, _, rfl, rfl, hqr, hir', .inr (.inl ⟨ra, xr, _, _, rfl, rfl, hqw, atI_nat b1, ?_⟩)⟩
        refine catA_ok hqs2 hq1 (line_small (by omega)) fun r7 H7 s7 hr7 => ?_
        refine ⟨_, rfl, a, xs, _, _, rfl, rfl, seqT_same s7 s6q, i3, _, rfl, t3, yr, _, _, rfl, rfl, seqT_same s7 hqr, hir', .inr (.inl ⟨ra, xr, _, _, rfl, rfl, seqT_same s7 hqw, atI_nat b2, ?_⟩)⟩
        refine catA_ok hr7 (seqT_same s7 hq2) (line_small (by rw [List.length_append]; omega)) fun r8 H8 s8 hr8 => ?_
        have s68 := s7.trans s8
        have hsc : DpAll K H8 ((ws2 ++ y1) ++ y2) ((scp g.vs pr).map Vr.d) := by
          unfold scp
          rw [List.map_append, List.map_append]
          exact dpa_cat (dpa_cat (dpa_same s68 hks2) (dpa_same s68 hk1)) (dpa_same s68 hk2)
        have sA := s6.trans s68
        generalize (ws2 ++ y1) ++ y2 = sv at hr8 hsc
        generalize hSC : scp g.vs pr = sc' at hsc lsc
        have lsv := dpa_len hsc
        rw [List.length_map] at lsv
        have hp8 := hp.same sA
        have fld : ∀ (H' : Hp) (m : Nat) (x : V), Same H8 H' → sv[m]? = some x → ∃ (v : Vr) (t : Addr), sc'[m]? = some v ∧ x = .ref t ∧ SqT K H' t [.str v.nm, .int v.sz] := fun H' m x e hx => by
          obtain ⟨d, ed, hd⟩ := dpa_getx' (dpa_same e hsc) hx
          rw [List.getElem?_map] at ed
          cases es : sc'[m]? with
          | none => rw [es] at ed; cases ed
          | some v =>
          rw [es] at ed
          cases ed
          have hd2 : Dp K H' x (.tuple [.str v.nm, .int v.sz]) := hd
          obtain ⟨t, us, rfl, ht, hu⟩ := dp_tup' hd2
          cases hu with
          | cons h1 hu =>
          cases hu with
          | cons h2 hu =>
          cases hu
          cases h1
          cases h2
          exact ⟨v, t, rfl, rfl, ht⟩
        refine ⟨_, rfl, r8, rfl, ⟨_, hr8⟩, fun D1 n1 => lc_it (walk_tup (xs := sv)) (fun m H' => Same H8 H' ∧ H' D1 = some (.lst (((sc'.take m).map Vr.sz).map V.int))) ⟨same_new n1, upd_same⟩ (fun m H' _ h' => seqT_same h'.1 hr8) ?_ ?_⟩
        · rintro m x H9 H10 hm ⟨s9, hD9⟩ ⟨rfl, hx⟩
          obtain ⟨v, t, es, rfl, ht⟩ := fld _ m x s9 hx
          refine ⟨rfl, _, rfl, t, _, _, _, rfl, rfl, ht, atI_nat (j := 1) rfl, _, hD9, ?_, same_mut s9 n1, ?_⟩
          · rw [List.length_map, List.length_map, List.length_take]
            exact small1000 (by omega)
          · rw [upd_same, take_succ_at es, List.map_append, List.map_append]
            rfl
        rintro H9 ⟨s9, hD9⟩
        rw [lsv, List.take_length] at hD9
        -- names
        have s39 := s4.trans (sA.trans s9)
        refine ⟨_, rfl, _, rfl, D, _, _, .ref p, rfl, rfl, SqL.of (s39 _ _ hD3), atI_nat ep, ?_⟩
        subst hSC
        obtain ⟨dx1, fs1, hh1, no1⟩ := (hp8.same s9).hd (m := "names") (by decide +kernel)
        refine ⟨p, dx1, fs1, rfl, hh1, no1, _, rfl, p, g, k, pr, congrArg (fun z => [V.ref p, V.int z]) gk, hp8.same s9, epr, fun w1 hw1 => ?_⟩
        refine ⟨_, rfl, r8, rfl, ⟨_, seqT_same s9 hr8⟩, fun D2 n2 => lc_it (walk_tup (xs := sv)) (fun m H' => Same H9 H' ∧ H' D2 = some (.lst ((((scp g.vs pr).take m).map Vr.nm).map V.str))) ⟨same_new n2, upd_same⟩ (fun m H' _ h' => seqT_same (s9.trans h'.1) hr8) ?_ ?_⟩
        · rintro m x H10 H11 hm ⟨s10, hD10⟩ ⟨rfl, hx⟩
          obtain ⟨v, t, es, rfl, ht⟩ := fld _ m x (s9.trans s10) hx
          refine ⟨rfl, _, rfl, t, _, _, _, rfl, rfl, ht, atI_nat (j := 0) rfl, _, hD10, ?_, same_mut s10 n2, ?_⟩
          · rw [List.length_map, List.length_map, List.length_take]
            exact small1000 (by omega)
          · rw [upd_same, take_succ_at es, List.map_append, List.map_append]
            rfl
        rintro H10 ⟨s10, hD10⟩
        rw [lsv, List.take_length] at hD10
        refine ⟨D2, _, rfl, .inl ⟨SqL.of hD10, fun l1 nl1 => ?_⟩⟩
        have e11 := same_new (o := .tup ((((scp g.vs pr).map Vr.nm)).map V.str)) nl1
        refine ⟨w1, .ref l1, .tuple (((scp g.vs pr).map Vr.nm).map .str), rfl, dp_same (s10.trans e11) hw1, .tup (SqT.of upd_same) (dpa_strs _), ok_flat (by rw [List.length_map, List.length_map]; omega) (fun d hd => ?_), fun H12 s12 => ?_⟩
        · obtain ⟨z, _, rfl⟩ := List.mem_map.mp hd
          exact .inr ⟨z, rfl⟩
        refine ⟨_, rfl, ?_⟩
        have sB := (s10.trans e11).trans s12
        have s3B := s39.trans sB
        refine iteF ?_
        -- sizes
        have hp12 := (hp8.same s9).same sB
        obtain ⟨dx2, fs2, hh2, no2⟩ := hp12.hd (m := "sizes") (by decide +kernel)
        refine ⟨_, rfl, _, rfl, D, _, _, .ref p, rfl, rfl, SqL.of (s3B _ _ hD3), atI_nat ep, ?_⟩
        refine ⟨p, dx2, fs2, rfl, hh2, no2, _, rfl, p, g, k, pr, congrArg (fun z => [V.ref p, V.int z]) gk, hp12, epr, fun w2 hw2 => ?_⟩
        have hD12 := sB _ _ hD9
        refine ⟨_, rfl, D1, _, rfl, .inl ⟨SqL.of hD12, fun l2 nl2 => ?_⟩⟩
        have e13 := same_new (o := .tup ((((scp g.vs pr).map Vr.sz)).map V.int)) nl2
        refine ⟨w2, .ref l2, .tuple (((scp g.vs pr).map Vr.sz).map .int), rfl, dp_same e13 hw2, .tup (SqT.of upd_same) (dpa_ints _), ok_flat (by rw [List.length_map, List.length_map]; omega) (fun d hd => ?_), fun H14 s14 => ?_⟩
        · obtain ⟨z, _, rfl⟩ := List.mem_map.mp hd
          exact .inl ⟨z, rfl⟩
        refine ⟨_, rfl, iteF ?_⟩
        -- sights
        have sC := sB.trans (e13.trans s14)
        have s3C := s39.trans sC
        have hp14 := (hp8.same s9).same sC
        obtain ⟨dx3, fs3, hh3, no3⟩ := hp14.hd (m := "sights") (by decide +kernel)
        refine ⟨_, rfl, _, rfl, D, _, _, .ref p, rfl, rfl, SqL.of (s3C _ _ hD3), atI_nat ep, ?_⟩
        refine ⟨p, dx3, fs3, rfl, hh3, no3, _, rfl, p, g, k, pr, congrArg (fun z => [V.ref p, V.int z]) gk, hp14, epr, fun w3 hw3 => ?_⟩
        have hD14 := sC _ _ hD9
        refine ⟨_, rfl, D1, (scp g.vs pr).map Vr.sz, rfl, SqL.of hD14, by rw [List.length_map]; exact lsc, fun n hn => ?_, fun l3 ws3 H15 s15 hl3 hw3' => ?_⟩
        · obtain ⟨v, hv, rfl⟩ := List.mem_map.mp hn
          exact ⟨by have := ok.s2 pr hpr v hv; omega, ok.s4 pr hpr v hv⟩
        refine ⟨l3, _, rfl, .inl ⟨SqL.of hl3, fun l4 nl4 => ?_⟩⟩
        have e16 := same_new (o := .tup ws3) nl4
        refine ⟨w3, .ref l4, sgsD ((scp g.vs pr).map Vr.sz), rfl, dp_same (s15.trans e16) hw3, .tup (SqT.of upd_same) (dpa_same e16 hw3'), ok.sg hpr, fun H17 s17 => ?_⟩
        refine ⟨_, rfl, iteF ?_⟩
        exact ⟨_, _, _, rfl, sA.trans (s9.trans (sC.trans (s15.trans (e16.trans s17))))⟩
      · rintro σ H6 ⟨y6, y7, y8, rfl, s6⟩
        exact ⟨_, _, _, _, _, _, rfl, s4.trans s6⟩
    · rintro σ H4 ⟨y3, y4, y5, y6, y7, y8, rfl, s4⟩
      exact q H4


end
end Pf

namespace Pf
open PySem PySem.Spec PyProof.Rows L2
theorem all_mk {l : PySem.W.OpenLaw} {w : World} {K : PySem.W.Frag} {h : Heap} {mg : Str → Option Value} {fa f0 f1 f2 f3 f4 f5 f6 f7 f8 f9 f10 f11 f12 f13 f14 f15 f16 f17 f18 f19 f20 f21 f22 f23 f24 f25 f26 f27 f28 f29 f30 f31 f32 f33 f34 f35 f36 f37 f38 f39 f40 f41 f42 : Addr} {C2 C3 C4 C56 : Addr} (X : K.In h) (G : h.Ns mainGlobals mg) (hfa : mg "law" = some (.ref fa))
    {od0 an0 od1 an1 od2 an2 od3 an3 od4 an4 od5 an5 od6 an6 od7 an7 od8 an8 od9 an9 od10 an10 od11 an11 od12 an12 od13 an13 od14 an14 od15 an15 od16 an16 od17 an17 od18 an18 od19 an19 od20 an20 od21 an21 od22 an22 od23 an23 od24 an24 od25 an25 od26 an26 od27 an27 od28 an28 od29 an29 od30 an30 od31 an31 od32 an32 od33 an33 od34 an34 od35 an35 od36 an36 od37 an37 od38 an38 od39 an39 od40 an40 od41 an41 od42 an42 : Option Addr}
    {sl0 sl1 sl2 sl3 sl4 sl5 sl6 sl7 sl8 sl9 sl10 sl11 sl12 sl13 sl14 sl15 sl16 sl17 sl18 sl19 sl20 sl21 sl22 sl23 sl24 sl25 sl26 sl27 sl28 sl29 sl30 sl31 sl32 sl33 sl34 sl35 sl36 sl37 sl38 sl39 sl40 sl41 sl42 : Array (Option Value)} {oc0 kV0 dc0 pm0 cd0 ct0 oc1 kV1 dc1 pm1 cd1 ct1 oc2 kV2 dc2 pm2 cd2 ct2 oc3 kV3 dc3 pm3 cd3 ct3 oc4 kV4 dc4 pm4 cd4 ct4 oc5 kV5 dc5 pm5 cd5 ct5 oc6 kV6 dc6 pm6 cd6 ct6 oc7 kV7 dc7 pm7 cd7 ct7 oc8 kV8 dc8 pm8 cd8 ct8 oc9 kV9 dc9 pm9 cd9 ct9 oc10 kV10 dc10 pm10 cd10 ct10 oc11 kV11 dc11 pm11 cd11 ct11 oc12 kV12 dc12 pm12 cd12 ct12 oc13 kV13 dc13 pm13 cd13 ct13 oc14 kV14 dc14 pm14 cd14 ct14 oc15 kV15 dc15 pm15 cd15 ct15 oc16 kV16 dc16 pm16 cd16 ct16 oc17 kV17 dc17 pm17 cd17 ct17 oc18 kV18 dc18 pm18 cd18 ct18 oc19 kV19 dc19 pm19 cd19 ct19 oc20 kV20 dc20 pm20 cd20 ct20 oc21 kV21 dc21 pm21 cd21 ct21 oc22 kV22 dc22 pm22 cd22 ct22 oc23 kV23 dc23 pm23 cd23 ct23 oc24 kV24 dc24 pm24 cd24 ct24 oc25 kV25 dc25 pm25 cd25 ct25 oc26 kV26 dc26 pm26 cd26 ct26 oc27 kV27 dc27 pm27 cd27 ct27 oc28 kV28 dc28 pm28 cd28 ct28 oc29 kV29 dc29 pm29 cd29 ct29 oc30 kV30 dc30 pm30 cd30 ct30 oc31 kV31 dc31 pm31 cd31 ct31 oc32 kV32 dc32 pm32 cd32 ct32 oc33 kV33 dc33 pm33 cd33 ct33 oc34 kV34 dc34 pm34 cd34 ct34 oc35 kV35 dc35 pm35 cd35 ct35 oc36 kV36 dc36 pm36 cd36 ct36 oc37 kV37 dc37 pm37 cd37 ct37 oc38 kV38 dc38 pm38 cd38 ct38 oc39 kV39 dc39 pm39 cd39 ct39 oc40 kV40 dc40 pm40 cd40 ct40 oc41 kV41 dc41 pm41 cd41 ct41 oc42 kV42 dc42 pm42 cd42 ct42 : Value}
    (a0 : PySem.W.nsIn K mainGlobals "_wall" = some (some (.ref f0))) (l0 : K.lookup f0 = some ⟨oc0, od0, .func (PySem.W.fnOf "_wall" "_wall" (defArgs s__wall) (defBody s__wall) (defScope s__wall) .none kV0 dc0 pm0 an0 cd0 ct0), sl0⟩) (c0 : PySem.W.codeIn K cd0 "_wall" = true) (k0 : PySem.W.keepIn K (.ref f0) = true)
    (a1 : PySem.W.nsIn K mainGlobals "frozen" = some (some (.ref f1))) (l1 : K.lookup f1 = some ⟨oc1, od1, .func (PySem.W.fnOf "frozen" "frozen" (defArgs s_frozen) (defBody s_frozen) (defScope s_frozen) .none kV1 dc1 pm1 an1 cd1 ct1), sl1⟩) (c1 : PySem.W.codeIn K cd1 "frozen" = true) (k1 : PySem.W.keepIn K (.ref f1) = true)
    (a2 : PySem.W.nsIn K mainGlobals "product_of" = some (some (.ref f2))) (l2 : K.lookup f2 = some ⟨oc2, od2, .func (PySem.W.fnOf "product_of" "product_of" (defArgs s_product_of) (defBody s_product_of) (defScope s_product_of) .none kV2 dc2 pm2 an2 cd2 ct2), sl2⟩) (c2 : PySem.W.codeIn K cd2 "product_of" = true) (k2 : PySem.W.keepIn K (.ref f2) = true)
    (a3 : PySem.W.nsIn K mainGlobals "in_sight" = some (some (.ref f3))) (l3 : K.lookup f3 = some ⟨oc3, od3, .func (PySem.W.fnOf "in_sight" "in_sight" (defArgs s_in_sight) (defBody s_in_sight) (defScope s_in_sight) .none kV3 dc3 pm3 an3 cd3 ct3), sl3⟩) (c3 : PySem.W.codeIn K cd3 "in_sight" = true) (k3 : PySem.W.keepIn K (.ref f3) = true)
    (a4 : PySem.W.nsIn K mainGlobals "bodies_of" = some (some (.ref f4))) (l4 : K.lookup f4 = some ⟨oc4, od4, .func (PySem.W.fnOf "bodies_of" "bodies_of" (defArgs s_bodies_of) (defBody s_bodies_of) (defScope s_bodies_of) .none kV4 dc4 pm4 an4 cd4 ct4), sl4⟩) (c4 : PySem.W.codeIn K cd4 "bodies_of" = true) (k4 : PySem.W.keepIn K (.ref f4) = true)
    (a5 : PySem.W.nsIn K mainGlobals "expressions_of" = some (some (.ref f5))) (l5 : K.lookup f5 = some ⟨oc5, od5, .func (PySem.W.fnOf "expressions_of" "expressions_of" (defArgs s_expressions_of) (defBody s_expressions_of) (defScope s_expressions_of) .none kV5 dc5 pm5 an5 cd5 ct5), sl5⟩) (c5 : PySem.W.codeIn K cd5 "expressions_of" = true) (k5 : PySem.W.keepIn K (.ref f5) = true)
    (a6 : PySem.W.nsIn K mainGlobals "statements_of" = some (some (.ref f6))) (l6 : K.lookup f6 = some ⟨oc6, od6, .func (PySem.W.fnOf "statements_of" "statements_of" (defArgs s_statements_of) (defBody s_statements_of) (defScope s_statements_of) .none kV6 dc6 pm6 an6 cd6 ct6), sl6⟩) (c6 : PySem.W.codeIn K cd6 "statements_of" = true) (k6 : PySem.W.keepIn K (.ref f6) = true)
    (a7 : PySem.W.nsIn K mainGlobals "is_deeper" = some (some (.ref f7))) (l7 : K.lookup f7 = some ⟨oc7, od7, .func (PySem.W.fnOf "is_deeper" "is_deeper" (defArgs s_is_deeper) (defBody s_is_deeper) (defScope s_is_deeper) .none kV7 dc7 pm7 an7 cd7 ct7), sl7⟩) (c7 : PySem.W.codeIn K cd7 "is_deeper" = true) (k7 : PySem.W.keepIn K (.ref f7) = true)
    (a8 : PySem.W.nsIn K mainGlobals "leaves_of" = some (some (.ref f8))) (l8 : K.lookup f8 = some ⟨oc8, od8, .func (PySem.W.fnOf "leaves_of" "leaves_of" (defArgs s_leaves_of) (defBody s_leaves_of) (defScope s_leaves_of) .none kV8 dc8 pm8 an8 cd8 ct8), sl8⟩) (c8 : PySem.W.codeIn K cd8 "leaves_of" = true) (k8 : PySem.W.keepIn K (.ref f8) = true)
    (a9 : PySem.W.nsIn K mainGlobals "lay_out" = some (some (.ref f9))) (l9 : K.lookup f9 = some ⟨oc9, od9, .func (PySem.W.fnOf "lay_out" "lay_out" (defArgs s_lay_out) (defBody s_lay_out) (defScope s_lay_out) .none kV9 dc9 pm9 an9 cd9 ct9), sl9⟩) (c9 : PySem.W.codeIn K cd9 "lay_out" = true) (k9 : PySem.W.keepIn K (.ref f9) = true)
    (a10 : PySem.W.nsIn K mainGlobals "body_length" = some (some (.ref f10))) (l10 : K.lookup f10 = some ⟨oc10, od10, .func (PySem.W.fnOf "body_length" "body_length" (defArgs s_body_length) (defBody s_body_length) (defScope s_body_length) .none kV10 dc10 pm10 an10 cd10 ct10), sl10⟩) (c10 : PySem.W.codeIn K cd10 "body_length" = true) (k10 : PySem.W.keepIn K (.ref f10) = true)
    (a11 : PySem.W.nsIn K mainGlobals "body_ways" = some (some (.ref f11))) (l11 : K.lookup f11 = some ⟨oc11, od11, .func (PySem.W.fnOf "body_ways" "body_ways" (defArgs s_body_ways) (defBody s_body_ways) (defScope s_body_ways) .none kV11 dc11 pm11 an11 cd11 ct11), sl11⟩) (c11 : PySem.W.codeIn K cd11 "body_ways" = true) (k11 : PySem.W.keepIn K (.ref f11) = true)
    (a12 : PySem.W.nsIn K mainGlobals "statement_ways" = some (some (.ref f12))) (l12 : K.lookup f12 = some ⟨oc12, od12, .func (PySem.W.fnOf "statement_ways" "statement_ways" (defArgs s_statement_ways) (defBody s_statement_ways) (defScope s_statement_ways) .none kV12 dc12 pm12 an12 cd12 ct12), sl12⟩) (c12 : PySem.W.codeIn K cd12 "statement_ways" = true) (k12 : PySem.W.keepIn K (.ref f12) = true)
    (a13 : PySem.W.nsIn K mainGlobals "aims_of" = some (some (.ref f13))) (l13 : K.lookup f13 = some ⟨oc13, od13, .func (PySem.W.fnOf "aims_of" "aims_of" (defArgs s_aims_of) (defBody s_aims_of) (defScope s_aims_of) .none kV13 dc13 pm13 an13 cd13 ct13), sl13⟩) (c13 : PySem.W.codeIn K cd13 "aims_of" = true) (k13 : PySem.W.keepIn K (.ref f13) = true)
    (a14 : PySem.W.nsIn K mainGlobals "point_row" = some (some (.ref f14))) (l14 : K.lookup f14 = some ⟨oc14, od14, .func (PySem.W.fnOf "point_row" "point_row" (defArgs s_point_row) (defBody s_point_row) (defScope s_point_row) .none kV14 dc14 pm14 an14 cd14 ct14), sl14⟩) (c14 : PySem.W.codeIn K cd14 "point_row" = true) (k14 : PySem.W.keepIn K (.ref f14) = true)
    (a15 : PySem.W.nsIn K mainGlobals "slot_of" = some (some (.ref f15))) (l15 : K.lookup f15 = some ⟨oc15, od15, .func (PySem.W.fnOf "slot_of" "slot_of" (defArgs s_slot_of) (defBody s_slot_of) (defScope s_slot_of) .none kV15 dc15 pm15 an15 cd15 ct15), sl15⟩) (c15 : PySem.W.codeIn K cd15 "slot_of" = true) (k15 : PySem.W.keepIn K (.ref f15) = true)
    (a16 : PySem.W.nsIn K mainGlobals "letters_reason" = some (some (.ref f16))) (l16 : K.lookup f16 = some ⟨oc16, od16, .func (PySem.W.fnOf "letters_reason" "letters_reason" (defArgs s_letters_reason) (defBody s_letters_reason) (defScope s_letters_reason) .none kV16 dc16 pm16 an16 cd16 ct16), sl16⟩) (c16 : PySem.W.codeIn K cd16 "letters_reason" = true) (k16 : PySem.W.keepIn K (.ref f16) = true)
    (a17 : PySem.W.nsIn K mainGlobals "is_name" = some (some (.ref f17))) (l17 : K.lookup f17 = some ⟨oc17, od17, .func (PySem.W.fnOf "is_name" "is_name" (defArgs s_is_name) (defBody s_is_name) (defScope s_is_name) .none kV17 dc17 pm17 an17 cd17 ct17), sl17⟩) (c17 : PySem.W.codeIn K cd17 "is_name" = true) (k17 : PySem.W.keepIn K (.ref f17) = true)
    (a18 : PySem.W.nsIn K mainGlobals "first_reason" = some (some (.ref f18))) (l18 : K.lookup f18 = some ⟨oc18, od18, .func (PySem.W.fnOf "first_reason" "first_reason" (defArgs s_first_reason) (defBody s_first_reason) (defScope s_first_reason) .none kV18 dc18 pm18 an18 cd18 ct18), sl18⟩) (c18 : PySem.W.codeIn K cd18 "first_reason" = true) (k18 : PySem.W.keepIn K (.ref f18) = true)
    (a19 : PySem.W.nsIn K mainGlobals "count_reason" = some (some (.ref f19))) (l19 : K.lookup f19 = some ⟨oc19, od19, .func (PySem.W.fnOf "count_reason" "count_reason" (defArgs s_count_reason) (defBody s_count_reason) (defScope s_count_reason) .none kV19 dc19 pm19 an19 cd19 ct19), sl19⟩) (c19 : PySem.W.codeIn K cd19 "count_reason" = true) (k19 : PySem.W.keepIn K (.ref f19) = true)
    (a20 : PySem.W.nsIn K mainGlobals "has_many_variables" = some (some (.ref f20))) (l20 : K.lookup f20 = some ⟨oc20, od20, .func (PySem.W.fnOf "has_many_variables" "has_many_variables" (defArgs s_has_many_variables) (defBody s_has_many_variables) (defScope s_has_many_variables) .none kV20 dc20 pm20 an20 cd20 ct20), sl20⟩) (c20 : PySem.W.codeIn K cd20 "has_many_variables" = true) (k20 : PySem.W.keepIn K (.ref f20) = true)
    (a21 : PySem.W.nsIn K mainGlobals "declaration_reason" = some (some (.ref f21))) (l21 : K.lookup f21 = some ⟨oc21, od21, .func (PySem.W.fnOf "declaration_reason" "declaration_reason" (defArgs s_declaration_reason) (defBody s_declaration_reason) (defScope s_declaration_reason) .none kV21 dc21 pm21 an21 cd21 ct21), sl21⟩) (c21 : PySem.W.codeIn K cd21 "declaration_reason" = true) (k21 : PySem.W.keepIn K (.ref f21) = true)
    (a22 : PySem.W.nsIn K mainGlobals "shape_reason" = some (some (.ref f22))) (l22 : K.lookup f22 = some ⟨oc22, od22, .func (PySem.W.fnOf "shape_reason" "shape_reason" (defArgs s_shape_reason) (defBody s_shape_reason) (defScope s_shape_reason) .none kV22 dc22 pm22 an22 cd22 ct22), sl22⟩) (c22 : PySem.W.codeIn K cd22 "shape_reason" = true) (k22 : PySem.W.keepIn K (.ref f22) = true)
    (a23 : PySem.W.nsIn K mainGlobals "meaning_reason" = some (some (.ref f23))) (l23 : K.lookup f23 = some ⟨oc23, od23, .func (PySem.W.fnOf "meaning_reason" "meaning_reason" (defArgs s_meaning_reason) (defBody s_meaning_reason) (defScope s_meaning_reason) .none kV23 dc23 pm23 an23 cd23 ct23), sl23⟩) (c23 : PySem.W.codeIn K cd23 "meaning_reason" = true) (k23 : PySem.W.keepIn K (.ref f23) = true)
    (a24 : PySem.W.nsIn K mainGlobals "has_wrong_number" = some (some (.ref f24))) (l24 : K.lookup f24 = some ⟨oc24, od24, .func (PySem.W.fnOf "has_wrong_number" "has_wrong_number" (defArgs s_has_wrong_number) (defBody s_has_wrong_number) (defScope s_has_wrong_number) .none kV24 dc24 pm24 an24 cd24 ct24), sl24⟩) (c24 : PySem.W.codeIn K cd24 "has_wrong_number" = true) (k24 : PySem.W.keepIn K (.ref f24) = true)
    (a25 : PySem.W.nsIn K mainGlobals "has_unknown" = some (some (.ref f25))) (l25 : K.lookup f25 = some ⟨oc25, od25, .func (PySem.W.fnOf "has_unknown" "has_unknown" (defArgs s_has_unknown) (defBody s_has_unknown) (defScope s_has_unknown) .none kV25 dc25 pm25 an25 cd25 ct25), sl25⟩) (c25 : PySem.W.codeIn K cd25 "has_unknown" = true) (k25 : PySem.W.keepIn K (.ref f25) = true)
    (a26 : PySem.W.nsIn K mainGlobals "is_wrong_call" = some (some (.ref f26))) (l26 : K.lookup f26 = some ⟨oc26, od26, .func (PySem.W.fnOf "is_wrong_call" "is_wrong_call" (defArgs s_is_wrong_call) (defBody s_is_wrong_call) (defScope s_is_wrong_call) .none kV26 dc26 pm26 an26 cd26 ct26), sl26⟩) (c26 : PySem.W.codeIn K cd26 "is_wrong_call" = true) (k26 : PySem.W.keepIn K (.ref f26) = true)
    (a27 : PySem.W.nsIn K mainGlobals "sights_of" = some (some (.ref f27))) (l27 : K.lookup f27 = some ⟨oc27, od27, .func (PySem.W.fnOf "sights_of" "sights_of" (defArgs s_sights_of) (defBody s_sights_of) (defScope s_sights_of) .none kV27 dc27 pm27 an27 cd27 ct27), sl27⟩) (c27 : PySem.W.codeIn K cd27 "sights_of" = true) (k27 : PySem.W.keepIn K (.ref f27) = true)
    (a28 : PySem.W.nsIn K mainGlobals "_law_cell" = some (some (.ref f28))) (l28 : K.lookup f28 = some ⟨oc28, od28, .func (PySem.W.fnOf "_law_cell" "_law_cell" (defArgs s__law_cell) (defBody s__law_cell) (defScope s__law_cell) .none kV28 dc28 pm28 an28 cd28 ct28), sl28⟩) (c28 : PySem.W.codeIn K cd28 "_law_cell" = true) (k28 : PySem.W.keepIn K (.ref f28) = true)
    (a29 : PySem.W.nsIn K mainGlobals "_law_reader" = some (some (.ref f29))) (l29 : K.lookup f29 = some ⟨oc29, od29, .func (PySem.W.fnOf "_law_reader" "_law_reader" (defArgs s__law_reader) (defBody s__law_reader) (defScope s__law_reader) .none kV29 dc29 pm29 an29 cd29 ct29), sl29⟩) (c29 : PySem.W.codeIn K cd29 "_law_reader" = true) (k29 : PySem.W.keepIn K (.ref f29) = true)
    (a30 : PySem.W.nsIn K mainGlobals "_law_next" = some (some (.ref f30))) (l30 : K.lookup f30 = some ⟨oc30, od30, .func (PySem.W.fnOf "_law_next" "_law_next" (defArgs s__law_next) (defBody s__law_next) (defScope s__law_next) .none kV30 dc30 pm30 an30 cd30 ct30), sl30⟩) (c30 : PySem.W.codeIn K cd30 "_law_next" = true) (k30 : PySem.W.keepIn K (.ref f30) = true)
    (a31 : PySem.W.nsIn K mainGlobals "_law_same" = some (some (.ref f31))) (l31 : K.lookup f31 = some ⟨oc31, od31, .func (PySem.W.fnOf "_law_same" "_law_same" (defArgs s__law_same) (defBody s__law_same) (defScope s__law_same) .none kV31 dc31 pm31 an31 cd31 ct31), sl31⟩) (c31 : PySem.W.codeIn K cd31 "_law_same" = true) (k31 : PySem.W.keepIn K (.ref f31) = true)
    (a32 : PySem.W.nsIn K mainGlobals "_law_word" = some (some (.ref f32))) (l32 : K.lookup f32 = some ⟨oc32, od32, .func (PySem.W.fnOf "_law_word" "_law_word" (defArgs s__law_word) (defBody s__law_word) (defScope s__law_word) .none kV32 dc32 pm32 an32 cd32 ct32), sl32⟩) (c32 : PySem.W.codeIn K cd32 "_law_word" = true) (k32 : PySem.W.keepIn K (.ref f32) = true)
    (a33 : PySem.W.nsIn K mainGlobals "_law_pool" = some (some (.ref f33))) (l33 : K.lookup f33 = some ⟨oc33, od33, .func (PySem.W.fnOf "_law_pool" "_law_pool" (defArgs s__law_pool) (defBody s__law_pool) (defScope s__law_pool) .none kV33 dc33 pm33 an33 cd33 ct33), sl33⟩) (c33 : PySem.W.codeIn K cd33 "_law_pool" = true) (k33 : PySem.W.keepIn K (.ref f33) = true)
    (a34 : PySem.W.nsIn K mainGlobals "_law_declared" = some (some (.ref f34))) (l34 : K.lookup f34 = some ⟨oc34, od34, .func (PySem.W.fnOf "_law_declared" "_law_declared" (defArgs s__law_declared) (defBody s__law_declared) (defScope s__law_declared) .none kV34 dc34 pm34 an34 cd34 ct34), sl34⟩) (c34 : PySem.W.codeIn K cd34 "_law_declared" = true) (k34 : PySem.W.keepIn K (.ref f34) = true)
    (a35 : PySem.W.nsIn K mainGlobals "_law_heads" = some (some (.ref f35))) (l35 : K.lookup f35 = some ⟨oc35, od35, .func (PySem.W.fnOf "_law_heads" "_law_heads" (defArgs s__law_heads) (defBody s__law_heads) (defScope s__law_heads) .none kV35 dc35 pm35 an35 cd35 ct35), sl35⟩) (c35 : PySem.W.codeIn K cd35 "_law_heads" = true) (k35 : PySem.W.keepIn K (.ref f35) = true)
    (a36 : PySem.W.nsIn K mainGlobals "_law_put" = some (some (.ref f36))) (l36 : K.lookup f36 = some ⟨oc36, od36, .func (PySem.W.fnOf "_law_put" "_law_put" (defArgs s__law_put) (defBody s__law_put) (defScope s__law_put) .none kV36 dc36 pm36 an36 cd36 ct36), sl36⟩) (c36 : PySem.W.codeIn K cd36 "_law_put" = true) (k36 : PySem.W.keepIn K (.ref f36) = true)
    (a37 : PySem.W.nsIn K mainGlobals "_law_headed" = some (some (.ref f37))) (l37 : K.lookup f37 = some ⟨oc37, od37, .func (PySem.W.fnOf "_law_headed" "_law_headed" (defArgs s__law_headed) (defBody s__law_headed) (defScope s__law_headed) .none kV37 dc37 pm37 an37 cd37 ct37), sl37⟩) (c37 : PySem.W.codeIn K cd37 "_law_headed" = true) (k37 : PySem.W.keepIn K (.ref f37) = true)
    (a38 : PySem.W.nsIn K mainGlobals "_law_loose" = some (some (.ref f38))) (l38 : K.lookup f38 = some ⟨oc38, od38, .func (PySem.W.fnOf "_law_loose" "_law_loose" (defArgs s__law_loose) (defBody s__law_loose) (defScope s__law_loose) .none kV38 dc38 pm38 an38 cd38 ct38), sl38⟩) (c38 : PySem.W.codeIn K cd38 "_law_loose" = true) (k38 : PySem.W.keepIn K (.ref f38) = true)
    (a39 : PySem.W.nsIn K mainGlobals "_law_spoil" = some (some (.ref f39))) (l39 : K.lookup f39 = some ⟨oc39, od39, .func (PySem.W.fnOf "_law_spoil" "_law_spoil" (defArgs s__law_spoil) (defBody s__law_spoil) (defScope s__law_spoil) .none kV39 dc39 pm39 an39 cd39 ct39), sl39⟩) (c39 : PySem.W.codeIn K cd39 "_law_spoil" = true) (k39 : PySem.W.keepIn K (.ref f39) = true)
    (a40 : PySem.W.nsIn K mainGlobals "_law_made" = some (some (.ref f40))) (l40 : K.lookup f40 = some ⟨oc40, od40, .func (PySem.W.fnOf "_law_made" "_law_made" (defArgs s__law_made) (defBody s__law_made) (defScope s__law_made) .none kV40 dc40 pm40 an40 cd40 ct40), sl40⟩) (c40 : PySem.W.codeIn K cd40 "_law_made" = true) (k40 : PySem.W.keepIn K (.ref f40) = true)
    (a41 : PySem.W.nsIn K mainGlobals "_law_sights" = some (some (.ref f41))) (l41 : K.lookup f41 = some ⟨oc41, od41, .func (PySem.W.fnOf "_law_sights" "_law_sights" (defArgs s__law_sights) (defBody s__law_sights) (defScope s__law_sights) .none kV41 dc41 pm41 an41 cd41 ct41), sl41⟩) (c41 : PySem.W.codeIn K cd41 "_law_sights" = true) (k41 : PySem.W.keepIn K (.ref f41) = true)
    (a42 : PySem.W.nsIn K mainGlobals "law" = some (some (.ref f42))) (l42 : K.lookup f42 = some ⟨oc42, od42, .func (PySem.W.fnOf "law" "law" (defArgs s_law) (defBody s_law) (defScope s_law) .none kV42 dc42 pm42 an42 cd42 ct42), sl42⟩) (c42 : PySem.W.codeIn K cd42 "law" = true) (k42 : PySem.W.keepIn K (.ref f42) = true)
    (g56 : PySem.W.nsIn K mainGlobals "Program" = some (some (.ref C56))) (pg56 : PySem.W.plainGet K C56 Str.empty = true) (hd56 : PySem.W.hasDictIn K C56 = true) (po56 : PySem.W.plainOver K C56 = true) (sa56 : PySem.W.findIn K (.ref C56) "__setattr__" = some (some (.builtin "object.__setattr__"))) (mk56 : PySem.W.makesIn K C56 = true) (kc56 : PySem.W.keepIn K (.ref C56) = true)
    (ha56 : PySem.W.findIn K (.ref C56) "__class__" = some (some (.builtin "object.__class__"))) (hn56 : PySem.W.specialIn K (.builtin "object.__class__") "__get__" = some (some (.builtin "getset_descriptor.__get__"))) (ht56 : PySem.W.takesIn K (.builtin "object.__class__") = some true) (hm56 : PySem.W.mroIn K C56 (.type "object") = some true) (me56 : PySem.W.kitOne K (.ref C56) (.ref C56) = some true)
    (n56_letters : PySem.W.findIn K (.ref C56) "letters" = some none)
    (n56_answers : PySem.W.findIn K (.ref C56) "answers" = some none)
    (n56_variables : PySem.W.findIn K (.ref C56) "variables" = some none)
    (n56_procedures : PySem.W.findIn K (.ref C56) "procedures" = some none)
    (n56__names : PySem.W.findIn K (.ref C56) "_names" = some none)
    (n56__sizes : PySem.W.findIn K (.ref C56) "_sizes" = some none)
    (n56__sights : PySem.W.findIn K (.ref C56) "_sights" = some none)
    (n56_places : PySem.W.findIn K (.ref C56) "places" = some none)
    (n56__points : PySem.W.findIn K (.ref C56) "_points" = some none)
    {fm56_0 : Addr} {odm56_0 anm56_0 : Option Addr} {slm56_0 : Array (Option Value)} {ocm56_0 kVm56_0 dcm56_0 pmm56_0 cdm56_0 ctm56_0 : Value} (am56_0 : PySem.W.findIn K (.ref C56) "__init__" = some (some (.ref fm56_0))) (im56_0 : PySem.W.isFn K (.ref fm56_0) = true) (lm56_0 : K.lookup fm56_0 = some ⟨ocm56_0, odm56_0, .func (PySem.W.fnOf "__init__" "Program.__init__" (defArgs s_Program_init) (defBody s_Program_init) (defScope s_Program_init) .none kVm56_0 dcm56_0 pmm56_0 anm56_0 cdm56_0 ctm56_0), slm56_0⟩) (cm56_0 : PySem.W.codeIn K cdm56_0 "Program.__init__" = true) (km56_0 : PySem.W.keepIn K (.ref fm56_0) = true)
    {fm56_1 : Addr} {odm56_1 anm56_1 : Option Addr} {slm56_1 : Array (Option Value)} {ocm56_1 kVm56_1 dcm56_1 pmm56_1 cdm56_1 ctm56_1 : Value} (am56_1 : PySem.W.findIn K (.ref C56) "names" = some (some (.ref fm56_1))) (im56_1 : PySem.W.isFn K (.ref fm56_1) = true) (lm56_1 : K.lookup fm56_1 = some ⟨ocm56_1, odm56_1, .func (PySem.W.fnOf "names" "Program.names" (defArgs s_Program_names) (defBody s_Program_names) (defScope s_Program_names) .none kVm56_1 dcm56_1 pmm56_1 anm56_1 cdm56_1 ctm56_1), slm56_1⟩) (cm56_1 : PySem.W.codeIn K cdm56_1 "Program.names" = true) (km56_1 : PySem.W.keepIn K (.ref fm56_1) = true)
    {fm56_2 : Addr} {odm56_2 anm56_2 : Option Addr} {slm56_2 : Array (Option Value)} {ocm56_2 kVm56_2 dcm56_2 pmm56_2 cdm56_2 ctm56_2 : Value} (am56_2 : PySem.W.findIn K (.ref C56) "sizes" = some (some (.ref fm56_2))) (im56_2 : PySem.W.isFn K (.ref fm56_2) = true) (lm56_2 : K.lookup fm56_2 = some ⟨ocm56_2, odm56_2, .func (PySem.W.fnOf "sizes" "Program.sizes" (defArgs s_Program_sizes) (defBody s_Program_sizes) (defScope s_Program_sizes) .none kVm56_2 dcm56_2 pmm56_2 anm56_2 cdm56_2 ctm56_2), slm56_2⟩) (cm56_2 : PySem.W.codeIn K cdm56_2 "Program.sizes" = true) (km56_2 : PySem.W.keepIn K (.ref fm56_2) = true)
    {fm56_3 : Addr} {odm56_3 anm56_3 : Option Addr} {slm56_3 : Array (Option Value)} {ocm56_3 kVm56_3 dcm56_3 pmm56_3 cdm56_3 ctm56_3 : Value} (am56_3 : PySem.W.findIn K (.ref C56) "sights" = some (some (.ref fm56_3))) (im56_3 : PySem.W.isFn K (.ref fm56_3) = true) (lm56_3 : K.lookup fm56_3 = some ⟨ocm56_3, odm56_3, .func (PySem.W.fnOf "sights" "Program.sights" (defArgs s_Program_sights) (defBody s_Program_sights) (defScope s_Program_sights) .none kVm56_3 dcm56_3 pmm56_3 anm56_3 cdm56_3 ctm56_3), slm56_3⟩) (cm56_3 : PySem.W.codeIn K cdm56_3 "Program.sights" = true) (km56_3 : PySem.W.keepIn K (.ref fm56_3) = true)
    {fm56_4 : Addr} {odm56_4 anm56_4 : Option Addr} {slm56_4 : Array (Option Value)} {ocm56_4 kVm56_4 dcm56_4 pmm56_4 cdm56_4 ctm56_4 : Value} (am56_4 : PySem.W.findIn K (.ref C56) "points" = some (some (.ref fm56_4))) (im56_4 : PySem.W.isFn K (.ref fm56_4) = true) (lm56_4 : K.lookup fm56_4 = some ⟨ocm56_4, odm56_4, .func (PySem.W.fnOf "points" "Program.points" (defArgs s_Program_points) (defBody s_Program_points) (defScope s_Program_points) .none kVm56_4 dcm56_4 pmm56_4 anm56_4 cdm56_4 ctm56_4), slm56_4⟩) (cm56_4 : PySem.W.codeIn K cdm56_4 "Program.points" = true) (km56_4 : PySem.W.keepIn K (.ref fm56_4) = true)
    {ta6 : Addr} {to6 : Obj} (vc6 : PySem.W.nsIn K mainGlobals "LEAVES" = some (some (.ref ta6))) (vl6 : K.lookup ta6 = some to6) (vt6 : tupB to6 ["number", "name"] = true)
    {tc24 : Tok} (vc24 : PySem.W.nsIn K mainGlobals "MOST_LETTERS" = some (some (.int 3 tc24)))
    {tc25 : Tok} (vc25 : PySem.W.nsIn K mainGlobals "LEAST_ANSWERS" = some (some (.int 2 tc25)))
    {tc26 : Tok} (vc26 : PySem.W.nsIn K mainGlobals "MOST_ANSWERS" = some (some (.int 4 tc26)))
    {tc29 : Tok} (vc29 : PySem.W.nsIn K mainGlobals "LETTERS" = some (some (.str "abcdefghijklmnopqrstuvwxyz" tc29)))
    {tc30 : Tok} (vc30 : PySem.W.nsIn K mainGlobals "WORD_CHARACTERS" = some (some (.str "abcdefghijklmnopqrstuvwxyz0123456789" tc30)))
    {tc31 : Tok} (vc31 : PySem.W.nsIn K mainGlobals "LONGEST_NAME" = some (some (.int 8 tc31)))
    {ta32 : Addr} {to32 : Obj} (vc32 : PySem.W.nsIn K mainGlobals "KEYWORDS" = some (some (.ref ta32))) (vl32 : K.lookup ta32 = some to32) (vt32 : tupB to32 ["letters", "answers", "global", "proc", "local", "read", "write", "if", "then", "else", "while", "do", "call", "skip", "end", "and", "or", "not"] = true)
    {tc35 : Tok} (vc35 : PySem.W.nsIn K mainGlobals "MOST_PROCEDURES" = some (some (.int 5 tc35)))
    {tc36 : Tok} (vc36 : PySem.W.nsIn K mainGlobals "MOST_GLOBALS" = some (some (.int 4 tc36)))
    {tc37 : Tok} (vc37 : PySem.W.nsIn K mainGlobals "MOST_PARAMETERS" = some (some (.int 3 tc37)))
    {tc38 : Tok} (vc38 : PySem.W.nsIn K mainGlobals "MOST_LOCALS" = some (some (.int 3 tc38)))
    {tc39 : Tok} (vc39 : PySem.W.nsIn K mainGlobals "LEAST_SIZE" = some (some (.int 2 tc39)))
    {tc40 : Tok} (vc40 : PySem.W.nsIn K mainGlobals "MOST_SIZE" = some (some (.int 4 tc40)))
    {tc41 : Tok} (vc41 : PySem.W.nsIn K mainGlobals "MOST_SIGHTS" = some (some (.int 64 tc41)))
    {tc42 : Tok} (vc42 : PySem.W.nsIn K mainGlobals "MOST_STATEMENTS" = some (some (.int 60 tc42)))
    {tc43 : Tok} (vc43 : PySem.W.nsIn K mainGlobals "MOST_NESTING" = some (some (.int 6 tc43)))
    {tc44 : Tok} (vc44 : PySem.W.nsIn K mainGlobals "MOST_DEPTH" = some (some (.int 5 tc44)))
    {tc45 : Tok} (vc45 : PySem.W.nsIn K mainGlobals "MOST_NUMBER" = some (some (.int 9 tc45)))
    (z0 : PySem.W.nsIn K mainGlobals "ValueError" = some none) (z1 : PySem.W.nsIn K mainGlobals "all" = some none) (z2 : PySem.W.nsIn K mainGlobals "any" = some none) (z3 : PySem.W.nsIn K mainGlobals "bool" = some none) (z4 : PySem.W.nsIn K mainGlobals "enumerate" = some none) (z5 : PySem.W.nsIn K mainGlobals "int" = some none) (z6 : PySem.W.nsIn K mainGlobals "isinstance" = some none) (z7 : PySem.W.nsIn K mainGlobals "len" = some none) (z8 : PySem.W.nsIn K mainGlobals "list" = some none) (z9 : PySem.W.nsIn K mainGlobals "range" = some none) (z10 : PySem.W.nsIn K mainGlobals "set" = some none) (z11 : PySem.W.nsIn K mainGlobals "str" = some none) (z12 : PySem.W.nsIn K mainGlobals "super" = some none) (z13 : PySem.W.nsIn K mainGlobals "tuple" = some none) (z14 : PySem.W.nsIn K mainGlobals "zip" = some none)
    (g2 : PySem.W.nsIn K mainGlobals "MendError" = some (some (.ref C2)))
    (g3 : PySem.W.nsIn K mainGlobals "InvalidInput" = some (some (.ref C3)))
    (g4 : PySem.W.nsIn K mainGlobals "InvalidProgram" = some (some (.ref C4)))
    (eB : errsB K (clsAt [(2, C2), (3, C3), (4, C4), (56, C56)]) errIds errUp = true) (opq : PySem.W.nsIn K cStatics "thirdparty.any" = some none) (tp : (l.prog.main.scope.names.lookup ("super" : Str)).isSome = false)
    (eB2 : errsB2 K (clsAt [(2, C2), (3, C3), (4, C4), (56, C56)]) id_MendError errIds = true)
    (xC2 : PySem.W.excIn K C2 [.type "ValueError", .type "Exception", .type "BaseException", .type "object"] "ValueError.__new__" = true)
    (xC3 : PySem.W.excIn K C3 [.type "ValueError", .type "Exception", .type "BaseException", .type "object"] "ValueError.__new__" = true)
    {nm4 q4 qu4 fl4 : Str} {N4 I4 cc4 cda4 : Addr} {bs4 bm4 sub4 : List Value} {sn4 : List Str} {ab4 : Bool} {col4 : Option Bool} {dd4 od1_4 od2_4 od3_4 an_4 : Option Addr} {k0_4 k1_4 k2_4 k3_4 k5_4 : Option Value} {oc1_4 oc2_4 oc3_4 kW4 doc4 pmm4 ctt4 : Value} {sl1_4 sl2_4 sl3_4 : Array (Option Value)} {vs4 : Array Value} {tf4 : Tok}
    (oC4 : K.lookup C4 = some (excClassObj nm4 q4 C4 N4 bs4 bm4 true sn4 sub4 ab4 col4 dd4 k0_4 k1_4 k2_4 k3_4 k5_4 "ValueError.__new__")) (rv4 : PySem.HandSPX.refsVE bm4 = true) (ib4 : initB' K C4 "reason" = true)
    (iC4 : PySem.W.findIn K (.ref C4) "__init__" = some (some (.ref I4))) (tI4 : PySem.W.typeIn K (.ref I4) = some (.type "function"))
    (lI4 : K.lookup I4 = some ⟨oc1_4, od1_4, .func (PySem.W.fnX "__init__" qu4 (defArgs (inClass (topS 4) 0)) (defBody (inClass (topS 4) 0)) (initSc "reason") [("__class__", cc4)] .none kW4 doc4 pmm4 an_4 (.ref cda4) ctt4), sl1_4⟩) (cI4 : PySem.W.codeIn K (.ref cda4) qu4 = true)
    (lD4 : K.lookup cda4 = some ⟨oc2_4, od2_4, .fields vs4, sl2_4⟩) (vD4 : vs4[2]? = some (.str fl4 tf4)) (fD4 : (l.prog.main.file == fl4) = true) (lc4 : K.lookup cc4 = some ⟨oc3_4, od3_4, .cell (some (.ref C4)), sl3_4⟩)
    :
    ∃ fd : FuncData, (∀ (s : Shared) (v : Value), BindsTo s fd ⟨[v], []⟩ [("script", v)]) ∧ ∀ base : Heap, K.In base → base.Ns mainGlobals mg → FnOk l.prog w K mg base CX0 10 fa fd ["script"] (sp_law K) := by
  have e := hfa.symm.trans (PySem.W.mg_of X G a42)
  cases e
  have F0 := fun_mk (st := s__wall) l0 c0 k0
  have F1 := fun_mk (st := s_frozen) l1 c1 k1
  have F2 := fun_mk (st := s_product_of) l2 c2 k2
  have F3 := fun_mk (st := s_in_sight) l3 c3 k3
  have F4 := fun_mk (st := s_bodies_of) l4 c4 k4
  have F5 := fun_mk (st := s_expressions_of) l5 c5 k5
  have F6 := fun_mk (st := s_statements_of) l6 c6 k6
  have F7 := fun_mk (st := s_is_deeper) l7 c7 k7
  have F8 := fun_mk (st := s_leaves_of) l8 c8 k8
  have F9 := fun_mk (st := s_lay_out) l9 c9 k9
  have F10 := fun_mk (st := s_body_length) l10 c10 k10
  have F11 := fun_mk (st := s_body_ways) l11 c11 k11
  have F12 := fun_mk (st := s_statement_ways) l12 c12 k12
  have F13 := fun_mk (st := s_aims_of) l13 c13 k13
  have F14 := fun_mk (st := s_point_row) l14 c14 k14
  have F15 := fun_mk (st := s_slot_of) l15 c15 k15
  have F16 := fun_mk (st := s_letters_reason) l16 c16 k16
  have F17 := fun_mk (st := s_is_name) l17 c17 k17
  have F18 := fun_mk (st := s_first_reason) l18 c18 k18
  have F19 := fun_mk (st := s_count_reason) l19 c19 k19
  have F20 := fun_mk (st := s_has_many_variables) l20 c20 k20
  have F21 := fun_mk (st := s_declaration_reason) l21 c21 k21
  have F22 := fun_mk (st := s_shape_reason) l22 c22 k22
  have F23 := fun_mk (st := s_meaning_reason) l23 c23 k23
  have F24 := fun_mk (st := s_has_wrong_number) l24 c24 k24
  have F25 := fun_mk (st := s_has_unknown) l25 c25 k25
  have F26 := fun_mk (st := s_is_wrong_call) l26 c26 k26
  have F27 := fun_mk (st := s_sights_of) l27 c27 k27
  have F28 := fun_mk (st := s__law_cell) l28 c28 k28
  have F29 := fun_mk (st := s__law_reader) l29 c29 k29
  have F30 := fun_mk (st := s__law_next) l30 c30 k30
  have F31 := fun_mk (st := s__law_same) l31 c31 k31
  have F32 := fun_mk (st := s__law_word) l32 c32 k32
  have F33 := fun_mk (st := s__law_pool) l33 c33 k33
  have F34 := fun_mk (st := s__law_declared) l34 c34 k34
  have F35 := fun_mk (st := s__law_heads) l35 c35 k35
  have F36 := fun_mk (st := s__law_put) l36 c36 k36
  have F37 := fun_mk (st := s__law_headed) l37 c37 k37
  have F38 := fun_mk (st := s__law_loose) l38 c38 k38
  have F39 := fun_mk (st := s__law_spoil) l39 c39 k39
  have F40 := fun_mk (st := s__law_made) l40 c40 k40
  have F41 := fun_mk (st := s__law_sights) l41 c41 k41
  have F42 := fun_mk (st := s_law) l42 c42 k42
  have Fm56_0 := fun_mk (st := s_Program_init) lm56_0 cm56_0 km56_0
  have Fm56_1 := fun_mk (st := s_Program_names) lm56_1 cm56_1 km56_1
  have Fm56_2 := fun_mk (st := s_Program_sizes) lm56_2 cm56_2 km56_2
  have Fm56_3 := fun_mk (st := s_Program_sights) lm56_3 cm56_3 km56_3
  have Fm56_4 := fun_mk (st := s_Program_points) lm56_4 cm56_4 km56_4
  obtain ⟨e1, e2, e3, e4⟩ := errsB_ok eB
  obtain ⟨e5, e6⟩ := errsB2_ok eB2
  have ix4 := initB_ok ib4
  have ox4 : OexC K C4 := ⟨⟨nm4, q4, N4, bs4, bm4, sn4, sub4, ab4, col4, dd4, k0_4, k1_4, k2_4, k3_4, k5_4, oC4, rv4⟩, ix4.2.2.2.2.1, ix4.2.2.2.2.2.1, ix4.2.2.2.2.2.2, e1 4 (by decide)⟩
  have T : Txt l.prog K mg (clsAt [(2, C2), (3, C3), (4, C4), (56, C56)]) := ⟨PySem.W.mg_none_of X G z0,
    PySem.W.mg_none_of X G z1,
    PySem.W.mg_none_of X G z2,
    PySem.W.mg_none_of X G z3,
    PySem.W.mg_none_of X G z4,
    PySem.W.mg_none_of X G z5,
    PySem.W.mg_none_of X G z6,
    PySem.W.mg_none_of X G z7,
    PySem.W.mg_none_of X G z8,
    PySem.W.mg_none_of X G z9,
    PySem.W.mg_none_of X G z10,
    PySem.W.mg_none_of X G z11,
    PySem.W.mg_none_of X G z12,
    PySem.W.mg_none_of X G z13,
    PySem.W.mg_none_of X G z14,
    ⟨⟨_, _, F0, PySem.W.mg_of X G a0, F0.binds (ps := ["k"]) fun _ _ _ _ _ _ us hl => match us, hl with | [_], _ => rfl⟩⟩,
    ⟨⟨_, _, F1, PySem.W.mg_of X G a1, F1.binds (ps := ["value"]) fun _ _ _ _ _ _ us hl => match us, hl with | [_], _ => rfl⟩⟩,
    ⟨⟨_, _, F2, PySem.W.mg_of X G a2, F2.binds (ps := ["sizes"]) fun _ _ _ _ _ _ us hl => match us, hl with | [_], _ => rfl⟩⟩,
    ⟨⟨_, _, F3, PySem.W.mg_of X G a3, F3.binds (ps := ["variables", "procedure"]) fun _ _ _ _ _ _ us hl => match us, hl with | [_, _], _ => rfl⟩⟩,
    ⟨⟨_, _, F4, PySem.W.mg_of X G a4, F4.binds (ps := ["statement"]) fun _ _ _ _ _ _ us hl => match us, hl with | [_], _ => rfl⟩⟩,
    ⟨⟨_, _, F5, PySem.W.mg_of X G a5, F5.binds (ps := ["statement"]) fun _ _ _ _ _ _ us hl => match us, hl with | [_], _ => rfl⟩⟩,
    ⟨⟨_, _, F6, PySem.W.mg_of X G a6, F6.binds (ps := ["body"]) fun _ _ _ _ _ _ us hl => match us, hl with | [_], _ => rfl⟩⟩,
    ⟨⟨_, _, F7, PySem.W.mg_of X G a7, F7.binds (ps := ["expression", "limit"]) fun _ _ _ _ _ _ us hl => match us, hl with | [_, _], _ => rfl⟩⟩,
    ⟨⟨_, _, F8, PySem.W.mg_of X G a8, F8.binds (ps := ["expression"]) fun _ _ _ _ _ _ us hl => match us, hl with | [_], _ => rfl⟩⟩,
    ⟨⟨_, _, F9, PySem.W.mg_of X G a9, F9.binds (ps := ["answers", "variables", "procedures"]) fun _ _ _ _ _ _ us hl => match us, hl with | [_, _, _], _ => rfl⟩⟩,
    ⟨⟨_, _, F10, PySem.W.mg_of X G a10, F10.binds (ps := ["body"]) fun _ _ _ _ _ _ us hl => match us, hl with | [_], _ => rfl⟩⟩,
    ⟨⟨_, _, F11, PySem.W.mg_of X G a11, F11.binds (ps := ["body", "first", "behind"]) fun _ _ _ _ _ _ us hl => match us, hl with | [_, _, _], _ => rfl⟩⟩,
    ⟨⟨_, _, F12, PySem.W.mg_of X G a12, F12.binds (ps := ["statement", "point", "follows"]) fun _ _ _ _ _ _ us hl => match us, hl with | [_, _, _], _ => rfl⟩⟩,
    ⟨⟨_, _, F13, PySem.W.mg_of X G a13, F13.binds (ps := ["statement", "sight", "answers", "procedures"]) fun _ _ _ _ _ _ us hl => match us, hl with | [_, _, _, _], _ => rfl⟩⟩,
    ⟨⟨_, _, F14, PySem.W.mg_of X G a14, F14.binds (ps := ["statement", "sight", "names", "places", "ways"]) fun _ _ _ _ _ _ us hl => match us, hl with | [_, _, _, _, _], _ => rfl⟩⟩,
    ⟨⟨_, _, F15, PySem.W.mg_of X G a15, F15.binds (ps := ["sight", "name"]) fun _ _ _ _ _ _ us hl => match us, hl with | [_, _], _ => rfl⟩⟩,
    ⟨⟨_, _, F16, PySem.W.mg_of X G a16, F16.binds (ps := ["letters", "answers"]) fun _ _ _ _ _ _ us hl => match us, hl with | [_, _], _ => rfl⟩⟩,
    ⟨⟨_, _, F17, PySem.W.mg_of X G a17, F17.binds (ps := ["text"]) fun _ _ _ _ _ _ us hl => match us, hl with | [_], _ => rfl⟩⟩,
    ⟨⟨_, _, F18, PySem.W.mg_of X G a18, F18.binds (ps := ["letters", "answers", "variables", "procedures"]) fun _ _ _ _ _ _ us hl => match us, hl with | [_, _, _, _], _ => rfl⟩⟩,
    ⟨⟨_, _, F19, PySem.W.mg_of X G a19, F19.binds (ps := ["variables", "procedures"]) fun _ _ _ _ _ _ us hl => match us, hl with | [_, _], _ => rfl⟩⟩,
    ⟨⟨_, _, F20, PySem.W.mg_of X G a20, F20.binds (ps := ["procedure"]) fun _ _ _ _ _ _ us hl => match us, hl with | [_], _ => rfl⟩⟩,
    ⟨⟨_, _, F21, PySem.W.mg_of X G a21, F21.binds (ps := ["variables", "procedures"]) fun _ _ _ _ _ _ us hl => match us, hl with | [_, _], _ => rfl⟩⟩,
    ⟨⟨_, _, F22, PySem.W.mg_of X G a22, F22.binds (ps := ["procedures"]) fun _ _ _ _ _ _ us hl => match us, hl with | [_], _ => rfl⟩⟩,
    ⟨⟨_, _, F23, PySem.W.mg_of X G a23, F23.binds (ps := ["letters", "variables", "procedures"]) fun _ _ _ _ _ _ us hl => match us, hl with | [_, _, _], _ => rfl⟩⟩,
    ⟨⟨_, _, F24, PySem.W.mg_of X G a24, F24.binds (ps := ["statement"]) fun _ _ _ _ _ _ us hl => match us, hl with | [_], _ => rfl⟩⟩,
    ⟨⟨_, _, F25, PySem.W.mg_of X G a25, F25.binds (ps := ["statement", "sizes", "many"]) fun _ _ _ _ _ _ us hl => match us, hl with | [_, _, _], _ => rfl⟩⟩,
    ⟨⟨_, _, F26, PySem.W.mg_of X G a26, F26.binds (ps := ["statement", "main", "many"]) fun _ _ _ _ _ _ us hl => match us, hl with | [_, _, _], _ => rfl⟩⟩,
    ⟨⟨_, _, F27, PySem.W.mg_of X G a27, F27.binds (ps := ["sizes"]) fun _ _ _ _ _ _ us hl => match us, hl with | [_], _ => rfl⟩⟩,
    ⟨⟨_, _, F28, PySem.W.mg_of X G a28, F28.binds (ps := ["script", "k"]) fun _ _ _ _ _ _ us hl => match us, hl with | [_, _], _ => rfl⟩⟩,
    ⟨⟨_, _, F29, PySem.W.mg_of X G a29, F29.binds (ps := ["cell"]) fun _ _ _ _ _ _ us hl => match us, hl with | [_], _ => rfl⟩⟩,
    ⟨⟨_, _, F30, PySem.W.mg_of X G a30, F30.binds (ps := ["reader", "size"]) fun _ _ _ _ _ _ us hl => match us, hl with | [_, _], _ => rfl⟩⟩,
    ⟨⟨_, _, F31, PySem.W.mg_of X G a31, F31.binds (ps := ["told", "due"]) fun _ _ _ _ _ _ us hl => match us, hl with | [_, _], _ => rfl⟩⟩,
    ⟨⟨_, _, F32, PySem.W.mg_of X G a32, F32.binds (ps := ["reader", "many"]) fun _ _ _ _ _ _ us hl => match us, hl with | [_, _], _ => rfl⟩⟩,
    ⟨⟨_, _, F33, PySem.W.mg_of X G a33, F33.binds (ps := ["reader"]) fun _ _ _ _ _ _ us hl => match us, hl with | [_], _ => rfl⟩⟩,
    ⟨⟨_, _, F34, PySem.W.mg_of X G a34, F34.binds (ps := ["reader", "pool", "start", "many", "room"]) fun _ _ _ _ _ _ us hl => match us, hl with | [_, _, _, _, _], _ => rfl⟩⟩,
    ⟨⟨_, _, F35, PySem.W.mg_of X G a35, F35.binds (ps := ["reader", "most"]) fun _ _ _ _ _ _ us hl => match us, hl with | [_, _], _ => rfl⟩⟩,
    ⟨⟨_, _, F36, PySem.W.mg_of X G a36, F36.binds (ps := ["row", "k", "part"]) fun _ _ _ _ _ _ us hl => match us, hl with | [_, _, _], _ => rfl⟩⟩,
    ⟨⟨_, _, F37, PySem.W.mg_of X G a37, F37.binds (ps := ["parts", "number", "part", "thing"]) fun _ _ _ _ _ _ us hl => match us, hl with | [_, _, _, _], _ => rfl⟩⟩,
    ⟨⟨_, _, F38, PySem.W.mg_of X G a38, F38.binds (ps := ["body"]) fun _ _ _ _ _ _ us hl => match us, hl with | [_], _ => rfl⟩⟩,
    ⟨⟨_, _, F39, PySem.W.mg_of X G a39, F39.binds (ps := ["body"]) fun _ _ _ _ _ _ us hl => match us, hl with | [_], _ => rfl⟩⟩,
    ⟨⟨_, _, F40, PySem.W.mg_of X G a40, F40.binds (ps := ["parts", "form"]) fun _ _ _ _ _ _ us hl => match us, hl with | [_, _], _ => rfl⟩⟩,
    ⟨⟨_, _, F41, PySem.W.mg_of X G a41, F41.binds (ps := ["sizes"]) fun _ _ _ _ _ _ us hl => match us, hl with | [_], _ => rfl⟩⟩,
    ⟨⟨_, _, F42, PySem.W.mg_of X G a42, F42.binds (ps := ["script"]) fun _ _ _ _ _ _ us hl => match us, hl with | [_], _ => rfl⟩⟩,
    PySem.W.mg_of X G g56,
    ⟨pg56, hd56, po56, sa56⟩,
    ⟨⟨pg56, hd56, po56, sa56⟩, ha56, hn56, ht56, hm56, me56⟩,
    n56_letters,
    n56_answers,
    n56_variables,
    n56_procedures,
    n56__names,
    n56__sizes,
    n56__sights,
    n56_places,
    n56__points,
    ⟨_, _, Fm56_0, ⟨mk56, am56_0, im56_0, kc56⟩, Fm56_0.binds (ps := ["self", "letters", "answers", "variables", "procedures"]) fun _ _ _ _ _ _ us hl => match us, hl with | [_, _, _, _, _], _ => rfl⟩,
    ⟨_, _, Fm56_1, ⟨am56_1, im56_1, km56_1⟩, Fm56_1.binds (ps := ["self", "procedure"]) fun _ _ _ _ _ _ us hl => match us, hl with | [_, _], _ => rfl⟩,
    ⟨_, _, Fm56_2, ⟨am56_2, im56_2, km56_2⟩, Fm56_2.binds (ps := ["self", "procedure"]) fun _ _ _ _ _ _ us hl => match us, hl with | [_, _], _ => rfl⟩,
    ⟨_, _, Fm56_3, ⟨am56_3, im56_3, km56_3⟩, Fm56_3.binds (ps := ["self", "procedure"]) fun _ _ _ _ _ _ us hl => match us, hl with | [_, _], _ => rfl⟩,
    ⟨_, _, Fm56_4, ⟨am56_4, im56_4, km56_4⟩, Fm56_4.binds (ps := ["self", "procedure"]) fun _ _ _ _ _ _ us hl => match us, hl with | [_, _], _ => rfl⟩,
    ⟨ta6, PySem.W.mg_of X G vc6, ktup_by vl6 vt6⟩,
    ⟨tc24, PySem.W.mg_of X G vc24⟩,
    ⟨tc25, PySem.W.mg_of X G vc25⟩,
    ⟨tc26, PySem.W.mg_of X G vc26⟩,
    ⟨tc29, PySem.W.mg_of X G vc29⟩,
    ⟨tc30, PySem.W.mg_of X G vc30⟩,
    ⟨tc31, PySem.W.mg_of X G vc31⟩,
    ⟨ta32, PySem.W.mg_of X G vc32, ktup_by vl32 vt32⟩,
    ⟨tc35, PySem.W.mg_of X G vc35⟩,
    ⟨tc36, PySem.W.mg_of X G vc36⟩,
    ⟨tc37, PySem.W.mg_of X G vc37⟩,
    ⟨tc38, PySem.W.mg_of X G vc38⟩,
    ⟨tc39, PySem.W.mg_of X G vc39⟩,
    ⟨tc40, PySem.W.mg_of X G vc40⟩,
    ⟨tc41, PySem.W.mg_of X G vc41⟩,
    ⟨tc42, PySem.W.mg_of X G vc42⟩,
    ⟨tc43, PySem.W.mg_of X G vc43⟩,
    ⟨tc44, PySem.W.mg_of X G vc44⟩,
    ⟨tc45, PySem.W.mg_of X G vc45⟩,
    PySem.W.mg_of X G g2,
    PySem.W.mg_of X G g3,
    PySem.W.mg_of X G g4,
    e1,
    e2,
    e3,
    e4,
    e5,
    e6,
    xC2,
    xC3,
    ox4,
    ⟨I4, cc4, cda4, _, qu4, ⟨⟨_, _, _, _, _, _, _, _, _, rfl, lI4⟩, cI4, ⟨_, _, _, _, _, _, lD4, vD4, fD4⟩, ⟨_, _, _, lc4⟩, ox4, ix4.1, ix4.2.1, ix4.2.2.1, opq, ix4.2.2.2.1, PySem.W.mg_none_of X G z12, rfl, tp⟩, iC4, tI4, .all fun us hl => match us, hl with | [_, _], _ => rfl⟩,
    ix4.2.2.2.1⟩
  refine ⟨PySem.W.fnOf "law" "law" (defArgs s_law) (defBody s_law) (defScope s_law) .none kV42 dc42 pm42 an42 cd42 ct42, fun s v => .of_eq rfl, fun base _ _ => ?_⟩
  exact ok_law (P := l.prog) (w := w) (base := base) T F42
end Pf
open PySem PySem.W PyProof.Rows
set_option maxRecDepth 100000 in
set_option maxHeartbeats 0 in
theorem PySem.Challenge.cw_allmends_k03_sights_in_order_holds : PySem.Challenge.rw_allmends_k03_sights_in_order.Holds := by
  w_on; o_law; k_head; (case hw => w_witness2)
  k_fill
  refine L2.walk_of (l := PySem.Challenge.rw_allmends_k03_sights_in_order) (n := 63) (k := 10) (x := "script") (CX := fun _ => L2.CX0) (sp := fun w => Pf.sp_law _) rfl (by decide) rfl ⟨rfl, by decide, by decide⟩ (fun w h Y => PySem.W.kIn_of Y) ?F (fun _ _ a ns hl _ hS => ⟨a, ns, rfl, hS, hl, fun _ => rfl⟩) (fun _ _ _ _ _ h => h)
  case F =>
    intro w mg fa h KX G hmg
    refine' Pf.all_mk KX G hmg ?a0 ?l0 ?c0 ?k0 ?a1 ?l1 ?c1 ?k1 ?a2 ?l2 ?c2 ?k2 ?a3 ?l3 ?c3 ?k3 ?a4 ?l4 ?c4 ?k4 ?a5 ?l5 ?c5 ?k5 ?a6 ?l6 ?c6 ?k6 ?a7 ?l7 ?c7 ?k7 ?a8 ?l8 ?c8 ?k8 ?a9 ?l9 ?c9 ?k9 ?a10 ?l10 ?c10 ?k10 ?a11 ?l11 ?c11 ?k11 ?a12 ?l12 ?c12 ?k12 ?a13 ?l13 ?c13 ?k13 ?a14 ?l14 ?c14 ?k14 ?a15 ?l15 ?c15 ?k15 ?a16 ?l16 ?c16 ?k16 ?a17 ?l17 ?c17 ?k17 ?a18 ?l18 ?c18 ?k18 ?a19 ?l19 ?c19 ?k19 ?a20 ?l20 ?c20 ?k20 ?a21 ?l21 ?c21 ?k21 ?a22 ?l22 ?c22 ?k22 ?a23 ?l23 ?c23 ?k23 ?a24 ?l24 ?c24 ?k24 ?a25 ?l25 ?c25 ?k25 ?a26 ?l26 ?c26 ?k26 ?a27 ?l27 ?c27 ?k27 ?a28 ?l28 ?c28 ?k28 ?a29 ?l29 ?c29 ?k29 ?a30 ?l30 ?c30 ?k30 ?a31 ?l31 ?c31 ?k31 ?a32 ?l32 ?c32 ?k32 ?a33 ?l33 ?c33 ?k33 ?a34 ?l34 ?c34 ?k34 ?a35 ?l35 ?c35 ?k35 ?a36 ?l36 ?c36 ?k36 ?a37 ?l37 ?c37 ?k37 ?a38 ?l38 ?c38 ?k38 ?a39 ?l39 ?c39 ?k39 ?a40 ?l40 ?c40 ?k40 ?a41 ?l41 ?c41 ?k41 ?a42 ?l42 ?c42 ?k42 ?g56 ?pg56 ?hd56 ?po56 ?sa56 ?mk56 ?kc56 ?ha56 ?hn56 ?ht56 ?hm56 ?me56 ?n56_letters ?n56_answers ?n56_variables ?n56_procedures ?n56__names ?n56__sizes ?n56__sights ?n56_places ?n56__points ?am56_0 ?im56_0 ?lm56_0 ?cm56_0 ?km56_0 ?am56_1 ?im56_1 ?lm56_1 ?cm56_1 ?km56_1 ?am56_2 ?im56_2 ?lm56_2 ?cm56_2 ?km56_2 ?am56_3 ?im56_3 ?lm56_3 ?cm56_3 ?km56_3 ?am56_4 ?im56_4 ?lm56_4 ?cm56_4 ?km56_4 ?vc6 ?vl6 ?vt6 ?vc24 ?vc25 ?vc26 ?vc29 ?vc30 ?vc31 ?vc32 ?vl32 ?vt32 ?vc35 ?vc36 ?vc37 ?vc38 ?vc39 ?vc40 ?vc41 ?vc42 ?vc43 ?vc44 ?vc45 ?z0 ?z1 ?z2 ?z3 ?z4 ?z5 ?z6 ?z7 ?z8 ?z9 ?z10 ?z11 ?z12 ?z13 ?z14 ?g2 ?g3 ?g4 ?eB2 ?eB ?opq ?tp ?xC2 ?xC3 ?oC4 ?rv4 ?ib4 ?iC4 ?tI4 ?lI4 ?cI4 ?lD4 ?vD4 ?fD4 ?lc4
    (case a0 => k_is); (case l0 => k_is); (case c0 => k_is); (case k0 => k_is); (case a1 => k_is); (case l1 => k_is)
    (case c1 => k_is); (case k1 => k_is); (case a2 => k_is); (case l2 => k_is); (case c2 => k_is); (case k2 => k_is)
    (case a3 => k_is); (case l3 => k_is); (case c3 => k_is); (case k3 => k_is); (case a4 => k_is); (case l4 => k_is)
    (case c4 => k_is); (case k4 => k_is); (case a5 => k_is); (case l5 => k_is); (case c5 => k_is); (case k5 => k_is)
    (case a6 => k_is); (case l6 => k_is); (case c6 => k_is); (case k6 => k_is); (case a7 => k_is); (case l7 => k_is)
    (case c7 => k_is); (case k7 => k_is); (case a8 => k_is); (case l8 => k_is); (case c8 => k_is); (case k8 => k_is)
    (case a9 => k_is); (case l9 => k_is); (case c9 => k_is); (case k9 => k_is); (case a10 => k_is); (case l10 => k_is)
    (case c10 => k_is); (case k10 => k_is); (case a11 => k_is); (case l11 => k_is); (case c11 => k_is); (case k11 => k_is)
    (case a12 => k_is); (case l12 => k_is); (case c12 => k_is); (case k12 => k_is); (case a13 => k_is); (case l13 => k_is)
    (case c13 => k_is); (case k13 => k_is); (case a14 => k_is); (case l14 => k_is); (case c14 => k_is); (case k14 => k_is)
    (case a15 => k_is); (case l15 => k_is); (case c15 => k_is); (case k15 => k_is); (case a16 => k_is); (case l16 => k_is)
    (case c16 => k_is); (case k16 => k_is); (case a17 => k_is); (case l17 => k_is); (case c17 => k_is); (case k17 => k_is)
    (case a18 => k_is); (case l18 => k_is); (case c18 => k_is); (case k18 => k_is); (case a19 => k_is); (case l19 => k_is)
    (case c19 => k_is); (case k19 => k_is); (case a20 => k_is); (case l20 => k_is); (case c20 => k_is); (case k20 => k_is)
    (case a21 => k_is); (case l21 => k_is); (case c21 => k_is); (case k21 => k_is); (case a22 => k_is); (case l22 => k_is)
    (case c22 => k_is); (case k22 => k_is); (case a23 => k_is); (case l23 => k_is); (case c23 => k_is); (case k23 => k_is)
    (case a24 => k_is); (case l24 => k_is); (case c24 => k_is); (case k24 => k_is); (case a25 => k_is); (case l25 => k_is)
    (case c25 => k_is); (case k25 => k_is); (case a26 => k_is); (case l26 => k_is); (case c26 => k_is); (case k26 => k_is)
    (case a27 => k_is); (case l27 => k_is); (case c27 => k_is); (case k27 => k_is); (case a28 => k_is); (case l28 => k_is)
    (case c28 => k_is); (case k28 => k_is); (case a29 => k_is); (case l29 => k_is); (case c29 => k_is); (case k29 => k_is)
    (case a30 => k_is); (case l30 => k_is); (case c30 => k_is); (case k30 => k_is); (case a31 => k_is); (case l31 => k_is)
    (case c31 => k_is); (case k31 => k_is); (case a32 => k_is); (case l32 => k_is); (case c32 => k_is); (case k32 => k_is)
    (case a33 => k_is); (case l33 => k_is); (case c33 => k_is); (case k33 => k_is); (case a34 => k_is); (case l34 => k_is)
    (case c34 => k_is); (case k34 => k_is); (case a35 => k_is); (case l35 => k_is); (case c35 => k_is); (case k35 => k_is)
    (case a36 => k_is); (case l36 => k_is); (case c36 => k_is); (case k36 => k_is); (case a37 => k_is); (case l37 => k_is)
    (case c37 => k_is); (case k37 => k_is); (case a38 => k_is); (case l38 => k_is); (case c38 => k_is); (case k38 => k_is)
    (case a39 => k_is); (case l39 => k_is); (case c39 => k_is); (case k39 => k_is); (case a40 => k_is); (case l40 => k_is)
    (case c40 => k_is); (case k40 => k_is); (case a41 => k_is); (case l41 => k_is); (case c41 => k_is); (case k41 => k_is)
    (case a42 => k_is); (case l42 => k_is); (case c42 => k_is); (case k42 => k_is); (case g56 => k_is); (case pg56 => k_is)
    (case hd56 => k_is); (case po56 => k_is); (case sa56 => k_is); (case mk56 => k_is); (case kc56 => k_is); (case ha56 => k_is)
    (case hn56 => k_is); (case ht56 => k_is); (case hm56 => k_is); (case me56 => kernel_rfl); (case n56_letters => k_is); (case n56_answers => k_is)
    (case n56_variables => k_is); (case n56_procedures => k_is); (case n56__names => k_is); (case n56__sizes => k_is); (case n56__sights => k_is); (case n56_places => k_is)
    (case n56__points => k_is); (case am56_0 => k_is); (case im56_0 => k_is); (case lm56_0 => k_is); (case cm56_0 => k_is); (case km56_0 => k_is)
    (case am56_1 => k_is); (case im56_1 => k_is); (case lm56_1 => k_is); (case cm56_1 => k_is); (case km56_1 => k_is); (case am56_2 => k_is)
    (case im56_2 => k_is); (case lm56_2 => k_is); (case cm56_2 => k_is); (case km56_2 => k_is); (case am56_3 => k_is); (case im56_3 => k_is)
    (case lm56_3 => k_is); (case cm56_3 => k_is); (case km56_3 => k_is); (case am56_4 => k_is); (case im56_4 => k_is); (case lm56_4 => k_is)
    (case cm56_4 => k_is); (case km56_4 => k_is); (case vc6 => k_is); (case vl6 => k_is); (case vt6 => decide +kernel); (case vc24 => k_is)
    (case vc25 => k_is); (case vc26 => k_is); (case vc29 => k_is); (case vc30 => k_is); (case vc31 => k_is); (case vc32 => k_is)
    (case vl32 => k_is); (case vt32 => decide +kernel); (case vc35 => k_is); (case vc36 => k_is); (case vc37 => k_is); (case vc38 => k_is)
    (case vc39 => k_is); (case vc40 => k_is); (case vc41 => k_is); (case vc42 => k_is); (case vc43 => k_is); (case vc44 => k_is)
    (case vc45 => k_is); (case z0 => k_is); (case z1 => k_is); (case z2 => k_is); (case z3 => k_is); (case z4 => k_is)
    (case z5 => k_is); (case z6 => k_is); (case z7 => k_is); (case z8 => k_is); (case z9 => k_is); (case z10 => k_is)
    (case z11 => k_is); (case z12 => k_is); (case z13 => k_is); (case z14 => k_is); (case g2 => k_is); (case g3 => k_is)
    (case g4 => k_is); (case eB2 => kernel_rfl); (case eB => kernel_rfl); (case opq => first | k_is | kernel_rfl); (case tp => rfl); (case xC2 => kernel_rfl)
    (case xC3 => kernel_rfl); (case oC4 => k_is); (case rv4 => decide +kernel); (case ib4 => kernel_rfl); (case iC4 => k_is); (case tI4 => k_is)
    (case lI4 => k_is); (case cI4 => k_is); (case lD4 => k_is); (case vD4 => rfl); (case fD4 => decide +kernel); (case lc4 => k_is)
