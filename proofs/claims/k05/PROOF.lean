import PyProof.Rows.All
import Wide.All
import OpenK.AllK
import Wide.FinOn
import HandS.ForMost
import HandS.IsInst
import HandS.Strs
import HandS.Defaults
import HandS.Conv
import HandS.DictComp
import HandS.TupAny
import HandS.More
import HandS.TupMul
import KE.GoesEnum
import KE.GoesMore
import KE.GoesZip
import HandS.ExcInit
import HandS.Nested
import HandS.FStr
import HandS.ExcValue
import KE.KExcSuper
import KE.KExcIs
import HandS.Walk
import HandS.Deep
import HandS.Zip
import HandS.Codes
import HandS.ExcOwn
import HandS.ExcField
import HandS.Flow
import HandS.WordsExc
import HandS.TryOnly
import PySem.Challenge.RW_allmends_k05_points_and_next
set_option Elab.async false
set_option linter.all false
set_option maxRecDepth 100000
set_option maxHeartbeats 4000000
namespace Pf
open PySem PySem.Spec PyProof.Rows L2
def topS (i : Nat) : Stmt := PySem.Challenge.pw_allmends_k05_points_and_next.main.body.getD i (.Pass ⟨0, 0, 0, 0⟩)
abbrev s__wall : Stmt := topS 0
theorem sc__wall : FnScope ["k"] ["k"] (defScope s__wall) := ⟨rfl, rfl, rfl, by decide +kernel, rfl, by decide +kernel, by decide +kernel⟩
abbrev s_frozen : Stmt := topS 7
theorem sc_frozen : FnScope ["value", "part"] ["value"] (defScope s_frozen) := ⟨rfl, rfl, rfl, by decide +kernel, rfl, by decide +kernel, by decide +kernel⟩
abbrev s_product_of : Stmt := topS 8
theorem sc_product_of : FnScope ["sizes", "result", "size"] ["sizes"] (defScope s_product_of) := ⟨rfl, rfl, rfl, by decide +kernel, rfl, by decide +kernel, by decide +kernel⟩
abbrev s_in_sight : Stmt := topS 9
theorem sc_in_sight : FnScope ["variables", "procedure"] ["variables", "procedure"] (defScope s_in_sight) := ⟨rfl, rfl, rfl, by decide +kernel, rfl, by decide +kernel, by decide +kernel⟩
abbrev s_bodies_of : Stmt := topS 10
theorem sc_bodies_of : FnScope ["statement"] ["statement"] (defScope s_bodies_of) := ⟨rfl, rfl, rfl, by decide +kernel, rfl, by decide +kernel, by decide +kernel⟩
abbrev s_expressions_of : Stmt := topS 11
theorem sc_expressions_of : FnScope ["statement", "word"] ["statement"] (defScope s_expressions_of) := ⟨rfl, rfl, rfl, by decide +kernel, rfl, by decide +kernel, by decide +kernel⟩
abbrev s_statements_of : Stmt := topS 12
theorem sc_statements_of : FnScope ["body", "found", "statement", "waiting", "depth", "inner", "below"] ["body"] (defScope s_statements_of) := ⟨rfl, rfl, rfl, by decide +kernel, rfl, by decide +kernel, by decide +kernel⟩
abbrev s_is_deeper : Stmt := topS 13
theorem sc_is_deeper : FnScope ["expression", "limit", "part"] ["expression", "limit"] (defScope s_is_deeper) := ⟨rfl, rfl, rfl, by decide +kernel, rfl, by decide +kernel, by decide +kernel⟩
abbrev s_leaves_of : Stmt := topS 14
theorem sc_leaves_of : FnScope ["expression", "part", "leaf"] ["expression"] (defScope s_leaves_of) := ⟨rfl, rfl, rfl, by decide +kernel, rfl, by decide +kernel, by decide +kernel⟩
abbrev s_lay_out : Stmt := topS 16
theorem sc_lay_out : FnScope ["answers", "variables", "procedures", "procedure", "names", "places", "points", "number", "sight", "rows", "statement", "ways", "first", "aims", "expression", "role", "size"] ["answers", "variables", "procedures"] (defScope s_lay_out) := ⟨rfl, rfl, rfl, by decide +kernel, rfl, by decide +kernel, by decide +kernel⟩
abbrev s_body_length : Stmt := topS 17
theorem sc_body_length : FnScope ["body"] ["body"] (defScope s_body_length) := ⟨rfl, rfl, rfl, by decide +kernel, rfl, by decide +kernel, by decide +kernel⟩
abbrev s_body_ways : Stmt := topS 18
theorem sc_body_ways : FnScope ["body", "first", "behind", "found", "index", "statement", "point", "is_last", "follows"] ["body", "first", "behind"] (defScope s_body_ways) := ⟨rfl, rfl, rfl, by decide +kernel, rfl, by decide +kernel, by decide +kernel⟩
abbrev s_statement_ways : Stmt := topS 19
theorem sc_statement_ways : FnScope ["statement", "point", "follows", "word", "behind", "inner", "starts", "body", "start", "ways"] ["statement", "point", "follows"] (defScope s_statement_ways) := ⟨rfl, rfl, rfl, by decide +kernel, rfl, by decide +kernel, by decide +kernel⟩
abbrev s_aims_of : Stmt := topS 20
theorem sc_aims_of : FnScope ["statement", "sight", "answers", "procedures", "word", "name", "size", "procedure"] ["statement", "sight", "answers", "procedures"] (defScope s_aims_of) := ⟨rfl, rfl, rfl, by decide +kernel, rfl, by decide +kernel, by decide +kernel⟩
abbrev s_point_row : Stmt := topS 21
theorem sc_point_row : FnScope ["statement", "sight", "names", "places", "ways", "word"] ["statement", "sight", "names", "places", "ways"] (defScope s_point_row) := ⟨rfl, rfl, rfl, by decide +kernel, rfl, by decide +kernel, by decide +kernel⟩
abbrev s_slot_of : Stmt := topS 22
theorem sc_slot_of : FnScope ["sight", "name", "pair"] ["sight", "name"] (defScope s_slot_of) := ⟨rfl, rfl, rfl, by decide +kernel, rfl, by decide +kernel, by decide +kernel⟩
abbrev s_letters_reason : Stmt := topS 27
theorem sc_letters_reason : FnScope ["letters", "answers"] ["letters", "answers"] (defScope s_letters_reason) := ⟨rfl, rfl, rfl, by decide +kernel, rfl, by decide +kernel, by decide +kernel⟩
abbrev s_is_name : Stmt := topS 33
theorem sc_is_name : FnScope ["text", "character"] ["text"] (defScope s_is_name) := ⟨rfl, rfl, rfl, by decide +kernel, rfl, by decide +kernel, by decide +kernel⟩
abbrev s_first_reason : Stmt := topS 46
theorem sc_first_reason : FnScope ["letters", "answers", "variables", "procedures"] ["letters", "answers", "variables", "procedures"] (defScope s_first_reason) := ⟨rfl, rfl, rfl, by decide +kernel, rfl, by decide +kernel, by decide +kernel⟩
abbrev s_count_reason : Stmt := topS 47
theorem sc_count_reason : FnScope ["variables", "procedures", "procedure"] ["variables", "procedures"] (defScope s_count_reason) := ⟨rfl, rfl, rfl, by decide +kernel, rfl, by decide +kernel, by decide +kernel⟩
abbrev s_has_many_variables : Stmt := topS 48
theorem sc_has_many_variables : FnScope ["procedure"] ["procedure"] (defScope s_has_many_variables) := ⟨rfl, rfl, rfl, by decide +kernel, rfl, by decide +kernel, by decide +kernel⟩
abbrev s_declaration_reason : Stmt := topS 49
theorem sc_declaration_reason : FnScope ["variables", "procedures", "procedure_names", "scopes", "scope_names", "scope_sizes", "procedure", "scope", "name", "size", "names", "sizes"] ["variables", "procedures"] (defScope s_declaration_reason) := ⟨rfl, rfl, rfl, by decide +kernel, rfl, by decide +kernel, by decide +kernel⟩
abbrev s_shape_reason : Stmt := topS 50
theorem sc_shape_reason : FnScope ["procedures", "found", "expressions", "procedure", "pair", "statement", "depth", "expression"] ["procedures"] (defScope s_shape_reason) := ⟨rfl, rfl, rfl, by decide +kernel, rfl, by decide +kernel, by decide +kernel⟩
abbrev s_meaning_reason : Stmt := topS 51
theorem sc_meaning_reason : FnScope ["letters", "variables", "procedures", "found", "procedure", "scope", "many", "name", "size", "statement", "sizes", "depth"] ["letters", "variables", "procedures"] (defScope s_meaning_reason) := ⟨rfl, rfl, rfl, by decide +kernel, rfl, by decide +kernel, by decide +kernel⟩
abbrev s_has_wrong_number : Stmt := topS 52
theorem sc_has_wrong_number : FnScope ["statement", "leaves", "expression", "leaf", "word", "worth"] ["statement"] (defScope s_has_wrong_number) := ⟨rfl, rfl, rfl, by decide +kernel, rfl, by decide +kernel, by decide +kernel⟩
abbrev s_has_unknown : Stmt := topS 53
theorem sc_has_unknown : FnScope ["statement", "sizes", "many", "leaves", "expression", "leaf", "word", "worth"] ["statement", "sizes", "many"] (defScope s_has_unknown) := ⟨rfl, rfl, rfl, by decide +kernel, rfl, by decide +kernel, by decide +kernel⟩
abbrev s_is_wrong_call : Stmt := topS 54
theorem sc_is_wrong_call : FnScope ["statement", "main", "many"] ["statement", "main", "many"] (defScope s_is_wrong_call) := ⟨rfl, rfl, rfl, by decide +kernel, rfl, by decide +kernel, by decide +kernel⟩
abbrev s_sights_of : Stmt := topS 57
theorem sc_sights_of : FnScope ["sizes", "sights", "size", "sight", "value"] ["sizes"] (defScope s_sights_of) := ⟨rfl, rfl, rfl, by decide +kernel, rfl, by decide +kernel, by decide +kernel⟩
abbrev s__law_cell : Stmt := topS 59
theorem sc__law_cell : FnScope ["script", "k"] ["script", "k"] (defScope s__law_cell) := ⟨rfl, rfl, rfl, by decide +kernel, rfl, by decide +kernel, by decide +kernel⟩
abbrev s__law_reader : Stmt := topS 60
theorem sc__law_reader : FnScope ["cell"] ["cell"] (defScope s__law_reader) := ⟨rfl, rfl, rfl, by decide +kernel, rfl, by decide +kernel, by decide +kernel⟩
abbrev s__law_next : Stmt := topS 61
theorem sc__law_next : FnScope ["reader", "size", "k", "rest", "mixed"] ["reader", "size"] (defScope s__law_next) := ⟨rfl, rfl, rfl, by decide +kernel, rfl, by decide +kernel, by decide +kernel⟩
abbrev s__law_same : Stmt := topS 62
theorem sc__law_same : FnScope ["told", "due", "k"] ["told", "due"] (defScope s__law_same) := ⟨rfl, rfl, rfl, by decide +kernel, rfl, by decide +kernel, by decide +kernel⟩
abbrev s__law_word : Stmt := topS 63
theorem sc__law_word : FnScope ["reader", "many", "signs", "word", "k"] ["reader", "many"] (defScope s__law_word) := ⟨rfl, rfl, rfl, by decide +kernel, rfl, by decide +kernel, by decide +kernel⟩
abbrev s__law_pool : Stmt := topS 64
theorem sc__law_pool : FnScope ["reader", "closed", "pool", "alike", "k", "word", "base", "last", "at", "first"] ["reader"] (defScope s__law_pool) := ⟨rfl, rfl, rfl, by decide +kernel, rfl, by decide +kernel, by decide +kernel⟩
abbrev s__law_declared : Stmt := topS 65
theorem sc__law_declared : FnScope ["reader", "pool", "start", "many", "room", "pairs", "k", "size"] ["reader", "pool", "start", "many", "room"] (defScope s__law_declared) := ⟨rfl, rfl, rfl, by decide +kernel, rfl, by decide +kernel, by decide +kernel⟩
abbrev s__law_heads : Stmt := topS 66
theorem sc__law_heads : FnScope ["reader", "most", "pool", "letters", "answers", "room", "shared", "own", "first", "procedures", "k", "left", "start", "passed", "held"] ["reader", "most"] (defScope s__law_heads) := ⟨rfl, rfl, rfl, by decide +kernel, rfl, by decide +kernel, by decide +kernel⟩
abbrev s__law_put : Stmt := topS 67
theorem sc__law_put : FnScope ["row", "k", "part"] ["row", "k", "part"] (defScope s__law_put) := ⟨rfl, rfl, rfl, by decide +kernel, rfl, by decide +kernel, by decide +kernel⟩
abbrev s__law_headed : Stmt := topS 68
theorem sc__law_headed : FnScope ["parts", "number", "part", "thing"] ["parts", "number", "part", "thing"] (defScope s__law_headed) := ⟨rfl, rfl, rfl, by decide +kernel, rfl, by decide +kernel, by decide +kernel⟩
abbrev s__law_shape : Stmt := topS 69
theorem sc__law_shape : FnScope ["parts", "number", "left", "seen", "shape", "told", "pair"] ["parts", "number", "left"] (defScope s__law_shape) := ⟨rfl, rfl, rfl, by decide +kernel, rfl, by decide +kernel, by decide +kernel⟩
abbrev s__law_deep : Stmt := topS 70
theorem sc__law_deep : FnScope ["reader", "names", "depth", "kind", "left"] ["reader", "names", "depth"] (defScope s__law_deep) := ⟨rfl, rfl, rfl, by decide +kernel, rfl, by decide +kernel, by decide +kernel⟩
abbrev s__law_drawn : Stmt := topS 71
theorem sc__law_drawn : FnScope ["reader", "shape"] ["reader", "shape"] (defScope s__law_drawn) := ⟨rfl, rfl, rfl, by decide +kernel, rfl, by decide +kernel, by decide +kernel⟩
abbrev s__law_plain : Stmt := topS 72
theorem sc__law_plain : FnScope ["reader", "shape", "kind", "names", "called", "k"] ["reader", "shape"] (defScope s__law_plain) := ⟨rfl, rfl, rfl, by decide +kernel, rfl, by decide +kernel, by decide +kernel⟩
abbrev s__law_body : Stmt := topS 73
theorem sc__law_body : FnScope ["reader", "shape", "most", "depth", "body", "k"] ["reader", "shape", "most", "depth"] (defScope s__law_body) := ⟨rfl, rfl, rfl, by decide +kernel, rfl, by decide +kernel, by decide +kernel⟩
abbrev s__law_statement : Stmt := topS 74
theorem sc__law_statement : FnScope ["reader", "shape", "depth", "kind", "test", "body"] ["reader", "shape", "depth"] (defScope s__law_statement) := ⟨rfl, rfl, rfl, by decide +kernel, rfl, by decide +kernel, by decide +kernel⟩
abbrev s__law_tower : Stmt := topS 75
theorem sc__law_tower : FnScope ["reader", "shape", "depth", "inner", "test", "side", "kind"] ["reader", "shape", "depth"] (defScope s__law_tower) := ⟨rfl, rfl, rfl, by decide +kernel, rfl, by decide +kernel, by decide +kernel⟩
abbrev s__law_rich : Stmt := topS 76
theorem sc__law_rich : FnScope ["reader", "most", "room", "parts", "tall", "full", "left", "k", "shape", "body", "number"] ["reader", "most", "room"] (defScope s__law_rich) := ⟨rfl, rfl, rfl, by decide +kernel, rfl, by decide +kernel, by decide +kernel⟩
abbrev s__law_loose : Stmt := topS 77
theorem sc__law_loose : FnScope ["body", "rows", "statement", "row"] ["body"] (defScope s__law_loose) := ⟨rfl, rfl, rfl, by decide +kernel, rfl, by decide +kernel, by decide +kernel⟩
abbrev s__law_spoil : Stmt := topS 78
theorem sc__law_spoil : FnScope ["body", "statement", "arguments"] ["body"] (defScope s__law_spoil) := ⟨rfl, rfl, rfl, by decide +kernel, rfl, by decide +kernel, by decide +kernel⟩
abbrev s__law_made : Stmt := topS 79
theorem sc__law_made : FnScope ["parts", "form", "variables", "told", "procedures", "program"] ["parts", "form"] (defScope s__law_made) := ⟨rfl, rfl, rfl, by decide +kernel, rfl, by decide +kernel, by decide +kernel⟩
abbrev s__law_inner : Stmt := topS 80
theorem sc__law_inner : FnScope ["statement"] ["statement"] (defScope s__law_inner) := ⟨rfl, rfl, rfl, by decide +kernel, rfl, by decide +kernel, by decide +kernel⟩
abbrev s__law_count : Stmt := topS 81
theorem sc__law_count : FnScope ["body", "total", "statement", "part"] ["body"] (defScope s__law_count) := ⟨rfl, rfl, rfl, by decide +kernel, rfl, by decide +kernel, by decide +kernel⟩
abbrev s__law_place : Stmt := topS 82
theorem sc__law_place : FnScope ["model", "procedure", "role", "size", "expression"] ["model", "procedure", "role", "size", "expression"] (defScope s__law_place) := ⟨rfl, rfl, rfl, by decide +kernel, rfl, by decide +kernel, by decide +kernel⟩
abbrev s__law_row : Stmt := topS 83
theorem sc__law_row : FnScope ["model", "procedure", "statement", "number", "follow", "names", "kind", "slot", "size", "called", "spots", "k", "place", "yes", "no"] ["model", "procedure", "statement", "number", "follow"] (defScope s__law_row) := ⟨rfl, rfl, rfl, by decide +kernel, rfl, by decide +kernel, by decide +kernel⟩
abbrev s__law_flat : Stmt := topS 84
theorem sc__law_flat : FnScope ["model", "procedure", "body", "number", "after", "k", "statement", "follow", "later", "part"] ["model", "procedure", "body", "number", "after"] (defScope s__law_flat) := ⟨rfl, rfl, rfl, by decide +kernel, rfl, by decide +kernel, by decide +kernel⟩
abbrev s__law_model : Stmt := topS 85
theorem sc__law_model : FnScope ["parts", "model", "told", "seen", "k", "body", "pair"] ["parts"] (defScope s__law_model) := ⟨rfl, rfl, rfl, by decide +kernel, rfl, by decide +kernel, by decide +kernel⟩
abbrev s_law : Stmt := topS 86
theorem sc_law : FnScope ["script", "models", "programs", "turn", "reader", "parts", "rows", "number"] ["script"] (defScope s_law) := ⟨rfl, rfl, rfl, by decide +kernel, rfl, by decide +kernel, by decide +kernel⟩
abbrev s_Program_init : Stmt := inClass (topS 56) 0
theorem sc_Program_init : FnScope ["self", "letters", "answers", "variables", "procedures", "reason", "scopes", "procedure", "scope", "sizes", "name", "size"] ["self", "letters", "answers", "variables", "procedures"] (defScope s_Program_init) := ⟨rfl, rfl, rfl, by decide +kernel, rfl, by decide +kernel, by decide +kernel⟩
abbrev s_Program_names : Stmt := inClass (topS 56) 1
theorem sc_Program_names : FnScope ["self", "procedure"] ["self", "procedure"] (defScope s_Program_names) := ⟨rfl, rfl, rfl, by decide +kernel, rfl, by decide +kernel, by decide +kernel⟩
abbrev s_Program_sizes : Stmt := inClass (topS 56) 2
theorem sc_Program_sizes : FnScope ["self", "procedure"] ["self", "procedure"] (defScope s_Program_sizes) := ⟨rfl, rfl, rfl, by decide +kernel, rfl, by decide +kernel, by decide +kernel⟩
abbrev s_Program_sights : Stmt := inClass (topS 56) 3
theorem sc_Program_sights : FnScope ["self", "procedure"] ["self", "procedure"] (defScope s_Program_sights) := ⟨rfl, rfl, rfl, by decide +kernel, rfl, by decide +kernel, by decide +kernel⟩
abbrev s_Program_points : Stmt := inClass (topS 56) 4
theorem sc_Program_points : FnScope ["self", "procedure"] ["self", "procedure"] (defScope s_Program_points) := ⟨rfl, rfl, rfl, by decide +kernel, rfl, by decide +kernel, by decide +kernel⟩
abbrev id_Program : Nat := 56
abbrev id_MendError : Nat := 2
abbrev id_InvalidInput : Nat := 3
abbrev id_InvalidProgram : Nat := 4
/-- a class's __init__, a method, as a caller needs them -/
def HasMk (P : Program) (w : World) (K : PySem.W.Frag) (mg : Str → Option Value) (base : Heap) (k : Nat) (C : Addr) (ps : List Str) (sp : Sp) : Prop :=
  ∃ (f : Addr) (fd : FuncData), FnOk P w K mg base CX0 k f fd ps sp ∧ Mk K C f ∧ Binds K fd ps []
def HasM (P : Program) (w : World) (K : PySem.W.Frag) (mg : Str → Option Value) (base : Heap) (k : Nat) (C : Addr) (m : Str) (ps : List Str) (sp : Sp) : Prop :=
  ∃ (f : Addr) (fd : FuncData), FnOk P w K mg base CX0 k f fd ps sp ∧ Meth K C m f ∧ Binds K fd ps []
def HasMkX (P : Program) (w : World) (K : PySem.W.Frag) (mg : Str → Option Value) (base : Heap) (k : Nat) (C : Addr) (ps : List Str) (sp : Sp) : Prop :=
  ∃ (f : Addr) (fd : FuncData), FnOk P w K mg base (L2.CX P w) k f fd ps sp ∧ Mk K C f ∧ Binds K fd ps []
def HasMX (P : Program) (w : World) (K : PySem.W.Frag) (mg : Str → Option Value) (base : Heap) (k : Nat) (C : Addr) (m : Str) (ps : List Str) (sp : Sp) : Prop :=
  ∃ (f : Addr) (fd : FuncData), FnOk P w K mg base (L2.CX P w) k f fd ps sp ∧ Meth K C m f ∧ Binds K fd ps []
/-- a method of two positional parameters and two keyword-only ones whose default is None -/
def KwF (K : PySem.W.Frag) (fd : FuncData) (ps : List Str) (a b : Str) : Prop := Binds K fd ps [Value.none, Value.none] ∧ KBn K fd ps 2 [a] (fun us ws => us ++ (ws ++ [Value.none])) (fun vs zs => vs ++ (zs ++ [V.non])) ∧
  KBn K fd ps 2 [b] (fun us ws => us ++ (Value.none :: ws)) (fun vs zs => vs ++ (V.non :: zs)) ∧ KBn K fd ps 2 [a, b] (fun us ws => us ++ ws) (fun vs zs => vs ++ zs)
def HasMKw (P : Program) (w : World) (K : PySem.W.Frag) (mg : Str → Option Value) (base : Heap) (k : Nat) (C : Addr) (m : Str) (a b : Str) (ps : List Str) (sp : Sp) : Prop :=
  ∃ (f : Addr) (fd : FuncData), FnOk P w K mg base CX0 k f fd ps sp ∧ Meth K C m f ∧ KwF K fd ps a b
/-- a def that may raise -/
def HasX (P : Program) (w : World) (K : PySem.W.Frag) (mg : Str → Option Value) (base : Heap) (k : Nat) (x : Str) (ps : List Str) (sp : Sp) : Prop :=
  ∃ (f : Addr) (fd : FuncData), FnOk P w K mg base (L2.CX P w) k f fd ps sp ∧ mg x = some (.ref f) ∧ PySem.W.keepIn K (.ref f) = true ∧ Binds K fd ps []
/-- a def as it stands behind the top -/
structure DefAt (K : PySem.W.Frag) (mg : Str → Option Value) (x : Str) (st : Stmt) (ps : List Str) : Prop where
  ex : ∃ (f : Addr) (fd : FuncData), Fun K x x st f fd ∧ mg x = some (.ref f) ∧ Binds K fd ps []
/-- what a caller needs of a def -/
def Has (P : Program) (w : World) (K : PySem.W.Frag) (mg : Str → Option Value) (base : Heap) (k : Nat) (x : Str) (ps : List Str) (sp : Sp) : Prop :=
  ∃ (f : Addr) (fd : FuncData), FnOk P w K mg base CX0 k f fd ps sp ∧ mg x = some (.ref f) ∧ PySem.W.keepIn K (.ref f) = true ∧ Binds K fd ps []
theorem Has.none {P : Program} {w : World} {K : PySem.W.Frag} {mg : Str → Option Value} {base : Heap} {k : Nat} {x : Str} {st : Stmt} {ps : List Str} {sp : Sp} (D : DefAt K mg x st ps) (no : ∀ vs H Q E, ¬ sp vs H Q E) : Has P w K mg base k x ps sp := by
  obtain ⟨f, fd, F, m, b⟩ := D.ex
  exact ⟨f, fd, ⟨fun vs H Q E h => absurd h (no vs H Q E), fun A outer s H args us vs Q E _ _ _ _ h => absurd h (no vs H Q E)⟩, m, F.kp, b⟩
theorem Has.mono {P : Program} {w : World} {K : PySem.W.Frag} {mg : Str → Option Value} {base : Heap} {j k : Nat} {x : Str} {ps : List Str} {sp : Sp} (h : Has P w K mg base j x ps sp) (l : j ≤ k) : Has P w K mg base k x ps sp := by
  obtain ⟨f, fd, F, r⟩ := h
  exact ⟨f, fd, F.mono l, r⟩
/-! ### further rules -/
section
variable {X : Cx}
/-- two derivations of one expression -/
theorem pe_alt {e : Expr} {t u : TE} (h1 : PE X e t) (h2 : PE X e u) : PE X e (fun σ H Q => t σ H Q ∨ u σ H Q) :=
  ⟨fun pins s σ H Q I h => h.elim (h1.run pins s σ H Q I) (h2.run pins s σ H Q I)⟩
/-- tuple(list): the new object is known to have no dict of its own -/
def rTupF (K : PySem.W.Frag) : List V → Hp → VK → Prop := fun xs H Q => ∃ p ys, xs = [.ref p] ∧ SqL K H p ys ∧ ∀ l o, H l = none → o.cls = .type "tuple" → o.dict = none → Q (.ref l) (upd H l (.frz o (.tup ys)))
theorem call_tupleF : CallR X (.type "tuple") (rTupF X.K) := by
  intro pins s σ H xs us Q I r h
  obtain ⟨p, ys, rfl, hq, q⟩ := h
  obtain ⟨u, rfl, rx⟩ := vals1 r
  cases rx
  obtain ⟨its, r', pl, hz⟩ := I.list hq
  have hlen := r'.length
  refine call_tuple_list pl.isList (fun h' kp => ?_) (by simp only [List.size_toArray] <;> omega)
  have I1 : Inv X pins σ H { s with heap := h' } := I.kept (t' := s.toks) kp
  have e1 : (h'.push { cls := .type "tuple", data := .seq its.toArray }).get? h'.objs.size = some { cls := .type "tuple", data := .seq its.toArray } := Heap.get?_push_size _ rfl
  have I2 : Inv X pins σ (upd H h'.objs.size (.frz { cls := .type "tuple", data := .seq its.toArray } (.tup ys))) { s with heap := h'.push { cls := .type "tuple", data := .seq its.toArray } } :=
    I1.laid (t' := s.toks) (fun b o e => Heap.get?_push_of_some _ e) (Nat.le_refl _) (show ObjOk X.prog X.w _ _ _ (.frz _ (.tup ys)) from ⟨e1, hz, its, r', IsTup.new _ _⟩)
  exact ⟨.ref h'.objs.size, _, I2, rfl, q _ _ (I1.hok.fresh (Nat.le_refl _)) rfl rfl⟩
/-- a method of a tuple that was made so -/
def tyF (x : V) (H : Hp) : Prop := ∃ p o xs, x = .ref p ∧ H p = some (.frz o (.tup xs)) ∧ o.cls = .type "tuple" ∧ o.dict = none
def tBMF (r : V → List V → Hp → VK → Prop) (to : TE) (t : TA) : TE := fun σ H Q => to σ H fun x H1 => tyF x H1 ∧ t σ H1 fun xs H2 => r x xs H2 Q
theorem pe_bmF {o e : Expr} {es : List Expr} {to : TE} {t : TA} {name : Str} {apos cpos : Pos} {id : String} {r : V → List V → Hp → VK → Prop}
    (pa : PlainAttrs "tuple") (slot : Slot "tuple" name id) (hty : typeOf (.builtin id) = pure (.type "method_descriptor")) (hm : MtR X id r) (ho : PE X o to) (ha : PA X (e :: es) t)
    (hbase : attributeBase o name X.env (eval o X.env) = eval o X.env := by rfl)
    (hfew : ((backTo cpos (starEach (e :: es) X.env)).all (fun x => !x.1) && (backToKw cpos (keywordEach [] X.env)).all (fun x => x.1.isSome)
      && decide ((e :: es).length + ([] : List Keyword).length + (if ([] : List Keyword).isEmpty then 0 else 1) < 30)) = true := by rfl)
    (hline : (apos.endLine == cpos.line) = true := by rfl) (hs : starEach (e :: es) X.env = (false, eval e X.env) :: starEach es X.env := by rfl) (hplain : (backTo cpos (starEach es X.env)).any (·.1) = false := by rfl) :
    PE X (.Call (.Attribute o name apos) (e :: es) [] cpos) (tBMF r to t) := by
  refine ⟨fun pins s σ H Q I h => ?_⟩
  refine wpAny_Call_method_late hbase hfew hline rfl (thn (ho.run pins s σ H _ I h) fun v s1 ⟨x, H1, I1, r1, ty, q1⟩ => ?_)
  obtain ⟨p, ob, ys, rfl, hp, hc, hd⟩ := ty
  obtain ⟨e1, _⟩ := I1.hok p _ hp
  cases r1
  refine ⟨"tuple", id, pa, slot, hty, ⟨ob, e1, hc⟩, fun a e => ?_, ?_⟩
  · cases e
    exact ⟨ob, e1, hd⟩
  have hA := ha.run cpos pins s1 σ H1 _ I1 q1
  rw [hs] at hA ⊢
  refine Calls.callWith_builtin (by show (false || (backTo cpos (starEach es X.env)).any (·.1)) = false; rw [hplain] <;> rfl) (Calls.evalArgs_plain ?_)
  exact thn hA fun us s2 ⟨vs, H2, I2, r2, q2⟩ => hm pins s2 σ H2 (.ref p) vs (.ref p) us Q I2 rfl r2 q2
/-- xs.index(y), xs a list or a tuple made by tuple(..) -/
theorem pe_index {o e : Expr} {to te : TE} {apos cpos : Pos} (ho : PE X o to) (he : PE X e te)
    (hbase : attributeBase o "index" X.env (eval o X.env) = eval o X.env := by rfl)
    (hfew : ((backTo cpos (starEach [e] X.env)).all (fun x => !x.1) && (backToKw cpos (keywordEach [] X.env)).all (fun x => x.1.isSome)
      && decide ([e].length + ([] : List Keyword).length + (if ([] : List Keyword).isEmpty then 0 else 1) < 30)) = true := by rfl)
    (hline : (apos.endLine == cpos.line) = true := by rfl) (hs : starEach [e] X.env = (false, eval e X.env) :: starEach [] X.env := by rfl) (hplain : (backTo cpos (starEach [] X.env)).any (·.1) = false := by rfl) :
    PE X (.Call (.Attribute o "index" apos) [e] [] cpos) (fun σ H Q =>
      tBM X.K "list" (rIndex X.K) to (tCons te tNil) σ H Q ∨
      tBMF (fun x xs H Q => ∃ p, ∃ ys : List Str, ∃ z j, x = .ref p ∧ xs = [.str z] ∧ SqT X.K H p (ys.map V.str) ∧ ys[j]? = some z ∧ (∀ m, m < j → ys[m]? ≠ some z) ∧ Q (.int (j : Nat)) H) to (tCons te tNil) σ H Q) :=
  pe_alt (pe_bm PySem.F.plainAttrs_list PySem.F.slot_list_index PySem.F.type_list_index mt_index ho (pa_cons he pa_nil (hs := hs)) hbase hfew hline hs hplain)
    (pe_bmF PySem.F.plainAttrs_tuple PySem.F.slot_tuple_index PySem.F.type_tuple_index mt_tup_index ho (pa_cons he pa_nil (hs := hs)) hbase hfew hline hs hplain)
end
/-! ### the rules that speak of the written part, for the element of a comprehension: the part is named -/
section
variable {X : Cx} {K : PySem.W.Frag}
theorem ix_listK (h : X.K = K) : IxR X (rIxL K) := h ▸ ix_list
theorem ix_tupK (h : X.K = K) : IxR X (rIxT K) := h ▸ ix_tup
theorem ix_seqK (h : X.K = K) : IxR X (rIx K) := h ▸ ix_seq
theorem op_in_seqK (h : X.K = K) : OpR X (compareOp .In) (rIn K false) := h ▸ op_in_seq
theorem op_notIn_seqK (h : X.K = K) : OpR X (compareOp .NotIn) (rIn K true) := h ▸ op_notIn_seq
theorem sl_listK (h : X.K = K) : SlR X (rSlL K) := h ▸ sl_list
theorem sl_tupK (h : X.K = K) : SlR X (rSlT K) := h ▸ sl_tup
theorem call_isiK' (h : X.K = K) : CallR X (.builtin "isinstance") (rIsi K) := h ▸ call_isi
theorem call_len_seqK (h : X.K = K) : CallR X (.builtin "len") (fun xs H Q => ∃ p ys, xs = [.ref p] ∧ (SqL K H p ys ∨ SqT K H p ys) ∧ Q (.int ys.length) H) := h ▸ call_len_seq
end
section
variable {X : Cx}
/-- two derivations of one walk -/
theorem pi_alt {tg e : Expr} {t u : TI} (h1 : PI X tg e t) (h2 : PI X tg e u) : PI X tg e (fun σ H R => t σ H R ∨ u σ H R) :=
  ⟨fun pins s σ H R I h => h.elim (h1.run pins s σ H R I) (h2.run pins s σ H R I)⟩
end
section
variable {X : Cx} {K : PySem.W.Frag}
theorem pi_listK {tg l : Expr} {tl : TE} (h : X.K = K) (hl : PE X l tl) : PI X tg l (iList K tl) := h ▸ pi_list hl
theorem pi_tupK {tg l : Expr} {tl : TE} (h : X.K = K) (hl : PE X l tl) : PI X tg l (iTup K tl) := h ▸ pi_tup hl
theorem call_list_ofK (h : X.K = K) : CallR X (.type "list") (fun xs H Q => ∃ p ys, xs = [.ref p] ∧ (SqL K H p ys ∨ SqT K H p ys) ∧ ∀ l, H l = none → Q (.ref l) (upd H l (.lst ys))) := h ▸ call_list_of
end
section
variable {X : Cx} {K : PySem.W.Frag}
theorem pg_tupK {es : List Expr} {k : Nat} {t : TGs} {n : Nat} {pos : Pos} (h : X.K = K) (hc : X.calm = true) (hp : PGs X es t)
    (hn : (assignEach es X.env).length = n := by rfl) (hst : (assignEach es X.env).findIdx? (·.1) = none := by rfl) : PG X (.Tuple es k pos) (gTup K n t) := h ▸ pg_tup hc hp hn hst
end
/-! ### heaps: everything but what stands at r is as it was -/
def Fr (r : Addr) (H H' : Hp) : Prop := ∀ b o, b ≠ r → H b = some o → H' b = some o
theorem Fr.refl (r : Addr) (H : Hp) : Fr r H H := fun _ _ _ h => h
theorem Fr.trans {r : Addr} {H H1 H2 : Hp} (a : Fr r H H1) (b : Fr r H1 H2) : Fr r H H2 := fun c o n h => b c o n (a c o n h)
theorem Fr.of {r : Addr} {H H' : Hp} (a : Same H H') : Fr r H H' := fun c o _ h => a c o h
theorem Fr.new {r p : Addr} {H : Hp} {o : HO} (h : H p = none) : Fr r H (upd H p o) := fun b u _ e => by
  rw [upd_ne (ne_of_none e h)]
  exact e
theorem Fr.upd {r : Addr} {H : Hp} {o : HO} : Fr r H (upd H r o) := fun b u n e => by
  rw [upd_ne n]
  exact e
theorem Fr.mut {r p : Addr} {H H' : Hp} {o : HO} (a : Fr r H H') (h : H p = none) : Fr r H (L2.upd H' p o) := fun b u n e => by
  rw [upd_ne (ne_of_none e h)]
  exact a b u n e
theorem Fr.seq {K : PySem.W.Frag} {r : Addr} {H H' : Hp} {a : Addr} {xs : List V} (e : Fr r H H') (n : a ≠ r) (h : SqL K H a xs) : SqL K H' a xs := by
  rcases h with (h | ⟨o, h⟩) | h
  · exact .inl (.inl (e _ _ n h))
  · exact .inl (.inr ⟨o, e _ _ n h⟩)
  · exact .inr h
theorem same_new {H : Hp} {p : Addr} {o : HO} (h : H p = none) : Same H (upd H p o) := fun b u e => by
  rw [upd_ne (ne_of_none e h)]
  exact e
theorem same_mut {H H' : Hp} {p : Addr} {o : HO} (a : Same H H') (h : H p = none) : Same H (upd H' p o) := fun b u e => by
  rw [upd_ne (ne_of_none e h)]
  exact a b u e
theorem same_back {H H' : Hp} {p : Addr} (e : Same H H') (h : H' p = none) : H p = none := e.free h
/-- what tuples stood, stands -/
def Tp (H H' : Hp) : Prop := ∀ b xs, H b = some (.tup xs) → H' b = some (.tup xs)
theorem Tp.refl (H : Hp) : Tp H H := fun _ _ h => h
theorem Tp.trans {H H1 H2 : Hp} (a : Tp H H1) (b : Tp H1 H2) : Tp H H2 := fun c o h => b c o (a c o h)
theorem tps {H H' : Hp} (a : Same H H') : Tp H H' := fun b xs h => a b _ h
theorem tpn {H : Hp} {p : Addr} {o : HO} (h : H p = none) : Tp H (upd H p o) := tps (same_new h)
/-! ### a reader: a list of three ints -/
def RD (H : Hp) (r : Addr) : Prop := ∃ c k d : Int, H r = some (.lst [.int c, .int k, .int d])
theorem RD.of {H H' : Hp} {r : Addr} (h : RD H r) (e : Same H H') : RD H' r := by
  obtain ⟨c, k, d, h⟩ := h
  exact ⟨c, k, d, e _ _ h⟩
theorem RD.ne {H : Hp} {r p : Addr} (h : RD H r) (n : H p = none) : p ≠ r := by
  obtain ⟨c, k, d, h⟩ := h
  exact fun e => by
    subst e
    rw [n] at h
    cases h
theorem Fr.tp {r : Addr} {H H' : Hp} (a : Fr r H H') (h : RD H r) : Tp H H' := fun b xs e => by
  refine a b _ (fun z => ?_) e
  subst z
  obtain ⟨c, k, d, h⟩ := h
  rw [h] at e
  cases e
theorem Fr.free {r p : Addr} {H H' : Hp} (a : Fr r H H') (h : RD H r) (h' : RD H' r) (n : H' p = none) : H p = none := by
  cases q : H p with
  | none => rfl
  | some o =>
    have z := a p o (h'.ne n) q
    rw [n] at z
    cases z
/-! ### items -/
theorem at_in {α : Type} {xs : List α} {i : Int} (h0 : 0 ≤ i) (h : i < (xs.length : Int)) : ∃ x, xs[i.toNat]? = some x ∧ atI xs i = some x := by
  obtain ⟨n, rfl⟩ := Int.eq_ofNat_of_zero_le h0
  have h1 : n < xs.length := by omega
  have h2 : xs[n]? = some xs[n] := List.getElem?_eq_getElem h1
  exact ⟨xs[n], by simpa using h2, atI_nat h2⟩
theorem int_of_bl {i j : Int} (h : decide (V.int i = V.int j) = true) : i = j := V.int.inj (of_decide_eq_true h)
theorem int_ne_bl {i j : Int} (h : ¬ decide (V.int i = V.int j) = true) : i ≠ j := fun e => h (decide_eq_true (congrArg V.int e))
theorem dec_t {p : Prop} [Decidable p] (h : decide p = true) : p := of_decide_eq_true h
theorem dec_f {p : Prop} [Decidable p] (h : ¬ decide p = true) : ¬ p := fun z => h (decide_eq_true z)
theorem mod_lt {i n : Int} (h : 0 < n) : 0 ≤ i % n ∧ i % n < n := ⟨Int.emod_nonneg i (by omega), Int.emod_lt_of_pos i h⟩
theorem cut_to (xs : List V) (n : Nat) : cutV xs none (some (n : Int)) = xs.take n := by
  unfold cutV
  rw [HT.sIx_none, show HT.sIx xs.length xs.length (some (n : Int)) = min n xs.length from HT.sIx_nat xs.length xs.length n, Nat.sub_zero, List.drop_zero]
  by_cases h : n ≤ xs.length
  · rw [Nat.min_eq_left h]
  · rw [Nat.min_eq_right (by omega), List.take_length, List.take_of_length_le (by omega)]
theorem cut_from (xs : List V) (n : Nat) : cutV xs (some (n : Int)) none = xs.drop n := by
  unfold cutV
  rw [HT.sIx_none, show HT.sIx xs.length 0 (some (n : Int)) = min n xs.length from HT.sIx_nat xs.length 0 n]
  by_cases h : n ≤ xs.length
  · rw [Nat.min_eq_left h]
    exact List.take_of_length_le (by rw [List.length_drop]; exact Nat.le_refl _)
  · rw [Nat.min_eq_right (by omega), Nat.sub_self, List.take_zero, List.drop_of_length_le (by omega)]
theorem cutS_len (z : Str) (lo hi : Option Int) : (cutS z lo hi).length ≤ z.length := by
  show (List.toArray _).size ≤ z.cps.size
  rw [List.size_toArray, List.length_take, List.length_drop, Array.length_toList]
  omega
theorem str_at {z : Str} {i : Int} (h0 : 0 ≤ i) (h : i < (z.length : Int)) : ∃ c, atI z.cps.toList i = some c := by
  obtain ⟨c, _, e⟩ := at_in (xs := z.cps.toList) h0 (by rw [Array.length_toList]; exact h)
  exact ⟨c, e⟩
/-- what stood before r was laid -/
theorem Fr.back {r : Addr} {H0 H H' : Hp} (f : Fr r H H') (s : Same H0 H) (n : H0 r = none) : Same H0 H' := fun b o e => f b o (ne_of_none e n) (s b o e)
/-! ### texts of true signs -/
theorem sok_iff {x : Str} : PyData.strOk x = true ↔ ∀ c ∈ x.cps.toList, c < 0x110000 := by
  unfold PyData.strOk
  rw [← Array.all_toList, List.all_eq_true]
  constructor
  · intro h c hc
    exact of_decide_eq_true (h c hc)
  · intro h c hc
    exact decide_eq_true (h c hc)
theorem sok_app {x y : Str} (hx : PyData.strOk x = true) (hy : PyData.strOk y = true) : PyData.strOk (x ++ y) = true := by
  rw [sok_iff] at hx hy ⊢
  intro c hc
  have e : (x ++ y).cps.toList = x.cps.toList ++ y.cps.toList := Array.toList_append
  rw [e] at hc
  rcases List.mem_append.mp hc with h | h
  · exact hx c h
  · exact hy c h
theorem atI_mem {α : Type} {xs : List α} {i : Int} {x : α} (h : atI xs i = some x) : x ∈ xs := by
  unfold atI at h
  cases e : ixN xs.length i with
  | none => rw [e] at h; cases h
  | some j =>
    rw [e] at h
    exact List.mem_of_getElem? (show xs[j]? = some x from h)
theorem sok_one {z : Str} {i : Int} {c : Nat} (h : atI z.cps.toList i = some c) (hz : PyData.strOk z = true) : PyData.strOk ⟨#[c]⟩ = true := by
  rw [sok_iff] at hz ⊢
  intro d hd
  have e : d = c := by simpa using hd
  subst e
  exact hz d (atI_mem h)
theorem sok_cut {z : Str} {lo hi : Option Int} (hz : PyData.strOk z = true) : PyData.strOk (cutS z lo hi) = true := by
  rw [sok_iff] at hz ⊢
  intro d hd
  have e : d ∈ (z.cps.toList.drop (HT.sIx z.length 0 lo)).take (HT.sIx z.length z.length hi - HT.sIx z.length 0 lo) := by simpa [cutS] using hd
  exact hz d (List.mem_of_mem_drop (List.mem_of_mem_take e))
theorem one_len (c : Nat) : (⟨#[c]⟩ : Str).length = 1 := rfl
theorem app_len (x y : Str) : (x ++ y).length = x.length + y.length := by
  show (x.cps ++ y.cps).size = _
  rw [Array.size_append]
  rfl
theorem line_small {n : Nat} (h : n ≤ 100000) : n ≤ sizeLine := Nat.le_trans h (by decide)
theorem map_at {α β : Type} {f : α → β} {xs : List α} {j : Nat} {x : α} (h : xs[j]? = some x) : (xs.map f)[j]? = some (f x) := by
  rw [List.getElem?_map, h]
  rfl
/-! ### rules for what is never reached -/
section
variable {X : Cx}
theorem pe_never {e : Expr} : PE X e (fun _ _ _ => False) := ⟨fun _ _ _ _ _ _ h => h.elim⟩
theorem pt_never {e : Expr} : PT X e (fun _ _ _ => False) := ⟨fun _ _ _ _ _ _ h => h.elim⟩
theorem pi_never {tg e : Expr} : PI X tg e (fun _ _ _ => False) := ⟨fun _ _ _ _ _ _ h => h.elim⟩
end
/-! ### an iterator that hands out new tuples, told at each turn by the library's own walk of it -/
section
variable {P : Program} {w : World} {K : PySem.W.Frag}
theorem turn_new {elts : List Expr} {kk : Nat} {tpos : Pos} {J : It} {fp : List Addr} {it : Addr} {tn : Nat → Heap → Prop} (mem : it ∈ fp)
    (live : ∀ i h, tn i h → ∀ b ∈ fp, ∃ o, h.get? b = some o ∧ ∀ v, o.data ≠ .cell v) (keep : ∀ i h h', tn i h → (∀ b ∈ fp, ∀ o, h.get? b = some o → h'.get? b = some o) → tn i h')
    (tell : ∀ (X : Cx), X.prog = P → X.w = w → X.K = K → X.calm = true → ∀ (i : Nat) (pins : List (Addr × Obj)) (s : Shared) (σ : L2.St) (H : Hp), Inv X pins σ H s → tn i s.heap → (J.go i H ∨ J.stop i H) →
      ∃ (fw wr : List Addr) (n : Nat) (Pt : Nat → Array Value → Prop) (Z : Nat → Heap → Prop) (Mid : Nat → Addr → Heap → Prop), WalksT P w X.A it fw wr n Pt Z Mid ∧ (∀ b ∈ wr, b ∈ fp) ∧ Z i s.heap ∧ (J.go i H → i < n) ∧ (J.stop i H → i = n) ∧ (∀ h', Z (i + 1) h' → tn (i + 1) h') ∧
        ∀ vals, Pt i vals → ∃ xs : List V, Vals xs vals.toList ∧ xs.length ≤ sizeLine ∧ ∀ T, H T = none → J.yld i H (.ref T) (upd H T (.tup xs)))
    (self : ∀ (A : Around) (i : Nat) (s : Shared) (Q : Value → Shared → Prop) (E : Value → Shared → Prop), tn i s.heap → Q (.ref it) s → wpAny (model P w) A (pyIter (.ref it)) Q E s) :
    Turn P w K (.Tuple elts kk tpos) J fp it tn where
  mem := mem
  obj := live
  keep := keep
  self := self
  item := by
    intro X eP ew eK hc i pins s σ H E I hf ht hg
    obtain ⟨fw, wr, n, Pt, Z, Mid, W, sub, z0, hi, _, back, data⟩ := tell X eP ew eK hc i pins s σ H I ht (.inl hg)
    subst eP ew eK
    refine W.item i s _ E (hi hg) z0 fun T vals h1 tk hp le hT hm f1 => ⟨_, rfl, ?_⟩
    refine W.go elts kk tpos i T { s with heap := h1, toks := tk } _ E hm fun h2 z2 f2 => ?_
    obtain ⟨xs, rv, hl, hy⟩ := data vals hp
    have free : H T = none := I.hok.fresh le
    have hT2 : h2.IsTuple T vals := hT.at fun o e => f2 T o (W.apart i T h1 hm) e
    have nw : ObjOk X.prog X.w (upd H T (.tup xs)) h2 T (.tup xs) := ⟨hl, vals.toList, rv, hT2⟩
    refine ⟨.ref T, upd H T (.tup xs), I.turnedNew (ch := fp) (t' := tk) (fun b o hb e => f2 b o (fun m => hb (sub b m)) (f1 b o (fun m => hb (sub b m)) e)) hf le nw, rfl, hy T free, back h2 z2, fun b hb => ?_⟩
    obtain ⟨o, ho, _⟩ := live i s.heap ht b hb
    rw [upd_ne (Nat.ne_of_lt (Nat.lt_of_lt_of_le (Heap.lt_size ho) le))]
    exact (hf b hb).1
  done := by
    intro X eP ew eK hc i pins s σ H E I hf ht hg
    obtain ⟨fw, wr, n, Pt, Z, Mid, W, sub, z0, _, hn, _, _⟩ := tell X eP ew eK hc i pins s σ H I ht (.inr hg)
    subst eP ew eK
    have e := hn hg
    subst e
    exact W.done s _ E z0 fun h1 tk f1 => ⟨rfl, I.turnedL (ch := fp) (t' := tk) (fun b o hb e => f1 b o (fun m => hb (sub b m)) e) hf⟩
end
theorem vals_back : ∀ {xs : List V} {us : List Value} {i : Nat} {u : Value}, Vals xs us → us[i]? = some u → ∃ x, xs[i]? = some x ∧ RelV x u
  | _, _, _, _, .nil, h => by simp at h
  | _, _, 0, _, .cons r _, h => by
    cases h
    exact ⟨_, rfl, r⟩
  | _, _, i + 1, _, .cons _ t, h => vals_back (i := i) t h
/-! ### enumerate(x), one argument, whatever begins an iterator -/
theorem meets_enum1 {x : Value} {ob : Obj} {Hh : Heap → Prop} (B : Begins x ob Hh) :
    Meets (Builtin.«enumerate.__new__» ⟨[.type "enumerate", x], []⟩) (fun _ R s => Hh s.heap ∧ R (.ok (.ret (.ref (s.heap.push ob).objs.size)))
      { s with heap := (s.heap.push ob).push { cls := .type "enumerate", data := .fields #[.none, .bool false, .ref s.heap.objs.size, rawInt 0, .none, .none] } }) :=
  .of_wp fun pr wd ar post st both => by
    obtain ⟨hp, gens, drawn, toks, os⟩ := st
    obtain ⟨hb, both⟩ := both
    have hsub := sub_enumerate
    have go : ∀ {A' : Around} {E : Value → Shared → Prop} {Q : Value → Shared → Prop}, Q (.ref hp.objs.size) ⟨hp.push ob, gens, drawn, toks, os⟩ → wpAny (model pr wd) A' (pyIter x) Q E ⟨hp, gens, drawn, toks, os⟩ :=
      fun {A' E Q} z => B.iter pr wd A' E ⟨hp, gens, drawn, toks, os⟩ Q hb z
    wp_walk using go
    refine wpAny_stack_any fun st => wpAny_pure ?_
    split
    · rename_i cl _ _ _ _ _
      cases (cl == Value.type "enumerate") <;> (wp_walk using go; exact ⟨_, rfl, both⟩)
    · wp_walk using go
      exact ⟨_, rfl, both⟩
section
variable {prog : Program} {w : World} {A : Around} {E : Value → Shared → Prop} {s : Shared}
theorem call_enum1 {x : Value} {ob : Obj} {Hh : Heap → Prop} {Q : Value → Shared → Prop} (B : Begins x ob Hh) (hb : Hh s.heap)
    (k : ∀ h', IsEnum h' (s.heap.objs.size + 1) s.heap.objs.size (0 + ((0 : Nat) : Int)) .none → h'.get? s.heap.objs.size = some ob → h'.objs.size = s.heap.objs.size + 2 → (∀ b o, s.heap.get? b = some o → h'.get? b = some o) → Q (.ref (s.heap.objs.size + 1)) { s with heap := h' }) :
    wpAny (model prog w) A (call (.type "enumerate") [x]) Q E s := by
  refine callType_new F.called_enumerate (by decide) (F.typeCall_enumerate_1 _) (F.newCall_enumerate_1 _) (fun o => F.args_object_init_2 o _) F.entry_enumerate_new (meets_enum1 B) ⟨hb, ?_⟩
  have z1 : (s.heap.push ob).objs.size = s.heap.objs.size + 1 := by rw [Heap.size_push]
  have top := Heap.get?_push_size (s.heap.push ob) (o := { cls := .type "enumerate", data := .fields #[.none, .bool false, .ref s.heap.objs.size, rawInt 0, .none, .none] }) rfl
  show _ ∧ _
  rw [z1] at top ⊢
  exact ⟨⟨_, top, rfl⟩, k _ top (Heap.get?_push_of_some _ (Heap.get?_push_size _ B.free)) (by rw [Heap.size_push, z1]) fun b o e => Heap.get?_push_of_some _ (Heap.get?_push_of_some _ e)⟩
end
/-! ### enumerate of a tuple -/
section
variable {P : Program} {w : World} {K : PySem.W.Frag}
def ItEnT (K : PySem.W.Frag) (a : Addr) (n : Nat) : It :=
  ⟨fun i H => i < n ∧ ∃ xs, SqT K H a xs ∧ xs.length = n, fun i H v H' => ∃ T x, v = .ref T ∧ H T = none ∧ H' = upd H T (.tup [.int (i : Nat), x]) ∧ ∀ xs, SqT K H a xs → xs[i]? = some x, fun i H => i = n ∧ ∃ xs, SqT K H a xs ∧ xs.length = n⟩
theorem turn_enT {elts : List Expr} {kk : Nat} {tpos : Pos} {a e it : Addr} {n : Nat} (hne : e ≠ it) (hei : a ≠ it) (hea : e ≠ a) :
    Turn P w K (.Tuple elts kk tpos) (ItEnT K a n) [e, it] e (fun i h => (∃ old, IsEnum h e it (0 + ((i : Nat) : Int)) old) ∧ h.IsTupleIter it a i) := by
  refine turn_new (by simp) (fun i h st b hb => ?_) (fun i h h' st k => ?_) (fun X eP ew eK hc i pins s σ H I st go => ?_) (fun A i s Q E st h => let ⟨⟨_, he⟩, _⟩ := st; wpAny_pyIter_enum he h)
  · obtain ⟨⟨old, he⟩, o, ho, hcl, hd⟩ := st
    have q : b = e ∨ b = it := by simpa using hb
    rcases q with rfl | rfl
    · exact ⟨_, he, fun v z => nomatch z⟩
    · exact ⟨o, ho, fun v z => by rw [hd] at z; cases z⟩
  · obtain ⟨⟨old, he⟩, hi⟩ := st
    exact ⟨⟨old, k e (by simp) _ he⟩, hi.at fun o z => k it (by simp) o z⟩
  · obtain ⟨⟨old, he⟩, hi⟩ := st
    obtain ⟨xs, hq, hl⟩ : ∃ xs, SqT K H a xs ∧ xs.length = n := by
      rcases go with g | g
      · exact g.2
      · exact g.2
    subst eP ew eK
    obtain ⟨its, rv, tp, hz⟩ := I.tuple hq
    have hh : X.A.in1.handled = none := I.ok.hd hc
    have sz : its.toArray.size = n := by rw [List.size_toArray, ← rv.length, hl]
    have hef : e ∉ [it, a] := fun m => by
      have q : e = it ∨ e = a := by simpa using m
      exact q.elim hne hea
    refine ⟨_, _, n, _, _, _, (sz ▸ WalksT.enumFrom 0 (Draws.tuple hh it a hei its.toArray) e hne hef (by simp)), fun b hb => hb, ⟨⟨old, he⟩, hi, tp⟩, fun g => g.1, fun g => g.1, fun h' z => ⟨z.1, z.2.1⟩, ?_⟩
    · rintro vals ⟨t, u, hu, rfl⟩
      have hu' : its[i]? = some u := by simpa using hu
      obtain ⟨x, hx, rx⟩ := vals_back rv hu'
      refine ⟨[.int (i : Nat), x], .cons ⟨t, by simp⟩ (.cons rx .nil), by show 2 ≤ sizeLine; decide, fun T nT => ⟨T, x, rfl, nT, rfl, fun ys hy => ?_⟩⟩
      rw [I.tuple_inj hy hq]
      exact hx
def iEnT (K : PySem.W.Frag) (ta : TA) : TI := fun σ H R => ta σ H fun vs H1 => ∃ a xs, vs = [.ref a] ∧ SqT K H1 a xs ∧ R (ItEnT K a xs.length) H1
theorem pi_enT {X : Cx} {e : Expr} {ta : TA} {p pos tpos : Pos} {elts : List Expr} {kk : Nat} (hg : Gl X "enumerate") (hm : X.mg "enumerate" = none) (ha : PA X [e] ta) (hs : starEach [e] X.env = [(false, eval e X.env)] := by rfl) :
    PI X (.Tuple elts kk tpos) (.Call (.Name "enumerate" p) [e] [] pos) (iEnT X.K ta) := by
  refine ⟨fun pins s σ H R I h => ?_⟩
  refine Call_ (ld_blt I hg hm boot_enumerate (PyProof.Rows.callWith_type1 (thn (ha.run pos pins s σ H _ I h) fun us s1 ⟨vs, H1, I1, r1, q1⟩ => ?_) hs rfl))
  obtain ⟨a, xs, rfl, hq, q⟩ := q1
  obtain ⟨u, rfl, ru⟩ := vals1 r1
  cases ru
  obtain ⟨its, rv, tp, hz⟩ := I1.tuple hq
  obtain ⟨oa, hoa, _⟩ := id tp
  have la : a < s1.heap.objs.size := Heap.lt_size hoa
  refine call_enum1 (begins_tuple a its.toArray) tp fun h' he hi hsz hk => wpAny_pyIter_enum he ?_
  refine ⟨s1.heap.objs.size + 1, [s1.heap.objs.size + 1, s1.heap.objs.size], _, _, H1, rfl, I1.kept (t' := s1.toks) hk, turn_enT (Nat.succ_ne_self _) (Nat.ne_of_lt la) (Nat.ne_of_gt (Nat.lt_succ_of_lt la)), ⟨⟨.none, he⟩, ⟨_, hi, rfl, rfl⟩⟩, fun b hb => ?_, q⟩
  have q2 : b = s1.heap.objs.size + 1 ∨ b = s1.heap.objs.size := by simpa using hb
  have le : s1.heap.objs.size ≤ b := by
    rcases q2 with z | z
    · rw [z]; exact Nat.le_succ _
    · rw [z]; exact Nat.le_refl _
  exact I1.fpOk le (I1.hok.fresh le)
theorem walk_enT {a : Addr} {xs : List V} : Walk (ItEnT K a xs.length) xs.length (fun H => SqT K H a xs) (YPair (fun i => some (.int (i : Nat))) (fun i => xs[i]?)) :=
  ⟨fun i H hi q => ⟨hi, xs, q, rfl⟩, fun H q => ⟨rfl, xs, q, rfl⟩, fun i H v H' hi q y => by
    obtain ⟨T, x, e1, e2, e3, e4⟩ := y
    exact ⟨T, _, x, e1, e2, e3, rfl, e4 xs q⟩⟩
end
/-! ### zip of a list and a tuple -/
section
variable {P : Program} {w : World} {K : PySem.W.Frag}
def LT (K : PySem.W.Frag) (a b : Addr) (n : Nat) (H : Hp) : Prop := ∃ xs ys, SqL K H a xs ∧ SqT K H b ys ∧ min xs.length ys.length = n
def ItZiM (K : PySem.W.Frag) (a b : Addr) (n : Nat) : It :=
  ⟨fun i H => i < n ∧ LT K a b n H, fun i H v H' => ∃ T x y, v = .ref T ∧ H T = none ∧ H' = upd H T (.tup [x, y]) ∧ (∀ xs, SqL K H a xs → xs[i]? = some x) ∧ ∀ ys, SqT K H b ys → ys[i]? = some y, fun i H => i = n ∧ LT K a b n H⟩
theorem turn_ziM {elts : List Expr} {kk : Nat} {tpos : Pos} {z TI TO i1 i2 a b : Addr} {n : Nat} (S : ZipSep2 z TI TO i1 i2 [i1, a] [i2, b]) (na : a ≠ i1) (nb : b ≠ i2) :
    Turn P w K (.Tuple elts kk tpos) (ItZiM K a b n) [z, TI, TO, i1, i2] z (fun i h => IsZip h z TI TO .none ∧ IsTupOf2 h TI (.ref i1) (.ref i2) ∧ (∃ x y, IsTupOf2 h TO x y) ∧ h.IsListIter i1 a i ∧ h.IsTupleIter i2 b i) := by
  refine turn_new (by simp) (fun i h st c hc => ?_) (fun i h h' st k => ?_) (fun X eP ew eK hc i pins s σ H I st go => ?_) (fun A i s Q E st h => wpAny_pyIter_zip st.1 h)
  · obtain ⟨g0, g1, ⟨x, y, g2⟩, ⟨o1, e1, _, d1⟩, o2, e2, _, d2⟩ := st
    have q : c = z ∨ c = TI ∨ c = TO ∨ c = i1 ∨ c = i2 := by simpa using hc
    rcases q with rfl | rfl | rfl | rfl | rfl
    · exact ⟨_, g0, fun v r => nomatch r⟩
    · exact ⟨_, g1, fun v r => nomatch r⟩
    · exact ⟨_, g2, fun v r => nomatch r⟩
    · exact ⟨o1, e1, fun v r => by rw [d1] at r; cases r⟩
    · exact ⟨o2, e2, fun v r => by rw [d2] at r; cases r⟩
  · obtain ⟨g0, g1, ⟨x, y, g2⟩, g3, g4⟩ := st
    exact ⟨k z (by simp) _ g0, k TI (by simp) _ g1, ⟨x, y, k TO (by simp) _ g2⟩, g3.at fun o r => k i1 (by simp) o r, g4.at fun o r => k i2 (by simp) o r⟩
  · obtain ⟨g0, g1, g2, g3, g4⟩ := st
    obtain ⟨xs, ys, hx, hy, hl⟩ : LT K a b n H := by
      rcases go with g | g
      · exact g.2
      · exact g.2
    subst eP ew eK
    obtain ⟨us, rx, px, _⟩ := I.list hx
    obtain ⟨ws, ry, py, _⟩ := I.tuple hy
    have hh : X.A.in1.handled = none := I.ok.hd hc
    have sz : min us.toArray.size ws.toArray.size = n := by rw [List.size_toArray, List.size_toArray, ← rx.length, ← ry.length, hl]
    refine ⟨_, _, n, _, _, _, (sz ▸ WalksT.zipD2 S (Draws.list hh i1 a na us.toArray) (Draws.tuple hh i2 b nb ws.toArray)), fun c hc => ?_, ⟨g0, g1, g2, ⟨g3, px.isList⟩, g4, py⟩, fun g => g.1, fun g => g.1, fun h' r => ⟨r.1, r.2.1, r.2.2.1, r.2.2.2.1.1, r.2.2.2.2.1⟩, ?_⟩
    · have q : c = z ∨ c = TO ∨ c = i1 ∨ c = i2 := by simpa using hc
      rcases q with rfl | rfl | rfl | rfl <;> simp
    · rintro vals ⟨u, v, hu, hv, rfl⟩
      have hu' : us[i]? = some u := by simpa using hu
      have hv' : ws[i]? = some v := by simpa using hv
      obtain ⟨x, ex, kx⟩ := vals_back rx hu'
      obtain ⟨y, ey, ky⟩ := vals_back ry hv'
      refine ⟨[x, y], .cons kx (.cons ky .nil), by show 2 ≤ sizeLine; decide, fun T nT => ⟨T, x, y, rfl, nT, rfl, fun l hl => ?_, fun l hl => ?_⟩⟩
      · rw [I.list_inj hl hx]
        exact ex
      · rw [I.tuple_inj hl hy]
        exact ey
def iZiM (K : PySem.W.Frag) (ta : TA) : TI := fun σ H R => ta σ H fun vs H1 => ∃ a b xs ys, vs = [.ref a, .ref b] ∧ SqL K H1 a xs ∧ SqT K H1 b ys ∧ R (ItZiM K a b (min xs.length ys.length)) H1
theorem pi_ziM {X : Cx} {e e2 : Expr} {ta : TA} {p pos tpos : Pos} {elts : List Expr} {kk : Nat} (hg : Gl X "zip") (hm : X.mg "zip" = none) (ha : PA X [e, e2] ta)
    (hs : starEach [e, e2] X.env = (false, eval e X.env) :: starEach [e2] X.env := by rfl) (hpl : (backTo pos (starEach [e2] X.env)).any (·.1) = false := by rfl) : PI X (.Tuple elts kk tpos) (.Call (.Name "zip" p) [e, e2] [] pos) (iZiM X.K ta) := by
  refine ⟨fun pins s σ H R I h => ?_⟩
  refine Call_ (ld_blt I hg hm PyProof.Rows.boot_zip (PyProof.Rows.callWith_type1 (thn (ha.run pos pins s σ H _ I h) fun us s1 ⟨vs, H1, I1, r1, q1⟩ => ?_) hs hpl))
  obtain ⟨a, b, xs, ys, rfl, hx, hy, q⟩ := q1
  obtain ⟨u, v, rfl, ru, rv⟩ := vals2 r1
  cases ru
  cases rv
  obtain ⟨is, rx, px, _⟩ := I1.list hx
  obtain ⟨js, ry, py, _⟩ := I1.tuple hy
  obtain ⟨ob, hob, _⟩ := id py
  have la : a < s1.heap.objs.size := px.lt
  have lb : b < s1.heap.objs.size := Heap.lt_size hob
  refine zip_begins2 (begins_list a is.toArray) (begins_tuple b js.toArray) px.isList py fun h' g0 g1 g2 k1 k2 sz kp => wpAny_pyIter_zip g0 ?_
  have sep := zip_sep2 (N := s1.heap.objs.size) (fp1 := [a]) (fp2 := [b]) (fun c hc => by rw [List.mem_singleton.mp hc]; exact la) (fun c hc => by rw [List.mem_singleton.mp hc]; exact lb)
  refine ⟨s1.heap.objs.size + 4, [s1.heap.objs.size + 4, s1.heap.objs.size + 2, s1.heap.objs.size + 3, s1.heap.objs.size, s1.heap.objs.size + 1], _, _, H1, rfl, I1.kept (t' := s1.toks) kp, turn_ziM sep (Nat.ne_of_lt la) (Nat.ne_of_lt (Nat.lt_succ_of_lt lb)), ⟨g0, g1, ⟨_, _, g2⟩, ⟨_, k1, rfl, rfl⟩, _, k2, rfl, rfl⟩, fun c hc => ?_, q⟩
  have r : c = s1.heap.objs.size + 4 ∨ c = s1.heap.objs.size + 2 ∨ c = s1.heap.objs.size + 3 ∨ c = s1.heap.objs.size ∨ c = s1.heap.objs.size + 1 := by simpa using hc
  have le : s1.heap.objs.size ≤ c := by rcases r with e | e | e | e | e <;> rw [e] <;> first | exact Nat.le_refl _ | exact Nat.le_add_right _ _
  exact I1.fpOk le (I1.hok.fresh le)
theorem walk_ziM {a b : Addr} {xs ys : List V} : Walk (ItZiM K a b (min xs.length ys.length)) (min xs.length ys.length) (fun H => SqL K H a xs ∧ SqT K H b ys) (YPair (fun i => xs[i]?) (fun i => ys[i]?)) :=
  ⟨fun i H hi q => ⟨hi, xs, ys, q.1, q.2, rfl⟩, fun H q => ⟨rfl, xs, ys, q.1, q.2, rfl⟩, fun i H v H' hi q y => by
    obtain ⟨T, x, u, e1, e2, e3, e4, e5⟩ := y
    exact ⟨T, x, u, e1, e2, e3, e4 xs q.1, e5 ys q.2⟩⟩
end
/-! ### o.f as a target among others -/
section
variable {X : Cx}
def gFld (K : PySem.W.Frag) (to : TE) (f : Str) : TG := fun v σ H Q => to σ H fun x H1 => ∃ a C dx fs, x = .ref a ∧ H1 a = some (.ins C dx fs) ∧ Cls K C ∧ NoAttr K C f ∧ fs.length < 1000 ∧ Q σ (upd H1 a (.ins C dx (putF f v fs)))
theorem pg_fld {o : Expr} {to : TE} {f : Str} {pos : Pos} (ho : PE X o to) : PG X (.Attribute o f pos) (gFld X.K to f) := by
  refine ⟨fun pins s σ H v u Q I r h => ?_⟩
  rw [assign_Attribute]
  refine wpAny_bind (wpAny_holding (thn (ho.run pins s σ H _ I h) fun ov s1 ⟨x, H1, I1, r1, a, C, dx, fs, e1, e2, c, n, l, q⟩ => ?_))
  subst e1
  obtain rfl : ov = Value.ref a := r1
  refine wpAny_bind (wpAny_standAt (wpAny_bind (wpAny_holding (setattr_ok I1 e2 c n l r fun s2 I2 => ?_))))
  exact wpAny_release ⟨σ, _, I2, q⟩
end
section
variable {X : Cx} {K : PySem.W.Frag}
theorem pi_ziMK {e e2 : Expr} {ta : TA} {p pos tpos : Pos} {elts : List Expr} {kk : Nat} (h : X.K = K) (hg : Gl X "zip") (hm : X.mg "zip" = none) (ha : PA X [e, e2] ta)
    (hs : starEach [e, e2] X.env = (false, eval e X.env) :: starEach [e2] X.env := by rfl) (hpl : (backTo pos (starEach [e2] X.env)).any (·.1) = false := by rfl) : PI X (.Tuple elts kk tpos) (.Call (.Name "zip" p) [e, e2] [] pos) (iZiM K ta) := h ▸ pi_ziM hg hm ha hs hpl
end
/-! ### a comprehension's block that captures nothing -/
def blkNF (N : List Str) (scope : Scope) (own : List (Str × Nat)) : Bool := blkC N { scope with names := [] } scope own && scope.names.all fun y => match y.2 with | .free => false | _ => true
theorem blkOk_nf {N : List Str} {sc scope : Scope} {own : List (Str × Nat)} (h : blkNF N scope own = true) : BlkOk N sc scope own := by
  unfold blkNF at h
  rw [Bool.and_eq_true] at h
  obtain ⟨k1, k2, k3, k4, k5⟩ := blkOk_by h.1
  refine ⟨k1, k2, k3, fun y hy e => ?_, k5⟩
  have q := List.all_eq_true.mp h.2 y hy
  rw [e] at q
  cases q
section
variable {X : Cx} {K : PySem.W.Frag}
theorem op_catAK (h : X.K = K) : OpR X (binaryOp .Add) (rCatA K) := h ▸ op_catA
theorem sl_tupAK (h : X.K = K) : SlR X (rSlA K) := h ▸ sl_tupA
end
/-! ### a tuple of texts that the top wrote -/
def KTup (K : PySem.W.Frag) (a : Addr) (xs : List V) : Prop := ∃ (o : Obj) (its : Array Value) (n : Nat), K.lookup a = some o ∧ o.cls = .type "tuple" ∧ o.data = .seq its n ∧ its.size ≤ sizeLine ∧ Vals xs its.toList
theorem KTup.seq {K : PySem.W.Frag} {a : Addr} {xs : List V} {H : Hp} (h : KTup K a xs) : SqT K H a xs := .inr h
def strB : List Value → List Str → Bool
  | [], [] => true
  | .str x _ :: us, y :: ys => x == y && strB us ys
  | _, _ => false
def tupB (o : Obj) (ws : List Str) : Bool := o.cls == .type "tuple" && match o.data with
  | .seq its _ => strB its.toList ws && decide (its.size ≤ 1000)
  | _ => false
theorem strB_ok : ∀ {us : List Value} {ws : List Str}, strB us ws = true → Vals (ws.map V.str) us
  | [], [], _ => .nil
  | .str x t :: us, y :: ys, h => by
    unfold strB at h
    rw [Bool.and_eq_true] at h
    have e := eq_of_beq h.1
    subst e
    exact .cons ⟨t, rfl⟩ (strB_ok h.2)
  | [], _ :: _, h => by cases h
  | .none :: _, _, h => by cases h
theorem ktup_by {K : PySem.W.Frag} {a : Addr} {o : Obj} {ws : List Str} (h : K.lookup a = some o) (b : tupB o ws = true) : KTup K a (ws.map V.str) := by
  unfold tupB at b
  rw [Bool.and_eq_true] at b
  obtain ⟨b1, b2⟩ := b
  split at b2
  · rename_i its n e
    rw [Bool.and_eq_true] at b2
    exact ⟨o, its, n, h, eq_of_beq b1, e, Nat.le_trans (of_decide_eq_true b2.2) (by decide), strB_ok b2.1⟩
  · cases b2
open NdefX
/-! ### an error class whose __init__ hands a text to the class above it and keeps its argument -/
section
open NdefX PySem.W
/-- what an f-string may hold -/
def Fmt (y : V) : Prop := (∃ z : Str, y = .str z ∧ z.length ≤ 100000) ∨ ∃ i : Int, y = .int i ∧ i.natAbs < 2 ^ 64
/-- the promise of such an __init__: the field is set -/
def spInit (C : Addr) (fld : Str) : Sp := fun vs H Q _ => ∃ (a : Addr) (y : V), vs = [.ref a, y] ∧ Fmt y ∧ H a = some (exo a C none) ∧
  ∀ dx, H dx = none → dx ≠ a → Q .non (upd (upd H dx (exd dx [(fld, y)])) a (exo a C (some dx)))
/-- the scope of such an __init__ -/
abbrev initSc (par : Str) : Scope := { kind := .function, names := [("self", .local), (par, .local), ("__class__", .free), ("super", .globalImplicit)], isGenerator := false, isCoroutine := false, more := [] }
/-- the written part, as far as it speaks of the class and its __init__ -/
structure InitK (P : Program) (K : PySem.W.Frag) (mg : Str → Option Value) (f cc cda C : Addr) (qual : Str) (params : Arguments) (body : List Stmt) (fd : FuncData) (par fld : Str) : Prop where
  ex : ∃ (oc : Value) (od : Option Addr) (osl : Array (Option Value)) (dV kV doc pm ct : Value) (an : Option Addr), fd = PySem.W.fnX "__init__" qual params body (initSc par) [("__class__", cc)] dV kV doc pm an (.ref cda) ct ∧ K.lookup f = some ⟨oc, od, .func fd, osl⟩
  code : PySem.W.codeIn K (.ref cda) qual = true
  file : ∃ (oc : Value) (od : Option Addr) (vs : Array Value) (sl : Array (Option Value)) (file : Str) (tf : Tok), K.lookup cda = some ⟨oc, od, .fields vs, sl⟩ ∧ vs[2]? = some (.str file tf) ∧ (P.main.file == file) = true
  cell : ∃ (oc : Value) (od : Option Addr) (sl : Array (Option Value)), K.lookup cc = some ⟨oc, od, .cell (some (.ref C)), sl⟩
  cls : OexC K C
  me : PySem.W.mroIn K C (.ref C) = some true
  up : PySem.W.ks_superIn K C C "__init__" = some (some (.builtin "ValueError.__init__"))
  ve : PySem.W.subIn K (.ref C) (.type "ValueError") = some true
  opq : PySem.W.nsIn K cStatics "thirdparty.any" = some none
  fld : PySem.W.findIn K (.ref C) fld = some none
  zsup : mg "super" = none
  self : (params.posonlyargs ++ params.args).head?.map (·.arg) = some "self"
  top : (P.main.scope.names.lookup ("super" : Str)).isSome = false
structure InitS (par : Str) : Prop where
  n : NScope ["self", par, "__class__"] ["self", par] ["__class__"] (initSc par)
  sup : (initSc par).names.lookup ("super" : Str) = some .globalImplicit
  cls : (initSc par).names.lookup ("__class__" : Str) = some .free
  vself : (initSc par).names.lookup ("self" : Str) = some .local
  vpar : (initSc par).names.lookup par = some .local
  d1 : (par == ("__debug__" : Str)) = false
  d2 : (par == ("__classdict__" : Str)) = false
variable {CX : CXT} {P : Program} {w : World} {K : PySem.W.Frag} {mg : Str → Option Value} {base : Heap} {k : Nat} {f cc cda C : Addr} {qual : Str} {params : Arguments} {fd : FuncData} {par fld : Str}
  {p0 p1 p2 p3 p4 q0 q1 q2 q3 : Pos} {fs : Expr} {tfs : TE}
/-- the function, as HandS names it -/
abbrev initF (qual : Str) (params : Arguments) (body : List Stmt) (par : Str) (cc cda : Addr) : NF := { name := "__init__", qual := qual, params := params, body := body, scope := initSc par, cl := [("__class__", cc)], c := cda }
abbrev initB (p0 p1 p2 p3 p4 q0 q1 q2 q3 : Pos) (fs : Expr) (par fld : Str) : List Stmt :=
  [.Expr (.Call (.Attribute (.Call (.Name "super" p0) [] [] p1) "__init__" p2) [fs] [] p3) p4, .Assign [.Attribute (.Name "self" q0) fld q1] (.Name par q2) q3]
theorem init_ok (Z : InitK P K mg f cc cda C qual params (initB p0 p1 p2 p3 p4 q0 q1 q2 q3 fs par fld) fd par fld) (S : InitS par)
    (hfs : ∀ (A : Around) (outer : List Env) (s : Shared) (H : Hp) (E : XK), PE (ncx CX P w K mg base ["self", par, "__class__"] (initF qual params (initB p0 p1 p2 p3 p4 q0 q1 q2 q3 fs par fld) par cc cda) f A outer s H E) fs tfs)
    (hst : ∀ env : Env, starEach [fs] env = [(false, eval fs env)])
    {pl : Env → Sem Bool} (hev : ∀ env : Env, eval (.Call (.Attribute (.Call (.Name "super" p0) [] [] p1) "__init__" p2) [fs] [] p3) env = (do
      let o ← attributeBase (.Call (.Name "super" p0) [] [] p1) "__init__" env (eval (.Call (.Name "super" p0) [] [] p1) env)
      standAt p2.atName
      let (g, gs) ← holding [o] (getMethod o "__init__" (pl env))
      callWith p3 g gs (backTo p3 (starEach [fs] env)) []))
    (hrd : ∀ (a : Addr) (y : V) (H : Hp) (Q : VK), Fmt y → (∀ z, Q (.str z) H) → tfs [some (.ref a), some y, some (.ref C)] H Q) :
    FnOk P w K mg base CX (k + 1) f fd ["self", par] (spInit C fld) := by
  obtain ⟨oc, od, osl, dV, kV, doc, pm, ct, an, rfl, lk⟩ := Z.ex
  refine ⟨fun vs H Q E h => by obtain ⟨a, y, rfl, _⟩ := h; rfl, fun A outer s H args us vs Q E hr e0 hb r hsp => ?_⟩
  obtain ⟨a, y, rfl, hy, ha, q⟩ := hsp
  have KX : K.In s.heap := e0.mod.kin.keeps fun b o e => (e0.bs b o e).1
  have lim : s.heap.NoLimit := e0.mod.nolimit.keeps fun b o e => (e0.bs b o e).1
  have hl2 : us.length = 2 := r.length.symm
  refine codeAny_call_function hr.depth (KX _ _ lk) rfl S.n.co S.n.gen rfl (PySem.W.codeRec_of KX Z.code) (hb _ _ _ _ ?_)
  refine wpAny_newFunctionEnv S.n.nocell (fun ⟨n, _⟩ hm => S.n.par n (List.of_mem_zip hm).1) (fun g1 hns hsb => ⟨lim.fresh _ hsb, ?_⟩) S.n.kind
  have kp : ∀ b o, s.heap.get? b = some o → g1.get? b = some o := fun b o e => hsb.extBut b o (Nat.ne_of_lt (Heap.lt_size e)) (Heap.get?_push_of_some _ e)
  obtain ⟨occ, odc, slc, hcell⟩ := Z.cell
  have hC : CellsAt [("__class__", cc)] ["__class__"] [some (.ref C)] s.heap H := by
    refine ⟨rfl, fun y c e => ?_, fun x y c e1 e2 => ?_, fun i y e => ?_⟩
    · have ec : cc = c := by
        by_cases hy2 : y = "__class__"
        · subst hy2; exact Option.some.inj e
        · have hb : (y == ("__class__" : Str)) = false := by simpa using hy2
          simp [List.lookup, hb] at e
      subst ec
      exact ⟨(e0.bs _ _ (e0.mod.kin _ _ hcell)).2, _, _, KX _ _ hcell, rfl⟩
    · have one : ∀ z, List.lookup z [(("__class__" : Str), cc)] = some c → z = "__class__" := fun z e => by
        by_cases hz : z = "__class__"
        · exact hz
        · have hb : (z == ("__class__" : Str)) = false := by simpa using hz
          simp [List.lookup, hb] at e
      rw [one x e1, one y e2]
    · match i, e with
      | 0, e =>
        cases e
        exact ⟨cc, rfl, fun v hv => by cases hv; exact ⟨_, rfl, _, KX _ _ hcell, rfl⟩⟩
      | i + 1, e => cases e
  have I := inv_startN (CX := CX) (N := ["self", par, "__class__"]) (F := initF qual params (initB p0 p1 p2 p3 p4 q0 q1 q2 q3 fs par fld) par cc cda) (f := f) (ws := [some (.ref C)]) (E := E) (tk := s.toks + (List.zip (["self", par] : List Str) us).length) S.n hr.hd e0 rfl r hC hns kp
  refine ks_codeAny_funcAt ?_
  refine ks_wpAt_execs_cons (ks_wpAt_Expr_any (ks_wpAt_MethodCall ?_ (hev _)))
  obtain ⟨ocd, odd, vsd, sld, fl, tfl, hcode, hvs, hfile⟩ := Z.file
  obtain ⟨ar, har, hself⟩ : ∃ ar, (params.posonlyargs ++ params.args).head? = some ar ∧ ar.arg = "self" := by
    have z := Z.self
    cases e : (params.posonlyargs ++ params.args).head? with
    | none => rw [e] at z; cases z
    | some ar => rw [e] at z; exact ⟨ar, rfl, Option.some.inj z⟩
  have X1 : K.In g1 := fun b o e => kp b o (KX b o e)
  obtain ⟨nm, qn, N, bs, bm, sn, sub, ab, col, dd, k0, k1, k2, k3, k5, hK, hbm⟩ := Z.cls.cls
  have hC1 := X1 _ _ hK
  obtain ⟨t1, hx⟩ := exo_at I.hok ha
  have fresh : ∀ {b : Addr} {o : Obj}, g1.get? b = some o → b ≠ g1.objs.size := fun h => Nat.ne_of_lt (Heap.lt_size h)
  have mx : (List.zip (["self", par] : List Str) us).reverse.lookup ("self" : Str) = some (.ref a) := by
    match us, r with
    | [_, _], .cons ra _ =>
      cases ra
      have hne : (("self" : Str) == par) = false := by
        have nd := S.n.nd
        by_cases e : ("self" : Str) = par
        · subst e
          exact absurd nd (by simp)
        · simpa using e
      show List.lookup ("self" : Str) [(par, _), ("self", Value.ref a)] = _
      simp [List.lookup, hne]
  refine ks_wpAt_super_base (env := envX qual (initSc par) s.heap.objs.size f (.ref cda) [("__class__", cc)]) S.sup S.cls rfl rfl (X1 _ _ lk) rfl har rfl (X1 _ _ hcode) rfl hvs hfile Z.top ?_
  obtain ⟨mb, hb1, hb2⟩ := I.mod.blt
  refine ks_loadName_global rfl S.sup (Calls.loadGlobal_builtin (I.mod.glob.keeps I.bk) Z.zsup (hb1.keeps I.bk) ((hb2 "super" (by decide)).trans (by decide +kernel)) ⟨rfl, ?_⟩)
  refine wpAny_loadName_free rfl S.cls rfl ⟨_, X1 _ _ hcell, rfl⟩ ?_
  rw [hself]
  refine wpAny_loadName_local rfl S.vself hns mx ?_
  refine ks_wpAny_isType_cls hC1 rfl ⟨rfl, ?_⟩
  refine ks_wpAny_call_super hC1 rfl hx rfl (fun c e => by cases e) (looks_mroIn X1 Z.me) (fun h2 e2 kp2 => ?_)
  have I2 := I.kept (t' := s.toks + (List.zip (["self", par] : List Str) us).length) kp2
  have X2 : K.In h2 := fun b o e => kp2 _ _ (X1 b o e)
  have J2 : InstAt h2 a ({ cls := .ref C, dict := none, data := .fields #[.ref t1, .none, .none, .none, .bool false, .none] } : Obj) C none := ⟨kp2 _ _ hx, rfl, rfl, trivial⟩
  obtain ⟨cd, hcd⟩ : ∃ cd, clsIn K C = some cd := by
    unfold clsIn
    rw [hK]
    exact ⟨_, rfl⟩
  have hup := Z.up
  unfold ks_superIn at hup
  rw [hcd] at hup
  refine kxs_getMethod kxs_ValueError e2 (looks_opaque X2 Z.opq) (l₀ := cd.mro) (fun _ _ _ _ k q => wpAny_bind ((looks_clsIn X2 hcd) _ _ _ _ k (wpAny_pure q))) rfl X2 hup (J2.type.andThen (looks_subIn X2 Z.ve)) (ks_ne X2 J2 hcd) rfl ?_
  -- the bound __init__ is called
  have kp3 : ∀ b o, h2.get? b = some o → (h2.push (kxs_mw "ValueError.__init__" a)).get? b = some o := fun b o e => Heap.get?_push_of_some _ e
  have eu : (h2.push (kxs_mw "ValueError.__init__" a)).get? h2.objs.size = some (kxs_mw "ValueError.__init__" a) := Heap.get?_push_at rfl rfl
  have I3 := I2.kept (t' := s.toks + (List.zip (["self", par] : List Str) us).length + 1) kp3
  have I3p := I3.pinned (fp := [h2.objs.size]) (fun b hb => by
    rcases List.mem_singleton.mp hb with rfl
    exact I2.fpOk (Nat.le_refl _) (I2.hok.fresh (Nat.le_refl _))) (fun b hb => by
    rcases List.mem_singleton.mp hb with rfl
    exact ⟨_, eu, fun v e => by cases e⟩)
  have pa := (pa_cons (hfs A outer s H E) pa_nil (hst _)).run p3 _ _ _ H (fun xs H' => ∃ z, xs = [.str z] ∧ H' = H) I3p (hrd a y H _ hy fun z => ⟨z, rfl, rfl⟩)
  rw [hst] at pa
  rw [hst]
  refine kxs_callWith (i := "ValueError.__init__") (x := a) rfl ?_
  refine Calls.evalArgs_plain (wpAny_mono pa (fun vs s4 hv => ?_) fun e s' he => ?_)
  · obtain ⟨xs, H4, I4, rv, z, rfl, rfl⟩ := hv
    obtain ⟨pu, _⟩ := I4.pin (h2.objs.size, kxs_mw "ValueError.__init__" a) (List.mem_append_right _ (mem_pinsAt (List.mem_singleton.mpr rfl) eu))
    refine ⟨pu, ?_⟩
    obtain ⟨t4, hx4⟩ := exo_at I4.hok ha
    have X4 : K.In s4.heap := I4.kIn
    obtain ⟨h4, g4, d4, tk4, os4⟩ := s4
    have hvl : vs.length ≤ sizeLine := by
      rw [← rv.length]
      exact line_small (by show 1 ≤ 100000; decide)
    -- the method-wrapper's call
    refine wpAny_call (codeAny_of_tree ?_)
    show wpAny _ (Around.in1 _) (callAny (.ref h2.objs.size) ⟨vs, []⟩) _ _ _
    simp only [callAny]
    refine wpAny_bind (wpAny_load pu ?_)
    simp only [kxs_mw, show (Value.type "method-wrapper" == Value.type "method" || Value.type "method-wrapper" == Value.type "builtin_function_or_method" || Value.type "method-wrapper" == Value.type "method-wrapper") = true by decide, if_true]
    refine KFB.if_so (by decide) ?_
    refine wpAny_bind (check_bound_init PySem.F.excBase_ValueError.toExcCallFacts (X4 _ _ hK) hx4 rfl ?_)
    refine wpAny_bind (wpAny_pure (wpAny_pure ?_))
    refine ⟨plainId_quiet PySem.F.excBase_ValueError.init.plain _, codeAny_builtin PySem.F.excBase_ValueError.initEntry ?_⟩
    refine exc_init_tree (cls := .ref C) (t0 := t4) (dv := none) (c2 := .none) (c3 := .none) (b4 := .bool false) hx4 hvl (fun h5 k5 e5 _ => ?_)
    have J5 := (I4.write (t' := tk4) (x := a) (e := a) (o := exo a C none) (by rw [ha]; exact True.intro) (.inl rfl) k5 ⟨_, e5⟩ (exo_ok e5)).unpinned
    have eH : upd H4 a (exo a C none) = H4 := by
      funext b
      by_cases hb : b = a
      · rw [hb, upd_same, ha]
      · rw [upd_ne hb]
    rw [eH] at J5
    have ps := (pss_one (ps_ost (X := ncx CX P w K mg base ["self", par, "__class__"] (initF qual params (initB p0 p1 p2 p3 p4 q0 q1 q2 q3 fs par fld) par cc cda) f A outer s H4 E) (p' := q1) (pos := q3) (f := fld)
      (pe_var (i := 0) (pos := q0) (x := "self") rfl (.inl S.vself)) (pe_var (i := 1) (pos := q2) (x := par) rfl (.inl S.vpar) S.d1 S.d2) rfl)).run [] _ _ H4 { nx := fun _ H' => Q .non H', rt := Q } J5
      ⟨y, rfl, .ref a, rfl, a, C, rfl, Z.cls, Z.fld, .inl ⟨ha, fun dx n1 n2 => q dx n1 n2⟩⟩
    refine _root_.PySem.wpAt_of_wpAny (wpAny_mono ps (fun fl s' hs => ?_) fun e s' hs => hs)
    cases fl with
    | ret u =>
      obtain ⟨v, σ', H', J, rv, q⟩ := hs
      exact ⟨v, H', J.os, J.bare, J.base, J.hok, rv, q⟩
    | next =>
      obtain ⟨σ', H', J, q⟩ := hs
      exact ⟨.non, H', J.os, J.bare, J.base, J.hok, rfl, q⟩
    | brk =>
      obtain ⟨_, _, _, q⟩ := hs
      exact False.elim q
    | cont =>
      obtain ⟨_, _, _, q⟩ := hs
      exact False.elim q
  · exact he
end
/-! ### errors held as values -/
section
variable {X : Cx} {o e : Expr} {to te : TE} {ta : TA} {f : Str} {p pos : Pos}
/-- C(e), C's own __init__ keeping sp: the new error as a value -/
def tMkV (C : Addr) (sp : Sp) (ta : TA) : TE := fun σ H Q => ta σ H fun vs H1 => vs.length ≤ 1000 ∧ ∀ a, H1 a = none → sp (.ref a :: vs) (upd H1 a (exo a C none)) (fun v H2 => v = .non ∧ Q (.ref a) H2) E0
theorem pe_oex {x : Str} {C fI : Addr} {k : Nat} {fd : FuncData} {ps : List Str} {sp : Sp} (T : OexC X.K C) (iC : PySem.W.findIn X.K (.ref C) "__init__" = some (some (.ref fI))) (tI : PySem.W.typeIn X.K (.ref fI) = some (.type "function"))
    (G : FnOk X.prog X.w X.K X.mg X.base CX0 k fI fd ps sp) (hr : Room (k + 1) X.A) (hb : Binds X.K fd ps []) (hg : Gl X x) (hm : X.mg x = some (.ref C)) (ha : PE X e te)
    (hst : starEach [e] X.env = (false, eval e X.env) :: starEach [] X.env := by rfl) (hdb : (x == ("__debug__" : Str)) = false := by decide) :
    PE X (.Call (.Name x p) [e] [] pos) (tMkV C sp (tCons te tNil)) := by
  refine ⟨fun pins s σ H Q I h => ?_⟩
  obtain ⟨nm, q, N, bs, bm, sn, sub, ab, col, dd, k0, k1, k2, k3, k5, hC, hbm⟩ := T.cls
  refine wpAny_Call_Name_kw (ld_glob I hg hm ?_ hdb)
  refine PySem.W.callWith_K (h₀ := X.base) I.ok.mod.kin T.kC (thn ((pa_cons ha pa_nil hst).run pos pins s σ H _ I h) fun us s1 ⟨vs, H1, I1, r1, hz, q1⟩ => ⟨I1.kIn, ?_⟩) hst rfl
  show wpAny _ _ (call (.ref C) us) _ _ _
  obtain ⟨hp, g, dr, tk, os⟩ := s1
  have h1 : hp.objs.size ≤ hp.objs.size + 1 := Nat.le_succ _
  have q2 := q1 (hp.objs.size + 1) (I1.hok.fresh h1)
  have up2 : ∀ b o, hp.get? b = some o → ((hp.push (PySem.W.kdv_tup us)).push (PySem.HandSPX.excO C hp.objs.size)).get? b = some o := fun b o z => Heap.get?_push_of_some _ (Heap.get?_push_of_some _ z)
  have here : ((hp.push (PySem.W.kdv_tup us)).push (PySem.HandSPX.excO C hp.objs.size)).get? (hp.objs.size + 1) = some (PySem.HandSPX.excO C hp.objs.size) := by heap_get
  have I2 := I1.laid (t' := tk) (a := hp.objs.size + 1) (o := exo (hp.objs.size + 1) C none) (h' := (hp.push (PySem.W.kdv_tup us)).push (PySem.HandSPX.excO C hp.objs.size)) up2 h1 (exo_ok here)
  have r2 : Vals (V.ref (hp.objs.size + 1) :: vs) (Value.ref (hp.objs.size + 1) :: us) := .cons rfl r1
  have len2 : (Value.ref (hp.objs.size + 1) :: us ++ []).length = ps.length := by
    rw [List.append_nil, ← r2.length]
    exact G.len _ _ _ _ q2
  have usl : us.length ≤ sizeLine := by
    rw [← Paired.length r1]
    exact line_small (by omega)
  have bd := hb ⟨(hp.push (PySem.W.kdv_tup us)).push (PySem.HandSPX.excO C hp.objs.size), g, dr, tk, os⟩ (Value.ref (hp.objs.size + 1) :: us) I2.kIn len2
  rw [List.append_nil] at bd
  refine wpAny_call (PySem.HandSPX.call_own F.excBase_ValueError (fun Y => PySem.HandSPX.refsVE_contains Y bm hbm) (I1.kIn _ _ hC) (PySem.W.looks_findIn I1.kIn iC) (fun self => PySem.W.bind_fn I1.kIn self tI) usl
    (codeAny_mono (G.run _ X.stack _ _ ⟨Value.ref (hp.objs.size + 1) :: us, []⟩ _ _ _ E0 (hr.make C us []) (I2.env0.make C us []) bd r2 q2) fun r s' hq => ?_))
  cases r with
  | error er => exact hq.elim
  | ok fl =>
    cases fl with
    | ret u =>
      obtain ⟨v, H3, I3, rv, ev, q3⟩ := I2.after hq
      subst ev
      exact ⟨rv, .ref _, H3, I3, rfl, q3⟩
    | next => exact False.elim hq
    | brk => exact False.elim hq
    | cont => exact False.elim hq
/-- C(), C without an own __init__ -/
theorem pe_exc0 {x : Str} {C : Addr} {bmB : List Value} {B newId initId : String} (F : ExcBaseFacts B newId initId bmB) (q : PySem.W.excIn X.K C bmB newId = true) (gC : X.mg x = some (.ref C)) (kC : PySem.W.keepIn X.K (.ref C) = true) (hg : Gl X x)
    (hdb : (x == ("__debug__" : Str)) = false := by decide) :
    PE X (.Call (.Name x p) [] [] pos) (fun _ H Q => ∀ a, H a = none → Q (.ref a) (upd H a (ExO (.ref C) a))) := by
  refine ⟨fun pins s σ H Q I h => ?_⟩
  refine wpAny_Call_Name_kw (ld_glob I hg gC ?_ hdb)
  refine PySem.W.callWith_K0 I.kIn kC ?_
  show wpAny _ _ (call (.ref C) []) _ _ _
  obtain ⟨bm, N, nm, qn, bs, hdct, sn, sub, ab, col, dd, k0, k1, k2, k3, k5, mN, hC, hN, hni, T⟩ := exc_obj I.kIn q
  refine wpAny_call_exc_subT F T hC hN hni (fun h' a hm => ?_) (Nat.zero_le _)
  have hn : H a = none := I.hok.gone hm.new
  obtain ⟨t, ht, _, _⟩ := hm.there
  exact ⟨.ref a, upd H a (ExO (.ref C) a), I.laidN hm.keeps hm.new hn (exO_ok ht ⟨rfl, rfl⟩ rfl rfl rfl (show 4 < 6 by decide)), rfl, h a hn⟩
/-- what stands at an error's address: one with an own __init__, before and behind it, or one without -/
def ErrO (H : Hp) (C a : Addr) : Prop := H a = some (exo a C none) ∨ (∃ d fs, H a = some (exo a C (some d)) ∧ H d = some (exd d fs)) ∨ H a = some (ExO (.ref C) a)
/-- what the written part says of an error class, for isinstance -/
structure ErrC (K : PySem.W.Frag) (C : Addr) : Prop where
  cl : (PySem.W.clsIn K C).isSome = true
  ga : PySem.W.findIn K (.ref C) "__getattribute__" = some (some (.builtin "BaseException.__getattribute__"))
  gt : PySem.W.findIn K (.ref C) "__getattr__" = some none
  sb : PySem.W.subIn K (.ref C) (.type "BaseException") = some true
  ca : PySem.W.findIn K (.ref C) "__class__" = some (some (.builtin "object.__class__"))
  cn : PySem.W.specialIn K (.builtin "object.__class__") "__get__" = some (some (.builtin "getset_descriptor.__get__"))
  ct : PySem.W.takesIn K (.builtin "object.__class__") = some true
  cm : PySem.W.mroIn K C (.type "object") = some true
  hd : PySem.W.hasDictIn K C = true
theorem err_inst {pins : List (Addr × Obj)} {σ : L2.St} {H : Hp} {s : Shared} {C a : Addr} (I : Inv X pins σ H s) (h : ErrO H C a) : ∃ ox od, PySem.W.InstAt s.heap a ox C od := by
  rcases h with h | ⟨d, fs, h, hd⟩ | h
  · obtain ⟨t, e⟩ := exo_at I.hok h
    exact ⟨_, none, e, rfl, rfl, True.intro⟩
  · obtain ⟨t, e⟩ := exo_at I.hok h
    obtain ⟨mA, hns, _⟩ := exd_at I.hok hd
    obtain ⟨od, es, ep, e2, _⟩ := hns
    exact ⟨_, some od, e, rfl, rfl, e2⟩
  · obtain ⟨⟨oe, vs, e, z, d, _⟩, _, _⟩ := I.hok a _ h
    refine ⟨oe, none, e, z.1, ?_, ?_⟩
    · unfold PySem.W.notCls
      rw [d]
    · rw [z.2]
      exact True.intro
/-- isinstance of an error, of one class -/
def rIsE (K : PySem.W.Frag) : List V → Hp → VK → Prop := fun xs H Q => ∃ (a C : Addr) (c : V) (u : Value) (b : Bool), xs = [.ref a, c] ∧ ClsV c u ∧ ErrC K C ∧ ErrO H C a ∧ PySem.W.kitOne K (.ref C) u = some b ∧ Q (.bl b) H
theorem call_isE : CallR X (.builtin "isinstance") (rIsE X.K) := by
  intro pins s σ H xs us Q I r h
  obtain ⟨a, C, c, u, b, rfl, kc, T, he, e, q⟩ := h
  obtain ⟨u1, u2, rfl, r1, r2⟩ := vals2 r
  have e2 := kc.eq r2
  subst e2
  cases r1
  obtain ⟨ox, od, J⟩ := err_inst I he
  exact PySem.W.kia_one (PySem.W.kitx_exc T.cl T.ga T.gt T.sb T.ca T.cn T.ct T.cm) I.kIn J e (fun z => nomatch z) fun tk => ⟨.bl b, H, I.tok tk, rfl, q⟩
/-- e.f of an error held as a value -/
def tEf (K : PySem.W.Frag) (f : Str) (te : TE) : TE := fun σ H Q => te σ H fun x H1 => ∃ (a C d : Addr) (fs : List (Str × V)) (v : V), x = .ref a ∧ ErrC K C ∧ PySem.W.findIn K (.ref C) f = some none ∧ H1 a = some (exo a C (some d)) ∧ H1 d = some (exd d fs) ∧ fs.lookup f = some v ∧ Q v H1
theorem pe_ef (he : PE X e te) (hb : attributeBase e f X.env (eval e X.env) = eval e X.env := by rfl) : PE X (.Attribute e f pos) (tEf X.K f te) := by
  refine ⟨fun pins s σ H Q I h => ?_⟩
  refine attr_of hb (thn (he.run pins s σ H _ I h) fun u s1 hh => ?_)
  obtain ⟨x, H1, I1, rx, a, C, d, fs, v, rfl, T, hno, ha, hd, l, q⟩ := hh
  cases rx
  obtain ⟨t, e1⟩ := exo_at I1.hok ha
  obtain ⟨mA, hns, hr⟩ := exd_at I1.hok hd
  obtain ⟨od, ho, hl⟩ := lookIn_ns hns
  obtain ⟨u, hu, ru⟩ := RelO.some_of (v := v) (o := mA f) (by rw [← l]; exact hr f)
  have J : PySem.W.InstAt s1.heap a ({ cls := .ref C, dict := some d, data := .fields #[.ref t, .none, .none, .none, .bool false, .none] } : Obj) C (some od) := ⟨e1, rfl, rfl, ho⟩
  exact HandSPX.exc_get I1.kIn J T.ga T.gt T.sb (PySem.W.findObj_own T.hd hno rfl (by rw [hl, hu])) (handed_of ru) ⟨v, H1, I1.tok _, ru, q⟩
/-- the promise of an error's __init__, whatever heap it leaves -/
def spInitA (C : Addr) (fld : Str) : Sp := fun vs H Q _ => ∃ (a : Addr) (y : V), vs = [.ref a, y] ∧ Fmt y ∧ H a = some (exo a C none) ∧
  ∀ (d : Addr) (H' : Hp), (∀ b o, H b = some o → b ≠ a → H' b = some o) → H' a = some (exo a C (some d)) → H' d = some (exd d [(fld, y)]) → H d = none → Q .non H'
theorem initA {C : Addr} {fld : Str} (vs : List V) (H : Hp) (Q : VK) (E : XK) (h : spInitA C fld vs H Q E) : spInit C fld vs H Q E := by
  obtain ⟨a, y, rfl, hy, ha, q⟩ := h
  refine ⟨a, y, rfl, hy, ha, fun d n k => q d _ (fun b o e ne => ?_) upd_same ((upd_ne k).trans upd_same) n⟩
  rw [upd_ne ne, upd_ne (ne_of_none e n)]
  exact e
theorem same_made {H H' : Hp} {a : Addr} {o : HO} (n : H a = none) (k : ∀ b u, upd H a o b = some u → b ≠ a → H' b = some u) : Same H H' := fun b u e =>
  k b u (by rw [upd_ne (ne_of_none e n)]; exact e) (ne_of_none e n)
end
/-! ### the facts of error classes, by one look each -/
def errB (K : PySem.W.Frag) (C : Addr) : Bool := (PySem.W.clsIn K C).isSome && decide (PySem.W.findIn K (.ref C) "__getattribute__" = some (some (.builtin "BaseException.__getattribute__"))) && decide (PySem.W.findIn K (.ref C) "__getattr__" = some none) &&
  decide (PySem.W.subIn K (.ref C) (.type "BaseException") = some true) && decide (PySem.W.findIn K (.ref C) "__class__" = some (some (.builtin "object.__class__"))) && decide (PySem.W.specialIn K (.builtin "object.__class__") "__get__" = some (some (.builtin "getset_descriptor.__get__"))) &&
  decide (PySem.W.takesIn K (.builtin "object.__class__") = some true) && decide (PySem.W.mroIn K C (.type "object") = some true) && PySem.W.hasDictIn K C
theorem errB_ok {K : PySem.W.Frag} {C : Addr} (h : errB K C = true) : ErrC K C := by
  unfold errB at h
  simp only [Bool.and_eq_true, decide_eq_true_eq] at h
  obtain ⟨⟨⟨⟨⟨⟨⟨⟨h1, h2⟩, h3⟩, h4⟩, h5⟩, h6⟩, h7⟩, h8⟩, h9⟩ := h
  exact ⟨h1, h2, h3, h4, h5, h6, h7, h8, h9⟩
/-- the class with this number -/
def clsAt (l : List (Nat × Addr)) (n : Nat) : Addr := match l.lookup n with
  | some a => a
  | none => 0
def errsB (K : PySem.W.Frag) (c : Nat → Addr) (ids : List Nat) (up : Nat → Nat → Bool) : Bool := ids.all fun i => PySem.W.keepIn K (.ref (c i)) && errB K (c i) && decide (PySem.W.kitOne K (.ref (c i)) (.type "ValueError") = some true) &&
  ids.all fun j => decide (PySem.W.kitOne K (.ref (c i)) (.ref (c j)) = some (up i j))
theorem errsB_ok {K : PySem.W.Frag} {c : Nat → Addr} {ids : List Nat} {up : Nat → Nat → Bool} (h : errsB K c ids up = true) : (∀ i ∈ ids, PySem.W.keepIn K (.ref (c i)) = true) ∧ (∀ i ∈ ids, ErrC K (c i)) ∧
    (∀ i ∈ ids, ∀ j ∈ ids, PySem.W.kitOne K (.ref (c i)) (.ref (c j)) = some (up i j)) ∧ ∀ i ∈ ids, PySem.W.kitOne K (.ref (c i)) (.type "ValueError") = some true := by
  unfold errsB at h
  rw [List.all_eq_true] at h
  have z : ∀ i ∈ ids, PySem.W.keepIn K (.ref (c i)) = true ∧ ErrC K (c i) ∧ PySem.W.kitOne K (.ref (c i)) (.type "ValueError") = some true ∧ ∀ j ∈ ids, PySem.W.kitOne K (.ref (c i)) (.ref (c j)) = some (up i j) := fun i hi => by
    have q := h i hi
    simp only [Bool.and_eq_true, decide_eq_true_eq, List.all_eq_true] at q
    exact ⟨q.1.1.1, errB_ok q.1.1.2, q.1.2, q.2⟩
  exact ⟨fun i hi => (z i hi).1, fun i hi => (z i hi).2.1, fun i hi => (z i hi).2.2.2, fun i hi => (z i hi).2.2.1⟩
/-- an __init__'s facts -/
def initB' (K : PySem.W.Frag) (C : Addr) (fld : Str) : Bool := decide (PySem.W.mroIn K C (.ref C) = some true) && decide (PySem.W.ks_superIn K C C "__init__" = some (some (.builtin "ValueError.__init__"))) && decide (PySem.W.subIn K (.ref C) (.type "ValueError") = some true) &&
  decide (PySem.W.findIn K (.ref C) fld = some none) && decide (PySem.W.findIn K (.ref C) "__setattr__" = some (some (.builtin "object.__setattr__"))) && decide (PySem.W.subIn K (.ref C) (.type "BaseException") = some true) && decide (PySem.W.typeIn K (.ref C) = some (.type "type"))
theorem initB_ok {K : PySem.W.Frag} {C : Addr} {fld : Str} (h : initB' K C fld = true) : PySem.W.mroIn K C (.ref C) = some true ∧ PySem.W.ks_superIn K C C "__init__" = some (some (.builtin "ValueError.__init__")) ∧ PySem.W.subIn K (.ref C) (.type "ValueError") = some true ∧
    PySem.W.findIn K (.ref C) fld = some none ∧ PySem.W.findIn K (.ref C) "__setattr__" = some (some (.builtin "object.__setattr__")) ∧ PySem.W.subIn K (.ref C) (.type "BaseException") = some true ∧ PySem.W.typeIn K (.ref C) = some (.type "type") := by
  unfold initB' at h
  simp only [Bool.and_eq_true, decide_eq_true_eq] at h
  obtain ⟨⟨⟨⟨⟨⟨h1, h2⟩, h3⟩, h4⟩, h5⟩, h6⟩, h7⟩ := h
  exact ⟨h1, h2, h3, h4, h5, h6, h7⟩

def errsB2 (K : PySem.W.Frag) (c : Nat → Addr) (m : Nat) (ids : List Nat) : Bool := ids.all fun i => decide (PySem.W.typeIn K (.ref (c i)) = some (.type "type")) && decide (PySem.W.subIn K (.ref (c i)) (.ref (c m)) = some true)
theorem errsB2_ok {K : PySem.W.Frag} {c : Nat → Addr} {m : Nat} {ids : List Nat} (h : errsB2 K c m ids = true) : (∀ i ∈ ids, PySem.W.typeIn K (.ref (c i)) = some (.type "type")) ∧ ∀ i ∈ ids, PySem.W.subIn K (.ref (c i)) (.ref (c m)) = some true := by
  unfold errsB2 at h
  rw [List.all_eq_true] at h
  refine ⟨fun i hi => ?_, fun i hi => ?_⟩
  · have q := h i hi
    simp only [Bool.and_eq_true, decide_eq_true_eq] at q
    exact q.1
  · have q := h i hi
    simp only [Bool.and_eq_true, decide_eq_true_eq] at q
    exact q.2
def errIds : List Nat := [2, 3, 4]
def errChains : List (Nat × List Nat) := [(2, [2]), (3, [3, 2]), (4, [4, 3, 2])]
def errUp (i j : Nat) : Bool := match errChains.lookup i with | some l => l.contains j | none => false
/-- an error class's __init__ as it stands behind the top -/
def InitAt (P : Program) (K : PySem.W.Frag) (mg : Str → Option Value) (C : Addr) (st : Stmt) (par fld : Str) : Prop := ∃ (f cc cda : Addr) (fd : FuncData) (qual : Str), InitK P K mg f cc cda C qual (defArgs st) (defBody st) fd par fld ∧
  PySem.W.findIn K (.ref C) "__init__" = some (some (.ref f)) ∧ PySem.W.typeIn K (.ref f) = some (.type "function") ∧ Binds K fd ["self", par] []
/-- what a call of such a class needs -/
def HasI (P : Program) (w : World) (K : PySem.W.Frag) (mg : Str → Option Value) (base : Heap) (C : Addr) (par fld : Str) : Prop := ∃ (f : Addr) (fd : FuncData), FnOk P w K mg base CX0 1 f fd ["self", par] (spInitA C fld) ∧
  PySem.W.findIn K (.ref C) "__init__" = some (some (.ref f)) ∧ PySem.W.typeIn K (.ref f) = some (.type "function") ∧ Binds K fd ["self", par] []
theorem log_small {n : Nat} (h : n < 2 ^ 64) : n.log2 < 1920 := by
  by_cases e : n = 0
  · rw [e]
    decide
  · exact (Nat.log2_lt e).mpr (Nat.lt_of_lt_of_le h (Nat.pow_le_pow_right (by decide) (by decide)))
theorem fj2 {s1 : Str} (h1 : s1.length ≤ 1000) {a C : Addr} {y : V} {H : Hp} {Q : VK} (hy : Fmt y) (q : ∀ z, Q (.str z) H) : tJs [tC (.str s1), tFmt (tVar 1)] Str.empty [some (.ref a), some y, some (.ref C)] H (fun out H1 => Q (.str out) H1) := by
  have e1 : (Str.empty ++ s1).length = s1.length := by rw [app_len]; exact Nat.zero_add _
  refine ⟨s1, rfl, by rw [e1]; exact line_small (by omega), y, rfl, ?_⟩
  rcases hy with ⟨z, rfl, hz⟩ | ⟨i, rfl, hi⟩
  · exact .inl ⟨z, rfl, line_small hz, z, rfl, by rw [app_len, e1]; exact Nat.le_trans (by omega) (show 101000 ≤ sizeLine by decide), q _⟩
  · have hl := log_small hi
    exact .inr ⟨i, rfl, hl, _, rfl, by rw [app_len, e1]; exact Nat.le_trans (Nat.add_le_add h1 (int_text_len_1921 hl)) (show 2921 ≤ sizeLine by decide), q _⟩
theorem fj3 {s1 s2 : Str} (h1 : s1.length ≤ 1000) (h2 : s2.length ≤ 1000) {a C : Addr} {y : V} {H : Hp} {Q : VK} (hy : Fmt y) (q : ∀ z, Q (.str z) H) : tJs [tC (.str s1), tFmt (tVar 1), tC (.str s2)] Str.empty [some (.ref a), some y, some (.ref C)] H (fun out H1 => Q (.str out) H1) := by
  have e1 : (Str.empty ++ s1).length = s1.length := by rw [app_len]; exact Nat.zero_add _
  refine ⟨s1, rfl, by rw [e1]; exact line_small (by omega), y, rfl, ?_⟩
  rcases hy with ⟨z, rfl, hz⟩ | ⟨i, rfl, hi⟩
  · exact .inl ⟨z, rfl, line_small hz, z, rfl, by rw [app_len, e1]; exact Nat.le_trans (by omega) (show 101000 ≤ sizeLine by decide), s2, rfl, by rw [app_len, app_len, e1]; exact Nat.le_trans (by omega) (show 102000 ≤ sizeLine by decide), q _⟩
  · have hl := log_small hi
    have hs := int_text_len_1921 hl
    exact .inr ⟨i, rfl, hl, _, rfl, by rw [app_len, e1]; exact Nat.le_trans (Nat.add_le_add h1 hs) (show 2921 ≤ sizeLine by decide), s2, rfl, by rw [app_len, app_len, e1]; exact Nat.le_trans (Nat.add_le_add (Nat.add_le_add h1 hs) h2) (show 3921 ≤ sizeLine by decide), q _⟩
structure Txt (P : Program) (K : PySem.W.Frag) (mg : Str → Option Value) (c : Nat → Addr) : Prop where
  z_ValueError : mg "ValueError" = none
  z_all : mg "all" = none
  z_any : mg "any" = none
  z_bool : mg "bool" = none
  z_enumerate : mg "enumerate" = none
  z_int : mg "int" = none
  z_isinstance : mg "isinstance" = none
  z_len : mg "len" = none
  z_list : mg "list" = none
  z_range : mg "range" = none
  z_set : mg "set" = none
  z_str : mg "str" = none
  z_sum : mg "sum" = none
  z_super : mg "super" = none
  z_tuple : mg "tuple" = none
  z_zip : mg "zip" = none
  d__wall : DefAt K mg "_wall" s__wall ["k"]
  d_frozen : DefAt K mg "frozen" s_frozen ["value"]
  d_product_of : DefAt K mg "product_of" s_product_of ["sizes"]
  d_in_sight : DefAt K mg "in_sight" s_in_sight ["variables", "procedure"]
  d_bodies_of : DefAt K mg "bodies_of" s_bodies_of ["statement"]
  d_expressions_of : DefAt K mg "expressions_of" s_expressions_of ["statement"]
  d_statements_of : DefAt K mg "statements_of" s_statements_of ["body"]
  d_is_deeper : DefAt K mg "is_deeper" s_is_deeper ["expression", "limit"]
  d_leaves_of : DefAt K mg "leaves_of" s_leaves_of ["expression"]
  d_lay_out : DefAt K mg "lay_out" s_lay_out ["answers", "variables", "procedures"]
  d_body_length : DefAt K mg "body_length" s_body_length ["body"]
  d_body_ways : DefAt K mg "body_ways" s_body_ways ["body", "first", "behind"]
  d_statement_ways : DefAt K mg "statement_ways" s_statement_ways ["statement", "point", "follows"]
  d_aims_of : DefAt K mg "aims_of" s_aims_of ["statement", "sight", "answers", "procedures"]
  d_point_row : DefAt K mg "point_row" s_point_row ["statement", "sight", "names", "places", "ways"]
  d_slot_of : DefAt K mg "slot_of" s_slot_of ["sight", "name"]
  d_letters_reason : DefAt K mg "letters_reason" s_letters_reason ["letters", "answers"]
  d_is_name : DefAt K mg "is_name" s_is_name ["text"]
  d_first_reason : DefAt K mg "first_reason" s_first_reason ["letters", "answers", "variables", "procedures"]
  d_count_reason : DefAt K mg "count_reason" s_count_reason ["variables", "procedures"]
  d_has_many_variables : DefAt K mg "has_many_variables" s_has_many_variables ["procedure"]
  d_declaration_reason : DefAt K mg "declaration_reason" s_declaration_reason ["variables", "procedures"]
  d_shape_reason : DefAt K mg "shape_reason" s_shape_reason ["procedures"]
  d_meaning_reason : DefAt K mg "meaning_reason" s_meaning_reason ["letters", "variables", "procedures"]
  d_has_wrong_number : DefAt K mg "has_wrong_number" s_has_wrong_number ["statement"]
  d_has_unknown : DefAt K mg "has_unknown" s_has_unknown ["statement", "sizes", "many"]
  d_is_wrong_call : DefAt K mg "is_wrong_call" s_is_wrong_call ["statement", "main", "many"]
  d_sights_of : DefAt K mg "sights_of" s_sights_of ["sizes"]
  d__law_cell : DefAt K mg "_law_cell" s__law_cell ["script", "k"]
  d__law_reader : DefAt K mg "_law_reader" s__law_reader ["cell"]
  d__law_next : DefAt K mg "_law_next" s__law_next ["reader", "size"]
  d__law_same : DefAt K mg "_law_same" s__law_same ["told", "due"]
  d__law_word : DefAt K mg "_law_word" s__law_word ["reader", "many"]
  d__law_pool : DefAt K mg "_law_pool" s__law_pool ["reader"]
  d__law_declared : DefAt K mg "_law_declared" s__law_declared ["reader", "pool", "start", "many", "room"]
  d__law_heads : DefAt K mg "_law_heads" s__law_heads ["reader", "most"]
  d__law_put : DefAt K mg "_law_put" s__law_put ["row", "k", "part"]
  d__law_headed : DefAt K mg "_law_headed" s__law_headed ["parts", "number", "part", "thing"]
  d__law_shape : DefAt K mg "_law_shape" s__law_shape ["parts", "number", "left"]
  d__law_deep : DefAt K mg "_law_deep" s__law_deep ["reader", "names", "depth"]
  d__law_drawn : DefAt K mg "_law_drawn" s__law_drawn ["reader", "shape"]
  d__law_plain : DefAt K mg "_law_plain" s__law_plain ["reader", "shape"]
  d__law_body : DefAt K mg "_law_body" s__law_body ["reader", "shape", "most", "depth"]
  d__law_statement : DefAt K mg "_law_statement" s__law_statement ["reader", "shape", "depth"]
  d__law_tower : DefAt K mg "_law_tower" s__law_tower ["reader", "shape", "depth"]
  d__law_rich : DefAt K mg "_law_rich" s__law_rich ["reader", "most", "room"]
  d__law_loose : DefAt K mg "_law_loose" s__law_loose ["body"]
  d__law_spoil : DefAt K mg "_law_spoil" s__law_spoil ["body"]
  d__law_made : DefAt K mg "_law_made" s__law_made ["parts", "form"]
  d__law_inner : DefAt K mg "_law_inner" s__law_inner ["statement"]
  d__law_count : DefAt K mg "_law_count" s__law_count ["body"]
  d__law_place : DefAt K mg "_law_place" s__law_place ["model", "procedure", "role", "size", "expression"]
  d__law_row : DefAt K mg "_law_row" s__law_row ["model", "procedure", "statement", "number", "follow"]
  d__law_flat : DefAt K mg "_law_flat" s__law_flat ["model", "procedure", "body", "number", "after"]
  d__law_model : DefAt K mg "_law_model" s__law_model ["parts"]
  d_law : DefAt K mg "law" s_law ["script"]
  g_Program : mg "Program" = some (.ref (c 56))
  cl_Program : Cls K (c 56)
  ins_Program : C8.InsC K (c 56)
  n_Program_letters : NoAttr K (c 56) "letters"
  n_Program_answers : NoAttr K (c 56) "answers"
  n_Program_variables : NoAttr K (c 56) "variables"
  n_Program_procedures : NoAttr K (c 56) "procedures"
  n_Program__names : NoAttr K (c 56) "_names"
  n_Program__sizes : NoAttr K (c 56) "_sizes"
  n_Program__sights : NoAttr K (c 56) "_sights"
  n_Program_places : NoAttr K (c 56) "places"
  n_Program__points : NoAttr K (c 56) "_points"
  d_Program_init : ∃ (f : Addr) (fd : FuncData), Fun K "__init__" "Program.__init__" s_Program_init f fd ∧ Mk K (c 56) f ∧ Binds K fd ["self", "letters", "answers", "variables", "procedures"] []
  d_Program_names : ∃ (f : Addr) (fd : FuncData), Fun K "names" "Program.names" s_Program_names f fd ∧ Meth K (c 56) "names" f ∧ Binds K fd ["self", "procedure"] []
  d_Program_sizes : ∃ (f : Addr) (fd : FuncData), Fun K "sizes" "Program.sizes" s_Program_sizes f fd ∧ Meth K (c 56) "sizes" f ∧ Binds K fd ["self", "procedure"] []
  d_Program_sights : ∃ (f : Addr) (fd : FuncData), Fun K "sights" "Program.sights" s_Program_sights f fd ∧ Meth K (c 56) "sights" f ∧ Binds K fd ["self", "procedure"] []
  d_Program_points : ∃ (f : Addr) (fd : FuncData), Fun K "points" "Program.points" s_Program_points f fd ∧ Meth K (c 56) "points" f ∧ Binds K fd ["self", "procedure"] []
  c_LEAVES : ∃ a, mg "LEAVES" = some (.ref a) ∧ KTup K a [.str "number", .str "name"]
  c_MOST_LETTERS : ∃ t, mg "MOST_LETTERS" = some (.int 3 t)
  c_LEAST_ANSWERS : ∃ t, mg "LEAST_ANSWERS" = some (.int 2 t)
  c_MOST_ANSWERS : ∃ t, mg "MOST_ANSWERS" = some (.int 4 t)
  c_LETTERS : ∃ t, mg "LETTERS" = some (.str "abcdefghijklmnopqrstuvwxyz" t)
  c_WORD_CHARACTERS : ∃ t, mg "WORD_CHARACTERS" = some (.str "abcdefghijklmnopqrstuvwxyz0123456789" t)
  c_LONGEST_NAME : ∃ t, mg "LONGEST_NAME" = some (.int 8 t)
  c_KEYWORDS : ∃ a, mg "KEYWORDS" = some (.ref a) ∧ KTup K a [.str "letters", .str "answers", .str "global", .str "proc", .str "local", .str "read", .str "write", .str "if", .str "then", .str "else", .str "while", .str "do", .str "call", .str "skip", .str "end", .str "and", .str "or", .str "not"]
  c_MOST_PROCEDURES : ∃ t, mg "MOST_PROCEDURES" = some (.int 5 t)
  c_MOST_GLOBALS : ∃ t, mg "MOST_GLOBALS" = some (.int 4 t)
  c_MOST_PARAMETERS : ∃ t, mg "MOST_PARAMETERS" = some (.int 3 t)
  c_MOST_LOCALS : ∃ t, mg "MOST_LOCALS" = some (.int 3 t)
  c_LEAST_SIZE : ∃ t, mg "LEAST_SIZE" = some (.int 2 t)
  c_MOST_SIZE : ∃ t, mg "MOST_SIZE" = some (.int 4 t)
  c_MOST_SIGHTS : ∃ t, mg "MOST_SIGHTS" = some (.int 64 t)
  c_MOST_STATEMENTS : ∃ t, mg "MOST_STATEMENTS" = some (.int 60 t)
  c_MOST_NESTING : ∃ t, mg "MOST_NESTING" = some (.int 6 t)
  c_MOST_DEPTH : ∃ t, mg "MOST_DEPTH" = some (.int 5 t)
  c_MOST_NUMBER : ∃ t, mg "MOST_NUMBER" = some (.int 9 t)
  g_MendError : mg "MendError" = some (.ref (c 2))
  g_InvalidInput : mg "InvalidInput" = some (.ref (c 3))
  g_InvalidProgram : mg "InvalidProgram" = some (.ref (c 4))
  kp : ∀ i ∈ errIds, PySem.W.keepIn K (.ref (c i)) = true
  er : ∀ i ∈ errIds, ErrC K (c i)
  isa : ∀ i ∈ errIds, ∀ j ∈ errIds, PySem.W.kitOne K (.ref (c i)) (.ref (c j)) = some (errUp i j)
  ve : ∀ i ∈ errIds, PySem.W.kitOne K (.ref (c i)) (.type "ValueError") = some true
  ty : ∀ i ∈ errIds, PySem.W.typeIn K (.ref (c i)) = some (.type "type")
  su : ∀ i ∈ errIds, PySem.W.subIn K (.ref (c i)) (.ref (c id_MendError)) = some true
  x_MendError : PySem.W.excIn K (c 2) [.type "ValueError", .type "Exception", .type "BaseException", .type "object"] "ValueError.__new__" = true
  x_InvalidInput : PySem.W.excIn K (c 3) [.type "ValueError", .type "Exception", .type "BaseException", .type "object"] "ValueError.__new__" = true
  o_InvalidProgram : OexC K (c 4)
  n_InvalidProgram : InitAt P K mg (c 4) (inClass (topS 4) 0) "reason" "reason"
  f_InvalidProgram : PySem.W.findIn K (.ref (c 4)) "reason" = some none
section
variable {P : Program} {w : World} {K : PySem.W.Frag} {mg : Str → Option Value} {base : Heap} {c : Nat → Addr}
theorem mk_InvalidProgram (T : Txt P K mg c) : HasI P w K mg base (c 4) "reason" "reason" := by
  obtain ⟨f, cc, cda, fd, qual, Z, i, t, b⟩ := T.n_InvalidProgram
  exact ⟨f, fd, (init_ok Z ⟨nscope_by (by decide +kernel), rfl, rfl, rfl, rfl, rfl, rfl⟩ (fun A outer s H E => pe_joined (PJ.cons pe_str (PJ.cons (pe_fmt (pe_var (i := 1) rfl (.inl rfl))) PJ.nil))) (fun env => rfl) (fun env => rfl) (fun a y H Q hy q => fj2 (by decide +kernel) hy q)).imp initA, i, t, b⟩
end
end Pf

namespace Pf
open PySem PySem.Spec PyProof.Rows L2
section
variable {P : Program} {w : World} {K : PySem.W.Frag} {mg : Str → Option Value} {base : Heap}
variable {c : Nat → Addr}
def sp__law_next (K : PySem.W.Frag) : Sp := fun vs H Q _ => ∃ (r : Addr) (n : Int), vs = [.ref r, .int n] ∧ RD H r ∧ 0 < n ∧ n < 1073741824 ∧ ∀ (v : Int) H', Fr r H H' → RD H' r → 0 ≤ v → v < n → Q (.int v) H'
theorem g0 {x y z : V} : atI [x, y, z] 0 = some x := atI_nat (j := 0) rfl
theorem g1 {x y z : V} : atI [x, y, z] 1 = some y := atI_nat (j := 1) rfl
theorem g2 {x y z : V} : atI [x, y, z] 2 = some z := atI_nat (j := 2) rfl
theorem ok__law_next (T : Txt P K mg c) : Has P w K mg base 1 "_law_next" ["reader", "size"] (sp__law_next K) := by
  obtain ⟨f, fd, F, m, b⟩ := T.d__law_next.ex
  refine ⟨f, fd, F.ok sc__law_next (fun vs H Q E h => ?_) (fun cdv A outer s H vs Q E hr h => ?_), m, F.kp, b⟩
  · obtain ⟨r, n, rfl, hR, h0, h1, q⟩ := h
    rfl
  obtain ⟨r, n, rfl, hR, h0, h1, q⟩ := h
  refine ⟨_, (pss_cons (ps_set (i := 2) sc__law_next.nd rfl (.inl rfl) (pe_ix ix_list (pv 0) pe_int (fun _ _ => rfl)))
      (pss_cons (ps_asg (pe_op op_add (pv 2) pe_int) (pg_sub (pv 0) pe_int set_list))
      (pss_cons (ps_if (PW.pt (pw_and (pt_cmpR op_ge (pe_ix ix_list (pv 0) pe_int (fun _ _ => rfl)) (pe_op op_pow pe_int pe_int) (nomark _)) (pw_and1 (pt_cmpR op_gt (pe_ix ix_list (pv 0) pe_int (fun _ _ => rfl)) pe_int (nomark _)))))
      (pss_cons (ps_set (i := 3) sc__law_next.nd rfl (.inl rfl) (pe_ix ix_list (pv 0) pe_int (fun _ _ => rfl)))
        (pss_cons (ps_asg (pe_op op_fdivN (pv 3) (pv 1)) (pg_sub (pv 0) pe_int set_list))
        (pss_one (ps_ret (pe_op op_mod (pe_callTy call_int1 (by rfl) T.z_int (by decide +kernel) (pa_cons (pv 3) pa_nil)) (pv 1))))))
      pss_nil)
      (pss_cons (ps_set (i := 4) sc__law_next.nd rfl (.inl rfl) (pe_op op_mod (pe_callTy call_int1 (by rfl) T.z_int (by decide +kernel) (pa_cons (pe_op op_add (pe_op op_add (pe_ix ix_list (pv 0) pe_int (fun _ _ => rfl)) (pe_op op_mul pe_int (pv 2))) pe_int) pa_nil)) pe_int))
      (pss_cons (ps_set (i := 4) sc__law_next.nd rfl (.inl rfl) (pe_op op_mod (pe_callTy call_int1 (by rfl) T.z_int (by decide +kernel) (pa_cons (pe_op op_mul (pv 4) (pe_op op_add (pv 4) pe_int)) pa_nil)) pe_int))
      (pss_cons (ps_set (i := 4) sc__law_next.nd rfl (.inl rfl) (pe_op op_mod (pe_callTy call_int1 (by rfl) T.z_int (by decide +kernel) (pa_cons (pe_op op_add (pe_op op_mul (pv 4) (pe_op op_add (pv 4) pe_int)) (pe_op op_mul pe_int (pv 2))) pa_nil)) pe_int))
      (pss_one (ps_ret (pe_op op_mod (pe_callTy call_int1 (by rfl) T.z_int (by decide +kernel) (pa_cons (pe_op op_fdivN (pv 4) pe_int) pa_nil)) (pv 1)))))))))), ?_⟩
  obtain ⟨c, k, d, hR⟩ := hR
  -- k = reader[1]
  refine ⟨_, rfl, r, _, 1, _, rfl, rfl, SqL.of hR, g1, ?_⟩
  -- reader[1] = k + 1
  refine ⟨_, rfl, _, _, rfl, rfl, _, rfl, r, _, 1, 1, rfl, rfl, hR, rfl, ?_⟩
  -- reader[0] >= 10 ** 18 and reader[2] > 0
  refine ⟨_, rfl, r, _, 0, .int c, rfl, rfl, SqL.of upd_same, g0, _, _, rfl, rfl, ⟨by decide, by decide, by decide⟩, _, _, rfl, rfl, _, rfl, ?_⟩
  refine ite2 (fun e => ⟨_, rfl, r, _, 2, _, rfl, rfl, SqL.of upd_same, g2, _, _, rfl, rfl, _, rfl, ite2 (fun e2 => ?a) (fun e2 => ?b)⟩) (fun e => iteF ?b2)
  case a =>
    refine ⟨_, rfl, r, _, 2, _, rfl, rfl, SqL.of upd_same, g2, ?_⟩
    refine ⟨_, rfl, _, rfl, _, _, rfl, rfl, ⟨by omega, by omega⟩, _, rfl, r, _, 2, 2, rfl, rfl, upd_same, rfl, ?_⟩
    refine ⟨_, rfl, .inl ⟨_, rfl, _, rfl, _, _, rfl, rfl, h0, ?_⟩⟩
    exact q _ _ (Fr.trans Fr.upd Fr.upd) ⟨_, _, _, upd_same⟩ (mod_lt h0).1 (mod_lt h0).2
  all_goals
    refine ⟨_, rfl, r, _, 0, _, rfl, rfl, SqL.of upd_same, g0, _, rfl, _, _, rfl, rfl, .inl ⟨by decide, by decide⟩, _, _, rfl, rfl, _, _, rfl, rfl, .inl ⟨_, rfl, _, _, rfl, rfl, (show (0 : Int) < 2147483647 by decide), ?_⟩⟩
    refine ⟨_, rfl, _, rfl, _, _, rfl, rfl, _, _, rfl, rfl, .inl ⟨by omega, by omega⟩, .inl ⟨_, rfl, _, _, rfl, rfl, (show (0 : Int) < 2147483629 by decide), ?_⟩⟩
    refine ⟨_, rfl, _, rfl, _, _, rfl, rfl, _, _, rfl, rfl, .inl ⟨by omega, by omega⟩, _, rfl, _, _, rfl, rfl, .inl ⟨by decide, by decide⟩, _, _, rfl, rfl, .inl ⟨_, rfl, _, _, rfl, rfl, (show (0 : Int) < 2147483647 by decide), ?_⟩⟩
    refine ⟨_, rfl, _, _, rfl, rfl, ⟨by decide, by decide⟩, .inl ⟨_, rfl, _, rfl, _, _, rfl, rfl, h0, ?_⟩⟩
    exact q _ _ Fr.upd ⟨_, _, _, upd_same⟩ (mod_lt h0).1 (mod_lt h0).2


end
end Pf

namespace Pf
open PySem PySem.Spec PyProof.Rows L2
section
variable {P : Program} {w : World} {K : PySem.W.Frag} {mg : Str → Option Value} {base : Heap}
variable {c : Nat → Addr}
def sp__law_cell (K : PySem.W.Frag) : Sp := fun vs H Q _ => ∃ (a : Addr) (ns : List Int) (j : Nat), vs = [.ref a, .int (j : Int)] ∧ SqL K H a (ns.map V.int) ∧ ∀ c : Int, Q (.int c) H
theorem ok__law_cell (T : Txt P K mg c) : Has P w K mg base 1 "_law_cell" ["script", "k"] (sp__law_cell K) := by
  obtain ⟨f, fd, F, m, b⟩ := T.d__law_cell.ex
  refine ⟨f, fd, F.ok sc__law_cell (fun vs H Q E h => ?_) (fun cdv A outer s H vs Q E hr h => ?_), m, F.kp, b⟩
  · obtain ⟨a, ns, j, rfl, hS, q⟩ := h
    rfl
  obtain ⟨a, ns, j, rfl, hS, q⟩ := h
  refine ⟨_, (pss_cons (ps_if (pt_cmpR op_lt (pv 1) (pe_callB call_len_seq (by rfl) T.z_len (by decide +kernel) (pa_cons (pv 0) pa_nil)) (nomark _))
      (pss_one (ps_ret (pe_ix ix_list (pv 0) (pv 1) (fun _ _ => rfl))))
      pss_nil)
      (pss_one (ps_ret pe_int))), ?_⟩
  refine ⟨_, rfl, _, rfl, a, _, rfl, .inl hS, _, _, rfl, rfl, _, rfl, ite2 (fun e => ?_) (fun e => ?_)⟩
  · have e1 := dec_t e
    obtain ⟨x, h1, h2⟩ := at_in (xs := ns.map V.int) (i := (j : Int)) (by omega) e1
    rw [List.getElem?_map] at h1
    cases h3 : ns[(j : Int).toNat]? with
    | none => rw [h3] at h1; cases h1
    | some c =>
      rw [h3] at h1
      cases h1
      exact ⟨_, rfl, _, rfl, a, _, _, _, rfl, rfl, hS, h2, q c⟩
  · exact q 0

def sp__law_reader (K : PySem.W.Frag) : Sp := fun vs H Q _ => ∃ (c : Int), vs = [.int c] ∧ ∀ (p : Addr) H', H p = none → Same H H' → RD H' p → Q (.ref p) H'
theorem ok__law_reader (T : Txt P K mg c) : Has P w K mg base 1 "_law_reader" ["cell"] (sp__law_reader K) := by
  obtain ⟨f, fd, F, m, b⟩ := T.d__law_reader.ex
  refine ⟨f, fd, F.ok sc__law_reader (fun vs H Q E h => ?_) (fun cdv A outer s H vs Q E hr h => ?_), m, F.kp, b⟩
  · obtain ⟨c, rfl, q⟩ := h
    rfl
  obtain ⟨c, rfl, q⟩ := h
  refine ⟨_, (pss_one (ps_ret (pe_lst (pa_cons (pv 0) (pa_cons pe_int (pa_cons (pe_op op_sub (pv 0) (pe_op op_pow pe_int pe_int)) pa_nil)))))), ?_⟩
  refine ⟨_, rfl, _, rfl, _, _, rfl, rfl, ⟨by decide, by decide, by decide⟩, _, _, rfl, rfl, by show 3 ≤ sizeLine; decide, fun p hp => ?_⟩
  exact q p _ hp (same_new hp) ⟨_, _, _, upd_same⟩

theorem yes {p : Prop} [Decidable p] {A B : Prop} (h : p) (a : A) : if decide p = true then A else B := by
  rw [decide_eq_true h]
  exact iteT a
theorem nope {p : Prop} [Decidable p] {A B : Prop} (h : ¬ p) (b : B) : if decide p = true then A else B := by
  rw [decide_eq_false h]
  exact iteF b

/-- data without lists, of a depth -/
def tupOk : Nat → PyData → Prop
  | _, .none => True
  | _, .bool _ => True
  | _, .int _ => True
  | _, .str _ => True
  | n + 1, .tuple ds => ds.length ≤ 100000 ∧ ∀ d ∈ ds, tupOk n d
  | _, _ => False
def sp__law_same (K : PySem.W.Frag) (n : Nat) : Sp := fun vs H Q _ => ∃ (x y : V) (d : PyData), vs = [x, y] ∧ Dp K H x d ∧ Dp K H y d ∧ tupOk n d ∧ ∀ H', Same H H' → Q (.bl true) H'
theorem tyx_seq {K : PySem.W.Frag} {H : Hp} {a : Addr} {xs : List V} (h : SqT K H a xs) : TyX K H (.ref a) (.type "tuple") := by
  rcases h with (h | ⟨o, h⟩) | ⟨o, its, n, h, hc, _⟩
  · exact .base (.tup h)
  · exact .fTuple h
  · exact .kTuple h hc
theorem seqT_same {K : PySem.W.Frag} {H H' : Hp} {a : Addr} {xs : List V} (e : Same H H') (h : SqT K H a xs) : SqT K H' a xs := by
  rcases h with (h | ⟨o, h⟩) | h
  · exact .inl (.inl (e _ _ h))
  · exact .inl (.inr ⟨o, e _ _ h⟩)
  · exact .inr h
mutual
theorem dp_same {K : PySem.W.Frag} {H H' : Hp} (e : Same H H') : ∀ {v : V} {d : PyData}, Dp K H v d → Dp K H' v d
  | _, _, .non => .non
  | _, _, .bl b => .bl b
  | _, _, .int i => .int i
  | _, _, .str x => .str x
  | _, _, .lst h k => .lst (e.seq h) (dpa_same e k)
  | _, _, .tup h k => .tup (seqT_same e h) (dpa_same e k)
theorem dpa_same {K : PySem.W.Frag} {H H' : Hp} (e : Same H H') : ∀ {xs : List V} {ds : List PyData}, DpAll K H xs ds → DpAll K H' xs ds
  | _, _, .nil => .nil
  | _, _, .cons h k => .cons (dp_same e h) (dpa_same e k)
end
theorem dpa_len {K : PySem.W.Frag} {H : Hp} : ∀ {xs : List V} {ds : List PyData}, DpAll K H xs ds → xs.length = ds.length
  | _, _, .nil => rfl
  | _, _, .cons _ k => congrArg (· + 1) (dpa_len k)
theorem dpa_at {K : PySem.W.Frag} {H : Hp} : ∀ {xs : List V} {ds : List PyData} {i : Nat}, DpAll K H xs ds → i < ds.length → ∃ x d, xs[i]? = some x ∧ ds[i]? = some d ∧ Dp K H x d
  | _, _, _, .nil, h => absurd h (Nat.not_lt_zero _)
  | _, _, 0, .cons h _, _ => ⟨_, _, rfl, rfl, h⟩
  | _, _, i + 1, .cons _ k, h => dpa_at (i := i) k (Nat.lt_of_succ_lt_succ h)
theorem all_true (n : Nat) : (List.replicate n true).all id = true := by
  induction n with
  | zero => rfl
  | succ n ih => rw [List.replicate_succ, List.all_cons, ih]; rfl
theorem same_step {n : Nat} (T : Txt P K mg c) (R : Has P w K mg base (n + 2) "_law_same" ["told", "due"] (fun vs H Q E => ∃ m, n = m + 1 ∧ sp__law_same K m vs H Q E)) : Has P w K mg base (n + 3) "_law_same" ["told", "due"] (sp__law_same K n) := by
  obtain ⟨f__law_same, fd__law_same, G__law_same, m__law_same, k__law_same, b__law_same⟩ := R
  obtain ⟨f, fd, F, m, b⟩ := T.d__law_same.ex
  refine ⟨f, fd, F.ok sc__law_same (fun vs H Q E h => ?_) (fun cdv A outer s H vs Q E hr h => ?_), m, F.kp, b⟩
  · obtain ⟨x, y, d, rfl, hx, hy, hd, q⟩ := h
    rfl
  obtain ⟨x, y, d, rfl, hx, hy, hd, q⟩ := h
  refine ⟨_, (pss_cons (ps_if (pt_val (pe_callB call_isi (by rfl) T.z_isinstance (by decide +kernel) (pa_cons (pv 1) (pa_cons (pe_bltn (v := .ty "tuple") (by rfl) T.z_tuple (by decide +kernel) rfl) pa_nil))))
      (pss_cons (ps_if (PW.pt (pw_or (pt_not (pt_val (pe_callB call_isi (by rfl) T.z_isinstance (by decide +kernel) (pa_cons (pv 0) (pa_cons (pe_bltn (v := .ty "tuple") (by rfl) T.z_tuple (by decide +kernel) rfl) pa_nil))))) (pw_or1 (pt_cmpR op_ne (pe_callB call_len_seq (by rfl) T.z_len (by decide +kernel) (pa_cons (pv 0) pa_nil)) (pe_callB call_len_seq (by rfl) T.z_len (by decide +kernel) (pa_cons (pv 1) pa_nil)) (nomark _)))))
        (pss_one (ps_ret pe_bl))
        pss_nil)
        (pss_one (ps_ret (pe_callB (cr_all rfl) (by rfl) T.z_all (by decide +kernel) (pa_cons (pe_lc (own := [("k", 2)]) (g := gName 2) (by rfl) sc__law_same.nd (pi_range1 (by rfl) T.z_range (pa_cons (pe_callB call_len_seq (by rfl) T.z_len (by decide +kernel) (pa_cons (pv 1) pa_nil)) pa_nil)) (blkOk_by (own := [("k", 2)]) (N := ["told", "due", "k"]) (sc := defScope s__law_same) (by decide +kernel)) (fun _ _ _ _ _ => pg_name (i := 2) sc__law_same.nd rfl (Or.inl rfl)) (fun _ _ _ _ _ => pts_nil) (fun _ _ _ _ _ => (pe_call G__law_same (hr.mono (by omega)) (by rfl) m__law_same k__law_same b__law_same .nil pass0 (pa_cons (pe_ix (ix_tupK (K := K) rfl) (pv 0) (pv 2) (fun _ _ => rfl)) (pa_cons (pe_ix (ix_tupK (K := K) rfl) (pv 1) (pv 2) (fun _ _ => rfl)) pa_nil))))) pa_nil)))))
      pss_nil)
      (pss_cons (ps_if (pt_cmpR op_isN (pv 1) pe_non (nomark _))
      (pss_one (ps_ret (pe_cmpR op_isN (pv 0) pe_non (nomark _))))
      pss_nil)
      (pss_cons (ps_if (pt_val (pe_callB call_isi (by rfl) T.z_isinstance (by decide +kernel) (pa_cons (pv 1) (pa_cons (pe_bltn (v := .ty "str") (by rfl) T.z_str (by decide +kernel) rfl) pa_nil))))
      (pss_one (ps_ret (pe_and (pe_callB call_isi (by rfl) T.z_isinstance (by decide +kernel) (pa_cons (pv 0) (pa_cons (pe_bltn (v := .ty "str") (by rfl) T.z_str (by decide +kernel) rfl) pa_nil))) (pe_one (pe_cmpR op_eq (pv 0) (pv 1) (nomark _))))))
      pss_nil)
      (pss_cons (ps_if (PW.pt (pw_or (pt_val (pe_callB call_isi (by rfl) T.z_isinstance (by decide +kernel) (pa_cons (pv 0) (pa_cons (pe_bltn (v := .ty "bool") (by rfl) T.z_bool (by decide +kernel) rfl) pa_nil)))) (pw_or1 (pt_val (pe_callB call_isi (by rfl) T.z_isinstance (by decide +kernel) (pa_cons (pv 1) (pa_cons (pe_bltn (v := .ty "bool") (by rfl) T.z_bool (by decide +kernel) rfl) pa_nil)))))))
      (pss_one (ps_ret (pe_and (pe_callB call_isi (by rfl) T.z_isinstance (by decide +kernel) (pa_cons (pv 0) (pa_cons (pe_bltn (v := .ty "bool") (by rfl) T.z_bool (by decide +kernel) rfl) pa_nil))) (pe_and (pe_callB call_isi (by rfl) T.z_isinstance (by decide +kernel) (pa_cons (pv 1) (pa_cons (pe_bltn (v := .ty "bool") (by rfl) T.z_bool (by decide +kernel) rfl) pa_nil))) (pe_one (pe_cmpR op_eq (pv 0) (pv 1) (nomark _)))))))
      pss_nil)
      (pss_one (ps_ret (pe_and (pe_callB call_isi (by rfl) T.z_isinstance (by decide +kernel) (pa_cons (pv 0) (pa_cons (pe_bltn (v := .ty "int") (by rfl) T.z_int (by decide +kernel) rfl) pa_nil))) (pe_one (pe_cmpR op_eq (pv 0) (pv 1) (nomark _)))))))))), ?_⟩
  cases hy with
  | non =>
    cases hx
    refine ⟨_, rfl, _, _, _, _, _, rfl, .ty _, .base .non, kit_ty (by decide +kernel), _, rfl, iteF ?_⟩
    refine ⟨_, rfl, rfl, _, rfl, yes rfl ?_⟩
    exact ⟨_, rfl, rfl, q H (Same.refl H)⟩
  | str z =>
    cases hx
    refine ⟨_, rfl, _, _, _, _, _, rfl, .ty _, .base (.str z), kit_ty (by decide +kernel), _, rfl, iteF ?_⟩
    refine ⟨_, rfl, rfl, _, rfl, nope (fun e => nomatch e) ?_⟩
    refine ⟨_, rfl, _, _, _, _, _, rfl, .ty _, .base (.str z), kit_ty (by decide +kernel), _, rfl, iteT ?_⟩
    refine ⟨_, rfl, _, _, _, _, _, rfl, .ty _, .base (.str z), kit_ty (by decide +kernel), _, rfl, iteT ?_⟩
    refine ⟨_, rfl, _, rfl, rfl, ?_⟩
    rw [decide_eq_true (rfl : V.str z = V.str z)]
    exact q H (Same.refl H)
  | bl z =>
    cases hx
    refine ⟨_, rfl, _, _, _, _, _, rfl, .ty _, .base (.bl z), kit_ty (by decide +kernel), _, rfl, iteF ?_⟩
    refine ⟨_, rfl, rfl, _, rfl, nope (fun e => nomatch e) ?_⟩
    refine ⟨_, rfl, _, _, _, _, _, rfl, .ty _, .base (.bl z), kit_ty (by decide +kernel), _, rfl, iteF ?_⟩
    refine ⟨_, rfl, _, _, _, _, _, rfl, .ty _, .base (.bl z), kit_ty (by decide +kernel), _, rfl, iteT (iteT ?_)⟩
    refine ⟨_, rfl, _, _, _, _, _, rfl, .ty _, .base (.bl z), kit_ty (by decide +kernel), _, rfl, iteT ?_⟩
    refine ⟨_, rfl, _, _, _, _, _, rfl, .ty _, .base (.bl z), kit_ty (by decide +kernel), _, rfl, iteT ?_⟩
    refine ⟨_, rfl, _, rfl, rfl, ?_⟩
    rw [decide_eq_true (rfl : V.bl z = V.bl z)]
    exact q H (Same.refl H)
  | int z =>
    cases hx
    refine ⟨_, rfl, _, _, _, _, _, rfl, .ty _, .base (.int z), kit_ty (by decide +kernel), _, rfl, iteF ?_⟩
    refine ⟨_, rfl, rfl, _, rfl, nope (fun e => nomatch e) ?_⟩
    refine ⟨_, rfl, _, _, _, _, _, rfl, .ty _, .base (.int z), kit_ty (by decide +kernel), _, rfl, iteF ?_⟩
    refine ⟨_, rfl, _, _, _, _, _, rfl, .ty _, .base (.int z), kit_ty (by decide +kernel), _, rfl, iteF ?_⟩
    refine ⟨_, rfl, _, _, _, _, _, rfl, .ty _, .base (.int z), kit_ty (by decide +kernel), _, rfl, iteF ?_⟩
    refine ⟨_, rfl, _, _, _, _, _, rfl, .ty _, .base (.int z), kit_ty (by decide +kernel), _, rfl, iteT ?_⟩
    refine ⟨_, rfl, _, rfl, rfl, ?_⟩
    rw [decide_eq_true (rfl : V.int z = V.int z)]
    exact q H (Same.refl H)
  | lst _ _ => cases n <;> exact hd.elim
  | @tup a xs ds ha hxs =>
    obtain _ | m := n
    · exact hd.elim
    obtain ⟨hdl, hd⟩ := hd
    cases hx with
    | @tup b ys _ hb hys =>
    have lx := dpa_len hxs
    have ly := dpa_len hys
    refine ⟨_, rfl, _, _, _, _, _, rfl, .ty _, tyx_seq ha, kit_ty (r := true) (by decide +kernel), _, rfl, iteT ?_⟩
    -- not isinstance(told, tuple) or len(told) != len(due)
    refine ⟨_, rfl, _, _, _, _, _, rfl, .ty _, tyx_seq hb, kit_ty (r := true) (by decide +kernel), _, rfl, iteF ?_⟩
    refine ⟨_, rfl, b, _, rfl, .inr hb, _, rfl, a, _, rfl, .inr ha, rfl, _, rfl, ?_⟩
    rw [lx, ly, decide_eq_true (rfl : V.int ((ds.length : Nat) : Int) = V.int ((ds.length : Nat) : Int))]
    refine iteF ?_
    -- all([..])
    refine ⟨_, rfl, a, _, rfl, .inr ha, ((xs.length : Nat) : Int), rfl, by omega, by omega, fun D nD => ?_⟩
    rw [lx]
    refine lc_range (lo := 0) (fun i H' => Same H H' ∧ H' D = some (.lst ((List.replicate i true).map V.bl))) ⟨same_new nD, upd_same⟩ (fun i H' hi h => ?_) (fun H' h => ?_)
    · obtain ⟨s1, hD⟩ := h
      have hi2 : i < ds.length := by simpa using hi
      obtain ⟨x1, d1, e1, e2, p1⟩ := dpa_at hxs hi2
      obtain ⟨x2, d2, e3, e4, p2⟩ := dpa_at hys hi2
      rw [e2] at e4
      cases e4
      have gi : (0 : Int) + (i : Int) = (i : Int) := Int.zero_add _
      refine ⟨rfl, ?_⟩
      refine ⟨_, rfl, _, rfl, b, _, _, x2, rfl, rfl, seqT_same s1 hb, ?_, _, rfl, _, rfl, a, _, _, x1, rfl, rfl, seqT_same s1 ha, ?_, ?_⟩
      · rw [gi]
        exact atI_nat e3
      · rw [gi]
        exact atI_nat e1
      refine ⟨m, rfl, x2, x1, d1, rfl, dp_same s1 p2, dp_same s1 p1, hd d1 (List.mem_of_getElem? e2), fun H2 s2 => ?_⟩
      refine ⟨_, s2 _ _ hD, ?_, ⟨same_mut (s1.trans s2) nD, ?_⟩⟩
      · rw [List.length_map, List.length_replicate]
        exact Nat.lt_of_lt_of_le (Nat.lt_of_lt_of_le hi2 hdl) (by decide)
      · rw [upd_same, List.replicate_succ', List.map_append]
        rfl
    · obtain ⟨s1, hD⟩ := h
      refine ⟨D, _, rfl, SqL.of hD, ?_⟩
      rw [all_true]
      exact q H' s1
theorem ok__law_same (T : Txt P K mg c) : ∀ n : Nat, Has P w K mg base (n + 3) "_law_same" ["told", "due"] (sp__law_same K n)
| 0 => same_step T (.none T.d__law_same fun vs H Q E ⟨m, h, _⟩ => by cases h)
| n + 1 => same_step T (by
  obtain ⟨f, fd, G, r⟩ := ok__law_same T n
  exact ⟨f, fd, G.imp fun vs H Q E ⟨m', h, k⟩ => by cases h; exact k, r⟩)

/-! ### lists of ints, of texts, as data -/
theorem lay_ints : ∀ ns : List Int, PyData.canLayAll0 (ns.map PyData.int) = true
  | [] => by simp [PyData.canLayAll0]
  | n :: ns => by simp [PyData.canLayAll0, PyData.canLay0, lay_ints ns]
theorem lay_strs : ∀ ws : List Str, (∀ x ∈ ws, PyData.strOk x = true) → PyData.canLayAll0 (ws.map PyData.str) = true
  | [], _ => by simp [PyData.canLayAll0]
  | n :: ns, h => by simp [PyData.canLayAll0, PyData.canLay0, lay_strs ns fun x hx => h x (List.mem_cons_of_mem _ hx), h n List.mem_cons_self]
theorem dep_ints : ∀ ns : List Int, PyData.depthAll (ns.map PyData.int) ≤ 1
  | [] => by simp [PyData.depthAll]
  | n :: ns => by
    have h := dep_ints ns
    simp only [List.map_cons, PyData.depthAll, PyData.depth]
    omega
theorem dep_strs : ∀ ws : List Str, PyData.depthAll (ws.map PyData.str) ≤ 1
  | [] => by simp [PyData.depthAll]
  | n :: ns => by
    have h := dep_strs ns
    simp only [List.map_cons, PyData.depthAll, PyData.depth]
    omega
theorem shaped_lst {ds : List PyData} (h : PyData.canLayAll0 ds = true) (d : PyData.depthAll ds ≤ 60) : SeqAt.shaped (.list ds) = true := by
  show (PyData.canLay0 (.list ds) && decide (PyData.depth (.list ds) ≤ 64)) = true
  rw [Bool.and_eq_true]
  refine ⟨by simp only [PyData.canLay0]; exact h, decide_eq_true ?_⟩
  simp only [PyData.depth]
  omega
theorem shaped_ints (ns : List Int) : SeqAt.shaped (.list (ns.map PyData.int)) = true := shaped_lst (lay_ints ns) (Nat.le_trans (dep_ints ns) (by decide))
theorem shaped_strs {ws : List Str} (h : ∀ x ∈ ws, PyData.strOk x = true) : SeqAt.shaped (.list (ws.map PyData.str)) = true := shaped_lst (lay_strs ws h) (Nat.le_trans (dep_strs ws) (by decide))
theorem eqv_self {d : PyData} (h : SeqAt.shaped d = true) : PyData.eqv d d = true := SeqAt.eqv_refl d (SeqAt.canLay_of_shaped h)
theorem dpa_ints {K : PySem.W.Frag} {H : Hp} : ∀ ns : List Int, DpAll K H (ns.map V.int) (ns.map PyData.int)
  | [] => .nil
  | n :: ns => .cons (.int n) (dpa_ints ns)
theorem dpa_strs {K : PySem.W.Frag} {H : Hp} : ∀ ws : List Str, DpAll K H (ws.map V.str) (ws.map PyData.str)
  | [] => .nil
  | n :: ns => .cons (.str n) (dpa_strs ns)


end
end Pf

namespace Pf
open PySem PySem.Spec PyProof.Rows L2
section
variable {P : Program} {w : World} {K : PySem.W.Frag} {mg : Str → Option Value} {base : Heap}
variable {c : Nat → Addr}
/-! ### expressions -/
inductive Ex where
  | num (n : Int)
  | nam (x : Str)
  | not (e : Ex)
  | bin (o : Nat) (l r : Ex)
def opS : Nat → Str
  | 0 => "+"
  | 1 => "-"
  | 2 => "*"
  | 3 => "=="
  | 4 => "<"
  | 5 => "and"
  | _ => "or"
def tr (b : Bool) : Int := if b = true then 1 else 0
def opv (o : Nat) (i j : Int) : Int := match o with
  | 0 => i + j
  | 1 => i - j
  | 2 => i * j
  | 3 => tr (decide (V.int i = V.int j))
  | 4 => tr (decide (i < j))
  | 5 => tr ((!decide (V.int i = V.int 0)) && !decide (V.int j = V.int 0))
  | _ => tr ((!decide (V.int i = V.int 0)) || !decide (V.int j = V.int 0))
def Ex.ev (env : Str → Int) : Ex → Int
  | .num n => n
  | .nam x => env x
  | .not e => tr (decide (V.int (e.ev env) = V.int 0))
  | .bin o l r => opv o (l.ev env) (r.ev env)
def Ex.depth : Ex → Nat
  | .num _ => 1
  | .nam _ => 1
  | .not e => e.depth + 1
  | .bin _ l r => max l.depth r.depth + 1
theorem Ex.depth_pos : ∀ e : Ex, 0 < e.depth
  | .num _ => Nat.one_pos
  | .nam _ => Nat.one_pos
  | .not _ => Nat.succ_pos _
  | .bin _ _ _ => Nat.succ_pos _
/-- its names lie in ws -/
def Ex.In (ws : List Str) : Ex → Prop
  | .num _ => True
  | .nam x => x ∈ ws
  | .not e => e.In ws
  | .bin _ l r => l.In ws ∧ r.In ws
/-- its numbers are at most b -/
def Ex.Nums (b : Nat) : Ex → Prop
  | .num n => n.natAbs ≤ b
  | .nam _ => True
  | .not e => e.Nums b
  | .bin _ l r => l.Nums b ∧ r.Nums b
def MulOk (o : Nat) (i : Int) : Prop := o = 2 → -(2 ^ 64) < i ∧ i < 2 ^ 64
def Ex.Mul (env : Str → Int) : Ex → Prop
  | .num _ => True
  | .nam _ => True
  | .not e => e.Mul env
  | .bin o l r => l.Mul env ∧ r.Mul env ∧ MulOk o (l.ev env)
/-- the tuple that is the expression -/
def ExIn (H : Hp) : Ex → V → Prop
  | .num n, v => ∃ a, v = .ref a ∧ H a = some (.tup [.str "number", .int n])
  | .nam x, v => ∃ a, v = .ref a ∧ H a = some (.tup [.str "name", .str x])
  | .not e, v => ∃ a y, v = .ref a ∧ H a = some (.tup [.str "not", y]) ∧ ExIn H e y
  | .bin o l r, v => ∃ a y z, v = .ref a ∧ H a = some (.tup [.str (opS o), y, z]) ∧ ExIn H l y ∧ ExIn H r z
theorem ExIn.mono {H H' : Hp} (t : Tp H H') : ∀ {e : Ex} {v : V}, ExIn H e v → ExIn H' e v
  | .num _, _, ⟨a, h, k⟩ => ⟨a, h, t _ _ k⟩
  | .nam _, _, ⟨a, h, k⟩ => ⟨a, h, t _ _ k⟩
  | .not e, _, ⟨a, y, h, k, q⟩ => ⟨a, y, h, t _ _ k, ExIn.mono t q⟩
  | .bin o l r, _, ⟨a, y, z, h, k, p, q⟩ => ⟨a, y, z, h, t _ _ k, ExIn.mono t p, ExIn.mono t q⟩
/-- the bound of a value by the depth -/
def bnd : Nat → Nat
  | 0 => 9
  | d + 1 => bnd d * bnd d
theorem bnd_ge : ∀ d, 9 ≤ bnd d
  | 0 => Nat.le_refl _
  | d + 1 => by
    have h := bnd_ge d
    exact Nat.le_trans h (Nat.le_mul_of_pos_right _ (by omega))
theorem bnd_mono : ∀ {a b : Nat}, a ≤ b → bnd a ≤ bnd b := by
  intro a b h
  induction h with
  | refl => exact Nat.le_refl _
  | step _ ih =>
    refine Nat.le_trans ih ?_
    rename_i m _
    exact Nat.le_mul_of_pos_right _ (by have := bnd_ge m; omega)
theorem tr_abs (b : Bool) : (tr b).natAbs ≤ 1 := by cases b <;> decide
theorem opv_abs {o : Nat} {i j : Int} {n : Nat} (hn : 9 ≤ n) (hi : i.natAbs ≤ n) (hj : j.natAbs ≤ n) : (opv o i j).natAbs ≤ n * n := by
  have h9 : n + n ≤ n * n := by
    have : 2 * n ≤ n * n := Nat.mul_le_mul_right n (by omega)
    omega
  unfold opv
  split
  · omega
  · omega
  · rw [Int.natAbs_mul]
    exact Nat.mul_le_mul hi hj
  all_goals exact Nat.le_trans (tr_abs _) (by omega)
theorem ev_abs {env : Str → Int} (he : ∀ x, (env x).natAbs ≤ 9) : ∀ {e : Ex} {d : Nat}, e.depth ≤ d + 1 → e.Nums 9 → (e.ev env).natAbs ≤ bnd d
  | .num n, d, _, hn => Nat.le_trans hn (bnd_ge d)
  | .nam x, d, _, _ => Nat.le_trans (he x) (bnd_ge d)
  | .not e, d, _, _ => Nat.le_trans (tr_abs _) (by have := bnd_ge d; omega)
  | .bin o l r, 0, h, _ => by
    have h1 := l.depth_pos
    have : max l.depth r.depth + 1 ≤ 1 := h
    omega
  | .bin o l r, d + 1, h, hn => by
    have hh : max l.depth r.depth + 1 ≤ d + 1 + 1 := h
    exact opv_abs (bnd_ge d) (ev_abs he (by omega) hn.1) (ev_abs he (by omega) hn.2)
theorem mul_of {env : Str → Int} (he : ∀ x, (env x).natAbs ≤ 9) : ∀ {e : Ex}, e.depth ≤ 5 → e.Nums 9 → e.Mul env
  | .num _, _, _ => True.intro
  | .nam _, _, _ => True.intro
  | .not e, h, hn => mul_of (e := e) he (by have : e.depth + 1 ≤ 5 := h; omega) hn
  | .bin o l r, h, hn => by
    have hh : max l.depth r.depth + 1 ≤ 5 := h
    refine ⟨mul_of he (by omega) hn.1, mul_of he (by omega) hn.2, fun _ => ?_⟩
    have q := ev_abs he (e := l) (d := 3) (by omega) hn.1
    have z : bnd 3 < 2 ^ 64 := by decide
    omega
/-- a part -/
inductive Ex.Sub : Ex → Ex → Prop where
  | refl (e : Ex) : Sub e e
  | not {e f : Ex} : Sub f e → Sub f (.not e)
  | l {o : Nat} {f l r : Ex} : Sub f l → Sub f (.bin o l r)
  | r {o : Nat} {f l r : Ex} : Sub f r → Sub f (.bin o l r)
theorem Ex.Sub.keep {P : Ex → Prop} (hn : ∀ e, P (.not e) → P e) (hl : ∀ o l r, P (.bin o l r) → P l ∧ P r) {f e : Ex} (s : Ex.Sub f e) (h : P e) : P f := by
  induction s with
  | refl => exact h
  | not _ ih => exact ih (hn _ h)
  | l _ ih => exact ih (hl _ _ _ h).1
  | r _ ih => exact ih (hl _ _ _ h).2
/-- names and their values -/
def EnvOk (ws : List Str) (ns : List Int) (env : Str → Int) : Prop := ∀ x ∈ ws, ∃ j : Nat, ws[j]? = some x ∧ (∀ m z, m < j → ws[m]? = some z → z ≠ x) ∧ ns[j]? = some (env x)
def envL : List Str → List Int → Str → Int
  | w :: ws, n :: ns, x => if w = x then n else envL ws ns x
  | _, _, _ => 0
theorem envL_ok : ∀ {ws : List Str} {ns : List Int}, ws.length = ns.length → EnvOk ws ns (envL ws ns)
  | [], _, _ => fun x h => absurd h (List.not_mem_nil)
  | w :: ws, [], h => by cases h
  | w :: ws, n :: ns, h => fun x hx => by
    by_cases e : w = x
    · subst e
      exact ⟨0, rfl, fun m z hm => absurd hm (Nat.not_lt_zero m), by show some n = some (envL (w :: ws) (n :: ns) w); unfold envL; rw [if_pos rfl]⟩
    · have hx' : x ∈ ws := by
        rcases List.mem_cons.mp hx with z | z
        · exact absurd z.symm e
        · exact z
      obtain ⟨j, h1, h2, h3⟩ := envL_ok (ws := ws) (ns := ns) (by simpa using h) x hx'
      refine ⟨j + 1, h1, fun m z hm hz => ?_, ?_⟩
      · cases m with
        | zero =>
          have : w = z := Option.some.inj hz
          exact this ▸ e
        | succ m => exact h2 m z (by omega) hz
      · rw [show envL (w :: ws) (n :: ns) x = envL ws ns x by
          show (if w = x then n else envL ws ns x) = _
          rw [if_neg e]]
        exact h3
theorem envL_abs {b : Nat} : ∀ {ws : List Str} {ns : List Int}, (∀ n ∈ ns, n.natAbs ≤ b) → ∀ x, (envL ws ns x).natAbs ≤ b
  | [], _, _, x => by
    unfold envL
    exact Nat.zero_le _
  | _ :: _, [], _, x => by
    unfold envL
    exact Nat.zero_le _
  | w :: ws, n :: ns, h, x => by
    show (if w = x then n else envL ws ns x).natAbs ≤ b
    split
    · exact h n List.mem_cons_self
    · exact envL_abs (fun m hm => h m (List.mem_cons_of_mem _ hm)) x
/-- a list or tuple of names, of ints -/
def NmSeq (K : PySem.W.Frag) (H : Hp) (p : Addr) (ws : List Str) : Prop := SqL K H p (ws.map V.str) ∨ ∃ o, H p = some (.frz o (.tup (ws.map V.str))) ∧ o.cls = .type "tuple" ∧ o.dict = none
def IntSeq (K : PySem.W.Frag) (H : Hp) (p : Addr) (ns : List Int) : Prop := SqL K H p (ns.map V.int) ∨ SqT K H p (ns.map V.int)
theorem t0 {x y : V} : atI [x, y] 0 = some x := atI_nat (j := 0) rfl
theorem t1 {x y : V} : atI [x, y] 1 = some y := atI_nat (j := 1) rfl
theorem u0 {x y z : V} : atI [x, y, z] 0 = some x := atI_nat (j := 0) rfl
theorem u1 {x y z : V} : atI [x, y, z] 1 = some y := atI_nat (j := 1) rfl
theorem u2 {x y z : V} : atI [x, y, z] 2 = some z := atI_nat (j := 2) rfl
theorem seqT {K : PySem.W.Frag} {H : Hp} {a : Addr} {xs : List V} (h : H a = some (.tup xs)) : SqT K H a xs := Or.inl (Or.inl h)
theorem op_num (o : Nat) : ¬ V.str (opS o) = V.str "number" := by
  obtain _ | _ | _ | _ | _ | _ | o := o
  all_goals first | decide +kernel | exact (by decide +kernel : ¬ V.str "or" = V.str "number")
theorem op_nam (o : Nat) : ¬ V.str (opS o) = V.str "name" := by
  obtain _ | _ | _ | _ | _ | _ | o := o
  all_goals first | decide +kernel | exact (by decide +kernel : ¬ V.str "or" = V.str "name")
theorem op_not (o : Nat) : ¬ V.str (opS o) = V.str "not" := by
  obtain _ | _ | _ | _ | _ | _ | o := o
  all_goals first | decide +kernel | exact (by decide +kernel : ¬ V.str "or" = V.str "not")
theorem op_in (o : Nat) : inV (.str (opS o)) [.str "number", .str "name"] = false := by
  obtain _ | _ | _ | _ | _ | _ | o := o
  all_goals first | decide +kernel | exact (by decide +kernel : inV (.str "or") [.str "number", .str "name"] = false)

mutual
def frz : PyData → PyData
  | .list ds => .tuple (frzs ds)
  | .tuple ds => .tuple (frzs ds)
  | d => d
def frzs : List PyData → List PyData
  | [] => []
  | d :: ds => frz d :: frzs ds
end
theorem frzs_map : ∀ ds : List PyData, frzs ds = ds.map frz
  | [] => by simp [frzs]
  | d :: ds => by simp [frzs, frzs_map ds]
/-- data of a depth -/
def datOk : Nat → PyData → Prop
  | _, .none => True
  | _, .bool _ => True
  | _, .int _ => True
  | _, .str _ => True
  | n + 1, .list ds => ds.length ≤ 1000 ∧ ∀ d ∈ ds, datOk n d
  | n + 1, .tuple ds => ds.length ≤ 1000 ∧ ∀ d ∈ ds, datOk n d
  | _, _ => False

mutual
inductive Dl (K : PySem.W.Frag) (H : Hp) : V → PyData → Prop
  | non : Dl K H .non .none
  | bl (b : Bool) : Dl K H (.bl b) (.bool b)
  | int (i : Int) : Dl K H (.int i) (.int i)
  | str (x : Str) : Dl K H (.str x) (.str x)
  | lst {a : Addr} {xs : List V} {ds : List PyData} : H a = some (.lst xs) → DlAll K H xs ds → Dl K H (.ref a) (.list ds)
  | tup {a : Addr} {xs : List V} {ds : List PyData} : SqT K H a xs → DlAll K H xs ds → Dl K H (.ref a) (.tuple ds)
inductive DlAll (K : PySem.W.Frag) (H : Hp) : List V → List PyData → Prop
  | nil : DlAll K H [] []
  | cons {v : V} {vs : List V} {d : PyData} {ds : List PyData} : Dl K H v d → DlAll K H vs ds → DlAll K H (v :: vs) (d :: ds)
end
mutual
theorem dl_same {K : PySem.W.Frag} {H H' : Hp} (e : Same H H') : ∀ {v : V} {d : PyData}, Dl K H v d → Dl K H' v d
  | _, _, .non => .non
  | _, _, .bl b => .bl b
  | _, _, .int i => .int i
  | _, _, .str x => .str x
  | _, _, .lst h k => .lst (e _ _ h) (dla_same e k)
  | _, _, .tup h k => .tup (seqT_same e h) (dla_same e k)
theorem dla_same {K : PySem.W.Frag} {H H' : Hp} (e : Same H H') : ∀ {xs : List V} {ds : List PyData}, DlAll K H xs ds → DlAll K H' xs ds
  | _, _, .nil => .nil
  | _, _, .cons h k => .cons (dl_same e h) (dla_same e k)
end
theorem dla_len {K : PySem.W.Frag} {H : Hp} : ∀ {xs : List V} {ds : List PyData}, DlAll K H xs ds → xs.length = ds.length
  | _, _, .nil => rfl
  | _, _, .cons _ k => congrArg (· + 1) (dla_len k)
theorem dla_at {K : PySem.W.Frag} {H : Hp} : ∀ {xs : List V} {ds : List PyData} {i : Nat} {x : V}, DlAll K H xs ds → xs[i]? = some x → ∃ d, ds[i]? = some d ∧ Dl K H x d
  | _, _, _, _, .nil, h => by simp at h
  | _, _, 0, _, .cons h _, e => by
    have e' := Option.some.inj e
    subst e'
    exact ⟨_, rfl, h⟩
  | _, _, i + 1, _, .cons _ k, e => dla_at (i := i) k e
def sp_frozen (K : PySem.W.Frag) (n : Nat) : Sp := fun vs H Q _ => ∃ (v : V) (d : PyData), vs = [v] ∧ Dl K H v d ∧ datOk n d ∧ ∀ (v' : V) (H' : Hp), Same H H' → Dp K H' v' (frz d) → Q v' H'
theorem dpa_app {K : PySem.W.Frag} {H : Hp} {v : V} {d : PyData} : ∀ {xs : List V} {ds : List PyData}, DpAll K H xs ds → Dp K H v d → DpAll K H (xs ++ [v]) (ds ++ [d])
  | _, _, .nil, h => .cons h .nil
  | _, _, .cons k l, h => .cons k (dpa_app l h)
theorem seqT_mut {K : PySem.W.Frag} {H : Hp} {D a : Addr} {ys xs : List V} {o : HO} (e : H D = some (.lst ys)) (h : SqT K H a xs) : SqT K (upd H D o) a xs := by
  rcases h with (h | ⟨o', h⟩) | h
  · refine .inl (.inl ((upd_ne fun z => ?_).trans h))
    subst z
    rw [e] at h
    cases h
  · refine .inl (.inr ⟨o', (upd_ne fun z => ?_).trans h⟩)
    subst z
    rw [e] at h
    cases h
  · exact .inr h
theorem two_cls : Paired ClsV [V.ty "list", V.ty "tuple"] [Value.type "list", Value.type "tuple"] := .cons (.ty _) (.cons (.ty _) .nil)
theorem kitA2 {K : PySem.W.Frag} {t : Value} {b1 b2 : Bool} (h1 : PySem.W.kitOne K t (.type "list") = some b1) (h2 : PySem.W.kitOne K t (.type "tuple") = some b2) : PySem.W.kitAny K t [.type "list", .type "tuple"] = some (b1 || b2) :=
  kitAny_cons h1 (fun e => kitAny_cons h2 (fun e2 => by rw [e, e2]; exact kitAny_nil) (fun e2 => by rw [e, e2]; rfl)) (fun e => by rw [e]; rfl)
def lt2 : List Value := [.type "list", .type "tuple"]
theorem kl_non {K : PySem.W.Frag} : PySem.W.kitAny K (.type "NoneType") [.type "list", .type "tuple"] = some false := kitA2 (kit_ty (r := false) (by decide +kernel)) (kit_ty (r := false) (by decide +kernel))
theorem kl_bool {K : PySem.W.Frag} : PySem.W.kitAny K (.type "bool") [.type "list", .type "tuple"] = some false := kitA2 (kit_ty (r := false) (by decide +kernel)) (kit_ty (r := false) (by decide +kernel))
theorem kl_int {K : PySem.W.Frag} : PySem.W.kitAny K (.type "int") [.type "list", .type "tuple"] = some false := kitA2 (kit_ty (r := false) (by decide +kernel)) (kit_ty (r := false) (by decide +kernel))
theorem kl_str {K : PySem.W.Frag} : PySem.W.kitAny K (.type "str") [.type "list", .type "tuple"] = some false := kitA2 (kit_ty (r := false) (by decide +kernel)) (kit_ty (r := false) (by decide +kernel))
theorem kl_list {K : PySem.W.Frag} : PySem.W.kitAny K (.type "list") [.type "list", .type "tuple"] = some true := kitA2 (kit_ty (r := true) (by decide +kernel)) (kit_ty (r := false) (by decide +kernel))
theorem kl_tup {K : PySem.W.Frag} : PySem.W.kitAny K (.type "tuple") [.type "list", .type "tuple"] = some true := kitA2 (kit_ty (r := false) (by decide +kernel)) (kit_ty (r := true) (by decide +kernel))
mutual
theorem dp_mut {K : PySem.W.Frag} {H : Hp} {D : Addr} {ys : List V} {o : HO} (e : H D = some (.lst ys)) : ∀ {v : V} {d : PyData} (n : Nat), tupOk n d → Dp K H v d → Dp K (upd H D o) v d
  | _, _, _, _, .non => .non
  | _, _, _, _, .bl b => .bl b
  | _, _, _, _, .int i => .int i
  | _, _, _, _, .str x => .str x
  | _, _, 0, h, .lst _ _ => h.elim
  | _, _, _ + 1, h, .lst _ _ => h.elim
  | _, _, 0, h, .tup _ _ => h.elim
  | _, _, n + 1, h, .tup q k => .tup (seqT_mut e q) (dpa_mut e n h.2 k)
theorem dpa_mut {K : PySem.W.Frag} {H : Hp} {D : Addr} {ys : List V} {o : HO} (e : H D = some (.lst ys)) : ∀ {xs : List V} {ds : List PyData} (n : Nat), (∀ d ∈ ds, tupOk n d) → DpAll K H xs ds → DpAll K (upd H D o) xs ds
  | _, _, _, _, .nil => .nil
  | _, _, n, h, .cons p k => .cons (dp_mut e n (h _ List.mem_cons_self) p) (dpa_mut e n (fun d hd => h d (List.mem_cons_of_mem _ hd)) k)
end
theorem frz_ok : ∀ (n : Nat) (d : PyData), datOk n d → tupOk n (frz d)
  | 0, .none, _ => by simp [frz, tupOk]
  | 0, .bool _, _ => by simp [frz, tupOk]
  | 0, .int _, _ => by simp [frz, tupOk]
  | 0, .str _, _ => by simp [frz, tupOk]
  | n + 1, .none, _ => by simp [frz, tupOk]
  | n + 1, .bool _, _ => by simp [frz, tupOk]
  | n + 1, .int _, _ => by simp [frz, tupOk]
  | n + 1, .str _, _ => by simp [frz, tupOk]
  | n + 1, .list ds, h => by
    rw [frz, frzs_map]
    refine ⟨by rw [List.length_map]; exact Nat.le_trans h.1 (by decide), fun d hd => ?_⟩
    obtain ⟨d', hd', rfl⟩ := List.mem_map.mp hd
    exact frz_ok n d' (h.2 d' hd')
  | n + 1, .tuple ds, h => by
    rw [frz, frzs_map]
    refine ⟨by rw [List.length_map]; exact Nat.le_trans h.1 (by decide), fun d hd => ?_⟩
    obtain ⟨d', hd', rfl⟩ := List.mem_map.mp hd
    exact frz_ok n d' (h.2 d' hd')
theorem take_frz {ds : List PyData} {i : Nat} {d : PyData} (h : ds[i]? = some d) : (ds.take i).map frz ++ [frz d] = (ds.take (i + 1)).map frz := by
  obtain ⟨hi, e⟩ := List.getElem?_eq_some_iff.mp h
  rw [List.take_succ, List.map_append, h]
  rfl
theorem frozen_step {n : Nat} (T : Txt P K mg c) (R : Has P w K mg base (n + 1) "frozen" ["value"] (fun vs H Q E => ∃ m, n = m + 1 ∧ sp_frozen K m vs H Q E)) : Has P w K mg base (n + 2) "frozen" ["value"] (sp_frozen K n) := by
  obtain ⟨f_frozen, fd_frozen, G_frozen, m_frozen, k_frozen, b_frozen⟩ := R
  obtain ⟨f, fd, F, m, b⟩ := T.d_frozen.ex
  refine ⟨f, fd, F.ok sc_frozen (fun vs H Q E h => ?_) (fun cdv A outer s H vs Q E hr h => ?_), m, F.kp, b⟩
  · obtain ⟨v, d, rfl, hv, hd, q⟩ := h
    rfl
  obtain ⟨v, d, rfl, hv, hd, q⟩ := h
  refine ⟨_, (pss_cons (ps_if (pt_val (pe_callB call_isiT (by rfl) T.z_isinstance (by decide +kernel) (pa_cons (pv 0) (pa_cons (pe_tup (pa_cons (pe_bltn (v := .ty "list") (by rfl) T.z_list (by decide +kernel) rfl) (pa_cons (pe_bltn (v := .ty "tuple") (by rfl) T.z_tuple (by decide +kernel) rfl) pa_nil))) pa_nil))))
      (pss_one (ps_ret (pe_callTy call_tuple_of (by rfl) T.z_tuple (by decide +kernel) (pa_cons (pe_lc (own := [("part", 1)]) (g := gName 1) (by rfl) sc_frozen.nd (pi_alt (pi_list (pv 0)) (pi_tup (pv 0))) (blkOk_by (own := [("part", 1)]) (N := ["value", "part"]) (sc := defScope s_frozen) (by decide +kernel)) (fun _ _ _ _ _ => pg_name (i := 1) sc_frozen.nd rfl (Or.inl rfl)) (fun _ _ _ _ _ => pts_nil) (fun _ _ _ _ _ => (pe_call G_frozen (hr.mono (by omega)) (by rfl) m_frozen k_frozen b_frozen .nil pass0 (pa_cons (pv 1) pa_nil)))) pa_nil))))
      pss_nil)
      (pss_one (ps_ret (pv 0)))), ?_⟩
  refine ⟨_, rfl, (by show 2 ≤ sizeLine; decide), fun tp ntp => ?_⟩
  have s0 : Same H (upd H tp (.tup [.ty "list", .ty "tuple"])) := same_new ntp
  cases hv with
  | non => exact ⟨_, _, _, _, _, false, rfl, upd_same, two_cls, .base .non, kl_non, _, rfl, iteF ⟨_, rfl, q _ _ s0 .non⟩⟩
  | bl z => exact ⟨_, _, _, _, _, false, rfl, upd_same, two_cls, .base (.bl z), kl_bool, _, rfl, iteF ⟨_, rfl, q _ _ s0 (.bl z)⟩⟩
  | int z => exact ⟨_, _, _, _, _, false, rfl, upd_same, two_cls, .base (.int z), kl_int, _, rfl, iteF ⟨_, rfl, q _ _ s0 (.int z)⟩⟩
  | str z => exact ⟨_, _, _, _, _, false, rfl, upd_same, two_cls, .base (.str z), kl_str, _, rfl, iteF ⟨_, rfl, q _ _ s0 (.str z)⟩⟩
  | @lst a xs ds h k =>
    obtain _ | m := n
    · exact hd.elim
    obtain ⟨hdl, hd⟩ := hd
    have lx := dla_len k
    refine ⟨_, _, _, _, _, true, rfl, upd_same, two_cls, .base (.lst (s0 _ _ h)), kl_list, _, rfl, iteT ?_⟩
    refine .inl ⟨_, rfl, a, rfl, ⟨_, SqL.of (s0 _ _ h)⟩, fun D nD => lc_it walk_list (fun i H' => Same (upd H tp (.tup [.ty "list", .ty "tuple"])) H' ∧ ∃ ws, H' D = some (.lst ws) ∧ DpAll K H' ws ((ds.take i).map frz)) ⟨same_new nD, [], upd_same, .nil⟩ (fun i H' _ h' => h'.1.seq (SqL.of (s0 _ _ h))) ?_ ?_⟩
    · rintro i x H1 H2 hi ⟨s1, ws, hD, hws⟩ ⟨rfl, hx⟩
      obtain ⟨d, ed, hx2⟩ := dla_at k hx
      refine ⟨rfl, _, rfl, m, rfl, x, d, rfl, dl_same (s0.trans s1) hx2, hd d (List.mem_of_getElem? ed), fun v' H3 s3 hv' => ⟨ws, s3 _ _ hD, ?_, same_mut (s1.trans s3) nD, ws ++ [v'], upd_same, ?_⟩⟩
      · have := dpa_len hws
        rw [List.length_map, List.length_take] at this
        exact Nat.lt_of_lt_of_le (show ws.length < 1001 by omega) (by decide)
      · rw [← take_frz ed]
        have hl : ∀ d' ∈ (ds.take i).map frz, tupOk m d' := fun d' hd' => by
          obtain ⟨d0, h0, rfl⟩ := List.mem_map.mp hd'
          exact frz_ok m d0 (hd d0 (List.mem_of_mem_take h0))
        exact dpa_app (dpa_mut (s3 _ _ hD) m hl (dpa_same s3 hws)) (dp_mut (s3 _ _ hD) m (frz_ok m d (hd d (List.mem_of_getElem? ed))) hv')
    · rintro H1 ⟨s1, ws, hD, hws⟩
      refine ⟨D, ws, rfl, .inl ⟨SqL.of hD, fun l nl => ?_⟩⟩
      refine q _ _ ((s0.trans s1).trans (same_new nl)) ?_
      rw [lx, List.take_length] at hws
      rw [frz, frzs_map]
      exact .tup (SqT.of upd_same) (dpa_same (same_new nl) hws)
  | @tup a xs ds h k =>
    obtain _ | m := n
    · exact hd.elim
    obtain ⟨hdl, hd⟩ := hd
    have lx := dla_len k
    refine ⟨_, _, _, _, _, true, rfl, upd_same, two_cls, tyx_seq (seqT_same s0 h), kl_tup, _, rfl, iteT ?_⟩
    refine .inr ⟨_, rfl, a, rfl, ⟨_, seqT_same s0 h⟩, fun D nD => lc_it walk_tup (fun i H' => Same (upd H tp (.tup [.ty "list", .ty "tuple"])) H' ∧ ∃ ws, H' D = some (.lst ws) ∧ DpAll K H' ws ((ds.take i).map frz)) ⟨same_new nD, [], upd_same, .nil⟩ (fun i H' _ h' => seqT_same h'.1 (seqT_same s0 h)) ?_ ?_⟩
    · rintro i x H1 H2 hi ⟨s1, ws, hD, hws⟩ ⟨rfl, hx⟩
      obtain ⟨d, ed, hx2⟩ := dla_at k hx
      refine ⟨rfl, _, rfl, m, rfl, x, d, rfl, dl_same (s0.trans s1) hx2, hd d (List.mem_of_getElem? ed), fun v' H3 s3 hv' => ⟨ws, s3 _ _ hD, ?_, same_mut (s1.trans s3) nD, ws ++ [v'], upd_same, ?_⟩⟩
      · have := dpa_len hws
        rw [List.length_map, List.length_take] at this
        exact Nat.lt_of_lt_of_le (show ws.length < 1001 by omega) (by decide)
      · rw [← take_frz ed]
        have hl : ∀ d' ∈ (ds.take i).map frz, tupOk m d' := fun d' hd' => by
          obtain ⟨d0, h0, rfl⟩ := List.mem_map.mp hd'
          exact frz_ok m d0 (hd d0 (List.mem_of_mem_take h0))
        exact dpa_app (dpa_mut (s3 _ _ hD) m hl (dpa_same s3 hws)) (dp_mut (s3 _ _ hD) m (frz_ok m d (hd d (List.mem_of_getElem? ed))) hv')
    · rintro H1 ⟨s1, ws, hD, hws⟩
      refine ⟨D, ws, rfl, .inl ⟨SqL.of hD, fun l nl => ?_⟩⟩
      refine q _ _ ((s0.trans s1).trans (same_new nl)) ?_
      rw [lx, List.take_length] at hws
      rw [frz, frzs_map]
      exact .tup (SqT.of upd_same) (dpa_same (same_new nl) hws)
theorem ok_frozen (T : Txt P K mg c) : ∀ n : Nat, Has P w K mg base (n + 2) "frozen" ["value"] (sp_frozen K n)
| 0 => frozen_step T (.none T.d_frozen fun vs H Q E ⟨m, h, _⟩ => by cases h)
| n + 1 => frozen_step T (by
  obtain ⟨f, fd, G, r⟩ := ok_frozen T n
  exact ⟨f, fd, G.imp fun vs H Q E ⟨m', h, k⟩ => by cases h; exact k, r⟩)

mutual
theorem dl_dp {K : PySem.W.Frag} {H : Hp} : ∀ {v : V} {d : PyData} (n : Nat), tupOk n d → Dp K H v d → Dl K H v d
  | _, _, _, _, .non => .non
  | _, _, _, _, .bl b => .bl b
  | _, _, _, _, .int i => .int i
  | _, _, _, _, .str x => .str x
  | _, _, 0, h, .lst _ _ => h.elim
  | _, _, _ + 1, h, .lst _ _ => h.elim
  | _, _, 0, h, .tup _ _ => h.elim
  | _, _, n + 1, h, .tup q k => .tup q (dla_dp n h.2 k)
theorem dla_dp {K : PySem.W.Frag} {H : Hp} : ∀ {xs : List V} {ds : List PyData} (n : Nat), (∀ d ∈ ds, tupOk n d) → DpAll K H xs ds → DlAll K H xs ds
  | _, _, _, _, .nil => .nil
  | _, _, n, h, .cons p k => .cons (dl_dp n (h _ List.mem_cons_self) p) (dla_dp n (fun d hd => h d (List.mem_cons_of_mem _ hd)) k)
end

/-! ### programs with any bodies, as data -/
def Ex.d : Ex → PyData
  | .num n => .tuple [.str "number", .int n]
  | .nam x => .tuple [.str "name", .str x]
  | .not e => .tuple [.str "not", e.d]
  | .bin o l r => .tuple [.str (opS o), l.d, r.d]
inductive St where
  | set (v : Str) (e : Ex)
  | read (v : Str)
  | write (e : Ex)
  | ifs (e : Ex) (b o : List St)
  | whi (e : Ex) (b : List St)
  | call (p : Str) (as : List Ex)
  | skip
mutual
def St.d : St → PyData
  | .set v e => .tuple [.str "set", .str v, e.d]
  | .read v => .tuple [.str "read", .str v]
  | .write e => .tuple [.str "write", e.d]
  | .ifs e b o => .tuple [.str "if", e.d, .tuple (stDs b), .tuple (stDs o)]
  | .whi e b => .tuple [.str "while", e.d, .tuple (stDs b)]
  | .call p as => .tuple [.str "call", .str p, .tuple (as.map Ex.d)]
  | .skip => .tuple [.str "skip"]
def stDs : List St → List PyData
  | [] => []
  | s :: b => s.d :: stDs b
end
theorem stDs_map : ∀ b : List St, stDs b = b.map St.d
  | [] => by simp [stDs]
  | s :: b => by simp [stDs, stDs_map b]
structure Vr where
  nm : Str
  sz : Int
structure Pr where
  nm : Str
  ps : List Vr
  ls : List Vr
  bd : List St
structure Pg where
  l : Int
  a : Int
  vs : List Vr
  ps : List Pr
def Vr.d (v : Vr) : PyData := .tuple [.str v.nm, .int v.sz]
def Pr.d (p : Pr) : PyData := .tuple [.str p.nm, .tuple (p.ps.map Vr.d), .tuple (p.ls.map Vr.d), .tuple (stDs p.bd)]
def Pg.d (g : Pg) : PyData := .tuple [.int g.l, .int g.a, .tuple (g.vs.map Vr.d), .tuple (g.ps.map Pr.d)]
def scp (g : List Vr) (p : Pr) : List Vr := (g ++ p.ps) ++ p.ls
def isSeq (d : PyData) (ds : List PyData) : Prop := d = .list ds ∨ d = .tuple ds
mutual
def rawS : St → PyData → Prop
  | .set v e, d => d = .tuple [.str "set", .str v, e.d]
  | .read v, d => d = .tuple [.str "read", .str v]
  | .write e, d => d = .tuple [.str "write", e.d]
  | .ifs e b o, d => ∃ x y xs ys, d = .tuple [.str "if", e.d, x, y] ∧ isSeq x xs ∧ rawL b xs ∧ isSeq y ys ∧ rawL o ys
  | .whi e b, d => ∃ x xs, d = .tuple [.str "while", e.d, x] ∧ isSeq x xs ∧ rawL b xs
  | .call p as, d => ∃ x, d = .tuple [.str "call", .str p, x] ∧ isSeq x (as.map Ex.d)
  | .skip, d => d = .tuple [.str "skip"]
def rawL : List St → List PyData → Prop
  | [], ds => ds = []
  | s :: b, ds => ∃ d es, ds = d :: es ∧ rawS s d ∧ rawL b es
end
def rawB (b : List St) (d : PyData) : Prop := ∃ ds, isSeq d ds ∧ rawL b ds
mutual
theorem rawS_d : ∀ s : St, rawS s s.d
  | .set _ _ => by simp [rawS, St.d]
  | .read _ => by simp [rawS, St.d]
  | .write _ => by simp [rawS, St.d]
  | .ifs e b o => by
    rw [rawS, St.d]
    exact ⟨_, _, _, _, rfl, .inr rfl, rawL_d b, .inr rfl, rawL_d o⟩
  | .whi e b => by
    rw [rawS, St.d]
    exact ⟨_, _, rfl, .inr rfl, rawL_d b⟩
  | .call p as => by
    rw [rawS, St.d]
    exact ⟨_, rfl, .inr rfl⟩
  | .skip => by simp [rawS, St.d]
theorem rawL_d : ∀ b : List St, rawL b (stDs b)
  | [] => by simp [rawL, stDs]
  | s :: b => by
    rw [rawL, stDs]
    exact ⟨_, _, rfl, rawS_d s, rawL_d b⟩
end
theorem rawB_d (b : List St) : rawB b (.tuple (stDs b)) := ⟨_, .inr rfl, rawL_d b⟩
def rawPr (d : PyData) (p : Pr) : Prop := ∃ s1 s2 s3, d = .tuple [.str p.nm, s1, s2, s3] ∧ isSeq s1 (p.ps.map Vr.d) ∧ isSeq s2 (p.ls.map Vr.d) ∧ rawB p.bd s3
def rawPs (d : PyData) (ps : List Pr) : Prop := ∃ ds, isSeq d ds ∧ ds.length = ps.length ∧ ∀ (i : Nat) (d' : PyData) (p : Pr), ds[i]? = some d' → ps[i]? = some p → rawPr d' p
/-! ### names -/
def lowS : List Nat := (Str.ofString "abcdefghijklmnopqrstuvwxyz").cps.toList
def wrdS : List Nat := (Str.ofString "abcdefghijklmnopqrstuvwxyz0123456789").cps.toList
def kwS : List Str := ["letters", "answers", "global", "proc", "local", "read", "write", "if", "then", "else", "while", "do", "call", "skip", "end", "and", "or", "not"]
structure NmOk (z : Str) : Prop where
  n1 : 1 ≤ z.length
  n8 : z.length ≤ 8
  hd : ∃ c, z.cps.toList[0]? = some c ∧ c ∈ lowS
  ch : ∀ c ∈ z.cps.toList, c ∈ wrdS
  kw : z ∉ kwS
def prodZ : List Int → Int := fun ns => ns.foldl (· * ·) 1
/-! ### what a statement may name -/
def Ex.N9 : Ex → Prop
  | .num n => 0 ≤ n ∧ n ≤ 9
  | .nam _ => True
  | .not e => e.N9
  | .bin _ l r => l.N9 ∧ r.N9
structure Ex.Gd (sc : List Vr) (e : Ex) : Prop where
  nm : e.In (sc.map Vr.nm)
  n9 : e.N9
  d5 : e.depth ≤ 5
def St.Loc (l : Int) (sc : List Vr) (ps : List Pr) : St → Prop
  | .set v e => v ∈ sc.map Vr.nm ∧ e.Gd sc
  | .read v => ∃ w ∈ sc, w.nm = v ∧ l + 1 ≤ w.sz
  | .write e => e.Gd sc
  | .ifs e _ _ => e.Gd sc
  | .whi e _ => e.Gd sc
  | .call p as => (∃ q ∈ ps.tail, q.nm = p ∧ q.ps.length = as.length) ∧ ∀ a ∈ as, a.Gd sc
  | .skip => True
mutual
def allS (P : Nat → St → Prop) : Nat → St → Prop
  | d, .set v e => P d (.set v e)
  | d, .read v => P d (.read v)
  | d, .write e => P d (.write e)
  | d, .ifs e b o => P d (.ifs e b o) ∧ allB P (d + 1) b ∧ allB P (d + 1) o
  | d, .whi e b => P d (.whi e b) ∧ allB P (d + 1) b
  | d, .call p as => P d (.call p as)
  | d, .skip => P d .skip
def allB (P : Nat → St → Prop) : Nat → List St → Prop
  | _, [] => True
  | d, s :: b => allS P d s ∧ allB P d b
end
mutual
def cntS : St → Nat
  | .set _ _ => 1
  | .read _ => 1
  | .write _ => 1
  | .ifs _ b o => 1 + (cntB b + cntB o)
  | .whi _ b => 1 + cntB b
  | .call _ _ => 1
  | .skip => 1
def cntB : List St → Nat
  | [] => 0
  | s :: b => cntS s + cntB b
end
theorem allS_hd {P : Nat → St → Prop} {d : Nat} : ∀ {s : St}, allS P d s → P d s
  | .set _ _, h => by rw [allS] at h; exact h
  | .read _, h => by rw [allS] at h; exact h
  | .write _, h => by rw [allS] at h; exact h
  | .ifs _ _ _, h => by rw [allS] at h; exact h.1
  | .whi _ _, h => by rw [allS] at h; exact h.1
  | .call _ _, h => by rw [allS] at h; exact h
  | .skip, h => by rw [allS] at h; exact h
theorem allB_mem {P : Nat → St → Prop} {d : Nat} : ∀ {b : List St}, allB P d b → ∀ s ∈ b, allS P d s
  | [], _, s, h => nomatch h
  | x :: b, h, s, m => by
    rw [allB] at h
    rcases List.mem_cons.mp m with rfl | m
    · exact h.1
    · exact allB_mem h.2 s m
theorem allB_of {P : Nat → St → Prop} {d : Nat} : ∀ {b : List St}, (∀ s ∈ b, allS P d s) → allB P d b
  | [], _ => by rw [allB]; trivial
  | x :: b, h => by
    rw [allB]
    exact ⟨h x List.mem_cons_self, allB_of fun s m => h s (List.mem_cons_of_mem _ m)⟩
mutual
theorem allS_imp {P Q : Nat → St → Prop} (h : ∀ d s, P d s → Q d s) : ∀ (d : Nat) (s : St), allS P d s → allS Q d s
  | d, .set _ _, k => by rw [allS] at k ⊢; exact h _ _ k
  | d, .read _, k => by rw [allS] at k ⊢; exact h _ _ k
  | d, .write _, k => by rw [allS] at k ⊢; exact h _ _ k
  | d, .ifs _ b o, k => by rw [allS] at k ⊢; exact ⟨h _ _ k.1, allB_imp h _ b k.2.1, allB_imp h _ o k.2.2⟩
  | d, .whi _ b, k => by rw [allS] at k ⊢; exact ⟨h _ _ k.1, allB_imp h _ b k.2⟩
  | d, .call _ _, k => by rw [allS] at k ⊢; exact h _ _ k
  | d, .skip, k => by rw [allS] at k ⊢; exact h _ _ k
theorem allB_imp {P Q : Nat → St → Prop} (h : ∀ d s, P d s → Q d s) : ∀ (d : Nat) (b : List St), allB P d b → allB Q d b
  | _, [], _ => by rw [allB]; trivial
  | d, s :: b, k => by rw [allB] at k ⊢; exact ⟨allS_imp h d s k.1, allB_imp h d b k.2⟩
end
theorem cntS_pos (s : St) : 1 ≤ cntS s := by cases s <;> simp [cntS] <;> omega
theorem cntB_app : ∀ a b : List St, cntB (a ++ b) = cntB a + cntB b
  | [], b => by rw [List.nil_append, cntB]; omega
  | s :: a, b => by rw [List.cons_append, cntB, cntB, cntB_app a b]; omega
theorem cntB_len : ∀ b : List St, b.length ≤ cntB b
  | [] => Nat.zero_le _
  | s :: b => by
    have := cntB_len b
    have := cntS_pos s
    rw [List.length_cons, cntB]
    omega
theorem cntB_mem : ∀ {b : List St} {s : St}, s ∈ b → cntS s ≤ cntB b
  | x :: b, s, h => by
    rw [cntB]
    rcases List.mem_cons.mp h with rfl | h
    · omega
    · have := cntB_mem h
      omega
structure Pg.Ok (g : Pg) : Prop where
  l1 : 1 ≤ g.l
  l3 : g.l ≤ 3
  a2 : 2 ≤ g.a
  a4 : g.a ≤ 4
  p1 : 1 ≤ g.ps.length
  p5 : g.ps.length ≤ 5
  v4 : g.vs.length ≤ 4
  p3 : ∀ p ∈ g.ps, p.ps.length ≤ 3
  l33 : ∀ p ∈ g.ps, p.ls.length ≤ 3
  pn : ∀ p ∈ g.ps, NmOk p.nm
  vn : ∀ p ∈ g.ps, ∀ v ∈ scp g.vs p, NmOk v.nm
  pd : (g.ps.map Pr.nm).Nodup
  vd : ∀ p ∈ g.ps, ((scp g.vs p).map Vr.nm).Nodup
  s2 : ∀ p ∈ g.ps, ∀ v ∈ scp g.vs p, 2 ≤ v.sz
  s4 : ∀ p ∈ g.ps, ∀ v ∈ scp g.vs p, v.sz ≤ 4
  si : ∀ p ∈ g.ps, prodZ ((scp g.vs p).map Vr.sz) ≤ 64
  mn : ∀ p, g.ps[0]? = some p → p.ps = []
  sn : (g.ps.map fun p => cntB p.bd).sum ≤ 60
  sb : ∀ p ∈ g.ps, allB (fun d s => d ≤ 6 ∧ s.Loc g.l (scp g.vs p) g.ps) 1 p.bd
/-! ### lists item by item -/
def All2 {α β : Type} (R : α → β → Prop) (xs : List α) (ys : List β) : Prop := xs.length = ys.length ∧ ∀ (i : Nat) (x : α) (y : β), xs[i]? = some x → ys[i]? = some y → R x y
theorem All2.nil {α β : Type} {R : α → β → Prop} : All2 R [] [] := ⟨rfl, fun i x y h => by simp at h⟩
theorem All2.at {α β : Type} {R : α → β → Prop} {xs : List α} {ys : List β} (h : All2 R xs ys) {i : Nat} {x : α} (hx : xs[i]? = some x) : ∃ y, ys[i]? = some y ∧ R x y := by
  have hi : i < ys.length := by rw [← h.1]; exact (List.getElem?_eq_some_iff.mp hx).1
  exact ⟨ys[i], List.getElem?_eq_getElem hi, h.2 i x _ hx (List.getElem?_eq_getElem hi)⟩
theorem All2.of {α β : Type} {R : α → β → Prop} {xs : List α} {ys : List β} (h : All2 R xs ys) {i : Nat} {y : β} (hy : ys[i]? = some y) : ∃ x, xs[i]? = some x ∧ R x y := by
  have hi : i < xs.length := by rw [h.1]; exact (List.getElem?_eq_some_iff.mp hy).1
  exact ⟨xs[i], List.getElem?_eq_getElem hi, h.2 i _ y (List.getElem?_eq_getElem hi) hy⟩
theorem All2.imp {α β : Type} {R S : α → β → Prop} {xs : List α} {ys : List β} (h : All2 R xs ys) (k : ∀ x y, R x y → S x y) : All2 S xs ys := ⟨h.1, fun i x y a b => k x y (h.2 i x y a b)⟩
theorem All2.app {α β : Type} {R : α → β → Prop} {xs xs' : List α} {ys ys' : List β} (h : All2 R xs ys) (h' : All2 R xs' ys') : All2 R (xs ++ xs') (ys ++ ys') := by
  refine ⟨by rw [List.length_append, List.length_append, h.1, h'.1], fun i x y hx hy => ?_⟩
  by_cases hi : i < xs.length
  · rw [List.getElem?_append_left hi] at hx
    rw [List.getElem?_append_left (by rw [← h.1]; exact hi)] at hy
    exact h.2 i x y hx hy
  · rw [List.getElem?_append_right (by omega)] at hx
    rw [List.getElem?_append_right (by rw [← h.1]; omega), ← h.1] at hy
    exact h'.2 _ x y hx hy
theorem All2.one {α β : Type} {R : α → β → Prop} {x : α} {y : β} (h : R x y) : All2 R [x] [y] := ⟨rfl, fun i a b ha hb => by
  obtain _ | i := i
  · cases ha
    cases hb
    exact h
  · simp at ha⟩
theorem take_succ_at {α : Type} {xs : List α} {i : Nat} {x : α} (h : xs[i]? = some x) : xs.take (i + 1) = xs.take i ++ [x] := by rw [List.take_succ, h]; rfl
/-! ### what stands in the heap, read as such data -/
section
variable {K : PySem.W.Frag} {H H' : Hp}
def SeqV (K : PySem.W.Frag) (H : Hp) (a : Addr) (xs : List V) : Prop := SqL K H a xs ∨ SqT K H a xs
def VrAt (K : PySem.W.Frag) (H : Hp) (x : V) (v : Vr) : Prop := ∃ p, x = .ref p ∧ SqT K H p [.str v.nm, .int v.sz]
def VrsAt (K : PySem.W.Frag) (H : Hp) (v : V) (vs : List Vr) : Prop := ∃ a xs, v = .ref a ∧ SeqV K H a xs ∧ All2 (VrAt K H) xs vs
def StAt (K : PySem.W.Frag) (H : Hp) (x : V) (s : St) : Prop := ∃ d, Dl K H x d ∧ rawS s d
def BdAt (K : PySem.W.Frag) (H : Hp) (v : V) (b : List St) : Prop := ∃ d, Dl K H v d ∧ rawB b d
def PrAt (K : PySem.W.Frag) (H : Hp) (x : V) (p : Pr) : Prop := ∃ q s1 s2 s3, x = .ref q ∧ SqT K H q [.str p.nm, s1, s2, s3] ∧ VrsAt K H s1 p.ps ∧ VrsAt K H s2 p.ls ∧ BdAt K H s3 p.bd
def PrsAt (K : PySem.W.Frag) (H : Hp) (v : V) (ps : List Pr) : Prop := ∃ a xs, v = .ref a ∧ SeqV K H a xs ∧ All2 (PrAt K H) xs ps
theorem SeqV.same {a : Addr} {xs : List V} (e : Same H H') (h : SeqV K H a xs) : SeqV K H' a xs := h.imp (fun h => e.seq h) (fun h => seqT_same e h)
theorem VrAt.same {x : V} {v : Vr} (e : Same H H') (h : VrAt K H x v) : VrAt K H' x v := let ⟨p, h1, h2⟩ := h; ⟨p, h1, seqT_same e h2⟩
theorem VrsAt.same {x : V} {v : List Vr} (e : Same H H') (h : VrsAt K H x v) : VrsAt K H' x v := let ⟨a, xs, h1, h2, h3⟩ := h; ⟨a, xs, h1, h2.same e, h3.imp fun _ _ => VrAt.same e⟩
theorem StAt.same {x : V} {s : St} (e : Same H H') (h : StAt K H x s) : StAt K H' x s := let ⟨d, h1, h2⟩ := h; ⟨d, dl_same e h1, h2⟩
theorem BdAt.same {x : V} {b : List St} (e : Same H H') (h : BdAt K H x b) : BdAt K H' x b := let ⟨d, h1, h2⟩ := h; ⟨d, dl_same e h1, h2⟩
theorem PrAt.same {x : V} {v : Pr} (e : Same H H') (h : PrAt K H x v) : PrAt K H' x v := let ⟨q, s1, s2, s3, h1, h2, h3, h4, h5⟩ := h; ⟨q, s1, s2, s3, h1, seqT_same e h2, h3.same e, h4.same e, h5.same e⟩
theorem PrsAt.same {x : V} {v : List Pr} (e : Same H H') (h : PrsAt K H x v) : PrsAt K H' x v := let ⟨a, xs, h1, h2, h3⟩ := h; ⟨a, xs, h1, h2.same e, h3.imp fun _ _ => PrAt.same e⟩
theorem dl_seqV {v : V} {d : PyData} {ds : List PyData} (h : Dl K H v d) (e : isSeq d ds) : ∃ a xs, v = .ref a ∧ SeqV K H a xs ∧ DlAll K H xs ds := by
  rcases e with rfl | rfl
  · cases h with
    | lst h k => exact ⟨_, _, rfl, .inl (SqL.of h), k⟩
  · cases h with
    | tup h k => exact ⟨_, _, rfl, .inr h, k⟩
theorem dla_all2 : ∀ {xs : List V} {ds : List PyData}, DlAll K H xs ds → All2 (Dl K H) xs ds
  | _, _, .nil => .nil
  | _, _, .cons h k => All2.app (xs := [_]) (ys := [_]) (.one h) (dla_all2 k)
theorem dl_vr {x : V} {v : Vr} (h : Dl K H x v.d) : VrAt K H x v := by
  have h' : Dl K H x (.tuple [.str v.nm, .int v.sz]) := h
  cases h' with
  | tup q k =>
    cases k with
    | cons a k =>
      cases k with
      | cons b k =>
        cases k
        cases a
        cases b
        exact ⟨_, rfl, q⟩
theorem dl_vrs {v : V} {d : PyData} {vs : List Vr} (h : Dl K H v d) (e : isSeq d (vs.map Vr.d)) : VrsAt K H v vs := by
  obtain ⟨a, xs, rfl, hq, k⟩ := dl_seqV h e
  refine ⟨a, xs, rfl, hq, ?_⟩
  obtain ⟨l, r⟩ := dla_all2 k
  refine ⟨by rw [l, List.length_map], fun i x y hx hy => dl_vr (r i x y.d hx ?_)⟩
  rw [List.getElem?_map, hy]
  rfl
theorem dl_ex {H : Hp} : ∀ {e : Ex} {x : V}, Dl K H x e.d → Dp K H x e.d
  | .num n, x, h => by
    rw [Ex.d] at h ⊢
    cases h with
    | tup q k =>
      cases k with
      | cons a k =>
        cases k with
        | cons b k =>
          cases k
          cases a
          cases b
          exact .tup q (.cons (.str _) (.cons (.int _) .nil))
  | .nam n, x, h => by
    rw [Ex.d] at h ⊢
    cases h with
    | tup q k =>
      cases k with
      | cons a k =>
        cases k with
        | cons b k =>
          cases k
          cases a
          cases b
          exact .tup q (.cons (.str _) (.cons (.str _) .nil))
  | .not e, x, h => by
    rw [Ex.d] at h ⊢
    cases h with
    | tup q k =>
      cases k with
      | cons a k =>
        cases k with
        | cons b k =>
          cases k
          cases a
          exact .tup q (.cons (.str _) (.cons (dl_ex b) .nil))
  | .bin o l r, x, h => by
    rw [Ex.d] at h ⊢
    cases h with
    | tup q k =>
      cases k with
      | cons a k =>
        cases k with
        | cons b k =>
          cases k with
          | cons c k =>
            cases k
            cases a
            exact .tup q (.cons (.str _) (.cons (dl_ex b) (.cons (dl_ex c) .nil)))
theorem dla_ex {H : Hp} : ∀ {as : List Ex} {xs : List V}, DlAll K H xs (as.map Ex.d) → DpAll K H xs (as.map Ex.d)
  | [], _, .nil => .nil
  | a :: as, _, .cons h k => .cons (dl_ex h) (dla_ex k)
theorem dla_raw {H : Hp} : ∀ {b : List St} {xs : List V} {ds : List PyData}, rawL b ds → DlAll K H xs ds → All2 (StAt K H) xs b
  | [], xs, ds, r, k => by
    rw [rawL] at r
    subst r
    cases k
    exact .nil
  | s :: b, xs, ds, r, k => by
    rw [rawL] at r
    obtain ⟨d, es, rfl, r1, r2⟩ := r
    cases k with
    | cons h k => exact All2.app (xs := [_]) (ys := [_]) (.one ⟨d, h, r1⟩) (dla_raw r2 k)
theorem BdAt.un {H : Hp} {v : V} {b : List St} (h : BdAt K H v b) : ∃ a xs, v = .ref a ∧ SeqV K H a xs ∧ All2 (StAt K H) xs b := by
  obtain ⟨d, h, ds, e, r⟩ := h
  obtain ⟨a, xs, rfl, hq, k⟩ := dl_seqV h e
  exact ⟨a, xs, rfl, hq, dla_raw r k⟩
/-- a statement's parts -/
def StIs (K : PySem.W.Frag) (H : Hp) (x : V) : St → Prop
  | .set v e => ∃ q y, x = .ref q ∧ SqT K H q [.str "set", .str v, y] ∧ Dp K H y e.d
  | .read v => ∃ q, x = .ref q ∧ SqT K H q [.str "read", .str v]
  | .write e => ∃ q y, x = .ref q ∧ SqT K H q [.str "write", y] ∧ Dp K H y e.d
  | .ifs e b o => ∃ q y u w, x = .ref q ∧ SqT K H q [.str "if", y, u, w] ∧ Dp K H y e.d ∧ BdAt K H u b ∧ BdAt K H w o
  | .whi e b => ∃ q y u, x = .ref q ∧ SqT K H q [.str "while", y, u] ∧ Dp K H y e.d ∧ BdAt K H u b
  | .call p as => ∃ q a xs, x = .ref q ∧ SqT K H q [.str "call", .str p, .ref a] ∧ SeqV K H a xs ∧ DpAll K H xs (as.map Ex.d)
  | .skip => ∃ q, x = .ref q ∧ SqT K H q [.str "skip"]
theorem dl_tup {H : Hp} {v : V} {ds : List PyData} (h : Dl K H v (.tuple ds)) : ∃ a xs, v = .ref a ∧ SqT K H a xs ∧ DlAll K H xs ds := by
  cases h with
  | tup q k => exact ⟨_, _, rfl, q, k⟩
theorem dla_cons {H : Hp} {xs : List V} {d : PyData} {ds : List PyData} (h : DlAll K H xs (d :: ds)) : ∃ y ys, xs = y :: ys ∧ Dl K H y d ∧ DlAll K H ys ds := by
  cases h with
  | cons a k => exact ⟨_, _, rfl, a, k⟩
theorem dla_nil {H : Hp} {xs : List V} (h : DlAll K H xs []) : xs = [] := by
  cases h
  rfl
theorem dl_str {H : Hp} {v : V} {z : Str} (h : Dl K H v (.str z)) : v = .str z := by
  cases h
  rfl
theorem StAt.is {H : Hp} {x : V} : ∀ {s : St}, StAt K H x s → StIs K H x s
  | .set v e, ⟨d, h, r⟩ => by
    rw [rawS] at r
    subst r
    obtain ⟨q, xs, rfl, hq, k⟩ := dl_tup h
    obtain ⟨y1, _, rfl, h1, k⟩ := dla_cons k
    obtain ⟨y2, _, rfl, h2, k⟩ := dla_cons k
    obtain ⟨y3, _, rfl, h3, k⟩ := dla_cons k
    obtain rfl := dla_nil k
    obtain rfl := dl_str h1
    obtain rfl := dl_str h2
    exact ⟨q, y3, rfl, hq, dl_ex h3⟩
  | .read v, ⟨d, h, r⟩ => by
    rw [rawS] at r
    subst r
    obtain ⟨q, xs, rfl, hq, k⟩ := dl_tup h
    obtain ⟨y1, _, rfl, h1, k⟩ := dla_cons k
    obtain ⟨y2, _, rfl, h2, k⟩ := dla_cons k
    obtain rfl := dla_nil k
    obtain rfl := dl_str h1
    obtain rfl := dl_str h2
    exact ⟨q, rfl, hq⟩
  | .write e, ⟨d, h, r⟩ => by
    rw [rawS] at r
    subst r
    obtain ⟨q, xs, rfl, hq, k⟩ := dl_tup h
    obtain ⟨y1, _, rfl, h1, k⟩ := dla_cons k
    obtain ⟨y2, _, rfl, h2, k⟩ := dla_cons k
    obtain rfl := dla_nil k
    obtain rfl := dl_str h1
    exact ⟨q, y2, rfl, hq, dl_ex h2⟩
  | .ifs e b o, ⟨d, h, r⟩ => by
    rw [rawS] at r
    obtain ⟨x, y, xs, ys, rfl, e1, r1, e2, r2⟩ := r
    obtain ⟨q, xs, rfl, hq, k⟩ := dl_tup h
    obtain ⟨y1, _, rfl, h1, k⟩ := dla_cons k
    obtain ⟨y2, _, rfl, h2, k⟩ := dla_cons k
    obtain ⟨y3, _, rfl, h3, k⟩ := dla_cons k
    obtain ⟨y4, _, rfl, h4, k⟩ := dla_cons k
    obtain rfl := dla_nil k
    obtain rfl := dl_str h1
    exact ⟨q, y2, y3, y4, rfl, hq, dl_ex h2, ⟨_, h3, _, e1, r1⟩, ⟨_, h4, _, e2, r2⟩⟩
  | .whi e b, ⟨d, h, r⟩ => by
    rw [rawS] at r
    obtain ⟨x, xs, rfl, e1, r1⟩ := r
    obtain ⟨q, xs, rfl, hq, k⟩ := dl_tup h
    obtain ⟨y1, _, rfl, h1, k⟩ := dla_cons k
    obtain ⟨y2, _, rfl, h2, k⟩ := dla_cons k
    obtain ⟨y3, _, rfl, h3, k⟩ := dla_cons k
    obtain rfl := dla_nil k
    obtain rfl := dl_str h1
    exact ⟨q, y2, y3, rfl, hq, dl_ex h2, ⟨_, h3, _, e1, r1⟩⟩
  | .call p as, ⟨d, h, r⟩ => by
    rw [rawS] at r
    obtain ⟨x, rfl, e1⟩ := r
    obtain ⟨q, xs, rfl, hq, k⟩ := dl_tup h
    obtain ⟨y1, _, rfl, h1, k⟩ := dla_cons k
    obtain ⟨y2, _, rfl, h2, k⟩ := dla_cons k
    obtain ⟨y3, _, rfl, h3, k⟩ := dla_cons k
    obtain rfl := dla_nil k
    obtain rfl := dl_str h1
    obtain rfl := dl_str h2
    obtain ⟨a, xs, rfl, hs, k⟩ := dl_seqV h3 e1
    exact ⟨q, a, xs, rfl, hq, hs, dla_ex k⟩
  | .skip, ⟨d, h, r⟩ => by
    rw [rawS] at r
    subst r
    obtain ⟨q, xs, rfl, hq, k⟩ := dl_tup h
    obtain ⟨y1, _, rfl, h1, k⟩ := dla_cons k
    obtain rfl := dla_nil k
    obtain rfl := dl_str h1
    exact ⟨q, rfl, hq⟩
def St.word : St → Str
  | .set _ _ => "set"
  | .read _ => "read"
  | .write _ => "write"
  | .ifs _ _ _ => "if"
  | .whi _ _ => "while"
  | .call _ _ => "call"
  | .skip => "skip"
theorem StAt.hd {H : Hp} {x : V} {s : St} (h : StAt K H x s) : ∃ q ys, x = .ref q ∧ SqT K H q (.str s.word :: ys) := by
  have k := h.is
  cases s with
  | set v e => obtain ⟨q, y, rfl, hq, _⟩ := k; exact ⟨q, _, rfl, hq⟩
  | read v => obtain ⟨q, rfl, hq⟩ := k; exact ⟨q, _, rfl, hq⟩
  | write e => obtain ⟨q, y, rfl, hq, _⟩ := k; exact ⟨q, _, rfl, hq⟩
  | ifs e b o => obtain ⟨q, y, u, w, rfl, hq, _⟩ := k; exact ⟨q, _, rfl, hq⟩
  | whi e b => obtain ⟨q, y, u, rfl, hq, _⟩ := k; exact ⟨q, _, rfl, hq⟩
  | call p as => obtain ⟨q, a, xs, rfl, hq, _⟩ := k; exact ⟨q, _, rfl, hq⟩
  | skip => obtain ⟨q, rfl, hq⟩ := k; exact ⟨q, _, rfl, hq⟩
theorem dl_pr {x : V} {d : PyData} {p : Pr} (h : Dl K H x d) (e : rawPr d p) : PrAt K H x p := by
  obtain ⟨s1, s2, s3, rfl, e1, e2, e3⟩ := e
  cases h with
  | tup q k =>
    cases k with
    | cons a k =>
      cases k with
      | cons b k =>
        cases k with
        | cons c k =>
          cases k with
          | cons d k =>
            cases k
            cases a
            exact ⟨_, _, _, _, rfl, q, dl_vrs b e1, dl_vrs c e2, ⟨_, d, e3⟩⟩
theorem dl_prs {v : V} {d : PyData} {ps : List Pr} (h : Dl K H v d) (e : rawPs d ps) : PrsAt K H v ps := by
  obtain ⟨ds, e1, e2, e3⟩ := e
  obtain ⟨a, xs, rfl, hq, k⟩ := dl_seqV h e1
  refine ⟨a, xs, rfl, hq, ?_⟩
  obtain ⟨l, r⟩ := dla_all2 k
  refine ⟨by rw [l, e2], fun i x y hx hy => ?_⟩
  have hi : i < ds.length := by rw [e2]; exact (List.getElem?_eq_some_iff.mp hy).1
  exact dl_pr (r i x _ hx (List.getElem?_eq_getElem hi)) (e3 i _ y (List.getElem?_eq_getElem hi) hy)
theorem VrsAt.len {v : V} {vs : List Vr} {a : Addr} {xs : List V} (h : All2 (VrAt K H) xs vs) : xs.length = vs.length := h.1
end

theorem dpa_getx' {K : PySem.W.Frag} {H : Hp} {x : V} : ∀ {xs : List V} {ds : List PyData} {i : Nat}, DpAll K H xs ds → xs[i]? = some x → ∃ d, ds[i]? = some d ∧ Dp K H x d
  | _, _, _, .nil, h => by simp at h
  | _, _, 0, .cons h _, e => by
    have e' := Option.some.inj e
    subst e'
    exact ⟨_, rfl, h⟩
  | _, _, i + 1, .cons _ k, e => dpa_getx' (i := i) k e
theorem dp_tup' {K : PySem.W.Frag} {H : Hp} {v : V} {ds : List PyData} (h : Dp K H v (.tuple ds)) : ∃ a xs, v = .ref a ∧ SqT K H a xs ∧ DpAll K H xs ds := by
  cases h with
  | tup h k => exact ⟨_, _, rfl, h, k⟩

/-! ### data beside one list that changes -/
theorem seqT_frl {K : PySem.W.Frag} {H H' : Hp} {r a : Addr} {ys xs : List V} (hr : H r = some (.lst ys)) (f : Fr r H H') (h : SqT K H a xs) : SqT K H' a xs := by
  rcases h with (h | ⟨o', h⟩) | h
  · refine .inl (.inl (f _ _ (fun z => ?_) h))
    subst z
    rw [hr] at h
    cases h
  · refine .inl (.inr ⟨o', f _ _ (fun z => ?_) h⟩)
    subst z
    rw [hr] at h
    cases h
  · exact .inr h
mutual
theorem dp_frl {K : PySem.W.Frag} {H H' : Hp} {r : Addr} {ys : List V} (hr : H r = some (.lst ys)) (f : Fr r H H') : ∀ {v : V} {d : PyData} (n : Nat), tupOk n d → Dp K H v d → Dp K H' v d
  | _, _, _, _, .non => .non
  | _, _, _, _, .bl b => .bl b
  | _, _, _, _, .int i => .int i
  | _, _, _, _, .str x => .str x
  | _, _, 0, h, .lst _ _ => h.elim
  | _, _, _ + 1, h, .lst _ _ => h.elim
  | _, _, 0, h, .tup _ _ => h.elim
  | _, _, n + 1, h, .tup q k => .tup (seqT_frl hr f q) (dpa_frl hr f n h.2 k)
theorem dpa_frl {K : PySem.W.Frag} {H H' : Hp} {r : Addr} {ys : List V} (hr : H r = some (.lst ys)) (f : Fr r H H') : ∀ {xs : List V} {ds : List PyData} (n : Nat), (∀ d ∈ ds, tupOk n d) → DpAll K H xs ds → DpAll K H' xs ds
  | _, _, _, _, .nil => .nil
  | _, _, n, h, .cons p k => .cons (dp_frl hr f n (h _ List.mem_cons_self) p) (dpa_frl hr f n (fun d hd => h d (List.mem_cons_of_mem _ hd)) k)
end


end
end Pf

namespace Pf
open PySem PySem.Spec PyProof.Rows L2
section
variable {P : Program} {w : World} {K : PySem.W.Frag} {mg : Str → Option Value} {base : Heap}
variable {c : Nat → Addr}
/-! ### len(set(xs)) of texts -/
/-- how many of the first i stand there for the first time -/
def fresh1 (xs : List Str) : Nat → Nat
  | 0 => 0
  | i + 1 => if (xs.take i).any (· == xs.getD i Str.empty) then fresh1 xs i else fresh1 xs i + 1
theorem fresh1_le (xs : List Str) : ∀ i, fresh1 xs i ≤ i
  | 0 => Nat.le_refl _
  | i + 1 => by
    have := fresh1_le xs i
    unfold fresh1
    split <;> omega
theorem take_has {xs : List Str} {i : Nat} (h : i < xs.length) (k : Str) : (xs.take (i + 1)).any (· == k) = ((xs.take i).any (· == k) || decide (k = xs.getD i Str.empty)) := by
  have e : xs.getD i Str.empty = xs[i] := by simp [List.getD_eq_getElem?_getD, List.getElem?_eq_getElem h]
  rw [List.take_succ_eq_append_getElem h, List.any_append, e]
  congr 1
  by_cases q : k = xs[i]
  · subst q
    simp
  · have hb : (xs[i] == k) = false := by simpa [beq_iff_eq] using (fun z : xs[i] = k => q z.symm)
    simp [hb, q]
theorem fresh1_nodup {xs : List Str} (nd : xs.Nodup) : ∀ i, i ≤ xs.length → fresh1 xs i = i
  | 0, _ => rfl
  | i + 1, h => by
    have hi : i < xs.length := h
    have e : xs.getD i Str.empty = xs[i] := by simp [List.getD_eq_getElem?_getD, List.getElem?_eq_getElem hi]
    have no : (xs.take i).any (· == xs.getD i Str.empty) = false := by
      rw [Bool.eq_false_iff]
      intro t
      obtain ⟨y, hy, ey⟩ := List.any_eq_true.mp t
      rw [e] at ey
      have ey := eq_of_beq ey
      subst ey
      obtain ⟨j, hj, ej⟩ := List.mem_take_iff_getElem.mp hy
      have hj2 : j < i := by omega
      exact absurd ej (List.pairwise_iff_getElem.mp nd j i (by omega) hi hj2)
    have ih := fresh1_nodup nd i (Nat.le_of_lt hi)
    unfold fresh1
    rw [no, ih]
    rfl
section
variable {prog : Program} {w : World} {A : Around} {R : Result → Shared → Prop} {I : Addr} {fp wr : List Addr} {G : Array GenState → Array GenState → Prop} {n : Nat} {P : Nat → Value → Prop} {St : Nat → Shared → Prop}
/-- the set of the first i texts, at S -/
def SetUp (prog : Program) (w : World) (xs : List Str) (S : Addr) (i : Nat) (h : Heap) : Prop := h.SetOf (PySem.strKind prog w) S (fun k => (xs.take i).any (· == k)) (fresh1 xs i)
theorem SetUp.at {xs : List Str} {S : Addr} {i : Nat} {h h' : Heap} (u : SetUp prog w xs S i h) (k : ∀ o, h.get? S = some o → h'.get? S = some o) : SetUp prog w xs S i h' := by
  obtain ⟨o, es, ep, t, ho, r⟩ := u
  exact ⟨o, es, ep, t, k o ho, r⟩
theorem set_turns (W : WalksS prog w A.in1 I fp wr G n P St) (S : Addr) (apart : S ∉ fp) (xs : List Str) (len : xs.length = n) (room : n + 1 < scanBound) (told : ∀ i v, P i v → ∃ t, v = .str (xs.getD i Str.empty) t) :
    ∀ (m i : Nat) (s : Shared), i + m = n → St i s → SetUp prog w xs S i s.heap → (∀ s', Moved (S :: wr) G s s' → SetUp prog w xs S n s'.heap → R (.ok (.ret .none)) s') →
      codeAny (model prog w) A (.builtin "set.update.loop" ⟨[.ref S, .ref I], []⟩) R s := by
  have off : S ∉ wr := fun h => apart (W.sub _ h)
  have more : ∀ b ∈ wr, b ∈ S :: wr := fun b hb => List.mem_cons_of_mem _ hb
  intro m
  induction m with
  | zero =>
    rintro i s rfl z up fin
    refine codeAny_builtin PyProof.Rows.F.entry_set_update_loop ?_
    rw [Around.under_plainId PyProof.Rows.F.plain_set_update_loop _]
    exact wpAny_bind (W.done s _ _ z fun s1 mv => wpAny_pure (fin s1 (mv.mono more) (up.at fun o e => mv.heap S _ off e)))
  | succ m ih =>
    intro i s e z up fin
    have lt : i < n := by omega
    refine codeAny_builtin PyProof.Rows.F.entry_set_update_loop ?_
    rw [Around.under_plainId PyProof.Rows.F.plain_set_update_loop _]
    refine wpAny_bind (W.item i s _ _ lt z fun v s1 hp z1 mv => ?_)
    obtain ⟨t, rfl⟩ := told i v hp
    have up1 : SetUp prog w xs S i s1.heap := up.at fun o e => mv.heap S _ off e
    show wpAny _ A.in1 (holding [Value.str (xs.getD i Str.empty) t] (setAdd S (.str (xs.getD i Str.empty) t)) >>= _) _ _ s1
    refine wpAny_bind (wpAny_holding ?_)
    unfold setAdd
    refine wpAny_holding (wpAny_bind ((PySem.strKind prog w).pyHash (k := xs.getD i Str.empty) (strKind_is _ _ _ _) ?_))
    have fits : fresh1 xs i + 1 < scanBound := by
      have := fresh1_le xs i
      omega
    refine wpAny_setAddHashed_of (knd := PySem.strKind prog w) (s := { s1 with toks := s1.toks + 1 }) (strKind_is _ _ _ _) rfl up1 fits fun h2 sb up2 => ?_
    have up3 : SetUp prog w xs S (i + 1) h2 := PyProof.Rows.SetOf_congr up2 (fun k => (take_has (by omega) k).symm) rfl
    refine wpAny_pure ⟨plainId_quiet PyProof.Rows.F.plain_set_update_loop _, ih (i + 1) _ (by omega) (W.frame _ s1 _ _ z1 (Nat.le_succ _) fun b hb o q => (sb.2 b fun k => apart (k ▸ hb)).trans q) up3 fun s3 mv3 up4 => fin s3 ?_ up4⟩
    exact Moved.trans W.gtrans ((mv.mono more).then_heap (Nat.le_succ _) fun b o hb q => (sb.2 b fun k => hb (k ▸ List.mem_cons_self)).trans q) mv3
end
section
variable {prog : Program} {w : World} {A : Around} {E : Value → Shared → Prop} {s : Shared}
/-- an empty set, newly made -/
abbrev set0 (led : Bool) : Obj := { cls := .type "set", dict := none, data := .set #[] 0 (.fresh 0 0 led) }
set_option maxHeartbeats 3200000 in
theorem call_set_txt {l : Addr} {items : Array Value} {xs : List Str} {Q : Value → Shared → Prop} (hh : A.handled = none) (isl : s.heap.IsList l items) (are : PyProof.Rows.StrsAre items.toList xs) (room : items.size + 1 < scanBound)
    (fin : ∀ (h1 : Heap) (tk : Nat), SetUp prog w xs s.heap.objs.size items.size h1 → (∀ b o, b < s.heap.objs.size → s.heap.get? b = some o → h1.get? b = some o) → Q (.ref s.heap.objs.size) { s with heap := h1, toks := tk }) :
    wpAny (model prog w) A (call (.type "set") [.ref l]) Q E s := by
  obtain ⟨c, tl, hmro⟩ := PySem.F.called_set.mro
  have made := PySem.F.called_set.made
  have sub := PySem.F.called_set.sub
  refine wpAny_call (codeAny_of_tree ?_)
  show wpAny _ _ (callAny (.type "set") _) _ _ _
  refine wpAny_pure ⟨Code.quiet_builtin _ (by decide +kernel), codeAny_builtin PySem.F.entry_type_call ?_⟩
  rw [Around.under_plain (weight_type_call_type "set" [.ref l] []) rfl]
  have nt := PySem.F.called_set.notType
  have cc := PySem.F.called_set.canCreate
  have tc := PySem.F.typeCall_set_1 (.ref l)
  repeat (any_goals (first | assumption | wp_step))
  refine codeAny_mono (code_set_new_1 (.ref l) (E := E) (Q₁ := fun ob s1 => ∃ led, ob = .ref s.heap.objs.size ∧ s1 = { s with heap := s.heap.push (set0 led) }) fun led => ⟨led, rfl, rfl⟩) fun r s1 hr => ?_
  obtain e | fl := r
  · exact hr
  cases fl <;> try exact hr.elim
  rename_i ob
  obtain ⟨led, rfl, rfl⟩ := hr
  have gS : (s.heap.push (set0 led)).get? s.heap.objs.size = some (set0 led) := Heap.get?_push_size _ rfl
  have tS : Shared.TypeIs { s with heap := s.heap.push (set0 led) } (.ref s.heap.objs.size) "set" := ⟨_, gS, rfl⟩
  have lk := PySem.F.called_set.init.lookup
  have bd := PySem.F.called_set.init.bind (.ref s.heap.objs.size)
  repeat (any_goals (first | assumption | wp_step))
  refine codeAny_mono (codeAny_call_builtin (R := wants (fun r s2 => r = .none ∧ ∃ h1 tk, s2 = { s with heap := h1, toks := tk } ∧ SetUp prog w xs s.heap.objs.size items.size h1 ∧ ∀ b o, b < s.heap.objs.size → s.heap.get? b = some o → h1.get? b = some o) E)
    PySem.F.called_set.init.plain PySem.F.entry_set_init (check_set_init_1 tS ?_)) fun r2 s2 hr2 => ?_
  · obtain ⟨ol, hol, kc, nl, kd⟩ := isl
    obtain ⟨ocls, odict, odata, oslots⟩ := ol
    simp only at kc kd
    subst kc kd
    have gl : (s.heap.push (set0 led)).get? l = some { cls := .type "list", dict := odict, data := .seq items nl, slots := oslots } := Heap.get?_push_of_some _ hol
    have n1 := PySem.F.sub_list_set
    have n2 := PySem.F.sub_list_frozenset
    have n3 : (Value.type "list" == Value.type "dict") = false := by decide
    have isl2 : (s.heap.push (set0 led)).IsList l items := ⟨_, gl, rfl, nl, rfl⟩
    unfold Builtin.«set.__init__» noKeywords Builtin.Frozenset.updateFrom
    generalize hold : pyIter = PI
    wp_walk
    subst hold
    refine wpAny_pyIter_list isl2 (wpAny_bind (wpAny_runValue ?_))
    have lS : l < s.heap.objs.size := Heap.lt_size hol
    have h3 : A.in1.in1.in1.handled = none := by simp [hh]
    have sz : (s.heap.push (set0 led)).objs.size = s.heap.objs.size + 1 := by rw [Heap.size_push]
    have ne : l ≠ (s.heap.push (set0 led)).objs.size := by
      rw [sz]
      exact Nat.ne_of_lt (Nat.lt_succ_of_lt lS)
    have away : s.heap.objs.size ∉ [(s.heap.push (set0 led)).objs.size, l] := by
      rw [sz]
      intro m
      have q : s.heap.objs.size = s.heap.objs.size + 1 ∨ s.heap.objs.size = l := by simpa using m
      rcases q with q | q
      · exact Nat.ne_of_lt (Nat.lt_succ_self _) q
      · exact Nat.ne_of_gt lS q
    have len : xs.length = items.size := by rw [← StrsAre.len_eq are, Array.length_toList]
    refine set_turns ((Walks.list h3 _ l ne items).toS) s.heap.objs.size away xs len room (fun i v hv => SS.strs_at are i v (by rw [Array.getElem?_toList]; exact hv)) items.size 0 _ (by omega)
      ⟨⟨_, Heap.get?_push_size _ rfl, rfl, rfl⟩, (isl2.push _)⟩ ?_ fun s' mv up => ?_
    · have g2 := Heap.get?_push_of_some { cls := .type "list_iterator", data := .fields #[.ref l, .int 0 0] } gS
      exact PyProof.Rows.SetOf_congr ((PyProof.Rows.setObjOf_fresh (knd := PySem.strKind prog w) led).setOf g2 (by unfold scanBound; omega)) (fun _ => rfl) rfl
    · obtain ⟨h1, g1, d1, t1, o1⟩ := s'
      have a1 : g1 = s.gens := mv.gens
      have a2 : d1 = s.drawn := mv.drawn
      have a3 : o1 = s.os := mv.os
      subst a1 a2 a3
      refine wpAny_pure ?_
      show wpAny _ _ (ret Value.none) _ _ _
      refine wpAny_pure ⟨rfl, h1, t1, rfl, up, fun b o hb e => ?_⟩
      refine mv.heap b o (fun m => ?_) (Heap.get?_push_of_some _ (Heap.get?_push_of_some _ e))
      have q : b = s.heap.objs.size ∨ b = (s.heap.push (set0 led)).objs.size := by simpa using m
      rw [sz] at q
      rcases q with q | q
      · exact Nat.ne_of_lt hb q
      · exact Nat.ne_of_lt (Nat.lt_succ_of_lt hb) q
  · obtain e | fl := r2
    · exact hr2
    cases fl <;> try exact hr2.elim
    obtain ⟨rfl, h1, tk, rfl, up, kp⟩ := hr2
    repeat (any_goals (first | assumption | wp_step))
    exact fin _ _ up kp
end
section
variable {X : Cx}
def tLenSetS (K : PySem.W.Frag) (ta : TE) : TE := fun σ H Q => ta σ H fun x H1 => ∃ (l : Addr) (xs : List Str), x = .ref l ∧ SqL K H1 l (xs.map V.str) ∧ xs.length ≤ 1000 ∧ Q (.int (fresh1 xs xs.length)) H1
theorem pe_lenSetS {a : Expr} {ta : TE} {p p2 q pos : Pos} (hg : Gl X "len") (hm : X.mg "len" = none) (hg2 : Gl X "set") (hm2 : X.mg "set" = none) (ha : PE X a ta) (hc : X.calm = true := by rfl)
    (na : starEach [a] X.env = (false, eval a X.env) :: starEach [] X.env := by rfl) : PE X (.Call (.Name "len" p) [.Call (.Name "set" p2) [a] [] q] [] pos) (tLenSetS X.K ta) := by
  refine ⟨fun pins s σ H Q I h => ?_⟩
  refine Call_ (ld_blt I hg hm boot_len (PyProof.Rows.callWith_builtin1 (PyProof.Rows.args_cons ?_ rfl) rfl rfl))
  refine Call_ (ld_blt I hg2 hm2 boot_set (PyProof.Rows.callWith_type1 (PyProof.Rows.args_cons (thn (ha.run pins s σ H _ I h) fun v s1 ⟨x, H1, I1, r1, q1⟩ => PyProof.Rows.args_nil ?_) na) na rfl))
  obtain ⟨l, xs, rfl, hq, hl, q1⟩ := q1
  cases r1
  obtain ⟨its, r, pl, hz⟩ := I1.list hq
  have sz : its.toArray.size = xs.length := by rw [List.size_toArray, ← r.length, List.length_map]
  refine call_set_txt (I1.ok.hd hc) pl.isList (by simpa using strsAre_of r) (by rw [sz]; unfold scanBound; omega) fun h1 tk up kp => ?_
  refine PyProof.Rows.args_nil ?_
  rw [sz] at up
  obtain ⟨o, es, ep, t, ho, hex, hd, _, _, _, hf, hn⟩ := up
  have I2 : Inv X pins σ H1 { s1 with heap := h1, toks := tk } := I1.kept fun b o e => kp b o (Heap.lt_size e) e
  have le := fresh1_le xs xs.length
  exact call_len_set ho hex hd hf (by rw [hn]; omega) ⟨.int (fresh1 xs xs.length), H1, I2.tok _, ⟨_, by rw [hn]⟩, q1⟩
end

/-! ### two sources in one comprehension -/
section
variable {J : It} {n : Nat} {G : Hp → Prop} {Y : Nat → Hp → V → Hp → Prop}
theorem two_out (w : Walk J n G Y) {H0 : Hp} {Qd : Hp → Prop} {T : (Hp → Prop) → V → Hp → Prop} (Pv : Nat → Hp → Prop) (h0 : Pv 0 H0) (hG : ∀ i H, i ≤ n → Pv i H → G H)
    (hs : ∀ i x H H', i < n → Pv i H → Y i H x H' → T (Pv (i + 1)) x H') (hd : ∀ H, Pv n H → Qd H) :
    ∃ W : Nat → Nat → Hp → Prop, (∃ m, W 0 m H0) ∧ ∀ i m H, W i m H → (J.stop i H ∧ Qd H) ∨ (J.go i H ∧ ∃ N : Hp → Prop, (∀ H', N H' → ∃ m', m' < m ∧ W (i + 1) m' H') ∧ ∀ x H', J.yld i H x H' → T N x H') := by
  refine ⟨fun i m H => m = n - i ∧ i ≤ n ∧ Pv i H, ⟨n, by omega, Nat.zero_le _, h0⟩, fun i m H hw => ?_⟩
  obtain ⟨rfl, hi, p⟩ := hw
  have gH := hG i H hi p
  rcases Nat.lt_or_eq_of_le hi with hlt | rfl
  · exact .inr ⟨w.goes i H hlt gH, Pv (i + 1), fun H' p' => ⟨_, by omega, rfl, hlt, p'⟩, fun x H' y => hs i x H H' hlt p (w.yields i H x H' hlt gH y)⟩
  · exact .inl ⟨w.stops H gH, hd H p⟩
end
/-! ### a for that is the last of a block: what comes behind is a letter of its own -/
theorem for_itN {J : It} {n : Nat} {G : Hp → Prop} {Y : Nat → Hp → V → Hp → Prop} (w : Walk J n G Y) {g : TG} {tb : TS} {nx : L2.St → Hp → Prop} {rt : VK} {σ : L2.St} {H : Hp} (Pv : Nat → L2.St → Hp → Prop) (h0 : Pv 0 σ H) (hG : ∀ i σ H, i ≤ n → Pv i σ H → G H)
    (hs : ∀ i x σ H H', i < n → Pv i σ H → Y i H x H' → g x σ H' fun σ2 H2 => tb { nx := Pv (i + 1), rt := rt, bk := nx, ct := Pv (i + 1) } σ2 H2) (hd : ∀ σ H, Pv n σ H → nx σ H) :
    ∃ W : Nat → Nat → L2.St → Hp → Prop, (∃ m, W 0 m σ H) ∧ ∀ i m σ H, W i m σ H →
      (J.stop i H ∧ nx σ H) ∨ (J.go i H ∧ ∃ N : L2.St → Hp → Prop, (∀ σ' H', N σ' H' → ∃ m', m' < m ∧ W (i + 1) m' σ' H') ∧ ∀ x H', J.yld i H x H' → g x σ H' fun σ2 H2 => tb { nx := N, rt := rt, bk := nx, ct := N } σ2 H2) :=
  for_it (D := { nx := nx, rt := rt }) w Pv h0 hG hs hd
theorem gname_to {i : Nat} {v : V} {σ : L2.St} {H : Hp} {Q : L2.St → Hp → Prop} (h : Q (σ.set i (some v)) H) : gName i v σ H Q := h
theorem seq_to {t u : TS} {D : Ends} {σ : L2.St} {H : Hp} (h : t { D with nx := u D } σ H) : tSeq t u D σ H := h
theorem dun {k : Nat} {A : Around} (r : Room k A) : A.units + 1 < cLine := by have := r.units; omega


end
end Pf

namespace Pf
open PySem PySem.Spec PyProof.Rows L2
section
variable {P : Program} {w : World} {K : PySem.W.Frag} {mg : Str → Option Value} {base : Heap}
variable {c : Nat → Addr}
theorem nyes {p : Prop} [Decidable p] {A B : Prop} (h : p) (b : B) : if (!decide p) = true then A else B := by
  rw [decide_eq_true h]
  exact iteF b
theorem nnope {p : Prop} [Decidable p] {A B : Prop} (h : ¬ p) (a : A) : if (!decide p) = true then A else B := by
  rw [decide_eq_false h]
  exact iteT a
theorem prodZ_app (ns : List Int) (n : Int) : prodZ (ns ++ [n]) = prodZ ns * n := by unfold prodZ; rw [List.foldl_append]; rfl
theorem alt_seq {K : PySem.W.Frag} {i : Nat} {σ : L2.St} {H : Hp} {R : It → Hp → Prop} {a : Addr} {xs : List V} (hi : σ[i]? = some (some (.ref a))) (hq : SqL K H a xs ∨ SqT K H a xs)
    (k : ∀ (J : It) (G : Hp → Prop), Walk J xs.length G (YAt xs) → (∀ H', Same H H' → G H') → R J H) : iList K (tVar i) σ H R ∨ iTup K (tVar i) σ H R := by
  rcases hq with h | h
  · exact .inl ⟨_, hi, a, rfl, ⟨_, h⟩, k _ _ walk_list fun H' s => s.seq h⟩
  · exact .inr ⟨_, hi, a, rfl, ⟨_, h⟩, k _ _ walk_tup fun H' s => seqT_same s h⟩
theorem any_false (n : Nat) : (List.replicate n false).any id = false := by
  induction n with
  | zero => rfl
  | succ n ih => rw [List.replicate_succ, List.any_cons, ih]; rfl
def sp_product_of (K : PySem.W.Frag) : Sp := fun vs H Q _ => ∃ (a : Addr) (ns : List Int), vs = [.ref a] ∧ SqL K H a (ns.map V.int) ∧ ns.length ≤ 10 ∧ (∀ n ∈ ns, 0 ≤ n ∧ n ≤ 4) ∧ Q (.int (prodZ ns)) H
theorem four_le {i : Nat} (h : i ≤ 10) : (4 : Int) ^ i ≤ 1048576 := by
  have h1 : (4 : Nat) ^ i ≤ 4 ^ 10 := Nat.pow_le_pow_right (by decide) h
  have h2 : ((4 ^ i : Nat) : Int) ≤ ((4 ^ 10 : Nat) : Int) := Int.ofNat_le.mpr h1
  rw [Int.natCast_pow] at h2
  exact Int.le_trans h2 (by decide)
theorem ok_product_of (T : Txt P K mg c) : Has P w K mg base 1 "product_of" ["sizes"] (sp_product_of K) := by
  obtain ⟨f, fd, F, m, b⟩ := T.d_product_of.ex
  refine ⟨f, fd, F.ok sc_product_of (fun vs H Q E h => ?_) (fun cdv A outer s H vs Q E hr h => ?_), m, F.kp, b⟩
  · obtain ⟨a, ns, rfl, hq, hl, hn, q⟩ := h
    rfl
  obtain ⟨a, ns, rfl, hq, hl, hn, q⟩ := h
  refine ⟨_, (pss_cons (ps_set (i := 1) sc_product_of.nd rfl (.inl rfl) pe_int)
      (pss_cons (ps_for PassesOwn.never rfl (pi_list (pv 0)) (pg_name (i := 2) sc_product_of.nd rfl (.inl rfl))
      (pss_one (ps_set (i := 1) sc_product_of.nd rfl (.inl rfl) (pe_op op_mul (pv 1) (pv 2)))))
      (pss_one (ps_ret (pv 1))))), ?_⟩
  refine ⟨_, rfl, a, rfl, ⟨_, hq⟩, for_list (K := K) (a := a) (xs := ns.map V.int) (fun i σ H' => ∃ y, σ = [some (.ref a), some (.int (prodZ (ns.take i))), y] ∧ H' = H ∧ 0 ≤ prodZ (ns.take i) ∧ prodZ (ns.take i) ≤ 4 ^ i) ⟨_, rfl, rfl, by rw [List.take_zero]; decide, by rw [List.take_zero]; decide⟩ (fun i σ H' _ h' => ?_) ?_ ?_⟩
  · obtain ⟨_, _, rfl, _⟩ := h'
    exact hq
  · rintro i x σ H' hx ⟨y, rfl, rfl, b0, b1⟩
    rw [List.getElem?_map] at hx
    cases hx0 : ns[i]? with
    | none => rw [hx0] at hx; cases hx
    | some n =>
    rw [hx0] at hx
    cases hx
    obtain ⟨n0, n4⟩ := hn n (List.mem_of_getElem? hx0)
    have hi : i < ns.length := (List.getElem?_eq_some_iff.mp hx0).1
    have b2 := four_le (i := i) (by omega)
    refine ⟨_, rfl, _, rfl, _, _, rfl, rfl, .inl ⟨by omega, by omega⟩, ?_⟩
    refine ⟨some (.int n), ?_, rfl, ?_, ?_⟩
    · rw [take_succ_at hx0, prodZ_app]
      rfl
    · rw [take_succ_at hx0, prodZ_app]
      exact Int.mul_nonneg b0 n0
    · rw [take_succ_at hx0, prodZ_app, Int.pow_succ]
      exact Int.mul_le_mul b1 n4 n0 (by omega)
  · rintro σ H' ⟨y, rfl, rfl, b0, b1⟩
    refine ⟨_, rfl, ?_⟩
    rw [List.length_map, List.take_length]
    exact q
def sp_in_sight (K : PySem.W.Frag) : Sp := fun us H Q _ => ∃ (v x : V) (vs : List Vr) (p : Pr), us = [v, x] ∧ VrsAt K H v vs ∧ PrAt K H x p ∧ vs.length ≤ 4 ∧ p.ps.length ≤ 3 ∧ p.ls.length ≤ 3 ∧
  ∀ (l : Addr) (ws : List V) (H' : Hp), Same H H' → H l = none → H' l = some (.lst ws) → All2 (VrAt K H') ws (scp vs p) → Q (.ref l) H'
theorem p0 {x y z w : V} : atI [x, y, z, w] 0 = some x := atI_nat (j := 0) rfl
theorem p1 {x y z w : V} : atI [x, y, z, w] 1 = some y := atI_nat (j := 1) rfl
theorem p2 {x y z w : V} : atI [x, y, z, w] 2 = some z := atI_nat (j := 2) rfl
theorem p3 {x y z w : V} : atI [x, y, z, w] 3 = some w := atI_nat (j := 3) rfl
theorem ok_in_sight (T : Txt P K mg c) : Has P w K mg base 1 "in_sight" ["variables", "procedure"] (sp_in_sight K) := by
  obtain ⟨f, fd, F, m, b⟩ := T.d_in_sight.ex
  refine ⟨f, fd, F.ok sc_in_sight (fun vs H Q E h => ?_) (fun cdv A outer s H vs Q E hr h => ?_), m, F.kp, b⟩
  · obtain ⟨v, x, vs, p, rfl, hv, hx, v4, p3, l3, q⟩ := h
    rfl
  obtain ⟨v, x, vs, p, rfl, hv, hx, v4, p3, l3, q⟩ := h
  refine ⟨_, (pss_one (ps_ret (pe_op op_cat (pe_op op_cat (pe_callTy call_list_of (by rfl) T.z_list (by decide +kernel) (pa_cons (pv 0) pa_nil)) (pe_callTy call_list_of (by rfl) T.z_list (by decide +kernel) (pa_cons (pe_ix ix_tup (pv 1) pe_int (fun _ _ => rfl)) pa_nil))) (pe_callTy call_list_of (by rfl) T.z_list (by decide +kernel) (pa_cons (pe_ix ix_tup (pv 1) pe_int (fun _ _ => rfl)) pa_nil))))), ?_⟩
  obtain ⟨a, xs, rfl, hq, ha⟩ := hv
  obtain ⟨r, s1, s2, s3, rfl, hr, ⟨a1, x1, rfl, hq1, ha1⟩, ⟨a2, x2, rfl, hq2, ha2⟩, h3⟩ := hx
  have e0 := ha.1
  have e1 := ha1.1
  have e2 := ha2.1
  refine ⟨_, rfl, a, _, rfl, hq, fun l0 n0 => ?_⟩
  have t0 := same_new (o := .lst xs) n0
  refine ⟨_, rfl, r, _, _, _, rfl, rfl, seqT_same t0 hr, p1, a1, _, rfl, hq1.same t0, fun l1 n1 => ?_⟩
  have t1 := t0.trans (same_new (o := .lst x1) n1)
  refine ⟨l0, l1, _, _, rfl, rfl, same_new n1 _ _ upd_same, upd_same, line_small (by omega), fun l2 n2 => ?_⟩
  have t2 := t1.trans (same_new (o := .lst (xs ++ x1)) n2)
  refine ⟨_, rfl, r, _, _, _, rfl, rfl, seqT_same t2 hr, p2, a2, _, rfl, hq2.same t2, fun l4 n4 => ?_⟩
  have t4 := t2.trans (same_new (o := .lst x2) n4)
  refine ⟨l2, l4, _, _, rfl, rfl, same_new n4 _ _ upd_same, upd_same, line_small (by rw [List.length_append]; omega), fun l5 n5 => ?_⟩
  have t5 := t4.trans (same_new (o := .lst ((xs ++ x1) ++ x2)) n5)
  refine q l5 _ _ t5 (same_back t4 n5) upd_same ?_
  exact ((ha.imp fun _ _ => VrAt.same t5).app (ha1.imp fun _ _ => VrAt.same t5)).app (ha2.imp fun _ _ => VrAt.same t5)
def sp_has_many_variables (K : PySem.W.Frag) : Sp := fun us H Q _ => ∃ (x : V) (p : Pr), us = [x] ∧ PrAt K H x p ∧ p.ps.length ≤ 3 ∧ p.ls.length ≤ 3 ∧ Q (.bl false) H
theorem ok_has_many_variables (T : Txt P K mg c) : Has P w K mg base 1 "has_many_variables" ["procedure"] (sp_has_many_variables K) := by
  obtain ⟨f, fd, F, m, b⟩ := T.d_has_many_variables.ex
  obtain ⟨tk_MOST_PARAMETERS, cc_MOST_PARAMETERS⟩ := T.c_MOST_PARAMETERS
  obtain ⟨tk_MOST_LOCALS, cc_MOST_LOCALS⟩ := T.c_MOST_LOCALS
  refine ⟨f, fd, F.ok sc_has_many_variables (fun vs H Q E h => ?_) (fun cdv A outer s H vs Q E hr h => ?_), m, F.kp, b⟩
  · obtain ⟨x, p, rfl, hx, l1, l2, q⟩ := h
    rfl
  obtain ⟨x, p, rfl, hx, l1, l2, q⟩ := h
  refine ⟨_, (pss_one (ps_ret (pe_or (pe_cmpR op_gt (pe_callB call_len_seq (by rfl) T.z_len (by decide +kernel) (pa_cons (pe_ix ix_tup (pv 0) pe_int (fun _ _ => rfl)) pa_nil)) (pe_glob (v := .int 3) rfl cc_MOST_PARAMETERS ⟨_, rfl⟩) (nomark _)) (pe_one (pe_cmpR op_gt (pe_callB call_len_seq (by rfl) T.z_len (by decide +kernel) (pa_cons (pe_ix ix_tup (pv 0) pe_int (fun _ _ => rfl)) pa_nil)) (pe_glob (v := .int 3) rfl cc_MOST_LOCALS ⟨_, rfl⟩) (nomark _)))))), ?_⟩
  obtain ⟨r, s1, s2, s3, rfl, hr, ⟨a1, x1, rfl, hq1, ha1⟩, ⟨a2, x2, rfl, hq2, ha2⟩, h3⟩ := hx
  have e1 := ha1.1
  have e2 := ha2.1
  refine ⟨_, rfl, r, _, _, _, rfl, rfl, hr, p1, a1, _, rfl, hq1, _, _, rfl, rfl, _, rfl, ?_⟩
  rw [decide_eq_false (show ¬ ((3 : Int) < ((x1.length : Nat) : Int)) by omega)]
  refine iteF ⟨_, rfl, r, _, _, _, rfl, rfl, hr, p2, a2, _, rfl, hq2, _, _, rfl, rfl, ?_⟩
  show Q (.bl (decide ((3 : Int) < ((x2.length : Nat) : Int)))) H
  rw [decide_eq_false (show ¬ ((3 : Int) < ((x2.length : Nat) : Int)) by omega)]
  exact q

theorem alt_seqB {K : PySem.W.Frag} {i : Nat} {σ : L2.St} {Hb H : Hp} {R : It → Hp → Prop} {a : Addr} {xs : List V} (hi : σ[i]? = some (some (.ref a))) (hq : SeqV K Hb a xs) (e : Same Hb H)
    (k : ∀ (J : It) (G : Hp → Prop), Walk J xs.length G (YAt xs) → (∀ H', Same Hb H' → G H') → R J H) : iList K (tVar i) σ H R ∨ iTup K (tVar i) σ H R := by
  rcases hq with h | h
  · exact .inl ⟨_, hi, a, rfl, ⟨_, e.seq h⟩, k _ _ walk_list fun H' s => s.seq h⟩
  · exact .inr ⟨_, hi, a, rfl, ⟨_, seqT_same e h⟩, k _ _ walk_tup fun H' s => seqT_same s h⟩
theorem o0 {x : V} : atI [x] 0 = some x := atI_nat (j := 0) rfl
theorem h0 {x : V} {xs : List V} : atI (x :: xs) 0 = some x := atI_nat (j := 0) rfl
theorem h1 {x y : V} {xs : List V} : atI (x :: y :: xs) 1 = some y := atI_nat (j := 1) rfl
theorem h2 {x y z : V} {xs : List V} : atI (x :: y :: z :: xs) 2 = some z := atI_nat (j := 2) rfl
theorem h3 {x y z w : V} {xs : List V} : atI (x :: y :: z :: w :: xs) 3 = some w := atI_nat (j := 3) rfl
/-- the bodies that stand in a statement -/
def St.inn : St → List (List St)
  | .ifs _ b o => [b, o]
  | .whi _ b => [b]
  | _ => []
theorem wd {a b : Str} (h : (a == b) = false) : ¬ V.str a = V.str b := fun z => by
  rw [V.str.inj z] at h
  have : (b == b) = true := beq_self_eq_true b
  rw [this] at h
  cases h
/-- a statement, as far as its bodies go: they are of R -/
def StRel (K : PySem.W.Frag) (H : Hp) (R : V → List St → Prop) (x : V) : St → Prop
  | .ifs _ b o => ∃ q y u w, x = .ref q ∧ SqT K H q [.str "if", y, u, w] ∧ R u b ∧ R w o
  | .whi _ b => ∃ q y u, x = .ref q ∧ SqT K H q [.str "while", y, u] ∧ R u b
  | .set v e => ∃ q ys, x = .ref q ∧ SqT K H q (.str (St.word (.set v e)) :: ys)
  | .read v => ∃ q ys, x = .ref q ∧ SqT K H q (.str (St.word (.read v)) :: ys)
  | .write e => ∃ q ys, x = .ref q ∧ SqT K H q (.str (St.word (.write e)) :: ys)
  | .call p as => ∃ q ys, x = .ref q ∧ SqT K H q (.str (St.word (.call p as)) :: ys)
  | .skip => ∃ q ys, x = .ref q ∧ SqT K H q (.str (St.word .skip) :: ys)
theorem StAt.rel {K : PySem.W.Frag} {H : Hp} {x : V} {s : St} (h : StAt K H x s) : StRel K H (BdAt K H) x s := by
  cases s with
  | ifs e b o =>
    obtain ⟨q, y, u, w, h1, h2, _, h3, h4⟩ := h.is
    exact ⟨q, y, u, w, h1, h2, h3, h4⟩
  | whi e b =>
    obtain ⟨q, y, u, h1, h2, _, h3⟩ := h.is
    exact ⟨q, y, u, h1, h2, h3⟩
  | set v e => exact h.hd
  | read v => exact h.hd
  | write e => exact h.hd
  | call p as => exact h.hd
  | skip => exact h.hd
def sp_bodies_of (K : PySem.W.Frag) : Sp := fun us H Q _ => ∃ (x : V) (s : St) (H0 : Hp) (R : V → List St → Prop), us = [x] ∧ Same H0 H ∧ StRel K H0 R x s ∧ ∀ (t : Addr) (xs : List V) (H' : Hp), Same H H' → SqT K H' t xs → All2 R xs s.inn → Q (.ref t) H'
theorem ok_bodies_of (T : Txt P K mg c) : Has P w K mg base 1 "bodies_of" ["statement"] (sp_bodies_of K) := by
  obtain ⟨f, fd, F, m, b⟩ := T.d_bodies_of.ex
  refine ⟨f, fd, F.ok sc_bodies_of (fun vs H Q E h => ?_) (fun cdv A outer s H vs Q E hr h => ?_), m, F.kp, b⟩
  · obtain ⟨x, s, H0, R, rfl, s00, hs, q⟩ := h
    rfl
  obtain ⟨x, s, H0, R, rfl, s00, hs, q⟩ := h
  refine ⟨_, (pss_cons (ps_if (pt_cmpR op_eq (pe_ix ix_tup (pv 0) pe_int (fun _ _ => rfl)) pe_str (nomark _))
      (pss_one (ps_ret (pe_tup (pa_cons (pe_ix ix_tup (pv 0) pe_int (fun _ _ => rfl)) (pa_cons (pe_ix ix_tup (pv 0) pe_int (fun _ _ => rfl)) pa_nil)))))
      pss_nil)
      (pss_cons (ps_if (pt_cmpR op_eq (pe_ix ix_tup (pv 0) pe_int (fun _ _ => rfl)) pe_str (nomark _))
      (pss_one (ps_ret (pe_tup (pa_cons (pe_ix ix_tup (pv 0) pe_int (fun _ _ => rfl)) pa_nil))))
      pss_nil)
      (pss_one (ps_ret (pe_tup pa_nil))))), ?_⟩
  cases s with
  | ifs e b o =>
    obtain ⟨p, y, u, w, rfl, hp, hb, ho⟩ := hs
    have hp := seqT_same s00 hp
    refine ⟨_, rfl, p, _, _, _, rfl, rfl, hp, h0, rfl, _, rfl, yes rfl ?_⟩
    refine ⟨_, rfl, p, _, _, _, rfl, rfl, hp, h2, _, rfl, p, _, _, _, rfl, rfl, hp, h3, by show 2 ≤ sizeLine; decide, fun t nt => q t _ _ (same_new nt) (SqT.of upd_same) ?_⟩
    exact All2.app (xs := [_]) (ys := [_]) (.one hb) (.one ho)
  | whi e b =>
    obtain ⟨p, y, u, rfl, hp, hb⟩ := hs
    have hp := seqT_same s00 hp
    refine ⟨_, rfl, p, _, _, _, rfl, rfl, hp, h0, rfl, _, rfl, nope (wd (show (("while" : Str) == "if") = false by decide +kernel)) ?_⟩
    refine ⟨_, rfl, p, _, _, _, rfl, rfl, hp, h0, rfl, _, rfl, yes rfl ?_⟩
    exact ⟨_, rfl, p, _, _, _, rfl, rfl, hp, h2, by show 1 ≤ sizeLine; decide, fun t nt => q t _ _ (same_new nt) (SqT.of upd_same) (.one hb)⟩
  | set v e =>
    obtain ⟨p, ys, rfl, hp⟩ := hs
    have hp := seqT_same s00 hp
    refine ⟨_, rfl, p, _, _, _, rfl, rfl, hp, h0, rfl, _, rfl, nope (wd (show (("set" : Str) == "if") = false by decide +kernel)) ?_⟩
    refine ⟨_, rfl, p, _, _, _, rfl, rfl, hp, h0, rfl, _, rfl, nope (wd (show (("set" : Str) == "while") = false by decide +kernel)) ?_⟩
    exact ⟨by show 0 ≤ sizeLine; decide, fun t nt => q t _ _ (same_new nt) (SqT.of upd_same) .nil⟩
  | read v =>
    obtain ⟨p, ys, rfl, hp⟩ := hs
    have hp := seqT_same s00 hp
    refine ⟨_, rfl, p, _, _, _, rfl, rfl, hp, h0, rfl, _, rfl, nope (wd (show (("read" : Str) == "if") = false by decide +kernel)) ?_⟩
    refine ⟨_, rfl, p, _, _, _, rfl, rfl, hp, h0, rfl, _, rfl, nope (wd (show (("read" : Str) == "while") = false by decide +kernel)) ?_⟩
    exact ⟨by show 0 ≤ sizeLine; decide, fun t nt => q t _ _ (same_new nt) (SqT.of upd_same) .nil⟩
  | write e =>
    obtain ⟨p, ys, rfl, hp⟩ := hs
    have hp := seqT_same s00 hp
    refine ⟨_, rfl, p, _, _, _, rfl, rfl, hp, h0, rfl, _, rfl, nope (wd (show (("write" : Str) == "if") = false by decide +kernel)) ?_⟩
    refine ⟨_, rfl, p, _, _, _, rfl, rfl, hp, h0, rfl, _, rfl, nope (wd (show (("write" : Str) == "while") = false by decide +kernel)) ?_⟩
    exact ⟨by show 0 ≤ sizeLine; decide, fun t nt => q t _ _ (same_new nt) (SqT.of upd_same) .nil⟩
  | call g as =>
    obtain ⟨p, ys, rfl, hp⟩ := hs
    have hp := seqT_same s00 hp
    refine ⟨_, rfl, p, _, _, _, rfl, rfl, hp, h0, rfl, _, rfl, nope (wd (show (("call" : Str) == "if") = false by decide +kernel)) ?_⟩
    refine ⟨_, rfl, p, _, _, _, rfl, rfl, hp, h0, rfl, _, rfl, nope (wd (show (("call" : Str) == "while") = false by decide +kernel)) ?_⟩
    exact ⟨by show 0 ≤ sizeLine; decide, fun t nt => q t _ _ (same_new nt) (SqT.of upd_same) .nil⟩
  | skip =>
    obtain ⟨p, ys, rfl, hp⟩ := hs
    have hp := seqT_same s00 hp
    refine ⟨_, rfl, p, _, _, _, rfl, rfl, hp, h0, rfl, _, rfl, nope (wd (show (("skip" : Str) == "if") = false by decide +kernel)) ?_⟩
    refine ⟨_, rfl, p, _, _, _, rfl, rfl, hp, h0, rfl, _, rfl, nope (wd (show (("skip" : Str) == "while") = false by decide +kernel)) ?_⟩
    exact ⟨by show 0 ≤ sizeLine; decide, fun t nt => q t _ _ (same_new nt) (SqT.of upd_same) .nil⟩
/-- the expressions that stand in a statement itself -/
def St.exs : St → List Ex
  | .set _ e => [e]
  | .write e => [e]
  | .ifs e _ _ => [e]
  | .whi e _ => [e]
  | .call _ as => as
  | _ => []
def sp_expressions_of (K : PySem.W.Frag) : Sp := fun us H Q _ => ∃ (x : V) (s : St), us = [x] ∧ StAt K H x s ∧ ∀ (t : Addr) (xs : List V) (H' : Hp), Same H H' → SqT K H' t xs → DpAll K H' xs (s.exs.map Ex.d) → Q (.ref t) H'
theorem ok_expressions_of (T : Txt P K mg c) : Has P w K mg base 1 "expressions_of" ["statement"] (sp_expressions_of K) := by
  obtain ⟨f, fd, F, m, b⟩ := T.d_expressions_of.ex
  refine ⟨f, fd, F.ok sc_expressions_of (fun vs H Q E h => ?_) (fun cdv A outer s H vs Q E hr h => ?_), m, F.kp, b⟩
  · obtain ⟨x, s, rfl, hs, q⟩ := h
    rfl
  obtain ⟨x, s, rfl, hs, q⟩ := h
  refine ⟨_, (pss_cons (ps_set (i := 1) sc_expressions_of.nd rfl (.inl rfl) (pe_ix ix_tup (pv 0) pe_int (fun _ _ => rfl)))
      (pss_cons (ps_if (pt_cmpR op_eq (pv 1) pe_str (nomark _))
      (pss_one (ps_ret (pe_tup (pa_cons (pe_ix ix_tup (pv 0) pe_int (fun _ _ => rfl)) pa_nil))))
      pss_nil)
      (pss_cons (ps_if (pt_cmpR op_eq (pv 1) pe_str (nomark _))
      (pss_one (ps_ret (pe_callTy call_tuple_of (by rfl) T.z_tuple (by decide +kernel) (pa_cons (pe_ix ix_tup (pv 0) pe_int (fun _ _ => rfl)) pa_nil))))
      pss_nil)
      (pss_cons (ps_if (pt_cmpR op_in_seq (pv 1) (pe_tup (pa_cons pe_str (pa_cons pe_str (pa_cons pe_str pa_nil)))) (by rfl))
      (pss_one (ps_ret (pe_tup (pa_cons (pe_ix ix_tup (pv 0) pe_int (fun _ _ => rfl)) pa_nil))))
      pss_nil)
      (pss_one (ps_ret (pe_tup pa_nil))))))), ?_⟩
  cases s with
  | set v e =>
    obtain ⟨p, y, rfl, hp, he⟩ := hs.is
    refine ⟨_, rfl, p, _, _, _, rfl, rfl, hp, h0, ?_⟩
    refine ⟨_, rfl, rfl, _, rfl, yes rfl ?_⟩
    exact ⟨_, rfl, p, _, _, _, rfl, rfl, hp, h2, by show 1 ≤ sizeLine; decide, fun t nt => q t _ _ (same_new nt) (SqT.of upd_same) (.cons (dp_same (same_new nt) he) .nil)⟩
  | read v =>
    obtain ⟨p, rfl, hp⟩ := hs.is
    refine ⟨_, rfl, p, _, _, _, rfl, rfl, hp, h0, ?_⟩
    refine ⟨_, rfl, rfl, _, rfl, nope (wd (show (("read" : Str) == "set") = false by decide +kernel)) ?_⟩
    refine ⟨_, rfl, rfl, _, rfl, nope (wd (show (("read" : Str) == "call") = false by decide +kernel)) ?_⟩
    refine ⟨_, rfl, by show 3 ≤ sizeLine; decide, fun t nt => ⟨t, _, rfl, .inr (SqT.of upd_same), rfl, by decide +kernel, _, rfl, ?_⟩⟩
    have s0 := same_new (o := .tup [.str "write", .str "if", .str "while"]) nt
    refine ite2 (fun e => absurd (show inV (V.str "read") [V.str "write", V.str "if", V.str "while"] = true from e) (by decide +kernel)) fun _ => ?_
    exact ⟨by show 0 ≤ sizeLine; decide, fun t2 n2 => q t2 _ _ (s0.trans (same_new n2)) (SqT.of upd_same) .nil⟩
  | write e =>
    obtain ⟨p, y, rfl, hp, he⟩ := hs.is
    refine ⟨_, rfl, p, _, _, _, rfl, rfl, hp, h0, ?_⟩
    refine ⟨_, rfl, rfl, _, rfl, nope (wd (show (("write" : Str) == "set") = false by decide +kernel)) ?_⟩
    refine ⟨_, rfl, rfl, _, rfl, nope (wd (show (("write" : Str) == "call") = false by decide +kernel)) ?_⟩
    refine ⟨_, rfl, by show 3 ≤ sizeLine; decide, fun t nt => ⟨t, _, rfl, .inr (SqT.of upd_same), rfl, by decide +kernel, _, rfl, ?_⟩⟩
    have s0 := same_new (o := .tup [.str "write", .str "if", .str "while"]) nt
    refine ite2 (fun _ => ?_) (fun e => absurd (show inV (V.str "write") [V.str "write", V.str "if", V.str "while"] = true by decide +kernel) e)
    exact ⟨_, rfl, p, _, _, _, rfl, rfl, seqT_same s0 hp, h1, by show 1 ≤ sizeLine; decide, fun t2 n2 => q t2 _ _ (s0.trans (same_new n2)) (SqT.of upd_same) (.cons (dp_same (s0.trans (same_new n2)) he) .nil)⟩
  | ifs e b o =>
    obtain ⟨p, y, u, w, rfl, hp, he, _⟩ := hs.is
    refine ⟨_, rfl, p, _, _, _, rfl, rfl, hp, h0, ?_⟩
    refine ⟨_, rfl, rfl, _, rfl, nope (wd (show (("if" : Str) == "set") = false by decide +kernel)) ?_⟩
    refine ⟨_, rfl, rfl, _, rfl, nope (wd (show (("if" : Str) == "call") = false by decide +kernel)) ?_⟩
    refine ⟨_, rfl, by show 3 ≤ sizeLine; decide, fun t nt => ⟨t, _, rfl, .inr (SqT.of upd_same), rfl, by decide +kernel, _, rfl, ?_⟩⟩
    have s0 := same_new (o := .tup [.str "write", .str "if", .str "while"]) nt
    refine ite2 (fun _ => ?_) (fun e => absurd (show inV (V.str "if") [V.str "write", V.str "if", V.str "while"] = true by decide +kernel) e)
    exact ⟨_, rfl, p, _, _, _, rfl, rfl, seqT_same s0 hp, h1, by show 1 ≤ sizeLine; decide, fun t2 n2 => q t2 _ _ (s0.trans (same_new n2)) (SqT.of upd_same) (.cons (dp_same (s0.trans (same_new n2)) he) .nil)⟩
  | whi e b =>
    obtain ⟨p, y, u, rfl, hp, he, _⟩ := hs.is
    refine ⟨_, rfl, p, _, _, _, rfl, rfl, hp, h0, ?_⟩
    refine ⟨_, rfl, rfl, _, rfl, nope (wd (show (("while" : Str) == "set") = false by decide +kernel)) ?_⟩
    refine ⟨_, rfl, rfl, _, rfl, nope (wd (show (("while" : Str) == "call") = false by decide +kernel)) ?_⟩
    refine ⟨_, rfl, by show 3 ≤ sizeLine; decide, fun t nt => ⟨t, _, rfl, .inr (SqT.of upd_same), rfl, by decide +kernel, _, rfl, ?_⟩⟩
    have s0 := same_new (o := .tup [.str "write", .str "if", .str "while"]) nt
    refine ite2 (fun _ => ?_) (fun e => absurd (show inV (V.str "while") [V.str "write", V.str "if", V.str "while"] = true by decide +kernel) e)
    exact ⟨_, rfl, p, _, _, _, rfl, rfl, seqT_same s0 hp, h1, by show 1 ≤ sizeLine; decide, fun t2 n2 => q t2 _ _ (s0.trans (same_new n2)) (SqT.of upd_same) (.cons (dp_same (s0.trans (same_new n2)) he) .nil)⟩
  | call g as =>
    obtain ⟨p, a, xs, rfl, hp, ha, hx⟩ := hs.is
    refine ⟨_, rfl, p, _, _, _, rfl, rfl, hp, h0, ?_⟩
    refine ⟨_, rfl, rfl, _, rfl, nope (wd (show (("call" : Str) == "set") = false by decide +kernel)) ?_⟩
    refine ⟨_, rfl, rfl, _, rfl, yes rfl ?_⟩
    refine ⟨_, rfl, p, _, _, _, rfl, rfl, hp, h2, a, xs, rfl, ?_⟩
    rcases ha with ha | ha
    · exact .inl ⟨ha, fun t nt => q t _ _ (same_new nt) (SqT.of upd_same) (dpa_same (same_new nt) hx)⟩
    · exact .inr ⟨ha, q a _ _ (Same.refl _) ha hx⟩
  | skip =>
    obtain ⟨p, rfl, hp⟩ := hs.is
    refine ⟨_, rfl, p, _, _, _, rfl, rfl, hp, h0, ?_⟩
    refine ⟨_, rfl, rfl, _, rfl, nope (wd (show (("skip" : Str) == "set") = false by decide +kernel)) ?_⟩
    refine ⟨_, rfl, rfl, _, rfl, nope (wd (show (("skip" : Str) == "call") = false by decide +kernel)) ?_⟩
    refine ⟨_, rfl, by show 3 ≤ sizeLine; decide, fun t nt => ⟨t, _, rfl, .inr (SqT.of upd_same), rfl, by decide +kernel, _, rfl, ?_⟩⟩
    have s0 := same_new (o := .tup [.str "write", .str "if", .str "while"]) nt
    refine ite2 (fun e => absurd (show inV (V.str "skip") [V.str "write", V.str "if", V.str "while"] = true from e) (by decide +kernel)) fun _ => ?_
    exact ⟨by show 0 ≤ sizeLine; decide, fun t2 n2 => q t2 _ _ (s0.trans (same_new n2)) (SqT.of upd_same) .nil⟩
/-- is_deeper, leaves_of: by the depth -/
def Ex.parts : Ex → List Ex
  | .num _ => []
  | .nam _ => []
  | .not e => [e]
  | .bin _ l r => [l, r]
def Ex.leaf : Ex → Bool
  | .num _ => true
  | .nam _ => true
  | _ => false
theorem op_leaf : ∀ o : Nat, inV (V.str (opS o)) [V.str "number", V.str "name"] = false
  | 0 => by decide +kernel
  | 1 => by decide +kernel
  | 2 => by decide +kernel
  | 3 => by decide +kernel
  | 4 => by decide +kernel
  | 5 => by decide +kernel
  | _ + 6 => by show inV (V.str "or") [V.str "number", V.str "name"] = false; decide +kernel
theorem ex_un {K : PySem.W.Frag} {H : Hp} {x : V} : ∀ {e : Ex}, Dp K H x e.d → ∃ p w xs, x = .ref p ∧ SqT K H p (.str w :: xs) ∧ xs ≠ [] ∧ inV (V.str w) [V.str "number", V.str "name"] = e.leaf ∧ (e.leaf = false → DpAll K H xs (e.parts.map Ex.d))
  | .num n, h => by
    rw [Ex.d] at h
    obtain ⟨p, xs, rfl, hp, k⟩ := dp_tup' h
    cases k with
    | cons a k =>
      cases a
      refine ⟨p, _, _, rfl, hp, ?_, (show inV (V.str "number") [V.str "number", V.str "name"] = true by decide +kernel), fun z => nomatch z⟩
      cases k
      simp
  | .nam n, h => by
    rw [Ex.d] at h
    obtain ⟨p, xs, rfl, hp, k⟩ := dp_tup' h
    cases k with
    | cons a k =>
      cases a
      refine ⟨p, _, _, rfl, hp, ?_, (show inV (V.str "name") [V.str "number", V.str "name"] = true by decide +kernel), fun z => nomatch z⟩
      cases k
      simp
  | .not e, h => by
    rw [Ex.d] at h
    obtain ⟨p, xs, rfl, hp, k⟩ := dp_tup' h
    cases k with
    | cons a k =>
      cases a
      refine ⟨p, _, _, rfl, hp, ?_, (show inV (V.str "not") [V.str "number", V.str "name"] = false by decide +kernel), fun _ => k⟩
      cases k
      simp
  | .bin o l r, h => by
    rw [Ex.d] at h
    obtain ⟨p, xs, rfl, hp, k⟩ := dp_tup' h
    cases k with
    | cons a k =>
      cases a
      refine ⟨p, _, _, rfl, hp, ?_, op_leaf o, fun _ => k⟩
      cases k
      simp
theorem slA1 {K : PySem.W.Frag} {H : Hp} {a : Addr} {x : V} {xs : List V} {Q : VK} (h : SqT K H a (x :: xs)) (q : ∀ p H', Same H H' → SqT K H' p xs → Q (.ref p) H') : rSlA K (.ref a) (some 1) none H Q := by
  refine ⟨a, _, rfl, h, fun z => ?_, fun _ p np => q p _ (same_new np) (SqT.of (by rw [upd_same, show (some (1 : Int)) = some ((1 : Nat) : Int) from rfl, cut_from]; rfl))⟩
  have : HT.sIx (x :: xs).length 0 (some ((1 : Nat) : Int)) = min 1 (x :: xs).length := HT.sIx_nat _ 0 1
  have h0 := z.1
  rw [show (some (1 : Int)) = some ((1 : Nat) : Int) from rfl, this, List.length_cons] at h0
  omega
theorem any_dp (l : Nat) : ∀ e : Ex, e.leaf = false → ((e.parts).map fun p => decide (l < p.depth)).any id = decide (l + 1 < e.depth)
  | .num _, h => nomatch h
  | .nam _, h => nomatch h
  | .not e, _ => by
    show (decide (l < e.depth) || false) = decide (l + 1 < e.depth + 1)
    rw [Bool.or_false, Bool.eq_iff_iff, decide_eq_true_iff, decide_eq_true_iff]
    omega
  | .bin _ a b, _ => by
    show (decide (l < a.depth) || (decide (l < b.depth) || false)) = decide (l + 1 < max a.depth b.depth + 1)
    rw [Bool.or_false, Bool.eq_iff_iff, Bool.or_eq_true, decide_eq_true_iff, decide_eq_true_iff, decide_eq_true_iff]
    omega
theorem parts_depth {e p : Ex} (h : p ∈ e.parts) : p.depth + 1 ≤ e.depth := by
  cases e with
  | num => exact nomatch h
  | nam => exact nomatch h
  | not a =>
    rcases List.mem_singleton.mp h with rfl
    exact Nat.le_refl _
  | bin o a b =>
    show p.depth + 1 ≤ max a.depth b.depth + 1
    rcases List.mem_cons.mp h with rfl | h
    · omega
    · rcases List.mem_singleton.mp h with rfl
      omega
theorem parts_len (e : Ex) : e.parts.length ≤ 2 := by cases e <;> simp [Ex.parts]
theorem leaf_depth {e : Ex} (h : e.leaf = true) : e.depth = 1 := by cases e <;> first | rfl | cases h
def sp_is_deeper (K : PySem.W.Frag) (n : Nat) : Sp := fun us H Q _ => ∃ (x : V) (e : Ex) (l : Nat), us = [x, .int (l : Int)] ∧ Dp K H x e.d ∧ e.depth ≤ n ∧ ∀ H', Same H H' → Q (.bl (decide (l < e.depth))) H'
theorem ok_is_deeper (T : Txt P K mg c) : ∀ n : Nat, Has P w K mg base (n + 1) "is_deeper" ["expression", "limit"] (sp_is_deeper K n)
| 0 => .none T.d_is_deeper fun vs H Q E h => by
    obtain ⟨_, e, _, _, _, h, _⟩ := h
    have := e.depth_pos
    omega
| n + 1 => by
  obtain ⟨f_is_deeper, fd_is_deeper, G_is_deeper, m_is_deeper, k_is_deeper, b_is_deeper⟩ := ok_is_deeper T n
  obtain ⟨f, fd, F, m, b⟩ := T.d_is_deeper.ex
  obtain ⟨ka_LEAVES, cc_LEAVES, kt_LEAVES⟩ := T.c_LEAVES
  refine ⟨f, fd, F.ok sc_is_deeper (fun vs H Q E h => ?_) (fun cdv A outer s H vs Q E hr h => ?_), m, F.kp, b⟩
  · obtain ⟨x, e, l, rfl, hx, hd, q⟩ := h
    rfl
  obtain ⟨x, e, l, rfl, hx, hd, q⟩ := h
  refine ⟨_, (pss_cons (ps_if (pt_cmpR op_eq (pv 1) pe_int (nomark _))
      (pss_one (ps_ret pe_bl))
      pss_nil)
      (pss_cons (ps_if (pt_cmpR op_in_seq (pe_ix ix_tup (pv 0) pe_int (fun _ _ => rfl)) (pe_glob (v := .ref ka_LEAVES) rfl cc_LEAVES rfl) (by rfl))
      (pss_one (ps_ret pe_bl))
      pss_nil)
      (pss_one (ps_ret (pe_callB (cr_any rfl) (by rfl) T.z_any (by decide +kernel) (pa_cons (pe_lc (own := [("part", 2)]) (g := gName 2) (by rfl) sc_is_deeper.nd (pi_tup (pe_slice sl_tupA (pv 0) (po_some pe_int) po_none)) (blkOk_by (own := [("part", 2)]) (N := ["expression", "limit", "part"]) (sc := defScope s_is_deeper) (by decide +kernel)) (fun _ _ _ _ _ => pg_name (i := 2) sc_is_deeper.nd rfl (Or.inl rfl)) (fun _ _ _ _ _ => pts_nil) (fun _ _ _ _ _ => (pe_call G_is_deeper (hr.mono (by omega)) (by rfl) m_is_deeper k_is_deeper b_is_deeper .nil pass0 (pa_cons (pv 2) (pa_cons (pe_op op_sub (pv 1) pe_int) pa_nil))))) pa_nil)))))), ?_⟩
  refine ⟨_, rfl, rfl, _, rfl, ite2 (fun z => ?_) (fun z => ?_)⟩
  · have hl := int_of_bl z
    have e1 : decide (l < e.depth) = true := decide_eq_true (by have := e.depth_pos; omega)
    have := q H (Same.refl _)
    rw [e1] at this
    exact this
  have hl := int_ne_bl z
  obtain ⟨p, w, xs, rfl, hp, nx, hin, hps⟩ := ex_un hx
  refine ⟨_, rfl, p, _, _, _, rfl, rfl, hp, h0, ka_LEAVES, _, rfl, .inr (KTup.seq kt_LEAVES), rfl, by decide +kernel, _, rfl, ?_⟩
  show if inV (V.str w) [V.str "number", V.str "name"] = true then _ else _
  rw [hin]
  cases hlf : e.leaf with
  | true =>
    refine iteT ?_
    have := q H (Same.refl _)
    rw [leaf_depth hlf, decide_eq_false (show ¬ l < 1 by omega)] at this
    exact this
  | false =>
  refine iteF ?_
  obtain ⟨l', rfl⟩ : ∃ l', l = l' + 1 := ⟨l - 1, by omega⟩
  have gl : ((l' + 1 : Nat) : Int) - 1 = (l' : Int) := by omega
  have hx := hps hlf
  have lx : xs.length = e.parts.length := by have := dpa_len hx; rwa [List.length_map] at this
  refine ⟨_, rfl, _, rfl, ?_⟩
  dsimp only [tNoPart]
  refine slA1 hp fun t H1 s1 ht => ?_
  refine ⟨t, rfl, ⟨_, ht⟩, fun D nD => lc_it (walk_tup (xs := xs)) (fun i H' => Same H1 H' ∧ H' D = some (.lst (((e.parts.take i).map fun p => decide (l' < p.depth)).map V.bl))) ⟨same_new nD, upd_same⟩ (fun i H' _ h' => seqT_same h'.1 ht) ?_ ?_⟩
  · rintro i y H2 H3 hi ⟨s2, hD⟩ ⟨rfl, hy⟩
    obtain ⟨d, ed, hd2⟩ := dpa_getx' hx hy
    rw [List.getElem?_map] at ed
    cases ep : e.parts[i]? with
    | none => rw [ep] at ed; cases ed
    | some p2 =>
    rw [ep] at ed
    cases ed
    have dpp := parts_depth (List.mem_of_getElem? ep)
    refine ⟨rfl, _, rfl, _, rfl, _, _, rfl, rfl, y, p2, l', congrArg (fun z => [y, V.int z]) gl, dp_same (s1.trans s2) hd2, by omega, fun H4 s4 => ⟨_, s4 _ _ hD, ?_, same_mut (s2.trans s4) nD, ?_⟩⟩
    · rw [List.length_map, List.length_map, List.length_take]
      exact small1000 (by have := parts_len e; omega)
    · rw [upd_same, take_succ_at ep, List.map_append, List.map_append]
      rfl
  · rintro H2 ⟨s2, hD⟩
    rw [lx, List.take_length] at hD
    refine ⟨D, _, rfl, SqL.of hD, ?_⟩
    rw [any_dp l' e hlf]
    exact q _ (s1.trans s2)
def Ex.lvs : Ex → List Ex
  | .num n => [.num n]
  | .nam x => [.nam x]
  | .not e => e.lvs
  | .bin _ l r => l.lvs ++ r.lvs
theorem lvs_leaf {e : Ex} (h : e.leaf = true) : e.lvs = [e] := by cases e <;> first | rfl | cases h
theorem lvs_parts : ∀ {e : Ex}, e.leaf = false → e.lvs = (e.parts.map Ex.lvs).flatten
  | .num _, h => nomatch h
  | .nam _, h => nomatch h
  | .not e, _ => by simp [Ex.lvs, Ex.parts]
  | .bin _ l r, _ => by simp [Ex.lvs, Ex.parts]
theorem tup_ex : ∀ {n : Nat} {e : Ex}, e.depth ≤ n → tupOk (n + 1) e.d
  | n, .num i, h => by
    rw [Ex.d]
    refine ⟨by show 2 ≤ 100000; decide, fun d hd => ?_⟩
    rcases List.mem_cons.mp hd with rfl | hd
    · cases n <;> simp [tupOk]
    · rcases List.mem_singleton.mp hd with rfl
      cases n <;> simp [tupOk]
  | n, .nam i, h => by
    rw [Ex.d]
    refine ⟨by show 2 ≤ 100000; decide, fun d hd => ?_⟩
    rcases List.mem_cons.mp hd with rfl | hd
    · cases n <;> simp [tupOk]
    · rcases List.mem_singleton.mp hd with rfl
      cases n <;> simp [tupOk]
  | 0, .not e, h => absurd h (Nat.not_succ_le_zero _)
  | 0, .bin _ _ _, h => absurd h (Nat.not_succ_le_zero _)
  | n + 1, .not e, h => by
    rw [Ex.d]
    refine ⟨by show 2 ≤ 100000; decide, fun d hd => ?_⟩
    rcases List.mem_cons.mp hd with rfl | hd
    · simp [tupOk]
    · rcases List.mem_singleton.mp hd with rfl
      exact tup_ex (Nat.le_of_succ_le_succ h)
  | n + 1, .bin o l r, h => by
    have h' : max l.depth r.depth + 1 ≤ n + 1 := h
    rw [Ex.d]
    refine ⟨by show 3 ≤ 100000; decide, fun d hd => ?_⟩
    rcases List.mem_cons.mp hd with rfl | hd
    · simp [tupOk]
    rcases List.mem_cons.mp hd with rfl | hd
    · exact tup_ex (by omega)
    · rcases List.mem_singleton.mp hd with rfl
      exact tup_ex (by omega)
theorem lvs_depth : ∀ {e p : Ex}, p ∈ e.lvs → p.leaf = true
  | .num _, p, h => by rcases List.mem_singleton.mp h with rfl; rfl
  | .nam _, p, h => by rcases List.mem_singleton.mp h with rfl; rfl
  | .not e, p, h => lvs_depth (e := e) h
  | .bin _ l r, p, h => by
    rcases List.mem_append.mp h with h | h
    · exact lvs_depth h
    · exact lvs_depth h
theorem tup_lvs {es : List Ex} (h : ∀ e ∈ es, e.leaf = true) : ∀ d ∈ es.map Ex.d, tupOk 2 d := fun d hd => by
  obtain ⟨e, he, rfl⟩ := List.mem_map.mp hd
  exact tup_ex (n := 1) (by rw [leaf_depth (h e he)]; exact Nat.le_refl _)
theorem dpa_cat {K : PySem.W.Frag} {H : Hp} : ∀ {xs ys : List V} {ds es : List PyData}, DpAll K H xs ds → DpAll K H ys es → DpAll K H (xs ++ ys) (ds ++ es)
  | _, _, _, _, .nil, h => h
  | _, _, _, _, .cons p k, h => .cons p (dpa_cat k h)
theorem lvs_len_parts {e p : Ex} (h : p ∈ e.parts) : p.lvs.length ≤ e.lvs.length := by
  cases e with
  | num => exact nomatch h
  | nam => exact nomatch h
  | not a =>
    rcases List.mem_singleton.mp h with rfl
    exact Nat.le_refl _
  | bin o a b =>
    show p.lvs.length ≤ (a.lvs ++ b.lvs).length
    rw [List.length_append]
    rcases List.mem_cons.mp h with rfl | h
    · omega
    · rcases List.mem_singleton.mp h with rfl
      omega
theorem flat_take {α : Type} (f : α → List Ex) {xs : List α} {i : Nat} {x : α} (h : xs[i]? = some x) : ((xs.take (i + 1)).map f).flatten = ((xs.take i).map f).flatten ++ f x := by
  rw [take_succ_at h, List.map_append, List.flatten_append]
  simp
theorem flat_take_le {α : Type} (f : α → List Ex) (xs : List α) (i : Nat) : ((xs.take i).map f).flatten.length ≤ (xs.map f).flatten.length := by
  rw [show xs.map f = (xs.take i).map f ++ (xs.drop i).map f by rw [← List.map_append, List.take_append_drop], List.flatten_append, List.length_append]
  omega
def sp_leaves_of (K : PySem.W.Frag) (n : Nat) : Sp := fun us H Q _ => ∃ (x : V) (e : Ex), us = [x] ∧ Dp K H x e.d ∧ e.depth ≤ n ∧ e.lvs.length ≤ 1000 ∧ ∀ (l : Addr) (ws : List V) (H' : Hp), Same H H' → H l = none → H' l = some (.lst ws) → DpAll K H' ws (e.lvs.map Ex.d) → Q (.ref l) H'
theorem ok_leaves_of (T : Txt P K mg c) : ∀ n : Nat, Has P w K mg base (n + 1) "leaves_of" ["expression"] (sp_leaves_of K n)
| 0 => .none T.d_leaves_of fun vs H Q E h => by
    obtain ⟨_, e, _, _, h, _⟩ := h
    have := e.depth_pos
    omega
| n + 1 => by
  obtain ⟨f_leaves_of, fd_leaves_of, G_leaves_of, m_leaves_of, k_leaves_of, b_leaves_of⟩ := ok_leaves_of T n
  obtain ⟨f, fd, F, m, b⟩ := T.d_leaves_of.ex
  obtain ⟨ka_LEAVES, cc_LEAVES, kt_LEAVES⟩ := T.c_LEAVES
  refine ⟨f, fd, F.ok sc_leaves_of (fun vs H Q E h => ?_) (fun cdv A outer s H vs Q E hr h => ?_), m, F.kp, b⟩
  · obtain ⟨x, e, rfl, hx, hd, hln, q⟩ := h
    rfl
  obtain ⟨x, e, rfl, hx, hd, hln, q⟩ := h
  refine ⟨_, (pss_cons (ps_if (pt_cmpR op_in_seq (pe_ix ix_tup (pv 0) pe_int (fun _ _ => rfl)) (pe_glob (v := .ref ka_LEAVES) rfl cc_LEAVES rfl) (by rfl))
      (pss_one (ps_ret (pe_lst (pa_cons (pv 0) pa_nil))))
      pss_nil)
      (pss_one (ps_ret (pe_lc2 (own := [("part", 1), ("leaf", 2)]) (vs1 := [2]) (g := gName 1) (g1 := gName 2) (by rfl) sc_leaves_of.nd (pi_tup (pe_slice sl_tupA (pv 0) (po_some pe_int) po_none)) (blkOk_by (own := [("part", 1), ("leaf", 2)]) (N := ["expression", "part", "leaf"]) (sc := defScope s_leaves_of) (by decide +kernel)) (by decide) (fun _ _ _ _ _ => (pg_name (i := 1) sc_leaves_of.nd rfl (.inl rfl))) (fun _ _ _ _ _ => pts_nil) (fun _ _ _ _ _ => (pi_listK (K := K) rfl (pe_call G_leaves_of (hr.mono (by omega)) (by rfl) m_leaves_of k_leaves_of b_leaves_of .nil pass0 (pa_cons (pv 1) pa_nil)))) (fun _ _ _ _ _ => (pg_name (i := 2) sc_leaves_of.nd rfl (.inl rfl))) (fun _ _ _ _ _ => pts_nil) (fun _ _ _ _ _ => (pv 2)))))), ?_⟩
  obtain ⟨p, w, xs, rfl, hp, nx, hin, hps⟩ := ex_un hx
  refine ⟨_, rfl, p, _, _, _, rfl, rfl, hp, h0, ka_LEAVES, _, rfl, .inr (KTup.seq kt_LEAVES), rfl, by decide +kernel, _, rfl, ?_⟩
  show if inV (V.str w) [V.str "number", V.str "name"] = true then _ else _
  rw [hin]
  cases hlf : e.leaf with
  | true =>
    refine iteT ⟨_, rfl, by show 1 ≤ sizeLine; decide, fun l nl => q l _ _ (same_new nl) nl upd_same ?_⟩
    rw [lvs_leaf hlf]
    exact .cons (dp_same (same_new nl) hx) .nil
  | false =>
  refine iteF ?_
  have hx := hps hlf
  have lx : xs.length = e.parts.length := by have := dpa_len hx; rwa [List.length_map] at this
  have lp := lvs_parts hlf
  refine ⟨_, rfl, _, rfl, ?_⟩
  dsimp only [tNoPart]
  refine slA1 hp fun t H1 s1 ht => ?_
  have lvl : ∀ i, ((e.parts.take i).map Ex.lvs).flatten.length ≤ 1000 := fun i => Nat.le_trans (flat_take_le _ _ _) (by rw [← lp]; exact hln)
  have lf : ∀ i, ∀ z ∈ ((e.parts.take i).map Ex.lvs).flatten, z.leaf = true := fun i z hz => by
    obtain ⟨zs, hzs, hz⟩ := List.mem_flatten.mp hz
    obtain ⟨p2, _, rfl⟩ := List.mem_map.mp hzs
    exact lvs_depth hz
  refine ⟨t, rfl, ⟨_, ht⟩, fun D nD => two_out (walk_tup (xs := xs)) (fun i H' => Same H1 H' ∧ ∃ acc, H' D = some (.lst acc) ∧ DpAll K H' acc (((e.parts.take i).map Ex.lvs).flatten.map Ex.d)) ⟨same_new nD, [], upd_same, .nil⟩ (fun i H' _ h' => seqT_same h'.1 ht) ?_ ?_⟩
  · rintro i y H2 H3 hi ⟨s2, acc, hD, hacc⟩ ⟨rfl, hy⟩
    obtain ⟨d, ed, hd2⟩ := dpa_getx' hx hy
    rw [List.getElem?_map] at ed
    cases ep : e.parts[i]? with
    | none => rw [ep] at ed; cases ed
    | some p2 =>
    rw [ep] at ed
    cases ed
    have mp := List.mem_of_getElem? ep
    have dpp := parts_depth mp
    have lpp := lvs_len_parts mp
    refine ⟨rfl, _, rfl, y, p2, rfl, dp_same (s1.trans s2) hd2, by omega, by omega, fun l ws H3 s3 nl hl hw => ⟨l, rfl, ⟨_, SqL.of hl⟩, ?_⟩⟩
    have hD3 := s3 _ _ hD
    have nlD : l ≠ D := (ne_of_none hD nl).symm
    have lw : ws.length = p2.lvs.length := by have := dpa_len hw; rwa [List.length_map] at this
    show Exists _
    refine two_out (walk_list (xs := ws)) (fun j H' => Fr D H3 H' ∧ Same H1 H' ∧ ∃ acc, H' D = some (.lst acc) ∧ DpAll K H' acc ((((e.parts.take i).map Ex.lvs).flatten ++ p2.lvs.take j).map Ex.d)) ⟨Fr.refl _ _, s2.trans s3, acc, hD3, by rw [List.take_zero, List.append_nil]; exact dpa_same s3 hacc⟩ (fun j H' _ h' => h'.1.seq nlD (SqL.of hl)) ?_ ?_
    · rintro j z H5 H6 hj ⟨f5, s5, acc5, hD5, h5⟩ ⟨rfl, hz⟩
      have la := dpa_len h5
      rw [List.length_map, List.length_append, List.length_take] at la
      have := lvl i
      have hz5 := dpa_getx' hw hz
      obtain ⟨d2, ed2, hz2⟩ := hz5
      rw [List.getElem?_map] at ed2
      cases eq2 : p2.lvs[j]? with
      | none => rw [eq2] at ed2; cases ed2
      | some q2 =>
      rw [eq2] at ed2
      cases ed2
      have hlf2 := lvs_depth (List.mem_of_getElem? eq2)
      refine ⟨rfl, _, rfl, acc5, hD5, line_small (by omega), f5.trans Fr.upd, same_mut s5 nD, acc5 ++ [z], upd_same, ?_⟩
      rw [take_succ_at eq2, ← List.append_assoc, List.map_append]
      refine dpa_cat (dpa_mut hD5 2 (tup_lvs fun e' he => ?_) h5) (.cons (dp_mut hD5 2 (tup_ex (by rw [leaf_depth hlf2]; exact Nat.le_refl _)) (dp_frl hD3 f5 2 (tup_ex (by rw [leaf_depth hlf2]; exact Nat.le_refl _)) hz2)) .nil)
      rcases List.mem_append.mp he with he | he
      · exact lf i _ he
      · exact lvs_depth (List.mem_of_mem_take he)
    · rintro H5 ⟨f5, s5, acc5, hD5, h5⟩
      refine ⟨s5, acc5, hD5, ?_⟩
      rw [lw, List.take_length] at h5
      rw [flat_take Ex.lvs ep]
      exact h5
  · rintro H2 ⟨s2, acc, hD, hacc⟩
    rw [lx, List.take_length, ← lp] at hacc
    exact q D acc H2 (s1.trans s2) (same_back s1 nD) hD hacc


end
end Pf

namespace Pf
open PySem PySem.Spec PyProof.Rows L2
section
variable {P : Program} {w : World} {K : PySem.W.Frag} {mg : Str → Option Value} {base : Heap}
variable {c : Nat → Addr}
def sp_is_name (K : PySem.W.Frag) : Sp := fun us H Q _ => ∃ z, us = [.str z] ∧ NmOk z ∧ ∀ H', Same H H' → Q (.bl true) H'
theorem kw_flat : (kwS.map V.str).all flatV = true := by decide +kernel
theorem in_kw {z : Str} (h : z ∉ kwS) : inV (.str z) (kwS.map V.str) = false := by
  unfold inV
  rw [List.any_eq_false]
  intro x hx
  obtain ⟨y, hy, rfl⟩ := List.mem_map.mp hx
  intro e
  have e2 : y = z := by simpa [eqV] using e
  exact h (e2 ▸ hy)
theorem ok_is_name (T : Txt P K mg c) : Has P w K mg base 1 "is_name" ["text"] (sp_is_name K) := by
  obtain ⟨f, fd, F, m, b⟩ := T.d_is_name.ex
  obtain ⟨tk_LONGEST_NAME, cc_LONGEST_NAME⟩ := T.c_LONGEST_NAME
  obtain ⟨tk_LETTERS, cc_LETTERS⟩ := T.c_LETTERS
  obtain ⟨ka_KEYWORDS, cc_KEYWORDS, kt_KEYWORDS⟩ := T.c_KEYWORDS
  obtain ⟨tk_WORD_CHARACTERS, cc_WORD_CHARACTERS⟩ := T.c_WORD_CHARACTERS
  refine ⟨f, fd, F.ok sc_is_name (fun vs H Q E h => ?_) (fun cdv A outer s H vs Q E hr h => ?_), m, F.kp, b⟩
  · obtain ⟨z, rfl, hz, q⟩ := h
    rfl
  obtain ⟨z, rfl, hz, q⟩ := h
  refine ⟨_, (pss_cons (ps_if (PW.pt (pw_or (pt_not (pt_chain op_le op_le pe_int (pe_callB call_len_str (by rfl) T.z_len (by decide +kernel) (pa_cons (pv 0) pa_nil)) (pe_glob (v := .int 8) rfl cc_LONGEST_NAME ⟨_, rfl⟩))) (pw_or1 (pt_cmpR op_notIn_sign (pe_ix ix_str (pv 0) pe_int (fun _ _ => rfl)) (pe_glob (v := .str "abcdefghijklmnopqrstuvwxyz") rfl cc_LETTERS ⟨_, rfl⟩) (by rfl)))))
      (pss_one (ps_ret pe_bl))
      pss_nil)
      (pss_one (ps_ret (pe_and (pe_cmpR op_notIn_seq (pv 0) (pe_glob (v := .ref ka_KEYWORDS) rfl cc_KEYWORDS rfl) (by rfl)) (pe_one (pe_callB (cr_all rfl) (by rfl) T.z_all (by decide +kernel) (pa_cons (pe_lc (own := [("character", 1)]) (g := gName 1) (by rfl) sc_is_name.nd (pi_str (pv 0)) (blkOk_by (own := [("character", 1)]) (N := ["text", "character"]) (sc := defScope s_is_name) (by decide +kernel)) (fun _ _ _ _ _ => pg_name (i := 1) sc_is_name.nd rfl (Or.inl rfl)) (fun _ _ _ _ _ => pts_nil) (fun _ _ _ _ _ => (pe_cmpR op_in_sign (pv 1) (pe_glob (v := .str "abcdefghijklmnopqrstuvwxyz0123456789") rfl cc_WORD_CHARACTERS ⟨_, rfl⟩) (by rfl)))) pa_nil))))))), ?_⟩
  obtain ⟨n1, n8, ⟨c, hc, hl⟩, hw, hk⟩ := hz
  refine ⟨_, rfl, _, rfl, line_small (by omega), _, _, rfl, rfl, _, rfl, yes (by omega) ⟨_, _, rfl, rfl, _, rfl, nyes (by omega) ?_⟩⟩
  refine ⟨_, rfl, _, _, _, rfl, rfl, line_small (by omega), atI_nat (j := 0) hc, c, _, rfl, rfl, ?_⟩
  refine ⟨_, rfl, nyes hl ?_⟩
  refine ⟨_, rfl, ka_KEYWORDS, _, rfl, .inr (KTup.seq kt_KEYWORDS), rfl, kw_flat, ?_⟩
  have nk : inV (.str z) (kwS.map V.str) = false := in_kw hk
  refine ⟨true, by show V.bl (!inV (V.str z) (kwS.map V.str)) = V.bl true; rw [nk]; rfl, ?_⟩
  refine ⟨_, rfl, z, rfl, fun D nD => lc_it (walk_str (z := z)) (fun i H' => Same H H' ∧ H' D = some (.lst ((List.replicate i true).map V.bl))) ⟨same_new nD, upd_same⟩ (fun i H' _ h' => trivial) ?_ ?_⟩
  · rintro i x H1 H2 hi ⟨s1, hD⟩ ⟨rfl, c2, hc2, rfl⟩
    refine ⟨rfl, _, rfl, c2, _, rfl, rfl, ?_⟩
    have m2 : c2 ∈ wrdS := hw c2 (List.mem_of_getElem? (by rw [Array.getElem?_toList]; exact hc2))
    rw [show (decide (c2 ∈ (Str.ofString "abcdefghijklmnopqrstuvwxyz0123456789").cps.toList)) = true from decide_eq_true m2]
    refine ⟨_, hD, ?_, same_mut s1 nD, ?_⟩
    · rw [List.length_map, List.length_replicate]
      have : i < z.length := hi
      exact small1000 (by omega)
    · rw [upd_same, List.replicate_succ', List.map_append]
      rfl
  · rintro H1 ⟨s1, hD⟩
    refine ⟨D, _, rfl, SqL.of hD, ?_⟩
    rw [all_true]
    exact q H1 s1
/-- a statement that waits or was found, with its depth: the pair in H, the statement in the elder heap H0 -/
def SdAt (K : PySem.W.Frag) (H0 H : Hp) (x : V) (p : St × Nat) : Prop := ∃ t y, x = .ref t ∧ SqT K H t [y, .int (p.2 : Int)] ∧ StAt K H0 y p.1
theorem SdAt.same {K : PySem.W.Frag} {H0 H H' : Hp} {x : V} {p : St × Nat} (e : Same H H') (h : SdAt K H0 H x p) : SdAt K H0 H' x p := let ⟨t, y, h1, h2, h3⟩ := h; ⟨t, y, h1, seqT_same e h2, h3⟩
theorem SdAt.mut {K : PySem.W.Frag} {H0 H : Hp} {x : V} {p : St × Nat} {D : Addr} {zs : List V} {o : HO} (e : H D = some (.lst zs)) (h : SdAt K H0 H x p) : SdAt K H0 (upd H D o) x p := let ⟨t, y, h1, h2, h3⟩ := h; ⟨t, y, h1, seqT_mut e h2, h3⟩
theorem All2.unsnoc {α β : Type} {R : α → β → Prop} {xs : List α} {x : α} {ys : List β} (h : All2 R (xs ++ [x]) ys) : ∃ zs y, ys = zs ++ [y] ∧ All2 R xs zs ∧ R x y := by
  have l := h.1
  rw [List.length_append, List.length_singleton] at l
  have hne : ys ≠ [] := fun z => by
    subst z
    simp at l
  refine ⟨ys.dropLast, ys.getLast hne, (List.dropLast_concat_getLast hne).symm, ⟨by rw [List.length_dropLast]; omega, fun i a b ha hb => ?_⟩, ?_⟩
  · have hi := (List.getElem?_eq_some_iff.mp ha).1
    refine h.2 i a b (by rw [List.getElem?_append_left hi]; exact ha) ?_
    rw [List.getElem?_dropLast] at hb
    split at hb
    · exact hb
    · cases hb
  · refine h.2 xs.length x _ (by simp) ?_
    rw [List.getLast_eq_getElem, List.getElem?_eq_getElem (by omega)]
    congr 1
    congr 1
    omega
def pc (pd : List (St × Nat)) : Nat := (pd.map fun p => cntS p.1).sum
theorem pc_app (a b : List (St × Nat)) : pc (a ++ b) = pc a + pc b := by unfold pc; rw [List.map_append, List.sum_append]
theorem pc_body (d : Nat) : ∀ b : List St, pc (b.map fun s => (s, d)) = cntB b
  | [] => by simp [pc, cntB]
  | s :: b => by
    have := pc_body d b
    unfold pc at this ⊢
    rw [List.map_cons, List.map_cons, List.sum_cons, this, cntB]
theorem pc_len (pd : List (St × Nat)) : pd.length ≤ pc pd := by
  induction pd with
  | nil => exact Nat.zero_le _
  | cons p pd ih =>
    have := cntS_pos p.1
    unfold pc at ih ⊢
    rw [List.length_cons, List.map_cons, List.sum_cons]
    omega
theorem cnt_inn (s : St) : cntS s = 1 + (s.inn.map cntB).sum := by cases s <;> simp [cntS, St.inn]
theorem all_inn {P : Nat → St → Prop} {d : Nat} {s : St} (h : allS P d s) : ∀ b ∈ s.inn, allB P (d + 1) b := by
  cases s with
  | ifs e b o =>
    rw [allS] at h
    intro x hx
    rcases List.mem_cons.mp hx with rfl | hx
    · exact h.2.1
    · rcases List.mem_singleton.mp hx with rfl
      exact h.2.2
  | whi e b =>
    rw [allS] at h
    intro x hx
    rcases List.mem_singleton.mp hx with rfl
    exact h.2
  | _ => exact fun x hx => nomatch hx
theorem inn_len (s : St) : s.inn.length ≤ 2 := by cases s <;> simp [St.inn]
/-- what waits when the first i bodies of a statement were put behind -/
def bel (d : Nat) (bs : List (List St)) : List (St × Nat) := (bs.map fun b => b.map fun s => (s, d)).flatten
theorem pc_bel (d : Nat) : ∀ bs : List (List St), pc (bel d bs) = (bs.map cntB).sum
  | [] => by simp [bel, pc]
  | b :: bs => by
    have := pc_bel d bs
    unfold bel at this ⊢
    rw [List.map_cons, List.flatten_cons, pc_app, this, pc_body, List.map_cons, List.sum_cons]
theorem bel_succ (d : Nat) {bs : List (List St)} {i : Nat} {b : List St} (h : bs[i]? = some b) : bel d (bs.take (i + 1)) = bel d (bs.take i) ++ b.map fun s => (s, d) := by
  unfold bel
  rw [take_succ_at h, List.map_append, List.flatten_append]
  simp
theorem bel_le (d : Nat) (bs : List (List St)) (i : Nat) : pc (bel d (bs.take i)) ≤ (bs.map cntB).sum := by
  have h : (bs.map cntB).sum = ((bs.take i).map cntB).sum + ((bs.drop i).map cntB).sum := by rw [← List.sum_append, ← List.map_append, List.take_append_drop]
  rw [pc_bel]
  omega
theorem bel_all {P : Nat → St → Prop} {d : Nat} {bs : List (List St)} (h : ∀ b ∈ bs, allB P d b) : ∀ p ∈ bel d bs, allS P p.2 p.1 := fun p hp => by
  obtain ⟨zs, hz, hp⟩ := List.mem_flatten.mp hp
  obtain ⟨b, hb, rfl⟩ := List.mem_map.mp hz
  obtain ⟨s, hs, rfl⟩ := List.mem_map.mp hp
  exact allB_mem (h b hb) s hs
def sp_statements_of (K : PySem.W.Frag) : Sp := fun us H Q _ => ∃ (v : V) (b : List St) (P : Nat → St → Prop) (He : Hp), us = [v] ∧ Same He H ∧ BdAt K He v b ∧ cntB b ≤ 1000 ∧ allB P 1 b ∧ ∀ (l : Addr) (ws : List V) (dn : List (St × Nat)) (H' : Hp), Same H H' → H l = none → H' l = some (.lst ws) →
  All2 (SdAt K He H') ws dn → (∀ p ∈ dn, P p.2 p.1) → dn.length = cntB b → Q (.ref l) H'
theorem ok_statements_of (T : Txt P K mg c) : Has P w K mg base 2 "statements_of" ["body"] (sp_statements_of K) := by
  obtain ⟨f, fd, F, m, b⟩ := T.d_statements_of.ex
  obtain ⟨f_bodies_of, fd_bodies_of, G_bodies_of, m_bodies_of, k_bodies_of, b_bodies_of⟩ := ok_bodies_of (P := P) (w := w) (base := base) T
  refine ⟨f, fd, F.ok sc_statements_of (fun vs H Q E h => ?_) (fun cdv A outer s H vs Q E hr h => ?_), m, F.kp, b⟩
  · obtain ⟨v, b, P, He, rfl, s00, hv, hc, hP, q⟩ := h
    rfl
  obtain ⟨v, b, P, He, rfl, s00, hv, hc, hP, q⟩ := h
  refine ⟨_, (pss_cons (ps_set (i := 1) sc_statements_of.nd rfl (.inl rfl) (pe_lst pa_nil))
      (pss_cons (ps_setLc (i := 3) (own := [("statement", 2)]) (g := gName 2) (by rfl) sc_statements_of.nd rfl rfl (sw_true rfl rfl rfl (by decide +kernel)) (pi_alt (pi_list (pv 0)) (pi_tup (pv 0))) (blkOk_by (own := [("statement", 2)]) (N := ["body", "found", "statement", "waiting", "depth", "inner", "below"]) (sc := defScope s_statements_of) (by decide +kernel)) (fun _ _ _ _ _ => (pg_name (i := 2) sc_statements_of.nd rfl (.inl rfl))) (fun _ _ _ _ _ => pts_nil) (fun _ _ _ _ _ => (pe_tup (pa_cons (pv 2) (pa_cons pe_int pa_nil)))))
      (pss_cons (ps_while PassesOwn.never (pt_truth (pv 3) (by intro _; rfl))
      (pss_cons (ps_asg (pe_bm0 PySem.F.plainAttrs_list PySem.F.slot_list_pop PySem.F.type_list_pop mt_pop (pv 3)) (pg_tup rfl (pgs_cons (pg_name (i := 2) sc_statements_of.nd rfl (.inl rfl)) (pgs_cons (pg_name (i := 4) sc_statements_of.nd rfl (.inr rfl)) pgs_nil))))
        (pss_cons (ps_expr (pe_bm PySem.F.plainAttrs_list PySem.F.slot_list_append PySem.F.type_list_append mt_append (pv 1) (pa_cons (pe_tup (pa_cons (pv 2) (pa_cons (pv 4) pa_nil))) pa_nil)))
        (pss_one (ps_for PassesOwn.never rfl (pi_tup (pe_call G_bodies_of (hr.mono (by decide)) (by rfl) m_bodies_of k_bodies_of b_bodies_of .nil pass0 (pa_cons (pv 2) pa_nil))) (pg_name (i := 5) sc_statements_of.nd rfl (.inl rfl))
        (pss_one (ps_expr (pe_bm PySem.F.plainAttrs_list PySem.F.slot_list_extend PySem.F.type_list_extend mt_extend (pv 3) (pa_cons (pe_lc (own := [("below", 6)]) (g := gName 6) (by rfl) sc_statements_of.nd (pi_alt (pi_list (pv 5)) (pi_tup (pv 5))) (blkOk_by (own := [("below", 6)]) (N := ["body", "found", "statement", "waiting", "depth", "inner", "below"]) (sc := defScope s_statements_of) (by decide +kernel)) (fun _ _ _ _ _ => pg_name (i := 6) sc_statements_of.nd rfl (Or.inl rfl)) (fun _ _ _ _ _ => pts_nil) (fun _ _ _ _ _ => (pe_tup (pa_cons (pv 6) (pa_cons (pe_op op_add (pv 4) pe_int) pa_nil))))) pa_nil)))))))))
      (pss_one (ps_ret (pv 1)))))), ?_⟩
  obtain ⟨a, xs, rfl, hq, hb⟩ := hv.un
  have hq := hq.same s00
  have lx := hb.1
  have lb := cntB_len b
  refine ⟨by show 0 ≤ sizeLine; decide, fun f nf => ?_⟩
  have s0 := same_new (o := .lst []) nf
  have hf : (upd H f (.lst [])) f = some (.lst []) := upd_same
  generalize upd H f (.lst []) = H0 at s0 hf ⊢
  -- waiting
  refine alt_seq rfl (hq.same s0) fun J G w g => fun D nD => lc_it w (fun i H' => Same H0 H' ∧ ∃ ts, H' D = some (.lst ts) ∧ All2 (SdAt K He H') ts ((b.take i).map fun s => (s, 1))) ⟨same_new nD, [], upd_same, .nil⟩ (fun i H' _ h' => g _ h'.1) ?_ ?_
  · rintro i x H1 H2 hi ⟨s1, ts, hD, ha⟩ ⟨rfl, hx⟩
    obtain ⟨s, es, hs⟩ := hb.at hx
    have hlt : ts.length ≤ i := by rw [ha.1, List.length_map, List.length_take]; omega
    refine ⟨rfl, _, rfl, by show 2 ≤ sizeLine; decide, fun t nt => ⟨ts, same_new nt _ _ hD, small1000 (by omega), same_mut (s1.trans (same_new nt)) nD, ts ++ [.ref t], upd_same, ?_⟩⟩
    have hD2 : (upd H2 t (.tup [x, .int 1])) D = some (.lst ts) := same_new nt _ _ hD
    rw [take_succ_at es, List.map_append]
    exact (ha.imp fun t' p h => (h.same (same_new nt)).mut hD2).app (.one ⟨t, x, rfl, seqT_mut hD2 (SqT.of upd_same), hs⟩)
  rintro H1 ⟨s1, ts, hD, ha⟩
  rw [lx, List.take_length] at ha
  have nDf : f ≠ D := ne_of_none hf nD
  have s01 := s0.trans s1
  have hf1 := s1 _ _ hf
  have nDH : H D = none := s0.free nD
  refine gname_to ?_
  dsimp only
  refine seq_to ?_
  refine while_by (fun σ H' => ∃ y2 y4 y5 ws pd fs dn, σ = [some (.ref a), some (.ref f), y2, some (.ref D), y4, y5, none] ∧ Same H H' ∧ H' D = some (.lst ws) ∧ All2 (SdAt K He H') ws pd ∧ H' f = some (.lst fs) ∧ All2 (SdAt K He H') fs dn ∧ (∀ p ∈ pd, allS P p.2 p.1) ∧ (∀ p ∈ dn, P p.2 p.1) ∧ pc pd + dn.length = cntB b)
    (fun _ H' => match H' f with | some (.lst fs) => cntB b - fs.length | _ => 0) ⟨none, none, none, ts, _, [], [], rfl, s01, hD, ha, hf1, .nil, fun p hp => ?_, (fun p hp => nomatch hp), ?_⟩ ?_ (fun σ H Q Q' m h => ?_)
  · obtain ⟨s, hs, rfl⟩ := List.mem_map.mp hp
    exact allB_mem hP s hs
  · rw [pc_body]
    rfl
  · rintro σ H' ⟨y2, y4, y5, ws, pd, fs, dn, rfl, sH, hD, hws, hf, hfs, hpd, hdn, hsum⟩
    rcases List.eq_nil_or_concat ws with rfl | ⟨ws, x, e⟩
    · have hp0 : pd = [] := by
        have := hws.1
        cases pd with
        | nil => rfl
        | cons _ _ => simp at this
      subst hp0
      refine ⟨_, rfl, false, .inl ⟨[], SqL.of hD, rfl⟩, ?_⟩
      refine iteF ⟨_, rfl, ?_⟩
      refine q f fs dn _ sH nf hf hfs hdn ?_
      have : pc ([] : List (St × Nat)) = 0 := rfl
      omega
    · rw [List.concat_eq_append] at e
      subst e
      obtain ⟨pd, p, rfl, hws, hx⟩ := hws.unsnoc
      rw [pc_app] at hsum
      have hp1 : pc [p] = cntS p.1 := by simp [pc]
      refine ⟨_, rfl, true, .inl ⟨_, SqL.of hD, by simp⟩, ?_⟩
      refine iteT ?_
      refine ⟨_, rfl, .inl ⟨rfl, _, SqL.of hD⟩, D, ws ++ [x], x, rfl, rfl, hD, (by simp), ?_⟩
      rw [List.dropLast_concat]
      have hD3 : (upd H' D (.lst ws)) D = some (.lst ws) := upd_same
      have s3 : Same H (upd H' D (.lst ws)) := same_mut sH nDH
      have hf3 : (upd H' D (.lst ws)) f = some (.lst fs) := (upd_ne nDf).trans hf
      have hws3 := hws.imp fun _ _ h => SdAt.mut (o := .lst ws) hD h
      have hfs3 := hfs.imp fun _ _ h => SdAt.mut (o := .lst ws) hD h
      have hx3 := SdAt.mut (o := .lst ws) hD hx
      generalize upd H' D (.lst ws) = H3 at hD3 s3 hf3 hws3 hfs3 hx3 ⊢
      obtain ⟨t, y, rfl, ht, hst⟩ := hx3
      refine ⟨t, _, rfl, ht, rfl, _, _, rfl, _, _, rfl, rfl, ?_⟩
      have lfs := hfs.1
      have lws := hws.1
      have cp := cntS_pos p.1
      have lpd := pc_len pd
      refine ⟨_, rfl, .inl ⟨rfl, _, SqL.of hf3⟩, _, rfl, _, rfl, by show 2 ≤ sizeLine; decide, fun t2 nt2 => ⟨f, _, _, rfl, rfl, same_new nt2 _ _ hf3, small1000 (by omega), ?_⟩⟩
      have e4 := same_new (o := .tup [y, .int (p.2 : Int)]) nt2
      have hf4 := e4 _ _ hf3
      have s5 : Same H (upd (upd H3 t2 (.tup [y, .int (p.2 : Int)])) f (.lst (fs ++ [.ref t2]))) := same_mut (s3.trans e4) nf
      have hD5 : (upd (upd H3 t2 (.tup [y, .int (p.2 : Int)])) f (.lst (fs ++ [.ref t2]))) D = some (.lst ws) := (upd_ne nDf.symm).trans (e4 _ _ hD3)
      have hf5 : (upd (upd H3 t2 (.tup [y, .int (p.2 : Int)])) f (.lst (fs ++ [.ref t2]))) f = some (.lst (fs ++ [.ref t2])) := upd_same
      have hws5 := hws3.imp fun _ _ h => SdAt.mut (o := .lst (fs ++ [.ref t2])) hf4 (h.same e4)
      have hfs5 := (hfs3.imp fun _ _ h => SdAt.mut (o := .lst (fs ++ [.ref t2])) hf4 (h.same e4)).app (.one (x := .ref t2) (y := p) ⟨t2, y, rfl, seqT_mut hf4 (SqT.of upd_same), hst⟩)
      generalize upd (upd H3 t2 (.tup [y, .int (p.2 : Int)])) f (.lst (fs ++ [.ref t2])) = H5 at s5 hD5 hf5 hws5 hfs5 ⊢
      refine ⟨_, rfl, y, p.1, He, BdAt K He, rfl, s00.trans s5, hst.rel, fun te xs2 H6 s6 hte hin => ⟨te, rfl, ⟨_, hte⟩, ?_⟩⟩
      have hD6 := s6 _ _ hD5
      have hf6 := s6 _ _ hf5
      have hws6 := hws5.imp fun _ _ h => h.same s6
      have hfs6 := hfs5.imp fun _ _ h => h.same s6
      have s06 := s5.trans s6
      have ap := allS_hd (hpd p (by simp))
      have ci := cnt_inn p.1
      have li := inn_len p.1
      show Exists _
      refine for_itN (walk_tup (K := K) (a := te) (xs := xs2)) (fun i σ H' => ∃ y5 ws', σ = [some (.ref a), some (.ref f), some y, some (.ref D), some (.int (p.2 : Int)), y5, none] ∧ Same H H' ∧ SqT K H' te xs2 ∧ H' D = some (.lst ws') ∧ All2 (SdAt K He H') ws' (pd ++ bel (p.2 + 1) (p.1.inn.take i)) ∧ H' f = some (.lst (fs ++ [.ref t2])) ∧ All2 (SdAt K He H') (fs ++ [.ref t2]) (dn ++ [p]))
        ⟨y5, ws, rfl, s06, hte, hD6, by rw [List.take_zero]; unfold bel; simpa using hws6, hf6, hfs6⟩ (fun i σ H' _ h' => ?_) ?_ ?_
      · obtain ⟨_, _, _, _, h, _⟩ := h'
        exact h
      · rintro i z σ H7 H8 hi ⟨y5, ws', rfl, s7, hte7, hD7, hws7, hf7, hfs7⟩ ⟨rfl, hz⟩
        obtain ⟨b2, eb2, hb2⟩ := hin.at hz
        obtain ⟨a2, x2, rfl, hq2, hx2⟩ := hb2.un
        have lx2 := hx2.1
        have lb2 := cntB_len b2
        have lw7 := hws7.1
        have bl := bel_le (p.2 + 1) p.1.inn (i + 1)
        rw [bel_succ _ eb2, pc_app, pc_body] at bl
        have lbel := pc_len (bel (p.2 + 1) (p.1.inn.take i))
        rw [List.length_append] at lw7
        refine ⟨_, rfl, .inl ⟨rfl, _, SqL.of hD7⟩, ?_⟩
        refine alt_seqB rfl (hq2.same s00) s7 fun J G w g => fun D2 nD2 => lc_it w (fun j H' => Same H8 H' ∧ ∃ ts, H' D2 = some (.lst ts) ∧ All2 (SdAt K He H') ts ((b2.take j).map fun s => (s, p.2 + 1))) ⟨same_new nD2, [], upd_same, .nil⟩ (fun j H' _ h' => g _ (s7.trans h'.1)) ?_ ?_
        · rintro j u H8 H9 hj ⟨s8, ts, hD9, ha⟩ ⟨rfl, hu⟩
          obtain ⟨s, es, hs⟩ := hx2.at hu
          have hlt : ts.length ≤ j := by rw [ha.1, List.length_map, List.length_take]; omega
          refine ⟨rfl, _, rfl, _, rfl, _, _, rfl, rfl, by show 2 ≤ sizeLine; decide, fun t nt => ⟨ts, same_new nt _ _ hD9, small1000 (by omega), same_mut (s8.trans (same_new nt)) nD2, ts ++ [.ref t], upd_same, ?_⟩⟩
          have hD10 := same_new (o := .tup [u, .int ((p.2 : Int) + 1)]) nt _ _ hD9
          rw [take_succ_at es, List.map_append]
          exact (ha.imp fun t' p h => (h.same (same_new nt)).mut hD10).app (.one ⟨t, u, rfl, seqT_mut hD10 (SqT.of upd_same), hs⟩)
        rintro H8 ⟨s8, ts, hD8, ha⟩
        rw [lx2, List.take_length] at ha
        have lts := ha.1
        rw [List.length_map] at lts
        have hDx := s8 _ _ hD7
        refine ⟨D, D2, ws', ts, rfl, rfl, hDx, hD8, line_small (by omega), ?_⟩
        refine ⟨_, _, rfl, same_mut (s7.trans s8) nDH, seqT_mut hDx (seqT_same s8 hte7), upd_same, ?_, (upd_ne nDf).trans (s8 _ _ hf7), hfs7.imp fun _ _ h => (h.same s8).mut hDx⟩
        rw [bel_succ _ eb2, ← List.append_assoc]
        exact (hws7.imp fun _ _ h => (h.same s8).mut hDx).app (ha.imp fun _ _ h => h.mut hDx)
      · rintro σ H7 ⟨y5, ws', rfl, s7, hte7, hD7, hws7, hf7, hfs7⟩
        rw [hin.1, List.take_length] at hws7
        refine ⟨⟨_, _, _, ws', _, _, _, rfl, s7, hD7, hws7, hf7, hfs7, fun p' hp' => ?_, fun p' hp' => ?_, ?_⟩, ?_⟩
        · rcases List.mem_append.mp hp' with hp' | hp'
          · exact hpd p' (List.mem_append_left _ hp')
          · exact bel_all (all_inn (hpd p (by simp))) p' hp'
        · rcases List.mem_append.mp hp' with hp' | hp'
          · exact hdn p' hp'
          · rcases List.mem_singleton.mp hp' with rfl
            exact ap
        · rw [pc_app, pc_bel, List.length_append, List.length_singleton]
          omega
        · rw [hf7, hf]
          show cntB b - (fs ++ [V.ref t2]).length < cntB b - fs.length
          rw [List.length_append, List.length_singleton]
          omega
  · obtain ⟨v, h1, k, h2, h3⟩ := h
    exact ⟨v, h1, k, h2, m _ _ h3⟩
mutual
theorem allS_true : ∀ (d : Nat) (s : St), allS (fun _ _ => True) d s
  | _, .set _ _ => by rw [allS]; trivial
  | _, .read _ => by rw [allS]; trivial
  | _, .write _ => by rw [allS]; trivial
  | d, .ifs _ b o => by rw [allS]; exact ⟨trivial, allB_true _ b, allB_true _ o⟩
  | d, .whi _ b => by rw [allS]; exact ⟨trivial, allB_true _ b⟩
  | _, .call _ _ => by rw [allS]; trivial
  | _, .skip => by rw [allS]; trivial
theorem allB_true : ∀ (d : Nat) (b : List St), allB (fun _ _ => True) d b
  | _, [] => by rw [allB]; trivial
  | d, s :: b => by rw [allB]; exact ⟨allS_true d s, allB_true d b⟩
end
def sp_body_length (K : PySem.W.Frag) : Sp := fun us H Q _ => ∃ (v : V) (b : List St), us = [v] ∧ BdAt K H v b ∧ cntB b ≤ 1000 ∧ ∀ H', Same H H' → Q (.int (cntB b : Nat)) H'
theorem ok_body_length (T : Txt P K mg c) : Has P w K mg base 3 "body_length" ["body"] (sp_body_length K) := by
  obtain ⟨f, fd, F, m, b⟩ := T.d_body_length.ex
  obtain ⟨f_statements_of, fd_statements_of, G_statements_of, m_statements_of, k_statements_of, b_statements_of⟩ := ok_statements_of (P := P) (w := w) (base := base) T
  refine ⟨f, fd, F.ok sc_body_length (fun vs H Q E h => ?_) (fun cdv A outer s H vs Q E hr h => ?_), m, F.kp, b⟩
  · obtain ⟨v, b, rfl, hv, hc, q⟩ := h
    rfl
  obtain ⟨v, b, rfl, hv, hc, q⟩ := h
  refine ⟨_, (pss_one (ps_ret (pe_callB call_len_seq (by rfl) T.z_len (by decide +kernel) (pa_cons (pe_call G_statements_of (hr.mono (by decide)) (by rfl) m_statements_of k_statements_of b_statements_of .nil pass0 (pa_cons (pv 0) pa_nil)) pa_nil)))), ?_⟩
  refine ⟨_, rfl, v, b, fun _ _ => True, H, rfl, Same.refl _, hv, hc, allB_true 1 b, fun l ws dn H1 s1 nl hl hw _ hn => ⟨l, _, rfl, .inl (SqL.of hl), ?_⟩⟩
  rw [hw.1, hn]
  exact q _ s1
theorem lvs_len : ∀ {n : Nat} {e : Ex}, e.depth ≤ n → e.lvs.length ≤ 2 ^ n
  | n, .num _, h => Nat.one_le_two_pow
  | n, .nam _, h => Nat.one_le_two_pow
  | 0, .not e, h => absurd h (Nat.not_succ_le_zero _)
  | 0, .bin _ _ _, h => absurd h (Nat.not_succ_le_zero _)
  | n + 1, .not e, h => by
    have := lvs_len (Nat.le_of_succ_le_succ h)
    show e.lvs.length ≤ 2 ^ (n + 1)
    rw [Nat.pow_succ]
    omega
  | n + 1, .bin o l r, h => by
    have h' : max l.depth r.depth + 1 ≤ n + 1 := h
    have := lvs_len (n := n) (e := l) (by omega)
    have := lvs_len (n := n) (e := r) (by omega)
    show (l.lvs ++ r.lvs).length ≤ 2 ^ (n + 1)
    rw [List.length_append, Nat.pow_succ]
    omega
theorem n9_lvs : ∀ {e : Ex}, e.N9 → ∀ p ∈ e.lvs, p.N9
  | .num _, h, p, hp => by rcases List.mem_singleton.mp hp with rfl; exact h
  | .nam _, h, p, hp => by rcases List.mem_singleton.mp hp with rfl; exact h
  | .not e, h, p, hp => n9_lvs (e := e) h p hp
  | .bin _ l r, h, p, hp => by
    rcases List.mem_append.mp hp with hp | hp
    · exact n9_lvs h.1 p hp
    · exact n9_lvs h.2 p hp
theorem in_lvs {ws : List Str} : ∀ {e : Ex}, e.In ws → ∀ p ∈ e.lvs, p.In ws
  | .num _, h, p, hp => by rcases List.mem_singleton.mp hp with rfl; exact h
  | .nam _, h, p, hp => by rcases List.mem_singleton.mp hp with rfl; exact h
  | .not e, h, p, hp => in_lvs (e := e) h p hp
  | .bin _ l r, h, p, hp => by
    rcases List.mem_append.mp hp with hp | hp
    · exact in_lvs h.1 p hp
    · exact in_lvs h.2 p hp
theorem all_lvs {es : List Ex} {P : Ex → Prop} (h : ∀ e ∈ es, ∀ p ∈ e.lvs, P p) : ∀ p ∈ (es.map Ex.lvs).flatten, P p := fun p hp => by
  obtain ⟨zs, hz, hp⟩ := List.mem_flatten.mp hp
  obtain ⟨e, he, rfl⟩ := List.mem_map.mp hz
  exact h e he p hp
theorem lvs_sum {es : List Ex} (h : ∀ e ∈ es, e.depth ≤ 5) : ((es.map Ex.lvs).flatten).length ≤ es.length * 32 := by
  induction es with
  | nil => simp
  | cons e es ih =>
    have h1 := ih fun x hx => h x (List.mem_cons_of_mem _ hx)
    have h2 := lvs_len (h e List.mem_cons_self)
    have h3 : 2 ^ 5 = 32 := rfl
    rw [List.map_cons, List.flatten_cons, List.length_append, List.length_cons]
    omega
/-- what a statement's own expressions keep -/
structure ExsOk (s : St) : Prop where
  ln : s.exs.length ≤ 10
  d5 : ∀ e ∈ s.exs, e.depth ≤ 5
def sp_has_wrong_number (K : PySem.W.Frag) : Sp := fun us H Q _ => ∃ (x : V) (s : St), us = [x] ∧ StAt K H x s ∧ ExsOk s ∧ (∀ e ∈ s.exs, e.N9) ∧ ∀ H', Same H H' → Q (.bl false) H'
theorem ok_has_wrong_number (T : Txt P K mg c) : Has P w K mg base 7 "has_wrong_number" ["statement"] (sp_has_wrong_number K) := by
  obtain ⟨f, fd, F, m, b⟩ := T.d_has_wrong_number.ex
  obtain ⟨tk_MOST_NUMBER, cc_MOST_NUMBER⟩ := T.c_MOST_NUMBER
  obtain ⟨f_expressions_of, fd_expressions_of, G_expressions_of, m_expressions_of, k_expressions_of, b_expressions_of⟩ := ok_expressions_of (P := P) (w := w) (base := base) T
  obtain ⟨f_leaves_of, fd_leaves_of, G_leaves_of, m_leaves_of, k_leaves_of, b_leaves_of⟩ := ok_leaves_of (P := P) (w := w) (base := base) T 5
  refine ⟨f, fd, F.ok sc_has_wrong_number (fun vs H Q E h => ?_) (fun cdv A outer s H vs Q E hr h => ?_), m, F.kp, b⟩
  · obtain ⟨x, s, rfl, hs, ho, hn, q⟩ := h
    rfl
  obtain ⟨x, s, rfl, hs, ho, hn, q⟩ := h
  refine ⟨_, (pss_cons (ps_setLc2 (i := 1) (own := [("expression", 2), ("leaf", 3)]) (vs1 := [3]) (g := gName 2) (g1 := gName 3) (by rfl) sc_has_wrong_number.nd rfl rfl (sw_true rfl rfl rfl (by decide +kernel)) (pi_tup (pe_call G_expressions_of (hr.mono (by decide)) (by rfl) m_expressions_of k_expressions_of b_expressions_of .nil pass0 (pa_cons (pv 0) pa_nil))) (blkOk_by (own := [("expression", 2), ("leaf", 3)]) (N := ["statement", "leaves", "expression", "leaf", "word", "worth"]) (sc := defScope s_has_wrong_number) (by decide +kernel)) (by decide) (fun _ _ _ _ _ => (pg_name (i := 2) sc_has_wrong_number.nd rfl (.inl rfl))) (fun _ _ _ _ _ => pts_nil) (fun _ _ _ _ _ => (pi_listK (K := K) rfl (pe_call G_leaves_of (hr.mono (by decide)) (by rfl) m_leaves_of k_leaves_of b_leaves_of .nil pass0 (pa_cons (pv 2) pa_nil)))) (fun _ _ _ _ _ => (pg_name (i := 3) sc_has_wrong_number.nd rfl (.inl rfl))) (fun _ _ _ _ _ => pts_nil) (fun _ _ _ _ _ => (pv 3)))
      (pss_one (ps_ret (pe_callB (cr_any rfl) (by rfl) T.z_any (by decide +kernel) (pa_cons (pe_lc (own := [("word", 4), ("worth", 5)]) (by rfl) sc_has_wrong_number.nd (pi_list (pv 1)) (blkOk_by (own := [("word", 4), ("worth", 5)]) (N := ["statement", "leaves", "expression", "leaf", "word", "worth"]) (sc := defScope s_has_wrong_number) (by decide +kernel)) (fun _ _ _ _ _ => (pg_tupK (K := K) (n := 2) rfl rfl (pgs_cons (pg_name (i := 4) sc_has_wrong_number.nd rfl (.inl rfl)) (pgs_cons (pg_name (i := 5) sc_has_wrong_number.nd rfl (.inl rfl)) pgs_nil)))) (fun _ _ _ _ _ => pts_nil) (fun _ _ _ _ _ => (pe_and (pe_cmpR op_eq (pv 4) pe_str (nomark _)) (pe_one (pe_not (pe_chain op_le op_le pe_int (pv 5) (pe_glob (v := .int 9) rfl cc_MOST_NUMBER ⟨_, rfl⟩))))))) pa_nil))))), ?_⟩
  refine ⟨_, rfl, x, s, rfl, hs, fun t xs H1 s1 ht hx => ⟨t, rfl, ⟨_, ht⟩, fun D nD => ?_⟩⟩
  have lx : xs.length = s.exs.length := by have := dpa_len hx; rwa [List.length_map] at this
  have tot := lvs_sum ho.d5
  have ln10 := ho.ln
  have lvl : ∀ i, ((s.exs.take i).map Ex.lvs).flatten.length ≤ 320 := fun i => Nat.le_trans (flat_take_le _ _ _) (by omega)
  have lf : ∀ i, ∀ z ∈ ((s.exs.take i).map Ex.lvs).flatten, z.leaf = true := fun i z hz => all_lvs (P := fun z => z.leaf = true) (fun e _ p hp => lvs_depth hp) z hz
  refine two_out (walk_tup (xs := xs)) (fun i H' => Same H1 H' ∧ ∃ acc, H' D = some (.lst acc) ∧ DpAll K H' acc (((s.exs.take i).map Ex.lvs).flatten.map Ex.d)) ⟨same_new nD, [], upd_same, .nil⟩ (fun i H' _ h' => seqT_same h'.1 ht) ?_ ?_
  · rintro i y H2 H3 hi ⟨s2, acc, hD, hacc⟩ ⟨rfl, hy⟩
    obtain ⟨d, ed, hd2⟩ := dpa_getx' hx hy
    rw [List.getElem?_map] at ed
    cases ep : s.exs[i]? with
    | none => rw [ep] at ed; cases ed
    | some p2 =>
    rw [ep] at ed
    cases ed
    have mp := List.mem_of_getElem? ep
    have dpp := ho.d5 p2 mp
    have lpp := lvs_len dpp
    have l32 : 2 ^ 5 = 32 := rfl
    refine ⟨rfl, _, rfl, y, p2, rfl, dp_same s2 hd2, dpp, by omega, fun l ws H3 s3 nl hl hw => ⟨l, rfl, ⟨_, SqL.of hl⟩, ?_⟩⟩
    have hD3 := s3 _ _ hD
    have nlD : l ≠ D := (ne_of_none hD nl).symm
    have lw : ws.length = p2.lvs.length := by have := dpa_len hw; rwa [List.length_map] at this
    show Exists _
    refine two_out (walk_list (xs := ws)) (fun j H' => Fr D H3 H' ∧ Same H1 H' ∧ ∃ acc, H' D = some (.lst acc) ∧ DpAll K H' acc ((((s.exs.take i).map Ex.lvs).flatten ++ p2.lvs.take j).map Ex.d)) ⟨Fr.refl _ _, s2.trans s3, acc, hD3, by rw [List.take_zero, List.append_nil]; exact dpa_same s3 hacc⟩ (fun j H' _ h' => h'.1.seq nlD (SqL.of hl)) ?_ ?_
    · rintro j z H5 H6 hj ⟨f5, s5, acc5, hD5, h5⟩ ⟨rfl, hz⟩
      have la := dpa_len h5
      rw [List.length_map, List.length_append, List.length_take] at la
      have := lvl i
      have hz5 := dpa_getx' hw hz
      obtain ⟨d2, ed2, hz2⟩ := hz5
      rw [List.getElem?_map] at ed2
      cases eq2 : p2.lvs[j]? with
      | none => rw [eq2] at ed2; cases ed2
      | some q2 =>
      rw [eq2] at ed2
      cases ed2
      have hlf2 := lvs_depth (List.mem_of_getElem? eq2)
      refine ⟨rfl, _, rfl, acc5, hD5, line_small (by omega), f5.trans Fr.upd, same_mut s5 nD, acc5 ++ [z], upd_same, ?_⟩
      rw [take_succ_at eq2, ← List.append_assoc, List.map_append]
      refine dpa_cat (dpa_mut hD5 2 (tup_lvs fun e' he => ?_) h5) (.cons (dp_mut hD5 2 (tup_ex (by rw [leaf_depth hlf2]; exact Nat.le_refl _)) (dp_frl hD3 f5 2 (tup_ex (by rw [leaf_depth hlf2]; exact Nat.le_refl _)) hz2)) .nil)
      rcases List.mem_append.mp he with he | he
      · exact lf i _ he
      · exact lvs_depth (List.mem_of_mem_take he)
    · rintro H5 ⟨f5, s5, acc5, hD5, h5⟩
      refine ⟨s5, acc5, hD5, ?_⟩
      rw [lw, List.take_length] at h5
      rw [flat_take Ex.lvs ep]
      exact h5
  rintro H2 ⟨s2, acc, hD, hacc⟩
  rw [lx, List.take_length] at hacc
  have lacc : acc.length = (s.exs.map Ex.lvs).flatten.length := by have := dpa_len hacc; rwa [List.length_map] at this
  refine ⟨_, rfl, D, rfl, ⟨_, SqL.of hD⟩, fun D2 n2 => lc_it (walk_list (xs := acc)) (fun i H' => Same H2 H' ∧ H' D2 = some (.lst ((List.replicate i false).map V.bl))) ⟨same_new n2, upd_same⟩ (fun i H' _ h' => SqL.of (h'.1 _ _ hD)) ?_ ?_⟩
  · rintro i x H3 H4 hi ⟨s3, hD3⟩ ⟨rfl, hx⟩
    obtain ⟨d, ed, hd⟩ := dpa_getx' hacc hx
    rw [List.getElem?_map] at ed
    cases ep : (s.exs.map Ex.lvs).flatten[i]? with
    | none => rw [ep] at ed; cases ed
    | some p =>
    rw [ep] at ed
    cases ed
    have hd := dp_same s3 hd
    have mp := List.mem_of_getElem? ep
    have small : ((List.replicate i false).map V.bl).length < sizeLine := by
      rw [List.length_map, List.length_replicate]
      exact small1000 (by omega)
    have nxt : (upd H4 D2 (.lst ((List.replicate i false).map V.bl ++ [.bl false]))) D2 = some (.lst ((List.replicate (i + 1) false).map V.bl)) := by
      rw [upd_same, List.replicate_succ', List.map_append]
      rfl
    have hlf : p.leaf = true := all_lvs (P := fun z => z.leaf = true) (fun e _ p hp => lvs_depth hp) p mp
    cases p with
    | not _ => cases hlf
    | bin _ _ _ => cases hlf
    | num n =>
      rw [Ex.d] at hd
      obtain ⟨r, ys, rfl, hr, k⟩ := dp_tup' hd
      cases k with
      | cons a k =>
      cases a
      cases k with
      | cons a k =>
      cases a
      cases k
      have hn9 : 0 ≤ n ∧ n ≤ 9 := all_lvs (P := Ex.N9) (fun e he p hp => n9_lvs (hn e he) p hp) (.num n) mp
      refine ⟨r, _, rfl, hr, rfl, _, _, rfl, _, _, rfl, rfl, rfl, _, rfl, rfl, _, rfl, yes rfl ⟨_, rfl, _, _, rfl, rfl, _, rfl, yes hn9.1 ⟨_, _, rfl, rfl, true, congrArg V.bl (decide_eq_true hn9.2), _, hD3, small, same_mut s3 n2, nxt⟩⟩⟩
    | nam v =>
      rw [Ex.d] at hd
      obtain ⟨r, ys, rfl, hr, k⟩ := dp_tup' hd
      cases k with
      | cons a k =>
      cases a
      cases k with
      | cons a k =>
      cases a
      cases k
      exact ⟨r, _, rfl, hr, rfl, _, _, rfl, _, _, rfl, rfl, rfl, _, rfl, rfl, _, rfl, nope (wd (show (("name" : Str) == "number") = false by decide +kernel)) ⟨_, hD3, small, same_mut s3 n2, nxt⟩⟩
  · rintro H3 ⟨s3, hD3⟩
    refine ⟨D2, _, rfl, SqL.of hD3, ?_⟩
    rw [any_false]
    exact q _ (s1.trans (s2.trans s3))
/-- the names that a statement has itself -/
def St.Kn (ks km : List (Key × V)) : St → Prop
  | .set v _ => (valV ks (Sum.inr v)).isSome = true
  | .read v => (valV ks (Sum.inr v)).isSome = true
  | .call p _ => (valV km (Sum.inr p)).isSome = true
  | _ => True
def sp_has_unknown (K : PySem.W.Frag) : Sp := fun us H Q _ => ∃ (x : V) (s : St) (ds dm : Addr) (ks km : List (Key × V)) (ws : List Str), us = [x, .ref ds, .ref dm] ∧ StAt K H x s ∧ H ds = some (.dK ks) ∧ H dm = some (.dK km) ∧ ExsOk s ∧ s.Kn ks km ∧ (∀ e ∈ s.exs, e.In ws) ∧ (∀ v ∈ ws, (valV ks (Sum.inr v)).isSome = true) ∧
  ∀ H', Same H H' → Q (.bl false) H'
theorem some_dk {o : Option V} (h : o.isSome = true) {A B : Prop} (b : B) : if (!o.isSome) = true then A else B := by
  rw [h]
  exact iteF b
theorem ok_has_unknown (T : Txt P K mg c) : Has P w K mg base 7 "has_unknown" ["statement", "sizes", "many"] (sp_has_unknown K) := by
  obtain ⟨f, fd, F, m, b⟩ := T.d_has_unknown.ex
  obtain ⟨f_expressions_of, fd_expressions_of, G_expressions_of, m_expressions_of, k_expressions_of, b_expressions_of⟩ := ok_expressions_of (P := P) (w := w) (base := base) T
  obtain ⟨f_leaves_of, fd_leaves_of, G_leaves_of, m_leaves_of, k_leaves_of, b_leaves_of⟩ := ok_leaves_of (P := P) (w := w) (base := base) T 5
  refine ⟨f, fd, F.ok sc_has_unknown (fun vs H Q E h => ?_) (fun cdv A outer s H vs Q E hr h => ?_), m, F.kp, b⟩
  · obtain ⟨x, s, ds, dm, ks, km, ws, rfl, hs, hds, hdm, ho, hkn, hin, hws, q⟩ := h
    rfl
  obtain ⟨x, s, ds, dm, ks, km, ws, rfl, hs, hds, hdm, ho, hkn, hin, hws, q⟩ := h
  refine ⟨_, (C8.pss_cut (ps_if (PW.pt (pw_and (pt_cmpR op_eq (pe_ix ix_tup (pv 0) pe_int (fun _ _ => rfl)) pe_str (nomark _)) (pw_and1 (pt_cmp (pc_dnotin (dun hr) (pe_ix ix_tup (pv 0) pe_int (fun _ _ => rfl)) (pv 2)) (by rfl)))))
      (pss_one (ps_ret pe_bl))
      pss_nil)
      (C8.pss_cut (ps_if (PW.pt (pw_and (pt_cmpR op_in_seq (pe_ix ix_tup (pv 0) pe_int (fun _ _ => rfl)) (pe_tup (pa_cons pe_str (pa_cons pe_str pa_nil))) (by rfl)) (pw_and1 (pt_cmp (pc_dnotin (dun hr) (pe_ix ix_tup (pv 0) pe_int (fun _ _ => rfl)) (pv 1)) (by rfl)))))
      (pss_one (ps_ret pe_bl))
      pss_nil)
      (pss_cons (ps_setLc2 (i := 3) (own := [("expression", 4), ("leaf", 5)]) (vs1 := [5]) (g := gName 4) (g1 := gName 5) (by rfl) sc_has_unknown.nd rfl rfl (sw_true rfl rfl rfl (by decide +kernel)) (pi_tup (pe_call G_expressions_of (hr.mono (by decide)) (by rfl) m_expressions_of k_expressions_of b_expressions_of .nil pass0 (pa_cons (pv 0) pa_nil))) (blkOk_by (own := [("expression", 4), ("leaf", 5)]) (N := ["statement", "sizes", "many", "leaves", "expression", "leaf", "word", "worth"]) (sc := defScope s_has_unknown) (by decide +kernel)) (by decide) (fun _ _ _ _ _ => (pg_name (i := 4) sc_has_unknown.nd rfl (.inl rfl))) (fun _ _ _ _ _ => pts_nil) (fun _ _ _ _ _ => (pi_listK (K := K) rfl (pe_call G_leaves_of (hr.mono (by decide)) (by rfl) m_leaves_of k_leaves_of b_leaves_of .nil pass0 (pa_cons (pv 4) pa_nil)))) (fun _ _ _ _ _ => (pg_name (i := 5) sc_has_unknown.nd rfl (.inl rfl))) (fun _ _ _ _ _ => pts_nil) (fun _ _ _ _ _ => (pv 5)))
      (pss_one (ps_ret (pe_callB (cr_any rfl) (by rfl) T.z_any (by decide +kernel) (pa_cons (pe_lc (own := [("word", 6), ("worth", 7)]) (by rfl) sc_has_unknown.nd (pi_list (pv 3)) (blkOk_by (own := [("word", 6), ("worth", 7)]) (N := ["statement", "sizes", "many", "leaves", "expression", "leaf", "word", "worth"]) (sc := defScope s_has_unknown) (by decide +kernel)) (fun _ _ _ _ _ => (pg_tupK (K := K) (n := 2) rfl rfl (pgs_cons (pg_name (i := 6) sc_has_unknown.nd rfl (.inl rfl)) (pgs_cons (pg_name (i := 7) sc_has_unknown.nd rfl (.inl rfl)) pgs_nil)))) (fun _ _ _ _ _ => pts_nil) (fun _ _ _ _ _ => (pe_and (pe_cmpR op_eq (pv 6) pe_str (nomark _)) (pe_one (pe_cmp (pc_dnotin (dun hr) (pv 7) (pv 1)) (by rfl)))))) pa_nil))))))), ?_⟩
  -- the call's own name
  refine ⟨fun σ' H' => σ' = [some x, some (.ref ds), some (.ref dm), none, none, none, none, none] ∧ H = H', ?_, ?_⟩
  · cases s with
    | call p as =>
      obtain ⟨q, a, xs, rfl, hq, _⟩ := hs.is
      exact ⟨_, rfl, q, _, _, _, rfl, rfl, hq, h0, rfl, _, rfl, yes rfl ⟨_, rfl, q, _, _, _, rfl, rfl, hq, h1, _, rfl, dm, _, rfl, DGet.k (k := Sum.inr p) hdm, _, rfl, some_dk hkn ⟨rfl, rfl⟩⟩⟩
    | set v e =>
      obtain ⟨q, ys, rfl, hq⟩ := hs.hd
      exact ⟨_, rfl, q, _, _, _, rfl, rfl, hq, h0, rfl, _, rfl, nope (wd (show (("set" : Str) == "call") = false by decide +kernel)) ⟨rfl, rfl⟩⟩
    | read v =>
      obtain ⟨q, ys, rfl, hq⟩ := hs.hd
      exact ⟨_, rfl, q, _, _, _, rfl, rfl, hq, h0, rfl, _, rfl, nope (wd (show (("read" : Str) == "call") = false by decide +kernel)) ⟨rfl, rfl⟩⟩
    | write e =>
      obtain ⟨q, ys, rfl, hq⟩ := hs.hd
      exact ⟨_, rfl, q, _, _, _, rfl, rfl, hq, h0, rfl, _, rfl, nope (wd (show (("write" : Str) == "call") = false by decide +kernel)) ⟨rfl, rfl⟩⟩
    | ifs e b o =>
      obtain ⟨q, ys, rfl, hq⟩ := hs.hd
      exact ⟨_, rfl, q, _, _, _, rfl, rfl, hq, h0, rfl, _, rfl, nope (wd (show (("if" : Str) == "call") = false by decide +kernel)) ⟨rfl, rfl⟩⟩
    | whi e b =>
      obtain ⟨q, ys, rfl, hq⟩ := hs.hd
      exact ⟨_, rfl, q, _, _, _, rfl, rfl, hq, h0, rfl, _, rfl, nope (wd (show (("while" : Str) == "call") = false by decide +kernel)) ⟨rfl, rfl⟩⟩
    | skip =>
      obtain ⟨q, ys, rfl, hq⟩ := hs.hd
      exact ⟨_, rfl, q, _, _, _, rfl, rfl, hq, h0, rfl, _, rfl, nope (wd (show (("skip" : Str) == "call") = false by decide +kernel)) ⟨rfl, rfl⟩⟩
  rintro _ _ ⟨rfl, rfl⟩
  -- the variable's
  refine ⟨fun σ' H' => σ' = [some x, some (.ref ds), some (.ref dm), none, none, none, none, none] ∧ Same H H', ?_, ?_⟩
  · cases s with
    | set v e =>
      obtain ⟨q, y, rfl, hq, _⟩ := hs.is
      refine ⟨_, rfl, q, _, _, _, rfl, rfl, hq, h0, by show 2 ≤ sizeLine; decide, fun t nt => ⟨t, _, rfl, .inr (SqT.of upd_same), rfl, by decide +kernel, _, rfl, ?_⟩⟩
      have s0 := same_new (o := .tup [.str "set", .str "read"]) nt
      refine ite2 (fun _ => ?_) (fun e => absurd (show inV (V.str "set") [V.str "set", V.str "read"] = true by decide +kernel) e)
      exact ⟨_, rfl, q, _, _, _, rfl, rfl, seqT_same s0 hq, h1, _, rfl, ds, _, rfl, DGet.k (k := Sum.inr v) (s0 _ _ hds), _, rfl, some_dk hkn ⟨rfl, s0⟩⟩
    | read v =>
      obtain ⟨q, rfl, hq⟩ := hs.is
      refine ⟨_, rfl, q, _, _, _, rfl, rfl, hq, h0, by show 2 ≤ sizeLine; decide, fun t nt => ⟨t, _, rfl, .inr (SqT.of upd_same), rfl, by decide +kernel, _, rfl, ?_⟩⟩
      have s0 := same_new (o := .tup [.str "set", .str "read"]) nt
      refine ite2 (fun _ => ?_) (fun e => absurd (show inV (V.str "read") [V.str "set", V.str "read"] = true by decide +kernel) e)
      exact ⟨_, rfl, q, _, _, _, rfl, rfl, seqT_same s0 hq, h1, _, rfl, ds, _, rfl, DGet.k (k := Sum.inr v) (s0 _ _ hds), _, rfl, some_dk hkn ⟨rfl, s0⟩⟩
    | write e =>
      obtain ⟨q, ys, rfl, hq⟩ := hs.hd
      refine ⟨_, rfl, q, _, _, _, rfl, rfl, hq, h0, by show 2 ≤ sizeLine; decide, fun t nt => ⟨t, _, rfl, .inr (SqT.of upd_same), rfl, by decide +kernel, _, rfl, ?_⟩⟩
      exact ite2 (fun e => absurd (show inV (V.str "write") [V.str "set", V.str "read"] = true from e) (by decide +kernel)) fun _ => iteF ⟨rfl, same_new nt⟩
    | ifs e b o =>
      obtain ⟨q, ys, rfl, hq⟩ := hs.hd
      refine ⟨_, rfl, q, _, _, _, rfl, rfl, hq, h0, by show 2 ≤ sizeLine; decide, fun t nt => ⟨t, _, rfl, .inr (SqT.of upd_same), rfl, by decide +kernel, _, rfl, ?_⟩⟩
      exact ite2 (fun e => absurd (show inV (V.str "if") [V.str "set", V.str "read"] = true from e) (by decide +kernel)) fun _ => iteF ⟨rfl, same_new nt⟩
    | whi e b =>
      obtain ⟨q, ys, rfl, hq⟩ := hs.hd
      refine ⟨_, rfl, q, _, _, _, rfl, rfl, hq, h0, by show 2 ≤ sizeLine; decide, fun t nt => ⟨t, _, rfl, .inr (SqT.of upd_same), rfl, by decide +kernel, _, rfl, ?_⟩⟩
      exact ite2 (fun e => absurd (show inV (V.str "while") [V.str "set", V.str "read"] = true from e) (by decide +kernel)) fun _ => iteF ⟨rfl, same_new nt⟩
    | call p as =>
      obtain ⟨q, ys, rfl, hq⟩ := hs.hd
      refine ⟨_, rfl, q, _, _, _, rfl, rfl, hq, h0, by show 2 ≤ sizeLine; decide, fun t nt => ⟨t, _, rfl, .inr (SqT.of upd_same), rfl, by decide +kernel, _, rfl, ?_⟩⟩
      exact ite2 (fun e => absurd (show inV (V.str "call") [V.str "set", V.str "read"] = true from e) (by decide +kernel)) fun _ => iteF ⟨rfl, same_new nt⟩
    | skip =>
      obtain ⟨q, ys, rfl, hq⟩ := hs.hd
      refine ⟨_, rfl, q, _, _, _, rfl, rfl, hq, h0, by show 2 ≤ sizeLine; decide, fun t nt => ⟨t, _, rfl, .inr (SqT.of upd_same), rfl, by decide +kernel, _, rfl, ?_⟩⟩
      exact ite2 (fun e => absurd (show inV (V.str "skip") [V.str "set", V.str "read"] = true from e) (by decide +kernel)) fun _ => iteF ⟨rfl, same_new nt⟩
  rintro _ Hs ⟨rfl, s00⟩
  refine ⟨_, rfl, x, s, rfl, hs.same s00, fun t xs H1 s1 ht hx => ⟨t, rfl, ⟨_, ht⟩, fun D nD => ?_⟩⟩
  have lx : xs.length = s.exs.length := by have := dpa_len hx; rwa [List.length_map] at this
  have tot := lvs_sum ho.d5
  have ln10 := ho.ln
  have lvl : ∀ i, ((s.exs.take i).map Ex.lvs).flatten.length ≤ 320 := fun i => Nat.le_trans (flat_take_le _ _ _) (by omega)
  have lf : ∀ i, ∀ z ∈ ((s.exs.take i).map Ex.lvs).flatten, z.leaf = true := fun i z hz => all_lvs (P := fun z => z.leaf = true) (fun e _ p hp => lvs_depth hp) z hz
  refine two_out (walk_tup (xs := xs)) (fun i H' => Same H1 H' ∧ ∃ acc, H' D = some (.lst acc) ∧ DpAll K H' acc (((s.exs.take i).map Ex.lvs).flatten.map Ex.d)) ⟨same_new nD, [], upd_same, .nil⟩ (fun i H' _ h' => seqT_same h'.1 ht) ?_ ?_
  · rintro i y H2 H3 hi ⟨s2, acc, hD, hacc⟩ ⟨rfl, hy⟩
    obtain ⟨d, ed, hd2⟩ := dpa_getx' hx hy
    rw [List.getElem?_map] at ed
    cases ep : s.exs[i]? with
    | none => rw [ep] at ed; cases ed
    | some p2 =>
    rw [ep] at ed
    cases ed
    have mp := List.mem_of_getElem? ep
    have dpp := ho.d5 p2 mp
    have lpp := lvs_len dpp
    have l32 : 2 ^ 5 = 32 := rfl
    refine ⟨rfl, _, rfl, y, p2, rfl, dp_same s2 hd2, dpp, by omega, fun l ws H3 s3 nl hl hw => ⟨l, rfl, ⟨_, SqL.of hl⟩, ?_⟩⟩
    have hD3 := s3 _ _ hD
    have nlD : l ≠ D := (ne_of_none hD nl).symm
    have lw : ws.length = p2.lvs.length := by have := dpa_len hw; rwa [List.length_map] at this
    show Exists _
    refine two_out (walk_list (xs := ws)) (fun j H' => Fr D H3 H' ∧ Same H1 H' ∧ ∃ acc, H' D = some (.lst acc) ∧ DpAll K H' acc ((((s.exs.take i).map Ex.lvs).flatten ++ p2.lvs.take j).map Ex.d)) ⟨Fr.refl _ _, s2.trans s3, acc, hD3, by rw [List.take_zero, List.append_nil]; exact dpa_same s3 hacc⟩ (fun j H' _ h' => h'.1.seq nlD (SqL.of hl)) ?_ ?_
    · rintro j z H5 H6 hj ⟨f5, s5, acc5, hD5, h5⟩ ⟨rfl, hz⟩
      have la := dpa_len h5
      rw [List.length_map, List.length_append, List.length_take] at la
      have := lvl i
      have hz5 := dpa_getx' hw hz
      obtain ⟨d2, ed2, hz2⟩ := hz5
      rw [List.getElem?_map] at ed2
      cases eq2 : p2.lvs[j]? with
      | none => rw [eq2] at ed2; cases ed2
      | some q2 =>
      rw [eq2] at ed2
      cases ed2
      have hlf2 := lvs_depth (List.mem_of_getElem? eq2)
      refine ⟨rfl, _, rfl, acc5, hD5, line_small (by omega), f5.trans Fr.upd, same_mut s5 nD, acc5 ++ [z], upd_same, ?_⟩
      rw [take_succ_at eq2, ← List.append_assoc, List.map_append]
      refine dpa_cat (dpa_mut hD5 2 (tup_lvs fun e' he => ?_) h5) (.cons (dp_mut hD5 2 (tup_ex (by rw [leaf_depth hlf2]; exact Nat.le_refl _)) (dp_frl hD3 f5 2 (tup_ex (by rw [leaf_depth hlf2]; exact Nat.le_refl _)) hz2)) .nil)
      rcases List.mem_append.mp he with he | he
      · exact lf i _ he
      · exact lvs_depth (List.mem_of_mem_take he)
    · rintro H5 ⟨f5, s5, acc5, hD5, h5⟩
      refine ⟨s5, acc5, hD5, ?_⟩
      rw [lw, List.take_length] at h5
      rw [flat_take Ex.lvs ep]
      exact h5
  rintro H2 ⟨s2, acc, hD, hacc⟩
  rw [lx, List.take_length] at hacc
  have lacc : acc.length = (s.exs.map Ex.lvs).flatten.length := by have := dpa_len hacc; rwa [List.length_map] at this
  refine ⟨_, rfl, D, rfl, ⟨_, SqL.of hD⟩, fun D2 n2 => lc_it (walk_list (xs := acc)) (fun i H' => Same H2 H' ∧ H' D2 = some (.lst ((List.replicate i false).map V.bl))) ⟨same_new n2, upd_same⟩ (fun i H' _ h' => SqL.of (h'.1 _ _ hD)) ?_ ?_⟩
  · rintro i x H3 H4 hi ⟨s3, hD3⟩ ⟨rfl, hx⟩
    obtain ⟨d, ed, hd⟩ := dpa_getx' hacc hx
    rw [List.getElem?_map] at ed
    cases ep : (s.exs.map Ex.lvs).flatten[i]? with
    | none => rw [ep] at ed; cases ed
    | some p =>
    rw [ep] at ed
    cases ed
    have hd := dp_same s3 hd
    have mp := List.mem_of_getElem? ep
    have small : ((List.replicate i false).map V.bl).length < sizeLine := by
      rw [List.length_map, List.length_replicate]
      exact small1000 (by omega)
    have nxt : (upd H4 D2 (.lst ((List.replicate i false).map V.bl ++ [.bl false]))) D2 = some (.lst ((List.replicate (i + 1) false).map V.bl)) := by
      rw [upd_same, List.replicate_succ', List.map_append]
      rfl
    have hlf : p.leaf = true := all_lvs (P := fun z => z.leaf = true) (fun e _ p hp => lvs_depth hp) p mp
    cases p with
    | not _ => cases hlf
    | bin _ _ _ => cases hlf
    | num n =>
      rw [Ex.d] at hd
      obtain ⟨r, ys, rfl, hr, k⟩ := dp_tup' hd
      cases k with
      | cons a k =>
      cases a
      cases k with
      | cons a k =>
      cases a
      cases k
      exact ⟨r, _, rfl, hr, rfl, _, _, rfl, _, _, rfl, rfl, rfl, _, rfl, rfl, _, rfl, nope (wd (show (("number" : Str) == "name") = false by decide +kernel)) ⟨_, hD3, small, same_mut s3 n2, nxt⟩⟩
    | nam v =>
      rw [Ex.d] at hd
      obtain ⟨r, ys, rfl, hr, k⟩ := dp_tup' hd
      cases k with
      | cons a k =>
      cases a
      cases k with
      | cons a k =>
      cases a
      cases k
      have hv : (valV ks (Sum.inr v)).isSome = true := hws v (all_lvs (P := fun e => e.In ws) (fun e he p hp => in_lvs (hin e he) p hp) (.nam v) mp)
      refine ⟨r, _, rfl, hr, rfl, _, _, rfl, _, _, rfl, rfl, rfl, _, rfl, rfl, _, rfl, yes rfl ⟨_, rfl, _, rfl, ds, _, rfl, DGet.k (k := Sum.inr v) ((s00.trans (s1.trans (s2.trans s3))) _ _ hds), ?_⟩⟩
      rw [hv]
      exact ⟨_, hD3, small, same_mut s3 n2, nxt⟩
  · rintro H3 ⟨s3, hD3⟩
    refine ⟨D2, _, rfl, SqL.of hD3, ?_⟩
    rw [any_false]
    exact q _ ((s00.trans s1).trans (s2.trans s3))
def sp_is_wrong_call (K : PySem.W.Frag) : Sp := fun us H Q _ => ∃ (x : V) (s : St) (mn : Str) (dm : Addr) (km : List (Key × V)), us = [x, .str mn, .ref dm] ∧ StAt K H x s ∧ H dm = some (.dK km) ∧ (∀ p as, s = .call p as → p ≠ mn ∧ valV km (Sum.inr p) = some (.int (as.length : Nat))) ∧ Q (.bl false) H
theorem ok_is_wrong_call (T : Txt P K mg c) : Has P w K mg base 1 "is_wrong_call" ["statement", "main", "many"] (sp_is_wrong_call K) := by
  obtain ⟨f, fd, F, m, b⟩ := T.d_is_wrong_call.ex
  refine ⟨f, fd, F.ok sc_is_wrong_call (fun vs H Q E h => ?_) (fun cdv A outer s H vs Q E hr h => ?_), m, F.kp, b⟩
  · obtain ⟨x, s, mn, dm, km, rfl, hs, hdm, hc, q⟩ := h
    rfl
  obtain ⟨x, s, mn, dm, km, rfl, hs, hdm, hc, q⟩ := h
  refine ⟨_, (pss_cons (ps_if (pt_cmpR op_ne (pe_ix ix_tup (pv 0) pe_int (fun _ _ => rfl)) pe_str (nomark _))
      (pss_one (ps_ret pe_bl))
      pss_nil)
      (pss_one (ps_ret (pe_or (pe_cmpR op_eq (pe_ix ix_tup (pv 0) pe_int (fun _ _ => rfl)) (pv 1) (nomark _)) (pe_one (pe_cmpR op_ne (pe_callB call_len_seq (by rfl) T.z_len (by decide +kernel) (pa_cons (pe_ix ix_tup (pv 0) pe_int (fun _ _ => rfl)) pa_nil)) (pe_dget (dun hr) (pv 2) (pe_ix ix_tup (pv 0) pe_int (fun _ _ => rfl)) (fun _ _ => rfl)) (nomark _))))))), ?_⟩
  cases s with
  | call p as =>
    obtain ⟨qq, a, xs, rfl, hq, ha, hx⟩ := hs.is
    obtain ⟨n1, n2⟩ := hc p as rfl
    have lx := dpa_len hx
    rw [List.length_map] at lx
    refine ⟨_, rfl, qq, _, _, _, rfl, rfl, hq, h0, rfl, _, rfl, nyes rfl ?_⟩
    refine ⟨_, rfl, qq, _, _, _, rfl, rfl, hq, h1, _, rfl, rfl, _, rfl, nope (fun z => n1 (V.str.inj z)) ?_⟩
    refine ⟨_, rfl, qq, _, _, _, rfl, rfl, hq, h2, a, xs, rfl, ha, _, rfl, _, rfl, qq, _, _, _, rfl, rfl, hq, h1, dm, .int (as.length : Nat), rfl, by rw [← n2]; exact DGet.k (k := Sum.inr p) hdm, rfl, ?_⟩
    have e : (!decide (V.int ((xs.length : Nat) : Int) = V.int ((as.length : Nat) : Int))) = false := by rw [lx, decide_eq_true rfl]; rfl
    show Q (.bl (!decide (V.int ((xs.length : Nat) : Int) = V.int ((as.length : Nat) : Int)))) H
    rw [e]
    exact q
  | set v e =>
    obtain ⟨qq, ys, rfl, hq⟩ := hs.hd
    exact ⟨_, rfl, qq, _, _, _, rfl, rfl, hq, h0, rfl, _, rfl, nnope (wd (show (("set" : Str) == "call") = false by decide +kernel)) q⟩
  | read v =>
    obtain ⟨qq, ys, rfl, hq⟩ := hs.hd
    exact ⟨_, rfl, qq, _, _, _, rfl, rfl, hq, h0, rfl, _, rfl, nnope (wd (show (("read" : Str) == "call") = false by decide +kernel)) q⟩
  | write e =>
    obtain ⟨qq, ys, rfl, hq⟩ := hs.hd
    exact ⟨_, rfl, qq, _, _, _, rfl, rfl, hq, h0, rfl, _, rfl, nnope (wd (show (("write" : Str) == "call") = false by decide +kernel)) q⟩
  | ifs e b o =>
    obtain ⟨qq, ys, rfl, hq⟩ := hs.hd
    exact ⟨_, rfl, qq, _, _, _, rfl, rfl, hq, h0, rfl, _, rfl, nnope (wd (show (("if" : Str) == "call") = false by decide +kernel)) q⟩
  | whi e b =>
    obtain ⟨qq, ys, rfl, hq⟩ := hs.hd
    exact ⟨_, rfl, qq, _, _, _, rfl, rfl, hq, h0, rfl, _, rfl, nnope (wd (show (("while" : Str) == "call") = false by decide +kernel)) q⟩
  | skip =>
    obtain ⟨qq, ys, rfl, hq⟩ := hs.hd
    exact ⟨_, rfl, qq, _, _, _, rfl, rfl, hq, h0, rfl, _, rfl, nnope (wd (show (("skip" : Str) == "call") = false by decide +kernel)) q⟩


end
end Pf

namespace Pf
open PySem PySem.Spec PyProof.Rows L2
section
variable {P : Program} {w : World} {K : PySem.W.Frag} {mg : Str → Option Value} {base : Heap}
variable {c : Nat → Addr}
/-! ### what is never reached, by names that stay -/
def noE : TE := fun _ _ _ => False
def noT : TT := fun _ _ _ => False
def noI : TI := fun _ _ _ => False
def noS : TS := fun _ _ _ => False
section
variable {X : Cx}
theorem pe_dead {e : Expr} : PE X e noE := ⟨fun _ _ _ _ _ _ h => False.elim h⟩
theorem pt_dead {e : Expr} : PT X e noT := ⟨fun _ _ _ _ _ _ h => False.elim h⟩
theorem pi_dead {tg e : Expr} : PI X tg e noI := ⟨fun _ _ _ _ _ _ h => False.elim h⟩
theorem ps_dead {st : Stmt} : PS X st noS := ⟨fun _ _ _ _ _ _ h => False.elim h⟩
end
section
variable {X : Cx} {K : PySem.W.Frag}
theorem pe_lenSetSK {a : Expr} {ta : TE} {p p2 q pos : Pos} (h : X.K = K) (hg : Gl X "len") (hm : X.mg "len" = none) (hg2 : Gl X "set") (hm2 : X.mg "set" = none) (ha : PE X a ta) (hc : X.calm = true := by rfl)
    (na : starEach [a] X.env = (false, eval a X.env) :: starEach [] X.env := by rfl) : PE X (.Call (.Name "len" p) [.Call (.Name "set" p2) [a] [] q] [] pos) (tLenSetS K ta) := h ▸ pe_lenSetS hg hm hg2 hm2 ha hc na
end

def sp_count_reason (K : PySem.W.Frag) : Sp := fun us H Q _ => ∃ (v x : V) (g : Pg), us = [v, x] ∧ VrsAt K H v g.vs ∧ PrsAt K H x g.ps ∧ g.Ok ∧ ∀ H', Same H H' → Q (.str Str.empty) H'
theorem ok_count_reason (T : Txt P K mg c) : Has P w K mg base 2 "count_reason" ["variables", "procedures"] (sp_count_reason K) := by
  obtain ⟨f, fd, F, m, b⟩ := T.d_count_reason.ex
  obtain ⟨tk_MOST_PROCEDURES, cc_MOST_PROCEDURES⟩ := T.c_MOST_PROCEDURES
  obtain ⟨tk_MOST_GLOBALS, cc_MOST_GLOBALS⟩ := T.c_MOST_GLOBALS
  obtain ⟨f_has_many_variables, fd_has_many_variables, G_has_many_variables, m_has_many_variables, k_has_many_variables, b_has_many_variables⟩ := ok_has_many_variables (P := P) (w := w) (base := base) T
  refine ⟨f, fd, F.ok sc_count_reason (fun vs H Q E h => ?_) (fun cdv A outer s H vs Q E hr h => ?_), m, F.kp, b⟩
  · obtain ⟨v, x, g, rfl, hv, hx, ho, q⟩ := h
    rfl
  obtain ⟨v, x, g, rfl, hv, hx, ho, q⟩ := h
  refine ⟨_, (pss_cons (ps_if (pt_not (pt_chain op_le op_le pe_int (pe_callB call_len_seq (by rfl) T.z_len (by decide +kernel) (pa_cons (pv 1) pa_nil)) (pe_glob (v := .int 5) rfl cc_MOST_PROCEDURES ⟨_, rfl⟩)))
      (pss_one (ps_ret pe_str))
      pss_nil)
      (pss_cons (ps_if (PW.pt (pw_or (pt_cmpR op_gt (pe_callB call_len_seq (by rfl) T.z_len (by decide +kernel) (pa_cons (pv 0) pa_nil)) (pe_glob (v := .int 4) rfl cc_MOST_GLOBALS ⟨_, rfl⟩) (nomark _)) (pw_or1 (pt_val (pe_callB (cr_any rfl) (by rfl) T.z_any (by decide +kernel) (pa_cons (pe_lc (own := [("procedure", 2)]) (g := gName 2) (by rfl) sc_count_reason.nd (pi_alt (pi_list (pv 1)) (pi_tup (pv 1))) (blkOk_by (own := [("procedure", 2)]) (N := ["variables", "procedures", "procedure"]) (sc := defScope s_count_reason) (by decide +kernel)) (fun _ _ _ _ _ => pg_name (i := 2) sc_count_reason.nd rfl (Or.inl rfl)) (fun _ _ _ _ _ => pts_nil) (fun _ _ _ _ _ => (pe_call G_has_many_variables (hr.mono (by decide)) (by rfl) m_has_many_variables k_has_many_variables b_has_many_variables .nil pass0 (pa_cons (pv 2) pa_nil)))) pa_nil))))))
      (pss_one (ps_ret pe_str))
      pss_nil)
      (pss_one (ps_ret pe_str)))), ?_⟩
  obtain ⟨a, xs, rfl, hq, ha⟩ := hx
  obtain ⟨b, ys, rfl, hqv, hb⟩ := hv
  have la := ha.1
  have lb := hb.1
  have o1 := ho.p1
  have o5 := ho.p5
  have o4 := ho.v4
  refine ⟨_, rfl, a, xs, rfl, hq, _, _, rfl, rfl, _, rfl, yes (by omega) ⟨_, _, rfl, rfl, _, rfl, nyes (by omega) ?_⟩⟩
  refine ⟨_, rfl, b, ys, rfl, hqv, _, _, rfl, rfl, _, rfl, nope (by omega) ?_⟩
  refine alt_seq rfl hq fun J G w gd => fun D nD => lc_it w (fun i H' => Same H H' ∧ H' D = some (.lst ((List.replicate i false).map V.bl))) ⟨same_new nD, upd_same⟩ (fun i H' _ h' => gd _ h'.1) ?_ ?_
  · rintro i x H1 H2 hi ⟨s1, hD⟩ ⟨rfl, hx⟩
    obtain ⟨p, ep, hp⟩ := ha.at hx
    have mp := List.mem_of_getElem? ep
    refine ⟨rfl, _, rfl, x, p, rfl, hp.same s1, ho.p3 p mp, ho.l33 p mp, _, hD, ?_, same_mut s1 nD, ?_⟩
    · rw [List.length_map, List.length_replicate]
      exact small1000 (by omega)
    · rw [upd_same, List.replicate_succ', List.map_append]
      rfl
  · rintro H1 ⟨s1, hD⟩
    refine ⟨D, _, rfl, SqL.of hD, _, rfl, ?_⟩
    rw [any_false]
    exact iteF (q _ s1)
/-- a list of the module's making, apart from D -/
def LsN (D : Addr) (H : Hp) (x : V) (ys : List V) : Prop := ∃ p, x = .ref p ∧ p ≠ D ∧ H p = some (.lst ys)
def ScN (K : PySem.W.Frag) (D : Addr) (H : Hp) (x : V) (vs : List Vr) : Prop := ∃ p ws, x = .ref p ∧ p ≠ D ∧ H p = some (.lst ws) ∧ All2 (VrAt K H) ws vs
theorem LsN.same {D : Addr} {H H' : Hp} {x : V} {ys : List V} (e : Same H H') (h : LsN D H x ys) : LsN D H' x ys := let ⟨p, h1, h2, h3⟩ := h; ⟨p, h1, h2, e _ _ h3⟩
theorem LsN.mut {D : Addr} {H : Hp} {x : V} {ys : List V} {o : HO} (h : LsN D H x ys) : LsN D (upd H D o) x ys := let ⟨p, h1, h2, h3⟩ := h; ⟨p, h1, h2, (upd_ne h2).trans h3⟩
theorem VrAt.mut {K : PySem.W.Frag} {D : Addr} {H : Hp} {x : V} {v : Vr} {zs : List V} {o : HO} (e : H D = some (.lst zs)) (h : VrAt K H x v) : VrAt K (upd H D o) x v := let ⟨p, h1, h2⟩ := h; ⟨p, h1, seqT_mut e h2⟩
theorem ScN.same {K : PySem.W.Frag} {D : Addr} {H H' : Hp} {x : V} {vs : List Vr} (e : Same H H') (h : ScN K D H x vs) : ScN K D H' x vs := let ⟨p, ws, h1, h2, h3, h4⟩ := h; ⟨p, ws, h1, h2, e _ _ h3, h4.imp fun _ _ => VrAt.same e⟩
theorem ScN.mut {K : PySem.W.Frag} {D : Addr} {H : Hp} {x : V} {vs : List Vr} {zs : List V} {o : HO} (e : H D = some (.lst zs)) (h : ScN K D H x vs) : ScN K D (upd H D o) x vs := let ⟨p, ws, h1, h2, h3, h4⟩ := h; ⟨p, ws, h1, h2, (upd_ne h2).trans h3, h4.imp fun _ _ => VrAt.mut e⟩
theorem map_take_at {α β : Type} {f : α → β} {xs : List α} {i : Nat} {x : α} (h : xs[i]? = some x) : (xs.take (i + 1)).map f = (xs.take i).map f ++ [f x] := by rw [take_succ_at h, List.map_append]; rfl
def nmsV (vs : List Vr) : List V := (vs.map Vr.nm).map V.str
def szsV (vs : List Vr) : List V := (vs.map Vr.sz).map V.int
/-- what the declarations come to: names and sizes, list by list -/
structure Decl (g : Pg) : Prop where
  len : ∀ p ∈ g.ps, (scp g.vs p).length ≤ 10
theorem Pg.Ok.decl {g : Pg} (ho : g.Ok) : Decl g := ⟨fun p hp => by
  have h1 := ho.v4
  have h2 := ho.p3 p hp
  have h3 := ho.l33 p hp
  unfold scp
  rw [List.length_append, List.length_append]
  omega⟩
theorem ix_seqV {K : PySem.W.Frag} {H : Hp} {a : Addr} {xs : List V} {i : Int} {x : V} {Q : VK} (h : SeqV K H a xs) (e : atI xs i = some x) (q : Q x H) : rIx K (.ref a) (.int i) H Q := by
  rcases h with h | h
  · exact .inl ⟨a, _, _, _, rfl, rfl, h, e, q⟩
  · exact .inr (.inl ⟨a, _, _, _, rfl, rfl, h, e, q⟩)
def sp_declaration_reason (K : PySem.W.Frag) : Sp := sp_count_reason K
theorem ok_declaration_reason (T : Txt P K mg c) : Has P w K mg base 2 "declaration_reason" ["variables", "procedures"] (sp_declaration_reason K) := by
  obtain ⟨f, fd, F, m, b⟩ := T.d_declaration_reason.ex
  obtain ⟨tk_LEAST_SIZE, cc_LEAST_SIZE⟩ := T.c_LEAST_SIZE
  obtain ⟨tk_MOST_SIZE, cc_MOST_SIZE⟩ := T.c_MOST_SIZE
  obtain ⟨tk_MOST_SIGHTS, cc_MOST_SIGHTS⟩ := T.c_MOST_SIGHTS
  obtain ⟨f_in_sight, fd_in_sight, G_in_sight, m_in_sight, k_in_sight, b_in_sight⟩ := ok_in_sight (P := P) (w := w) (base := base) T
  obtain ⟨f_is_name, fd_is_name, G_is_name, m_is_name, k_is_name, b_is_name⟩ := ok_is_name (P := P) (w := w) (base := base) T
  obtain ⟨f_product_of, fd_product_of, G_product_of, m_product_of, k_product_of, b_product_of⟩ := ok_product_of (P := P) (w := w) (base := base) T
  refine ⟨f, fd, F.ok sc_declaration_reason (fun vs H Q E h => ?_) (fun cdv A outer s H vs Q E hr h => ?_), m, F.kp, b⟩
  · obtain ⟨v, x, g, rfl, hv, hx, ho, q⟩ := h
    rfl
  obtain ⟨v, x, g, rfl, hv, hx, ho, q⟩ := h
  refine ⟨_, (pss_cons (ps_setLc (i := 2) (own := [("procedure", 6)]) (g := gName 6) (by rfl) sc_declaration_reason.nd rfl rfl (sw_true rfl rfl rfl (by decide +kernel)) (pi_alt (pi_list (pv 1)) (pi_tup (pv 1))) (blkOk_by (own := [("procedure", 6)]) (N := ["variables", "procedures", "procedure_names", "scopes", "scope_names", "scope_sizes", "procedure", "scope", "name", "size", "names", "sizes"]) (sc := defScope s_declaration_reason) (by decide +kernel)) (fun _ _ _ _ _ => (pg_name (i := 6) sc_declaration_reason.nd rfl (.inl rfl))) (fun _ _ _ _ _ => pts_nil) (fun _ _ _ _ _ => (pe_ix (ix_tupK (K := K) rfl) (pv 6) pe_int (fun _ _ => rfl))))
      (pss_cons (ps_setLc (i := 3) (own := [("procedure", 6)]) (g := gName 6) (by rfl) sc_declaration_reason.nd rfl rfl (sw_true rfl rfl rfl (by decide +kernel)) (pi_alt (pi_list (pv 1)) (pi_tup (pv 1))) (blkOk_by (own := [("procedure", 6)]) (N := ["variables", "procedures", "procedure_names", "scopes", "scope_names", "scope_sizes", "procedure", "scope", "name", "size", "names", "sizes"]) (sc := defScope s_declaration_reason) (by decide +kernel)) (fun _ _ _ _ _ => (pg_name (i := 6) sc_declaration_reason.nd rfl (.inl rfl))) (fun _ _ _ _ _ => pts_nil) (fun _ _ _ _ _ => (pe_call G_in_sight (hr.mono (by decide)) (by rfl) m_in_sight k_in_sight b_in_sight .nil pass0 (pa_cons (pv 0) (pa_cons (pv 6) pa_nil)))))
      (pss_cons (ps_setLc (i := 4) (own := [("scope", 7)]) (g := gName 7) (by rfl) sc_declaration_reason.nd rfl rfl (sw_true rfl rfl rfl (by decide +kernel)) (pi_list (pv 3)) (blkOk_by (own := [("scope", 7)]) (N := ["variables", "procedures", "procedure_names", "scopes", "scope_names", "scope_sizes", "procedure", "scope", "name", "size", "names", "sizes"]) (sc := defScope s_declaration_reason) (by decide +kernel)) (fun _ _ _ _ _ => (pg_name (i := 7) sc_declaration_reason.nd rfl (.inl rfl))) (fun _ _ _ _ _ => pts_nil) (fun _ _ _ _ _ => (pe_lc (own := [("name", 8), ("size", 9)]) (by rfl) sc_declaration_reason.nd (pi_listK (K := K) rfl (pv 7)) (blkOk_nf (own := [("name", 8), ("size", 9)]) (N := ["variables", "procedures", "procedure_names", "scopes", "scope_names", "scope_sizes", "procedure", "scope", "name", "size", "names", "sizes"]) (by decide +kernel)) (fun _ _ _ _ _ => (pg_tupK (K := K) (n := 2) rfl rfl (pgs_cons (pg_name (i := 8) sc_declaration_reason.nd rfl (.inl rfl)) (pgs_cons (pg_name (i := 9) sc_declaration_reason.nd rfl (.inl rfl)) pgs_nil)))) (fun _ _ _ _ _ => pts_nil) (fun _ _ _ _ _ => (pv 8)))))
      (pss_cons (ps_setLc (i := 5) (own := [("scope", 7)]) (g := gName 7) (by rfl) sc_declaration_reason.nd rfl rfl (sw_true rfl rfl rfl (by decide +kernel)) (pi_list (pv 3)) (blkOk_by (own := [("scope", 7)]) (N := ["variables", "procedures", "procedure_names", "scopes", "scope_names", "scope_sizes", "procedure", "scope", "name", "size", "names", "sizes"]) (sc := defScope s_declaration_reason) (by decide +kernel)) (fun _ _ _ _ _ => (pg_name (i := 7) sc_declaration_reason.nd rfl (.inl rfl))) (fun _ _ _ _ _ => pts_nil) (fun _ _ _ _ _ => (pe_lc (own := [("name", 8), ("size", 9)]) (by rfl) sc_declaration_reason.nd (pi_listK (K := K) rfl (pv 7)) (blkOk_nf (own := [("name", 8), ("size", 9)]) (N := ["variables", "procedures", "procedure_names", "scopes", "scope_names", "scope_sizes", "procedure", "scope", "name", "size", "names", "sizes"]) (by decide +kernel)) (fun _ _ _ _ _ => (pg_tupK (K := K) (n := 2) rfl rfl (pgs_cons (pg_name (i := 8) sc_declaration_reason.nd rfl (.inl rfl)) (pgs_cons (pg_name (i := 9) sc_declaration_reason.nd rfl (.inl rfl)) pgs_nil)))) (fun _ _ _ _ _ => pts_nil) (fun _ _ _ _ _ => (pv 9)))))
      (pss_cons (ps_if (pt_not (pt_val (pe_callB (cr_all rfl) (by rfl) T.z_all (by decide +kernel) (pa_cons (pe_lc2 (own := [("names", 10), ("name", 8)]) (vs1 := [8]) (g := gName 10) (g1 := gName 8) (by rfl) sc_declaration_reason.nd (pi_list (pe_op op_cat (pe_lst (pa_cons (pv 2) pa_nil)) (pv 4))) (blkOk_by (own := [("names", 10), ("name", 8)]) (N := ["variables", "procedures", "procedure_names", "scopes", "scope_names", "scope_sizes", "procedure", "scope", "name", "size", "names", "sizes"]) (sc := defScope s_declaration_reason) (by decide +kernel)) (by decide) (fun _ _ _ _ _ => (pg_name (i := 10) sc_declaration_reason.nd rfl (.inl rfl))) (fun _ _ _ _ _ => pts_nil) (fun _ _ _ _ _ => (pi_listK (K := K) rfl (pv 10))) (fun _ _ _ _ _ => (pg_name (i := 8) sc_declaration_reason.nd rfl (.inl rfl))) (fun _ _ _ _ _ => pts_nil) (fun _ _ _ _ _ => (pe_call G_is_name (hr.mono (by decide)) (by rfl) m_is_name k_is_name b_is_name .nil pass0 (pa_cons (pv 8) pa_nil)))) pa_nil))))
      (pss_one (ps_ret pe_str))
      pss_nil)
      (pss_cons (ps_if (pt_val (pe_callB (cr_any rfl) (by rfl) T.z_any (by decide +kernel) (pa_cons (pe_lc (own := [("names", 10)]) (g := gName 10) (by rfl) sc_declaration_reason.nd (pi_list (pe_op op_cat (pe_lst (pa_cons (pv 2) pa_nil)) (pv 4))) (blkOk_by (own := [("names", 10)]) (N := ["variables", "procedures", "procedure_names", "scopes", "scope_names", "scope_sizes", "procedure", "scope", "name", "size", "names", "sizes"]) (sc := defScope s_declaration_reason) (by decide +kernel)) (fun _ _ _ _ _ => pg_name (i := 10) sc_declaration_reason.nd rfl (Or.inl rfl)) (fun _ _ _ _ _ => pts_nil) (fun _ _ _ _ _ => (pe_cmpR op_lt (pe_lenSetSK (K := K) rfl (by rfl) T.z_len (by rfl) T.z_set (pv 10)) (pe_callB (call_len_seqK (K := K) rfl) (by rfl) T.z_len (by decide +kernel) (pa_cons (pv 10) pa_nil)) (nomark _)))) pa_nil)))
      (pss_one (ps_ret pe_str))
      pss_nil)
      (pss_cons (ps_if (pt_not (pt_val (pe_callB (cr_all rfl) (by rfl) T.z_all (by decide +kernel) (pa_cons (pe_lc2 (own := [("sizes", 11), ("size", 9)]) (vs1 := [9]) (g := gName 11) (g1 := gName 9) (by rfl) sc_declaration_reason.nd (pi_list (pv 5)) (blkOk_by (own := [("sizes", 11), ("size", 9)]) (N := ["variables", "procedures", "procedure_names", "scopes", "scope_names", "scope_sizes", "procedure", "scope", "name", "size", "names", "sizes"]) (sc := defScope s_declaration_reason) (by decide +kernel)) (by decide) (fun _ _ _ _ _ => (pg_name (i := 11) sc_declaration_reason.nd rfl (.inl rfl))) (fun _ _ _ _ _ => pts_nil) (fun _ _ _ _ _ => (pi_listK (K := K) rfl (pv 11))) (fun _ _ _ _ _ => (pg_name (i := 9) sc_declaration_reason.nd rfl (.inl rfl))) (fun _ _ _ _ _ => pts_nil) (fun _ _ _ _ _ => (pe_chain op_le op_le (pe_glob (v := .int 2) rfl cc_LEAST_SIZE ⟨_, rfl⟩) (pv 9) (pe_glob (v := .int 4) rfl cc_MOST_SIZE ⟨_, rfl⟩)))) pa_nil))))
      (pss_one (ps_ret pe_str))
      pss_nil)
      (pss_cons (ps_if (pt_val (pe_callB (cr_any rfl) (by rfl) T.z_any (by decide +kernel) (pa_cons (pe_lc (own := [("sizes", 11)]) (g := gName 11) (by rfl) sc_declaration_reason.nd (pi_list (pv 5)) (blkOk_by (own := [("sizes", 11)]) (N := ["variables", "procedures", "procedure_names", "scopes", "scope_names", "scope_sizes", "procedure", "scope", "name", "size", "names", "sizes"]) (sc := defScope s_declaration_reason) (by decide +kernel)) (fun _ _ _ _ _ => pg_name (i := 11) sc_declaration_reason.nd rfl (Or.inl rfl)) (fun _ _ _ _ _ => pts_nil) (fun _ _ _ _ _ => (pe_cmpR op_gt (pe_call G_product_of (hr.mono (by decide)) (by rfl) m_product_of k_product_of b_product_of .nil pass0 (pa_cons (pv 11) pa_nil)) (pe_glob (v := .int 64) rfl cc_MOST_SIGHTS ⟨_, rfl⟩) (nomark _)))) pa_nil)))
      (pss_one (ps_ret pe_str))
      pss_nil)
      (pss_cons (ps_if (pt_cmpR op_gt (pe_callB call_len_seq (by rfl) T.z_len (by decide +kernel) (pa_cons (pe_ix ix_tup (pe_ix ix_seq (pv 1) pe_int (fun _ _ => rfl)) pe_int (fun _ _ => rfl)) pa_nil)) pe_int (nomark _))
      (pss_one (ps_ret pe_str))
      pss_nil)
      (pss_one (ps_ret pe_str))))))))))), ?_⟩
  obtain ⟨a, xs, rfl, hq, ha⟩ := id hx
  have la := ha.1
  have o5 := ho.p5
  have o4 := ho.v4
  have dl := ho.decl.len
  -- procedure_names
  refine alt_seq rfl hq fun J G w gd => fun D1 n1 => lc_it w (fun i H' => Same H H' ∧ H' D1 = some (.lst (((g.ps.take i).map Pr.nm).map V.str))) ⟨same_new n1, upd_same⟩ (fun i H' _ h' => gd _ h'.1) ?_ ?_
  · rintro i x H1 H2 hi ⟨s1, hD⟩ ⟨rfl, hx⟩
    obtain ⟨p, ep, r, t1, t2, t3, rfl, hr, _⟩ := ha.at hx
    refine ⟨rfl, _, rfl, r, _, _, _, rfl, rfl, seqT_same s1 hr, p0, _, hD, ?_, same_mut s1 n1, ?_⟩
    · rw [List.length_map, List.length_map, List.length_take]
      exact small1000 (by omega)
    · rw [upd_same, map_take_at ep, List.map_append]
      rfl
  rintro H1 ⟨s1, hD1⟩
  rw [la, List.take_length] at hD1
  -- scopes
  refine alt_seq rfl (hq.same s1) fun J G w gd => fun D2 n2 => lc_it w (fun i H' => Same H1 H' ∧ ∃ rs, H' D2 = some (.lst rs) ∧ All2 (ScN K D2 H') rs ((g.ps.take i).map (scp g.vs))) ⟨same_new n2, [], upd_same, .nil⟩ (fun i H' _ h' => gd _ h'.1) ?_ ?_
  · rintro i x H2 H3 hi ⟨s2, rs, hD, hrs⟩ ⟨rfl, hx⟩
    obtain ⟨p, ep, hp⟩ := ha.at hx
    have mp := List.mem_of_getElem? ep
    have lr : rs.length = i := by rw [hrs.1, List.length_map, List.length_take]; omega
    refine ⟨rfl, _, rfl, _, rfl, v, x, g.vs, p, rfl, hv.same (s1.trans s2), hp.same (s1.trans s2), o4, ho.p3 p mp, ho.l33 p mp, fun l ws H4 s4 nl hl hw => ⟨rs, s4 _ _ hD, small1000 (by omega), same_mut (s2.trans s4) n2, rs ++ [.ref l], upd_same, ?_⟩⟩
    have nlD : l ≠ D2 := fun z => by
      subst z
      rw [hD] at nl
      cases nl
    rw [map_take_at ep]
    exact (hrs.imp fun _ _ h => (h.same s4).mut (s4 _ _ hD)).app (.one ⟨l, ws, rfl, nlD, (upd_ne nlD).trans hl, hw.imp fun _ _ => VrAt.mut (s4 _ _ hD)⟩)
  rintro H2 ⟨s2, rs, hD2, hrs⟩
  rw [la, List.take_length] at hrs
  have s12 := s1.trans s2
  have hD1 := s2 _ _ hD1
  have mapped : ∀ {β : Type} {f : Pr → β} {i : Nat} {y : β}, (g.ps.map f)[i]? = some y → ∃ p, g.ps[i]? = some p ∧ f p = y := fun {β f i y} e => by
    rw [List.getElem?_map] at e
    cases ep : g.ps[i]? with
    | none => rw [ep] at e; cases e
    | some p =>
      rw [ep] at e
      exact ⟨p, rfl, Option.some.inj e⟩
  have lrs : rs.length = g.ps.length := by rw [hrs.1, List.length_map]
  -- scope_names
  refine ⟨_, rfl, D2, rfl, ⟨_, SqL.of hD2⟩, fun D3 n3 => lc_it walk_list (fun i H' => Same H2 H' ∧ ∃ ns, H' D3 = some (.lst ns) ∧ All2 (LsN D3 H') ns ((g.ps.take i).map fun p => nmsV (scp g.vs p))) ⟨same_new n3, [], upd_same, .nil⟩ (fun i H' _ h' => SqL.of (h'.1 _ _ hD2)) ?_ ?_⟩
  · rintro i x H3 H4 hi ⟨s3, ns, hD, hns⟩ ⟨rfl, hx⟩
    obtain ⟨vs, evs, l, ws, rfl, nl, hl, hw⟩ := hrs.at hx
    obtain ⟨p, ep, rfl⟩ := mapped evs
    have mp := List.mem_of_getElem? ep
    have lp := dl p mp
    have lns : ns.length = i := by rw [hns.1, List.length_map, List.length_take]; omega
    refine ⟨rfl, _, rfl, l, rfl, ⟨_, SqL.of (s3 _ _ hl)⟩, fun D4 n4 => lc_it walk_list (fun j H' => Same H4 H' ∧ H' D4 = some (.lst (nmsV ((scp g.vs p).take j)))) ⟨same_new n4, upd_same⟩ (fun j H' _ h' => SqL.of (h'.1 _ _ (s3 _ _ hl))) ?_ ?_⟩
    · rintro j y H5 H6 hj ⟨s5, hD4⟩ ⟨rfl, hy⟩
      obtain ⟨vr, evr, t, rfl, ht⟩ := hw.at hy
      refine ⟨t, _, rfl, seqT_same (s3.trans s5) ht, rfl, _, _, rfl, _, _, rfl, rfl, rfl, _, rfl, _, hD4, ?_, same_mut s5 n4, ?_⟩
      · unfold nmsV
        rw [List.length_map, List.length_map, List.length_take]
        exact small1000 (by omega)
      · unfold nmsV
        rw [upd_same, map_take_at evr, List.map_append]
        rfl
    · rintro H5 ⟨s5, hD4⟩
      have nDD : D4 ≠ D3 := (ne_of_none hD n4).symm
      rw [hw.1, List.take_length] at hD4
      refine ⟨ns, s5 _ _ hD, small1000 (by omega), same_mut (s3.trans s5) n3, ns ++ [.ref D4], upd_same, ?_⟩
      rw [map_take_at ep]
      exact (hns.imp fun _ _ h => (h.same s5).mut).app (.one ⟨D4, rfl, nDD, (upd_ne nDD).trans hD4⟩)
  rintro H3 ⟨s3, ns, hD3, hns⟩
  rw [lrs, List.take_length] at hns
  have s13 := s12.trans s3
  have hD1 := s3 _ _ hD1
  have hD2 := s3 _ _ hD2
  have hrs := hrs.imp fun _ _ h => h.same s3
  have lns : ns.length = g.ps.length := by rw [hns.1, List.length_map]
  -- scope_sizes
  refine ⟨_, rfl, D2, rfl, ⟨_, SqL.of hD2⟩, fun D5 n5 => lc_it walk_list (fun i H' => Same H3 H' ∧ ∃ zs, H' D5 = some (.lst zs) ∧ All2 (LsN D5 H') zs ((g.ps.take i).map fun p => szsV (scp g.vs p))) ⟨same_new n5, [], upd_same, .nil⟩ (fun i H' _ h' => SqL.of (h'.1 _ _ hD2)) ?_ ?_⟩
  · rintro i x H4 H5 hi ⟨s4, zs, hD, hzs⟩ ⟨rfl, hx⟩
    obtain ⟨vs, evs, l, ws, rfl, nl, hl, hw⟩ := hrs.at hx
    obtain ⟨p, ep, rfl⟩ := mapped evs
    have mp := List.mem_of_getElem? ep
    have lp := dl p mp
    have lzs : zs.length = i := by rw [hzs.1, List.length_map, List.length_take]; omega
    refine ⟨rfl, _, rfl, l, rfl, ⟨_, SqL.of (s4 _ _ hl)⟩, fun D4 n4 => lc_it walk_list (fun j H' => Same H5 H' ∧ H' D4 = some (.lst (szsV ((scp g.vs p).take j)))) ⟨same_new n4, upd_same⟩ (fun j H' _ h' => SqL.of (h'.1 _ _ (s4 _ _ hl))) ?_ ?_⟩
    · rintro j y H6 H7 hj ⟨s6, hD4⟩ ⟨rfl, hy⟩
      obtain ⟨vr, evr, t, rfl, ht⟩ := hw.at hy
      refine ⟨t, _, rfl, seqT_same (s4.trans s6) ht, rfl, _, _, rfl, _, _, rfl, rfl, rfl, _, rfl, _, hD4, ?_, same_mut s6 n4, ?_⟩
      · unfold szsV
        rw [List.length_map, List.length_map, List.length_take]
        exact small1000 (by omega)
      · unfold szsV
        rw [upd_same, map_take_at evr, List.map_append]
        rfl
    · rintro H6 ⟨s6, hD4⟩
      have nDD : D4 ≠ D5 := (ne_of_none hD n4).symm
      rw [hw.1, List.take_length] at hD4
      refine ⟨zs, s6 _ _ hD, small1000 (by omega), same_mut (s4.trans s6) n5, zs ++ [.ref D4], upd_same, ?_⟩
      rw [map_take_at ep]
      exact (hzs.imp fun _ _ h => (h.same s6).mut).app (.one ⟨D4, rfl, nDD, (upd_ne nDD).trans hD4⟩)
  rintro H4 ⟨s4, zs, hD5, hzs⟩
  rw [lrs, List.take_length] at hzs
  have s14 := s13.trans s4
  have hD1 := s4 _ _ hD1
  have hD3 := s4 _ _ hD3
  have hns := hns.imp fun _ _ h => h.same s4
  have lzs : zs.length = g.ps.length := by rw [hzs.1, List.length_map]
  -- all names, list by list
  have AN : All2 (fun x (ys : List Str) => ∃ p, x = V.ref p ∧ H4 p = some (.lst (ys.map V.str))) (.ref D1 :: ns) (g.ps.map Pr.nm :: g.ps.map fun p => (scp g.vs p).map Vr.nm) := by
    refine All2.app (xs := [_]) (ys := [_]) (.one ⟨D1, rfl, hD1⟩) ⟨by rw [lns, List.length_map], fun i x y hx hy => ?_⟩
    obtain ⟨p, ep, rfl⟩ := mapped hy
    obtain ⟨r, e1, _, e3⟩ := hns.2 i x (nmsV (scp g.vs p)) hx (by rw [List.getElem?_map, ep]; rfl)
    exact ⟨r, e1, e3⟩
  have AL : ∀ ys ∈ (g.ps.map Pr.nm :: g.ps.map fun p => (scp g.vs p).map Vr.nm), ys.length ≤ 10 ∧ ys.Nodup ∧ ∀ z ∈ ys, NmOk z := fun ys hy => by
    rcases List.mem_cons.mp hy with rfl | hy
    · refine ⟨by rw [List.length_map]; omega, ho.pd, fun z hz => ?_⟩
      obtain ⟨p, hp, rfl⟩ := List.mem_map.mp hz
      exact ho.pn p hp
    · obtain ⟨p, hp, rfl⟩ := List.mem_map.mp hy
      refine ⟨by rw [List.length_map]; exact dl p hp, ho.vd p hp, fun z hz => ?_⟩
      obtain ⟨u, hu, rfl⟩ := List.mem_map.mp hz
      exact ho.vn p hp u hu
  generalize hNS : (g.ps.map Pr.nm :: g.ps.map fun p => (scp g.vs p).map Vr.nm) = NS at AN AL
  have lAN : (V.ref D1 :: ns).length ≤ 6 := by
    rw [List.length_cons]
    omega
  -- is_name of each
  refine ⟨_, rfl, by show 1 ≤ sizeLine; decide, fun l0 m0 => ⟨_, rfl, l0, D3, _, _, rfl, rfl, upd_same, same_new m0 _ _ hD3, line_small (by rw [List.length_cons, List.length_nil]; omega), fun L mL => ⟨L, rfl, ⟨_, SqL.of upd_same⟩, fun D6 n6 => ?_⟩⟩⟩
  have sL : Same H4 (upd (upd H4 l0 (.lst [.ref D1])) L (.lst ([.ref D1] ++ ns))) := (same_new m0).trans (same_new mL)
  have hL : (upd (upd H4 l0 (.lst [.ref D1])) L (.lst ([.ref D1] ++ ns))) L = some (.lst (.ref D1 :: ns)) := upd_same
  generalize upd (upd H4 l0 (.lst [.ref D1])) L (.lst ([.ref D1] ++ ns)) = HL at sL hL n6 ⊢
  refine two_out (walk_list (xs := .ref D1 :: ns)) (fun i H' => Same HL H' ∧ ∃ n, H' D6 = some (.lst ((List.replicate n true).map V.bl)) ∧ n ≤ 10 * i) ⟨same_new n6, 0, upd_same, Nat.zero_le _⟩ (fun i H' _ h' => SqL.of (h'.1 _ _ hL)) ?_ ?_
  · rintro i x H5 H6 hi ⟨s5, n, hD, hn⟩ ⟨rfl, hx⟩
    obtain ⟨ys, ey, p, rfl, hp⟩ := AN.at hx
    obtain ⟨l10, nd, ok⟩ := AL ys (List.mem_of_getElem? ey)
    have hp6 := s5 _ _ (sL _ _ hp)
    have i6 : i < 6 := by omega
    refine ⟨rfl, ⟨_, rfl, p, rfl, ⟨_, SqL.of hp6⟩, ?_⟩⟩
    show Exists _
    refine two_out (walk_list (xs := ys.map V.str)) (fun j H' => Same HL H' ∧ ∃ n, H' D6 = some (.lst ((List.replicate n true).map V.bl)) ∧ n ≤ 10 * i + j) ⟨s5, n, hD, by omega⟩ (fun j H' _ h' => SqL.of (h'.1 _ _ (sL _ _ hp))) ?_ ?_
    · rintro j y H7 H8 hj ⟨s7, n7, hD7, hn7⟩ ⟨rfl, hy⟩
      rw [List.getElem?_map] at hy
      cases ez : ys[j]? with
      | none => rw [ez] at hy; cases hy
      | some z =>
      rw [ez] at hy
      cases hy
      have hj10 : j < ys.length := (List.getElem?_eq_some_iff.mp ez).1
      refine ⟨rfl, _, rfl, z, rfl, ok z (List.mem_of_getElem? ez), fun H9 s9 => ⟨_, s9 _ _ hD7, ?_, same_mut (s7.trans s9) n6, n7 + 1, ?_, by omega⟩⟩
      · rw [List.length_map, List.length_replicate]
        exact small1000 (by omega)
      · rw [upd_same, List.replicate_succ', List.map_append]
        rfl
    · rintro H7 ⟨s7, n7, hD7, hn7⟩
      refine ⟨s7, n7, hD7, ?_⟩
      rw [List.length_map] at hn7
      omega
  · rintro H5 ⟨s5, n, hD, hn⟩
    refine ⟨D6, _, rfl, SqL.of hD, _, rfl, ?_⟩
    rw [all_true]
    refine iteF ?_
    have s45 := sL.trans s5
    -- no name twice
    refine ⟨_, rfl, by show 1 ≤ sizeLine; decide, fun l1 m1 => ⟨_, rfl, l1, D3, _, _, rfl, rfl, upd_same, same_new m1 _ _ (s45 _ _ hD3), line_small (by rw [List.length_cons, List.length_nil]; omega), fun Lb mLb => ⟨Lb, rfl, ⟨_, SqL.of upd_same⟩, fun D7 n7 => ?_⟩⟩⟩
    have sM : Same H4 (upd (upd H5 l1 (.lst [.ref D1])) Lb (.lst ([.ref D1] ++ ns))) := (s45.trans (same_new m1)).trans (same_new mLb)
    have hM : (upd (upd H5 l1 (.lst [.ref D1])) Lb (.lst ([.ref D1] ++ ns))) Lb = some (.lst (.ref D1 :: ns)) := upd_same
    generalize upd (upd H5 l1 (.lst [.ref D1])) Lb (.lst ([.ref D1] ++ ns)) = HM at sM hM n7 ⊢
    refine lc_it (walk_list (xs := .ref D1 :: ns)) (fun i H' => Same HM H' ∧ H' D7 = some (.lst ((List.replicate i false).map V.bl))) ⟨same_new n7, upd_same⟩ (fun i H' _ h' => SqL.of (h'.1 _ _ hM)) ?_ ?_
    · rintro i x H6 H7 hi ⟨s6, hD6⟩ ⟨rfl, hx⟩
      obtain ⟨ys, ey, p, rfl, hp⟩ := AN.at hx
      obtain ⟨l10, nd, ok⟩ := AL ys (List.mem_of_getElem? ey)
      have hp7 := s6 _ _ (sM _ _ hp)
      refine ⟨rfl, _, rfl, p, ys, rfl, SqL.of hp7, by omega, _, rfl, p, _, rfl, .inl (SqL.of hp7), ?_⟩
      refine ⟨_, _, rfl, rfl, ?_⟩
      refine ⟨_, hD6, ?_, same_mut s6 n7, ?_⟩
      · rw [List.length_map, List.length_replicate]
        exact small1000 (by omega)
      · rw [upd_same, List.replicate_succ', List.map_append]
        exact congrArg (fun z => some (HO.lst (List.map V.bl (List.replicate i false) ++ [V.bl z]))) (decide_eq_false (by rw [fresh1_nodup nd _ (Nat.le_refl _), List.length_map]; omega))
    · rintro H6 ⟨s6, hD6⟩
      refine ⟨D7, _, rfl, SqL.of hD6, _, rfl, ?_⟩
      rw [any_false]
      refine iteF ?_
      have s46 := sM.trans s6
      -- sizes
      have AZ : All2 (fun x (p : Pr) => ∃ r, x = V.ref r ∧ H6 r = some (.lst (szsV (scp g.vs p)))) zs g.ps := ⟨lzs, fun i x p hx hp => by
        obtain ⟨r, e1, _, e3⟩ := hzs.2 i x (szsV (scp g.vs p)) hx (by rw [List.getElem?_map, hp]; rfl)
        exact ⟨r, e1, s46 _ _ e3⟩⟩
      have hD56 := s46 _ _ hD5
      refine ⟨_, rfl, D5, rfl, ⟨_, SqL.of hD56⟩, fun D8 n8 => ?_⟩
      refine two_out (walk_list (xs := zs)) (fun i H' => Same H6 H' ∧ ∃ n, H' D8 = some (.lst ((List.replicate n true).map V.bl)) ∧ n ≤ 10 * i) ⟨same_new n8, 0, upd_same, Nat.zero_le _⟩ (fun i H' _ h' => SqL.of (h'.1 _ _ hD56)) ?_ ?_
      · rintro i x H7 H8 hi ⟨s7, n, hD, hn⟩ ⟨rfl, hx⟩
        obtain ⟨p, ep, r, rfl, hr⟩ := AZ.at hx
        have mp := List.mem_of_getElem? ep
        have hr8 := s7 _ _ hr
        refine ⟨rfl, ⟨_, rfl, r, rfl, ⟨_, SqL.of hr8⟩, ?_⟩⟩
        show Exists _
        refine two_out (walk_list (xs := szsV (scp g.vs p))) (fun j H' => Same H6 H' ∧ ∃ n, H' D8 = some (.lst ((List.replicate n true).map V.bl)) ∧ n ≤ 10 * i + j) ⟨s7, n, hD, by omega⟩ (fun j H' _ h' => SqL.of (h'.1 _ _ hr)) ?_ ?_
        · rintro j y H9 H10 hj ⟨s9, n9, hD9, hn9⟩ ⟨rfl, hy⟩
          unfold szsV at hy hj
          rw [List.length_map, List.length_map] at hj
          rw [List.map_map, List.getElem?_map] at hy
          cases eu : (scp g.vs p)[j]? with
          | none => rw [eu] at hy; cases hy
          | some u =>
          rw [eu] at hy
          cases hy
          have mu := List.mem_of_getElem? eu
          have u2 := ho.s2 p mp u mu
          have u4 := ho.s4 p mp u mu
          have lp := dl p mp
          refine ⟨rfl, ?_⟩
          refine ⟨_, rfl, _, _, rfl, rfl, _, rfl, yes u2 ⟨_, _, rfl, rfl, ?_⟩⟩
          refine ⟨_, hD9, ?_, same_mut s9 n8, n9 + 1, ?_, by omega⟩
          · rw [List.length_map, List.length_replicate]
            exact small1000 (by omega)
          · rw [upd_same, List.replicate_succ', List.map_append]
            exact congrArg (fun z => some (HO.lst (List.map V.bl (List.replicate n9 true) ++ [V.bl z]))) (decide_eq_true u4)
        · rintro H9 ⟨s9, n9, hD9, hn9⟩
          refine ⟨s9, n9, hD9, ?_⟩
          have lp := dl p mp
          unfold szsV at hn9
          rw [List.length_map, List.length_map] at hn9
          omega
      · rintro H7 ⟨s7, n, hD, hn⟩
        refine ⟨D8, _, rfl, SqL.of hD, _, rfl, ?_⟩
        rw [all_true]
        refine iteF ?_
        have hD57 := s7 _ _ hD56
        -- sights
        refine ⟨_, rfl, D5, rfl, ⟨_, SqL.of hD57⟩, fun D9 n9 => lc_it (walk_list (xs := zs)) (fun i H' => Same H7 H' ∧ H' D9 = some (.lst ((List.replicate i false).map V.bl))) ⟨same_new n9, upd_same⟩ (fun i H' _ h' => SqL.of (h'.1 _ _ hD57)) ?_ ?_⟩
        · rintro i x H8 H9 hi ⟨s8, hD⟩ ⟨rfl, hx⟩
          obtain ⟨p, ep, r, rfl, hr⟩ := AZ.at hx
          have mp := List.mem_of_getElem? ep
          have hr8 := s8 _ _ (s7 _ _ hr)
          have lp := dl p mp
          have si := ho.si p mp
          refine ⟨rfl, _, rfl, r, (scp g.vs p).map Vr.sz, rfl, SqL.of hr8, by rw [List.length_map]; exact lp, fun z hz => ?_, ?_⟩
          · obtain ⟨u, hu, rfl⟩ := List.mem_map.mp hz
            have u2 := ho.s2 p mp u hu
            have u4 := ho.s4 p mp u hu
            omega
          refine ⟨_, _, rfl, rfl, ?_⟩
          refine ⟨_, hD, ?_, same_mut s8 n9, ?_⟩
          · rw [List.length_map, List.length_replicate]
            exact small1000 (by omega)
          · rw [upd_same, List.replicate_succ', List.map_append]
            exact congrArg (fun z => some (HO.lst (List.map V.bl (List.replicate i false) ++ [V.bl z]))) (decide_eq_false (by omega))
        · rintro H8 ⟨s8, hD⟩
          refine ⟨D9, _, rfl, SqL.of hD, _, rfl, ?_⟩
          rw [any_false]
          refine iteF ?_
          -- main
          have s08 := ((s14.trans s46).trans s7).trans s8
          have o1 := ho.p1
          have hx0 : xs[0]? = some xs[0] := List.getElem?_eq_getElem (by omega)
          obtain ⟨p, ep, r, t1, t2, t3, ex, hr, ⟨a1, x1, rfl, hq1, ha1⟩, _⟩ := ha.at hx0
          have e0 := ho.mn p ep
          have l1 := ha1.1
          rw [e0] at l1
          refine ⟨_, rfl, ix_seqV (hq.same s08) (atI_nat (j := 0) hx0) ?_⟩
          rw [ex]
          refine ⟨r, _, _, _, rfl, rfl, seqT_same s08 hr, p1, a1, _, rfl, hq1.same s08, _, _, rfl, rfl, _, rfl, nope (by rw [l1]; decide) ?_⟩
          exact q _ s08


end
end Pf

namespace Pf
open PySem PySem.Spec PyProof.Rows L2
section
variable {P : Program} {w : World} {K : PySem.W.Frag} {mg : Str → Option Value} {base : Heap}
variable {c : Nat → Addr}
def sp_letters_reason (K : PySem.W.Frag) : Sp := fun vs H Q _ => ∃ l a : Int, vs = [.int l, .int a] ∧ 1 ≤ l ∧ l ≤ 3 ∧ 2 ≤ a ∧ a ≤ 4 ∧ Q (.str Str.empty) H
theorem ok_letters_reason (T : Txt P K mg c) : Has P w K mg base 1 "letters_reason" ["letters", "answers"] (sp_letters_reason K) := by
  obtain ⟨f, fd, F, m, b⟩ := T.d_letters_reason.ex
  obtain ⟨tk_MOST_LETTERS, cc_MOST_LETTERS⟩ := T.c_MOST_LETTERS
  obtain ⟨tk_LEAST_ANSWERS, cc_LEAST_ANSWERS⟩ := T.c_LEAST_ANSWERS
  obtain ⟨tk_MOST_ANSWERS, cc_MOST_ANSWERS⟩ := T.c_MOST_ANSWERS
  refine ⟨f, fd, F.ok sc_letters_reason (fun vs H Q E h => ?_) (fun cdv A outer s H vs Q E hr h => ?_), m, F.kp, b⟩
  · obtain ⟨l, a, rfl, h1, h2, h3, h4, q⟩ := h
    rfl
  obtain ⟨l, a, rfl, h1, h2, h3, h4, q⟩ := h
  refine ⟨_, (pss_cons (ps_if (pt_not (pt_chain op_le op_le pe_int (pv 0) (pe_glob (v := .int 3) rfl cc_MOST_LETTERS ⟨_, rfl⟩)))
      (pss_one (ps_ret pe_str))
      pss_nil)
      (pss_cons (ps_if (pt_not (pt_chain op_le op_le (pe_glob (v := .int 2) rfl cc_LEAST_ANSWERS ⟨_, rfl⟩) (pv 1) (pe_glob (v := .int 4) rfl cc_MOST_ANSWERS ⟨_, rfl⟩)))
      (pss_one (ps_ret pe_str))
      pss_nil)
      (pss_one (ps_ret pe_str)))), ?_⟩
  refine ⟨_, rfl, _, _, rfl, rfl, _, rfl, yes h1 ⟨_, _, rfl, rfl, _, rfl, nyes h2 ?_⟩⟩
  refine ⟨_, rfl, _, _, rfl, rfl, _, rfl, yes h3 ⟨_, _, rfl, rfl, _, rfl, nyes h4 ?_⟩⟩
  exact q
theorem loc_exs {l : Int} {sc : List Vr} {ps : List Pr} (h3 : ∀ p ∈ ps, p.ps.length ≤ 3) : ∀ {s : St}, s.Loc l sc ps → ExsOk s ∧ (∀ e ∈ s.exs, e.N9) ∧ ∀ e ∈ s.exs, e.In (sc.map Vr.nm)
  | .set v e, h => ⟨⟨by simp [St.exs], fun x hx => by rcases List.mem_singleton.mp hx with rfl; exact h.2.d5⟩, fun x hx => by rcases List.mem_singleton.mp hx with rfl; exact h.2.n9, fun x hx => by rcases List.mem_singleton.mp hx with rfl; exact h.2.nm⟩
  | .read v, h => ⟨⟨by simp [St.exs], fun x hx => nomatch hx⟩, (fun x hx => nomatch hx), fun x hx => nomatch hx⟩
  | .write e, h => ⟨⟨by simp [St.exs], fun x hx => by rcases List.mem_singleton.mp hx with rfl; exact Ex.Gd.d5 h⟩, fun x hx => by rcases List.mem_singleton.mp hx with rfl; exact Ex.Gd.n9 h, fun x hx => by rcases List.mem_singleton.mp hx with rfl; exact Ex.Gd.nm h⟩
  | .ifs e _ _, h => ⟨⟨by simp [St.exs], fun x hx => by rcases List.mem_singleton.mp hx with rfl; exact Ex.Gd.d5 h⟩, fun x hx => by rcases List.mem_singleton.mp hx with rfl; exact Ex.Gd.n9 h, fun x hx => by rcases List.mem_singleton.mp hx with rfl; exact Ex.Gd.nm h⟩
  | .whi e _, h => ⟨⟨by simp [St.exs], fun x hx => by rcases List.mem_singleton.mp hx with rfl; exact Ex.Gd.d5 h⟩, fun x hx => by rcases List.mem_singleton.mp hx with rfl; exact Ex.Gd.n9 h, fun x hx => by rcases List.mem_singleton.mp hx with rfl; exact Ex.Gd.nm h⟩
  | .call p as, h => by
    obtain ⟨⟨q, hq, _, hl⟩, ha⟩ := h
    have := h3 q (List.mem_of_mem_tail hq)
    exact ⟨⟨by show as.length ≤ 10; omega, fun x hx => (ha x hx).d5⟩, fun x hx => (ha x hx).n9, fun x hx => (ha x hx).nm⟩
  | .skip, h => ⟨⟨by simp [St.exs], fun x hx => nomatch hx⟩, (fun x hx => nomatch hx), fun x hx => nomatch hx⟩
theorem sum_take_le (ns : List Nat) (i : Nat) : (ns.take i).sum ≤ ns.sum := by
  have h : ns.sum = (ns.take i).sum + (ns.drop i).sum := by rw [← List.sum_append, List.take_append_drop]
  omega
theorem sum_mem {ns : List Nat} {n : Nat} (h : n ∈ ns) : n ≤ ns.sum := by
  induction ns with
  | nil => exact nomatch h
  | cons m ns ih =>
    rw [List.sum_cons]
    rcases List.mem_cons.mp h with rfl | h
    · omega
    · have := ih h
      omega
/-- an expression that is not too deep -/
def ExAt (K : PySem.W.Frag) (H : Hp) (x : V) : Prop := ∃ e : Ex, Dp K H x e.d ∧ e.depth ≤ 5
theorem ExAt.same {K : PySem.W.Frag} {H H' : Hp} {x : V} (s : Same H H') (h : ExAt K H x) : ExAt K H' x := let ⟨e, h1, h2⟩ := h; ⟨e, dp_same s h1, h2⟩
theorem ExAt.mut {K : PySem.W.Frag} {H : Hp} {x : V} {D : Addr} {zs : List V} {o : HO} (e : H D = some (.lst zs)) (h : ExAt K H x) : ExAt K (upd H D o) x := let ⟨a, h1, h2⟩ := h; ⟨a, dp_mut e 6 (tup_ex h2) h1, h2⟩
theorem ExAt.frl {K : PySem.W.Frag} {H H' : Hp} {x : V} {D : Addr} {zs : List V} (e : H D = some (.lst zs)) (f : Fr D H H') (h : ExAt K H x) : ExAt K H' x := let ⟨a, h1, h2⟩ := h; ⟨a, dp_frl e f 6 (tup_ex h2) h1, h2⟩
theorem SdAt.fl {K : PySem.W.Frag} {H0 H H' : Hp} {x : V} {p : St × Nat} {D : Addr} {zs : List V} (e : H D = some (.lst zs)) (f : Fr D H H') (h : SdAt K H0 H x p) : SdAt K H0 H' x p := let ⟨t, y, h1, h2, h3⟩ := h; ⟨t, y, h1, seqT_frl e f h2, h3⟩
def sp_shape_reason (K : PySem.W.Frag) : Sp := fun us H Q _ => ∃ (x : V) (g : Pg), us = [x] ∧ PrsAt K H x g.ps ∧ g.Ok ∧ ∀ H', Same H H' → Q (.str Str.empty) H'
theorem ok_shape_reason (T : Txt P K mg c) : Has P w K mg base 7 "shape_reason" ["procedures"] (sp_shape_reason K) := by
  obtain ⟨f, fd, F, m, b⟩ := T.d_shape_reason.ex
  obtain ⟨tk_MOST_STATEMENTS, cc_MOST_STATEMENTS⟩ := T.c_MOST_STATEMENTS
  obtain ⟨tk_MOST_NESTING, cc_MOST_NESTING⟩ := T.c_MOST_NESTING
  obtain ⟨tk_MOST_DEPTH, cc_MOST_DEPTH⟩ := T.c_MOST_DEPTH
  obtain ⟨f_statements_of, fd_statements_of, G_statements_of, m_statements_of, k_statements_of, b_statements_of⟩ := ok_statements_of (P := P) (w := w) (base := base) T
  obtain ⟨f_expressions_of, fd_expressions_of, G_expressions_of, m_expressions_of, k_expressions_of, b_expressions_of⟩ := ok_expressions_of (P := P) (w := w) (base := base) T
  obtain ⟨f_is_deeper, fd_is_deeper, G_is_deeper, m_is_deeper, k_is_deeper, b_is_deeper⟩ := ok_is_deeper (P := P) (w := w) (base := base) T 5
  refine ⟨f, fd, F.ok sc_shape_reason (fun vs H Q E h => ?_) (fun cdv A outer s H vs Q E hr h => ?_), m, F.kp, b⟩
  · obtain ⟨x, g, rfl, hx, ho, q⟩ := h
    rfl
  obtain ⟨x, g, rfl, hx, ho, q⟩ := h
  refine ⟨_, (pss_cons (ps_setLc2 (i := 1) (own := [("procedure", 3), ("pair", 4)]) (vs1 := [4]) (g := gName 3) (g1 := gName 4) (by rfl) sc_shape_reason.nd rfl rfl (sw_true rfl rfl rfl (by decide +kernel)) (pi_alt (pi_list (pv 0)) (pi_tup (pv 0))) (blkOk_by (own := [("procedure", 3), ("pair", 4)]) (N := ["procedures", "found", "expressions", "procedure", "pair", "statement", "depth", "expression"]) (sc := defScope s_shape_reason) (by decide +kernel)) (by decide) (fun _ _ _ _ _ => (pg_name (i := 3) sc_shape_reason.nd rfl (.inl rfl))) (fun _ _ _ _ _ => pts_nil) (fun _ _ _ _ _ => (pi_listK (K := K) rfl (pe_call G_statements_of (hr.mono (by decide)) (by rfl) m_statements_of k_statements_of b_statements_of .nil pass0 (pa_cons (pe_ix (ix_tupK (K := K) rfl) (pv 3) pe_int (fun _ _ => rfl)) pa_nil)))) (fun _ _ _ _ _ => (pg_name (i := 4) sc_shape_reason.nd rfl (.inl rfl))) (fun _ _ _ _ _ => pts_nil) (fun _ _ _ _ _ => (pv 4)))
      (pss_cons (ps_if (pt_cmpR op_gt (pe_callB call_len_seq (by rfl) T.z_len (by decide +kernel) (pa_cons (pv 1) pa_nil)) (pe_glob (v := .int 60) rfl cc_MOST_STATEMENTS ⟨_, rfl⟩) (nomark _))
      (pss_one (ps_ret pe_str))
      pss_nil)
      (pss_cons (ps_if (pt_val (pe_callB (cr_any rfl) (by rfl) T.z_any (by decide +kernel) (pa_cons (pe_lc (own := [("statement", 5), ("depth", 6)]) (by rfl) sc_shape_reason.nd (pi_list (pv 1)) (blkOk_by (own := [("statement", 5), ("depth", 6)]) (N := ["procedures", "found", "expressions", "procedure", "pair", "statement", "depth", "expression"]) (sc := defScope s_shape_reason) (by decide +kernel)) (fun _ _ _ _ _ => (pg_tupK (K := K) (n := 2) rfl rfl (pgs_cons (pg_name (i := 5) sc_shape_reason.nd rfl (.inl rfl)) (pgs_cons (pg_name (i := 6) sc_shape_reason.nd rfl (.inl rfl)) pgs_nil)))) (fun _ _ _ _ _ => pts_nil) (fun _ _ _ _ _ => (pe_cmpR op_gt (pv 6) (pe_glob (v := .int 6) rfl cc_MOST_NESTING ⟨_, rfl⟩) (nomark _)))) pa_nil)))
      (pss_one (ps_ret pe_str))
      pss_nil)
      (pss_cons (ps_setLc2 (i := 2) (own := [("statement", 5), ("depth", 6), ("expression", 7)]) (vs1 := [7]) (g1 := gName 7) (by rfl) sc_shape_reason.nd rfl rfl (sw_true rfl rfl rfl (by decide +kernel)) (pi_list (pv 1)) (blkOk_by (own := [("statement", 5), ("depth", 6), ("expression", 7)]) (N := ["procedures", "found", "expressions", "procedure", "pair", "statement", "depth", "expression"]) (sc := defScope s_shape_reason) (by decide +kernel)) (by decide) (fun _ _ _ _ _ => (pg_tupK (K := K) (n := 2) rfl rfl (pgs_cons (pg_name (i := 5) sc_shape_reason.nd rfl (.inl rfl)) (pgs_cons (pg_name (i := 6) sc_shape_reason.nd rfl (.inl rfl)) pgs_nil)))) (fun _ _ _ _ _ => pts_nil) (fun _ _ _ _ _ => (pi_tupK (K := K) rfl (pe_call G_expressions_of (hr.mono (by decide)) (by rfl) m_expressions_of k_expressions_of b_expressions_of .nil pass0 (pa_cons (pv 5) pa_nil)))) (fun _ _ _ _ _ => (pg_name (i := 7) sc_shape_reason.nd rfl (.inl rfl))) (fun _ _ _ _ _ => pts_nil) (fun _ _ _ _ _ => (pv 7)))
      (pss_cons (ps_if (pt_val (pe_callB (cr_any rfl) (by rfl) T.z_any (by decide +kernel) (pa_cons (pe_lc (own := [("expression", 7)]) (g := gName 7) (by rfl) sc_shape_reason.nd (pi_list (pv 2)) (blkOk_by (own := [("expression", 7)]) (N := ["procedures", "found", "expressions", "procedure", "pair", "statement", "depth", "expression"]) (sc := defScope s_shape_reason) (by decide +kernel)) (fun _ _ _ _ _ => pg_name (i := 7) sc_shape_reason.nd rfl (Or.inl rfl)) (fun _ _ _ _ _ => pts_nil) (fun _ _ _ _ _ => (pe_call G_is_deeper (hr.mono (by decide)) (by rfl) m_is_deeper k_is_deeper b_is_deeper .nil pass0 (pa_cons (pv 7) (pa_cons (pe_glob (v := .int 5) rfl cc_MOST_DEPTH ⟨_, rfl⟩) pa_nil))))) pa_nil)))
      (pss_one (ps_ret pe_str))
      pss_nil)
      (pss_one (ps_ret pe_str))))))), ?_⟩
  obtain ⟨a, xs, rfl, hq, ha⟩ := id hx
  have la := ha.1
  have o5 := ho.p5
  have sn := ho.sn
  let ns := g.ps.map fun p => cntB p.bd
  have el : ∀ p ∈ g.ps, allB (fun d s => d ≤ 6 ∧ ExsOk s) 1 p.bd := fun p hp => allB_imp (fun d s h => ⟨h.1, (loc_exs ho.p3 h.2).1⟩) _ _ (ho.sb p hp)
  refine alt_seq rfl hq fun J G w gd => fun D nD => two_out w (fun i H' => Same H H' ∧ ∃ acc dn, H' D = some (.lst acc) ∧ All2 (SdAt K H H') acc dn ∧ dn.length = (ns.take i).sum ∧ ∀ p ∈ dn, p.2 ≤ 6 ∧ ExsOk p.1) ⟨same_new nD, [], [], upd_same, .nil, rfl, fun x h => nomatch h⟩ (fun i H' _ h' => gd _ h'.1) ?_ ?_
  · rintro i x H1 H2 hi ⟨s1, acc, dn, hD, hacc, lc, hdn⟩ ⟨rfl, hx⟩
    obtain ⟨p, ep, r, t1, t2, t3, rfl, hr, _, _, hb⟩ := ha.at hx
    have mp := List.mem_of_getElem? ep
    have enp : ns[i]? = some (cntB p.bd) := by show (g.ps.map fun p => cntB p.bd)[i]? = _; rw [List.getElem?_map, ep]; rfl
    have cp : cntB p.bd ≤ ns.sum := sum_mem (List.mem_of_getElem? enp)
    have st : (ns.take (i + 1)).sum ≤ ns.sum := sum_take_le ns _
    rw [take_succ_at enp, List.sum_append] at st
    have st : (ns.take i).sum + cntB p.bd ≤ ns.sum := by simpa using st
    have sn' : ns.sum ≤ 60 := sn
    refine ⟨rfl, _, rfl, r, _, _, _, rfl, rfl, seqT_same s1 hr, p3, t3, p.bd, fun d s => d ≤ 6 ∧ ExsOk s, H, rfl, s1, hb, by omega, el p mp, fun l ws dn2 H3 s3 nl hl hw hP hn => ⟨l, rfl, ⟨_, SqL.of hl⟩, ?_⟩⟩
    have nlD : l ≠ D := (ne_of_none hD nl).symm
    have hD3 := s3 _ _ hD
    have lw := hw.1
    have la2 := hacc.1
    show Exists _
    refine two_out (walk_list (xs := ws)) (fun j H' => Fr D H3 H' ∧ Same H H' ∧ ∃ acc, H' D = some (.lst acc) ∧ All2 (SdAt K H H') acc (dn ++ dn2.take j)) ⟨Fr.refl _ _, s1.trans s3, acc, hD3, by rw [List.take_zero, List.append_nil]; exact hacc.imp fun _ _ h => h.same s3⟩ (fun j H' _ h' => h'.1.seq nlD (SqL.of hl)) ?_ ?_
    · rintro j y H5 H6 hj ⟨f5, s5, acc5, hD5, h5⟩ ⟨rfl, hy⟩
      obtain ⟨p2, ep2, hp2⟩ := hw.at hy
      have l5 := h5.1
      rw [List.length_append, List.length_take] at l5
      refine ⟨rfl, _, rfl, acc5, hD5, small1000 (by omega), f5.trans Fr.upd, same_mut s5 nD, acc5 ++ [y], upd_same, ?_⟩
      rw [take_succ_at ep2, ← List.append_assoc]
      exact (h5.imp fun _ _ h => h.mut hD5).app (.one ((hp2.fl hD3 f5).mut hD5))
    · rintro H5 ⟨f5, s5, acc5, hD5, h5⟩
      rw [lw, List.take_length] at h5
      refine ⟨s5, acc5, dn ++ dn2, hD5, h5, ?_, fun p' hp' => ?_⟩
      · rw [List.length_append, lc, hn, take_succ_at enp, List.sum_append]
        simp
      · rcases List.mem_append.mp hp' with h | h
        · exact hdn p' h
        · exact hP p' h
  rintro H1 ⟨s1, acc, dn, hD, hacc, lc, hdn⟩
  have lns : ns.length = g.ps.length := List.length_map ..
  rw [la, ← lns, List.take_length] at lc
  have l60 : acc.length ≤ 60 := by rw [hacc.1, lc]; exact sn
  refine ⟨_, rfl, D, acc, rfl, .inl (SqL.of hD), _, _, rfl, rfl, _, rfl, nope (by omega) ?_⟩
  refine ⟨_, rfl, D, rfl, ⟨_, SqL.of hD⟩, fun D2 n2 => lc_it (walk_list (xs := acc)) (fun i H' => Same H1 H' ∧ H' D2 = some (.lst ((List.replicate i false).map V.bl))) ⟨same_new n2, upd_same⟩ (fun i H' _ h' => SqL.of (h'.1 _ _ hD)) ?_ ?_⟩
  · rintro i x H2 H3 hi ⟨s2, hD2⟩ ⟨rfl, hx⟩
    obtain ⟨p, ep, t, y, rfl, ht, hy⟩ := hacc.at hx
    have h6 := (hdn p (List.mem_of_getElem? ep)).1
    refine ⟨t, _, rfl, seqT_same s2 ht, rfl, _, _, rfl, _, _, rfl, rfl, rfl, _, rfl, _, _, rfl, rfl, _, hD2, ?_, same_mut s2 n2, ?_⟩
    · rw [List.length_map, List.length_replicate]
      exact small1000 (by omega)
    · rw [upd_same, List.replicate_succ', List.map_append]
      exact congrArg (fun b => some (HO.lst (_ ++ [V.bl b]))) (decide_eq_false (show ¬ ((6 : Int) < (p.2 : Int)) by omega))
  rintro H2 ⟨s2, hD2⟩
  refine ⟨D2, _, rfl, SqL.of hD2, _, rfl, ?_⟩
  rw [any_false]
  refine iteF ?_
  have hDx := s2 _ _ hD
  refine ⟨_, rfl, D, rfl, ⟨_, SqL.of hDx⟩, fun D3 n3 => two_out (walk_list (xs := acc)) (fun i H' => Same H2 H' ∧ ∃ es, H' D3 = some (.lst es) ∧ es.length ≤ 10 * i ∧ ∀ x ∈ es, ExAt K H' x) ⟨same_new n3, [], upd_same, Nat.zero_le _, fun x h => nomatch h⟩ (fun i H' _ h' => SqL.of (h'.1 _ _ hDx)) ?_ ?_⟩
  · rintro i x H3 H4 hi ⟨s3, es, hD3, le, hes⟩ ⟨rfl, hx⟩
    obtain ⟨p, ep, t, y, rfl, ht, hy⟩ := hacc.at hx
    have he := (hdn p (List.mem_of_getElem? ep)).2
    have s23 := s2.trans s3
    refine ⟨t, _, rfl, seqT_same s23 ht, rfl, _, _, rfl, _, _, rfl, rfl, rfl, _, rfl, y, p.1, rfl, hy.same (s1.trans s23), fun te xs2 H5 s5 hte hx2 => ⟨te, rfl, ⟨_, hte⟩, ?_⟩⟩
    have lx2 := dpa_len hx2
    rw [List.length_map] at lx2
    have l10 := he.ln
    show Exists _
    refine two_out (walk_tup (xs := xs2)) (fun j H' => Fr D3 H5 H' ∧ Same H2 H' ∧ ∃ es, H' D3 = some (.lst es) ∧ es.length ≤ 10 * i + j ∧ ∀ x ∈ es, ExAt K H' x) ⟨Fr.refl _ _, s3.trans s5, es, s5 _ _ hD3, le, fun x h => (hes x h).same s5⟩ (fun j H' _ h' => seqT_frl (s5 _ _ hD3) h'.1 hte) ?_ ?_
    · rintro j z H6 H7 hj ⟨f6, s6, es6, hD6, l6, h6⟩ ⟨rfl, hz⟩
      obtain ⟨d, ed, hd⟩ := dpa_getx' hx2 hz
      rw [List.getElem?_map] at ed
      cases ee : p.1.exs[j]? with
      | none => rw [ee] at ed; cases ed
      | some e =>
      rw [ee] at ed
      cases ed
      have e5 := he.d5 e (List.mem_of_getElem? ee)
      refine ⟨rfl, _, rfl, es6, hD6, small1000 (by omega), f6.trans Fr.upd, same_mut s6 n3, es6 ++ [z], upd_same, ?_, fun x hx => ?_⟩
      · rw [List.length_append]
        show es6.length + 1 ≤ _
        omega
      · rcases List.mem_append.mp hx with hx | hx
        · exact (h6 x hx).mut hD6
        · rcases List.mem_singleton.mp hx with rfl
          exact ExAt.mut hD6 (ExAt.frl (s5 _ _ hD3) f6 ⟨e, hd, e5⟩)
    · rintro H6 ⟨f6, s6, es6, hD6, l6, h6⟩
      exact ⟨s6, es6, hD6, by omega, h6⟩
  rintro H3 ⟨s3, es, hD3, le, hes⟩
  refine ⟨_, rfl, D3, rfl, ⟨_, SqL.of hD3⟩, fun D4 n4 => lc_it (walk_list (xs := es)) (fun i H' => Same H3 H' ∧ H' D4 = some (.lst ((List.replicate i false).map V.bl))) ⟨same_new n4, upd_same⟩ (fun i H' _ h' => SqL.of (h'.1 _ _ hD3)) ?_ ?_⟩
  · rintro i x H4 H5 hi ⟨s4, hD4⟩ ⟨rfl, hx⟩
    obtain ⟨e, he, h5⟩ := (hes x (List.mem_of_getElem? hx)).same s4
    refine ⟨rfl, _, rfl, x, e, 5, rfl, he, h5, fun H6 s6 => ⟨_, s6 _ _ hD4, ?_, same_mut (s4.trans s6) n4, ?_⟩⟩
    · rw [List.length_map, List.length_replicate]
      exact small1000 (by omega)
    · rw [upd_same, List.replicate_succ', List.map_append, decide_eq_false (show ¬ 5 < e.depth by omega)]
      rfl
  rintro H4 ⟨s4, hD4⟩
  refine ⟨D4, _, rfl, SqL.of hD4, _, rfl, ?_⟩
  rw [any_false]
  refine iteF ?_
  exact q _ (((s1.trans s2).trans s3).trans s4)
/-- the sizes of the variables in sight, as a dict -/
def KsOk (kvs : List (Key × V)) (vs : List Vr) : Prop := ∀ v ∈ vs, valV kvs (Sum.inr v.nm) = some (.int v.sz)
theorem ks_put {kvs : List (Key × V)} {vs : List Vr} {v : Vr} (h : KsOk kvs vs) (n : v.nm ∉ vs.map Vr.nm) : KsOk (putK kvs (Sum.inr v.nm) (.int v.sz)) (vs ++ [v]) := fun w hw => by
  rw [valV_put]
  rcases List.mem_append.mp hw with hw | hw
  · rw [if_neg (fun e => n (by rw [← Sum.inr.inj e]; exact List.mem_map.mpr ⟨w, hw, rfl⟩))]
    exact h w hw
  · rcases List.mem_singleton.mp hw with rfl
    rw [if_pos rfl]
def KmOk (kvs : List (Key × V)) (ps : List Pr) : Prop := ∀ p ∈ ps, valV kvs (Sum.inr p.nm) = some (.int (p.ps.length : Nat))
theorem km_put {kvs : List (Key × V)} {ps : List Pr} {p : Pr} (h : KmOk kvs ps) (n : p.nm ∉ ps.map Pr.nm) : KmOk (putK kvs (Sum.inr p.nm) (.int (p.ps.length : Nat))) (ps ++ [p]) := fun w hw => by
  rw [valV_put]
  rcases List.mem_append.mp hw with hw | hw
  · rw [if_neg (fun e => n (by rw [← Sum.inr.inj e]; exact List.mem_map.mpr ⟨w, hw, rfl⟩))]
    exact h w hw
  · rcases List.mem_singleton.mp hw with rfl
    rw [if_pos rfl]
theorem nodup_at {α β : Type} {f : α → β} {xs : List α} (n : (xs.map f).Nodup) {i : Nat} {x : α} (h : xs[i]? = some x) : f x ∉ (xs.take i).map f := fun m => by
  obtain ⟨y, hy, e⟩ := List.mem_map.mp m
  obtain ⟨j, hj, ej⟩ := List.getElem_of_mem hy
  rw [List.length_take] at hj
  have hi := (List.getElem?_eq_some_iff.mp h)
  obtain ⟨hi, ei⟩ := hi
  have ne := List.pairwise_iff_getElem.mp n j i (by rw [List.length_map]; omega) (by rw [List.length_map]; omega) (by omega)
  rw [List.getElem_map, List.getElem_map, ei] at ne
  rw [List.getElem_take] at ej
  rw [ej] at ne
  exact ne e
/-- a statement with what is in sight -/
def FdAt (K : PySem.W.Frag) (g : Pg) (He H : Hp) (x : V) : Prop := ∃ t y d s p kvs, x = .ref t ∧ SqT K H t [y, .ref d] ∧ StAt K He y s ∧ H d = some (.dK kvs) ∧ KsOk kvs (scp g.vs p) ∧ p ∈ g.ps ∧ s.Loc g.l (scp g.vs p) g.ps
theorem FdAt.same {K : PySem.W.Frag} {g : Pg} {He H H' : Hp} {x : V} (e : Same H H') (h : FdAt K g He H x) : FdAt K g He H' x := let ⟨t, y, d, s, p, kvs, h1, h2, h3, h4, h5⟩ := h; ⟨t, y, d, s, p, kvs, h1, seqT_same e h2, h3, e _ _ h4, h5⟩
theorem FdAt.mut {K : PySem.W.Frag} {g : Pg} {He H : Hp} {x : V} {D : Addr} {zs : List V} {o : HO} (e : H D = some (.lst zs)) (h : FdAt K g He H x) : FdAt K g He (upd H D o) x := by
  obtain ⟨t, y, d, s, p, kvs, h1, h2, h3, h4, h5⟩ := h
  refine ⟨t, y, d, s, p, kvs, h1, seqT_mut e h2, h3, (upd_ne fun z => ?_).trans h4, h5⟩
  subst z
  rw [e] at h4
  cases h4
theorem loc_kn {l : Int} {sc : List Vr} {ps : List Pr} {ks km : List (Key × V)} (hk : KsOk ks sc) (hm : KmOk km ps) : ∀ {s : St}, s.Loc l sc ps → s.Kn ks km
  | .set v e, h => by
    obtain ⟨w, hw, rfl⟩ := List.mem_map.mp h.1
    show (valV ks (Sum.inr w.nm)).isSome = true
    rw [hk w hw]
    rfl
  | .read v, h => by
    obtain ⟨w, hw, rfl, _⟩ := h
    show (valV ks (Sum.inr w.nm)).isSome = true
    rw [hk w hw]
    rfl
  | .write e, h => trivial
  | .ifs e _ _, h => trivial
  | .whi e _, h => trivial
  | .call p as, h => by
    obtain ⟨⟨q, hq, rfl, _⟩, _⟩ := h
    show (valV km (Sum.inr q.nm)).isSome = true
    rw [hm q (List.mem_of_mem_tail hq)]
    rfl
  | .skip, h => trivial
def sp_meaning_reason (K : PySem.W.Frag) : Sp := fun us H Q _ => ∃ (v x : V) (g : Pg), us = [.int g.l, v, x] ∧ VrsAt K H v g.vs ∧ PrsAt K H x g.ps ∧ g.Ok ∧ ∀ H', Same H H' → Q (.str Str.empty) H'
theorem ok_meaning_reason (T : Txt P K mg c) : Has P w K mg base 8 "meaning_reason" ["letters", "variables", "procedures"] (sp_meaning_reason K) := by
  obtain ⟨f, fd, F, m, b⟩ := T.d_meaning_reason.ex
  obtain ⟨f_in_sight, fd_in_sight, G_in_sight, m_in_sight, k_in_sight, b_in_sight⟩ := ok_in_sight (P := P) (w := w) (base := base) T
  obtain ⟨f_statements_of, fd_statements_of, G_statements_of, m_statements_of, k_statements_of, b_statements_of⟩ := ok_statements_of (P := P) (w := w) (base := base) T
  obtain ⟨f_has_wrong_number, fd_has_wrong_number, G_has_wrong_number, m_has_wrong_number, k_has_wrong_number, b_has_wrong_number⟩ := ok_has_wrong_number (P := P) (w := w) (base := base) T
  obtain ⟨f_has_unknown, fd_has_unknown, G_has_unknown, m_has_unknown, k_has_unknown, b_has_unknown⟩ := ok_has_unknown (P := P) (w := w) (base := base) T
  obtain ⟨f_is_wrong_call, fd_is_wrong_call, G_is_wrong_call, m_is_wrong_call, k_is_wrong_call, b_is_wrong_call⟩ := ok_is_wrong_call (P := P) (w := w) (base := base) T
  refine ⟨f, fd, F.ok sc_meaning_reason (fun vs H Q E h => ?_) (fun cdv A outer s H vs Q E hr h => ?_), m, F.kp, b⟩
  · obtain ⟨v, x, g, rfl, hv, hx, ho, q⟩ := h
    rfl
  obtain ⟨v, x, g, rfl, hv, hx, ho, q⟩ := h
  refine ⟨_, (pss_cons (ps_set (i := 3) sc_meaning_reason.nd rfl (.inl rfl) (pe_lst pa_nil))
      (pss_cons (ps_for PassesOwn.never rfl (pi_alt (pi_list (pv 2)) (pi_tup (pv 2))) (pg_name (i := 4) sc_meaning_reason.nd rfl (.inl rfl))
      (pss_cons (ps_set (i := 5) sc_meaning_reason.nd rfl (.inr rfl) (pe_dc (own := [("name", 7), ("size", 8)]) (by rfl) sc_meaning_reason.nd (pi_list (pe_call G_in_sight (hr.mono (by decide)) (by rfl) m_in_sight k_in_sight b_in_sight .nil pass0 (pa_cons (pv 1) (pa_cons (pv 4) pa_nil)))) (blkOk_by (own := [("name", 7), ("size", 8)]) (N := ["letters", "variables", "procedures", "found", "procedure", "scope", "many", "name", "size", "statement", "sizes", "depth"]) (sc := defScope s_meaning_reason) (by decide +kernel)) (fun _ _ _ _ _ => (pg_tupK (K := K) (n := 2) rfl rfl (pgs_cons (pg_name (i := 7) sc_meaning_reason.nd rfl (.inl rfl)) (pgs_cons (pg_name (i := 8) sc_meaning_reason.nd rfl (.inl rfl)) pgs_nil)))) (fun _ _ _ _ _ => pts_nil) (fun _ _ _ _ _ => (pv 7)) (fun _ _ _ _ _ => (pv 8))))
        (pss_one (ps_expr (pe_bm PySem.F.plainAttrs_list PySem.F.slot_list_extend PySem.F.type_list_extend mt_extend (pv 3) (pa_cons (pe_lc (own := [("statement", 9), ("depth", 11)]) (by rfl) sc_meaning_reason.nd (pi_list (pe_call G_statements_of (hr.mono (by decide)) (by rfl) m_statements_of k_statements_of b_statements_of .nil pass0 (pa_cons (pe_ix ix_tup (pv 4) pe_int (fun _ _ => rfl)) pa_nil))) (blkOk_by (own := [("statement", 9), ("depth", 11)]) (N := ["letters", "variables", "procedures", "found", "procedure", "scope", "many", "name", "size", "statement", "sizes", "depth"]) (sc := defScope s_meaning_reason) (by decide +kernel)) (fun _ _ _ _ _ => (pg_tupK (K := K) (n := 2) rfl rfl (pgs_cons (pg_name (i := 9) sc_meaning_reason.nd rfl (.inl rfl)) (pgs_cons (pg_name (i := 11) sc_meaning_reason.nd rfl (.inl rfl)) pgs_nil)))) (fun _ _ _ _ _ => pts_nil) (fun _ _ _ _ _ => (pe_tup (pa_cons (pv 9) (pa_cons (pv 5) pa_nil))))) pa_nil))))))
      (pss_cons (ps_set (i := 6) sc_meaning_reason.nd rfl (.inr rfl) (pe_dc (own := [("procedure", 4)]) (g := gName 4) (by rfl) sc_meaning_reason.nd (pi_alt (pi_list (pv 2)) (pi_tup (pv 2))) (blkOk_by (own := [("procedure", 4)]) (N := ["letters", "variables", "procedures", "found", "procedure", "scope", "many", "name", "size", "statement", "sizes", "depth"]) (sc := defScope s_meaning_reason) (by decide +kernel)) (fun _ _ _ _ _ => (pg_name (i := 4) sc_meaning_reason.nd rfl (.inl rfl))) (fun _ _ _ _ _ => pts_nil) (fun _ _ _ _ _ => (pe_ix (ix_tupK (K := K) rfl) (pv 4) pe_int (fun _ _ => rfl))) (fun _ _ _ _ _ => (pe_callB (call_len_seqK (K := K) rfl) (by rfl) T.z_len (by decide +kernel) (pa_cons (pe_ix (ix_tupK (K := K) rfl) (pv 4) pe_int (fun _ _ => rfl)) pa_nil)))))
      (pss_cons (ps_if (pt_val (pe_callB (cr_any rfl) (by rfl) T.z_any (by decide +kernel) (pa_cons (pe_lc (own := [("statement", 9), ("sizes", 10)]) (by rfl) sc_meaning_reason.nd (pi_list (pv 3)) (blkOk_by (own := [("statement", 9), ("sizes", 10)]) (N := ["letters", "variables", "procedures", "found", "procedure", "scope", "many", "name", "size", "statement", "sizes", "depth"]) (sc := defScope s_meaning_reason) (by decide +kernel)) (fun _ _ _ _ _ => (pg_tupK (K := K) (n := 2) rfl rfl (pgs_cons (pg_name (i := 9) sc_meaning_reason.nd rfl (.inl rfl)) (pgs_cons (pg_name (i := 10) sc_meaning_reason.nd rfl (.inl rfl)) pgs_nil)))) (fun _ _ _ _ _ => pts_nil) (fun _ _ _ _ _ => (pe_call G_has_wrong_number (hr.mono (by decide)) (by rfl) m_has_wrong_number k_has_wrong_number b_has_wrong_number .nil pass0 (pa_cons (pv 9) pa_nil)))) pa_nil)))
      (pss_one (ps_ret pe_str))
      pss_nil)
      (pss_cons (ps_if (pt_val (pe_callB (cr_any rfl) (by rfl) T.z_any (by decide +kernel) (pa_cons (pe_lc (own := [("statement", 9), ("sizes", 10)]) (by rfl) sc_meaning_reason.nd (pi_list (pv 3)) (blkOk_by (own := [("statement", 9), ("sizes", 10)]) (N := ["letters", "variables", "procedures", "found", "procedure", "scope", "many", "name", "size", "statement", "sizes", "depth"]) (sc := defScope s_meaning_reason) (by decide +kernel)) (fun _ _ _ _ _ => (pg_tupK (K := K) (n := 2) rfl rfl (pgs_cons (pg_name (i := 9) sc_meaning_reason.nd rfl (.inl rfl)) (pgs_cons (pg_name (i := 10) sc_meaning_reason.nd rfl (.inl rfl)) pgs_nil)))) (fun _ _ _ _ _ => pts_nil) (fun _ _ _ _ _ => (pe_call G_has_unknown (hr.mono (by decide)) (by rfl) m_has_unknown k_has_unknown b_has_unknown .nil pass0 (pa_cons (pv 9) (pa_cons (pv 10) (pa_cons (pv 6) pa_nil)))))) pa_nil)))
      (pss_one (ps_ret pe_str))
      pss_nil)
      (pss_cons (ps_if (pt_val (pe_callB (cr_any rfl) (by rfl) T.z_any (by decide +kernel) (pa_cons (pe_lc (own := [("statement", 9), ("sizes", 10)]) (by rfl) sc_meaning_reason.nd (pi_list (pv 3)) (blkOk_by (own := [("statement", 9), ("sizes", 10)]) (N := ["letters", "variables", "procedures", "found", "procedure", "scope", "many", "name", "size", "statement", "sizes", "depth"]) (sc := defScope s_meaning_reason) (by decide +kernel)) (fun _ _ _ _ _ => (pg_tupK (K := K) (n := 2) rfl rfl (pgs_cons (pg_name (i := 9) sc_meaning_reason.nd rfl (.inl rfl)) (pgs_cons (pg_name (i := 10) sc_meaning_reason.nd rfl (.inl rfl)) pgs_nil)))) (fun _ _ _ _ _ => pts_nil) (fun _ _ _ _ _ => (pe_call G_is_wrong_call (hr.mono (by decide)) (by rfl) m_is_wrong_call k_is_wrong_call b_is_wrong_call .nil pass0 (pa_cons (pv 9) (pa_cons (pe_ix (ix_tupK (K := K) rfl) (pe_ix (ix_seqK (K := K) rfl) (pv 2) pe_int (fun _ _ => rfl)) pe_int (fun _ _ => rfl)) (pa_cons (pv 6) pa_nil)))))) pa_nil)))
      (pss_one (ps_ret pe_str))
      pss_nil)
      (pss_cons (ps_if (pt_val (pe_callB (cr_any rfl) (by rfl) T.z_any (by decide +kernel) (pa_cons (pe_lc (own := [("statement", 9), ("sizes", 10)]) (by rfl) sc_meaning_reason.nd (pi_list (pv 3)) (blkOk_by (own := [("statement", 9), ("sizes", 10)]) (N := ["letters", "variables", "procedures", "found", "procedure", "scope", "many", "name", "size", "statement", "sizes", "depth"]) (sc := defScope s_meaning_reason) (by decide +kernel)) (fun _ _ _ _ _ => (pg_tupK (K := K) (n := 2) rfl rfl (pgs_cons (pg_name (i := 9) sc_meaning_reason.nd rfl (.inl rfl)) (pgs_cons (pg_name (i := 10) sc_meaning_reason.nd rfl (.inl rfl)) pgs_nil)))) (fun _ _ _ _ _ => pts_nil) (fun _ _ _ _ _ => (pe_and (pe_cmpR op_eq (pe_ix (ix_tupK (K := K) rfl) (pv 9) pe_int (fun _ _ => rfl)) pe_str (nomark _)) (pe_one (pe_cmpR op_lt (pe_dget (dun hr) (pv 10) (pe_ix (ix_tupK (K := K) rfl) (pv 9) pe_int (fun _ _ => rfl)) (fun _ _ => rfl)) (pe_op op_add (pv 0) pe_int) (nomark _)))))) pa_nil)))
      (pss_one (ps_ret pe_str))
      pss_nil)
      (pss_one (ps_ret pe_str))))))))), ?_⟩
  obtain ⟨a, xs, rfl, hq, ha⟩ := id hx
  have la := ha.1
  have o5 := ho.p5
  have o1 := ho.p1
  have o4 := ho.v4
  have dl := ho.decl.len
  have sn := ho.sn
  let ns := g.ps.map fun p => cntB p.bd
  have sn' : ns.sum ≤ 60 := sn
  refine ⟨by show 0 ≤ sizeLine; decide, fun F nF => ?_⟩
  have s0 := same_new (o := .lst []) nF
  have hF0 : (upd H F (.lst [])) F = some (.lst []) := upd_same
  generalize upd H F (.lst []) = H0 at s0 hF0 ⊢
  -- for procedure in procedures
  refine alt_seqB rfl hq s0 fun J G w gd => for_it w (fun i σ H' => ∃ y4 y5 y6 y7 y8 y9 y10 y11, σ = [some (.int g.l), some v, some (.ref a), some (.ref F), y4, y5, y6, y7, y8, y9, y10, y11] ∧ Same H H' ∧ ∃ acc, H' F = some (.lst acc) ∧ acc.length = (ns.take i).sum ∧ ∀ x ∈ acc, FdAt K g H H' x)
    ⟨_, _, _, _, _, _, _, _, rfl, s0, [], hF0, rfl, fun x h => nomatch h⟩ (fun i σ H' _ h' => ?_) ?_ ?_
  · obtain ⟨_, _, _, _, _, _, _, _, _, s1, _⟩ := h'
    exact gd _ s1
  · rintro i x σ H1 H2 hi ⟨y4, y5, y6, y7, y8, y9, y10, y11, rfl, s1, acc, hF, lc, hacc⟩ ⟨rfl, hx⟩
    obtain ⟨p, ep, hp⟩ := ha.at hx
    have mp := List.mem_of_getElem? ep
    obtain ⟨r, t1, t2, t3, rfl, hr, _, _, hb⟩ := id hp
    have lp := dl p mp
    have vd := ho.vd p mp
    have enp : ns[i]? = some (cntB p.bd) := by show (g.ps.map fun p => cntB p.bd)[i]? = _; rw [List.getElem?_map, ep]; rfl
    have cp : cntB p.bd ≤ ns.sum := sum_mem (List.mem_of_getElem? enp)
    have st : (ns.take (i + 1)).sum ≤ ns.sum := sum_take_le ns _
    rw [take_succ_at enp, List.sum_append] at st
    have st : (ns.take i).sum + cntB p.bd ≤ ns.sum := by simpa using st
    refine ⟨_, rfl, _, rfl, v, _, g.vs, p, rfl, hv.same s1, hp.same s1, o4, ho.p3 p mp, ho.l33 p mp, fun ls ws H3 s3 nl hl hw => ⟨ls, rfl, ⟨_, SqL.of hl⟩, fun D nD => ?_⟩⟩
    have lw := hw.1
    refine two_out (walk_list (xs := ws)) (fun j H' => Same H3 H' ∧ ∃ kvs, H' D = some (.dK kvs) ∧ kvs.length ≤ j ∧ KsOk kvs ((scp g.vs p).take j)) ⟨same_new nD, [], upd_same, Nat.zero_le _, fun v h => nomatch h⟩ (fun i H' _ h' => SqL.of (h'.1 _ _ hl)) ?_ ?_
    · rintro j y H4 H5 hj ⟨s4, kvs, hD, lk, hk⟩ ⟨rfl, hy⟩
      obtain ⟨vr, evr, t, rfl, ht⟩ := hw.at hy
      refine ⟨t, _, rfl, seqT_same s4 ht, rfl, _, _, rfl, _, _, rfl, rfl, rfl, _, rfl, _, rfl, kvs, Sum.inr vr.nm, rfl, hD, small1000 (by omega), same_mut s4 nD, _, upd_same, ?_, ?_⟩
      · have := length_putK kvs (Sum.inr vr.nm) (V.int vr.sz)
        omega
      · rw [take_succ_at evr]
        exact ks_put hk (nodup_at vd evr)
    rintro H4 ⟨s4, kvs, hD, lk, hk⟩
    rw [lw, List.take_length] at hk
    have s14 := (s1.trans s3).trans s4
    refine ⟨_, rfl, .inl ⟨rfl, _, SqL.of (s4 _ _ (s3 _ _ hF))⟩, ?_⟩
    refine ⟨_, rfl, r, _, _, _, rfl, rfl, seqT_same s14 hr, p3, t3, p.bd, fun d s => d ≤ 6 ∧ s.Loc g.l (scp g.vs p) g.ps, H, rfl, s14, hb, by omega, ho.sb p mp, fun l2 ws2 dn2 H5 s5 nl2 hl2 hw2 hP hn => ⟨l2, rfl, ⟨_, SqL.of hl2⟩, fun D2 n2 => ?_⟩⟩
    have lw2 := hw2.1
    refine lc_it (walk_list (xs := ws2)) (fun j H' => Same H5 H' ∧ ∃ zs, H' D2 = some (.lst zs) ∧ zs.length = j ∧ ∀ x ∈ zs, FdAt K g H H' x) ⟨same_new n2, [], upd_same, rfl, fun x h => nomatch h⟩ (fun j H' _ h' => SqL.of (h'.1 _ _ hl2)) ?_ ?_
    · rintro j y H6 H7 hj ⟨s6, zs, hD2, lz, hzs⟩ ⟨rfl, hy⟩
      obtain ⟨pp, epp, t, u, rfl, ht, hu⟩ := hw2.at hy
      refine ⟨t, _, rfl, seqT_same s6 ht, rfl, _, _, rfl, _, _, rfl, rfl, rfl, _, rfl, _, rfl, by show 2 ≤ sizeLine; decide, fun tn ntn => ?_⟩
      have s7 := same_new (o := .tup [u, .ref D]) ntn
      refine ⟨zs, s7 _ _ hD2, small1000 (by omega), same_mut (s6.trans s7) n2, zs ++ [.ref tn], upd_same, ?_, fun x hx => ?_⟩
      · rw [List.length_append, lz]
        rfl
      · rcases List.mem_append.mp hx with hx | hx
        · exact ((hzs x hx).same s7).mut (s7 _ _ hD2)
        · rcases List.mem_singleton.mp hx with rfl
          exact FdAt.mut (s7 _ _ hD2) ⟨tn, u, D, pp.1, p, kvs, rfl, SqT.of upd_same, hu, s7 _ _ (s6 _ _ (s5 _ _ hD)), hk, mp, (hP pp (List.mem_of_getElem? epp)).2⟩
    rintro H6 ⟨s6, zs, hD2, lz, hzs⟩
    have s16 := (s14.trans s5).trans s6
    have hF6 : H6 F = some (.lst acc) := s6 _ _ (s5 _ _ (s4 _ _ (s3 _ _ hF)))
    have sH := ((s3.trans s4).trans s5).trans s6
    refine ⟨F, D2, acc, zs, rfl, rfl, hF6, hD2, line_small (by omega), ?_⟩
    refine ⟨_, _, _, _, _, _, _, _, rfl, same_mut s16 nF, acc ++ zs, upd_same, ?_, fun x hx => ?_⟩
    · rw [List.length_append, lc, lz, lw2, hn, take_succ_at enp, List.sum_append]
      simp
    · rcases List.mem_append.mp hx with hx | hx
      · exact ((hacc x hx).same sH).mut hF6
      · exact (hzs x hx).mut hF6
  · rintro σ H1 ⟨y4, y5, y6, y7, y8, y9, y10, y11, rfl, s1, acc, hF, lc, hacc⟩
    have lns : ns.length = g.ps.length := List.length_map ..
    rw [la, ← lns, List.take_length] at lc
    -- many
    refine alt_seqB rfl hq s1 fun J G w gd => fun D nD => two_out w (fun i H' => Same H1 H' ∧ ∃ kvs, H' D = some (.dK kvs) ∧ kvs.length ≤ i ∧ KmOk kvs (g.ps.take i)) ⟨same_new nD, [], upd_same, Nat.zero_le _, fun p h => nomatch h⟩ (fun i H' _ h' => gd _ (s1.trans h'.1)) ?_ ?_
    · rintro i x H2 H3 hi ⟨s2, kvs, hD, lk, hk⟩ ⟨rfl, hx⟩
      obtain ⟨p, ep, r, t1, t2, t3, rfl, hr, ⟨a1, x1, rfl, hq1, ha1⟩, _, hb⟩ := ha.at hx
      have s12 := s1.trans s2
      refine ⟨rfl, _, rfl, r, _, _, _, rfl, rfl, seqT_same s12 hr, p0, _, rfl, r, _, _, _, rfl, rfl, seqT_same s12 hr, p1, a1, _, rfl, hq1.same s12, kvs, Sum.inr p.nm, rfl, hD, small1000 (by omega), same_mut s2 nD, _, upd_same, ?_, ?_⟩
      · have := length_putK kvs (Sum.inr p.nm) (V.int ((x1.length : Nat) : Int))
        omega
      · rw [take_succ_at ep, ha1.1]
        exact km_put hk (nodup_at ho.pd ep)
    rintro H2 ⟨s2, km, hD, lk, hkm⟩
    rw [la, List.take_length] at hkm
    have s12 := s1.trans s2
    have hF2 := s2 _ _ hF
    have hacc := fun x hx => (hacc x hx).same s2
    have l60 : acc.length ≤ 60 := by omega
    have r2 : Same H2 H2 := Same.refl _
    -- number
    refine ⟨_, rfl, F, rfl, ⟨_, SqL.of hF2⟩, fun D2 n2 => lc_it (walk_list (xs := acc)) (fun i H' => Same H2 H' ∧ H' D2 = some (.lst ((List.replicate i false).map V.bl))) ⟨same_new n2, upd_same⟩ (fun i H' _ h' => SqL.of (h'.1 _ _ hF2)) ?_ ?_⟩
    · rintro i x Ha Hb hi ⟨sa, hDa⟩ ⟨rfl, hx⟩
      obtain ⟨t, u, d, s, p, kvs, rfl, ht, hu, hd, hk, mp, loc⟩ := (hacc x (List.mem_of_getElem? hx)).same (r2.trans sa)
      have s1a := s12.trans (r2.trans sa)
      have hKm := (r2.trans sa) _ _ hD
      have hu := hu.same s1a
      obtain ⟨eo, e9, ein⟩ := loc_exs ho.p3 loc
      have small : ((List.replicate i false).map V.bl).length < sizeLine := by
        rw [List.length_map, List.length_replicate]
        exact small1000 (by omega)
      have nxt : ∀ H0 : Hp, (upd H0 D2 (.lst ((List.replicate i false).map V.bl ++ [.bl false]))) D2 = some (.lst ((List.replicate (i + 1) false).map V.bl)) := fun H0 => by
        rw [upd_same, List.replicate_succ', List.map_append]
        rfl
      refine ⟨t, _, rfl, ht, rfl, _, _, rfl, _, _, rfl, rfl, rfl, ?_⟩
      exact ⟨_, rfl, u, s, rfl, hu, eo, e9, fun H5 s5 => ⟨_, s5 _ _ hDa, small, same_mut (sa.trans s5) n2, nxt _⟩⟩
    rintro H3 ⟨s3, hD3⟩
    refine ⟨D2, _, rfl, SqL.of hD3, _, rfl, ?_⟩
    rw [any_false]
    refine iteF ?_
    have hF3 := s3 _ _ hF2
    -- unknown
    refine ⟨_, rfl, F, rfl, ⟨_, SqL.of hF3⟩, fun D2 n2 => lc_it (walk_list (xs := acc)) (fun i H' => Same H3 H' ∧ H' D2 = some (.lst ((List.replicate i false).map V.bl))) ⟨same_new n2, upd_same⟩ (fun i H' _ h' => SqL.of (h'.1 _ _ hF3)) ?_ ?_⟩
    · rintro i x Ha Hb hi ⟨sa, hDa⟩ ⟨rfl, hx⟩
      obtain ⟨t, u, d, s, p, kvs, rfl, ht, hu, hd, hk, mp, loc⟩ := (hacc x (List.mem_of_getElem? hx)).same (s3.trans sa)
      have s1a := s12.trans (s3.trans sa)
      have hKm := (s3.trans sa) _ _ hD
      have hu := hu.same s1a
      obtain ⟨eo, e9, ein⟩ := loc_exs ho.p3 loc
      have small : ((List.replicate i false).map V.bl).length < sizeLine := by
        rw [List.length_map, List.length_replicate]
        exact small1000 (by omega)
      have nxt : ∀ H0 : Hp, (upd H0 D2 (.lst ((List.replicate i false).map V.bl ++ [.bl false]))) D2 = some (.lst ((List.replicate (i + 1) false).map V.bl)) := fun H0 => by
        rw [upd_same, List.replicate_succ', List.map_append]
        rfl
      refine ⟨t, _, rfl, ht, rfl, _, _, rfl, _, _, rfl, rfl, rfl, ?_⟩
      refine ⟨_, rfl, _, rfl, _, rfl, u, s, d, D, kvs, km, (scp g.vs p).map Vr.nm, rfl, hu, hd, hKm, eo, loc_kn hk hkm loc, ein, fun z hz => ?_, fun H5 s5 => ⟨_, s5 _ _ hDa, small, same_mut (sa.trans s5) n2, nxt _⟩⟩
      obtain ⟨w, hw, rfl⟩ := List.mem_map.mp hz
      rw [hk w hw]
      rfl
    rintro H4 ⟨s4, hD4⟩
    refine ⟨D2, _, rfl, SqL.of hD4, _, rfl, ?_⟩
    rw [any_false]
    refine iteF ?_
    have hF4 := s4 _ _ hF3
    have s24 := s3.trans s4
    -- call
    have hx0 : xs[0]? = some xs[0] := List.getElem?_eq_getElem (by omega)
    obtain ⟨pm, epm, rm, tm1, tm2, tm3, exm, hrm, _⟩ := ha.at hx0
    refine ⟨_, rfl, F, rfl, ⟨_, SqL.of hF4⟩, fun D2 n2 => lc_it (walk_list (xs := acc)) (fun i H' => Same H4 H' ∧ H' D2 = some (.lst ((List.replicate i false).map V.bl))) ⟨same_new n2, upd_same⟩ (fun i H' _ h' => SqL.of (h'.1 _ _ hF4)) ?_ ?_⟩
    · rintro i x Ha Hb hi ⟨sa, hDa⟩ ⟨rfl, hx⟩
      obtain ⟨t, u, d, s, p, kvs, rfl, ht, hu, hd, hk, mp, loc⟩ := (hacc x (List.mem_of_getElem? hx)).same (s24.trans sa)
      have s1a := s12.trans (s24.trans sa)
      have hKm := (s24.trans sa) _ _ hD
      have hu := hu.same s1a
      obtain ⟨eo, e9, ein⟩ := loc_exs ho.p3 loc
      have small : ((List.replicate i false).map V.bl).length < sizeLine := by
        rw [List.length_map, List.length_replicate]
        exact small1000 (by omega)
      have nxt : ∀ H0 : Hp, (upd H0 D2 (.lst ((List.replicate i false).map V.bl ++ [.bl false]))) D2 = some (.lst ((List.replicate (i + 1) false).map V.bl)) := fun H0 => by
        rw [upd_same, List.replicate_succ', List.map_append]
        rfl
      refine ⟨t, _, rfl, ht, rfl, _, _, rfl, _, _, rfl, rfl, rfl, ?_⟩
      refine ⟨_, rfl, _, rfl, ix_seqV (hq.same s1a) (atI_nat (j := 0) hx0) ?_⟩
      rw [exm]
      refine ⟨rm, _, _, _, rfl, rfl, seqT_same s1a hrm, p0, _, rfl, u, s, pm.nm, D, km, rfl, hu, hKm, fun pn as e => ?_, ⟨_, hDa, small, same_mut sa n2, nxt _⟩⟩
      subst e
      obtain ⟨⟨qc, hqc, rfl, hl⟩, _⟩ := loc
      have eps : g.ps = pm :: g.ps.tail := by
        cases h : g.ps with
        | nil => rw [h] at epm; cases epm
        | cons z zs => rw [h] at epm; cases epm; rfl
      refine ⟨fun z => ?_, by rw [← hl]; exact hkm qc (List.mem_of_mem_tail hqc)⟩
      have nd := ho.pd
      rw [eps, List.map_cons] at nd
      exact (List.nodup_cons.mp nd).1 (z ▸ List.mem_map.mpr ⟨qc, hqc, rfl⟩)
    rintro H5 ⟨s5, hD5⟩
    refine ⟨D2, _, rfl, SqL.of hD5, _, rfl, ?_⟩
    rw [any_false]
    refine iteF ?_
    have hF5 := s5 _ _ hF4
    have s25 := s24.trans s5
    -- read
    refine ⟨_, rfl, F, rfl, ⟨_, SqL.of hF5⟩, fun D2 n2 => lc_it (walk_list (xs := acc)) (fun i H' => Same H5 H' ∧ H' D2 = some (.lst ((List.replicate i false).map V.bl))) ⟨same_new n2, upd_same⟩ (fun i H' _ h' => SqL.of (h'.1 _ _ hF5)) ?_ ?_⟩
    · rintro i x Ha Hb hi ⟨sa, hDa⟩ ⟨rfl, hx⟩
      obtain ⟨t, u, d, s, p, kvs, rfl, ht, hu, hd, hk, mp, loc⟩ := (hacc x (List.mem_of_getElem? hx)).same (s25.trans sa)
      have s1a := s12.trans (s25.trans sa)
      have hKm := (s25.trans sa) _ _ hD
      have hu := hu.same s1a
      obtain ⟨eo, e9, ein⟩ := loc_exs ho.p3 loc
      have small : ((List.replicate i false).map V.bl).length < sizeLine := by
        rw [List.length_map, List.length_replicate]
        exact small1000 (by omega)
      have nxt : ∀ H0 : Hp, (upd H0 D2 (.lst ((List.replicate i false).map V.bl ++ [.bl false]))) D2 = some (.lst ((List.replicate (i + 1) false).map V.bl)) := fun H0 => by
        rw [upd_same, List.replicate_succ', List.map_append]
        rfl
      refine ⟨t, _, rfl, ht, rfl, _, _, rfl, _, _, rfl, rfl, rfl, ?_⟩
      cases s with
      | read v =>
        obtain ⟨w, hw, rfl, hsz⟩ := loc
        obtain ⟨qs, rfl, hqs⟩ := hu.is
        refine ⟨_, rfl, qs, _, _, _, rfl, rfl, hqs, h0, rfl, _, rfl, yes rfl ⟨_, rfl, _, rfl, qs, _, _, _, rfl, rfl, hqs, h1, d, .int w.sz, rfl, by rw [← hk w hw]; exact DGet.k (k := Sum.inr w.nm) hd, ?_⟩⟩
        refine ⟨_, rfl, _, _, rfl, rfl, _, _, rfl, rfl, _, hDa, small, same_mut sa n2, ?_⟩
        rw [upd_same, List.replicate_succ', List.map_append]
        exact congrArg (fun b => some (HO.lst (_ ++ [V.bl b]))) (decide_eq_false (show ¬ (w.sz < g.l + 1) by omega))
      | set v e =>
        obtain ⟨qs, ys, rfl, hqs⟩ := hu.hd
        exact ⟨_, rfl, qs, _, _, _, rfl, rfl, hqs, h0, rfl, _, rfl, nope (wd (show (("set" : Str) == "read") = false by decide +kernel)) ⟨_, hDa, small, same_mut sa n2, nxt _⟩⟩
      | write e =>
        obtain ⟨qs, ys, rfl, hqs⟩ := hu.hd
        exact ⟨_, rfl, qs, _, _, _, rfl, rfl, hqs, h0, rfl, _, rfl, nope (wd (show (("write" : Str) == "read") = false by decide +kernel)) ⟨_, hDa, small, same_mut sa n2, nxt _⟩⟩
      | ifs e b o =>
        obtain ⟨qs, ys, rfl, hqs⟩ := hu.hd
        exact ⟨_, rfl, qs, _, _, _, rfl, rfl, hqs, h0, rfl, _, rfl, nope (wd (show (("if" : Str) == "read") = false by decide +kernel)) ⟨_, hDa, small, same_mut sa n2, nxt _⟩⟩
      | whi e b =>
        obtain ⟨qs, ys, rfl, hqs⟩ := hu.hd
        exact ⟨_, rfl, qs, _, _, _, rfl, rfl, hqs, h0, rfl, _, rfl, nope (wd (show (("while" : Str) == "read") = false by decide +kernel)) ⟨_, hDa, small, same_mut sa n2, nxt _⟩⟩
      | call pn as =>
        obtain ⟨qs, ys, rfl, hqs⟩ := hu.hd
        exact ⟨_, rfl, qs, _, _, _, rfl, rfl, hqs, h0, rfl, _, rfl, nope (wd (show (("call" : Str) == "read") = false by decide +kernel)) ⟨_, hDa, small, same_mut sa n2, nxt _⟩⟩
      | skip =>
        obtain ⟨qs, ys, rfl, hqs⟩ := hu.hd
        exact ⟨_, rfl, qs, _, _, _, rfl, rfl, hqs, h0, rfl, _, rfl, nope (wd (show (("skip" : Str) == "read") = false by decide +kernel)) ⟨_, hDa, small, same_mut sa n2, nxt _⟩⟩
    rintro H6 ⟨s6, hD6⟩
    refine ⟨D2, _, rfl, SqL.of hD6, _, rfl, ?_⟩
    rw [any_false]
    refine iteF ?_
    exact q _ (s12.trans (s25.trans s6))
def sp_first_reason (K : PySem.W.Frag) : Sp := fun us H Q _ => ∃ (v x : V) (g : Pg), us = [.int g.l, .int g.a, v, x] ∧ VrsAt K H v g.vs ∧ PrsAt K H x g.ps ∧ g.Ok ∧ ∀ H', Same H H' → Q (.str Str.empty) H'
theorem ok_first_reason (T : Txt P K mg c) : Has P w K mg base 9 "first_reason" ["letters", "answers", "variables", "procedures"] (sp_first_reason K) := by
  obtain ⟨f, fd, F, m, b⟩ := T.d_first_reason.ex
  obtain ⟨f_letters_reason, fd_letters_reason, G_letters_reason, m_letters_reason, k_letters_reason, b_letters_reason⟩ := ok_letters_reason (P := P) (w := w) (base := base) T
  obtain ⟨f_count_reason, fd_count_reason, G_count_reason, m_count_reason, k_count_reason, b_count_reason⟩ := ok_count_reason (P := P) (w := w) (base := base) T
  obtain ⟨f_declaration_reason, fd_declaration_reason, G_declaration_reason, m_declaration_reason, k_declaration_reason, b_declaration_reason⟩ := ok_declaration_reason (P := P) (w := w) (base := base) T
  obtain ⟨f_shape_reason, fd_shape_reason, G_shape_reason, m_shape_reason, k_shape_reason, b_shape_reason⟩ := ok_shape_reason (P := P) (w := w) (base := base) T
  obtain ⟨f_meaning_reason, fd_meaning_reason, G_meaning_reason, m_meaning_reason, k_meaning_reason, b_meaning_reason⟩ := ok_meaning_reason (P := P) (w := w) (base := base) T
  refine ⟨f, fd, F.ok sc_first_reason (fun vs H Q E h => ?_) (fun cdv A outer s H vs Q E hr h => ?_), m, F.kp, b⟩
  · obtain ⟨v, x, g, rfl, hv, hx, ho, q⟩ := h
    rfl
  obtain ⟨v, x, g, rfl, hv, hx, ho, q⟩ := h
  refine ⟨_, (pss_one (ps_ret (pe_orT (pe_call G_letters_reason (hr.mono (by decide)) (by rfl) m_letters_reason k_letters_reason b_letters_reason .nil pass0 (pa_cons (pv 0) (pa_cons (pv 1) pa_nil))) (pe_orT (pe_call G_count_reason (hr.mono (by decide)) (by rfl) m_count_reason k_count_reason b_count_reason .nil pass0 (pa_cons (pv 2) (pa_cons (pv 3) pa_nil))) (pe_orT (pe_call G_declaration_reason (hr.mono (by decide)) (by rfl) m_declaration_reason k_declaration_reason b_declaration_reason .nil pass0 (pa_cons (pv 2) (pa_cons (pv 3) pa_nil))) (pe_orT (pe_call G_shape_reason (hr.mono (by decide)) (by rfl) m_shape_reason k_shape_reason b_shape_reason .nil pass0 (pa_cons (pv 3) pa_nil)) (pe_one (pe_call G_meaning_reason (hr.mono (by decide)) (by rfl) m_meaning_reason k_meaning_reason b_meaning_reason .nil pass0 (pa_cons (pv 0) (pa_cons (pv 2) (pa_cons (pv 3) pa_nil))))))))))), ?_⟩
  refine ⟨_, rfl, _, rfl, _, _, rfl, ho.l1, ho.l3, ho.a2, ho.a4, false, ⟨Nat.zero_le _, rfl⟩, iteF ?_⟩
  refine ⟨_, rfl, _, rfl, v, x, g, rfl, hv, hx, ho, fun H1 s1 => ⟨false, ⟨Nat.zero_le _, rfl⟩, iteF ?_⟩⟩
  refine ⟨_, rfl, _, rfl, v, x, g, rfl, hv.same s1, hx.same s1, ho, fun H2 s2 => ⟨false, ⟨Nat.zero_le _, rfl⟩, iteF ?_⟩⟩
  have s12 := s1.trans s2
  refine ⟨_, rfl, x, g, rfl, hx.same s12, ho, fun H3 s3 => ⟨false, ⟨Nat.zero_le _, rfl⟩, iteF ?_⟩⟩
  have s13 := s12.trans s3
  exact ⟨_, rfl, _, rfl, _, rfl, v, x, g, rfl, hv.same s13, hx.same s13, ho, fun H4 s4 => q _ (s13.trans s4)⟩


end
end Pf

namespace Pf
open PySem PySem.Spec PyProof.Rows L2
section
variable {P : Program} {w : World} {K : PySem.W.Frag} {mg : Str → Option Value} {base : Heap}
variable {c : Nat → Addr}
/-! ### where a statement leads -/
mutual
def wayS : St → Nat → Nat → List (St × List Nat)
  | .ifs e b o, pt, fo => (.ifs e b o, [if b = [] then fo else pt + 1, if o = [] then fo else pt + 1 + cntB b]) :: (wayB b (pt + 1) fo ++ wayB o (pt + 1 + cntB b) fo)
  | .whi e b, pt, fo => (.whi e b, [if b = [] then pt else pt + 1, fo]) :: wayB b (pt + 1) pt
  | .set v e, _, fo => [(.set v e, [fo])]
  | .read v, _, fo => [(.read v, [fo])]
  | .write e, _, fo => [(.write e, [fo])]
  | .call p as, _, fo => [(.call p as, [fo])]
  | .skip, _, fo => [(.skip, [fo])]
def wayB : List St → Nat → Nat → List (St × List Nat)
  | [], _, _ => []
  | s :: r, fi, be => wayS s fi (if r = [] then be else fi + cntS s) ++ wayB r (fi + cntS s) be
end
def wayL : List St → Nat → List (St × List Nat)
  | [], _ => []
  | s :: r, fi => wayS s fi (fi + cntS s) ++ wayL r (fi + cntS s)
mutual
theorem wayS_len : ∀ (s : St) (pt fo : Nat), (wayS s pt fo).length = cntS s
  | .ifs e b o, pt, fo => by rw [wayS, cntS, List.length_cons, List.length_append, wayB_len b, wayB_len o]; omega
  | .whi e b, pt, fo => by rw [wayS, cntS, List.length_cons, wayB_len b]; omega
  | .set _ _, _, _ => by simp [wayS, cntS]
  | .read _, _, _ => by simp [wayS, cntS]
  | .write _, _, _ => by simp [wayS, cntS]
  | .call _ _, _, _ => by simp [wayS, cntS]
  | .skip, _, _ => by simp [wayS, cntS]
theorem wayB_len : ∀ (b : List St) (fi be : Nat), (wayB b fi be).length = cntB b
  | [], _, _ => by simp [wayB, cntB]
  | s :: r, fi, be => by rw [wayB, cntB, List.length_append, wayS_len s, wayB_len r]
end
theorem wayL_len : ∀ (b : List St) (fi : Nat), (wayL b fi).length = cntB b
  | [], _ => by simp [wayL, cntB]
  | s :: r, fi => by rw [wayL, cntB, List.length_append, wayS_len s, wayL_len r]
theorem wayL_snoc : ∀ (b : List St) (s : St) (fi : Nat), wayL (b ++ [s]) fi = wayL b fi ++ wayS s (fi + cntB b) (fi + cntB b + cntS s)
  | [], s, fi => by simp [wayL, cntB]
  | x :: b, s, fi => by
    rw [List.cons_append, wayL, wayL_snoc b s, wayL, cntB, List.append_assoc, Nat.add_assoc]
theorem wayB_snoc : ∀ (b : List St) (s : St) (fi be : Nat), wayB (b ++ [s]) fi be = wayL b fi ++ wayS s (fi + cntB b) be
  | [], s, fi, be => by simp [wayL, wayB, cntB]
  | x :: b, s, fi, be => by
    rw [List.cons_append, wayB, if_neg (by simp), wayB_snoc b s, wayL, cntB, List.append_assoc, Nat.add_assoc]
/-- a statement of tuples alone -/
def StT (K : PySem.W.Frag) (H : Hp) (x : V) (s : St) : Prop := Dl K H x s.d
def BdT (K : PySem.W.Frag) (H : Hp) (v : V) (b : List St) : Prop := Dl K H v (.tuple (stDs b))
theorem StT.at {K : PySem.W.Frag} {H : Hp} {x : V} {s : St} (h : StT K H x s) : StAt K H x s := ⟨s.d, h, rawS_d s⟩
theorem BdT.bd {K : PySem.W.Frag} {H : Hp} {x : V} {b : List St} (h : BdT K H x b) : BdAt K H x b := ⟨_, h, rawB_d b⟩
theorem StT.same {K : PySem.W.Frag} {H H' : Hp} {x : V} {s : St} (e : Same H H') (h : StT K H x s) : StT K H' x s := dl_same e h
theorem BdT.same {K : PySem.W.Frag} {H H' : Hp} {x : V} {b : List St} (e : Same H H') (h : BdT K H x b) : BdT K H' x b := dl_same e h
theorem dla_stT {K : PySem.W.Frag} {H : Hp} : ∀ {b : List St} {xs : List V}, DlAll K H xs (stDs b) → All2 (StT K H) xs b
  | [], xs, k => by
    rw [stDs] at k
    cases k
    exact .nil
  | s :: b, xs, k => by
    rw [stDs] at k
    cases k with
    | cons h k => exact All2.app (xs := [_]) (ys := [_]) (.one h) (dla_stT k)
theorem BdT.un {K : PySem.W.Frag} {H : Hp} {v : V} {b : List St} (h : BdT K H v b) : ∃ a xs, v = .ref a ∧ SqT K H a xs ∧ All2 (StT K H) xs b := by
  obtain ⟨a, xs, rfl, hq, k⟩ := dl_tup h
  exact ⟨a, xs, rfl, hq, dla_stT k⟩
theorem StT.rel {K : PySem.W.Frag} {H : Hp} {x : V} {s : St} (h : StT K H x s) : StRel K H (BdT K H) x s := by
  have hh := h.at
  cases s with
  | ifs e b o =>
    have h' : Dl K H x (St.d (.ifs e b o)) := h
    rw [St.d] at h'
    obtain ⟨q, xs, rfl, hq, k⟩ := dl_tup h'
    obtain ⟨y1, _, rfl, h1, k⟩ := dla_cons k
    obtain ⟨y2, _, rfl, h2, k⟩ := dla_cons k
    obtain ⟨y3, _, rfl, h3, k⟩ := dla_cons k
    obtain ⟨y4, _, rfl, h4, k⟩ := dla_cons k
    obtain rfl := dla_nil k
    obtain rfl := dl_str h1
    exact ⟨q, y2, y3, y4, rfl, hq, h3, h4⟩
  | whi e b =>
    have h' : Dl K H x (St.d (.whi e b)) := h
    rw [St.d] at h'
    obtain ⟨q, xs, rfl, hq, k⟩ := dl_tup h'
    obtain ⟨y1, _, rfl, h1, k⟩ := dla_cons k
    obtain ⟨y2, _, rfl, h2, k⟩ := dla_cons k
    obtain ⟨y3, _, rfl, h3, k⟩ := dla_cons k
    obtain rfl := dla_nil k
    obtain rfl := dl_str h1
    exact ⟨q, y2, y3, rfl, hq, h3⟩
  | set v e => exact hh.hd
  | read v => exact hh.hd
  | write e => exact hh.hd
  | call p as => exact hh.hd
  | skip => exact hh.hd
/-- a statement with its ways -/
def WyAt (K : PySem.W.Frag) (He H : Hp) (x : V) (q : St × List Nat) : Prop := ∃ t y u, x = .ref t ∧ SqT K H t [y, .ref u] ∧ StT K He y q.1 ∧ SqT K H u (q.2.map fun n => V.int (n : Nat))
theorem WyAt.same {K : PySem.W.Frag} {He H H' : Hp} {x : V} {q : St × List Nat} (e : Same H H') (h : WyAt K He H x q) : WyAt K He H' x q := let ⟨t, y, u, h1, h2, h3, h4⟩ := h; ⟨t, y, u, h1, seqT_same e h2, h3, seqT_same e h4⟩
theorem WyAt.fl {K : PySem.W.Frag} {He H H' : Hp} {x : V} {q : St × List Nat} {D : Addr} {zs : List V} (e : H D = some (.lst zs)) (f : Fr D H H') (h : WyAt K He H x q) : WyAt K He H' x q := let ⟨t, y, u, h1, h2, h3, h4⟩ := h; ⟨t, y, u, h1, seqT_frl e f h2, h3, seqT_frl e f h4⟩
theorem WyAt.mut {K : PySem.W.Frag} {He H : Hp} {x : V} {q : St × List Nat} {D : Addr} {zs : List V} {o : HO} (e : H D = some (.lst zs)) (h : WyAt K He H x q) : WyAt K He (upd H D o) x q := let ⟨t, y, u, h1, h2, h3, h4⟩ := h; ⟨t, y, u, h1, seqT_mut e h2, h3, seqT_mut e h4⟩
/-- the bodies of a statement, one behind another: their ways, and where they start -/
def wayI (beh : Nat) : List (List St) → Nat → List (St × List Nat)
  | [], _ => []
  | b :: bs, st => wayB b st beh ++ wayI beh bs (st + cntB b)
def stL (beh : Nat) : List (List St) → Nat → List Nat
  | [], _ => []
  | b :: bs, st => (if b = [] then beh else st) :: stL beh bs (st + cntB b)
theorem wayI_len (beh : Nat) : ∀ (bs : List (List St)) (st : Nat), (wayI beh bs st).length = (bs.map cntB).sum
  | [], _ => rfl
  | b :: bs, st => by rw [wayI, List.length_append, wayB_len, wayI_len beh bs, List.map_cons, List.sum_cons]
theorem wayI_snoc (beh : Nat) : ∀ (bs : List (List St)) (b : List St) (st : Nat), wayI beh (bs ++ [b]) st = wayI beh bs st ++ wayB b (st + (bs.map cntB).sum) beh
  | [], b, st => by simp [wayI]
  | x :: bs, b, st => by rw [List.cons_append, wayI, wayI_snoc beh bs, wayI, List.map_cons, List.sum_cons, List.append_assoc, Nat.add_assoc]
theorem stL_snoc (beh : Nat) : ∀ (bs : List (List St)) (b : List St) (st : Nat), stL beh (bs ++ [b]) st = stL beh bs st ++ [if b = [] then beh else st + (bs.map cntB).sum]
  | [], b, st => by simp [stL]
  | x :: bs, b, st => by rw [List.cons_append, stL, stL_snoc beh bs, stL, List.map_cons, List.sum_cons, List.cons_append, Nat.add_assoc]
theorem stL_len (beh : Nat) : ∀ (bs : List (List St)) (st : Nat), (stL beh bs st).length = bs.length
  | [], _ => rfl
  | b :: bs, st => by rw [stL, List.length_cons, stL_len beh bs, List.length_cons]
def sp_statement_ways (K : PySem.W.Frag) (n : Nat) : Sp := fun us H Q _ => ∃ (x : V) (s : St) (pt fo d : Nat) (He : Hp), us = [x, .int (pt : Nat), .int (fo : Nat)] ∧ Same He H ∧ StT K He x s ∧ cntS s ≤ 60 ∧ allS (fun d _ => d ≤ 6) d s ∧ 7 ≤ d + n ∧
  ∀ (l : Addr) (ws : List V) (H' : Hp), Same H H' → H l = none → H' l = some (.lst ws) → All2 (WyAt K He H') ws (wayS s pt fo) → Q (.ref l) H'
def sp_body_ways (K : PySem.W.Frag) (n : Nat) : Sp := fun us H Q _ => ∃ (v : V) (b : List St) (fi be d : Nat) (He : Hp), us = [v, .int (fi : Nat), .int (be : Nat)] ∧ Same He H ∧ BdT K He v b ∧ cntB b ≤ 60 ∧ allB (fun d _ => d ≤ 6) d b ∧ 7 ≤ d + n ∧
  ∀ (l : Addr) (ws : List V) (H' : Hp), Same H H' → H l = none → H' l = some (.lst ws) → All2 (WyAt K He H') ws (wayB b fi be) → Q (.ref l) H'
theorem ok_statement_ways_of (T : Txt P K mg c) {n : Nat} (R : Has P w K mg base (2 * n + 4) "body_ways" ["body", "first", "behind"] (sp_body_ways K n)) : Has P w K mg base (2 * n + 5) "statement_ways" ["statement", "point", "follows"] (sp_statement_ways K (n + 1)) := by
  obtain ⟨f_body_ways, fd_body_ways, G_body_ways, m_body_ways, k_body_ways, b_body_ways⟩ := R
  obtain ⟨f, fd, F, m, b⟩ := T.d_statement_ways.ex
  obtain ⟨f_bodies_of, fd_bodies_of, G_bodies_of, m_bodies_of, k_bodies_of, b_bodies_of⟩ := ok_bodies_of (P := P) (w := w) (base := base) T
  refine ⟨f, fd, F.ok sc_statement_ways (fun vs H Q E h => ?_) (fun cdv A outer s H vs Q E hr h => ?_), m, F.kp, b⟩
  · obtain ⟨x, s, pt, fo, d, He, rfl, s00, hs, hc, hd, hdn, q⟩ := h
    rfl
  obtain ⟨x, s, pt, fo, d, He, rfl, s00, hs, hc, hd, hdn, q⟩ := h
  refine ⟨_, (pss_cons (ps_set (i := 3) sc_statement_ways.nd rfl (.inl rfl) (pe_ix ix_tup (pv 0) pe_int (fun _ _ => rfl)))
      (pss_cons (ps_if (pt_cmpR op_notIn_seq (pv 3) (pe_tup (pa_cons pe_str (pa_cons pe_str pa_nil))) (by rfl))
      (pss_one (ps_ret (pe_lst (pa_cons (pe_tup (pa_cons (pv 0) (pa_cons (pe_tup (pa_cons (pv 2) pa_nil)) pa_nil))) pa_nil))))
      pss_nil)
      (pss_cons (ps_set (i := 4) sc_statement_ways.nd rfl (.inl rfl) (pe_ifExp (pt_cmpR op_eq (pv 3) pe_str (nomark _)) (pv 1) (pv 2)))
      (pss_cons (ps_set (i := 5) sc_statement_ways.nd rfl (.inl rfl) (pe_lst pa_nil))
      (pss_cons (ps_set (i := 6) sc_statement_ways.nd rfl (.inl rfl) (pe_lst pa_nil))
      (pss_cons (ps_for PassesOwn.never rfl (pi_tup (pe_call G_bodies_of (hr.mono (by omega)) (by rfl) m_bodies_of k_bodies_of b_bodies_of .nil pass0 (pa_cons (pv 0) pa_nil))) (pg_name (i := 7) sc_statement_ways.nd rfl (.inl rfl))
      (pss_cons (ps_set (i := 8) sc_statement_ways.nd rfl (.inl rfl) (pe_op op_add (pe_op op_add (pv 1) pe_int) (pe_callB call_len_seq (by rfl) T.z_len (by decide +kernel) (pa_cons (pv 5) pa_nil))))
        (pss_cons (ps_expr (pe_bm PySem.F.plainAttrs_list PySem.F.slot_list_append PySem.F.type_list_append mt_append (pv 6) (pa_cons (pe_ifExp (pt_truth (pv 7) (by intro _; rfl)) (pv 8) (pv 4)) pa_nil)))
        (pss_one (ps_expr (pe_bm PySem.F.plainAttrs_list PySem.F.slot_list_extend PySem.F.type_list_extend mt_extend (pv 5) (pa_cons (pe_call G_body_ways (hr.mono (by omega)) (by rfl) m_body_ways k_body_ways b_body_ways .nil pass0 (pa_cons (pv 7) (pa_cons (pv 8) (pa_cons (pv 4) pa_nil)))) pa_nil)))))))
      (pss_cons (ps_set (i := 9) sc_statement_ways.nd rfl (.inl rfl) (pe_ifExp (pt_cmpR op_eq (pv 3) pe_str (nomark _)) (pe_tup (pa_cons (pe_ix ix_list (pv 6) pe_int (fun _ _ => rfl)) (pa_cons (pv 2) pa_nil))) (pe_tup (pa_cons (pe_ix ix_list (pv 6) pe_int (fun _ _ => rfl)) (pa_cons (pe_ix ix_list (pv 6) pe_int (fun _ _ => rfl)) pa_nil)))))
      (pss_one (ps_ret (pe_op op_cat (pe_lst (pa_cons (pe_tup (pa_cons (pv 0) (pa_cons (pv 9) pa_nil))) pa_nil)) (pv 5))))))))))), ?_⟩
  cases s with
  | set v e =>
    obtain ⟨p, ys, rfl, hp⟩ := hs.at.hd
    have hp := seqT_same s00 hp
    refine ⟨_, rfl, p, _, _, _, rfl, rfl, hp, h0, ?_⟩
    refine ⟨_, rfl, by show 2 ≤ sizeLine; decide, fun tw ntw => ⟨tw, _, rfl, .inr (SqT.of upd_same), rfl, by decide +kernel, _, rfl, ?_⟩⟩
    refine ite2 (fun _ => ?_) (fun e => absurd (show (!inV (V.str "set") [V.str "if", V.str "while"]) = true by decide +kernel) e)
    have s0 := same_new (o := .tup [.str "if", .str "while"]) ntw
    refine ⟨_, rfl, _, rfl, by show 1 ≤ sizeLine; decide, fun u nu => ⟨by show 2 ≤ sizeLine; decide, fun t2 n2 => ⟨by show 1 ≤ sizeLine; decide, fun l nl => ?_⟩⟩⟩
    have s1 := s0.trans (same_new (o := .tup [.int (fo : Nat)]) nu)
    have s2 := s1.trans (same_new (o := .tup [.ref p, .ref u]) n2)
    have s3 := s2.trans (same_new (o := .lst [.ref t2]) nl)
    refine q l [.ref t2] _ s3 (same_back s2 nl) upd_same ?_
    rw [wayS]
    exact .one ⟨t2, .ref p, u, rfl, SqT.of (same_new nl _ _ upd_same), hs, SqT.of (same_new nl _ _ (same_new n2 _ _ upd_same))⟩
  | read v =>
    obtain ⟨p, ys, rfl, hp⟩ := hs.at.hd
    have hp := seqT_same s00 hp
    refine ⟨_, rfl, p, _, _, _, rfl, rfl, hp, h0, ?_⟩
    refine ⟨_, rfl, by show 2 ≤ sizeLine; decide, fun tw ntw => ⟨tw, _, rfl, .inr (SqT.of upd_same), rfl, by decide +kernel, _, rfl, ?_⟩⟩
    refine ite2 (fun _ => ?_) (fun e => absurd (show (!inV (V.str "read") [V.str "if", V.str "while"]) = true by decide +kernel) e)
    have s0 := same_new (o := .tup [.str "if", .str "while"]) ntw
    refine ⟨_, rfl, _, rfl, by show 1 ≤ sizeLine; decide, fun u nu => ⟨by show 2 ≤ sizeLine; decide, fun t2 n2 => ⟨by show 1 ≤ sizeLine; decide, fun l nl => ?_⟩⟩⟩
    have s1 := s0.trans (same_new (o := .tup [.int (fo : Nat)]) nu)
    have s2 := s1.trans (same_new (o := .tup [.ref p, .ref u]) n2)
    have s3 := s2.trans (same_new (o := .lst [.ref t2]) nl)
    refine q l [.ref t2] _ s3 (same_back s2 nl) upd_same ?_
    rw [wayS]
    exact .one ⟨t2, .ref p, u, rfl, SqT.of (same_new nl _ _ upd_same), hs, SqT.of (same_new nl _ _ (same_new n2 _ _ upd_same))⟩
  | write e =>
    obtain ⟨p, ys, rfl, hp⟩ := hs.at.hd
    have hp := seqT_same s00 hp
    refine ⟨_, rfl, p, _, _, _, rfl, rfl, hp, h0, ?_⟩
    refine ⟨_, rfl, by show 2 ≤ sizeLine; decide, fun tw ntw => ⟨tw, _, rfl, .inr (SqT.of upd_same), rfl, by decide +kernel, _, rfl, ?_⟩⟩
    refine ite2 (fun _ => ?_) (fun e => absurd (show (!inV (V.str "write") [V.str "if", V.str "while"]) = true by decide +kernel) e)
    have s0 := same_new (o := .tup [.str "if", .str "while"]) ntw
    refine ⟨_, rfl, _, rfl, by show 1 ≤ sizeLine; decide, fun u nu => ⟨by show 2 ≤ sizeLine; decide, fun t2 n2 => ⟨by show 1 ≤ sizeLine; decide, fun l nl => ?_⟩⟩⟩
    have s1 := s0.trans (same_new (o := .tup [.int (fo : Nat)]) nu)
    have s2 := s1.trans (same_new (o := .tup [.ref p, .ref u]) n2)
    have s3 := s2.trans (same_new (o := .lst [.ref t2]) nl)
    refine q l [.ref t2] _ s3 (same_back s2 nl) upd_same ?_
    rw [wayS]
    exact .one ⟨t2, .ref p, u, rfl, SqT.of (same_new nl _ _ upd_same), hs, SqT.of (same_new nl _ _ (same_new n2 _ _ upd_same))⟩
  | call g as =>
    obtain ⟨p, ys, rfl, hp⟩ := hs.at.hd
    have hp := seqT_same s00 hp
    refine ⟨_, rfl, p, _, _, _, rfl, rfl, hp, h0, ?_⟩
    refine ⟨_, rfl, by show 2 ≤ sizeLine; decide, fun tw ntw => ⟨tw, _, rfl, .inr (SqT.of upd_same), rfl, by decide +kernel, _, rfl, ?_⟩⟩
    refine ite2 (fun _ => ?_) (fun e => absurd (show (!inV (V.str "call") [V.str "if", V.str "while"]) = true by decide +kernel) e)
    have s0 := same_new (o := .tup [.str "if", .str "while"]) ntw
    refine ⟨_, rfl, _, rfl, by show 1 ≤ sizeLine; decide, fun u nu => ⟨by show 2 ≤ sizeLine; decide, fun t2 n2 => ⟨by show 1 ≤ sizeLine; decide, fun l nl => ?_⟩⟩⟩
    have s1 := s0.trans (same_new (o := .tup [.int (fo : Nat)]) nu)
    have s2 := s1.trans (same_new (o := .tup [.ref p, .ref u]) n2)
    have s3 := s2.trans (same_new (o := .lst [.ref t2]) nl)
    refine q l [.ref t2] _ s3 (same_back s2 nl) upd_same ?_
    rw [wayS]
    exact .one ⟨t2, .ref p, u, rfl, SqT.of (same_new nl _ _ upd_same), hs, SqT.of (same_new nl _ _ (same_new n2 _ _ upd_same))⟩
  | skip =>
    obtain ⟨p, ys, rfl, hp⟩ := hs.at.hd
    have hp := seqT_same s00 hp
    refine ⟨_, rfl, p, _, _, _, rfl, rfl, hp, h0, ?_⟩
    refine ⟨_, rfl, by show 2 ≤ sizeLine; decide, fun tw ntw => ⟨tw, _, rfl, .inr (SqT.of upd_same), rfl, by decide +kernel, _, rfl, ?_⟩⟩
    refine ite2 (fun _ => ?_) (fun e => absurd (show (!inV (V.str "skip") [V.str "if", V.str "while"]) = true by decide +kernel) e)
    have s0 := same_new (o := .tup [.str "if", .str "while"]) ntw
    refine ⟨_, rfl, _, rfl, by show 1 ≤ sizeLine; decide, fun u nu => ⟨by show 2 ≤ sizeLine; decide, fun t2 n2 => ⟨by show 1 ≤ sizeLine; decide, fun l nl => ?_⟩⟩⟩
    have s1 := s0.trans (same_new (o := .tup [.int (fo : Nat)]) nu)
    have s2 := s1.trans (same_new (o := .tup [.ref p, .ref u]) n2)
    have s3 := s2.trans (same_new (o := .lst [.ref t2]) nl)
    refine q l [.ref t2] _ s3 (same_back s2 nl) upd_same ?_
    rw [wayS]
    exact .one ⟨t2, .ref p, u, rfl, SqT.of (same_new nl _ _ upd_same), hs, SqT.of (same_new nl _ _ (same_new n2 _ _ upd_same))⟩
  | ifs e b o =>
    obtain ⟨p, ys, rfl, hp⟩ := hs.at.hd
    have hp := seqT_same s00 hp
    refine ⟨_, rfl, p, _, _, _, rfl, rfl, hp, h0, ?_⟩
    refine ⟨_, rfl, by show 2 ≤ sizeLine; decide, fun tw ntw => ⟨tw, _, rfl, .inr (SqT.of upd_same), rfl, by decide +kernel, _, rfl, ?_⟩⟩
    refine ite2 (fun e => absurd (show (!inV (V.str "if") [V.str "if", V.str "while"]) = true from e) (by decide +kernel)) fun _ => ?_
    have s0 := same_new (o := .tup [.str "if", .str "while"]) ntw
    generalize upd H tw (.tup [.str "if", .str "while"]) = H1 at s0 ⊢
    refine ⟨_, rfl, rfl, _, rfl, nope (wd (show (("if" : Str) == "while") = false by decide +kernel)) ⟨_, rfl, ?_⟩⟩
    refine ⟨by show 0 ≤ sizeLine; decide, fun I nI => ⟨by show 0 ≤ sizeLine; decide, fun S nS => ?_⟩⟩
    have e1 := same_new (o := .lst []) nI
    have e2 := e1.trans (same_new (o := .lst []) nS)
    have hI2 : (upd (upd H1 I (.lst [])) S (.lst [])) I = some (.lst []) := same_new nS _ _ upd_same
    have hS2 := upd_same (H := upd H1 I (.lst [])) (a := S) (o := .lst [])
    have nIS : I ≠ S := ne_of_none (upd_same (H := H1) (a := I) (o := .lst [])) nS
    have s2 := s0.trans e2
    have nIH : H I = none := s0.free nI
    have nSH : H S = none := (s0.trans e1).free nS
    generalize upd (upd H1 I (.lst [])) S (.lst []) = H2 at e2 hI2 hS2 s2 ⊢
    have hrel := hs.rel
    have sx : cntS (.ifs e b o) = 1 + ((St.inn (.ifs e b o)).map cntB).sum := cnt_inn _
    have ain := all_inn hd
    have d6 : d ≤ 6 := allS_hd hd
    generalize hBS : St.inn (.ifs e b o) = BS at sx ain
    refine ⟨_, rfl, .ref p, .ifs e b o, He, BdT K He, rfl, s00.trans s2, hrel, fun te xs H3 s3 hte hin => ⟨te, rfl, ⟨_, hte⟩, ?_⟩⟩
    rw [hBS] at hin
    show Exists _
    refine for_it (walk_tup (K := K) (a := te) (xs := xs)) (fun i σ H' => ∃ y7 y8 ws, σ = [some (.ref p), some (.int (pt : Nat)), some (.int (fo : Nat)), some (.str "if"), some (.int (fo : Nat)), some (.ref I), some (.ref S), y7, y8, none] ∧ Same H H' ∧ SqT K H' te xs ∧ H' I = some (.lst ws) ∧ All2 (WyAt K He H') ws (wayI fo (BS.take i) (pt + 1)) ∧ H' S = some (.lst ((stL fo (BS.take i) (pt + 1)).map fun n => V.int (n : Nat))))
      ⟨_, _, [], rfl, s2.trans s3, hte, s3 _ _ hI2, .nil, s3 _ _ hS2⟩ (fun i σ H' _ h' => ?_) ?_ ?_
    · obtain ⟨_, _, _, _, _, h, _⟩ := h'
      exact h
    · rintro i z σ Hx H4 hi ⟨y7, y8, ws, rfl, s4, hte4, hI4, hws, hS4⟩ ⟨rfl, hz⟩
      obtain ⟨b2, eb2, hb2⟩ := hin.at hz
      have mb := List.mem_of_getElem? eb2
      have lws := hws.1
      rw [wayI_len] at lws
      have stk := sum_take_le (BS.map cntB) (i + 1)
      have emb : (BS.map cntB)[i]? = some (cntB b2) := by rw [List.getElem?_map, eb2]; rfl
      rw [take_succ_at emb, List.sum_append] at stk
      have stk : ((BS.map cntB).take i).sum + cntB b2 ≤ (BS.map cntB).sum := by simpa using stk
      rw [← List.map_take] at stk
      refine ⟨_, rfl, _, _, rfl, rfl, _, rfl, I, ws, rfl, .inl (SqL.of hI4), _, _, rfl, rfl, ?_⟩
      obtain ⟨ab, xb, rfl, hqb, hxb⟩ := hb2.un
      have gst : (pt : Int) + 1 + ((ws.length : Nat) : Int) = ((pt + 1 + ((BS.take i).map cntB).sum : Nat) : Int) := by rw [lws]; omega
      have hem : (!xb.isEmpty) = !decide (b2 = []) := by
        have := hxb.1
        cases xb <;> cases b2 <;> simp at this ⊢
      have lst : ((stL fo (BS.take i) (pt + 1)).map fun n => V.int (n : Nat)).length < sizeLine := by
        rw [List.length_map, stL_len, List.length_take]
        have := hin.1
        have := (List.getElem?_eq_some_iff.mp eb2).1
        exact small1000 (by have := inn_len (.ifs e b o); rw [hBS] at this; omega)
      have cont : ∀ nv : Nat, nv = (if b2 = [] then fo else pt + 1 + ((BS.take i).map cntB).sum) → ∃ xs0 ys0 zs0, xs0 = S ∧ ys0 = zs0 ∧ zs0 = nv := fun nv _ => ⟨_, nv, nv, rfl, rfl, rfl⟩
      refine ⟨_, rfl, .inl ⟨rfl, _, SqL.of hS4⟩, _, rfl, _, .inr (.inl ⟨xb, seqT_same (s00.trans s4) hqb, rfl⟩), ?_⟩
      have stl1 : ((stL fo (BS.take i) (pt + 1)).map fun n => V.int (n : Nat)) ++ [V.int ((if b2 = [] then fo else pt + 1 + ((BS.take i).map cntB).sum : Nat) : Int)] = (stL fo (BS.take (i + 1)) (pt + 1)).map fun n => V.int (n : Nat) := by
        rw [take_succ_at eb2, stL_snoc, List.map_append]
        rfl
      rw [hem]
      rcases Decidable.em (b2 = []) with hb0 | hb0
      case' inl =>
        rw [decide_eq_true hb0]
        rw [if_pos hb0] at stl1
        refine iteF ⟨_, rfl, S, _, _, rfl, rfl, hS4, lst, ?_⟩
        rw [stl1]
      case' inr =>
        rw [decide_eq_false hb0]
        rw [if_neg hb0] at stl1
        refine iteT ⟨_, rfl, S, _, _, rfl, rfl, hS4, lst, ?_⟩
        rw [show (fun i j => V.int (i + j)) ((pt : Int) + 1) ((ws.length : Nat) : Int) = V.int ((pt + 1 + ((BS.take i).map cntB).sum : Nat) : Int) from congrArg V.int gst, stl1]
      all_goals
        have hS5 := upd_same (H := H4) (a := S) (o := .lst ((stL fo (BS.take (i + 1)) (pt + 1)).map fun n => V.int (n : Nat)))
        have f5 : Fr S H4 (upd H4 S (.lst ((stL fo (BS.take (i + 1)) (pt + 1)).map fun n => V.int (n : Nat)))) := Fr.upd
        have hI5 := f5 _ _ nIS hI4
        have hte5 := seqT_frl hS4 f5 hte4
        have hws5 := hws.imp fun _ _ h => h.fl hS4 f5
        have s5 : Same H (upd H4 S (.lst ((stL fo (BS.take (i + 1)) (pt + 1)).map fun n => V.int (n : Nat)))) := same_mut s4 nSH
        generalize upd H4 S (.lst ((stL fo (BS.take (i + 1)) (pt + 1)).map fun n => V.int (n : Nat))) = H5 at hS5 f5 hI5 hte5 hws5 s5 ⊢
        refine ⟨_, rfl, .inl ⟨rfl, _, SqL.of hI5⟩, ?_⟩
        refine ⟨_, rfl, _, rfl, _, rfl, .ref ab, b2, pt + 1 + ((BS.take i).map cntB).sum, fo, d + 1, He, (by first | rfl | exact congrArg (fun z => [V.ref ab, V.int z, V.int (fo : Nat)]) gst), s00.trans s5, hb2, by omega, ain b2 mb, by omega, fun l ws2 H6 s6 nl hl hw2 => ?_⟩
        have lw2 := hw2.1
        rw [wayB_len] at lw2
        have hI6 := s6 _ _ hI5
        refine ⟨I, l, ws, ws2, rfl, rfl, hI6, hl, line_small (by omega), ?_⟩
        refine ⟨_, _, ws ++ ws2, rfl, same_mut (s5.trans s6) nIH, seqT_mut hI6 (seqT_same s6 hte5), upd_same, ?_, (upd_ne nIS.symm).trans (s6 _ _ hS5)⟩
        rw [take_succ_at eb2, wayI_snoc]
        exact (hws5.imp fun _ _ h => (h.same s6).mut hI6).app (hw2.imp fun _ _ h => h.mut hI6)
    · rintro σ H4 ⟨y7, y8, ws, rfl, s4, hte4, hI4, hws, hS4⟩
      rw [hin.1, List.take_length] at hws hS4
      have lws := hws.1
      rw [wayI_len] at lws
      have hBS' : BS = [b, o] := hBS.symm
      subst hBS'
      have hst : (stL fo [b, o] (pt + 1)).map (fun n => V.int (n : Nat)) = [V.int ((if b = [] then fo else pt + 1 : Nat) : Int), V.int ((if o = [] then fo else pt + 1 + cntB b : Nat) : Int)] := rfl
      rw [hst] at hS4
      refine ⟨_, rfl, rfl, _, rfl, nope (wd (show (("if" : Str) == "while") = false by decide +kernel)) ⟨_, rfl, S, _, _, _, rfl, rfl, SqL.of hS4, atI_nat (j := 0) rfl, _, rfl, S, _, _, _, rfl, rfl, SqL.of hS4, atI_nat (j := 1) rfl, by show 2 ≤ sizeLine; decide, fun tw2 nt2 => ?_⟩⟩
      have e5 := same_new (o := .tup [V.int ((if b = [] then fo else pt + 1 : Nat) : Int), V.int ((if o = [] then fo else pt + 1 + cntB b : Nat) : Int)]) nt2
      have htw := upd_same (H := H4) (a := tw2) (o := .tup [V.int ((if b = [] then fo else pt + 1 : Nat) : Int), V.int ((if o = [] then fo else pt + 1 + cntB b : Nat) : Int)])
      generalize upd H4 tw2 (.tup [V.int ((if b = [] then fo else pt + 1 : Nat) : Int), V.int ((if o = [] then fo else pt + 1 + cntB b : Nat) : Int)]) = H5 at e5 htw ⊢
      refine ⟨_, rfl, _, rfl, by show 2 ≤ sizeLine; decide, fun t6 n6 => ⟨by show 1 ≤ sizeLine; decide, fun l7 n7 => ?_⟩⟩
      have e6 := same_new (o := .tup [.ref p, .ref tw2]) n6
      have e7 := same_new (o := .lst [.ref t6]) n7
      have hI7 : (upd (upd H5 t6 (.tup [.ref p, .ref tw2])) l7 (.lst [.ref t6])) I = some (.lst ws) := e7 _ _ (e6 _ _ (e5 _ _ hI4))
      refine ⟨_, rfl, l7, I, _, _, rfl, rfl, upd_same, hI7, line_small (by show 1 + ws.length ≤ 100000; omega), fun r8 n8 => ?_⟩
      have s48 := ((e5.trans e6).trans e7).trans (same_new (o := .lst ([V.ref t6] ++ ws)) n8)
      refine q r8 _ _ (s4.trans s48) ((s4.trans ((e5.trans e6).trans e7)).free n8) upd_same ?_
      rw [wayS]
      refine All2.app (xs := [V.ref t6]) (ys := [_]) (.one ⟨t6, .ref p, tw2, rfl, SqT.of (same_new n8 _ _ (e7 _ _ upd_same)), hs, SqT.of (same_new n8 _ _ (e7 _ _ (e6 _ _ htw)))⟩) ?_
      have hh := hws.imp fun _ _ h => h.same s48
      have ew : wayI fo [b, o] (pt + 1) = wayB b (pt + 1) fo ++ wayB o (pt + 1 + cntB b) fo := by rw [wayI, wayI, wayI, List.append_nil]
      rw [ew] at hh
      exact hh
  | whi e b =>
    obtain ⟨p, ys, rfl, hp⟩ := hs.at.hd
    have hp := seqT_same s00 hp
    refine ⟨_, rfl, p, _, _, _, rfl, rfl, hp, h0, ?_⟩
    refine ⟨_, rfl, by show 2 ≤ sizeLine; decide, fun tw ntw => ⟨tw, _, rfl, .inr (SqT.of upd_same), rfl, by decide +kernel, _, rfl, ?_⟩⟩
    refine ite2 (fun e => absurd (show (!inV (V.str "while") [V.str "if", V.str "while"]) = true from e) (by decide +kernel)) fun _ => ?_
    have s0 := same_new (o := .tup [.str "if", .str "while"]) ntw
    generalize upd H tw (.tup [.str "if", .str "while"]) = H1 at s0 ⊢
    refine ⟨_, rfl, rfl, _, rfl, yes rfl ⟨_, rfl, ?_⟩⟩
    refine ⟨by show 0 ≤ sizeLine; decide, fun I nI => ⟨by show 0 ≤ sizeLine; decide, fun S nS => ?_⟩⟩
    have e1 := same_new (o := .lst []) nI
    have e2 := e1.trans (same_new (o := .lst []) nS)
    have hI2 : (upd (upd H1 I (.lst [])) S (.lst [])) I = some (.lst []) := same_new nS _ _ upd_same
    have hS2 := upd_same (H := upd H1 I (.lst [])) (a := S) (o := .lst [])
    have nIS : I ≠ S := ne_of_none (upd_same (H := H1) (a := I) (o := .lst [])) nS
    have s2 := s0.trans e2
    have nIH : H I = none := s0.free nI
    have nSH : H S = none := (s0.trans e1).free nS
    generalize upd (upd H1 I (.lst [])) S (.lst []) = H2 at e2 hI2 hS2 s2 ⊢
    have hrel := hs.rel
    have sx : cntS (.whi e b) = 1 + ((St.inn (.whi e b)).map cntB).sum := cnt_inn _
    have ain := all_inn hd
    have d6 : d ≤ 6 := allS_hd hd
    generalize hBS : St.inn (.whi e b) = BS at sx ain
    refine ⟨_, rfl, .ref p, .whi e b, He, BdT K He, rfl, s00.trans s2, hrel, fun te xs H3 s3 hte hin => ⟨te, rfl, ⟨_, hte⟩, ?_⟩⟩
    rw [hBS] at hin
    show Exists _
    refine for_it (walk_tup (K := K) (a := te) (xs := xs)) (fun i σ H' => ∃ y7 y8 ws, σ = [some (.ref p), some (.int (pt : Nat)), some (.int (fo : Nat)), some (.str "while"), some (.int (pt : Nat)), some (.ref I), some (.ref S), y7, y8, none] ∧ Same H H' ∧ SqT K H' te xs ∧ H' I = some (.lst ws) ∧ All2 (WyAt K He H') ws (wayI pt (BS.take i) (pt + 1)) ∧ H' S = some (.lst ((stL pt (BS.take i) (pt + 1)).map fun n => V.int (n : Nat))))
      ⟨_, _, [], rfl, s2.trans s3, hte, s3 _ _ hI2, .nil, s3 _ _ hS2⟩ (fun i σ H' _ h' => ?_) ?_ ?_
    · obtain ⟨_, _, _, _, _, h, _⟩ := h'
      exact h
    · rintro i z σ Hx H4 hi ⟨y7, y8, ws, rfl, s4, hte4, hI4, hws, hS4⟩ ⟨rfl, hz⟩
      obtain ⟨b2, eb2, hb2⟩ := hin.at hz
      have mb := List.mem_of_getElem? eb2
      have lws := hws.1
      rw [wayI_len] at lws
      have stk := sum_take_le (BS.map cntB) (i + 1)
      have emb : (BS.map cntB)[i]? = some (cntB b2) := by rw [List.getElem?_map, eb2]; rfl
      rw [take_succ_at emb, List.sum_append] at stk
      have stk : ((BS.map cntB).take i).sum + cntB b2 ≤ (BS.map cntB).sum := by simpa using stk
      rw [← List.map_take] at stk
      refine ⟨_, rfl, _, _, rfl, rfl, _, rfl, I, ws, rfl, .inl (SqL.of hI4), _, _, rfl, rfl, ?_⟩
      obtain ⟨ab, xb, rfl, hqb, hxb⟩ := hb2.un
      have gst : (pt : Int) + 1 + ((ws.length : Nat) : Int) = ((pt + 1 + ((BS.take i).map cntB).sum : Nat) : Int) := by rw [lws]; omega
      have hem : (!xb.isEmpty) = !decide (b2 = []) := by
        have := hxb.1
        cases xb <;> cases b2 <;> simp at this ⊢
      have lst : ((stL pt (BS.take i) (pt + 1)).map fun n => V.int (n : Nat)).length < sizeLine := by
        rw [List.length_map, stL_len, List.length_take]
        have := hin.1
        have := (List.getElem?_eq_some_iff.mp eb2).1
        exact small1000 (by have := inn_len (.whi e b); rw [hBS] at this; omega)
      have cont : ∀ nv : Nat, nv = (if b2 = [] then pt else pt + 1 + ((BS.take i).map cntB).sum) → ∃ xs0 ys0 zs0, xs0 = S ∧ ys0 = zs0 ∧ zs0 = nv := fun nv _ => ⟨_, nv, nv, rfl, rfl, rfl⟩
      refine ⟨_, rfl, .inl ⟨rfl, _, SqL.of hS4⟩, _, rfl, _, .inr (.inl ⟨xb, seqT_same (s00.trans s4) hqb, rfl⟩), ?_⟩
      have stl1 : ((stL pt (BS.take i) (pt + 1)).map fun n => V.int (n : Nat)) ++ [V.int ((if b2 = [] then pt else pt + 1 + ((BS.take i).map cntB).sum : Nat) : Int)] = (stL pt (BS.take (i + 1)) (pt + 1)).map fun n => V.int (n : Nat) := by
        rw [take_succ_at eb2, stL_snoc, List.map_append]
        rfl
      rw [hem]
      rcases Decidable.em (b2 = []) with hb0 | hb0
      case' inl =>
        rw [decide_eq_true hb0]
        rw [if_pos hb0] at stl1
        refine iteF ⟨_, rfl, S, _, _, rfl, rfl, hS4, lst, ?_⟩
        rw [stl1]
      case' inr =>
        rw [decide_eq_false hb0]
        rw [if_neg hb0] at stl1
        refine iteT ⟨_, rfl, S, _, _, rfl, rfl, hS4, lst, ?_⟩
        rw [show (fun i j => V.int (i + j)) ((pt : Int) + 1) ((ws.length : Nat) : Int) = V.int ((pt + 1 + ((BS.take i).map cntB).sum : Nat) : Int) from congrArg V.int gst, stl1]
      all_goals
        have hS5 := upd_same (H := H4) (a := S) (o := .lst ((stL pt (BS.take (i + 1)) (pt + 1)).map fun n => V.int (n : Nat)))
        have f5 : Fr S H4 (upd H4 S (.lst ((stL pt (BS.take (i + 1)) (pt + 1)).map fun n => V.int (n : Nat)))) := Fr.upd
        have hI5 := f5 _ _ nIS hI4
        have hte5 := seqT_frl hS4 f5 hte4
        have hws5 := hws.imp fun _ _ h => h.fl hS4 f5
        have s5 : Same H (upd H4 S (.lst ((stL pt (BS.take (i + 1)) (pt + 1)).map fun n => V.int (n : Nat)))) := same_mut s4 nSH
        generalize upd H4 S (.lst ((stL pt (BS.take (i + 1)) (pt + 1)).map fun n => V.int (n : Nat))) = H5 at hS5 f5 hI5 hte5 hws5 s5 ⊢
        refine ⟨_, rfl, .inl ⟨rfl, _, SqL.of hI5⟩, ?_⟩
        refine ⟨_, rfl, _, rfl, _, rfl, .ref ab, b2, pt + 1 + ((BS.take i).map cntB).sum, pt, d + 1, He, (by first | rfl | exact congrArg (fun z => [V.ref ab, V.int z, V.int (pt : Nat)]) gst), s00.trans s5, hb2, by omega, ain b2 mb, by omega, fun l ws2 H6 s6 nl hl hw2 => ?_⟩
        have lw2 := hw2.1
        rw [wayB_len] at lw2
        have hI6 := s6 _ _ hI5
        refine ⟨I, l, ws, ws2, rfl, rfl, hI6, hl, line_small (by omega), ?_⟩
        refine ⟨_, _, ws ++ ws2, rfl, same_mut (s5.trans s6) nIH, seqT_mut hI6 (seqT_same s6 hte5), upd_same, ?_, (upd_ne nIS.symm).trans (s6 _ _ hS5)⟩
        rw [take_succ_at eb2, wayI_snoc]
        exact (hws5.imp fun _ _ h => (h.same s6).mut hI6).app (hw2.imp fun _ _ h => h.mut hI6)
    · rintro σ H4 ⟨y7, y8, ws, rfl, s4, hte4, hI4, hws, hS4⟩
      rw [hin.1, List.take_length] at hws hS4
      have lws := hws.1
      rw [wayI_len] at lws
      have hBS' : BS = [b] := hBS.symm
      subst hBS'
      have hst : (stL pt [b] (pt + 1)).map (fun n => V.int (n : Nat)) = [V.int ((if b = [] then pt else pt + 1 : Nat) : Int)] := rfl
      rw [hst] at hS4
      refine ⟨_, rfl, rfl, _, rfl, yes rfl ⟨_, rfl, S, _, _, _, rfl, rfl, SqL.of hS4, atI_nat (j := 0) rfl, _, rfl, by show 2 ≤ sizeLine; decide, fun tw2 nt2 => ?_⟩⟩
      have e5 := same_new (o := .tup [V.int ((if b = [] then pt else pt + 1 : Nat) : Int), V.int (fo : Nat)]) nt2
      have htw := upd_same (H := H4) (a := tw2) (o := .tup [V.int ((if b = [] then pt else pt + 1 : Nat) : Int), V.int (fo : Nat)])
      generalize upd H4 tw2 (.tup [V.int ((if b = [] then pt else pt + 1 : Nat) : Int), V.int (fo : Nat)]) = H5 at e5 htw ⊢
      refine ⟨_, rfl, _, rfl, by show 2 ≤ sizeLine; decide, fun t6 n6 => ⟨by show 1 ≤ sizeLine; decide, fun l7 n7 => ?_⟩⟩
      have e6 := same_new (o := .tup [.ref p, .ref tw2]) n6
      have e7 := same_new (o := .lst [.ref t6]) n7
      have hI7 : (upd (upd H5 t6 (.tup [.ref p, .ref tw2])) l7 (.lst [.ref t6])) I = some (.lst ws) := e7 _ _ (e6 _ _ (e5 _ _ hI4))
      refine ⟨_, rfl, l7, I, _, _, rfl, rfl, upd_same, hI7, line_small (by show 1 + ws.length ≤ 100000; omega), fun r8 n8 => ?_⟩
      have s48 := ((e5.trans e6).trans e7).trans (same_new (o := .lst ([V.ref t6] ++ ws)) n8)
      refine q r8 _ _ (s4.trans s48) ((s4.trans ((e5.trans e6).trans e7)).free n8) upd_same ?_
      rw [wayS]
      refine All2.app (xs := [V.ref t6]) (ys := [_]) (.one ⟨t6, .ref p, tw2, rfl, SqT.of (same_new n8 _ _ (e7 _ _ upd_same)), hs, SqT.of (same_new n8 _ _ (e7 _ _ (e6 _ _ htw)))⟩) ?_
      have hh := hws.imp fun _ _ h => h.same s48
      have ew : wayI pt [b] (pt + 1) = wayB b (pt + 1) pt := by rw [wayI, wayI, List.append_nil]
      rw [ew] at hh
      exact hh
theorem ok_body_ways_of (T : Txt P K mg c) {n : Nat} (R : Has P w K mg base (2 * n + 3) "statement_ways" ["statement", "point", "follows"] (sp_statement_ways K n)) : Has P w K mg base (2 * n + 4) "body_ways" ["body", "first", "behind"] (sp_body_ways K n) := by
  obtain ⟨f_statement_ways, fd_statement_ways, G_statement_ways, m_statement_ways, k_statement_ways, b_statement_ways⟩ := R
  obtain ⟨f, fd, F, m, b⟩ := T.d_body_ways.ex
  obtain ⟨f_body_length, fd_body_length, G_body_length, m_body_length, k_body_length, b_body_length⟩ := ok_body_length (P := P) (w := w) (base := base) T
  refine ⟨f, fd, F.ok sc_body_ways (fun vs H Q E h => ?_) (fun cdv A outer s H vs Q E hr h => ?_), m, F.kp, b⟩
  · obtain ⟨v, b, fi, be, d, He, rfl, s00, hv, hc, hd, hdn, q⟩ := h
    rfl
  obtain ⟨v, b, fi, be, d, He, rfl, s00, hv, hc, hd, hdn, q⟩ := h
  refine ⟨_, (pss_cons (ps_set (i := 3) sc_body_ways.nd rfl (.inl rfl) (pe_lst pa_nil))
      (pss_cons (ps_for PassesOwn.never rfl (pi_enT (by rfl) T.z_enumerate (pa_cons (pv 0) pa_nil)) (pg_tup rfl (pgs_cons (pg_name (i := 4) sc_body_ways.nd rfl (.inl rfl)) (pgs_cons (pg_name (i := 5) sc_body_ways.nd rfl (.inl rfl)) pgs_nil)))
      (pss_cons (ps_set (i := 6) sc_body_ways.nd rfl (.inl rfl) (pe_op op_add (pv 1) (pe_callB call_len_seq (by rfl) T.z_len (by decide +kernel) (pa_cons (pv 3) pa_nil))))
        (pss_cons (ps_set (i := 7) sc_body_ways.nd rfl (.inl rfl) (pe_cmpR op_eq (pe_op op_add (pv 4) pe_int) (pe_callB call_len_seq (by rfl) T.z_len (by decide +kernel) (pa_cons (pv 0) pa_nil)) (nomark _)))
        (pss_cons (ps_set (i := 8) sc_body_ways.nd rfl (.inl rfl) (pe_ifExp (pt_val (pv 7)) (pv 2) (pe_op op_add (pv 6) (pe_call G_body_length (hr.mono (by omega)) (by rfl) m_body_length k_body_length b_body_length .nil pass0 (pa_cons (pe_tup (pa_cons (pv 5) pa_nil)) pa_nil)))))
        (pss_one (ps_expr (pe_bm PySem.F.plainAttrs_list PySem.F.slot_list_extend PySem.F.type_list_extend mt_extend (pv 3) (pa_cons (pe_call G_statement_ways (hr.mono (by omega)) (by rfl) m_statement_ways k_statement_ways b_statement_ways .nil pass0 (pa_cons (pv 5) (pa_cons (pv 6) (pa_cons (pv 8) pa_nil)))) pa_nil))))))))
      (pss_one (ps_ret (pv 3))))), ?_⟩
  obtain ⟨a, xs, rfl, hq, hb⟩ := hv.un
  have hq := seqT_same s00 hq
  have lx := hb.1
  refine ⟨by show 0 ≤ sizeLine; decide, fun F nF => ?_⟩
  have s0 := same_new (o := .lst []) nF
  have hF0 : (upd H F (.lst [])) F = some (.lst []) := upd_same
  generalize upd H F (.lst []) = H0 at s0 hF0 ⊢
  refine ⟨_, rfl, a, xs, rfl, seqT_same s0 hq, for_it walk_enT (fun i σ H' => ∃ y4 y5 y6 y7 y8, σ = [some (.ref a), some (.int (fi : Nat)), some (.int (be : Nat)), some (.ref F), y4, y5, y6, y7, y8] ∧ Same H H' ∧ ∃ acc, H' F = some (.lst acc) ∧ (i < b.length → All2 (WyAt K He H') acc (wayL (b.take i) fi)) ∧ (i = b.length → All2 (WyAt K He H') acc (wayB b fi be)))
    ⟨_, _, _, _, _, rfl, s0, [], hF0, fun _ => .nil, fun e => by rw [List.length_eq_zero_iff.mp e.symm]; exact .nil⟩ (fun i σ H' _ h' => ?_) ?_ ?_⟩
  · obtain ⟨_, _, _, _, _, _, s1, _⟩ := h'
    exact seqT_same s1 hq
  · rintro i x σ H1 H2 hi ⟨y4, y5, y6, y7, y8, rfl, s1, acc, hF, hacc, _⟩ ⟨T, z, x, rfl, nT, rfl, hz, hx⟩
    cases hz
    obtain ⟨s, es, hs⟩ := hb.at hx
    have hib : i < b.length := by omega
    have hacc := hacc hib
    have lacc := hacc.1
    rw [wayL_len] at lacc
    have cs := cntB_mem (List.mem_of_getElem? es)
    have ctk : cntB (b.take i) + cntS s ≤ 60 := by
      have h1 : cntB b = cntB (b.take i) + cntB (b.drop i) := by rw [← cntB_app, List.take_append_drop]
      have h2 := cntB_mem (b := b.drop i) (s := s) (List.mem_of_getElem? (i := 0) (by rw [List.getElem?_drop]; exact es))
      omega
    have s2 := s1.trans (same_new (o := .tup [.int (i : Nat), x]) nT)
    have hF2 := same_new (o := .tup [.int (i : Nat), x]) nT _ _ hF
    have hacc2 := hacc.imp fun _ _ h => h.same (same_new (o := .tup [.int (i : Nat), x]) nT)
    refine ⟨T, _, rfl, SqT.of upd_same, rfl, _, _, rfl, _, _, rfl, rfl, ?_⟩
    generalize upd H1 T (.tup [.int (i : Nat), x]) = H2 at s2 hF2 hacc2 ⊢
    refine ⟨_, rfl, _, rfl, F, _, rfl, .inl (SqL.of hF2), _, _, rfl, rfl, ?_⟩
    refine ⟨_, rfl, _, _, rfl, rfl, _, rfl, a, _, rfl, .inr (seqT_same s2 hq), rfl, ?_⟩
    have gpt : (fi : Int) + ((acc.length : Nat) : Int) = ((fi + cntB (b.take i) : Nat) : Int) := by rw [lacc]; omega
    refine ⟨_, rfl, _, rfl, ?_⟩
    have eb : b.take (i + 1) = b.take i ++ [s] := take_succ_at es
    by_cases hl : i + 1 = b.length
    · refine yes (congrArg V.int (by rw [lx]; omega)) ⟨_, rfl, ?_⟩
      refine ⟨_, rfl, .inl ⟨rfl, _, SqL.of hF2⟩, _, rfl, _, rfl, _, rfl, x, s, fi + cntB (b.take i), be, d, He, congrArg (fun z => [x, V.int z, V.int (be : Nat)]) gpt, s00.trans s2, hs, by omega, allB_mem hd s (List.mem_of_getElem? es), hdn, fun l ws H3 s3 nl hl' hw => ?_⟩
      have hF3 := s3 _ _ hF2
      have lw := hw.1
      rw [wayS_len] at lw
      refine ⟨F, l, acc, ws, rfl, rfl, hF3, hl', line_small (by omega), ?_⟩
      refine ⟨_, _, _, _, _, rfl, same_mut (s2.trans s3) nF, acc ++ ws, upd_same, fun h => absurd h (by omega), fun _ => ?_⟩
      have e2 : b = b.take i ++ [s] := by rw [← eb, hl, List.take_length]
      have e3 : wayB b fi be = wayL (b.take i) fi ++ wayS s (fi + cntB (b.take i)) be := by
        have := wayB_snoc (b.take i) s fi be
        rw [← e2] at this
        exact this
      rw [e3]
      exact (hacc2.imp fun _ _ h => (h.same s3).mut hF3).app (hw.imp fun _ _ h => h.mut hF3)
    · refine nope (fun z => hl (by have := V.int.inj z; rw [lx] at this; omega)) ?_
      refine ⟨_, rfl, _, rfl, by show 1 ≤ sizeLine; decide, fun t nt => ?_⟩
      have e4 := same_new (o := .tup [x]) nt
      refine ⟨.ref t, [s], rfl, ⟨.tuple (stDs [s]), by rw [stDs, stDs]; exact .tup (SqT.of upd_same) (.cons (dl_same ((s00.trans s2).trans e4) hs) .nil), rawB_d [s]⟩, by rw [cntB, cntB]; omega, fun H3 s3 => ?_⟩
      have s03 := e4.trans s3
      have hF3 := s03 _ _ hF2
      have gfo : (fi : Int) + ((acc.length : Nat) : Int) + ((cntB [s] : Nat) : Int) = ((fi + cntB (b.take i) + cntS s : Nat) : Int) := by rw [gpt, cntB, cntB]; omega
      refine ⟨_, _, rfl, rfl, ?_⟩
      refine ⟨_, rfl, .inl ⟨rfl, _, SqL.of hF3⟩, _, rfl, _, rfl, _, rfl, x, s, fi + cntB (b.take i), fi + cntB (b.take i) + cntS s, d, He, ?_, (s00.trans s2).trans s03, hs, by omega, allB_mem hd s (List.mem_of_getElem? es), hdn, fun l ws H4 s4 nl hl' hw => ?_⟩
      · show [x, V.int ((fi : Int) + ((acc.length : Nat) : Int)), V.int ((fi : Int) + ((acc.length : Nat) : Int) + ((cntB [s] : Nat) : Int))] = _
        rw [gfo, gpt]
      have hF4 := s4 _ _ hF3
      have lw := hw.1
      rw [wayS_len] at lw
      refine ⟨F, l, acc, ws, rfl, rfl, hF4, hl', line_small (by omega), ?_⟩
      refine ⟨_, _, _, _, _, rfl, same_mut ((s2.trans s03).trans s4) nF, acc ++ ws, upd_same, fun _ => ?_, fun h => absurd h hl⟩
      rw [eb, wayL_snoc]
      exact (hacc2.imp fun _ _ h => ((h.same s03).same s4).mut hF4).app (hw.imp fun _ _ h => h.mut hF4)
  · rintro σ H1 ⟨y4, y5, y6, y7, y8, rfl, s1, acc, hF, _, hacc⟩
    exact ⟨_, rfl, q F acc _ s1 nF hF (hacc lx)⟩
theorem ok_body_ways (T : Txt P K mg c) : ∀ n : Nat, Has P w K mg base (2 * n + 4) "body_ways" ["body", "first", "behind"] (sp_body_ways K n)
  | 0 => ok_body_ways_of T (.none T.d_statement_ways fun vs H Q E h => by
      obtain ⟨_, _, _, _, d, _, _, _, _, _, hd, h7, _⟩ := h
      have : d ≤ 6 := allS_hd hd
      omega)
  | n + 1 => ok_body_ways_of T (ok_statement_ways_of T (ok_body_ways T n))
/-! ### points and places -/
def slot (sc : List Vr) (v : Str) : Nat := (sc.map Vr.nm).idxOf v
theorem idx_at' {ys : List Str} {z : Str} (h : z ∈ ys) : ys[ys.idxOf z]? = some z ∧ ∀ m, m < ys.idxOf z → ys[m]? ≠ some z := by
  have hl := List.idxOf_lt_length_of_mem h
  refine ⟨by rw [List.getElem?_eq_getElem hl, List.getElem_idxOf hl], fun m hm e => ?_⟩
  obtain ⟨hm2, e2⟩ := List.getElem?_eq_some_iff.mp e
  have := List.not_of_lt_findIdx (xs := ys) (p := (· == z)) (i := m) hm
  rw [e2] at this
  simp at this
theorem index_str {K : PySem.W.Frag} {H : Hp} {a : Addr} {ys : List Str} {z : Str} {Q : VK} (hs : SqL K H a (ys.map V.str)) (h : z ∈ ys) (q : Q (.int (ys.idxOf z : Nat)) H) : rIndex K (.ref a) [.str z] H Q := by
  obtain ⟨h1, h2⟩ := idx_at' h
  refine ⟨a, _, .str z, ys.idxOf z, .str z, rfl, rfl, hs, rfl, ?_, by rw [List.getElem?_map, h1]; rfl, by simp [eqV], fun m z' hm e => ?_, q⟩
  · rw [List.all_eq_true]
    intro x hx
    obtain ⟨y, _, rfl⟩ := List.mem_map.mp hx
    rfl
  · rw [List.getElem?_map] at e
    cases e2 : ys[m]? with
    | none => rw [e2] at e; cases e
    | some y =>
      rw [e2] at e
      cases e
      have hne : y ≠ z := fun e3 => h2 m hm (by rw [e2, e3])
      simp [eqV, hne]
def sp_slot_of (K : PySem.W.Frag) : Sp := fun us H Q _ => ∃ (l : Addr) (ws : List V) (sc : List Vr) (v : Str), us = [.ref l, .str v] ∧ SqL K H l ws ∧ All2 (VrAt K H) ws sc ∧ sc.length ≤ 10 ∧ v ∈ sc.map Vr.nm ∧ ∀ H', Same H H' → Q (.int (slot sc v : Nat)) H'
theorem ok_slot_of (T : Txt P K mg c) : Has P w K mg base 1 "slot_of" ["sight", "name"] (sp_slot_of K) := by
  obtain ⟨f, fd, F, m, b⟩ := T.d_slot_of.ex
  refine ⟨f, fd, F.ok sc_slot_of (fun vs H Q E h => ?_) (fun cdv A outer s H vs Q E hr h => ?_), m, F.kp, b⟩
  · obtain ⟨l, ws, sc, v, rfl, hl, hw, l10, hm, q⟩ := h
    rfl
  obtain ⟨l, ws, sc, v, rfl, hl, hw, l10, hm, q⟩ := h
  refine ⟨_, (pss_one (ps_ret (pe_index (pe_lc (own := [("pair", 2)]) (g := gName 2) (by rfl) sc_slot_of.nd (pi_list (pv 0)) (blkOk_by (own := [("pair", 2)]) (N := ["sight", "name", "pair"]) (sc := defScope s_slot_of) (by decide +kernel)) (fun _ _ _ _ _ => pg_name (i := 2) sc_slot_of.nd rfl (Or.inl rfl)) (fun _ _ _ _ _ => pts_nil) (fun _ _ _ _ _ => (pe_ix (ix_tupK (K := K) rfl) (pv 2) pe_int (fun _ _ => rfl)))) (pv 1)))), ?_⟩
  have lw := hw.1
  refine .inl ⟨_, rfl, l, rfl, ⟨_, hl⟩, fun D nD => lc_it (walk_list (xs := ws)) (fun i H' => Same H H' ∧ H' D = some (.lst (nmsV (sc.take i)))) ⟨same_new nD, upd_same⟩ (fun i H' _ h' => h'.1.seq hl) ?_ ?_⟩
  · rintro i y H1 H2 hi ⟨s1, hD⟩ ⟨rfl, hy⟩
    obtain ⟨vr, evr, t, rfl, ht⟩ := hw.at hy
    refine ⟨rfl, _, rfl, t, _, _, _, rfl, rfl, seqT_same s1 ht, h0, _, hD, ?_, same_mut s1 nD, ?_⟩
    · unfold nmsV
      rw [List.length_map, List.length_map, List.length_take]
      exact small1000 (by omega)
    · unfold nmsV
      rw [upd_same, map_take_at evr, List.map_append]
      rfl
  · rintro H1 ⟨s1, hD⟩
    rw [lw, List.take_length] at hD
    exact ⟨.inl ⟨rfl, _, SqL.of hD⟩, _, rfl, index_str (SqL.of hD) hm (q _ s1)⟩
/-- role and size of a statement's places -/
def szOf (sc : List Vr) (v : Str) : Int := match sc.find? fun w => w.nm == v with
  | some w => w.sz
  | none => 0
def psOf (ps : List Pr) (p : Str) : List Vr := match ps.find? fun q => q.nm == p with
  | some q => q.ps
  | none => []
def aims (sc : List Vr) (a : Int) (ps : List Pr) : St → List (Str × Int)
  | .set v _ => (sc.filter fun w => w.nm == v).map fun w => ("set", w.sz)
  | .read _ => []
  | .write _ => [("write", a)]
  | .ifs _ _ _ => [("test", 2)]
  | .whi _ _ => [("test", 2)]
  | .call p _ => ((ps.filter fun q => q.nm == p).map fun q => q.ps.map fun w => (("pass" : Str), w.sz)).flatten
  | .skip => []
theorem filt_snoc {α : Type} (p : α → Bool) (xs : List α) (x : α) : (xs ++ [x]).filter p = xs.filter p ++ if p x = true then [x] else [] := by
  rw [List.filter_append, List.filter_cons]
  cases p x <;> rfl
theorem filt_one {α : Type} {f : α → Str} {z : Str} : ∀ {xs : List α}, (xs.map f).Nodup → xs.filter (fun x => f x == z) = (xs.find? fun x => f x == z).toList
  | [], _ => rfl
  | x :: xs, h => by
    rw [List.map_cons, List.nodup_cons] at h
    rw [List.filter_cons, List.find?_cons]
    cases e : f x == z with
    | true =>
      have : xs.filter (fun y => f y == z) = [] := by
        rw [List.filter_eq_nil_iff]
        intro y hy e2
        exact h.1 (by rw [eq_of_beq e, ← eq_of_beq e2]; exact List.mem_map.mpr ⟨y, hy, rfl⟩)
      simp [this]
    | false => simpa using filt_one h.2
def AimAt (K : PySem.W.Frag) (H : Hp) (x : V) (q : Str × Int) : Prop := ∃ t, x = .ref t ∧ SqT K H t [.str q.1, .int q.2]
theorem AimAt.same {K : PySem.W.Frag} {H H' : Hp} {x : V} {q : Str × Int} (e : Same H H') (h : AimAt K H x q) : AimAt K H' x q := let ⟨t, h1, h2⟩ := h; ⟨t, h1, seqT_same e h2⟩
theorem AimAt.mut {K : PySem.W.Frag} {H : Hp} {x : V} {q : Str × Int} {D : Addr} {zs : List V} {o : HO} (e : H D = some (.lst zs)) (h : AimAt K H x q) : AimAt K (upd H D o) x q := let ⟨t, h1, h2⟩ := h; ⟨t, h1, seqT_mut e h2⟩
/-- the procedures, as a tuple of any -/
def PrsQ (K : PySem.W.Frag) (H : Hp) (v : V) (ps : List Pr) : Prop := ∃ a xs, v = .ref a ∧ SqT K H a xs ∧ All2 (PrAt K H) xs ps
theorem PrsQ.same {K : PySem.W.Frag} {H H' : Hp} {v : V} {ps : List Pr} (e : Same H H') (h : PrsQ K H v ps) : PrsQ K H' v ps := let ⟨a, xs, h1, h2, h3⟩ := h; ⟨a, xs, h1, seqT_same e h2, h3.imp fun _ _ => PrAt.same e⟩
def sp_aims_of (K : PySem.W.Frag) : Sp := fun us H Q _ => ∃ (x : V) (s : St) (l : Addr) (ws : List V) (sc : List Vr) (a : Int) (v : V) (ps : List Pr), us = [x, .ref l, .int a, v] ∧ StAt K H x s ∧ SqL K H l ws ∧ All2 (VrAt K H) ws sc ∧ (sc.map Vr.nm).Nodup ∧ sc.length ≤ 10 ∧ PrsQ K H v ps ∧ (ps.map Pr.nm).Nodup ∧ ps.length ≤ 5 ∧ (∀ p ∈ ps, p.ps.length ≤ 3) ∧
  ∀ (r : Addr) (zs : List V) (H' : Hp), Same H H' → H r = none → H' r = some (.lst zs) → All2 (AimAt K H') zs (aims sc a ps s) → Q (.ref r) H'
theorem ok_aims_of (T : Txt P K mg c) : Has P w K mg base 1 "aims_of" ["statement", "sight", "answers", "procedures"] (sp_aims_of K) := by
  obtain ⟨f, fd, F, m, b⟩ := T.d_aims_of.ex
  refine ⟨f, fd, F.ok sc_aims_of (fun vs H Q E h => ?_) (fun cdv A outer s H vs Q E hr h => ?_), m, F.kp, b⟩
  · obtain ⟨x, s, l, ws, sc, a, v, ps, rfl, hs, hl, hw, nd, l10, hps, ndp, l5, l3, q⟩ := h
    rfl
  obtain ⟨x, s, l, ws, sc, a, v, ps, rfl, hs, hl, hw, nd, l10, hps, ndp, l5, l3, q⟩ := h
  refine ⟨_, (pss_cons (ps_set (i := 4) sc_aims_of.nd rfl (.inl rfl) (pe_ix ix_tup (pv 0) pe_int (fun _ _ => rfl)))
      (pss_cons (ps_if (pt_cmpR op_eq (pv 4) pe_str (nomark _))
      (pss_one (ps_ret (pe_lc (own := [("name", 5), ("size", 6)]) (by rfl) sc_aims_of.nd (pi_list (pv 1)) (blkOk_by (own := [("name", 5), ("size", 6)]) (N := ["statement", "sight", "answers", "procedures", "word", "name", "size", "procedure"]) (sc := defScope s_aims_of) (by decide +kernel)) (fun _ _ _ _ _ => (pg_tupK (K := K) (n := 2) rfl rfl (pgs_cons (pg_name (i := 5) sc_aims_of.nd rfl (.inl rfl)) (pgs_cons (pg_name (i := 6) sc_aims_of.nd rfl (.inl rfl)) pgs_nil)))) (fun _ _ _ _ _ => pts_one (pt_cmpR op_eq (pv 5) (pe_ix (ix_tupK (K := K) rfl) (pv 0) pe_int (fun _ _ => rfl)) (nomark _))) (fun _ _ _ _ _ => (pe_tup (pa_cons pe_str (pa_cons (pv 6) pa_nil)))))))
      pss_nil)
      (pss_cons (ps_if (pt_cmpR op_eq (pv 4) pe_str (nomark _))
      (pss_one (ps_ret (pe_lst (pa_cons (pe_tup (pa_cons pe_str (pa_cons (pv 2) pa_nil))) pa_nil))))
      pss_nil)
      (pss_cons (ps_if (pt_cmpR op_in_seq (pv 4) (pe_tup (pa_cons pe_str (pa_cons pe_str pa_nil))) (by rfl))
      (pss_one (ps_ret (pe_lst (pa_cons (pe_tup (pa_cons pe_str (pa_cons pe_int pa_nil))) pa_nil))))
      pss_nil)
      (pss_cons (ps_if (pt_cmpR op_eq (pv 4) pe_str (nomark _))
      (pss_one (ps_ret (pe_lc2 (own := [("procedure", 7), ("name", 5), ("size", 6)]) (vs1 := [5, 6]) (g := gName 7) (by rfl) sc_aims_of.nd (pi_tup (pv 3)) (blkOk_by (own := [("procedure", 7), ("name", 5), ("size", 6)]) (N := ["statement", "sight", "answers", "procedures", "word", "name", "size", "procedure"]) (sc := defScope s_aims_of) (by decide +kernel)) (by decide) (fun _ _ _ _ _ => (pg_name (i := 7) sc_aims_of.nd rfl (.inl rfl))) (fun _ _ _ _ _ => pts_one (pt_cmpR op_eq (pe_ix (ix_tupK (K := K) rfl) (pv 7) pe_int (fun _ _ => rfl)) (pe_ix (ix_tupK (K := K) rfl) (pv 0) pe_int (fun _ _ => rfl)) (nomark _))) (fun _ _ _ _ _ => (pi_alt (pi_listK (K := K) rfl (pe_ix (ix_tupK (K := K) rfl) (pv 7) pe_int (fun _ _ => rfl))) (pi_tupK (K := K) rfl (pe_ix (ix_tupK (K := K) rfl) (pv 7) pe_int (fun _ _ => rfl))))) (fun _ _ _ _ _ => (pg_tupK (K := K) (n := 2) rfl rfl (pgs_cons (pg_name (i := 5) sc_aims_of.nd rfl (.inl rfl)) (pgs_cons (pg_name (i := 6) sc_aims_of.nd rfl (.inl rfl)) pgs_nil)))) (fun _ _ _ _ _ => pts_nil) (fun _ _ _ _ _ => (pe_tup (pa_cons pe_str (pa_cons (pv 6) pa_nil)))))))
      pss_nil)
      (pss_one (ps_ret (pe_lst pa_nil)))))))), ?_⟩
  cases s with
  | set vn e =>
    obtain ⟨p, y, rfl, hp, _⟩ := hs.is
    refine ⟨_, rfl, p, _, _, _, rfl, rfl, hp, h0, ?_⟩
    refine ⟨_, rfl, rfl, _, rfl, yes rfl ?_⟩
    have lw := hw.1
    refine ⟨_, rfl, l, rfl, ⟨_, hl⟩, fun D nD => lc_it (walk_list (xs := ws)) (fun i H' => Same H H' ∧ ∃ zs, H' D = some (.lst zs) ∧ All2 (AimAt K H') zs (((sc.take i).filter fun w => w.nm == vn).map fun w => ("set", w.sz))) ⟨same_new nD, [], upd_same, .nil⟩ (fun i H' _ h' => h'.1.seq hl) ?_ ?_⟩
    · rintro i z H1 H2 hi ⟨s1, zs, hD, hz⟩ ⟨rfl, hy⟩
      obtain ⟨vr, evr, t, rfl, ht⟩ := hw.at hy
      have ez : (sc.take (i + 1)).filter (fun w => w.nm == vn) = (sc.take i).filter (fun w => w.nm == vn) ++ if vr.nm == vn then [vr] else [] := by
        rw [take_succ_at evr, filt_snoc]
      have lz : zs.length ≤ 10 := by
        rw [hz.1, List.length_map]
        exact Nat.le_trans (List.length_filter_le _ _) (by rw [List.length_take]; omega)
      refine ⟨t, _, rfl, seqT_same s1 ht, rfl, _, _, rfl, _, _, rfl, rfl, rfl, _, rfl, _, rfl, p, _, _, _, rfl, rfl, seqT_same s1 hp, h1, rfl, _, rfl, ?_⟩
      by_cases e : vr.nm = vn
      · refine yes (congrArg V.str e) ⟨_, rfl, by show 2 ≤ sizeLine; decide, fun t2 n2 => ⟨zs, same_new n2 _ _ hD, small1000 (by omega), same_mut (s1.trans (same_new n2)) nD, zs ++ [.ref t2], upd_same, ?_⟩⟩
        rw [ez, if_pos (beq_iff_eq.mpr e), List.map_append]
        have hD2 := same_new (o := .tup [.str "set", .int vr.sz]) n2 _ _ hD
        exact (hz.imp fun _ _ h => (h.same (same_new n2)).mut hD2).app (.one ⟨t2, rfl, seqT_mut hD2 (SqT.of upd_same)⟩)
      · refine nope (fun h => e (V.str.inj h)) ⟨s1, zs, hD, ?_⟩
        rw [ez, if_neg (fun h => e (eq_of_beq h)), List.append_nil]
        exact hz
    · rintro H1 ⟨s1, zs, hD, hz⟩
      rw [lw, List.take_length] at hz
      have hm : (sc.filter fun w => w.nm == vn).map (fun w => (("set" : Str), w.sz)) = (sc.filter fun w => w.nm == vn).map (fun w => (("set" : Str), w.sz)) := rfl
      exact q D zs H1 s1 nD hD hz
  | read vn =>
    obtain ⟨p, ys, rfl, hp⟩ := hs.hd
    refine ⟨_, rfl, p, _, _, _, rfl, rfl, hp, h0, ?_⟩
    refine ⟨_, rfl, rfl, _, rfl, nope (wd (show (("read" : Str) == "set") = false by decide +kernel)) ?_⟩
    refine ⟨_, rfl, rfl, _, rfl, nope (wd (show (("read" : Str) == "write") = false by decide +kernel)) ?_⟩
    refine ⟨_, rfl, by show 2 ≤ sizeLine; decide, fun tw ntw => ⟨tw, _, rfl, .inr (SqT.of upd_same), rfl, by decide +kernel, _, rfl, ?_⟩⟩
    have s0 := same_new (o := .tup [.str "if", .str "while"]) ntw
    refine ite2 (fun e => absurd (show inV (V.str "read") [V.str "if", V.str "while"] = true from e) (by decide +kernel)) fun _ => ?_
    refine ⟨_, rfl, rfl, _, rfl, nope (wd (show (("read" : Str) == "call") = false by decide +kernel)) ?_⟩
    exact ⟨by show 0 ≤ sizeLine; decide, fun r nr => q r _ _ (s0.trans (same_new nr)) (same_back s0 nr) upd_same .nil⟩
  | write e =>
    obtain ⟨p, ys, rfl, hp⟩ := hs.hd
    refine ⟨_, rfl, p, _, _, _, rfl, rfl, hp, h0, ?_⟩
    refine ⟨_, rfl, rfl, _, rfl, nope (wd (show (("write" : Str) == "set") = false by decide +kernel)) ?_⟩
    refine ⟨_, rfl, rfl, _, rfl, yes rfl ?_⟩
    refine ⟨_, rfl, by show 2 ≤ sizeLine; decide, fun t nt => ⟨by show 1 ≤ sizeLine; decide, fun r nr => ?_⟩⟩
    have s1 := same_new (o := .tup [.str "write", .int a]) nt
    exact q r _ _ (s1.trans (same_new nr)) (same_back s1 nr) upd_same (.one ⟨t, rfl, SqT.of (same_new nr _ _ upd_same)⟩)
  | ifs e b o =>
    obtain ⟨p, ys, rfl, hp⟩ := hs.hd
    refine ⟨_, rfl, p, _, _, _, rfl, rfl, hp, h0, ?_⟩
    refine ⟨_, rfl, rfl, _, rfl, nope (wd (show (("if" : Str) == "set") = false by decide +kernel)) ?_⟩
    refine ⟨_, rfl, rfl, _, rfl, nope (wd (show (("if" : Str) == "write") = false by decide +kernel)) ?_⟩
    refine ⟨_, rfl, by show 2 ≤ sizeLine; decide, fun tw ntw => ⟨tw, _, rfl, .inr (SqT.of upd_same), rfl, by decide +kernel, _, rfl, ?_⟩⟩
    have s0 := same_new (o := .tup [.str "if", .str "while"]) ntw
    refine ite2 (fun _ => ?_) (fun e => absurd (show inV (V.str "if") [V.str "if", V.str "while"] = true by decide +kernel) e)
    refine ⟨by show 2 ≤ sizeLine; decide, fun t nt => ⟨by show 1 ≤ sizeLine; decide, fun r nr => ?_⟩⟩
    have s1 := s0.trans (same_new (o := .tup [.str "test", .int 2]) nt)
    exact q r _ _ (s1.trans (same_new nr)) (same_back s1 nr) upd_same (.one ⟨t, rfl, SqT.of (same_new nr _ _ upd_same)⟩)
  | whi e b =>
    obtain ⟨p, ys, rfl, hp⟩ := hs.hd
    refine ⟨_, rfl, p, _, _, _, rfl, rfl, hp, h0, ?_⟩
    refine ⟨_, rfl, rfl, _, rfl, nope (wd (show (("while" : Str) == "set") = false by decide +kernel)) ?_⟩
    refine ⟨_, rfl, rfl, _, rfl, nope (wd (show (("while" : Str) == "write") = false by decide +kernel)) ?_⟩
    refine ⟨_, rfl, by show 2 ≤ sizeLine; decide, fun tw ntw => ⟨tw, _, rfl, .inr (SqT.of upd_same), rfl, by decide +kernel, _, rfl, ?_⟩⟩
    have s0 := same_new (o := .tup [.str "if", .str "while"]) ntw
    refine ite2 (fun _ => ?_) (fun e => absurd (show inV (V.str "while") [V.str "if", V.str "while"] = true by decide +kernel) e)
    refine ⟨by show 2 ≤ sizeLine; decide, fun t nt => ⟨by show 1 ≤ sizeLine; decide, fun r nr => ?_⟩⟩
    have s1 := s0.trans (same_new (o := .tup [.str "test", .int 2]) nt)
    exact q r _ _ (s1.trans (same_new nr)) (same_back s1 nr) upd_same (.one ⟨t, rfl, SqT.of (same_new nr _ _ upd_same)⟩)
  | call pn as =>
    obtain ⟨p, ca, xs, rfl, hp, _⟩ := hs.is
    refine ⟨_, rfl, p, _, _, _, rfl, rfl, hp, h0, ?_⟩
    refine ⟨_, rfl, rfl, _, rfl, nope (wd (show (("call" : Str) == "set") = false by decide +kernel)) ?_⟩
    refine ⟨_, rfl, rfl, _, rfl, nope (wd (show (("call" : Str) == "write") = false by decide +kernel)) ?_⟩
    refine ⟨_, rfl, by show 2 ≤ sizeLine; decide, fun tw ntw => ⟨tw, _, rfl, .inr (SqT.of upd_same), rfl, by decide +kernel, _, rfl, ?_⟩⟩
    have s0 := same_new (o := .tup [.str "if", .str "while"]) ntw
    refine ite2 (fun e => absurd (show inV (V.str "call") [V.str "if", V.str "while"] = true from e) (by decide +kernel)) fun _ => ?_
    refine ⟨_, rfl, rfl, _, rfl, yes rfl ?_⟩
    generalize upd H tw (.tup [.str "if", .str "while"]) = H0 at s0 ⊢
    obtain ⟨pa, xps, rfl, hq, ha⟩ := hps
    have lps := ha.1
    refine ⟨_, rfl, pa, rfl, ⟨_, seqT_same s0 hq⟩, fun D nD => two_out (walk_tup (xs := xps)) (fun i H' => Same H0 H' ∧ ∃ zs, H' D = some (.lst zs) ∧ All2 (AimAt K H') zs ((((ps.take i).filter fun q => q.nm == pn).map fun q => q.ps.map fun w => (("pass" : Str), w.sz)).flatten) ∧ zs.length ≤ 3 * i) ⟨same_new nD, [], upd_same, .nil, Nat.zero_le _⟩ (fun i H' _ h' => seqT_same (s0.trans h'.1) hq) ?_ ?_⟩
    · rintro i z H1 H2 hi ⟨s1, zs, hD, hz, lz⟩ ⟨rfl, hy⟩
      obtain ⟨pr, ep, r, t1, t2, t3, rfl, hr, ⟨a1, x1, rfl, hq1, ha1⟩, _, _⟩ := ha.at hy
      have s01 := s0.trans s1
      have l3p := l3 pr (List.mem_of_getElem? ep)
      have lx1 := ha1.1
      have ez : ((ps.take (i + 1)).filter fun q => q.nm == pn) = (ps.take i).filter (fun q => q.nm == pn) ++ if pr.nm == pn then [pr] else [] := by
        rw [take_succ_at ep, filt_snoc]
      refine ⟨rfl, _, rfl, r, _, _, _, rfl, rfl, seqT_same s01 hr, h0, _, rfl, p, _, _, _, rfl, rfl, seqT_same s01 hp, h1, rfl, _, rfl, ?_⟩
      by_cases e : pr.nm = pn
      · refine yes (congrArg V.str e) ?_
        generalize hpre : (((ps.take i).filter fun q => q.nm == pn).map fun q => q.ps.map fun w => (("pass" : Str), w.sz)).flatten = pre at hz
        rcases hq1 with hq1 | hq1
        · refine .inl ⟨_, rfl, r, _, _, _, rfl, rfl, seqT_same s01 hr, h1, a1, rfl, ⟨_, s01.seq hq1⟩, ?_⟩
          show Exists _
          refine two_out (walk_list (K := K) (a := a1) (xs := x1)) (fun j H' => Same H0 H' ∧ ∃ zs, H' D = some (.lst zs) ∧ All2 (AimAt K H') zs (pre ++ (pr.ps.take j).map fun w => (("pass" : Str), w.sz)) ∧ zs.length ≤ 3 * i + j) ⟨s1, zs, hD, by rw [List.take_zero, List.map_nil, List.append_nil]; exact hz, lz⟩ (fun j H' _ h' => (s0.trans h'.1).seq hq1) ?_ ?_
          · rintro j y H3 H4 hj ⟨s3, zs3, hD3, hz3, lz3⟩ ⟨rfl, hy3⟩
            obtain ⟨vr, evr, t, rfl, ht⟩ := ha1.at hy3
            refine ⟨t, _, rfl, seqT_same (s0.trans s3) ht, rfl, _, _, rfl, _, _, rfl, rfl, rfl, _, rfl, by show 2 ≤ sizeLine; decide, fun t2 n2 => ⟨zs3, same_new n2 _ _ hD3, small1000 (by omega), same_mut (s3.trans (same_new n2)) nD, zs3 ++ [.ref t2], upd_same, ?_, by rw [List.length_append]; exact Nat.succ_le_succ lz3⟩⟩
            rw [map_take_at evr, ← List.append_assoc]
            have hD2 := same_new (o := .tup [.str "pass", .int vr.sz]) n2 _ _ hD3
            exact (hz3.imp fun _ _ h => (h.same (same_new n2)).mut hD2).app (.one ⟨t2, rfl, seqT_mut hD2 (SqT.of upd_same)⟩)
          · rintro H3 ⟨s3, zs3, hD3, hz3, lz3⟩
            rw [lx1, List.take_length] at hz3
            refine ⟨s3, zs3, hD3, ?_, by omega⟩
            rw [ez, if_pos (beq_iff_eq.mpr e), List.map_append, List.flatten_append, hpre]
            simpa using hz3
        · refine .inr ⟨_, rfl, r, _, _, _, rfl, rfl, seqT_same s01 hr, h1, a1, rfl, ⟨_, seqT_same s01 hq1⟩, ?_⟩
          show Exists _
          refine two_out (walk_tup (K := K) (a := a1) (xs := x1)) (fun j H' => Same H0 H' ∧ ∃ zs, H' D = some (.lst zs) ∧ All2 (AimAt K H') zs (pre ++ (pr.ps.take j).map fun w => (("pass" : Str), w.sz)) ∧ zs.length ≤ 3 * i + j) ⟨s1, zs, hD, by rw [List.take_zero, List.map_nil, List.append_nil]; exact hz, lz⟩ (fun j H' _ h' => seqT_same (s0.trans h'.1) hq1) ?_ ?_
          · rintro j y H3 H4 hj ⟨s3, zs3, hD3, hz3, lz3⟩ ⟨rfl, hy3⟩
            obtain ⟨vr, evr, t, rfl, ht⟩ := ha1.at hy3
            refine ⟨t, _, rfl, seqT_same (s0.trans s3) ht, rfl, _, _, rfl, _, _, rfl, rfl, rfl, _, rfl, by show 2 ≤ sizeLine; decide, fun t2 n2 => ⟨zs3, same_new n2 _ _ hD3, small1000 (by omega), same_mut (s3.trans (same_new n2)) nD, zs3 ++ [.ref t2], upd_same, ?_, by rw [List.length_append]; exact Nat.succ_le_succ lz3⟩⟩
            rw [map_take_at evr, ← List.append_assoc]
            have hD2 := same_new (o := .tup [.str "pass", .int vr.sz]) n2 _ _ hD3
            exact (hz3.imp fun _ _ h => (h.same (same_new n2)).mut hD2).app (.one ⟨t2, rfl, seqT_mut hD2 (SqT.of upd_same)⟩)
          · rintro H3 ⟨s3, zs3, hD3, hz3, lz3⟩
            rw [lx1, List.take_length] at hz3
            refine ⟨s3, zs3, hD3, ?_, by omega⟩
            rw [ez, if_pos (beq_iff_eq.mpr e), List.map_append, List.flatten_append, hpre]
            simpa using hz3
      · refine nope (fun h => e (V.str.inj h)) ⟨s1, zs, hD, ?_, by omega⟩
        rw [ez, if_neg (fun h => e (eq_of_beq h)), List.append_nil]
        exact hz
    · rintro H1 ⟨s1, zs, hD, hz, lz⟩
      rw [lps, List.take_length] at hz
      exact q D zs H1 (s0.trans s1) (s0.free nD) hD hz
  | skip =>
    obtain ⟨p, ys, rfl, hp⟩ := hs.hd
    refine ⟨_, rfl, p, _, _, _, rfl, rfl, hp, h0, ?_⟩
    refine ⟨_, rfl, rfl, _, rfl, nope (wd (show (("skip" : Str) == "set") = false by decide +kernel)) ?_⟩
    refine ⟨_, rfl, rfl, _, rfl, nope (wd (show (("skip" : Str) == "write") = false by decide +kernel)) ?_⟩
    refine ⟨_, rfl, by show 2 ≤ sizeLine; decide, fun tw ntw => ⟨tw, _, rfl, .inr (SqT.of upd_same), rfl, by decide +kernel, _, rfl, ?_⟩⟩
    have s0 := same_new (o := .tup [.str "if", .str "while"]) ntw
    refine ite2 (fun e => absurd (show inV (V.str "skip") [V.str "if", V.str "while"] = true from e) (by decide +kernel)) fun _ => ?_
    refine ⟨_, rfl, rfl, _, rfl, nope (wd (show (("skip" : Str) == "call") = false by decide +kernel)) ?_⟩
    exact ⟨by show 0 ≤ sizeLine; decide, fun r nr => q r _ _ (s0.trans (same_new nr)) (same_back s0 nr) upd_same .nil⟩


end
end Pf

namespace Pf
open PySem PySem.Spec PyProof.Rows L2
section
variable {P : Program} {w : World} {K : PySem.W.Frag} {mg : Str → Option Value} {base : Heap}
variable {c : Nat → Addr}
theorem vr_nm {α : Type} {f : α → Str} {z : Str} : ∀ {xs : List α}, (xs.map f).Nodup → ∀ {x : α}, x ∈ xs → f x = z → xs.find? (fun y => f y == z) = some x
  | [], _, _, h, _ => nomatch h
  | y :: xs, n, x, h, e => by
    rw [List.map_cons, List.nodup_cons] at n
    rw [List.find?_cons]
    rcases List.mem_cons.mp h with rfl | h
    · rw [beq_iff_eq.mpr e]
    · have : ¬ (f y == z) = true := fun e2 => n.1 (by rw [eq_of_beq e2, ← e]; exact List.mem_map.mpr ⟨x, h, rfl⟩)
      rw [Bool.not_eq_true] at this
      rw [this]
      exact vr_nm n.2 h e
theorem aims_len {l a : Int} {sc : List Vr} {ps : List Pr} (n1 : (sc.map Vr.nm).Nodup) (n2 : (ps.map Pr.nm).Nodup) : ∀ {s : St}, s.Loc l sc ps → (aims sc a ps s).length = s.exs.length
  | .set v e, h => by
    obtain ⟨w, hw, e1⟩ := List.mem_map.mp h.1
    show ((sc.filter fun w => w.nm == v).map fun w => ((Str.ofString "set"), w.sz)).length = 1
    rw [List.length_map, filt_one n1, vr_nm n1 hw e1]
    rfl
  | .read v, _ => rfl
  | .write e, _ => rfl
  | .ifs e _ _, _ => rfl
  | .whi e _, _ => rfl
  | .call p as, h => by
    obtain ⟨⟨q, hq, e1, hl⟩, _⟩ := h
    show (((ps.filter fun q => q.nm == p).map fun q => q.ps.map fun w => ((Str.ofString "pass"), w.sz)).flatten).length = as.length
    rw [filt_one n2, vr_nm n2 (List.mem_of_mem_tail hq) e1]
    simp [hl]
  | .skip, _ => rfl
def St.nw : St → Nat
  | .ifs _ _ _ => 2
  | .whi _ _ => 2
  | _ => 1
/-- the row of a statement's point -/
def rowD (sc : List Vr) (nms : List Str) (pls wys : List Nat) : St → PyData
  | .set v _ => .tuple [.str "set", .int (slot sc v : Nat), .int (pls.getD 0 0 : Nat), .int (wys.getD 0 0 : Nat)]
  | .read v => .tuple [.str "read", .int (slot sc v : Nat), .int (wys.getD 0 0 : Nat)]
  | .write _ => .tuple [.str "write", .int (pls.getD 0 0 : Nat), .int (wys.getD 0 0 : Nat)]
  | .call p _ => .tuple [.str "call", .int (nms.idxOf p : Nat), .tuple (pls.map fun n => .int (n : Nat)), .int (wys.getD 0 0 : Nat)]
  | .skip => .tuple [.str "skip", .int (wys.getD 0 0 : Nat)]
  | .ifs _ _ _ => .tuple [.str "test", .int (pls.getD 0 0 : Nat), .int (wys.getD 0 0 : Nat), .int (wys.getD 1 0 : Nat)]
  | .whi _ _ => .tuple [.str "test", .int (pls.getD 0 0 : Nat), .int (wys.getD 0 0 : Nat), .int (wys.getD 1 0 : Nat)]
theorem dpa_natV {K : PySem.W.Frag} {H : Hp} : ∀ ns : List Nat, DpAll K H (ns.map fun n => V.int (n : Nat)) (ns.map fun n => PyData.int (n : Nat))
  | [] => .nil
  | n :: ns => .cons (.int _) (dpa_natV ns)
def sp_point_row (K : PySem.W.Frag) : Sp := fun us H Q _ => ∃ (x : V) (s : St) (l nl pl wl : Addr) (ws : List V) (sc : List Vr) (nms : List Str) (pls wys : List Nat) (lt : Int) (ps : List Pr), us = [x, .ref l, .ref nl, .ref pl, .ref wl] ∧ StAt K H x s ∧ SqL K H l ws ∧ All2 (VrAt K H) ws sc ∧ sc.length ≤ 10 ∧
  SqL K H nl (nms.map V.str) ∧ SqT K H pl (pls.map fun n => V.int (n : Nat)) ∧ SqT K H wl (wys.map fun n => V.int (n : Nat)) ∧ s.Loc lt sc ps ∧ nms = ps.map Pr.nm ∧ pls.length = s.exs.length ∧ wys.length = s.nw ∧ ∀ v H', Same H H' → Dp K H' v (rowD sc nms pls wys s) → Q v H'
theorem ok_point_row (T : Txt P K mg c) : Has P w K mg base 2 "point_row" ["statement", "sight", "names", "places", "ways"] (sp_point_row K) := by
  obtain ⟨f, fd, F, m, b⟩ := T.d_point_row.ex
  obtain ⟨f_slot_of, fd_slot_of, G_slot_of, m_slot_of, k_slot_of, b_slot_of⟩ := ok_slot_of (P := P) (w := w) (base := base) T
  refine ⟨f, fd, F.ok sc_point_row (fun vs H Q E h => ?_) (fun cdv A outer s H vs Q E hr h => ?_), m, F.kp, b⟩
  · obtain ⟨x, s, l, nl, pl, wl, ws, sc, nms, pls, wys, lt, ps, rfl, hs, hl, hw, l10, hnl, hpl, hwl, loc, enm, lpl, lwy, q⟩ := h
    rfl
  obtain ⟨x, s, l, nl, pl, wl, ws, sc, nms, pls, wys, lt, ps, rfl, hs, hl, hw, l10, hnl, hpl, hwl, loc, enm, lpl, lwy, q⟩ := h
  refine ⟨_, (pss_cons (ps_set (i := 5) sc_point_row.nd rfl (.inl rfl) (pe_ix ix_tup (pv 0) pe_int (fun _ _ => rfl)))
      (pss_cons (ps_if (pt_cmpR op_eq (pv 5) pe_str (nomark _))
      (pss_one (ps_ret (pe_tup (pa_cons pe_str (pa_cons (pe_call G_slot_of (hr.mono (by decide)) (by rfl) m_slot_of k_slot_of b_slot_of .nil pass0 (pa_cons (pv 1) (pa_cons (pe_ix ix_tup (pv 0) pe_int (fun _ _ => rfl)) pa_nil))) (pa_cons (pe_ix ix_tup (pv 3) pe_int (fun _ _ => rfl)) (pa_cons (pe_ix ix_tup (pv 4) pe_int (fun _ _ => rfl)) pa_nil)))))))
      pss_nil)
      (pss_cons (ps_if (pt_cmpR op_eq (pv 5) pe_str (nomark _))
      (pss_one (ps_ret (pe_tup (pa_cons pe_str (pa_cons (pe_call G_slot_of (hr.mono (by decide)) (by rfl) m_slot_of k_slot_of b_slot_of .nil pass0 (pa_cons (pv 1) (pa_cons (pe_ix ix_tup (pv 0) pe_int (fun _ _ => rfl)) pa_nil))) (pa_cons (pe_ix ix_tup (pv 4) pe_int (fun _ _ => rfl)) pa_nil))))))
      pss_nil)
      (pss_cons (ps_if (pt_cmpR op_eq (pv 5) pe_str (nomark _))
      (pss_one (ps_ret (pe_tup (pa_cons pe_str (pa_cons (pe_ix ix_tup (pv 3) pe_int (fun _ _ => rfl)) (pa_cons (pe_ix ix_tup (pv 4) pe_int (fun _ _ => rfl)) pa_nil))))))
      pss_nil)
      (pss_cons (ps_if (pt_cmpR op_eq (pv 5) pe_str (nomark _))
      (pss_one (ps_ret (pe_tup (pa_cons pe_str (pa_cons (pe_index (pv 2) (pe_ix ix_tup (pv 0) pe_int (fun _ _ => rfl))) (pa_cons (pv 3) (pa_cons (pe_ix ix_tup (pv 4) pe_int (fun _ _ => rfl)) pa_nil)))))))
      pss_nil)
      (pss_cons (ps_if (pt_cmpR op_eq (pv 5) pe_str (nomark _))
      (pss_one (ps_ret (pe_tup (pa_cons pe_str (pa_cons (pe_ix ix_tup (pv 4) pe_int (fun _ _ => rfl)) pa_nil)))))
      pss_nil)
      (pss_one (ps_ret (pe_tup (pa_cons pe_str (pa_cons (pe_ix ix_tup (pv 3) pe_int (fun _ _ => rfl)) (pa_cons (pe_ix ix_tup (pv 4) pe_int (fun _ _ => rfl)) (pa_cons (pe_ix ix_tup (pv 4) pe_int (fun _ _ => rfl)) pa_nil))))))))))))), ?_⟩
  cases s with
  | set vn e =>
    obtain ⟨p, y, rfl, hp, _⟩ := hs.is
    obtain ⟨w0, rfl⟩ : ∃ w0, wys = [w0] := List.length_eq_one_iff.mp lwy
    obtain ⟨n0, rfl⟩ : ∃ n0, pls = [n0] := List.length_eq_one_iff.mp lpl
    refine ⟨_, rfl, p, _, _, _, rfl, rfl, hp, h0, ?_⟩
    refine ⟨_, rfl, rfl, _, rfl, yes rfl ?_⟩
    refine ⟨_, rfl, _, rfl, p, _, _, _, rfl, rfl, hp, h1, l, ws, sc, vn, rfl, hl, hw, l10, loc.1, fun H1 s1 => ⟨_, rfl, pl, _, _, _, rfl, rfl, seqT_same s1 hpl, h0, _, rfl, wl, _, _, _, rfl, rfl, seqT_same s1 hwl, h0, by show 4 ≤ sizeLine; decide, fun t nt => ?_⟩⟩
    exact q _ _ (s1.trans (same_new nt)) (.tup (SqT.of upd_same) (.cons (.str _) (.cons (.int _) (.cons (.int _) (.cons (.int _) .nil)))))
  | read vn =>
    obtain ⟨p, rfl, hp⟩ := hs.is
    obtain ⟨wr, hwr, ewr, _⟩ := loc
    obtain ⟨w0, rfl⟩ : ∃ w0, wys = [w0] := List.length_eq_one_iff.mp lwy
    refine ⟨_, rfl, p, _, _, _, rfl, rfl, hp, h0, ?_⟩
    refine ⟨_, rfl, rfl, _, rfl, nope (wd (show (("read" : Str) == "set") = false by decide +kernel)) ?_⟩
    refine ⟨_, rfl, rfl, _, rfl, yes rfl ?_⟩
    refine ⟨_, rfl, _, rfl, p, _, _, _, rfl, rfl, hp, h1, l, ws, sc, vn, rfl, hl, hw, l10, List.mem_map.mpr ⟨wr, hwr, ewr⟩, fun H1 s1 => ⟨_, rfl, wl, _, _, _, rfl, rfl, seqT_same s1 hwl, h0, by show 3 ≤ sizeLine; decide, fun t nt => ?_⟩⟩
    exact q _ _ (s1.trans (same_new nt)) (.tup (SqT.of upd_same) (.cons (.str _) (.cons (.int _) (.cons (.int _) .nil))))
  | write e =>
    obtain ⟨p, ys, rfl, hp⟩ := hs.hd
    obtain ⟨w0, rfl⟩ : ∃ w0, wys = [w0] := List.length_eq_one_iff.mp lwy
    obtain ⟨n0, rfl⟩ : ∃ n0, pls = [n0] := List.length_eq_one_iff.mp lpl
    refine ⟨_, rfl, p, _, _, _, rfl, rfl, hp, h0, ?_⟩
    refine ⟨_, rfl, rfl, _, rfl, nope (wd (show (("write" : Str) == "set") = false by decide +kernel)) ?_⟩
    refine ⟨_, rfl, rfl, _, rfl, nope (wd (show (("write" : Str) == "read") = false by decide +kernel)) ?_⟩
    refine ⟨_, rfl, rfl, _, rfl, yes rfl ?_⟩
    refine ⟨_, rfl, pl, _, _, _, rfl, rfl, hpl, h0, _, rfl, wl, _, _, _, rfl, rfl, hwl, h0, by show 3 ≤ sizeLine; decide, fun t nt => ?_⟩
    exact q _ _ (same_new nt) (.tup (SqT.of upd_same) (.cons (.str _) (.cons (.int _) (.cons (.int _) .nil))))
  | call pn as =>
    obtain ⟨p, ca, xs, rfl, hp, _⟩ := hs.is
    obtain ⟨⟨qc, hqc, ec, _⟩, _⟩ := loc
    obtain ⟨w0, rfl⟩ : ∃ w0, wys = [w0] := List.length_eq_one_iff.mp lwy
    refine ⟨_, rfl, p, _, _, _, rfl, rfl, hp, h0, ?_⟩
    refine ⟨_, rfl, rfl, _, rfl, nope (wd (show (("call" : Str) == "set") = false by decide +kernel)) ?_⟩
    refine ⟨_, rfl, rfl, _, rfl, nope (wd (show (("call" : Str) == "read") = false by decide +kernel)) ?_⟩
    refine ⟨_, rfl, rfl, _, rfl, nope (wd (show (("call" : Str) == "write") = false by decide +kernel)) ?_⟩
    refine ⟨_, rfl, rfl, _, rfl, yes rfl ?_⟩
    have hm : pn ∈ nms := by
      rw [enm]
      exact List.mem_map.mpr ⟨qc, List.mem_of_mem_tail hqc, ec⟩
    refine .inl ⟨_, rfl, .inl ⟨rfl, _, hnl⟩, _, rfl, p, _, _, _, rfl, rfl, hp, h1, ?_⟩
    dsimp only [tNil]
    refine index_str hnl hm ?_
    refine ⟨_, rfl, _, rfl, wl, _, _, _, rfl, rfl, hwl, h0, by show 4 ≤ sizeLine; decide, fun t nt => ?_⟩
    exact q _ _ (same_new nt) (.tup (SqT.of upd_same) (.cons (.str _) (.cons (.int _) (.cons (.tup (seqT_same (same_new nt) hpl) (dpa_natV pls)) (.cons (.int _) .nil)))))
  | skip =>
    obtain ⟨p, ys, rfl, hp⟩ := hs.hd
    obtain ⟨w0, rfl⟩ : ∃ w0, wys = [w0] := List.length_eq_one_iff.mp lwy
    refine ⟨_, rfl, p, _, _, _, rfl, rfl, hp, h0, ?_⟩
    refine ⟨_, rfl, rfl, _, rfl, nope (wd (show (("skip" : Str) == "set") = false by decide +kernel)) ?_⟩
    refine ⟨_, rfl, rfl, _, rfl, nope (wd (show (("skip" : Str) == "read") = false by decide +kernel)) ?_⟩
    refine ⟨_, rfl, rfl, _, rfl, nope (wd (show (("skip" : Str) == "write") = false by decide +kernel)) ?_⟩
    refine ⟨_, rfl, rfl, _, rfl, nope (wd (show (("skip" : Str) == "call") = false by decide +kernel)) ?_⟩
    refine ⟨_, rfl, rfl, _, rfl, yes rfl ?_⟩
    refine ⟨_, rfl, wl, _, _, _, rfl, rfl, hwl, h0, by show 2 ≤ sizeLine; decide, fun t nt => ?_⟩
    exact q _ _ (same_new nt) (.tup (SqT.of upd_same) (.cons (.str _) (.cons (.int _) .nil)))
  | ifs e b o =>
    obtain ⟨p, ys, rfl, hp⟩ := hs.hd
    obtain ⟨w0, w1, rfl⟩ : ∃ w0 w1, wys = [w0, w1] := match wys, lwy with | [w0, w1], _ => ⟨w0, w1, rfl⟩
    obtain ⟨n0, rfl⟩ : ∃ n0, pls = [n0] := List.length_eq_one_iff.mp lpl
    refine ⟨_, rfl, p, _, _, _, rfl, rfl, hp, h0, ?_⟩
    refine ⟨_, rfl, rfl, _, rfl, nope (wd (show (("if" : Str) == "set") = false by decide +kernel)) ?_⟩
    refine ⟨_, rfl, rfl, _, rfl, nope (wd (show (("if" : Str) == "read") = false by decide +kernel)) ?_⟩
    refine ⟨_, rfl, rfl, _, rfl, nope (wd (show (("if" : Str) == "write") = false by decide +kernel)) ?_⟩
    refine ⟨_, rfl, rfl, _, rfl, nope (wd (show (("if" : Str) == "call") = false by decide +kernel)) ?_⟩
    refine ⟨_, rfl, rfl, _, rfl, nope (wd (show (("if" : Str) == "skip") = false by decide +kernel)) ?_⟩
    refine ⟨_, rfl, pl, _, _, _, rfl, rfl, hpl, h0, _, rfl, wl, _, _, _, rfl, rfl, hwl, h0, _, rfl, wl, _, _, _, rfl, rfl, hwl, h1, by show 4 ≤ sizeLine; decide, fun t nt => ?_⟩
    exact q _ _ (same_new nt) (.tup (SqT.of upd_same) (.cons (.str _) (.cons (.int _) (.cons (.int _) (.cons (.int _) .nil)))))
  | whi e b =>
    obtain ⟨p, ys, rfl, hp⟩ := hs.hd
    obtain ⟨w0, w1, rfl⟩ : ∃ w0 w1, wys = [w0, w1] := match wys, lwy with | [w0, w1], _ => ⟨w0, w1, rfl⟩
    obtain ⟨n0, rfl⟩ : ∃ n0, pls = [n0] := List.length_eq_one_iff.mp lpl
    refine ⟨_, rfl, p, _, _, _, rfl, rfl, hp, h0, ?_⟩
    refine ⟨_, rfl, rfl, _, rfl, nope (wd (show (("while" : Str) == "set") = false by decide +kernel)) ?_⟩
    refine ⟨_, rfl, rfl, _, rfl, nope (wd (show (("while" : Str) == "read") = false by decide +kernel)) ?_⟩
    refine ⟨_, rfl, rfl, _, rfl, nope (wd (show (("while" : Str) == "write") = false by decide +kernel)) ?_⟩
    refine ⟨_, rfl, rfl, _, rfl, nope (wd (show (("while" : Str) == "call") = false by decide +kernel)) ?_⟩
    refine ⟨_, rfl, rfl, _, rfl, nope (wd (show (("while" : Str) == "skip") = false by decide +kernel)) ?_⟩
    refine ⟨_, rfl, pl, _, _, _, rfl, rfl, hpl, h0, _, rfl, wl, _, _, _, rfl, rfl, hwl, h0, _, rfl, wl, _, _, _, rfl, rfl, hwl, h1, by show 4 ≤ sizeLine; decide, fun t nt => ?_⟩
    exact q _ _ (same_new nt) (.tup (SqT.of upd_same) (.cons (.str _) (.cons (.int _) (.cons (.int _) (.cons (.int _) .nil)))))
/-! ### the layout of a program -/
def plcS (k : Nat) (sc : List Vr) (a : Int) (ps : List Pr) (s : St) : List PyData := List.zipWith (fun (q : Str × Int) (e : Ex) => PyData.tuple [.int (k : Nat), .str q.1, .int q.2, e.d]) (aims sc a ps s) s.exs
def cntE (L : List (St × List Nat)) : Nat := (L.map fun q => q.1.exs.length).sum
def plcL (k : Nat) (sc : List Vr) (a : Int) (ps : List Pr) (L : List (St × List Nat)) : List PyData := (L.map fun q => plcS k sc a ps q.1).flatten
def rng (n k : Nat) : List Nat := (List.range k).map fun i => n + i
def rowL (sc : List Vr) (nms : List Str) : Nat → List (St × List Nat) → List PyData
  | _, [] => []
  | n, q :: L => rowD sc nms (rng n q.1.exs.length) q.2 q.1 :: rowL sc nms (n + q.1.exs.length) L
def pL (p : Pr) : List (St × List Nat) := wayB p.bd 0 (cntB p.bd)
def plcG (g : Pg) : Nat → List Pr → List PyData
  | _, [] => []
  | k, p :: r => plcL k (scp g.vs p) g.a g.ps (pL p) ++ plcG g (k + 1) r
def ptsG (g : Pg) : Nat → List Pr → List PyData
  | _, [] => []
  | n, p :: r => .tuple (rowL (scp g.vs p) (g.ps.map Pr.nm) n (pL p) ++ [.tuple [.str "end"]]) :: ptsG g (n + cntE (pL p)) r
theorem cntE_app (a b : List (St × List Nat)) : cntE (a ++ b) = cntE a + cntE b := by unfold cntE; rw [List.map_append, List.sum_append]
theorem plcL_snoc (k : Nat) (sc : List Vr) (a : Int) (ps : List Pr) (L : List (St × List Nat)) (q : St × List Nat) : plcL k sc a ps (L ++ [q]) = plcL k sc a ps L ++ plcS k sc a ps q.1 := by
  unfold plcL
  rw [List.map_append, List.flatten_append]
  simp
theorem rowL_snoc (sc : List Vr) (nms : List Str) : ∀ (n : Nat) (L : List (St × List Nat)) (q : St × List Nat), rowL sc nms n (L ++ [q]) = rowL sc nms n L ++ [rowD sc nms (rng (n + cntE L) q.1.exs.length) q.2 q.1]
  | n, [], q => by simp [rowL, cntE]
  | n, x :: L, q => by
    have e : n + x.1.exs.length + cntE L = n + cntE (x :: L) := by show _ = n + (List.map (fun q => q.1.exs.length) (x :: L)).sum; rw [List.map_cons, List.sum_cons]; unfold cntE; omega
    rw [List.cons_append, rowL, rowL_snoc sc nms (n + x.1.exs.length) L q, rowL, List.cons_append, e]
theorem plcG_snoc (g : Pg) : ∀ (k : Nat) (xs : List Pr) (p : Pr), plcG g k (xs ++ [p]) = plcG g k xs ++ plcL (k + xs.length) (scp g.vs p) g.a g.ps (pL p)
  | k, [], p => by simp [plcG]
  | k, x :: xs, p => by
    have e : k + 1 + xs.length = k + (x :: xs).length := by rw [List.length_cons]; omega
    rw [List.cons_append, plcG, plcG_snoc g (k + 1) xs p, plcG, List.append_assoc, e]
theorem ptsG_snoc (g : Pg) : ∀ (n : Nat) (xs : List Pr) (p : Pr), ptsG g n (xs ++ [p]) = ptsG g n xs ++ [.tuple (rowL (scp g.vs p) (g.ps.map Pr.nm) (n + (xs.map fun p => cntE (pL p)).sum) (pL p) ++ [.tuple [.str "end"]])]
  | n, [], p => by simp [ptsG]
  | n, x :: xs, p => by
    have e : n + cntE (pL x) + (xs.map fun p => cntE (pL p)).sum = n + ((x :: xs).map fun p => cntE (pL p)).sum := by rw [List.map_cons, List.sum_cons]; omega
    rw [List.cons_append, ptsG, ptsG_snoc g (n + cntE (pL x)) xs p, ptsG, List.cons_append, e]
mutual
theorem wayS_all {P : Nat → St → Prop} : ∀ (s : St) (d pt fo : Nat), allS P d s → ∀ q ∈ wayS s pt fo, (∃ d, P d q.1) ∧ q.2.length = q.1.nw
  | .ifs e b o, d, pt, fo, h, q, hq => by
    rw [wayS] at hq
    rw [allS] at h
    rcases List.mem_cons.mp hq with rfl | hq
    · exact ⟨⟨d, h.1⟩, rfl⟩
    · rcases List.mem_append.mp hq with hq | hq
      · exact wayB_all b _ _ _ h.2.1 q hq
      · exact wayB_all o _ _ _ h.2.2 q hq
  | .whi e b, d, pt, fo, h, q, hq => by
    rw [wayS] at hq
    rw [allS] at h
    rcases List.mem_cons.mp hq with rfl | hq
    · exact ⟨⟨d, h.1⟩, rfl⟩
    · exact wayB_all b _ _ _ h.2 q hq
  | .set v e, d, pt, fo, h, q, hq => by
    rw [wayS] at hq
    rcases List.mem_singleton.mp hq with rfl
    exact ⟨⟨d, allS_hd h⟩, rfl⟩
  | .read v, d, pt, fo, h, q, hq => by
    rw [wayS] at hq
    rcases List.mem_singleton.mp hq with rfl
    exact ⟨⟨d, allS_hd h⟩, rfl⟩
  | .write e, d, pt, fo, h, q, hq => by
    rw [wayS] at hq
    rcases List.mem_singleton.mp hq with rfl
    exact ⟨⟨d, allS_hd h⟩, rfl⟩
  | .call p as, d, pt, fo, h, q, hq => by
    rw [wayS] at hq
    rcases List.mem_singleton.mp hq with rfl
    exact ⟨⟨d, allS_hd h⟩, rfl⟩
  | .skip, d, pt, fo, h, q, hq => by
    rw [wayS] at hq
    rcases List.mem_singleton.mp hq with rfl
    exact ⟨⟨d, allS_hd h⟩, rfl⟩
theorem wayB_all {P : Nat → St → Prop} : ∀ (b : List St) (d fi be : Nat), allB P d b → ∀ q ∈ wayB b fi be, (∃ d, P d q.1) ∧ q.2.length = q.1.nw
  | [], d, fi, be, h, q, hq => by
    rw [wayB] at hq
    exact nomatch hq
  | s :: r, d, fi, be, h, q, hq => by
    rw [wayB] at hq
    rw [allB] at h
    rcases List.mem_append.mp hq with hq | hq
    · exact wayS_all s _ _ _ h.1 q hq
    · exact wayB_all r _ _ _ h.2 q hq
end
theorem tupA (n : Nat) : (∀ i : Int, tupOk n (.int i)) ∧ ∀ z : Str, tupOk n (.str z) := by constructor <;> intro x <;> cases n <;> simp [tupOk]
theorem tupQ {n : Nat} {ds : List PyData} (l : ds.length ≤ 100000) (k : ∀ d ∈ ds, tupOk n d) : tupOk (n + 1) (.tuple ds) := ⟨l, k⟩
theorem tup_plcS {k : Nat} {sc : List Vr} {a : Int} {ps : List Pr} {s : St} (h : ∀ e ∈ s.exs, e.depth ≤ 5) : ∀ d ∈ plcS k sc a ps s, tupOk 7 d := fun d hd => by
  unfold plcS at hd
  obtain ⟨i, hi, e⟩ := List.getElem_of_mem hd
  rw [List.getElem_zipWith] at e
  subst e
  have hi2 : i < s.exs.length := by rw [List.length_zipWith] at hi; omega
  refine tupQ (by show 4 ≤ 100000; decide) fun d hd => ?_
  rcases List.mem_cons.mp hd with rfl | hd
  · exact (tupA 6).1 _
  rcases List.mem_cons.mp hd with rfl | hd
  · exact (tupA 6).2 _
  rcases List.mem_cons.mp hd with rfl | hd
  · exact (tupA 6).1 _
  rcases List.mem_singleton.mp hd with rfl
  exact tup_ex (h _ (List.getElem_mem hi2))
theorem tup_rowD {sc : List Vr} {nms : List Str} {pls wys : List Nat} (l : pls.length ≤ 1000) (s : St) : tupOk 2 (rowD sc nms pls wys s) := by
  have a1 := tupA 1
  have hp : tupOk 1 (.tuple (pls.map fun n => .int (n : Nat))) := tupQ (by rw [List.length_map]; omega) fun d hd => by
    obtain ⟨n, _, rfl⟩ := List.mem_map.mp hd
    exact (tupA 0).1 _
  cases s <;> refine tupQ (by simp) fun d hd => ?_ <;> simp only [List.mem_cons, List.not_mem_nil, or_false] at hd <;> rcases hd with rfl | rfl | rfl | rfl <;> first | exact a1.1 _ | exact a1.2 _ | exact hp
theorem exs_le {lt : Int} {sc : List Vr} {ps : List Pr} (h3 : ∀ p ∈ ps, p.ps.length ≤ 3) : ∀ {s : St}, s.Loc lt sc ps → s.exs.length ≤ 3
  | .set v e, h => by simp [St.exs]
  | .read v, h => by simp [St.exs]
  | .write e, h => by simp [St.exs]
  | .ifs e _ _, h => by simp [St.exs]
  | .whi e _, h => by simp [St.exs]
  | .call p as, h => by
    obtain ⟨⟨q, hq, _, hl⟩, _⟩ := h
    have := h3 q (List.mem_of_mem_tail hq)
    show as.length ≤ 3
    omega
  | .skip, h => by simp [St.exs]
theorem cntE_le {L : List (St × List Nat)} (h : ∀ q ∈ L, q.1.exs.length ≤ 3) : cntE L ≤ 3 * L.length := by
  induction L with
  | nil => exact Nat.zero_le _
  | cons q L ih =>
    have h1 := ih fun x hx => h x (List.mem_cons_of_mem _ hx)
    have h2 := h q List.mem_cons_self
    unfold cntE at h1 ⊢
    rw [List.map_cons, List.sum_cons, List.length_cons]
    omega
theorem tup_rowL {sc : List Vr} {nms : List Str} : ∀ (n : Nat) {L : List (St × List Nat)}, (∀ q ∈ L, q.1.exs.length ≤ 3) → ∀ d ∈ rowL sc nms n L, tupOk 2 d
  | _, [], _, d, hd => by rw [rowL] at hd; exact nomatch hd
  | n, q :: L, h, d, hd => by
    rw [rowL] at hd
    rcases List.mem_cons.mp hd with rfl | hd
    · exact tup_rowD (by unfold rng; rw [List.length_map, List.length_range]; have := h q List.mem_cons_self; omega) _
    · exact tup_rowL _ (fun x hx => h x (List.mem_cons_of_mem _ hx)) d hd
theorem rowL_len (sc : List Vr) (nms : List Str) : ∀ (n : Nat) (L : List (St × List Nat)), (rowL sc nms n L).length = L.length
  | _, [] => rfl
  | n, q :: L => by rw [rowL, List.length_cons, rowL_len sc nms _ L, List.length_cons]
/-- what the layout needs of a procedure's ways -/
structure LOk (g : Pg) (p : Pr) : Prop where
  loc : ∀ q ∈ pL p, q.1.Loc g.l (scp g.vs p) g.ps
  nw : ∀ q ∈ pL p, q.2.length = q.1.nw
  ln : (pL p).length = cntB p.bd
theorem Pg.Ok.lok {g : Pg} (ho : g.Ok) {p : Pr} (hp : p ∈ g.ps) : LOk g p := by
  have h := wayB_all p.bd 1 0 (cntB p.bd) (ho.sb p hp)
  exact ⟨fun q hq => let ⟨⟨_, h1⟩, _⟩ := h q hq; h1.2, fun q hq => (h q hq).2, wayB_len _ _ _⟩
theorem LOk.e3 {g : Pg} {p : Pr} (ho : g.Ok) (h : LOk g p) : ∀ q ∈ pL p, q.1.exs.length ≤ 3 := fun q hq => exs_le ho.p3 (h.loc q hq)
theorem tup_plcL {g : Pg} (ho : g.Ok) {p : Pr} (h : LOk g p) {k : Nat} {L : List (St × List Nat)} (sub : ∀ q ∈ L, q ∈ pL p) : ∀ d ∈ plcL k (scp g.vs p) g.a g.ps L, tupOk 7 d := fun d hd => by
  obtain ⟨zs, hz, hd⟩ := List.mem_flatten.mp hd
  obtain ⟨q, hq, rfl⟩ := List.mem_map.mp hz
  exact tup_plcS (loc_exs ho.p3 (h.loc q (sub q hq))).1.d5 d hd
theorem tup_plcG {g : Pg} (ho : g.Ok) : ∀ (k : Nat) {xs : List Pr}, (∀ p ∈ xs, p ∈ g.ps) → ∀ d ∈ plcG g k xs, tupOk 7 d
  | _, [], _, d, hd => by rw [plcG] at hd; exact nomatch hd
  | k, p :: r, h, d, hd => by
    rw [plcG] at hd
    rcases List.mem_append.mp hd with hd | hd
    · exact tup_plcL ho (ho.lok (h p List.mem_cons_self)) (fun q hq => hq) d hd
    · exact tup_plcG ho _ (fun x hx => h x (List.mem_cons_of_mem _ hx)) d hd
theorem tup_end : tupOk 2 (.tuple [.str "end"]) := tupQ (by show 1 ≤ 100000; decide) fun d hd => by
  rcases List.mem_singleton.mp hd with rfl
  exact (tupA 1).2 _
theorem tup_ptsG {g : Pg} (ho : g.Ok) : ∀ (n : Nat) {xs : List Pr}, (∀ p ∈ xs, p ∈ g.ps) → ∀ d ∈ ptsG g n xs, tupOk 3 d
  | _, [], _, d, hd => by rw [ptsG] at hd; exact nomatch hd
  | n, p :: r, h, d, hd => by
    rw [ptsG] at hd
    rcases List.mem_cons.mp hd with rfl | hd
    · have lk := ho.lok (h p List.mem_cons_self)
      have hs := ho.sn
      have c60 : cntB p.bd ≤ (g.ps.map fun p => cntB p.bd).sum := sum_mem (List.mem_map.mpr ⟨p, h p List.mem_cons_self, rfl⟩)
      refine tupQ (by rw [List.length_append, rowL_len, lk.ln]; show cntB p.bd + 1 ≤ 100000; omega) fun d hd => ?_
      rcases List.mem_append.mp hd with hd | hd
      · exact tup_rowL _ (lk.e3 ho) d hd
      · rcases List.mem_singleton.mp hd with rfl
        exact tup_end
    · exact tup_ptsG ho _ (fun x hx => h x (List.mem_cons_of_mem _ hx)) d hd
/-- procedures of tuples alone -/
def PrT (K : PySem.W.Frag) (H : Hp) (x : V) (p : Pr) : Prop := ∃ q s1 s2 s3, x = .ref q ∧ SqT K H q [.str p.nm, s1, s2, s3] ∧ VrsAt K H s1 p.ps ∧ VrsAt K H s2 p.ls ∧ BdT K H s3 p.bd
def PrsT (K : PySem.W.Frag) (H : Hp) (v : V) (ps : List Pr) : Prop := ∃ a xs, v = .ref a ∧ SqT K H a xs ∧ All2 (PrT K H) xs ps
theorem PrT.at {K : PySem.W.Frag} {H : Hp} {x : V} {p : Pr} (h : PrT K H x p) : PrAt K H x p := let ⟨q, s1, s2, s3, h1, h2, h3, h4, h5⟩ := h; ⟨q, s1, s2, s3, h1, h2, h3, h4, h5.bd⟩
theorem PrT.same {K : PySem.W.Frag} {H H' : Hp} {x : V} {v : Pr} (e : Same H H') (h : PrT K H x v) : PrT K H' x v := let ⟨q, s1, s2, s3, h1, h2, h3, h4, h5⟩ := h; ⟨q, s1, s2, s3, h1, seqT_same e h2, h3.same e, h4.same e, h5.same e⟩
theorem PrsT.same {K : PySem.W.Frag} {H H' : Hp} {x : V} {v : List Pr} (e : Same H H') (h : PrsT K H x v) : PrsT K H' x v := let ⟨a, xs, h1, h2, h3⟩ := h; ⟨a, xs, h1, seqT_same e h2, h3.imp fun _ _ => PrT.same e⟩
def placesD (g : Pg) : PyData := .tuple (plcG g 0 g.ps)
def pointsD (g : Pg) : PyData := .tuple (ptsG g 0 g.ps)


end
end Pf

namespace Pf
open PySem PySem.Spec PyProof.Rows L2
section
variable {P : Program} {w : World} {K : PySem.W.Frag} {mg : Str → Option Value} {base : Heap}
variable {c : Nat → Addr}
theorem rg_rng (n k : Nat) : rgV (n : Int) ((n + k : Nat) : Int) = (rng n k).map fun m => V.int (m : Nat) := by
  unfold rgV rng
  rw [List.map_map, show (((n + k : Nat) : Int) - (n : Int)).toNat = k by omega]
  refine List.map_congr_left fun i _ => ?_
  show V.int ((n : Int) + (i : Nat)) = V.int ((n + i : Nat) : Int)
  rw [Int.natCast_add]
def sp_lay_out (K : PySem.W.Frag) : Sp := fun us H Q _ => ∃ (v x : V) (g : Pg), us = [.int g.a, v, x] ∧ VrsAt K H v g.vs ∧ PrsT K H x g.ps ∧ g.Ok ∧ ∀ (t : Addr) (u1 u2 : V) (H' : Hp), Same H H' → SqT K H' t [u1, u2] → Dp K H' u1 (placesD g) → Dp K H' u2 (pointsD g) → Q (.ref t) H'
theorem ok_lay_out (T : Txt P K mg c) : Has P w K mg base 24 "lay_out" ["answers", "variables", "procedures"] (sp_lay_out K) := by
  obtain ⟨f, fd, F, m, b⟩ := T.d_lay_out.ex
  obtain ⟨f_in_sight, fd_in_sight, G_in_sight, m_in_sight, k_in_sight, b_in_sight⟩ := ok_in_sight (P := P) (w := w) (base := base) T
  obtain ⟨f_body_ways, fd_body_ways, G_body_ways, m_body_ways, k_body_ways, b_body_ways⟩ := ok_body_ways (P := P) (w := w) (base := base) T 6
  obtain ⟨f_body_length, fd_body_length, G_body_length, m_body_length, k_body_length, b_body_length⟩ := ok_body_length (P := P) (w := w) (base := base) T
  obtain ⟨f_aims_of, fd_aims_of, G_aims_of, m_aims_of, k_aims_of, b_aims_of⟩ := ok_aims_of (P := P) (w := w) (base := base) T
  obtain ⟨f_expressions_of, fd_expressions_of, G_expressions_of, m_expressions_of, k_expressions_of, b_expressions_of⟩ := ok_expressions_of (P := P) (w := w) (base := base) T
  obtain ⟨f_point_row, fd_point_row, G_point_row, m_point_row, k_point_row, b_point_row⟩ := ok_point_row (P := P) (w := w) (base := base) T
  refine ⟨f, fd, F.ok sc_lay_out (fun vs H Q E h => ?_) (fun cdv A outer s H vs Q E hr h => ?_), m, F.kp, b⟩
  · obtain ⟨v, x, g, rfl, hv, hx, ho, q⟩ := h
    rfl
  obtain ⟨v, x, g, rfl, hv, hx, ho, q⟩ := h
  refine ⟨_, (pss_cons (ps_setLc (i := 4) (own := [("procedure", 3)]) (g := gName 3) (by rfl) sc_lay_out.nd rfl rfl (sw_true rfl rfl rfl (by decide +kernel)) (pi_tup (pv 2)) (blkOk_by (own := [("procedure", 3)]) (N := ["answers", "variables", "procedures", "procedure", "names", "places", "points", "number", "sight", "rows", "statement", "ways", "first", "aims", "expression", "role", "size"]) (sc := defScope s_lay_out) (by decide +kernel)) (fun _ _ _ _ _ => (pg_name (i := 3) sc_lay_out.nd rfl (.inl rfl))) (fun _ _ _ _ _ => pts_nil) (fun _ _ _ _ _ => (pe_ix (ix_tupK (K := K) rfl) (pv 3) pe_int (fun _ _ => rfl))))
      (pss_cons (ps_set (i := 5) sc_lay_out.nd rfl (.inl rfl) (pe_lst pa_nil))
      (pss_cons (ps_set (i := 6) sc_lay_out.nd rfl (.inl rfl) (pe_lst pa_nil))
      (pss_cons (ps_for PassesOwn.never rfl (pi_enT (by rfl) T.z_enumerate (pa_cons (pv 2) pa_nil)) (pg_tup rfl (pgs_cons (pg_name (i := 7) sc_lay_out.nd rfl (.inr rfl)) (pgs_cons (pg_name (i := 3) sc_lay_out.nd rfl (.inl rfl)) pgs_nil)))
      (pss_cons (ps_set (i := 8) sc_lay_out.nd rfl (.inl rfl) (pe_call G_in_sight (hr.mono (by decide)) (by rfl) m_in_sight k_in_sight b_in_sight .nil pass0 (pa_cons (pv 1) (pa_cons (pv 3) pa_nil))))
        (pss_cons (ps_set (i := 9) sc_lay_out.nd rfl (.inl rfl) (pe_lst pa_nil))
        (pss_cons (ps_for PassesOwn.never rfl (pi_list (pe_call G_body_ways (hr.mono (by decide)) (by rfl) m_body_ways k_body_ways b_body_ways .nil pass0 (pa_cons (pe_ix ix_tup (pv 3) pe_int (fun _ _ => rfl)) (pa_cons pe_int (pa_cons (pe_call G_body_length (hr.mono (by decide)) (by rfl) m_body_length k_body_length b_body_length .nil pass0 (pa_cons (pe_ix ix_tup (pv 3) pe_int (fun _ _ => rfl)) pa_nil)) pa_nil))))) (pg_tup rfl (pgs_cons (pg_name (i := 10) sc_lay_out.nd rfl (.inl rfl)) (pgs_cons (pg_name (i := 11) sc_lay_out.nd rfl (.inl rfl)) pgs_nil)))
        (pss_cons (ps_set (i := 12) sc_lay_out.nd rfl (.inl rfl) (pe_callB call_len_seq (by rfl) T.z_len (by decide +kernel) (pa_cons (pv 5) pa_nil)))
          (pss_cons (ps_set (i := 13) sc_lay_out.nd rfl (.inl rfl) (pe_call G_aims_of (hr.mono (by decide)) (by rfl) m_aims_of k_aims_of b_aims_of .nil pass0 (pa_cons (pv 10) (pa_cons (pv 8) (pa_cons (pv 0) (pa_cons (pv 2) pa_nil))))))
          (pss_cons (ps_expr (pe_bm PySem.F.plainAttrs_list PySem.F.slot_list_extend PySem.F.type_list_extend mt_extend (pv 5) (pa_cons (pe_lc (own := [("expression", 14), ("role", 15), ("size", 16)]) (by rfl) sc_lay_out.nd (pi_ziM (by rfl) T.z_zip (pa_cons (pv 13) (pa_cons (pe_call G_expressions_of (hr.mono (by decide)) (by rfl) m_expressions_of k_expressions_of b_expressions_of .nil pass0 (pa_cons (pv 10) pa_nil)) pa_nil))) (blkOk_by (own := [("expression", 14), ("role", 15), ("size", 16)]) (N := ["answers", "variables", "procedures", "procedure", "names", "places", "points", "number", "sight", "rows", "statement", "ways", "first", "aims", "expression", "role", "size"]) (sc := defScope s_lay_out) (by decide +kernel)) (fun _ _ _ _ _ => (pg_tupK (K := K) (n := 2) rfl rfl (pgs_cons (pg_tupK (K := K) (n := 2) rfl rfl (pgs_cons (pg_name (i := 15) sc_lay_out.nd rfl (.inl rfl)) (pgs_cons (pg_name (i := 16) sc_lay_out.nd rfl (.inl rfl)) pgs_nil))) (pgs_cons (pg_name (i := 14) sc_lay_out.nd rfl (.inl rfl)) pgs_nil)))) (fun _ _ _ _ _ => pts_nil) (fun _ _ _ _ _ => (pe_tup (pa_cons (pv 7) (pa_cons (pv 15) (pa_cons (pv 16) (pa_cons (pv 14) pa_nil))))))) pa_nil)))
          (pss_one (ps_expr (pe_bm PySem.F.plainAttrs_list PySem.F.slot_list_append PySem.F.type_list_append mt_append (pv 9) (pa_cons (pe_call G_point_row (hr.mono (by decide)) (by rfl) m_point_row k_point_row b_point_row .nil pass0 (pa_cons (pv 10) (pa_cons (pv 8) (pa_cons (pv 4) (pa_cons (pe_tupRg rfl (by rfl) T.z_tuple (prg_2 (by rfl) T.z_range (pv 12) (pe_callB call_len_seq (by rfl) T.z_len (by decide +kernel) (pa_cons (pv 5) pa_nil)))) (pa_cons (pv 11) pa_nil)))))) pa_nil))))))))
        (pss_one (ps_expr (pe_bm PySem.F.plainAttrs_list PySem.F.slot_list_append PySem.F.type_list_append mt_append (pv 6) (pa_cons (pe_callTy call_tuple_of (by rfl) T.z_tuple (by decide +kernel) (pa_cons (pe_op op_cat (pv 9) (pe_lst (pa_cons (pe_tup (pa_cons pe_str pa_nil)) pa_nil))) pa_nil)) pa_nil))))))))
      (pss_one (ps_ret (pe_tup (pa_cons (pe_callTy call_tuple_of (by rfl) T.z_tuple (by decide +kernel) (pa_cons (pv 5) pa_nil)) (pa_cons (pe_callTy call_tuple_of (by rfl) T.z_tuple (by decide +kernel) (pa_cons (pv 6) pa_nil)) pa_nil))))))))), ?_⟩
  obtain ⟨a, xs, rfl, hq, ha⟩ := id hx
  have la := ha.1
  have o5 := ho.p5
  have o4 := ho.v4
  have sn := ho.sn
  have hPQ : PrsQ K H (.ref a) g.ps := ⟨a, xs, rfl, hq, ha.imp fun _ _ => PrT.at⟩
  -- names
  refine ⟨_, rfl, a, rfl, ⟨_, hq⟩, fun D1 n1 => lc_it (walk_tup (xs := xs)) (fun i H' => Same H H' ∧ H' D1 = some (.lst (((g.ps.take i).map Pr.nm).map V.str))) ⟨same_new n1, upd_same⟩ (fun i H' _ h' => seqT_same h'.1 hq) ?_ ?_⟩
  · rintro i x H1 H2 hi ⟨s1, hD⟩ ⟨rfl, hx⟩
    obtain ⟨p, ep, r, t1, t2, t3, rfl, hr, _⟩ := ha.at hx
    refine ⟨rfl, _, rfl, r, _, _, _, rfl, rfl, seqT_same s1 hr, p0, _, hD, ?_, same_mut s1 n1, ?_⟩
    · rw [List.length_map, List.length_map, List.length_take]
      exact small1000 (by omega)
    · rw [upd_same, map_take_at ep, List.map_append]
      rfl
  rintro H1 ⟨s1, hD1⟩
  rw [la, List.take_length] at hD1
  refine ⟨by show 0 ≤ sizeLine; decide, fun P nP => ⟨by show 0 ≤ sizeLine; decide, fun R nR => ?_⟩⟩
  have e0 := same_new (o := .lst []) nP
  have e1 := same_new (o := .lst []) nR
  have hP0 := e1 _ _ (upd_same (H := H1) (a := P) (o := .lst []))
  have hR0 := upd_same (H := upd H1 P (.lst [])) (a := R) (o := .lst [])
  have hD12 := e1 _ _ (e0 _ _ hD1)
  have s2 := s1.trans (e0.trans e1)
  have nPH := s1.free nP
  have nRH := (s1.trans e0).free nR
  have nPR : P ≠ R := ne_of_none (upd_same (H := H1) (a := P) (o := .lst [])) nR
  have nD1P : D1 ≠ P := ne_of_none hD1 nP
  have nD1R : D1 ≠ R := ne_of_none (e0 _ _ hD1) nR
  generalize upd (upd H1 P (.lst [])) R (.lst []) = H2 at s2 hP0 hR0 hD12 ⊢
  let cs : List Nat := g.ps.map fun p => cntE (pL p)
  have subT : ∀ i, ∀ p ∈ g.ps.take i, p ∈ g.ps := fun i p hp => List.mem_of_mem_take hp
  have c3 : ∀ p ∈ g.ps, cntE (pL p) ≤ 3 * cntB p.bd := fun p hp => by
    have lk := ho.lok hp
    have := cntE_le (lk.e3 ho)
    rwa [lk.ln] at this
  have csum : ∀ ps' : List Pr, (∀ p ∈ ps', p ∈ g.ps) → (ps'.map fun p => cntE (pL p)).sum ≤ 3 * (ps'.map fun p => cntB p.bd).sum := fun ps' => by
    induction ps' with
    | nil => exact fun _ => Nat.zero_le _
    | cons p r ih =>
      intro h
      have h1 := ih fun x hx => h x (List.mem_cons_of_mem _ hx)
      have h2 := c3 p (h p List.mem_cons_self)
      rw [List.map_cons, List.sum_cons, List.map_cons, List.sum_cons]
      omega
  have cs180 : ∀ i, ((g.ps.take i).map fun p => cntE (pL p)).sum ≤ 180 := fun i => by
    have h1 := csum (g.ps.take i) (subT i)
    have h2 := sum_take_le (g.ps.map fun p => cntB p.bd) i
    rw [← List.map_take] at h2
    omega
  refine ⟨_, rfl, a, xs, rfl, seqT_same s2 hq, for_it walk_enT (fun i σ H' => ∃ y3 y7 y8 y9 y10 y11 y12 y13 y14 y15 y16, σ = [some (.int g.a), some v, some (.ref a), y3, some (.ref D1), some (.ref P), some (.ref R), y7, y8, y9, y10, y11, y12, y13, y14, y15, y16] ∧ Same H H' ∧ H' D1 = some (.lst ((g.ps.map Pr.nm).map V.str)) ∧
      ∃ pl rs, H' P = some (.lst pl) ∧ DpAll K H' pl (plcG g 0 (g.ps.take i)) ∧ pl.length = ((g.ps.take i).map fun p => cntE (pL p)).sum ∧ H' R = some (.lst rs) ∧ DpAll K H' rs (ptsG g 0 (g.ps.take i)) ∧ rs.length = i)
    ⟨_, _, _, _, _, _, _, _, _, _, _, rfl, s2, hD12, [], [], hP0, .nil, rfl, hR0, .nil, rfl⟩ (fun i σ H' _ h' => ?_) ?_ ?_⟩
  · obtain ⟨_, _, _, _, _, _, _, _, _, _, _, _, s1, _⟩ := h'
    exact seqT_same s1 hq
  · rintro i x σ H3 H4 hi ⟨y3, y7, y8, y9, y10, y11, y12, y13, y14, y15, y16, rfl, s3, hDn, pl, rs, hP, hpl, lpl, hR, hrs, lrs⟩ ⟨T, z, x, rfl, nT, rfl, hz, hx⟩
    cases hz
    obtain ⟨p, ep, hp⟩ := ha.at hx
    have mp := List.mem_of_getElem? ep
    have hat := hp.at
    have lk := ho.lok mp
    have vd := ho.vd p mp
    have dl := ho.decl.len p mp
    obtain ⟨r, t1, t2, t3, rfl, hr, _, _, hb⟩ := hp
    have e4 := same_new (o := .tup [.int (i : Nat), .ref r]) nT
    refine ⟨T, _, rfl, SqT.of upd_same, rfl, _, _, rfl, _, _, rfl, rfl, ?_⟩
    have s4 := s3.trans e4
    have hP4 := e4 _ _ hP
    have hR4 := e4 _ _ hR
    have hDn4 := e4 _ _ hDn
    have hpl4 := dpa_same e4 hpl
    have hrs4 := dpa_same e4 hrs
    generalize upd H3 T (.tup [.int (i : Nat), .ref r]) = H4 at s4 hP4 hR4 hDn4 hpl4 hrs4 ⊢
    -- sight
    refine ⟨_, rfl, _, rfl, v, _, g.vs, p, rfl, hv.same s4, hat.same s4, o4, ho.p3 p mp, ho.l33 p mp, fun l8 w8 H5 s5 n8 hl8 hw8 => ?_⟩
    have hP5 := s5 _ _ hP4
    have hR5 := s5 _ _ hR4
    have s45 := s4.trans s5
    -- rows
    refine ⟨by show 0 ≤ sizeLine; decide, fun W nW => ?_⟩
    have e6 := same_new (o := .lst []) nW
    have hW6 := upd_same (H := H5) (a := W) (o := .lst [])
    have nWP : W ≠ P := (ne_of_none hP5 nW).symm
    have nWR : W ≠ R := (ne_of_none hR5 nW).symm
    have nWD1 : D1 ≠ W := ne_of_none (s5 _ _ hDn4) nW
    have nl8W : l8 ≠ W := ne_of_none hl8 nW
    have nl8P : l8 ≠ P := fun z => by
      rw [z, hP4] at n8
      cases n8
    have nl8R : l8 ≠ R := fun z => by
      rw [z, hR4] at n8
      cases n8
    have s56 := s5.trans e6
    have hP6 := e6 _ _ hP5
    have hR6 := e6 _ _ hR5
    have hDn6 := s56 _ _ hDn4
    have hl86 := e6 _ _ hl8
    have hw86 := hw8.imp fun _ _ => VrAt.same e6
    have hpl6 := dpa_same s56 hpl4
    have hrs6 := dpa_same s56 hrs4
    have s6 := s45.trans e6
    have nWH := s45.free nW
    generalize upd H5 W (.lst []) = H6 at s6 hW6 hP6 hR6 hDn6 hl86 hw86 hpl6 hrs6 ⊢
    -- for statement, ways in ..
    have c60 : cntB p.bd ≤ 60 := Nat.le_trans (sum_mem (List.mem_map.mpr ⟨p, mp, rfl⟩)) sn
    refine ⟨_, rfl, r, _, _, _, rfl, rfl, seqT_same s6 hr, p3, _, rfl, r, _, _, _, rfl, rfl, seqT_same s6 hr, p3, t3, p.bd, rfl, hb.bd.same s6, by omega, fun H7 s7 => ?_⟩
    have s67 := s6.trans s7
    refine ⟨t3, p.bd, 0, cntB p.bd, 1, H, rfl, s67, hb, c60, allB_imp (fun d s h => h.1) _ _ (ho.sb p mp), by decide, fun l ws H8 s8 nl hl hws => ⟨l, rfl, ⟨_, SqL.of hl⟩, ?_⟩⟩
    have s68 := s67.trans s8
    have s78 := s7.trans s8
    have hP8 := s78 _ _ hP6
    have hR8 := s78 _ _ hR6
    have hW8 := s78 _ _ hW6
    have nlP : l ≠ P := (ne_of_none (s7 _ _ hP6) nl).symm
    have nlR : l ≠ R := (ne_of_none (s7 _ _ hR6) nl).symm
    have nlW : l ≠ W := (ne_of_none (s7 _ _ hW6) nl).symm
    have lws : ws.length = (pL p).length := hws.1
    have lpL := lk.ln
    show Exists _
    refine for_it (walk_list (K := K) (a := l) (xs := ws)) (fun j σ H' => ∃ y10 y11 y12 y13 y14 y15 y16, σ = [some (.int g.a), some v, some (.ref a), some (.ref r), some (.ref D1), some (.ref P), some (.ref R), some (.int (i : Nat)), some (.ref l8), some (.ref W), y10, y11, y12, y13, y14, y15, y16] ∧ Same H H' ∧ H' D1 = some (.lst ((g.ps.map Pr.nm).map V.str)) ∧ H' l8 = some (.lst w8) ∧ All2 (VrAt K H') w8 (scp g.vs p) ∧
        H' l = some (.lst ws) ∧ All2 (WyAt K H H') ws (pL p) ∧ H' R = some (.lst rs) ∧ DpAll K H' rs (ptsG g 0 (g.ps.take i)) ∧ ∃ pl2 rw, H' P = some (.lst pl2) ∧ DpAll K H' pl2 (plcG g 0 (g.ps.take i) ++ plcL i (scp g.vs p) g.a g.ps ((pL p).take j)) ∧ pl2.length = pl.length + cntE ((pL p).take j) ∧ H' W = some (.lst rw) ∧ DpAll K H' rw (rowL (scp g.vs p) (g.ps.map Pr.nm) pl.length ((pL p).take j)))
      ⟨_, _, _, _, _, _, _, rfl, s68, s78 _ _ hDn6, s78 _ _ hl86, hw86.imp fun _ _ => VrAt.same s78, hl, hws, hR8, dpa_same s78 hrs6, pl, [], hP8, by rw [List.take_zero]; show DpAll K H8 pl (plcG g 0 (g.ps.take i) ++ []); rw [List.append_nil]; exact dpa_same s78 hpl6, rfl, hW8, .nil⟩ (fun j σ H' _ h' => ?_) ?_ ?_
    · obtain ⟨_, _, _, _, _, _, _, _, _, _, _, _, h, _⟩ := h'
      exact SqL.of h
    · rintro j y σ H9x H9 hj ⟨z10, z11, z12, z13, z14, z15, z16, rfl, s9, hDn9, hl89, hw89, hl9, hws9, hR9, hrs9, pl2, rw2, hP9, hpl9, lpl2, hW9, hrw9⟩ ⟨rfl, hy⟩
      obtain ⟨qq, eqq, t, u, w, rfl, ht, hu, hw⟩ := hws9.at hy
      have mq := List.mem_of_getElem? eqq
      have loc := lk.loc qq mq
      have e3 := lk.e3 ho qq mq
      have ald := aims_len (a := g.a) vd ho.pd loc
      have hst := (hu.same s9).at
      refine ⟨t, _, rfl, ht, rfl, _, _, rfl, _, _, rfl, rfl, ?_⟩
      refine ⟨_, rfl, P, _, rfl, .inl (SqL.of hP9), ?_⟩
      refine ⟨_, rfl, _, rfl, _, rfl, _, rfl, u, qq.1, l8, w8, scp g.vs p, g.a, .ref a, g.ps, rfl, hst, SqL.of hl89, hw89, vd, dl, hPQ.same s9, ho.pd, o5, ho.p3, fun la zs H11 s11 na hla hzs => ?_⟩
      have hP11 := s11 _ _ hP9
      have lzs : zs.length = qq.1.exs.length := by rw [hzs.1, ald]
      -- places.extend
      refine ⟨_, rfl, .inl ⟨rfl, _, SqL.of hP11⟩, ?_⟩
      refine ⟨_, rfl, _, rfl, u, qq.1, rfl, hst.same s11, fun te xe H12 s12 hte hxe => ⟨la, te, zs, xe, rfl, SqL.of (s12 _ _ hla), hte, fun D nD => ?_⟩⟩
      have lxe : xe.length = qq.1.exs.length := by have := dpa_len hxe; rwa [List.length_map] at this
      have tps := tup_plcS (k := i) (sc := scp g.vs p) (a := g.a) (ps := g.ps) (s := qq.1) (loc_exs ho.p3 loc).1.d5
      refine lc_it (walk_ziM (K := K) (a := la) (b := te) (xs := zs) (ys := xe)) (fun k H' => Same H12 H' ∧ ∃ acc, H' D = some (.lst acc) ∧ DpAll K H' acc ((plcS i (scp g.vs p) g.a g.ps qq.1).take k) ∧ acc.length = k) ⟨same_new nD, [], upd_same, .nil, rfl⟩ (fun k H' _ h' => ⟨h'.1.seq (SqL.of (s12 _ _ hla)), seqT_same h'.1 hte⟩) ?_ ?_
      · rintro k xx H13 H14 hk ⟨s13, acc, hD, hacc, lacc⟩ ⟨T, z, x, rfl, nT, rfl, hz, hx⟩
        obtain ⟨am, eam, t1, rfl, ht1⟩ := hzs.at hz
        obtain ⟨d2, ed2, hd2⟩ := dpa_getx' hxe hx
        rw [List.getElem?_map] at ed2
        cases ee : qq.1.exs[k]? with
        | none => rw [ee] at ed2; cases ed2
        | some e =>
        rw [ee] at ed2
        cases ed2
        have e14 := same_new (o := .tup [.ref t1, x]) nT
        have eps : (plcS i (scp g.vs p) g.a g.ps qq.1)[k]? = some (.tuple [.int (i : Nat), .str am.1, .int am.2, e.d]) := by
          unfold plcS
          rw [List.getElem?_zipWith, eam, ee]
        refine ⟨T, _, rfl, SqT.of upd_same, rfl, _, _, rfl, t1, _, rfl, seqT_same ((s12.trans s13).trans e14) ht1, rfl, _, _, rfl, _, _, rfl, rfl, _, _, rfl, rfl, rfl, _, rfl, _, rfl, _, rfl, _, rfl, by show 4 ≤ sizeLine; decide, fun t4 n4 => ?_⟩
        have e15 := e14.trans (same_new (o := .tup [.int (i : Nat), .str am.1, .int am.2, x]) n4)
        have hD15 := e15 _ _ hD
        refine ⟨acc, hD15, small1000 (by omega), same_mut (s13.trans e15) nD, acc ++ [.ref t4], upd_same, ?_, by rw [List.length_append, lacc]; rfl⟩
        rw [take_succ_at eps]
        exact dpa_cat (dpa_mut hD15 7 (fun d hd => tps d (List.mem_of_mem_take hd)) (dpa_same e15 hacc)) (.cons (dp_mut hD15 7 (tps _ (List.mem_of_getElem? eps)) (.tup (SqT.of upd_same) (.cons (.int _) (.cons (.str _) (.cons (.int _) (.cons (dp_same (s13.trans e15) hd2) .nil)))))) .nil)
      rintro H13 ⟨s13, acc, hD13, hacc, lacc⟩
      have lmin : min zs.length xe.length = qq.1.exs.length := by rw [lzs, lxe, Nat.min_self]
      rw [lmin] at hacc lacc
      have lpS : (plcS i (scp g.vs p) g.a g.ps qq.1).length = qq.1.exs.length := by unfold plcS; rw [List.length_zipWith, ald, Nat.min_self]
      rw [List.take_of_length_le (by rw [lpS]; exact Nat.le_refl _)] at hacc
      have s913 := (s11.trans s12).trans s13
      have hP13 := s913 _ _ hP9
      have cj : cntE ((pL p).take j) ≤ 3 * ((pL p).take j).length := cntE_le fun q hq => lk.e3 ho q (List.mem_of_mem_take hq)
      have lj : ((pL p).take j).length ≤ 60 := by rw [List.length_take]; omega
      have c180 := cs180 i
      refine ⟨P, D, pl2, acc, rfl, rfl, hP13, hD13, line_small (by omega), ?_⟩
      have f14 : Fr P H13 (upd H13 P (.lst (pl2 ++ acc))) := Fr.upd
      have hP14 := upd_same (H := H13) (a := P) (o := .lst (pl2 ++ acc))
      have tG := tup_plcG ho 0 (subT i)
      have tL : ∀ L, (∀ q ∈ L, q ∈ pL p) → ∀ d ∈ plcL i (scp g.vs p) g.a g.ps L, tupOk 7 d := fun L h => tup_plcL ho lk h
      have tR := tup_ptsG ho 0 (subT i)
      have tW := tup_rowL (sc := scp g.vs p) (nms := g.ps.map Pr.nm) pl.length (L := (pL p).take j) fun q hq => lk.e3 ho q (List.mem_of_mem_take hq)
      have hpl14 : DpAll K (upd H13 P (.lst (pl2 ++ acc))) (pl2 ++ acc) ((plcG g 0 (g.ps.take i) ++ plcL i (scp g.vs p) g.a g.ps ((pL p).take j)) ++ plcS i (scp g.vs p) g.a g.ps qq.1) := dpa_cat (dpa_mut hP13 7 (fun d hd => by
        rcases List.mem_append.mp hd with hd | hd
        · exact tG d hd
        · exact tL _ (fun q hq => List.mem_of_mem_take hq) d hd) (dpa_same s913 hpl9)) (dpa_mut hP13 7 tps hacc)
      have hrs14 := dpa_mut (o := .lst (pl2 ++ acc)) hP13 3 tR (dpa_same s913 hrs9)
      have hrw14 := dpa_mut (o := .lst (pl2 ++ acc)) hP13 2 tW (dpa_same s913 hrw9)
      have hw814 := hw89.imp fun _ _ h => VrAt.mut (o := .lst (pl2 ++ acc)) hP13 (VrAt.same s913 h)
      have hws14 := hws9.imp fun _ _ h => WyAt.mut (o := .lst (pl2 ++ acc)) hP13 (h.same s913)
      have hwl14 := seqT_mut (o := .lst (pl2 ++ acc)) hP13 (seqT_same s913 hw)
      have s14 : Same H (upd H13 P (.lst (pl2 ++ acc))) := same_mut (s9.trans s913) nPH
      have hDn14 := f14 _ _ nD1P (s913 _ _ hDn9)
      have hl814 := f14 _ _ nl8P (s913 _ _ hl89)
      have hl14 := f14 _ _ nlP (s913 _ _ hl9)
      have hR14 := f14 _ _ nPR.symm (s913 _ _ hR9)
      have hW14 := f14 _ _ nWP (s913 _ _ hW9)
      generalize upd H13 P (.lst (pl2 ++ acc)) = H14 at f14 hP14 hpl14 hrs14 hrw14 hw814 hws14 hwl14 s14 hDn14 hl814 hl14 hR14 hW14 ⊢
      refine ⟨_, rfl, .inl ⟨rfl, _, SqL.of hW14⟩, _, rfl, _, rfl, _, rfl, ?_⟩
      have lpa : (pl2 ++ acc).length = pl2.length + qq.1.exs.length := by rw [List.length_append, lacc]
      refine ⟨_, rfl, _, rfl, P, _, rfl, .inl (SqL.of hP14), _, _, rfl, rfl, ?_, fun tr ntr => ⟨_, rfl, ?_⟩⟩
      · rw [lpa]
        exact RgOk.of_le (by omega) (by omega) (by omega) (by omega)
      rw [lpa, rg_rng]
      have er := same_new (o := .tup ((rng pl2.length qq.1.exs.length).map fun m => V.int (m : Nat))) ntr
      refine ⟨u, qq.1, l8, D1, tr, w, w8, scp g.vs p, g.ps.map Pr.nm, rng pl2.length qq.1.exs.length, qq.2, g.l, g.ps, rfl, (hu.same (s14.trans er)).at, SqL.of (er _ _ hl814), hw814.imp fun _ _ => VrAt.same er, dl, SqL.of (er _ _ hDn14), SqT.of upd_same, seqT_same er hwl14, loc, rfl, by unfold rng; rw [List.length_map, List.length_range], lk.nw qq mq, fun v15 H15 s15 hv15 => ?_⟩
      have s1415 := er.trans s15
      have hW15 := s1415 _ _ hW14
      have lrw : rw2.length = ((pL p).take j).length := by have := dpa_len hrw9; rwa [rowL_len] at this
      refine ⟨W, rw2, _, rfl, rfl, hW15, small1000 (by omega), ?_⟩
      have ecn : cntE ((pL p).take (j + 1)) = cntE ((pL p).take j) + qq.1.exs.length := by rw [take_succ_at eqq, cntE_app]; simp [cntE]
      refine ⟨_, _, _, _, _, _, _, rfl, same_mut (s14.trans s1415) nWH, (upd_ne nWD1).trans (s1415 _ _ hDn14), (upd_ne nl8W).trans (s1415 _ _ hl814), hw814.imp fun _ _ h => VrAt.mut hW15 (VrAt.same s1415 h), (upd_ne nlW).trans (s1415 _ _ hl14), hws14.imp fun _ _ h => (h.same s1415).mut hW15, (upd_ne nWR.symm).trans (s1415 _ _ hR14), dpa_mut hW15 3 tR (dpa_same s1415 hrs14), pl2 ++ acc, rw2 ++ [v15], (upd_ne nWP.symm).trans (s1415 _ _ hP14), ?_, ?_, upd_same, ?_⟩
      · rw [take_succ_at eqq, plcL_snoc, ← List.append_assoc]
        refine dpa_mut hW15 7 (fun d hd => ?_) (dpa_same s1415 hpl14)
        rcases List.mem_append.mp hd with hd | hd
        · rcases List.mem_append.mp hd with hd | hd
          · exact tG d hd
          · exact tL _ (fun q hq => List.mem_of_mem_take hq) d hd
        · exact tps d hd
      · rw [lpa, ecn, lpl2]
        omega
      · rw [take_succ_at eqq, rowL_snoc]
        refine dpa_cat (dpa_mut hW15 2 tW (dpa_same s1415 hrw14)) (.cons (dp_mut hW15 2 (tup_rowD (by unfold rng; rw [List.length_map, List.length_range]; omega) _) ?_) .nil)
        rw [← lpl2]
        exact hv15
    · rintro σ H9 ⟨z10, z11, z12, z13, z14, z15, z16, rfl, s9, hDn9, hl89, hw89, hl9, hws9, hR9, hrs9, pl2, rw2, hP9, hpl9, lpl2, hW9, hrw9⟩
      rw [lws, List.take_length] at hpl9 lpl2 hrw9
      refine ⟨_, rfl, .inl ⟨rfl, _, SqL.of hR9⟩, _, rfl, by show 1 ≤ sizeLine; decide, fun tn m1 => ⟨by show 1 ≤ sizeLine; decide, fun l0 m2 => ?_⟩⟩
      have f1 := same_new (o := .tup [.str "end"]) m1
      have f2 := f1.trans (same_new (o := .lst [.ref tn]) m2)
      have lrw : rw2.length = (pL p).length := by have := dpa_len hrw9; rwa [rowL_len] at this
      refine ⟨W, l0, rw2, _, rfl, rfl, f2 _ _ hW9, upd_same, line_small (by show rw2.length + 1 ≤ _; omega), fun l2 m3 => ?_⟩
      have f3 := f2.trans (same_new (o := .lst (rw2 ++ [.ref tn])) m3)
      refine ⟨l2, _, rfl, .inl ⟨SqL.of upd_same, fun t2 m4 => ?_⟩⟩
      have f4 := f3.trans (same_new (o := .tup (rw2 ++ [.ref tn])) m4)
      have hR4 := f4 _ _ hR9
      refine ⟨R, rs, _, rfl, rfl, hR4, small1000 (by omega), ?_⟩
      have etk : g.ps.take (i + 1) = g.ps.take i ++ [p] := take_succ_at ep
      have lti : (g.ps.take i).length = i := by rw [List.length_take]; omega
      have tG := tup_plcG ho 0 (subT (i + 1))
      have tR := tup_ptsG ho 0 (subT (i + 1))
      have eG : plcG g 0 (g.ps.take (i + 1)) = plcG g 0 (g.ps.take i) ++ plcL i (scp g.vs p) g.a g.ps (pL p) := by rw [etk, plcG_snoc, lti, Nat.zero_add]
      have eR : ptsG g 0 (g.ps.take (i + 1)) = ptsG g 0 (g.ps.take i) ++ [.tuple (rowL (scp g.vs p) (g.ps.map Pr.nm) pl.length (pL p) ++ [.tuple [.str "end"]])] := by rw [etk, ptsG_snoc, Nat.zero_add, ← lpl]
      refine ⟨_, _, _, _, _, _, _, _, _, _, _, rfl, same_mut (s9.trans f4) nRH, (upd_ne nD1R).trans (f4 _ _ hDn9), pl2, rs ++ [.ref t2], (upd_ne nPR).trans (f4 _ _ hP9), ?_, ?_, upd_same, ?_, by rw [List.length_append, lrs]; rfl⟩
      · rw [eG] at tG ⊢
        exact dpa_mut hR4 7 tG (dpa_same f4 hpl9)
      · rw [lpl2, lpl, etk, List.map_append, List.sum_append]
        simp
      · rw [eR] at tR ⊢
        refine dpa_cat (dpa_mut hR4 3 (fun d hd => tR d (List.mem_append_left _ hd)) (dpa_same f4 hrs9)) (.cons (dp_mut hR4 3 (tR _ (List.mem_append_right _ (List.mem_singleton.mpr rfl))) ?_) .nil)
        exact .tup (SqT.of upd_same) (dpa_cat (dpa_same f4 hrw9) (.cons (.tup (SqT.of (same_new m4 _ _ (same_new m3 _ _ (same_new m2 _ _ upd_same)))) (.cons (.str _) .nil)) .nil))
  · rintro σ H3 ⟨y3, y7, y8, y9, y10, y11, y12, y13, y14, y15, y16, rfl, s3, hDn, pl, rs, hP, hpl, lpl, hR, hrs, lrs⟩
    rw [la, List.take_length] at hpl hrs
    refine ⟨_, rfl, P, _, rfl, .inl ⟨SqL.of hP, fun u1 m1 => ?_⟩⟩
    refine ⟨_, rfl, R, _, rfl, .inl ⟨SqL.of (same_new m1 _ _ hR), fun u2 m2 => ?_⟩⟩
    refine ⟨by show 2 ≤ sizeLine; decide, fun t nt => ?_⟩
    have f12 := (same_new (o := .tup pl) m1).trans (same_new (o := .tup rs) m2)
    have f3 := f12.trans (same_new (o := .tup [.ref u1, .ref u2]) nt)
    exact q t _ _ _ (s3.trans f3) (SqT.of upd_same) (.tup (SqT.of (same_new nt _ _ (same_new m2 _ _ upd_same))) (dpa_same f3 hpl)) (.tup (SqT.of (same_new nt _ _ upd_same)) (dpa_same f3 hrs))


end
end Pf

namespace Pf
open PySem PySem.Spec PyProof.Rows L2
section
variable {P : Program} {w : World} {K : PySem.W.Frag} {mg : Str → Option Value} {base : Heap}
variable {c : Nat → Addr}
def sgStep (S : List (List Int)) (n : Int) : List (List Int) := S.flatMap fun s => (List.range n.toNat).map fun (k : Nat) => s ++ [(k : Int)]
def sgs (ns : List Int) : List (List Int) := ns.foldl sgStep [[]]
def sgD (s : List Int) : PyData := .tuple (s.map .int)
def sgsD (ns : List Int) : PyData := .tuple ((sgs ns).map sgD)
theorem sgs_app (ns : List Int) (n : Int) : sgs (ns ++ [n]) = sgStep (sgs ns) n := by unfold sgs; rw [List.foldl_append]; rfl
theorem sgStep_app (S : List (List Int)) (s : List Int) (n : Int) : sgStep (S ++ [s]) n = sgStep S n ++ (List.range n.toNat).map fun (k : Nat) => s ++ [(k : Int)] := by
  unfold sgStep
  rw [List.flatMap_append]
  simp
theorem sgStep_len (n : Int) : ∀ S : List (List Int), (sgStep S n).length = S.length * n.toNat
  | [] => by simp [sgStep]
  | s :: S => by
    have ih := sgStep_len n S
    unfold sgStep at ih ⊢
    rw [List.flatMap_cons, List.length_append, ih, List.length_map, List.length_range, List.length_cons, Nat.add_mul, Nat.one_mul, Nat.add_comm]
theorem sgStep_each {S : List (List Int)} {n : Int} {m : Nat} (h : ∀ s ∈ S, s.length = m) : ∀ s ∈ sgStep S n, s.length = m + 1 := fun s hs => by
  obtain ⟨u, hu, hs⟩ := List.mem_flatMap.mp hs
  obtain ⟨k, _, rfl⟩ := List.mem_map.mp hs
  rw [List.length_append, h u hu]
  rfl
theorem catA_ok {K : PySem.W.Frag} {H : Hp} {a b : Addr} {xs ys : List V} {Q : VK} (h1 : SqT K H a xs) (h2 : SqT K H b ys) (l : xs.length + ys.length ≤ sizeLine) (q : ∀ r H', Same H H' → SqT K H' r (xs ++ ys) → Q (.ref r) H') : rCatA K (.ref a) (.ref b) H Q :=
  ⟨a, b, xs, ys, rfl, rfl, h1, h2, l, fun e => by subst e; exact q b H (Same.refl H) h2, fun _ e => by subst e; rw [List.append_nil] at q; exact q a H (Same.refl H) h1, fun _ _ r nr => q r _ (same_new nr) (SqT.of upd_same)⟩
theorem dpa_intV {K : PySem.W.Frag} {H : Hp} : ∀ {ns : List Int} {ws : List V}, DpAll K H ws (ns.map PyData.int) → ws = ns.map V.int
  | [], _, .nil => rfl
  | n :: ns, _, .cons h k => by
    have h' : Dp K H _ (.int n) := h
    cases h'
    rw [dpa_intV k]
    rfl
theorem ok_sg (n : Nat) (s : List Int) (h : s.length ≤ 100000) : tupOk (n + 1) (sgD s) := by
  refine ⟨by rw [List.length_map]; exact h, fun d hd => ?_⟩
  obtain ⟨i, _, rfl⟩ := List.mem_map.mp hd
  cases n <;> simp [tupOk]
theorem four_pow {i : Nat} (h : i ≤ 10) : 4 ^ i ≤ 1048576 := Nat.le_trans (Nat.pow_le_pow_right (by decide) h) (by decide)
def sp_sights_of (K : PySem.W.Frag) : Sp := fun us H Q _ => ∃ (a : Addr) (ns : List Int), us = [.ref a] ∧ SqT K H a (ns.map V.int) ∧ ns.length ≤ 10 ∧ (∀ n ∈ ns, 0 ≤ n ∧ n ≤ 4) ∧ ∀ v H', Same H H' → Dp K H' v (sgsD ns) → Q v H'
theorem ok_sights_of (T : Txt P K mg c) : Has P w K mg base 1 "sights_of" ["sizes"] (sp_sights_of K) := by
  obtain ⟨f, fd, F, m, b⟩ := T.d_sights_of.ex
  refine ⟨f, fd, F.ok sc_sights_of (fun vs H Q E h => ?_) (fun cdv A outer s H vs Q E hr h => ?_), m, F.kp, b⟩
  · obtain ⟨a, ns, rfl, hq, hl, hn, q⟩ := h
    rfl
  obtain ⟨a, ns, rfl, hq, hl, hn, q⟩ := h
  refine ⟨_, (pss_cons (ps_set (i := 1) sc_sights_of.nd rfl (.inl rfl) (pe_lst (pa_cons (pe_tup pa_nil) pa_nil)))
      (pss_cons (ps_for PassesOwn.never rfl (pi_tup (pv 0)) (pg_name (i := 2) sc_sights_of.nd rfl (.inr rfl))
      (pss_one (ps_setLc2 (i := 1) (own := [("sight", 3), ("value", 4)]) (vs1 := [4]) (g := gName 3) (g1 := gName 4) (by rfl) sc_sights_of.nd rfl rfl (sw_true rfl rfl rfl (by decide +kernel)) (pi_list (pv 1)) (blkOk_by (own := [("sight", 3), ("value", 4)]) (N := ["sizes", "sights", "size", "sight", "value"]) (sc := defScope s_sights_of) (by decide +kernel)) (by decide) (fun _ _ _ _ _ => (pg_name (i := 3) sc_sights_of.nd rfl (.inl rfl))) (fun _ _ _ _ _ => pts_nil) (fun _ _ _ _ _ => (pi_range1 (by rfl) T.z_range (pa_cons (pv 2) pa_nil))) (fun _ _ _ _ _ => (pg_name (i := 4) sc_sights_of.nd rfl (.inl rfl))) (fun _ _ _ _ _ => pts_nil) (fun _ _ _ _ _ => (pe_op (op_catAK (K := K) rfl) (pv 3) (pe_tup (pa_cons (pv 4) pa_nil)))))))
      (pss_one (ps_ret (pe_callTy call_tuple_of (by rfl) T.z_tuple (by decide +kernel) (pa_cons (pv 1) pa_nil)))))), ?_⟩
  refine ⟨by show 0 ≤ sizeLine; decide, fun t0 m0 => ⟨by show 1 ≤ sizeLine; decide, fun D0 n0 => ?_⟩⟩
  have e0 := same_new (o := .tup []) m0
  have e1 := same_new (o := .lst [.ref t0]) n0
  have hD0 := upd_same (H := upd H t0 (.tup [])) (a := D0) (o := .lst [.ref t0])
  have hx0 : DpAll K (upd (upd H t0 (.tup [])) D0 (.lst [.ref t0])) [.ref t0] ((sgs (ns.take 0)).map sgD) := .cons (.tup (SqT.of (e1 _ _ upd_same)) .nil) .nil
  have s1 := e0.trans e1
  generalize upd (upd H t0 (.tup [])) D0 (.lst [.ref t0]) = H1 at hD0 hx0 s1 ⊢
  refine ⟨_, rfl, a, rfl, ⟨_, seqT_same s1 hq⟩, for_it (walk_tup (xs := ns.map V.int)) (fun i σ H' => ∃ D ws y2 y3 y4, σ = [some (.ref a), some (.ref D), y2, y3, y4] ∧ Same H H' ∧ H' D = some (.lst ws) ∧ DpAll K H' ws ((sgs (ns.take i)).map sgD) ∧ (sgs (ns.take i)).length ≤ 4 ^ i ∧ ∀ s ∈ sgs (ns.take i), s.length = i)
    ⟨_, _, _, _, _, rfl, s1, hD0, hx0, by rw [List.take_zero]; exact Nat.le_refl _, fun s hs => by rw [List.take_zero] at hs; rcases List.mem_singleton.mp hs with rfl; rfl⟩ (fun i σ H' _ h' => ?_) ?_ ?_⟩
  · obtain ⟨_, _, _, _, _, _, s2, _⟩ := h'
    exact seqT_same s2 hq
  · rintro i x σ H2 H3 hi ⟨D, ws, y2, y3, y4, rfl, s2, hD, hw, lw, le⟩ ⟨rfl, hx⟩
    rw [List.length_map] at hi
    rw [List.getElem?_map] at hx
    cases en : ns[i]? with
    | none => rw [en] at hx; cases hx
    | some n =>
    rw [en] at hx
    cases hx
    obtain ⟨n0', n4⟩ := hn n (List.mem_of_getElem? en)
    have b4 := four_pow (i := i) (by omega)
    have lws : ws.length = (sgs (ns.take i)).length := by
      have := dpa_len hw
      rwa [List.length_map] at this
    generalize hS : sgs (ns.take i) = S at hw lw le lws
    refine ⟨_, rfl, D, rfl, ⟨_, SqL.of hD⟩, fun D2 n2 => two_out (walk_list (xs := ws)) (fun k H' => Same H3 H' ∧ ∃ zs, H' D2 = some (.lst zs) ∧ DpAll K H' zs ((sgStep (S.take k) n).map sgD)) ⟨same_new n2, [], upd_same, .nil⟩ (fun k H' _ h' => SqL.of (h'.1 _ _ hD)) ?_ ?_⟩
    · rintro k x H4 H5 hk ⟨s4, zs, hD2, hz⟩ ⟨rfl, hx⟩
      obtain ⟨d, ed, hd⟩ := dpa_getx' (dpa_same s4 hw) hx
      rw [List.getElem?_map] at ed
      cases es : S[k]? with
      | none => rw [es] at ed; cases ed
      | some sg =>
      rw [es] at ed
      cases ed
      have lsg : sg.length = i := le sg (List.mem_of_getElem? es)
      have lk : (S.take k).length = k := by
        have := (List.getElem?_eq_some_iff.mp es).1
        rw [List.length_take]
        omega
      have lzs : zs.length = k * n.toNat := by
        have := dpa_len hz
        rw [List.length_map, sgStep_len, lk] at this
        exact this
      have kle : k ≤ 1048576 := by
        have := (List.getElem?_eq_some_iff.mp es).1
        omega
      have nle : n.toNat ≤ 4 := by omega
      obtain ⟨p, vs, rfl, hp, hvs⟩ := dp_tup' hd
      obtain rfl := dpa_intV hvs
      refine ⟨rfl, ⟨_, rfl, n, rfl, by omega, by omega, ?_⟩⟩
      show Exists _
      refine two_out (walk_range (lo := 0) (n := n.toNat)) (fun m H' => Same H3 H' ∧ ∃ zs, H' D2 = some (.lst zs) ∧ DpAll K H' zs ((sgStep (S.take k) n ++ (List.range m).map fun (k' : Nat) => sg ++ [(k' : Int)]).map sgD)) ⟨s4, zs, hD2, by rw [List.range_zero, List.map_nil, List.append_nil]; exact hz⟩ (fun m H' _ h' => trivial) ?_ ?_
      · rintro m y H6 H7 hm ⟨s6, zs6, hD6, hz6⟩ ⟨rfl, rfl⟩
        have l6 : zs6.length = k * n.toNat + m := by
          have := dpa_len hz6
          rw [List.length_map, List.length_append, sgStep_len, lk, List.length_map, List.length_range] at this
          exact this
        have kn : k * n.toNat ≤ 1048576 * 4 := Nat.mul_le_mul kle nle
        have hp6 : SqT K H7 p (sg.map V.int) := by
          obtain ⟨d', ed', hd'⟩ := dpa_getx' (dpa_same s6 hw) hx
          rw [List.getElem?_map, es] at ed'
          cases ed'
          obtain ⟨p', vs', e', hp', hvs'⟩ := dp_tup' hd'
          cases e'
          rw [dpa_intV hvs'] at hp'
          exact hp'
        refine ⟨rfl, _, rfl, _, rfl, by show 1 ≤ sizeLine; decide, fun t nt => catA_ok (seqT_same (same_new nt) hp6) (SqT.of upd_same) (line_small (by rw [List.length_map]; show sg.length + 1 ≤ _; omega)) fun r H8 s8 hr8 => ?_⟩
        have s68 := (same_new (o := .tup [.int (0 + (m : Int))]) nt).trans s8
        have hD8 := s68 _ _ hD6
        refine ⟨zs6, hD8, Nat.lt_of_lt_of_le (show zs6.length < 10000000 by omega) (by decide), same_mut (s6.trans s68) n2, zs6 ++ [.ref r], upd_same, ?_⟩
        have e9 : (sgStep (S.take k) n ++ (List.range (m + 1)).map fun (k' : Nat) => sg ++ [(k' : Int)]).map sgD = (sgStep (S.take k) n ++ (List.range m).map fun (k' : Nat) => sg ++ [(k' : Int)]).map sgD ++ [sgD (sg ++ [(m : Int)])] := by
          rw [List.range_succ]
          simp
        rw [e9]
        refine dpa_app (dpa_mut hD8 1 (fun d hd => ?_) (dpa_same s68 hz6)) (dp_mut hD8 1 (ok_sg 0 _ (by rw [List.length_append]; show sg.length + 1 ≤ _; omega)) ?_)
        · obtain ⟨u, hu, rfl⟩ := List.mem_map.mp hd
          refine ok_sg 0 u ?_
          rcases List.mem_append.mp hu with hu | hu
          · have := sgStep_each (fun s hs => le s (List.mem_of_mem_take hs)) u hu
            omega
          · obtain ⟨k', _, rfl⟩ := List.mem_map.mp hu
            rw [List.length_append]
            show sg.length + 1 ≤ _
            omega
        · refine .tup hr8 ?_
          show DpAll K H8 (sg.map V.int ++ [V.int (0 + (m : Int))]) _
          rw [Int.zero_add]
          have := dpa_ints (K := K) (H := H8) (sg ++ [(m : Int)])
          rw [List.map_append] at this
          exact this
      · rintro H6 ⟨s6, zs6, hD6, hz6⟩
        refine ⟨s6, zs6, hD6, ?_⟩
        rw [take_succ_at es, sgStep_app]
        exact hz6
    · rintro H4 ⟨s4, zs, hD2, hz⟩
      rw [lws, List.take_length] at hz
      refine ⟨D2, zs, _, _, _, rfl, s2.trans s4, hD2, ?_, ?_, ?_⟩
      · rw [take_succ_at en, sgs_app, hS]
        exact hz
      · rw [take_succ_at en, sgs_app, hS, sgStep_len, Nat.pow_succ]
        exact Nat.mul_le_mul lw (by omega)
      · rw [take_succ_at en, sgs_app, hS]
        exact sgStep_each le
  · rintro σ H2 ⟨D, ws, y2, y3, y4, rfl, s2, hD, hw, lw, le⟩
    rw [List.length_map, List.take_length] at hw
    refine ⟨_, rfl, D, ws, rfl, .inl ⟨SqL.of hD, fun t nt => ?_⟩⟩
    exact q _ _ (s2.trans (same_new nt)) (.tup (SqT.of upd_same) (dpa_same (same_new nt) hw))


end
end Pf

namespace Pf
open PySem PySem.Spec PyProof.Rows L2
section
variable {P : Program} {w : World} {K : PySem.W.Frag} {mg : Str → Option Value} {base : Heap}
variable {c : Nat → Addr}
/-! ### what stands beside an instance that changes -/
theorem seqT_fr {K : PySem.W.Frag} {H H' : Hp} {p a C dx : Addr} {fs : List (Str × V)} {xs : List V} (hp : H p = some (.ins C dx fs)) (f : Fr p H H') (h : SqT K H a xs) : SqT K H' a xs := by
  rcases h with (h | ⟨o', h⟩) | h
  · refine .inl (.inl (f _ _ (fun z => ?_) h))
    subst z
    rw [hp] at h
    cases h
  · refine .inl (.inr ⟨o', f _ _ (fun z => ?_) h⟩)
    subst z
    rw [hp] at h
    cases h
  · exact .inr h
theorem seqL_fr {K : PySem.W.Frag} {H H' : Hp} {p a C dx : Addr} {fs : List (Str × V)} {xs : List V} (hp : H p = some (.ins C dx fs)) (f : Fr p H H') (h : SqL K H a xs) : SqL K H' a xs := by
  rcases h with (h | ⟨o', h⟩) | h
  · refine .inl (.inl (f _ _ (fun z => ?_) h))
    subst z
    rw [hp] at h
    cases h
  · refine .inl (.inr ⟨o', f _ _ (fun z => ?_) h⟩)
    subst z
    rw [hp] at h
    cases h
  · exact .inr h
mutual
theorem dl_fr {K : PySem.W.Frag} {H H' : Hp} {p C dx : Addr} {fs : List (Str × V)} (hp : H p = some (.ins C dx fs)) (f : Fr p H H') : ∀ {v : V} {d : PyData}, Dl K H v d → Dl K H' v d
  | _, _, .non => .non
  | _, _, .bl b => .bl b
  | _, _, .int i => .int i
  | _, _, .str x => .str x
  | _, _, .lst h k => .lst (f _ _ (fun z => by subst z; rw [hp] at h; cases h) h) (dla_fr hp f k)
  | _, _, .tup h k => .tup (seqT_fr hp f h) (dla_fr hp f k)
theorem dla_fr {K : PySem.W.Frag} {H H' : Hp} {p C dx : Addr} {fs : List (Str × V)} (hp : H p = some (.ins C dx fs)) (f : Fr p H H') : ∀ {xs : List V} {ds : List PyData}, DlAll K H xs ds → DlAll K H' xs ds
  | _, _, .nil => .nil
  | _, _, .cons h k => .cons (dl_fr hp f h) (dla_fr hp f k)
end
mutual
theorem dp_fr {K : PySem.W.Frag} {H H' : Hp} {p C dx : Addr} {fs : List (Str × V)} (hp : H p = some (.ins C dx fs)) (f : Fr p H H') : ∀ {v : V} {d : PyData}, Dp K H v d → Dp K H' v d
  | _, _, .non => .non
  | _, _, .bl b => .bl b
  | _, _, .int i => .int i
  | _, _, .str x => .str x
  | _, _, .lst h k => .lst (seqL_fr hp f h) (dpa_fr hp f k)
  | _, _, .tup h k => .tup (seqT_fr hp f h) (dpa_fr hp f k)
theorem dpa_fr {K : PySem.W.Frag} {H H' : Hp} {p C dx : Addr} {fs : List (Str × V)} (hp : H p = some (.ins C dx fs)) (f : Fr p H H') : ∀ {xs : List V} {ds : List PyData}, DpAll K H xs ds → DpAll K H' xs ds
  | _, _, .nil => .nil
  | _, _, .cons h k => .cons (dp_fr hp f h) (dpa_fr hp f k)
end
theorem pe_fldK {X : Cx} {K : PySem.W.Frag} {e : Expr} {f : Str} {pos : Pos} {ta : TE} (h : X.K = K) (he : PE X e ta) (hb : attributeBase e f X.env (eval e X.env) = eval e X.env) : PE X (.Attribute e f pos) (tFld K ta f) := h ▸ pe_fld he hb
theorem call_tuple_ofK {X : Cx} {K : PySem.W.Frag} (h : X.K = K) : CallR X (.type "tuple") (fun xs H Q => ∃ p ys, xs = [.ref p] ∧ ((SqL K H p ys ∧ ∀ l, H l = none → Q (.ref l) (upd H l (.tup ys))) ∨ SqT K H p ys ∧ Q (.ref p) H)) := h ▸ call_tuple_of

def nmsD (g : Pg) : PyData := .tuple (g.ps.map fun p => .tuple (((scp g.vs p).map Vr.nm).map .str))
def szsD (g : Pg) : PyData := .tuple (g.ps.map fun p => .tuple (((scp g.vs p).map Vr.sz).map .int))
def sgtD (g : Pg) : PyData := .tuple (g.ps.map fun p => sgsD ((scp g.vs p).map Vr.sz))
def pf2 (g : Pg) : List (Str × V) := putF "answers" (.int g.a) (putF "letters" (.int g.l) [])
def pf4 (g : Pg) (v x : V) : List (Str × V) := putF "procedures" x (putF "variables" v (pf2 g))
def pf7 (g : Pg) (v x n z s : V) : List (Str × V) := putF "_sights" s (putF "_sizes" z (putF "_names" n (pf4 g v x)))
def pf9 (g : Pg) (v x n z s pl pt : V) : List (Str × V) := putF "_points" pt (putF "places" pl (pf7 g v x n z s))
theorem lk_no {f m : Str} {v : V} {fs : List (Str × V)} (h : ¬ m = f) (k : fs.lookup m = none) : (putF f v fs).lookup m = none := by rw [lookup_putF, if_neg h]; exact k
theorem lk_ne {f m : Str} {v w : V} {fs : List (Str × V)} (h : ¬ m = f) (k : fs.lookup m = some w) : (putF f v fs).lookup m = some w := by rw [lookup_putF, if_neg h]; exact k
theorem lk_eq {f : Str} {v : V} {fs : List (Str × V)} : (putF f v fs).lookup f = some v := by rw [lookup_putF, if_pos rfl]
theorem pf9_no {g : Pg} {v x n z s pl pt : V} {m : Str} (h : m ∉ (["_points", "places", "_sights", "_sizes", "_names", "procedures", "variables", "answers", "letters"] : List Str)) : (pf9 g v x n z s pl pt).lookup m = none := by
  have k : ∀ y, y ∈ (["_points", "places", "_sights", "_sizes", "_names", "procedures", "variables", "answers", "letters"] : List Str) → ¬ m = y := fun y hy e => h (e ▸ hy)
  exact lk_no (k _ (by simp)) (lk_no (k _ (by simp)) (lk_no (k _ (by simp)) (lk_no (k _ (by simp)) (lk_no (k _ (by simp)) (lk_no (k _ (by simp)) (lk_no (k _ (by simp)) (lk_no (k _ (by simp)) (lk_no (k _ (by simp)) rfl))))))))
theorem pf9_n {g : Pg} {v x n z s pl pt : V} : (pf9 g v x n z s pl pt).lookup ("_names" : Str) = some n := lk_ne (by decide +kernel) (lk_ne (by decide +kernel) (lk_ne (by decide +kernel) (lk_ne (by decide +kernel) lk_eq)))
theorem pf9_z {g : Pg} {v x n z s pl pt : V} : (pf9 g v x n z s pl pt).lookup ("_sizes" : Str) = some z := lk_ne (by decide +kernel) (lk_ne (by decide +kernel) (lk_ne (by decide +kernel) lk_eq))
theorem pf9_s {g : Pg} {v x n z s pl pt : V} : (pf9 g v x n z s pl pt).lookup ("_sights" : Str) = some s := lk_ne (by decide +kernel) (lk_ne (by decide +kernel) lk_eq)
theorem pf9_v {g : Pg} {v x n z s pl pt : V} : (pf9 g v x n z s pl pt).lookup ("variables" : Str) = some v := lk_ne (by decide +kernel) (lk_ne (by decide +kernel) (lk_ne (by decide +kernel) (lk_ne (by decide +kernel) (lk_ne (by decide +kernel) (lk_ne (by decide +kernel) lk_eq)))))
theorem pf9_x {g : Pg} {v x n z s pl pt : V} : (pf9 g v x n z s pl pt).lookup ("procedures" : Str) = some x := lk_ne (by decide +kernel) (lk_ne (by decide +kernel) (lk_ne (by decide +kernel) (lk_ne (by decide +kernel) (lk_ne (by decide +kernel) lk_eq))))
theorem pf9_pl {g : Pg} {v x n z s pl pt : V} : (pf9 g v x n z s pl pt).lookup ("places" : Str) = some pl := lk_ne (by decide +kernel) lk_eq
theorem pf9_pt {g : Pg} {v x n z s pl pt : V} : (pf9 g v x n z s pl pt).lookup ("_points" : Str) = some pt := lk_eq
theorem pf9_l {g : Pg} {v x n z s pl pt : V} : (pf9 g v x n z s pl pt).lookup ("letters" : Str) = some (.int g.l) := lk_ne (by decide +kernel) (lk_ne (by decide +kernel) (lk_ne (by decide +kernel) (lk_ne (by decide +kernel) (lk_ne (by decide +kernel) (lk_ne (by decide +kernel) (lk_ne (by decide +kernel) (lk_ne (by decide +kernel) lk_eq)))))))
theorem pf9_a {g : Pg} {v x n z s pl pt : V} : (pf9 g v x n z s pl pt).lookup ("answers" : Str) = some (.int g.a) := lk_ne (by decide +kernel) (lk_ne (by decide +kernel) (lk_ne (by decide +kernel) (lk_ne (by decide +kernel) (lk_ne (by decide +kernel) (lk_ne (by decide +kernel) (lk_ne (by decide +kernel) lk_eq))))))
/-- what stands in a program's fields -/
structure PgFs (K : PySem.W.Frag) (H : Hp) (g : Pg) (v x n z s pl pt : V) : Prop where
  v : Dp K H v (.tuple (g.vs.map Vr.d))
  x : Dp K H x (.tuple (g.ps.map Pr.d))
  n : Dp K H n (nmsD g)
  z : Dp K H z (szsD g)
  s : Dp K H s (sgtD g)
  pl : Dp K H pl (placesD g)
  pt : Dp K H pt (pointsD g)
theorem PgFs.same {K : PySem.W.Frag} {H H' : Hp} {g : Pg} {v x n z s pl pt : V} (e : Same H H') (h : PgFs K H g v x n z s pl pt) : PgFs K H' g v x n z s pl pt := ⟨dp_same e h.v, dp_same e h.x, dp_same e h.n, dp_same e h.z, dp_same e h.s, dp_same e h.pl, dp_same e h.pt⟩
def PgAt (K : PySem.W.Frag) (C : Addr) (H : Hp) (p : Addr) (g : Pg) : Prop := ∃ (dx : Addr) (v x n z s pl pt : V), H p = some (.ins C dx (pf9 g v x n z s pl pt)) ∧ PgFs K H g v x n z s pl pt
theorem PgAt.same {K : PySem.W.Frag} {C : Addr} {H H' : Hp} {p : Addr} {g : Pg} (e : Same H H') (h : PgAt K C H p g) : PgAt K C H' p g := by
  obtain ⟨dx, v, x, n, z, s, pl, pt, h, d⟩ := h
  exact ⟨dx, v, x, n, z, s, pl, pt, e _ _ h, d.same e⟩
/-! ### the data frozen -/
def rawVs (d : PyData) (vs : List Vr) : Prop := isSeq d (vs.map Vr.d)
theorem frz_vr (v : Vr) : frz v.d = v.d := by simp [Vr.d, frz, frzs]
theorem frz_vs {d : PyData} {vs : List Vr} (h : rawVs d vs) : frz d = .tuple (vs.map Vr.d) := by
  have e : (vs.map Vr.d).map frz = vs.map Vr.d := by
    rw [List.map_map]
    exact List.map_congr_left fun v _ => frz_vr v
  rcases h with rfl | rfl <;> rw [frz, frzs_map, e]
theorem frz_ex : ∀ e : Ex, frz e.d = e.d
  | .num n => by simp [Ex.d, frz, frzs]
  | .nam n => by simp [Ex.d, frz, frzs]
  | .not e => by simp [Ex.d, frz, frzs, frz_ex e]
  | .bin o l r => by simp [Ex.d, frz, frzs, frz_ex l, frz_ex r]
theorem frzs_ex (as : List Ex) : (as.map Ex.d).map frz = as.map Ex.d := by
  rw [List.map_map]
  exact List.map_congr_left fun e _ => frz_ex e
theorem frz_seq {d : PyData} {ds : List PyData} (h : isSeq d ds) : frz d = .tuple (ds.map frz) := by
  rcases h with rfl | rfl <;> rw [frz, frzs_map]
mutual
theorem frz_st : ∀ {s : St} {d : PyData}, rawS s d → frz d = s.d
  | .set v e, d, r => by
    rw [rawS] at r
    subst r
    simp [frz, frzs, St.d, frz_ex e]
  | .read v, d, r => by
    rw [rawS] at r
    subst r
    simp [frz, frzs, St.d]
  | .write e, d, r => by
    rw [rawS] at r
    subst r
    simp [frz, frzs, St.d, frz_ex e]
  | .ifs e b o, d, r => by
    rw [rawS] at r
    obtain ⟨x, y, xs, ys, rfl, e1, r1, e2, r2⟩ := r
    simp [frz, frzs, St.d, frz_ex e, frz_seq e1, frz_seq e2, frz_bd r1, frz_bd r2]
  | .whi e b, d, r => by
    rw [rawS] at r
    obtain ⟨x, xs, rfl, e1, r1⟩ := r
    simp [frz, frzs, St.d, frz_ex e, frz_seq e1, frz_bd r1]
  | .call p as, d, r => by
    rw [rawS] at r
    obtain ⟨x, rfl, e1⟩ := r
    simp only [frz, frzs, St.d, frz_seq e1, frzs_ex as]
  | .skip, d, r => by
    rw [rawS] at r
    subst r
    simp [frz, frzs, St.d]
theorem frz_bd : ∀ {b : List St} {ds : List PyData}, rawL b ds → ds.map frz = stDs b
  | [], ds, r => by
    rw [rawL] at r
    subst r
    simp [stDs]
  | s :: b, ds, r => by
    rw [rawL] at r
    obtain ⟨d, es, rfl, r1, r2⟩ := r
    rw [List.map_cons, frz_st r1, frz_bd r2, stDs]
end
theorem frz_body {d : PyData} {b : List St} (h : rawB b d) : frz d = .tuple (stDs b) := by
  obtain ⟨ds, e, r⟩ := h
  rw [frz_seq e, frz_bd r]
theorem frz_pr {d : PyData} {p : Pr} (h : rawPr d p) : frz d = p.d := by
  obtain ⟨s1, s2, s3, rfl, e1, e2, e3⟩ := h
  simp only [frz, frzs, frz_vs e1, frz_vs e2, frz_body e3, Pr.d]
theorem frz_ps {d : PyData} {ps : List Pr} (h : rawPs d ps) : frz d = .tuple (ps.map Pr.d) := by
  obtain ⟨ds, es, el, er⟩ := h
  have e : ds.map frz = ps.map Pr.d := by
    apply List.ext_getElem?
    intro i
    rw [List.getElem?_map, List.getElem?_map]
    cases h1 : ds[i]? with
    | none =>
      rw [List.getElem?_eq_none (by have := List.getElem?_eq_none_iff.mp h1; omega)]
      rfl
    | some d' =>
      have hi : i < ps.length := by
        have := (List.getElem?_eq_some_iff.mp h1).1
        omega
      rw [List.getElem?_eq_getElem hi]
      exact congrArg some (frz_pr (er i d' _ h1 (List.getElem?_eq_getElem hi)))
  rcases es with rfl | rfl <;> rw [frz, frzs_map, e]
theorem dat_sq {d : PyData} {ds : List PyData} {n : Nat} (h : isSeq d ds) (l : ds.length ≤ 1000) (k : ∀ e ∈ ds, datOk n e) : datOk (n + 1) d := by
  rcases h with rfl | rfl
  · exact ⟨l, k⟩
  · exact ⟨l, k⟩
theorem dat_atom (n : Nat) : (∀ i : Int, datOk n (.int i)) ∧ ∀ z : Str, datOk n (.str z) := by constructor <;> intro x <;> cases n <;> simp [datOk]
theorem dat_vr (n : Nat) (v : Vr) : datOk (n + 1) v.d := dat_sq (.inr rfl) (by show 2 ≤ 1000; decide) fun e he => by
  rcases List.mem_cons.mp he with rfl | he
  · exact (dat_atom n).2 _
  · rcases List.mem_singleton.mp he with rfl
    exact (dat_atom n).1 _
theorem dat_vs (n : Nat) {d : PyData} {vs : List Vr} (h : rawVs d vs) (l : vs.length ≤ 1000) : datOk (n + 2) d := dat_sq h (by rw [List.length_map]; exact l) fun e he => by
  obtain ⟨v, _, rfl⟩ := List.mem_map.mp he
  exact dat_vr n v
theorem dat_up : ∀ (n : Nat) (d : PyData), datOk n d → datOk (n + 1) d
  | _, .none, _ => by simp [datOk]
  | _, .bool _, _ => by simp [datOk]
  | _, .int _, _ => by simp [datOk]
  | _, .str _, _ => by simp [datOk]
  | 0, .list _, h => h.elim
  | 0, .tuple _, h => h.elim
  | n + 1, .list ds, h => ⟨h.1, fun d hd => dat_up n d (h.2 d hd)⟩
  | n + 1, .tuple ds, h => ⟨h.1, fun d hd => dat_up n d (h.2 d hd)⟩
  | 0, .dict _, h => h.elim
  | _ + 1, .dict _, h => h.elim
theorem dat_mono {n m : Nat} {d : PyData} (h : datOk n d) (l : n ≤ m) : datOk m d := by
  obtain ⟨k, rfl⟩ := Nat.exists_eq_add_of_le l
  induction k with
  | zero => exact h
  | succ k ih => exact dat_up _ _ (ih (Nat.le_add_right _ _))
theorem dat_ex : ∀ {n : Nat} {e : Ex}, e.depth ≤ n → datOk (n + 1) e.d
  | n, .num i, h => by
    rw [Ex.d]
    exact dat_sq (.inr rfl) (by show 2 ≤ 1000; decide) fun d hd => by
      rcases List.mem_cons.mp hd with rfl | hd
      · exact (dat_atom n).2 _
      · rcases List.mem_singleton.mp hd with rfl
        exact (dat_atom n).1 _
  | n, .nam i, h => by
    rw [Ex.d]
    exact dat_sq (.inr rfl) (by show 2 ≤ 1000; decide) fun d hd => by
      rcases List.mem_cons.mp hd with rfl | hd
      · exact (dat_atom n).2 _
      · rcases List.mem_singleton.mp hd with rfl
        exact (dat_atom n).2 _
  | 0, .not e, h => absurd h (Nat.not_succ_le_zero _)
  | 0, .bin _ _ _, h => absurd h (Nat.not_succ_le_zero _)
  | n + 1, .not e, h => by
    rw [Ex.d]
    exact dat_sq (.inr rfl) (by show 2 ≤ 1000; decide) fun d hd => by
      rcases List.mem_cons.mp hd with rfl | hd
      · exact (dat_atom _).2 _
      · rcases List.mem_singleton.mp hd with rfl
        exact dat_ex (Nat.le_of_succ_le_succ h)
  | n + 1, .bin o l r, h => by
    have h' : max l.depth r.depth + 1 ≤ n + 1 := h
    rw [Ex.d]
    exact dat_sq (.inr rfl) (by show 3 ≤ 1000; decide) fun d hd => by
      rcases List.mem_cons.mp hd with rfl | hd
      · exact (dat_atom _).2 _
      rcases List.mem_cons.mp hd with rfl | hd
      · exact dat_ex (by omega)
      · rcases List.mem_singleton.mp hd with rfl
        exact dat_ex (by omega)
/-- how a statement's data nest, by its depth -/
def lvd (d : Nat) : Nat := 8 + 2 * (6 - d)
theorem lvd_succ {d : Nat} (h : d < 6) : lvd d = lvd (d + 1) + 2 := by unfold lvd; omega
mutual
theorem dat_st : ∀ {s : St} {d : Nat} {x : PyData}, allS (fun d s => d ≤ 6 ∧ ExsOk s) d s → cntS s ≤ 60 → rawS s x → datOk (lvd d) x
  | .set v e, d, x, h, c, r => by
    rw [rawS] at r
    subst r
    have h := allS_hd h
    have he := dat_ex (h.2.d5 e (List.mem_singleton.mpr rfl))
    refine dat_mono (n := 7) (dat_sq (.inr rfl) (by show 3 ≤ 1000; decide) fun z hz => ?_) (by unfold lvd; omega)
    rcases List.mem_cons.mp hz with rfl | hz
    · exact (dat_atom _).2 _
    rcases List.mem_cons.mp hz with rfl | hz
    · exact (dat_atom _).2 _
    rcases List.mem_singleton.mp hz with rfl
    exact he
  | .read v, d, x, h, c, r => by
    rw [rawS] at r
    subst r
    refine dat_mono (n := 7) (dat_sq (.inr rfl) (by show 2 ≤ 1000; decide) fun z hz => ?_) (by unfold lvd; omega)
    rcases List.mem_cons.mp hz with rfl | hz
    · exact (dat_atom _).2 _
    rcases List.mem_singleton.mp hz with rfl
    exact (dat_atom _).2 _
  | .write e, d, x, h, c, r => by
    rw [rawS] at r
    subst r
    have h := allS_hd h
    have he := dat_ex (h.2.d5 e (List.mem_singleton.mpr rfl))
    refine dat_mono (n := 7) (dat_sq (.inr rfl) (by show 2 ≤ 1000; decide) fun z hz => ?_) (by unfold lvd; omega)
    rcases List.mem_cons.mp hz with rfl | hz
    · exact (dat_atom _).2 _
    rcases List.mem_singleton.mp hz with rfl
    exact he
  | .ifs e b o, d, x, h, c, r => by
    rw [rawS] at r
    obtain ⟨u, w, us, ws, rfl, e1, r1, e2, r2⟩ := r
    have hh := allS_hd h
    rw [allS] at h
    rw [cntS] at c
    have he := dat_ex (hh.2.d5 e (List.mem_singleton.mpr rfl))
    have hb := dat_bd h.2.1 (by omega) e1 r1
    have ho := dat_bd h.2.2 (by omega) e2 r2
    obtain ⟨m, hm⟩ : ∃ m, lvd d = m + 1 := ⟨lvd d - 1, by unfold lvd; omega⟩
    rw [hm]
    refine dat_sq (.inr rfl) (by show 4 ≤ 1000; decide) fun z hz => ?_
    have l7 : 7 ≤ m := by unfold lvd at hm; omega
    have l1 : lvd (d + 1) - (if d < 6 then 0 else 1) + 1 ≤ m + (if d < 6 then 0 else 1) := by unfold lvd at hm ⊢; split <;> omega
    rcases List.mem_cons.mp hz with rfl | hz
    · exact (dat_atom _).2 _
    rcases List.mem_cons.mp hz with rfl | hz
    · exact dat_mono he (by omega)
    rcases List.mem_cons.mp hz with rfl | hz
    · exact dat_mono hb (by unfold lvd at hm ⊢; have := hh.1; split <;> omega)
    rcases List.mem_singleton.mp hz with rfl
    exact dat_mono ho (by unfold lvd at hm ⊢; have := hh.1; split <;> omega)
  | .whi e b, d, x, h, c, r => by
    rw [rawS] at r
    obtain ⟨u, us, rfl, e1, r1⟩ := r
    have hh := allS_hd h
    rw [allS] at h
    rw [cntS] at c
    have he := dat_ex (hh.2.d5 e (List.mem_singleton.mpr rfl))
    have hb := dat_bd h.2 (by omega) e1 r1
    obtain ⟨m, hm⟩ : ∃ m, lvd d = m + 1 := ⟨lvd d - 1, by unfold lvd; omega⟩
    rw [hm]
    refine dat_sq (.inr rfl) (by show 3 ≤ 1000; decide) fun z hz => ?_
    rcases List.mem_cons.mp hz with rfl | hz
    · exact (dat_atom _).2 _
    rcases List.mem_cons.mp hz with rfl | hz
    · exact dat_mono he (by unfold lvd at hm; omega)
    rcases List.mem_singleton.mp hz with rfl
    exact dat_mono hb (by unfold lvd at hm ⊢; have := hh.1; split <;> omega)
  | .call p as, d, x, h, c, r => by
    rw [rawS] at r
    obtain ⟨u, rfl, e1⟩ := r
    have h := allS_hd h
    have ha : datOk 7 u := dat_sq e1 (by rw [List.length_map]; have : as.length ≤ 10 := h.2.ln; omega) fun z hz => by
      obtain ⟨e, he, rfl⟩ := List.mem_map.mp hz
      exact dat_ex (h.2.d5 e he)
    refine dat_mono (n := 8) (dat_sq (.inr rfl) (by show 3 ≤ 1000; decide) fun z hz => ?_) (by unfold lvd; omega)
    rcases List.mem_cons.mp hz with rfl | hz
    · exact (dat_atom _).2 _
    rcases List.mem_cons.mp hz with rfl | hz
    · exact (dat_atom _).2 _
    rcases List.mem_singleton.mp hz with rfl
    exact ha
  | .skip, d, x, h, c, r => by
    rw [rawS] at r
    subst r
    refine dat_mono (n := 7) (dat_sq (.inr rfl) (by show 1 ≤ 1000; decide) fun z hz => ?_) (by unfold lvd; omega)
    rcases List.mem_singleton.mp hz with rfl
    exact (dat_atom _).2 _
theorem dat_bd : ∀ {b : List St} {d : Nat} {x : PyData} {ds : List PyData}, allB (fun d s => d ≤ 6 ∧ ExsOk s) d b → cntB b ≤ 60 → isSeq x ds → rawL b ds → datOk (if d ≤ 6 then lvd d + 1 else 1) x
  | b, d, x, ds, h, c, e, r => by
    have lb := cntB_len b
    obtain ⟨ld, hd⟩ := dat_ls h c r
    by_cases h6 : d ≤ 6
    · rw [if_pos h6]
      exact dat_sq e (by omega) hd
    · rw [if_neg h6]
      have : b = [] := by
        cases b with
        | nil => rfl
        | cons s b =>
          rw [allB] at h
          exact absurd (allS_hd h.1).1 h6
      subst this
      rw [rawL] at r
      subst r
      exact dat_sq e (Nat.zero_le _) fun z hz => nomatch hz
theorem dat_ls : ∀ {b : List St} {d : Nat} {ds : List PyData}, allB (fun d s => d ≤ 6 ∧ ExsOk s) d b → cntB b ≤ 60 → rawL b ds → ds.length = b.length ∧ ∀ z ∈ ds, datOk (lvd d) z
  | [], d, ds, h, c, r => by
    rw [rawL] at r
    subst r
    exact ⟨rfl, fun z hz => nomatch hz⟩
  | s :: b, d, ds, h, c, r => by
    rw [rawL] at r
    obtain ⟨y, es, rfl, r1, r2⟩ := r
    rw [allB] at h
    rw [cntB] at c
    obtain ⟨l, k⟩ := dat_ls h.2 (by omega) r2
    refine ⟨by rw [List.length_cons, List.length_cons, l], fun z hz => ?_⟩
    rcases List.mem_cons.mp hz with rfl | hz
    · exact dat_st h.1 (by omega) r1
    · exact k z hz
end
theorem dat_ps {d : PyData} {g : Pg} (ho : g.Ok) (h : rawPs d g.ps) : datOk 21 d := by
  obtain ⟨ds, es, el, er⟩ := h
  have o5 := ho.p5
  refine dat_sq es (by omega) fun e he => ?_
  obtain ⟨i, hi, rfl⟩ := List.getElem_of_mem he
  have hi2 : i < g.ps.length := by omega
  obtain ⟨s1, s2, s3, e0, e1, e2, ⟨es3, e3, r3⟩⟩ := er i _ _ (List.getElem?_eq_getElem hi) (List.getElem?_eq_getElem hi2)
  have mp := List.getElem_mem hi2
  have p3 := ho.p3 _ mp
  have l3 := ho.l33 _ mp
  have c60 : cntB (g.ps[i]).bd ≤ 60 := Nat.le_trans (sum_mem (List.mem_map.mpr ⟨_, mp, rfl⟩)) ho.sn
  have hb := dat_bd (allB_imp (fun d s h => ⟨h.1, (loc_exs ho.p3 h.2).1⟩) _ _ (ho.sb _ mp)) c60 e3 r3
  rw [e0]
  refine dat_sq (.inr rfl) (by show 4 ≤ 1000; decide) fun e he => ?_
  rcases List.mem_cons.mp he with rfl | he
  · exact (dat_atom _).2 _
  rcases List.mem_cons.mp he with rfl | he
  · exact dat_mono (dat_vs 0 e1 (by omega)) (by decide)
  rcases List.mem_cons.mp he with rfl | he
  · exact dat_mono (dat_vs 0 e2 (by omega)) (by decide)
  rcases List.mem_singleton.mp he with rfl
  exact hb
theorem rawPs_d (ps : List Pr) : rawPs (.tuple (ps.map Pr.d)) ps := ⟨_, .inr rfl, List.length_map .., fun i d' p e1 e2 => by
  rw [List.getElem?_map, e2] at e1
  cases e1
  exact ⟨_, _, _, rfl, .inr rfl, .inr rfl, rawB_d p.bd⟩⟩
theorem tup_seq {n : Nat} {ds : List PyData} (l : ds.length ≤ 100000) (k : ∀ d ∈ ds, tupOk n d) : tupOk (n + 1) (.tuple ds) := ⟨l, k⟩
theorem tup_atom (n : Nat) : (∀ i : Int, tupOk n (.int i)) ∧ ∀ z : Str, tupOk n (.str z) := by constructor <;> intro x <;> cases n <;> simp [tupOk]
theorem tup_vs (n : Nat) {vs : List Vr} (l : vs.length ≤ 1000) : tupOk (n + 2) (.tuple (vs.map Vr.d)) := tup_seq (by rw [List.length_map]; omega) fun d hd => by
  obtain ⟨v, _, rfl⟩ := List.mem_map.mp hd
  refine tup_seq (by show 2 ≤ 100000; decide) fun e he => ?_
  rcases List.mem_cons.mp he with rfl | he
  · exact (tup_atom n).2 _
  · rcases List.mem_singleton.mp he with rfl
    exact (tup_atom n).1 _
theorem tup_ps {g : Pg} (ho : g.Ok) : tupOk 21 (.tuple (g.ps.map Pr.d)) := by
  have h := frz_ok 21 _ (dat_ps ho (rawPs_d g.ps))
  rw [frz_ps (rawPs_d g.ps)] at h
  exact h
/-! ### a frozen program, read -/
theorem dl_prT {K : PySem.W.Frag} {H : Hp} {x : V} {p : Pr} (h : Dl K H x p.d) : PrT K H x p := by
  have h' : Dl K H x (.tuple [.str p.nm, .tuple (p.ps.map Vr.d), .tuple (p.ls.map Vr.d), .tuple (stDs p.bd)]) := h
  cases h' with
  | tup q k =>
    cases k with
    | cons a k =>
      cases k with
      | cons b k =>
        cases k with
        | cons c k =>
          cases k with
          | cons d k =>
            cases k
            cases a
            exact ⟨_, _, _, _, rfl, q, dl_vrs b (.inr rfl), dl_vrs c (.inr rfl), d⟩
theorem dl_prsT {K : PySem.W.Frag} {H : Hp} {v : V} {ps : List Pr} (h : Dl K H v (.tuple (ps.map Pr.d))) : PrsT K H v ps := by
  cases h with
  | tup q k =>
    obtain ⟨l, r⟩ := dla_all2 k
    refine ⟨_, _, rfl, q, by rw [l, List.length_map], fun i x y hx hy => dl_prT (r i x y.d hx ?_)⟩
    rw [List.getElem?_map, hy]
    rfl
theorem ScN.fr {K : PySem.W.Frag} {D p C dx : Addr} {fs : List (Str × V)} {H H' : Hp} {x : V} {vs : List Vr} (hp : H p = some (.ins C dx fs)) (f : Fr p H H') (h : ScN K D H x vs) : ScN K D H' x vs := by
  obtain ⟨l, ws, h1, h2, h3, h4⟩ := h
  refine ⟨l, ws, h1, h2, f _ _ (fun z => ?_) h3, h4.imp fun _ _ ⟨t, e, k⟩ => ⟨t, e, seqT_fr hp f k⟩⟩
  subst z
  rw [hp] at h3
  cases h3
theorem ne_ins {p a C dx : Addr} {fs : List (Str × V)} {zs : List V} {H : Hp} (hp : H p = some (.ins C dx fs)) (h : H a = some (.lst zs)) : a ≠ p := fun z => by
  subst z
  rw [hp] at h
  cases h
theorem okz {ns : List Int} (l : ns.length ≤ 100000) : tupOk 1 (.tuple (ns.map .int)) := tup_seq (by rw [List.length_map]; exact l) fun e he => by
  obtain ⟨z, _, rfl⟩ := List.mem_map.mp he
  exact (tup_atom 0).1 z
theorem sgs_len : ∀ (ns : List Int) (S : List (List Int)) (m : Nat), (∀ s ∈ S, s.length = m) → (∀ n ∈ ns, n ≤ 4) → (ns.foldl sgStep S).length ≤ S.length * 4 ^ ns.length ∧ ∀ s ∈ ns.foldl sgStep S, s.length = m + ns.length
  | [], S, m, h, _ => ⟨by simp, fun s hs => h s hs⟩
  | n :: ns, S, m, h, k => by
    obtain ⟨i1, i2⟩ := sgs_len ns (sgStep S n) (m + 1) (sgStep_each h) fun z hz => k z (List.mem_cons_of_mem _ hz)
    have n4 := k n List.mem_cons_self
    refine ⟨Nat.le_trans i1 ?_, fun s hs => ?_⟩
    · rw [sgStep_len, List.length_cons, Nat.pow_succ, Nat.mul_comm (4 ^ ns.length) 4, ← Nat.mul_assoc]
      exact Nat.mul_le_mul_right _ (Nat.mul_le_mul_left _ (by omega))
    · rw [i2 s hs, List.length_cons]
      omega
/-- the sights as data of a depth -/
theorem ok_sgs {ns : List Int} (l : ns.length ≤ 10) (k : ∀ n ∈ ns, n ≤ 4) (b : (sgs ns).length ≤ 100000) : tupOk 2 (sgsD ns) := tup_seq (by rw [List.length_map]; exact b) fun d hd => by
  obtain ⟨s, hs, rfl⟩ := List.mem_map.mp hd
  have := (sgs_len ns [[]] 0 (fun s hs => by rcases List.mem_singleton.mp hs with rfl; rfl) k).2 s hs
  exact ok_sg 0 s (by omega)
theorem sgs_prod : ∀ (ns : List Int) (S : List (List Int)), (∀ n ∈ ns, 0 ≤ n) → ((ns.foldl sgStep S).length : Int) = ns.foldl (· * ·) ((S.length : Nat) : Int)
  | [], S, _ => rfl
  | n :: ns, S, h => by
    have n0 := h n List.mem_cons_self
    have e : (((sgStep S n).length : Nat) : Int) = ((S.length : Nat) : Int) * n := by
      rw [sgStep_len, Int.natCast_mul, Int.toNat_of_nonneg n0]
    rw [List.foldl_cons, List.foldl_cons, sgs_prod ns (sgStep S n) fun z hz => h z (List.mem_cons_of_mem _ hz), e]
theorem Pg.Ok.sg {g : Pg} (ho : g.Ok) {p : Pr} (hp : p ∈ g.ps) : tupOk 2 (sgsD ((scp g.vs p).map Vr.sz)) := by
  have l := ho.decl.len p hp
  refine ok_sgs (by rw [List.length_map]; exact l) (fun n hn => ?_) ?_
  · obtain ⟨v, hv, rfl⟩ := List.mem_map.mp hn
    exact ho.s4 p hp v hv
  · have e := sgs_prod ((scp g.vs p).map Vr.sz) [[]] fun n hn => by
      obtain ⟨v, hv, rfl⟩ := List.mem_map.mp hn
      have := ho.s2 p hp v hv
      omega
    have k := ho.si p hp
    have e' : (((sgs ((scp g.vs p).map Vr.sz)).length : Nat) : Int) = prodZ ((scp g.vs p).map Vr.sz) := e
    omega


end
end Pf

namespace Pf
open PySem PySem.Spec PyProof.Rows L2
section
variable {P : Program} {w : World} {K : PySem.W.Frag} {mg : Str → Option Value} {base : Heap}
variable {c : Nat → Addr}
def sp_Program_init (K : PySem.W.Frag) (C : Addr) : Sp := fun us H Q _ => ∃ (p dx : Addr) (g : Pg) (v x : V) (dv dp : PyData), us = [.ref p, .int g.l, .int g.a, v, x] ∧ H p = some (.ins C dx []) ∧ g.Ok ∧ Dl K H v dv ∧ rawVs dv g.vs ∧ Dl K H x dp ∧ rawPs dp g.ps ∧
  ∀ H', (∀ b o, H b = some o → b ≠ p → H' b = some o) → PgAt K C H' p g → Q .non H'
theorem ok_Program_init (T : Txt P K mg c) : HasMk P w K mg base 30 (c 56) ["self", "letters", "answers", "variables", "procedures"] (sp_Program_init K (c id_Program)) := by
  obtain ⟨f, fd, F, m, b⟩ := T.d_Program_init
  obtain ⟨f_first_reason, fd_first_reason, G_first_reason, m_first_reason, k_first_reason, b_first_reason⟩ := ok_first_reason (P := P) (w := w) (base := base) T
  obtain ⟨f_frozen, fd_frozen, G_frozen, m_frozen, k_frozen, b_frozen⟩ := ok_frozen (P := P) (w := w) (base := base) T 24
  obtain ⟨f_in_sight, fd_in_sight, G_in_sight, m_in_sight, k_in_sight, b_in_sight⟩ := ok_in_sight (P := P) (w := w) (base := base) T
  obtain ⟨f_sights_of, fd_sights_of, G_sights_of, m_sights_of, k_sights_of, b_sights_of⟩ := ok_sights_of (P := P) (w := w) (base := base) T
  obtain ⟨f_lay_out, fd_lay_out, G_lay_out, m_lay_out, k_lay_out, b_lay_out⟩ := ok_lay_out (P := P) (w := w) (base := base) T
  refine ⟨f, fd, F.ok sc_Program_init (fun vs H Q E h => ?_) (fun cdv A outer s H vs Q E hr h => ?_), m, b⟩
  · obtain ⟨p, dx, g, v, x, dv, dp, rfl, hp, ho, hv, rv, hx, rx, q⟩ := h
    rfl
  obtain ⟨p, dx, g, v, x, dv, dp, rfl, hp, ho, hv, rv, hx, rx, q⟩ := h
  refine ⟨_, (pss_cons (ps_set (i := 5) sc_Program_init.nd rfl (.inl rfl) (pe_call G_first_reason (hr.mono (by decide)) (by rfl) m_first_reason k_first_reason b_first_reason .nil pass0 (pa_cons (pv 1) (pa_cons (pv 2) (pa_cons (pv 3) (pa_cons (pv 4) pa_nil))))))
      (pss_cons (ps_if (pt_truth (pv 5) (by intro _; rfl))
      (pss_one ps_dead)
      pss_nil)
      (pss_cons (ps_fld (pv 0) (pv 1) rfl)
      (pss_cons (ps_fld (pv 0) (pv 2) rfl)
      (pss_cons (ps_fld (pv 0) (pe_call G_frozen (hr.mono (by decide)) (by rfl) m_frozen k_frozen b_frozen .nil pass0 (pa_cons (pv 3) pa_nil)) rfl)
      (pss_cons (ps_fld (pv 0) (pe_call G_frozen (hr.mono (by decide)) (by rfl) m_frozen k_frozen b_frozen .nil pass0 (pa_cons (pv 4) pa_nil)) rfl)
      (pss_cons (ps_setLc (i := 6) (own := [("procedure", 7)]) (g := gName 7) (by rfl) sc_Program_init.nd rfl rfl (sw_true rfl rfl rfl (by decide +kernel)) (pi_tup (pe_fld (pv 0) rfl)) (blkOk_by (own := [("procedure", 7)]) (N := ["self", "letters", "answers", "variables", "procedures", "reason", "scopes", "procedure", "scope", "sizes", "name", "size"]) (sc := defScope s_Program_init) (by decide +kernel)) (fun _ _ _ _ _ => (pg_name (i := 7) sc_Program_init.nd rfl (.inl rfl))) (fun _ _ _ _ _ => pts_nil) (fun _ _ _ _ _ => (pe_call G_in_sight (hr.mono (by decide)) (by rfl) m_in_sight k_in_sight b_in_sight .nil pass0 (pa_cons (pe_fldK (K := K) rfl (pv 0) rfl) (pa_cons (pv 7) pa_nil)))))
      (pss_cons (ps_fld (pv 0) (pe_callTy call_tuple_of (by rfl) T.z_tuple (by decide +kernel) (pa_cons (pe_lc (own := [("scope", 8)]) (g := gName 8) (by rfl) sc_Program_init.nd (pi_list (pv 6)) (blkOk_by (own := [("scope", 8)]) (N := ["self", "letters", "answers", "variables", "procedures", "reason", "scopes", "procedure", "scope", "sizes", "name", "size"]) (sc := defScope s_Program_init) (by decide +kernel)) (fun _ _ _ _ _ => pg_name (i := 8) sc_Program_init.nd rfl (Or.inl rfl)) (fun _ _ _ _ _ => pts_nil) (fun _ _ _ _ _ => (pe_callTy (call_tuple_ofK (K := K) rfl) (by rfl) T.z_tuple (by decide +kernel) (pa_cons (pe_lc (own := [("name", 10), ("size", 11)]) (by rfl) sc_Program_init.nd (pi_listK (K := K) rfl (pv 8)) (blkOk_nf (own := [("name", 10), ("size", 11)]) (N := ["self", "letters", "answers", "variables", "procedures", "reason", "scopes", "procedure", "scope", "sizes", "name", "size"]) (by decide +kernel)) (fun _ _ _ _ _ => (pg_tupK (K := K) (n := 2) rfl rfl (pgs_cons (pg_name (i := 10) sc_Program_init.nd rfl (.inl rfl)) (pgs_cons (pg_name (i := 11) sc_Program_init.nd rfl (.inl rfl)) pgs_nil)))) (fun _ _ _ _ _ => pts_nil) (fun _ _ _ _ _ => (pv 10))) pa_nil)))) pa_nil)) rfl)
      (pss_cons (ps_fld (pv 0) (pe_callTy call_tuple_of (by rfl) T.z_tuple (by decide +kernel) (pa_cons (pe_lc (own := [("scope", 8)]) (g := gName 8) (by rfl) sc_Program_init.nd (pi_list (pv 6)) (blkOk_by (own := [("scope", 8)]) (N := ["self", "letters", "answers", "variables", "procedures", "reason", "scopes", "procedure", "scope", "sizes", "name", "size"]) (sc := defScope s_Program_init) (by decide +kernel)) (fun _ _ _ _ _ => pg_name (i := 8) sc_Program_init.nd rfl (Or.inl rfl)) (fun _ _ _ _ _ => pts_nil) (fun _ _ _ _ _ => (pe_callTy (call_tuple_ofK (K := K) rfl) (by rfl) T.z_tuple (by decide +kernel) (pa_cons (pe_lc (own := [("name", 10), ("size", 11)]) (by rfl) sc_Program_init.nd (pi_listK (K := K) rfl (pv 8)) (blkOk_nf (own := [("name", 10), ("size", 11)]) (N := ["self", "letters", "answers", "variables", "procedures", "reason", "scopes", "procedure", "scope", "sizes", "name", "size"]) (by decide +kernel)) (fun _ _ _ _ _ => (pg_tupK (K := K) (n := 2) rfl rfl (pgs_cons (pg_name (i := 10) sc_Program_init.nd rfl (.inl rfl)) (pgs_cons (pg_name (i := 11) sc_Program_init.nd rfl (.inl rfl)) pgs_nil)))) (fun _ _ _ _ _ => pts_nil) (fun _ _ _ _ _ => (pv 11))) pa_nil)))) pa_nil)) rfl)
      (pss_cons (ps_fld (pv 0) (pe_callTy call_tuple_of (by rfl) T.z_tuple (by decide +kernel) (pa_cons (pe_lc (own := [("sizes", 9)]) (g := gName 9) (by rfl) sc_Program_init.nd (pi_tup (pe_fld (pv 0) rfl)) (blkOk_by (own := [("sizes", 9)]) (N := ["self", "letters", "answers", "variables", "procedures", "reason", "scopes", "procedure", "scope", "sizes", "name", "size"]) (sc := defScope s_Program_init) (by decide +kernel)) (fun _ _ _ _ _ => pg_name (i := 9) sc_Program_init.nd rfl (Or.inl rfl)) (fun _ _ _ _ _ => pts_nil) (fun _ _ _ _ _ => (pe_call G_sights_of (hr.mono (by decide)) (by rfl) m_sights_of k_sights_of b_sights_of .nil pass0 (pa_cons (pv 9) pa_nil)))) pa_nil)) rfl)
      (pss_one (ps_asg (pe_call G_lay_out (hr.mono (by decide)) (by rfl) m_lay_out k_lay_out b_lay_out .nil pass0 (pa_cons (pv 2) (pa_cons (pe_fld (pv 0) rfl) (pa_cons (pe_fld (pv 0) rfl) pa_nil)))) (pg_tup rfl (pgs_cons (pg_fld (pv 0)) (pgs_cons (pg_fld (pv 0)) pgs_nil))))))))))))))), ?_⟩
  have o4 := ho.v4
  have o5 := ho.p5
  refine ⟨_, rfl, _, rfl, _, rfl, _, rfl, v, x, g, rfl, dl_vrs hv rv, dl_prs hx rx, ho, fun H1 s1 => ?_⟩
  have hp1 := s1 _ _ hp
  refine ⟨_, rfl, false, ⟨Nat.zero_le _, rfl⟩, iteF ?_⟩
  refine ⟨_, rfl, _, rfl, p, c id_Program, dx, [], rfl, hp1, T.cl_Program, T.n_Program_letters, (by show 0 < 1000; decide), ?_⟩
  refine ⟨_, rfl, _, rfl, p, c id_Program, dx, _, rfl, upd_same, T.cl_Program, T.n_Program_answers, (by show 1 < 1000; decide), ?_⟩
  have f2 : Fr p H1 (upd (upd H1 p (.ins (c id_Program) dx (putF "letters" (.int g.l) []))) p (.ins (c id_Program) dx (putF "answers" (.int g.a) (putF "letters" (.int g.l) [])))) := Fr.trans Fr.upd Fr.upd
  have hp2 := upd_same (H := upd H1 p (.ins (c id_Program) dx (putF "letters" (.int g.l) []))) (a := p) (o := .ins (c id_Program) dx (pf2 g))
  have hv2 := dl_fr hp1 f2 (dl_same s1 hv)
  have hx2 := dl_fr hp1 f2 (dl_same s1 hx)
  have k2 : Fr p H (upd (upd H1 p (.ins (c id_Program) dx (putF "letters" (.int g.l) []))) p (.ins (c id_Program) dx (putF "answers" (.int g.a) (putF "letters" (.int g.l) [])))) := (Fr.of s1).trans f2
  change (upd (upd H1 p (.ins (c id_Program) dx (putF "letters" (.int g.l) []))) p (.ins (c id_Program) dx (putF "answers" (.int g.a) (putF "letters" (.int g.l) [])))) p = _ at hp2
  generalize upd (upd H1 p (.ins (c id_Program) dx (putF "letters" (.int g.l) []))) p (.ins (c id_Program) dx (putF "answers" (.int g.a) (putF "letters" (.int g.l) []))) = H2 at f2 hp2 hv2 hx2 k2 ⊢
  -- variables, procedures
  refine ⟨_, rfl, v, dv, rfl, hv2, dat_mono (dat_vs 2 rv (by omega)) (by decide), fun v' H3 s3 hv3 => ?_⟩
  rw [frz_vs rv] at hv3
  have hp3 := s3 _ _ hp2
  refine ⟨_, rfl, p, c id_Program, dx, _, rfl, hp3, T.cl_Program, T.n_Program_variables, (by show 2 < 1000; decide), ?_⟩
  have f4 : Fr p H3 (upd H3 p (.ins (c id_Program) dx (putF "variables" v' (pf2 g)))) := Fr.upd
  have hp4 := upd_same (H := H3) (a := p) (o := .ins (c id_Program) dx (putF "variables" v' (pf2 g)))
  have hv4 := dp_fr hp3 f4 hv3
  have hx4 := dl_fr hp3 f4 (dl_same s3 hx2)
  have k4 := (k2.trans (Fr.of s3)).trans f4
  generalize upd H3 p (.ins (c id_Program) dx (putF "variables" v' (pf2 g))) = H4 at f4 hp4 hv4 hx4 k4 ⊢
  refine ⟨_, rfl, x, dp, rfl, hx4, dat_mono (dat_ps ho rx) (by decide), fun x' H5 s5 hx5 => ?_⟩
  rw [frz_ps rx] at hx5
  have hp5 := s5 _ _ hp4
  refine ⟨_, rfl, p, c id_Program, dx, _, rfl, hp5, T.cl_Program, T.n_Program_procedures, (by show 3 < 1000; decide), ?_⟩
  have f6 : Fr p H5 (upd H5 p (.ins (c id_Program) dx (pf4 g v' x'))) := Fr.upd
  have hp6 := upd_same (H := H5) (a := p) (o := .ins (c id_Program) dx (pf4 g v' x'))
  have hv6 := dp_fr hp5 f6 (dp_same s5 hv4)
  have hx6 := dp_fr hp5 f6 hx5
  have k6 := (k4.trans (Fr.of s5)).trans f6
  change tSeq _ _ _ _ (upd H5 p (.ins (c id_Program) dx (pf4 g v' x')))
  generalize upd H5 p (.ins (c id_Program) dx (pf4 g v' x')) = H6 at f6 hp6 hv6 hx6 k6 ⊢
  have hV := dl_vrs (dl_dp 2 (tup_vs 0 (by omega)) hv6) (.inr rfl)
  have hT := dl_prsT (dl_dp 21 (tup_ps ho) hx6)
  obtain ⟨a, xs, rfl, hq, ha⟩ := id hT
  have la := ha.1
  have dl := ho.decl.len
  have mapped : ∀ {β : Type} {f : Pr → β} {i : Nat} {y : β}, (g.ps.map f)[i]? = some y → ∃ p, g.ps[i]? = some p ∧ f p = y := fun {β f i y} e => by
    rw [List.getElem?_map] at e
    cases ep : g.ps[i]? with
    | none => rw [ep] at e; cases e
    | some p =>
      rw [ep] at e
      exact ⟨p, rfl, Option.some.inj e⟩
  -- scopes
  refine ⟨_, rfl, p, _, dx, _, _, rfl, hp6, T.cl_Program, T.n_Program_procedures, lk_eq, a, rfl, ⟨_, hq⟩, fun D1 n1 => lc_it (walk_tup (xs := xs)) (fun i H' => Same H6 H' ∧ ∃ rs, H' D1 = some (.lst rs) ∧ All2 (ScN K D1 H') rs ((g.ps.take i).map (scp g.vs))) ⟨same_new n1, [], upd_same, .nil⟩ (fun i H' _ h' => seqT_same h'.1 hq) ?_ ?_⟩
  · rintro i y H7 H8 hi ⟨s7, rs, hD, hrs⟩ ⟨rfl, hy⟩
    obtain ⟨pr, ep, hpr⟩ := ha.at hy
    have mp := List.mem_of_getElem? ep
    have lr : rs.length = i := by rw [hrs.1, List.length_map, List.length_take]; omega
    refine ⟨rfl, _, rfl, p, _, dx, _, _, rfl, s7 _ _ hp6, T.cl_Program, T.n_Program_variables, lk_ne (by decide +kernel) lk_eq, _, rfl, v', y, g.vs, pr, rfl, hV.same s7, (hpr.same s7).at, o4, ho.p3 pr mp, ho.l33 pr mp, fun l ws H9 s9 nl hl hw => ⟨rs, s9 _ _ hD, small1000 (by omega), same_mut (s7.trans s9) n1, rs ++ [.ref l], upd_same, ?_⟩⟩
    have nlD : l ≠ D1 := fun z => by
      subst z
      rw [hD] at nl
      cases nl
    rw [map_take_at ep]
    exact (hrs.imp fun _ _ h => (h.same s9).mut (s9 _ _ hD)).app (.one ⟨l, ws, rfl, nlD, (upd_ne nlD).trans hl, hw.imp fun _ _ => VrAt.mut (s9 _ _ hD)⟩)
  rintro H7 ⟨s7, rs, hD1, hrs⟩
  rw [la, List.take_length] at hrs
  have lrs : rs.length = g.ps.length := by rw [hrs.1, List.length_map]
  have hp7 := s7 _ _ hp6
  -- _names
  refine ⟨_, rfl, D1, rfl, ⟨_, SqL.of hD1⟩, fun D2 n2 => lc_it (walk_list (xs := rs)) (fun i H' => Same H7 H' ∧ ∃ ts, H' D2 = some (.lst ts) ∧ DpAll K H' ts ((g.ps.take i).map fun p => .tuple (((scp g.vs p).map Vr.nm).map .str))) ⟨same_new n2, [], upd_same, .nil⟩ (fun i H' _ h' => SqL.of (h'.1 _ _ hD1)) ?_ ?_⟩
  · rintro i y H8 H9 hi ⟨s8, ts, hD, hts⟩ ⟨rfl, hy⟩
    obtain ⟨vs, evs, l, ws, rfl, nl, hl, hw⟩ := hrs.at hy
    obtain ⟨pr, ep, rfl⟩ := mapped evs
    have lp := dl pr (List.mem_of_getElem? ep)
    have lts : ts.length = i := by
      have := dpa_len hts
      rw [List.length_map, List.length_take] at this
      omega
    refine ⟨rfl, _, rfl, l, rfl, ⟨_, SqL.of (s8 _ _ hl)⟩, fun D3 n3 => lc_it (walk_list (xs := ws)) (fun j H' => Same H9 H' ∧ H' D3 = some (.lst (nmsV ((scp g.vs pr).take j)))) ⟨same_new n3, upd_same⟩ (fun j H' _ h' => SqL.of (h'.1 _ _ (s8 _ _ hl))) ?_ ?_⟩
    · rintro j y H10 H11 hj ⟨s10, hD3⟩ ⟨rfl, hy⟩
      obtain ⟨vr, evr, t, rfl, ht⟩ := hw.at hy
      refine ⟨t, _, rfl, seqT_same (s8.trans s10) ht, rfl, _, _, rfl, _, _, rfl, rfl, rfl, _, rfl, _, hD3, ?_, same_mut s10 n3, ?_⟩
      · unfold nmsV
        rw [List.length_map, List.length_map, List.length_take]
        exact small1000 (by omega)
      · unfold nmsV
        rw [upd_same, map_take_at evr, List.map_append]
        rfl
    · rintro H10 ⟨s10, hD3⟩
      rw [hw.1, List.take_length] at hD3
      refine ⟨D3, _, rfl, .inl ⟨SqL.of hD3, fun t nt => ?_⟩⟩
      have s11 := s10.trans (same_new (o := .tup (nmsV (scp g.vs pr))) nt)
      have hD11 := s11 _ _ hD
      refine ⟨ts, hD11, small1000 (by omega), same_mut (s8.trans s11) n2, ts ++ [.ref t], upd_same, ?_⟩
      rw [map_take_at ep]
      have okd : ∀ q : Pr, q ∈ g.ps → tupOk 1 (.tuple (((scp g.vs q).map Vr.nm).map .str)) := fun q hq => tup_seq (by rw [List.length_map, List.length_map]; have := dl q hq; omega) fun e he => by
        obtain ⟨z, _, rfl⟩ := List.mem_map.mp he
        exact (tup_atom 0).2 z
      refine dpa_app (dpa_mut hD11 1 (fun d hd => ?_) (dpa_same s11 hts)) (dp_mut hD11 1 (okd pr (List.mem_of_getElem? ep)) (.tup (SqT.of upd_same) (dpa_strs _)))
      obtain ⟨q, hq, rfl⟩ := List.mem_map.mp hd
      exact okd q (List.mem_of_mem_take hq)
  rintro H8 ⟨s8, ts, hD2, hts⟩
  rw [lrs, List.take_length] at hts
  refine ⟨D2, _, rfl, .inl ⟨SqL.of hD2, fun tn ntn => ?_⟩⟩
  have e9 := same_new (o := .tup ts) ntn
  have hn9 : Dp K (upd H8 tn (.tup ts)) (.ref tn) (nmsD g) := .tup (SqT.of upd_same) (dpa_same e9 hts)
  have s69 := (s7.trans s8).trans e9
  have s79 := s8.trans e9
  generalize upd H8 tn (.tup ts) = H9 at e9 hn9 s69 s79 ⊢
  have hp9 := s69 _ _ hp6
  refine ⟨_, rfl, p, c id_Program, dx, _, rfl, hp9, T.cl_Program, T.n_Program__names, (by show 4 < 1000; decide), ?_⟩
  have f10 : Fr p H9 (upd H9 p (.ins (c id_Program) dx (putF "_names" (.ref tn) (pf4 g v' (.ref a))))) := Fr.upd
  have hp10 := upd_same (H := H9) (a := p) (o := .ins (c id_Program) dx (putF "_names" (.ref tn) (pf4 g v' (.ref a))))
  have hn10 := dp_fr hp9 f10 hn9
  have hv10 := dp_fr hp9 f10 (dp_same s69 hv6)
  have hx10 := dp_fr hp9 f10 (dp_same s69 hx6)
  have hD9 := s79 _ _ hD1
  have hD10 := f10 _ _ (ne_ins hp9 hD9) hD9
  have hrs10 := hrs.imp fun _ _ h => (h.same s79).fr hp9 f10
  have k10 := (k6.trans (Fr.of s69)).trans f10
  generalize upd H9 p (.ins (c id_Program) dx (putF "_names" (.ref tn) (pf4 g v' (.ref a)))) = H10 at f10 hp10 hn10 hv10 hx10 hD10 hrs10 k10 ⊢
  -- _sizes
  refine ⟨_, rfl, D1, rfl, ⟨_, SqL.of hD10⟩, fun D4 n4 => lc_it (walk_list (xs := rs)) (fun i H' => Same H10 H' ∧ ∃ ts, H' D4 = some (.lst ts) ∧ DpAll K H' ts ((g.ps.take i).map fun p => .tuple (((scp g.vs p).map Vr.sz).map .int))) ⟨same_new n4, [], upd_same, .nil⟩ (fun i H' _ h' => SqL.of (h'.1 _ _ hD10)) ?_ ?_⟩
  · rintro i y H11 H12 hi ⟨s11, ts, hD, hts⟩ ⟨rfl, hy⟩
    obtain ⟨vs, evs, l, ws, rfl, nl, hl, hw⟩ := hrs10.at hy
    obtain ⟨pr, ep, rfl⟩ := mapped evs
    have lp := dl pr (List.mem_of_getElem? ep)
    have lts : ts.length = i := by
      have := dpa_len hts
      rw [List.length_map, List.length_take] at this
      omega
    refine ⟨rfl, _, rfl, l, rfl, ⟨_, SqL.of (s11 _ _ hl)⟩, fun D3 n3 => lc_it (walk_list (xs := ws)) (fun j H' => Same H12 H' ∧ H' D3 = some (.lst (szsV ((scp g.vs pr).take j)))) ⟨same_new n3, upd_same⟩ (fun j H' _ h' => SqL.of (h'.1 _ _ (s11 _ _ hl))) ?_ ?_⟩
    · rintro j y H13 H14 hj ⟨s13, hD3⟩ ⟨rfl, hy⟩
      obtain ⟨vr, evr, t, rfl, ht⟩ := hw.at hy
      refine ⟨t, _, rfl, seqT_same (s11.trans s13) ht, rfl, _, _, rfl, _, _, rfl, rfl, rfl, _, rfl, _, hD3, ?_, same_mut s13 n3, ?_⟩
      · unfold szsV
        rw [List.length_map, List.length_map, List.length_take]
        exact small1000 (by omega)
      · unfold szsV
        rw [upd_same, map_take_at evr, List.map_append]
        rfl
    · rintro H13 ⟨s13, hD3⟩
      rw [hw.1, List.take_length] at hD3
      refine ⟨D3, _, rfl, .inl ⟨SqL.of hD3, fun t nt => ?_⟩⟩
      have s14 := s13.trans (same_new (o := .tup (szsV (scp g.vs pr))) nt)
      have hD14 := s14 _ _ hD
      refine ⟨ts, hD14, small1000 (by omega), same_mut (s11.trans s14) n4, ts ++ [.ref t], upd_same, ?_⟩
      rw [map_take_at ep]
      have okd : ∀ q : Pr, q ∈ g.ps → tupOk 1 (.tuple (((scp g.vs q).map Vr.sz).map .int)) := fun q hq => okz (by rw [List.length_map]; have := dl q hq; omega)
      refine dpa_app (dpa_mut hD14 1 (fun d hd => ?_) (dpa_same s14 hts)) (dp_mut hD14 1 (okd pr (List.mem_of_getElem? ep)) (.tup (SqT.of upd_same) (dpa_ints _)))
      obtain ⟨q, hq, rfl⟩ := List.mem_map.mp hd
      exact okd q (List.mem_of_mem_take hq)
  rintro H11 ⟨s11, ts2, hD4, hts2⟩
  have lrs10 : rs.length = g.ps.length := lrs
  rw [lrs10, List.take_length] at hts2
  refine ⟨D4, _, rfl, .inl ⟨SqL.of hD4, fun tz ntz => ?_⟩⟩
  have e12 := same_new (o := .tup ts2) ntz
  have hz12 : Dp K (upd H11 tz (.tup ts2)) (.ref tz) (szsD g) := .tup (SqT.of upd_same) (dpa_same e12 hts2)
  have s12 := s11.trans e12
  generalize upd H11 tz (.tup ts2) = H12 at e12 hz12 s12 ⊢
  have hp12 := s12 _ _ hp10
  refine ⟨_, rfl, p, c id_Program, dx, _, rfl, hp12, T.cl_Program, T.n_Program__sizes, (by show 5 < 1000; decide), ?_⟩
  have f13 : Fr p H12 (upd H12 p (.ins (c id_Program) dx (putF "_sizes" (.ref tz) (putF "_names" (.ref tn) (pf4 g v' (.ref a)))))) := Fr.upd
  have hp13 := upd_same (H := H12) (a := p) (o := .ins (c id_Program) dx (putF "_sizes" (.ref tz) (putF "_names" (.ref tn) (pf4 g v' (.ref a)))))
  have hz13 := dp_fr hp12 f13 hz12
  have hn13 := dp_fr hp12 f13 (dp_same s12 hn10)
  have hv13 := dp_fr hp12 f13 (dp_same s12 hv10)
  have hx13 := dp_fr hp12 f13 (dp_same s12 hx10)
  have k13 := (k10.trans (Fr.of s12)).trans f13
  generalize upd H12 p (.ins (c id_Program) dx (putF "_sizes" (.ref tz) (putF "_names" (.ref tn) (pf4 g v' (.ref a))))) = H13 at f13 hp13 hz13 hn13 hv13 hx13 k13 ⊢
  -- _sights
  obtain ⟨tz', zs, ez, hzq, hza⟩ := dp_tup' hz13
  cases ez
  have lzs : zs.length = g.ps.length := by
    have := dpa_len hza
    rwa [List.length_map] at this
  refine ⟨_, rfl, p, _, dx, _, _, rfl, hp13, T.cl_Program, T.n_Program__sizes, lk_eq, tz, rfl, ⟨_, hzq⟩, fun D5 n5 => lc_it (walk_tup (xs := zs)) (fun i H' => Same H13 H' ∧ ∃ ts, H' D5 = some (.lst ts) ∧ DpAll K H' ts ((g.ps.take i).map fun p => sgsD ((scp g.vs p).map Vr.sz))) ⟨same_new n5, [], upd_same, .nil⟩ (fun i H' _ h' => seqT_same h'.1 hzq) ?_ ?_⟩
  · rintro i y H14 H15 hi ⟨s14, ts, hD, hts⟩ ⟨rfl, hy⟩
    obtain ⟨d, ed, hd⟩ := dpa_getx' hza hy
    obtain ⟨pr, ep, rfl⟩ := mapped ed
    have mp := List.mem_of_getElem? ep
    have lp := dl pr mp
    obtain ⟨ta, us, rfl, hta, hua⟩ := dp_tup' hd
    obtain rfl := dpa_intV hua
    have lts : ts.length = i := by
      have := dpa_len hts
      rw [List.length_map, List.length_take] at this
      omega
    refine ⟨rfl, _, rfl, ta, (scp g.vs pr).map Vr.sz, rfl, seqT_same s14 hta, by rw [List.length_map]; exact lp, fun n hn => ?_, fun sv H16 s16 hsv => ?_⟩
    · obtain ⟨u, hu, rfl⟩ := List.mem_map.mp hn
      have := ho.s2 pr mp u hu
      have := ho.s4 pr mp u hu
      omega
    have hD16 := s16 _ _ hD
    refine ⟨ts, hD16, small1000 (by omega), same_mut (s14.trans s16) n5, ts ++ [sv], upd_same, ?_⟩
    rw [map_take_at ep]
    refine dpa_app (dpa_mut hD16 2 (fun d hd => ?_) (dpa_same s16 hts)) (dp_mut hD16 2 (ho.sg mp) hsv)
    obtain ⟨q, hq, rfl⟩ := List.mem_map.mp hd
    exact ho.sg (List.mem_of_mem_take hq)
  rintro H14 ⟨s14, ts3, hD5, hts3⟩
  rw [lzs, List.take_length] at hts3
  refine ⟨D5, _, rfl, .inl ⟨SqL.of hD5, fun tg ntg => ?_⟩⟩
  have e15 := same_new (o := .tup ts3) ntg
  have hg15 : Dp K (upd H14 tg (.tup ts3)) (.ref tg) (sgtD g) := .tup (SqT.of upd_same) (dpa_same e15 hts3)
  have s15 := s14.trans e15
  generalize upd H14 tg (.tup ts3) = H15 at e15 hg15 s15 ⊢
  have hp15 := s15 _ _ hp13
  refine ⟨_, rfl, p, c id_Program, dx, _, rfl, hp15, T.cl_Program, T.n_Program__sights, (by show 6 < 1000; decide), ?_⟩
  have f16 : Fr p H15 (upd H15 p (.ins (c id_Program) dx (pf7 g v' (.ref a) (.ref tn) (.ref tz) (.ref tg)))) := Fr.upd
  have hp16 := upd_same (H := H15) (a := p) (o := .ins (c id_Program) dx (pf7 g v' (.ref a) (.ref tn) (.ref tz) (.ref tg)))
  have hg16 := dp_fr hp15 f16 hg15
  have hz16 := dp_fr hp15 f16 (dp_same s15 hz13)
  have hn16 := dp_fr hp15 f16 (dp_same s15 hn13)
  have hv16 := dp_fr hp15 f16 (dp_same s15 hv13)
  have hx16 := dp_fr hp15 f16 (dp_same s15 hx13)
  have k16 := (k13.trans (Fr.of s15)).trans f16
  change Ends.nx _ _ (upd H15 p (.ins (c id_Program) dx (pf7 g v' (.ref a) (.ref tn) (.ref tz) (.ref tg))))
  generalize upd H15 p (.ins (c id_Program) dx (pf7 g v' (.ref a) (.ref tn) (.ref tz) (.ref tg))) = H16 at f16 hp16 hg16 hz16 hn16 hv16 hx16 k16 ⊢
  -- places, _points
  have hV := dl_vrs (dl_dp 2 (tup_vs 0 (by omega)) hv16) (.inr rfl)
  have hT := dl_prsT (dl_dp 21 (tup_ps ho) hx16)
  have lkP : (pf7 g v' (.ref a) (.ref tn) (.ref tz) (.ref tg)).lookup ("procedures" : Str) = some (.ref a) := lk_ne (by decide +kernel) (lk_ne (by decide +kernel) (lk_ne (by decide +kernel) lk_eq))
  have lkV : (pf7 g v' (.ref a) (.ref tn) (.ref tz) (.ref tg)).lookup ("variables" : Str) = some v' := lk_ne (by decide +kernel) (lk_ne (by decide +kernel) (lk_ne (by decide +kernel) (lk_ne (by decide +kernel) lk_eq)))
  refine ⟨_, rfl, _, rfl, p, _, dx, _, _, rfl, hp16, T.cl_Program, T.n_Program_variables, lkV, _, rfl, p, _, dx, _, _, rfl, hp16, T.cl_Program, T.n_Program_procedures, lkP, ?_⟩
  refine ⟨v', _, g, rfl, hV, hT, ho, fun t u1 u2 H17 s17 ht hu1 hu2 => ?_⟩
  have hp17 := s17 _ _ hp16
  refine ⟨t, _, rfl, ht, rfl, _, _, rfl, _, rfl, p, c id_Program, dx, _, rfl, hp17, T.cl_Program, T.n_Program_places, (by show 7 < 1000; decide), _, _, rfl, _, rfl, p, c id_Program, dx, _, rfl, upd_same, T.cl_Program, T.n_Program__points, (by show 8 < 1000; decide), rfl, ?_⟩
  have f18 : Fr p H17 (upd (upd H17 p (.ins (c id_Program) dx (putF "places" u1 (pf7 g v' (.ref a) (.ref tn) (.ref tz) (.ref tg))))) p (.ins (c id_Program) dx (putF "_points" u2 (putF "places" u1 (pf7 g v' (.ref a) (.ref tn) (.ref tz) (.ref tg)))))) := Fr.trans Fr.upd Fr.upd
  exact q _ (fun b o hb hne => (k16.trans ((Fr.of s17).trans f18)) b o hne hb) ⟨dx, v', .ref a, .ref tn, .ref tz, .ref tg, u1, u2, upd_same, dp_fr hp17 f18 (dp_same s17 hv16), dp_fr hp17 f18 (dp_same s17 hx16), dp_fr hp17 f18 (dp_same s17 hn16), dp_fr hp17 f18 (dp_same s17 hz16), dp_fr hp17 f18 (dp_same s17 hg16), dp_fr hp17 f18 hu1, dp_fr hp17 f18 hu2⟩
/-- what a method hands out of a program -/
theorem dp_row {K : PySem.W.Frag} {H : Hp} {v : V} {α : Type} {xs : List α} {f : α → PyData} {k : Nat} {x : α} (h : Dp K H v (.tuple (xs.map f))) (e : xs[k]? = some x) : ∃ a ys y, v = .ref a ∧ SqT K H a ys ∧ atI ys (k : Int) = some y ∧ Dp K H y (f x) := by
  obtain ⟨a, ys, rfl, hq, hk⟩ := dp_tup' h
  have l := dpa_len hk
  rw [List.length_map] at l
  have hi : k < ys.length := by rw [l]; exact (List.getElem?_eq_some_iff.mp e).1
  obtain ⟨d, ed, hd⟩ := dpa_getx' hk (List.getElem?_eq_getElem hi)
  rw [List.getElem?_map, e] at ed
  cases ed
  exact ⟨a, ys, _, rfl, hq, atI_nat (List.getElem?_eq_getElem hi), hd⟩
def sp_meth (K : PySem.W.Frag) (C : Addr) (f : Pg → Pr → PyData) : Sp := fun us H Q _ => ∃ (p : Addr) (g : Pg) (k : Nat) (pr : Pr), us = [.ref p, .int (k : Int)] ∧ PgAt K C H p g ∧ g.ps[k]? = some pr ∧ ∀ v, Dp K H v (f g pr) → Q v H
theorem ok_Program_names (T : Txt P K mg c) : HasM P w K mg base 1 (c 56) "names" ["self", "procedure"] (sp_meth K (c id_Program) fun g p => .tuple (((scp g.vs p).map Vr.nm).map .str)) := by
  obtain ⟨f, fd, F, m, b⟩ := T.d_Program_names
  refine ⟨f, fd, F.ok sc_Program_names (fun vs H Q E h => ?_) (fun cdv A outer s H vs Q E hr h => ?_), m, b⟩
  · obtain ⟨p, g, k, pr, rfl, hc, hk, q⟩ := h
    rfl
  obtain ⟨p, g, k, pr, rfl, hc, hk, q⟩ := h
  refine ⟨_, (pss_one (ps_ret (pe_ix ix_tup (pe_fld (pv 0) rfl) (pv 1) (fun _ _ => rfl)))), ?_⟩
  obtain ⟨dx, v, x, n, z, s, pl, pt, hp, hf⟩ := hc
  obtain ⟨a, ys, y, rfl, hq, hy, hd⟩ := dp_row hf.n hk
  exact ⟨_, rfl, p, _, dx, _, _, rfl, hp, T.cl_Program, T.n_Program__names, pf9_n, _, rfl, a, ys, _, _, rfl, rfl, hq, hy, q _ hd⟩
theorem ok_Program_sizes (T : Txt P K mg c) : HasM P w K mg base 1 (c 56) "sizes" ["self", "procedure"] (sp_meth K (c id_Program) fun g p => .tuple (((scp g.vs p).map Vr.sz).map .int)) := by
  obtain ⟨f, fd, F, m, b⟩ := T.d_Program_sizes
  refine ⟨f, fd, F.ok sc_Program_sizes (fun vs H Q E h => ?_) (fun cdv A outer s H vs Q E hr h => ?_), m, b⟩
  · obtain ⟨p, g, k, pr, rfl, hc, hk, q⟩ := h
    rfl
  obtain ⟨p, g, k, pr, rfl, hc, hk, q⟩ := h
  refine ⟨_, (pss_one (ps_ret (pe_ix ix_tup (pe_fld (pv 0) rfl) (pv 1) (fun _ _ => rfl)))), ?_⟩
  obtain ⟨dx, v, x, n, z, s, pl, pt, hp, hf⟩ := hc
  obtain ⟨a, ys, y, rfl, hq, hy, hd⟩ := dp_row hf.z hk
  exact ⟨_, rfl, p, _, dx, _, _, rfl, hp, T.cl_Program, T.n_Program__sizes, pf9_z, _, rfl, a, ys, _, _, rfl, rfl, hq, hy, q _ hd⟩
theorem ok_Program_sights (T : Txt P K mg c) : HasM P w K mg base 1 (c 56) "sights" ["self", "procedure"] (sp_meth K (c id_Program) fun g p => sgsD ((scp g.vs p).map Vr.sz)) := by
  obtain ⟨f, fd, F, m, b⟩ := T.d_Program_sights
  refine ⟨f, fd, F.ok sc_Program_sights (fun vs H Q E h => ?_) (fun cdv A outer s H vs Q E hr h => ?_), m, b⟩
  · obtain ⟨p, g, k, pr, rfl, hc, hk, q⟩ := h
    rfl
  obtain ⟨p, g, k, pr, rfl, hc, hk, q⟩ := h
  refine ⟨_, (pss_one (ps_ret (pe_ix ix_tup (pe_fld (pv 0) rfl) (pv 1) (fun _ _ => rfl)))), ?_⟩
  obtain ⟨dx, v, x, n, z, s, pl, pt, hp, hf⟩ := hc
  obtain ⟨a, ys, y, rfl, hq, hy, hd⟩ := dp_row hf.s hk
  exact ⟨_, rfl, p, _, dx, _, _, rfl, hp, T.cl_Program, T.n_Program__sights, pf9_s, _, rfl, a, ys, _, _, rfl, rfl, hq, hy, q _ hd⟩


end
end Pf

namespace Pf
open PySem PySem.Spec PyProof.Rows L2
section
variable {P : Program} {w : World} {K : PySem.W.Frag} {mg : Str → Option Value} {base : Heap}
variable {c : Nat → Addr}
/-! ### names that are drawn -/
def digS : List Nat := (Str.ofString "0123456789").cps.toList
theorem wrd_split : wrdS = lowS ++ digS := by decide +kernel
theorem low_len : lowS.length = 26 := by decide +kernel
theorem dig_len : digS.length = 10 := by decide +kernel
theorem low_nd : lowS.Nodup := by decide +kernel
theorem low_wrd {c : Nat} (h : c ∈ lowS) : c ∈ wrdS := by rw [wrd_split]; exact List.mem_append_left _ h
theorem dig_wrd {c : Nat} (h : c ∈ digS) : c ∈ wrdS := by rw [wrd_split]; exact List.mem_append_right _ h
theorem wrd_low {i c : Nat} (h : wrdS[i]? = some c) (l : i < 26) : c ∈ lowS := by
  rw [wrd_split, List.getElem?_append_left (by rw [low_len]; exact l)] at h
  exact List.mem_of_getElem? h
theorem kw_dig : ∀ z ∈ kwS, ∀ c ∈ z.cps.toList, c ∉ digS := by decide +kernel
theorem kw_split : Txt.split (Str.ofString "letters answers global proc local read write if then else while do call skip end and or not") (Str.ofString " ") = kwS := by decide +kernel
theorem not_inV {z : Str} {ws : List Str} (h : inV (.str z) (ws.map V.str) = false) : z ∉ ws := fun m => by
  unfold inV at h
  rw [List.any_eq_false] at h
  exact h (.str z) (List.mem_map.mpr ⟨z, m, rfl⟩) (by simp [eqV])
theorem is_inV {z : Str} {ws : List Str} (h : inV (.str z) (ws.map V.str) = true) : z ∈ ws := by
  unfold inV at h
  obtain ⟨x, hx, e⟩ := List.any_eq_true.mp h
  obtain ⟨y, hy, rfl⟩ := List.mem_map.mp hx
  have e2 : y = z := by simpa [eqV] using e
  exact e2 ▸ hy
theorem cutS_to {z : Str} {v : Int} (h : 0 ≤ v) : (cutS z none (some v)).cps.toList = z.cps.toList.take v.toNat := by
  obtain ⟨n, rfl⟩ := Int.eq_ofNat_of_zero_le h
  unfold cutS
  rw [HT.sIx_none, show HT.sIx z.length z.length (some (n : Int)) = min n z.length from HT.sIx_nat z.length z.length n, Nat.sub_zero, List.drop_zero]
  show z.cps.toList.take (min n z.length) = _
  rw [Int.toNat_natCast]
  by_cases e : n ≤ z.length
  · rw [Nat.min_eq_left e]
  · have l : z.cps.toList.length = z.length := Array.length_toList
    rw [Nat.min_eq_right (by omega), List.take_of_length_le (by omega), List.take_of_length_le (by omega)]
theorem cutS_from {z : Str} {v : Int} (h : 0 ≤ v) : (cutS z (some v) none).cps.toList = z.cps.toList.drop v.toNat := by
  obtain ⟨n, rfl⟩ := Int.eq_ofNat_of_zero_le h
  have l : z.cps.toList.length = z.length := Array.length_toList
  unfold cutS
  rw [HT.sIx_none, show HT.sIx z.length 0 (some (n : Int)) = min n z.length from HT.sIx_nat z.length 0 n]
  show (z.cps.toList.drop (min n z.length)).take (z.length - min n z.length) = _
  rw [Int.toNat_natCast]
  by_cases e : n ≤ z.length
  · rw [Nat.min_eq_left e]
    exact List.take_of_length_le (by rw [List.length_drop]; omega)
  · rw [Nat.min_eq_right (by omega), Nat.sub_self, List.take_zero, List.drop_of_length_le (by omega)]
theorem str_ext {x y : Str} (h : x.cps.toList = y.cps.toList) : x = y := by
  cases x
  cases y
  congr 1
  exact Array.toList_inj.mp h
theorem str_app (x y : Str) : (x ++ y).cps.toList = x.cps.toList ++ y.cps.toList := Array.toList_append
theorem str_one (c : Nat) : (⟨#[c]⟩ : Str).cps.toList = [c] := rfl
theorem nodup_le {α : Type} [DecidableEq α] : ∀ {xs ys : List α}, xs.Nodup → (∀ x ∈ xs, x ∈ ys) → xs.length ≤ ys.length
  | [], _, _, _ => Nat.zero_le _
  | x :: xs, ys, h, k => by
    have hx := k x List.mem_cons_self
    rw [List.nodup_cons] at h
    have ih := nodup_le (ys := ys.erase x) h.2 fun y hy => (List.mem_erase_of_ne (a := y) (b := x) (fun e : y = x => h.1 (by rw [← e]; exact hy))).mpr (k y (List.mem_cons_of_mem _ hy))
    rw [List.length_erase_of_mem hx] at ih
    have : 0 < ys.length := List.length_pos_of_mem hx
    rw [List.length_cons]
    omega
/-- a word of letters and digits behind a letter -/
structure WdOk (z : Str) : Prop where
  hd : ∃ c, z.cps.toList[0]? = some c ∧ c ∈ lowS
  ch : ∀ c ∈ z.cps.toList, c ∈ wrdS
/-- the k-th of the words that differ in one letter -/
def letK (f : Int) (k : Nat) : Nat := lowS.getD ((f + (k : Int)) % 26).toNat 0
def wdK (A B : Str) (f : Int) (d : Nat) (k : Nat) : Str := A ++ ⟨#[letK f k]⟩ ++ B ++ ⟨#[d]⟩
theorem letK_at {f : Int} {k : Nat} : lowS[((f + (k : Int)) % 26).toNat]? = some (letK f k) := by
  have h : ((f + (k : Int)) % 26).toNat < lowS.length := by rw [low_len]; omega
  unfold letK
  rw [List.getD_eq_getElem?_getD, List.getElem?_eq_getElem h]
  rfl
theorem letK_low (f : Int) (k : Nat) : letK f k ∈ lowS := List.mem_of_getElem? letK_at
theorem letK_inj {f : Int} {i j : Nat} (hi : i < 26) (hj : j < 26) (h : letK f i = letK f j) : i = j := by
  have e1 := letK_at (f := f) (k := i)
  have e2 := letK_at (f := f) (k := j)
  rw [h] at e1
  have l1 := (List.getElem?_eq_some_iff.mp e1)
  have l2 := (List.getElem?_eq_some_iff.mp e2)
  have e : ((f + (i : Int)) % 26).toNat = ((f + (j : Int)) % 26).toNat := by
    obtain ⟨a, ea⟩ := l1
    obtain ⟨b, eb⟩ := l2
    exact (List.getElem_inj low_nd).mp (ea.trans eb.symm)
  omega
theorem wdK_cps (A B : Str) (f : Int) (d k : Nat) : (wdK A B f d k).cps.toList = A.cps.toList ++ ([letK f k] ++ (B.cps.toList ++ [d])) := by
  unfold wdK
  rw [str_app, str_app, str_app, str_one, str_one, List.append_assoc, List.append_assoc]
theorem wdK_inj {A B : Str} {f : Int} {d i j : Nat} (hi : i < 26) (hj : j < 26) (h : wdK A B f d i = wdK A B f d j) : i = j := by
  have e := congrArg (fun z : Str => z.cps.toList) h
  have e : (wdK A B f d i).cps.toList = (wdK A B f d j).cps.toList := e
  rw [wdK_cps, wdK_cps] at e
  have e2 := List.append_cancel_left e
  exact letK_inj hi hj (List.cons.inj e2).1
theorem wdK_nm {z : Str} {v f : Int} {d k : Nat} (hz : z.length ≤ 6) (hw : z.length = 0 ∨ WdOk z) (h0 : 0 ≤ v) (h1 : v ≤ z.length) (hd : d ∈ digS) : NmOk (wdK (cutS z none (some v)) (cutS z (some v) none) f d k) := by
  have l : z.cps.toList.length = z.length := Array.length_toList
  have chz : ∀ c ∈ z.cps.toList, c ∈ wrdS := fun c hc => by
    rcases hw with e | w
    · rw [List.eq_nil_of_length_eq_zero (l.trans e)] at hc
      cases hc
    · exact w.ch c hc
  have cps := wdK_cps (cutS z none (some v)) (cutS z (some v) none) f d k
  rw [cutS_to h0, cutS_from h0] at cps
  generalize wdK (cutS z none (some v)) (cutS z (some v) none) f d k = w at cps
  have lw : w.cps.toList.length = w.length := Array.length_toList
  have ln : w.length = z.length + 2 := by
    rw [← lw, cps, List.length_append, List.length_append, List.length_append, List.length_take, List.length_drop, l]
    show min v.toNat z.length + (1 + (z.length - v.toNat + 1)) = _
    omega
  refine ⟨by omega, by omega, ?_, fun c hc => ?_, fun m => ?_⟩
  · rw [cps]
    by_cases e : v.toNat = 0
    · rw [e, List.take_zero]
      exact ⟨_, rfl, letK_low f k⟩
    · rcases hw with e0 | w
      · omega
      · obtain ⟨c, hc, hl⟩ := w.hd
        refine ⟨c, ?_, hl⟩
        rw [List.getElem?_append_left (by rw [List.length_take, l]; omega), List.getElem?_take_of_lt (by omega)]
        exact hc
  · rw [cps] at hc
    rcases List.mem_append.mp hc with hc | hc
    · exact chz c (List.mem_of_mem_take hc)
    rcases List.mem_append.mp hc with hc | hc
    · rcases List.mem_singleton.mp hc with rfl
      exact low_wrd (letK_low f k)
    rcases List.mem_append.mp hc with hc | hc
    · exact chz c (List.mem_of_mem_drop hc)
    · rcases List.mem_singleton.mp hc with rfl
      exact dig_wrd hd
  · refine kw_dig w m d ?_ hd
    rw [cps]
    exact List.mem_append_right _ (List.mem_append_right _ (List.mem_append_right _ (List.mem_singleton.mpr rfl)))


end
end Pf

namespace Pf
open PySem PySem.Spec PyProof.Rows L2
section
variable {P : Program} {w : World} {K : PySem.W.Frag} {mg : Str → Option Value} {base : Heap}
variable {c : Nat → Addr}
theorem strs_flat (ws : List Str) : (ws.map V.str).all flatV = true := by
  rw [List.all_map]
  exact List.all_eq_true.mpr fun _ _ => rfl
def sp__law_word (K : PySem.W.Frag) : Sp := fun vs H Q _ => ∃ (r : Addr) (n : Int), vs = [.ref r, .int n] ∧ RD H r ∧ 0 ≤ n ∧ n ≤ 1000 ∧ ∀ (z : Str) H', Fr r H H' → RD H' r → (z.length : Int) = n + 1 → WdOk z → Q (.str z) H'
theorem ok__law_word (T : Txt P K mg c) : Has P w K mg base 2 "_law_word" ["reader", "many"] (sp__law_word K) := by
  obtain ⟨f, fd, F, m, b⟩ := T.d__law_word.ex
  obtain ⟨f__law_next, fd__law_next, G__law_next, m__law_next, k__law_next, b__law_next⟩ := ok__law_next (P := P) (w := w) (base := base) T
  refine ⟨f, fd, F.ok sc__law_word (fun vs H Q E h => ?_) (fun cdv A outer s H vs Q E hr h => ?_), m, F.kp, b⟩
  · obtain ⟨r, n, rfl, hR, h0, h1, q⟩ := h
    rfl
  obtain ⟨r, n, rfl, hR, h0, h1, q⟩ := h
  refine ⟨_, (pss_cons (ps_set (i := 2) sc__law_word.nd rfl (.inl rfl) pe_str)
      (pss_cons (ps_set (i := 3) sc__law_word.nd rfl (.inl rfl) (pe_ix ix_str (pv 2) (pe_call G__law_next (hr.mono (by decide)) (by rfl) m__law_next k__law_next b__law_next .nil pass0 (pa_cons (pv 0) (pa_cons pe_int pa_nil))) (fun _ _ => rfl)))
      (pss_cons (ps_for PassesOwn.never rfl (pi_range1 (by rfl) T.z_range (pa_cons (pv 1) pa_nil)) (pg_name (i := 4) sc__law_word.nd rfl (.inl rfl))
      (pss_one (ps_set (i := 3) sc__law_word.nd rfl (.inl rfl) (pe_op op_add_str (pv 3) (pe_ix ix_str (pv 2) (pe_call G__law_next (hr.mono (by decide)) (by rfl) m__law_next k__law_next b__law_next .nil pass0 (pa_cons (pv 0) (pa_cons pe_int pa_nil))) (fun _ _ => rfl))))))
      (pss_one (ps_ret (pv 3)))))), ?_⟩
  have bs : ∀ {i : Int}, 0 ≤ i → i < 36 → ∃ c, wrdS[i.toNat]? = some c ∧ atI (Str.ofString "abcdefghijklmnopqrstuvwxyz0123456789").cps.toList i = some c := fun {i} a b =>
    at_in (xs := (Str.ofString "abcdefghijklmnopqrstuvwxyz0123456789").cps.toList) a (by rw [show (Str.ofString "abcdefghijklmnopqrstuvwxyz0123456789").cps.toList.length = 36 by decide +kernel]; exact b)
  have ls : (Str.ofString "abcdefghijklmnopqrstuvwxyz0123456789").length ≤ sizeLine := by decide +kernel
  refine ⟨_, rfl, _, rfl, r, 26, rfl, hR, by decide, by decide, fun v H1 f1 R1 v0 v1 => ?_⟩
  obtain ⟨c, hm, hc⟩ := bs v0 (by omega)
  have hlow := wrd_low hm (by omega)
  refine ⟨_, _, c, rfl, rfl, ls, hc, ?_⟩
  refine ⟨_, rfl, n, rfl, by omega, by omega, for_range (fun i σ H2 => ∃ (z : Str) (y : Option V), σ = [some (.ref r), some (.int n), some (.str "abcdefghijklmnopqrstuvwxyz0123456789"), some (.str z), y] ∧ Fr r H H2 ∧ RD H2 r ∧ z.length = i + 1 ∧ WdOk z) ⟨_, _, rfl, f1, R1, rfl, ⟨c, rfl, hlow⟩, fun d hd => by rcases List.mem_singleton.mp hd with rfl; exact low_wrd hlow⟩ ?_ ?_⟩
  · rintro i σ H2 hi ⟨z, y, rfl, f2, R2, hz, zo⟩
    refine ⟨_, rfl, _, rfl, _, rfl, r, 36, rfl, R2, by decide, by decide, fun v2 H3 f3 R3 w0 w1 => ?_⟩
    obtain ⟨c2, hm2, hc2⟩ := bs w0 w1
    refine ⟨_, _, c2, rfl, rfl, ls, hc2, ?_⟩
    refine ⟨_, _, rfl, rfl, ?_, ?_⟩
    · rw [one_len, hz]
      exact line_small (by omega)
    · refine ⟨_, _, rfl, f2.trans f3, R3, ?_, ?_⟩
      · rw [app_len, one_len, hz]
      · obtain ⟨⟨d, hd, hl⟩, hch⟩ := zo
        refine ⟨⟨d, ?_, hl⟩, fun e he => ?_⟩
        · rw [str_app, List.getElem?_append_left (List.getElem?_eq_some_iff.mp hd).1]
          exact hd
        · rw [str_app] at he
          rcases List.mem_append.mp he with he | he
          · exact hch e he
          · rcases List.mem_singleton.mp he with rfl
            exact List.mem_of_getElem? hm2
  · rintro σ H2 ⟨z, y, rfl, f2, R2, hz, zo⟩
    refine ⟨_, rfl, q z H2 f2 R2 (by omega) zo⟩
/-- a pool of names -/
structure PoolOk (ws : List Str) : Prop where
  nd : ws.Nodup
  nm : ∀ z ∈ ws, NmOk z
theorem PoolOk.more {ws : List Str} {z : Str} (h : PoolOk ws) (n : z ∉ ws) (k : NmOk z) : PoolOk (ws ++ [z]) := by
  refine ⟨List.nodup_append.mpr ⟨h.nd, by simp, fun a ha b hb e => ?_⟩, fun y hy => ?_⟩
  · rcases List.mem_singleton.mp hb with rfl
    exact n (e ▸ ha)
  · rcases List.mem_append.mp hy with hy | hy
    · exact h.nm y hy
    · rcases List.mem_singleton.mp hy with rfl
      exact k
def sp__law_pool (K : PySem.W.Frag) : Sp := fun vs H Q _ => ∃ (r : Addr), vs = [.ref r] ∧ RD H r ∧ ∀ (p : Addr) (ws : List Str) (H' : Hp), Fr r H H' → RD H' r → H p = none → H' p = some (.lst (ws.map V.str)) → ws.length = 12 → PoolOk ws → Q (.ref p) H'
theorem ok__law_pool (T : Txt P K mg c) : Has P w K mg base 3 "_law_pool" ["reader"] (sp__law_pool K) := by
  obtain ⟨f, fd, F, m, b⟩ := T.d__law_pool.ex
  obtain ⟨f__law_next, fd__law_next, G__law_next, m__law_next, k__law_next, b__law_next⟩ := ok__law_next (P := P) (w := w) (base := base) T
  obtain ⟨f__law_word, fd__law_word, G__law_word, m__law_word, k__law_word, b__law_word⟩ := ok__law_word (P := P) (w := w) (base := base) T
  refine ⟨f, fd, F.ok sc__law_pool (fun vs H Q E h => ?_) (fun cdv A outer s H vs Q E hr h => ?_), m, F.kp, b⟩
  · obtain ⟨r, rfl, hR, q⟩ := h
    rfl
  obtain ⟨r, rfl, hR, q⟩ := h
  refine ⟨_, (pss_cons (ps_set (i := 1) sc__law_pool.nd rfl (.inl rfl) (pe_split pe_str pe_str))
      (pss_cons (ps_set (i := 2) sc__law_pool.nd rfl (.inl rfl) (pe_lst pa_nil))
      (pss_cons (ps_set (i := 3) sc__law_pool.nd rfl (.inl rfl) (pe_cmpR op_eq (pe_call G__law_next (hr.mono (by decide)) (by rfl) m__law_next k__law_next b__law_next .nil pass0 (pa_cons (pv 0) (pa_cons pe_int pa_nil))) pe_int (nomark _)))
      (pss_cons (ps_for PassesOwn.never rfl (pi_range1 (by rfl) T.z_range (pa_cons pe_int pa_nil)) (pg_name (i := 4) sc__law_pool.nd rfl (.inl rfl))
      (pss_cons (ps_set (i := 5) sc__law_pool.nd rfl (.inl rfl) (pe_call G__law_word (hr.mono (by decide)) (by rfl) m__law_word k__law_word b__law_word .nil pass0 (pa_cons (pv 0) (pa_cons (pe_call G__law_next (hr.mono (by decide)) (by rfl) m__law_next k__law_next b__law_next .nil pass0 (pa_cons (pv 0) (pa_cons pe_int pa_nil))) pa_nil))))
        (pss_one (ps_if (PW.pt (pw_and (pt_not (pt_val (pv 3))) (pw_and (pt_cmpR op_notIn_seq (pv 5) (pv 1) (by rfl)) (pw_and1 (pt_cmpR op_notIn_seq (pv 5) (pv 2) (by rfl))))))
        (pss_one (ps_expr (pe_bm PySem.F.plainAttrs_list PySem.F.slot_list_append PySem.F.type_list_append mt_append (pv 2) (pa_cons (pv 5) pa_nil))))
        pss_nil))))
      (pss_cons (ps_set (i := 6) sc__law_pool.nd rfl (.inl rfl) (pe_slice sl_str (pe_call G__law_word (hr.mono (by decide)) (by rfl) m__law_word k__law_word b__law_word .nil pass0 (pa_cons (pv 0) (pa_cons pe_int pa_nil))) po_none (po_some (pe_call G__law_next (hr.mono (by decide)) (by rfl) m__law_next k__law_next b__law_next .nil pass0 (pa_cons (pv 0) (pa_cons pe_int pa_nil))))))
      (pss_cons (ps_set (i := 7) sc__law_pool.nd rfl (.inl rfl) (pe_ix ix_str pe_str (pe_call G__law_next (hr.mono (by decide)) (by rfl) m__law_next k__law_next b__law_next .nil pass0 (pa_cons (pv 0) (pa_cons pe_int pa_nil))) (fun _ _ => rfl)))
      (pss_cons (ps_set (i := 8) sc__law_pool.nd rfl (.inl rfl) (pe_call G__law_next (hr.mono (by decide)) (by rfl) m__law_next k__law_next b__law_next .nil pass0 (pa_cons (pv 0) (pa_cons (pe_op op_add (pe_callB call_len_str (by rfl) T.z_len (by decide +kernel) (pa_cons (pv 6) pa_nil)) pe_int) pa_nil))))
      (pss_cons (ps_set (i := 9) sc__law_pool.nd rfl (.inl rfl) (pe_call G__law_next (hr.mono (by decide)) (by rfl) m__law_next k__law_next b__law_next .nil pass0 (pa_cons (pv 0) (pa_cons pe_int pa_nil))))
      (pss_cons (ps_for PassesOwn.never rfl (pi_range1 (by rfl) T.z_range (pa_cons pe_int pa_nil)) (pg_name (i := 4) sc__law_pool.nd rfl (.inl rfl))
      (pss_cons (ps_set (i := 5) sc__law_pool.nd rfl (.inl rfl) (pe_op op_add_str (pe_op op_add_str (pe_op op_add_str (pe_slice sl_str (pv 6) po_none (po_some (pv 8))) (pe_ix ix_str pe_str (pe_op op_mod (pe_callTy call_int1 (by rfl) T.z_int (by decide +kernel) (pa_cons (pe_op op_add (pv 9) (pv 4)) pa_nil)) pe_int) (fun _ _ => rfl))) (pe_slice sl_str (pv 6) (po_some (pv 8)) po_none)) (pv 7)))
        (pss_one (ps_if (pt_cmpR op_notIn_seq (pv 5) (pv 2) (by rfl))
        (pss_one (ps_expr (pe_bm PySem.F.plainAttrs_list PySem.F.slot_list_append PySem.F.type_list_append mt_append (pv 2) (pa_cons (pv 5) pa_nil))))
        pss_nil))))
      (pss_one (ps_ret (pe_slice sl_list (pv 2) po_none (po_some pe_int))))))))))))), ?_⟩
  refine ⟨⟨_, rfl⟩, _, _, rfl, rfl, by decide +kernel, by decide +kernel, fun cl ncl => ?_⟩
  rw [kw_split]
  refine ⟨Nat.zero_le _, fun po npo => ?_⟩
  have hcl : upd (upd H cl (.lst (kwS.map V.str))) po (.lst []) cl = some (.lst (kwS.map V.str)) := same_new npo _ _ upd_same
  have npo' : H po = none := same_back (same_new ncl) npo
  have ncp : cl ≠ po := ne_of_none upd_same npo
  have f0 : Fr r H (upd (upd H cl (.lst (kwS.map V.str))) po (.lst [])) := (Fr.new ncl).trans (Fr.new npo)
  have R0 : RD (upd (upd H cl (.lst (kwS.map V.str))) po (.lst [])) r := (hR.of (same_new ncl)).of (same_new npo)
  have hpo : upd (upd H cl (.lst (kwS.map V.str))) po (.lst []) po = some (.lst (([] : List Str).map V.str)) := upd_same
  generalize upd (upd H cl (.lst (kwS.map V.str))) po (.lst []) = H1 at hcl f0 R0 hpo ⊢
  refine ⟨_, rfl, r, 2, rfl, R0, by decide, by decide, fun v H2 f2 R2 v0 v1 => ?_⟩
  refine ⟨rfl, ?_⟩
  have nr : cl ≠ r ∧ po ≠ r := ⟨hR.ne ncl, hR.ne npo'⟩
  have hcl2 := f2 _ _ nr.1 hcl
  have hpo2 := f2 _ _ nr.2 hpo
  generalize decide (V.int v = V.int 1) = al
  refine ⟨12, rfl, by decide, by decide, for_range (fun i σ H3 => ∃ (ws : List Str) (y1 y2 : Option V), σ = [some (.ref r), some (.ref cl), some (.ref po), some (.bl al), y1, y2, none, none, none, none] ∧ Fr r H H3 ∧ RD H3 r ∧ H3 cl = some (.lst (kwS.map V.str)) ∧ H3 po = some (.lst (ws.map V.str)) ∧ ws.length ≤ i ∧ PoolOk ws)
    ⟨_, _, _, rfl, f0.trans f2, R2, hcl2, hpo2, Nat.le_refl _, List.nodup_nil, fun x hx => nomatch hx⟩ ?_ ?_⟩
  · rintro i σ H3 hi ⟨ws, y1, y2, rfl, f3, R3, hc3, hp3, hl, ho⟩
    refine ⟨_, rfl, _, rfl, r, 8, rfl, R3, by decide, by decide, fun v4 H4 f4 R4 a0 a1 => ?_⟩
    refine ⟨r, v4, rfl, R4, a0, by omega, fun z H5 f5 R5 hz zo => ?_⟩
    have hc5 := f5 _ _ nr.1 (f4 _ _ nr.1 hc3)
    have hp5 := f5 _ _ nr.2 (f4 _ _ nr.2 hp3)
    have f35 := f3.trans (f4.trans f5)
    have next : ∀ {σ' : L2.St}, σ' = [some (.ref r), some (.ref cl), some (.ref po), some (.bl al), some (.int (0 + (i : Int))), some (.str z), none, none, none, none] → ∃ (ws : List Str) (y1 y2 : Option V), σ' = [some (.ref r), some (.ref cl), some (.ref po), some (.bl al), y1, y2, none, none, none, none] ∧ Fr r H H5 ∧ RD H5 r ∧ H5 cl = some (.lst (kwS.map V.str)) ∧ H5 po = some (.lst (ws.map V.str)) ∧ (ws.length ≤ i + 1 ∧ PoolOk ws) :=
      fun e => ⟨ws, _, _, e, f35, R5, hc5, hp5, by omega, ho⟩
    refine ⟨_, rfl, _, rfl, ite2 (fun e => ?_) (fun e => iteF (next rfl))⟩
    refine ⟨_, rfl, _, rfl, cl, _, rfl, .inl (SqL.of hc5), rfl, kw_flat, _, rfl, ite2 (fun e1 => ?_) (fun e => iteF (next rfl))⟩
    refine ⟨_, rfl, _, rfl, po, _, rfl, .inl (SqL.of hp5), rfl, strs_flat _, _, rfl, ite2 (fun e2 => ?_) (fun e => next rfl)⟩
    have k1 : z ∉ kwS := not_inV (by simpa using e1)
    have k2 : z ∉ ws := not_inV (by simpa using e2)
    refine ⟨_, rfl, .inl ⟨rfl, _, SqL.of hp5⟩, _, rfl, po, _, _, rfl, rfl, hp5, ?_, ?_⟩
    · rw [List.length_map]
      exact small1000 (by omega)
    · refine ⟨ws ++ [z], _, _, rfl, f35.mut npo', ?_, ?_, ?_, ?_, ho.more k2 ⟨by omega, by omega, zo.hd, zo.ch, k1⟩⟩
      · obtain ⟨x1, x2, x3, x4⟩ := R5
        exact ⟨x1, x2, x3, by rw [upd_ne nr.2.symm]; exact x4⟩
      · rw [upd_ne ncp]
        exact hc5
      · rw [upd_same]
        simp
      · rw [List.length_append]
        show ws.length + 1 ≤ i + 1
        omega
  · rintro σ H3 ⟨ws, y1, y2, rfl, f3, R3, hc3, hp3, hl, ho⟩
    refine ⟨_, rfl, r, 6, rfl, R3, by decide, by decide, fun z H5 f5 R5 hz zo => ?_⟩
    refine ⟨_, rfl, r, 7, rfl, R5, by decide, by decide, fun v6 H6 f6 R6 a0 a1 => ?_⟩
    have lz : z.length ≤ 100000 := by omega
    refine ⟨v6, rfl, z, rfl, line_small lz, ?_⟩
    have cb := cutS_to (z := z) a0
    generalize cutS z none (some v6) = ba at cb ⊢
    have lb : ba.length ≤ 6 := by
      have : ba.cps.toList.length = ba.length := Array.length_toList
      rw [← this, cb, List.length_take]
      omega
    have bo : ba.length = 0 ∨ WdOk ba := by
      by_cases e0 : v6.toNat = 0
      · left
        have : ba.cps.toList.length = ba.length := Array.length_toList
        rw [← this, cb, e0, List.take_zero]
        rfl
      · right
        refine ⟨?_, fun c hc => ?_⟩
        · obtain ⟨c, hc, hl⟩ := zo.hd
          refine ⟨c, ?_, hl⟩
          rw [cb, List.getElem?_take_of_lt (by omega)]
          exact hc
        · rw [cb] at hc
          exact zo.ch c (List.mem_of_mem_take hc)
    refine ⟨_, rfl, r, 10, rfl, R6, by decide, by decide, fun v7 H7 f7 R7 b0 b1 => ?_⟩
    obtain ⟨c7, hm7, hc7⟩ := at_in (xs := (Str.ofString "0123456789").cps.toList) b0 (by rw [show (Str.ofString "0123456789").cps.toList.length = 10 by decide +kernel]; exact b1)
    have h7 : c7 ∈ digS := List.mem_of_getElem? hm7
    refine ⟨_, _, _, rfl, rfl, by decide +kernel, hc7, ?_⟩
    refine ⟨_, rfl, _, rfl, _, rfl, line_small (by omega), _, _, rfl, rfl, r, _, rfl, R7, by omega, by omega, fun v8 H8 f8 R8 d0 d1 => ?_⟩
    refine ⟨_, rfl, r, 26, rfl, R8, by decide, by decide, fun v9 H9 f9 R9 e0 e1 => ?_⟩
    have fa := f3.trans (f5.trans (f6.trans (f7.trans (f8.trans f9))))
    have hp9 := f9 _ _ nr.2 (f8 _ _ nr.2 (f7 _ _ nr.2 (f6 _ _ nr.2 (f5 _ _ nr.2 hp3))))
    refine ⟨26, rfl, by decide, by decide, for_range (fun i σ H3 => ∃ (ws : List Str) (y1 y2 : Option V), σ = [some (.ref r), some (.ref cl), some (.ref po), some (.bl al), y1, y2, some (.str ba), some (.str ⟨#[c7]⟩), some (.int v8), some (.int v9)] ∧ Fr r H H3 ∧ RD H3 r ∧ H3 po = some (.lst (ws.map V.str)) ∧ ws.length ≤ 12 + i ∧ PoolOk ws ∧ ∀ k, k < i → wdK (cutS ba none (some v8)) (cutS ba (some v8) none) v9 c7 k ∈ ws)
      ⟨_, _, _, rfl, fa, R9, hp9, by omega, ho, fun k hk => absurd hk (Nat.not_lt_zero _)⟩ ?_ ?_⟩
    · rintro i σ H3 hi ⟨ws, y1, y2, rfl, f3, R3, hp3, hl, ho, hk⟩
      have hat : atI (Str.ofString "abcdefghijklmnopqrstuvwxyz").cps.toList ((v9 + (0 + (i : Int))) % 26) = some (letK v9 i) := by
        rw [Int.zero_add]
        have h := letK_at (f := v9) (k := i)
        have hn : 0 ≤ (v9 + (i : Int)) % 26 := (mod_lt (by decide)).1
        obtain ⟨n, en⟩ := Int.eq_ofNat_of_zero_le hn
        rw [en] at h ⊢
        exact atI_nat h
      have l1 := cutS_len ba none (some v8)
      have l2 := cutS_len ba (some v8) none
      refine ⟨_, rfl, ⟨_, rfl, _, rfl, _, rfl, line_small (by omega), ?_⟩⟩
      refine ⟨_, rfl, _, rfl, _, _, rfl, rfl, .inl ⟨_, rfl, _, _, rfl, rfl, (show (0 : Int) < 26 by decide), _, _, _, rfl, rfl, by decide +kernel, hat, ?_⟩⟩
      refine ⟨_, _, rfl, rfl, line_small (by rw [one_len]; omega), ?_⟩
      refine ⟨_, rfl, ⟨_, rfl, _, rfl, _, rfl, line_small (by omega), ?_⟩⟩
      refine ⟨_, _, rfl, rfl, line_small (by rw [app_len, one_len]; omega), ?_⟩
      refine ⟨_, rfl, _, _, rfl, rfl, line_small (by rw [app_len, app_len, one_len, one_len]; omega), ?_⟩
      refine ⟨_, rfl, _, rfl, po, _, rfl, .inl (SqL.of hp3), rfl, strs_flat _, _, rfl, ite2 (fun e => ?_) (fun e => ?_)⟩
      · have k2 : wdK (cutS ba none (some v8)) (cutS ba (some v8) none) v9 c7 i ∉ ws := not_inV (by simpa [wdK] using e)
        refine ⟨_, rfl, .inl ⟨rfl, _, SqL.of hp3⟩, _, rfl, po, _, _, rfl, rfl, hp3, ?_, ?_⟩
        · rw [List.length_map]
          exact small1000 (by omega)
        · refine ⟨ws ++ [wdK (cutS ba none (some v8)) (cutS ba (some v8) none) v9 c7 i], _, _, rfl, f3.mut npo', ?_, ?_, ?_, ho.more k2 (wdK_nm lb bo d0 (by omega) h7), fun k hk' => ?_⟩
          · obtain ⟨x1, x2, x3, x4⟩ := R3
            exact ⟨x1, x2, x3, by rw [upd_ne nr.2.symm]; exact x4⟩
          · rw [upd_same]
            simp [wdK]
          · rw [List.length_append]
            show ws.length + 1 ≤ 12 + (i + 1)
            omega
          · rcases Nat.lt_succ_iff_lt_or_eq.mp hk' with hk' | rfl
            · exact List.mem_append_left _ (hk k hk')
            · exact List.mem_append_right _ (List.mem_singleton.mpr rfl)
      · have k2 : wdK (cutS ba none (some v8)) (cutS ba (some v8) none) v9 c7 i ∈ ws := is_inV (by simpa [wdK] using e)
        refine ⟨ws, _, _, rfl, f3, R3, hp3, by omega, ho, fun k hk' => ?_⟩
        rcases Nat.lt_succ_iff_lt_or_eq.mp hk' with hk' | rfl
        · exact hk k hk'
        · exact k2
    · rintro σ H3 ⟨ws, y1, y2, rfl, f3, R3, hp3, hl, ho, hk⟩
      have big : 26 ≤ ws.length := by
        have h := nodup_le (xs := (List.range 26).map (wdK (cutS ba none (some v8)) (cutS ba (some v8) none) v9 c7)) (ys := ws) ?_ fun x hx => ?_
        · rw [List.length_map, List.length_range] at h
          exact h
        · rw [List.nodup_iff_pairwise_ne, List.pairwise_map]
          exact (List.nodup_range (n := 26)).imp_of_mem fun ha hb hne e => hne (wdK_inj (List.mem_range.mp ha) (List.mem_range.mp hb) e)
        · obtain ⟨k, hk', rfl⟩ := List.mem_map.mp hx
          exact hk k (List.mem_range.mp hk')
      refine ⟨_, rfl, 12, rfl, po, _, rfl, SqL.of hp3, fun p np => ?_⟩
      refine q p (ws.take 12) _ (f3.trans (Fr.new np)) (R3.of (same_new np)) (f3.free hR R3 np) ?_ ?_ ⟨?_, fun x hx => ho.nm x (List.mem_of_mem_take hx)⟩
      · rw [upd_same, show cutV (ws.map V.str) none (some 12) = (ws.map V.str).take 12 from cut_to _ 12, List.map_take]
      · rw [List.length_take]
        omega
      · exact ho.nd.sublist (List.take_sublist _ _)


end
end Pf

namespace Pf
open PySem PySem.Spec PyProof.Rows L2
section
variable {P : Program} {w : World} {K : PySem.W.Frag} {mg : Str → Option Value} {base : Heap}
variable {c : Nat → Addr}
/-! ### all but two objects as they were; data beside lists that change -/
def Fr2 (r m : Addr) (H H' : Hp) : Prop := ∀ b o, b ≠ r → b ≠ m → H b = some o → H' b = some o
theorem Fr2.refl (r m : Addr) (H : Hp) : Fr2 r m H H := fun _ _ _ _ h => h
theorem Fr2.trans {r m : Addr} {H H1 H2 : Hp} (a : Fr2 r m H H1) (b : Fr2 r m H1 H2) : Fr2 r m H H2 := fun c o n k h => b c o n k (a c o n k h)
theorem Fr2.of {r m : Addr} {H H' : Hp} (a : Fr r H H') : Fr2 r m H H' := fun b o n _ h => a b o n h
theorem Fr2.new {r m p : Addr} {H : Hp} {o : HO} (h : H p = none) : Fr2 r m H (upd H p o) := Fr2.of (Fr.new h)
theorem Fr2.upd {r m : Addr} {H : Hp} {o : HO} : Fr2 r m H (upd H m o) := fun b u _ n e => by
  rw [upd_ne n]
  exact e
theorem Fr2.mut {r m p : Addr} {H H' : Hp} {o : HO} (a : Fr2 r m H H') (h : H p = none) : Fr2 r m H (L2.upd H' p o) := fun b u n k e => by
  rw [upd_ne (ne_of_none e h)]
  exact a b u n k e
/-- both are lists -/
def IsL (H : Hp) (r : Addr) : Prop := ∃ ys, H r = some (.lst ys)
theorem RD.l {H : Hp} {r : Addr} (h : RD H r) : IsL H r := let ⟨_, _, _, h⟩ := h; ⟨_, h⟩
theorem seqT_f2 {K : PySem.W.Frag} {H H' : Hp} {r m a : Addr} {xs : List V} (hr : IsL H r) (hm : IsL H m) (f : Fr2 r m H H') (h : SqT K H a xs) : SqT K H' a xs := by
  have ne : ∀ o, (∀ zs, o ≠ HO.lst zs) → H a = some o → H' a = some o := fun o no e => f a o (fun z => by
    subst z
    obtain ⟨ys, hr⟩ := hr
    rw [hr] at e
    exact no ys (Option.some.inj e).symm) (fun z => by
    subst z
    obtain ⟨ys, hm⟩ := hm
    rw [hm] at e
    exact no ys (Option.some.inj e).symm) e
  rcases h with (h | ⟨o, h⟩) | h
  · exact .inl (.inl (ne _ (fun zs z => nomatch z) h))
  · exact .inl (.inr ⟨o, ne _ (fun zs z => nomatch z) h⟩)
  · exact .inr h
mutual
theorem dp_f2 {K : PySem.W.Frag} {H H' : Hp} {r m : Addr} (hr : IsL H r) (hm : IsL H m) (f : Fr2 r m H H') : ∀ {v : V} {d : PyData} (n : Nat), tupOk n d → Dp K H v d → Dp K H' v d
  | _, _, _, _, .non => .non
  | _, _, _, _, .bl b => .bl b
  | _, _, _, _, .int i => .int i
  | _, _, _, _, .str x => .str x
  | _, _, 0, h, .lst _ _ => h.elim
  | _, _, _ + 1, h, .lst _ _ => h.elim
  | _, _, 0, h, .tup _ _ => h.elim
  | _, _, n + 1, h, .tup q k => .tup (seqT_f2 hr hm f q) (dpa_f2 hr hm f n h.2 k)
theorem dpa_f2 {K : PySem.W.Frag} {H H' : Hp} {r m : Addr} (hr : IsL H r) (hm : IsL H m) (f : Fr2 r m H H') : ∀ {xs : List V} {ds : List PyData} (n : Nat), (∀ d ∈ ds, tupOk n d) → DpAll K H xs ds → DpAll K H' xs ds
  | _, _, _, _, .nil => .nil
  | _, _, n, h, .cons p k => .cons (dp_f2 hr hm f n (h _ List.mem_cons_self) p) (dpa_f2 hr hm f n (fun d hd => h d (List.mem_cons_of_mem _ hd)) k)
end
theorem dp_f1 {K : PySem.W.Frag} {H H' : Hp} {r : Addr} (hr : IsL H r) (f : Fr r H H') {v : V} {d : PyData} (n : Nat) (ok : tupOk n d) (h : Dp K H v d) : Dp K H' v d := dp_f2 hr hr (Fr2.of (m := r) f) n ok h
theorem dpa_f1 {K : PySem.W.Frag} {H H' : Hp} {r : Addr} (hr : IsL H r) (f : Fr r H H') {xs : List V} {ds : List PyData} (n : Nat) (ok : ∀ d ∈ ds, tupOk n d) (h : DpAll K H xs ds) : DpAll K H' xs ds := dpa_f2 hr hr (Fr2.of (m := r) f) n ok h
theorem tup_vr (n : Nat) (v : Vr) : tupOk (n + 1) v.d := tup_seq (by show 2 ≤ 100000; decide) fun e he => by
  rcases List.mem_cons.mp he with rfl | he
  · exact (tup_atom n).2 _
  · rcases List.mem_singleton.mp he with rfl
    exact (tup_atom n).1 _
theorem tup_vrs (n : Nat) (vs : List Vr) : ∀ d ∈ vs.map Vr.d, tupOk (n + 1) d := fun d hd => by
  obtain ⟨v, _, rfl⟩ := List.mem_map.mp hd
  exact tup_vr n v

/-- the names that are taken from a pool, one behind the other -/
def pick (ws : List Str) (st n : Nat) : List Str := (List.range n).map fun j => ws.getD ((st + j) % ws.length) Str.empty
theorem dq0 {x y : V} : atI [x, y] 0 = some x := atI_nat (j := 0) rfl
theorem dq1 {x y : V} : atI [x, y] 1 = some y := atI_nat (j := 1) rfl
theorem pick_succ (ws : List Str) (st n : Nat) : pick ws st (n + 1) = pick ws st n ++ [ws.getD ((st + n) % ws.length) Str.empty] := by unfold pick; rw [List.range_succ, List.map_append]; rfl
def sp__law_declared (K : PySem.W.Frag) : Sp := fun us H Q _ => ∃ (r pl rm : Addr) (ws : List Str) (st : Nat) (mn a b : Int), us = [.ref r, .ref pl, .int (st : Int), .int mn, .ref rm] ∧ RD H r ∧ H pl = some (.lst (ws.map V.str)) ∧ H rm = some (.lst [.int a, .int b]) ∧ 1 ≤ ws.length ∧ ws.length ≤ 12 ∧ st ≤ 100 ∧ 0 ≤ mn ∧ mn ≤ 4 ∧ 1 ≤ a ∧ a ≤ 64 ∧ b ≤ 64 ∧ a ≤ b ∧
  ∀ (t : V) (vs : List Vr) (a' : Int) (H' : Hp), Fr2 r rm H H' → RD H' r → H' rm = some (.lst [.int a', .int b]) → Dp K H' t (.tuple (vs.map Vr.d)) → (vs.length : Int) ≤ mn → vs.map Vr.nm = pick ws st vs.length → (∀ v ∈ vs, 2 ≤ v.sz ∧ v.sz ≤ 4) → a' = a * prodZ (vs.map Vr.sz) → 1 ≤ a' → a' ≤ b → Q t H'
theorem ok__law_declared (T : Txt P K mg c) : Has P w K mg base 2 "_law_declared" ["reader", "pool", "start", "many", "room"] (sp__law_declared K) := by
  obtain ⟨f, fd, F, m, b⟩ := T.d__law_declared.ex
  obtain ⟨f__law_next, fd__law_next, G__law_next, m__law_next, k__law_next, b__law_next⟩ := ok__law_next (P := P) (w := w) (base := base) T
  refine ⟨f, fd, F.ok sc__law_declared (fun vs H Q E h => ?_) (fun cdv A outer s H vs Q E hr h => ?_), m, F.kp, b⟩
  · obtain ⟨r, pl, rm, ws, st, mn, a, b, rfl, hR, hpl, hrm, w1, w12, st100, m0, m4, a1, a64, b64, ab, q⟩ := h
    rfl
  obtain ⟨r, pl, rm, ws, st, mn, a, b, rfl, hR, hpl, hrm, w1, w12, st100, m0, m4, a1, a64, b64, ab, q⟩ := h
  refine ⟨_, (pss_cons (ps_set (i := 5) sc__law_declared.nd rfl (.inl rfl) (pe_lst pa_nil))
      (pss_cons (ps_for PassesOwn.never rfl (pi_range1 (by rfl) T.z_range (pa_cons (pe_call G__law_next (hr.mono (by decide)) (by rfl) m__law_next k__law_next b__law_next .nil pass0 (pa_cons (pv 0) (pa_cons (pe_op op_add (pv 3) pe_int) pa_nil))) pa_nil)) (pg_name (i := 6) sc__law_declared.nd rfl (.inl rfl))
      (pss_cons (ps_set (i := 7) sc__law_declared.nd rfl (.inl rfl) (pe_op op_add pe_int (pe_call G__law_next (hr.mono (by decide)) (by rfl) m__law_next k__law_next b__law_next .nil pass0 (pa_cons (pv 0) (pa_cons pe_int pa_nil)))))
        (pss_one (ps_if (pt_cmpR op_le (pe_op op_mul (pe_ix ix_list (pv 4) pe_int (fun _ _ => rfl)) (pv 7)) (pe_ix ix_list (pv 4) pe_int (fun _ _ => rfl)) (nomark _))
        (pss_cons (ps_asg (pe_op op_mul (pe_ix ix_list (pv 4) pe_int (fun _ _ => rfl)) (pv 7)) (pg_sub (pv 4) pe_int set_list))
          (pss_one (ps_expr (pe_bm PySem.F.plainAttrs_list PySem.F.slot_list_append PySem.F.type_list_append mt_append (pv 5) (pa_cons (pe_tup (pa_cons (pe_ix ix_list (pv 1) (pe_op op_mod (pe_callTy call_int1 (by rfl) T.z_int (by decide +kernel) (pa_cons (pe_op op_add (pv 2) (pe_callB call_len_seq (by rfl) T.z_len (by decide +kernel) (pa_cons (pv 5) pa_nil))) pa_nil)) (pe_callB call_len_seq (by rfl) T.z_len (by decide +kernel) (pa_cons (pv 1) pa_nil))) (fun _ _ => rfl)) (pa_cons (pv 7) pa_nil))) pa_nil)))))
        pss_nil))))
      (pss_one (ps_ret (pe_callTy call_tuple_of (by rfl) T.z_tuple (by decide +kernel) (pa_cons (pv 5) pa_nil)))))), ?_⟩
  have nrm : r ≠ rm := fun e => by
    subst e
    obtain ⟨x, y, z, h⟩ := hR
    rw [h] at hrm
    cases hrm
  have npl : pl ≠ r := fun e => by
    subst e
    obtain ⟨x, y, z, h⟩ := hR
    rw [h] at hpl
    cases ws with
    | nil => simp at w1
    | cons => cases hpl
  have nplm : pl ≠ rm := fun e => by
    subst e
    rw [hpl] at hrm
    cases ws with
    | nil => simp at w1
    | cons => cases hrm
  refine ⟨by show 0 ≤ sizeLine; decide, fun D nD => ?_⟩
  have e0 := same_new (o := .lst []) nD
  have hD0 := upd_same (H := H) (a := D) (o := .lst [])
  have nDr : D ≠ r := hR.ne nD
  have nDm : D ≠ rm := (ne_of_none hrm nD).symm
  have nDp : D ≠ pl := (ne_of_none hpl nD).symm
  refine ⟨_, rfl, _, rfl, _, _, rfl, rfl, r, mn + 1, rfl, hR.of e0, by omega, by omega, fun cnt H1 f1 R1 c0 c1 => ?_⟩
  refine ⟨cnt, rfl, by omega, by omega, for_range (fun i σ H' => ∃ (y6 y7 : Option V) (xs : List V) (vs : List Vr), σ = [some (.ref r), some (.ref pl), some (.int (st : Int)), some (.int mn), some (.ref rm), some (.ref D), y6, y7] ∧ Fr2 r rm H H' ∧ RD H' r ∧ H' rm = some (.lst [.int (a * prodZ (vs.map Vr.sz)), .int b]) ∧ H' D = some (.lst xs) ∧ DpAll K H' xs (vs.map Vr.d) ∧ vs.length ≤ i ∧ vs.map Vr.nm = pick ws st vs.length ∧ (∀ v ∈ vs, 2 ≤ v.sz ∧ v.sz ≤ 4) ∧ 1 ≤ a * prodZ (vs.map Vr.sz) ∧ a * prodZ (vs.map Vr.sz) ≤ b)
    ⟨_, _, [], [], rfl, (Fr2.new nD).trans (Fr2.of f1), R1, ?_, f1 _ _ nDr hD0, .nil, Nat.zero_le _, rfl, fun v hv => (nomatch hv), ?_, ?_⟩ ?_ ?_⟩
  · show H1 rm = some (.lst [.int (a * 1), .int b])
    rw [Int.mul_one]
    exact f1 _ _ nrm.symm (e0 _ _ hrm)
  · show 1 ≤ a * 1
    omega
  · show a * 1 ≤ b
    omega
  · rintro i σ H2 hi ⟨y6, y7, xs, vs, rfl, f2, R2, hrm2, hD2, hx2, lv, nv, sv, p1, pb⟩
    refine ⟨_, rfl, r, 3, rfl, R2, by decide, by decide, fun z H3 f3 R3 z0 z1 => ?_⟩
    refine ⟨_, _, rfl, rfl, ?_⟩
    have hrm3 := f3 _ _ nrm.symm hrm2
    have hD3 := f3 _ _ nDr hD2
    have hpl3 : H3 pl = some (.lst (ws.map V.str)) := f3 _ _ npl (f2 _ _ npl nplm hpl)
    have hx3 := dpa_f1 R2.l f3 1 (tup_vrs 0 vs) hx2
    have f23 := f2.trans (Fr2.of (m := rm) f3)
    have lx : xs.length = vs.length := by
      have := dpa_len hx3
      rwa [List.length_map] at this
    generalize hA : a * prodZ (vs.map Vr.sz) = A at hrm2 hrm3 p1 pb
    have mulb : A * (2 + z) ≤ 64 * 4 := Int.mul_le_mul (by omega) (by omega) (by omega) (by omega)
    have mul0 : 1 * 1 ≤ A * (2 + z) := Int.mul_le_mul p1 (by omega) (by omega) (by omega)
    refine ⟨_, rfl, rm, _, 0, _, rfl, rfl, SqL.of hrm3, dq0, _, rfl, _, _, rfl, rfl, .inl ⟨by omega, by omega⟩, _, rfl, rm, _, 1, _, rfl, rfl, SqL.of hrm3, dq1, _, _, rfl, rfl, _, rfl, ite2 (fun e => ?_) (fun e => ?_)⟩
    · have le := dec_t e
      refine ⟨_, rfl, rm, _, 0, _, rfl, rfl, SqL.of hrm3, dq0, _, rfl, _, _, rfl, rfl, .inl ⟨by omega, by omega⟩, _, rfl, rm, _, 0, 0, rfl, rfl, hrm3, rfl, ?_⟩
      have hD4 := (upd_ne (H := H3) (a := rm) (o := .lst [.int (A * (2 + z)), .int b]) nDm).trans hD3
      have hpl4 := (upd_ne (H := H3) (a := rm) (o := .lst [.int (A * (2 + z)), .int b]) nplm).trans hpl3
      have hrm4 := upd_same (H := H3) (a := rm) (o := .lst [.int (A * (2 + z)), .int b])
      have R4 : RD (upd H3 rm (.lst [.int (A * (2 + z)), .int b])) r := by
        obtain ⟨x1, x2, x3, x4⟩ := R3
        exact ⟨x1, x2, x3, (upd_ne nrm).trans x4⟩
      have hx4 := dpa_mut (o := .lst [.int (A * (2 + z)), .int b]) hrm3 1 (tup_vrs 0 vs) hx3
      have f24 := f23.trans (Fr2.upd (r := r) (m := rm) (o := .lst [.int (A * (2 + z)), .int b]))
      change Ends.nx _ _ (upd H3 rm (.lst [.int (A * (2 + z)), .int b]))
      generalize upd H3 rm (.lst [.int (A * (2 + z)), .int b]) = H4 at hD4 hpl4 hrm4 R4 hx4 f24 ⊢
      have hix : (st + vs.length) % ws.length < ws.length := Nat.mod_lt _ w1
      have emod : ((st : Int) + ((xs.length : Nat) : Int)) % (((ws.map V.str).length : Nat) : Int) = (((st + vs.length) % ws.length : Nat) : Int) := by
        rw [List.length_map, lx, ← Int.natCast_add]
        exact (Int.natCast_emod _ _).symm
      refine ⟨_, rfl, .inl ⟨rfl, _, SqL.of hD4⟩, _, rfl, _, rfl, _, rfl, D, xs, rfl, .inl (SqL.of hD4), _, _, rfl, rfl, .inl ⟨_, rfl, _, rfl, pl, _, rfl, .inl (SqL.of hpl4), _, _, rfl, rfl, by rw [List.length_map]; omega, ?_⟩⟩
      have hA' : a * prodZ ((vs ++ [⟨ws[(st + vs.length) % ws.length], 2 + z⟩] : List Vr).map Vr.sz) = A * (2 + z) := by
        rw [List.map_append, show ([⟨ws[(st + vs.length) % ws.length], 2 + z⟩] : List Vr).map Vr.sz = [2 + z] from rfl, prodZ_app, ← hA, Int.mul_assoc]
      refine ⟨pl, _, _, _, rfl, rfl, SqL.of hpl4, (by rw [emod]; exact atI_nat (map_at (List.getElem?_eq_getElem hix))), _, rfl, by show 2 ≤ sizeLine; decide, fun t nt => ?_⟩
      have e5 := same_new (o := .tup [.str ws[(st + vs.length) % ws.length], .int (2 + z)]) nt
      have hD5 := e5 _ _ hD4
      refine ⟨D, xs, _, rfl, rfl, hD5, small1000 (by omega), ?_⟩
      refine ⟨_, _, xs ++ [.ref t], vs ++ [⟨ws[(st + vs.length) % ws.length], 2 + z⟩], rfl, (f24.trans (Fr2.new nt)).mut nD, ?_, ?_, upd_same, ?_, ?_, ?_, fun v hv => ?_, ?_, ?_⟩
      · obtain ⟨x1, x2, x3, x4⟩ := R4.of e5
        exact ⟨x1, x2, x3, (upd_ne nDr.symm).trans x4⟩
      · rw [hA', upd_ne nDm.symm]
        exact e5 _ _ hrm4
      · rw [List.map_append]
        exact dpa_app (dpa_mut hD5 1 (tup_vrs 0 vs) (dpa_same e5 hx4)) (dp_mut hD5 1 (tup_vr 0 _) (.tup (SqT.of upd_same) (.cons (.str _) (.cons (.int _) .nil))))
      · rw [List.length_append]
        show vs.length + 1 ≤ i + 1
        omega
      · rw [List.map_append, nv, List.length_append]
        show _ = pick ws st (vs.length + 1)
        rw [pick_succ, List.getD_eq_getElem?_getD, List.getElem?_eq_getElem hix]
        rfl
      · rcases List.mem_append.mp hv with hv | hv
        · exact sv v hv
        · rcases List.mem_singleton.mp hv with rfl
          show 2 ≤ 2 + z ∧ 2 + z ≤ 4
          omega
      · rw [hA']
        omega
      · rw [hA']
        exact le
    · exact ⟨_, _, xs, vs, rfl, f23, R3, by rw [hA]; exact hrm3, hD3, hx3, by omega, nv, sv, by rw [hA]; exact p1, by rw [hA]; exact pb⟩
  · rintro σ H2 ⟨y6, y7, xs, vs, rfl, f2, R2, hrm2, hD2, hx2, lv, nv, sv, p1, pb⟩
    refine ⟨_, rfl, D, xs, rfl, .inl ⟨SqL.of hD2, fun t nt => ?_⟩⟩
    have e3 := same_new (o := .tup xs) nt
    refine q _ vs _ _ (f2.trans (Fr2.new nt)) (R2.of e3) (e3 _ _ hrm2) (.tup (SqT.of upd_same) (dpa_same e3 hx2)) ?_ nv sv rfl p1 pb
    omega


end
end Pf

namespace Pf
open PySem PySem.Spec PyProof.Rows L2
section
variable {P : Program} {w : World} {K : PySem.W.Frag} {mg : Str → Option Value} {base : Heap}
variable {c : Nat → Addr}
/-! ### the heads of a program, drawn -/
theorem foldl_mul (a : Int) : ∀ ns : List Int, ns.foldl (· * ·) a = a * prodZ ns
  | [] => (Int.mul_one a).symm
  | n :: ns => by
    have e : prodZ (n :: ns) = n * prodZ ns := by
      show ns.foldl (· * ·) (1 * n) = _
      rw [Int.one_mul, foldl_mul n ns]
    rw [List.foldl_cons, foldl_mul (a * n) ns, e, Int.mul_assoc]
theorem prodZ_cat (ns ms : List Int) : prodZ (ns ++ ms) = prodZ ns * prodZ ms := by
  show (ns ++ ms).foldl (· * ·) 1 = _
  rw [List.foldl_append, foldl_mul]
  rfl
theorem pick_len (ws : List Str) (st n : Nat) : (pick ws st n).length = n := by unfold pick; rw [List.length_map, List.length_range]
theorem pick_add (ws : List Str) (st n : Nat) : ∀ m, pick ws st (n + m) = pick ws st n ++ pick ws (st + n) m
  | 0 => by simp [pick]
  | m + 1 => by
    rw [← Nat.add_assoc, pick_succ, pick_add ws st n m, pick_succ, List.append_assoc, Nat.add_assoc]
theorem pick_mem {ws : List Str} {st n : Nat} (h : 1 ≤ ws.length) {z : Str} (m : z ∈ pick ws st n) : z ∈ ws := by
  unfold pick at m
  obtain ⟨j, _, rfl⟩ := List.mem_map.mp m
  have hi : (st + j) % ws.length < ws.length := Nat.mod_lt _ h
  rw [List.getD_eq_getElem?_getD, List.getElem?_eq_getElem hi]
  exact List.getElem_mem hi
theorem mod_inj {st i j n : Nat} (hi : i < n) (hj : j < n) (h : (st + i) % n = (st + j) % n) : i = j := by
  have key : ∀ {i j : Nat}, i ≤ j → j < n → (st + i) % n = (st + j) % n → i = j := fun {i j} le lt h => by
    have e : (st + j - (st + i)) % n = 0 := Nat.sub_mod_eq_zero_of_mod_eq h.symm
    have e2 : st + j - (st + i) = j - i := by omega
    rw [e2, Nat.mod_eq_of_lt (by omega)] at e
    omega
  rcases Nat.le_total i j with l | l
  · exact key l hj h
  · exact (key l hi h.symm).symm
theorem pick_nodup {ws : List Str} {st n : Nat} (nd : ws.Nodup) (l : n ≤ ws.length) : (pick ws st n).Nodup := by
  unfold pick
  rw [List.nodup_iff_pairwise_ne, List.pairwise_map]
  refine (List.nodup_range (n := n)).imp_of_mem fun {i j} hi hj hne e => hne ?_
  have hi := List.mem_range.mp hi
  have hj := List.mem_range.mp hj
  have li : (st + i) % ws.length < ws.length := Nat.mod_lt _ (by omega)
  have lj : (st + j) % ws.length < ws.length := Nat.mod_lt _ (by omega)
  rw [List.getD_eq_getElem?_getD, List.getElem?_eq_getElem li, List.getD_eq_getElem?_getD, List.getElem?_eq_getElem lj] at e
  exact mod_inj (by omega) (by omega) ((List.getElem_inj nd).mp e)
theorem pick_take {ws : List Str} {n : Nat} (l : n ≤ ws.length) : pick ws 0 n = ws.take n := by
  apply List.ext_getElem?
  intro i
  unfold pick
  rw [List.getElem?_map]
  by_cases hi : i < n
  · rw [List.getElem?_range hi, List.getElem?_take_of_lt hi]
    show some (ws.getD ((0 + i) % ws.length) Str.empty) = _
    rw [Nat.zero_add, Nat.mod_eq_of_lt (by omega), List.getD_eq_getElem?_getD, List.getElem?_eq_getElem (by omega)]
    rfl
  · rw [List.getElem?_eq_none (by rw [List.length_range]; omega), List.getElem?_eq_none (by rw [List.length_take]; omega)]
    rfl
/-- a procedure as the heads draw it: own are the names left, A the sights of the globals -/
structure PrGood (own : List Str) (A : Int) (p : Pr) : Prop where
  p3 : p.ps.length ≤ 3
  l3 : p.ls.length ≤ 3
  sk : p.bd = []
  nm : ∃ st, (p.ps ++ p.ls).map Vr.nm = pick own st (p.ps ++ p.ls).length
  sz : ∀ v ∈ p.ps ++ p.ls, 2 ≤ v.sz ∧ v.sz ≤ 4
  si : A * prodZ ((p.ps ++ p.ls).map Vr.sz) ≤ 64
theorem heads_ok {ws : List Str} {vs : List Vr} {prs : List Pr} {l a : Int} {f : Nat} (w12 : ws.length = 12) (wo : PoolOk ws) (l1 : 1 ≤ l) (l3 : l ≤ 3) (a2 : 2 ≤ a) (a4 : a ≤ 4) (v4 : vs.length ≤ 4) (vn : vs.map Vr.nm = pick ws 0 vs.length) (vz : ∀ v ∈ vs, 2 ≤ v.sz ∧ v.sz ≤ 4)
    (p1 : 1 ≤ prs.length) (p5 : prs.length ≤ 5) (pg : ∀ p ∈ prs, PrGood (ws.drop vs.length) (prodZ (vs.map Vr.sz)) p) (pm : ∀ p, prs[0]? = some p → p.ps = []) (pn : prs.map Pr.nm = pick ws f prs.length) : (⟨l, a, vs, prs⟩ : Pg).Ok := by
  have lo : (ws.drop vs.length).length = 12 - vs.length := by rw [List.length_drop, w12]
  have sc : ∀ p : Pr, scp vs p = vs ++ (p.ps ++ p.ls) := fun p => by unfold scp; rw [List.append_assoc]
  have vt : vs.map Vr.nm = ws.take vs.length := by rw [vn, pick_take (by omega)]
  have onm : ∀ p ∈ prs, ∀ z ∈ (p.ps ++ p.ls).map Vr.nm, z ∈ ws.drop vs.length := fun p hp z hz => by
    obtain ⟨st, e⟩ := (pg p hp).nm
    rw [e] at hz
    exact pick_mem (by omega) hz
  refine ⟨l1, l3, a2, a4, p1, p5, v4, fun p hp => (pg p hp).p3, fun p hp => (pg p hp).l3, fun p hp => ?_, fun p hp v hv => ?_, ?_, fun p hp => ?_, fun p hp v hv => ?_, fun p hp v hv => ?_, fun p hp => ?_, pm, ?_, fun p hp => ?_⟩
  · have m : p.nm ∈ prs.map Pr.nm := List.mem_map.mpr ⟨p, hp, rfl⟩
    rw [pn] at m
    exact wo.nm _ (pick_mem (by omega) m)
  · rw [sc] at hv
    rcases List.mem_append.mp hv with hv | hv
    · have m : v.nm ∈ vs.map Vr.nm := List.mem_map.mpr ⟨v, hv, rfl⟩
      rw [vt] at m
      exact wo.nm _ (List.mem_of_mem_take m)
    · exact wo.nm _ (List.mem_of_mem_drop (onm p hp _ (List.mem_map.mpr ⟨v, hv, rfl⟩)))
  · show (prs.map Pr.nm).Nodup
    rw [pn]
    exact pick_nodup wo.nd (by omega)
  · rw [sc, List.map_append]
    obtain ⟨st, e⟩ := (pg p hp).nm
    have lp := (pg p hp).p3
    have ll := (pg p hp).l3
    refine List.nodup_append.mpr ⟨?_, ?_, fun x hx y hy e0 => ?_⟩
    · rw [vt]
      exact wo.nd.sublist (List.take_sublist _ _)
    · rw [e]
      exact pick_nodup (wo.nd.sublist (List.drop_sublist _ _)) (by rw [lo, List.length_append]; omega)
    · rw [vt] at hx
      have hy := onm p hp y hy
      subst e0
      have nd := wo.nd
      rw [← List.take_append_drop vs.length ws] at nd
      exact (List.nodup_append.mp nd).2.2 x hx x hy rfl
  · rw [sc] at hv
    rcases List.mem_append.mp hv with hv | hv
    · exact (vz v hv).1
    · exact ((pg p hp).sz v hv).1
  · rw [sc] at hv
    rcases List.mem_append.mp hv with hv | hv
    · exact (vz v hv).2
    · exact ((pg p hp).sz v hv).2
  · rw [sc, List.map_append, prodZ_cat]
    exact (pg p hp).si
  · have e : ∀ ps' : List Pr, (∀ p ∈ ps', p.bd = []) → (ps'.map fun p => cntB p.bd).sum = 0 := fun ps' => by
      induction ps' with
      | nil => exact fun _ => rfl
      | cons p r ih =>
        intro h
        rw [List.map_cons, List.sum_cons, h p List.mem_cons_self, ih fun x hx => h x (List.mem_cons_of_mem _ hx), cntB]
    show (prs.map fun p => cntB p.bd).sum ≤ 60
    rw [e prs fun p hp => (pg p hp).sk]
    exact Nat.zero_le _
  · rw [(pg p hp).sk, allB]
    trivial
theorem Fr.keep2 {r m : Addr} {H H1 H2 : Hp} (a : Fr r H H1) (n : H m = none) (b : Fr2 r m H1 H2) : Fr r H H2 := fun x o h e => b x o h (ne_of_none e n) (a x o h e)


end
end Pf

namespace Pf
open PySem PySem.Spec PyProof.Rows L2
section
variable {P : Program} {w : World} {K : PySem.W.Frag} {mg : Str → Option Value} {base : Heap}
variable {c : Nat → Addr}
theorem tup_pr0 {nm : Str} {ps ls : List Vr} (l1 : ps.length ≤ 1000) (l2 : ls.length ≤ 1000) : tupOk 3 (Pr.d ⟨nm, ps, ls, []⟩) := tupQ (by show 4 ≤ 100000; decide) fun e he => by
  rcases List.mem_cons.mp he with rfl | he
  · exact (tupA 2).2 _
  rcases List.mem_cons.mp he with rfl | he
  · exact tup_vs 0 l1
  rcases List.mem_cons.mp he with rfl | he
  · exact tup_vs 0 l2
  rcases List.mem_singleton.mp he with rfl
  exact tupQ (by simp [stDs]) fun d hd => by
    have : stDs [] = [] := by simp [stDs]
    have hd' : d ∈ stDs [] := hd
    rw [this] at hd'
    exact nomatch hd'
theorem tup_prE {p : Pr} (e : p.bd = []) (l1 : p.ps.length ≤ 1000) (l2 : p.ls.length ≤ 1000) : tupOk 3 p.d := by
  obtain ⟨a, b, c, d⟩ := p
  cases e
  exact tup_pr0 l1 l2
theorem dl_vs {K : PySem.W.Frag} {H : Hp} {v : V} {vs : List Vr} (h : Dp K H v (.tuple (vs.map Vr.d))) : ∃ t xs, v = .ref t ∧ SqT K H t xs ∧ xs.length = vs.length := by
  obtain ⟨t, xs, rfl, hq, hk⟩ := dp_tup' h
  have := dpa_len hk
  rw [List.length_map] at this
  exact ⟨t, xs, rfl, hq, this⟩
def sp__law_heads (K : PySem.W.Frag) : Sp := fun us H Q _ => ∃ (r : Addr) (mo : Int), us = [.ref r, .int mo] ∧ RD H r ∧ 1 ≤ mo ∧ mo ≤ 64 ∧ ∀ (v : V) (g : Pg) (H' : Hp), Fr r H H' → RD H' r → g.Ok → (∀ p ∈ g.ps, p.bd = []) → Dp K H' v g.d → Q v H'
theorem ok__law_heads (T : Txt P K mg c) : Has P w K mg base 4 "_law_heads" ["reader", "most"] (sp__law_heads K) := by
  obtain ⟨f, fd, F, m, b⟩ := T.d__law_heads.ex
  obtain ⟨f__law_pool, fd__law_pool, G__law_pool, m__law_pool, k__law_pool, b__law_pool⟩ := ok__law_pool (P := P) (w := w) (base := base) T
  obtain ⟨f__law_next, fd__law_next, G__law_next, m__law_next, k__law_next, b__law_next⟩ := ok__law_next (P := P) (w := w) (base := base) T
  obtain ⟨f__law_declared, fd__law_declared, G__law_declared, m__law_declared, k__law_declared, b__law_declared⟩ := ok__law_declared (P := P) (w := w) (base := base) T
  refine ⟨f, fd, F.ok sc__law_heads (fun vs H Q E h => ?_) (fun cdv A outer s H vs Q E hr h => ?_), m, F.kp, b⟩
  · obtain ⟨r, mo, rfl, hR, m1, m64, q⟩ := h
    rfl
  obtain ⟨r, mo, rfl, hR, m1, m64, q⟩ := h
  refine ⟨_, (pss_cons (ps_set (i := 2) sc__law_heads.nd rfl (.inl rfl) (pe_call G__law_pool (hr.mono (by decide)) (by rfl) m__law_pool k__law_pool b__law_pool .nil pass0 (pa_cons (pv 0) pa_nil)))
      (pss_cons (ps_set (i := 3) sc__law_heads.nd rfl (.inl rfl) (pe_op op_add pe_int (pe_call G__law_next (hr.mono (by decide)) (by rfl) m__law_next k__law_next b__law_next .nil pass0 (pa_cons (pv 0) (pa_cons pe_int pa_nil)))))
      (pss_cons (ps_set (i := 4) sc__law_heads.nd rfl (.inl rfl) (pe_op op_add pe_int (pe_call G__law_next (hr.mono (by decide)) (by rfl) m__law_next k__law_next b__law_next .nil pass0 (pa_cons (pv 0) (pa_cons pe_int pa_nil)))))
      (pss_cons (ps_set (i := 5) sc__law_heads.nd rfl (.inl rfl) (pe_lst (pa_cons pe_int (pa_cons (pv 1) pa_nil))))
      (pss_cons (ps_set (i := 6) sc__law_heads.nd rfl (.inl rfl) (pe_call G__law_declared (hr.mono (by decide)) (by rfl) m__law_declared k__law_declared b__law_declared .nil pass0 (pa_cons (pv 0) (pa_cons (pv 2) (pa_cons pe_int (pa_cons (pe_ix ix_list (pe_lst (pa_cons pe_int (pa_cons pe_int (pa_cons pe_int (pa_cons pe_int pa_nil))))) (pe_call G__law_next (hr.mono (by decide)) (by rfl) m__law_next k__law_next b__law_next .nil pass0 (pa_cons (pv 0) (pa_cons pe_int pa_nil))) (fun _ _ => rfl)) (pa_cons (pv 5) pa_nil)))))))
      (pss_cons (ps_set (i := 7) sc__law_heads.nd rfl (.inl rfl) (pe_slice sl_list (pv 2) (po_some (pe_callB call_len_seq (by rfl) T.z_len (by decide +kernel) (pa_cons (pv 6) pa_nil))) po_none))
      (pss_cons (ps_set (i := 8) sc__law_heads.nd rfl (.inl rfl) (pe_call G__law_next (hr.mono (by decide)) (by rfl) m__law_next k__law_next b__law_next .nil pass0 (pa_cons (pv 0) (pa_cons pe_int pa_nil))))
      (pss_cons (ps_set (i := 9) sc__law_heads.nd rfl (.inl rfl) (pe_lst pa_nil))
      (pss_cons (ps_for PassesOwn.never rfl (pi_range1 (by rfl) T.z_range (pa_cons (pe_op op_add pe_int (pe_call G__law_next (hr.mono (by decide)) (by rfl) m__law_next k__law_next b__law_next .nil pass0 (pa_cons (pv 0) (pa_cons pe_int pa_nil)))) pa_nil)) (pg_name (i := 10) sc__law_heads.nd rfl (.inl rfl))
      (pss_cons (ps_set (i := 11) sc__law_heads.nd rfl (.inl rfl) (pe_lst (pa_cons (pe_ix ix_list (pv 5) pe_int (fun _ _ => rfl)) (pa_cons (pv 1) pa_nil))))
        (pss_cons (ps_set (i := 12) sc__law_heads.nd rfl (.inl rfl) (pe_call G__law_next (hr.mono (by decide)) (by rfl) m__law_next k__law_next b__law_next .nil pass0 (pa_cons (pv 0) (pa_cons (pe_callB call_len_seq (by rfl) T.z_len (by decide +kernel) (pa_cons (pv 7) pa_nil)) pa_nil))))
        (pss_cons (ps_set (i := 13) sc__law_heads.nd rfl (.inl rfl) (pe_tup pa_nil))
        (C8.pss_cut (ps_if (pt_cmpR op_gt (pv 10) pe_int (nomark _))
        (pss_one (ps_set (i := 13) sc__law_heads.nd rfl (.inl rfl) (pe_call G__law_declared (hr.mono (by decide)) (by rfl) m__law_declared k__law_declared b__law_declared .nil pass0 (pa_cons (pv 0) (pa_cons (pv 7) (pa_cons (pv 12) (pa_cons pe_int (pa_cons (pv 11) pa_nil))))))))
        pss_nil)
        (pss_cons (ps_set (i := 14) sc__law_heads.nd rfl (.inl rfl) (pe_call G__law_declared (hr.mono (by decide)) (by rfl) m__law_declared k__law_declared b__law_declared .nil pass0 (pa_cons (pv 0) (pa_cons (pv 7) (pa_cons (pe_op op_add (pv 12) (pe_callB call_len_seq (by rfl) T.z_len (by decide +kernel) (pa_cons (pv 13) pa_nil))) (pa_cons pe_int (pa_cons (pv 11) pa_nil)))))))
        (pss_one (ps_expr (pe_bm PySem.F.plainAttrs_list PySem.F.slot_list_append PySem.F.type_list_append mt_append (pv 9) (pa_cons (pe_tup (pa_cons (pe_ix ix_list (pv 2) (pe_op op_mod (pe_callTy call_int1 (by rfl) T.z_int (by decide +kernel) (pa_cons (pe_op op_add (pv 8) (pv 10)) pa_nil)) pe_int) (fun _ _ => rfl)) (pa_cons (pv 13) (pa_cons (pv 14) (pa_cons (pe_tup pa_nil) pa_nil))))) pa_nil))))))))))
      (pss_one (ps_ret (pe_tup (pa_cons (pv 3) (pa_cons (pv 4) (pa_cons (pv 6) (pa_cons (pe_callTy call_tuple_of (by rfl) T.z_tuple (by decide +kernel) (pa_cons (pv 9) pa_nil)) pa_nil)))))))))))))))), ?_⟩
  refine ⟨_, rfl, r, rfl, hR, fun P ws H1 f1 R1 nP hP l12 wo => ?_⟩
  have nPr : P ≠ r := hR.ne nP
  refine ⟨_, rfl, r, 3, rfl, R1, by decide, by decide, fun v2 H2 f2 R2 a0 a1 => ⟨_, _, rfl, rfl, ?_⟩⟩
  refine ⟨_, rfl, r, 3, rfl, R2, by decide, by decide, fun v3 H3 f3 R3 b0 b1 => ⟨_, _, rfl, rfl, ?_⟩⟩
  have hP3 := f3 _ _ nPr (f2 _ _ nPr hP)
  have f13 := f1.trans (f2.trans f3)
  -- room
  refine ⟨_, rfl, by show 2 ≤ sizeLine; decide, fun rm nrm => ?_⟩
  have e4 := same_new (o := .lst [.int 1, .int mo]) nrm
  have hrm4 := upd_same (H := H3) (a := rm) (o := .lst [.int 1, .int mo])
  have hP4 := e4 _ _ hP3
  have f14 := f13.trans (Fr.of e4)
  have R4 := R3.of e4
  have nrmr : rm ≠ r := R3.ne nrm
  have nrmP : rm ≠ P := (ne_of_none hP3 nrm).symm
  have nrmH : H rm = none := f13.free hR R3 nrm
  generalize upd H3 rm (.lst [.int 1, .int mo]) = H4 at hrm4 hP4 f14 R4 ⊢
  -- shared
  refine ⟨_, rfl, _, rfl, by show 4 ≤ sizeLine; decide, fun ld nld => ?_⟩
  have e5 := same_new (o := .lst [.int 0, .int 1, .int 2, .int 4]) nld
  have hld := upd_same (H := H4) (a := ld) (o := .lst [.int 0, .int 1, .int 2, .int 4])
  have nldr : ld ≠ r := R4.ne nld
  refine ⟨_, rfl, r, 4, rfl, R4.of e5, by decide, by decide, fun z H5 f5 R5 z0 z1 => ?_⟩
  obtain ⟨mn, hmn, n0, n4⟩ : ∃ mn : Int, atI [V.int 0, V.int 1, V.int 2, V.int 4] z = some (.int mn) ∧ 0 ≤ mn ∧ mn ≤ 4 := by
    obtain ⟨n, rfl⟩ := Int.eq_ofNat_of_zero_le z0
    obtain _ | _ | _ | _ | n := n
    · exact ⟨0, atI_nat rfl, by decide, by decide⟩
    · exact ⟨1, atI_nat rfl, by decide, by decide⟩
    · exact ⟨2, atI_nat rfl, by decide, by decide⟩
    · exact ⟨4, atI_nat rfl, by decide, by decide⟩
    · omega
  have f45 := (Fr.of e5).trans f5
  refine ⟨ld, _, _, _, rfl, rfl, SqL.of (f5 _ _ nldr hld), hmn, _, rfl, ?_⟩
  have hP5 := f45 _ _ nPr hP4
  have hrm5 := f45 _ _ nrmr hrm4
  have f15 := f14.trans f45
  refine ⟨r, P, rm, ws, 0, mn, 1, mo, rfl, R5, hP5, hrm5, by omega, by omega, by decide, n0, n4, by decide, by decide, m64, m1, fun sh vs A H6 g6 R6 hrm6 hsh lvs nvs svs eA A1 Am => ?_⟩
  obtain rfl : A = prodZ (vs.map Vr.sz) := by rw [eA, Int.one_mul]
  have v4 : vs.length ≤ 4 := by omega
  have hP6 := g6 _ _ nPr nrmP.symm hP5
  have f16 := f15.keep2 nrmH g6
  have tshv := tup_vrs 0 vs
  have tsh : tupOk 2 (.tuple (vs.map Vr.d)) := tup_vs 0 (by omega)
  -- own
  obtain ⟨ts, xs, rfl, hts, lts⟩ := dl_vs hsh
  refine ⟨_, rfl, _, rfl, ts, xs, rfl, .inr hts, ((xs.length : Nat) : Int), rfl, P, _, rfl, SqL.of hP6, fun O nO => ?_⟩
  rw [show cutV (ws.map V.str) (some ((xs.length : Nat) : Int)) none = (ws.drop vs.length).map V.str from by rw [cut_from, lts, List.map_drop]]
  have e7 := same_new (o := .lst ((ws.drop vs.length).map V.str)) nO
  have hO7 := upd_same (H := H6) (a := O) (o := .lst ((ws.drop vs.length).map V.str))
  have hP7 := e7 _ _ hP6
  have hrm7 := e7 _ _ hrm6
  have hsh7 := dp_same e7 hsh
  have f17 := f16.trans (Fr.of e7)
  have R7 := R6.of e7
  have nOr : O ≠ r := R6.ne nO
  have nOP : O ≠ P := (ne_of_none hP6 nO).symm
  have nOrm : O ≠ rm := (ne_of_none hrm6 nO).symm
  generalize upd H6 O (.lst ((ws.drop vs.length).map V.str)) = H7 at hO7 hP7 hrm7 hsh7 f17 R7 ⊢
  -- first
  refine ⟨_, rfl, r, 12, rfl, R7, by decide, by decide, fun fi H8 f8 R8 fi0 fi1 => ?_⟩
  have hO8 := f8 _ _ nOr hO7
  have hP8 := f8 _ _ nPr hP7
  have hrm8 := f8 _ _ nrmr hrm7
  have hsh8 := dp_f1 R7.l f8 2 tsh hsh7
  have f18 := f17.trans f8
  -- procedures
  refine ⟨by show 0 ≤ sizeLine; decide, fun D nD => ?_⟩
  have e9 := same_new (o := .lst []) nD
  have hD9 := upd_same (H := H8) (a := D) (o := .lst [])
  have hO9 := e9 _ _ hO8
  have hP9 := e9 _ _ hP8
  have hrm9 := e9 _ _ hrm8
  have hsh9 := dp_same e9 hsh8
  have f19 := f18.trans (Fr.of e9)
  have R9 := R8.of e9
  have nDr : D ≠ r := R8.ne nD
  have nDP : D ≠ P := (ne_of_none hP8 nD).symm
  have nDO : D ≠ O := (ne_of_none hO8 nD).symm
  have nDrm : D ≠ rm := (ne_of_none hrm8 nD).symm
  have nDH : H D = none := f18.free hR R8 nD
  generalize upd H8 D (.lst []) = H9 at hD9 hO9 hP9 hrm9 hsh9 f19 R9 ⊢
  obtain ⟨fn, rfl⟩ := Int.eq_ofNat_of_zero_le fi0
  have lo : (ws.drop vs.length).length = 12 - vs.length := by rw [List.length_drop, l12]
  -- for k in range(..)
  refine ⟨_, rfl, r, 5, rfl, R9, by decide, by decide, fun cn H10 f10 R10 cn0 cn1 => ⟨_, _, rfl, rfl, 1 + cn, rfl, by omega, by omega, ?_⟩⟩
  refine for_range (fun i σ H' => ∃ (y10 y11 y12 y13 y14 : Option V) (zs : List V) (prs : List Pr), σ = [some (.ref r), some (.int mo), some (.ref P), some (.int (1 + v2)), some (.int (2 + v3)), some (.ref rm), some (.ref ts), some (.ref O), some (.int ((fn : Nat) : Int)), some (.ref D), y10, y11, y12, y13, y14] ∧ Fr r H H' ∧ RD H' r ∧ H' P = some (.lst (ws.map V.str)) ∧ H' O = some (.lst ((ws.drop vs.length).map V.str)) ∧ H' rm = some (.lst [.int (prodZ (vs.map Vr.sz)), .int mo]) ∧ Dp K H' (.ref ts) (.tuple (vs.map Vr.d)) ∧ H' D = some (.lst zs) ∧ DpAll K H' zs (prs.map Pr.d) ∧ prs.length = i ∧ (∀ p ∈ prs, PrGood (ws.drop vs.length) (prodZ (vs.map Vr.sz)) p) ∧ (∀ p, prs[0]? = some p → p.ps = []) ∧ prs.map Pr.nm = pick ws fn prs.length)
    ⟨_, _, _, _, _, [], [], rfl, f19.trans f10, R10, f10 _ _ nPr hP9, f10 _ _ nOr hO9, f10 _ _ nrmr hrm9, dp_f1 R9.l f10 2 tsh hsh9, f10 _ _ nDr hD9, .nil, rfl, fun p hp => (nomatch hp), fun p hp => (nomatch hp), rfl⟩ ?_ ?_
  · rintro i σ H11 hi ⟨y10, y11, y12, y13, y14, zs, prs, rfl, f11, R11, hP11, hO11, hrm11, hsh11, hD11, hz11, lp, pg, pm, pn⟩
    have tz : ∀ d ∈ prs.map Pr.d, tupOk 3 d := fun d hd => by
      obtain ⟨p, hp, rfl⟩ := List.mem_map.mp hd
      have := (pg p hp).p3
      have := (pg p hp).l3
      exact tup_prE (pg p hp).sk (by omega) (by omega)
    have own1 : 1 ≤ (ws.drop vs.length).length := by omega
    have own12 : (ws.drop vs.length).length ≤ 12 := by omega
    generalize hA : prodZ (vs.map Vr.sz) = A at hrm11 A1 Am pg
    generalize hOW : ws.drop vs.length = OW at hO11 own1 own12 pg lo
    have i5 : i < 5 := by
      have : i < (1 + cn).toNat := hi
      omega
    -- left
    refine ⟨_, rfl, rm, _, 0, _, rfl, rfl, SqL.of hrm11, dq0, _, rfl, by show 2 ≤ sizeLine; decide, fun lf nlf => ?_⟩
    have e12 := same_new (o := .lst [.int A, .int mo]) nlf
    have hlf12 := upd_same (H := H11) (a := lf) (o := .lst [.int A, .int mo])
    have nlfr : lf ≠ r := R11.ne nlf
    have nlfP : lf ≠ P := (ne_of_none hP11 nlf).symm
    have nlfO : lf ≠ O := (ne_of_none hO11 nlf).symm
    have nlfrm : lf ≠ rm := (ne_of_none hrm11 nlf).symm
    have nlfD : lf ≠ D := (ne_of_none hD11 nlf).symm
    have nlfH : H lf = none := f11.free hR R11 nlf
    -- start
    refine ⟨_, rfl, _, rfl, O, _, rfl, .inl (SqL.of (e12 _ _ hO11)), r, _, rfl, R11.of e12, by rw [List.length_map]; omega, by rw [List.length_map]; omega, fun st H13 f13' R13 st0 st1 => ?_⟩
    rw [List.length_map] at st1
    obtain ⟨sn, rfl⟩ := Int.eq_ofNat_of_zero_le st0
    have k13 := (Fr.of e12).trans f13'
    have hlf13 := f13' _ _ nlfr hlf12
    have hP13 := k13 _ _ nPr hP11
    have hO13 := k13 _ _ nOr hO11
    have hrm13 := k13 _ _ nrmr hrm11
    have hD13 := k13 _ _ nDr hD11
    have hsh13 := dp_f1 R11.l k13 2 tsh hsh11
    have hz13 := dpa_f1 R11.l k13 3 tz hz11
    have f113 := f11.trans k13
    -- passed
    refine ⟨by show 0 ≤ sizeLine; decide, fun tp ntp => ?_⟩
    have e14 := same_new (o := .tup []) ntp
    refine ⟨fun σ' H' => ∃ (pv : V) (ps : List Vr) (y14 : Option V) (a' : Int), σ' = [some (.ref r), some (.int mo), some (.ref P), some (.int (1 + v2)), some (.int (2 + v3)), some (.ref rm), some (.ref ts), some (.ref O), some (.int ((fn : Nat) : Int)), some (.ref D), some (.int (0 + (i : Int))), some (.ref lf), some (.int ((sn : Nat) : Int)), some pv, y14] ∧ Fr r H H' ∧ RD H' r ∧ H' P = some (.lst (ws.map V.str)) ∧ H' O = some (.lst (OW.map V.str)) ∧ H' rm = some (.lst [.int A, .int mo]) ∧ Dp K H' (.ref ts) (.tuple (vs.map Vr.d)) ∧ H' D = some (.lst zs) ∧ DpAll K H' zs (prs.map Pr.d) ∧
      H' lf = some (.lst [.int a', .int mo]) ∧ Dp K H' pv (.tuple (ps.map Vr.d)) ∧ ps.length ≤ 3 ∧ ps.map Vr.nm = pick OW sn ps.length ∧ (∀ v ∈ ps, 2 ≤ v.sz ∧ v.sz ≤ 4) ∧ a' = A * prodZ (ps.map Vr.sz) ∧ 1 ≤ a' ∧ a' ≤ mo ∧ (i = 0 → ps = []), ?_, ?_⟩
    · refine ⟨_, rfl, _, _, rfl, rfl, _, rfl, ite2 (fun e => ?_) (fun e => ?_)⟩
      · have ipos := dec_t e
        refine ⟨_, rfl, _, rfl, _, rfl, _, rfl, ?_⟩
        refine ⟨r, O, lf, OW, sn, 3, A, mo, rfl, R13.of e14, e14 _ _ hO13, e14 _ _ hlf13, own1, own12, by omega, by decide, by decide, A1, by omega, m64, Am, fun t ps a' H15 g15 R15 hlf15 hps lps nps sps ea a1' am' => ?_⟩
        have g := (Fr2.of (m := lf) (Fr.of e14)).trans g15
        exact ⟨t, ps, _, a', rfl, f113.keep2 nlfH g, R15, g _ _ nPr nlfP.symm hP13, g _ _ nOr nlfO.symm hO13, g _ _ nrmr nlfrm.symm hrm13, dp_f2 R13.l ⟨_, hlf13⟩ g 2 tsh hsh13, g _ _ nDr nlfD.symm hD13, dpa_f2 R13.l ⟨_, hlf13⟩ g 3 tz hz13, hlf15, hps, by omega, nps, sps, ea, a1', am', fun e => by omega⟩
      · have i0 := dec_f e
        refine ⟨.ref tp, [], _, A, rfl, f113.trans (Fr.of e14), R13.of e14, e14 _ _ hP13, e14 _ _ hO13, e14 _ _ hrm13, dp_same e14 hsh13, e14 _ _ hD13, dpa_same e14 hz13, e14 _ _ hlf13, .tup (SqT.of upd_same) .nil, Nat.zero_le _, rfl, fun v hv => (nomatch hv), ?_, A1, Am, fun _ => rfl⟩
        show A = A * 1
        rw [Int.mul_one]
    rintro σ' H15 ⟨pv, ps, y14, a', rfl, f15', R15, hP15, hO15, hrm15, hsh15, hD15, hz15, hlf15, hps15, lps, nps, sps, ea, a1', am', i0⟩
    obtain ⟨tpa, pxs, rfl, hpt, lpt⟩ := dl_vs hps15
    -- held
    refine ⟨_, rfl, _, rfl, _, rfl, _, rfl, tpa, pxs, rfl, .inr hpt, _, _, rfl, rfl, _, rfl, ?_⟩
    refine ⟨r, O, lf, OW, sn + pxs.length, 3, a', mo, rfl, R15, hO15, hlf15, own1, own12, by omega, by decide, by decide, a1', by omega, m64, am', fun hv ls b' H16 g16 R16 hlf16 hls lls nls sls eb b1 bm => ?_⟩
    rw [lpt] at nls
    have tps : tupOk 2 (.tuple (ps.map Vr.d)) := tup_vs 0 (by omega)
    have hP16 := g16 _ _ nPr nlfP.symm hP15
    have hO16 := g16 _ _ nOr nlfO.symm hO15
    have hrm16 := g16 _ _ nrmr nlfrm.symm hrm15
    have hD16 := g16 _ _ nDr nlfD.symm hD15
    have hsh16 := dp_f2 R15.l ⟨_, hlf15⟩ g16 2 tsh hsh15
    have hz16 := dpa_f2 R15.l ⟨_, hlf15⟩ g16 3 tz hz15
    have hps16 := dp_f2 R15.l ⟨_, hlf15⟩ g16 2 tps hps15
    have f16' := f15'.keep2 nlfH g16
    -- procedures.append
    have hix : (fn + i) % 12 < ws.length := by omega
    have emod : (((fn : Nat) : Int) + (0 + (i : Int))) % 12 = (((fn + i) % 12 : Nat) : Int) := by omega
    refine ⟨_, rfl, .inl ⟨rfl, _, SqL.of hD16⟩, _, rfl, _, rfl, _, rfl, _, _, rfl, rfl, .inl ⟨_, rfl, _, _, rfl, rfl, (show (0 : Int) < 12 by decide), ?_⟩⟩
    refine ⟨P, _, _, _, rfl, rfl, SqL.of hP16, (by rw [emod]; exact atI_nat (map_at (List.getElem?_eq_getElem hix))), _, rfl, _, rfl, by show 0 ≤ sizeLine; decide, fun te nte => ⟨by show 4 ≤ sizeLine; decide, fun t nt => ?_⟩⟩
    have k1 := same_new (o := .tup []) nte
    have k2 := k1.trans (same_new (o := .tup [.str ws[(fn + i) % 12], .ref tpa, hv, .ref te]) nt)
    have hD18 := k2 _ _ hD16
    refine ⟨D, zs, _, rfl, rfl, hD18, small1000 (by have := dpa_len hz16; rw [List.length_map] at this; omega), ?_⟩
    have R18 := R16.of k2
    have tnew : tupOk 3 (Pr.d ⟨ws[(fn + i) % 12], ps, ls, []⟩) := tup_pr0 (by show ps.length ≤ 1000; omega) (by show ls.length ≤ 1000; omega)
    have nprs : prs.length = i := lp
    refine ⟨_, _, _, _, _, zs ++ [.ref t], prs ++ [⟨ws[(fn + i) % 12], ps, ls, []⟩], rfl, (f16'.trans (Fr.of k2)).mut nDH, ?_, (upd_ne nDP.symm).trans (k2 _ _ hP16), (upd_ne nDO.symm).trans (k2 _ _ hO16), (upd_ne nDrm.symm).trans (k2 _ _ hrm16), dp_mut hD18 2 tsh (dp_same k2 hsh16), upd_same, ?_, by rw [List.length_append, lp]; rfl, fun p hp => ?_, fun p hp => ?_, ?_⟩
    · obtain ⟨x1, x2, x3, x4⟩ := R18
      exact ⟨x1, x2, x3, (upd_ne nDr.symm).trans x4⟩
    · rw [List.map_append]
      refine dpa_app (dpa_mut hD18 3 tz (dpa_same k2 hz16)) (dp_mut hD18 3 tnew ?_)
      exact .tup (SqT.of upd_same) (.cons (.str _) (.cons (dp_same k2 hps16) (.cons (dp_same k2 hls) (.cons (.tup (SqT.of (same_new nt _ _ upd_same)) .nil) .nil))))
    · rcases List.mem_append.mp hp with hp | hp
      · exact pg p hp
      · rcases List.mem_singleton.mp hp with rfl
        refine ⟨lps, by show ls.length ≤ 3; omega, rfl, ⟨sn, ?_⟩, fun v hv => ?_, ?_⟩
        · show (ps ++ ls).map Vr.nm = pick OW sn (ps ++ ls).length
          rw [List.map_append, nps, nls, List.length_append, pick_add]
        · rcases List.mem_append.mp hv with hv | hv
          · exact sps v hv
          · exact sls v hv
        · show A * prodZ ((ps ++ ls).map Vr.sz) ≤ 64
          rw [List.map_append, prodZ_cat, ← Int.mul_assoc, ← ea, ← eb]
          omega
    · by_cases e0 : i = 0
      · subst e0
        obtain rfl : prs = [] := List.length_eq_zero_iff.mp nprs
        cases hp
        exact i0 rfl
      · rw [List.getElem?_append_left (by omega)] at hp
        exact pm p hp
    · rw [List.map_append, pn, List.length_append]
      show _ = pick ws fn (prs.length + 1)
      rw [pick_succ, nprs, l12, List.getD_eq_getElem?_getD, List.getElem?_eq_getElem hix]
      rfl
  · rintro σ H11 ⟨y10, y11, y12, y13, y14, zs, prs, rfl, f11, R11, hP11, hO11, hrm11, hsh11, hD11, hz11, lp, pg, pm, pn⟩
    refine ⟨_, rfl, _, rfl, _, rfl, _, rfl, D, zs, rfl, .inl ⟨SqL.of hD11, fun dq1 m1 => ⟨by show 4 ≤ sizeLine; decide, fun t2 m2 => ?_⟩⟩⟩
    have k1 := same_new (o := .tup zs) m1
    have k2 := k1.trans (same_new (o := .tup [.int (1 + v2), .int (2 + v3), .ref ts, .ref dq1]) m2)
    have lp' : prs.length = (1 + cn).toNat := lp
    refine q _ ⟨1 + v2, 2 + v3, vs, prs⟩ _ (f11.trans (Fr.of k2)) (R11.of k2) (heads_ok l12 wo (by omega) (by omega) (by omega) (by omega) v4 nvs svs (by omega) (by omega) pg pm pn) (fun p hp => (pg p hp).sk) ?_
    exact .tup (SqT.of upd_same) (.cons (.int _) (.cons (.int _) (.cons (dp_same k2 hsh11) (.cons (.tup (SqT.of (same_new m2 _ _ upd_same)) (dpa_same k2 hz11)) .nil))))


end
end Pf

namespace Pf
open PySem PySem.Spec PyProof.Rows L2
section
variable {P : Program} {w : World} {K : PySem.W.Frag} {mg : Str → Option Value} {base : Heap}
variable {c : Nat → Addr}
theorem slA_ok {K : PySem.W.Frag} {H : Hp} {a : Addr} {xs : List V} {lo hi : Option Int} {Q : VK} (h : SqT K H a xs) (q : ∀ r H', Same H H' → SqT K H' r (cutV xs lo hi) → Q (.ref r) H') : rSlA K (.ref a) lo hi H Q := by
  refine ⟨a, xs, rfl, h, fun e => q a H (Same.refl H) ?_, fun _ p np => q p _ (same_new np) (SqT.of upd_same)⟩
  have : cutV xs lo hi = xs := by
    unfold cutV
    rw [e.1, e.2, List.drop_zero, Nat.sub_zero, List.take_length]
  rw [this]
  exact h
theorem dpa_take {K : PySem.W.Frag} {H : Hp} : ∀ {xs : List V} {ds : List PyData} (n : Nat), DpAll K H xs ds → DpAll K H (xs.take n) (ds.take n)
  | _, _, _, .nil => by rw [List.take_nil, List.take_nil]; exact .nil
  | _, _, 0, .cons _ _ => by rw [List.take_zero, List.take_zero]; exact .nil
  | _, _, n + 1, .cons h k => .cons h (dpa_take n k)
theorem dpa_drop {K : PySem.W.Frag} {H : Hp} : ∀ {xs : List V} {ds : List PyData} (n : Nat), DpAll K H xs ds → DpAll K H (xs.drop n) (ds.drop n)
  | _, _, _, .nil => by rw [List.drop_nil, List.drop_nil]; exact .nil
  | _, _, 0, .cons h k => .cons h k
  | _, _, n + 1, .cons _ k => dpa_drop n k
theorem dpa_get' {K : PySem.W.Frag} {H : Hp} : ∀ {xs : List V} {ds : List PyData} {i : Nat} {d : PyData}, DpAll K H xs ds → ds[i]? = some d → ∃ x, xs[i]? = some x ∧ Dp K H x d
  | _, _, _, _, .nil, h => by simp at h
  | _, _, 0, _, .cons h _, e => by
    cases e
    exact ⟨_, rfl, h⟩
  | _, _, i + 1, _, .cons _ k, e => dpa_get' (i := i) k e
def putD (ds : List PyData) (k : Nat) (d : PyData) : List PyData := (ds.take k ++ [d]) ++ ds.drop (k + 1)
def sp__law_put (K : PySem.W.Frag) : Sp := fun us H Q _ => ∃ (v x : V) (ds : List PyData) (k : Nat) (d : PyData), us = [v, .int (k : Int), x] ∧ Dp K H v (.tuple ds) ∧ Dp K H x d ∧ ds.length ≤ 1000 ∧ k ≤ 1000 ∧ ∀ w H', Same H H' → Dp K H' w (.tuple (putD ds k d)) → Q w H'
theorem ok__law_put (T : Txt P K mg c) : Has P w K mg base 1 "_law_put" ["row", "k", "part"] (sp__law_put K) := by
  obtain ⟨f, fd, F, m, b⟩ := T.d__law_put.ex
  refine ⟨f, fd, F.ok sc__law_put (fun vs H Q E h => ?_) (fun cdv A outer s H vs Q E hr h => ?_), m, F.kp, b⟩
  · obtain ⟨v, x, ds, k, d, rfl, hv, hx, l1, l2, q⟩ := h
    rfl
  obtain ⟨v, x, ds, k, d, rfl, hv, hx, l1, l2, q⟩ := h
  refine ⟨_, (pss_one (ps_ret (pe_op op_catA (pe_op op_catA (pe_slice sl_tupA (pv 0) po_none (po_some (pv 1))) (pe_tup (pa_cons (pv 2) pa_nil))) (pe_slice sl_tupA (pv 0) (po_some (pe_op op_add (pv 1) pe_int)) po_none)))), ?_⟩
  obtain ⟨a, xs, rfl, hq, hk⟩ := dp_tup' hv
  have lx := dpa_len hk
  refine ⟨_, rfl, _, rfl, (k : Int), rfl, slA_ok hq fun r1 H1 s1 h1 => ?_⟩
  rw [cut_to] at h1
  refine ⟨_, rfl, by show 1 ≤ sizeLine; decide, fun t nt => ?_⟩
  have s2 := s1.trans (same_new (o := .tup [x]) nt)
  have h1' := seqT_same (same_new (o := .tup [x]) nt) h1
  refine catA_ok h1' (SqT.of upd_same) (line_small (by rw [List.length_take]; show min k xs.length + 1 ≤ _; omega)) fun r2 H3 s3 h3 => ?_
  have s23 := s2.trans s3
  refine ⟨_, rfl, _, rfl, _, _, rfl, rfl, _, rfl, ?_⟩
  unfold tNoPart
  refine slA_ok (seqT_same s23 hq) fun r3 H4 s4 h4 => ?_
  have e : cutV xs (some ((k : Int) + 1)) none = xs.drop (k + 1) := cut_from xs (k + 1)
  have h4' : SqT K H4 r3 (xs.drop (k + 1)) := e ▸ h4
  refine catA_ok (seqT_same s4 h3) h4' (line_small (by rw [List.length_append, List.length_take, List.length_drop]; show min k xs.length + 1 + (xs.length - (k + 1)) ≤ _; omega)) fun r4 H5 s5 h5 => ?_
  have s25 := (s23.trans s4).trans s5
  refine q _ _ s25 (.tup h5 (dpa_cat (dpa_cat (dpa_take k (dpa_same s25 hk)) (.cons (dp_same s25 hx) .nil)) (dpa_drop (k + 1) (dpa_same s25 hk))))
theorem putD_set {ds : List PyData} {k : Nat} {d : PyData} (h : k < ds.length) : putD ds k d = ds.set k d := by
  unfold putD
  rw [List.set_eq_take_append_cons_drop, if_pos h, List.append_assoc]
  rfl
def Pr.setB (p : Pr) (b : List St) : Pr := ⟨p.nm, p.ps, p.ls, b⟩
def Pg.setB (g : Pg) (k : Nat) (p : Pr) (b : List St) : Pg := ⟨g.l, g.a, g.vs, g.ps.set k (p.setB b)⟩
theorem setB_d (g : Pg) {k : Nat} {p : Pr} (e : g.ps[k]? = some p) (b : List St) : PyData.tuple (putD [.int g.l, .int g.a, .tuple (g.vs.map Vr.d), .tuple (g.ps.map Pr.d)] 3 (.tuple (putD (g.ps.map Pr.d) k (.tuple (putD [.str p.nm, .tuple (p.ps.map Vr.d), .tuple (p.ls.map Vr.d), .tuple (stDs p.bd)] 3 (.tuple (stDs b))))))) = (g.setB k p b).d := by
  show PyData.tuple [.int g.l, .int g.a, .tuple (g.vs.map Vr.d), .tuple (putD (g.ps.map Pr.d) k (p.setB b).d)] = _
  rw [putD_set (by rw [List.length_map]; exact (List.getElem?_eq_some_iff.mp e).1), ← List.map_set]
  rfl
def sp__law_headed (K : PySem.W.Frag) : Sp := fun us H Q _ => ∃ (v x : V) (g : Pg) (k : Nat) (p : Pr) (b : List St), us = [v, .int (k : Nat), .int 3, x] ∧ Dp K H v g.d ∧ Dp K H x (.tuple (stDs b)) ∧ g.ps[k]? = some p ∧ g.ps.length ≤ 5 ∧ ∀ w H', Same H H' → Dp K H' w (g.setB k p b).d → Q w H'
theorem ok__law_headed (T : Txt P K mg c) : Has P w K mg base 2 "_law_headed" ["parts", "number", "part", "thing"] (sp__law_headed K) := by
  obtain ⟨f, fd, F, m, b⟩ := T.d__law_headed.ex
  obtain ⟨f__law_put, fd__law_put, G__law_put, m__law_put, k__law_put, b__law_put⟩ := ok__law_put (P := P) (w := w) (base := base) T
  refine ⟨f, fd, F.ok sc__law_headed (fun vs H Q E h => ?_) (fun cdv A outer s H vs Q E hr h => ?_), m, F.kp, b⟩
  · obtain ⟨v, x, g, k, p, b, rfl, hv, hx, ep, o5, q⟩ := h
    rfl
  obtain ⟨v, x, g, k, p, b, rfl, hv, hx, ep, o5, q⟩ := h
  refine ⟨_, (pss_one (ps_ret (pe_call G__law_put (hr.mono (by decide)) (by rfl) m__law_put k__law_put b__law_put .nil pass0 (pa_cons (pv 0) (pa_cons pe_int (pa_cons (pe_call G__law_put (hr.mono (by decide)) (by rfl) m__law_put k__law_put b__law_put .nil pass0 (pa_cons (pe_ix ix_tup (pv 0) pe_int (fun _ _ => rfl)) (pa_cons (pv 1) (pa_cons (pe_call G__law_put (hr.mono (by decide)) (by rfl) m__law_put k__law_put b__law_put .nil pass0 (pa_cons (pe_ix ix_tup (pe_ix ix_tup (pv 0) pe_int (fun _ _ => rfl)) (pv 1) (fun _ _ => rfl)) (pa_cons (pv 2) (pa_cons (pv 3) pa_nil)))) pa_nil)))) pa_nil)))))), ?_⟩
  have hv' : Dp K H v (.tuple [.int g.l, .int g.a, .tuple (g.vs.map Vr.d), .tuple (g.ps.map Pr.d)]) := hv
  have hk5 := (List.getElem?_eq_some_iff.mp ep).1
  obtain ⟨a, xs, rfl, hq, hk⟩ := dp_tup' hv'
  obtain ⟨x3, e3, h3⟩ := dpa_get' hk (i := 3) rfl
  obtain ⟨a3, xs3, rfl, hq3, hk3⟩ := dp_tup' h3
  obtain ⟨x0, e0, h0⟩ := dpa_get' hk3 (i := k) (d := p.d) (by rw [List.getElem?_map, ep]; rfl)
  have h0' : Dp K H x0 (.tuple [.str p.nm, .tuple (p.ps.map Vr.d), .tuple (p.ls.map Vr.d), .tuple (stDs p.bd)]) := h0
  refine ⟨_, rfl, _, rfl, a, xs, _, _, rfl, rfl, hq, atI_nat e3, _, rfl, _, rfl, a, xs, _, _, rfl, rfl, hq, atI_nat e3, _, rfl, ?_⟩
  refine ⟨a3, xs3, _, _, rfl, rfl, hq3, atI_nat e0, _, rfl, _, rfl, ?_⟩
  refine ⟨x0, x, _, 3, _, rfl, h0', hx, by show 4 ≤ 1000; decide, by decide, fun w1 H1 s1 hw1 => ?_⟩
  refine ⟨_, w1, _, k, _, rfl, dp_same s1 h3, hw1, by rw [List.length_map]; omega, by omega, fun w2 H2 s2 hw2 => ?_⟩
  refine ⟨_, w2, _, 3, _, rfl, dp_same (s1.trans s2) hv', hw2, by show 4 ≤ 1000; decide, by decide, fun w3 H3 s3 hw3 => ?_⟩
  refine q _ _ ((s1.trans s2).trans s3) ?_
  rw [← setB_d g ep]
  exact hw3


end
end Pf

namespace Pf
open PySem PySem.Spec PyProof.Rows L2
section
variable {P : Program} {w : World} {K : PySem.W.Frag} {mg : Str → Option Value} {base : Heap}
variable {c : Nat → Addr}
def sp__law_deep (K : PySem.W.Frag) (n : Nat) : Sp := fun vs H Q _ => ∃ (r pn : Addr) (d : Nat) (ws : List Str), vs = [.ref r, .ref pn, .int (d : Int)] ∧ RD H r ∧ SqL K H pn (ws.map V.str) ∧ pn ≠ r ∧ ws.length ≤ 1000 ∧ d < n ∧
  ∀ (v : V) (e : Ex) (H' : Hp), Fr r H H' → RD H' r → Dp K H' v e.d → e.In ws → e.N9 → e.depth ≤ d + 1 → Q v H'
theorem ops_at : ∀ {j : Nat}, j < 7 → atI [V.str "+", V.str "-", V.str "*", V.str "==", V.str "<", V.str "and", V.str "or"] (j : Int) = some (.str (opS j))
  | 0, _ => atI_nat rfl
  | 1, _ => atI_nat rfl
  | 2, _ => atI_nat rfl
  | 3, _ => atI_nat rfl
  | 4, _ => atI_nat rfl
  | 5, _ => atI_nat rfl
  | 6, _ => atI_nat rfl
  | j + 7, h => absurd h (by omega)
theorem ok__law_deep (T : Txt P K mg c) : ∀ n : Nat, Has P w K mg base (n + 3) "_law_deep" ["reader", "names", "depth"] (sp__law_deep K n)
| 0 => .none T.d__law_deep fun vs H Q E h => by
    obtain ⟨_, _, _, _, _, _, _, _, _, hd, _⟩ := h
    omega
| n + 1 => by
  obtain ⟨f__law_deep, fd__law_deep, G__law_deep, m__law_deep, k__law_deep, b__law_deep⟩ := ok__law_deep T n
  obtain ⟨f, fd, F, m, b⟩ := T.d__law_deep.ex
  obtain ⟨f__law_next, fd__law_next, G__law_next, m__law_next, k__law_next, b__law_next⟩ := ok__law_next (P := P) (w := w) (base := base) T
  refine ⟨f, fd, F.ok sc__law_deep (fun vs H Q E h => ?_) (fun cdv A outer s H vs Q E hr h => ?_), m, F.kp, b⟩
  · obtain ⟨r, pn, d, ws, rfl, hR, hN, hne, hl, hd, q⟩ := h
    rfl
  obtain ⟨r, pn, d, ws, rfl, hR, hN, hne, hl, hd, q⟩ := h
  refine ⟨_, (pss_cons (ps_set (i := 3) sc__law_deep.nd rfl (.inl rfl) (pe_call G__law_next (hr.mono (by omega)) (by rfl) m__law_next k__law_next b__law_next .nil pass0 (pa_cons (pv 0) (pa_cons pe_int pa_nil))))
      (pss_cons (ps_if (PW.pt (pw_or (pt_cmpR op_eq (pv 2) pe_int (nomark _)) (pw_or1 (pt_cmpR op_lt (pv 3) pe_int (nomark _)))))
      (pss_cons (ps_if (PW.pt (pw_and (pt_cmpR op_gt (pe_callB call_len_seq (by rfl) T.z_len (by decide +kernel) (pa_cons (pv 1) pa_nil)) pe_int (nomark _)) (pw_and1 (pt_cmpR op_gt (pe_call G__law_next (hr.mono (by omega)) (by rfl) m__law_next k__law_next b__law_next .nil pass0 (pa_cons (pv 0) (pa_cons pe_int pa_nil))) pe_int (nomark _)))))
        (pss_one (ps_ret (pe_tup (pa_cons pe_str (pa_cons (pe_ix ix_list (pv 1) (pe_call G__law_next (hr.mono (by omega)) (by rfl) m__law_next k__law_next b__law_next .nil pass0 (pa_cons (pv 0) (pa_cons (pe_callB call_len_seq (by rfl) T.z_len (by decide +kernel) (pa_cons (pv 1) pa_nil)) pa_nil))) (fun _ _ => rfl)) pa_nil)))))
        pss_nil)
        (pss_one (ps_ret (pe_tup (pa_cons pe_str (pa_cons (pe_call G__law_next (hr.mono (by omega)) (by rfl) m__law_next k__law_next b__law_next .nil pass0 (pa_cons (pv 0) (pa_cons pe_int pa_nil))) pa_nil))))))
      pss_nil)
      (pss_cons (ps_if (pt_cmpR op_lt (pv 3) pe_int (nomark _))
      (pss_one (ps_ret (pe_tup (pa_cons pe_str (pa_cons (pe_call G__law_deep (hr.mono (by omega)) (by rfl) m__law_deep k__law_deep b__law_deep .nil pass0 (pa_cons (pv 0) (pa_cons (pv 1) (pa_cons (pe_op op_sub (pv 2) pe_int) pa_nil)))) pa_nil)))))
      pss_nil)
      (pss_cons (ps_set (i := 4) sc__law_deep.nd rfl (.inl rfl) (pe_call G__law_deep (hr.mono (by omega)) (by rfl) m__law_deep k__law_deep b__law_deep .nil pass0 (pa_cons (pv 0) (pa_cons (pv 1) (pa_cons (pe_op op_sub (pv 2) pe_int) pa_nil)))))
      (pss_one (ps_ret (pe_tup (pa_cons (pe_ix ix_list (pe_lst (pa_cons pe_str (pa_cons pe_str (pa_cons pe_str (pa_cons pe_str (pa_cons pe_str (pa_cons pe_str (pa_cons pe_str pa_nil)))))))) (pe_op op_sub (pv 3) pe_int) (fun _ _ => rfl)) (pa_cons (pv 4) (pa_cons (pe_call G__law_deep (hr.mono (by omega)) (by rfl) m__law_deep k__law_deep b__law_deep .nil pass0 (pa_cons (pv 0) (pa_cons (pv 1) (pa_cons (pe_op op_sub (pv 2) pe_int) pa_nil)))) pa_nil)))))))))), ?_⟩
  -- kind
  refine ⟨_, rfl, r, 12, rfl, hR, by decide, by decide, fun k H1 f1 R1 k0 k1 => ?_⟩
  have hN1 := f1.seq hne hN
  have lw : (ws.map V.str).length = ws.length := List.length_map _
  refine ⟨_, rfl, rfl, _, rfl, ite2 (fun e => iteT ?leaf1) (fun e => ⟨_, rfl, _, _, rfl, rfl, _, rfl, ite2 (fun e2 => ?leaf2) (fun e2 => ?deep)⟩)⟩
  case deep =>
    have hd0 : d ≠ 0 := fun z => by
      subst z
      exact e (decide_eq_true rfl)
    obtain ⟨d', rfl⟩ : ∃ d', d = d' + 1 := ⟨d - 1, by omega⟩
    have ed : ((d' + 1 : Nat) : Int) - 1 = (d' : Int) := by omega
    have k3 : 3 ≤ k := by have := dec_f e2; omega
    refine ⟨_, rfl, _, _, rfl, rfl, _, rfl, ite2 (fun e3 => ?_) (fun e3 => ?_)⟩
    · -- not
      refine ⟨_, rfl, _, rfl, _, rfl, _, _, rfl, rfl, r, pn, d', ws, congrArg (fun z => [V.ref r, V.ref pn, V.int z]) ed, R1, hN1, hne, hl, by omega, fun v ex H2 f2 R2 hx hi hn hdp => ?_⟩
      refine ⟨by show 2 ≤ sizeLine; decide, fun p np => ?_⟩
      exact q (.ref p) (.not ex) _ (f1.trans (f2.trans (Fr.new np))) (R2.of (same_new np)) (by rw [Ex.d]; exact .tup (SqT.of upd_same) (.cons (.str _) (.cons (dp_same (same_new np) hx) .nil))) hi hn (Nat.succ_le_succ hdp)
    · -- two parts
      have k5 : 5 ≤ k := by have := dec_f e3; omega
      refine ⟨_, rfl, _, rfl, _, rfl, _, _, rfl, rfl, r, pn, d', ws, congrArg (fun z => [V.ref r, V.ref pn, V.int z]) ed, R1, hN1, hne, hl, by omega, fun v ex H2 f2 R2 hx hi hn hdp => ?_⟩
      refine ⟨by show 7 ≤ sizeLine; decide, fun o no => ?_⟩
      refine ⟨_, rfl, _, _, rfl, rfl, o, _, _, .str (opS (k - 5).toNat), rfl, rfl, SqL.of upd_same, ?_, ?_⟩
      · have h := ops_at (j := (k - 5).toNat) (by omega)
        rw [show (((k - 5).toNat : Nat) : Int) = k - 5 by omega] at h
        exact h
      have R2' := R2.of (same_new (o := .lst [V.str "+", V.str "-", V.str "*", V.str "==", V.str "<", V.str "and", V.str "or"]) no)
      have hN2 : SqL K (upd H2 o (.lst [V.str "+", V.str "-", V.str "*", V.str "==", V.str "<", V.str "and", V.str "or"])) pn (ws.map V.str) := (same_new no).seq (f2.seq hne hN1)
      refine ⟨_, rfl, _, rfl, _, rfl, _, rfl, _, _, rfl, rfl, r, pn, d', ws, congrArg (fun z => [V.ref r, V.ref pn, V.int z]) ed, R2', hN2, hne, hl, by omega, fun v3 ex3 H3 f3 R3 hx3 hi3 hn3 hdp3 => ?_⟩
      refine ⟨by show 3 ≤ sizeLine; decide, fun p np => ?_⟩
      have fo : Fr r H2 H3 := (Fr.of (same_new no)).trans f3
      refine q (.ref p) (.bin (k - 5).toNat ex ex3) _ (f1.trans (f2.trans (fo.trans (Fr.new np)))) (R3.of (same_new np)) ?_ ⟨hi, hi3⟩ ⟨hn, hn3⟩ ?_
      · rw [Ex.d]
        exact .tup (SqT.of upd_same) (.cons (.str _) (.cons (dp_same (same_new np) (dp_f1 R2.l fo (ex.depth + 1) (tup_ex (Nat.le_refl _)) hx)) (.cons (dp_same (same_new np) hx3) .nil)))
      · show max ex.depth ex3.depth + 1 ≤ d' + 1 + 1
        omega
  all_goals
    refine ⟨_, rfl, pn, _, rfl, .inl hN1, _, _, rfl, rfl, _, rfl, ite2 (fun e5 => ⟨_, rfl, r, 3, rfl, R1, by decide, by decide, fun v2 H2 f2 R2 a0 a1 => ⟨_, _, rfl, rfl, _, rfl, ite2 (fun e6 => ?nm) (fun e6 => ?nu)⟩⟩) (fun e5 => iteF ?nu2)⟩
    case nm =>
      have h0 : 0 < ws.length := by have := dec_t e5; omega
      have hN2 := f2.seq hne hN1
      refine ⟨_, rfl, _, rfl, _, rfl, pn, _, rfl, .inl hN2, r, _, rfl, R2, by omega, by omega, fun v3 H3 f3 R3 b0 b1 => ?_⟩
      obtain ⟨x, h1, h2⟩ := at_in (xs := ws.map V.str) b0 b1
      rw [List.getElem?_map] at h1
      cases h3 : ws[v3.toNat]? with
      | none => rw [h3] at h1; cases h1
      | some y =>
        rw [h3] at h1
        cases h1
        refine ⟨pn, _, _, _, rfl, rfl, f3.seq hne hN2, h2, by show 2 ≤ sizeLine; decide, fun p np => ?_⟩
        exact q (.ref p) (.nam y) _ (f1.trans (f2.trans (f3.trans (Fr.new np)))) (R3.of (same_new np)) (by rw [Ex.d]; exact .tup (SqT.of upd_same) (.cons (.str _) (.cons (.str _) .nil))) (List.mem_of_getElem? h3) True.intro (by show 1 ≤ d + 1; omega)
    case nu =>
      refine ⟨_, rfl, r, 10, rfl, R2, by decide, by decide, fun v3 H3 f3 R3 b0 b1 => ⟨by show 2 ≤ sizeLine; decide, fun p np => ?_⟩⟩
      exact q (.ref p) (.num v3) _ (f1.trans (f2.trans (f3.trans (Fr.new np)))) (R3.of (same_new np)) (by rw [Ex.d]; exact .tup (SqT.of upd_same) (.cons (.str _) (.cons (.int _) .nil))) True.intro (by show 0 ≤ v3 ∧ v3 ≤ 9; omega) (by show 1 ≤ d + 1; omega)
    case nu2 =>
      refine ⟨_, rfl, r, 10, rfl, R1, by decide, by decide, fun v3 H3 f3 R3 b0 b1 => ⟨by show 2 ≤ sizeLine; decide, fun p np => ?_⟩⟩
      exact q (.ref p) (.num v3) _ (f1.trans (f3.trans (Fr.new np))) (R3.of (same_new np)) (by rw [Ex.d]; exact .tup (SqT.of upd_same) (.cons (.str _) (.cons (.int _) .nil))) True.intro (by show 0 ≤ v3 ∧ v3 ≤ 9; omega) (by show 1 ≤ d + 1; omega)


end
end Pf

namespace Pf
open PySem PySem.Spec PyProof.Rows L2
section
variable {P : Program} {w : World} {K : PySem.W.Frag} {mg : Str → Option Value} {base : Heap}
variable {c : Nat → Addr}
/-! ### what the drawing of bodies keeps: all but a reader and a dict as it was -/
def NotT (H : Hp) (r : Addr) : Prop := (∀ xs, H r ≠ some (.tup xs)) ∧ ∀ o xs, H r ≠ some (.frz o (.tup xs))
theorem RD.nt {H : Hp} {r : Addr} (h : RD H r) : NotT H r := by
  obtain ⟨_, _, _, h⟩ := h
  refine ⟨fun xs e => ?_, fun o xs e => ?_⟩ <;> rw [h] at e <;> cases e
theorem nt_dK {H : Hp} {d : Addr} {kvs : List (Key × V)} (h : H d = some (.dK kvs)) : NotT H d := by
  refine ⟨fun xs e => ?_, fun o xs e => ?_⟩ <;> rw [h] at e <;> cases e
theorem nt_lst {H : Hp} {d : Addr} {ys : List V} (h : H d = some (.lst ys)) : NotT H d := by
  refine ⟨fun xs e => ?_, fun o xs e => ?_⟩ <;> rw [h] at e <;> cases e
theorem seqT_n2 {K : PySem.W.Frag} {H H' : Hp} {r m a : Addr} {xs : List V} (hr : NotT H r) (hm : NotT H m) (f : Fr2 r m H H') (h : SqT K H a xs) : SqT K H' a xs := by
  rcases h with (h | ⟨o, h⟩) | h
  · exact .inl (.inl (f _ _ (fun z => by subst z; exact hr.1 _ h) (fun z => by subst z; exact hm.1 _ h) h))
  · exact .inl (.inr ⟨o, f _ _ (fun z => by subst z; exact hr.2 _ _ h) (fun z => by subst z; exact hm.2 _ _ h) h⟩)
  · exact .inr h
mutual
theorem dp_n2 {K : PySem.W.Frag} {H H' : Hp} {r m : Addr} (hr : NotT H r) (hm : NotT H m) (f : Fr2 r m H H') : ∀ {v : V} {d : PyData} (n : Nat), tupOk n d → Dp K H v d → Dp K H' v d
  | _, _, _, _, .non => .non
  | _, _, _, _, .bl b => .bl b
  | _, _, _, _, .int i => .int i
  | _, _, _, _, .str x => .str x
  | _, _, 0, h, .lst _ _ => h.elim
  | _, _, _ + 1, h, .lst _ _ => h.elim
  | _, _, 0, h, .tup _ _ => h.elim
  | _, _, n + 1, h, .tup q k => .tup (seqT_n2 hr hm f q) (dpa_n2 hr hm f n h.2 k)
theorem dpa_n2 {K : PySem.W.Frag} {H H' : Hp} {r m : Addr} (hr : NotT H r) (hm : NotT H m) (f : Fr2 r m H H') : ∀ {xs : List V} {ds : List PyData} (n : Nat), (∀ d ∈ ds, tupOk n d) → DpAll K H xs ds → DpAll K H' xs ds
  | _, _, _, _, .nil => .nil
  | _, _, n, h, .cons p k => .cons (dp_n2 hr hm f n (h _ List.mem_cons_self) p) (dpa_n2 hr hm f n (fun d hd => h d (List.mem_cons_of_mem _ hd)) k)
end
theorem fr1_2 {r m : Addr} {H H' : Hp} (f : Fr r H H') : Fr2 r m H H' := fun b o n _ h => f b o n h
/-! ### depth may be less -/
mutual
theorem allS_down {P : Nat → St → Prop} (m : ∀ d e s, e ≤ d → P d s → P e s) : ∀ (s : St) (d e : Nat), e ≤ d → allS P d s → allS P e s
  | .set _ _, d, e, l, h => by rw [allS] at h ⊢; exact m _ _ _ l h
  | .read _, d, e, l, h => by rw [allS] at h ⊢; exact m _ _ _ l h
  | .write _, d, e, l, h => by rw [allS] at h ⊢; exact m _ _ _ l h
  | .ifs _ b o, d, e, l, h => by
    rw [allS] at h ⊢
    exact ⟨m _ _ _ l h.1, allB_down m b _ _ (Nat.succ_le_succ l) h.2.1, allB_down m o _ _ (Nat.succ_le_succ l) h.2.2⟩
  | .whi _ b, d, e, l, h => by
    rw [allS] at h ⊢
    exact ⟨m _ _ _ l h.1, allB_down m b _ _ (Nat.succ_le_succ l) h.2⟩
  | .call _ _, d, e, l, h => by rw [allS] at h ⊢; exact m _ _ _ l h
  | .skip, d, e, l, h => by rw [allS] at h ⊢; exact m _ _ _ l h
theorem allB_down {P : Nat → St → Prop} (m : ∀ d e s, e ≤ d → P d s → P e s) : ∀ (b : List St) (d e : Nat), e ≤ d → allB P d b → allB P e b
  | [], _, _, _, _ => by rw [allB]; trivial
  | s :: b, d, e, l, h => by rw [allB] at h ⊢; exact ⟨allS_down m s d e l h.1, allB_down m b d e l h.2⟩
end
theorem allB_app {P : Nat → St → Prop} {d : Nat} : ∀ {a b : List St}, allB P d a → allB P d b → allB P d (a ++ b)
  | [], b, _, h => h
  | s :: a, b, h, k => by
    rw [allB] at h
    rw [List.cons_append, allB]
    exact ⟨h.1, allB_app h.2 k⟩
/-- a statement that a body of procedure p may have, at depth d -/
def Gs (g : Pg) (p : Pr) (d : Nat) (s : St) : Prop := d ≤ 6 ∧ s.Loc g.l (scp g.vs p) g.ps
theorem gs_down {g : Pg} {p : Pr} (d e : Nat) (s : St) (l : e ≤ d) (h : Gs g p d s) : Gs g p e s := ⟨Nat.le_trans l h.1, h.2⟩
/-- the heads of a program: all that its bodies speak of -/
structure Hd (g : Pg) (p : Pr) : Prop where
  l1 : 1 ≤ g.l
  l3 : g.l ≤ 3
  a2 : 2 ≤ g.a
  a4 : g.a ≤ 4
  p3 : ∀ q ∈ g.ps, q.ps.length ≤ 3
  p5 : g.ps.length ≤ 5
  ln : (scp g.vs p).length ≤ 10
theorem tup_st {g : Pg} {p : Pr} (hd : Hd g p) {d : Nat} {s : St} (h : allS (Gs g p) d s) (c : cntS s ≤ 60) (d1 : 1 ≤ d) : tupOk 20 s.d := by
  have h' := allS_imp (fun d s h => (⟨h.1, (loc_exs hd.p3 h.2).1⟩ : d ≤ 6 ∧ ExsOk s)) _ _ h
  have k := frz_ok _ _ (dat_mono (dat_st h' c (rawS_d s)) (show lvd d ≤ 20 by unfold lvd; omega))
  rw [frz_st (rawS_d s)] at k
  exact k
theorem tup_body {g : Pg} {p : Pr} (hd : Hd g p) {d : Nat} {b : List St} (h : allB (Gs g p) d b) (c : cntB b ≤ 60) (d1 : 1 ≤ d) : tupOk 21 (.tuple (stDs b)) := by
  have h' := allB_imp (fun d s h => (⟨h.1, (loc_exs hd.p3 h.2).1⟩ : d ≤ 6 ∧ ExsOk s)) _ _ h
  have k := frz_ok 21 _ (dat_mono (dat_bd h' c (.inr rfl) (rawL_d b)) (show (if d ≤ 6 then lvd d + 1 else 1) ≤ 21 by unfold lvd; split <;> omega))
  rw [frz_body (rawB_d b)] at k
  exact k
theorem stDs_app : ∀ a b : List St, stDs (a ++ b) = stDs a ++ stDs b
  | [], b => by simp [stDs]
  | s :: a, b => by rw [List.cons_append, stDs, stDs, stDs_app a b, List.cons_append]
theorem stDs_len : ∀ b : List St, (stDs b).length = b.length
  | [] => by simp [stDs]
  | s :: b => by rw [stDs, List.length_cons, stDs_len b, List.length_cons]
/-! ### the dict that bodies are drawn by -/
def wideN (l : Int) (sc : List Vr) : List Str := (sc.filter fun v => decide (l < v.sz)).map Vr.nm
def CallAt (K : PySem.W.Frag) (H : Hp) (x : V) (q : Pr) : Prop := ∃ t, x = .ref t ∧ SqT K H t [.str q.nm, .int (q.ps.length : Nat)]
/-- the reader and the dict: the lists of the dict are none of ap, nor the reader -/
structure ShNe (K : PySem.W.Frag) (H : Hp) (g : Pg) (p : Pr) (r : Addr) (ap : List Addr) (d : Addr) (lf : Int) : Prop where
  rd : RD H r
  ex : ∃ (kvs : List (Key × V)) (a1 a2 a3 : Addr) (xs : List V), H d = some (.dK kvs) ∧ kvs.length ≤ 10 ∧ valV kvs (Sum.inr ("names" : Str)) = some (.ref a1) ∧ valV kvs (Sum.inr ("wide" : Str)) = some (.ref a2) ∧ valV kvs (Sum.inr ("calls" : Str)) = some (.ref a3) ∧ valV kvs (Sum.inr ("left" : Str)) = some (.int lf) ∧
    H a1 = some (.lst (((scp g.vs p).map Vr.nm).map V.str)) ∧ H a2 = some (.lst ((wideN g.l (scp g.vs p)).map V.str)) ∧ H a3 = some (.lst xs) ∧ All2 (CallAt K H) xs g.ps.tail ∧ (a1 ≠ r ∧ a2 ≠ r ∧ a3 ≠ r) ∧ ∀ a ∈ ap, a1 ≠ a ∧ a2 ≠ a ∧ a3 ≠ a
theorem CallAt.n2 {K : PySem.W.Frag} {H H' : Hp} {r m : Addr} {x : V} {q : Pr} (hr : NotT H r) (hm : NotT H m) (f : Fr2 r m H H') (h : CallAt K H x q) : CallAt K H' x q := let ⟨t, e1, e2⟩ := h; ⟨t, e1, seqT_n2 hr hm f e2⟩
theorem ShNe.dr {K : PySem.W.Frag} {H : Hp} {g : Pg} {p : Pr} {r d : Addr} {ap : List Addr} {lf : Int} (h : ShNe K H g p r ap d lf) : d ≠ r := fun e => by
  obtain ⟨kvs, _, _, _, _, h0, _⟩ := h.ex
  obtain ⟨_, _, _, hr⟩ := h.rd
  rw [e, hr] at h0
  cases h0
theorem ShNe.nt {K : PySem.W.Frag} {H : Hp} {g : Pg} {p : Pr} {r d : Addr} {ap : List Addr} {lf : Int} (h : ShNe K H g p r ap d lf) : NotT H d := by
  obtain ⟨kvs, _, _, _, _, h, _⟩ := h.ex
  exact nt_dK h
theorem ShNe.same {K : PySem.W.Frag} {H H' : Hp} {g : Pg} {p : Pr} {r d : Addr} {ap : List Addr} {lf : Int} (e : Same H H') (h : ShNe K H g p r ap d lf) : ShNe K H' g p r ap d lf := by
  obtain ⟨kvs, a1, a2, a3, xs, h0, hl, h1, h2, h3, h4, h5, h6, h7, h8, n⟩ := h.ex
  exact ⟨h.rd.of e, kvs, a1, a2, a3, xs, e _ _ h0, hl, h1, h2, h3, h4, e _ _ h5, e _ _ h6, e _ _ h7, h8.imp fun _ _ ⟨t, e1, e2⟩ => ⟨t, e1, seqT_same e e2⟩, n⟩
theorem ShNe.R {K : PySem.W.Frag} {H H' : Hp} {g : Pg} {p : Pr} {r d : Addr} {ap : List Addr} {lf : Int} (f : Fr r H H') (R : RD H' r) (h : ShNe K H g p r ap d lf) : ShNe K H' g p r ap d lf := by
  have nd := h.dr
  obtain ⟨kvs, a1, a2, a3, xs, h0, hl, h1, h2, h3, h4, h5, h6, h7, h8, ⟨n1, n2, n3⟩, n⟩ := h.ex
  exact ⟨R, kvs, a1, a2, a3, xs, f _ _ nd h0, hl, h1, h2, h3, h4, f _ _ n1 h5, f _ _ n2 h6, f _ _ n3 h7, h8.imp fun _ _ => CallAt.n2 h.rd.nt h.rd.nt (fr1_2 f), ⟨n1, n2, n3⟩, n⟩
/-- a new list is none of the dict's -/
theorem ShNe.add {K : PySem.W.Frag} {H : Hp} {g : Pg} {p : Pr} {r d D : Addr} {ap : List Addr} {lf : Int} (nD : H D = none) (h : ShNe K H g p r ap d lf) : ShNe K H g p r (D :: ap) d lf := by
  obtain ⟨kvs, a1, a2, a3, xs, h0, hl, h1, h2, h3, h4, h5, h6, h7, h8, n1, n⟩ := h.ex
  refine ⟨h.rd, kvs, a1, a2, a3, xs, h0, hl, h1, h2, h3, h4, h5, h6, h7, h8, n1, fun a ha => ?_⟩
  rcases List.mem_cons.mp ha with rfl | ha
  · exact ⟨ne_of_none h5 nD, ne_of_none h6 nD, ne_of_none h7 nD⟩
  · exact n a ha
theorem ShNe.sub {K : PySem.W.Frag} {H : Hp} {g : Pg} {p : Pr} {r d : Addr} {ap bp : List Addr} {lf : Int} (s : ∀ a ∈ bp, a ∈ ap) (h : ShNe K H g p r ap d lf) : ShNe K H g p r bp d lf := by
  obtain ⟨kvs, a1, a2, a3, xs, h0, hl, h1, h2, h3, h4, h5, h6, h7, h8, n1, n⟩ := h.ex
  exact ⟨h.rd, kvs, a1, a2, a3, xs, h0, hl, h1, h2, h3, h4, h5, h6, h7, h8, n1, fun a ha => n a (s a ha)⟩
/-- a list that is none of the dict's changes -/
theorem ShNe.upd {K : PySem.W.Frag} {H : Hp} {g : Pg} {p : Pr} {r d D : Addr} {ap : List Addr} {lf : Int} {ys : List V} {o : HO} (hD : H D = some (.lst ys)) (m : D ∈ ap) (n : D ≠ r) (h : ShNe K H g p r ap d lf) : ShNe K (L2.upd H D o) g p r ap d lf := by
  obtain ⟨kvs, a1, a2, a3, xs, h0, hl, h1, h2, h3, h4, h5, h6, h7, h8, n1, nn⟩ := h.ex
  obtain ⟨m1, m2, m3⟩ := nn D m
  have nd : d ≠ D := fun e => by
    subst e
    rw [hD] at h0
    cases h0
  obtain ⟨c0, k0, d0, hr⟩ := h.rd
  exact ⟨⟨c0, k0, d0, (upd_ne n.symm).trans hr⟩, kvs, a1, a2, a3, xs, (upd_ne nd).trans h0, hl, h1, h2, h3, h4, (upd_ne m1).trans h5, (upd_ne m2).trans h6, (upd_ne m3).trans h7, h8.imp fun _ _ => CallAt.n2 (nt_lst hD) (nt_lst hD) (fun b o' q1 _ e => (upd_ne q1).trans e), n1, nn⟩
/-- left is set anew -/
theorem ShNe.left {K : PySem.W.Frag} {H : Hp} {g : Pg} {p : Pr} {r d : Addr} {ap : List Addr} {lf lf' : Int} {kvs : List (Key × V)} (h : ShNe K H g p r ap d lf) (hd : H d = some (.dK kvs)) : ShNe K (L2.upd H d (.dK (putK kvs (Sum.inr ("left" : Str)) (.int lf')))) g p r ap d lf' := by
  have ndr := h.dr
  obtain ⟨kvs', a1, a2, a3, xs, h0, hl, h1, h2, h3, h4, h5, h6, h7, h8, n1, nn⟩ := h.ex
  rw [hd] at h0
  cases h0
  have k : ∀ a ys, H a = some (.lst ys) → (L2.upd H d (.dK (putK kvs (Sum.inr ("left" : Str)) (.int lf')))) a = some (.lst ys) := fun a ys e => (upd_ne fun z => by
    subst z
    rw [hd] at e
    cases e).trans e
  obtain ⟨c0, k0, d0, hr⟩ := h.rd
  have ll : (putK kvs (Sum.inr ("left" : Str)) (V.int lf')).length ≤ 10 := by
    have : (kvs.any fun kv => decide (kv.1 = Sum.inr ("left" : Str))) = true := by rw [valV_any, h4]; rfl
    unfold putK
    rw [if_pos this, List.length_map]
    exact hl
  refine ⟨⟨c0, k0, d0, (upd_ne ndr.symm).trans hr⟩, _, a1, a2, a3, xs, upd_same, ll, ?_, ?_, ?_, ?_, k _ _ h5, k _ _ h6, k _ _ h7, h8.imp fun _ _ => CallAt.n2 h.nt h.nt (fun b o' m1 _ e => (upd_ne m1).trans e), n1, nn⟩
  · rw [valV_put, if_neg (by decide +kernel)]
    exact h1
  · rw [valV_put, if_neg (by decide +kernel)]
    exact h2
  · rw [valV_put, if_neg (by decide +kernel)]
    exact h3
  · rw [valV_put, if_pos rfl]


end
end Pf

namespace Pf
open PySem PySem.Spec PyProof.Rows L2
section
variable {P : Program} {w : World} {K : PySem.W.Frag} {mg : Str → Option Value} {base : Heap}
variable {c : Nat → Addr}
theorem lenT_le {K : PySem.W.Frag} {H : Hp} {a : Addr} {xs : List V} {n : Nat} (h : SqT K H a xs) (l : xs.length = n) (k : n ≤ 1000) : xs.length ≤ 1000 := by omega
theorem free_same {H H' : Hp} {d : Addr} (s : Same H H') (n : H' d = none) : H d = none := same_back s n
/-- a pair of a tuple of declared -/
theorem vr_at {K : PySem.W.Frag} {H : Hp} {x : V} {xs : List V} {vs : List Vr} {m : Nat} (h : DpAll K H xs (vs.map Vr.d)) (e : xs[m]? = some x) : ∃ v t, vs[m]? = some v ∧ x = .ref t ∧ SqT K H t [.str v.nm, .int v.sz] := by
  obtain ⟨d, ed, hd⟩ := dpa_getx' h e
  rw [List.getElem?_map] at ed
  obtain ⟨v, ev, rfl⟩ := Option.map_eq_some_iff.mp ed
  obtain ⟨t, ys, rfl, hq, hk⟩ := dp_tup' (show Dp K H x (.tuple [.str v.nm, .int v.sz]) from hd)
  cases hk with
  | cons h1 hk =>
  cases hk with
  | cons h2 hk =>
  cases hk
  cases h1
  cases h2
  exact ⟨v, t, ev, rfl, hq⟩
/-- what a procedure's tuple says of its name and its letters -/
theorem told_at {K : PySem.W.Frag} {H : Hp} {x : V} {xs : List V} {ps : List Pr} {m : Nat} (h : DpAll K H xs (ps.map Pr.d)) (e : xs[m]? = some x) : ∃ (q : Pr) (t tp tl : Addr) (xp xl : List V) (b : V), ps[m]? = some q ∧ x = .ref t ∧ SqT K H t [.str q.nm, .ref tp, .ref tl, b] ∧ SqT K H tp xp ∧ DpAll K H xp (q.ps.map Vr.d) ∧ SqT K H tl xl ∧ DpAll K H xl (q.ls.map Vr.d) := by
  obtain ⟨d, ed, hd⟩ := dpa_getx' h e
  rw [List.getElem?_map] at ed
  obtain ⟨q, ev, rfl⟩ := Option.map_eq_some_iff.mp ed
  obtain ⟨t, ys, rfl, hq, hk⟩ := dp_tup' (show Dp K H x (.tuple [.str q.nm, .tuple (q.ps.map Vr.d), .tuple (q.ls.map Vr.d), .tuple (stDs q.bd)]) from hd)
  cases hk with
  | cons h1 hk =>
  cases hk with
  | cons h2 hk =>
  cases hk with
  | cons h3 hk =>
  cases hk with
  | cons h4 hk =>
  cases hk
  cases h1
  obtain ⟨tp, xp, rfl, hp, kp⟩ := dp_tup' h2
  obtain ⟨tl, xl, rfl, hl, kl⟩ := dp_tup' h3
  exact ⟨q, t, tp, tl, xp, xl, _, ev, rfl, hq, hp, kp, hl, kl⟩
def kvsN (d1 d2 : V) (lf : Int) : List (Key × V) := [(Sum.inr ("names" : Str), d1), (Sum.inr ("wide" : Str), d2), (Sum.inr ("left" : Str), .int lf)]
theorem valV_kvsN {d1 d2 : V} {lf : Int} {k : Key} : valV (mergeK [] (kvsN d1 d2 lf)) k = if k = Sum.inr ("left" : Str) then some (.int lf) else if k = Sum.inr ("wide" : Str) then some d2 else if k = Sum.inr ("names" : Str) then some d1 else none := by
  show valV (putK (putK (putK ([] : List (Key × V)) (Sum.inr ("names" : Str)) d1) (Sum.inr ("wide" : Str)) d2) (Sum.inr ("left" : Str)) (.int lf)) k = _
  rw [valV_put, valV_put, valV_put]
  rfl
theorem wideN_succ {l : Int} {sc : List Vr} {m : Nat} {v : Vr} (e : sc[m]? = some v) : wideN l (sc.take (m + 1)) = if l < v.sz then wideN l (sc.take m) ++ [v.nm] else wideN l (sc.take m) := by
  unfold wideN
  rw [take_succ_at e, List.filter_append, List.map_append]
  by_cases h : l < v.sz
  · rw [if_pos h, List.filter_cons_of_pos (by simpa using h)]
    rfl
  · rw [if_neg h, List.filter_cons_of_neg (by simpa using h)]
    simp
def sp__law_shape (K : PySem.W.Frag) : Sp := fun us H Q _ => ∃ (v : V) (g : Pg) (k : Nat) (p : Pr) (lf : Int) (r : Addr), us = [v, .int (k : Nat), .int lf] ∧ Dp K H v g.d ∧ g.ps[k]? = some p ∧ Hd g p ∧ RD H r ∧ ∀ (d : Addr) (H' : Hp), Same H H' → H d = none → ShNe K H' g p r [] d lf → Q (.ref d) H'
theorem ok__law_shape (T : Txt P K mg c) : Has P w K mg base 1 "_law_shape" ["parts", "number", "left"] (sp__law_shape K) := by
  obtain ⟨f, fd, F, m, b⟩ := T.d__law_shape.ex
  refine ⟨f, fd, F.ok sc__law_shape (fun vs H Q E h => ?_) (fun cdv A outer s H vs Q E hr h => ?_), m, F.kp, b⟩
  · obtain ⟨v, g, k, p, lf, r, rfl, hv, ep, hd, hR, q⟩ := h
    rfl
  obtain ⟨v, g, k, p, lf, r, rfl, hv, ep, hd, hR, q⟩ := h
  refine ⟨_, (pss_cons (ps_set (i := 3) sc__law_shape.nd rfl (.inl rfl) (pe_op op_catA (pe_op op_catA (pe_ix ix_tup (pv 0) pe_int (fun _ _ => rfl)) (pe_ix ix_tup (pe_ix ix_tup (pe_ix ix_tup (pv 0) pe_int (fun _ _ => rfl)) (pv 1) (fun _ _ => rfl)) pe_int (fun _ _ => rfl))) (pe_ix ix_tup (pe_ix ix_tup (pe_ix ix_tup (pv 0) pe_int (fun _ _ => rfl)) (pv 1) (fun _ _ => rfl)) pe_int (fun _ _ => rfl))))
      (pss_cons (ps_set (i := 4) sc__law_shape.nd rfl (.inl rfl) (pe_disp (pps_cons pe_str (pe_lc (own := [("pair", 6)]) (g := gName 6) (by rfl) sc__law_shape.nd (pi_tup (pv 3)) (blkOk_by (own := [("pair", 6)]) (N := ["parts", "number", "left", "seen", "shape", "told", "pair"]) (sc := defScope s__law_shape) (by decide +kernel)) (fun _ _ _ _ _ => pg_name (i := 6) sc__law_shape.nd rfl (Or.inl rfl)) (fun _ _ _ _ _ => pts_nil) (fun _ _ _ _ _ => (pe_ix (ix_tupK (K := K) rfl) (pv 6) pe_int (fun _ _ => rfl)))) (pps_cons pe_str (pe_lc (own := [("pair", 6)]) (g := gName 6) (by rfl) sc__law_shape.nd (pi_tup (pv 3)) (blkOk_by (own := [("pair", 6)]) (N := ["parts", "number", "left", "seen", "shape", "told", "pair"]) (sc := defScope s__law_shape) (by decide +kernel)) (fun _ _ _ _ _ => pg_name (i := 6) sc__law_shape.nd rfl (Or.inl rfl)) (fun _ _ _ _ _ => pts_one (pt_cmpR op_gt (pe_ix (ix_tupK (K := K) rfl) (pv 6) pe_int (fun _ _ => rfl)) (pe_ix (ix_tupK (K := K) rfl) (pv 0) pe_int (fun _ _ => rfl)) (nomark _))) (fun _ _ _ _ _ => (pe_ix (ix_tupK (K := K) rfl) (pv 6) pe_int (fun _ _ => rfl)))) (pps_cons pe_str (pv 2) pps_nil))) (by rfl) rfl (by simp) (by decide)))
      (pss_cons (ps_dput (dun hr) (pv 4) pe_str (pe_lc (own := [("told", 5)]) (g := gName 5) (by rfl) sc__law_shape.nd (pi_tup (pe_slice sl_tupA (pe_ix ix_tup (pv 0) pe_int (fun _ _ => rfl)) (po_some pe_int) po_none)) (blkOk_by (own := [("told", 5)]) (N := ["parts", "number", "left", "seen", "shape", "told", "pair"]) (sc := defScope s__law_shape) (by decide +kernel)) (fun _ _ _ _ _ => pg_name (i := 5) sc__law_shape.nd rfl (Or.inl rfl)) (fun _ _ _ _ _ => pts_nil) (fun _ _ _ _ _ => (pe_tup (pa_cons (pe_ix (ix_tupK (K := K) rfl) (pv 5) pe_int (fun _ _ => rfl)) (pa_cons (pe_callB (call_len_seqK (K := K) rfl) (by rfl) T.z_len (by decide +kernel) (pa_cons (pe_ix (ix_tupK (K := K) rfl) (pv 5) pe_int (fun _ _ => rfl)) pa_nil)) pa_nil))))) (by rfl))
      (pss_one (ps_ret (pv 4)))))), ?_⟩
  have hv' : Dp K H v (.tuple [.int g.l, .int g.a, .tuple (g.vs.map Vr.d), .tuple (g.ps.map Pr.d)]) := hv
  obtain ⟨a, xs, rfl, hq, hk⟩ := dp_tup' hv'
  obtain ⟨x0, e0, h0⟩ := dpa_get' hk (i := 0) rfl
  obtain ⟨x2, e2, h2⟩ := dpa_get' hk (i := 2) rfl
  obtain ⟨x3, e3, h3⟩ := dpa_get' hk (i := 3) rfl
  cases h0
  obtain ⟨t2, xs2, rfl, hq2, hk2⟩ := dp_tup' h2
  obtain ⟨t3, xs3, rfl, hq3, hk3⟩ := dp_tup' h3
  obtain ⟨xk, ek, _⟩ := dpa_get' hk3 (i := k) (d := p.d) (by rw [List.getElem?_map, ep]; rfl)
  obtain ⟨p', tk, tp, tl, xp, xl, bb, ep', rfl, hqk, hqp, hkp, hql, hkl⟩ := told_at hk3 ek
  rw [ep] at ep'
  cases ep'
  have l3 := dpa_len hk3
  rw [List.length_map] at l3
  have p5 := hd.p5
  have ln := hd.ln
  have hsc : DpAll K H ((xs2 ++ xp) ++ xl) ((scp g.vs p).map Vr.d) := by
    show DpAll K H _ (((g.vs ++ p.ps) ++ p.ls).map Vr.d)
    rw [List.map_append, List.map_append]
    exact dpa_cat (dpa_cat hk2 hkp) hkl
  have lsc := dpa_len hsc
  rw [List.length_map] at lsc
  rw [List.length_append, List.length_append] at lsc
  -- seen
  refine ⟨_, rfl, a, xs, _, _, rfl, rfl, hq, atI_nat e2, _, rfl, a, xs, _, _, rfl, rfl, hq, atI_nat e3, _, rfl, t3, xs3, _, _, rfl, rfl, hq3, atI_nat ek, tk, _, _, _, rfl, rfl, hqk, atI_nat (j := 1) rfl, ?_⟩
  refine catA_ok hq2 hqp (line_small (by omega)) fun r1 H1 s1 c1 => ?_
  refine ⟨_, rfl, a, xs, _, _, rfl, rfl, seqT_same s1 hq, atI_nat e3, _, rfl, t3, xs3, _, _, rfl, rfl, seqT_same s1 hq3, atI_nat ek, tk, _, _, _, rfl, rfl, seqT_same s1 hqk, atI_nat (j := 2) rfl, ?_⟩
  refine catA_ok c1 (seqT_same s1 hql) (line_small (by rw [List.length_append]; omega)) fun rs H2 s2 hrs => ?_
  have s02 := s1.trans s2
  have hsc2 := dpa_same s02 hsc
  have lsv : ((xs2 ++ xp) ++ xl).length = (scp g.vs p).length := by rw [List.length_append, List.length_append]; exact lsc
  generalize (xs2 ++ xp) ++ xl = sv at hrs hsc2 lsv hsc
  -- shape
  intro d nd
  have sd := same_new (o := .dK []) nd
  have hd3 := upd_same (H := H2) (a := d) (o := .dK [])
  have s03 := s02.trans sd
  have hrs3 := seqT_same sd hrs
  have hsc3 := dpa_same sd hsc2
  have ndH := free_same s02 nd
  generalize upd H2 d (.dK []) = H3 at sd hd3 s03 hrs3 hsc3 ⊢
  refine ⟨_, rfl, rs, rfl, ⟨_, hrs3⟩, fun D1 n1 => lc_it (walk_tup (xs := sv)) (fun m H' => Same H3 H' ∧ H' D1 = some (.lst ((((scp g.vs p).take m).map Vr.nm).map V.str))) ⟨same_new n1, upd_same⟩ (fun m H' _ h' => seqT_same h'.1 hrs3) ?_ ?_⟩
  · rintro m x H4 H5 hm ⟨s4, hD4⟩ ⟨rfl, hx⟩
    obtain ⟨w, t, ew, rfl, ht⟩ := vr_at (dpa_same s4 hsc3) hx
    refine ⟨rfl, _, rfl, t, _, _, _, rfl, rfl, ht, atI_nat (j := 0) rfl, _, hD4, ?_, same_mut s4 n1, ?_⟩
    · rw [List.length_map, List.length_map, List.length_take]
      exact small1000 (by omega)
    · rw [upd_same, take_succ_at ew, List.map_append, List.map_append]
      rfl
  rintro H4 ⟨s4, hD1⟩
  rw [lsv, List.take_length] at hD1
  have s04 := s03.trans s4
  have hrs4 := seqT_same s4 hrs3
  have hsc4 := dpa_same s4 hsc3
  refine ⟨_, rfl, rs, rfl, ⟨_, hrs4⟩, fun D2 n2 => lc_it (walk_tup (xs := sv)) (fun m H' => Same H4 H' ∧ H' D2 = some (.lst ((wideN g.l ((scp g.vs p).take m)).map V.str))) ⟨same_new n2, upd_same⟩ (fun m H' _ h' => seqT_same h'.1 hrs4) ?_ ?_⟩
  · rintro m x H5 H6 hm ⟨s5, hD5⟩ ⟨rfl, hx⟩
    obtain ⟨w, t, ew, rfl, ht⟩ := vr_at (dpa_same s5 hsc4) hx
    have lw : (wideN g.l ((scp g.vs p).take m)).length ≤ 10 := by
      unfold wideN
      rw [List.length_map]
      refine Nat.le_trans (List.length_filter_le _ _) ?_
      rw [List.length_take]
      omega
    refine ⟨rfl, _, rfl, t, _, _, _, rfl, rfl, ht, atI_nat (j := 1) rfl, _, rfl, a, xs, _, _, rfl, rfl, seqT_same (s04.trans s5) hq, atI_nat e0, _, _, rfl, rfl, _, rfl, ite2 (fun e => ?_) (fun e => ?_)⟩
    · have c := dec_t e
      refine ⟨_, rfl, t, _, _, _, rfl, rfl, ht, atI_nat (j := 0) rfl, _, hD5, ?_, same_mut s5 n2, ?_⟩
      · rw [List.length_map]
        exact small1000 (by omega)
      · rw [upd_same, wideN_succ ew, if_pos c, List.map_append]
        rfl
    · have c := dec_f e
      exact ⟨s5, by rw [wideN_succ ew, if_neg (by omega)]; exact hD5⟩
  rintro H5 ⟨s5, hD2⟩
  rw [lsv, List.take_length] at hD2
  have s35 := s4.trans s5
  refine ⟨_, rfl, s35 _ _ hd3, kvsN (.ref D1) (.ref D2) lf, rfl, by show 3 ≤ 15; decide, ?_⟩
  have hD1' := s5 _ _ hD1
  have hd5 := s35 _ _ hd3
  have n1d : D1 ≠ d := (ne_of_none hd3 n1).symm
  have n2d : D2 ≠ d := (ne_of_none (s4 _ _ hd3) n2).symm
  have s06 : Same H (upd H5 d (.dK (mergeK [] (kvsN (.ref D1) (.ref D2) lf)))) := same_mut (s04.trans s5) ndH
  have hd6 := upd_same (H := H5) (a := d) (o := .dK (mergeK [] (kvsN (.ref D1) (.ref D2) lf)))
  have hD16 := (upd_ne n1d (H := H5) (o := .dK (mergeK [] (kvsN (.ref D1) (.ref D2) lf)))).trans hD1'
  have hD26 := (upd_ne n2d (H := H5) (o := .dK (mergeK [] (kvsN (.ref D1) (.ref D2) lf)))).trans hD2
  have R1 := hR.ne (free_same s03 n1)
  have R2 := hR.ne (free_same s04 n2)
  have Rd := hR.ne ndH
  generalize upd H5 d (.dK (mergeK [] (kvsN (.ref D1) (.ref D2) lf))) = H6 at s06 hd6 hD16 hD26 ⊢
  -- calls
  refine ⟨_, rfl, a, xs, _, _, rfl, rfl, seqT_same s06 hq, atI_nat e3, 1, rfl, ?_⟩
  unfold tNoPart
  refine slA_ok (seqT_same s06 hq3) fun r7 H7 s7 h7 => ?_
  rw [show cutV xs3 (some (1 : Int)) none = xs3.drop 1 from cut_from xs3 1] at h7
  have s07 := s06.trans s7
  have lt : (xs3.drop 1).length = g.ps.tail.length := by rw [List.length_drop, List.length_tail, l3]
  refine ⟨r7, rfl, ⟨_, h7⟩, fun D3 n3 => lc_it (walk_tup (xs := xs3.drop 1)) (fun m H' => Same H7 H' ∧ ∃ acc, H' D3 = some (.lst acc) ∧ All2 (CallAt K H') acc (g.ps.tail.take m)) ⟨same_new n3, [], upd_same, by rw [List.take_zero]; exact .nil⟩ (fun m H' _ h' => seqT_same h'.1 h7) ?_ ?_⟩
  · rintro m x H8 H9 hm ⟨s8, acc, hD8, hacc⟩ ⟨rfl, hx⟩
    rw [List.getElem?_drop] at hx
    obtain ⟨q', t, tp', tl', xp', xl', b', eq', rfl, ht, hp', kp', _, _⟩ := told_at (dpa_same (s07.trans s8) hk3) hx
    have lq := dpa_len kp'
    rw [List.length_map] at lq
    have et : g.ps.tail[m]? = some q' := by rw [List.getElem?_tail, Nat.add_comm]; exact eq'
    have la := hacc.1
    rw [List.length_take, List.length_tail] at la
    refine ⟨rfl, _, rfl, t, _, _, _, rfl, rfl, ht, atI_nat (j := 0) rfl, _, rfl, t, _, _, _, rfl, rfl, ht, atI_nat (j := 1) rfl, tp', xp', rfl, .inr hp', by show 2 ≤ sizeLine; decide, fun u nu => ⟨acc, same_new nu _ _ hD8, small1000 (by omega), same_mut (s8.trans (same_new nu)) n3, _, upd_same, ?_⟩⟩
    have k1 := same_new (o := .tup [.str q'.nm, .int (xp'.length : Nat)]) nu
    have hDu := k1 _ _ hD8
    rw [take_succ_at et]
    have up : ∀ {x y}, CallAt K (upd H9 u (.tup [.str q'.nm, .int (xp'.length : Nat)])) x y → CallAt K (upd (upd H9 u (.tup [.str q'.nm, .int (xp'.length : Nat)])) D3 (.lst (acc ++ [.ref u]))) x y := fun h => h.n2 (nt_lst hDu) (nt_lst hDu) (fun b o' m1 _ e => (upd_ne m1).trans e)
    refine (hacc.imp fun x y ⟨t, e1, e2⟩ => up ⟨t, e1, seqT_same k1 e2⟩).app (.one (up ⟨u, rfl, ?_⟩))
    rw [← lq]
    exact SqT.of upd_same
  rintro H8 ⟨s8, acc, hD3, hacc⟩
  rw [lt, List.take_length] at hacc
  have hd8 := s8 _ _ (s7 _ _ hd6)
  have hl := length_mergeK (kvsN (.ref D1) (.ref D2) lf) []
  have hl3 : (mergeK [] (kvsN (.ref D1) (.ref D2) lf)).length ≤ 3 := hl
  refine ⟨_, rfl, d, _, rfl, DPut.k (k := Sum.inr ("calls" : Str)) hd8 (small1000 (by omega)), _, rfl, ?_⟩
  have n3d : D3 ≠ d := (ne_of_none (s7 _ _ hd6) n3).symm
  have R3 := hR.ne (free_same s07 n3)
  have s08 := s07.trans s8
  refine q d _ (same_mut s08 ndH) ndH ⟨?_, _, D1, D2, D3, acc, upd_same, Nat.le_trans (length_putK _ _ _) (by omega), ?_, ?_, ?_, ?_, (upd_ne n1d).trans (s8 _ _ (s7 _ _ hD16)), (upd_ne n2d).trans (s8 _ _ (s7 _ _ hD26)), (upd_ne n3d).trans hD3, hacc.imp fun x y h => h.n2 (nt_dK hd8) (nt_dK hd8) (fun b o' m1 _ e => (upd_ne m1).trans e), ⟨R1, R2, R3⟩, fun a h => nomatch h⟩
  · obtain ⟨c0, k0, d0, hr⟩ := hR
    exact ⟨c0, k0, d0, (upd_ne Rd.symm).trans (s08 _ _ hr)⟩
  · rw [valV_put, if_neg (by decide +kernel), valV_kvsN, if_neg (by decide +kernel), if_neg (by decide +kernel), if_pos rfl]
  · rw [valV_put, if_neg (by decide +kernel), valV_kvsN, if_neg (by decide +kernel), if_pos rfl]
  · rw [valV_put, if_pos rfl]
  · rw [valV_put, if_neg (by decide +kernel), valV_kvsN, if_pos rfl]
def sp__law_drawn (K : PySem.W.Frag) : Sp := fun us H Q _ => ∃ (g : Pg) (p : Pr) (r d : Addr) (lf : Int), us = [.ref r, .ref d] ∧ ShNe K H g p r [] d lf ∧ Hd g p ∧ ∀ (v : V) (e : Ex) (H' : Hp), Fr r H H' → RD H' r → Dp K H' v e.d → e.Gd (scp g.vs p) → Q v H'
theorem ok__law_drawn (T : Txt P K mg c) : Has P w K mg base 9 "_law_drawn" ["reader", "shape"] (sp__law_drawn K) := by
  obtain ⟨f, fd, F, m, b⟩ := T.d__law_drawn.ex
  obtain ⟨f__law_deep, fd__law_deep, G__law_deep, m__law_deep, k__law_deep, b__law_deep⟩ := ok__law_deep (P := P) (w := w) (base := base) T 5
  obtain ⟨f__law_next, fd__law_next, G__law_next, m__law_next, k__law_next, b__law_next⟩ := ok__law_next (P := P) (w := w) (base := base) T
  refine ⟨f, fd, F.ok sc__law_drawn (fun vs H Q E h => ?_) (fun cdv A outer s H vs Q E hr h => ?_), m, F.kp, b⟩
  · obtain ⟨g, p, r, d, lf, rfl, hs, hd, q⟩ := h
    rfl
  obtain ⟨g, p, r, d, lf, rfl, hs, hd, q⟩ := h
  refine ⟨_, (pss_one (ps_ret (pe_call G__law_deep (hr.mono (by decide)) (by rfl) m__law_deep k__law_deep b__law_deep .nil pass0 (pa_cons (pv 0) (pa_cons (pe_dget (dun hr) (pv 1) pe_str (fun _ _ => rfl)) (pa_cons (pe_call G__law_next (hr.mono (by decide)) (by rfl) m__law_next k__law_next b__law_next .nil pass0 (pa_cons (pv 0) (pa_cons pe_int pa_nil))) pa_nil)))))), ?_⟩
  obtain ⟨kvs, a1, a2, a3, xs, h0, hl, h1, h2, h3, h4, h5, h6, h7, h8, ⟨n1, n2, n3⟩, n⟩ := hs.ex
  have ln := hd.ln
  refine ⟨_, rfl, _, rfl, d, _, rfl, (h1 ▸ DGet.k h0 : DGet H d (kV (Sum.inr ("names" : Str))) (some (.ref a1))), _, rfl, r, 5, rfl, hs.rd, by decide, by decide, fun k H1 f1 R1 k0 k1 => ?_⟩
  obtain ⟨kn, rfl⟩ := Int.eq_ofNat_of_zero_le k0
  refine ⟨r, a1, kn, (scp g.vs p).map Vr.nm, rfl, R1, SqL.of (f1 _ _ n1 h5), n1, by rw [List.length_map]; omega, by omega, fun v e H2 f2 R2 he i9 n9 d5 => ?_⟩
  exact q v e H2 (f1.trans f2) R2 he ⟨i9, n9, by omega⟩


end
end Pf

namespace Pf
open PySem PySem.Spec PyProof.Rows L2
section
variable {P : Program} {w : World} {K : PySem.W.Frag} {mg : Str → Option Value} {base : Heap}
variable {c : Nat → Addr}
theorem and_seq {t1 t2 : TT} {a u : TS} {D : Ends} {σ : L2.St} {H : Hp} (c1 c2 : Prop) [Decidable c1] [Decidable c2] (h1 : ∀ Q : Bool → Hp → Prop, Q (decide c1) H → t1 σ H Q) (h2 : ∀ Q : Bool → Hp → Prop, Q (decide c2) H → t2 σ H Q) (ya : c1 → c2 → a { D with nx := u D } σ H) (nb : u D σ H) : tSeq (tIfS (tAnd t1 t2) a tNext) u D σ H := by
  refine h1 _ ?_
  by_cases e1 : c1
  · rw [decide_eq_true e1]
    refine iteT (h2 _ ?_)
    by_cases e2 : c2
    · rw [decide_eq_true e2]
      exact iteT (ya e1 e2)
    · rw [decide_eq_false e2]
      exact iteF nb
  · rw [decide_eq_false e1]
    exact iteF (iteF nb)
def Leaf (s : St) : Prop := (∀ (P : Nat → St → Prop) (m : Nat), P m s → allS P m s) ∧ cntS s = 1
theorem dg {H : Hp} {d : Addr} {kvs : List (Key × V)} {k : Key} {v : V} (h : H d = some (.dK kvs)) (e : valV kvs k = some v) : DGet H d (kV k) (some v) := by
  rw [← e]
  exact DGet.k h
theorem wide_mem {l : Int} {sc : List Vr} {y : Str} (h : y ∈ wideN l sc) : ∃ w ∈ sc, w.nm = y ∧ l + 1 ≤ w.sz := by
  obtain ⟨w, hw, rfl⟩ := List.mem_map.mp h
  obtain ⟨h1, h2⟩ := List.mem_filter.mp hw
  exact ⟨w, h1, rfl, by have := of_decide_eq_true h2; omega⟩
theorem at_str {ws : List Str} {i : Int} (h0 : 0 ≤ i) (h : i < ((ws.map V.str).length : Nat)) : ∃ y, y ∈ ws ∧ atI (ws.map V.str) i = some (.str y) := by
  obtain ⟨x, h1, h2⟩ := at_in (xs := ws.map V.str) h0 h
  rw [List.getElem?_map] at h1
  obtain ⟨y, ey, rfl⟩ := Option.map_eq_some_iff.mp h1
  exact ⟨y, List.mem_of_getElem? ey, h2⟩
def sp__law_plain (K : PySem.W.Frag) : Sp := fun us H Q _ => ∃ (g : Pg) (p : Pr) (r d : Addr) (lf : Int), us = [.ref r, .ref d] ∧ ShNe K H g p r [] d lf ∧ Hd g p ∧ ∀ (v : V) (s : St) (H' : Hp), Fr r H H' → RD H' r → Dp K H' v s.d → s.Loc g.l (scp g.vs p) g.ps → Leaf s → Q v H'
theorem ok__law_plain (T : Txt P K mg c) : Has P w K mg base 10 "_law_plain" ["reader", "shape"] (sp__law_plain K) := by
  obtain ⟨f, fd, F, m, b⟩ := T.d__law_plain.ex
  obtain ⟨f__law_next, fd__law_next, G__law_next, m__law_next, k__law_next, b__law_next⟩ := ok__law_next (P := P) (w := w) (base := base) T
  obtain ⟨f__law_drawn, fd__law_drawn, G__law_drawn, m__law_drawn, k__law_drawn, b__law_drawn⟩ := ok__law_drawn (P := P) (w := w) (base := base) T
  refine ⟨f, fd, F.ok sc__law_plain (fun vs H Q E h => ?_) (fun cdv A outer s H vs Q E hr h => ?_), m, F.kp, b⟩
  · obtain ⟨g, p, r, d, lf, rfl, hs0, hd, q⟩ := h
    rfl
  obtain ⟨g, p, r, d, lf, rfl, hs0, hd, q⟩ := h
  refine ⟨_, (pss_cons (ps_set (i := 2) sc__law_plain.nd rfl (.inl rfl) (pe_call G__law_next (hr.mono (by decide)) (by rfl) m__law_next k__law_next b__law_next .nil pass0 (pa_cons (pv 0) (pa_cons pe_int pa_nil))))
      (pss_cons (ps_set (i := 3) sc__law_plain.nd rfl (.inl rfl) (pe_dget (dun hr) (pv 1) pe_str (fun _ _ => rfl)))
      (pss_cons (ps_if (PW.pt (pw_and (pt_cmpR op_lt (pv 2) pe_int (nomark _)) (pw_and1 (pt_cmpR op_gt (pe_callB call_len_seq (by rfl) T.z_len (by decide +kernel) (pa_cons (pe_dget (dun hr) (pv 1) pe_str (fun _ _ => rfl)) pa_nil)) pe_int (nomark _)))))
      (pss_one (ps_ret (pe_tup (pa_cons pe_str (pa_cons (pe_ix ix_list (pe_dget (dun hr) (pv 1) pe_str (fun _ _ => rfl)) (pe_call G__law_next (hr.mono (by decide)) (by rfl) m__law_next k__law_next b__law_next .nil pass0 (pa_cons (pv 0) (pa_cons (pe_callB call_len_seq (by rfl) T.z_len (by decide +kernel) (pa_cons (pe_dget (dun hr) (pv 1) pe_str (fun _ _ => rfl)) pa_nil)) pa_nil))) (fun _ _ => rfl)) pa_nil)))))
      pss_nil)
      (pss_cons (ps_if (PW.pt (pw_and (pt_cmpR op_lt (pv 2) pe_int (nomark _)) (pw_and1 (pt_cmpR op_gt (pe_callB call_len_seq (by rfl) T.z_len (by decide +kernel) (pa_cons (pe_dget (dun hr) (pv 1) pe_str (fun _ _ => rfl)) pa_nil)) pe_int (nomark _)))))
      (pss_cons (ps_set (i := 4) sc__law_plain.nd rfl (.inl rfl) (pe_ix ix_list (pe_dget (dun hr) (pv 1) pe_str (fun _ _ => rfl)) (pe_call G__law_next (hr.mono (by decide)) (by rfl) m__law_next k__law_next b__law_next .nil pass0 (pa_cons (pv 0) (pa_cons (pe_callB call_len_seq (by rfl) T.z_len (by decide +kernel) (pa_cons (pe_dget (dun hr) (pv 1) pe_str (fun _ _ => rfl)) pa_nil)) pa_nil))) (fun _ _ => rfl)))
        (pss_one (ps_ret (pe_tup (pa_cons pe_str (pa_cons (pe_ix ix_tup (pv 4) pe_int (fun _ _ => rfl)) (pa_cons (pe_callTy call_tuple_of (by rfl) T.z_tuple (by decide +kernel) (pa_cons (pe_lc (own := [("k", 5)]) (g := gName 5) (by rfl) sc__law_plain.nd (pi_range1 (by rfl) T.z_range (pa_cons (pe_ix ix_tup (pv 4) pe_int (fun _ _ => rfl)) pa_nil)) (blkOk_by (own := [("k", 5)]) (N := ["reader", "shape", "kind", "names", "called", "k"]) (sc := defScope s__law_plain) (by decide +kernel)) (fun _ _ _ _ _ => pg_name (i := 5) sc__law_plain.nd rfl (Or.inl rfl)) (fun _ _ _ _ _ => pts_nil) (fun _ _ _ _ _ => (pe_call G__law_drawn (hr.mono (by decide)) (by rfl) m__law_drawn k__law_drawn b__law_drawn .nil pass0 (pa_cons (pv 0) (pa_cons (pv 1) pa_nil))))) pa_nil)) pa_nil)))))))
      pss_nil)
      (pss_cons (ps_if (PW.pt (pw_and (pt_cmpR op_lt (pv 2) pe_int (nomark _)) (pw_and1 (pt_cmpR op_gt (pe_callB call_len_seq (by rfl) T.z_len (by decide +kernel) (pa_cons (pv 3) pa_nil)) pe_int (nomark _)))))
      (pss_one (ps_ret (pe_tup (pa_cons pe_str (pa_cons (pe_ix ix_list (pv 3) (pe_call G__law_next (hr.mono (by decide)) (by rfl) m__law_next k__law_next b__law_next .nil pass0 (pa_cons (pv 0) (pa_cons (pe_callB call_len_seq (by rfl) T.z_len (by decide +kernel) (pa_cons (pv 3) pa_nil)) pa_nil))) (fun _ _ => rfl)) (pa_cons (pe_call G__law_drawn (hr.mono (by decide)) (by rfl) m__law_drawn k__law_drawn b__law_drawn .nil pass0 (pa_cons (pv 0) (pa_cons (pv 1) pa_nil))) pa_nil))))))
      pss_nil)
      (pss_cons (ps_if (pt_cmpR op_eq (pv 2) pe_int (nomark _))
      (pss_one (ps_ret (pe_tup (pa_cons pe_str pa_nil))))
      pss_nil)
      (pss_one (ps_ret (pe_tup (pa_cons pe_str (pa_cons (pe_call G__law_drawn (hr.mono (by decide)) (by rfl) m__law_drawn k__law_drawn b__law_drawn .nil pass0 (pa_cons (pv 0) (pa_cons (pv 1) pa_nil))) pa_nil))))))))))), ?_⟩
  refine ⟨_, rfl, r, 8, rfl, hs0.rd, by decide, by decide, fun k H1 f1 R1 k0 k1 => ?_⟩
  have hs := hs0.R f1 R1
  have ln := hd.ln
  have p5 := hd.p5
  obtain ⟨kvs, a1, a2, a3, xs, h0, hl, h1, h2, h3, h4, h5, h6, h7, h8, ⟨n1, n2, n3⟩, n⟩ := hs.ex
  have lx := h8.1
  rw [List.length_tail] at lx
  have lw : ((wideN g.l (scp g.vs p)).map V.str).length ≤ 10 := by
    unfold wideN
    rw [List.length_map, List.length_map]
    exact Nat.le_trans (List.length_filter_le _ _) ln
  have lm : (((scp g.vs p).map Vr.nm).map V.str).length ≤ 10 := by
    rw [List.length_map, List.length_map]
    exact ln
  refine ⟨_, rfl, d, _, rfl, dg h0 h1, ?_⟩
  refine gname_to ?_
  dsimp only
  refine and_seq (k < 2) ((0 : Int) < (((wideN g.l (scp g.vs p)).map V.str).length : Nat)) (fun Q q => ⟨_, rfl, _, _, rfl, rfl, _, rfl, q⟩) (fun Q q => ⟨_, rfl, d, _, rfl, dg h0 h2, a2, _, rfl, .inl (SqL.of h6), _, _, rfl, rfl, _, rfl, q⟩) (fun e1 e2 => ?_) ?_
  · refine ⟨_, rfl, d, _, rfl, dg h0 h2, _, rfl, _, rfl, d, _, rfl, dg h0 h2, a2, _, rfl, .inl (SqL.of h6), r, _, rfl, R1, by omega, by omega, fun v3 H3 f3 R3 b0 b1 => ?_⟩
    obtain ⟨y, hy, ey⟩ := at_str b0 b1
    refine ⟨a2, _, _, _, rfl, rfl, SqL.of (f3 _ _ n2 h6), ey, by show 2 ≤ sizeLine; decide, fun t nt => ?_⟩
    exact q (.ref t) (.read y) _ (f1.trans (f3.trans (Fr.new nt))) (R3.of (same_new nt)) (by rw [St.d]; exact .tup (SqT.of upd_same) (.cons (.str _) (.cons (.str _) .nil))) (wide_mem hy) ⟨fun P m h => by rw [allS]; exact h, by rw [cntS]⟩
  refine and_seq (k < 4) ((0 : Int) < (xs.length : Nat)) (fun Q q => ⟨_, rfl, _, _, rfl, rfl, _, rfl, q⟩) (fun Q q => ⟨_, rfl, d, _, rfl, dg h0 h3, a3, _, rfl, .inl (SqL.of h7), _, _, rfl, rfl, _, rfl, q⟩) (fun e1 e2 => ?_) ?_
  · refine ⟨_, rfl, d, _, rfl, dg h0 h3, _, rfl, _, rfl, d, _, rfl, dg h0 h3, a3, _, rfl, .inl (SqL.of h7), r, _, rfl, R1, by omega, by omega, fun v3 H3 f3 R3 b0 b1 => ?_⟩
    obtain ⟨x, ex, ei⟩ := at_in b0 b1
    obtain ⟨q', eq', t, rfl, ht⟩ := h8.at ex
    have ht3 := seqT_n2 hs.rd.nt hs.rd.nt (fr1_2 f3) ht
    have p3 := hd.p3 q' (List.mem_of_mem_tail (List.mem_of_getElem? eq'))
    have f13 := f1.trans f3
    have hs3 := hs.R f3 R3
    refine ⟨a3, _, _, _, rfl, rfl, SqL.of (f3 _ _ n3 h7), ei, _, rfl, t, _, _, _, rfl, rfl, ht3, atI_nat (j := 0) rfl, _, rfl, t, _, _, _, rfl, rfl, ht3, atI_nat (j := 1) rfl, (q'.ps.length : Int), rfl, by omega, by omega, fun D nD => ?_⟩
    rw [Int.toNat_natCast]
    have nDr : D ≠ r := R3.ne nD
    refine lc_range (lo := 0) (n := q'.ps.length) (fun i H' => Fr r H3 H' ∧ RD H' r ∧ ∃ (zs : List V) (es : List Ex), H' D = some (.lst zs) ∧ DpAll K H' zs (es.map Ex.d) ∧ es.length = i ∧ ∀ e ∈ es, e.Gd (scp g.vs p)) ⟨Fr.new nD, R3.of (same_new nD), [], [], upd_same, .nil, rfl, fun e h => nomatch h⟩ (fun i H4 hi h => ?_) (fun H4 h => ?_)
    · obtain ⟨f4, R4, zs, es, hD, hz, le, ge⟩ := h
      refine ⟨rfl, _, rfl, _, rfl, g, p, r, d, lf, rfl, hs3.R f4 R4, hd, fun v e H5 f5 R5 he hg => ?_⟩
      have lz := dpa_len hz
      rw [List.length_map] at lz
      have te : ∀ dd ∈ es.map Ex.d, tupOk 6 dd := fun dd h => by
        obtain ⟨e, h', rfl⟩ := List.mem_map.mp h
        exact tup_ex (ge e h').d5
      have hz5 := dpa_f1 R4.l f5 6 te hz
      have hD5 := f5 _ _ nDr hD
      refine ⟨zs, hD5, small1000 (by omega), (f4.trans f5).mut nD, ?_, zs ++ [v], es ++ [e], upd_same, ?_, by rw [List.length_append, le]; rfl, fun e' h => ?_⟩
      · obtain ⟨x1, x2, x3, x4⟩ := R5
        exact ⟨x1, x2, x3, (upd_ne nDr.symm).trans x4⟩
      · rw [List.map_append]
        exact dpa_app (dpa_mut hD5 6 te hz5) (dp_mut hD5 6 (tup_ex hg.d5) he)
      · rcases List.mem_append.mp h with h | h
        · exact ge e' h
        · rcases List.mem_singleton.mp h with rfl
          exact hg
    · obtain ⟨f4, R4, zs, es, hD, hz, le, ge⟩ := h
      refine ⟨D, _, rfl, .inl ⟨SqL.of hD, fun u nu => ⟨by show 3 ≤ sizeLine; decide, fun w nw => ?_⟩⟩⟩
      have k1 := same_new (o := .tup zs) nu
      have k2 := k1.trans (same_new (o := .tup [.str "call", .str q'.nm, .ref u]) nw)
      refine q (.ref w) (.call q'.nm es) _ (f13.trans (f4.trans (Fr.of k2))) (R4.of k2) (by rw [St.d]; exact .tup (SqT.of upd_same) (.cons (.str _) (.cons (.str _) (.cons (.tup (SqT.of (same_new nw _ _ upd_same)) (dpa_same k2 hz)) .nil)))) ⟨⟨q', List.mem_of_getElem? eq', rfl, le.symm⟩, ge⟩ ⟨fun P m h => by rw [allS]; exact h, by rw [cntS]⟩
  refine and_seq (k < 6) ((0 : Int) < ((((scp g.vs p).map Vr.nm).map V.str).length : Nat)) (fun Q q => ⟨_, rfl, _, _, rfl, rfl, _, rfl, q⟩) (fun Q q => ⟨_, rfl, a1, _, rfl, .inl (SqL.of h5), _, _, rfl, rfl, _, rfl, q⟩) (fun e1 e2 => ?_) ?_
  · refine ⟨_, rfl, _, rfl, _, rfl, a1, _, rfl, .inl (SqL.of h5), r, _, rfl, R1, by omega, by omega, fun v3 H3 f3 R3 b0 b1 => ?_⟩
    obtain ⟨y, hy, ey⟩ := at_str b0 b1
    refine ⟨a1, _, _, _, rfl, rfl, SqL.of (f3 _ _ n1 h5), ey, _, rfl, _, rfl, g, p, r, d, lf, rfl, hs.R f3 R3, hd, fun v e H5 f5 R5 he hg => ⟨by show 3 ≤ sizeLine; decide, fun t nt => ?_⟩⟩
    exact q (.ref t) (.set y e) _ (f1.trans (f3.trans (f5.trans (Fr.new nt)))) (R5.of (same_new nt)) (by rw [St.d]; exact .tup (SqT.of upd_same) (.cons (.str _) (.cons (.str _) (.cons (dp_same (same_new nt) he) .nil)))) ⟨hy, hg⟩ ⟨fun P m h => by rw [allS]; exact h, by rw [cntS]⟩
  refine ⟨_, rfl, rfl, _, rfl, ite2 (fun e => ?_) (fun e => ?_)⟩
  · refine ⟨by show 1 ≤ sizeLine; decide, fun t nt => ?_⟩
    exact q (.ref t) .skip _ (f1.trans (Fr.new nt)) (R1.of (same_new nt)) (by rw [St.d]; exact .tup (SqT.of upd_same) (.cons (.str _) .nil)) True.intro ⟨fun P m h => by rw [allS]; exact h, by rw [cntS]⟩
  · refine ⟨_, rfl, _, rfl, g, p, r, d, lf, rfl, hs, hd, fun v e H5 f5 R5 he hg => ⟨by show 2 ≤ sizeLine; decide, fun t nt => ?_⟩⟩
    exact q (.ref t) (.write e) _ (f1.trans (f5.trans (Fr.new nt))) (R5.of (same_new nt)) (by rw [St.d]; exact .tup (SqT.of upd_same) (.cons (.str _) (.cons (dp_same (same_new nt) he) .nil))) hg ⟨fun P m h => by rw [allS]; exact h, by rw [cntS]⟩


end
end Pf

namespace Pf
open PySem PySem.Spec PyProof.Rows L2
section
variable {P : Program} {w : World} {K : PySem.W.Frag} {mg : Str → Option Value} {base : Heap}
variable {c : Nat → Addr}
def sp__law_body (K : PySem.W.Frag) (n : Nat) : Sp := fun us H Q _ => ∃ (g : Pg) (p : Pr) (r d : Addr) (ap : List Addr) (lf : Int) (mo k : Nat), us = [.ref r, .ref d, .int (mo : Nat), .int (k : Nat)] ∧ ShNe K H g p r ap d lf ∧ Hd g p ∧ mo ≤ 20 ∧ k ≤ 5 ∧ k < n ∧ 0 ≤ lf ∧ lf ≤ 60 ∧
  ∀ (v : V) (b : List St) (H' : Hp) (lf' : Int), Fr2 r d H H' → ShNe K H' g p r ap d lf' → Dp K H' v (.tuple (stDs b)) → allB (Gs g p) (6 - k) b → 0 ≤ lf' → (cntB b : Int) + lf' = lf → b.length ≤ mo → Q v H'
def sp__law_statement (K : PySem.W.Frag) (n : Nat) : Sp := fun us H Q _ => ∃ (g : Pg) (p : Pr) (r d : Addr) (ap : List Addr) (lf : Int) (k : Nat), us = [.ref r, .ref d, .int (k : Nat)] ∧ ShNe K H g p r ap d lf ∧ Hd g p ∧ k ≤ 5 ∧ k < n ∧ 0 ≤ lf ∧ lf ≤ 59 ∧
  ∀ (v : V) (s : St) (H' : Hp) (lf' : Int), Fr2 r d H H' → ShNe K H' g p r ap d lf' → Dp K H' v s.d → allS (Gs g p) (6 - k) s → 0 ≤ lf' → (cntS s : Int) + lf' = lf + 1 → Q v H'
theorem ok__law_body_of (T : Txt P K mg c) {n : Nat} (R : Has P w K mg base (2 * n + 11) "_law_statement" ["reader", "shape", "depth"] (sp__law_statement K n)) : Has P w K mg base (2 * n + 12) "_law_body" ["reader", "shape", "most", "depth"] (sp__law_body K n) := by
  obtain ⟨f__law_statement, fd__law_statement, G__law_statement, m__law_statement, k__law_statement, b__law_statement⟩ := R
  obtain ⟨f, fd, F, m, b⟩ := T.d__law_body.ex
  obtain ⟨f__law_next, fd__law_next, G__law_next, m__law_next, k__law_next, b__law_next⟩ := ok__law_next (P := P) (w := w) (base := base) T
  refine ⟨f, fd, F.ok sc__law_body (fun vs H Q E h => ?_) (fun cdv A outer s H vs Q E hr h => ?_), m, F.kp, b⟩
  · obtain ⟨g, p, r, d, ap, lf, mo, k, rfl, hs, hd, hm, h5, hn, l0, l60, q⟩ := h
    rfl
  obtain ⟨g, p, r, d, ap, lf, mo, k, rfl, hs, hd, hm, h5, hn, l0, l60, q⟩ := h
  refine ⟨_, (pss_cons (ps_set (i := 4) sc__law_body.nd rfl (.inl rfl) (pe_lst pa_nil))
      (pss_cons (ps_for PassesOwn.never rfl (pi_range1 (by rfl) T.z_range (pa_cons (pe_call G__law_next (hr.mono (by omega)) (by rfl) m__law_next k__law_next b__law_next .nil pass0 (pa_cons (pv 0) (pa_cons (pe_op op_add (pv 2) pe_int) pa_nil))) pa_nil)) (pg_name (i := 5) sc__law_body.nd rfl (.inl rfl))
      (pss_one (ps_if (pt_cmpR op_gt (pe_dget (dun hr) (pv 1) pe_str (fun _ _ => rfl)) pe_int (nomark _))
        (pss_cons (ps_dput (dun hr) (pv 1) pe_str (pe_op op_sub (pe_dget (dun hr) (pv 1) pe_str (fun _ _ => rfl)) pe_int) (by rfl))
          (pss_one (ps_expr (pe_bm PySem.F.plainAttrs_list PySem.F.slot_list_append PySem.F.type_list_append mt_append (pv 4) (pa_cons (pe_call G__law_statement (hr.mono (by omega)) (by rfl) m__law_statement k__law_statement b__law_statement .nil pass0 (pa_cons (pv 0) (pa_cons (pv 1) (pa_cons (pv 3) pa_nil)))) pa_nil)))))
        pss_nil)))
      (pss_one (ps_ret (pe_callTy call_tuple_of (by rfl) T.z_tuple (by decide +kernel) (pa_cons (pv 4) pa_nil)))))), ?_⟩
  refine ⟨by show 0 ≤ sizeLine; decide, fun D nD => ?_⟩
  have s0 := same_new (o := .lst []) nD
  have hD0 := upd_same (H := H) (a := D) (o := .lst [])
  have hs0 := (hs.add nD).same s0
  have nDr : D ≠ r := hs.rd.ne nD
  have nDd : D ≠ d := by
    obtain ⟨kvs, _, _, _, _, h, _⟩ := hs.ex
    exact (ne_of_none h nD).symm
  generalize upd H D (.lst []) = H0 at s0 hD0 hs0 ⊢
  refine ⟨_, rfl, _, rfl, _, _, rfl, rfl, r, (mo : Int) + 1, rfl, hs0.rd, by omega, by omega, fun cn H1 f1 R1 c0 c1 => ⟨cn, rfl, by omega, by omega, ?_⟩⟩
  refine for_range (fun i σ H' => ∃ (y5 : Option V) (zs : List V) (b : List St) (lf' : Int), σ = [some (.ref r), some (.ref d), some (.int (mo : Nat)), some (.int (k : Nat)), some (.ref D), y5] ∧ Fr2 r d H H' ∧ ShNe K H' g p r (D :: ap) d lf' ∧ H' D = some (.lst zs) ∧ DpAll K H' zs (stDs b) ∧ allB (Gs g p) (6 - k) b ∧ 0 ≤ lf' ∧ (cntB b : Int) + lf' = lf ∧ b.length ≤ i)
    ⟨_, [], [], lf, rfl, (Fr2.of (Fr.of s0)).trans (Fr2.of f1), hs0.R f1 R1, f1 _ _ nDr hD0, (by rw [stDs]; exact .nil), (by rw [allB]; trivial), l0, (by rw [cntB]; omega), Nat.le_refl _⟩ ?_ ?_
  · rintro i σ H2 hi ⟨y5, zs, b, lf', rfl, f2, hs2, hD, hz, hb, p0, ec, lb⟩
    obtain ⟨kvs, a1, a2, a3, xs, h0, hl, _, _, _, h4, _⟩ := hs2.ex
    have lz := dpa_len hz
    rw [stDs_len] at lz
    have i20 : i < 20 := by
      have : i < cn.toNat := hi
      omega
    have tz : ∀ dd ∈ stDs b, tupOk 20 dd := fun dd h => by
      rw [stDs_map] at h
      obtain ⟨s, h', rfl⟩ := List.mem_map.mp h
      have := cntB_mem h'
      exact tup_st hd (allB_mem hb s h') (by omega) (by omega)
    refine ⟨_, rfl, d, _, rfl, dg h0 h4, _, _, rfl, rfl, _, rfl, ite2 (fun e => ?_) (fun e => ?_)⟩
    · have lp := dec_t e
      refine ⟨_, rfl, d, _, rfl, dg h0 h4, _, _, rfl, rfl, _, rfl, d, _, rfl, DPut.k (k := Sum.inr ("left" : Str)) h0 (small1000 (by omega)), ?_⟩
      have hs3 := hs2.left (lf' := lf' - 1) h0
      have f3 := f2.trans (Fr2.upd (r := r) (o := .dK (putK kvs (Sum.inr ("left" : Str)) (.int (lf' - 1)))))
      have hD3 := (upd_ne nDd (H := H2) (o := .dK (putK kvs (Sum.inr ("left" : Str)) (.int (lf' - 1))))).trans hD
      have hz3 := dpa_n2 hs2.rd.nt hs2.nt (Fr2.upd (r := r) (o := .dK (putK kvs (Sum.inr ("left" : Str)) (.int (lf' - 1))))) 20 tz hz
      generalize upd H2 d (.dK (putK kvs (Sum.inr ("left" : Str)) (.int (lf' - 1)))) = H3 at hs3 f3 hD3 hz3 ⊢
      refine ⟨_, rfl, .inl ⟨rfl, _, SqL.of hD3⟩, _, rfl, _, rfl, _, rfl, g, p, r, d, D :: ap, lf' - 1, k, rfl, hs3, hd, h5, hn, by omega, by omega, fun v s H4 lf4 f4 hs4 hv hall p4 ec4 => ?_⟩
      have hD4 := f4 _ _ nDr nDd hD3
      have hz4 := dpa_n2 hs3.rd.nt hs3.nt f4 20 tz hz3
      refine ⟨D, zs, _, rfl, rfl, hD4, small1000 (by omega), ?_⟩
      refine ⟨_, zs ++ [v], b ++ [s], lf4, rfl, (f3.trans f4).mut nD, hs4.upd hD4 List.mem_cons_self nDr, upd_same, ?_, allB_app hb (by rw [allB, allB]; exact ⟨hall, trivial⟩), p4, ?_, by rw [List.length_append, List.length_singleton]; omega⟩
      · rw [stDs_app, stDs, stDs]
        refine dpa_app (dpa_mut hD4 20 tz hz4) (dp_mut hD4 20 (tup_st hd hall (by omega) (by omega)) hv)
      · rw [cntB_app, cntB, cntB]
        omega
    · exact ⟨_, zs, b, lf', rfl, f2, hs2, hD, hz, hb, p0, ec, by omega⟩
  · rintro σ H2 ⟨y5, zs, b, lf', rfl, f2, hs2, hD, hz, hb, p0, ec, lb⟩
    refine ⟨_, rfl, D, zs, rfl, .inl ⟨SqL.of hD, fun u nu => ?_⟩⟩
    have lb' : b.length ≤ cn.toNat := lb
    exact q (.ref u) b _ lf' (f2.trans (Fr2.new nu)) ((hs2.sub fun a h => List.mem_cons_of_mem _ h).same (same_new nu)) (.tup (SqT.of upd_same) (dpa_same (same_new nu) hz)) hb p0 ec (by omega)
theorem ok__law_statement_of (T : Txt P K mg c) {n : Nat} (R : Has P w K mg base (2 * n + 12) "_law_body" ["reader", "shape", "most", "depth"] (sp__law_body K n)) : Has P w K mg base (2 * n + 13) "_law_statement" ["reader", "shape", "depth"] (sp__law_statement K (n + 1)) := by
  obtain ⟨f__law_body, fd__law_body, G__law_body, m__law_body, k__law_body, b__law_body⟩ := R
  obtain ⟨f, fd, F, m, b⟩ := T.d__law_statement.ex
  obtain ⟨f__law_next, fd__law_next, G__law_next, m__law_next, k__law_next, b__law_next⟩ := ok__law_next (P := P) (w := w) (base := base) T
  obtain ⟨f__law_plain, fd__law_plain, G__law_plain, m__law_plain, k__law_plain, b__law_plain⟩ := ok__law_plain (P := P) (w := w) (base := base) T
  obtain ⟨f__law_drawn, fd__law_drawn, G__law_drawn, m__law_drawn, k__law_drawn, b__law_drawn⟩ := ok__law_drawn (P := P) (w := w) (base := base) T
  refine ⟨f, fd, F.ok sc__law_statement (fun vs H Q E h => ?_) (fun cdv A outer s H vs Q E hr h => ?_), m, F.kp, b⟩
  · obtain ⟨g, p, r, d, ap, lf, k, rfl, hs, hd, h5, hn, l0, l59, q⟩ := h
    rfl
  obtain ⟨g, p, r, d, ap, lf, k, rfl, hs, hd, h5, hn, l0, l59, q⟩ := h
  refine ⟨_, (pss_cons (ps_set (i := 3) sc__law_statement.nd rfl (.inl rfl) (pe_call G__law_next (hr.mono (by omega)) (by rfl) m__law_next k__law_next b__law_next .nil pass0 (pa_cons (pv 0) (pa_cons pe_int pa_nil))))
      (pss_cons (ps_if (PW.pt (pw_or (pt_cmpR op_gt (pv 3) pe_int (nomark _)) (pw_or1 (pt_cmpR op_eq (pv 2) pe_int (nomark _)))))
      (pss_one (ps_ret (pe_call G__law_plain (hr.mono (by omega)) (by rfl) m__law_plain k__law_plain b__law_plain .nil pass0 (pa_cons (pv 0) (pa_cons (pv 1) pa_nil)))))
      pss_nil)
      (pss_cons (ps_set (i := 4) sc__law_statement.nd rfl (.inl rfl) (pe_call G__law_drawn (hr.mono (by omega)) (by rfl) m__law_drawn k__law_drawn b__law_drawn .nil pass0 (pa_cons (pv 0) (pa_cons (pv 1) pa_nil))))
      (pss_cons (ps_set (i := 5) sc__law_statement.nd rfl (.inl rfl) (pe_call G__law_body (hr.mono (by omega)) (by rfl) m__law_body k__law_body b__law_body .nil pass0 (pa_cons (pv 0) (pa_cons (pv 1) (pa_cons pe_int (pa_cons (pe_op op_sub (pv 2) pe_int) pa_nil))))))
      (pss_cons (ps_if (pt_cmpR op_eq (pv 3) pe_int (nomark _))
      (pss_one (ps_ret (pe_tup (pa_cons pe_str (pa_cons (pv 4) (pa_cons (pv 5) pa_nil))))))
      pss_nil)
      (pss_one (ps_ret (pe_tup (pa_cons pe_str (pa_cons (pv 4) (pa_cons (pv 5) (pa_cons (pe_call G__law_body (hr.mono (by omega)) (by rfl) m__law_body k__law_body b__law_body .nil pass0 (pa_cons (pv 0) (pa_cons (pv 1) (pa_cons pe_int (pa_cons (pe_op op_sub (pv 2) pe_int) pa_nil))))) pa_nil)))))))))))), ?_⟩
  refine ⟨_, rfl, r, 7, rfl, hs.rd, by decide, by decide, fun kd H1 f1 R1 k0 k1 => ?_⟩
  have hs1 := hs.R f1 R1
  have leaf : ∀ (v : V) (s : St) (H2 : Hp), Fr r H1 H2 → RD H2 r → Dp K H2 v s.d → s.Loc g.l (scp g.vs p) g.ps → Leaf s → Q v H2 := fun v s H2 f2 R2 hv loc lf' => q v s H2 lf (Fr2.of (f1.trans f2)) (hs1.R f2 R2) hv (lf'.1 _ _ ⟨by omega, loc⟩) l0 (by rw [lf'.2]; omega)
  refine ⟨_, rfl, _, _, rfl, rfl, _, rfl, ite2 (fun e => iteT ⟨_, rfl, _, rfl, g, p, r, d, lf, rfl, hs1.sub (fun a h => nomatch h), hd, leaf⟩) (fun e => ⟨_, rfl, rfl, _, rfl, ite2 (fun e2 => ⟨_, rfl, _, rfl, g, p, r, d, lf, rfl, hs1.sub (fun a h => nomatch h), hd, leaf⟩) (fun e2 => ?_)⟩)⟩
  obtain ⟨k', rfl⟩ : ∃ k', k = k' + 1 := ⟨k - 1, by
    rcases k with _ | k
    · exact absurd (decide_eq_true rfl) e2
    · rfl⟩
  have ek : (((k' + 1 : Nat) : Int) - 1) = (k' : Nat) := by omega
  have e6 : 6 - (k' + 1) + 1 = 6 - k' := by omega
  refine ⟨_, rfl, _, rfl, g, p, r, d, lf, rfl, hs1.sub (fun a h => nomatch h), hd, fun te ex H2 f2 R2 ht gt => ?_⟩
  have hs2 := hs1.R f2 R2
  refine ⟨_, rfl, _, rfl, _, rfl, _, _, rfl, rfl, g, p, r, d, ap, lf, 3, k', congrArg (fun z => [V.ref r, V.ref d, V.int 3, V.int z]) ek, hs2, hd, by decide, by omega, by omega, l0, by omega, fun v b H3 lf3 f3 hs3 hv hb p3 ec3 lb => ?_⟩
  have f13 : Fr2 r d H H3 := (Fr2.of (f1.trans f2)).trans f3
  have ht3 := dp_n2 hs2.rd.nt hs2.nt f3 6 (tup_ex gt.d5) ht
  refine ⟨_, rfl, rfl, _, rfl, ite2 (fun e3 => ?_) (fun e3 => ?_)⟩
  · refine ⟨_, rfl, _, rfl, by show 3 ≤ sizeLine; decide, fun t nt => ?_⟩
    refine q (.ref t) (.whi ex b) _ lf3 (f13.trans (Fr2.new nt)) (hs3.same (same_new nt)) ?_ ?_ p3 (by rw [cntS]; omega)
    · rw [St.d]
      exact .tup (SqT.of upd_same) (.cons (.str _) (.cons (dp_same (same_new nt) ht3) (.cons (dp_same (same_new nt) hv) .nil)))
    · rw [allS, e6]
      exact ⟨⟨by omega, gt⟩, hb⟩
  · refine ⟨_, rfl, _, rfl, _, rfl, _, rfl, _, rfl, _, _, rfl, rfl, g, p, r, d, ap, lf3, 2, k', congrArg (fun z => [V.ref r, V.ref d, V.int 2, V.int z]) ek, hs3, hd, by decide, by omega, by omega, p3, by omega, fun v4 b4 H4 lf4 f4 hs4 hv4 hb4 p4 ec4 lb4 => ⟨by show 4 ≤ sizeLine; decide, fun t nt => ?_⟩⟩
    have ht4 := dp_n2 hs3.rd.nt hs3.nt f4 6 (tup_ex gt.d5) ht3
    have hv' := dp_n2 hs3.rd.nt hs3.nt f4 21 (tup_body hd hb (by omega) (by omega)) hv
    refine q (.ref t) (.ifs ex b b4) _ lf4 (f13.trans (f4.trans (Fr2.new nt))) (hs4.same (same_new nt)) ?_ ?_ p4 (by rw [cntS]; omega)
    · rw [St.d]
      exact .tup (SqT.of upd_same) (.cons (.str _) (.cons (dp_same (same_new nt) ht4) (.cons (dp_same (same_new nt) hv') (.cons (dp_same (same_new nt) hv4) .nil))))
    · rw [allS, e6]
      exact ⟨⟨by omega, gt⟩, hb, hb4⟩
theorem ok__law_body (T : Txt P K mg c) : ∀ n : Nat, Has P w K mg base (2 * n + 12) "_law_body" ["reader", "shape", "most", "depth"] (sp__law_body K n)
  | 0 => ok__law_body_of T (.none T.d__law_statement fun vs H Q E h => by
      obtain ⟨_, _, _, _, _, _, _, _, _, _, _, hn, _⟩ := h
      omega)
  | n + 1 => ok__law_body_of T (ok__law_statement_of T (ok__law_body T n))


end
end Pf

namespace Pf
open PySem PySem.Spec PyProof.Rows L2
section
variable {P : Program} {w : World} {K : PySem.W.Frag} {mg : Str → Option Value} {base : Heap}
variable {c : Nat → Addr}
def sp__law_tower (K : PySem.W.Frag) (n : Nat) : Sp := fun us H Q _ => ∃ (g : Pg) (p : Pr) (r d : Addr) (ap : List Addr) (lf : Int) (k : Nat), us = [.ref r, .ref d, .int (k : Nat)] ∧ ShNe K H g p r ap d lf ∧ Hd g p ∧ k ≤ 5 ∧ k < n ∧ 0 ≤ lf ∧ lf ≤ 54 ∧
  ∀ (v : V) (s : St) (H' : Hp) (lf' : Int), Fr2 r d H H' → ShNe K H' g p r ap d lf' → Dp K H' v s.d → allS (Gs g p) (6 - k) s → 0 ≤ lf' → (cntS s : Int) + lf' = lf + (k : Nat) + 1 → Q v H'
theorem dp_parts {K : PySem.W.Frag} {H : Hp} {v : V} {b : List St} (h : Dp K H v (.tuple (stDs b))) : ∃ a xs, v = .ref a ∧ SqT K H a xs ∧ DpAll K H xs (stDs b) ∧ xs.length = b.length := by
  obtain ⟨a, xs, e, hq, hk⟩ := dp_tup' h
  exact ⟨a, xs, e, hq, hk, by rw [← stDs_len b]; exact dpa_len hk⟩
theorem len_cnt : ∀ b : List St, b.length ≤ cntB b
  | [] => Nat.zero_le _
  | s :: b => by
    have := len_cnt b
    have : 1 ≤ cntS s := by cases s <;> rw [cntS] <;> omega
    rw [cntB, List.length_cons]
    omega
theorem ok__law_tower (T : Txt P K mg c) : ∀ n : Nat, Has P w K mg base (n + 15) "_law_tower" ["reader", "shape", "depth"] (sp__law_tower K n)
| 0 => .none T.d__law_tower fun vs H Q E h => by
    obtain ⟨_, _, _, _, _, _, _, _, _, _, _, hn, _⟩ := h
    omega
| n + 1 => by
  obtain ⟨f__law_tower, fd__law_tower, G__law_tower, m__law_tower, k__law_tower, b__law_tower⟩ := ok__law_tower T n
  obtain ⟨f, fd, F, m, b⟩ := T.d__law_tower.ex
  obtain ⟨f__law_plain, fd__law_plain, G__law_plain, m__law_plain, k__law_plain, b__law_plain⟩ := ok__law_plain (P := P) (w := w) (base := base) T
  obtain ⟨f__law_drawn, fd__law_drawn, G__law_drawn, m__law_drawn, k__law_drawn, b__law_drawn⟩ := ok__law_drawn (P := P) (w := w) (base := base) T
  obtain ⟨f__law_body, fd__law_body, G__law_body, m__law_body, k__law_body, b__law_body⟩ := ok__law_body (P := P) (w := w) (base := base) T 1
  obtain ⟨f__law_next, fd__law_next, G__law_next, m__law_next, k__law_next, b__law_next⟩ := ok__law_next (P := P) (w := w) (base := base) T
  refine ⟨f, fd, F.ok sc__law_tower (fun vs H Q E h => ?_) (fun cdv A outer s H vs Q E hr h => ?_), m, F.kp, b⟩
  · obtain ⟨g, p, r, d, ap, lf, k, rfl, hs, hd, h5, hn, l0, l54, q⟩ := h
    rfl
  obtain ⟨g, p, r, d, ap, lf, k, rfl, hs, hd, h5, hn, l0, l54, q⟩ := h
  refine ⟨_, (pss_cons (ps_if (pt_cmpR op_eq (pv 2) pe_int (nomark _))
      (pss_one (ps_ret (pe_call G__law_plain (hr.mono (by omega)) (by rfl) m__law_plain k__law_plain b__law_plain .nil pass0 (pa_cons (pv 0) (pa_cons (pv 1) pa_nil)))))
      pss_nil)
      (pss_cons (ps_set (i := 3) sc__law_tower.nd rfl (.inl rfl) (pe_tup (pa_cons (pe_call G__law_tower (hr.mono (by omega)) (by rfl) m__law_tower k__law_tower b__law_tower .nil pass0 (pa_cons (pv 0) (pa_cons (pv 1) (pa_cons (pe_op op_sub (pv 2) pe_int) pa_nil)))) pa_nil)))
      (pss_cons (ps_set (i := 4) sc__law_tower.nd rfl (.inl rfl) (pe_call G__law_drawn (hr.mono (by omega)) (by rfl) m__law_drawn k__law_drawn b__law_drawn .nil pass0 (pa_cons (pv 0) (pa_cons (pv 1) pa_nil))))
      (pss_cons (ps_set (i := 5) sc__law_tower.nd rfl (.inl rfl) (pe_call G__law_body (hr.mono (by omega)) (by rfl) m__law_body k__law_body b__law_body .nil pass0 (pa_cons (pv 0) (pa_cons (pv 1) (pa_cons pe_int (pa_cons pe_int pa_nil))))))
      (pss_cons (ps_set (i := 6) sc__law_tower.nd rfl (.inl rfl) (pe_call G__law_next (hr.mono (by omega)) (by rfl) m__law_next k__law_next b__law_next .nil pass0 (pa_cons (pv 0) (pa_cons pe_int pa_nil))))
      (pss_cons (ps_if (pt_cmpR op_eq (pv 6) pe_int (nomark _))
      (pss_one (ps_ret (pe_tup (pa_cons pe_str (pa_cons (pv 4) (pa_cons (pe_op op_catA (pv 5) (pv 3)) pa_nil))))))
      pss_nil)
      (pss_cons (ps_if (pt_cmpR op_eq (pv 6) pe_int (nomark _))
      (pss_one (ps_ret (pe_tup (pa_cons pe_str (pa_cons (pv 4) (pa_cons (pe_op op_catA (pv 3) (pv 5)) (pa_cons (pe_tup pa_nil) pa_nil)))))))
      pss_nil)
      (pss_one (ps_ret (pe_tup (pa_cons pe_str (pa_cons (pv 4) (pa_cons (pv 5) (pa_cons (pv 3) pa_nil)))))))))))))), ?_⟩
  refine ⟨_, rfl, rfl, _, rfl, ite2 (fun e => ?_) (fun e => ?_)⟩
  · obtain rfl : k = 0 := by
      have := V.int.inj (of_decide_eq_true e)
      omega
    exact ⟨_, rfl, _, rfl, g, p, r, d, lf, rfl, hs.sub (fun a h => nomatch h), hd, fun v s H2 f2 R2 hv loc l' => q v s H2 lf (Fr2.of f2) (hs.R f2 R2) hv (l'.1 _ _ ⟨by omega, loc⟩) l0 (by rw [l'.2]; omega)⟩
  obtain ⟨k', rfl⟩ : ∃ k', k = k' + 1 := ⟨k - 1, by
    rcases k with _ | k
    · exact absurd (decide_eq_true rfl) e
    · rfl⟩
  have ek : (((k' + 1 : Nat) : Int) - 1) = (k' : Nat) := by omega
  have e6 : 6 - (k' + 1) + 1 = 6 - k' := by omega
  refine ⟨_, rfl, _, rfl, _, rfl, _, _, rfl, rfl, g, p, r, d, ap, lf, k', congrArg (fun z => [V.ref r, V.ref d, V.int z]) ek, hs, hd, by omega, by omega, l0, l54, fun v s H1 lf1 f1 hs1 hv hall p1 ec1 => ⟨by show 1 ≤ sizeLine; decide, fun ti ni => ?_⟩⟩
  have hs2 := hs1.same (same_new (o := .tup [v]) ni)
  have f2 := f1.trans (Fr2.new (o := .tup [v]) ni)
  have hin : Dp K (upd H1 ti (.tup [v])) (.ref ti) (.tuple (stDs [s])) := by
    rw [stDs, stDs]
    exact .tup (SqT.of upd_same) (.cons (dp_same (same_new ni) hv) .nil)
  generalize upd H1 ti (.tup [v]) = H2 at hs2 f2 hin ⊢
  have hb1 : allB (Gs g p) (6 - k') [s] := by
    rw [allB, allB]
    exact ⟨hall, trivial⟩
  have c1 : cntB [s] = cntS s := by rw [cntB, cntB]; omega
  have tb1 := tup_body hd hb1 (by omega) (by omega)
  refine ⟨_, rfl, _, rfl, g, p, r, d, lf1, rfl, hs2.sub (fun a h => nomatch h), hd, fun te ex H3 f3 R3 ht gt => ?_⟩
  have hs3 := hs2.R f3 R3
  have hin3 := dp_n2 hs2.rd.nt hs2.rd.nt (fr1_2 f3) 21 tb1 hin
  refine ⟨_, rfl, _, rfl, g, p, r, d, ap, lf1, 1, 0, rfl, hs3, hd, by decide, by decide, by decide, p1, by omega, fun v4 b H4 lf4 f4 hs4 hv4 hb p4 ec4 lb => ?_⟩
  have ht4 := dp_n2 hs3.rd.nt hs3.nt f4 6 (tup_ex gt.d5) ht
  have hin4 := dp_n2 hs3.rd.nt hs3.nt f4 21 tb1 hin3
  have hb := allB_down gs_down b (6 - 0) (6 - k') (by omega) hb
  have tb := tup_body hd hb (by omega) (by omega)
  refine ⟨_, rfl, r, 3, rfl, hs4.rd, by decide, by decide, fun kd H5 f5 R5 k0 k1 => ?_⟩
  have hs5 := hs4.R f5 R5
  have ht5 := dp_n2 hs4.rd.nt hs4.rd.nt (fr1_2 f5) 6 (tup_ex gt.d5) ht4
  have hin5 := dp_n2 hs4.rd.nt hs4.rd.nt (fr1_2 f5) 21 tb1 hin4
  have hv5 := dp_n2 hs4.rd.nt hs4.rd.nt (fr1_2 f5) 21 tb hv4
  have f05 : Fr2 r d H H5 := f2.trans ((Fr2.of f3).trans (f4.trans (Fr2.of f5)))
  obtain ⟨a1, xs1, e1, hq1, hk1, l1⟩ := dp_parts hin5
  cases e1
  obtain ⟨a2, xs2, rfl, hq2, hk2, l2⟩ := dp_parts hv5
  have l1 : xs1.length = 1 := l1
  have lb : b.length ≤ 1 := lb
  refine ⟨_, rfl, rfl, _, rfl, ite2 (fun e3 => ?_) (fun e3 => ⟨_, rfl, rfl, _, rfl, ite2 (fun e4 => ?_) (fun e4 => ?_)⟩)⟩
  · refine ⟨_, rfl, _, rfl, _, rfl, ?_⟩
    refine catA_ok hq2 hq1 (line_small (by omega)) fun u H6 s6 h6 => ⟨by show 3 ≤ sizeLine; decide, fun t nt => ?_⟩
    have s7 := s6.trans (same_new (o := .tup [.str "while", te, .ref u]) nt)
    refine q (.ref t) (.whi ex (b ++ [s])) _ lf4 (f05.trans (Fr2.of (Fr.of s7))) (hs5.same s7) ?_ ?_ p4 (by rw [cntS, cntB_app, c1]; omega)
    · rw [St.d, stDs_app]
      exact .tup (SqT.of upd_same) (.cons (.str _) (.cons (dp_same s7 ht5) (.cons (.tup (seqT_same (same_new nt) h6) (dpa_cat (dpa_same s7 hk2) (dpa_same s7 hk1))) .nil)))
    · rw [allS, e6]
      exact ⟨⟨by omega, gt⟩, allB_app hb hb1⟩
  · refine ⟨_, rfl, _, rfl, _, rfl, ?_⟩
    refine catA_ok hq1 hq2 (line_small (by omega)) fun u H6 s6 h6 => ⟨by show 0 ≤ sizeLine; decide, fun w nw => ⟨by show 4 ≤ sizeLine; decide, fun t nt => ?_⟩⟩
    have s67 := same_new (o := .tup []) nw
    have s78 := same_new (o := .tup [.str "if", te, .ref u, .ref w]) nt
    have s8 := (s6.trans s67).trans s78
    refine q (.ref t) (.ifs ex ([s] ++ b) []) _ lf4 (f05.trans (Fr2.of (Fr.of s8))) (hs5.same s8) ?_ ?_ p4 (by rw [cntS, cntB_app, c1, cntB]; omega)
    · rw [St.d, stDs_app]
      exact .tup (SqT.of upd_same) (.cons (.str _) (.cons (dp_same s8 ht5) (.cons (.tup (seqT_same (s67.trans s78) h6) (dpa_cat (dpa_same s8 hk1) (dpa_same s8 hk2))) (.cons (by rw [stDs]; exact .tup (SqT.of (s78 _ _ upd_same)) .nil) .nil))))
    · rw [allS, e6]
      exact ⟨⟨by omega, gt⟩, allB_app hb1 hb, by rw [allB]; trivial⟩
  · refine ⟨_, rfl, _, rfl, _, rfl, by show 4 ≤ sizeLine; decide, fun t nt => ?_⟩
    refine q (.ref t) (.ifs ex b [s]) _ lf4 (f05.trans (Fr2.new nt)) (hs5.same (same_new nt)) ?_ ?_ p4 (by rw [cntS, c1]; omega)
    · rw [St.d]
      exact .tup (SqT.of upd_same) (.cons (.str _) (.cons (dp_same (same_new nt) ht5) (.cons (dp_same (same_new nt) hv5) (.cons (dp_same (same_new nt) hin5) .nil))))
    · rw [allS, e6]
      exact ⟨⟨by omega, gt⟩, hb, hb1⟩


end
end Pf

namespace Pf
open PySem PySem.Spec PyProof.Rows L2
section
variable {P : Program} {w : World} {K : PySem.W.Frag} {mg : Str → Option Value} {base : Heap}
variable {c : Nat → Addr}
theorem set_same {α : Type} {xs : List α} {k : Nat} {x : α} (e : xs[k]? = some x) : xs.set k x = xs := by
  obtain ⟨h, rfl⟩ := List.getElem?_eq_some_iff.mp e
  exact List.set_getElem_self h
theorem sum_set : ∀ {xs : List Nat} {k y : Nat}, xs[k]? = some 0 → (xs.set k y).sum = xs.sum + y
  | [], k, y, h => by simp at h
  | x :: xs, 0, y, h => by
    cases h
    rw [List.set_cons_zero, List.sum_cons, List.sum_cons]
    omega
  | x :: xs, k + 1, y, h => by
    have ih := sum_set (xs := xs) (k := k) (y := y) h
    rw [List.set_cons_succ, List.sum_cons, List.sum_cons, ih]
    omega
def sumB (g : Pg) : Nat := (g.ps.map fun p => cntB p.bd).sum
theorem setB_at {g : Pg} {k : Nat} {p : Pr} {b : List St} (e : g.ps[k]? = some p) {j : Nat} {q : Pr} (h : (g.setB k p b).ps[j]? = some q) : (j = k ∧ q = p.setB b) ∨ (j ≠ k ∧ g.ps[j]? = some q) := by
  have h' : (g.ps.set k (p.setB b))[j]? = some q := h
  by_cases c : j = k
  · subst c
    rw [List.getElem?_set_self (List.getElem?_eq_some_iff.mp e).1] at h'
    exact .inl ⟨rfl, (Option.some.inj h').symm⟩
  · rw [List.getElem?_set_ne (fun z => c z.symm)] at h'
    exact .inr ⟨c, h'⟩
theorem setB_sum {g : Pg} {k : Nat} {p : Pr} {b : List St} (e : g.ps[k]? = some p) (e0 : p.bd = []) : sumB (g.setB k p b) = sumB g + cntB b := by
  show ((g.ps.set k (p.setB b)).map fun p => cntB p.bd).sum = _
  rw [List.map_set]
  exact sum_set (by rw [List.getElem?_map, e]; show some (cntB p.bd) = _; rw [e0, cntB])
theorem loc_setB {l : Int} {sc : List Vr} {ps : List Pr} {k : Nat} {p : Pr} {b : List St} (e : ps[k]? = some p) : ∀ {s : St}, s.Loc l sc ps → s.Loc l sc (ps.set k (p.setB b))
  | .set _ _, h => h
  | .read _, h => h
  | .write _, h => h
  | .ifs _ _ _, h => h
  | .whi _ _, h => h
  | .skip, h => h
  | .call _ _, h => by
    obtain ⟨⟨q, hq, h1, h2⟩, h3⟩ := h
    obtain ⟨i, hi⟩ := List.getElem?_of_mem hq
    rw [List.getElem?_tail] at hi
    by_cases c : i + 1 = k
    · subst c
      rw [e] at hi
      cases hi
      refine ⟨⟨p.setB b, List.mem_of_getElem? (i := i) ?_, h1, h2⟩, h3⟩
      rw [List.getElem?_tail, List.getElem?_set_self (List.getElem?_eq_some_iff.mp e).1]
    · refine ⟨⟨q, List.mem_of_getElem? (i := i) ?_, h1, h2⟩, h3⟩
      rw [List.getElem?_tail, List.getElem?_set_ne (fun z => c z.symm)]
      exact hi
theorem setB_ok {g : Pg} {k : Nat} {p : Pr} {b : List St} (ho : g.Ok) (e : g.ps[k]? = some p) (e0 : p.bd = []) (hb : allB (Gs g p) 1 b) (hc : sumB g + cntB b ≤ 60) : (g.setB k p b).Ok := by
  have mp := List.mem_of_getElem? e
  have mem : ∀ q ∈ (g.setB k p b).ps, q = p.setB b ∨ q ∈ g.ps := fun q hq => by
    obtain ⟨j, hj⟩ := List.getElem?_of_mem hq
    rcases setB_at e hj with ⟨_, h⟩ | ⟨_, h⟩
    · exact .inl h
    · exact .inr (List.mem_of_getElem? h)
  have ln : (g.setB k p b).ps.length = g.ps.length := List.length_set
  have loc : ∀ (q : Pr) (c : List St), allB (fun d s => d ≤ 6 ∧ s.Loc g.l (scp g.vs q) g.ps) 1 c → allB (fun d s => d ≤ 6 ∧ s.Loc g.l (scp g.vs q) (g.ps.set k (p.setB b))) 1 c := fun q c h => allB_imp (fun d s h => ⟨h.1, loc_setB e h.2⟩) _ _ h
  refine ⟨ho.l1, ho.l3, ho.a2, ho.a4, by rw [ln]; exact ho.p1, by rw [ln]; exact ho.p5, ho.v4, fun q hq => ?_, fun q hq => ?_, fun q hq => ?_, fun q hq => ?_, ?_, fun q hq => ?_, fun q hq => ?_, fun q hq => ?_, fun q hq => ?_, fun q hq => ?_, ?_, fun q hq => ?_⟩
  · rcases mem q hq with rfl | h
    · exact ho.p3 p mp
    · exact ho.p3 q h
  · rcases mem q hq with rfl | h
    · exact ho.l33 p mp
    · exact ho.l33 q h
  · rcases mem q hq with rfl | h
    · exact ho.pn p mp
    · exact ho.pn q h
  · rcases mem q hq with rfl | h
    · exact ho.vn p mp
    · exact ho.vn q h
  · show ((g.ps.set k (p.setB b)).map Pr.nm).Nodup
    rw [List.map_set, set_same (by rw [List.getElem?_map, e]; rfl)]
    exact ho.pd
  · rcases mem q hq with rfl | h
    · exact ho.vd p mp
    · exact ho.vd q h
  · rcases mem q hq with rfl | h
    · exact ho.s2 p mp
    · exact ho.s2 q h
  · rcases mem q hq with rfl | h
    · exact ho.s4 p mp
    · exact ho.s4 q h
  · rcases mem q hq with rfl | h
    · exact ho.si p mp
    · exact ho.si q h
  · rcases setB_at e hq with ⟨rfl, rfl⟩ | ⟨_, h⟩
    · exact ho.mn p e
    · exact ho.mn q h
  · show sumB (g.setB k p b) ≤ 60
    rw [setB_sum e e0]
    exact hc
  · rcases mem q hq with rfl | h
    · exact loc p b hb
    · exact loc q q.bd (ho.sb q h)
theorem hd_of {g : Pg} {p : Pr} (ho : g.Ok) (m : p ∈ g.ps) : Hd g p := ⟨ho.l1, ho.l3, ho.a2, ho.a4, ho.p3, ho.p5, by
  have h1 := ho.v4
  have h2 := ho.p3 p m
  have h3 := ho.l33 p m
  unfold scp
  rw [List.length_append, List.length_append]
  omega⟩
theorem tup_pg {g : Pg} (ho : g.Ok) : tupOk 22 g.d := tup_seq (by show 4 ≤ 100000; decide) fun e he => by
  rcases List.mem_cons.mp he with rfl | he
  · exact (tup_atom 21).1 _
  rcases List.mem_cons.mp he with rfl | he
  · exact (tup_atom 21).1 _
  rcases List.mem_cons.mp he with rfl | he
  · have := ho.v4
    exact tup_vs 19 (by omega)
  rcases List.mem_singleton.mp he with rfl
  exact tup_ps ho
theorem dp_parts3 {K : PySem.W.Frag} {H : Hp} {v : V} {g : Pg} (h : Dp K H v g.d) : ∃ a xs t3 xs3, v = .ref a ∧ SqT K H a xs ∧ xs[3]? = some (.ref t3) ∧ SqT K H t3 xs3 ∧ xs3.length = g.ps.length := by
  have h' : Dp K H v (.tuple [.int g.l, .int g.a, .tuple (g.vs.map Vr.d), .tuple (g.ps.map Pr.d)]) := h
  obtain ⟨a, xs, rfl, hq, hk⟩ := dp_tup' h'
  obtain ⟨x3, e3, h3⟩ := dpa_get' hk (i := 3) rfl
  obtain ⟨t3, xs3, rfl, hq3, hk3⟩ := dp_tup' h3
  have := dpa_len hk3
  rw [List.length_map] at this
  exact ⟨a, xs, t3, xs3, rfl, hq, e3, hq3, this⟩
theorem sum_zero : ∀ (ps : List Pr), (∀ p ∈ ps, p.bd = []) → (ps.map fun p => cntB p.bd).sum = 0
  | [], _ => rfl
  | p :: ps, h => by
    rw [List.map_cons, List.sum_cons, sum_zero ps fun q hq => h q (List.mem_cons_of_mem _ hq), h p List.mem_cons_self, cntB]
def sp__law_rich (K : PySem.W.Frag) : Sp := fun us H Q _ => ∃ (r : Addr) (mo rm : Int), us = [.ref r, .int mo, .int rm] ∧ RD H r ∧ 0 ≤ mo ∧ mo ≤ 60 ∧ 1 ≤ rm ∧ rm ≤ 64 ∧ ∀ (v : V) (g : Pg) (H' : Hp), Fr r H H' → RD H' r → g.Ok → Dp K H' v g.d → Q v H'
theorem ok__law_rich (T : Txt P K mg c) : Has P w K mg base 26 "_law_rich" ["reader", "most", "room"] (sp__law_rich K) := by
  obtain ⟨f, fd, F, m, b⟩ := T.d__law_rich.ex
  obtain ⟨f__law_heads, fd__law_heads, G__law_heads, m__law_heads, k__law_heads, b__law_heads⟩ := ok__law_heads (P := P) (w := w) (base := base) T
  obtain ⟨f__law_next, fd__law_next, G__law_next, m__law_next, k__law_next, b__law_next⟩ := ok__law_next (P := P) (w := w) (base := base) T
  obtain ⟨f__law_shape, fd__law_shape, G__law_shape, m__law_shape, k__law_shape, b__law_shape⟩ := ok__law_shape (P := P) (w := w) (base := base) T
  obtain ⟨f__law_tower, fd__law_tower, G__law_tower, m__law_tower, k__law_tower, b__law_tower⟩ := ok__law_tower (P := P) (w := w) (base := base) T 6
  obtain ⟨f__law_body, fd__law_body, G__law_body, m__law_body, k__law_body, b__law_body⟩ := ok__law_body (P := P) (w := w) (base := base) T 6
  obtain ⟨f__law_plain, fd__law_plain, G__law_plain, m__law_plain, k__law_plain, b__law_plain⟩ := ok__law_plain (P := P) (w := w) (base := base) T
  obtain ⟨f__law_headed, fd__law_headed, G__law_headed, m__law_headed, k__law_headed, b__law_headed⟩ := ok__law_headed (P := P) (w := w) (base := base) T
  refine ⟨f, fd, F.ok sc__law_rich (fun vs H Q E h => ?_) (fun cdv A outer s H vs Q E hr h => ?_), m, F.kp, b⟩
  · obtain ⟨r, mo, rm, rfl, hR, m0, m60, r1, r64, q⟩ := h
    rfl
  obtain ⟨r, mo, rm, rfl, hR, m0, m60, r1, r64, q⟩ := h
  refine ⟨_, (pss_cons (ps_set (i := 3) sc__law_rich.nd rfl (.inl rfl) (pe_call G__law_heads (hr.mono (by decide)) (by rfl) m__law_heads k__law_heads b__law_heads .nil pass0 (pa_cons (pv 0) (pa_cons (pv 2) pa_nil))))
      (pss_cons (ps_set (i := 4) sc__law_rich.nd rfl (.inl rfl) (pe_call G__law_next (hr.mono (by decide)) (by rfl) m__law_next k__law_next b__law_next .nil pass0 (pa_cons (pv 0) (pa_cons pe_int pa_nil))))
      (pss_cons (ps_set (i := 5) sc__law_rich.nd rfl (.inl rfl) (pe_call G__law_next (hr.mono (by decide)) (by rfl) m__law_next k__law_next b__law_next .nil pass0 (pa_cons (pv 0) (pa_cons pe_int pa_nil))))
      (pss_cons (ps_set (i := 6) sc__law_rich.nd rfl (.inl rfl) (pv 1))
      (pss_cons (ps_for PassesOwn.never rfl (pi_range1 (by rfl) T.z_range (pa_cons (pe_callB call_len_seq (by rfl) T.z_len (by decide +kernel) (pa_cons (pe_ix ix_tup (pv 3) pe_int (fun _ _ => rfl)) pa_nil)) pa_nil)) (pg_name (i := 7) sc__law_rich.nd rfl (.inl rfl))
      (pss_cons (ps_set (i := 8) sc__law_rich.nd rfl (.inr rfl) (pe_call G__law_shape (hr.mono (by decide)) (by rfl) m__law_shape k__law_shape b__law_shape .nil pass0 (pa_cons (pv 3) (pa_cons (pv 7) (pa_cons (pv 6) pa_nil)))))
        (pss_cons (ps_set (i := 9) sc__law_rich.nd rfl (.inl rfl) (pe_tup pa_nil))
        (C8.pss_cut (ps_if (PW.pt (pw_and (pt_cmpR op_eq (pv 4) (pv 7) (nomark _)) (pw_and1 (pt_cmpR op_ge (pv 6) pe_int (nomark _)))))
        (pss_cons (ps_dput (dun hr) (pv 8) pe_str (pe_op op_sub (pv 6) pe_int) (by rfl))
          (pss_one (ps_set (i := 9) sc__law_rich.nd rfl (.inl rfl) (pe_tup (pa_cons (pe_call G__law_tower (hr.mono (by decide)) (by rfl) m__law_tower k__law_tower b__law_tower .nil pass0 (pa_cons (pv 0) (pa_cons (pv 8) (pa_cons pe_int pa_nil)))) pa_nil)))))
        pss_nil)
        (pss_cons (ps_set (i := 9) sc__law_rich.nd rfl (.inl rfl) (pe_op op_catA (pv 9) (pe_call G__law_body (hr.mono (by decide)) (by rfl) m__law_body k__law_body b__law_body .nil pass0 (pa_cons (pv 0) (pa_cons (pv 8) (pa_cons pe_int (pa_cons pe_int pa_nil)))))))
        (pss_cons (ps_set (i := 6) sc__law_rich.nd rfl (.inl rfl) (pe_dget (dun hr) (pv 8) pe_str (fun _ _ => rfl)))
        (C8.pss_cut (ps_if (PW.pt (pw_and (pt_cmpR op_eq (pv 5) pe_int (nomark _)) (pw_and1 (pt_cmpR op_eq (pe_op op_add (pv 7) pe_int) (pe_callB call_len_seq (by rfl) T.z_len (by decide +kernel) (pa_cons (pe_ix ix_tup (pv 3) pe_int (fun _ _ => rfl)) pa_nil)) (nomark _)))))
        (pss_one (ps_set (i := 9) sc__law_rich.nd rfl (.inl rfl) (pe_op op_catA (pv 9) (pe_callTy call_tuple_of (by rfl) T.z_tuple (by decide +kernel) (pa_cons (pe_lc (own := [("number", 10)]) (g := gName 10) (by rfl) sc__law_rich.nd (pi_range1 (by rfl) T.z_range (pa_cons (pv 6) pa_nil)) (blkOk_by (own := [("number", 10)]) (N := ["reader", "most", "room", "parts", "tall", "full", "left", "k", "shape", "body", "number"]) (sc := defScope s__law_rich) (by decide +kernel)) (fun _ _ _ _ _ => pg_name (i := 10) sc__law_rich.nd rfl (Or.inl rfl)) (fun _ _ _ _ _ => pts_nil) (fun _ _ _ _ _ => (pe_call G__law_plain (hr.mono (by decide)) (by rfl) m__law_plain k__law_plain b__law_plain .nil pass0 (pa_cons (pv 0) (pa_cons (pv 8) pa_nil))))) pa_nil)))))
        pss_nil)
        (pss_one (ps_set (i := 3) sc__law_rich.nd rfl (.inl rfl) (pe_call G__law_headed (hr.mono (by decide)) (by rfl) m__law_headed k__law_headed b__law_headed .nil pass0 (pa_cons (pv 3) (pa_cons (pv 7) (pa_cons pe_int (pa_cons (pv 9) pa_nil))))))))))))))
      (pss_one (ps_ret (pv 3)))))))), ?_⟩
  refine ⟨_, rfl, _, rfl, r, rm, rfl, hR, r1, r64, fun v0 g H1 f1 R1 ho hbd hv => ?_⟩
  refine ⟨_, rfl, r, 8, rfl, R1, by decide, by decide, fun ta H2 f2 R2 a0 a1 => ?_⟩
  refine ⟨_, rfl, r, 6, rfl, R2, by decide, by decide, fun fu H3 f3 R3 b0 b1 => ⟨_, rfl, ?_⟩⟩
  have f13 := f1.trans (f2.trans f3)
  have hv3 := dp_f1 R1.l (f2.trans f3) 22 (tup_pg ho) hv
  have p5 := ho.p5
  have s0 : sumB g = 0 := sum_zero _ hbd
  obtain ⟨a, xs, t3, xs3, rfl, hq, e3, hq3, l3⟩ := dp_parts3 hv3
  refine ⟨_, rfl, a, xs, _, _, rfl, rfl, hq, atI_nat e3, t3, xs3, rfl, .inr hq3, _, rfl, by omega, by omega, ?_⟩
  refine for_range (fun i σ H' => ∃ (pv : V) (gi : Pg) (lf : Int) (y7 y8 y9 y10 : Option V), σ = [some (.ref r), some (.int mo), some (.int rm), some pv, some (.int ta), some (.int fu), some (.int lf), y7, y8, y9, y10] ∧ Fr r H H' ∧ RD H' r ∧ gi.Ok ∧ Dp K H' pv gi.d ∧ gi.ps.length = g.ps.length ∧ (∀ (j : Nat) (p : Pr), i ≤ j → gi.ps[j]? = some p → p.bd = []) ∧ 0 ≤ lf ∧ lf ≤ 60 ∧ (i < g.ps.length → (sumB gi : Int) + lf = mo))
    ⟨_, g, mo, _, _, _, _, rfl, f13, R3, ho, hv3, rfl, fun j p _ e => hbd p (List.mem_of_getElem? e), m0, m60, fun _ => by rw [s0]; omega⟩ ?_ ?_
  · rintro i σ H4 hi ⟨pv, gi, lf, y7, y8, y9, y10, rfl, f4, R4, hoi, hpv, lg, hbi, l0, l60, hsum⟩
    have hi' : i < g.ps.length := by
      have : i < xs3.length := hi
      omega
    obtain ⟨p, ep⟩ : ∃ p, gi.ps[i]? = some p := ⟨_, List.getElem?_eq_getElem (by omega)⟩
    have e0 := hbi i p (Nat.le_refl _) ep
    have mp := List.mem_of_getElem? ep
    have hd := hd_of hoi mp
    have hsum := hsum hi'
    have g0 : (0 : Int) + (i : Int) = ((i : Nat) : Int) := by omega
    refine ⟨_, rfl, _, rfl, _, rfl, pv, gi, i, p, lf, r, congrArg (fun z => [pv, V.int z, V.int lf]) g0, hpv, ep, hd, R4, fun d H5 s5 nd hs5 => ?_⟩
    refine ⟨by show 0 ≤ sizeLine; decide, fun te nte => ?_⟩
    have s6 := s5.trans (same_new (o := .tup []) nte)
    have hs6 := hs5.same (same_new (o := .tup []) nte)
    have hte := upd_same (H := H5) (a := te) (o := .tup [])
    generalize upd H5 te (.tup []) = H6 at s6 hs6 hte ⊢
    refine ⟨fun σ' H' => ∃ (bv : V) (b : List St) (lf' : Int), σ' = [some (.ref r), some (.int mo), some (.int rm), some pv, some (.int ta), some (.int fu), some (.int lf), some (.int (0 + (i : Int))), some (.ref d), some bv, y10] ∧ Fr2 r d H6 H' ∧ ShNe K H' gi p r [] d lf' ∧ Dp K H' bv (.tuple (stDs b)) ∧ allB (Gs gi p) 1 b ∧ 0 ≤ lf' ∧ (cntB b : Int) + lf' = lf, ?_, ?_⟩
    · obtain ⟨kvs, _, _, _, _, h0, hl, _, _, _, h4, _⟩ := hs6.ex
      have no : ∃ (bv : V) (b : List St) (lf' : Int), [some (.ref r), some (.int mo), some (.int rm), some pv, some (.int ta), some (.int fu), some (.int lf), some (.int (0 + (i : Int))), some (.ref d), some (.ref te), y10] = [some (.ref r), some (.int mo), some (.int rm), some pv, some (.int ta), some (.int fu), some (.int lf), some (.int (0 + (i : Int))), some (.ref d), some bv, y10] ∧ Fr2 r d H6 H6 ∧ ShNe K H6 gi p r [] d lf' ∧ Dp K H6 bv (.tuple (stDs b)) ∧ allB (Gs gi p) 1 b ∧ 0 ≤ lf' ∧ (cntB b : Int) + lf' = lf := ⟨.ref te, [], lf, rfl, Fr2.refl _ _ _, hs6, by rw [stDs]; exact .tup (SqT.of hte) .nil, by rw [allB]; trivial, l0, by rw [cntB]; omega⟩
      refine ⟨_, rfl, _, rfl, rfl, _, rfl, ite2 (fun e => ⟨_, rfl, _, _, rfl, rfl, _, rfl, ite2 (fun e2 => ?_) (fun e2 => no)⟩) (fun e => iteF no)⟩
      have lp6 : 6 ≤ lf := dec_t e2
      refine ⟨_, rfl, _, _, rfl, rfl, _, rfl, d, _, rfl, DPut.k (k := Sum.inr ("left" : Str)) h0 (small1000 (by omega)), ?_⟩
      have hs7 := hs6.left (lf' := lf - 6) h0
      have f7 := Fr2.upd (r := r) (m := d) (H := H6) (o := .dK (putK kvs (Sum.inr ("left" : Str)) (.int (lf - 6))))
      generalize upd H6 d (.dK (putK kvs (Sum.inr ("left" : Str)) (.int (lf - 6)))) = H7 at hs7 f7 ⊢
      refine ⟨_, rfl, _, rfl, gi, p, r, d, [], lf - 6, 5, rfl, hs7, hd, by decide, by decide, by omega, by omega, fun v s H8 lf8 f8 hs8 hv8 hall p8 ec8 => ⟨by show 1 ≤ sizeLine; decide, fun t nt => ?_⟩⟩
      exact ⟨.ref t, [s], lf8, rfl, f7.trans (f8.trans (Fr2.new nt)), hs8.same (same_new nt), by rw [stDs, stDs]; exact .tup (SqT.of upd_same) (.cons (dp_same (same_new nt) hv8) .nil), by rw [allB, allB]; exact ⟨hall, trivial⟩, p8, by rw [cntB, cntB]; omega⟩
    rintro σ' H7 ⟨bv, b, lf7, rfl, f7, hs7, hbv, hb, p7, ec7⟩
    refine ⟨_, rfl, _, rfl, _, rfl, gi, p, r, d, [], lf7, 6, 5, rfl, hs7, hd, by decide, by decide, by decide, p7, by omega, fun v8 b8 H8 lf8 f8 hs8 hv8 hb8 p8 ec8 lb8 => ?_⟩
    have hbv8 := dp_n2 hs7.rd.nt hs7.nt f8 21 (tup_body hd hb (by omega) (by decide)) hbv
    obtain ⟨a1, xs1, rfl, hq1, hk1, l1⟩ := dp_parts hbv8
    obtain ⟨a2, xs2, rfl, hq2, hk2, l2⟩ := dp_parts hv8
    have lc1 := len_cnt b
    have lc2 := len_cnt b8
    refine catA_ok hq1 hq2 (line_small (by omega)) fun u H9 s9 h9 => ?_
    have hs9 := hs8.same s9
    have hdp9 : Dp K H9 (.ref u) (.tuple (stDs (b ++ b8))) := by
      rw [stDs_app]
      exact .tup h9 (dpa_cat (dpa_same s9 hk1) (dpa_same s9 hk2))
    have hb9 := allB_app hb hb8
    have c9 : (cntB (b ++ b8) : Int) + lf8 = lf := by rw [cntB_app]; omega
    have f69 : Fr2 r d H6 H9 := f7.trans (f8.trans (Fr2.of (Fr.of s9)))
    have fr49 : Fr r H4 H9 := (Fr.of s6).keep2 nd f69
    have hpv9 := dp_f1 R4.l fr49 22 (tup_pg hoi) hpv
    obtain ⟨kvs, _, _, _, _, h0, hl, _, _, _, h4, _⟩ := hs9.ex
    refine ⟨_, rfl, d, _, rfl, dg h0 h4, ?_⟩
    generalize b ++ b8 = B at hdp9 hb9 c9
    refine ⟨fun σ' H' => ∃ (bv : V) (b : List St), σ' = [some (.ref r), some (.int mo), some (.int rm), some pv, some (.int ta), some (.int fu), some (.int lf8), some (.int (0 + (i : Int))), some (.ref d), some bv, y10] ∧ Fr r H9 H' ∧ RD H' r ∧ Dp K H' bv (.tuple (stDs b)) ∧ allB (Gs gi p) 1 b ∧ (cntB b : Int) ≤ lf ∧ (i + 1 < g.ps.length → (cntB b : Int) + lf8 = lf), ?_, ?_⟩
    · have no : ∃ (bv : V) (b : List St), [some (.ref r), some (.int mo), some (.int rm), some pv, some (.int ta), some (.int fu), some (.int lf8), some (.int (0 + (i : Int))), some (.ref d), some (.ref u), y10] = [some (.ref r), some (.int mo), some (.int rm), some pv, some (.int ta), some (.int fu), some (.int lf8), some (.int (0 + (i : Int))), some (.ref d), some bv, y10] ∧ Fr r H9 H9 ∧ RD H9 r ∧ Dp K H9 bv (.tuple (stDs b)) ∧ allB (Gs gi p) 1 b ∧ (cntB b : Int) ≤ lf ∧ (i + 1 < g.ps.length → (cntB b : Int) + lf8 = lf) := ⟨.ref u, B, rfl, Fr.refl _ _, hs9.rd, hdp9, hb9, by omega, fun _ => c9⟩
      obtain ⟨a', xs', t3', xs3', rfl, hq', e3', hq3', l3'⟩ := dp_parts3 hpv9
      refine ⟨_, rfl, rfl, _, rfl, ite2 (fun e => ⟨_, rfl, _, _, rfl, rfl, _, rfl, a', xs', _, _, rfl, rfl, hq', atI_nat e3', t3', xs3', rfl, .inr hq3', rfl, _, rfl, ite2 (fun e2 => ?_) (fun e2 => no)⟩) (fun e => iteF no)⟩
      have last : i + 1 = g.ps.length := by
        have := V.int.inj (of_decide_eq_true e2)
        omega
      refine ⟨_, rfl, _, rfl, lf8, rfl, by omega, by omega, fun D nD => ?_⟩
      have nDr := hs9.rd.ne nD
      refine lc_range (lo := 0) (n := lf8.toNat) (fun m H' => Fr r H9 H' ∧ RD H' r ∧ ∃ (zs : List V) (es : List St), H' D = some (.lst zs) ∧ DpAll K H' zs (stDs es) ∧ es.length = m ∧ cntB es = m ∧ allB (Gs gi p) 1 es) ⟨Fr.new nD, hs9.rd.of (same_new nD), [], [], upd_same, by rw [stDs]; exact .nil, rfl, by rw [cntB], by rw [allB]; trivial⟩ (fun m H10 hm h => ?_) (fun H10 h => ?_)
      · obtain ⟨f10, R10, zs, es, hD, hz, le, ce, hes⟩ := h
        refine ⟨rfl, _, rfl, _, rfl, gi, p, r, d, lf8, rfl, hs9.R f10 R10, hd, fun v s H11 f11 R11 hv11 loc leaf => ?_⟩
        have lz := dpa_len hz
        rw [stDs_len] at lz
        have te : ∀ dd ∈ stDs es, tupOk 20 dd := fun dd h => by
          rw [stDs_map] at h
          obtain ⟨s, h', rfl⟩ := List.mem_map.mp h
          have := cntB_mem h'
          exact tup_st hd (allB_mem hes s h') (by omega) (by decide)
        have hs11 : allS (Gs gi p) 1 s := leaf.1 _ _ ⟨by decide, loc⟩
        have hz11 := dpa_f1 R10.l f11 20 te hz
        have hD11 := f11 _ _ nDr hD
        have cs := leaf.2
        refine ⟨zs, hD11, small1000 (by omega), (f10.trans f11).mut nD, ?_, zs ++ [v], es ++ [s], upd_same, ?_, by rw [List.length_append, le]; rfl, ?_, ?_⟩
        · obtain ⟨x1, x2, x3, x4⟩ := R11
          exact ⟨x1, x2, x3, (upd_ne nDr.symm).trans x4⟩
        · rw [stDs_app, stDs, stDs]
          exact dpa_app (dpa_mut hD11 20 te hz11) (dp_mut hD11 20 (tup_st hd hs11 (by omega) (by decide)) hv11)
        · rw [cntB_app, cntB, cntB]
          omega
        · exact allB_app hes (by rw [allB, allB]; exact ⟨hs11, trivial⟩)
      · obtain ⟨f10, R10, zs, es, hD, hz, le, ce, hes⟩ := h
        have lz := dpa_len hz
        rw [stDs_len] at lz
        refine ⟨D, _, rfl, .inl ⟨SqL.of hD, fun w nw => ?_⟩⟩
        have s11 := same_new (o := .tup zs) nw
        have hu10 := dp_f1 hs9.rd.l f10 21 (tup_body hd hb9 (by omega) (by decide)) hdp9
        obtain ⟨a3, xs4, e4, hq4, hk4, l4⟩ := dp_parts hu10
        cases e4
        have lc3 := len_cnt B
        refine catA_ok (seqT_same s11 hq4) (SqT.of upd_same) (line_small (by omega)) fun x H12 s12 h12 => ?_
        have s112 := s11.trans s12
        refine ⟨.ref x, B ++ es, rfl, f10.trans (Fr.of s112), R10.of s112, ?_, allB_app hb9 hes, by rw [cntB_app]; omega, fun h => absurd h (by omega)⟩
        rw [stDs_app]
        exact .tup h12 (dpa_cat (dpa_same s112 hk4) (dpa_same s112 hz))
    rintro σ' H10 ⟨bv, b', rfl, f10, R10, hbv', hb', cle, ceq⟩
    have fr410 := fr49.trans f10
    have hpv10 := dp_f1 R4.l fr410 22 (tup_pg hoi) hpv
    refine ⟨_, rfl, _, rfl, _, rfl, pv, bv, gi, i, p, b', congrArg (fun z => [pv, V.int z, V.int 3, bv]) g0, hpv10, hbv', ep, hoi.p5, fun w H11 s11 hw => ?_⟩
    have ss := setB_sum (b := b') ep e0
    refine ⟨w, gi.setB i p b', lf8, _, _, _, _, rfl, (f4.trans fr410).trans (Fr.of s11), R10.of s11, setB_ok hoi ep e0 hb' (by omega), hw, by rw [← lg]; exact List.length_set, fun j q hj e => ?_, p8, by omega, fun h => ?_⟩
    · rcases setB_at ep e with ⟨h1, _⟩ | ⟨_, h2⟩
      · omega
      · exact hbi j q (by omega) h2
    · have := ceq h
      rw [ss]
      omega
  · rintro σ H4 ⟨pv, gi, lf, y7, y8, y9, y10, rfl, f4, R4, hoi, hpv, _⟩
    exact ⟨_, rfl, q pv gi H4 f4 R4 hoi hpv⟩


end
end Pf

namespace Pf
open PySem PySem.Spec PyProof.Rows L2
section
variable {P : Program} {w : World} {K : PySem.W.Frag} {mg : Str → Option Value} {base : Heap}
variable {c : Nat → Addr}
/-! ### bodies of lists: the data, and the lists that they are made of -/
mutual
def looS : St → PyData
  | .set v e => .tuple [.str "set", .str v, e.d]
  | .read v => .tuple [.str "read", .str v]
  | .write e => .tuple [.str "write", e.d]
  | .ifs e b o => .tuple [.str "if", e.d, .list (looL b), .list (looL o)]
  | .whi e b => .tuple [.str "while", e.d, .list (looL b)]
  | .call p as => .tuple [.str "call", .str p, .list (as.map Ex.d)]
  | .skip => .tuple [.str "skip"]
def looL : List St → List PyData
  | [] => []
  | s :: b => looS s :: looL b
end
mutual
theorem raw_looS : ∀ s : St, rawS s (looS s)
  | .set _ _ => by rw [rawS, looS]
  | .read _ => by rw [rawS, looS]
  | .write _ => by rw [rawS, looS]
  | .ifs e b o => by
    rw [rawS, looS]
    exact ⟨_, _, _, _, rfl, .inl rfl, raw_looL b, .inl rfl, raw_looL o⟩
  | .whi e b => by
    rw [rawS, looS]
    exact ⟨_, _, rfl, .inl rfl, raw_looL b⟩
  | .call p as => by
    rw [rawS, looS]
    exact ⟨_, rfl, .inl rfl⟩
  | .skip => by rw [rawS, looS]
theorem raw_looL : ∀ b : List St, rawL b (looL b)
  | [] => by rw [rawL, looL]
  | s :: b => by
    rw [rawL, looL]
    exact ⟨_, _, rfl, raw_looS s, raw_looL b⟩
end
def leafB : St → Bool
  | .ifs _ _ _ => false
  | .whi _ _ => false
  | .call _ _ => false
  | _ => true
mutual
/-- a statement whose bodies and arguments are lists, at the addresses A -/
def LoS (K : PySem.W.Frag) (H : Hp) : St → V → List Addr → Prop
  | .ifs e b o, x, A => ∃ t te l1 l2 y1 y2 A1 A2, x = .ref t ∧ SqT K H t [.str "if", te, .ref l1, .ref l2] ∧ Dp K H te e.d ∧ tupOk 6 e.d ∧ H l1 = some (.lst y1) ∧ LoL K H b y1 A1 ∧ H l2 = some (.lst y2) ∧ LoL K H o y2 A2 ∧ A = (l1 :: A1) ++ (l2 :: A2)
  | .whi e b, x, A => ∃ t te l1 y1 A1, x = .ref t ∧ SqT K H t [.str "while", te, .ref l1] ∧ Dp K H te e.d ∧ tupOk 6 e.d ∧ H l1 = some (.lst y1) ∧ LoL K H b y1 A1 ∧ A = l1 :: A1
  | .call p as, x, A => ∃ t l y, x = .ref t ∧ SqT K H t [.str "call", .str p, .ref l] ∧ H l = some (.lst y) ∧ DpAll K H y (as.map Ex.d) ∧ (∀ d ∈ as.map Ex.d, tupOk 6 d) ∧ A = [l]
  | .set v e, x, A => Dp K H x (St.d (.set v e)) ∧ tupOk 20 (St.d (.set v e)) ∧ A = []
  | .read v, x, A => Dp K H x (St.d (.read v)) ∧ tupOk 20 (St.d (.read v)) ∧ A = []
  | .write e, x, A => Dp K H x (St.d (.write e)) ∧ tupOk 20 (St.d (.write e)) ∧ A = []
  | .skip, x, A => Dp K H x (St.d .skip) ∧ tupOk 20 (St.d .skip) ∧ A = []
def LoL (K : PySem.W.Frag) (H : Hp) : List St → List V → List Addr → Prop
  | [], ys, A => ys = [] ∧ A = []
  | s :: b, ys, A => ∃ y ys' A1 A2, ys = y :: ys' ∧ LoS K H s y A1 ∧ LoL K H b ys' A2 ∧ A = A1 ++ A2
end
/-! ### what changes but the lists of B -/
def FrB (B : List Addr) (H H' : Hp) : Prop := ∀ b o, b ∉ B → H b = some o → H' b = some o
theorem FrB.of {B : List Addr} {H H' : Hp} (e : Same H H') : FrB B H H' := fun b o _ h => e b o h
theorem FrB.trans {B : List Addr} {H H1 H2 : Hp} (a : FrB B H H1) (b : FrB B H1 H2) : FrB B H H2 := fun c o n h => b c o n (a c o n h)
theorem FrB.sub {B C : List Addr} {H H' : Hp} (s : ∀ b ∈ B, b ∈ C) (h : FrB B H H') : FrB C H H' := fun b o n k => h b o (fun z => n (s b z)) k
theorem FrB.upd {B : List Addr} {H : Hp} {d : Addr} {o : HO} (m : d ∈ B) : FrB B H (L2.upd H d o) := fun b u n e => (upd_ne fun z => n (by rw [z]; exact m)).trans e
theorem seqT_B {K : PySem.W.Frag} {H H' : Hp} {B : List Addr} {a : Addr} {xs : List V} (hB : ∀ b ∈ B, NotT H b) (f : FrB B H H') (h : SqT K H a xs) : SqT K H' a xs := by
  rcases h with (h | ⟨o, h⟩) | h
  · exact .inl (.inl (f _ _ (fun z => (hB _ z).1 _ h) h))
  · exact .inl (.inr ⟨o, f _ _ (fun z => (hB _ z).2 _ _ h) h⟩)
  · exact .inr h
mutual
theorem dp_B {K : PySem.W.Frag} {H H' : Hp} {B : List Addr} (hB : ∀ b ∈ B, NotT H b) (f : FrB B H H') : ∀ {v : V} {d : PyData} (n : Nat), tupOk n d → Dp K H v d → Dp K H' v d
  | _, _, _, _, .non => .non
  | _, _, _, _, .bl b => .bl b
  | _, _, _, _, .int i => .int i
  | _, _, _, _, .str x => .str x
  | _, _, 0, h, .lst _ _ => h.elim
  | _, _, _ + 1, h, .lst _ _ => h.elim
  | _, _, 0, h, .tup _ _ => h.elim
  | _, _, n + 1, h, .tup q k => .tup (seqT_B hB f q) (dpa_B hB f n h.2 k)
theorem dpa_B {K : PySem.W.Frag} {H H' : Hp} {B : List Addr} (hB : ∀ b ∈ B, NotT H b) (f : FrB B H H') : ∀ {xs : List V} {ds : List PyData} (n : Nat), (∀ d ∈ ds, tupOk n d) → DpAll K H xs ds → DpAll K H' xs ds
  | _, _, _, _, .nil => .nil
  | _, _, n, h, .cons p k => .cons (dp_B hB f n (h _ List.mem_cons_self) p) (dpa_B hB f n (fun d hd => h d (List.mem_cons_of_mem _ hd)) k)
end
mutual
theorem LoS.fr {K : PySem.W.Frag} {H H' : Hp} {B : List Addr} (hB : ∀ b ∈ B, NotT H b) (f : FrB B H H') : ∀ (s : St) {x : V} {A : List Addr}, (∀ a ∈ A, a ∉ B) → LoS K H s x A → LoS K H' s x A
  | .set v e, x, A, n, h => by rw [LoS] at h ⊢; exact ⟨dp_B hB f 20 h.2.1 h.1, h.2⟩
  | .read v, x, A, n, h => by rw [LoS] at h ⊢; exact ⟨dp_B hB f 20 h.2.1 h.1, h.2⟩
  | .write e, x, A, n, h => by rw [LoS] at h ⊢; exact ⟨dp_B hB f 20 h.2.1 h.1, h.2⟩
  | .skip, x, A, n, h => by rw [LoS] at h ⊢; exact ⟨dp_B hB f 20 h.2.1 h.1, h.2⟩
  | .call p as, x, A, n, h => by
    rw [LoS] at h ⊢
    obtain ⟨t, l, y, rfl, h1, h2, h3, h4, rfl⟩ := h
    exact ⟨t, l, y, rfl, seqT_B hB f h1, f _ _ (n l List.mem_cons_self) h2, dpa_B hB f 6 h4 h3, h4, rfl⟩
  | .whi e b, x, A, n, h => by
    rw [LoS] at h ⊢
    obtain ⟨t, te, l1, y1, A1, rfl, h1, h2, h3, h4, h5, rfl⟩ := h
    exact ⟨t, te, l1, y1, A1, rfl, seqT_B hB f h1, dp_B hB f 6 h3 h2, h3, f _ _ (n l1 List.mem_cons_self) h4, LoL.fr hB f b (fun a ha => n a (List.mem_cons_of_mem _ ha)) h5, rfl⟩
  | .ifs e b o, x, A, n, h => by
    rw [LoS] at h ⊢
    obtain ⟨t, te, l1, l2, y1, y2, A1, A2, rfl, h1, h2, h3, h4, h5, h6, h7, rfl⟩ := h
    have n1 : ∀ a ∈ l1 :: A1, a ∉ B := fun a ha => n a (List.mem_append_left _ ha)
    have n2 : ∀ a ∈ l2 :: A2, a ∉ B := fun a ha => n a (List.mem_append_right _ ha)
    exact ⟨t, te, l1, l2, y1, y2, A1, A2, rfl, seqT_B hB f h1, dp_B hB f 6 h3 h2, h3, f _ _ (n1 l1 List.mem_cons_self) h4, LoL.fr hB f b (fun a ha => n1 a (List.mem_cons_of_mem _ ha)) h5, f _ _ (n2 l2 List.mem_cons_self) h6, LoL.fr hB f o (fun a ha => n2 a (List.mem_cons_of_mem _ ha)) h7, rfl⟩
theorem LoL.fr {K : PySem.W.Frag} {H H' : Hp} {B : List Addr} (hB : ∀ b ∈ B, NotT H b) (f : FrB B H H') : ∀ (b : List St) {ys : List V} {A : List Addr}, (∀ a ∈ A, a ∉ B) → LoL K H b ys A → LoL K H' b ys A
  | [], ys, A, n, h => by rw [LoL] at h ⊢; exact h
  | s :: b, ys, A, n, h => by
    rw [LoL] at h ⊢
    obtain ⟨y, ys', A1, A2, rfl, h1, h2, rfl⟩ := h
    exact ⟨y, ys', A1, A2, rfl, LoS.fr hB f s (fun a ha => n a (List.mem_append_left _ ha)) h1, LoL.fr hB f b (fun a ha => n a (List.mem_append_right _ ha)) h2, rfl⟩
end
theorem LoS.same {K : PySem.W.Frag} {H H' : Hp} {s : St} {x : V} {A : List Addr} (e : Same H H') (h : LoS K H s x A) : LoS K H' s x A := LoS.fr (B := []) (fun b h => nomatch h) (FrB.of e) s (fun a _ h => nomatch h) h
theorem LoL.same {K : PySem.W.Frag} {H H' : Hp} {b : List St} {ys : List V} {A : List Addr} (e : Same H H') (h : LoL K H b ys A) : LoL K H' b ys A := LoL.fr (B := []) (fun b h => nomatch h) (FrB.of e) b (fun a _ h => nomatch h) h
theorem LoL.snoc {K : PySem.W.Frag} {H : Hp} : ∀ {b : List St} {s : St} {ys : List V} {y : V} {A A1 : List Addr}, LoL K H b ys A → LoS K H s y A1 → LoL K H (b ++ [s]) (ys ++ [y]) (A ++ A1)
  | [], s, ys, y, A, A1, h, k => by
    rw [LoL] at h
    obtain ⟨rfl, rfl⟩ := h
    show LoL K H [s] [y] A1
    rw [LoL]
    exact ⟨y, [], A1, [], rfl, k, by rw [LoL]; exact ⟨rfl, rfl⟩, (List.append_nil _).symm⟩
  | s0 :: b, s, ys, y, A, A1, h, k => by
    rw [LoL] at h
    obtain ⟨y0, ys', A2, A3, rfl, h1, h2, rfl⟩ := h
    show LoL K H (s0 :: (b ++ [s])) (y0 :: (ys' ++ [y])) _
    rw [LoL]
    exact ⟨y0, _, A2, A3 ++ A1, rfl, h1, LoL.snoc h2 k, List.append_assoc _ _ _⟩
theorem LoL.len {K : PySem.W.Frag} {H : Hp} : ∀ {b : List St} {ys : List V} {A : List Addr}, LoL K H b ys A → ys.length = b.length
  | [], ys, A, h => by
    rw [LoL] at h
    obtain ⟨rfl, _⟩ := h
    rfl
  | s :: b, ys, A, h => by
    rw [LoL] at h
    obtain ⟨y, ys', A1, A2, rfl, _, h2, _⟩ := h
    rw [List.length_cons, List.length_cons, LoL.len h2]
mutual
theorem LoS.dp {K : PySem.W.Frag} {H : Hp} : ∀ (s : St) {x : V} {A : List Addr}, LoS K H s x A → Dp K H x (looS s)
  | .set v e, x, A, h => by rw [LoS, St.d] at h; rw [looS]; exact h.1
  | .read v, x, A, h => by rw [LoS, St.d] at h; rw [looS]; exact h.1
  | .write e, x, A, h => by rw [LoS, St.d] at h; rw [looS]; exact h.1
  | .skip, x, A, h => by rw [LoS, St.d] at h; rw [looS]; exact h.1
  | .call p as, x, A, h => by
    rw [LoS] at h
    obtain ⟨t, l, y, rfl, h1, h2, h3, h4, rfl⟩ := h
    rw [looS]
    exact .tup h1 (.cons (.str _) (.cons (.str _) (.cons (.lst (SqL.of h2) h3) .nil)))
  | .whi e b, x, A, h => by
    rw [LoS] at h
    obtain ⟨t, te, l1, y1, A1, rfl, h1, h2, h3, h4, h5, rfl⟩ := h
    rw [looS]
    exact .tup h1 (.cons (.str _) (.cons h2 (.cons (.lst (SqL.of h4) (LoL.dp b h5)) .nil)))
  | .ifs e b o, x, A, h => by
    rw [LoS] at h
    obtain ⟨t, te, l1, l2, y1, y2, A1, A2, rfl, h1, h2, h3, h4, h5, h6, h7, rfl⟩ := h
    rw [looS]
    exact .tup h1 (.cons (.str _) (.cons h2 (.cons (.lst (SqL.of h4) (LoL.dp b h5)) (.cons (.lst (SqL.of h6) (LoL.dp o h7)) .nil))))
theorem LoL.dp {K : PySem.W.Frag} {H : Hp} : ∀ (b : List St) {ys : List V} {A : List Addr}, LoL K H b ys A → DpAll K H ys (looL b)
  | [], ys, A, h => by
    rw [LoL] at h
    rw [looL, h.1]
    exact .nil
  | s :: b, ys, A, h => by
    rw [LoL] at h
    obtain ⟨y, ys', A1, A2, rfl, h1, h2, _⟩ := h
    rw [looL]
    exact .cons (LoS.dp s h1) (LoL.dp b h2)
end
mutual
theorem LoS.dom {K : PySem.W.Frag} {H : Hp} : ∀ (s : St) {x : V} {A : List Addr}, LoS K H s x A → ∀ a ∈ A, ∃ ys, H a = some (.lst ys)
  | .set v e, x, A, h, a, ha => by rw [LoS] at h; rw [h.2.2] at ha; exact nomatch ha
  | .read v, x, A, h, a, ha => by rw [LoS] at h; rw [h.2.2] at ha; exact nomatch ha
  | .write e, x, A, h, a, ha => by rw [LoS] at h; rw [h.2.2] at ha; exact nomatch ha
  | .skip, x, A, h, a, ha => by rw [LoS] at h; rw [h.2.2] at ha; exact nomatch ha
  | .call p as, x, A, h, a, ha => by
    rw [LoS] at h
    obtain ⟨t, l, y, rfl, h1, h2, h3, h4, rfl⟩ := h
    rcases List.mem_singleton.mp ha with rfl
    exact ⟨_, h2⟩
  | .whi e b, x, A, h, a, ha => by
    rw [LoS] at h
    obtain ⟨t, te, l1, y1, A1, rfl, h1, h2, h3, h4, h5, rfl⟩ := h
    rcases List.mem_cons.mp ha with rfl | ha
    · exact ⟨_, h4⟩
    · exact LoL.dom b h5 a ha
  | .ifs e b o, x, A, h, a, ha => by
    rw [LoS] at h
    obtain ⟨t, te, l1, l2, y1, y2, A1, A2, rfl, h1, h2, h3, h4, h5, h6, h7, rfl⟩ := h
    rcases List.mem_append.mp ha with ha | ha
    · rcases List.mem_cons.mp ha with rfl | ha
      · exact ⟨_, h4⟩
      · exact LoL.dom b h5 a ha
    · rcases List.mem_cons.mp ha with rfl | ha
      · exact ⟨_, h6⟩
      · exact LoL.dom o h7 a ha
theorem LoL.dom {K : PySem.W.Frag} {H : Hp} : ∀ (b : List St) {ys : List V} {A : List Addr}, LoL K H b ys A → ∀ a ∈ A, ∃ ys, H a = some (.lst ys)
  | [], ys, A, h, a, ha => by rw [LoL] at h; rw [h.2] at ha; exact nomatch ha
  | s :: b, ys, A, h, a, ha => by
    rw [LoL] at h
    obtain ⟨y, ys', A1, A2, rfl, h1, h2, rfl⟩ := h
    rcases List.mem_append.mp ha with ha | ha
    · exact LoS.dom s h1 a ha
    · exact LoL.dom b h2 a ha
end


end
end Pf

namespace Pf
open PySem PySem.Spec PyProof.Rows L2
section
variable {P : Program} {w : World} {K : PySem.W.Frag} {mg : Str → Option Value} {base : Heap}
variable {c : Nat → Addr}
theorem dpa_cons {K : PySem.W.Frag} {H : Hp} {xs : List V} {d : PyData} {ds : List PyData} (h : DpAll K H xs (d :: ds)) : ∃ x ys, xs = x :: ys ∧ Dp K H x d ∧ DpAll K H ys ds := by
  cases h with
  | cons a b => exact ⟨_, _, rfl, a, b⟩
theorem dpa_nil {K : PySem.W.Frag} {H : Hp} {xs : List V} (h : DpAll K H xs []) : xs = [] := by
  cases h
  rfl
def sp__law_loose (K : PySem.W.Frag) (n : Nat) : Sp := fun us H Q _ => ∃ (v : V) (g : Pg) (p : Pr) (b : List St) (d : Nat), us = [v] ∧ Dp K H v (.tuple (stDs b)) ∧ Hd g p ∧ allB (Gs g p) d b ∧ cntB b ≤ 60 ∧ 1 ≤ d ∧ d ≤ 7 ∧ 8 ≤ d + n ∧
  ∀ (l : Addr) (ys : List V) (A : List Addr) (H' : Hp), Same H H' → (∀ a ∈ l :: A, H a = none) → (l :: A).Nodup → H' l = some (.lst ys) → LoL K H' b ys A → Q (.ref l) H'
theorem ok__law_loose (T : Txt P K mg c) : ∀ n : Nat, Has P w K mg base (n + 1) "_law_loose" ["body"] (sp__law_loose K n)
| 0 => .none T.d__law_loose fun vs H Q E h => by
    obtain ⟨_, _, _, _, _, _, _, _, _, _, _, h7, h8, _⟩ := h
    omega
| n + 1 => by
  obtain ⟨f__law_loose, fd__law_loose, G__law_loose, m__law_loose, k__law_loose, b__law_loose⟩ := ok__law_loose T n
  obtain ⟨f, fd, F, m, b⟩ := T.d__law_loose.ex
  refine ⟨f, fd, F.ok sc__law_loose (fun vs H Q E h => ?_) (fun cdv A outer s H vs Q E hr h => ?_), m, F.kp, b⟩
  · obtain ⟨v, g, p, b, d, rfl, hv, hd, hb, hc, d1, d7, dn, q⟩ := h
    rfl
  obtain ⟨v, g, p, b, d, rfl, hv, hd, hb, hc, d1, d7, dn, q⟩ := h
  refine ⟨_, (pss_cons (ps_set (i := 1) sc__law_loose.nd rfl (.inl rfl) (pe_lst pa_nil))
      (pss_cons (ps_for PassesOwn.never rfl (pi_tup (pv 0)) (pg_name (i := 2) sc__law_loose.nd rfl (.inl rfl))
      (pss_cons (ps_set (i := 3) sc__law_loose.nd rfl (.inl rfl) (pv 2))
        (pss_cons (ps_if (pt_cmpR op_eq (pe_ix ix_tup (pv 2) pe_int (fun _ _ => rfl)) pe_str (nomark _))
        (pss_one (ps_set (i := 3) sc__law_loose.nd rfl (.inl rfl) (pe_tup (pa_cons pe_str (pa_cons (pe_ix ix_tup (pv 2) pe_int (fun _ _ => rfl)) (pa_cons (pe_call G__law_loose (hr.mono (by omega)) (by rfl) m__law_loose k__law_loose b__law_loose .nil pass0 (pa_cons (pe_ix ix_tup (pv 2) pe_int (fun _ _ => rfl)) pa_nil)) (pa_cons (pe_call G__law_loose (hr.mono (by omega)) (by rfl) m__law_loose k__law_loose b__law_loose .nil pass0 (pa_cons (pe_ix ix_tup (pv 2) pe_int (fun _ _ => rfl)) pa_nil)) pa_nil)))))))
        pss_nil)
        (pss_cons (ps_if (pt_cmpR op_eq (pe_ix ix_tup (pv 2) pe_int (fun _ _ => rfl)) pe_str (nomark _))
        (pss_one (ps_set (i := 3) sc__law_loose.nd rfl (.inl rfl) (pe_tup (pa_cons pe_str (pa_cons (pe_ix ix_tup (pv 2) pe_int (fun _ _ => rfl)) (pa_cons (pe_call G__law_loose (hr.mono (by omega)) (by rfl) m__law_loose k__law_loose b__law_loose .nil pass0 (pa_cons (pe_ix ix_tup (pv 2) pe_int (fun _ _ => rfl)) pa_nil)) pa_nil))))))
        pss_nil)
        (pss_cons (ps_if (pt_cmpR op_eq (pe_ix ix_tup (pv 2) pe_int (fun _ _ => rfl)) pe_str (nomark _))
        (pss_one (ps_set (i := 3) sc__law_loose.nd rfl (.inl rfl) (pe_tup (pa_cons pe_str (pa_cons (pe_ix ix_tup (pv 2) pe_int (fun _ _ => rfl)) (pa_cons (pe_callTy call_list_of (by rfl) T.z_list (by decide +kernel) (pa_cons (pe_ix ix_tup (pv 2) pe_int (fun _ _ => rfl)) pa_nil)) pa_nil))))))
        pss_nil)
        (pss_one (ps_expr (pe_bm PySem.F.plainAttrs_list PySem.F.slot_list_append PySem.F.type_list_append mt_append (pv 1) (pa_cons (pv 3) pa_nil)))))))))
      (pss_one (ps_ret (pv 1))))), ?_⟩
  obtain ⟨a, xs, rfl, hq, hk, lx⟩ := dp_parts hv
  have lb := len_cnt b
  refine ⟨by show 0 ≤ sizeLine; decide, fun L nL => ?_⟩
  have e0 := same_new (o := .lst []) nL
  refine ⟨_, rfl, a, rfl, ⟨_, seqT_same e0 hq⟩, for_it (walk_tup (xs := xs)) (fun i σ H' => ∃ (y2 y3 : Option V) (ys : List V) (A : List Addr), σ = [some (.ref a), some (.ref L), y2, y3] ∧ Same H H' ∧ H' L = some (.lst ys) ∧ LoL K H' (b.take i) ys A ∧ (∀ a ∈ A, H a = none ∧ a ≠ L) ∧ A.Nodup) ⟨_, _, [], [], rfl, e0, upd_same, by rw [List.take_zero, LoL]; exact ⟨rfl, rfl⟩, (fun a h => nomatch h), .nil⟩ (fun i σ H' _ h' => ?_) ?_ ?_⟩
  · obtain ⟨_, _, _, _, _, s1, _⟩ := h'
    exact seqT_same s1 hq
  · rintro i x σ H1 H2 hi ⟨y2, y3, ys, A, rfl, s1, hL, hlo, hA, nA⟩ ⟨rfl, hx⟩
    obtain ⟨dd, ed, hx⟩ := dpa_getx' (dpa_same s1 hk) hx
    rw [stDs_map, List.getElem?_map] at ed
    obtain ⟨s, es, rfl⟩ := Option.map_eq_some_iff.mp ed
    have ms := List.mem_of_getElem? es
    have hs := allB_mem hb s ms
    have d6 : d ≤ 6 := (allS_hd hs).1
    have cs := cntB_mem ms
    have ly := hlo.len
    rw [List.length_take] at ly
    refine ⟨_, rfl, ?_⟩
    have fin : ∀ (rv : V) (A1 : List Addr) (H3 : Hp), Same H2 H3 → (∀ a ∈ A1, H2 a = none) → A1.Nodup → LoS K H3 s rv A1 → ∃ (y2 y3 : Option V) (ys' : List V) (A : List Addr), [some (.ref a), some (.ref L), some x, some rv] = [some (.ref a), some (.ref L), y2, y3] ∧ Same H (upd H3 L (.lst (ys ++ [rv]))) ∧ (upd H3 L (.lst (ys ++ [rv]))) L = some (.lst ys') ∧ LoL K (upd H3 L (.lst (ys ++ [rv]))) (b.take (i + 1)) ys' A ∧ (∀ a ∈ A, H a = none ∧ a ≠ L) ∧ A.Nodup := fun rv A1 H3 s3 nA1 dA1 hr => by
      have hL3 := s3 _ _ hL
      have aL : ∀ a ∈ A1, a ≠ L := fun a ha e => by
        have := nA1 a ha
        rw [e, hL] at this
        cases this
      have all : ∀ a ∈ A ++ A1, H a = none ∧ a ≠ L := fun a ha => by
        rcases List.mem_append.mp ha with ha | ha
        · exact hA a ha
        · exact ⟨same_back s1 (nA1 a ha), aL a ha⟩
      refine ⟨_, _, ys ++ [rv], A ++ A1, rfl, same_mut (s1.trans s3) nL, upd_same, ?_, all, List.nodup_append.mpr ⟨nA, dA1, fun x hx y hy e => ?_⟩⟩
      · rw [take_succ_at es]
        refine LoL.fr (B := [L]) (fun b hb => ?_) (FrB.upd List.mem_cons_self) _ (fun a ha m => (all a ha).2 (List.mem_singleton.mp m)) ((hlo.same s3).snoc hr)
        rcases List.mem_singleton.mp hb with rfl
        exact nt_lst hL3
      · obtain ⟨zs, ez⟩ := LoL.dom _ hlo x hx
        have := nA1 y hy
        rw [← e, ez] at this
        cases this
    cases s with
    | set v0 e0 =>
    rw [St.d] at hx
    obtain ⟨t, us, rfl, ht, hu⟩ := dp_tup' hx
    obtain ⟨_, _, rfl, h1, hu⟩ := dpa_cons hu
    cases h1
    refine ⟨_, rfl, t, _, _, _, rfl, rfl, ht, atI_nat (j := 0) rfl, rfl, _, rfl, nope (wd (show (("set" : Str) == "if") = false by decide +kernel)) ?_⟩
    refine ⟨_, rfl, t, _, _, _, rfl, rfl, ht, atI_nat (j := 0) rfl, rfl, _, rfl, nope (wd (show (("set" : Str) == "while") = false by decide +kernel)) ?_⟩
    refine ⟨_, rfl, t, _, _, _, rfl, rfl, ht, atI_nat (j := 0) rfl, rfl, _, rfl, nope (wd (show (("set" : Str) == "call") = false by decide +kernel)) ?_⟩
    refine ⟨_, rfl, .inl ⟨rfl, _, SqL.of hL⟩, _, rfl, L, _, _, rfl, rfl, hL, small1000 (by omega), ?_⟩
    exact fin (.ref t) [] _ (Same.refl _) (fun a h => nomatch h) .nil (by rw [LoS]; exact ⟨by rw [St.d]; exact hx, tup_st hd hs (by omega) d1, rfl⟩)
    | read v0 =>
    rw [St.d] at hx
    obtain ⟨t, us, rfl, ht, hu⟩ := dp_tup' hx
    obtain ⟨_, _, rfl, h1, hu⟩ := dpa_cons hu
    cases h1
    refine ⟨_, rfl, t, _, _, _, rfl, rfl, ht, atI_nat (j := 0) rfl, rfl, _, rfl, nope (wd (show (("read" : Str) == "if") = false by decide +kernel)) ?_⟩
    refine ⟨_, rfl, t, _, _, _, rfl, rfl, ht, atI_nat (j := 0) rfl, rfl, _, rfl, nope (wd (show (("read" : Str) == "while") = false by decide +kernel)) ?_⟩
    refine ⟨_, rfl, t, _, _, _, rfl, rfl, ht, atI_nat (j := 0) rfl, rfl, _, rfl, nope (wd (show (("read" : Str) == "call") = false by decide +kernel)) ?_⟩
    refine ⟨_, rfl, .inl ⟨rfl, _, SqL.of hL⟩, _, rfl, L, _, _, rfl, rfl, hL, small1000 (by omega), ?_⟩
    exact fin (.ref t) [] _ (Same.refl _) (fun a h => nomatch h) .nil (by rw [LoS]; exact ⟨by rw [St.d]; exact hx, tup_st hd hs (by omega) d1, rfl⟩)
    | write e0 =>
    rw [St.d] at hx
    obtain ⟨t, us, rfl, ht, hu⟩ := dp_tup' hx
    obtain ⟨_, _, rfl, h1, hu⟩ := dpa_cons hu
    cases h1
    refine ⟨_, rfl, t, _, _, _, rfl, rfl, ht, atI_nat (j := 0) rfl, rfl, _, rfl, nope (wd (show (("write" : Str) == "if") = false by decide +kernel)) ?_⟩
    refine ⟨_, rfl, t, _, _, _, rfl, rfl, ht, atI_nat (j := 0) rfl, rfl, _, rfl, nope (wd (show (("write" : Str) == "while") = false by decide +kernel)) ?_⟩
    refine ⟨_, rfl, t, _, _, _, rfl, rfl, ht, atI_nat (j := 0) rfl, rfl, _, rfl, nope (wd (show (("write" : Str) == "call") = false by decide +kernel)) ?_⟩
    refine ⟨_, rfl, .inl ⟨rfl, _, SqL.of hL⟩, _, rfl, L, _, _, rfl, rfl, hL, small1000 (by omega), ?_⟩
    exact fin (.ref t) [] _ (Same.refl _) (fun a h => nomatch h) .nil (by rw [LoS]; exact ⟨by rw [St.d]; exact hx, tup_st hd hs (by omega) d1, rfl⟩)
    | skip =>
    rw [St.d] at hx
    obtain ⟨t, us, rfl, ht, hu⟩ := dp_tup' hx
    obtain ⟨_, _, rfl, h1, hu⟩ := dpa_cons hu
    cases h1
    refine ⟨_, rfl, t, _, _, _, rfl, rfl, ht, atI_nat (j := 0) rfl, rfl, _, rfl, nope (wd (show (("skip" : Str) == "if") = false by decide +kernel)) ?_⟩
    refine ⟨_, rfl, t, _, _, _, rfl, rfl, ht, atI_nat (j := 0) rfl, rfl, _, rfl, nope (wd (show (("skip" : Str) == "while") = false by decide +kernel)) ?_⟩
    refine ⟨_, rfl, t, _, _, _, rfl, rfl, ht, atI_nat (j := 0) rfl, rfl, _, rfl, nope (wd (show (("skip" : Str) == "call") = false by decide +kernel)) ?_⟩
    refine ⟨_, rfl, .inl ⟨rfl, _, SqL.of hL⟩, _, rfl, L, _, _, rfl, rfl, hL, small1000 (by omega), ?_⟩
    exact fin (.ref t) [] _ (Same.refl _) (fun a h => nomatch h) .nil (by rw [LoS]; exact ⟨by rw [St.d]; exact hx, tup_st hd hs (by omega) d1, rfl⟩)
    | ifs ex b1 b2 =>
    rw [allS] at hs
    rw [cntS] at cs
    rw [St.d] at hx
    obtain ⟨t, us, rfl, ht, hu⟩ := dp_tup' hx
    obtain ⟨_, _, rfl, h1, hu⟩ := dpa_cons hu
    obtain ⟨te, _, rfl, h2, hu⟩ := dpa_cons hu
    obtain ⟨v2, _, rfl, h3, hu⟩ := dpa_cons hu
    obtain ⟨v3, _, rfl, h4, hu⟩ := dpa_cons hu
    obtain rfl := dpa_nil hu
    cases h1
    have gt : ex.Gd (scp g.vs p) := hs.1.2
    refine ⟨_, rfl, t, _, _, _, rfl, rfl, ht, atI_nat (j := 0) rfl, rfl, _, rfl, yes rfl ?_⟩
    refine ⟨_, rfl, t, _, _, _, rfl, rfl, ht, atI_nat (j := 1) rfl, _, rfl, t, _, _, _, rfl, rfl, ht, atI_nat (j := 2) rfl, v2, g, p, b1, d + 1, rfl, h3, hd, hs.2.1, by omega, by omega, by omega, by omega, fun l1 z1 A1 H3 s3 n3 nd3 hl3 hlo3 => ?_⟩
    refine ⟨_, rfl, t, _, _, _, rfl, rfl, seqT_same s3 ht, atI_nat (j := 3) rfl, v3, g, p, b2, d + 1, rfl, dp_same s3 h4, hd, hs.2.2, by omega, by omega, by omega, by omega, fun l2 z2 A2 H4 s4 n4 nd4 hl4 hlo4 => ⟨by show 4 ≤ sizeLine; decide, fun u nu => ?_⟩⟩
    have s5 := same_new (o := .tup [.str "if", te, .ref l1, .ref l2]) nu
    have s34 := s3.trans s4
    have s35 := s34.trans s5
    have hu5 := upd_same (H := H4) (a := u) (o := .tup [.str "if", te, .ref l1, .ref l2])
    generalize upd H4 u (.tup [.str "if", te, .ref l1, .ref l2]) = H5 at s5 s35 hu5 ⊢
    have ht5 := seqT_same s35 ht
    refine ⟨_, rfl, t, _, _, _, rfl, rfl, ht5, atI_nat (j := 0) rfl, rfl, _, rfl, nope (wd (show (("if" : Str) == "while") = false by decide +kernel)) ?_⟩
    refine ⟨_, rfl, t, _, _, _, rfl, rfl, ht5, atI_nat (j := 0) rfl, rfl, _, rfl, nope (wd (show (("if" : Str) == "call") = false by decide +kernel)) ?_⟩
    have hL5 := s35 _ _ hL
    refine ⟨_, rfl, .inl ⟨rfl, _, SqL.of hL5⟩, _, rfl, L, _, _, rfl, rfl, hL5, small1000 (by omega), ?_⟩
    refine fin (.ref u) ((l1 :: A1) ++ (l2 :: A2)) H5 s35 (fun a ha => ?_) (List.nodup_append.mpr ⟨nd3, nd4, fun x hx y hy e => ?_⟩) (by rw [LoS]; exact ⟨u, te, l1, l2, z1, z2, A1, A2, rfl, SqT.of hu5, dp_same s35 h2, tup_ex gt.d5, (s4.trans s5) _ _ hl3, hlo3.same (s4.trans s5), s5 _ _ hl4, hlo4.same s5, rfl⟩)
    · rcases List.mem_append.mp ha with ha | ha
      · exact n3 a ha
      · exact same_back s3 (n4 a ha)
    · have k : ∃ ys, H3 x = some (.lst ys) := by
        rcases List.mem_cons.mp hx with rfl | hx
        · exact ⟨_, hl3⟩
        · exact LoL.dom _ hlo3 x hx
      obtain ⟨zs, ez⟩ := k
      have := n4 y hy
      rw [← e, ez] at this
      cases this
    | whi ex b1 =>
    rw [allS] at hs
    rw [cntS] at cs
    rw [St.d] at hx
    obtain ⟨t, us, rfl, ht, hu⟩ := dp_tup' hx
    obtain ⟨_, _, rfl, h1, hu⟩ := dpa_cons hu
    obtain ⟨te, _, rfl, h2, hu⟩ := dpa_cons hu
    obtain ⟨v2, _, rfl, h3, hu⟩ := dpa_cons hu
    obtain rfl := dpa_nil hu
    cases h1
    have gt : ex.Gd (scp g.vs p) := hs.1.2
    refine ⟨_, rfl, t, _, _, _, rfl, rfl, ht, atI_nat (j := 0) rfl, rfl, _, rfl, nope (wd (show (("while" : Str) == "if") = false by decide +kernel)) ?_⟩
    refine ⟨_, rfl, t, _, _, _, rfl, rfl, ht, atI_nat (j := 0) rfl, rfl, _, rfl, yes rfl ?_⟩
    refine ⟨_, rfl, t, _, _, _, rfl, rfl, ht, atI_nat (j := 1) rfl, _, rfl, t, _, _, _, rfl, rfl, ht, atI_nat (j := 2) rfl, v2, g, p, b1, d + 1, rfl, h3, hd, hs.2, by omega, by omega, by omega, by omega, fun l1 z1 A1 H3 s3 n3 nd3 hl3 hlo3 => ⟨by show 3 ≤ sizeLine; decide, fun u nu => ?_⟩⟩
    have s5 := same_new (o := .tup [.str "while", te, .ref l1]) nu
    have s35 := s3.trans s5
    have hu5 := upd_same (H := H3) (a := u) (o := .tup [.str "while", te, .ref l1])
    generalize upd H3 u (.tup [.str "while", te, .ref l1]) = H5 at s5 s35 hu5 ⊢
    have ht5 := seqT_same s35 ht
    refine ⟨_, rfl, t, _, _, _, rfl, rfl, ht5, atI_nat (j := 0) rfl, rfl, _, rfl, nope (wd (show (("while" : Str) == "call") = false by decide +kernel)) ?_⟩
    have hL5 := s35 _ _ hL
    refine ⟨_, rfl, .inl ⟨rfl, _, SqL.of hL5⟩, _, rfl, L, _, _, rfl, rfl, hL5, small1000 (by omega), ?_⟩
    exact fin (.ref u) (l1 :: A1) H5 s35 n3 nd3 (by rw [LoS]; exact ⟨u, te, l1, z1, A1, rfl, SqT.of hu5, dp_same s35 h2, tup_ex gt.d5, s5 _ _ hl3, hlo3.same s5, rfl⟩)
    | call pn as =>
    rw [allS] at hs
    rw [St.d] at hx
    obtain ⟨t, us, rfl, ht, hu⟩ := dp_tup' hx
    obtain ⟨_, _, rfl, h1, hu⟩ := dpa_cons hu
    obtain ⟨_, _, rfl, h2, hu⟩ := dpa_cons hu
    obtain ⟨_, _, rfl, h3, hu⟩ := dpa_cons hu
    obtain rfl := dpa_nil hu
    cases h1
    cases h2
    obtain ⟨ta, xa, rfl, hta, hxa⟩ := dp_tup' h3
    have gd : ∀ e ∈ as, e.Gd (scp g.vs p) := hs.2.2
    have te : ∀ dd ∈ as.map Ex.d, tupOk 6 dd := fun dd h => by
      obtain ⟨e, h', rfl⟩ := List.mem_map.mp h
      exact tup_ex (gd e h').d5
    refine ⟨_, rfl, t, _, _, _, rfl, rfl, ht, atI_nat (j := 0) rfl, rfl, _, rfl, nope (wd (show (("call" : Str) == "if") = false by decide +kernel)) ?_⟩
    refine ⟨_, rfl, t, _, _, _, rfl, rfl, ht, atI_nat (j := 0) rfl, rfl, _, rfl, nope (wd (show (("call" : Str) == "while") = false by decide +kernel)) ?_⟩
    refine ⟨_, rfl, t, _, _, _, rfl, rfl, ht, atI_nat (j := 0) rfl, rfl, _, rfl, yes rfl ?_⟩
    refine ⟨_, rfl, t, _, _, _, rfl, rfl, ht, atI_nat (j := 1) rfl, _, rfl, t, _, _, _, rfl, rfl, ht, atI_nat (j := 2) rfl, ta, xa, rfl, .inr hta, fun l nl => ⟨by show 3 ≤ sizeLine; decide, fun u nu => ?_⟩⟩
    have s3 := same_new (o := .lst xa) nl
    have s5 := same_new (o := .tup [.str "call", .str pn, .ref l]) nu
    have s35 := s3.trans s5
    have hl5 := s5 _ _ (upd_same (H := H2) (a := l) (o := .lst xa))
    have hu5 := upd_same (H := upd H2 l (.lst xa)) (a := u) (o := .tup [.str "call", .str pn, .ref l])
    generalize upd (upd H2 l (.lst xa)) u (.tup [.str "call", .str pn, .ref l]) = H5 at s5 s35 hu5 hl5 ⊢
    have hL5 := s35 _ _ hL
    refine ⟨_, rfl, .inl ⟨rfl, _, SqL.of hL5⟩, _, rfl, L, _, _, rfl, rfl, hL5, small1000 (by omega), ?_⟩
    refine fin (.ref u) [l] H5 s35 (fun a ha => ?_) (by simp) (by rw [LoS]; exact ⟨u, l, xa, rfl, SqT.of hu5, hl5, dpa_same s35 hxa, te, rfl⟩)
    rcases List.mem_singleton.mp ha with rfl
    exact nl
  · rintro σ H1 ⟨y2, y3, ys, A, rfl, s1, hL, hlo, hA, nA⟩
    have hlo' : LoL K H1 (b.take xs.length) ys A := hlo
    rw [lx, List.take_length] at hlo'
    refine ⟨_, rfl, q L ys A H1 s1 (fun a ha => ?_) (List.nodup_cons.mpr ⟨fun m => (hA L m).2 rfl, nA⟩) hL hlo'⟩
    rcases List.mem_cons.mp ha with rfl | ha
    · exact nL
    · exact (hA a ha).1


end
end Pf

namespace Pf
open PySem PySem.Spec PyProof.Rows L2
section
variable {P : Program} {w : World} {K : PySem.W.Frag} {mg : Str → Option Value} {base : Heap}
variable {c : Nat → Addr}
theorem drop_at {α : Type} {xs : List α} {i : Nat} {x : α} (e : xs[i]? = some x) : xs.drop i = x :: xs.drop (i + 1) := by
  obtain ⟨h, rfl⟩ := List.getElem?_eq_some_iff.mp e
  exact List.drop_eq_getElem_cons h
def sp__law_spoil (K : PySem.W.Frag) (n : Nat) : Sp := fun us H Q _ => ∃ (l : Addr) (ys : List V) (A : List Addr) (g : Pg) (p : Pr) (b : List St) (d : Nat), us = [.ref l] ∧ H l = some (.lst ys) ∧ LoL K H b ys A ∧ (l :: A).Nodup ∧ Hd g p ∧ allB (Gs g p) d b ∧ cntB b ≤ 60 ∧ d ≤ 7 ∧ 8 ≤ d + n ∧
  ∀ (H' : Hp), FrB (l :: A) H H' → Q .non H'
theorem ok__law_spoil (T : Txt P K mg c) : ∀ n : Nat, Has P w K mg base (n + 1) "_law_spoil" ["body"] (sp__law_spoil K n)
| 0 => .none T.d__law_spoil fun vs H Q E h => by
    obtain ⟨_, _, _, _, _, _, _, _, _, _, _, _, _, _, h7, h8, _⟩ := h
    omega
| n + 1 => by
  obtain ⟨f__law_spoil, fd__law_spoil, G__law_spoil, m__law_spoil, k__law_spoil, b__law_spoil⟩ := ok__law_spoil T n
  obtain ⟨f, fd, F, m, b⟩ := T.d__law_spoil.ex
  refine ⟨f, fd, F.ok sc__law_spoil (fun vs H Q E h => ?_) (fun cdv A outer s H vs Q E hr h => ?_), m, F.kp, b⟩
  · obtain ⟨l, ys, A, g, p, b, d, rfl, hl, hlo, nd, hd, hb, hc, d7, dn, q⟩ := h
    rfl
  obtain ⟨l, ys, A, g, p, b, d, rfl, hl, hlo, nd, hd, hb, hc, d7, dn, q⟩ := h
  refine ⟨_, (pss_cons (ps_for PassesOwn.never rfl (pi_list (pv 0)) (pg_name (i := 1) sc__law_spoil.nd rfl (.inl rfl))
      (pss_cons (ps_if (pt_cmpR op_eq (pe_ix ix_tup (pv 1) pe_int (fun _ _ => rfl)) pe_str (nomark _))
        (pss_cons (ps_expr (pe_call G__law_spoil (hr.mono (by omega)) (by rfl) m__law_spoil k__law_spoil b__law_spoil .nil pass0 (pa_cons (pe_ix ix_tup (pv 1) pe_int (fun _ _ => rfl)) pa_nil)))
          (pss_one (ps_expr (pe_call G__law_spoil (hr.mono (by omega)) (by rfl) m__law_spoil k__law_spoil b__law_spoil .nil pass0 (pa_cons (pe_ix ix_tup (pv 1) pe_int (fun _ _ => rfl)) pa_nil)))))
        pss_nil)
        (pss_cons (ps_if (pt_cmpR op_eq (pe_ix ix_tup (pv 1) pe_int (fun _ _ => rfl)) pe_str (nomark _))
        (pss_one (ps_expr (pe_call G__law_spoil (hr.mono (by omega)) (by rfl) m__law_spoil k__law_spoil b__law_spoil .nil pass0 (pa_cons (pe_ix ix_tup (pv 1) pe_int (fun _ _ => rfl)) pa_nil))))
        pss_nil)
        (pss_one (ps_if (pt_cmpR op_eq (pe_ix ix_tup (pv 1) pe_int (fun _ _ => rfl)) pe_str (nomark _))
        (pss_cons (ps_set (i := 2) sc__law_spoil.nd rfl (.inl rfl) (pe_ix ix_tup (pv 1) pe_int (fun _ _ => rfl)))
          (pss_one (ps_expr (pe_bm PySem.F.plainAttrs_list PySem.F.slot_list_append PySem.F.type_list_append mt_append (pv 2) (pa_cons (pe_tup (pa_cons pe_str (pa_cons pe_int pa_nil))) pa_nil)))))
        pss_nil)))))
      (pss_one (ps_expr (pe_bm PySem.F.plainAttrs_list PySem.F.slot_list_insert PySem.F.type_list_insert mt_insert (pv 0) (pa_cons pe_int (pa_cons (pe_tup (pa_cons pe_str pa_nil)) pa_nil)))))), ?_⟩
  have ll := hlo.len
  have lb := len_cnt b
  have lA : l ∉ A := (List.nodup_cons.mp nd).1
  have ndA := (List.nodup_cons.mp nd).2
  refine ⟨_, rfl, l, rfl, ⟨_, SqL.of hl⟩, for_it (walk_list (xs := ys)) (fun i σ H' => ∃ (y1 y2 : Option V) (Ar : List Addr), σ = [some (.ref l), y1, y2] ∧ FrB A H H' ∧ H' l = some (.lst ys) ∧ LoL K H' (b.drop i) (ys.drop i) Ar ∧ (∀ a ∈ Ar, a ∈ A) ∧ Ar.Nodup) ⟨_, _, A, rfl, FrB.of (Same.refl _), hl, hlo, fun a h => h, ndA⟩ (fun i σ H' _ h' => ?_) ?_ ?_⟩
  · obtain ⟨_, _, _, _, _, h, _⟩ := h'
    exact SqL.of h
  · rintro i x σ H1 H2 hi ⟨y1, y2, Ar, rfl, f1, hl1, hr, sub, nr⟩ ⟨rfl, hx⟩
    obtain ⟨s, es⟩ : ∃ s, b[i]? = some s := ⟨_, List.getElem?_eq_getElem (by omega)⟩
    rw [drop_at es, drop_at hx, LoL] at hr
    obtain ⟨y, ys', A1, A2, e, hs, hrest, rfl⟩ := hr
    cases e
    obtain ⟨nA1, nA2, dis⟩ := List.nodup_append.mp nr
    have nt1 : ∀ a ∈ A1, NotT H2 a := fun a ha => by
      obtain ⟨zs, ez⟩ := LoS.dom s hs a ha
      exact nt_lst ez
    have ms := List.mem_of_getElem? es
    have hsb := allB_mem hb s ms
    have d6 : d ≤ 6 := (allS_hd hsb).1
    have cs := cntB_mem ms
    have fin : ∀ (H3 : Hp) (z2 : Option V), FrB A1 H2 H3 → ∃ (y1 y2 : Option V) (Ar : List Addr), [some (.ref l), some x, z2] = [some (.ref l), y1, y2] ∧ FrB A H H3 ∧ H3 l = some (.lst ys) ∧ LoL K H3 (b.drop (i + 1)) (ys.drop (i + 1)) Ar ∧ (∀ a ∈ Ar, a ∈ A) ∧ Ar.Nodup := fun H3 z2 f3 => ⟨_, _, A2, rfl, f1.trans (f3.sub fun a ha => sub a (List.mem_append_left _ ha)), f3 _ _ (fun m => lA (sub l (List.mem_append_left _ m))) hl1, LoL.fr nt1 f3 _ (fun a ha m => dis a m a ha rfl) hrest, fun a ha => sub a (List.mem_append_right _ ha), nA2⟩
    cases s with
    | set v0 e0 =>
    rw [LoS, St.d] at hs
    obtain ⟨hs, _, rfl⟩ := hs
    obtain ⟨t, us, rfl, ht, hu⟩ := dp_tup' hs
    obtain ⟨_, _, rfl, h1, hu⟩ := dpa_cons hu
    cases h1
    refine ⟨_, rfl, t, _, _, _, rfl, rfl, ht, atI_nat (j := 0) rfl, rfl, _, rfl, nope (wd (show (("set" : Str) == "if") = false by decide +kernel)) ?_⟩
    refine ⟨_, rfl, t, _, _, _, rfl, rfl, ht, atI_nat (j := 0) rfl, rfl, _, rfl, nope (wd (show (("set" : Str) == "while") = false by decide +kernel)) ?_⟩
    refine ⟨_, rfl, t, _, _, _, rfl, rfl, ht, atI_nat (j := 0) rfl, rfl, _, rfl, nope (wd (show (("set" : Str) == "call") = false by decide +kernel)) ?_⟩
    exact fin H2 _ (FrB.of (Same.refl _))
    | read v0 =>
    rw [LoS, St.d] at hs
    obtain ⟨hs, _, rfl⟩ := hs
    obtain ⟨t, us, rfl, ht, hu⟩ := dp_tup' hs
    obtain ⟨_, _, rfl, h1, hu⟩ := dpa_cons hu
    cases h1
    refine ⟨_, rfl, t, _, _, _, rfl, rfl, ht, atI_nat (j := 0) rfl, rfl, _, rfl, nope (wd (show (("read" : Str) == "if") = false by decide +kernel)) ?_⟩
    refine ⟨_, rfl, t, _, _, _, rfl, rfl, ht, atI_nat (j := 0) rfl, rfl, _, rfl, nope (wd (show (("read" : Str) == "while") = false by decide +kernel)) ?_⟩
    refine ⟨_, rfl, t, _, _, _, rfl, rfl, ht, atI_nat (j := 0) rfl, rfl, _, rfl, nope (wd (show (("read" : Str) == "call") = false by decide +kernel)) ?_⟩
    exact fin H2 _ (FrB.of (Same.refl _))
    | write e0 =>
    rw [LoS, St.d] at hs
    obtain ⟨hs, _, rfl⟩ := hs
    obtain ⟨t, us, rfl, ht, hu⟩ := dp_tup' hs
    obtain ⟨_, _, rfl, h1, hu⟩ := dpa_cons hu
    cases h1
    refine ⟨_, rfl, t, _, _, _, rfl, rfl, ht, atI_nat (j := 0) rfl, rfl, _, rfl, nope (wd (show (("write" : Str) == "if") = false by decide +kernel)) ?_⟩
    refine ⟨_, rfl, t, _, _, _, rfl, rfl, ht, atI_nat (j := 0) rfl, rfl, _, rfl, nope (wd (show (("write" : Str) == "while") = false by decide +kernel)) ?_⟩
    refine ⟨_, rfl, t, _, _, _, rfl, rfl, ht, atI_nat (j := 0) rfl, rfl, _, rfl, nope (wd (show (("write" : Str) == "call") = false by decide +kernel)) ?_⟩
    exact fin H2 _ (FrB.of (Same.refl _))
    | skip =>
    rw [LoS, St.d] at hs
    obtain ⟨hs, _, rfl⟩ := hs
    obtain ⟨t, us, rfl, ht, hu⟩ := dp_tup' hs
    obtain ⟨_, _, rfl, h1, hu⟩ := dpa_cons hu
    cases h1
    refine ⟨_, rfl, t, _, _, _, rfl, rfl, ht, atI_nat (j := 0) rfl, rfl, _, rfl, nope (wd (show (("skip" : Str) == "if") = false by decide +kernel)) ?_⟩
    refine ⟨_, rfl, t, _, _, _, rfl, rfl, ht, atI_nat (j := 0) rfl, rfl, _, rfl, nope (wd (show (("skip" : Str) == "while") = false by decide +kernel)) ?_⟩
    refine ⟨_, rfl, t, _, _, _, rfl, rfl, ht, atI_nat (j := 0) rfl, rfl, _, rfl, nope (wd (show (("skip" : Str) == "call") = false by decide +kernel)) ?_⟩
    exact fin H2 _ (FrB.of (Same.refl _))
    | ifs ex b1 b2 =>
    rw [allS] at hsb
    rw [cntS] at cs
    rw [LoS] at hs
    obtain ⟨t, te, l1, l2, z1, z2, B1, B2, rfl, ht, hte, tk, e1, h1, e2, h2, rfl⟩ := hs
    obtain ⟨n1, n2, d12⟩ := List.nodup_append.mp nA1
    have m1 : ∀ a ∈ l1 :: B1, NotT H2 a := fun a ha => nt1 a (List.mem_append_left _ ha)
    have m2 : ∀ a ∈ l2 :: B2, a ∉ l1 :: B1 := fun a ha m => d12 a m a ha rfl
    refine ⟨_, rfl, t, _, _, _, rfl, rfl, ht, atI_nat (j := 0) rfl, rfl, _, rfl, yes rfl ?_⟩
    refine ⟨_, rfl, t, _, _, _, rfl, rfl, ht, atI_nat (j := 2) rfl, l1, z1, B1, g, p, b1, d + 1, rfl, e1, h1, n1, hd, hsb.2.1, by omega, by omega, by omega, fun H3 f3 => ?_⟩
    have ht3 := seqT_B m1 f3 ht
    have e23 := f3 _ _ (m2 l2 List.mem_cons_self) e2
    have h23 := LoL.fr m1 f3 b2 (fun a ha => m2 a (List.mem_cons_of_mem _ ha)) h2
    have m3 : ∀ a ∈ l2 :: B2, NotT H3 a := fun a ha => by
      rcases List.mem_cons.mp ha with rfl | ha
      · exact nt_lst e23
      · obtain ⟨zs, ez⟩ := LoL.dom b2 h23 a ha
        exact nt_lst ez
    refine ⟨_, rfl, t, _, _, _, rfl, rfl, ht3, atI_nat (j := 3) rfl, l2, z2, B2, g, p, b2, d + 1, rfl, e23, h23, n2, hd, hsb.2.2, by omega, by omega, by omega, fun H4 f4 => ?_⟩
    have ht4 := seqT_B m3 f4 ht3
    refine ⟨_, rfl, t, _, _, _, rfl, rfl, ht4, atI_nat (j := 0) rfl, rfl, _, rfl, nope (wd (show (("if" : Str) == "while") = false by decide +kernel)) ?_⟩
    refine ⟨_, rfl, t, _, _, _, rfl, rfl, ht4, atI_nat (j := 0) rfl, rfl, _, rfl, nope (wd (show (("if" : Str) == "call") = false by decide +kernel)) ?_⟩
    exact fin H4 _ ((f3.sub fun a ha => List.mem_append_left _ ha).trans (f4.sub fun a ha => List.mem_append_right _ ha))
    | whi ex b1 =>
    rw [allS] at hsb
    rw [cntS] at cs
    rw [LoS] at hs
    obtain ⟨t, te, l1, z1, B1, rfl, ht, hte, tk, e1, h1, rfl⟩ := hs
    refine ⟨_, rfl, t, _, _, _, rfl, rfl, ht, atI_nat (j := 0) rfl, rfl, _, rfl, nope (wd (show (("while" : Str) == "if") = false by decide +kernel)) ?_⟩
    refine ⟨_, rfl, t, _, _, _, rfl, rfl, ht, atI_nat (j := 0) rfl, rfl, _, rfl, yes rfl ?_⟩
    refine ⟨_, rfl, t, _, _, _, rfl, rfl, ht, atI_nat (j := 2) rfl, l1, z1, B1, g, p, b1, d + 1, rfl, e1, h1, nA1, hd, hsb.2, by omega, by omega, by omega, fun H3 f3 => ?_⟩
    have ht3 := seqT_B nt1 f3 ht
    refine ⟨_, rfl, t, _, _, _, rfl, rfl, ht3, atI_nat (j := 0) rfl, rfl, _, rfl, nope (wd (show (("while" : Str) == "call") = false by decide +kernel)) ?_⟩
    exact fin H3 _ f3
    | call pn as =>
    rw [allS] at hsb
    rw [LoS] at hs
    obtain ⟨t, l1, z1, rfl, ht, e1, h1, tk, rfl⟩ := hs
    have la : z1.length ≤ 3 := by
      have := dpa_len h1
      rw [List.length_map] at this
      obtain ⟨⟨q', hq', _, lq⟩, _⟩ := hsb.2
      have := hd.p3 q' (List.mem_of_mem_tail hq')
      omega
    refine ⟨_, rfl, t, _, _, _, rfl, rfl, ht, atI_nat (j := 0) rfl, rfl, _, rfl, nope (wd (show (("call" : Str) == "if") = false by decide +kernel)) ?_⟩
    refine ⟨_, rfl, t, _, _, _, rfl, rfl, ht, atI_nat (j := 0) rfl, rfl, _, rfl, nope (wd (show (("call" : Str) == "while") = false by decide +kernel)) ?_⟩
    refine ⟨_, rfl, t, _, _, _, rfl, rfl, ht, atI_nat (j := 0) rfl, rfl, _, rfl, yes rfl ?_⟩
    refine ⟨_, rfl, t, _, _, _, rfl, rfl, ht, atI_nat (j := 2) rfl, _, rfl, .inl ⟨rfl, _, SqL.of e1⟩, by show 2 ≤ sizeLine; decide, fun u nu => ?_⟩
    have s3 := same_new (o := .tup [.str "number", .int 1]) nu
    refine ⟨l1, z1, _, rfl, rfl, s3 _ _ e1, small1000 (by omega), ?_⟩
    exact fin _ _ ((FrB.of s3).trans (FrB.upd List.mem_cons_self))
  · rintro σ H1 ⟨y1, y2, Ar, rfl, f1, hl1, _⟩
    refine ⟨_, rfl, .inl ⟨rfl, _, SqL.of hl1⟩, by show 1 ≤ sizeLine; decide, fun t nt => ⟨l, ys, 0, _, rfl, rfl, same_new nt _ _ hl1, small1000 (by omega), by decide, by decide, ?_⟩⟩
    exact q _ ((f1.sub fun a ha => List.mem_cons_of_mem _ ha).trans ((FrB.of (same_new nt)).trans (FrB.upd List.mem_cons_self)))


end
end Pf

namespace Pf
open PySem PySem.Spec PyProof.Rows L2
section
variable {P : Program} {w : World} {K : PySem.W.Frag} {mg : Str → Option Value} {base : Heap}
variable {c : Nat → Addr}
def inS : St → List (List St)
  | .ifs _ b o => [b, o]
  | .whi _ b => [b]
  | _ => []
theorem cnt_in (s : St) : cntS s = 1 + ((inS s).map cntB).sum := by
  cases s <;> rw [cntS] <;> simp [inS]
def sp__law_inner (K : PySem.W.Frag) : Sp := fun us H Q _ => ∃ (x : V) (s : St), us = [x] ∧ Dp K H x s.d ∧ ∀ (l : Addr) (ws : List V) (H' : Hp), Same H H' → H l = none → H' l = some (.lst ws) → DpAll K H' ws ((inS s).map fun b => .tuple (stDs b)) → Q (.ref l) H'
theorem ok__law_inner (T : Txt P K mg c) : Has P w K mg base 1 "_law_inner" ["statement"] (sp__law_inner K) := by
  obtain ⟨f, fd, F, m, b⟩ := T.d__law_inner.ex
  refine ⟨f, fd, F.ok sc__law_inner (fun vs H Q E h => ?_) (fun cdv A outer s H vs Q E hr h => ?_), m, F.kp, b⟩
  · obtain ⟨x, s, rfl, hx, q⟩ := h
    rfl
  obtain ⟨x, s, rfl, hx, q⟩ := h
  refine ⟨_, (pss_cons (ps_if (pt_cmpR op_eq (pe_ix ix_tup (pv 0) pe_int (fun _ _ => rfl)) pe_str (nomark _))
      (pss_one (ps_ret (pe_lst (pa_cons (pe_ix ix_tup (pv 0) pe_int (fun _ _ => rfl)) (pa_cons (pe_ix ix_tup (pv 0) pe_int (fun _ _ => rfl)) pa_nil)))))
      pss_nil)
      (pss_cons (ps_if (pt_cmpR op_eq (pe_ix ix_tup (pv 0) pe_int (fun _ _ => rfl)) pe_str (nomark _))
      (pss_one (ps_ret (pe_lst (pa_cons (pe_ix ix_tup (pv 0) pe_int (fun _ _ => rfl)) pa_nil))))
      pss_nil)
      (pss_one (ps_ret (pe_lst pa_nil))))), ?_⟩
  cases s with
  | set v0 e0 =>
    rw [St.d] at hx
    obtain ⟨t, us, rfl, ht, hu⟩ := dp_tup' hx
    obtain ⟨_, _, rfl, h1, hu⟩ := dpa_cons hu
    cases h1
    refine ⟨_, rfl, t, _, _, _, rfl, rfl, ht, atI_nat (j := 0) rfl, rfl, _, rfl, nope (wd (show (("set" : Str) == "if") = false by decide +kernel)) ?_⟩
    refine ⟨_, rfl, t, _, _, _, rfl, rfl, ht, atI_nat (j := 0) rfl, rfl, _, rfl, nope (wd (show (("set" : Str) == "while") = false by decide +kernel)) ?_⟩
    refine ⟨by show 0 ≤ sizeLine; decide, fun l nl => ?_⟩
    exact q l [] _ (same_new nl) nl upd_same .nil
  | read v0 =>
    rw [St.d] at hx
    obtain ⟨t, us, rfl, ht, hu⟩ := dp_tup' hx
    obtain ⟨_, _, rfl, h1, hu⟩ := dpa_cons hu
    cases h1
    refine ⟨_, rfl, t, _, _, _, rfl, rfl, ht, atI_nat (j := 0) rfl, rfl, _, rfl, nope (wd (show (("read" : Str) == "if") = false by decide +kernel)) ?_⟩
    refine ⟨_, rfl, t, _, _, _, rfl, rfl, ht, atI_nat (j := 0) rfl, rfl, _, rfl, nope (wd (show (("read" : Str) == "while") = false by decide +kernel)) ?_⟩
    refine ⟨by show 0 ≤ sizeLine; decide, fun l nl => ?_⟩
    exact q l [] _ (same_new nl) nl upd_same .nil
  | write e0 =>
    rw [St.d] at hx
    obtain ⟨t, us, rfl, ht, hu⟩ := dp_tup' hx
    obtain ⟨_, _, rfl, h1, hu⟩ := dpa_cons hu
    cases h1
    refine ⟨_, rfl, t, _, _, _, rfl, rfl, ht, atI_nat (j := 0) rfl, rfl, _, rfl, nope (wd (show (("write" : Str) == "if") = false by decide +kernel)) ?_⟩
    refine ⟨_, rfl, t, _, _, _, rfl, rfl, ht, atI_nat (j := 0) rfl, rfl, _, rfl, nope (wd (show (("write" : Str) == "while") = false by decide +kernel)) ?_⟩
    refine ⟨by show 0 ≤ sizeLine; decide, fun l nl => ?_⟩
    exact q l [] _ (same_new nl) nl upd_same .nil
  | skip =>
    rw [St.d] at hx
    obtain ⟨t, us, rfl, ht, hu⟩ := dp_tup' hx
    obtain ⟨_, _, rfl, h1, hu⟩ := dpa_cons hu
    cases h1
    refine ⟨_, rfl, t, _, _, _, rfl, rfl, ht, atI_nat (j := 0) rfl, rfl, _, rfl, nope (wd (show (("skip" : Str) == "if") = false by decide +kernel)) ?_⟩
    refine ⟨_, rfl, t, _, _, _, rfl, rfl, ht, atI_nat (j := 0) rfl, rfl, _, rfl, nope (wd (show (("skip" : Str) == "while") = false by decide +kernel)) ?_⟩
    refine ⟨by show 0 ≤ sizeLine; decide, fun l nl => ?_⟩
    exact q l [] _ (same_new nl) nl upd_same .nil
  | call pn as =>
    rw [St.d] at hx
    obtain ⟨t, us, rfl, ht, hu⟩ := dp_tup' hx
    obtain ⟨_, _, rfl, h1, hu⟩ := dpa_cons hu
    cases h1
    refine ⟨_, rfl, t, _, _, _, rfl, rfl, ht, atI_nat (j := 0) rfl, rfl, _, rfl, nope (wd (show (("call" : Str) == "if") = false by decide +kernel)) ?_⟩
    refine ⟨_, rfl, t, _, _, _, rfl, rfl, ht, atI_nat (j := 0) rfl, rfl, _, rfl, nope (wd (show (("call" : Str) == "while") = false by decide +kernel)) ?_⟩
    refine ⟨by show 0 ≤ sizeLine; decide, fun l nl => ?_⟩
    exact q l [] _ (same_new nl) nl upd_same .nil
  | whi ex b1 =>
    rw [St.d] at hx
    obtain ⟨t, us, rfl, ht, hu⟩ := dp_tup' hx
    obtain ⟨_, _, rfl, h1, hu⟩ := dpa_cons hu
    obtain ⟨te, _, rfl, h2, hu⟩ := dpa_cons hu
    obtain ⟨v2, _, rfl, h3, hu⟩ := dpa_cons hu
    obtain rfl := dpa_nil hu
    cases h1
    refine ⟨_, rfl, t, _, _, _, rfl, rfl, ht, atI_nat (j := 0) rfl, rfl, _, rfl, nope (wd (show (("while" : Str) == "if") = false by decide +kernel)) ?_⟩
    refine ⟨_, rfl, t, _, _, _, rfl, rfl, ht, atI_nat (j := 0) rfl, rfl, _, rfl, yes rfl ?_⟩
    refine ⟨_, rfl, t, _, _, _, rfl, rfl, ht, atI_nat (j := 2) rfl, by show 1 ≤ sizeLine; decide, fun l nl => ?_⟩
    exact q l [v2] _ (same_new nl) nl upd_same (.cons (dp_same (same_new nl) h3) .nil)
  | ifs ex b1 b2 =>
    rw [St.d] at hx
    obtain ⟨t, us, rfl, ht, hu⟩ := dp_tup' hx
    obtain ⟨_, _, rfl, h1, hu⟩ := dpa_cons hu
    obtain ⟨te, _, rfl, h2, hu⟩ := dpa_cons hu
    obtain ⟨v2, _, rfl, h3, hu⟩ := dpa_cons hu
    obtain ⟨v3, _, rfl, h4, hu⟩ := dpa_cons hu
    obtain rfl := dpa_nil hu
    cases h1
    refine ⟨_, rfl, t, _, _, _, rfl, rfl, ht, atI_nat (j := 0) rfl, rfl, _, rfl, yes rfl ?_⟩
    refine ⟨_, rfl, t, _, _, _, rfl, rfl, ht, atI_nat (j := 2) rfl, _, rfl, t, _, _, _, rfl, rfl, ht, atI_nat (j := 3) rfl, by show 2 ≤ sizeLine; decide, fun l nl => ?_⟩
    exact q l [v2, v3] _ (same_new nl) nl upd_same (.cons (dp_same (same_new nl) h3) (.cons (dp_same (same_new nl) h4) .nil))
/-- how deep the bodies of a list may go below d -/
def dpB (d : Nat) (b : List St) : Prop := allB (fun d _ => d ≤ 6) d b
theorem dpB_in {d : Nat} {s : St} (h : allS (fun d _ => d ≤ 6) d s) {b : List St} (m : b ∈ inS s) : dpB (d + 1) b := by
  cases s <;> simp only [inS, List.mem_cons, List.not_mem_nil, or_false] at m
  · rw [allS] at h
    rcases m with rfl | rfl
    · exact h.2.1
    · exact h.2.2
  · rw [allS] at h
    rw [m]
    exact h.2
def sp__law_count (K : PySem.W.Frag) (n : Nat) : Sp := fun us H Q _ => ∃ (v : V) (b : List St) (d : Nat), us = [v] ∧ Dp K H v (.tuple (stDs b)) ∧ dpB d b ∧ d ≤ 7 ∧ 8 ≤ d + n ∧ ∀ (H' : Hp), Same H H' → Q (.int (cntB b : Nat)) H'
theorem ok__law_count (T : Txt P K mg c) : ∀ n : Nat, Has P w K mg base (n + 2) "_law_count" ["body"] (sp__law_count K n)
| 0 => .none T.d__law_count fun vs H Q E h => by
    obtain ⟨_, _, _, _, _, _, h7, h8, _⟩ := h
    omega
| n + 1 => by
  obtain ⟨f__law_count, fd__law_count, G__law_count, m__law_count, k__law_count, b__law_count⟩ := ok__law_count T n
  obtain ⟨f, fd, F, m, b⟩ := T.d__law_count.ex
  obtain ⟨f__law_inner, fd__law_inner, G__law_inner, m__law_inner, k__law_inner, b__law_inner⟩ := ok__law_inner (P := P) (w := w) (base := base) T
  refine ⟨f, fd, F.ok sc__law_count (fun vs H Q E h => ?_) (fun cdv A outer s H vs Q E hr h => ?_), m, F.kp, b⟩
  · obtain ⟨v, b, d, rfl, hv, hb, d7, dn, q⟩ := h
    rfl
  obtain ⟨v, b, d, rfl, hv, hb, d7, dn, q⟩ := h
  refine ⟨_, (pss_cons (ps_set (i := 1) sc__law_count.nd rfl (.inl rfl) pe_int)
      (pss_cons (ps_for PassesOwn.never rfl (pi_tup (pv 0)) (pg_name (i := 2) sc__law_count.nd rfl (.inl rfl))
      (pss_cons (ps_set (i := 1) sc__law_count.nd rfl (.inl rfl) (pe_op op_add (pv 1) pe_int))
        (pss_one (ps_for PassesOwn.never rfl (pi_list (pe_call G__law_inner (hr.mono (by omega)) (by rfl) m__law_inner k__law_inner b__law_inner .nil pass0 (pa_cons (pv 2) pa_nil))) (pg_name (i := 3) sc__law_count.nd rfl (.inl rfl))
        (pss_one (ps_set (i := 1) sc__law_count.nd rfl (.inl rfl) (pe_op op_add (pv 1) (pe_call G__law_count (hr.mono (by omega)) (by rfl) m__law_count k__law_count b__law_count .nil pass0 (pa_cons (pv 3) pa_nil)))))))))
      (pss_one (ps_ret (pv 1))))), ?_⟩
  obtain ⟨a, xs, rfl, hq, hk, lx⟩ := dp_parts hv
  refine ⟨_, rfl, a, rfl, ⟨_, hq⟩, for_it (walk_tup (xs := xs)) (fun i σ H' => ∃ (y2 y3 : Option V), σ = [some (.ref a), some (.int (cntB (b.take i) : Nat)), y2, y3] ∧ Same H H') ⟨_, _, by rw [List.take_zero, cntB]; rfl, Same.refl _⟩ (fun i σ H' _ h' => ?_) ?_ ?_⟩
  · obtain ⟨_, _, _, s1⟩ := h'
    exact seqT_same s1 hq
  · rintro i x σ H1 H2 hi ⟨y2, y3, rfl, s1⟩ ⟨rfl, hx⟩
    obtain ⟨dd, ed, hx⟩ := dpa_getx' (dpa_same s1 hk) hx
    rw [stDs_map, List.getElem?_map] at ed
    obtain ⟨s, es, rfl⟩ := Option.map_eq_some_iff.mp ed
    have hs := allB_mem hb s (List.mem_of_getElem? es)
    have d6 : d ≤ 6 := allS_hd hs
    refine ⟨_, rfl, _, _, rfl, rfl, ?_⟩
    refine ⟨_, rfl, x, s, rfl, hx, fun l ws H3 s3 nl hl hws => ⟨l, rfl, ⟨_, SqL.of hl⟩, ?_⟩⟩
    have lw := dpa_len hws
    rw [List.length_map] at lw
    refine for_itN (walk_list (xs := ws)) (fun j σ H' => ∃ (y3 : Option V), σ = [some (.ref a), some (.int (cntB (b.take i) + 1 + (((inS s).take j).map cntB).sum : Nat)), some x, y3] ∧ Same H3 H') ⟨_, rfl, Same.refl _⟩ (fun j σ H' _ h' => ?_) ?_ ?_
    · obtain ⟨_, _, s4⟩ := h'
      exact SqL.of (s4 _ _ hl)
    · rintro j y σ H4 H5 hj ⟨y3, rfl, s4⟩ ⟨rfl, hy⟩
      obtain ⟨dd, ed, hy⟩ := dpa_getx' (dpa_same s4 hws) hy
      rw [List.getElem?_map] at ed
      obtain ⟨b', eb, rfl⟩ := Option.map_eq_some_iff.mp ed
      refine ⟨_, rfl, _, rfl, y, b', d + 1, rfl, hy, dpB_in hs (List.mem_of_getElem? eb), by omega, by omega, fun H6 s6 => ⟨_, _, rfl, rfl, ?_⟩⟩
      refine ⟨some y, ?_, s4.trans s6⟩
      have e : ((cntB (b.take i) + 1 + (((inS s).take (j + 1)).map cntB).sum : Nat) : Int) = ((cntB (b.take i) + 1 + (((inS s).take j).map cntB).sum : Nat) : Int) + ((cntB b' : Nat) : Int) := by
        rw [take_succ_at eb, List.map_append, List.sum_append, List.map_singleton, List.sum_singleton]
        omega
      rw [e]
      rfl
    · rintro σ H4 ⟨y3, rfl, s4⟩
      refine ⟨some x, y3, ?_, s1.trans (s3.trans s4)⟩
      have e : cntB (b.take (i + 1)) = cntB (b.take i) + 1 + (((inS s).take ws.length).map cntB).sum := by
        rw [lw, List.take_length, take_succ_at es, cntB_app, cntB, cntB, cnt_in]
        omega
      rw [e]
  · rintro σ H1 ⟨y2, y3, rfl, s1⟩
    refine ⟨_, rfl, ?_⟩
    rw [lx, List.take_length]
    exact q H1 s1


end
end Pf

namespace Pf
open PySem PySem.Spec PyProof.Rows L2
section
variable {P : Program} {w : World} {K : PySem.W.Frag} {mg : Str → Option Value} {base : Heap}
variable {c : Nat → Addr}
/-! ### the dict that a law lays a program out in -/
structure MdA where
  d : Addr
  aP : Addr
  aC : Addr
  aN : Addr
  aS : Addr
  aA : Addr
  aR : Addr
  ns : List Addr
  ss : List Addr
  ps : List Addr
  rs : List Addr
/-- the lists that grow -/
def MdA.gr (m : MdA) : List Addr := m.aP :: m.rs
/-- those that stay -/
def MdA.st (m : MdA) : List Addr := [m.d, m.aC, m.aN, m.aS, m.aA, m.aR] ++ (m.ns ++ (m.ss ++ m.ps))
def MdK (m : MdA) (g : Pg) (kvs : List (Key × V)) : Prop := valV kvs (Sum.inr ("answers" : Str)) = some (.int g.a) ∧ valV kvs (Sum.inr ("places" : Str)) = some (.ref m.aP) ∧ valV kvs (Sum.inr ("called" : Str)) = some (.ref m.aC) ∧ valV kvs (Sum.inr ("names" : Str)) = some (.ref m.aN) ∧ valV kvs (Sum.inr ("sizes" : Str)) = some (.ref m.aS) ∧ valV kvs (Sum.inr ("passed" : Str)) = some (.ref m.aA) ∧ valV kvs (Sum.inr ("rows" : Str)) = some (.ref m.aR)
structure MdNe (K : PySem.W.Frag) (H : Hp) (g : Pg) (m : MdA) (pl : List PyData) (rws : List (List PyData)) : Prop where
  h0 : ∃ kvs, H m.d = some (.dK kvs) ∧ MdK m g kvs
  hP : ∃ zs, H m.aP = some (.lst zs) ∧ DpAll K H zs pl
  hC : H m.aC = some (.lst ((g.ps.map Pr.nm).map V.str))
  hN : H m.aN = some (.lst (m.ns.map V.ref))
  hn : All2 (fun a p => H a = some (.lst (((scp g.vs p).map Vr.nm).map V.str))) m.ns g.ps
  hS : H m.aS = some (.lst (m.ss.map V.ref))
  hs : All2 (fun a p => H a = some (.lst (((scp g.vs p).map Vr.sz).map V.int))) m.ss g.ps
  hA : H m.aA = some (.lst (m.ps.map V.ref))
  ha : All2 (fun a (p : Pr) => H a = some (.lst ((p.ps.map Vr.sz).map V.int))) m.ps g.ps
  hR : H m.aR = some (.lst (m.rs.map V.ref))
  hr : All2 (fun a q => ∃ zs, H a = some (.lst zs) ∧ DpAll K H zs q) m.rs rws
  nd : m.gr.Nodup
  ap : ∀ a ∈ m.st, a ∉ m.gr
  tP : ∀ d ∈ pl, tupOk 7 d
  tR : ∀ q ∈ rws, ∀ d ∈ q, tupOk 2 d
theorem MdNe.nt {K : PySem.W.Frag} {H : Hp} {g : Pg} {m : MdA} {pl : List PyData} {rws : List (List PyData)} (h : MdNe K H g m pl rws) : ∀ a ∈ m.gr, ∃ zs, H a = some (.lst zs) := fun a ha => by
  rcases List.mem_cons.mp ha with rfl | ha
  · obtain ⟨zs, e, _⟩ := h.hP
    exact ⟨zs, e⟩
  · obtain ⟨i, hi⟩ := List.getElem?_of_mem ha
    obtain ⟨q, _, zs, e, _⟩ := h.hr.at hi
    exact ⟨zs, e⟩
theorem MdNe.notT {K : PySem.W.Frag} {H : Hp} {g : Pg} {m : MdA} {pl : List PyData} {rws : List (List PyData)} (h : MdNe K H g m pl rws) : ∀ a ∈ m.gr, NotT H a := fun a ha => by
  obtain ⟨zs, e⟩ := h.nt a ha
  exact nt_lst e
/-- what stays, and what is told anew of the lists that grow -/
theorem MdNe.step {K : PySem.W.Frag} {H H' : Hp} {g : Pg} {m : MdA} {pl pl' : List PyData} {rws rws' : List (List PyData)} (h : MdNe K H g m pl rws) (f : FrB m.gr H H') (hP : ∃ zs, H' m.aP = some (.lst zs) ∧ DpAll K H' zs pl') (hr : All2 (fun a q => ∃ zs, H' a = some (.lst zs) ∧ DpAll K H' zs q) m.rs rws') (tP : ∀ d ∈ pl', tupOk 7 d) (tR : ∀ q ∈ rws', ∀ d ∈ q, tupOk 2 d) : MdNe K H' g m pl' rws' := by
  have k : ∀ a o, a ∈ m.st → H a = some o → H' a = some o := fun a o ha e => f a o (h.ap a ha) e
  have i6 : ∀ a, a ∈ [m.d, m.aC, m.aN, m.aS, m.aA, m.aR] → a ∈ m.st := fun a ha => List.mem_append_left _ ha
  obtain ⟨kvs, e0, e1⟩ := h.h0
  have mN : ∀ a ∈ m.ns, a ∈ m.st := fun a ha => List.mem_append_right _ (List.mem_append_left _ ha)
  have mS : ∀ a ∈ m.ss, a ∈ m.st := fun a ha => List.mem_append_right _ (List.mem_append_right _ (List.mem_append_left _ ha))
  have mA : ∀ a ∈ m.ps, a ∈ m.st := fun a ha => List.mem_append_right _ (List.mem_append_right _ (List.mem_append_right _ ha))
  refine ⟨⟨kvs, k _ _ (i6 _ (by simp)) e0, e1⟩, hP, k _ _ (i6 _ (by simp)) h.hC, k _ _ (i6 _ (by simp)) h.hN, ⟨h.hn.1, fun i a p e1 e2 => k _ _ (mN _ (List.mem_of_getElem? e1)) (h.hn.2 i a p e1 e2)⟩, k _ _ (i6 _ (by simp)) h.hS, ⟨h.hs.1, fun i a p e1 e2 => k _ _ (mS _ (List.mem_of_getElem? e1)) (h.hs.2 i a p e1 e2)⟩, k _ _ (i6 _ (by simp)) h.hA, ⟨h.ha.1, fun i a p e1 e2 => k _ _ (mA _ (List.mem_of_getElem? e1)) (h.ha.2 i a p e1 e2)⟩, k _ _ (i6 _ (by simp)) h.hR, hr, h.nd, h.ap, tP, tR⟩
theorem MdNe.same {K : PySem.W.Frag} {H H' : Hp} {g : Pg} {m : MdA} {pl : List PyData} {rws : List (List PyData)} (e : Same H H') (h : MdNe K H g m pl rws) : MdNe K H' g m pl rws := by
  obtain ⟨zs, e1, e2⟩ := h.hP
  exact h.step (FrB.of e) ⟨zs, e _ _ e1, dpa_same e e2⟩ (h.hr.imp fun a q ⟨zs, e1, e2⟩ => ⟨zs, e _ _ e1, dpa_same e e2⟩) h.tP h.tR
/-- a place more -/
theorem MdNe.place {K : PySem.W.Frag} {H : Hp} {g : Pg} {m : MdA} {pl : List PyData} {rws : List (List PyData)} {zs : List V} {v : V} {d : PyData} (h : MdNe K H g m pl rws) (e : H m.aP = some (.lst zs)) (hd : Dp K H v d) (td : tupOk 7 d) : MdNe K (L2.upd H m.aP (.lst (zs ++ [v]))) g m (pl ++ [d]) rws := by
  obtain ⟨zs', e1, e2⟩ := h.hP
  rw [e] at e1
  cases e1
  have ni := (List.nodup_cons.mp h.nd).1
  refine h.step (FrB.upd List.mem_cons_self) ⟨_, upd_same, dpa_app (dpa_mut e 7 h.tP e2) (dp_mut e 7 td hd)⟩ ⟨h.hr.1, fun i a q ea eq => ?_⟩ (fun d' hd' => ?_) h.tR
  · obtain ⟨zs, e1, e2⟩ := h.hr.2 i a q ea eq
    refine ⟨zs, (upd_ne fun z => ni ?_).trans e1, dpa_mut e 2 (h.tR q (List.mem_of_getElem? eq)) e2⟩
    rw [← z]
    exact List.mem_of_getElem? ea
  · rcases List.mem_append.mp hd' with hd' | hd'
    · exact h.tP _ hd'
    · rcases List.mem_singleton.mp hd' with rfl
      exact td
/-- a row more, of the k-th procedure -/
theorem MdNe.row {K : PySem.W.Frag} {H : Hp} {g : Pg} {m : MdA} {pl : List PyData} {rws : List (List PyData)} {k : Nat} {a : Addr} {q : List PyData} {zs : List V} {v : V} {d : PyData} (h : MdNe K H g m pl rws) (ea : m.rs[k]? = some a) (eq : rws[k]? = some q) (e : H a = some (.lst zs)) (hd : Dp K H v d) (td : tupOk 2 d) : MdNe K (L2.upd H a (.lst (zs ++ [v]))) g m pl (rws.set k (q ++ [d])) := by
  obtain ⟨ni, nr⟩ := List.nodup_cons.mp h.nd
  have ma := List.mem_of_getElem? ea
  have tq := h.tR q (List.mem_of_getElem? eq)
  obtain ⟨zs', e1, e2⟩ := h.hr.2 k a q ea eq
  rw [e] at e1
  cases e1
  obtain ⟨zp, p1, p2⟩ := h.hP
  refine h.step (FrB.upd (List.mem_cons_of_mem _ ma)) ⟨zp, (upd_ne fun z => ni (by rw [z]; exact ma)).trans p1, dpa_mut e 7 h.tP p2⟩ ⟨by rw [List.length_set]; exact h.hr.1, fun i b c eb ec => ?_⟩ h.tP (fun q' hq' d' hd' => ?_)
  · by_cases z : i = k
    · subst z
      rw [ea] at eb
      cases eb
      rw [List.getElem?_set_self (List.getElem?_eq_some_iff.mp eq).1] at ec
      cases ec
      exact ⟨_, upd_same, dpa_app (dpa_mut e 2 tq e2) (dp_mut e 2 td hd)⟩
    · rw [List.getElem?_set_ne (fun y => z y.symm)] at ec
      obtain ⟨zb, b1, b2⟩ := h.hr.2 i b c eb ec
      refine ⟨zb, (upd_ne fun y => z ?_).trans b1, dpa_mut e 2 (h.tR c (List.mem_of_getElem? ec)) b2⟩
      subst y
      exact (List.getElem?_inj (List.getElem?_eq_some_iff.mp eb).1 nr).mp (eb.trans ea.symm)
  · rcases List.mem_or_eq_of_mem_set hq' with hq' | rfl
    · exact h.tR q' hq' d' hd'
    · rcases List.mem_append.mp hd' with hd' | hd'
      · exact tq _ hd'
      · rcases List.mem_singleton.mp hd' with rfl
        exact td


end
end Pf

namespace Pf
open PySem PySem.Spec PyProof.Rows L2
section
variable {P : Program} {w : World} {K : PySem.W.Frag} {mg : Str → Option Value} {base : Heap}
variable {c : Nat → Addr}
def sp__law_place (K : PySem.W.Frag) : Sp := fun us H Q _ => ∃ (g : Pg) (m : MdA) (pl : List PyData) (rws : List (List PyData)) (k : Int) (ro : Str) (sz : Int) (x : V) (ed : PyData), us = [.ref m.d, .int k, .str ro, .int sz, x] ∧ MdNe K H g m pl rws ∧ Dp K H x ed ∧ tupOk 6 ed ∧ pl.length ≤ 900 ∧
  ∀ H', FrB m.gr H H' → MdNe K H' g m (pl ++ [.tuple [.int k, .str ro, .int sz, ed]]) rws → Q (.int (pl.length : Nat)) H'
theorem ok__law_place (T : Txt P K mg c) : Has P w K mg base 1 "_law_place" ["model", "procedure", "role", "size", "expression"] (sp__law_place K) := by
  obtain ⟨f, fd, F, m, b⟩ := T.d__law_place.ex
  refine ⟨f, fd, F.ok sc__law_place (fun vs H Q E h => ?_) (fun cdv A outer s H vs Q E hr h => ?_), m, F.kp, b⟩
  · obtain ⟨g, m, pl, rws, k, ro, sz, x, ed, rfl, hm, hx, tx, l9, q⟩ := h
    rfl
  obtain ⟨g, m, pl, rws, k, ro, sz, x, ed, rfl, hm, hx, tx, l9, q⟩ := h
  refine ⟨_, (pss_cons (ps_expr (pe_bm PySem.F.plainAttrs_list PySem.F.slot_list_append PySem.F.type_list_append mt_append (pe_dget (dun hr) (pv 0) pe_str (fun _ _ => rfl)) (pa_cons (pe_tup (pa_cons (pv 1) (pa_cons (pv 2) (pa_cons (pv 3) (pa_cons (pv 4) pa_nil))))) pa_nil)))
      (pss_one (ps_ret (pe_op op_sub (pe_callB call_len_seq (by rfl) T.z_len (by decide +kernel) (pa_cons (pe_dget (dun hr) (pv 0) pe_str (fun _ _ => rfl)) pa_nil)) pe_int)))), ?_⟩
  obtain ⟨kvs, h0, hk⟩ := hm.h0
  obtain ⟨zs, hP, hz⟩ := hm.hP
  have lz := dpa_len hz
  refine ⟨_, rfl, m.d, _, rfl, dg h0 hk.2.1, .inl ⟨rfl, _, SqL.of hP⟩, _, rfl, _, rfl, _, rfl, _, rfl, by show 4 ≤ sizeLine; decide, fun t nt => ?_⟩
  have s1 := same_new (o := .tup [.int k, .str ro, .int sz, x]) nt
  have hP1 := s1 _ _ hP
  refine ⟨m.aP, zs, _, rfl, rfl, hP1, small1000 (by omega), ?_⟩
  have td : tupOk 7 (.tuple [.int k, .str ro, .int sz, ed]) := tup_seq (by show 4 ≤ 100000; decide) fun e he => by
    rcases List.mem_cons.mp he with rfl | he
    · exact (tup_atom 6).1 _
    rcases List.mem_cons.mp he with rfl | he
    · exact (tup_atom 6).2 _
    rcases List.mem_cons.mp he with rfl | he
    · exact (tup_atom 6).1 _
    rcases List.mem_singleton.mp he with rfl
    exact tx
  have hm2 := (hm.same s1).place hP1 (v := .ref t) (d := .tuple [.int k, .str ro, .int sz, ed]) (.tup (SqT.of upd_same) (.cons (.int _) (.cons (.str _) (.cons (.int _) (.cons (dp_same s1 hx) .nil))))) td
  have f2 : FrB m.gr H _ := (FrB.of s1).trans (FrB.upd (d := m.aP) (o := .lst (zs ++ [.ref t])) List.mem_cons_self)
  generalize upd (upd H t (.tup [.int k, .str ro, .int sz, x])) m.aP (.lst (zs ++ [.ref t])) = H2 at hm2 f2 ⊢
  obtain ⟨kvs', h0', hk'⟩ := hm2.h0
  obtain ⟨zs', hP', hz'⟩ := hm2.hP
  have lz' := dpa_len hz'
  rw [List.length_append, List.length_singleton] at lz'
  refine ⟨_, rfl, m.d, _, rfl, dg h0' hk'.2.1, m.aP, zs', rfl, .inl (SqL.of hP'), _, _, rfl, rfl, ?_⟩
  have e : ((zs'.length : Nat) : Int) - 1 = ((pl.length : Nat) : Int) := by omega
  show Q (.int (((zs'.length : Nat) : Int) - 1)) H2
  rw [e]
  exact q H2 f2 hm2


end
end Pf

namespace Pf
open PySem PySem.Spec PyProof.Rows L2
section
variable {P : Program} {w : World} {K : PySem.W.Frag} {mg : Str → Option Value} {base : Heap}
variable {c : Nat → Addr}
theorem filt_at {α : Type} {f : α → Str} : ∀ {xs : List α} {i : Nat} {x : α}, (xs.map f).Nodup → xs[i]? = some x → xs.filter (fun y => f y == f x) = [x]
  | [], _, _, _, h => by simp at h
  | x0 :: xs, 0, x, n, h => by
    cases h
    rw [List.map_cons, List.nodup_cons] at n
    rw [List.filter_cons_of_pos (by simp), List.filter_eq_nil_iff.mpr fun y hy e => n.1 ?_]
    rw [← eq_of_beq e]
    exact List.mem_map.mpr ⟨y, hy, rfl⟩
  | x0 :: xs, i + 1, x, n, h => by
    rw [List.map_cons, List.nodup_cons] at n
    have m : x ∈ xs := List.mem_of_getElem? h
    rw [List.filter_cons_of_neg (fun e => n.1 ?_)]
    · exact filt_at n.2 h
    · rw [eq_of_beq e]
      exact List.mem_map.mpr ⟨x, m, rfl⟩
theorem slot_at {sc : List Vr} {v : Str} (n : (sc.map Vr.nm).Nodup) (h : v ∈ sc.map Vr.nm) : ∃ w, sc[slot sc v]? = some w ∧ w.nm = v ∧ sc.filter (fun w => w.nm == v) = [w] := by
  have e := (idx_at' h).1
  rw [List.getElem?_map] at e
  obtain ⟨w, ew, e2⟩ := Option.map_eq_some_iff.mp e
  refine ⟨w, ew, e2, ?_⟩
  rw [← e2]
  exact filt_at n ew
def wy (nu fo : Nat) : St → List Nat
  | .ifs _ b o => [if b = [] then fo else nu + 1, if o = [] then fo else nu + 1 + cntB b]
  | .whi _ b => [if b = [] then nu else nu + 1, fo]
  | _ => [fo]
theorem MdNe.dom {K : PySem.W.Frag} {H : Hp} {g : Pg} {m : MdA} {pl : List PyData} {rws : List (List PyData)} (h : MdNe K H g m pl rws) {D : Addr} (n : H D = none) : D ∉ m.gr ∧ D ∉ m.st := by
  have no : ∀ {a : Addr} {o : HO}, H a = some o → D ≠ a := fun e z => by
    rw [← z, n] at e
    cases e
  refine ⟨fun hm => ?_, fun hm => ?_⟩
  · obtain ⟨zs, e⟩ := h.nt D hm
    exact no e rfl
  · obtain ⟨kvs, e0, _⟩ := h.h0
    have n0 := no e0
    have n1 := no h.hC
    have n2 := no h.hN
    have n3 := no h.hS
    have n4 := no h.hA
    have n5 := no h.hR
    rcases List.mem_append.mp hm with hm | hm
    · simp at hm
      rcases hm with e | e | e | e | e | e
      · exact n0 e
      · exact n1 e
      · exact n2 e
      · exact n3 e
      · exact n4 e
      · exact n5 e
    rcases List.mem_append.mp hm with hm | hm
    · obtain ⟨i, hi⟩ := List.getElem?_of_mem hm
      obtain ⟨_, _, e⟩ := h.hn.at hi
      exact no e rfl
    rcases List.mem_append.mp hm with hm | hm
    · obtain ⟨i, hi⟩ := List.getElem?_of_mem hm
      obtain ⟨_, _, e⟩ := h.hs.at hi
      exact no e rfl
    · obtain ⟨i, hi⟩ := List.getElem?_of_mem hm
      obtain ⟨_, _, e⟩ := h.ha.at hi
      exact no e rfl
/-- a list that is none of the dict's changes -/
theorem MdNe.mut {K : PySem.W.Frag} {H : Hp} {g : Pg} {m : MdA} {pl : List PyData} {rws : List (List PyData)} {D : Addr} {zs : List V} {o : HO} (h : MdNe K H g m pl rws) (e : H D = some (.lst zs)) (n1 : D ∉ m.gr) (n2 : D ∉ m.st) : MdNe K (L2.upd H D o) g m pl rws := by
  have k : ∀ a o', a ∈ m.st → H a = some o' → L2.upd H D o a = some o' := fun a o' ha e => (upd_ne fun z => n2 (by rw [← z]; exact ha)).trans e
  have i6 : ∀ a, a ∈ [m.d, m.aC, m.aN, m.aS, m.aA, m.aR] → a ∈ m.st := fun a ha => List.mem_append_left _ ha
  obtain ⟨kvs, e0, e1⟩ := h.h0
  have mN : ∀ a ∈ m.ns, a ∈ m.st := fun a ha => List.mem_append_right _ (List.mem_append_left _ ha)
  have mS : ∀ a ∈ m.ss, a ∈ m.st := fun a ha => List.mem_append_right _ (List.mem_append_right _ (List.mem_append_left _ ha))
  have mA : ∀ a ∈ m.ps, a ∈ m.st := fun a ha => List.mem_append_right _ (List.mem_append_right _ (List.mem_append_right _ ha))
  obtain ⟨zp, p1, p2⟩ := h.hP
  refine ⟨⟨kvs, k _ _ (i6 _ (by simp)) e0, e1⟩, ⟨zp, (upd_ne fun z => n1 (by rw [← z]; exact List.mem_cons_self)).trans p1, dpa_mut e 7 h.tP p2⟩, k _ _ (i6 _ (by simp)) h.hC, k _ _ (i6 _ (by simp)) h.hN, ⟨h.hn.1, fun i a p e1 e2 => k _ _ (mN _ (List.mem_of_getElem? e1)) (h.hn.2 i a p e1 e2)⟩, k _ _ (i6 _ (by simp)) h.hS, ⟨h.hs.1, fun i a p e1 e2 => k _ _ (mS _ (List.mem_of_getElem? e1)) (h.hs.2 i a p e1 e2)⟩, k _ _ (i6 _ (by simp)) h.hA, ⟨h.ha.1, fun i a p e1 e2 => k _ _ (mA _ (List.mem_of_getElem? e1)) (h.ha.2 i a p e1 e2)⟩, k _ _ (i6 _ (by simp)) h.hR, ⟨h.hr.1, fun i a q e1 e2 => ?_⟩, h.nd, h.ap, h.tP, h.tR⟩
  obtain ⟨zq, q1, q2⟩ := h.hr.2 i a q e1 e2
  exact ⟨zq, (upd_ne fun z => n1 (by rw [← z]; exact List.mem_cons_of_mem _ (List.mem_of_getElem? e1))).trans q1, dpa_mut e 2 (h.tR q (List.mem_of_getElem? e2)) q2⟩
theorem all2_at {α β : Type} {R : α → β → Prop} {xs : List α} {ys : List β} (h : All2 R xs ys) {i : Nat} {y : β} (e : ys[i]? = some y) : ∃ x, xs[i]? = some x ∧ R x y := h.of e
theorem ref_at {as : List Addr} {i : Nat} {a : Addr} (e : as[i]? = some a) : atI (as.map V.ref) ((i : Nat) : Int) = some (.ref a) := atI_nat (by rw [List.getElem?_map, e]; rfl)
def sp__law_row (K : PySem.W.Frag) : Sp := fun us H Q _ => ∃ (g : Pg) (m : MdA) (pl : List PyData) (rws : List (List PyData)) (k : Nat) (p : Pr) (x : V) (s : St) (nu fo d : Nat), us = [.ref m.d, .int (k : Nat), x, .int (nu : Nat), .int (fo : Nat)] ∧ MdNe K H g m pl rws ∧ g.Ok ∧ g.ps[k]? = some p ∧ Dp K H x s.d ∧ allS (Gs g p) d s ∧ 1 ≤ d ∧ cntS s ≤ 60 ∧ pl.length ≤ 800 ∧
  ∀ (v : V) (H' : Hp), FrB m.gr H H' → MdNe K H' g m (pl ++ plcS k (scp g.vs p) g.a g.ps s) rws → Dp K H' v (rowD (scp g.vs p) (g.ps.map Pr.nm) (rng pl.length s.exs.length) (wy nu fo s) s) → Q v H'
theorem ok__law_row (T : Txt P K mg c) : Has P w K mg base 11 "_law_row" ["model", "procedure", "statement", "number", "follow"] (sp__law_row K) := by
  obtain ⟨f, fd, F, m, b⟩ := T.d__law_row.ex
  obtain ⟨f__law_place, fd__law_place, G__law_place, m__law_place, k__law_place, b__law_place⟩ := ok__law_place (P := P) (w := w) (base := base) T
  obtain ⟨f__law_count, fd__law_count, G__law_count, m__law_count, k__law_count, b__law_count⟩ := ok__law_count (P := P) (w := w) (base := base) T 8
  refine ⟨f, fd, F.ok sc__law_row (fun vs H Q E h => ?_) (fun cdv A outer s H vs Q E hr h => ?_), m, F.kp, b⟩
  · obtain ⟨g, m, pl, rws, k, p, x, s, nu, fo, d, rfl, hm, ho, ep, hx, hgs, d1, c60, l8, q⟩ := h
    rfl
  obtain ⟨g, m, pl, rws, k, p, x, s, nu, fo, d, rfl, hm, ho, ep, hx, hgs, d1, c60, l8, q⟩ := h
  refine ⟨_, (pss_cons (ps_set (i := 5) sc__law_row.nd rfl (.inl rfl) (pe_ix ix_list (pe_dget (dun hr) (pv 0) pe_str (fun _ _ => rfl)) (pv 1) (fun _ _ => rfl)))
      (pss_cons (ps_set (i := 6) sc__law_row.nd rfl (.inl rfl) (pe_ix ix_tup (pv 2) pe_int (fun _ _ => rfl)))
      (pss_cons (ps_if (pt_cmpR op_eq (pv 6) pe_str (nomark _))
      (pss_cons (ps_set (i := 7) sc__law_row.nd rfl (.inl rfl) (pe_index (pv 5) (pe_ix ix_tup (pv 2) pe_int (fun _ _ => rfl))))
        (pss_cons (ps_set (i := 8) sc__law_row.nd rfl (.inl rfl) (pe_ix ix_list (pe_ix ix_list (pe_dget (dun hr) (pv 0) pe_str (fun _ _ => rfl)) (pv 1) (fun _ _ => rfl)) (pv 7) (fun _ _ => rfl)))
        (pss_one (ps_ret (pe_tup (pa_cons pe_str (pa_cons (pv 7) (pa_cons (pe_call G__law_place (hr.mono (by decide)) (by rfl) m__law_place k__law_place b__law_place .nil pass0 (pa_cons (pv 0) (pa_cons (pv 1) (pa_cons pe_str (pa_cons (pv 8) (pa_cons (pe_ix ix_tup (pv 2) pe_int (fun _ _ => rfl)) pa_nil)))))) (pa_cons (pv 4) pa_nil)))))))))
      pss_nil)
      (pss_cons (ps_if (pt_cmpR op_eq (pv 6) pe_str (nomark _))
      (pss_one (ps_ret (pe_tup (pa_cons pe_str (pa_cons (pe_index (pv 5) (pe_ix ix_tup (pv 2) pe_int (fun _ _ => rfl))) (pa_cons (pv 4) pa_nil))))))
      pss_nil)
      (pss_cons (ps_if (pt_cmpR op_eq (pv 6) pe_str (nomark _))
      (pss_one (ps_ret (pe_tup (pa_cons pe_str (pa_cons (pe_call G__law_place (hr.mono (by decide)) (by rfl) m__law_place k__law_place b__law_place .nil pass0 (pa_cons (pv 0) (pa_cons (pv 1) (pa_cons pe_str (pa_cons (pe_dget (dun hr) (pv 0) pe_str (fun _ _ => rfl)) (pa_cons (pe_ix ix_tup (pv 2) pe_int (fun _ _ => rfl)) pa_nil)))))) (pa_cons (pv 4) pa_nil))))))
      pss_nil)
      (pss_cons (ps_if (pt_cmpR op_eq (pv 6) pe_str (nomark _))
      (pss_one (ps_ret (pe_tup (pa_cons pe_str (pa_cons (pv 4) pa_nil)))))
      pss_nil)
      (pss_cons (ps_if (pt_cmpR op_eq (pv 6) pe_str (nomark _))
      (pss_cons (ps_set (i := 9) sc__law_row.nd rfl (.inl rfl) (pe_index (pe_dget (dun hr) (pv 0) pe_str (fun _ _ => rfl)) (pe_ix ix_tup (pv 2) pe_int (fun _ _ => rfl))))
        (pss_cons (ps_set (i := 10) sc__law_row.nd rfl (.inl rfl) (pe_lst pa_nil))
        (pss_cons (ps_for PassesOwn.never rfl (pi_range1 (by rfl) T.z_range (pa_cons (pe_callB call_len_seq (by rfl) T.z_len (by decide +kernel) (pa_cons (pe_ix ix_tup (pv 2) pe_int (fun _ _ => rfl)) pa_nil)) pa_nil)) (pg_name (i := 11) sc__law_row.nd rfl (.inl rfl))
        (pss_one (ps_expr (pe_bm PySem.F.plainAttrs_list PySem.F.slot_list_append PySem.F.type_list_append mt_append (pv 10) (pa_cons (pe_call G__law_place (hr.mono (by decide)) (by rfl) m__law_place k__law_place b__law_place .nil pass0 (pa_cons (pv 0) (pa_cons (pv 1) (pa_cons pe_str (pa_cons (pe_ix ix_list (pe_ix ix_list (pe_dget (dun hr) (pv 0) pe_str (fun _ _ => rfl)) (pv 9) (fun _ _ => rfl)) (pv 11) (fun _ _ => rfl)) (pa_cons (pe_ix ix_tup (pe_ix ix_tup (pv 2) pe_int (fun _ _ => rfl)) (pv 11) (fun _ _ => rfl)) pa_nil)))))) pa_nil)))))
        (pss_one (ps_ret (pe_tup (pa_cons pe_str (pa_cons (pv 9) (pa_cons (pe_callTy call_tuple_of (by rfl) T.z_tuple (by decide +kernel) (pa_cons (pv 10) pa_nil)) (pa_cons (pv 4) pa_nil))))))))))
      pss_nil)
      (pss_cons (ps_set (i := 12) sc__law_row.nd rfl (.inl rfl) (pe_call G__law_place (hr.mono (by decide)) (by rfl) m__law_place k__law_place b__law_place .nil pass0 (pa_cons (pv 0) (pa_cons (pv 1) (pa_cons pe_str (pa_cons pe_int (pa_cons (pe_ix ix_tup (pv 2) pe_int (fun _ _ => rfl)) pa_nil)))))))
      (pss_cons (ps_set (i := 13) sc__law_row.nd rfl (.inl rfl) (pe_op op_add (pv 3) pe_int))
      (pss_cons (ps_set (i := 14) sc__law_row.nd rfl (.inl rfl) (pv 4))
      (C8.pss_cut (ps_if (pt_cmpR op_eq (pe_callB call_len_seq (by rfl) T.z_len (by decide +kernel) (pa_cons (pe_ix ix_tup (pv 2) pe_int (fun _ _ => rfl)) pa_nil)) pe_int (nomark _))
      (pss_cons (ps_set (i := 13) sc__law_row.nd rfl (.inl rfl) (pv 3))
        (pss_one (ps_if (pt_cmpR op_eq (pv 6) pe_str (nomark _))
        (pss_one (ps_set (i := 13) sc__law_row.nd rfl (.inl rfl) (pv 4)))
        pss_nil)))
      pss_nil)
      (C8.pss_cut (ps_if (PW.pt (pw_and (pt_cmpR op_eq (pv 6) pe_str (nomark _)) (pw_and1 (pt_cmpR op_gt (pe_callB call_len_seq (by rfl) T.z_len (by decide +kernel) (pa_cons (pe_ix ix_tup (pv 2) pe_int (fun _ _ => rfl)) pa_nil)) pe_int (nomark _)))))
      (pss_one (ps_set (i := 14) sc__law_row.nd rfl (.inl rfl) (pe_op op_add (pe_op op_add (pv 3) pe_int) (pe_call G__law_count (hr.mono (by decide)) (by rfl) m__law_count k__law_count b__law_count .nil pass0 (pa_cons (pe_ix ix_tup (pv 2) pe_int (fun _ _ => rfl)) pa_nil)))))
      pss_nil)
      (pss_one (ps_ret (pe_tup (pa_cons pe_str (pa_cons (pv 12) (pa_cons (pv 13) (pa_cons (pv 14) pa_nil))))))))))))))))))), ?_⟩
  have hloc := (allS_hd hgs).2
  have d6 := (allS_hd hgs).1
  obtain ⟨kvs, h0, kA, kP, kC, kN, kS, kQ, kR⟩ := hm.h0
  obtain ⟨an, en, hn⟩ := hm.hn.of ep
  obtain ⟨as', es, hs⟩ := hm.hs.of ep
  have mp := List.mem_of_getElem? ep
  have ndv := ho.vd p mp
  refine ⟨_, rfl, m.d, _, rfl, dg h0 kN, _, rfl, m.aN, _, _, _, rfl, rfl, SqL.of hm.hN, ref_at en, ?_⟩
  cases s with
  | set v0 e0 =>
    rw [St.d] at hx
    obtain ⟨t, us, rfl, ht, hu⟩ := dp_tup' hx
    obtain ⟨_, _, rfl, h1, hu⟩ := dpa_cons hu
    obtain ⟨_, _, rfl, h2, hu⟩ := dpa_cons hu
    obtain ⟨ve, _, rfl, h3, hu⟩ := dpa_cons hu
    obtain rfl := dpa_nil hu
    cases h1
    cases h2
    obtain ⟨w, ew, e2, e3⟩ := slot_at ndv hloc.1
    refine ⟨_, rfl, t, _, _, _, rfl, rfl, ht, atI_nat (j := 0) rfl, ?_⟩
    refine ⟨_, rfl, rfl, _, rfl, yes rfl ?_⟩
    refine .inl ⟨_, rfl, .inl ⟨rfl, _, SqL.of hn⟩, _, rfl, t, _, _, _, rfl, rfl, ht, atI_nat (j := 1) rfl, ?_⟩
    dsimp only [tNil]
    refine index_str (SqL.of hn) hloc.1 ?_
    refine ⟨_, rfl, m.d, _, rfl, dg h0 kS, _, rfl, m.aS, _, _, _, rfl, rfl, SqL.of hm.hS, ref_at es, _, rfl, as', _, _, .int w.sz, rfl, rfl, SqL.of hs, atI_nat (by rw [List.getElem?_map, List.getElem?_map]; show Option.map _ (Option.map _ (_[slot (scp g.vs p) v0]?)) = _; rw [ew]; rfl), ?_⟩
    refine ⟨_, rfl, _, rfl, _, rfl, _, rfl, _, rfl, t, _, _, _, rfl, rfl, ht, atI_nat (j := 2) rfl, g, m, pl, rws, k, "set", w.sz, ve, e0.d, rfl, hm, h3, tup_ex hloc.2.d5, by omega, fun H2 f2 hm2 => ⟨_, rfl, by show 4 ≤ sizeLine; decide, fun u nu' => ?_⟩⟩
    have ea : plcS k (scp g.vs p) g.a g.ps (.set v0 e0) = [.tuple [.int k, .str "set", .int w.sz, e0.d]] := by
      show List.zipWith _ (List.map (fun w => (("set" : Str), w.sz)) (List.filter (fun w => w.nm == v0) (scp g.vs p))) [e0] = _
      rw [e3]
      rfl
    refine q (.ref u) _ (f2.trans (FrB.of (same_new nu'))) (by rw [ea]; exact hm2.same (same_new nu')) (.tup (SqT.of upd_same) (.cons (.str _) (.cons (.int _) (.cons (.int _) (.cons (.int _) .nil)))))
  | read v0 =>
    rw [St.d] at hx
    obtain ⟨t, us, rfl, ht, hu⟩ := dp_tup' hx
    obtain ⟨_, _, rfl, h1, hu⟩ := dpa_cons hu
    obtain ⟨_, _, rfl, h2, hu⟩ := dpa_cons hu
    obtain rfl := dpa_nil hu
    cases h1
    cases h2
    have hm' : v0 ∈ (scp g.vs p).map Vr.nm := by
      obtain ⟨w, hw, e, _⟩ := hloc
      exact List.mem_map.mpr ⟨w, hw, e⟩
    refine ⟨_, rfl, t, _, _, _, rfl, rfl, ht, atI_nat (j := 0) rfl, ?_⟩
    refine ⟨_, rfl, rfl, _, rfl, nope (wd (show (("read" : Str) == "set") = false by decide +kernel)) ?_⟩
    refine ⟨_, rfl, rfl, _, rfl, yes rfl ?_⟩
    refine .inl ⟨_, rfl, .inl ⟨rfl, _, SqL.of hn⟩, _, rfl, t, _, _, _, rfl, rfl, ht, atI_nat (j := 1) rfl, ?_⟩
    dsimp only [tNil]
    refine index_str (SqL.of hn) hm' ?_
    refine ⟨_, rfl, by show 3 ≤ sizeLine; decide, fun u nu' => ?_⟩
    refine q (.ref u) _ (FrB.of (same_new nu')) (by show MdNe K _ g m (pl ++ []) rws; rw [List.append_nil]; exact hm.same (same_new nu')) (.tup (SqT.of upd_same) (.cons (.str _) (.cons (.int _) (.cons (.int _) .nil))))
  | write e0 =>
    rw [St.d] at hx
    obtain ⟨t, us, rfl, ht, hu⟩ := dp_tup' hx
    obtain ⟨_, _, rfl, h1, hu⟩ := dpa_cons hu
    obtain ⟨ve, _, rfl, h3, hu⟩ := dpa_cons hu
    obtain rfl := dpa_nil hu
    cases h1
    refine ⟨_, rfl, t, _, _, _, rfl, rfl, ht, atI_nat (j := 0) rfl, ?_⟩
    refine ⟨_, rfl, rfl, _, rfl, nope (wd (show (("write" : Str) == "set") = false by decide +kernel)) ?_⟩
    refine ⟨_, rfl, rfl, _, rfl, nope (wd (show (("write" : Str) == "read") = false by decide +kernel)) ?_⟩
    refine ⟨_, rfl, rfl, _, rfl, yes rfl ?_⟩
    refine ⟨_, rfl, _, rfl, _, rfl, m.d, _, rfl, dg h0 kA, _, rfl, t, _, _, _, rfl, rfl, ht, atI_nat (j := 1) rfl, g, m, pl, rws, k, "write", g.a, ve, e0.d, rfl, hm, h3, tup_ex (Ex.Gd.d5 hloc), by omega, fun H2 f2 hm2 => ⟨_, rfl, by show 3 ≤ sizeLine; decide, fun u nu' => ?_⟩⟩
    refine q (.ref u) _ (f2.trans (FrB.of (same_new nu'))) (hm2.same (same_new nu')) (.tup (SqT.of upd_same) (.cons (.str _) (.cons (.int _) (.cons (.int _) .nil))))
  | skip =>
    rw [St.d] at hx
    obtain ⟨t, us, rfl, ht, hu⟩ := dp_tup' hx
    obtain ⟨_, _, rfl, h1, hu⟩ := dpa_cons hu
    obtain rfl := dpa_nil hu
    cases h1
    refine ⟨_, rfl, t, _, _, _, rfl, rfl, ht, atI_nat (j := 0) rfl, ?_⟩
    refine ⟨_, rfl, rfl, _, rfl, nope (wd (show (("skip" : Str) == "set") = false by decide +kernel)) ?_⟩
    refine ⟨_, rfl, rfl, _, rfl, nope (wd (show (("skip" : Str) == "read") = false by decide +kernel)) ?_⟩
    refine ⟨_, rfl, rfl, _, rfl, nope (wd (show (("skip" : Str) == "write") = false by decide +kernel)) ?_⟩
    refine ⟨_, rfl, rfl, _, rfl, yes rfl ?_⟩
    refine ⟨_, rfl, by show 2 ≤ sizeLine; decide, fun u nu' => ?_⟩
    refine q (.ref u) _ (FrB.of (same_new nu')) (by show MdNe K _ g m (pl ++ []) rws; rw [List.append_nil]; exact hm.same (same_new nu')) (.tup (SqT.of upd_same) (.cons (.str _) (.cons (.int _) .nil)))
  | call pn as =>
    rw [St.d] at hx
    obtain ⟨t, us, rfl, ht, hu⟩ := dp_tup' hx
    obtain ⟨_, _, rfl, h1, hu⟩ := dpa_cons hu
    obtain ⟨_, _, rfl, h2, hu⟩ := dpa_cons hu
    obtain ⟨va, _, rfl, h3, hu⟩ := dpa_cons hu
    obtain rfl := dpa_nil hu
    cases h1
    cases h2
    obtain ⟨ta, xa, rfl, hta, hxa⟩ := dp_tup' h3
    have lxa := dpa_len hxa
    rw [List.length_map] at lxa
    obtain ⟨⟨q', hq', e1, lq⟩, gd⟩ := hloc
    have mq' : q' ∈ g.ps := List.mem_of_mem_tail hq'
    have hm' : pn ∈ g.ps.map Pr.nm := List.mem_map.mpr ⟨q', mq', e1⟩
    have ei := (idx_at' hm').1
    rw [List.getElem?_map] at ei
    obtain ⟨q2, eq2, e2⟩ := Option.map_eq_some_iff.mp ei
    have ef : g.ps.filter (fun q => q.nm == pn) = [q2] := by
      rw [← e2]
      exact filt_at ho.pd eq2
    obtain rfl : q' = q2 := by
      have : q' ∈ g.ps.filter (fun q => q.nm == pn) := List.mem_filter.mpr ⟨mq', by simp [e1]⟩
      rw [ef] at this
      exact List.mem_singleton.mp this
    have l3 := ho.p3 q' mq'
    generalize hZ : plcS k (scp g.vs p) g.a g.ps (.call pn as) = Z at q
    have eZ : Z = List.zipWith (fun (q : Str × Int) (e : Ex) => PyData.tuple [.int (k : Nat), .str q.1, .int q.2, e.d]) (q'.ps.map fun w => (("pass" : Str), w.sz)) as := by
      rw [← hZ]
      show List.zipWith _ (((g.ps.filter fun q => q.nm == pn).map fun q => q.ps.map fun w => (("pass" : Str), w.sz)).flatten) as = _
      rw [ef, List.map_singleton, List.flatten_singleton]
    have lZ : Z.length = as.length := by
      rw [eZ, List.length_zipWith, List.length_map]
      omega
    refine ⟨_, rfl, t, _, _, _, rfl, rfl, ht, atI_nat (j := 0) rfl, ?_⟩
    refine ⟨_, rfl, rfl, _, rfl, nope (wd (show (("call" : Str) == "set") = false by decide +kernel)) ?_⟩
    refine ⟨_, rfl, rfl, _, rfl, nope (wd (show (("call" : Str) == "read") = false by decide +kernel)) ?_⟩
    refine ⟨_, rfl, rfl, _, rfl, nope (wd (show (("call" : Str) == "write") = false by decide +kernel)) ?_⟩
    refine ⟨_, rfl, rfl, _, rfl, nope (wd (show (("call" : Str) == "skip") = false by decide +kernel)) ?_⟩
    refine ⟨_, rfl, rfl, _, rfl, yes rfl ?_⟩
    refine .inl ⟨_, rfl, m.d, _, rfl, dg h0 kC, .inl ⟨rfl, _, SqL.of hm.hC⟩, _, rfl, t, _, _, _, rfl, rfl, ht, atI_nat (j := 1) rfl, ?_⟩
    dsimp only [tNil]
    refine index_str (SqL.of hm.hC) hm' ?_
    refine ⟨by show 0 ≤ sizeLine; decide, fun D nD => ?_⟩
    obtain ⟨ng, ns⟩ := hm.dom nD
    have s0 := same_new (o := .lst []) nD
    have hD0 := upd_same (H := H) (a := D) (o := .lst [])
    have hm0 := hm.same s0
    generalize upd H D (.lst []) = H0 at s0 hD0 hm0 ⊢
    refine ⟨_, rfl, t, _, _, _, rfl, rfl, seqT_same s0 ht, atI_nat (j := 2) rfl, ta, xa, rfl, .inr (seqT_same s0 hta), _, rfl, by omega, by omega, ?_⟩
    refine for_range (fun j σ H' => ∃ (y7 y8 y11 y12 y13 y14 : Option V), σ = [some (.ref m.d), some (.int (k : Nat)), some (.ref t), some (.int (nu : Nat)), some (.int (fo : Nat)), some (.ref an), some (.str "call"), y7, y8, some (.int ((g.ps.map Pr.nm).idxOf pn : Nat)), some (.ref D), y11, y12, y13, y14] ∧ FrB m.gr H H' ∧ MdNe K H' g m (pl ++ Z.take j) rws ∧ H' D = some (.lst ((rng pl.length j).map fun n => V.int (n : Nat))))
      ⟨_, _, _, _, _, _, rfl, FrB.of s0, by rw [List.take_zero, List.append_nil]; exact hm0, hD0⟩ ?_ ?_
    · rintro j σ H1 hj ⟨y7, y8, y11, y12, y13, y14, rfl, f1, hm1, hD1⟩
      have hj' : j < xa.length := hj
      obtain ⟨e, ee⟩ : ∃ e, as[j]? = some e := ⟨_, List.getElem?_eq_getElem (by omega)⟩
      obtain ⟨w, ew⟩ : ∃ w, q'.ps[j]? = some w := ⟨_, List.getElem?_eq_getElem (by omega)⟩
      have ht1 := seqT_B hm.notT f1 ht
      have hta1 := seqT_B hm.notT f1 hta
      have te : ∀ dd ∈ as.map Ex.d, tupOk 6 dd := fun dd h => by
        obtain ⟨e, h', rfl⟩ := List.mem_map.mp h
        exact tup_ex (gd e h').d5
      obtain ⟨xv, exv, hxv⟩ := dpa_get' (dpa_B hm.notT f1 6 te hxa) (i := j) (d := e.d) (by rw [List.getElem?_map, ee]; rfl)
      have eZj : Z[j]? = some (.tuple [.int (k : Nat), .str "pass", .int w.sz, e.d]) := by
        rw [eZ, List.getElem?_zipWith, List.getElem?_map, ew, ee]
        rfl
      obtain ⟨kvs1, h01, _, _, _, _, _, kQ1, _⟩ := hm1.h0
      obtain ⟨ap, eap, hap⟩ := hm1.ha.of eq2
      have gj : (0 : Int) + (j : Int) = ((j : Nat) : Int) := by omega
      have lt : (pl ++ Z.take j).length = pl.length + j := by rw [List.length_append, List.length_take]; omega
      refine ⟨_, rfl, .inl ⟨rfl, _, SqL.of hD1⟩, _, rfl, _, rfl, _, rfl, m.d, _, rfl, dg h01 kQ1, _, rfl, m.aA, _, _, _, rfl, rfl, SqL.of hm1.hA, ref_at eap, _, rfl, ap, _, _, .int w.sz, rfl, rfl, SqL.of hap, (by rw [gj]; exact atI_nat (by rw [List.getElem?_map, List.getElem?_map, ew]; rfl)), _, rfl, t, _, _, _, rfl, rfl, ht1, atI_nat (j := 2) rfl, _, rfl, ta, xa, _, xv, rfl, rfl, hta1, (by rw [gj]; exact atI_nat exv), g, m, pl ++ Z.take j, rws, k, "pass", w.sz, xv, e.d, rfl, hm1, hxv, tup_ex (gd e (List.mem_of_getElem? ee)).d5, by omega, fun H2 f2 hm2 => ?_⟩
      have hD2 := f2 _ _ ng hD1
      refine ⟨D, _, _, rfl, rfl, hD2, small1000 (by rw [List.length_map]; unfold rng; rw [List.length_map, List.length_range]; omega), ?_⟩
      refine ⟨_, _, _, _, _, _, rfl, fun b o nb eb => (upd_ne (ne_of_none eb nD)).trans ((f1.trans f2) b o nb eb), ?_, ?_⟩
      · rw [take_succ_at eZj, ← List.append_assoc]
        exact hm2.mut hD2 ng ns
      · rw [upd_same, lt]
        unfold rng
        rw [List.range_succ, List.map_append, List.map_append]
        rfl
    · rintro σ H1 ⟨y7, y8, y11, y12, y13, y14, rfl, f1, hm1, hD1⟩
      have hm1' : MdNe K H1 g m (pl ++ Z.take xa.length) rws := hm1
      have hD1' : H1 D = some (.lst ((rng pl.length xa.length).map fun n => V.int (n : Nat))) := hD1
      rw [lxa, ← lZ, List.take_length] at hm1'
      rw [lxa] at hD1'
      refine ⟨_, rfl, _, rfl, D, _, rfl, .inl ⟨SqL.of hD1', fun u nu' => ⟨_, rfl, by show 4 ≤ sizeLine; decide, fun w nw => ?_⟩⟩⟩
      have k1 := same_new (o := .tup ((rng pl.length as.length).map fun n => V.int (n : Nat))) nu'
      have k2 := k1.trans (same_new (o := .tup [.str "call", .int ((g.ps.map Pr.nm).idxOf pn : Nat), .ref u, .int (fo : Nat)]) nw)
      exact q (.ref w) _ (f1.trans (FrB.of k2)) (hm1'.same k2) (.tup (SqT.of upd_same) (.cons (.str _) (.cons (.int _) (.cons (.tup (SqT.of (same_new nw _ _ upd_same)) (dpa_natV _)) (.cons (.int _) .nil)))))
  | ifs ex b1 b2 =>
    rw [allS] at hgs
    rw [cntS] at c60
    rw [St.d] at hx
    obtain ⟨t, us, rfl, ht, hu⟩ := dp_tup' hx
    obtain ⟨_, _, rfl, h1, hu⟩ := dpa_cons hu
    obtain ⟨te, _, rfl, h2, hu⟩ := dpa_cons hu
    obtain ⟨v2, _, rfl, h3, hu⟩ := dpa_cons hu
    obtain ⟨v3, _, rfl, h4, hu⟩ := dpa_cons hu
    obtain rfl := dpa_nil hu
    cases h1
    refine ⟨_, rfl, t, _, _, _, rfl, rfl, ht, atI_nat (j := 0) rfl, ?_⟩
    refine ⟨_, rfl, rfl, _, rfl, nope (wd (show (("if" : Str) == "set") = false by decide +kernel)) ?_⟩
    refine ⟨_, rfl, rfl, _, rfl, nope (wd (show (("if" : Str) == "read") = false by decide +kernel)) ?_⟩
    refine ⟨_, rfl, rfl, _, rfl, nope (wd (show (("if" : Str) == "write") = false by decide +kernel)) ?_⟩
    refine ⟨_, rfl, rfl, _, rfl, nope (wd (show (("if" : Str) == "skip") = false by decide +kernel)) ?_⟩
    refine ⟨_, rfl, rfl, _, rfl, nope (wd (show (("if" : Str) == "call") = false by decide +kernel)) ?_⟩
    have db : allB (Gs g p) (d + 1) b1 := hgs.2.1
    refine ⟨_, rfl, _, rfl, _, rfl, t, _, _, _, rfl, rfl, ht, atI_nat (j := 1) rfl, g, m, pl, rws, k, "test", 2, te, ex.d, rfl, hm, h2, tup_ex (Ex.Gd.d5 hloc), by omega, fun H2 f2 hm2 => ?_⟩
    have ht2 := seqT_B hm.notT f2 ht
    have h32 := dp_B hm.notT f2 21 (tup_body (hd_of ho mp) db (by omega) (by omega)) h3
    obtain ⟨a2, xs2, e22, hq2, _, l2⟩ := dp_parts h32
    cases e22
    have h42 := dp_B hm.notT f2 21 (tup_body (hd_of ho mp) hgs.2.2 (by omega) (by omega)) h4
    obtain ⟨a3, xs3, e33, hq3, _, l3⟩ := dp_parts h42
    cases e33
    refine ⟨_, rfl, _, _, rfl, rfl, _, rfl, ?_⟩
    refine ⟨fun σ' H' => σ' = [some (.ref m.d), some (.int (k : Nat)), some (.ref t), some (.int (nu : Nat)), some (.int (fo : Nat)), some (.ref an), some (.str "if"), none, none, none, none, none, some (.int (pl.length : Nat)), some (.int (((if b1 = [] then fo else nu + 1 : Nat) : Int))), some (.int ((fo : Nat)))] ∧ H' = H2, ?_, ?_⟩
    · refine ⟨_, rfl, t, _, _, _, rfl, rfl, ht2, atI_nat (j := 2) rfl, a2, xs2, rfl, .inr hq2, rfl, _, rfl, ite2 (fun e => ?_) (fun e => ?_)⟩
      · have z : b1 = [] := List.length_eq_zero_iff.mp (by have := V.int.inj (of_decide_eq_true e); omega)
        refine ⟨_, rfl, _, rfl, rfl, _, rfl, yes rfl ⟨_, rfl, ?_⟩⟩
        rw [if_pos z]
        exact ⟨rfl, rfl⟩
      · have z : b1 ≠ [] := fun z => by
          refine absurd (decide_eq_true (congrArg V.int ?_)) e
          rw [l2, z]
          rfl
        rw [if_neg z]
        exact ⟨rfl, rfl⟩
    rintro σ' H' ⟨rfl, rfl⟩
    refine ⟨fun σ' H3 => σ' = [some (.ref m.d), some (.int (k : Nat)), some (.ref t), some (.int (nu : Nat)), some (.int (fo : Nat)), some (.ref an), some (.str "if"), none, none, none, none, none, some (.int (pl.length : Nat)), some (.int (((if b1 = [] then fo else nu + 1 : Nat) : Int))), some (.int (((if b2 = [] then fo else nu + 1 + cntB b1 : Nat) : Int)))] ∧ Same H' H3, ?_, ?_⟩
    · refine ⟨_, rfl, rfl, _, rfl, yes rfl ⟨_, rfl, t, _, _, _, rfl, rfl, ht2, atI_nat (j := 3) rfl, a3, xs3, rfl, .inr hq3, _, _, rfl, rfl, _, rfl, ite2 (fun e => ?_) (fun e => ?_)⟩⟩
      · have z : b2 ≠ [] := fun z => by
          have := dec_t e
          rw [l3, z] at this
          exact absurd this (by decide)
        refine ⟨_, rfl, _, _, rfl, rfl, _, rfl, t, _, _, _, rfl, rfl, ht2, atI_nat (j := 2) rfl, .ref a2, b1, d + 1, rfl, h32, allB_imp (fun d s h => h.1) _ _ db, by omega, by omega, fun H3 s3 => ⟨_, _, rfl, rfl, ?_⟩⟩
        rw [if_neg z]
        exact ⟨rfl, s3⟩
      · have z : b2 = [] := List.length_eq_zero_iff.mp (by have := dec_f e; omega)
        rw [if_pos z]
        exact ⟨rfl, Same.refl _⟩
    rintro σ' H3 ⟨rfl, s3⟩
    refine ⟨_, rfl, _, rfl, _, rfl, by show 4 ≤ sizeLine; decide, fun u nu' => ?_⟩
    have s4 := s3.trans (same_new (o := .tup [.str "test", .int (pl.length : Nat), .int ((if b1 = [] then fo else nu + 1 : Nat) : Int), .int ((if b2 = [] then fo else nu + 1 + cntB b1 : Nat) : Int)]) nu')
    exact q (.ref u) _ (f2.trans (FrB.of s4)) (hm2.same s4) (.tup (SqT.of upd_same) (.cons (.str _) (.cons (.int _) (.cons (.int _) (.cons (.int _) .nil)))))
  | whi ex b1 =>
    rw [allS] at hgs
    rw [cntS] at c60
    rw [St.d] at hx
    obtain ⟨t, us, rfl, ht, hu⟩ := dp_tup' hx
    obtain ⟨_, _, rfl, h1, hu⟩ := dpa_cons hu
    obtain ⟨te, _, rfl, h2, hu⟩ := dpa_cons hu
    obtain ⟨v2, _, rfl, h3, hu⟩ := dpa_cons hu
    obtain rfl := dpa_nil hu
    cases h1
    refine ⟨_, rfl, t, _, _, _, rfl, rfl, ht, atI_nat (j := 0) rfl, ?_⟩
    refine ⟨_, rfl, rfl, _, rfl, nope (wd (show (("while" : Str) == "set") = false by decide +kernel)) ?_⟩
    refine ⟨_, rfl, rfl, _, rfl, nope (wd (show (("while" : Str) == "read") = false by decide +kernel)) ?_⟩
    refine ⟨_, rfl, rfl, _, rfl, nope (wd (show (("while" : Str) == "write") = false by decide +kernel)) ?_⟩
    refine ⟨_, rfl, rfl, _, rfl, nope (wd (show (("while" : Str) == "skip") = false by decide +kernel)) ?_⟩
    refine ⟨_, rfl, rfl, _, rfl, nope (wd (show (("while" : Str) == "call") = false by decide +kernel)) ?_⟩
    have db : allB (Gs g p) (d + 1) b1 := hgs.2
    refine ⟨_, rfl, _, rfl, _, rfl, t, _, _, _, rfl, rfl, ht, atI_nat (j := 1) rfl, g, m, pl, rws, k, "test", 2, te, ex.d, rfl, hm, h2, tup_ex (Ex.Gd.d5 hloc), by omega, fun H2 f2 hm2 => ?_⟩
    have ht2 := seqT_B hm.notT f2 ht
    have h32 := dp_B hm.notT f2 21 (tup_body (hd_of ho mp) db (by omega) (by omega)) h3
    obtain ⟨a2, xs2, e22, hq2, _, l2⟩ := dp_parts h32
    cases e22
    refine ⟨_, rfl, _, _, rfl, rfl, _, rfl, ?_⟩
    refine ⟨fun σ' H' => σ' = [some (.ref m.d), some (.int (k : Nat)), some (.ref t), some (.int (nu : Nat)), some (.int (fo : Nat)), some (.ref an), some (.str "while"), none, none, none, none, none, some (.int (pl.length : Nat)), some (.int (((if b1 = [] then nu else nu + 1 : Nat) : Int))), some (.int ((fo : Nat)))] ∧ H' = H2, ?_, ?_⟩
    · refine ⟨_, rfl, t, _, _, _, rfl, rfl, ht2, atI_nat (j := 2) rfl, a2, xs2, rfl, .inr hq2, rfl, _, rfl, ite2 (fun e => ?_) (fun e => ?_)⟩
      · have z : b1 = [] := List.length_eq_zero_iff.mp (by have := V.int.inj (of_decide_eq_true e); omega)
        refine ⟨_, rfl, _, rfl, rfl, _, rfl, nope (wd (show (("while" : Str) == "if") = false by decide +kernel)) ?_⟩
        rw [if_pos z]
        exact ⟨rfl, rfl⟩
      · have z : b1 ≠ [] := fun z => by
          refine absurd (decide_eq_true (congrArg V.int ?_)) e
          rw [l2, z]
          rfl
        rw [if_neg z]
        exact ⟨rfl, rfl⟩
    rintro σ' H' ⟨rfl, rfl⟩
    refine ⟨fun σ' H3 => σ' = [some (.ref m.d), some (.int (k : Nat)), some (.ref t), some (.int (nu : Nat)), some (.int (fo : Nat)), some (.ref an), some (.str "while"), none, none, none, none, none, some (.int (pl.length : Nat)), some (.int (((if b1 = [] then nu else nu + 1 : Nat) : Int))), some (.int (((fo : Nat) : Int)))] ∧ Same H' H3, ?_, ?_⟩
    · refine ⟨_, rfl, rfl, _, rfl, nope (wd (show (("while" : Str) == "if") = false by decide +kernel)) ?_⟩
      exact iteF ⟨rfl, Same.refl _⟩
    rintro σ' H3 ⟨rfl, s3⟩
    refine ⟨_, rfl, _, rfl, _, rfl, by show 4 ≤ sizeLine; decide, fun u nu' => ?_⟩
    have s4 := s3.trans (same_new (o := .tup [.str "test", .int (pl.length : Nat), .int ((if b1 = [] then nu else nu + 1 : Nat) : Int), .int ((fo : Nat) : Int)]) nu')
    exact q (.ref u) _ (f2.trans (FrB.of s4)) (hm2.same s4) (.tup (SqT.of upd_same) (.cons (.str _) (.cons (.int _) (.cons (.int _) (.cons (.int _) .nil)))))


end
end Pf

namespace Pf
open PySem PySem.Spec PyProof.Rows L2
section
variable {P : Program} {w : World} {K : PySem.W.Frag} {mg : Str → Option Value} {base : Heap}
variable {c : Nat → Addr}
theorem rowL_app (sc : List Vr) (nms : List Str) : ∀ (n : Nat) (A B : List (St × List Nat)), rowL sc nms n (A ++ B) = rowL sc nms n A ++ rowL sc nms (n + cntE A) B
  | n, [], B => by simp [rowL, cntE]
  | n, x :: A, B => by
    have e : n + x.1.exs.length + cntE A = n + cntE (x :: A) := by show _ = n + (List.map (fun q => q.1.exs.length) (x :: A)).sum; rw [List.map_cons, List.sum_cons]; unfold cntE; omega
    rw [List.cons_append, rowL, rowL_app sc nms _ A B, rowL, List.cons_append, e]
theorem plcL_app (k : Nat) (sc : List Vr) (a : Int) (ps : List Pr) (A B : List (St × List Nat)) : plcL k sc a ps (A ++ B) = plcL k sc a ps A ++ plcL k sc a ps B := by
  unfold plcL
  rw [List.map_append, List.flatten_append]
theorem plcL_len {k : Nat} {l a : Int} {sc : List Vr} {ps : List Pr} (n1 : (sc.map Vr.nm).Nodup) (n2 : (ps.map Pr.nm).Nodup) : ∀ {L : List (St × List Nat)}, (∀ q ∈ L, q.1.Loc l sc ps) → (plcL k sc a ps L).length = cntE L
  | [], _ => rfl
  | q :: L, h => by
    have ih := plcL_len (k := k) (a := a) n1 n2 (L := L) fun q' hq => h q' (List.mem_cons_of_mem _ hq)
    have e : plcL k sc a ps (q :: L) = plcS k sc a ps q.1 ++ plcL k sc a ps L := rfl
    have e2 : cntE (q :: L) = q.1.exs.length + cntE L := by unfold cntE; rw [List.map_cons, List.sum_cons]
    rw [e, e2, List.length_append, ih]
    unfold plcS
    rw [List.length_zipWith, aims_len n1 n2 (h q List.mem_cons_self), Nat.min_self]
/-- the ways behind a statement's own -/
def wyR (nu fo : Nat) : St → List (St × List Nat)
  | .ifs _ b o => wayB b (nu + 1) fo ++ wayB o (nu + 1 + cntB b) fo
  | .whi _ b => wayB b (nu + 1) nu
  | _ => []
theorem wayS_wy (s : St) (nu fo : Nat) : wayS s nu fo = (s, wy nu fo s) :: wyR nu fo s := by
  cases s <;> rw [wayS] <;> rfl
theorem row_one (sc : List Vr) (nms : List Str) (n : Nat) (s : St) (w : List Nat) : rowL sc nms n [(s, w)] = [rowD sc nms (rng n s.exs.length) w s] := rfl
theorem plc_one (k : Nat) (sc : List Vr) (a : Int) (ps : List Pr) (s : St) (w : List Nat) : plcL k sc a ps [(s, w)] = plcS k sc a ps s := by
  show plcS k sc a ps s ++ [] = _
  rw [List.append_nil]
theorem sum_cast : ∀ bs : List (List St), (bs.map fun b => ((cntB b : Nat) : Int)).sum = (((bs.map cntB).sum : Nat) : Int)
  | [] => rfl
  | b :: bs => by
    rw [List.map_cons, List.sum_cons, sum_cast bs, List.map_cons, List.sum_cons]
    omega
theorem wayL_B : ∀ (b : List St) (fi : Nat), wayL b fi = wayB b fi (fi + cntB b)
  | [], _ => by rw [wayL, wayB]
  | s :: r, fi => by
    rw [wayL, wayB, wayL_B r, cntB]
    have e : fi + (cntS s + cntB r) = fi + cntS s + cntB r := by omega
    rw [e]
    congr 1
    by_cases h : r = []
    · rw [if_pos h, h, cntB]
      rfl
    · rw [if_neg h]
theorem allB_take {P : Nat → St → Prop} {d : Nat} : ∀ {b : List St} {i : Nat}, allB P d b → allB P d (b.take i)
  | _, 0, _ => by rw [List.take_zero, allB]; trivial
  | [], _ + 1, h => h
  | s :: b, i + 1, h => by
    rw [allB] at h
    rw [List.take_succ_cons, allB]
    exact ⟨h.1, allB_take h.2⟩
def sp__law_flat (K : PySem.W.Frag) (n : Nat) : Sp := fun us H Q _ => ∃ (g : Pg) (m : MdA) (pl : List PyData) (rws : List (List PyData)) (q0 : List PyData) (k : Nat) (p : Pr) (v : V) (b : List St) (nu af d : Nat), us = [.ref m.d, .int (k : Nat), v, .int (nu : Nat), .int (af : Nat)] ∧ MdNe K H g m pl rws ∧ g.Ok ∧ g.ps[k]? = some p ∧ rws[k]? = some q0 ∧ Dp K H v (.tuple (stDs b)) ∧ allB (Gs g p) d b ∧ 1 ≤ d ∧ d ≤ 7 ∧ 8 ≤ d + n ∧ cntB b ≤ 60 ∧ pl.length + 3 * cntB b ≤ 700 ∧ q0.length + cntB b ≤ 200 ∧
  ∀ (H' : Hp), FrB m.gr H H' → MdNe K H' g m (pl ++ plcL k (scp g.vs p) g.a g.ps (wayB b nu af)) (rws.set k (q0 ++ rowL (scp g.vs p) (g.ps.map Pr.nm) pl.length (wayB b nu af))) → Q .non H'
theorem ok__law_flat (T : Txt P K mg c) : ∀ n : Nat, Has P w K mg base (n + 12) "_law_flat" ["model", "procedure", "body", "number", "after"] (sp__law_flat K n)
| 0 => .none T.d__law_flat fun vs H Q E h => by
    obtain ⟨_, _, _, _, _, _, _, _, _, _, _, _, _, _, _, _, _, _, _, _, h7, h8, _⟩ := h
    omega
| n + 1 => by
  obtain ⟨f__law_flat, fd__law_flat, G__law_flat, m__law_flat, k__law_flat, b__law_flat⟩ := ok__law_flat T n
  obtain ⟨f, fd, F, m, b⟩ := T.d__law_flat.ex
  obtain ⟨f__law_inner, fd__law_inner, G__law_inner, m__law_inner, k__law_inner, b__law_inner⟩ := ok__law_inner (P := P) (w := w) (base := base) T
  obtain ⟨f__law_count, fd__law_count, G__law_count, m__law_count, k__law_count, b__law_count⟩ := ok__law_count (P := P) (w := w) (base := base) T 8
  obtain ⟨f__law_row, fd__law_row, G__law_row, m__law_row, k__law_row, b__law_row⟩ := ok__law_row (P := P) (w := w) (base := base) T
  refine ⟨f, fd, F.ok sc__law_flat (fun vs H Q E h => ?_) (fun cdv A outer s H vs Q E hr h => ?_), m, F.kp, b⟩
  · obtain ⟨g, m, pl, rws, q0, k, p, v, b, nu, af, d, rfl, hm, ho, ep, eq0, hv, hb, d1, d7, dn, c60, l7, lq, q⟩ := h
    rfl
  obtain ⟨g, m, pl, rws, q0, k, p, v, b, nu, af, d, rfl, hm, ho, ep, eq0, hv, hb, d1, d7, dn, c60, l7, lq, q⟩ := h
  refine ⟨_, (pss_one (ps_for PassesOwn.never rfl (pi_range1 (by rfl) T.z_range (pa_cons (pe_callB call_len_seq (by rfl) T.z_len (by decide +kernel) (pa_cons (pv 2) pa_nil)) pa_nil)) (pg_name (i := 5) sc__law_flat.nd rfl (.inl rfl))
      (pss_cons (ps_set (i := 6) sc__law_flat.nd rfl (.inl rfl) (pe_ix ix_tup (pv 2) (pv 5) (fun _ _ => rfl)))
        (pss_cons (ps_set (i := 7) sc__law_flat.nd rfl (.inl rfl) (pe_op op_add (pe_op op_add (pv 3) pe_int) (pe_callB (cr_sum rfl) (by rfl) T.z_sum (by decide +kernel) (pa_cons (pe_lc (own := [("part", 9)]) (g := gName 9) (by rfl) sc__law_flat.nd (pi_list (pe_call G__law_inner (hr.mono (by omega)) (by rfl) m__law_inner k__law_inner b__law_inner .nil pass0 (pa_cons (pv 6) pa_nil))) (blkOk_by (own := [("part", 9)]) (N := ["model", "procedure", "body", "number", "after", "k", "statement", "follow", "later", "part"]) (sc := defScope s__law_flat) (by decide +kernel)) (fun _ _ _ _ _ => pg_name (i := 9) sc__law_flat.nd rfl (Or.inl rfl)) (fun _ _ _ _ _ => pts_nil) (fun _ _ _ _ _ => (pe_call G__law_count (hr.mono (by omega)) (by rfl) m__law_count k__law_count b__law_count .nil pass0 (pa_cons (pv 9) pa_nil)))) pa_nil))))
        (pss_cons (ps_set (i := 8) sc__law_flat.nd rfl (.inl rfl) (pv 7))
        (C8.pss_cut (ps_if (pt_cmpR op_eq (pe_op op_add (pv 5) pe_int) (pe_callB call_len_seq (by rfl) T.z_len (by decide +kernel) (pa_cons (pv 2) pa_nil)) (nomark _))
        (pss_one (ps_set (i := 7) sc__law_flat.nd rfl (.inl rfl) (pv 4)))
        pss_nil)
        (pss_cons (ps_expr (pe_bm PySem.F.plainAttrs_list PySem.F.slot_list_append PySem.F.type_list_append mt_append (pe_ix ix_list (pe_dget (dun hr) (pv 0) pe_str (fun _ _ => rfl)) (pv 1) (fun _ _ => rfl)) (pa_cons (pe_call G__law_row (hr.mono (by omega)) (by rfl) m__law_row k__law_row b__law_row .nil pass0 (pa_cons (pv 0) (pa_cons (pv 1) (pa_cons (pv 6) (pa_cons (pv 3) (pa_cons (pv 7) pa_nil)))))) pa_nil)))
        (pss_cons (ps_if (pt_cmpR op_eq (pe_ix ix_tup (pv 6) pe_int (fun _ _ => rfl)) pe_str (nomark _))
        (pss_one (ps_expr (pe_call G__law_flat (hr.mono (by omega)) (by rfl) m__law_flat k__law_flat b__law_flat .nil pass0 (pa_cons (pv 0) (pa_cons (pv 1) (pa_cons (pe_ix ix_tup (pv 6) pe_int (fun _ _ => rfl)) (pa_cons (pe_op op_add (pv 3) pe_int) (pa_cons (pv 3) pa_nil))))))))
        pss_nil)
        (pss_cons (ps_if (pt_cmpR op_eq (pe_ix ix_tup (pv 6) pe_int (fun _ _ => rfl)) pe_str (nomark _))
        (pss_cons (ps_expr (pe_call G__law_flat (hr.mono (by omega)) (by rfl) m__law_flat k__law_flat b__law_flat .nil pass0 (pa_cons (pv 0) (pa_cons (pv 1) (pa_cons (pe_ix ix_tup (pv 6) pe_int (fun _ _ => rfl)) (pa_cons (pe_op op_add (pv 3) pe_int) (pa_cons (pv 7) pa_nil)))))))
          (pss_one (ps_expr (pe_call G__law_flat (hr.mono (by omega)) (by rfl) m__law_flat k__law_flat b__law_flat .nil pass0 (pa_cons (pv 0) (pa_cons (pv 1) (pa_cons (pe_ix ix_tup (pv 6) pe_int (fun _ _ => rfl)) (pa_cons (pe_op op_add (pe_op op_add (pv 3) pe_int) (pe_call G__law_count (hr.mono (by omega)) (by rfl) m__law_count k__law_count b__law_count .nil pass0 (pa_cons (pe_ix ix_tup (pv 6) pe_int (fun _ _ => rfl)) pa_nil))) (pa_cons (pv 7) pa_nil)))))))))
        pss_nil)
        (pss_one (ps_set (i := 3) sc__law_flat.nd rfl (.inl rfl) (pv 8)))))))))))), ?_⟩
  obtain ⟨a, xs, rfl, hq, hk, lx⟩ := dp_parts hv
  have lb := len_cnt b
  have hdd := hd_of ho (List.mem_of_getElem? ep)
  have ndv := ho.vd p (List.mem_of_getElem? ep)
  generalize hW : (fun i => if i < b.length then wayL (b.take i) nu else wayB b nu af) = W
  have Wlt : ∀ {i}, i < b.length → W i = wayL (b.take i) nu := fun h => by rw [← hW]; exact if_pos h
  have Wge : W b.length = wayB b nu af := by rw [← hW]; exact if_neg (Nat.lt_irrefl _)
  have W0 : W 0 = [] := by
    rw [← hW]
    cases b with
    | nil => simp [wayB]
    | cons s b => simp [wayL]
  have Ws : ∀ {i : Nat} {s : St}, b[i]? = some s → W (i + 1) = W i ++ wayS s (nu + cntB (b.take i)) (if i + 1 = b.length then af else nu + cntB (b.take i) + cntS s) := fun {i s} e => by
    have hi := (List.getElem?_eq_some_iff.mp e).1
    rw [Wlt hi]
    by_cases c : i + 1 = b.length
    · have e2 : b = b.take i ++ [s] := by rw [← take_succ_at e, c, List.take_length]
      have e3 := wayB_snoc (b.take i) s nu af
      rw [← e2] at e3
      rw [c, Wge, e3, if_pos rfl]
    · rw [if_neg c, Wlt (by omega), take_succ_at e, wayL_snoc]
  refine ⟨_, rfl, a, xs, rfl, .inr hq, _, rfl, by omega, by omega, ?_⟩
  refine for_range (fun i σ H' => ∃ (y5 y6 y7 y8 y9 : Option V), σ = [some (.ref m.d), some (.int (k : Nat)), some (.ref a), some (.int (nu + cntB (b.take i) : Nat)), some (.int (af : Nat)), y5, y6, y7, y8, y9] ∧ FrB m.gr H H' ∧ MdNe K H' g m (pl ++ plcL k (scp g.vs p) g.a g.ps (W i)) (rws.set k (q0 ++ rowL (scp g.vs p) (g.ps.map Pr.nm) pl.length (W i))))
    ⟨_, _, _, _, _, by rw [List.take_zero, cntB]; rfl, FrB.of (Same.refl _), by rw [W0]; show MdNe K H g m (pl ++ []) (rws.set k (q0 ++ [])); rw [List.append_nil, List.append_nil, set_same eq0]; exact hm⟩ ?_ ?_
  · rintro i σ H1 hi ⟨y5, y6, y7, y8, y9, rfl, f1, hm1⟩
    have hi' : i < xs.length := hi
    obtain ⟨s, es⟩ : ∃ s, b[i]? = some s := ⟨_, List.getElem?_eq_getElem (by omega)⟩
    have ms := List.mem_of_getElem? es
    have hs := allB_mem hb s ms
    have cs := cntB_mem ms
    have d6 := (allS_hd hs).1
    have gi : (0 : Int) + (i : Int) = ((i : Nat) : Int) := by omega
    obtain ⟨xv, exv, hxv⟩ := dpa_get' hk (i := i) (d := s.d) (by rw [stDs_map, List.getElem?_map, es]; rfl)
    have hx1 := dp_B hm.notT f1 20 (tup_st hdd hs (by omega) d1) hxv
    have hq1 := seqT_B hm.notT f1 hq
    have eW := Ws es
    have ctk : cntB (b.take i) + cntS s ≤ cntB b := by
      have h1 : cntB b = cntB (b.take i) + cntB (b.drop i) := by rw [← cntB_app, List.take_append_drop]
      have h2 := cntB_mem (b := b.drop i) (s := s) (List.mem_of_getElem? (i := 0) (by rw [List.getElem?_drop]; exact es))
      omega
    have eWB : W i = wayB (b.take i) nu (nu + cntB (b.take i)) := by rw [Wlt (by omega), wayL_B]
    have wloc : ∀ q ∈ W i, q.1.Loc g.l (scp g.vs p) g.ps := fun q hq => by
      rw [eWB] at hq
      obtain ⟨⟨_, h⟩, _⟩ := wayB_all _ d _ _ (allB_take hb) q hq
      exact h.2
    have lWp := plcL_len (k := k) (a := g.a) ndv ho.pd wloc
    have cW : cntE (W i) ≤ 3 * cntB (b.take i) := by
      have := cntE_le (L := W i) fun q hq => exs_le ho.p3 (wloc q hq)
      rw [eWB, wayB_len] at this
      rw [eWB]
      exact this
    have lR : (rowL (scp g.vs p) (g.ps.map Pr.nm) pl.length (W i)).length = cntB (b.take i) := by rw [rowL_len, eWB, wayB_len]
    have lpe : (pl ++ plcL k (scp g.vs p) g.a g.ps (W i)).length = pl.length + cntE (W i) := by rw [List.length_append, lWp]
    have lQe : (q0 ++ rowL (scp g.vs p) (g.ps.map Pr.nm) pl.length (W i)).length = q0.length + cntB (b.take i) := by rw [List.length_append, lR]
    have fin0 : plcL k (scp g.vs p) g.a g.ps (W (i + 1)) = plcL k (scp g.vs p) g.a g.ps (W i) ++ (plcS k (scp g.vs p) g.a g.ps s ++ plcL k (scp g.vs p) g.a g.ps (wyR (nu + cntB (b.take i)) (if i + 1 = b.length then af else nu + cntB (b.take i) + cntS s) s)) := by
      rw [eW, plcL_app, wayS_wy, ← List.singleton_append, plcL_app, plc_one]
    have fin1 : rowL (scp g.vs p) (g.ps.map Pr.nm) pl.length (W (i + 1)) = rowL (scp g.vs p) (g.ps.map Pr.nm) pl.length (W i) ++ (rowD (scp g.vs p) (g.ps.map Pr.nm) (rng (pl.length + cntE (W i)) s.exs.length) (wy (nu + cntB (b.take i)) (if i + 1 = b.length then af else nu + cntB (b.take i) + cntS s) s) s :: rowL (scp g.vs p) (g.ps.map Pr.nm) (pl.length + cntE (W i) + s.exs.length) (wyR (nu + cntB (b.take i)) (if i + 1 = b.length then af else nu + cntB (b.take i) + cntS s) s)) := by
      rw [eW, rowL_app, wayS_wy, rowL]
    refine ⟨_, rfl, _, rfl, a, xs, _, xv, rfl, rfl, hq1, (by rw [gi]; exact atI_nat exv), ?_⟩
    refine ⟨_, rfl, _, _, rfl, rfl, _, rfl, xv, s, rfl, hx1, fun l ws H2 s2 nl hl hws => ⟨l, rfl, ⟨_, SqL.of hl⟩, fun D nD => lc_it (walk_list (xs := ws)) (fun j H' => Same H2 H' ∧ H' D = some (.lst ((((inS s).take j).map fun b => ((cntB b : Nat) : Int)).map V.int))) ⟨same_new nD, upd_same⟩ (fun j H' _ h' => SqL.of (h'.1 _ _ hl)) ?_ ?_⟩⟩
    · rintro j y H3 H4 hj ⟨s3, hD3⟩ ⟨rfl, hy⟩
      obtain ⟨dd, ed, hy⟩ := dpa_getx' (dpa_same s3 hws) hy
      rw [List.getElem?_map] at ed
      obtain ⟨b', eb, rfl⟩ := Option.map_eq_some_iff.mp ed
      have lw := dpa_len hws
      rw [List.length_map] at lw
      have li : (inS s).length ≤ 2 := by cases s <;> simp [inS]
      refine ⟨rfl, _, rfl, y, b', d + 1, rfl, hy, dpB_in (allS_imp (fun d s h => h.1) _ _ hs) (List.mem_of_getElem? eb), by omega, by omega, fun H5 s5 => ⟨_, s5 _ _ hD3, small1000 (by rw [List.length_map, List.length_map, List.length_take]; omega), same_mut (s3.trans s5) nD, ?_⟩⟩
      rw [upd_same, take_succ_at eb, List.map_append, List.map_append]
      rfl
    rintro H3 ⟨s3, hD3⟩
    have lw := dpa_len hws
    rw [List.length_map] at lw
    rw [lw, List.take_length] at hD3
    refine ⟨D, _, rfl, SqL.of hD3, _, _, rfl, rfl, ?_⟩
    have ev : ((nu + cntB (b.take i) : Nat) : Int) + 1 + ((inS s).map fun b => ((cntB b : Nat) : Int)).sum = ((nu + cntB (b.take i) + cntS s : Nat) : Int) := by
      rw [sum_cast]
      have := cnt_in s
      omega
    have s13 := s2.trans s3
    dsimp only
    rw [ev]
    have tk : cntB (b.take (i + 1)) = cntB (b.take i) + cntS s := by rw [take_succ_at es, cntB_app, cntB, cntB]; omega
    generalize hpt : nu + cntB (b.take i) = pt at *
    generalize hfo : (if i + 1 = b.length then af else pt + cntS s) = fo at *
    refine ⟨_, rfl, ?_⟩
    refine ⟨fun σ' H4 => σ' = [some (.ref m.d), some (.int (k : Nat)), some (.ref a), some (.int (pt : Nat)), some (.int (af : Nat)), some (.int (0 + (i : Int))), some xv, some (.int (fo : Nat)), some (.int (pt + cntS s : Nat)), y9] ∧ Same H3 H4, ?_, ?_⟩
    · refine ⟨_, rfl, _, _, rfl, rfl, _, rfl, a, xs, rfl, .inr (seqT_same s13 hq1), rfl, _, rfl, ite2 (fun e => ?_) (fun e => ?_)⟩
      · have c : i + 1 = b.length := by have := V.int.inj (of_decide_eq_true e); omega
        rw [if_pos c] at hfo
        subst hfo
        exact ⟨_, rfl, rfl, Same.refl _⟩
      · have c : i + 1 ≠ b.length := fun c => e (decide_eq_true (congrArg V.int (by omega)))
        rw [if_neg c] at hfo
        subst hfo
        exact ⟨rfl, Same.refl _⟩
    rintro σ' H4 ⟨rfl, s4⟩
    have s14 := s13.trans s4
    have hm4 := hm1.same s14
    have hx4 := dp_same s14 hx1
    have eqk : (rws.set k (q0 ++ rowL (scp g.vs p) (g.ps.map Pr.nm) pl.length (W i)))[k]? = some (q0 ++ rowL (scp g.vs p) (g.ps.map Pr.nm) pl.length (W i)) := List.getElem?_set_self (List.getElem?_eq_some_iff.mp eq0).1
    obtain ⟨kvs4, h04, _, _, _, _, _, _, kR4⟩ := hm4.h0
    obtain ⟨ra, era, zs, ez, hz⟩ := hm4.hr.of eqk
    have lex : s.exs.length ≤ 3 := exs_le ho.p3 (allS_hd hs).2
    refine ⟨_, rfl, m.d, _, rfl, dg h04 kR4, _, rfl, m.aR, _, _, _, rfl, rfl, SqL.of hm4.hR, ref_at era, .inl ⟨rfl, _, SqL.of ez⟩, _, rfl, _, rfl, _, rfl, _, rfl, _, rfl, g, m, _, _, k, p, xv, s, pt, fo, d, rfl, hm4, ho, ep, hx4, hs, d1, by omega, by omega, fun rv H5 f5 hm5 hrv => ?_⟩
    obtain ⟨ra', era', zs5, ez5, hz5⟩ := hm5.hr.of eqk
    rw [era] at era'
    cases era'
    have lz5 := dpa_len hz5
    refine ⟨ra, zs5, _, rfl, rfl, ez5, small1000 (by omega), ?_⟩
    rw [lpe] at hrv
    have td : tupOk 2 (rowD (scp g.vs p) (g.ps.map Pr.nm) (rng (pl.length + cntE (W i)) s.exs.length) (wy pt fo s) s) := tup_rowD (by unfold rng; rw [List.length_map, List.length_range]; omega) s
    have hm6 := hm5.row era eqk ez5 hrv td
    rw [List.set_set] at hm6
    have f46 : FrB m.gr H4 _ := f5.trans (FrB.upd (d := ra) (o := .lst (zs5 ++ [rv])) (List.mem_cons_of_mem _ (List.mem_of_getElem? era)))
    generalize upd H5 ra (.lst (zs5 ++ [rv])) = H6 at hm6 f46 ⊢
    have hx6 := dp_B hm4.notT f46 20 (tup_st hdd hs (by omega) d1) hx4
    have lp2 : ((pl ++ plcL k (scp g.vs p) g.a g.ps (W i)) ++ plcS k (scp g.vs p) g.a g.ps s).length = pl.length + cntE (W i) + s.exs.length := by
      rw [List.length_append, lpe]
      unfold plcS
      rw [List.length_zipWith, aims_len ndv ho.pd (allS_hd hs).2, Nat.min_self]
    have lQ2 : ((q0 ++ rowL (scp g.vs p) (g.ps.map Pr.nm) pl.length (W i)) ++ [rowD (scp g.vs p) (g.ps.map Pr.nm) (rng (pl.length + cntE (W i)) s.exs.length) (wy pt fo s) s]).length = q0.length + cntB (b.take i) + 1 := by
      rw [List.length_append, lQe]
      rfl
    have eqk6 : (rws.set k ((q0 ++ rowL (scp g.vs p) (g.ps.map Pr.nm) pl.length (W i)) ++ [rowD (scp g.vs p) (g.ps.map Pr.nm) (rng (pl.length + cntE (W i)) s.exs.length) (wy pt fo s) s]))[k]? = some ((q0 ++ rowL (scp g.vs p) (g.ps.map Pr.nm) pl.length (W i)) ++ [rowD (scp g.vs p) (g.ps.map Pr.nm) (rng (pl.length + cntE (W i)) s.exs.length) (wy pt fo s) s]) := List.getElem?_set_self (List.getElem?_eq_some_iff.mp eq0).1
    have tk2 : nu + cntB (b.take (i + 1)) = pt + cntS s := by omega
    have fin : ∀ (H7 : Hp), FrB m.gr H6 H7 → MdNe K H7 g m (((pl ++ plcL k (scp g.vs p) g.a g.ps (W i)) ++ plcS k (scp g.vs p) g.a g.ps s) ++ plcL k (scp g.vs p) g.a g.ps (wyR pt fo s)) (rws.set k (((q0 ++ rowL (scp g.vs p) (g.ps.map Pr.nm) pl.length (W i)) ++ [rowD (scp g.vs p) (g.ps.map Pr.nm) (rng (pl.length + cntE (W i)) s.exs.length) (wy pt fo s) s]) ++ rowL (scp g.vs p) (g.ps.map Pr.nm) (pl.length + cntE (W i) + s.exs.length) (wyR pt fo s))) → ∃ (y5 y6 y7 y8 y9' : Option V), [some (.ref m.d), some (.int (k : Nat)), some (.ref a), some (.int (pt + cntS s : Nat)), some (.int (af : Nat)), some (.int (0 + (i : Int))), some xv, some (.int (fo : Nat)), some (.int (pt + cntS s : Nat)), y9] = [some (.ref m.d), some (.int (k : Nat)), some (.ref a), some (.int (nu + cntB (b.take (i + 1)) : Nat)), some (.int (af : Nat)), y5, y6, y7, y8, y9'] ∧ FrB m.gr H H7 ∧ MdNe K H7 g m (pl ++ plcL k (scp g.vs p) g.a g.ps (W (i + 1))) (rws.set k (q0 ++ rowL (scp g.vs p) (g.ps.map Pr.nm) pl.length (W (i + 1)))) := fun H7 f7 h7 => by
      refine ⟨_, _, _, _, _, by rw [tk2], f1.trans ((FrB.of s14).trans (f46.trans f7)), ?_⟩
      rw [fin0, fin1]
      have e1 : ∀ (x : PyData) (A B C : List PyData), ((A ++ B) ++ [x]) ++ C = A ++ (B ++ (x :: C)) := fun x A B C => by simp
      have e2 : ∀ (A B C D : List PyData), ((A ++ B) ++ C) ++ D = A ++ (B ++ (C ++ D)) := fun A B C D => by simp
      rw [e1, e2] at h7
      exact h7
    cases s with
    | set v0 e0 =>
      rw [St.d] at hx6
      obtain ⟨t, us, rfl, ht, hu⟩ := dp_tup' hx6
      obtain ⟨_, _, rfl, h1, hu⟩ := dpa_cons hu
      cases h1
      refine ⟨_, rfl, t, _, _, _, rfl, rfl, ht, atI_nat (j := 0) rfl, rfl, _, rfl, nope (wd (show (("set" : Str) == "while") = false by decide +kernel)) ?_⟩
      refine ⟨_, rfl, t, _, _, _, rfl, rfl, ht, atI_nat (j := 0) rfl, rfl, _, rfl, nope (wd (show (("set" : Str) == "if") = false by decide +kernel)) ?_⟩
      exact ⟨_, rfl, fin H6 (FrB.of (Same.refl _)) (by show MdNe K H6 g m (_ ++ []) (rws.set k (_ ++ [])); rw [List.append_nil, List.append_nil]; exact hm6)⟩
    | read v0 =>
      rw [St.d] at hx6
      obtain ⟨t, us, rfl, ht, hu⟩ := dp_tup' hx6
      obtain ⟨_, _, rfl, h1, hu⟩ := dpa_cons hu
      cases h1
      refine ⟨_, rfl, t, _, _, _, rfl, rfl, ht, atI_nat (j := 0) rfl, rfl, _, rfl, nope (wd (show (("read" : Str) == "while") = false by decide +kernel)) ?_⟩
      refine ⟨_, rfl, t, _, _, _, rfl, rfl, ht, atI_nat (j := 0) rfl, rfl, _, rfl, nope (wd (show (("read" : Str) == "if") = false by decide +kernel)) ?_⟩
      exact ⟨_, rfl, fin H6 (FrB.of (Same.refl _)) (by show MdNe K H6 g m (_ ++ []) (rws.set k (_ ++ [])); rw [List.append_nil, List.append_nil]; exact hm6)⟩
    | write e0 =>
      rw [St.d] at hx6
      obtain ⟨t, us, rfl, ht, hu⟩ := dp_tup' hx6
      obtain ⟨_, _, rfl, h1, hu⟩ := dpa_cons hu
      cases h1
      refine ⟨_, rfl, t, _, _, _, rfl, rfl, ht, atI_nat (j := 0) rfl, rfl, _, rfl, nope (wd (show (("write" : Str) == "while") = false by decide +kernel)) ?_⟩
      refine ⟨_, rfl, t, _, _, _, rfl, rfl, ht, atI_nat (j := 0) rfl, rfl, _, rfl, nope (wd (show (("write" : Str) == "if") = false by decide +kernel)) ?_⟩
      exact ⟨_, rfl, fin H6 (FrB.of (Same.refl _)) (by show MdNe K H6 g m (_ ++ []) (rws.set k (_ ++ [])); rw [List.append_nil, List.append_nil]; exact hm6)⟩
    | skip =>
      rw [St.d] at hx6
      obtain ⟨t, us, rfl, ht, hu⟩ := dp_tup' hx6
      obtain ⟨_, _, rfl, h1, hu⟩ := dpa_cons hu
      cases h1
      refine ⟨_, rfl, t, _, _, _, rfl, rfl, ht, atI_nat (j := 0) rfl, rfl, _, rfl, nope (wd (show (("skip" : Str) == "while") = false by decide +kernel)) ?_⟩
      refine ⟨_, rfl, t, _, _, _, rfl, rfl, ht, atI_nat (j := 0) rfl, rfl, _, rfl, nope (wd (show (("skip" : Str) == "if") = false by decide +kernel)) ?_⟩
      exact ⟨_, rfl, fin H6 (FrB.of (Same.refl _)) (by show MdNe K H6 g m (_ ++ []) (rws.set k (_ ++ [])); rw [List.append_nil, List.append_nil]; exact hm6)⟩
    | call pn as =>
      rw [St.d] at hx6
      obtain ⟨t, us, rfl, ht, hu⟩ := dp_tup' hx6
      obtain ⟨_, _, rfl, h1, hu⟩ := dpa_cons hu
      cases h1
      refine ⟨_, rfl, t, _, _, _, rfl, rfl, ht, atI_nat (j := 0) rfl, rfl, _, rfl, nope (wd (show (("call" : Str) == "while") = false by decide +kernel)) ?_⟩
      refine ⟨_, rfl, t, _, _, _, rfl, rfl, ht, atI_nat (j := 0) rfl, rfl, _, rfl, nope (wd (show (("call" : Str) == "if") = false by decide +kernel)) ?_⟩
      exact ⟨_, rfl, fin H6 (FrB.of (Same.refl _)) (by show MdNe K H6 g m (_ ++ []) (rws.set k (_ ++ [])); rw [List.append_nil, List.append_nil]; exact hm6)⟩
    | whi ex b1 =>
      rw [allS] at hs
      rw [cntS] at cs ctk
      have db : allB (Gs g p) (d + 1) b1 := hs.2
      rw [St.d] at hx6
      obtain ⟨t, us, rfl, ht, hu⟩ := dp_tup' hx6
      obtain ⟨_, _, rfl, h1, hu⟩ := dpa_cons hu
      obtain ⟨te, _, rfl, h2, hu⟩ := dpa_cons hu
      obtain ⟨v2, _, rfl, h3, hu⟩ := dpa_cons hu
      obtain rfl := dpa_nil hu
      cases h1
      refine ⟨_, rfl, t, _, _, _, rfl, rfl, ht, atI_nat (j := 0) rfl, rfl, _, rfl, yes rfl ?_⟩
      refine ⟨_, rfl, _, rfl, _, rfl, t, _, _, _, rfl, rfl, ht, atI_nat (j := 2) rfl, _, rfl, _, _, rfl, rfl, _, rfl, g, m, _, _, _, k, p, v2, b1, pt + 1, pt, d + 1, rfl, hm6, ho, ep, eqk6, h3, db, by omega, by omega, by omega, by omega, by omega, by omega, fun H7 f7 hm7 => ?_⟩
      have ht7 := seqT_B hm6.notT f7 ht
      refine ⟨_, rfl, t, _, _, _, rfl, rfl, ht7, atI_nat (j := 0) rfl, rfl, _, rfl, nope (wd (show (("while" : Str) == "if") = false by decide +kernel)) ?_⟩
      rw [List.set_set, lp2] at hm7
      exact ⟨_, rfl, fin H7 f7 hm7⟩
    | ifs ex b1 b2 =>
      rw [allS] at hs
      rw [cntS] at cs ctk
      have db : allB (Gs g p) (d + 1) b1 := hs.2.1
      have db2 : allB (Gs g p) (d + 1) b2 := hs.2.2
      rw [St.d] at hx6
      obtain ⟨t, us, rfl, ht, hu⟩ := dp_tup' hx6
      obtain ⟨_, _, rfl, h1, hu⟩ := dpa_cons hu
      obtain ⟨te, _, rfl, h2, hu⟩ := dpa_cons hu
      obtain ⟨v2, _, rfl, h3, hu⟩ := dpa_cons hu
      obtain ⟨v3, _, rfl, h4, hu⟩ := dpa_cons hu
      obtain rfl := dpa_nil hu
      cases h1
      refine ⟨_, rfl, t, _, _, _, rfl, rfl, ht, atI_nat (j := 0) rfl, rfl, _, rfl, nope (wd (show (("if" : Str) == "while") = false by decide +kernel)) ?_⟩
      refine ⟨_, rfl, t, _, _, _, rfl, rfl, ht, atI_nat (j := 0) rfl, rfl, _, rfl, yes rfl ?_⟩
      refine ⟨_, rfl, _, rfl, _, rfl, t, _, _, _, rfl, rfl, ht, atI_nat (j := 2) rfl, _, rfl, _, _, rfl, rfl, _, rfl, g, m, _, _, _, k, p, v2, b1, pt + 1, fo, d + 1, rfl, hm6, ho, ep, eqk6, h3, db, by omega, by omega, by omega, by omega, by omega, by omega, fun H7 f7 hm7 => ?_⟩
      have ht7 := seqT_B hm6.notT f7 ht
      have h37 := dp_B hm6.notT f7 21 (tup_body hdd db (by omega) (by omega)) h3
      have h47 := dp_B hm6.notT f7 21 (tup_body hdd db2 (by omega) (by omega)) h4
      rw [List.set_set, lp2] at hm7
      have bloc : ∀ q ∈ wayB b1 (pt + 1) fo, q.1.Loc g.l (scp g.vs p) g.ps := fun q hq => by
        obtain ⟨⟨_, h⟩, _⟩ := wayB_all _ (d + 1) _ _ db q hq
        exact h.2
      have lb1 := plcL_len (k := k) (a := g.a) ndv ho.pd bloc
      have cb1 : cntE (wayB b1 (pt + 1) fo) ≤ 3 * cntB b1 := by
        have := cntE_le fun q hq => exs_le ho.p3 (bloc q hq)
        rw [wayB_len] at this
        exact this
      have lp3 : ((((pl ++ plcL k (scp g.vs p) g.a g.ps (W i)) ++ plcS k (scp g.vs p) g.a g.ps (.ifs ex b1 b2))) ++ plcL k (scp g.vs p) g.a g.ps (wayB b1 (pt + 1) fo)).length = pl.length + cntE (W i) + (St.ifs ex b1 b2).exs.length + cntE (wayB b1 (pt + 1) fo) := by rw [List.length_append, lp2, lb1]
      have eqk7 : ∀ Z : List PyData, (rws.set k Z)[k]? = some Z := fun Z => List.getElem?_set_self (List.getElem?_eq_some_iff.mp eq0).1
      refine ⟨_, rfl, _, rfl, _, rfl, t, _, _, _, rfl, rfl, ht7, atI_nat (j := 3) rfl, _, rfl, _, _, rfl, rfl, _, rfl, t, _, _, _, rfl, rfl, ht7, atI_nat (j := 2) rfl, v2, b1, d + 1, rfl, h37, allB_imp (fun d s h => h.1) _ _ db, by omega, by omega, fun H8 s8 => ⟨_, _, rfl, rfl, _, rfl, g, m, _, _, _, k, p, v3, b2, pt + 1 + cntB b1, fo, d + 1, rfl, hm7.same s8, ho, ep, eqk7 _, dp_same s8 h47, db2, by omega, by omega, by omega, by omega, by omega, ?_, fun H9 f9 hm9 => ?_⟩⟩
      · rw [List.length_append, lQ2, rowL_len, wayB_len]
        omega
      rw [List.set_set, lp3] at hm9
      refine ⟨_, rfl, fin H9 (f7.trans ((FrB.of s8).trans f9)) ?_⟩
      show MdNe K H9 g m (_ ++ plcL k (scp g.vs p) g.a g.ps (wayB b1 (pt + 1) fo ++ wayB b2 (pt + 1 + cntB b1) fo)) (rws.set k (_ ++ rowL (scp g.vs p) (g.ps.map Pr.nm) _ (wayB b1 (pt + 1) fo ++ wayB b2 (pt + 1 + cntB b1) fo)))
      rw [plcL_app, rowL_app, ← List.append_assoc, ← List.append_assoc]
      exact hm9
  · rintro σ H1 ⟨y5, y6, y7, y8, y9, rfl, f1, hm1⟩
    have hm1' : MdNe K H1 g m (pl ++ plcL k (scp g.vs p) g.a g.ps (W xs.length)) (rws.set k (q0 ++ rowL (scp g.vs p) (g.ps.map Pr.nm) pl.length (W xs.length))) := hm1
    rw [lx, Wge] at hm1'
    exact q H1 f1 hm1'


end
end Pf

namespace Pf
open PySem PySem.Spec PyProof.Rows L2
section
variable {P : Program} {w : World} {K : PySem.W.Frag} {mg : Str → Option Value} {base : Heap}
variable {c : Nat → Addr}
/-- the rows procedure by procedure, as lists -/
def ptL (g : Pg) : Nat → List Pr → List (List PyData)
  | _, [] => []
  | n, p :: r => (rowL (scp g.vs p) (g.ps.map Pr.nm) n (pL p) ++ [.tuple [.str "end"]]) :: ptL g (n + cntE (pL p)) r
theorem ptL_d (g : Pg) : ∀ (n : Nat) (xs : List Pr), (ptL g n xs).map PyData.tuple = ptsG g n xs
  | _, [] => rfl
  | n, p :: r => by rw [ptL, ptsG, List.map_cons, ptL_d g _ r]
theorem ptL_len (g : Pg) : ∀ (n : Nat) (xs : List Pr), (ptL g n xs).length = xs.length
  | _, [] => rfl
  | n, p :: r => by rw [ptL, List.length_cons, ptL_len g _ r, List.length_cons]
def MdA.hds (m : MdA) : List Addr := [m.d, m.aP, m.aC, m.aN, m.aS, m.aA, m.aR]
def MdA.tls (m : MdA) : List Addr := m.ns ++ (m.ss ++ (m.ps ++ m.rs))
/-- the dict while its lists are made: so many procedures are done, list by list -/
structure MdB (K : PySem.W.Frag) (H : Hp) (g : Pg) (m : MdA) (cn cs ca cr : Nat) : Prop where
  h0 : ∃ kvs, H m.d = some (.dK kvs) ∧ MdK m g kvs
  hP : H m.aP = some (.lst [])
  hC : H m.aC = some (.lst ((g.ps.map Pr.nm).map V.str))
  hN : H m.aN = some (.lst (m.ns.map V.ref))
  hn : All2 (fun a p => H a = some (.lst (((scp g.vs p).map Vr.nm).map V.str))) m.ns (g.ps.take cn)
  hS : H m.aS = some (.lst (m.ss.map V.ref))
  hs : All2 (fun a p => H a = some (.lst (((scp g.vs p).map Vr.sz).map V.int))) m.ss (g.ps.take cs)
  hA : H m.aA = some (.lst (m.ps.map V.ref))
  ha : All2 (fun a (p : Pr) => H a = some (.lst ((p.ps.map Vr.sz).map V.int))) m.ps (g.ps.take ca)
  hR : H m.aR = some (.lst (m.rs.map V.ref))
  hr : m.rs.length = cr ∧ ∀ a ∈ m.rs, H a = some (.lst [])
  nh : m.hds.Nodup
  nt : m.tls.Nodup
  dj : ∀ a ∈ m.hds, ∀ b ∈ m.tls, a ≠ b
theorem MdB.done {K : PySem.W.Frag} {H : Hp} {g : Pg} {m : MdA} {n : Nat} (h : MdB K H g m n n n n) (e : n = g.ps.length) : MdNe K H g m [] (g.ps.map fun _ => []) := by
  subst e
  have t : g.ps.take g.ps.length = g.ps := List.take_length
  have hn := h.hn
  have hs := h.hs
  have ha := h.ha
  have hr := h.hr
  rw [t] at hn hs ha
  have nt := h.nt
  unfold MdA.tls at nt
  have r1 := List.nodup_append.mp nt
  have r2 := List.nodup_append.mp r1.2.1
  have r3 := List.nodup_append.mp r2.2.1
  have iR : ∀ a ∈ m.rs, a ∈ m.tls := fun a ha => List.mem_append_right _ (List.mem_append_right _ (List.mem_append_right _ ha))
  have nh := h.nh
  unfold MdA.hds at nh
  have pP : m.aP ∈ m.hds := by simp [MdA.hds]
  refine ⟨h.h0, ⟨[], h.hP, .nil⟩, h.hC, h.hN, hn, h.hS, hs, h.hA, ha, h.hR, ⟨by rw [List.length_map]; exact hr.1, fun i a q e1 e2 => ?_⟩, ?_, fun a ha hg => ?_, (fun d hd => nomatch hd), fun q hq d hd => ?_⟩
  · rw [List.getElem?_map] at e2
    obtain ⟨p, _, rfl⟩ := Option.map_eq_some_iff.mp e2
    exact ⟨[], hr.2 a (List.mem_of_getElem? e1), .nil⟩
  · exact List.nodup_cons.mpr ⟨fun hm => h.dj _ pP _ (iR _ hm) rfl, r3.2.1⟩
  · rcases List.mem_append.mp ha with ha | ha
    · have hh : a ∈ m.hds := by
        simp only [MdA.hds, List.mem_cons, List.not_mem_nil, or_false] at ha ⊢
        rcases ha with h | h | h | h | h | h <;> simp [h]
      rcases List.mem_cons.mp hg with rfl | hg
      · simp only [List.nodup_cons, List.mem_cons, List.not_mem_nil, or_false, not_or] at nh
        simp only [List.mem_cons, List.not_mem_nil, or_false] at ha
        obtain ⟨n1, n2, _⟩ := nh
        rcases ha with h | h | h | h | h | h
        · exact n1.1 h.symm
        · exact n2.1 h
        · exact n2.2.1 h
        · exact n2.2.2.1 h
        · exact n2.2.2.2.1 h
        · exact n2.2.2.2.2 h
      · exact h.dj _ hh _ (iR _ hg) rfl
    · have ht : a ∈ m.ns ++ (m.ss ++ m.ps) := ha
      have hT : a ∈ m.tls := by
        unfold MdA.tls
        simp only [List.mem_append] at ht ⊢
        rcases ht with h | h | h
        · exact .inl h
        · exact .inr (.inl h)
        · exact .inr (.inr (.inl h))
      rcases List.mem_cons.mp hg with rfl | hg
      · exact h.dj _ pP _ hT rfl
      · simp only [List.mem_append] at ht
        rcases ht with h | h | h
        · exact r1.2.2 _ h _ (List.mem_append_right _ (List.mem_append_right _ hg)) rfl
        · exact r2.2.2 _ h _ (List.mem_append_right _ hg) rfl
        · exact r3.2.2 _ h _ hg rfl
  · obtain ⟨p, _, rfl⟩ := List.mem_map.mp hq
    exact nomatch hd
theorem MdB.dom {K : PySem.W.Frag} {H : Hp} {g : Pg} {m : MdA} {cn cs ca cr : Nat} (h : MdB K H g m cn cs ca cr) {D : Addr} (n : H D = none) : (∀ a ∈ m.hds, a ≠ D) ∧ ∀ a ∈ m.tls, a ≠ D := by
  have no : ∀ {a : Addr} {o : HO}, H a = some o → a ≠ D := fun e z => by
    rw [z, n] at e
    cases e
  obtain ⟨kvs, e0, _⟩ := h.h0
  constructor
  · intro a ha
    simp only [MdA.hds, List.mem_cons, List.not_mem_nil, or_false] at ha
    rcases ha with rfl | rfl | rfl | rfl | rfl | rfl | rfl
    · exact no e0
    · exact no h.hP
    · exact no h.hC
    · exact no h.hN
    · exact no h.hS
    · exact no h.hA
    · exact no h.hR
  · intro a ha
    simp only [MdA.tls, List.mem_append] at ha
    rcases ha with ha | ha | ha | ha
    · obtain ⟨i, hi⟩ := List.getElem?_of_mem ha
      obtain ⟨_, _, e⟩ := h.hn.at hi
      exact no e
    · obtain ⟨i, hi⟩ := List.getElem?_of_mem ha
      obtain ⟨_, _, e⟩ := h.hs.at hi
      exact no e
    · obtain ⟨i, hi⟩ := List.getElem?_of_mem ha
      obtain ⟨_, _, e⟩ := h.ha.at hi
      exact no e
    · exact no (h.hr.2 a ha)
theorem a2_keep {α β : Type} {R R' : α → β → Prop} {xs : List α} {ys : List β} (h : All2 R xs ys) (k : ∀ a ∈ xs, ∀ p, R a p → R' a p) : All2 R' xs ys := ⟨h.1, fun i a p e1 e2 => k a (List.mem_of_getElem? e1) p (h.2 i a p e1 e2)⟩
theorem MdB.same {K : PySem.W.Frag} {H H' : Hp} {g : Pg} {m : MdA} {cn cs ca cr : Nat} (h : MdB K H g m cn cs ca cr) (s : Same H H') : MdB K H' g m cn cs ca cr := by
  obtain ⟨kvs, e0, e1⟩ := h.h0
  exact ⟨⟨kvs, s _ _ e0, e1⟩, s _ _ h.hP, s _ _ h.hC, s _ _ h.hN, h.hn.imp fun _ _ e => s _ _ e, s _ _ h.hS, h.hs.imp fun _ _ e => s _ _ e, s _ _ h.hA, h.ha.imp fun _ _ e => s _ _ e, s _ _ h.hR, ⟨h.hr.1, fun a ha => s _ _ (h.hr.2 a ha)⟩, h.nh, h.nt, h.dj⟩
theorem hds_ne {a b c d e f g : Addr} (h : [a, b, c, d, e, f, g].Nodup) : (a ≠ b ∧ a ≠ c ∧ a ≠ d ∧ a ≠ e ∧ a ≠ f ∧ a ≠ g) ∧ (b ≠ c ∧ b ≠ d ∧ b ≠ e ∧ b ≠ f ∧ b ≠ g) ∧ (c ≠ d ∧ c ≠ e ∧ c ≠ f ∧ c ≠ g) ∧ (d ≠ e ∧ d ≠ f ∧ d ≠ g) ∧ (e ≠ f ∧ e ≠ g) ∧ f ≠ g := by
  simp only [List.nodup_cons, List.mem_cons, List.not_mem_nil, or_false, not_or] at h
  obtain ⟨h1, h2, h3, h4, h5, h6, _⟩ := h
  exact ⟨h1, h2, h3, h4, h5, h6⟩
theorem MdB.addN {K : PySem.W.Frag} {H H1 : Hp} {g : Pg} {m : MdA} {cn cs ca cr : Nat} {D : Addr} {p : Pr} (ep : g.ps[cn]? = some p) (h : MdB K H g m cn cs ca cr) (s : Same H H1) (nD : H D = none) (eD : H1 D = some (.lst (((scp g.vs p).map Vr.nm).map V.str))) : MdB K (upd H1 m.aN (.lst (m.ns.map V.ref ++ [.ref D]))) g { m with ns := m.ns ++ [D] } (cn + 1) cs ca cr := by
  obtain ⟨⟨w01, w02, w03, w04, w05, w06⟩, ⟨w12, w13, w14, w15, w16⟩, ⟨w23, w24, w25, w26⟩, ⟨w34, w35, w36⟩, ⟨w45, w46⟩, w56⟩ := hds_ne h.nh
  obtain ⟨kvs, e0, e1⟩ := h.h0
  obtain ⟨dh, dt⟩ := h.dom nD
  have k : ∀ {a : Addr} {o : HO}, a ≠ m.aN → H a = some o → upd H1 m.aN (.lst (m.ns.map V.ref ++ [.ref D])) a = some o := fun n e => (upd_ne n).trans (s _ _ e)
  have mh : m.aN ∈ m.hds := by simp [MdA.hds]
  have tn : ∀ a ∈ m.tls, a ≠ m.aN := fun a ha e => h.dj _ mh a ha e.symm
  have iN : ∀ a ∈ m.ns, a ∈ m.tls := fun a ha => List.mem_append_left _ ha
  have iS : ∀ a ∈ m.ss, a ∈ m.tls := fun a ha => List.mem_append_right _ (List.mem_append_left _ ha)
  have iA : ∀ a ∈ m.ps, a ∈ m.tls := fun a ha => List.mem_append_right _ (List.mem_append_right _ (List.mem_append_left _ ha))
  have iR : ∀ a ∈ m.rs, a ∈ m.tls := fun a ha => List.mem_append_right _ (List.mem_append_right _ (List.mem_append_right _ ha))
  have nDt : D ≠ m.aN := (dh _ mh).symm
  have eD2 := (upd_ne nDt (H := H1) (o := .lst (m.ns.map V.ref ++ [.ref D]))).trans eD
  have pm : ({ m with ns := m.ns ++ [D] } : MdA).tls.Perm (D :: m.tls) := by show ((m.ns ++ [D]) ++ (m.ss ++ (m.ps ++ m.rs))).Perm _; rw [List.append_assoc]; exact List.perm_middle
  exact ⟨⟨kvs, k w03 e0, e1⟩,
    k w13 h.hP,
    k w23 h.hC,
    by rw [upd_same, List.map_append]; rfl,
    by rw [take_succ_at ep]; exact (a2_keep h.hn fun a ha p e => k (tn a (iN a ha)) e).app (.one eD2),
    k w34.symm h.hS,
    a2_keep h.hs fun a ha p e => k (tn a (iS a ha)) e,
    k w35.symm h.hA,
    a2_keep h.ha fun a ha p e => k (tn a (iA a ha)) e,
    k w36.symm h.hR,
    ⟨h.hr.1, fun a ha => k (tn a (iR a ha)) (h.hr.2 a ha)⟩,
    h.nh,
    pm.nodup_iff.mpr (List.nodup_cons.mpr ⟨fun hm => dt _ hm rfl, h.nt⟩),
    fun a ha b hb => (List.mem_cons.mp (pm.mem_iff.mp hb)).elim (fun e => by rw [e]; exact dh a ha) (h.dj a ha b)⟩
theorem MdB.addS {K : PySem.W.Frag} {H H1 : Hp} {g : Pg} {m : MdA} {cn cs ca cr : Nat} {D : Addr} {p : Pr} (ep : g.ps[cs]? = some p) (h : MdB K H g m cn cs ca cr) (s : Same H H1) (nD : H D = none) (eD : H1 D = some (.lst (((scp g.vs p).map Vr.sz).map V.int))) : MdB K (upd H1 m.aS (.lst (m.ss.map V.ref ++ [.ref D]))) g { m with ss := m.ss ++ [D] } cn (cs + 1) ca cr := by
  obtain ⟨⟨w01, w02, w03, w04, w05, w06⟩, ⟨w12, w13, w14, w15, w16⟩, ⟨w23, w24, w25, w26⟩, ⟨w34, w35, w36⟩, ⟨w45, w46⟩, w56⟩ := hds_ne h.nh
  obtain ⟨kvs, e0, e1⟩ := h.h0
  obtain ⟨dh, dt⟩ := h.dom nD
  have k : ∀ {a : Addr} {o : HO}, a ≠ m.aS → H a = some o → upd H1 m.aS (.lst (m.ss.map V.ref ++ [.ref D])) a = some o := fun n e => (upd_ne n).trans (s _ _ e)
  have mh : m.aS ∈ m.hds := by simp [MdA.hds]
  have tn : ∀ a ∈ m.tls, a ≠ m.aS := fun a ha e => h.dj _ mh a ha e.symm
  have iN : ∀ a ∈ m.ns, a ∈ m.tls := fun a ha => List.mem_append_left _ ha
  have iS : ∀ a ∈ m.ss, a ∈ m.tls := fun a ha => List.mem_append_right _ (List.mem_append_left _ ha)
  have iA : ∀ a ∈ m.ps, a ∈ m.tls := fun a ha => List.mem_append_right _ (List.mem_append_right _ (List.mem_append_left _ ha))
  have iR : ∀ a ∈ m.rs, a ∈ m.tls := fun a ha => List.mem_append_right _ (List.mem_append_right _ (List.mem_append_right _ ha))
  have nDt : D ≠ m.aS := (dh _ mh).symm
  have eD2 := (upd_ne nDt (H := H1) (o := .lst (m.ss.map V.ref ++ [.ref D]))).trans eD
  have pm : ({ m with ss := m.ss ++ [D] } : MdA).tls.Perm (D :: m.tls) := by show (m.ns ++ ((m.ss ++ [D]) ++ (m.ps ++ m.rs))).Perm _; rw [List.append_assoc]; exact (List.perm_middle.append_left m.ns).trans List.perm_middle
  exact ⟨⟨kvs, k w04 e0, e1⟩,
    k w14 h.hP,
    k w24 h.hC,
    k w34 h.hN,
    a2_keep h.hn fun a ha p e => k (tn a (iN a ha)) e,
    by rw [upd_same, List.map_append]; rfl,
    by rw [take_succ_at ep]; exact (a2_keep h.hs fun a ha p e => k (tn a (iS a ha)) e).app (.one eD2),
    k w45.symm h.hA,
    a2_keep h.ha fun a ha p e => k (tn a (iA a ha)) e,
    k w46.symm h.hR,
    ⟨h.hr.1, fun a ha => k (tn a (iR a ha)) (h.hr.2 a ha)⟩,
    h.nh,
    pm.nodup_iff.mpr (List.nodup_cons.mpr ⟨fun hm => dt _ hm rfl, h.nt⟩),
    fun a ha b hb => (List.mem_cons.mp (pm.mem_iff.mp hb)).elim (fun e => by rw [e]; exact dh a ha) (h.dj a ha b)⟩
theorem MdB.addA {K : PySem.W.Frag} {H H1 : Hp} {g : Pg} {m : MdA} {cn cs ca cr : Nat} {D : Addr} {p : Pr} (ep : g.ps[ca]? = some p) (h : MdB K H g m cn cs ca cr) (s : Same H H1) (nD : H D = none) (eD : H1 D = some (.lst ((p.ps.map Vr.sz).map V.int))) : MdB K (upd H1 m.aA (.lst (m.ps.map V.ref ++ [.ref D]))) g { m with ps := m.ps ++ [D] } cn cs (ca + 1) cr := by
  obtain ⟨⟨w01, w02, w03, w04, w05, w06⟩, ⟨w12, w13, w14, w15, w16⟩, ⟨w23, w24, w25, w26⟩, ⟨w34, w35, w36⟩, ⟨w45, w46⟩, w56⟩ := hds_ne h.nh
  obtain ⟨kvs, e0, e1⟩ := h.h0
  obtain ⟨dh, dt⟩ := h.dom nD
  have k : ∀ {a : Addr} {o : HO}, a ≠ m.aA → H a = some o → upd H1 m.aA (.lst (m.ps.map V.ref ++ [.ref D])) a = some o := fun n e => (upd_ne n).trans (s _ _ e)
  have mh : m.aA ∈ m.hds := by simp [MdA.hds]
  have tn : ∀ a ∈ m.tls, a ≠ m.aA := fun a ha e => h.dj _ mh a ha e.symm
  have iN : ∀ a ∈ m.ns, a ∈ m.tls := fun a ha => List.mem_append_left _ ha
  have iS : ∀ a ∈ m.ss, a ∈ m.tls := fun a ha => List.mem_append_right _ (List.mem_append_left _ ha)
  have iA : ∀ a ∈ m.ps, a ∈ m.tls := fun a ha => List.mem_append_right _ (List.mem_append_right _ (List.mem_append_left _ ha))
  have iR : ∀ a ∈ m.rs, a ∈ m.tls := fun a ha => List.mem_append_right _ (List.mem_append_right _ (List.mem_append_right _ ha))
  have nDt : D ≠ m.aA := (dh _ mh).symm
  have eD2 := (upd_ne nDt (H := H1) (o := .lst (m.ps.map V.ref ++ [.ref D]))).trans eD
  have pm : ({ m with ps := m.ps ++ [D] } : MdA).tls.Perm (D :: m.tls) := by show (m.ns ++ (m.ss ++ ((m.ps ++ [D]) ++ m.rs))).Perm _; rw [List.append_assoc]; exact ((List.perm_middle.append_left m.ss).append_left m.ns).trans ((List.perm_middle.append_left m.ns).trans List.perm_middle)
  exact ⟨⟨kvs, k w05 e0, e1⟩,
    k w15 h.hP,
    k w25 h.hC,
    k w35 h.hN,
    a2_keep h.hn fun a ha p e => k (tn a (iN a ha)) e,
    k w45 h.hS,
    a2_keep h.hs fun a ha p e => k (tn a (iS a ha)) e,
    by rw [upd_same, List.map_append]; rfl,
    by rw [take_succ_at ep]; exact (a2_keep h.ha fun a ha p e => k (tn a (iA a ha)) e).app (.one eD2),
    k w56.symm h.hR,
    ⟨h.hr.1, fun a ha => k (tn a (iR a ha)) (h.hr.2 a ha)⟩,
    h.nh,
    pm.nodup_iff.mpr (List.nodup_cons.mpr ⟨fun hm => dt _ hm rfl, h.nt⟩),
    fun a ha b hb => (List.mem_cons.mp (pm.mem_iff.mp hb)).elim (fun e => by rw [e]; exact dh a ha) (h.dj a ha b)⟩
theorem MdB.addR {K : PySem.W.Frag} {H H1 : Hp} {g : Pg} {m : MdA} {cn cs ca cr : Nat} {D : Addr} (h : MdB K H g m cn cs ca cr) (s : Same H H1) (nD : H D = none) (eD : H1 D = some (.lst ([]))) : MdB K (upd H1 m.aR (.lst (m.rs.map V.ref ++ [.ref D]))) g { m with rs := m.rs ++ [D] } cn cs ca (cr + 1) := by
  obtain ⟨⟨w01, w02, w03, w04, w05, w06⟩, ⟨w12, w13, w14, w15, w16⟩, ⟨w23, w24, w25, w26⟩, ⟨w34, w35, w36⟩, ⟨w45, w46⟩, w56⟩ := hds_ne h.nh
  obtain ⟨kvs, e0, e1⟩ := h.h0
  obtain ⟨dh, dt⟩ := h.dom nD
  have k : ∀ {a : Addr} {o : HO}, a ≠ m.aR → H a = some o → upd H1 m.aR (.lst (m.rs.map V.ref ++ [.ref D])) a = some o := fun n e => (upd_ne n).trans (s _ _ e)
  have mh : m.aR ∈ m.hds := by simp [MdA.hds]
  have tn : ∀ a ∈ m.tls, a ≠ m.aR := fun a ha e => h.dj _ mh a ha e.symm
  have iN : ∀ a ∈ m.ns, a ∈ m.tls := fun a ha => List.mem_append_left _ ha
  have iS : ∀ a ∈ m.ss, a ∈ m.tls := fun a ha => List.mem_append_right _ (List.mem_append_left _ ha)
  have iA : ∀ a ∈ m.ps, a ∈ m.tls := fun a ha => List.mem_append_right _ (List.mem_append_right _ (List.mem_append_left _ ha))
  have iR : ∀ a ∈ m.rs, a ∈ m.tls := fun a ha => List.mem_append_right _ (List.mem_append_right _ (List.mem_append_right _ ha))
  have nDt : D ≠ m.aR := (dh _ mh).symm
  have eD2 := (upd_ne nDt (H := H1) (o := .lst (m.rs.map V.ref ++ [.ref D]))).trans eD
  have pm : ({ m with rs := m.rs ++ [D] } : MdA).tls.Perm (D :: m.tls) := by show (m.ns ++ (m.ss ++ (m.ps ++ (m.rs ++ [D])))).Perm _; exact (((List.perm_append_singleton D m.rs).append_left m.ps).append_left m.ss).append_left m.ns |>.trans (((List.perm_middle.append_left m.ss).append_left m.ns).trans ((List.perm_middle.append_left m.ns).trans List.perm_middle))
  exact ⟨⟨kvs, k w06 e0, e1⟩,
    k w16 h.hP,
    k w26 h.hC,
    k w36 h.hN,
    a2_keep h.hn fun a ha p e => k (tn a (iN a ha)) e,
    k w46 h.hS,
    a2_keep h.hs fun a ha p e => k (tn a (iS a ha)) e,
    k w56 h.hA,
    a2_keep h.ha fun a ha p e => k (tn a (iA a ha)) e,
    by rw [upd_same, List.map_append]; rfl,
    ⟨by rw [List.length_append, h.hr.1]; rfl, fun a ha => (List.mem_append.mp ha).elim (fun ha => k (tn a (iR a ha)) (h.hr.2 a ha)) (fun ha => by rw [List.mem_singleton.mp ha]; exact eD2)⟩,
    h.nh,
    pm.nodup_iff.mpr (List.nodup_cons.mpr ⟨fun hm => dt _ hm rfl, h.nt⟩),
    fun a ha b hb => (List.mem_cons.mp (pm.mem_iff.mp hb)).elim (fun e => by rw [e]; exact dh a ha) (h.dj a ha b)⟩
theorem ptL_snoc (g : Pg) : ∀ (n : Nat) (xs : List Pr) (p : Pr), ptL g n (xs ++ [p]) = ptL g n xs ++ [rowL (scp g.vs p) (g.ps.map Pr.nm) (n + (xs.map fun p => cntE (pL p)).sum) (pL p) ++ [.tuple [.str "end"]]]
  | n, [], p => by simp [ptL]
  | n, x :: xs, p => by
    have e : n + cntE (pL x) + (xs.map fun p => cntE (pL p)).sum = n + ((x :: xs).map fun p => cntE (pL p)).sum := by rw [List.map_cons, List.sum_cons]; omega
    rw [List.cons_append, ptL, ptL_snoc g (n + cntE (pL x)) xs p, ptL, List.cons_append, e]
theorem pL_loc {g : Pg} (ho : g.Ok) {p : Pr} (mp : p ∈ g.ps) : ∀ q ∈ pL p, q.1.Loc g.l (scp g.vs p) g.ps := fun q hq => by
  unfold pL at hq
  obtain ⟨⟨_, h⟩, _⟩ := wayB_all _ 1 _ _ (ho.sb p mp) q hq
  exact h.2
theorem plcG_len {g : Pg} (ho : g.Ok) : ∀ (k : Nat) {xs : List Pr}, (∀ p ∈ xs, p ∈ g.ps) → (plcG g k xs).length = (xs.map fun p => cntE (pL p)).sum
  | _, [], _ => rfl
  | k, p :: r, h => by
    have mp := h p List.mem_cons_self
    rw [plcG, List.length_append, plcL_len (ho.vd p mp) ho.pd (pL_loc ho mp), plcG_len ho (k + 1) fun x hx => h x (List.mem_cons_of_mem _ hx), List.map_cons, List.sum_cons]
theorem cntE_pL {g : Pg} (ho : g.Ok) {p : Pr} (mp : p ∈ g.ps) : cntE (pL p) ≤ 3 * cntB p.bd := by
  have := cntE_le fun q hq => exs_le ho.p3 (pL_loc ho mp q hq)
  unfold pL at this ⊢
  rw [wayB_len] at this
  exact this
theorem sum_le3 : ∀ {xs : List Pr}, (∀ p ∈ xs, cntE (pL p) ≤ 3 * cntB p.bd) → (xs.map fun p => cntE (pL p)).sum ≤ 3 * (xs.map fun p => cntB p.bd).sum
  | [], _ => Nat.le_refl _
  | p :: r, h => by
    have h1 := h p List.mem_cons_self
    have h2 := sum_le3 fun x hx => h x (List.mem_cons_of_mem _ hx)
    rw [List.map_cons, List.map_cons, List.sum_cons, List.sum_cons]
    omega
theorem sum_split (f : Pr → Nat) {xs : List Pr} {k : Nat} {p : Pr} (e : xs[k]? = some p) : ((xs.take k).map f).sum + f p ≤ (xs.map f).sum := by
  have h := List.take_append_drop k xs
  have hd : xs.drop k = p :: xs.drop (k + 1) := by
    obtain ⟨hk, rfl⟩ := List.getElem?_eq_some_iff.mp e
    exact List.drop_eq_getElem_cons hk
  have e2 : (xs.map f).sum = ((xs.take k).map f).sum + (f p + ((xs.drop (k + 1)).map f).sum) := by
    rw [← List.sum_cons, ← List.map_cons, ← hd, ← List.sum_append, ← List.map_append, h]
  omega
/-- the rows when k procedures are laid out -/
def rwK (g : Pg) (k : Nat) : List (List PyData) := ptL g 0 (g.ps.take k) ++ (g.ps.drop k).map fun _ => []
theorem rwK_at {g : Pg} {k : Nat} {p : Pr} (e : g.ps[k]? = some p) : (rwK g k)[k]? = some [] := by
  obtain ⟨hk, rfl⟩ := List.getElem?_eq_some_iff.mp e
  have l : (ptL g 0 (g.ps.take k)).length = k := by rw [ptL_len, List.length_take]; omega
  unfold rwK
  rw [List.getElem?_append_right (by omega), l, Nat.sub_self, List.drop_eq_getElem_cons hk]
  rfl
theorem rwK_set {g : Pg} {k : Nat} {p : Pr} (e : g.ps[k]? = some p) : (rwK g k).set k (rowL (scp g.vs p) (g.ps.map Pr.nm) ((g.ps.take k).map fun p => cntE (pL p)).sum (pL p) ++ [.tuple [.str "end"]]) = rwK g (k + 1) := by
  have ee := e
  obtain ⟨hk, rfl⟩ := List.getElem?_eq_some_iff.mp e
  have l : (ptL g 0 (g.ps.take k)).length = k := by rw [ptL_len, List.length_take]; omega
  unfold rwK
  rw [List.set_append_right _ _ (by omega), l, Nat.sub_self, List.drop_eq_getElem_cons hk, List.map_cons, List.set_cons_zero, take_succ_at ee, ptL_snoc, Nat.zero_add, List.append_assoc]
  rfl
theorem rwK_zero (g : Pg) : rwK g 0 = g.ps.map fun _ => [] := rfl
theorem rwK_all (g : Pg) {n : Nat} (h : n = g.ps.length) : rwK g n = ptL g 0 g.ps := by
  subst h
  unfold rwK
  rw [List.take_length, List.drop_length, List.map_nil, List.append_nil]
def kvsM (l a : Int) (n : Nat) (p : V) : List (Key × V) := [(Sum.inr ("letters" : Str), .int l), (Sum.inr ("answers" : Str), .int a), (Sum.inr ("globals" : Str), .int n), (Sum.inr ("places" : Str), p)]
def kvsF (l a : Int) (n : Nat) (p c nn ss pp rr : V) : List (Key × V) := putK (putK (putK (putK (putK (mergeK [] (kvsM l a n p)) (Sum.inr ("called" : Str)) c) (Sum.inr ("names" : Str)) nn) (Sum.inr ("sizes" : Str)) ss) (Sum.inr ("passed" : Str)) pp) (Sum.inr ("rows" : Str)) rr
theorem kvsF_is (g : Pg) (n : Nat) (m : MdA) : MdK m g (kvsF g.l g.a n (.ref m.aP) (.ref m.aC) (.ref m.aN) (.ref m.aS) (.ref m.aA) (.ref m.aR)) := by
  have e : mergeK [] (kvsM g.l g.a n (.ref m.aP)) = putK (putK (putK (putK ([] : List (Key × V)) (Sum.inr ("letters" : Str)) (.int g.l)) (Sum.inr ("answers" : Str)) (.int g.a)) (Sum.inr ("globals" : Str)) (.int n)) (Sum.inr ("places" : Str)) (.ref m.aP) := rfl
  unfold kvsF
  rw [e]
  refine ⟨?_, ?_, ?_, ?_, ?_, ?_, ?_⟩
  · rw [valV_put, if_neg (by decide +kernel), valV_put, if_neg (by decide +kernel), valV_put, if_neg (by decide +kernel), valV_put, if_neg (by decide +kernel), valV_put, if_neg (by decide +kernel), valV_put, if_neg (by decide +kernel), valV_put, if_neg (by decide +kernel), valV_put, if_pos rfl]
  · rw [valV_put, if_neg (by decide +kernel), valV_put, if_neg (by decide +kernel), valV_put, if_neg (by decide +kernel), valV_put, if_neg (by decide +kernel), valV_put, if_neg (by decide +kernel), valV_put, if_pos rfl]
  · rw [valV_put, if_neg (by decide +kernel), valV_put, if_neg (by decide +kernel), valV_put, if_neg (by decide +kernel), valV_put, if_neg (by decide +kernel), valV_put, if_pos rfl]
  · rw [valV_put, if_neg (by decide +kernel), valV_put, if_neg (by decide +kernel), valV_put, if_neg (by decide +kernel), valV_put, if_pos rfl]
  · rw [valV_put, if_neg (by decide +kernel), valV_put, if_neg (by decide +kernel), valV_put, if_pos rfl]
  · rw [valV_put, if_neg (by decide +kernel), valV_put, if_pos rfl]
  · rw [valV_put, if_pos rfl]


end
end Pf

namespace Pf
open PySem PySem.Spec PyProof.Rows L2
section
variable {P : Program} {w : World} {K : PySem.W.Frag} {mg : Str → Option Value} {base : Heap}
variable {c : Nat → Addr}
def sp__law_model (K : PySem.W.Frag) : Sp := fun us H Q _ => ∃ (v : V) (g : Pg), us = [v] ∧ Dp K H v g.d ∧ g.Ok ∧ ∀ (m : MdA) (H' : Hp), Same H H' → (∀ a, a ∈ m.gr ∨ a ∈ m.st → H a = none) → MdNe K H' g m (plcG g 0 g.ps) (ptL g 0 g.ps) → Q (.ref m.d) H'
theorem ok__law_model (T : Txt P K mg c) : Has P w K mg base 21 "_law_model" ["parts"] (sp__law_model K) := by
  obtain ⟨f, fd, F, m, b⟩ := T.d__law_model.ex
  obtain ⟨f__law_flat, fd__law_flat, G__law_flat, m__law_flat, k__law_flat, b__law_flat⟩ := ok__law_flat (P := P) (w := w) (base := base) T 8
  obtain ⟨f__law_count, fd__law_count, G__law_count, m__law_count, k__law_count, b__law_count⟩ := ok__law_count (P := P) (w := w) (base := base) T 8
  refine ⟨f, fd, F.ok sc__law_model (fun vs H Q E h => ?_) (fun cdv A outer s H vs Q E hr h => ?_), m, F.kp, b⟩
  · obtain ⟨v, g, rfl, hv, ho, q⟩ := h
    rfl
  obtain ⟨v, g, rfl, hv, ho, q⟩ := h
  refine ⟨_, (pss_cons (ps_set (i := 1) sc__law_model.nd rfl (.inl rfl) (pe_disp (pps_cons pe_str (pe_ix ix_tup (pv 0) pe_int (fun _ _ => rfl)) (pps_cons pe_str (pe_ix ix_tup (pv 0) pe_int (fun _ _ => rfl)) (pps_cons pe_str (pe_callB call_len_seq (by rfl) T.z_len (by decide +kernel) (pa_cons (pe_ix ix_tup (pv 0) pe_int (fun _ _ => rfl)) pa_nil)) (pps_cons pe_str (pe_lst pa_nil) pps_nil)))) (by rfl) rfl (by simp) (by decide)))
      (pss_cons (ps_dput (dun hr) (pv 1) pe_str (pe_lc (own := [("told", 2)]) (g := gName 2) (by rfl) sc__law_model.nd (pi_tup (pe_ix ix_tup (pv 0) pe_int (fun _ _ => rfl))) (blkOk_by (own := [("told", 2)]) (N := ["parts", "model", "told", "seen", "k", "body", "pair"]) (sc := defScope s__law_model) (by decide +kernel)) (fun _ _ _ _ _ => pg_name (i := 2) sc__law_model.nd rfl (Or.inl rfl)) (fun _ _ _ _ _ => pts_nil) (fun _ _ _ _ _ => (pe_ix (ix_tupK (K := K) rfl) (pv 2) pe_int (fun _ _ => rfl)))) (by rfl))
      (pss_cons (ps_dput (dun hr) (pv 1) pe_str (pe_lst pa_nil) (by rfl))
      (pss_cons (ps_dput (dun hr) (pv 1) pe_str (pe_lst pa_nil) (by rfl))
      (pss_cons (ps_dput (dun hr) (pv 1) pe_str (pe_lst pa_nil) (by rfl))
      (pss_cons (ps_dput (dun hr) (pv 1) pe_str (pe_lst pa_nil) (by rfl))
      (pss_cons (ps_for PassesOwn.never rfl (pi_tup (pe_ix ix_tup (pv 0) pe_int (fun _ _ => rfl))) (pg_name (i := 2) sc__law_model.nd rfl (.inl rfl))
      (pss_cons (ps_set (i := 3) sc__law_model.nd rfl (.inl rfl) (pe_op op_cat (pe_op op_cat (pe_callTy call_list_of (by rfl) T.z_list (by decide +kernel) (pa_cons (pe_ix ix_tup (pv 0) pe_int (fun _ _ => rfl)) pa_nil)) (pe_callTy call_list_of (by rfl) T.z_list (by decide +kernel) (pa_cons (pe_ix ix_tup (pv 2) pe_int (fun _ _ => rfl)) pa_nil))) (pe_callTy call_list_of (by rfl) T.z_list (by decide +kernel) (pa_cons (pe_ix ix_tup (pv 2) pe_int (fun _ _ => rfl)) pa_nil))))
        (pss_cons (ps_expr (pe_bm PySem.F.plainAttrs_list PySem.F.slot_list_append PySem.F.type_list_append mt_append (pe_dget (dun hr) (pv 1) pe_str (fun _ _ => rfl)) (pa_cons (pe_lc (own := [("pair", 6)]) (g := gName 6) (by rfl) sc__law_model.nd (pi_list (pv 3)) (blkOk_by (own := [("pair", 6)]) (N := ["parts", "model", "told", "seen", "k", "body", "pair"]) (sc := defScope s__law_model) (by decide +kernel)) (fun _ _ _ _ _ => pg_name (i := 6) sc__law_model.nd rfl (Or.inl rfl)) (fun _ _ _ _ _ => pts_nil) (fun _ _ _ _ _ => (pe_ix (ix_tupK (K := K) rfl) (pv 6) pe_int (fun _ _ => rfl)))) pa_nil)))
        (pss_cons (ps_expr (pe_bm PySem.F.plainAttrs_list PySem.F.slot_list_append PySem.F.type_list_append mt_append (pe_dget (dun hr) (pv 1) pe_str (fun _ _ => rfl)) (pa_cons (pe_lc (own := [("pair", 6)]) (g := gName 6) (by rfl) sc__law_model.nd (pi_list (pv 3)) (blkOk_by (own := [("pair", 6)]) (N := ["parts", "model", "told", "seen", "k", "body", "pair"]) (sc := defScope s__law_model) (by decide +kernel)) (fun _ _ _ _ _ => pg_name (i := 6) sc__law_model.nd rfl (Or.inl rfl)) (fun _ _ _ _ _ => pts_nil) (fun _ _ _ _ _ => (pe_ix (ix_tupK (K := K) rfl) (pv 6) pe_int (fun _ _ => rfl)))) pa_nil)))
        (pss_cons (ps_expr (pe_bm PySem.F.plainAttrs_list PySem.F.slot_list_append PySem.F.type_list_append mt_append (pe_dget (dun hr) (pv 1) pe_str (fun _ _ => rfl)) (pa_cons (pe_lc (own := [("pair", 6)]) (g := gName 6) (by rfl) sc__law_model.nd (pi_tup (pe_ix ix_tup (pv 2) pe_int (fun _ _ => rfl))) (blkOk_by (own := [("pair", 6)]) (N := ["parts", "model", "told", "seen", "k", "body", "pair"]) (sc := defScope s__law_model) (by decide +kernel)) (fun _ _ _ _ _ => pg_name (i := 6) sc__law_model.nd rfl (Or.inl rfl)) (fun _ _ _ _ _ => pts_nil) (fun _ _ _ _ _ => (pe_ix (ix_tupK (K := K) rfl) (pv 6) pe_int (fun _ _ => rfl)))) pa_nil)))
        (pss_one (ps_expr (pe_bm PySem.F.plainAttrs_list PySem.F.slot_list_append PySem.F.type_list_append mt_append (pe_dget (dun hr) (pv 1) pe_str (fun _ _ => rfl)) (pa_cons (pe_lst pa_nil) pa_nil)))))))))
      (pss_cons (ps_for PassesOwn.never rfl (pi_range1 (by rfl) T.z_range (pa_cons (pe_callB call_len_seq (by rfl) T.z_len (by decide +kernel) (pa_cons (pe_ix ix_tup (pv 0) pe_int (fun _ _ => rfl)) pa_nil)) pa_nil)) (pg_name (i := 4) sc__law_model.nd rfl (.inl rfl))
      (pss_cons (ps_set (i := 5) sc__law_model.nd rfl (.inl rfl) (pe_ix ix_tup (pe_ix ix_tup (pe_ix ix_tup (pv 0) pe_int (fun _ _ => rfl)) (pv 4) (fun _ _ => rfl)) pe_int (fun _ _ => rfl)))
        (pss_cons (ps_expr (pe_call G__law_flat (hr.mono (by decide)) (by rfl) m__law_flat k__law_flat b__law_flat .nil pass0 (pa_cons (pv 1) (pa_cons (pv 4) (pa_cons (pv 5) (pa_cons pe_int (pa_cons (pe_call G__law_count (hr.mono (by decide)) (by rfl) m__law_count k__law_count b__law_count .nil pass0 (pa_cons (pv 5) pa_nil)) pa_nil)))))))
        (pss_one (ps_expr (pe_bm PySem.F.plainAttrs_list PySem.F.slot_list_append PySem.F.type_list_append mt_append (pe_ix ix_list (pe_dget (dun hr) (pv 1) pe_str (fun _ _ => rfl)) (pv 4) (fun _ _ => rfl)) (pa_cons (pe_tup (pa_cons pe_str pa_nil)) pa_nil)))))))
      (pss_one (ps_ret (pv 1))))))))))), ?_⟩
  have hv' : Dp K H v (.tuple [.int g.l, .int g.a, .tuple (g.vs.map Vr.d), .tuple (g.ps.map Pr.d)]) := hv
  obtain ⟨a, xs, rfl, hq, hk⟩ := dp_tup' hv'
  obtain ⟨x0, e0, h0⟩ := dpa_get' hk (i := 0) rfl
  obtain ⟨x1, e1, h1⟩ := dpa_get' hk (i := 1) rfl
  obtain ⟨x2, e2, h2⟩ := dpa_get' hk (i := 2) rfl
  obtain ⟨x3, e3, h3⟩ := dpa_get' hk (i := 3) rfl
  cases h0
  cases h1
  obtain ⟨t2, xs2, rfl, hq2, hk2⟩ := dp_tup' h2
  obtain ⟨t3, xs3, rfl, hq3, hk3⟩ := dp_tup' h3
  have l2 := dpa_len hk2
  have l3 := dpa_len hk3
  rw [List.length_map] at l2 l3
  have o4 := ho.v4
  have o5 := ho.p5
  -- model
  intro d nd
  have s1 := same_new (o := .dK []) nd
  have hd1 := upd_same (H := H) (a := d) (o := .dK [])
  generalize upd H d (.dK []) = H1 at s1 hd1 ⊢
  refine ⟨_, rfl, a, xs, _, _, rfl, rfl, seqT_same s1 hq, atI_nat e0, _, rfl, a, xs, _, _, rfl, rfl, seqT_same s1 hq, atI_nat e1, _, rfl, a, xs, _, _, rfl, rfl, seqT_same s1 hq, atI_nat e2, t2, xs2, rfl, .inr (seqT_same s1 hq2), ?_⟩
  refine ⟨by show 0 ≤ sizeLine; decide, fun P nP => ?_⟩
  have s2 := same_new (o := .lst []) nP
  have hP2 := upd_same (H := H1) (a := P) (o := .lst [])
  have hd2 := s2 _ _ hd1
  have dP : d ≠ P := ne_of_none hd1 nP
  generalize upd H1 P (.lst []) = H2 at s2 hP2 hd2 ⊢
  refine ⟨hd2, kvsM g.l g.a xs2.length (.ref P), rfl, by show 4 ≤ 15; decide, ?_⟩
  have s02 := s1.trans s2
  have s3 := same_mut (o := .dK (mergeK [] (kvsM g.l g.a xs2.length (.ref P)))) s02 nd
  have hd3 := upd_same (H := H2) (a := d) (o := .dK (mergeK [] (kvsM g.l g.a xs2.length (.ref P))))
  have hP3 := (upd_ne dP.symm (H := H2) (o := .dK (mergeK [] (kvsM g.l g.a xs2.length (.ref P))))).trans hP2
  generalize upd H2 d (.dK (mergeK [] (kvsM g.l g.a xs2.length (.ref P)))) = H3 at s3 hd3 hP3 ⊢
  -- called
  refine ⟨_, rfl, a, xs, _, _, rfl, rfl, seqT_same s3 hq, atI_nat e3, t3, rfl, ⟨_, seqT_same s3 hq3⟩, fun C nC => lc_it (walk_tup (xs := xs3)) (fun m H' => Same H3 H' ∧ H' C = some (.lst (((g.ps.take m).map Pr.nm).map V.str))) ⟨same_new nC, upd_same⟩ (fun m H' _ h' => seqT_same (s3.trans h'.1) hq3) ?_ ?_⟩
  · rintro m x H4 H5 hm ⟨s4, hC⟩ ⟨rfl, hx⟩
    obtain ⟨p, t, tp, tl, xp, xl, bb, ep, rfl, ht, _⟩ := told_at (dpa_same (s3.trans s4) hk3) hx
    refine ⟨rfl, _, rfl, t, _, _, _, rfl, rfl, ht, atI_nat (j := 0) rfl, _, hC, ?_, same_mut s4 nC, ?_⟩
    · rw [List.length_map, List.length_map, List.length_take]
      exact small1000 (by omega)
    · rw [upd_same, take_succ_at ep, List.map_append, List.map_append]
      rfl
  rintro H4 ⟨s4, hC4⟩
  rw [l3, List.take_length] at hC4
  have hd4 := s4 _ _ hd3
  have hP4 := s4 _ _ hP3
  have s04 := s3.trans s4
  have len4 : (mergeK [] (kvsM g.l g.a xs2.length (.ref P))).length ≤ 4 := length_mergeK (kvsM g.l g.a xs2.length (.ref P)) []
  refine ⟨_, rfl, d, _, rfl, DPut.k (k := Sum.inr ("called" : Str)) hd4 (small1000 (by omega)), ?_⟩
  have s05 : Same H (upd H4 d (.dK (putK (mergeK [] (kvsM g.l g.a xs2.length (.ref P))) (Sum.inr ("called" : Str)) (.ref C)))) := same_mut s04 nd
  have hd5 := upd_same (H := H4) (a := d) (o := .dK (putK (mergeK [] (kvsM g.l g.a xs2.length (.ref P))) (Sum.inr ("called" : Str)) (.ref C)))
  have Cd : C ≠ d := (ne_of_none hd3 nC).symm
  have CP : C ≠ P := (ne_of_none hP3 nC).symm
  have hP5 := (upd_ne dP.symm (H := H4) (o := .dK (putK (mergeK [] (kvsM g.l g.a xs2.length (.ref P))) (Sum.inr ("called" : Str)) (.ref C)))).trans hP4
  have hC5 := (upd_ne Cd (H := H4) (o := .dK (putK (mergeK [] (kvsM g.l g.a xs2.length (.ref P))) (Sum.inr ("called" : Str)) (.ref C)))).trans hC4
  have len5 : (putK (mergeK [] (kvsM g.l g.a xs2.length (.ref P))) (Sum.inr ("called" : Str)) (.ref C)).length ≤ 5 := Nat.le_trans (length_putK _ _ _) (by omega)
  generalize upd H4 d (.dK (putK (mergeK [] (kvsM g.l g.a xs2.length (.ref P))) (Sum.inr ("called" : Str)) (.ref C))) = H5 at s05 hd5 hP5 hC5 ⊢
  -- names
  refine ⟨by show 0 ≤ sizeLine; decide, fun N nN => ?_⟩
  have t5 := same_new (o := .lst []) nN
  have Nd : N ≠ d := (ne_of_none hd5 nN).symm
  have NP : N ≠ P := (ne_of_none hP5 nN).symm
  have NC : N ≠ C := (ne_of_none hC5 nN).symm
  have gN := upd_same (H := H5) (a := N) (o := .lst [])
  generalize upd H5 N (.lst []) = G5 at t5 gN ⊢
  refine ⟨_, rfl, d, _, rfl, DPut.k (k := Sum.inr ("names" : Str)) (t5 _ _ hd5) (small1000 (by omega)), ?_⟩
  have s06 : Same H (upd G5 d (.dK (putK (putK (mergeK [] (kvsM g.l g.a xs2.length (.ref P))) (Sum.inr ("called" : Str)) (.ref C)) (Sum.inr ("names" : Str)) (.ref N)))) := same_mut (s05.trans t5) nd
  have hd6 := upd_same (H := G5) (a := d) (o := .dK (putK (putK (mergeK [] (kvsM g.l g.a xs2.length (.ref P))) (Sum.inr ("called" : Str)) (.ref C)) (Sum.inr ("names" : Str)) (.ref N)))
  have hP6 := (upd_ne dP.symm (H := G5) (o := .dK (putK (putK (mergeK [] (kvsM g.l g.a xs2.length (.ref P))) (Sum.inr ("called" : Str)) (.ref C)) (Sum.inr ("names" : Str)) (.ref N)))).trans (t5 _ _ hP5)
  have hC6 := (upd_ne Cd (H := G5) (o := .dK (putK (putK (mergeK [] (kvsM g.l g.a xs2.length (.ref P))) (Sum.inr ("called" : Str)) (.ref C)) (Sum.inr ("names" : Str)) (.ref N)))).trans (t5 _ _ hC5)
  have hN6 := (upd_ne Nd (H := G5) (o := .dK (putK (putK (mergeK [] (kvsM g.l g.a xs2.length (.ref P))) (Sum.inr ("called" : Str)) (.ref C)) (Sum.inr ("names" : Str)) (.ref N)))).trans gN
  have len6 : (putK (putK (mergeK [] (kvsM g.l g.a xs2.length (.ref P))) (Sum.inr ("called" : Str)) (.ref C)) (Sum.inr ("names" : Str)) (.ref N)).length ≤ 6 := Nat.le_trans (length_putK _ _ _) (by omega)
  generalize upd G5 d (.dK (putK (putK (mergeK [] (kvsM g.l g.a xs2.length (.ref P))) (Sum.inr ("called" : Str)) (.ref C)) (Sum.inr ("names" : Str)) (.ref N))) = H6 at s06 hd6 hP6 hC6 hN6 ⊢
  -- sizes
  refine ⟨by show 0 ≤ sizeLine; decide, fun S nS => ?_⟩
  have t6 := same_new (o := .lst []) nS
  have Sd : S ≠ d := (ne_of_none hd6 nS).symm
  have SP : S ≠ P := (ne_of_none hP6 nS).symm
  have SC : S ≠ C := (ne_of_none hC6 nS).symm
  have SN : S ≠ N := (ne_of_none hN6 nS).symm
  have gS := upd_same (H := H6) (a := S) (o := .lst [])
  generalize upd H6 S (.lst []) = G6 at t6 gS ⊢
  refine ⟨_, rfl, d, _, rfl, DPut.k (k := Sum.inr ("sizes" : Str)) (t6 _ _ hd6) (small1000 (by omega)), ?_⟩
  have s07 : Same H (upd G6 d (.dK (putK (putK (putK (mergeK [] (kvsM g.l g.a xs2.length (.ref P))) (Sum.inr ("called" : Str)) (.ref C)) (Sum.inr ("names" : Str)) (.ref N)) (Sum.inr ("sizes" : Str)) (.ref S)))) := same_mut (s06.trans t6) nd
  have hd7 := upd_same (H := G6) (a := d) (o := .dK (putK (putK (putK (mergeK [] (kvsM g.l g.a xs2.length (.ref P))) (Sum.inr ("called" : Str)) (.ref C)) (Sum.inr ("names" : Str)) (.ref N)) (Sum.inr ("sizes" : Str)) (.ref S)))
  have hP7 := (upd_ne dP.symm (H := G6) (o := .dK (putK (putK (putK (mergeK [] (kvsM g.l g.a xs2.length (.ref P))) (Sum.inr ("called" : Str)) (.ref C)) (Sum.inr ("names" : Str)) (.ref N)) (Sum.inr ("sizes" : Str)) (.ref S)))).trans (t6 _ _ hP6)
  have hC7 := (upd_ne Cd (H := G6) (o := .dK (putK (putK (putK (mergeK [] (kvsM g.l g.a xs2.length (.ref P))) (Sum.inr ("called" : Str)) (.ref C)) (Sum.inr ("names" : Str)) (.ref N)) (Sum.inr ("sizes" : Str)) (.ref S)))).trans (t6 _ _ hC6)
  have hN7 := (upd_ne Nd (H := G6) (o := .dK (putK (putK (putK (mergeK [] (kvsM g.l g.a xs2.length (.ref P))) (Sum.inr ("called" : Str)) (.ref C)) (Sum.inr ("names" : Str)) (.ref N)) (Sum.inr ("sizes" : Str)) (.ref S)))).trans (t6 _ _ hN6)
  have hS7 := (upd_ne Sd (H := G6) (o := .dK (putK (putK (putK (mergeK [] (kvsM g.l g.a xs2.length (.ref P))) (Sum.inr ("called" : Str)) (.ref C)) (Sum.inr ("names" : Str)) (.ref N)) (Sum.inr ("sizes" : Str)) (.ref S)))).trans gS
  have len7 : (putK (putK (putK (mergeK [] (kvsM g.l g.a xs2.length (.ref P))) (Sum.inr ("called" : Str)) (.ref C)) (Sum.inr ("names" : Str)) (.ref N)) (Sum.inr ("sizes" : Str)) (.ref S)).length ≤ 7 := Nat.le_trans (length_putK _ _ _) (by omega)
  generalize upd G6 d (.dK (putK (putK (putK (mergeK [] (kvsM g.l g.a xs2.length (.ref P))) (Sum.inr ("called" : Str)) (.ref C)) (Sum.inr ("names" : Str)) (.ref N)) (Sum.inr ("sizes" : Str)) (.ref S))) = H7 at s07 hd7 hP7 hC7 hN7 hS7 ⊢
  -- passed
  refine ⟨by show 0 ≤ sizeLine; decide, fun Z nZ => ?_⟩
  have t7 := same_new (o := .lst []) nZ
  have Zd : Z ≠ d := (ne_of_none hd7 nZ).symm
  have ZP : Z ≠ P := (ne_of_none hP7 nZ).symm
  have ZC : Z ≠ C := (ne_of_none hC7 nZ).symm
  have ZN : Z ≠ N := (ne_of_none hN7 nZ).symm
  have ZS : Z ≠ S := (ne_of_none hS7 nZ).symm
  have gZ := upd_same (H := H7) (a := Z) (o := .lst [])
  generalize upd H7 Z (.lst []) = G7 at t7 gZ ⊢
  refine ⟨_, rfl, d, _, rfl, DPut.k (k := Sum.inr ("passed" : Str)) (t7 _ _ hd7) (small1000 (by omega)), ?_⟩
  have s08 : Same H (upd G7 d (.dK (putK (putK (putK (putK (mergeK [] (kvsM g.l g.a xs2.length (.ref P))) (Sum.inr ("called" : Str)) (.ref C)) (Sum.inr ("names" : Str)) (.ref N)) (Sum.inr ("sizes" : Str)) (.ref S)) (Sum.inr ("passed" : Str)) (.ref Z)))) := same_mut (s07.trans t7) nd
  have hd8 := upd_same (H := G7) (a := d) (o := .dK (putK (putK (putK (putK (mergeK [] (kvsM g.l g.a xs2.length (.ref P))) (Sum.inr ("called" : Str)) (.ref C)) (Sum.inr ("names" : Str)) (.ref N)) (Sum.inr ("sizes" : Str)) (.ref S)) (Sum.inr ("passed" : Str)) (.ref Z)))
  have hP8 := (upd_ne dP.symm (H := G7) (o := .dK (putK (putK (putK (putK (mergeK [] (kvsM g.l g.a xs2.length (.ref P))) (Sum.inr ("called" : Str)) (.ref C)) (Sum.inr ("names" : Str)) (.ref N)) (Sum.inr ("sizes" : Str)) (.ref S)) (Sum.inr ("passed" : Str)) (.ref Z)))).trans (t7 _ _ hP7)
  have hC8 := (upd_ne Cd (H := G7) (o := .dK (putK (putK (putK (putK (mergeK [] (kvsM g.l g.a xs2.length (.ref P))) (Sum.inr ("called" : Str)) (.ref C)) (Sum.inr ("names" : Str)) (.ref N)) (Sum.inr ("sizes" : Str)) (.ref S)) (Sum.inr ("passed" : Str)) (.ref Z)))).trans (t7 _ _ hC7)
  have hN8 := (upd_ne Nd (H := G7) (o := .dK (putK (putK (putK (putK (mergeK [] (kvsM g.l g.a xs2.length (.ref P))) (Sum.inr ("called" : Str)) (.ref C)) (Sum.inr ("names" : Str)) (.ref N)) (Sum.inr ("sizes" : Str)) (.ref S)) (Sum.inr ("passed" : Str)) (.ref Z)))).trans (t7 _ _ hN7)
  have hS8 := (upd_ne Sd (H := G7) (o := .dK (putK (putK (putK (putK (mergeK [] (kvsM g.l g.a xs2.length (.ref P))) (Sum.inr ("called" : Str)) (.ref C)) (Sum.inr ("names" : Str)) (.ref N)) (Sum.inr ("sizes" : Str)) (.ref S)) (Sum.inr ("passed" : Str)) (.ref Z)))).trans (t7 _ _ hS7)
  have hZ8 := (upd_ne Zd (H := G7) (o := .dK (putK (putK (putK (putK (mergeK [] (kvsM g.l g.a xs2.length (.ref P))) (Sum.inr ("called" : Str)) (.ref C)) (Sum.inr ("names" : Str)) (.ref N)) (Sum.inr ("sizes" : Str)) (.ref S)) (Sum.inr ("passed" : Str)) (.ref Z)))).trans gZ
  have len8 : (putK (putK (putK (putK (mergeK [] (kvsM g.l g.a xs2.length (.ref P))) (Sum.inr ("called" : Str)) (.ref C)) (Sum.inr ("names" : Str)) (.ref N)) (Sum.inr ("sizes" : Str)) (.ref S)) (Sum.inr ("passed" : Str)) (.ref Z)).length ≤ 8 := Nat.le_trans (length_putK _ _ _) (by omega)
  generalize upd G7 d (.dK (putK (putK (putK (putK (mergeK [] (kvsM g.l g.a xs2.length (.ref P))) (Sum.inr ("called" : Str)) (.ref C)) (Sum.inr ("names" : Str)) (.ref N)) (Sum.inr ("sizes" : Str)) (.ref S)) (Sum.inr ("passed" : Str)) (.ref Z))) = H8 at s08 hd8 hP8 hC8 hN8 hS8 hZ8 ⊢
  -- rows
  refine ⟨by show 0 ≤ sizeLine; decide, fun R nR => ?_⟩
  have t8 := same_new (o := .lst []) nR
  have Rd : R ≠ d := (ne_of_none hd8 nR).symm
  have RP : R ≠ P := (ne_of_none hP8 nR).symm
  have RC : R ≠ C := (ne_of_none hC8 nR).symm
  have RN : R ≠ N := (ne_of_none hN8 nR).symm
  have RS : R ≠ S := (ne_of_none hS8 nR).symm
  have RZ : R ≠ Z := (ne_of_none hZ8 nR).symm
  have gR := upd_same (H := H8) (a := R) (o := .lst [])
  generalize upd H8 R (.lst []) = G8 at t8 gR ⊢
  refine ⟨_, rfl, d, _, rfl, DPut.k (k := Sum.inr ("rows" : Str)) (t8 _ _ hd8) (small1000 (by omega)), ?_⟩
  have s09 : Same H (upd G8 d (.dK (putK (putK (putK (putK (putK (mergeK [] (kvsM g.l g.a xs2.length (.ref P))) (Sum.inr ("called" : Str)) (.ref C)) (Sum.inr ("names" : Str)) (.ref N)) (Sum.inr ("sizes" : Str)) (.ref S)) (Sum.inr ("passed" : Str)) (.ref Z)) (Sum.inr ("rows" : Str)) (.ref R)))) := same_mut (s08.trans t8) nd
  have hd9 := upd_same (H := G8) (a := d) (o := .dK (putK (putK (putK (putK (putK (mergeK [] (kvsM g.l g.a xs2.length (.ref P))) (Sum.inr ("called" : Str)) (.ref C)) (Sum.inr ("names" : Str)) (.ref N)) (Sum.inr ("sizes" : Str)) (.ref S)) (Sum.inr ("passed" : Str)) (.ref Z)) (Sum.inr ("rows" : Str)) (.ref R)))
  have hP9 := (upd_ne dP.symm (H := G8) (o := .dK (putK (putK (putK (putK (putK (mergeK [] (kvsM g.l g.a xs2.length (.ref P))) (Sum.inr ("called" : Str)) (.ref C)) (Sum.inr ("names" : Str)) (.ref N)) (Sum.inr ("sizes" : Str)) (.ref S)) (Sum.inr ("passed" : Str)) (.ref Z)) (Sum.inr ("rows" : Str)) (.ref R)))).trans (t8 _ _ hP8)
  have hC9 := (upd_ne Cd (H := G8) (o := .dK (putK (putK (putK (putK (putK (mergeK [] (kvsM g.l g.a xs2.length (.ref P))) (Sum.inr ("called" : Str)) (.ref C)) (Sum.inr ("names" : Str)) (.ref N)) (Sum.inr ("sizes" : Str)) (.ref S)) (Sum.inr ("passed" : Str)) (.ref Z)) (Sum.inr ("rows" : Str)) (.ref R)))).trans (t8 _ _ hC8)
  have hN9 := (upd_ne Nd (H := G8) (o := .dK (putK (putK (putK (putK (putK (mergeK [] (kvsM g.l g.a xs2.length (.ref P))) (Sum.inr ("called" : Str)) (.ref C)) (Sum.inr ("names" : Str)) (.ref N)) (Sum.inr ("sizes" : Str)) (.ref S)) (Sum.inr ("passed" : Str)) (.ref Z)) (Sum.inr ("rows" : Str)) (.ref R)))).trans (t8 _ _ hN8)
  have hS9 := (upd_ne Sd (H := G8) (o := .dK (putK (putK (putK (putK (putK (mergeK [] (kvsM g.l g.a xs2.length (.ref P))) (Sum.inr ("called" : Str)) (.ref C)) (Sum.inr ("names" : Str)) (.ref N)) (Sum.inr ("sizes" : Str)) (.ref S)) (Sum.inr ("passed" : Str)) (.ref Z)) (Sum.inr ("rows" : Str)) (.ref R)))).trans (t8 _ _ hS8)
  have hZ9 := (upd_ne Zd (H := G8) (o := .dK (putK (putK (putK (putK (putK (mergeK [] (kvsM g.l g.a xs2.length (.ref P))) (Sum.inr ("called" : Str)) (.ref C)) (Sum.inr ("names" : Str)) (.ref N)) (Sum.inr ("sizes" : Str)) (.ref S)) (Sum.inr ("passed" : Str)) (.ref Z)) (Sum.inr ("rows" : Str)) (.ref R)))).trans (t8 _ _ hZ8)
  have hR9 := (upd_ne Rd (H := G8) (o := .dK (putK (putK (putK (putK (putK (mergeK [] (kvsM g.l g.a xs2.length (.ref P))) (Sum.inr ("called" : Str)) (.ref C)) (Sum.inr ("names" : Str)) (.ref N)) (Sum.inr ("sizes" : Str)) (.ref S)) (Sum.inr ("passed" : Str)) (.ref Z)) (Sum.inr ("rows" : Str)) (.ref R)))).trans gR
  have len9 : (putK (putK (putK (putK (putK (mergeK [] (kvsM g.l g.a xs2.length (.ref P))) (Sum.inr ("called" : Str)) (.ref C)) (Sum.inr ("names" : Str)) (.ref N)) (Sum.inr ("sizes" : Str)) (.ref S)) (Sum.inr ("passed" : Str)) (.ref Z)) (Sum.inr ("rows" : Str)) (.ref R)).length ≤ 9 := Nat.le_trans (length_putK _ _ _) (by omega)
  generalize upd G8 d (.dK (putK (putK (putK (putK (putK (mergeK [] (kvsM g.l g.a xs2.length (.ref P))) (Sum.inr ("called" : Str)) (.ref C)) (Sum.inr ("names" : Str)) (.ref N)) (Sum.inr ("sizes" : Str)) (.ref S)) (Sum.inr ("passed" : Str)) (.ref Z)) (Sum.inr ("rows" : Str)) (.ref R))) = H9 at s09 hd9 hP9 hC9 hN9 hS9 hZ9 hR9 ⊢
  have b0 : MdB K H9 g ⟨d, P, C, N, S, Z, R, [], [], [], []⟩ 0 0 0 0 := by
    refine ⟨⟨_, hd9, kvsF_is g xs2.length ⟨d, P, C, N, S, Z, R, [], [], [], []⟩⟩, hP9, hC9, hN9, by rw [List.take_zero]; exact .nil, hS9, by rw [List.take_zero]; exact .nil, hZ9, by rw [List.take_zero]; exact .nil, hR9, ⟨rfl, fun a h => nomatch h⟩, ?_, by unfold MdA.tls; exact List.nodup_nil, fun a _ b h => nomatch h⟩
    simp only [MdA.hds, List.nodup_cons, List.mem_cons, List.not_mem_nil, or_false, not_or, not_false_eq_true, List.nodup_nil, and_true]
    exact ⟨⟨dP, Cd.symm, Nd.symm, Sd.symm, Zd.symm, Rd.symm⟩, ⟨CP.symm, NP.symm, SP.symm, ZP.symm, RP.symm⟩, ⟨NC.symm, SC.symm, ZC.symm, RC.symm⟩, ⟨SN.symm, ZN.symm, RN.symm⟩, ⟨ZS.symm, RS.symm⟩, RZ.symm⟩
  refine ⟨_, rfl, a, xs, _, _, rfl, rfl, seqT_same s09 hq, atI_nat e3, t3, rfl, ⟨_, seqT_same s09 hq3⟩, for_it (walk_tup (xs := xs3)) (fun i σ H' => ∃ (y2 y3 : Option V) (m : MdA), σ = [some (.ref a), some (.ref d), y2, y3, none, none, none] ∧ m.d = d ∧ Same H H' ∧ MdB K H' g m i i i i ∧ (∀ z ∈ m.hds, H z = none) ∧ ∀ z ∈ m.tls, H z = none) ⟨_, _, _, rfl, rfl, s09, b0, ?_, fun z h => nomatch h⟩ (fun i σ H' _ h' => ?_) ?_ ?_⟩
  · intro z hz
    simp only [MdA.hds, List.mem_cons, List.not_mem_nil, or_false] at hz
    rcases hz with rfl | rfl | rfl | rfl | rfl | rfl | rfl
    · exact nd
    · exact same_back s1 nP
    · exact same_back s3 nC
    · exact same_back s05 nN
    · exact same_back s06 nS
    · exact same_back s07 nZ
    · exact same_back s08 nR
  · obtain ⟨_, _, m, _, _, s1, _⟩ := h'
    exact seqT_same s1 hq3
  · rintro i x σ H10 H11 hi ⟨y2, y3, m, rfl, rfl, s10, hb, n10, n10t⟩ ⟨rfl, hx⟩
    obtain ⟨p, t, tp, tl, xp, xl, bb, ep, rfl, ht, hp, kp, hl, kl⟩ := told_at hk3 hx
    have mp := List.mem_of_getElem? ep
    have lxp := dpa_len kp
    have lxl := dpa_len kl
    rw [List.length_map] at lxp lxl
    have p3 := ho.p3 p mp
    have p33 := ho.l33 p mp
    have q3 : ((g.ps.take i).length ≤ 5) := by rw [List.length_take]; omega
    refine ⟨_, rfl, a, xs, _, _, rfl, rfl, seqT_same s10 hq, atI_nat e2, t2, xs2, rfl, .inr (seqT_same s10 hq2), fun l1 n1 => ?_⟩
    have k1 := same_new (o := .lst xs2) n1
    have k01 := s10.trans k1
    refine ⟨_, rfl, t, _, _, _, rfl, rfl, seqT_same k01 ht, atI_nat (j := 1) rfl, tp, xp, rfl, .inr (seqT_same k01 hp), fun l2' n2 => ?_⟩
    have k2 := same_new (o := .lst xp) n2
    refine ⟨l1, l2', _, _, rfl, rfl, k2 _ _ upd_same, upd_same, line_small (by omega), fun r1 nr1 => ?_⟩
    have k3 := same_new (o := .lst (xs2 ++ xp)) nr1
    have k13 := k1.trans (k2.trans k3)
    have k013 := s10.trans k13
    refine ⟨_, rfl, t, _, _, _, rfl, rfl, seqT_same k013 ht, atI_nat (j := 2) rfl, tl, xl, rfl, .inr (seqT_same k013 hl), fun l3' n3 => ?_⟩
    have k4 := same_new (o := .lst xl) n3
    refine ⟨r1, l3', _, _, rfl, rfl, k4 _ _ upd_same, upd_same, line_small (by rw [List.length_append]; omega), fun rs nrs => ?_⟩
    have rsh := (hb.same (k13.trans k4)).dom nrs |>.1
    have k5 := k13.trans (k4.trans (same_new (o := .lst ((xs2 ++ xp) ++ xl)) nrs))
    have hrs := upd_same (H := upd (upd (upd (upd H11 l1 (.lst xs2)) l2' (.lst xp)) r1 (.lst (xs2 ++ xp))) l3' (.lst xl)) (a := rs) (o := .lst ((xs2 ++ xp) ++ xl))
    generalize upd (upd (upd (upd (upd H11 l1 (.lst xs2)) l2' (.lst xp)) r1 (.lst (xs2 ++ xp))) l3' (.lst xl)) rs (.lst ((xs2 ++ xp) ++ xl)) = K0 at k5 hrs ⊢
    have hsc : DpAll K H ((xs2 ++ xp) ++ xl) ((scp g.vs p).map Vr.d) := by
      show DpAll K H _ (((g.vs ++ p.ps) ++ p.ls).map Vr.d)
      rw [List.map_append, List.map_append]
      exact dpa_cat (dpa_cat hk2 kp) kl
    have w0 := s10.trans k5
    have b0 := hb.same k5
    have lsv : ((xs2 ++ xp) ++ xl).length = (scp g.vs p).length := by have := dpa_len hsc; rwa [List.length_map] at this
    have l10 : (scp g.vs p).length ≤ 10 := by rw [← lsv, List.length_append, List.length_append]; omega
    generalize (xs2 ++ xp) ++ xl = sv at hrs hsc lsv
    have hr0 := hrs
    -- names
    obtain ⟨kvs0, h00, kA0, kP0, kC0, kN0, kS0, kQ0, kR0⟩ := b0.h0
    refine ⟨_, rfl, m.d, _, rfl, dg h00 kN0, .inl ⟨rfl, _, SqL.of b0.hN⟩, _, rfl, rs, rfl, ⟨_, SqL.of hr0⟩, fun D0 nD0 => lc_it (walk_list (xs := sv)) (fun j H' => Same K0 H' ∧ H' D0 = some (.lst ((((scp g.vs p).take j).map Vr.nm).map V.str))) ⟨same_new nD0, upd_same⟩ (fun j H' _ h' => SqL.of (h'.1 _ _ hr0)) ?_ ?_⟩
    · rintro j x H13 H14 hj ⟨s13, hD⟩ ⟨rfl, hx⟩
      obtain ⟨w, t', ew, rfl, ht'⟩ := vr_at (dpa_same (w0.trans s13) hsc) hx
      refine ⟨rfl, _, rfl, t', _, _, _, rfl, rfl, ht', atI_nat (j := 0) rfl, _, hD, ?_, same_mut s13 nD0, ?_⟩
      · rw [List.length_map, List.length_map, List.length_take]
        exact small1000 (by omega)
      · rw [upd_same, take_succ_at ew, List.map_append, List.map_append]
        rfl
    rintro L0 ⟨v0, hD0⟩
    rw [lsv, List.take_length] at hD0
    have c0 := b0.addN ep v0 nD0 hD0
    refine ⟨m.aN, _, _, rfl, rfl, v0 _ _ b0.hN, small1000 (by rw [List.length_map, b0.hn.1]; omega), ?_⟩
    have z0 : H D0 = none := same_back w0 nD0
    have w1 := same_mut (o := .lst (m.ns.map V.ref ++ [.ref D0])) (w0.trans v0) (n10 m.aN (by simp [MdA.hds]))
    have hr1 := (upd_ne (rsh m.aN (by simp [MdA.hds])).symm (H := L0) (o := .lst (m.ns.map V.ref ++ [.ref D0]))).trans (v0 _ _ hr0)
    generalize upd L0 m.aN (.lst (m.ns.map V.ref ++ [.ref D0])) = K1 at c0 w1 hr1 ⊢
    have b1 := c0
    -- sizes
    obtain ⟨kvs1, h01, kA1, kP1, kC1, kN1, kS1, kQ1, kR1⟩ := b1.h0
    refine ⟨_, rfl, m.d, _, rfl, dg h01 kS1, .inl ⟨rfl, _, SqL.of b1.hS⟩, _, rfl, rs, rfl, ⟨_, SqL.of hr1⟩, fun D1 nD1 => lc_it (walk_list (xs := sv)) (fun j H' => Same K1 H' ∧ H' D1 = some (.lst ((((scp g.vs p).take j).map Vr.sz).map V.int))) ⟨same_new nD1, upd_same⟩ (fun j H' _ h' => SqL.of (h'.1 _ _ hr1)) ?_ ?_⟩
    · rintro j x H13 H14 hj ⟨s13, hD⟩ ⟨rfl, hx⟩
      obtain ⟨w, t', ew, rfl, ht'⟩ := vr_at (dpa_same (w1.trans s13) hsc) hx
      refine ⟨rfl, _, rfl, t', _, _, _, rfl, rfl, ht', atI_nat (j := 1) rfl, _, hD, ?_, same_mut s13 nD1, ?_⟩
      · rw [List.length_map, List.length_map, List.length_take]
        exact small1000 (by omega)
      · rw [upd_same, take_succ_at ew, List.map_append, List.map_append]
        rfl
    rintro L1 ⟨v1, hD1⟩
    rw [lsv, List.take_length] at hD1
    have c1 := b1.addS ep v1 nD1 hD1
    refine ⟨m.aS, _, _, rfl, rfl, v1 _ _ b1.hS, small1000 (by rw [List.length_map, b1.hs.1]; omega), ?_⟩
    have z1 : H D1 = none := same_back w1 nD1
    have w2 := same_mut (o := .lst (m.ss.map V.ref ++ [.ref D1])) (w1.trans v1) (n10 m.aS (by simp [MdA.hds]))
    have hr2 := (upd_ne (rsh m.aS (by simp [MdA.hds])).symm (H := L1) (o := .lst (m.ss.map V.ref ++ [.ref D1]))).trans (v1 _ _ hr1)
    generalize upd L1 m.aS (.lst (m.ss.map V.ref ++ [.ref D1])) = K2 at c1 w2 hr2 ⊢
    have b2 := c1
    -- passed
    obtain ⟨kvs2, h02, kA2, kP2, kC2, kN2, kS2, kQ2, kR2⟩ := b2.h0
    refine ⟨_, rfl, m.d, _, rfl, dg h02 kQ2, .inl ⟨rfl, _, SqL.of b2.hA⟩, _, rfl, t, _, _, _, rfl, rfl, seqT_same w2 ht, atI_nat (j := 1) rfl, tp, rfl, ⟨_, seqT_same w2 hp⟩, fun D2 nD2 => lc_it (walk_tup (xs := xp)) (fun j H' => Same K2 H' ∧ H' D2 = some (.lst (((p.ps.take j).map Vr.sz).map V.int))) ⟨same_new nD2, upd_same⟩ (fun j H' _ h' => seqT_same (w2.trans h'.1) hp) ?_ ?_⟩
    · rintro j x H13 H14 hj ⟨s13, hD⟩ ⟨rfl, hx⟩
      obtain ⟨w, t', ew, rfl, ht'⟩ := vr_at (dpa_same (w2.trans s13) kp) hx
      refine ⟨rfl, _, rfl, t', _, _, _, rfl, rfl, ht', atI_nat (j := 1) rfl, _, hD, ?_, same_mut s13 nD2, ?_⟩
      · rw [List.length_map, List.length_map, List.length_take]
        exact small1000 (by omega)
      · rw [upd_same, take_succ_at ew, List.map_append, List.map_append]
        rfl
    rintro L2 ⟨v2, hD2⟩
    rw [lxp, List.take_length] at hD2
    have c2 := b2.addA ep v2 nD2 hD2
    refine ⟨m.aA, _, _, rfl, rfl, v2 _ _ b2.hA, small1000 (by rw [List.length_map, b2.ha.1]; omega), ?_⟩
    have z2 : H D2 = none := same_back w2 nD2
    have w3 := same_mut (o := .lst (m.ps.map V.ref ++ [.ref D2])) (w2.trans v2) (n10 m.aA (by simp [MdA.hds]))
    have hr3 := (upd_ne (rsh m.aA (by simp [MdA.hds])).symm (H := L2) (o := .lst (m.ps.map V.ref ++ [.ref D2]))).trans (v2 _ _ hr2)
    generalize upd L2 m.aA (.lst (m.ps.map V.ref ++ [.ref D2])) = K3 at c2 w3 hr3 ⊢
    have b3 := c2
    -- rows
    obtain ⟨kvs3, h03, kA3, kP3, kC3, kN3, kS3, kQ3, kR3⟩ := b3.h0
    refine ⟨_, rfl, m.d, _, rfl, dg h03 kR3, .inl ⟨rfl, _, SqL.of b3.hR⟩, by show 0 ≤ sizeLine; decide, fun D3 nD3 => ?_⟩
    have v3 := same_new (o := .lst []) nD3
    have hD3 := upd_same (H := K3) (a := D3) (o := .lst [])
    generalize upd K3 D3 (.lst []) = L3 at v3 hD3 ⊢
    have c3 := b3.addR v3 nD3 hD3
    refine ⟨m.aR, _, _, rfl, rfl, v3 _ _ b3.hR, small1000 (by rw [List.length_map, b3.hr.1]; omega), ?_⟩
    have z3 : H D3 = none := same_back w3 nD3
    have w4 := same_mut (o := .lst (m.rs.map V.ref ++ [.ref D3])) (w3.trans v3) (n10 m.aR (by simp [MdA.hds]))
    generalize upd L3 m.aR (.lst (m.rs.map V.ref ++ [.ref D3])) = K4 at c3 w4 ⊢
    have b4 := c3
    refine ⟨_, _, { m with ns := m.ns ++ [D0], ss := m.ss ++ [D1], ps := m.ps ++ [D2], rs := m.rs ++ [D3] }, rfl, rfl, w4, b4, n10, fun z hz => ?_⟩
    have hz' : z ∈ (m.ns ++ [D0]) ++ ((m.ss ++ [D1]) ++ ((m.ps ++ [D2]) ++ (m.rs ++ [D3]))) := hz
    have iT : ∀ y, (y ∈ m.ns ∨ y ∈ m.ss ∨ y ∈ m.ps ∨ y ∈ m.rs) → H y = none := fun y hy => n10t y (by simp only [MdA.tls, List.mem_append]; exact hy)
    simp only [List.mem_append, List.mem_singleton] at hz'
    rcases hz' with (h | rfl) | (h | rfl) | (h | rfl) | h | rfl
    · exact iT _ (.inl h)
    · exact z0
    · exact iT _ (.inr (.inl h))
    · exact z1
    · exact iT _ (.inr (.inr (.inl h)))
    · exact z2
    · exact iT _ (.inr (.inr (.inr h)))
    · exact z3
  · rintro σ H10 ⟨y2, y3, m, rfl, rfl, s10, hb, n10, n10t⟩
    have hm := hb.done l3
    have ng : ∀ z ∈ m.gr, H z = none := fun z hz => by
      rcases List.mem_cons.mp hz with rfl | hz
      · exact n10 _ (by simp [MdA.hds])
      · exact n10t _ (by simp only [MdA.tls, List.mem_append]; exact .inr (.inr (.inr hz)))
    have sB : ∀ {H' : Hp}, FrB m.gr H10 H' → Same H H' := fun f b o e => f b o (fun z => by rw [ng b z] at e; cases e) (s10 _ _ e)
    refine ⟨_, rfl, a, xs, _, _, rfl, rfl, seqT_same s10 hq, atI_nat e3, t3, xs3, rfl, .inr (seqT_same s10 hq3), _, rfl, by omega, by omega, ?_⟩
    refine for_range (fun k σ H' => ∃ (y4 y5 : Option V), σ = [some (.ref a), some (.ref m.d), y2, y3, y4, y5, none] ∧ FrB m.gr H10 H' ∧ MdNe K H' g m (plcG g 0 (g.ps.take k)) (rwK g k)) ⟨_, _, rfl, FrB.of (Same.refl _), by rw [List.take_zero]; exact hm⟩ ?_ ?_
    · rintro k σ H11 hk' ⟨y4, y5, rfl, f11, hm1⟩
      have gk : (0 : Int) + (k : Int) = (k : Int) := Int.zero_add _
      have hkg : k < g.ps.length := by
        have : k < ((xs3.length : Nat) : Int).toNat := hk'
        omega
      obtain ⟨p, ep⟩ : ∃ p, g.ps[k]? = some p := ⟨_, List.getElem?_eq_getElem hkg⟩
      have mp := List.mem_of_getElem? ep
      have s11 := sB f11
      obtain ⟨x, ex, _⟩ := dpa_get' hk3 (i := k) (d := p.d) (by rw [List.getElem?_map, ep]; rfl)
      obtain ⟨d', ed', hd'⟩ := dpa_getx' (dpa_same s11 hk3) ex
      rw [List.getElem?_map, ep] at ed'
      cases ed'
      have hd2 : Dp K H11 x (.tuple [.str p.nm, .tuple (p.ps.map Vr.d), .tuple (p.ls.map Vr.d), .tuple (stDs p.bd)]) := hd'
      obtain ⟨t, us, rfl, ht, hu⟩ := dp_tup' hd2
      obtain ⟨u3, f3, g3⟩ := dpa_get' hu (i := 3) rfl
      have hat : atI xs3 (0 + (k : Int)) = some (.ref t) := by rw [gk]; exact atI_nat ex
      refine ⟨_, rfl, a, xs, _, _, rfl, rfl, seqT_same s11 hq, atI_nat e3, _, rfl, t3, xs3, _, _, rfl, rfl, seqT_same s11 hq3, hat, t, us, _, _, rfl, rfl, ht, atI_nat f3, ?_⟩
      have c1 := sum_split (fun p => cntB p.bd) ep
      have c2 := ho.sn
      have c3 : (plcG g 0 (g.ps.take k)).length ≤ 3 * ((g.ps.take k).map fun p => cntB p.bd).sum := by
        rw [plcG_len ho 0 fun p hp => List.mem_of_mem_take hp]
        exact sum_le3 fun p hp => cntE_pL ho (List.mem_of_mem_take hp)
      have c4 : cntB p.bd ≤ 60 := by omega
      have sb := allB_imp (fun d s h => h) _ _ (ho.sb p mp)
      refine ⟨_, rfl, _, rfl, _, rfl, _, rfl, u3, p.bd, 1, rfl, g3, allB_imp (fun d s h => h.1) _ _ sb, by omega, by omega, fun H12 s12 => ?_⟩
      refine ⟨g, m, _, _, [], k, p, u3, p.bd, 0, cntB p.bd, 1, by rw [gk]; rfl, hm1.same s12, ho, ep, rwK_at ep, dp_same s12 g3, sb, by omega, by omega, by omega, c4, by omega, by show 0 + _ ≤ 200; omega, fun H13 f13 hm3 => ?_⟩
      obtain ⟨kvs, h03, _, _, _, _, _, _, kR3⟩ := hm3.h0
      have eqk := List.getElem?_set_self (a := [] ++ rowL (scp g.vs p) (g.ps.map Pr.nm) (plcG g 0 (g.ps.take k)).length (wayB p.bd 0 (cntB p.bd))) (List.getElem?_eq_some_iff.mp (rwK_at ep)).1
      obtain ⟨ra, era, zs, ez, hz⟩ := hm3.hr.of eqk
      have hra : atI (m.rs.map V.ref) (0 + (k : Int)) = some (.ref ra) := by rw [gk]; exact ref_at era
      refine ⟨_, rfl, m.d, _, rfl, dg h03 kR3, _, rfl, m.aR, _, _, _, rfl, rfl, SqL.of hm3.hR, hra, .inl ⟨rfl, _, SqL.of ez⟩, by show 1 ≤ sizeLine; decide, fun tn ntn => ?_⟩
      have e14 := same_new (o := .tup [.str "end"]) ntn
      have lz := dpa_len hz
      rw [List.length_append, rowL_len, wayB_len] at lz
      refine ⟨ra, zs, _, rfl, rfl, e14 _ _ ez, small1000 (by show zs.length ≤ 1000; simp only [List.length_nil] at lz; omega), ?_⟩
      have te : tupOk 2 (.tuple [.str "end"]) := tup_seq (by show 1 ≤ 100000; decide) fun e he => by
        rcases List.mem_singleton.mp he with rfl
        exact (tup_atom _).2 _
      have hm4 := (hm3.same e14).row era eqk (e14 _ _ ez) (d := .tuple [.str "end"]) (.tup (SqT.of upd_same) (.cons (.str _) .nil)) te
      rw [List.set_set] at hm4
      refine ⟨_, _, rfl, f11.trans ((FrB.of s12).trans (f13.trans ((FrB.of e14).trans (FrB.upd (List.mem_cons_of_mem _ (List.mem_of_getElem? era)))))), ?_⟩
      have eP : plcG g 0 (g.ps.take (k + 1)) = plcG g 0 (g.ps.take k) ++ plcL k (scp g.vs p) g.a g.ps (wayB p.bd 0 (cntB p.bd)) := by
        rw [take_succ_at ep, plcG_snoc, List.length_take, Nat.min_eq_left (by omega), Nat.zero_add]
        rfl
      rw [eP, ← rwK_set ep, ← plcG_len ho 0 fun p hp => List.mem_of_mem_take hp]
      exact hm4
    · rintro σ H11 ⟨y4, y5, rfl, f11, hm1⟩
      have hm1' : MdNe K H11 g m (plcG g 0 (g.ps.take xs3.length)) (rwK g xs3.length) := hm1
      rw [rwK_all g l3, l3, List.take_length] at hm1'
      refine ⟨_, rfl, q m H11 (sB f11) (fun z hz => hz.elim (ng z) fun hz => ?_) hm1'⟩
      rcases List.mem_append.mp hz with hz | hz
      · refine n10 z ?_
        simp only [MdA.hds, List.mem_cons, List.not_mem_nil, or_false] at hz ⊢
        rcases hz with h | h | h | h | h | h <;> simp [h]
      · refine n10t z ?_
        simp only [MdA.tls, List.mem_append] at hz ⊢
        rcases hz with h | h | h
        · exact .inl h
        · exact .inr (.inl h)
        · exact .inr (.inr (.inl h))


end
end Pf

namespace Pf
open PySem PySem.Spec PyProof.Rows L2
section
variable {P : Program} {w : World} {K : PySem.W.Frag} {mg : Str → Option Value} {base : Heap}
variable {c : Nat → Addr}
/-! ### procedures whose parts are lists, at told addresses -/
theorem nm_sok {z : Str} (h : NmOk z) : PyData.strOk z = true := by
  rw [sok_iff]
  intro c hc
  have := h.ch c hc
  have k : ∀ c ∈ wrdS, c < 0x110000 := by decide +kernel
  exact k c this
theorem opS_sok : ∀ o : Nat, PyData.strOk (opS o) = true
  | 0 => by decide +kernel
  | 1 => by decide +kernel
  | 2 => by decide +kernel
  | 3 => by decide +kernel
  | 4 => by decide +kernel
  | 5 => by decide +kernel
  | _ + 6 => by show PyData.strOk "or" = true; decide +kernel
theorem lay_ex {ws : List Str} (hw : ∀ w ∈ ws, PyData.strOk w = true) : ∀ e : Ex, e.In ws → PyData.canLay0 e.d = true
  | .num n, _ => by simp [Ex.d, PyData.canLay0, PyData.canLayAll0]; decide +kernel
  | .nam x, h => by
    have := hw x h
    simp [Ex.d, PyData.canLay0, PyData.canLayAll0, this]; decide +kernel
  | .not e, h => by
    have := lay_ex hw e h
    simp [Ex.d, PyData.canLay0, PyData.canLayAll0, this]; decide +kernel
  | .bin o l r, h => by
    have h1 := lay_ex hw l h.1
    have h2 := lay_ex hw r h.2
    have h3 : PyData.strOk (opS o) = true := opS_sok o
    simp [Ex.d, PyData.canLay0, PyData.canLayAll0, h1, h2, h3]
theorem dep_ex : ∀ e : Ex, PyData.depth e.d ≤ e.depth
  | .num n => by simp [Ex.d, PyData.depth, PyData.depthAll, Ex.depth]
  | .nam x => by simp [Ex.d, PyData.depth, PyData.depthAll, Ex.depth]
  | .not e => by
    have := dep_ex e
    simp only [Ex.d, PyData.depth, PyData.depthAll, Ex.depth]
    omega
  | .bin o l r => by
    have := dep_ex l
    have := dep_ex r
    simp only [Ex.d, PyData.depth, PyData.depthAll, Ex.depth]
    omega
theorem lay_exs {ws : List Str} (hw : ∀ w ∈ ws, PyData.strOk w = true) : ∀ es : List Ex, (∀ e ∈ es, e.In ws) → PyData.canLayAll0 (es.map Ex.d) = true
  | [], _ => by simp [PyData.canLayAll0]
  | e :: es, h => by
    have h1 := lay_ex hw e (h e List.mem_cons_self)
    have h2 := lay_exs hw es fun x hx => h x (List.mem_cons_of_mem _ hx)
    simp [PyData.canLayAll0, h1, h2]
theorem dep_exs : ∀ es : List Ex, (∀ e ∈ es, e.depth ≤ 5) → PyData.depthAll (es.map Ex.d) ≤ 5
  | [], _ => by simp [PyData.depthAll]
  | e :: es, h => by
    have h1 := dep_ex e
    have h2 := h e List.mem_cons_self
    have h3 := dep_exs es fun x hx => h x (List.mem_cons_of_mem _ hx)
    simp only [List.map_cons, PyData.depthAll]
    omega
/-- names that a body speaks of are texts of true signs -/
structure Sok (g : Pg) (p : Pr) : Prop where
  sc : ∀ w ∈ (scp g.vs p).map Vr.nm, PyData.strOk w = true
  pn : ∀ q ∈ g.ps, PyData.strOk q.nm = true
theorem Pg.Ok.sok {g : Pg} (ho : g.Ok) {p : Pr} (mp : p ∈ g.ps) : Sok g p := ⟨fun w hw => by
  obtain ⟨v, hv, rfl⟩ := List.mem_map.mp hw
  exact nm_sok (ho.vn p mp v hv), fun q hq => nm_sok (ho.pn q hq)⟩
mutual
theorem lay_looS {g : Pg} {p : Pr} (k : Sok g p) : ∀ (s : St) (d : Nat), allS (Gs g p) d s → PyData.canLay0 (looS s) = true ∧ (d ≤ 7 → PyData.depth (looS s) ≤ 10 + 2 * (7 - d))
  | .set v e, d, h => by
    rw [allS] at h
    obtain ⟨_, h1, h2⟩ := h
    have a := k.sc v h1
    have b := lay_ex k.sc e h2.nm
    have c := dep_ex e
    have d5 := h2.d5
    refine ⟨by simp [looS, PyData.canLay0, PyData.canLayAll0, a, b]; decide +kernel, fun _ => ?_⟩
    simp only [looS, PyData.depth, PyData.depthAll]
    omega
  | .read v, d, h => by
    rw [allS] at h
    obtain ⟨_, w, hw, rfl, _⟩ := h
    have a := k.sc w.nm (List.mem_map_of_mem hw)
    refine ⟨by simp [looS, PyData.canLay0, PyData.canLayAll0, a]; decide +kernel, fun _ => ?_⟩
    simp only [looS, PyData.depth, PyData.depthAll]
    omega
  | .write e, d, h => by
    rw [allS] at h
    obtain ⟨_, h2⟩ := h
    have b := lay_ex k.sc e h2.nm
    have c := dep_ex e
    have d5 := h2.d5
    refine ⟨by simp [looS, PyData.canLay0, PyData.canLayAll0, b]; decide +kernel, fun _ => ?_⟩
    simp only [looS, PyData.depth, PyData.depthAll]
    omega
  | .ifs e b o, d, h => by
    rw [allS] at h
    obtain ⟨⟨d6, h2⟩, h3, h4⟩ := h
    have a := lay_ex k.sc e h2.nm
    have c := dep_ex e
    have d5 := h2.d5
    have x := lay_looL k b (d + 1) h3
    have y := lay_looL k o (d + 1) h4
    refine ⟨by simp [looS, PyData.canLay0, PyData.canLayAll0, a, x.1, y.1]; decide +kernel, fun _ => ?_⟩
    have x2 := x.2 (by omega)
    have y2 := y.2 (by omega)
    simp only [looS, PyData.depth, PyData.depthAll]
    omega
  | .whi e b, d, h => by
    rw [allS] at h
    obtain ⟨⟨d6, h2⟩, h3⟩ := h
    have a := lay_ex k.sc e h2.nm
    have c := dep_ex e
    have d5 := h2.d5
    have x := lay_looL k b (d + 1) h3
    refine ⟨by simp [looS, PyData.canLay0, PyData.canLayAll0, a, x.1]; decide +kernel, fun _ => ?_⟩
    have x2 := x.2 (by omega)
    simp only [looS, PyData.depth, PyData.depthAll]
    omega
  | .call q as, d, h => by
    rw [allS] at h
    obtain ⟨_, ⟨q', hq', rfl, _⟩, h3⟩ := h
    have a := k.pn q' (List.mem_of_mem_tail hq')
    have b := lay_exs k.sc as fun e he => (h3 e he).nm
    have c := dep_exs as fun e he => (h3 e he).d5
    refine ⟨by simp [looS, PyData.canLay0, PyData.canLayAll0, a, b]; decide +kernel, fun _ => ?_⟩
    simp only [looS, PyData.depth, PyData.depthAll]
    omega
  | .skip, d, h => by
    refine ⟨by simp [looS, PyData.canLay0, PyData.canLayAll0]; decide +kernel, fun _ => ?_⟩
    simp only [looS, PyData.depth, PyData.depthAll]
    omega
theorem lay_looL {g : Pg} {p : Pr} (k : Sok g p) : ∀ (b : List St) (d : Nat), allB (Gs g p) d b → PyData.canLayAll0 (looL b) = true ∧ (d ≤ 7 → PyData.depthAll (looL b) ≤ 10 + 2 * (7 - d))
  | [], d, _ => by
    refine ⟨by simp [looL, PyData.canLayAll0], fun _ => ?_⟩
    simp only [looL, PyData.depthAll]
    omega
  | s :: b, d, h => by
    rw [allB] at h
    have x := lay_looS k s d h.1
    have y := lay_looL k b d h.2
    refine ⟨by simp [looL, PyData.canLayAll0, x.1, y.1], fun h7 => ?_⟩
    have := x.2 h7
    have := y.2 h7
    simp only [looL, PyData.depthAll]
    omega
end
theorem lay_vrs : ∀ vs : List Vr, (∀ v ∈ vs, PyData.strOk v.nm = true) → PyData.canLayAll0 (vs.map Vr.d) = true
  | [], _ => by simp [PyData.canLayAll0]
  | v :: vs, h => by
    have a := h v List.mem_cons_self
    have b := lay_vrs vs fun x hx => h x (List.mem_cons_of_mem _ hx)
    simp [PyData.canLayAll0, PyData.canLay0, Vr.d, a, b]
theorem dep_vrs : ∀ vs : List Vr, PyData.depthAll (vs.map Vr.d) ≤ 1
  | [] => by simp [PyData.depthAll]
  | v :: vs => by
    have := dep_vrs vs
    simp only [List.map_cons, Vr.d, PyData.depthAll, PyData.depth]
    omega
def looseD (p : Pr) : PyData := .tuple [.str p.nm, .list (p.ps.map Vr.d), .list (p.ls.map Vr.d), .list (looL p.bd)]
theorem gs_bd {g : Pg} (ho : g.Ok) {p : Pr} (mp : p ∈ g.ps) : allB (Gs g p) 1 p.bd := allB_imp (fun d s h => h) _ _ (ho.sb p mp)
theorem lay_looseD {g : Pg} (ho : g.Ok) {p : Pr} (mp : p ∈ g.ps) : PyData.canLay0 (looseD p) = true ∧ PyData.depth (looseD p) ≤ 30 := by
  have k := ho.sok mp
  have sv : ∀ v ∈ scp g.vs p, PyData.strOk v.nm = true := fun v hv => k.sc _ (List.mem_map_of_mem hv)
  have a := lay_vrs p.ps fun v hv => sv v (List.mem_append_left _ (List.mem_append_right _ hv))
  have b := lay_vrs p.ls fun v hv => sv v (List.mem_append_right _ hv)
  have c := lay_looL k p.bd 1 (gs_bd ho mp)
  have n := k.pn p mp
  have a1 := dep_vrs p.ps
  have b1 := dep_vrs p.ls
  have c1 := c.2 (by omega)
  refine ⟨by simp [looseD, PyData.canLay0, PyData.canLayAll0, a, b, c.1, n], ?_⟩
  simp only [looseD, PyData.depth, PyData.depthAll]
  omega
theorem lay_looseDs {g : Pg} (ho : g.Ok) : ∀ {ps : List Pr}, (∀ p ∈ ps, p ∈ g.ps) → PyData.canLayAll0 (ps.map looseD) = true ∧ PyData.depthAll (ps.map looseD) ≤ 30
  | [], _ => by simp [PyData.canLayAll0, PyData.depthAll]
  | p :: ps, h => by
    have a := lay_looseD ho (h p List.mem_cons_self)
    have b := lay_looseDs ho fun x hx => h x (List.mem_cons_of_mem _ hx)
    refine ⟨by simp [PyData.canLayAll0, a.1, b.1], ?_⟩
    simp only [List.map_cons, PyData.depthAll]
    omega
theorem shaped_loose {g : Pg} (ho : g.Ok) : SeqAt.shaped (.list (g.ps.map looseD)) = true := by
  have h := lay_looseDs ho fun p (hp : p ∈ g.ps) => hp
  exact shaped_lst h.1 (by omega)
theorem shaped_vs {g : Pg} (ho : g.Ok) : SeqAt.shaped (.list (g.vs.map Vr.d)) = true := by
  have := ho.p1
  have k := ho.sok (p := g.ps[0]) (List.getElem_mem (by omega))
  exact shaped_lst (lay_vrs _ fun v hv => k.sc _ (List.mem_map_of_mem (List.mem_append_left _ (List.mem_append_left _ hv)))) (Nat.le_trans (dep_vrs _) (by decide))
mutual
theorem LoS.dl {K : PySem.W.Frag} {H : Hp} : ∀ (s : St) {x : V} {A : List Addr}, LoS K H s x A → Dl K H x (looS s)
  | .set v e, x, A, h => by rw [LoS] at h; have := dl_dp 20 h.2.1 h.1; rw [St.d] at this; rw [looS]; exact this
  | .read v, x, A, h => by rw [LoS] at h; have := dl_dp 20 h.2.1 h.1; rw [St.d] at this; rw [looS]; exact this
  | .write e, x, A, h => by rw [LoS] at h; have := dl_dp 20 h.2.1 h.1; rw [St.d] at this; rw [looS]; exact this
  | .skip, x, A, h => by rw [LoS] at h; have := dl_dp 20 h.2.1 h.1; rw [St.d] at this; rw [looS]; exact this
  | .call p as, x, A, h => by
    rw [LoS] at h
    obtain ⟨t, l, y, rfl, h1, h2, h3, h4, rfl⟩ := h
    rw [looS]
    exact .tup h1 (.cons (.str _) (.cons (.str _) (.cons (.lst h2 (dla_dp 6 h4 h3)) .nil)))
  | .whi e b, x, A, h => by
    rw [LoS] at h
    obtain ⟨t, te, l1, y1, A1, rfl, h1, h2, h3, h4, h5, rfl⟩ := h
    rw [looS]
    exact .tup h1 (.cons (.str _) (.cons (dl_dp 6 h3 h2) (.cons (.lst h4 (LoL.dl b h5)) .nil)))
  | .ifs e b o, x, A, h => by
    rw [LoS] at h
    obtain ⟨t, te, l1, l2, y1, y2, A1, A2, rfl, h1, h2, h3, h4, h5, h6, h7, rfl⟩ := h
    rw [looS]
    exact .tup h1 (.cons (.str _) (.cons (dl_dp 6 h3 h2) (.cons (.lst h4 (LoL.dl b h5)) (.cons (.lst h6 (LoL.dl o h7)) .nil))))
theorem LoL.dl {K : PySem.W.Frag} {H : Hp} : ∀ (b : List St) {ys : List V} {A : List Addr}, LoL K H b ys A → DlAll K H ys (looL b)
  | [], ys, A, h => by
    rw [LoL] at h
    rw [looL, h.1]
    exact .nil
  | s :: b, ys, A, h => by
    rw [LoL] at h
    obtain ⟨y, ys', A1, A2, rfl, h1, h2, _⟩ := h
    rw [looL]
    exact .cons (LoS.dl s h1) (LoL.dl b h2)
end
theorem tup_vrs1 (vs : List Vr) : ∀ d ∈ vs.map Vr.d, tupOk 1 d := fun d hd => by
  obtain ⟨v, _, rfl⟩ := List.mem_map.mp hd
  refine tup_seq (by show 2 ≤ 100000; decide) fun e he => ?_
  rcases List.mem_cons.mp he with rfl | he
  · exact (tup_atom 0).2 _
  · rcases List.mem_singleton.mp he with rfl
    exact (tup_atom 0).1 _
/-- a procedure with lists of its own, at the addresses B -/
def PrL (K : PySem.W.Frag) (H : Hp) (x : V) (p : Pr) (B : List Addr) : Prop := ∃ (t l1 l2 l3 : Addr) (x1 x2 x3 : List V) (A : List Addr), x = .ref t ∧ SqT K H t [.str p.nm, .ref l1, .ref l2, .ref l3] ∧ B = l1 :: l2 :: l3 :: A ∧ H l1 = some (.lst x1) ∧ H l2 = some (.lst x2) ∧ H l3 = some (.lst x3) ∧ DpAll K H x1 (p.ps.map Vr.d) ∧ DpAll K H x2 (p.ls.map Vr.d) ∧ LoL K H p.bd x3 A
theorem PrL.fr {K : PySem.W.Frag} {H H' : Hp} {C : List Addr} (hC : ∀ b ∈ C, NotT H b) (f : FrB C H H') {x : V} {p : Pr} {B : List Addr} (n : ∀ b ∈ B, b ∉ C) (h : PrL K H x p B) : PrL K H' x p B := by
  obtain ⟨t, l1, l2, l3, x1, x2, x3, A, h0, h1, rfl, a1, a2, a3, d1, d2, d3⟩ := h
  exact ⟨t, l1, l2, l3, x1, x2, x3, A, h0, seqT_B hC f h1, rfl, f _ _ (n _ (by simp)) a1, f _ _ (n _ (by simp)) a2, f _ _ (n _ (by simp)) a3, dpa_B hC f 1 (tup_vrs1 _) d1, dpa_B hC f 1 (tup_vrs1 _) d2, d3.fr hC f _ fun a ha => n a (by simp [ha])⟩
theorem PrL.same {K : PySem.W.Frag} {H H' : Hp} {x : V} {p : Pr} {B : List Addr} (e : Same H H') (h : PrL K H x p B) : PrL K H' x p B := h.fr (C := []) (fun b h => nomatch h) (FrB.of e) fun a _ h => nomatch h
theorem PrL.dom {K : PySem.W.Frag} {H : Hp} {x : V} {p : Pr} {B : List Addr} (h : PrL K H x p B) : ∀ b ∈ B, ∃ zs, H b = some (.lst zs) := fun b hb => by
  obtain ⟨t, l1, l2, l3, x1, x2, x3, A, h0, h1, rfl, a1, a2, a3, d1, d2, d3⟩ := h
  simp only [List.mem_cons] at hb
  rcases hb with rfl | rfl | rfl | hb
  · exact ⟨_, a1⟩
  · exact ⟨_, a2⟩
  · exact ⟨_, a3⟩
  · exact d3.dom _ b hb
theorem PrL.dl {K : PySem.W.Frag} {H : Hp} {x : V} {p : Pr} {B : List Addr} (h : PrL K H x p B) : Dl K H x (looseD p) := by
  obtain ⟨t, l1, l2, l3, x1, x2, x3, A, rfl, h1, rfl, a1, a2, a3, d1, d2, d3⟩ := h
  exact .tup h1 (.cons (.str _) (.cons (.lst a1 (dla_dp 1 (tup_vrs1 _) d1)) (.cons (.lst a2 (dla_dp 1 (tup_vrs1 _) d2)) (.cons (.lst a3 d3.dl) .nil))))
theorem PrL.dp {K : PySem.W.Frag} {H : Hp} {x : V} {p : Pr} {B : List Addr} (h : PrL K H x p B) : Dp K H x (looseD p) := by
  obtain ⟨t, l1, l2, l3, x1, x2, x3, A, rfl, h1, rfl, a1, a2, a3, d1, d2, d3⟩ := h
  exact .tup h1 (.cons (.str _) (.cons (.lst (SqL.of a1) d1) (.cons (.lst (SqL.of a2) d2) (.cons (.lst (SqL.of a3) d3.dp) .nil))))
/-- the procedures of a list, each at addresses of its own, none of which stood in H0 -/
structure PsL (K : PySem.W.Frag) (H0 H : Hp) (ts : List V) (ps : List Pr) (Bs : List (List Addr)) : Prop where
  lt : ts.length = ps.length
  lb : Bs.length = ps.length
  it : ∀ (i : Nat) (x : V) (p : Pr) (B : List Addr), ts[i]? = some x → ps[i]? = some p → Bs[i]? = some B → PrL K H x p B
  nd : Bs.flatten.Nodup
  fr : ∀ b ∈ Bs.flatten, H0 b = none
theorem PsL.nil {K : PySem.W.Frag} {H0 H : Hp} : PsL K H0 H [] [] [] := ⟨rfl, rfl, fun i x p B h => by simp at h, List.nodup_nil, fun b h => nomatch h⟩
theorem mem_flat {Bs : List (List Addr)} {b : Addr} (h : b ∈ Bs.flatten) : ∃ (i : Nat) (B : List Addr), Bs[i]? = some B ∧ b ∈ B := by
  obtain ⟨B, hB, hb⟩ := List.mem_flatten.mp h
  obtain ⟨i, hi⟩ := List.getElem?_of_mem hB
  exact ⟨i, B, hi, hb⟩
theorem PsL.dom {K : PySem.W.Frag} {H0 H : Hp} {ts : List V} {ps : List Pr} {Bs : List (List Addr)} (h : PsL K H0 H ts ps Bs) : ∀ b ∈ Bs.flatten, ∃ zs, H b = some (.lst zs) := fun b hb => by
  obtain ⟨i, B, hi, hb⟩ := mem_flat hb
  have l := (List.getElem?_eq_some_iff.mp hi).1
  have l1 := h.lb
  have l2 := h.lt
  exact (h.it i _ _ B (List.getElem?_eq_getElem (by omega)) (List.getElem?_eq_getElem (by omega)) hi).dom b hb
theorem PsL.fr' {K : PySem.W.Frag} {H0 H H' : Hp} {C : List Addr} {ts : List V} {ps : List Pr} {Bs : List (List Addr)} (h : PsL K H0 H ts ps Bs) (hC : ∀ b ∈ C, NotT H b) (f : FrB C H H') (n : ∀ b ∈ Bs.flatten, b ∉ C) : PsL K H0 H' ts ps Bs :=
  ⟨h.lt, h.lb, fun i x p B e1 e2 e3 => (h.it i x p B e1 e2 e3).fr hC f fun b hb => n b (List.mem_flatten.mpr ⟨B, List.mem_of_getElem? e3, hb⟩), h.nd, h.fr⟩
theorem PsL.same {K : PySem.W.Frag} {H0 H H' : Hp} {ts : List V} {ps : List Pr} {Bs : List (List Addr)} (h : PsL K H0 H ts ps Bs) (e : Same H H') : PsL K H0 H' ts ps Bs := h.fr' (C := []) (fun b h => nomatch h) (FrB.of e) fun a _ h => nomatch h
theorem PsL.snoc {K : PySem.W.Frag} {H0 H : Hp} {ts : List V} {ps : List Pr} {Bs : List (List Addr)} {x : V} {p : Pr} {B : List Addr} (h : PsL K H0 H ts ps Bs) (k : PrL K H x p B) (nB : B.Nodup) (fB : ∀ b ∈ B, H0 b = none) (dj : ∀ b ∈ B, b ∉ Bs.flatten) : PsL K H0 H (ts ++ [x]) (ps ++ [p]) (Bs ++ [B]) := by
  have l1 := h.lt
  have l2 := h.lb
  refine ⟨by rw [List.length_append, List.length_append, l1]; rfl, by rw [List.length_append, List.length_append, l2]; rfl, fun i y q C e1 e2 e3 => ?_, ?_, fun b hb => ?_⟩
  · by_cases hi : i < ts.length
    · rw [List.getElem?_append_left hi] at e1
      rw [List.getElem?_append_left (by omega)] at e2 e3
      exact h.it i y q C e1 e2 e3
    · have : i < ts.length + 1 := by have := (List.getElem?_eq_some_iff.mp e1).1; rwa [List.length_append] at this
      have ei : i = ts.length := by omega
      subst ei
      rw [List.getElem?_append_right (Nat.le_refl _), Nat.sub_self] at e1
      rw [List.getElem?_append_right (by omega), l1, Nat.sub_self] at e2
      rw [List.getElem?_append_right (by omega), show ts.length - Bs.length = 0 by omega] at e3
      cases e1
      cases e2
      cases e3
      exact k
  · rw [List.flatten_append, List.nodup_append]
    refine ⟨h.nd, by simpa using nB, fun a ha b hb e => ?_⟩
    have hb' : b ∈ B := by simpa using hb
    exact dj b hb' (e ▸ ha)
  · rw [List.flatten_append] at hb
    rcases List.mem_append.mp hb with hb | hb
    · exact h.fr b hb
    · exact fB b (by simpa using hb)
theorem dla_all {K : PySem.W.Frag} {H : Hp} : ∀ {xs : List V} {ds : List PyData}, xs.length = ds.length → (∀ (i : Nat) (x : V) (d : PyData), xs[i]? = some x → ds[i]? = some d → Dl K H x d) → DlAll K H xs ds
  | [], [], _, _ => .nil
  | x :: xs, d :: ds, l, h => .cons (h 0 x d rfl rfl) (dla_all (by simpa using l) fun i y e a b => h (i + 1) y e a b)
  | [], d :: ds, l, _ => by simp at l
  | x :: xs, [], l, _ => by simp at l
theorem dpa_all {K : PySem.W.Frag} {H : Hp} : ∀ {xs : List V} {ds : List PyData}, xs.length = ds.length → (∀ (i : Nat) (x : V) (d : PyData), xs[i]? = some x → ds[i]? = some d → Dp K H x d) → DpAll K H xs ds
  | [], [], _, _ => .nil
  | x :: xs, d :: ds, l, h => .cons (h 0 x d rfl rfl) (dpa_all (by simpa using l) fun i y e a b => h (i + 1) y e a b)
  | [], d :: ds, l, _ => by simp at l
  | x :: xs, [], l, _ => by simp at l
theorem PsL.dl {K : PySem.W.Frag} {H0 H : Hp} {ts : List V} {ps : List Pr} {Bs : List (List Addr)} (h : PsL K H0 H ts ps Bs) : DlAll K H ts (ps.map looseD) := dla_all (by rw [List.length_map]; exact h.lt) fun i x d e1 e2 => by
  rw [List.getElem?_map] at e2
  obtain ⟨p, ep, rfl⟩ := Option.map_eq_some_iff.mp e2
  have := h.lb
  have := (List.getElem?_eq_some_iff.mp ep).1
  exact (h.it i x p _ e1 ep (List.getElem?_eq_getElem (by omega))).dl
theorem PsL.dp {K : PySem.W.Frag} {H0 H : Hp} {ts : List V} {ps : List Pr} {Bs : List (List Addr)} (h : PsL K H0 H ts ps Bs) : DpAll K H ts (ps.map looseD) := dpa_all (by rw [List.length_map]; exact h.lt) fun i x d e1 e2 => by
  rw [List.getElem?_map] at e2
  obtain ⟨p, ep, rfl⟩ := Option.map_eq_some_iff.mp e2
  have := h.lb
  have := (List.getElem?_eq_some_iff.mp ep).1
  exact (h.it i x p _ e1 ep (List.getElem?_eq_getElem (by omega))).dp
theorem raw_loose (ps : List Pr) : rawPs (.list (ps.map looseD)) ps := ⟨_, .inl rfl, by rw [List.length_map], fun i d p e1 e2 => by
  rw [List.getElem?_map, e2] at e1
  cases e1
  exact ⟨_, _, _, rfl, .inl rfl, .inl rfl, _, .inl rfl, raw_looL p.bd⟩⟩
theorem tup_sgt {g : Pg} (ho : g.Ok) : tupOk 3 (nmsD g) ∧ tupOk 3 (szsD g) ∧ tupOk 3 (sgtD g) := by
  have o5 := ho.p5
  have dl := ho.decl.len
  refine ⟨tup_seq (by rw [List.length_map]; omega) fun d hd => ?_, tup_seq (by rw [List.length_map]; omega) fun d hd => ?_, tup_seq (by rw [List.length_map]; omega) fun d hd => ?_⟩
  · obtain ⟨p, hp, rfl⟩ := List.mem_map.mp hd
    have := dl p hp
    refine tup_seq (by rw [List.length_map, List.length_map]; omega) fun e he => ?_
    obtain ⟨z, _, rfl⟩ := List.mem_map.mp he
    exact (tup_atom 1).2 z
  · obtain ⟨p, hp, rfl⟩ := List.mem_map.mp hd
    have := dl p hp
    refine tup_seq (by rw [List.length_map, List.length_map]; omega) fun e he => ?_
    obtain ⟨z, _, rfl⟩ := List.mem_map.mp he
    exact (tup_atom 1).1 z
  · obtain ⟨p, hp, rfl⟩ := List.mem_map.mp hd
    exact ho.sg hp
theorem tup_pt {g : Pg} (ho : g.Ok) : tupOk 8 (placesD g) ∧ tupOk 4 (pointsD g) := by
  have sn := ho.sn
  have c := sum_le3 (xs := g.ps) fun p hp => cntE_pL ho hp
  refine ⟨tup_seq (by rw [plcG_len ho 0 fun p hp => hp]; omega) (tup_plcG ho 0 fun p hp => hp), tup_seq (by have := ho.p5; rw [← ptL_d, List.length_map, ptL_len]; omega) (tup_ptsG ho 0 fun p hp => hp)⟩
theorem PgAt.B {K : PySem.W.Frag} {C p : Addr} {B : List Addr} {H H' : Hp} {g : Pg} (ho : g.Ok) (hB : ∀ b ∈ B, NotT H b) (f : FrB B H H') (n : p ∉ B) (h : PgAt K C H p g) : PgAt K C H' p g := by
  obtain ⟨dx, v, x, n', z, s, pl, pt, hp, d⟩ := h
  obtain ⟨t1, t2, t3⟩ := tup_sgt ho
  obtain ⟨t4, t5⟩ := tup_pt ho
  have o4 := ho.v4
  exact ⟨dx, v, x, n', z, s, pl, pt, f _ _ n hp, dp_B hB f 2 (tup_vs 0 (by omega)) d.v, dp_B hB f 21 (tup_ps ho) d.x, dp_B hB f 3 t1 d.n, dp_B hB f 3 t2 d.z, dp_B hB f 3 t3 d.s, dp_B hB f 8 t4 d.pl, dp_B hB f 4 t5 d.pt⟩
theorem PgAt.not_lst {K : PySem.W.Frag} {C p : Addr} {H : Hp} {g : Pg} (h : PgAt K C H p g) {B : List Addr} (hB : ∀ b ∈ B, ∃ zs, H b = some (.lst zs)) : p ∉ B := fun hb => by
  obtain ⟨dx, v, x, n', z, s, pl, pt, hp, d⟩ := h
  obtain ⟨zs, e⟩ := hB p hb
  rw [hp] at e
  cases e
theorem fr0 {H1 H3 : Hp} {D b : Addr} {o o' : HO} (s : Same H1 H3) (hD : H3 D = some o) (n : H3 b = none) : upd H1 D o' b = none := (upd_ne (ne_of_none hD n).symm).trans (same_back s n)
theorem ntl {H : Hp} {B : List Addr} (h : ∀ b ∈ B, ∃ zs, H b = some (.lst zs)) : ∀ b ∈ B, NotT H b := fun b hb => by
  obtain ⟨zs, e⟩ := h b hb
  exact nt_lst e
theorem flat_take_disj {Bs : List (List Addr)} (n : Bs.flatten.Nodup) {i : Nat} {B : List Addr} (e : Bs[i]? = some B) : B.Nodup ∧ ∀ b ∈ B, b ∉ (Bs.take i).flatten := by
  have h : Bs = Bs.take i ++ B :: Bs.drop (i + 1) := by rw [← drop_at e, List.take_append_drop]
  rw [h, List.flatten_append, List.flatten_cons] at n
  obtain ⟨_, n2, n3⟩ := List.nodup_append.mp n
  exact ⟨(List.nodup_append.mp n2).1, fun b hb ht => n3 b ht b (List.mem_append_left _ hb) rfl⟩
theorem sub_take {Bs : List (List Addr)} {i : Nat} {b : Addr} (h : b ∈ (Bs.take i).flatten) : b ∈ Bs.flatten := by
  obtain ⟨B, hB, hb⟩ := List.mem_flatten.mp h
  exact List.mem_flatten.mpr ⟨B, List.mem_of_mem_take hB, hb⟩


end
end Pf

namespace Pf
open PySem PySem.Spec PyProof.Rows L2
section
variable {P : Program} {w : World} {K : PySem.W.Frag} {mg : Str → Option Value} {base : Heap}
variable {c : Nat → Addr}
def sp__law_made (K : PySem.W.Frag) (C : Addr) : Sp := fun us H Q _ => ∃ (v : V) (f : Int) (g : Pg), us = [v, .int f] ∧ Dp K H v g.d ∧ g.Ok ∧ ∀ (p : Addr) (H' : Hp), Same H H' → PgAt K C H' p g → Q (.ref p) H'
theorem ok__law_made (T : Txt P K mg c) : Has P w K mg base 32 "_law_made" ["parts", "form"] (sp__law_made K (c id_Program)) := by
  obtain ⟨f, fd, F, m, b⟩ := T.d__law_made.ex
  obtain ⟨f_Program_init, fd_Program_init, G_Program_init, M_Program_init, b_Program_init⟩ := ok_Program_init (P := P) (w := w) (base := base) T
  obtain ⟨f__law_loose, fd__law_loose, G__law_loose, m__law_loose, k__law_loose, b__law_loose⟩ := ok__law_loose (P := P) (w := w) (base := base) T 7
  obtain ⟨f__law_spoil, fd__law_spoil, G__law_spoil, m__law_spoil, k__law_spoil, b__law_spoil⟩ := ok__law_spoil (P := P) (w := w) (base := base) T 7
  refine ⟨f, fd, F.ok sc__law_made (fun vs H Q E h => ?_) (fun cdv A outer s H vs Q E hr h => ?_), m, F.kp, b⟩
  · obtain ⟨v, f, g, rfl, hv, ho, q⟩ := h
    rfl
  obtain ⟨v, f, g, rfl, hv, ho, q⟩ := h
  refine ⟨_, (C8.pss_cut (ps_if (pt_cmpR op_gt (pv 1) pe_int (nomark _))
      (pss_one (ps_ret (pe_make M_Program_init G_Program_init (hr.mono (by decide)) (by rfl) T.g_Program b_Program_init .nil pass0 (pa_cons (pe_ix ix_tup (pv 0) pe_int (fun _ _ => rfl)) (pa_cons (pe_ix ix_tup (pv 0) pe_int (fun _ _ => rfl)) (pa_cons (pe_ix ix_tup (pv 0) pe_int (fun _ _ => rfl)) (pa_cons (pe_ix ix_tup (pv 0) pe_int (fun _ _ => rfl)) pa_nil)))))))
      pss_nil)
      (pss_cons (ps_set (i := 2) sc__law_made.nd rfl (.inl rfl) (pe_callTy call_list_of (by rfl) T.z_list (by decide +kernel) (pa_cons (pe_ix ix_tup (pv 0) pe_int (fun _ _ => rfl)) pa_nil)))
      (pss_cons (ps_setLc (i := 4) (own := [("told", 3)]) (g := gName 3) (by rfl) sc__law_made.nd rfl rfl (sw_true rfl rfl rfl (by decide +kernel)) (pi_tup (pe_ix ix_tup (pv 0) pe_int (fun _ _ => rfl))) (blkOk_by (own := [("told", 3)]) (N := ["parts", "form", "variables", "told", "procedures", "program"]) (sc := defScope s__law_made) (by decide +kernel)) (fun _ _ _ _ _ => (pg_name (i := 3) sc__law_made.nd rfl (.inl rfl))) (fun _ _ _ _ _ => pts_nil) (fun _ _ _ _ _ => (pe_tup (pa_cons (pe_ix (ix_tupK (K := K) rfl) (pv 3) pe_int (fun _ _ => rfl)) (pa_cons (pe_callTy (call_list_ofK (K := K) rfl) (by rfl) T.z_list (by decide +kernel) (pa_cons (pe_ix (ix_tupK (K := K) rfl) (pv 3) pe_int (fun _ _ => rfl)) pa_nil)) (pa_cons (pe_callTy (call_list_ofK (K := K) rfl) (by rfl) T.z_list (by decide +kernel) (pa_cons (pe_ix (ix_tupK (K := K) rfl) (pv 3) pe_int (fun _ _ => rfl)) pa_nil)) (pa_cons (pe_call G__law_loose (hr.mono (by decide)) (by rfl) m__law_loose k__law_loose b__law_loose .nil pass0 (pa_cons (pe_ix (ix_tupK (K := K) rfl) (pv 3) pe_int (fun _ _ => rfl)) pa_nil)) pa_nil)))))))
      (pss_cons (ps_set (i := 5) sc__law_made.nd rfl (.inl rfl) (pe_make M_Program_init G_Program_init (hr.mono (by decide)) (by rfl) T.g_Program b_Program_init .nil pass0 (pa_cons (pe_ix ix_tup (pv 0) pe_int (fun _ _ => rfl)) (pa_cons (pe_ix ix_tup (pv 0) pe_int (fun _ _ => rfl)) (pa_cons (pv 2) (pa_cons (pv 4) pa_nil))))))
      (pss_cons (ps_for PassesOwn.never rfl (pi_list (pv 4)) (pg_name (i := 3) sc__law_made.nd rfl (.inl rfl))
      (pss_cons (ps_expr (pe_call G__law_spoil (hr.mono (by decide)) (by rfl) m__law_spoil k__law_spoil b__law_spoil .nil pass0 (pa_cons (pe_ix ix_tup (pv 3) pe_int (fun _ _ => rfl)) pa_nil)))
        (pss_cons (ps_expr (pe_bm PySem.F.plainAttrs_list PySem.F.slot_list_append PySem.F.type_list_append mt_append (pe_ix ix_tup (pv 3) pe_int (fun _ _ => rfl)) (pa_cons (pe_tup (pa_cons pe_str (pa_cons pe_int pa_nil))) pa_nil)))
        (pss_one (ps_expr (pe_bm0 PySem.F.plainAttrs_list PySem.F.slot_list_clear PySem.F.type_list_clear mt_clear (pe_ix ix_tup (pv 3) pe_int (fun _ _ => rfl))))))))
      (pss_cons (ps_expr (pe_bm PySem.F.plainAttrs_list PySem.F.slot_list_append PySem.F.type_list_append mt_append (pv 2) (pa_cons (pe_tup (pa_cons pe_str (pa_cons pe_int pa_nil))) pa_nil)))
      (pss_cons (ps_expr (pe_bm0 PySem.F.plainAttrs_list PySem.F.slot_list_reverse PySem.F.type_list_reverse mt_reverse (pv 4)))
      (pss_one (ps_ret (pv 5)))))))))), ?_⟩
  have o4 := ho.v4
  have o5 := ho.p5
  have hv' : Dp K H v (.tuple [.int g.l, .int g.a, .tuple (g.vs.map Vr.d), .tuple (g.ps.map Pr.d)]) := hv
  obtain ⟨a, xs, rfl, hq, hk⟩ := dp_tup' hv'
  obtain ⟨x0, e0, h0⟩ := dpa_get' hk (i := 0) rfl
  obtain ⟨x1, e1, h1⟩ := dpa_get' hk (i := 1) rfl
  obtain ⟨x2, e2, h2⟩ := dpa_get' hk (i := 2) rfl
  obtain ⟨x3, e3, h3⟩ := dpa_get' hk (i := 3) rfl
  cases h0
  cases h1
  refine ⟨fun σ H' => σ = [some (.ref a), some (.int f), none, none, none, none] ∧ H = H', ?_, ?_⟩
  · refine ⟨_, rfl, _, _, rfl, rfl, _, rfl, ite2 (fun e => ?_) (fun e => ⟨rfl, rfl⟩)⟩
    refine ⟨_, rfl, a, xs, _, _, rfl, rfl, hq, atI_nat e0, _, rfl, a, xs, _, _, rfl, rfl, hq, atI_nat e1, _, rfl, a, xs, _, _, rfl, rfl, hq, atI_nat e2, _, rfl, a, xs, _, _, rfl, rfl, hq, atI_nat e3, fun x dx nx ndx nex => ?_⟩
    have s3 : Same H (upd (upd H dx (.own x)) x (.ins (c id_Program) dx [])) := fun b o e => by
      rw [upd_ne (ne_of_none e nx), upd_ne (ne_of_none e ndx)]
      exact e
    refine ⟨x, dx, g, x2, x3, _, _, rfl, upd_same, ho, dl_dp 2 (tup_vs 0 (by omega)) (dp_same s3 h2), .inr rfl, dl_dp 21 (tup_ps ho) (dp_same s3 h3), rawPs_d g.ps, fun H' kp hc => ?_⟩
    exact ⟨rfl, q x H' (fun b o e => kp b o (s3 _ _ e) (ne_of_none e nx)) hc⟩
  rintro σ H' ⟨rfl, rfl⟩
  obtain ⟨a2, xs2, rfl, hq2, hk2⟩ := dp_tup' h2
  obtain ⟨a3, xs3, rfl, hq3, hk3⟩ := dp_tup' h3
  have lx2 : xs2.length ≤ 4 := by
    have := dpa_len hk2
    rw [List.length_map] at this
    omega
  have lx3 : xs3.length = g.ps.length := by
    have := dpa_len hk3
    rwa [List.length_map] at this
  -- variables
  refine ⟨_, rfl, a, xs, _, _, rfl, rfl, hq, atI_nat e2, a2, xs2, rfl, .inr hq2, fun W nW => ?_⟩
  have s1 := same_new (o := .lst xs2) nW
  have hW1 := upd_same (H := H) (a := W) (o := .lst xs2)
  generalize upd H W (.lst xs2) = H1 at s1 hW1 ⊢
  -- procedures
  refine ⟨_, rfl, a, xs, _, _, rfl, rfl, seqT_same s1 hq, atI_nat e3, a3, rfl, ⟨_, seqT_same s1 hq3⟩, fun D nD => lc_it (walk_tup (xs := xs3)) (fun i H' => Same H1 H' ∧ ∃ ts Bs, H' D = some (.lst ts) ∧ PsL K (upd H1 D (.lst [])) H' ts (g.ps.take i) Bs) ⟨same_new nD, [], [], upd_same, by rw [List.take_zero]; exact .nil⟩ (fun i H' _ h' => seqT_same (s1.trans h'.1) hq3) ?_ ?_⟩
  · rintro i y J2 J3 hi ⟨s2, ts, Bs, hD, hts⟩ ⟨rfl, hy⟩
    have s12 := s1.trans s2
    obtain ⟨d, ed, hd⟩ := dpa_getx' hk3 hy
    rw [List.getElem?_map] at ed
    obtain ⟨p, ep, rfl⟩ := Option.map_eq_some_iff.mp ed
    have mp := List.mem_of_getElem? ep
    have lts : ts.length ≤ 5 := by rw [hts.lt, List.length_take]; omega
    have hd' : Dp K J3 y (.tuple [.str p.nm, .tuple (p.ps.map Vr.d), .tuple (p.ls.map Vr.d), .tuple (stDs p.bd)]) := dp_same s12 hd
    obtain ⟨t, us, rfl, ht, hu⟩ := dp_tup' hd'
    obtain ⟨u0, f0, g0⟩ := dpa_get' hu (i := 0) rfl
    obtain ⟨u1, f1, g1⟩ := dpa_get' hu (i := 1) rfl
    obtain ⟨u2, f2, g2⟩ := dpa_get' hu (i := 2) rfl
    obtain ⟨u3, f3, g3⟩ := dpa_get' hu (i := 3) rfl
    cases g0
    obtain ⟨b1, w1, rfl, hb1, hw1⟩ := dp_tup' g1
    obtain ⟨b2, w2, rfl, hb2, hw2⟩ := dp_tup' g2
    refine ⟨rfl, _, rfl, t, us, _, _, rfl, rfl, ht, atI_nat f0, _, rfl, t, us, _, _, rfl, rfl, ht, atI_nat f1, b1, w1, rfl, .inr hb1, fun l1 nl1 => ?_⟩
    have k1 := same_new (o := .lst w1) nl1
    refine ⟨_, rfl, t, us, _, _, rfl, rfl, seqT_same k1 ht, atI_nat f2, b2, w2, rfl, .inr (seqT_same k1 hb2), fun l2 nl2 => ?_⟩
    have k12 := same_new (o := .lst w2) nl2
    have k2 := k1.trans k12
    refine ⟨_, rfl, t, us, _, _, rfl, rfl, seqT_same k2 ht, atI_nat f3, u3, g, p, p.bd, 1, rfl, dp_same k2 g3, hd_of ho mp, gs_bd ho mp, by have := sum_split (fun p => cntB p.bd) ep; have := ho.sn; omega, by omega, by omega, by omega, fun l3 ws A' J4 s4 nA ndA hl3 hws => ?_⟩
    have k3 := k2.trans s4
    refine ⟨by show 4 ≤ sizeLine; decide, fun tn ntn => ?_⟩
    have e4 := same_new (o := .tup [.str p.nm, .ref l1, .ref l2, .ref l3]) ntn
    have k4 := k3.trans e4
    have hD4 := k4 _ _ hD
    have al1 := e4 _ _ (s4 _ _ (k12 _ _ (upd_same (H := J3) (a := l1) (o := .lst w1))))
    have al2 := e4 _ _ (s4 _ _ (upd_same (H := upd J3 l1 (.lst w1)) (a := l2) (o := .lst w2)))
    have al3 := e4 _ _ hl3
    have ff : ∀ b ∈ l1 :: l2 :: l3 :: A', J3 b = none := fun b hb => by
      rcases List.mem_cons.mp hb with rfl | hb
      · exact nl1
      rcases List.mem_cons.mp hb with rfl | hb
      · exact same_back k1 nl2
      · exact same_back k2 (nA b hb)
    have nnB : (l1 :: l2 :: l3 :: A').Nodup := by
      refine List.nodup_cons.mpr ⟨fun hm => ?_, List.nodup_cons.mpr ⟨fun hm => ?_, ndA⟩⟩
      · rcases List.mem_cons.mp hm with e | hm
        · rw [← e, upd_same] at nl2
          cases nl2
        · have := same_back k12 (nA _ hm)
          rw [upd_same] at this
          cases this
      · have := nA _ hm
        rw [upd_same] at this
        cases this
    refine ⟨ts, hD4, small1000 (by omega), same_mut (s2.trans k4) nD, ts ++ [.ref tn], Bs ++ [l1 :: l2 :: l3 :: A'], upd_same, ?_⟩
    rw [take_succ_at ep]
    have nD : ∀ b, J3 b = none → b ∉ [D] := fun b hb hm => by
      rcases List.mem_singleton.mp hm with rfl
      rw [hD] at hb
      cases hb
    have nTD : ∀ b ∈ [D], NotT (upd J4 tn (.tup [.str p.nm, .ref l1, .ref l2, .ref l3])) b := fun b hb => by
      rcases List.mem_singleton.mp hb with rfl
      exact nt_lst hD4
    refine PsL.fr' (C := [D]) (PsL.snoc (hts.same k4) ⟨tn, l1, l2, l3, w1, w2, ws, A', rfl, SqT.of upd_same, rfl, al1, al2, al3, dpa_same k4 hw1, dpa_same k4 hw2, hws.same e4⟩ nnB (fun b hb => fr0 s2 hD (ff b hb)) fun b hb hm => ?_) nTD (FrB.upd List.mem_cons_self) fun b hb hm => ?_
    · obtain ⟨zs, ez⟩ := hts.dom b hm
      rw [ff b hb] at ez
      cases ez
    · rcases List.mem_singleton.mp hm with rfl
      rw [List.flatten_append] at hb
      rcases List.mem_append.mp hb with hb | hb
      · have := hts.fr _ hb
        rw [upd_same] at this
        cases this
      · have hb' : b ∈ l1 :: l2 :: l3 :: A' := by simpa using hb
        have := ff _ hb'
        rw [hD] at this
        cases this
  rintro H2 ⟨s2, ts, Bs, hD, hts⟩
  rw [lx3, List.take_length] at hts
  have s12 := s1.trans s2
  have nWH : H W = none := nW
  have nDH : H D = none := same_back s1 nD
  have hW2 := s2 _ _ hW1
  have nWD : W ≠ D := ne_of_none hW1 nD
  -- program
  refine ⟨_, rfl, a, xs, _, _, rfl, rfl, seqT_same s12 hq, atI_nat e0, _, rfl, a, xs, _, _, rfl, rfl, seqT_same s12 hq, atI_nat e1, _, rfl, _, rfl, fun x dx nx ndx nex => ?_⟩
  have s3 : Same H2 (upd (upd H2 dx (.own x)) x (.ins (c id_Program) dx [])) := fun b o e => by
    rw [upd_ne (ne_of_none e nx), upd_ne (ne_of_none e ndx)]
    exact e
  have s13 := s12.trans s3
  refine ⟨x, dx, g, .ref W, .ref D, .list (g.vs.map Vr.d), .list (g.ps.map looseD), rfl, upd_same, ho, .lst (s3 _ _ hW2) (dla_dp 1 (tup_vrs1 _) (dpa_same s13 hk2)), .inl rfl, .lst (s3 _ _ hD) (hts.same s3).dl, raw_loose g.ps, fun H4 kp hc => ⟨rfl, ?_⟩⟩
  have s24 : Same H2 H4 := fun b o e => kp b o (s3 _ _ e) (ne_of_none e nx)
  have s14 := s12.trans s24
  have hW4 := s24 _ _ hW2
  have hD4 := s24 _ _ hD
  have hts4 := hts.same s24
  have s46 := Same.refl H4
  have s16 := s14.trans s46
  -- for told in procedures
  have hW6 := s46 _ _ hW4
  have hD6 := s46 _ _ hD4
  have hts6 := hts4.same s46
  have hc6 := hc.same s46
  generalize hAL : D :: W :: Bs.flatten = AL
  have lAL : ∀ b ∈ AL, ∃ zs, H4 b = some (.lst zs) := fun b hb => by
    rw [← hAL] at hb
    rcases List.mem_cons.mp hb with rfl | hb
    · exact ⟨_, hD6⟩
    rcases List.mem_cons.mp hb with rfl | hb
    · exact ⟨_, hW6⟩
    · exact hts6.dom b hb
  have fAL : ∀ b ∈ AL, H b = none := fun b hb => by
    rw [← hAL] at hb
    rcases List.mem_cons.mp hb with rfl | hb
    · exact nDH
    rcases List.mem_cons.mp hb with rfl | hb
    · exact nWH
    · have := hts6.fr b hb
      have nb : b ≠ D := fun z => by
        rw [z, upd_same] at this
        cases this
      rw [upd_ne nb] at this
      exact same_back s1 this
  have nDB : D ∉ Bs.flatten := fun hm => by
    have := hts6.fr _ hm
    rw [upd_same] at this
    cases this
  have nWB : W ∉ Bs.flatten := fun hm => by
    have := hts6.fr _ hm
    rw [upd_ne nWD, hW1] at this
    cases this
  have mB : ∀ b ∈ Bs.flatten, b ∈ AL := fun b hb => by rw [← hAL]; exact List.mem_cons_of_mem _ (List.mem_cons_of_mem _ hb)
  have mW : W ∈ AL := by rw [← hAL]; simp
  have mD : D ∈ AL := by rw [← hAL]; simp
  have nT : ∀ b ∈ AL, NotT H4 b := ntl lAL
  refine ⟨_, rfl, D, rfl, ⟨_, SqL.of hD6⟩, for_it (walk_list (xs := ts)) (fun i σ H' => ∃ (y5 : Option V), σ = [some (.ref a), some (.int f), some (.ref W), y5, some (.ref D), some (.ref x)] ∧ FrB (Bs.take i).flatten H4 H') ⟨_, rfl, FrB.of (Same.refl _)⟩ (fun i σ H' _ h' => ?_) ?_ ?_⟩
  · obtain ⟨_, _, f⟩ := h'
    exact SqL.of (f _ _ (fun hm => nDB (sub_take hm)) hD6)
  · rintro i y σ J1 J2 hi ⟨y5, rfl, f1⟩ ⟨rfl, hy⟩
    have hi' : i < ts.length := hi
    have l1 := hts6.lt
    have l2 := hts6.lb
    obtain ⟨p, ep⟩ : ∃ p, g.ps[i]? = some p := ⟨_, List.getElem?_eq_getElem (by omega)⟩
    obtain ⟨B, eB⟩ : ∃ B, Bs[i]? = some B := ⟨_, List.getElem?_eq_getElem (by omega)⟩
    have mp := List.mem_of_getElem? ep
    obtain ⟨nB, dB⟩ := flat_take_disj hts6.nd eB
    have subB : ∀ b ∈ B, b ∈ Bs.flatten := fun b hb => List.mem_flatten.mpr ⟨B, List.mem_of_getElem? eB, hb⟩
    have hp2 := (hts6.it i y p B hy ep eB).fr (fun b hb => nT b (mB b (sub_take hb))) f1 dB
    obtain ⟨t, l1', l2', l3', x1, x2, x3, A', rfl, ht, rfl, al1, al2, al3, d1, d2, d3⟩ := hp2
    obtain ⟨n1, n2, n3⟩ : l1' ∉ l2' :: l3' :: A' ∧ l2' ∉ l3' :: A' ∧ (l3' :: A').Nodup := ⟨(List.nodup_cons.mp nB).1, (List.nodup_cons.mp (List.nodup_cons.mp nB).2).1, (List.nodup_cons.mp (List.nodup_cons.mp nB).2).2⟩
    have lx1 : x1.length ≤ 3 := by have := dpa_len d1; rw [List.length_map] at this; have := ho.p3 p mp; omega
    refine ⟨_, rfl, t, _, _, _, rfl, rfl, ht, atI_nat (j := 3) rfl, l3', x3, A', g, p, p.bd, 1, rfl, al3, d3, n3, hd_of ho mp, gs_bd ho mp, by have := sum_split (fun p => cntB p.bd) ep; have := ho.sn; omega, by omega, by omega, fun J3 f3 => ?_⟩
    have nt3 : ∀ b ∈ l3' :: A', NotT J2 b := fun b hb => by
      rcases List.mem_cons.mp hb with rfl | hb
      · exact nt_lst al3
      · obtain ⟨zs, ez⟩ := d3.dom _ b hb
        exact nt_lst ez
    have ht3 := seqT_B nt3 f3 ht
    have al13 := f3 _ _ (fun hm => n1 (List.mem_cons_of_mem _ hm)) al1
    have al23 := f3 _ _ n2 al2
    refine ⟨_, rfl, t, _, _, _, rfl, rfl, ht3, atI_nat (j := 1) rfl, .inl ⟨rfl, _, SqL.of al13⟩, by show 2 ≤ sizeLine; decide, fun tn ntn => ?_⟩
    have e4 := same_new (o := .tup [.str "spoilt", .int 2]) ntn
    refine ⟨l1', x1, _, rfl, rfl, e4 _ _ al13, small1000 (by omega), ?_⟩
    have n12 : l2' ≠ l1' := fun z => n1 (by rw [← z]; exact List.mem_cons_self)
    have ht5 := seqT_mut (o := .lst (x1 ++ [.ref tn])) (e4 _ _ al13) (seqT_same e4 ht3)
    have al25 := (upd_ne n12 (H := upd J3 tn (.tup [.str "spoilt", .int 2])) (o := .lst (x1 ++ [.ref tn]))).trans (e4 _ _ al23)
    refine ⟨_, rfl, t, _, _, _, rfl, rfl, ht5, atI_nat (j := 2) rfl, .inl ⟨rfl, _, SqL.of al25⟩, l2', x2, rfl, rfl, al25, ?_⟩
    refine ⟨_, rfl, ?_⟩
    have sT : ∀ b, b ∈ (Bs.take i).flatten ∨ b ∈ l1' :: l2' :: l3' :: A' → b ∈ (Bs.take (i + 1)).flatten := fun b hb => by
      rw [take_succ_at eB, List.flatten_append]
      rcases hb with hb | hb
      · exact List.mem_append_left _ hb
      · exact List.mem_append_right _ (by simpa using hb)
    exact (f1.sub fun b hb => sT b (.inl hb)).trans ((f3.sub fun b hb => sT b (.inr (by simp at hb ⊢; rcases hb with h | h <;> simp [h]))).trans ((FrB.of e4).trans ((FrB.upd (sT _ (.inr (by simp)))).trans (FrB.upd (sT _ (.inr (by simp)))))))
  · rintro σ J1 ⟨y5, rfl, f1⟩
    have fA : FrB AL H4 J1 := f1.sub fun b hb => mB b (sub_take hb)
    have hWJ := f1 _ _ (fun hm => nWB (sub_take hm)) hW6
    have hDJ := f1 _ _ (fun hm => nDB (sub_take hm)) hD6
    refine ⟨_, rfl, .inl ⟨rfl, _, SqL.of hWJ⟩, by show 2 ≤ sizeLine; decide, fun tn ntn => ?_⟩
    have e4 := same_new (o := .tup [.str "spoilt", .int 2]) ntn
    refine ⟨W, xs2, _, rfl, rfl, e4 _ _ hWJ, small1000 (by omega), ?_⟩
    have hDJ2 := (upd_ne nWD.symm (H := upd J1 tn (.tup [.str "spoilt", .int 2])) (o := .lst (xs2 ++ [.ref tn]))).trans (e4 _ _ hDJ)
    refine ⟨_, rfl, .inl ⟨rfl, _, SqL.of hDJ2⟩, D, ts, rfl, rfl, hDJ2, ?_⟩
    have fE : FrB AL H4 (upd (upd (upd J1 tn (.tup [.str "spoilt", .int 2])) W (.lst (xs2 ++ [.ref tn]))) D (.lst ts.reverse)) := fA.trans ((FrB.of e4).trans ((FrB.upd mW).trans (FrB.upd mD)))
    generalize upd (upd (upd J1 tn (.tup [.str "spoilt", .int 2])) W (.lst (xs2 ++ [.ref tn]))) D (.lst ts.reverse) = J2 at fE ⊢
    have sE : Same H J2 := fun b o e => fE b o (fun hm => by rw [fAL b hm] at e; cases e) (s16 _ _ e)
    have cE := hc6.B ho nT fE (hc6.not_lst lAL)
    exact ⟨_, rfl, q x J2 sE cE⟩


end
end Pf

namespace Pf
open PySem PySem.Spec PyProof.Rows L2
section
variable {P : Program} {w : World} {K : PySem.W.Frag} {mg : Str → Option Value} {base : Heap}
variable {c : Nat → Addr}
/-! ### parts and the program made of them -/
def Mad (K : PySem.W.Frag) (C : Addr) (H : Hp) (v : V) (p : Addr) (g : Pg) : Prop := g.Ok ∧ Dp K H v g.d ∧ PgAt K C H p g
theorem tup_more : ∀ {n : Nat} {d : PyData} (k : Nat), tupOk n d → tupOk (n + k) d
  | _, _, 0, h => h
  | n, .none, k + 1, h => by simp [tupOk]
  | n, .bool _, k + 1, h => by simp [tupOk]
  | n, .int _, k + 1, h => by simp [tupOk]
  | n, .str _, k + 1, h => by simp [tupOk]
  | 0, .tuple _, k + 1, h => h.elim
  | n + 1, .tuple ds, k + 1, h => by
    rw [show n + 1 + (k + 1) = (n + (k + 1)) + 1 by omega]
    exact ⟨h.1, fun d hd => tup_more (k + 1) (h.2 d hd)⟩
  | 0, .list _, k + 1, h => h.elim
  | n + 1, .list _, k + 1, h => h.elim
  | 0, .dict _, k + 1, h => h.elim
  | n + 1, .dict _, k + 1, h => h.elim
theorem tup_to {n m : Nat} {d : PyData} (h : tupOk n d) (l : n ≤ m) : tupOk m d := by
  obtain ⟨k, rfl⟩ := Nat.exists_eq_add_of_le l
  exact tup_more k h
theorem Mad.same {K : PySem.W.Frag} {C : Addr} {H H' : Hp} {v : V} {p : Addr} {g : Pg} (e : Same H H') (h : Mad K C H v p g) : Mad K C H' v p g := ⟨h.1, dp_same e h.2.1, h.2.2.same e⟩
theorem Mad.B {K : PySem.W.Frag} {C : Addr} {H H' : Hp} {B : List Addr} {v : V} {p : Addr} {g : Pg} (hB : ∀ b ∈ B, ∃ zs, H b = some (.lst zs)) (f : FrB B H H') (h : Mad K C H v p g) : Mad K C H' v p g := ⟨h.1, dp_B (ntl hB) f 22 (tup_pg h.1) h.2.1, h.2.2.B h.1 (ntl hB) f (h.2.2.not_lst hB)⟩
theorem Mad.mut {K : PySem.W.Frag} {C D : Addr} {H : Hp} {v : V} {p : Addr} {g : Pg} {zs : List V} {o : HO} (e : H D = some (.lst zs)) (h : Mad K C H v p g) : Mad K C (upd H D o) v p g := h.B (B := [D]) (fun b hb => by rw [List.mem_singleton.mp hb]; exact ⟨_, e⟩) (FrB.upd List.mem_cons_self)
theorem fr_B {r : Addr} {H H' : Hp} (f : Fr r H H') : FrB [r] H H' := fun b o n h => f b o (fun z => n (by rw [z]; exact List.mem_cons_self)) h
theorem Mad.f1 {K : PySem.W.Frag} {C : Addr} {H H' : Hp} {r : Addr} {v : V} {p : Addr} {g : Pg} (R : RD H r) (f : Fr r H H') (h : Mad K C H v p g) : Mad K C H' v p g := h.B (B := [r]) (fun b hb => by rw [List.mem_singleton.mp hb]; obtain ⟨_, _, _, R⟩ := R; exact ⟨_, R⟩) (fr_B f)
theorem PgAt.hd {K : PySem.W.Frag} {C : Addr} {H : Hp} {p : Addr} {g : Pg} (h : PgAt K C H p g) {m : Str} (no : m ∉ (["_points", "places", "_sights", "_sizes", "_names", "procedures", "variables", "answers", "letters"] : List Str)) : ∃ dx fs, H p = some (.ins C dx fs) ∧ fs.lookup m = none := by
  obtain ⟨dx, v, x, n, z, s, pl, pt, hp, _⟩ := h
  exact ⟨dx, _, hp, pf9_no no⟩
theorem dp_f1R {K : PySem.W.Frag} {H H' : Hp} {r : Addr} {v : V} {g : Pg} (ho : g.Ok) (R : RD H r) (f : Fr r H H') (h : Dp K H v g.d) : Dp K H' v g.d := dp_B (ntl (B := [r]) fun b hb => by rw [List.mem_singleton.mp hb]; obtain ⟨_, _, _, R⟩ := R; exact ⟨_, R⟩) (fr_B f) 22 (tup_pg ho) h

/-- lists that are none of the dict's change -/
theorem MdNe.keep {K : PySem.W.Frag} {H H' : Hp} {g : Pg} {m : MdA} {pl : List PyData} {rws : List (List PyData)} {B : List Addr} (h : MdNe K H g m pl rws) (hB : ∀ b ∈ B, ∃ zs, H b = some (.lst zs)) (f : FrB B H H') (n : ∀ b ∈ B, b ∉ m.gr ∧ b ∉ m.st) : MdNe K H' g m pl rws := by
  have nt := ntl hB
  have kg : ∀ a o, a ∈ m.gr → H a = some o → H' a = some o := fun a o ha e => f a o (fun hb => (n a hb).1 ha) e
  have k : ∀ a o, a ∈ m.st → H a = some o → H' a = some o := fun a o ha e => f a o (fun hb => (n a hb).2 ha) e
  have i6 : ∀ a, a ∈ [m.d, m.aC, m.aN, m.aS, m.aA, m.aR] → a ∈ m.st := fun a ha => List.mem_append_left _ ha
  obtain ⟨kvs, e0, e1⟩ := h.h0
  have mN : ∀ a ∈ m.ns, a ∈ m.st := fun a ha => List.mem_append_right _ (List.mem_append_left _ ha)
  have mS : ∀ a ∈ m.ss, a ∈ m.st := fun a ha => List.mem_append_right _ (List.mem_append_right _ (List.mem_append_left _ ha))
  have mA : ∀ a ∈ m.ps, a ∈ m.st := fun a ha => List.mem_append_right _ (List.mem_append_right _ (List.mem_append_right _ ha))
  obtain ⟨zp, p1, p2⟩ := h.hP
  refine ⟨⟨kvs, k _ _ (i6 _ (by simp)) e0, e1⟩, ⟨zp, kg _ _ List.mem_cons_self p1, dpa_B nt f 7 h.tP p2⟩, k _ _ (i6 _ (by simp)) h.hC, k _ _ (i6 _ (by simp)) h.hN, ⟨h.hn.1, fun i a p e1 e2 => k _ _ (mN _ (List.mem_of_getElem? e1)) (h.hn.2 i a p e1 e2)⟩, k _ _ (i6 _ (by simp)) h.hS, ⟨h.hs.1, fun i a p e1 e2 => k _ _ (mS _ (List.mem_of_getElem? e1)) (h.hs.2 i a p e1 e2)⟩, k _ _ (i6 _ (by simp)) h.hA, ⟨h.ha.1, fun i a p e1 e2 => k _ _ (mA _ (List.mem_of_getElem? e1)) (h.ha.2 i a p e1 e2)⟩, k _ _ (i6 _ (by simp)) h.hR, ⟨h.hr.1, fun i a q e1 e2 => ?_⟩, h.nd, h.ap, h.tP, h.tR⟩
  obtain ⟨zq, q1, q2⟩ := h.hr.2 i a q e1 e2
  exact ⟨zq, kg _ _ (List.mem_cons_of_mem _ (List.mem_of_getElem? e1)) q1, dpa_B nt f 2 (h.tR q (List.mem_of_getElem? e2)) q2⟩
/-- a program's model and the program -/
structure MdP (K : PySem.W.Frag) (C : Addr) (H : Hp) (m : MdA) (p : Addr) (g : Pg) : Prop where
  ho : g.Ok
  hm : MdNe K H g m (plcG g 0 g.ps) (ptL g 0 g.ps)
  hc : PgAt K C H p g
theorem MdP.same {K : PySem.W.Frag} {C : Addr} {H H' : Hp} {m : MdA} {p : Addr} {g : Pg} (h : MdP K C H m p g) (e : Same H H') : MdP K C H' m p g := ⟨h.ho, h.hm.same e, h.hc.same e⟩
theorem MdP.keep {K : PySem.W.Frag} {C : Addr} {H H' : Hp} {m : MdA} {p : Addr} {g : Pg} {B : List Addr} (h : MdP K C H m p g) (hB : ∀ b ∈ B, ∃ zs, H b = some (.lst zs)) (f : FrB B H H') (n : ∀ b ∈ B, b ∉ m.gr ∧ b ∉ m.st) : MdP K C H' m p g := ⟨h.ho, h.hm.keep hB f n, h.hc.B h.ho (ntl hB) f (h.hc.not_lst hB)⟩


end
end Pf

namespace Pf
open PySem PySem.Spec PyProof.Rows L2
section
variable {P : Program} {w : World} {K : PySem.W.Frag} {mg : Str → Option Value} {base : Heap}
variable {c : Nat → Addr}
def sp_points (K : PySem.W.Frag) (C : Addr) : Sp := fun us H Q _ => ∃ (p : Addr) (g : Pg) (k : Nat) (w : List PyData), us = [.ref p, .int (k : Int)] ∧ PgAt K C H p g ∧ (ptL g 0 g.ps)[k]? = some w ∧ ∀ v, Dp K H v (.tuple w) → Q v H
theorem ok_Program_points (T : Txt P K mg c) : HasM P w K mg base 1 (c 56) "points" ["self", "procedure"] (sp_points K (c id_Program)) := by
  obtain ⟨f, fd, F, m, b⟩ := T.d_Program_points
  refine ⟨f, fd, F.ok sc_Program_points (fun vs H Q E h => ?_) (fun cdv A outer s H vs Q E hr h => ?_), m, b⟩
  · obtain ⟨p, g, k, pw, rfl, hc, hk, q⟩ := h
    rfl
  obtain ⟨p, g, k, pw, rfl, hc, hk, q⟩ := h
  refine ⟨_, (pss_one (ps_ret (pe_ix ix_tup (pe_fld (pv 0) rfl) (pv 1) (fun _ _ => rfl)))), ?_⟩
  obtain ⟨dx, v, x, n, z, s, pl, pt, hp, hf⟩ := hc
  have h := hf.pt
  unfold pointsD at h
  rw [← ptL_d] at h
  obtain ⟨a, ys, y, rfl, hq, hy, hd⟩ := dp_row h hk
  exact ⟨_, rfl, p, _, dx, _, _, rfl, hp, T.cl_Program, T.n_Program__points, pf9_pt, _, rfl, a, ys, _, _, rfl, rfl, hq, hy, q _ hd⟩


end
end Pf

namespace Pf
open PySem PySem.Spec PyProof.Rows L2
section
variable {P : Program} {w : World} {K : PySem.W.Frag} {mg : Str → Option Value} {base : Heap}
variable {c : Nat → Addr}
def sp_law (K : PySem.W.Frag) : Sp := fun vs H Q _ => ∃ (a : Addr) (ns : List Int), vs = [.ref a] ∧ SqL K H a (ns.map V.int) ∧ ns.length ≤ 63 ∧ ∀ H', Q (.bl true) H'
theorem ok_law {f : Addr} {fd : FuncData} (T : Txt P K mg c) (F : Fun K "law" "law" s_law f fd) : FnOk P w K mg base CX0 33 f fd ["script"] (sp_law K) := by
  obtain ⟨f__law_reader, fd__law_reader, G__law_reader, m__law_reader, k__law_reader, b__law_reader⟩ := ok__law_reader (P := P) (w := w) (base := base) T
  obtain ⟨f__law_cell, fd__law_cell, G__law_cell, m__law_cell, k__law_cell, b__law_cell⟩ := ok__law_cell (P := P) (w := w) (base := base) T
  obtain ⟨f__law_rich, fd__law_rich, G__law_rich, m__law_rich, k__law_rich, b__law_rich⟩ := ok__law_rich (P := P) (w := w) (base := base) T
  obtain ⟨f__law_model, fd__law_model, G__law_model, m__law_model, k__law_model, b__law_model⟩ := ok__law_model (P := P) (w := w) (base := base) T
  obtain ⟨f__law_made, fd__law_made, G__law_made, m__law_made, k__law_made, b__law_made⟩ := ok__law_made (P := P) (w := w) (base := base) T
  obtain ⟨f__law_next, fd__law_next, G__law_next, m__law_next, k__law_next, b__law_next⟩ := ok__law_next (P := P) (w := w) (base := base) T
  obtain ⟨f__law_same, fd__law_same, G__law_same, m__law_same, k__law_same, b__law_same⟩ := ok__law_same (P := P) (w := w) (base := base) T 5
  obtain ⟨f_Program_points, fd_Program_points, G_Program_points, M_Program_points, b_Program_points⟩ := ok_Program_points (P := P) (w := w) (base := base) T
  refine F.ok sc_law (fun vs H Q E h => ?_) (fun cdv A outer s H vs Q E hr h => ?_)
  · obtain ⟨sc, ns, rfl, hS, hl, q⟩ := h
    rfl
  obtain ⟨sc, ns, rfl, hS, hl, q⟩ := h
  refine ⟨_, (pss_cons (ps_set (i := 1) sc_law.nd rfl (.inl rfl) (pe_lst pa_nil))
      (pss_cons (ps_set (i := 2) sc_law.nd rfl (.inl rfl) (pe_lst pa_nil))
      (pss_cons (ps_for PassesOwn.never rfl (pi_range1 (by rfl) T.z_range (pa_cons pe_int pa_nil)) (pg_name (i := 3) sc_law.nd rfl (.inl rfl))
      (pss_cons (ps_set (i := 4) sc_law.nd rfl (.inl rfl) (pe_call G__law_reader (hr.mono (by decide)) (by rfl) m__law_reader k__law_reader b__law_reader .nil pass0 (pa_cons (pe_call G__law_cell (hr.mono (by decide)) (by rfl) m__law_cell k__law_cell b__law_cell .nil pass0 (pa_cons (pv 0) (pa_cons (pv 3) pa_nil))) pa_nil)))
        (pss_cons (ps_set (i := 5) sc_law.nd rfl (.inl rfl) (pe_call G__law_rich (hr.mono (by decide)) (by rfl) m__law_rich k__law_rich b__law_rich .nil pass0 (pa_cons (pv 4) (pa_cons pe_int (pa_cons pe_int pa_nil)))))
        (pss_cons (ps_expr (pe_bm PySem.F.plainAttrs_list PySem.F.slot_list_append PySem.F.type_list_append mt_append (pv 1) (pa_cons (pe_call G__law_model (hr.mono (by decide)) (by rfl) m__law_model k__law_model b__law_model .nil pass0 (pa_cons (pv 5) pa_nil)) pa_nil)))
        (pss_one (ps_expr (pe_bm PySem.F.plainAttrs_list PySem.F.slot_list_append PySem.F.type_list_append mt_append (pv 2) (pa_cons (pe_call G__law_made (hr.mono (by decide)) (by rfl) m__law_made k__law_made b__law_made .nil pass0 (pa_cons (pv 5) (pa_cons (pe_call G__law_next (hr.mono (by decide)) (by rfl) m__law_next k__law_next b__law_next .nil pass0 (pa_cons (pv 4) (pa_cons pe_int pa_nil))) pa_nil))) pa_nil))))))))
      (pss_cons (ps_for PassesOwn.never rfl (pi_list (pe_lst (pa_cons pe_int (pa_cons pe_int (pa_cons pe_int pa_nil))))) (pg_name (i := 3) sc_law.nd rfl (.inl rfl))
      (pss_cons (ps_set (i := 6) sc_law.nd rfl (.inl rfl) (pe_dget (dun hr) (pe_ix ix_list (pv 1) (pv 3) (fun _ _ => rfl)) pe_str (fun _ _ => rfl)))
        (pss_one (ps_for PassesOwn.never rfl (pi_range1 (by rfl) T.z_range (pa_cons (pe_callB call_len_seq (by rfl) T.z_len (by decide +kernel) (pa_cons (pv 6) pa_nil)) pa_nil)) (pg_name (i := 7) sc_law.nd rfl (.inl rfl))
        (pss_one (ps_if (pt_not (pt_val (pe_call G__law_same (hr.mono (by decide)) (by rfl) m__law_same k__law_same b__law_same .nil pass0 (pa_cons (pe_meth (pe_ix ix_list (pv 2) (pv 3) (fun _ _ => rfl)) T.cl_Program M_Program_points G_Program_points (hr.mono (by decide)) b_Program_points .nil pass0 (pa_cons (pv 7) pa_nil)) (pa_cons (pe_callTy call_tuple_of (by rfl) T.z_tuple (by decide +kernel) (pa_cons (pe_ix ix_list (pv 6) (pv 7) (fun _ _ => rfl)) pa_nil)) pa_nil)))))
          (pss_one (ps_ret pe_bl))
          pss_nil))))))
      (pss_one (ps_ret pe_bl)))))), ?_⟩
  refine ⟨by show 0 ≤ sizeLine; decide, fun S nS => ⟨by show 0 ≤ sizeLine; decide, fun D nD => ?_⟩⟩
  have eS := same_new (o := .lst []) nS
  have eD := same_new (o := .lst []) nD
  have hS1 : (upd (upd H S (.lst [])) D (.lst [])) S = some (.lst []) := eD _ _ upd_same
  have hD1 := upd_same (H := upd H S (.lst [])) (a := D) (o := .lst [])
  have nSD : S ≠ D := ne_of_none (upd_same (H := H) (a := S) (o := .lst [])) nD
  have nDH : H D = none := same_back eS nD
  have s1 := eS.trans eD
  generalize upd (upd H S (.lst [])) D (.lst []) = H1 at hS1 hD1 s1 ⊢
  refine ⟨2, rfl, by decide, by decide, ?_⟩
  refine for_range (fun i σ H' => ∃ (y3 y4 y5 y6 y7 : Option V) (ms : List MdA) (ps : List Addr), σ = [some (.ref sc), some (.ref S), some (.ref D), y3, y4, y5, y6, y7] ∧ Same H H' ∧ H' S = some (.lst (ms.map fun m => .ref m.d)) ∧ H' D = some (.lst (ps.map V.ref)) ∧ ms.length = i ∧ ps.length = i ∧ ∀ (j : Nat) (m : MdA) (p : Addr), ms[j]? = some m → ps[j]? = some p → (∀ b ∈ [S, D], b ∉ m.gr ∧ b ∉ m.st) ∧ ∃ g, MdP K (c id_Program) H' m p g)
    ⟨_, _, _, _, _, [], [], rfl, s1, hS1, hD1, rfl, rfl, fun j v p h => by simp at h⟩ ?_ ?_
  · rintro i σ H2 hi ⟨y3, y4, y5, y6, y7, ms, ps, rfl, s2, hS2, hD2, lv, lp, hm⟩
    have i2 : i < 2 := hi
    have gi : (0 : Int) + (i : Int) = (i : Int) := Int.zero_add _
    refine ⟨_, rfl, _, rfl, sc, ns, i, congrArg (fun z => [V.ref sc, V.int z]) gi, s2.seq hS, fun cl => ?_⟩
    refine ⟨cl, rfl, fun r H3 nr e3 R3 => ?_⟩
    have nSr : S ≠ r := ne_of_none hS2 nr
    have nDr : D ≠ r := ne_of_none hD2 nr
    refine ⟨_, rfl, r, 60, 64, rfl, R3, by decide, by decide, by decide, by decide, fun v g H4 f4 R4 ho d4 => ?_⟩
    have f34 := f4
    have d4' := d4
    have hS4 := f4 _ _ nSr (e3 _ _ hS2)
    have hD4 := f4 _ _ nDr (e3 _ _ hD2)
    have lr : ∀ b ∈ [r], ∃ zs, H3 b = some (.lst zs) := fun b hb => by rw [List.mem_singleton.mp hb]; obtain ⟨_, _, _, R⟩ := R3; exact ⟨_, R⟩
    have up3 : ∀ {m p g}, MdP K (c id_Program) H2 m p g → MdP K (c id_Program) H4 m p g := fun h => by
      refine (h.same e3).keep lr (fr_B f4) fun b hb => ?_
      rw [List.mem_singleton.mp hb]
      exact h.hm.dom nr
    have s24 := f4.back e3 nr
    -- models.append
    refine ⟨_, rfl, .inl ⟨rfl, _, SqL.of hS4⟩, _, rfl, v, g, rfl, d4, ho, fun m H5 s5 nm hmd => ?_⟩
    have hS5 := s5 _ _ hS4
    have hD5 := s5 _ _ hD4
    have apS : ∀ b ∈ [S, D], b ∉ m.gr ∧ b ∉ m.st := fun b hb => by
      have : ∃ o, H4 b = some o := by
        rcases List.mem_cons.mp hb with rfl | hb
        · exact ⟨_, hS4⟩
        · rw [List.mem_singleton.mp hb]; exact ⟨_, hD4⟩
      obtain ⟨o, eo⟩ := this
      refine ⟨fun hg => ?_, fun hs => ?_⟩
      · rw [nm b (.inl hg)] at eo; cases eo
      · rw [nm b (.inr hs)] at eo; cases eo
    have apr : r ∉ m.gr ∧ r ∉ m.st := by
      obtain ⟨_, _, _, R⟩ := R4
      refine ⟨fun hg => ?_, fun hs => ?_⟩
      · rw [nm r (.inl hg)] at R; cases R
      · rw [nm r (.inr hs)] at R; cases R
    refine ⟨S, _, _, rfl, rfl, hS5, small1000 (by rw [List.length_map]; omega), ?_⟩
    have mS : ∀ b ∈ [S], ∃ zs, H5 b = some (.lst zs) := fun b hb => by rw [List.mem_singleton.mp hb]; exact ⟨_, hS5⟩
    have f6 : FrB [S] H5 (upd H5 S (.lst (ms.map (fun m => .ref m.d) ++ [.ref m.d]))) := FrB.upd List.mem_cons_self
    have hS6 := upd_same (H := H5) (a := S) (o := .lst (ms.map (fun m => .ref m.d) ++ [.ref m.d]))
    have hD6 := (upd_ne nSD.symm (H := H5) (o := .lst (ms.map (fun m => .ref m.d) ++ [.ref m.d]))).trans hD5
    have s06 := same_mut (o := .lst (ms.map (fun m => .ref m.d) ++ [.ref m.d])) (s2.trans (s24.trans s5)) nS
    have d6 := dp_B (ntl mS) f6 22 (tup_pg ho) (dp_same s5 d4)
    have hmd6 := hmd.keep mS f6 fun b hb => apS b (by rw [List.mem_singleton.mp hb]; simp)
    have R6 : RD (upd H5 S (.lst (ms.map (fun m => .ref m.d) ++ [.ref m.d]))) r := by
      obtain ⟨x, y, z, R⟩ := R4.of s5
      exact ⟨x, y, z, (upd_ne nSr.symm).trans R⟩
    have old6 : ∀ (j : Nat) (n : MdA) (p : Addr), ms[j]? = some n → ps[j]? = some p → (∀ b ∈ [S, D], b ∉ n.gr ∧ b ∉ n.st) ∧ (r ∉ n.gr ∧ r ∉ n.st) ∧ ∃ g, MdP K (c id_Program) (upd H5 S (.lst (ms.map (fun m => .ref m.d) ++ [.ref m.d]))) n p g := fun j m' p' a b => by
      obtain ⟨h1, g', h2⟩ := hm j m' p' a b
      exact ⟨h1, h2.hm.dom nr, g', ((up3 h2).same s5).keep mS f6 fun b hb => h1 b (by rw [List.mem_singleton.mp hb]; simp)⟩
    generalize upd H5 S (.lst (ms.map (fun m => .ref m.d) ++ [.ref m.d])) = H6 at f6 hS6 hD6 s06 d6 hmd6 R6 old6 ⊢
    -- programs.append
    refine ⟨_, rfl, .inl ⟨rfl, _, SqL.of hD6⟩, _, rfl, _, rfl, r, 3, rfl, R6, by decide, by decide, fun z H7 f7 R7 z0 z1 => ?_⟩
    have lr6 : ∀ b ∈ [r], ∃ zs, H6 b = some (.lst zs) := fun b hb => by rw [List.mem_singleton.mp hb]; obtain ⟨_, _, _, R⟩ := R6; exact ⟨_, R⟩
    refine ⟨v, z, g, rfl, dp_f1R ho R6 f7 d6, ho, fun p H8 s8 hc => ?_⟩
    have hS8 := s8 _ _ (f7 _ _ nSr hS6)
    have hD8 := s8 _ _ (f7 _ _ nDr hD6)
    have s08 := (f7.back s06 (same_back s2 nr)).trans s8
    have lD8 : ∀ b ∈ [D], ∃ zs, H8 b = some (.lst zs) := fun b hb => by rw [List.mem_singleton.mp hb]; exact ⟨_, hD8⟩
    have f9 : FrB [D] H8 (upd H8 D (.lst (ps.map V.ref ++ [.ref p]))) := FrB.upd List.mem_cons_self
    have new9 : MdP K (c id_Program) (upd H8 D (.lst (ps.map V.ref ++ [.ref p]))) m p g := by
      have h7 := hmd6.keep lr6 (fr_B f7) fun b hb => by rw [List.mem_singleton.mp hb]; exact apr
      exact MdP.keep ⟨ho, h7.same s8, hc⟩ lD8 f9 fun b hb => apS b (by rw [List.mem_singleton.mp hb]; simp)
    have old9 : ∀ (j : Nat) (m : MdA) (p' : Addr), ms[j]? = some m → ps[j]? = some p' → (∀ b ∈ [S, D], b ∉ m.gr ∧ b ∉ m.st) ∧ ∃ g, MdP K (c id_Program) (upd H8 D (.lst (ps.map V.ref ++ [.ref p]))) m p' g := fun j m' p' a b => by
      obtain ⟨h1, h3, g', h2⟩ := old6 j m' p' a b
      exact ⟨h1, g', ((h2.keep lr6 (fr_B f7) fun b hb => by rw [List.mem_singleton.mp hb]; exact h3).same s8).keep lD8 f9 fun b hb => h1 b (by rw [List.mem_singleton.mp hb]; simp)⟩
    refine ⟨D, _, _, rfl, rfl, hD8, small1000 (by rw [List.length_map]; omega), ?_⟩
    refine ⟨_, _, _, _, _, ms ++ [m], ps ++ [p], rfl, same_mut s08 nDH, (upd_ne nSD).trans (by rw [hS8, List.map_append]; rfl), by rw [upd_same, List.map_append]; rfl, by rw [List.length_append, lv]; rfl, by rw [List.length_append, lp]; rfl, fun j m' p' a b => ?_⟩
    have hji : j < ms.length ∨ j = ms.length := by
      have := (List.getElem?_eq_some_iff.mp a).1
      rw [List.length_append] at this
      have h1 : [m].length = 1 := rfl
      omega
    rcases hji with hj | hj
    · rw [List.getElem?_append_left hj] at a
      rw [List.getElem?_append_left (by omega)] at b
      exact old9 j m' p' a b
    · subst hj
      rw [List.getElem?_append_right (Nat.le_refl _), Nat.sub_self] at a
      rw [lv, ← lp, List.getElem?_append_right (Nat.le_refl _), Nat.sub_self] at b
      cases a
      cases b
      exact ⟨apS, g, new9⟩
  · rintro σ H2 ⟨y3, y4, y5, y6, y7, ms, ps, rfl, s2, hS2, hD2, lv, lp, hm⟩
    obtain _ | ⟨v1, _ | ⟨v2, _ | ⟨v3, vs⟩⟩⟩ := ms
    · cases lv
    · cases lv
    case cons.cons.cons => simp at lv
    obtain _ | ⟨p1, _ | ⟨p2, _ | ⟨p3, ps⟩⟩⟩ := ps
    · cases lp
    · cases lp
    case cons.cons.cons => simp at lp
    refine ⟨by show 3 ≤ sizeLine; decide, fun L nL => ?_⟩
    have e3 := same_new (o := .lst [.int 0, .int 1, .int 0]) nL
    have hL := upd_same (H := H2) (a := L) (o := .lst [.int 0, .int 1, .int 0])
    have hS3 := e3 _ _ hS2
    have hD3 := e3 _ _ hD2
    have two : ∀ (i : Nat) (x : V), [V.int 0, .int 1, .int 0][i]? = some x → ∃ (j : Nat) (m : MdA) (p : Addr) (g : Pg), x = .int (j : Int) ∧ ([v1, v2].map fun m => V.ref m.d)[j]? = some (.ref m.d) ∧ ([p1, p2].map V.ref)[j]? = some (.ref p) ∧ MdP K (c id_Program) (upd H2 L (.lst [.int 0, .int 1, .int 0])) m p g := fun i x hx => by
      obtain ⟨_, g1, m1⟩ := hm 0 v1 p1 rfl rfl
      obtain ⟨_, g2, m2⟩ := hm 1 v2 p2 rfl rfl
      obtain _ | _ | _ | i := i
      · cases hx
        exact ⟨0, v1, p1, g1, rfl, rfl, rfl, m1.same e3⟩
      · cases hx
        exact ⟨1, v2, p2, g2, rfl, rfl, rfl, m2.same e3⟩
      · cases hx
        exact ⟨0, v1, p1, g1, rfl, rfl, rfl, m1.same e3⟩
      · simp at hx
    generalize upd H2 L (.lst [.int 0, .int 1, .int 0]) = H3 at hL hS3 hD3 e3 two ⊢
    refine ⟨L, rfl, ⟨_, SqL.of hL⟩, for_it (walk_list (a := L) (xs := [.int 0, .int 1, .int 0])) (fun i σ H' => ∃ (y3 y4 y5 y6 y7 : Option V), σ = [some (.ref sc), some (.ref S), some (.ref D), y3, y4, y5, y6, y7] ∧ Same H3 H') ⟨_, _, _, _, _, rfl, Same.refl _⟩ (fun i σ H' _ h' => ?_) ?_ ?_⟩
    · obtain ⟨_, _, _, _, _, _, h⟩ := h'
      exact SqL.of (h _ _ hL)
    · rintro i x σ H4 H5 hi ⟨y3, y4, y5, y6, y7, rfl, s4⟩ ⟨rfl, hx⟩
      obtain ⟨j, m, p, g, rfl, ev, ep, hmad⟩ := two i x hx
      have hmad := hmad.same s4
      obtain ⟨kvs, h0, kA, kP, kC, kN, kS, kQ, kR⟩ := hmad.hm.h0
      have o5 := hmad.ho.p5
      have lrs := hmad.hm.hr.1
      rw [ptL_len] at lrs
      refine ⟨_, rfl, _, rfl, S, _, _, _, rfl, rfl, SqL.of (s4 _ _ hS3), atI_nat ev, m.d, _, rfl, dg h0 kR, ?_⟩
      refine ⟨_, rfl, m.aR, _, rfl, .inl (SqL.of hmad.hm.hR), _, rfl, by rw [List.length_map]; omega, by rw [List.length_map]; omega, ?_⟩
      refine for_range (fun k σ H' => ∃ (y7 : Option V), σ = [some (.ref sc), some (.ref S), some (.ref D), some (.int (j : Int)), y4, y5, some (.ref m.aR), y7] ∧ Same H5 H') ⟨_, rfl, Same.refl _⟩ ?_ ?_
      · rintro k σ H6 hk ⟨y7, rfl, s6⟩
        have gk : (0 : Int) + (k : Int) = (k : Int) := Int.zero_add _
        have hkg : k < m.rs.length := by
          have : k < ((((m.rs.map V.ref).length : Nat) : Int)).toNat := hk
          rw [List.length_map] at this
          omega
        have h6 := hmad.same s6
        obtain ⟨a, ea⟩ : ∃ a, m.rs[k]? = some a := ⟨_, List.getElem?_eq_getElem hkg⟩
        obtain ⟨w, ew, zs, ez, hz⟩ := h6.hm.hr.at ea
        obtain ⟨dx, fs, hh, no⟩ := h6.hc.hd (m := "points") (by decide +kernel)
        refine ⟨_, rfl, _, rfl, D, _, _, .ref p, rfl, rfl, SqL.of ((s4.trans s6) _ _ hD3), atI_nat ep, p, dx, fs, rfl, hh, no, _, rfl, p, g, k, w, by rw [gk]; rfl, h6.hc, ew, fun v1' hv1 => ?_⟩
        have ha : atI (m.rs.map V.ref) (0 + (k : Int)) = some (.ref a) := by rw [gk]; exact ref_at ea
        refine ⟨_, rfl, _, rfl, m.aR, _, _, _, rfl, rfl, SqL.of h6.hm.hR, ha, a, zs, rfl, .inl ⟨SqL.of ez, fun l nl => ?_⟩⟩
        have e7 := same_new (o := .tup zs) nl
        have td : tupOk 3 (.tuple w) := by
          have := (tup_pt h6.ho).2
          unfold pointsD at this
          rw [← ptL_d] at this
          exact this.2 _ (List.mem_map_of_mem (List.mem_of_getElem? ew))
        exact ⟨v1', .ref l, .tuple w, rfl, dp_same e7 hv1, .tup (SqT.of upd_same) (dpa_same e7 hz), tup_to td (by omega), fun H8 s8 => ⟨_, rfl, iteF ⟨_, rfl, s6.trans (e7.trans s8)⟩⟩⟩
      · rintro σ H6 ⟨y7, rfl, s6⟩
        exact ⟨_, _, _, _, _, rfl, s4.trans s6⟩
    · rintro σ H4 ⟨y3, y4, y5, y6, y7, rfl, s4⟩
      exact q H4


end
end Pf

namespace Pf
open PySem PySem.Spec PyProof.Rows L2
theorem all_mk {l : PySem.W.OpenLaw} {w : World} {K : PySem.W.Frag} {h : Heap} {mg : Str → Option Value} {fa f0 f1 f2 f3 f4 f5 f6 f7 f8 f9 f10 f11 f12 f13 f14 f15 f16 f17 f18 f19 f20 f21 f22 f23 f24 f25 f26 f27 f28 f29 f30 f31 f32 f33 f34 f35 f36 f37 f38 f39 f40 f41 f42 f43 f44 f45 f46 f47 f48 f49 f50 f51 f52 f53 f54 f55 : Addr} {C2 C3 C4 C56 : Addr} (X : K.In h) (G : h.Ns mainGlobals mg) (hfa : mg "law" = some (.ref fa))
    {od0 an0 od1 an1 od2 an2 od3 an3 od4 an4 od5 an5 od6 an6 od7 an7 od8 an8 od9 an9 od10 an10 od11 an11 od12 an12 od13 an13 od14 an14 od15 an15 od16 an16 od17 an17 od18 an18 od19 an19 od20 an20 od21 an21 od22 an22 od23 an23 od24 an24 od25 an25 od26 an26 od27 an27 od28 an28 od29 an29 od30 an30 od31 an31 od32 an32 od33 an33 od34 an34 od35 an35 od36 an36 od37 an37 od38 an38 od39 an39 od40 an40 od41 an41 od42 an42 od43 an43 od44 an44 od45 an45 od46 an46 od47 an47 od48 an48 od49 an49 od50 an50 od51 an51 od52 an52 od53 an53 od54 an54 od55 an55 : Option Addr}
    {sl0 sl1 sl2 sl3 sl4 sl5 sl6 sl7 sl8 sl9 sl10 sl11 sl12 sl13 sl14 sl15 sl16 sl17 sl18 sl19 sl20 sl21 sl22 sl23 sl24 sl25 sl26 sl27 sl28 sl29 sl30 sl31 sl32 sl33 sl34 sl35 sl36 sl37 sl38 sl39 sl40 sl41 sl42 sl43 sl44 sl45 sl46 sl47 sl48 sl49 sl50 sl51 sl52 sl53 sl54 sl55 : Array (Option Value)} {oc0 kV0 dc0 pm0 cd0 ct0 oc1 kV1 dc1 pm1 cd1 ct1 oc2 kV2 dc2 pm2 cd2 ct2 oc3 kV3 dc3 pm3 cd3 ct3 oc4 kV4 dc4 pm4 cd4 ct4 oc5 kV5 dc5 pm5 cd5 ct5 oc6 kV6 dc6 pm6 cd6 ct6 oc7 kV7 dc7 pm7 cd7 ct7 oc8 kV8 dc8 pm8 cd8 ct8 oc9 kV9 dc9 pm9 cd9 ct9 oc10 kV10 dc10 pm10 cd10 ct10 oc11 kV11 dc11 pm11 cd11 ct11 oc12 kV12 dc12 pm12 cd12 ct12 oc13 kV13 dc13 pm13 cd13 ct13 oc14 kV14 dc14 pm14 cd14 ct14 oc15 kV15 dc15 pm15 cd15 ct15 oc16 kV16 dc16 pm16 cd16 ct16 oc17 kV17 dc17 pm17 cd17 ct17 oc18 kV18 dc18 pm18 cd18 ct18 oc19 kV19 dc19 pm19 cd19 ct19 oc20 kV20 dc20 pm20 cd20 ct20 oc21 kV21 dc21 pm21 cd21 ct21 oc22 kV22 dc22 pm22 cd22 ct22 oc23 kV23 dc23 pm23 cd23 ct23 oc24 kV24 dc24 pm24 cd24 ct24 oc25 kV25 dc25 pm25 cd25 ct25 oc26 kV26 dc26 pm26 cd26 ct26 oc27 kV27 dc27 pm27 cd27 ct27 oc28 kV28 dc28 pm28 cd28 ct28 oc29 kV29 dc29 pm29 cd29 ct29 oc30 kV30 dc30 pm30 cd30 ct30 oc31 kV31 dc31 pm31 cd31 ct31 oc32 kV32 dc32 pm32 cd32 ct32 oc33 kV33 dc33 pm33 cd33 ct33 oc34 kV34 dc34 pm34 cd34 ct34 oc35 kV35 dc35 pm35 cd35 ct35 oc36 kV36 dc36 pm36 cd36 ct36 oc37 kV37 dc37 pm37 cd37 ct37 oc38 kV38 dc38 pm38 cd38 ct38 oc39 kV39 dc39 pm39 cd39 ct39 oc40 kV40 dc40 pm40 cd40 ct40 oc41 kV41 dc41 pm41 cd41 ct41 oc42 kV42 dc42 pm42 cd42 ct42 oc43 kV43 dc43 pm43 cd43 ct43 oc44 kV44 dc44 pm44 cd44 ct44 oc45 kV45 dc45 pm45 cd45 ct45 oc46 kV46 dc46 pm46 cd46 ct46 oc47 kV47 dc47 pm47 cd47 ct47 oc48 kV48 dc48 pm48 cd48 ct48 oc49 kV49 dc49 pm49 cd49 ct49 oc50 kV50 dc50 pm50 cd50 ct50 oc51 kV51 dc51 pm51 cd51 ct51 oc52 kV52 dc52 pm52 cd52 ct52 oc53 kV53 dc53 pm53 cd53 ct53 oc54 kV54 dc54 pm54 cd54 ct54 oc55 kV55 dc55 pm55 cd55 ct55 : Value}
    (a0 : PySem.W.nsIn K mainGlobals "_wall" = some (some (.ref f0))) (l0 : K.lookup f0 = some ⟨oc0, od0, .func (PySem.W.fnOf "_wall" "_wall" (defArgs s__wall) (defBody s__wall) (defScope s__wall) .none kV0 dc0 pm0 an0 cd0 ct0), sl0⟩) (c0 : PySem.W.codeIn K cd0 "_wall" = true) (k0 : PySem.W.keepIn K (.ref f0) = true)
    (a1 : PySem.W.nsIn K mainGlobals "frozen" = some (some (.ref f1))) (l1 : K.lookup f1 = some ⟨oc1, od1, .func (PySem.W.fnOf "frozen" "frozen" (defArgs s_frozen) (defBody s_frozen) (defScope s_frozen) .none kV1 dc1 pm1 an1 cd1 ct1), sl1⟩) (c1 : PySem.W.codeIn K cd1 "frozen" = true) (k1 : PySem.W.keepIn K (.ref f1) = true)
    (a2 : PySem.W.nsIn K mainGlobals "product_of" = some (some (.ref f2))) (l2 : K.lookup f2 = some ⟨oc2, od2, .func (PySem.W.fnOf "product_of" "product_of" (defArgs s_product_of) (defBody s_product_of) (defScope s_product_of) .none kV2 dc2 pm2 an2 cd2 ct2), sl2⟩) (c2 : PySem.W.codeIn K cd2 "product_of" = true) (k2 : PySem.W.keepIn K (.ref f2) = true)
    (a3 : PySem.W.nsIn K mainGlobals "in_sight" = some (some (.ref f3))) (l3 : K.lookup f3 = some ⟨oc3, od3, .func (PySem.W.fnOf "in_sight" "in_sight" (defArgs s_in_sight) (defBody s_in_sight) (defScope s_in_sight) .none kV3 dc3 pm3 an3 cd3 ct3), sl3⟩) (c3 : PySem.W.codeIn K cd3 "in_sight" = true) (k3 : PySem.W.keepIn K (.ref f3) = true)
    (a4 : PySem.W.nsIn K mainGlobals "bodies_of" = some (some (.ref f4))) (l4 : K.lookup f4 = some ⟨oc4, od4, .func (PySem.W.fnOf "bodies_of" "bodies_of" (defArgs s_bodies_of) (defBody s_bodies_of) (defScope s_bodies_of) .none kV4 dc4 pm4 an4 cd4 ct4), sl4⟩) (c4 : PySem.W.codeIn K cd4 "bodies_of" = true) (k4 : PySem.W.keepIn K (.ref f4) = true)
    (a5 : PySem.W.nsIn K mainGlobals "expressions_of" = some (some (.ref f5))) (l5 : K.lookup f5 = some ⟨oc5, od5, .func (PySem.W.fnOf "expressions_of" "expressions_of" (defArgs s_expressions_of) (defBody s_expressions_of) (defScope s_expressions_of) .none kV5 dc5 pm5 an5 cd5 ct5), sl5⟩) (c5 : PySem.W.codeIn K cd5 "expressions_of" = true) (k5 : PySem.W.keepIn K (.ref f5) = true)
    (a6 : PySem.W.nsIn K mainGlobals "statements_of" = some (some (.ref f6))) (l6 : K.lookup f6 = some ⟨oc6, od6, .func (PySem.W.fnOf "statements_of" "statements_of" (defArgs s_statements_of) (defBody s_statements_of) (defScope s_statements_of) .none kV6 dc6 pm6 an6 cd6 ct6), sl6⟩) (c6 : PySem.W.codeIn K cd6 "statements_of" = true) (k6 : PySem.W.keepIn K (.ref f6) = true)
    (a7 : PySem.W.nsIn K mainGlobals "is_deeper" = some (some (.ref f7))) (l7 : K.lookup f7 = some ⟨oc7, od7, .func (PySem.W.fnOf "is_deeper" "is_deeper" (defArgs s_is_deeper) (defBody s_is_deeper) (defScope s_is_deeper) .none kV7 dc7 pm7 an7 cd7 ct7), sl7⟩) (c7 : PySem.W.codeIn K cd7 "is_deeper" = true) (k7 : PySem.W.keepIn K (.ref f7) = true)
    (a8 : PySem.W.nsIn K mainGlobals "leaves_of" = some (some (.ref f8))) (l8 : K.lookup f8 = some ⟨oc8, od8, .func (PySem.W.fnOf "leaves_of" "leaves_of" (defArgs s_leaves_of) (defBody s_leaves_of) (defScope s_leaves_of) .none kV8 dc8 pm8 an8 cd8 ct8), sl8⟩) (c8 : PySem.W.codeIn K cd8 "leaves_of" = true) (k8 : PySem.W.keepIn K (.ref f8) = true)
    (a9 : PySem.W.nsIn K mainGlobals "lay_out" = some (some (.ref f9))) (l9 : K.lookup f9 = some ⟨oc9, od9, .func (PySem.W.fnOf "lay_out" "lay_out" (defArgs s_lay_out) (defBody s_lay_out) (defScope s_lay_out) .none kV9 dc9 pm9 an9 cd9 ct9), sl9⟩) (c9 : PySem.W.codeIn K cd9 "lay_out" = true) (k9 : PySem.W.keepIn K (.ref f9) = true)
    (a10 : PySem.W.nsIn K mainGlobals "body_length" = some (some (.ref f10))) (l10 : K.lookup f10 = some ⟨oc10, od10, .func (PySem.W.fnOf "body_length" "body_length" (defArgs s_body_length) (defBody s_body_length) (defScope s_body_length) .none kV10 dc10 pm10 an10 cd10 ct10), sl10⟩) (c10 : PySem.W.codeIn K cd10 "body_length" = true) (k10 : PySem.W.keepIn K (.ref f10) = true)
    (a11 : PySem.W.nsIn K mainGlobals "body_ways" = some (some (.ref f11))) (l11 : K.lookup f11 = some ⟨oc11, od11, .func (PySem.W.fnOf "body_ways" "body_ways" (defArgs s_body_ways) (defBody s_body_ways) (defScope s_body_ways) .none kV11 dc11 pm11 an11 cd11 ct11), sl11⟩) (c11 : PySem.W.codeIn K cd11 "body_ways" = true) (k11 : PySem.W.keepIn K (.ref f11) = true)
    (a12 : PySem.W.nsIn K mainGlobals "statement_ways" = some (some (.ref f12))) (l12 : K.lookup f12 = some ⟨oc12, od12, .func (PySem.W.fnOf "statement_ways" "statement_ways" (defArgs s_statement_ways) (defBody s_statement_ways) (defScope s_statement_ways) .none kV12 dc12 pm12 an12 cd12 ct12), sl12⟩) (c12 : PySem.W.codeIn K cd12 "statement_ways" = true) (k12 : PySem.W.keepIn K (.ref f12) = true)
    (a13 : PySem.W.nsIn K mainGlobals "aims_of" = some (some (.ref f13))) (l13 : K.lookup f13 = some ⟨oc13, od13, .func (PySem.W.fnOf "aims_of" "aims_of" (defArgs s_aims_of) (defBody s_aims_of) (defScope s_aims_of) .none kV13 dc13 pm13 an13 cd13 ct13), sl13⟩) (c13 : PySem.W.codeIn K cd13 "aims_of" = true) (k13 : PySem.W.keepIn K (.ref f13) = true)
    (a14 : PySem.W.nsIn K mainGlobals "point_row" = some (some (.ref f14))) (l14 : K.lookup f14 = some ⟨oc14, od14, .func (PySem.W.fnOf "point_row" "point_row" (defArgs s_point_row) (defBody s_point_row) (defScope s_point_row) .none kV14 dc14 pm14 an14 cd14 ct14), sl14⟩) (c14 : PySem.W.codeIn K cd14 "point_row" = true) (k14 : PySem.W.keepIn K (.ref f14) = true)
    (a15 : PySem.W.nsIn K mainGlobals "slot_of" = some (some (.ref f15))) (l15 : K.lookup f15 = some ⟨oc15, od15, .func (PySem.W.fnOf "slot_of" "slot_of" (defArgs s_slot_of) (defBody s_slot_of) (defScope s_slot_of) .none kV15 dc15 pm15 an15 cd15 ct15), sl15⟩) (c15 : PySem.W.codeIn K cd15 "slot_of" = true) (k15 : PySem.W.keepIn K (.ref f15) = true)
    (a16 : PySem.W.nsIn K mainGlobals "letters_reason" = some (some (.ref f16))) (l16 : K.lookup f16 = some ⟨oc16, od16, .func (PySem.W.fnOf "letters_reason" "letters_reason" (defArgs s_letters_reason) (defBody s_letters_reason) (defScope s_letters_reason) .none kV16 dc16 pm16 an16 cd16 ct16), sl16⟩) (c16 : PySem.W.codeIn K cd16 "letters_reason" = true) (k16 : PySem.W.keepIn K (.ref f16) = true)
    (a17 : PySem.W.nsIn K mainGlobals "is_name" = some (some (.ref f17))) (l17 : K.lookup f17 = some ⟨oc17, od17, .func (PySem.W.fnOf "is_name" "is_name" (defArgs s_is_name) (defBody s_is_name) (defScope s_is_name) .none kV17 dc17 pm17 an17 cd17 ct17), sl17⟩) (c17 : PySem.W.codeIn K cd17 "is_name" = true) (k17 : PySem.W.keepIn K (.ref f17) = true)
    (a18 : PySem.W.nsIn K mainGlobals "first_reason" = some (some (.ref f18))) (l18 : K.lookup f18 = some ⟨oc18, od18, .func (PySem.W.fnOf "first_reason" "first_reason" (defArgs s_first_reason) (defBody s_first_reason) (defScope s_first_reason) .none kV18 dc18 pm18 an18 cd18 ct18), sl18⟩) (c18 : PySem.W.codeIn K cd18 "first_reason" = true) (k18 : PySem.W.keepIn K (.ref f18) = true)
    (a19 : PySem.W.nsIn K mainGlobals "count_reason" = some (some (.ref f19))) (l19 : K.lookup f19 = some ⟨oc19, od19, .func (PySem.W.fnOf "count_reason" "count_reason" (defArgs s_count_reason) (defBody s_count_reason) (defScope s_count_reason) .none kV19 dc19 pm19 an19 cd19 ct19), sl19⟩) (c19 : PySem.W.codeIn K cd19 "count_reason" = true) (k19 : PySem.W.keepIn K (.ref f19) = true)
    (a20 : PySem.W.nsIn K mainGlobals "has_many_variables" = some (some (.ref f20))) (l20 : K.lookup f20 = some ⟨oc20, od20, .func (PySem.W.fnOf "has_many_variables" "has_many_variables" (defArgs s_has_many_variables) (defBody s_has_many_variables) (defScope s_has_many_variables) .none kV20 dc20 pm20 an20 cd20 ct20), sl20⟩) (c20 : PySem.W.codeIn K cd20 "has_many_variables" = true) (k20 : PySem.W.keepIn K (.ref f20) = true)
    (a21 : PySem.W.nsIn K mainGlobals "declaration_reason" = some (some (.ref f21))) (l21 : K.lookup f21 = some ⟨oc21, od21, .func (PySem.W.fnOf "declaration_reason" "declaration_reason" (defArgs s_declaration_reason) (defBody s_declaration_reason) (defScope s_declaration_reason) .none kV21 dc21 pm21 an21 cd21 ct21), sl21⟩) (c21 : PySem.W.codeIn K cd21 "declaration_reason" = true) (k21 : PySem.W.keepIn K (.ref f21) = true)
    (a22 : PySem.W.nsIn K mainGlobals "shape_reason" = some (some (.ref f22))) (l22 : K.lookup f22 = some ⟨oc22, od22, .func (PySem.W.fnOf "shape_reason" "shape_reason" (defArgs s_shape_reason) (defBody s_shape_reason) (defScope s_shape_reason) .none kV22 dc22 pm22 an22 cd22 ct22), sl22⟩) (c22 : PySem.W.codeIn K cd22 "shape_reason" = true) (k22 : PySem.W.keepIn K (.ref f22) = true)
    (a23 : PySem.W.nsIn K mainGlobals "meaning_reason" = some (some (.ref f23))) (l23 : K.lookup f23 = some ⟨oc23, od23, .func (PySem.W.fnOf "meaning_reason" "meaning_reason" (defArgs s_meaning_reason) (defBody s_meaning_reason) (defScope s_meaning_reason) .none kV23 dc23 pm23 an23 cd23 ct23), sl23⟩) (c23 : PySem.W.codeIn K cd23 "meaning_reason" = true) (k23 : PySem.W.keepIn K (.ref f23) = true)
    (a24 : PySem.W.nsIn K mainGlobals "has_wrong_number" = some (some (.ref f24))) (l24 : K.lookup f24 = some ⟨oc24, od24, .func (PySem.W.fnOf "has_wrong_number" "has_wrong_number" (defArgs s_has_wrong_number) (defBody s_has_wrong_number) (defScope s_has_wrong_number) .none kV24 dc24 pm24 an24 cd24 ct24), sl24⟩) (c24 : PySem.W.codeIn K cd24 "has_wrong_number" = true) (k24 : PySem.W.keepIn K (.ref f24) = true)
    (a25 : PySem.W.nsIn K mainGlobals "has_unknown" = some (some (.ref f25))) (l25 : K.lookup f25 = some ⟨oc25, od25, .func (PySem.W.fnOf "has_unknown" "has_unknown" (defArgs s_has_unknown) (defBody s_has_unknown) (defScope s_has_unknown) .none kV25 dc25 pm25 an25 cd25 ct25), sl25⟩) (c25 : PySem.W.codeIn K cd25 "has_unknown" = true) (k25 : PySem.W.keepIn K (.ref f25) = true)
    (a26 : PySem.W.nsIn K mainGlobals "is_wrong_call" = some (some (.ref f26))) (l26 : K.lookup f26 = some ⟨oc26, od26, .func (PySem.W.fnOf "is_wrong_call" "is_wrong_call" (defArgs s_is_wrong_call) (defBody s_is_wrong_call) (defScope s_is_wrong_call) .none kV26 dc26 pm26 an26 cd26 ct26), sl26⟩) (c26 : PySem.W.codeIn K cd26 "is_wrong_call" = true) (k26 : PySem.W.keepIn K (.ref f26) = true)
    (a27 : PySem.W.nsIn K mainGlobals "sights_of" = some (some (.ref f27))) (l27 : K.lookup f27 = some ⟨oc27, od27, .func (PySem.W.fnOf "sights_of" "sights_of" (defArgs s_sights_of) (defBody s_sights_of) (defScope s_sights_of) .none kV27 dc27 pm27 an27 cd27 ct27), sl27⟩) (c27 : PySem.W.codeIn K cd27 "sights_of" = true) (k27 : PySem.W.keepIn K (.ref f27) = true)
    (a28 : PySem.W.nsIn K mainGlobals "_law_cell" = some (some (.ref f28))) (l28 : K.lookup f28 = some ⟨oc28, od28, .func (PySem.W.fnOf "_law_cell" "_law_cell" (defArgs s__law_cell) (defBody s__law_cell) (defScope s__law_cell) .none kV28 dc28 pm28 an28 cd28 ct28), sl28⟩) (c28 : PySem.W.codeIn K cd28 "_law_cell" = true) (k28 : PySem.W.keepIn K (.ref f28) = true)
    (a29 : PySem.W.nsIn K mainGlobals "_law_reader" = some (some (.ref f29))) (l29 : K.lookup f29 = some ⟨oc29, od29, .func (PySem.W.fnOf "_law_reader" "_law_reader" (defArgs s__law_reader) (defBody s__law_reader) (defScope s__law_reader) .none kV29 dc29 pm29 an29 cd29 ct29), sl29⟩) (c29 : PySem.W.codeIn K cd29 "_law_reader" = true) (k29 : PySem.W.keepIn K (.ref f29) = true)
    (a30 : PySem.W.nsIn K mainGlobals "_law_next" = some (some (.ref f30))) (l30 : K.lookup f30 = some ⟨oc30, od30, .func (PySem.W.fnOf "_law_next" "_law_next" (defArgs s__law_next) (defBody s__law_next) (defScope s__law_next) .none kV30 dc30 pm30 an30 cd30 ct30), sl30⟩) (c30 : PySem.W.codeIn K cd30 "_law_next" = true) (k30 : PySem.W.keepIn K (.ref f30) = true)
    (a31 : PySem.W.nsIn K mainGlobals "_law_same" = some (some (.ref f31))) (l31 : K.lookup f31 = some ⟨oc31, od31, .func (PySem.W.fnOf "_law_same" "_law_same" (defArgs s__law_same) (defBody s__law_same) (defScope s__law_same) .none kV31 dc31 pm31 an31 cd31 ct31), sl31⟩) (c31 : PySem.W.codeIn K cd31 "_law_same" = true) (k31 : PySem.W.keepIn K (.ref f31) = true)
    (a32 : PySem.W.nsIn K mainGlobals "_law_word" = some (some (.ref f32))) (l32 : K.lookup f32 = some ⟨oc32, od32, .func (PySem.W.fnOf "_law_word" "_law_word" (defArgs s__law_word) (defBody s__law_word) (defScope s__law_word) .none kV32 dc32 pm32 an32 cd32 ct32), sl32⟩) (c32 : PySem.W.codeIn K cd32 "_law_word" = true) (k32 : PySem.W.keepIn K (.ref f32) = true)
    (a33 : PySem.W.nsIn K mainGlobals "_law_pool" = some (some (.ref f33))) (l33 : K.lookup f33 = some ⟨oc33, od33, .func (PySem.W.fnOf "_law_pool" "_law_pool" (defArgs s__law_pool) (defBody s__law_pool) (defScope s__law_pool) .none kV33 dc33 pm33 an33 cd33 ct33), sl33⟩) (c33 : PySem.W.codeIn K cd33 "_law_pool" = true) (k33 : PySem.W.keepIn K (.ref f33) = true)
    (a34 : PySem.W.nsIn K mainGlobals "_law_declared" = some (some (.ref f34))) (l34 : K.lookup f34 = some ⟨oc34, od34, .func (PySem.W.fnOf "_law_declared" "_law_declared" (defArgs s__law_declared) (defBody s__law_declared) (defScope s__law_declared) .none kV34 dc34 pm34 an34 cd34 ct34), sl34⟩) (c34 : PySem.W.codeIn K cd34 "_law_declared" = true) (k34 : PySem.W.keepIn K (.ref f34) = true)
    (a35 : PySem.W.nsIn K mainGlobals "_law_heads" = some (some (.ref f35))) (l35 : K.lookup f35 = some ⟨oc35, od35, .func (PySem.W.fnOf "_law_heads" "_law_heads" (defArgs s__law_heads) (defBody s__law_heads) (defScope s__law_heads) .none kV35 dc35 pm35 an35 cd35 ct35), sl35⟩) (c35 : PySem.W.codeIn K cd35 "_law_heads" = true) (k35 : PySem.W.keepIn K (.ref f35) = true)
    (a36 : PySem.W.nsIn K mainGlobals "_law_put" = some (some (.ref f36))) (l36 : K.lookup f36 = some ⟨oc36, od36, .func (PySem.W.fnOf "_law_put" "_law_put" (defArgs s__law_put) (defBody s__law_put) (defScope s__law_put) .none kV36 dc36 pm36 an36 cd36 ct36), sl36⟩) (c36 : PySem.W.codeIn K cd36 "_law_put" = true) (k36 : PySem.W.keepIn K (.ref f36) = true)
    (a37 : PySem.W.nsIn K mainGlobals "_law_headed" = some (some (.ref f37))) (l37 : K.lookup f37 = some ⟨oc37, od37, .func (PySem.W.fnOf "_law_headed" "_law_headed" (defArgs s__law_headed) (defBody s__law_headed) (defScope s__law_headed) .none kV37 dc37 pm37 an37 cd37 ct37), sl37⟩) (c37 : PySem.W.codeIn K cd37 "_law_headed" = true) (k37 : PySem.W.keepIn K (.ref f37) = true)
    (a38 : PySem.W.nsIn K mainGlobals "_law_shape" = some (some (.ref f38))) (l38 : K.lookup f38 = some ⟨oc38, od38, .func (PySem.W.fnOf "_law_shape" "_law_shape" (defArgs s__law_shape) (defBody s__law_shape) (defScope s__law_shape) .none kV38 dc38 pm38 an38 cd38 ct38), sl38⟩) (c38 : PySem.W.codeIn K cd38 "_law_shape" = true) (k38 : PySem.W.keepIn K (.ref f38) = true)
    (a39 : PySem.W.nsIn K mainGlobals "_law_deep" = some (some (.ref f39))) (l39 : K.lookup f39 = some ⟨oc39, od39, .func (PySem.W.fnOf "_law_deep" "_law_deep" (defArgs s__law_deep) (defBody s__law_deep) (defScope s__law_deep) .none kV39 dc39 pm39 an39 cd39 ct39), sl39⟩) (c39 : PySem.W.codeIn K cd39 "_law_deep" = true) (k39 : PySem.W.keepIn K (.ref f39) = true)
    (a40 : PySem.W.nsIn K mainGlobals "_law_drawn" = some (some (.ref f40))) (l40 : K.lookup f40 = some ⟨oc40, od40, .func (PySem.W.fnOf "_law_drawn" "_law_drawn" (defArgs s__law_drawn) (defBody s__law_drawn) (defScope s__law_drawn) .none kV40 dc40 pm40 an40 cd40 ct40), sl40⟩) (c40 : PySem.W.codeIn K cd40 "_law_drawn" = true) (k40 : PySem.W.keepIn K (.ref f40) = true)
    (a41 : PySem.W.nsIn K mainGlobals "_law_plain" = some (some (.ref f41))) (l41 : K.lookup f41 = some ⟨oc41, od41, .func (PySem.W.fnOf "_law_plain" "_law_plain" (defArgs s__law_plain) (defBody s__law_plain) (defScope s__law_plain) .none kV41 dc41 pm41 an41 cd41 ct41), sl41⟩) (c41 : PySem.W.codeIn K cd41 "_law_plain" = true) (k41 : PySem.W.keepIn K (.ref f41) = true)
    (a42 : PySem.W.nsIn K mainGlobals "_law_body" = some (some (.ref f42))) (l42 : K.lookup f42 = some ⟨oc42, od42, .func (PySem.W.fnOf "_law_body" "_law_body" (defArgs s__law_body) (defBody s__law_body) (defScope s__law_body) .none kV42 dc42 pm42 an42 cd42 ct42), sl42⟩) (c42 : PySem.W.codeIn K cd42 "_law_body" = true) (k42 : PySem.W.keepIn K (.ref f42) = true)
    (a43 : PySem.W.nsIn K mainGlobals "_law_statement" = some (some (.ref f43))) (l43 : K.lookup f43 = some ⟨oc43, od43, .func (PySem.W.fnOf "_law_statement" "_law_statement" (defArgs s__law_statement) (defBody s__law_statement) (defScope s__law_statement) .none kV43 dc43 pm43 an43 cd43 ct43), sl43⟩) (c43 : PySem.W.codeIn K cd43 "_law_statement" = true) (k43 : PySem.W.keepIn K (.ref f43) = true)
    (a44 : PySem.W.nsIn K mainGlobals "_law_tower" = some (some (.ref f44))) (l44 : K.lookup f44 = some ⟨oc44, od44, .func (PySem.W.fnOf "_law_tower" "_law_tower" (defArgs s__law_tower) (defBody s__law_tower) (defScope s__law_tower) .none kV44 dc44 pm44 an44 cd44 ct44), sl44⟩) (c44 : PySem.W.codeIn K cd44 "_law_tower" = true) (k44 : PySem.W.keepIn K (.ref f44) = true)
    (a45 : PySem.W.nsIn K mainGlobals "_law_rich" = some (some (.ref f45))) (l45 : K.lookup f45 = some ⟨oc45, od45, .func (PySem.W.fnOf "_law_rich" "_law_rich" (defArgs s__law_rich) (defBody s__law_rich) (defScope s__law_rich) .none kV45 dc45 pm45 an45 cd45 ct45), sl45⟩) (c45 : PySem.W.codeIn K cd45 "_law_rich" = true) (k45 : PySem.W.keepIn K (.ref f45) = true)
    (a46 : PySem.W.nsIn K mainGlobals "_law_loose" = some (some (.ref f46))) (l46 : K.lookup f46 = some ⟨oc46, od46, .func (PySem.W.fnOf "_law_loose" "_law_loose" (defArgs s__law_loose) (defBody s__law_loose) (defScope s__law_loose) .none kV46 dc46 pm46 an46 cd46 ct46), sl46⟩) (c46 : PySem.W.codeIn K cd46 "_law_loose" = true) (k46 : PySem.W.keepIn K (.ref f46) = true)
    (a47 : PySem.W.nsIn K mainGlobals "_law_spoil" = some (some (.ref f47))) (l47 : K.lookup f47 = some ⟨oc47, od47, .func (PySem.W.fnOf "_law_spoil" "_law_spoil" (defArgs s__law_spoil) (defBody s__law_spoil) (defScope s__law_spoil) .none kV47 dc47 pm47 an47 cd47 ct47), sl47⟩) (c47 : PySem.W.codeIn K cd47 "_law_spoil" = true) (k47 : PySem.W.keepIn K (.ref f47) = true)
    (a48 : PySem.W.nsIn K mainGlobals "_law_made" = some (some (.ref f48))) (l48 : K.lookup f48 = some ⟨oc48, od48, .func (PySem.W.fnOf "_law_made" "_law_made" (defArgs s__law_made) (defBody s__law_made) (defScope s__law_made) .none kV48 dc48 pm48 an48 cd48 ct48), sl48⟩) (c48 : PySem.W.codeIn K cd48 "_law_made" = true) (k48 : PySem.W.keepIn K (.ref f48) = true)
    (a49 : PySem.W.nsIn K mainGlobals "_law_inner" = some (some (.ref f49))) (l49 : K.lookup f49 = some ⟨oc49, od49, .func (PySem.W.fnOf "_law_inner" "_law_inner" (defArgs s__law_inner) (defBody s__law_inner) (defScope s__law_inner) .none kV49 dc49 pm49 an49 cd49 ct49), sl49⟩) (c49 : PySem.W.codeIn K cd49 "_law_inner" = true) (k49 : PySem.W.keepIn K (.ref f49) = true)
    (a50 : PySem.W.nsIn K mainGlobals "_law_count" = some (some (.ref f50))) (l50 : K.lookup f50 = some ⟨oc50, od50, .func (PySem.W.fnOf "_law_count" "_law_count" (defArgs s__law_count) (defBody s__law_count) (defScope s__law_count) .none kV50 dc50 pm50 an50 cd50 ct50), sl50⟩) (c50 : PySem.W.codeIn K cd50 "_law_count" = true) (k50 : PySem.W.keepIn K (.ref f50) = true)
    (a51 : PySem.W.nsIn K mainGlobals "_law_place" = some (some (.ref f51))) (l51 : K.lookup f51 = some ⟨oc51, od51, .func (PySem.W.fnOf "_law_place" "_law_place" (defArgs s__law_place) (defBody s__law_place) (defScope s__law_place) .none kV51 dc51 pm51 an51 cd51 ct51), sl51⟩) (c51 : PySem.W.codeIn K cd51 "_law_place" = true) (k51 : PySem.W.keepIn K (.ref f51) = true)
    (a52 : PySem.W.nsIn K mainGlobals "_law_row" = some (some (.ref f52))) (l52 : K.lookup f52 = some ⟨oc52, od52, .func (PySem.W.fnOf "_law_row" "_law_row" (defArgs s__law_row) (defBody s__law_row) (defScope s__law_row) .none kV52 dc52 pm52 an52 cd52 ct52), sl52⟩) (c52 : PySem.W.codeIn K cd52 "_law_row" = true) (k52 : PySem.W.keepIn K (.ref f52) = true)
    (a53 : PySem.W.nsIn K mainGlobals "_law_flat" = some (some (.ref f53))) (l53 : K.lookup f53 = some ⟨oc53, od53, .func (PySem.W.fnOf "_law_flat" "_law_flat" (defArgs s__law_flat) (defBody s__law_flat) (defScope s__law_flat) .none kV53 dc53 pm53 an53 cd53 ct53), sl53⟩) (c53 : PySem.W.codeIn K cd53 "_law_flat" = true) (k53 : PySem.W.keepIn K (.ref f53) = true)
    (a54 : PySem.W.nsIn K mainGlobals "_law_model" = some (some (.ref f54))) (l54 : K.lookup f54 = some ⟨oc54, od54, .func (PySem.W.fnOf "_law_model" "_law_model" (defArgs s__law_model) (defBody s__law_model) (defScope s__law_model) .none kV54 dc54 pm54 an54 cd54 ct54), sl54⟩) (c54 : PySem.W.codeIn K cd54 "_law_model" = true) (k54 : PySem.W.keepIn K (.ref f54) = true)
    (a55 : PySem.W.nsIn K mainGlobals "law" = some (some (.ref f55))) (l55 : K.lookup f55 = some ⟨oc55, od55, .func (PySem.W.fnOf "law" "law" (defArgs s_law) (defBody s_law) (defScope s_law) .none kV55 dc55 pm55 an55 cd55 ct55), sl55⟩) (c55 : PySem.W.codeIn K cd55 "law" = true) (k55 : PySem.W.keepIn K (.ref f55) = true)
    (g56 : PySem.W.nsIn K mainGlobals "Program" = some (some (.ref C56))) (pg56 : PySem.W.plainGet K C56 Str.empty = true) (hd56 : PySem.W.hasDictIn K C56 = true) (po56 : PySem.W.plainOver K C56 = true) (sa56 : PySem.W.findIn K (.ref C56) "__setattr__" = some (some (.builtin "object.__setattr__"))) (mk56 : PySem.W.makesIn K C56 = true) (kc56 : PySem.W.keepIn K (.ref C56) = true)
    (ha56 : PySem.W.findIn K (.ref C56) "__class__" = some (some (.builtin "object.__class__"))) (hn56 : PySem.W.specialIn K (.builtin "object.__class__") "__get__" = some (some (.builtin "getset_descriptor.__get__"))) (ht56 : PySem.W.takesIn K (.builtin "object.__class__") = some true) (hm56 : PySem.W.mroIn K C56 (.type "object") = some true) (me56 : PySem.W.kitOne K (.ref C56) (.ref C56) = some true)
    (n56_letters : PySem.W.findIn K (.ref C56) "letters" = some none)
    (n56_answers : PySem.W.findIn K (.ref C56) "answers" = some none)
    (n56_variables : PySem.W.findIn K (.ref C56) "variables" = some none)
    (n56_procedures : PySem.W.findIn K (.ref C56) "procedures" = some none)
    (n56__names : PySem.W.findIn K (.ref C56) "_names" = some none)
    (n56__sizes : PySem.W.findIn K (.ref C56) "_sizes" = some none)
    (n56__sights : PySem.W.findIn K (.ref C56) "_sights" = some none)
    (n56_places : PySem.W.findIn K (.ref C56) "places" = some none)
    (n56__points : PySem.W.findIn K (.ref C56) "_points" = some none)
    {fm56_0 : Addr} {odm56_0 anm56_0 : Option Addr} {slm56_0 : Array (Option Value)} {ocm56_0 kVm56_0 dcm56_0 pmm56_0 cdm56_0 ctm56_0 : Value} (am56_0 : PySem.W.findIn K (.ref C56) "__init__" = some (some (.ref fm56_0))) (im56_0 : PySem.W.isFn K (.ref fm56_0) = true) (lm56_0 : K.lookup fm56_0 = some ⟨ocm56_0, odm56_0, .func (PySem.W.fnOf "__init__" "Program.__init__" (defArgs s_Program_init) (defBody s_Program_init) (defScope s_Program_init) .none kVm56_0 dcm56_0 pmm56_0 anm56_0 cdm56_0 ctm56_0), slm56_0⟩) (cm56_0 : PySem.W.codeIn K cdm56_0 "Program.__init__" = true) (km56_0 : PySem.W.keepIn K (.ref fm56_0) = true)
    {fm56_1 : Addr} {odm56_1 anm56_1 : Option Addr} {slm56_1 : Array (Option Value)} {ocm56_1 kVm56_1 dcm56_1 pmm56_1 cdm56_1 ctm56_1 : Value} (am56_1 : PySem.W.findIn K (.ref C56) "names" = some (some (.ref fm56_1))) (im56_1 : PySem.W.isFn K (.ref fm56_1) = true) (lm56_1 : K.lookup fm56_1 = some ⟨ocm56_1, odm56_1, .func (PySem.W.fnOf "names" "Program.names" (defArgs s_Program_names) (defBody s_Program_names) (defScope s_Program_names) .none kVm56_1 dcm56_1 pmm56_1 anm56_1 cdm56_1 ctm56_1), slm56_1⟩) (cm56_1 : PySem.W.codeIn K cdm56_1 "Program.names" = true) (km56_1 : PySem.W.keepIn K (.ref fm56_1) = true)
    {fm56_2 : Addr} {odm56_2 anm56_2 : Option Addr} {slm56_2 : Array (Option Value)} {ocm56_2 kVm56_2 dcm56_2 pmm56_2 cdm56_2 ctm56_2 : Value} (am56_2 : PySem.W.findIn K (.ref C56) "sizes" = some (some (.ref fm56_2))) (im56_2 : PySem.W.isFn K (.ref fm56_2) = true) (lm56_2 : K.lookup fm56_2 = some ⟨ocm56_2, odm56_2, .func (PySem.W.fnOf "sizes" "Program.sizes" (defArgs s_Program_sizes) (defBody s_Program_sizes) (defScope s_Program_sizes) .none kVm56_2 dcm56_2 pmm56_2 anm56_2 cdm56_2 ctm56_2), slm56_2⟩) (cm56_2 : PySem.W.codeIn K cdm56_2 "Program.sizes" = true) (km56_2 : PySem.W.keepIn K (.ref fm56_2) = true)
    {fm56_3 : Addr} {odm56_3 anm56_3 : Option Addr} {slm56_3 : Array (Option Value)} {ocm56_3 kVm56_3 dcm56_3 pmm56_3 cdm56_3 ctm56_3 : Value} (am56_3 : PySem.W.findIn K (.ref C56) "sights" = some (some (.ref fm56_3))) (im56_3 : PySem.W.isFn K (.ref fm56_3) = true) (lm56_3 : K.lookup fm56_3 = some ⟨ocm56_3, odm56_3, .func (PySem.W.fnOf "sights" "Program.sights" (defArgs s_Program_sights) (defBody s_Program_sights) (defScope s_Program_sights) .none kVm56_3 dcm56_3 pmm56_3 anm56_3 cdm56_3 ctm56_3), slm56_3⟩) (cm56_3 : PySem.W.codeIn K cdm56_3 "Program.sights" = true) (km56_3 : PySem.W.keepIn K (.ref fm56_3) = true)
    {fm56_4 : Addr} {odm56_4 anm56_4 : Option Addr} {slm56_4 : Array (Option Value)} {ocm56_4 kVm56_4 dcm56_4 pmm56_4 cdm56_4 ctm56_4 : Value} (am56_4 : PySem.W.findIn K (.ref C56) "points" = some (some (.ref fm56_4))) (im56_4 : PySem.W.isFn K (.ref fm56_4) = true) (lm56_4 : K.lookup fm56_4 = some ⟨ocm56_4, odm56_4, .func (PySem.W.fnOf "points" "Program.points" (defArgs s_Program_points) (defBody s_Program_points) (defScope s_Program_points) .none kVm56_4 dcm56_4 pmm56_4 anm56_4 cdm56_4 ctm56_4), slm56_4⟩) (cm56_4 : PySem.W.codeIn K cdm56_4 "Program.points" = true) (km56_4 : PySem.W.keepIn K (.ref fm56_4) = true)
    {ta6 : Addr} {to6 : Obj} (vc6 : PySem.W.nsIn K mainGlobals "LEAVES" = some (some (.ref ta6))) (vl6 : K.lookup ta6 = some to6) (vt6 : tupB to6 ["number", "name"] = true)
    {tc24 : Tok} (vc24 : PySem.W.nsIn K mainGlobals "MOST_LETTERS" = some (some (.int 3 tc24)))
    {tc25 : Tok} (vc25 : PySem.W.nsIn K mainGlobals "LEAST_ANSWERS" = some (some (.int 2 tc25)))
    {tc26 : Tok} (vc26 : PySem.W.nsIn K mainGlobals "MOST_ANSWERS" = some (some (.int 4 tc26)))
    {tc29 : Tok} (vc29 : PySem.W.nsIn K mainGlobals "LETTERS" = some (some (.str "abcdefghijklmnopqrstuvwxyz" tc29)))
    {tc30 : Tok} (vc30 : PySem.W.nsIn K mainGlobals "WORD_CHARACTERS" = some (some (.str "abcdefghijklmnopqrstuvwxyz0123456789" tc30)))
    {tc31 : Tok} (vc31 : PySem.W.nsIn K mainGlobals "LONGEST_NAME" = some (some (.int 8 tc31)))
    {ta32 : Addr} {to32 : Obj} (vc32 : PySem.W.nsIn K mainGlobals "KEYWORDS" = some (some (.ref ta32))) (vl32 : K.lookup ta32 = some to32) (vt32 : tupB to32 ["letters", "answers", "global", "proc", "local", "read", "write", "if", "then", "else", "while", "do", "call", "skip", "end", "and", "or", "not"] = true)
    {tc35 : Tok} (vc35 : PySem.W.nsIn K mainGlobals "MOST_PROCEDURES" = some (some (.int 5 tc35)))
    {tc36 : Tok} (vc36 : PySem.W.nsIn K mainGlobals "MOST_GLOBALS" = some (some (.int 4 tc36)))
    {tc37 : Tok} (vc37 : PySem.W.nsIn K mainGlobals "MOST_PARAMETERS" = some (some (.int 3 tc37)))
    {tc38 : Tok} (vc38 : PySem.W.nsIn K mainGlobals "MOST_LOCALS" = some (some (.int 3 tc38)))
    {tc39 : Tok} (vc39 : PySem.W.nsIn K mainGlobals "LEAST_SIZE" = some (some (.int 2 tc39)))
    {tc40 : Tok} (vc40 : PySem.W.nsIn K mainGlobals "MOST_SIZE" = some (some (.int 4 tc40)))
    {tc41 : Tok} (vc41 : PySem.W.nsIn K mainGlobals "MOST_SIGHTS" = some (some (.int 64 tc41)))
    {tc42 : Tok} (vc42 : PySem.W.nsIn K mainGlobals "MOST_STATEMENTS" = some (some (.int 60 tc42)))
    {tc43 : Tok} (vc43 : PySem.W.nsIn K mainGlobals "MOST_NESTING" = some (some (.int 6 tc43)))
    {tc44 : Tok} (vc44 : PySem.W.nsIn K mainGlobals "MOST_DEPTH" = some (some (.int 5 tc44)))
    {tc45 : Tok} (vc45 : PySem.W.nsIn K mainGlobals "MOST_NUMBER" = some (some (.int 9 tc45)))
    (z0 : PySem.W.nsIn K mainGlobals "ValueError" = some none) (z1 : PySem.W.nsIn K mainGlobals "all" = some none) (z2 : PySem.W.nsIn K mainGlobals "any" = some none) (z3 : PySem.W.nsIn K mainGlobals "bool" = some none) (z4 : PySem.W.nsIn K mainGlobals "enumerate" = some none) (z5 : PySem.W.nsIn K mainGlobals "int" = some none) (z6 : PySem.W.nsIn K mainGlobals "isinstance" = some none) (z7 : PySem.W.nsIn K mainGlobals "len" = some none) (z8 : PySem.W.nsIn K mainGlobals "list" = some none) (z9 : PySem.W.nsIn K mainGlobals "range" = some none) (z10 : PySem.W.nsIn K mainGlobals "set" = some none) (z11 : PySem.W.nsIn K mainGlobals "str" = some none) (z12 : PySem.W.nsIn K mainGlobals "sum" = some none) (z13 : PySem.W.nsIn K mainGlobals "super" = some none) (z14 : PySem.W.nsIn K mainGlobals "tuple" = some none) (z15 : PySem.W.nsIn K mainGlobals "zip" = some none)
    (g2 : PySem.W.nsIn K mainGlobals "MendError" = some (some (.ref C2)))
    (g3 : PySem.W.nsIn K mainGlobals "InvalidInput" = some (some (.ref C3)))
    (g4 : PySem.W.nsIn K mainGlobals "InvalidProgram" = some (some (.ref C4)))
    (eB : errsB K (clsAt [(2, C2), (3, C3), (4, C4), (56, C56)]) errIds errUp = true) (opq : PySem.W.nsIn K cStatics "thirdparty.any" = some none) (tp : (l.prog.main.scope.names.lookup ("super" : Str)).isSome = false)
    (eB2 : errsB2 K (clsAt [(2, C2), (3, C3), (4, C4), (56, C56)]) id_MendError errIds = true)
    (xC2 : PySem.W.excIn K C2 [.type "ValueError", .type "Exception", .type "BaseException", .type "object"] "ValueError.__new__" = true)
    (xC3 : PySem.W.excIn K C3 [.type "ValueError", .type "Exception", .type "BaseException", .type "object"] "ValueError.__new__" = true)
    {nm4 q4 qu4 fl4 : Str} {N4 I4 cc4 cda4 : Addr} {bs4 bm4 sub4 : List Value} {sn4 : List Str} {ab4 : Bool} {col4 : Option Bool} {dd4 od1_4 od2_4 od3_4 an_4 : Option Addr} {k0_4 k1_4 k2_4 k3_4 k5_4 : Option Value} {oc1_4 oc2_4 oc3_4 kW4 doc4 pmm4 ctt4 : Value} {sl1_4 sl2_4 sl3_4 : Array (Option Value)} {vs4 : Array Value} {tf4 : Tok}
    (oC4 : K.lookup C4 = some (excClassObj nm4 q4 C4 N4 bs4 bm4 true sn4 sub4 ab4 col4 dd4 k0_4 k1_4 k2_4 k3_4 k5_4 "ValueError.__new__")) (rv4 : PySem.HandSPX.refsVE bm4 = true) (ib4 : initB' K C4 "reason" = true)
    (iC4 : PySem.W.findIn K (.ref C4) "__init__" = some (some (.ref I4))) (tI4 : PySem.W.typeIn K (.ref I4) = some (.type "function"))
    (lI4 : K.lookup I4 = some ⟨oc1_4, od1_4, .func (PySem.W.fnX "__init__" qu4 (defArgs (inClass (topS 4) 0)) (defBody (inClass (topS 4) 0)) (initSc "reason") [("__class__", cc4)] .none kW4 doc4 pmm4 an_4 (.ref cda4) ctt4), sl1_4⟩) (cI4 : PySem.W.codeIn K (.ref cda4) qu4 = true)
    (lD4 : K.lookup cda4 = some ⟨oc2_4, od2_4, .fields vs4, sl2_4⟩) (vD4 : vs4[2]? = some (.str fl4 tf4)) (fD4 : (l.prog.main.file == fl4) = true) (lc4 : K.lookup cc4 = some ⟨oc3_4, od3_4, .cell (some (.ref C4)), sl3_4⟩)
    :
    ∃ fd : FuncData, (∀ (s : Shared) (v : Value), BindsTo s fd ⟨[v], []⟩ [("script", v)]) ∧ ∀ base : Heap, K.In base → base.Ns mainGlobals mg → FnOk l.prog w K mg base CX0 33 fa fd ["script"] (sp_law K) := by
  have e := hfa.symm.trans (PySem.W.mg_of X G a55)
  cases e
  have F0 := fun_mk (st := s__wall) l0 c0 k0
  have F1 := fun_mk (st := s_frozen) l1 c1 k1
  have F2 := fun_mk (st := s_product_of) l2 c2 k2
  have F3 := fun_mk (st := s_in_sight) l3 c3 k3
  have F4 := fun_mk (st := s_bodies_of) l4 c4 k4
  have F5 := fun_mk (st := s_expressions_of) l5 c5 k5
  have F6 := fun_mk (st := s_statements_of) l6 c6 k6
  have F7 := fun_mk (st := s_is_deeper) l7 c7 k7
  have F8 := fun_mk (st := s_leaves_of) l8 c8 k8
  have F9 := fun_mk (st := s_lay_out) l9 c9 k9
  have F10 := fun_mk (st := s_body_length) l10 c10 k10
  have F11 := fun_mk (st := s_body_ways) l11 c11 k11
  have F12 := fun_mk (st := s_statement_ways) l12 c12 k12
  have F13 := fun_mk (st := s_aims_of) l13 c13 k13
  have F14 := fun_mk (st := s_point_row) l14 c14 k14
  have F15 := fun_mk (st := s_slot_of) l15 c15 k15
  have F16 := fun_mk (st := s_letters_reason) l16 c16 k16
  have F17 := fun_mk (st := s_is_name) l17 c17 k17
  have F18 := fun_mk (st := s_first_reason) l18 c18 k18
  have F19 := fun_mk (st := s_count_reason) l19 c19 k19
  have F20 := fun_mk (st := s_has_many_variables) l20 c20 k20
  have F21 := fun_mk (st := s_declaration_reason) l21 c21 k21
  have F22 := fun_mk (st := s_shape_reason) l22 c22 k22
  have F23 := fun_mk (st := s_meaning_reason) l23 c23 k23
  have F24 := fun_mk (st := s_has_wrong_number) l24 c24 k24
  have F25 := fun_mk (st := s_has_unknown) l25 c25 k25
  have F26 := fun_mk (st := s_is_wrong_call) l26 c26 k26
  have F27 := fun_mk (st := s_sights_of) l27 c27 k27
  have F28 := fun_mk (st := s__law_cell) l28 c28 k28
  have F29 := fun_mk (st := s__law_reader) l29 c29 k29
  have F30 := fun_mk (st := s__law_next) l30 c30 k30
  have F31 := fun_mk (st := s__law_same) l31 c31 k31
  have F32 := fun_mk (st := s__law_word) l32 c32 k32
  have F33 := fun_mk (st := s__law_pool) l33 c33 k33
  have F34 := fun_mk (st := s__law_declared) l34 c34 k34
  have F35 := fun_mk (st := s__law_heads) l35 c35 k35
  have F36 := fun_mk (st := s__law_put) l36 c36 k36
  have F37 := fun_mk (st := s__law_headed) l37 c37 k37
  have F38 := fun_mk (st := s__law_shape) l38 c38 k38
  have F39 := fun_mk (st := s__law_deep) l39 c39 k39
  have F40 := fun_mk (st := s__law_drawn) l40 c40 k40
  have F41 := fun_mk (st := s__law_plain) l41 c41 k41
  have F42 := fun_mk (st := s__law_body) l42 c42 k42
  have F43 := fun_mk (st := s__law_statement) l43 c43 k43
  have F44 := fun_mk (st := s__law_tower) l44 c44 k44
  have F45 := fun_mk (st := s__law_rich) l45 c45 k45
  have F46 := fun_mk (st := s__law_loose) l46 c46 k46
  have F47 := fun_mk (st := s__law_spoil) l47 c47 k47
  have F48 := fun_mk (st := s__law_made) l48 c48 k48
  have F49 := fun_mk (st := s__law_inner) l49 c49 k49
  have F50 := fun_mk (st := s__law_count) l50 c50 k50
  have F51 := fun_mk (st := s__law_place) l51 c51 k51
  have F52 := fun_mk (st := s__law_row) l52 c52 k52
  have F53 := fun_mk (st := s__law_flat) l53 c53 k53
  have F54 := fun_mk (st := s__law_model) l54 c54 k54
  have F55 := fun_mk (st := s_law) l55 c55 k55
  have Fm56_0 := fun_mk (st := s_Program_init) lm56_0 cm56_0 km56_0
  have Fm56_1 := fun_mk (st := s_Program_names) lm56_1 cm56_1 km56_1
  have Fm56_2 := fun_mk (st := s_Program_sizes) lm56_2 cm56_2 km56_2
  have Fm56_3 := fun_mk (st := s_Program_sights) lm56_3 cm56_3 km56_3
  have Fm56_4 := fun_mk (st := s_Program_points) lm56_4 cm56_4 km56_4
  obtain ⟨e1, e2, e3, e4⟩ := errsB_ok eB
  obtain ⟨e5, e6⟩ := errsB2_ok eB2
  have ix4 := initB_ok ib4
  have ox4 : OexC K C4 := ⟨⟨nm4, q4, N4, bs4, bm4, sn4, sub4, ab4, col4, dd4, k0_4, k1_4, k2_4, k3_4, k5_4, oC4, rv4⟩, ix4.2.2.2.2.1, ix4.2.2.2.2.2.1, ix4.2.2.2.2.2.2, e1 4 (by decide)⟩
  have T : Txt l.prog K mg (clsAt [(2, C2), (3, C3), (4, C4), (56, C56)]) := ⟨PySem.W.mg_none_of X G z0,
    PySem.W.mg_none_of X G z1,
    PySem.W.mg_none_of X G z2,
    PySem.W.mg_none_of X G z3,
    PySem.W.mg_none_of X G z4,
    PySem.W.mg_none_of X G z5,
    PySem.W.mg_none_of X G z6,
    PySem.W.mg_none_of X G z7,
    PySem.W.mg_none_of X G z8,
    PySem.W.mg_none_of X G z9,
    PySem.W.mg_none_of X G z10,
    PySem.W.mg_none_of X G z11,
    PySem.W.mg_none_of X G z12,
    PySem.W.mg_none_of X G z13,
    PySem.W.mg_none_of X G z14,
    PySem.W.mg_none_of X G z15,
    ⟨⟨_, _, F0, PySem.W.mg_of X G a0, F0.binds (ps := ["k"]) fun _ _ _ _ _ _ us hl => match us, hl with | [_], _ => rfl⟩⟩,
    ⟨⟨_, _, F1, PySem.W.mg_of X G a1, F1.binds (ps := ["value"]) fun _ _ _ _ _ _ us hl => match us, hl with | [_], _ => rfl⟩⟩,
    ⟨⟨_, _, F2, PySem.W.mg_of X G a2, F2.binds (ps := ["sizes"]) fun _ _ _ _ _ _ us hl => match us, hl with | [_], _ => rfl⟩⟩,
    ⟨⟨_, _, F3, PySem.W.mg_of X G a3, F3.binds (ps := ["variables", "procedure"]) fun _ _ _ _ _ _ us hl => match us, hl with | [_, _], _ => rfl⟩⟩,
    ⟨⟨_, _, F4, PySem.W.mg_of X G a4, F4.binds (ps := ["statement"]) fun _ _ _ _ _ _ us hl => match us, hl with | [_], _ => rfl⟩⟩,
    ⟨⟨_, _, F5, PySem.W.mg_of X G a5, F5.binds (ps := ["statement"]) fun _ _ _ _ _ _ us hl => match us, hl with | [_], _ => rfl⟩⟩,
    ⟨⟨_, _, F6, PySem.W.mg_of X G a6, F6.binds (ps := ["body"]) fun _ _ _ _ _ _ us hl => match us, hl with | [_], _ => rfl⟩⟩,
    ⟨⟨_, _, F7, PySem.W.mg_of X G a7, F7.binds (ps := ["expression", "limit"]) fun _ _ _ _ _ _ us hl => match us, hl with | [_, _], _ => rfl⟩⟩,
    ⟨⟨_, _, F8, PySem.W.mg_of X G a8, F8.binds (ps := ["expression"]) fun _ _ _ _ _ _ us hl => match us, hl with | [_], _ => rfl⟩⟩,
    ⟨⟨_, _, F9, PySem.W.mg_of X G a9, F9.binds (ps := ["answers", "variables", "procedures"]) fun _ _ _ _ _ _ us hl => match us, hl with | [_, _, _], _ => rfl⟩⟩,
    ⟨⟨_, _, F10, PySem.W.mg_of X G a10, F10.binds (ps := ["body"]) fun _ _ _ _ _ _ us hl => match us, hl with | [_], _ => rfl⟩⟩,
    ⟨⟨_, _, F11, PySem.W.mg_of X G a11, F11.binds (ps := ["body", "first", "behind"]) fun _ _ _ _ _ _ us hl => match us, hl with | [_, _, _], _ => rfl⟩⟩,
    ⟨⟨_, _, F12, PySem.W.mg_of X G a12, F12.binds (ps := ["statement", "point", "follows"]) fun _ _ _ _ _ _ us hl => match us, hl with | [_, _, _], _ => rfl⟩⟩,
    ⟨⟨_, _, F13, PySem.W.mg_of X G a13, F13.binds (ps := ["statement", "sight", "answers", "procedures"]) fun _ _ _ _ _ _ us hl => match us, hl with | [_, _, _, _], _ => rfl⟩⟩,
    ⟨⟨_, _, F14, PySem.W.mg_of X G a14, F14.binds (ps := ["statement", "sight", "names", "places", "ways"]) fun _ _ _ _ _ _ us hl => match us, hl with | [_, _, _, _, _], _ => rfl⟩⟩,
    ⟨⟨_, _, F15, PySem.W.mg_of X G a15, F15.binds (ps := ["sight", "name"]) fun _ _ _ _ _ _ us hl => match us, hl with | [_, _], _ => rfl⟩⟩,
    ⟨⟨_, _, F16, PySem.W.mg_of X G a16, F16.binds (ps := ["letters", "answers"]) fun _ _ _ _ _ _ us hl => match us, hl with | [_, _], _ => rfl⟩⟩,
    ⟨⟨_, _, F17, PySem.W.mg_of X G a17, F17.binds (ps := ["text"]) fun _ _ _ _ _ _ us hl => match us, hl with | [_], _ => rfl⟩⟩,
    ⟨⟨_, _, F18, PySem.W.mg_of X G a18, F18.binds (ps := ["letters", "answers", "variables", "procedures"]) fun _ _ _ _ _ _ us hl => match us, hl with | [_, _, _, _], _ => rfl⟩⟩,
    ⟨⟨_, _, F19, PySem.W.mg_of X G a19, F19.binds (ps := ["variables", "procedures"]) fun _ _ _ _ _ _ us hl => match us, hl with | [_, _], _ => rfl⟩⟩,
    ⟨⟨_, _, F20, PySem.W.mg_of X G a20, F20.binds (ps := ["procedure"]) fun _ _ _ _ _ _ us hl => match us, hl with | [_], _ => rfl⟩⟩,
    ⟨⟨_, _, F21, PySem.W.mg_of X G a21, F21.binds (ps := ["variables", "procedures"]) fun _ _ _ _ _ _ us hl => match us, hl with | [_, _], _ => rfl⟩⟩,
    ⟨⟨_, _, F22, PySem.W.mg_of X G a22, F22.binds (ps := ["procedures"]) fun _ _ _ _ _ _ us hl => match us, hl with | [_], _ => rfl⟩⟩,
    ⟨⟨_, _, F23, PySem.W.mg_of X G a23, F23.binds (ps := ["letters", "variables", "procedures"]) fun _ _ _ _ _ _ us hl => match us, hl with | [_, _, _], _ => rfl⟩⟩,
    ⟨⟨_, _, F24, PySem.W.mg_of X G a24, F24.binds (ps := ["statement"]) fun _ _ _ _ _ _ us hl => match us, hl with | [_], _ => rfl⟩⟩,
    ⟨⟨_, _, F25, PySem.W.mg_of X G a25, F25.binds (ps := ["statement", "sizes", "many"]) fun _ _ _ _ _ _ us hl => match us, hl with | [_, _, _], _ => rfl⟩⟩,
    ⟨⟨_, _, F26, PySem.W.mg_of X G a26, F26.binds (ps := ["statement", "main", "many"]) fun _ _ _ _ _ _ us hl => match us, hl with | [_, _, _], _ => rfl⟩⟩,
    ⟨⟨_, _, F27, PySem.W.mg_of X G a27, F27.binds (ps := ["sizes"]) fun _ _ _ _ _ _ us hl => match us, hl with | [_], _ => rfl⟩⟩,
    ⟨⟨_, _, F28, PySem.W.mg_of X G a28, F28.binds (ps := ["script", "k"]) fun _ _ _ _ _ _ us hl => match us, hl with | [_, _], _ => rfl⟩⟩,
    ⟨⟨_, _, F29, PySem.W.mg_of X G a29, F29.binds (ps := ["cell"]) fun _ _ _ _ _ _ us hl => match us, hl with | [_], _ => rfl⟩⟩,
    ⟨⟨_, _, F30, PySem.W.mg_of X G a30, F30.binds (ps := ["reader", "size"]) fun _ _ _ _ _ _ us hl => match us, hl with | [_, _], _ => rfl⟩⟩,
    ⟨⟨_, _, F31, PySem.W.mg_of X G a31, F31.binds (ps := ["told", "due"]) fun _ _ _ _ _ _ us hl => match us, hl with | [_, _], _ => rfl⟩⟩,
    ⟨⟨_, _, F32, PySem.W.mg_of X G a32, F32.binds (ps := ["reader", "many"]) fun _ _ _ _ _ _ us hl => match us, hl with | [_, _], _ => rfl⟩⟩,
    ⟨⟨_, _, F33, PySem.W.mg_of X G a33, F33.binds (ps := ["reader"]) fun _ _ _ _ _ _ us hl => match us, hl with | [_], _ => rfl⟩⟩,
    ⟨⟨_, _, F34, PySem.W.mg_of X G a34, F34.binds (ps := ["reader", "pool", "start", "many", "room"]) fun _ _ _ _ _ _ us hl => match us, hl with | [_, _, _, _, _], _ => rfl⟩⟩,
    ⟨⟨_, _, F35, PySem.W.mg_of X G a35, F35.binds (ps := ["reader", "most"]) fun _ _ _ _ _ _ us hl => match us, hl with | [_, _], _ => rfl⟩⟩,
    ⟨⟨_, _, F36, PySem.W.mg_of X G a36, F36.binds (ps := ["row", "k", "part"]) fun _ _ _ _ _ _ us hl => match us, hl with | [_, _, _], _ => rfl⟩⟩,
    ⟨⟨_, _, F37, PySem.W.mg_of X G a37, F37.binds (ps := ["parts", "number", "part", "thing"]) fun _ _ _ _ _ _ us hl => match us, hl with | [_, _, _, _], _ => rfl⟩⟩,
    ⟨⟨_, _, F38, PySem.W.mg_of X G a38, F38.binds (ps := ["parts", "number", "left"]) fun _ _ _ _ _ _ us hl => match us, hl with | [_, _, _], _ => rfl⟩⟩,
    ⟨⟨_, _, F39, PySem.W.mg_of X G a39, F39.binds (ps := ["reader", "names", "depth"]) fun _ _ _ _ _ _ us hl => match us, hl with | [_, _, _], _ => rfl⟩⟩,
    ⟨⟨_, _, F40, PySem.W.mg_of X G a40, F40.binds (ps := ["reader", "shape"]) fun _ _ _ _ _ _ us hl => match us, hl with | [_, _], _ => rfl⟩⟩,
    ⟨⟨_, _, F41, PySem.W.mg_of X G a41, F41.binds (ps := ["reader", "shape"]) fun _ _ _ _ _ _ us hl => match us, hl with | [_, _], _ => rfl⟩⟩,
    ⟨⟨_, _, F42, PySem.W.mg_of X G a42, F42.binds (ps := ["reader", "shape", "most", "depth"]) fun _ _ _ _ _ _ us hl => match us, hl with | [_, _, _, _], _ => rfl⟩⟩,
    ⟨⟨_, _, F43, PySem.W.mg_of X G a43, F43.binds (ps := ["reader", "shape", "depth"]) fun _ _ _ _ _ _ us hl => match us, hl with | [_, _, _], _ => rfl⟩⟩,
    ⟨⟨_, _, F44, PySem.W.mg_of X G a44, F44.binds (ps := ["reader", "shape", "depth"]) fun _ _ _ _ _ _ us hl => match us, hl with | [_, _, _], _ => rfl⟩⟩,
    ⟨⟨_, _, F45, PySem.W.mg_of X G a45, F45.binds (ps := ["reader", "most", "room"]) fun _ _ _ _ _ _ us hl => match us, hl with | [_, _, _], _ => rfl⟩⟩,
    ⟨⟨_, _, F46, PySem.W.mg_of X G a46, F46.binds (ps := ["body"]) fun _ _ _ _ _ _ us hl => match us, hl with | [_], _ => rfl⟩⟩,
    ⟨⟨_, _, F47, PySem.W.mg_of X G a47, F47.binds (ps := ["body"]) fun _ _ _ _ _ _ us hl => match us, hl with | [_], _ => rfl⟩⟩,
    ⟨⟨_, _, F48, PySem.W.mg_of X G a48, F48.binds (ps := ["parts", "form"]) fun _ _ _ _ _ _ us hl => match us, hl with | [_, _], _ => rfl⟩⟩,
    ⟨⟨_, _, F49, PySem.W.mg_of X G a49, F49.binds (ps := ["statement"]) fun _ _ _ _ _ _ us hl => match us, hl with | [_], _ => rfl⟩⟩,
    ⟨⟨_, _, F50, PySem.W.mg_of X G a50, F50.binds (ps := ["body"]) fun _ _ _ _ _ _ us hl => match us, hl with | [_], _ => rfl⟩⟩,
    ⟨⟨_, _, F51, PySem.W.mg_of X G a51, F51.binds (ps := ["model", "procedure", "role", "size", "expression"]) fun _ _ _ _ _ _ us hl => match us, hl with | [_, _, _, _, _], _ => rfl⟩⟩,
    ⟨⟨_, _, F52, PySem.W.mg_of X G a52, F52.binds (ps := ["model", "procedure", "statement", "number", "follow"]) fun _ _ _ _ _ _ us hl => match us, hl with | [_, _, _, _, _], _ => rfl⟩⟩,
    ⟨⟨_, _, F53, PySem.W.mg_of X G a53, F53.binds (ps := ["model", "procedure", "body", "number", "after"]) fun _ _ _ _ _ _ us hl => match us, hl with | [_, _, _, _, _], _ => rfl⟩⟩,
    ⟨⟨_, _, F54, PySem.W.mg_of X G a54, F54.binds (ps := ["parts"]) fun _ _ _ _ _ _ us hl => match us, hl with | [_], _ => rfl⟩⟩,
    ⟨⟨_, _, F55, PySem.W.mg_of X G a55, F55.binds (ps := ["script"]) fun _ _ _ _ _ _ us hl => match us, hl with | [_], _ => rfl⟩⟩,
    PySem.W.mg_of X G g56,
    ⟨pg56, hd56, po56, sa56⟩,
    ⟨⟨pg56, hd56, po56, sa56⟩, ha56, hn56, ht56, hm56, me56⟩,
    n56_letters,
    n56_answers,
    n56_variables,
    n56_procedures,
    n56__names,
    n56__sizes,
    n56__sights,
    n56_places,
    n56__points,
    ⟨_, _, Fm56_0, ⟨mk56, am56_0, im56_0, kc56⟩, Fm56_0.binds (ps := ["self", "letters", "answers", "variables", "procedures"]) fun _ _ _ _ _ _ us hl => match us, hl with | [_, _, _, _, _], _ => rfl⟩,
    ⟨_, _, Fm56_1, ⟨am56_1, im56_1, km56_1⟩, Fm56_1.binds (ps := ["self", "procedure"]) fun _ _ _ _ _ _ us hl => match us, hl with | [_, _], _ => rfl⟩,
    ⟨_, _, Fm56_2, ⟨am56_2, im56_2, km56_2⟩, Fm56_2.binds (ps := ["self", "procedure"]) fun _ _ _ _ _ _ us hl => match us, hl with | [_, _], _ => rfl⟩,
    ⟨_, _, Fm56_3, ⟨am56_3, im56_3, km56_3⟩, Fm56_3.binds (ps := ["self", "procedure"]) fun _ _ _ _ _ _ us hl => match us, hl with | [_, _], _ => rfl⟩,
    ⟨_, _, Fm56_4, ⟨am56_4, im56_4, km56_4⟩, Fm56_4.binds (ps := ["self", "procedure"]) fun _ _ _ _ _ _ us hl => match us, hl with | [_, _], _ => rfl⟩,
    ⟨ta6, PySem.W.mg_of X G vc6, ktup_by vl6 vt6⟩,
    ⟨tc24, PySem.W.mg_of X G vc24⟩,
    ⟨tc25, PySem.W.mg_of X G vc25⟩,
    ⟨tc26, PySem.W.mg_of X G vc26⟩,
    ⟨tc29, PySem.W.mg_of X G vc29⟩,
    ⟨tc30, PySem.W.mg_of X G vc30⟩,
    ⟨tc31, PySem.W.mg_of X G vc31⟩,
    ⟨ta32, PySem.W.mg_of X G vc32, ktup_by vl32 vt32⟩,
    ⟨tc35, PySem.W.mg_of X G vc35⟩,
    ⟨tc36, PySem.W.mg_of X G vc36⟩,
    ⟨tc37, PySem.W.mg_of X G vc37⟩,
    ⟨tc38, PySem.W.mg_of X G vc38⟩,
    ⟨tc39, PySem.W.mg_of X G vc39⟩,
    ⟨tc40, PySem.W.mg_of X G vc40⟩,
    ⟨tc41, PySem.W.mg_of X G vc41⟩,
    ⟨tc42, PySem.W.mg_of X G vc42⟩,
    ⟨tc43, PySem.W.mg_of X G vc43⟩,
    ⟨tc44, PySem.W.mg_of X G vc44⟩,
    ⟨tc45, PySem.W.mg_of X G vc45⟩,
    PySem.W.mg_of X G g2,
    PySem.W.mg_of X G g3,
    PySem.W.mg_of X G g4,
    e1,
    e2,
    e3,
    e4,
    e5,
    e6,
    xC2,
    xC3,
    ox4,
    ⟨I4, cc4, cda4, _, qu4, ⟨⟨_, _, _, _, _, _, _, _, _, rfl, lI4⟩, cI4, ⟨_, _, _, _, _, _, lD4, vD4, fD4⟩, ⟨_, _, _, lc4⟩, ox4, ix4.1, ix4.2.1, ix4.2.2.1, opq, ix4.2.2.2.1, PySem.W.mg_none_of X G z13, rfl, tp⟩, iC4, tI4, .all fun us hl => match us, hl with | [_, _], _ => rfl⟩,
    ix4.2.2.2.1⟩
  refine ⟨PySem.W.fnOf "law" "law" (defArgs s_law) (defBody s_law) (defScope s_law) .none kV55 dc55 pm55 an55 cd55 ct55, fun s v => .of_eq rfl, fun base _ _ => ?_⟩
  exact ok_law (P := l.prog) (w := w) (base := base) T F55
end Pf
open PySem PySem.W PyProof.Rows
set_option maxRecDepth 100000 in
set_option maxHeartbeats 0 in
theorem PySem.Challenge.cw_allmends_k05_points_and_next_holds : PySem.Challenge.rw_allmends_k05_points_and_next.Holds := by
  w_on; o_law; k_head; (case hw => w_witness2)
  k_fill
  refine L2.walk_of (l := PySem.Challenge.rw_allmends_k05_points_and_next) (n := 63) (k := 33) (x := "script") (CX := fun _ => L2.CX0) (sp := fun w => Pf.sp_law _) rfl (by decide) rfl ⟨rfl, by decide, by decide⟩ (fun w h Y => PySem.W.kIn_of Y) ?F (fun _ _ a ns hl _ hS => ⟨a, ns, rfl, hS, hl, fun _ => rfl⟩) (fun _ _ _ _ _ h => h)
  case F =>
    intro w mg fa h KX G hmg
    refine' Pf.all_mk KX G hmg ?a0 ?l0 ?c0 ?k0 ?a1 ?l1 ?c1 ?k1 ?a2 ?l2 ?c2 ?k2 ?a3 ?l3 ?c3 ?k3 ?a4 ?l4 ?c4 ?k4 ?a5 ?l5 ?c5 ?k5 ?a6 ?l6 ?c6 ?k6 ?a7 ?l7 ?c7 ?k7 ?a8 ?l8 ?c8 ?k8 ?a9 ?l9 ?c9 ?k9 ?a10 ?l10 ?c10 ?k10 ?a11 ?l11 ?c11 ?k11 ?a12 ?l12 ?c12 ?k12 ?a13 ?l13 ?c13 ?k13 ?a14 ?l14 ?c14 ?k14 ?a15 ?l15 ?c15 ?k15 ?a16 ?l16 ?c16 ?k16 ?a17 ?l17 ?c17 ?k17 ?a18 ?l18 ?c18 ?k18 ?a19 ?l19 ?c19 ?k19 ?a20 ?l20 ?c20 ?k20 ?a21 ?l21 ?c21 ?k21 ?a22 ?l22 ?c22 ?k22 ?a23 ?l23 ?c23 ?k23 ?a24 ?l24 ?c24 ?k24 ?a25 ?l25 ?c25 ?k25 ?a26 ?l26 ?c26 ?k26 ?a27 ?l27 ?c27 ?k27 ?a28 ?l28 ?c28 ?k28 ?a29 ?l29 ?c29 ?k29 ?a30 ?l30 ?c30 ?k30 ?a31 ?l31 ?c31 ?k31 ?a32 ?l32 ?c32 ?k32 ?a33 ?l33 ?c33 ?k33 ?a34 ?l34 ?c34 ?k34 ?a35 ?l35 ?c35 ?k35 ?a36 ?l36 ?c36 ?k36 ?a37 ?l37 ?c37 ?k37 ?a38 ?l38 ?c38 ?k38 ?a39 ?l39 ?c39 ?k39 ?a40 ?l40 ?c40 ?k40 ?a41 ?l41 ?c41 ?k41 ?a42 ?l42 ?c42 ?k42 ?a43 ?l43 ?c43 ?k43 ?a44 ?l44 ?c44 ?k44 ?a45 ?l45 ?c45 ?k45 ?a46 ?l46 ?c46 ?k46 ?a47 ?l47 ?c47 ?k47 ?a48 ?l48 ?c48 ?k48 ?a49 ?l49 ?c49 ?k49 ?a50 ?l50 ?c50 ?k50 ?a51 ?l51 ?c51 ?k51 ?a52 ?l52 ?c52 ?k52 ?a53 ?l53 ?c53 ?k53 ?a54 ?l54 ?c54 ?k54 ?a55 ?l55 ?c55 ?k55 ?g56 ?pg56 ?hd56 ?po56 ?sa56 ?mk56 ?kc56 ?ha56 ?hn56 ?ht56 ?hm56 ?me56 ?n56_letters ?n56_answers ?n56_variables ?n56_procedures ?n56__names ?n56__sizes ?n56__sights ?n56_places ?n56__points ?am56_0 ?im56_0 ?lm56_0 ?cm56_0 ?km56_0 ?am56_1 ?im56_1 ?lm56_1 ?cm56_1 ?km56_1 ?am56_2 ?im56_2 ?lm56_2 ?cm56_2 ?km56_2 ?am56_3 ?im56_3 ?lm56_3 ?cm56_3 ?km56_3 ?am56_4 ?im56_4 ?lm56_4 ?cm56_4 ?km56_4 ?vc6 ?vl6 ?vt6 ?vc24 ?vc25 ?vc26 ?vc29 ?vc30 ?vc31 ?vc32 ?vl32 ?vt32 ?vc35 ?vc36 ?vc37 ?vc38 ?vc39 ?vc40 ?vc41 ?vc42 ?vc43 ?vc44 ?vc45 ?z0 ?z1 ?z2 ?z3 ?z4 ?z5 ?z6 ?z7 ?z8 ?z9 ?z10 ?z11 ?z12 ?z13 ?z14 ?z15 ?g2 ?g3 ?g4 ?eB2 ?eB ?opq ?tp ?xC2 ?xC3 ?oC4 ?rv4 ?ib4 ?iC4 ?tI4 ?lI4 ?cI4 ?lD4 ?vD4 ?fD4 ?lc4
    (case a0 => k_is); (case l0 => k_is); (case c0 => k_is); (case k0 => k_is); (case a1 => k_is); (case l1 => k_is)
    (case c1 => k_is); (case k1 => k_is); (case a2 => k_is); (case l2 => k_is); (case c2 => k_is); (case k2 => k_is)
    (case a3 => k_is); (case l3 => k_is); (case c3 => k_is); (case k3 => k_is); (case a4 => k_is); (case l4 => k_is)
    (case c4 => k_is); (case k4 => k_is); (case a5 => k_is); (case l5 => k_is); (case c5 => k_is); (case k5 => k_is)
    (case a6 => k_is); (case l6 => k_is); (case c6 => k_is); (case k6 => k_is); (case a7 => k_is); (case l7 => k_is)
    (case c7 => k_is); (case k7 => k_is); (case a8 => k_is); (case l8 => k_is); (case c8 => k_is); (case k8 => k_is)
    (case a9 => k_is); (case l9 => k_is); (case c9 => k_is); (case k9 => k_is); (case a10 => k_is); (case l10 => k_is)
    (case c10 => k_is); (case k10 => k_is); (case a11 => k_is); (case l11 => k_is); (case c11 => k_is); (case k11 => k_is)
    (case a12 => k_is); (case l12 => k_is); (case c12 => k_is); (case k12 => k_is); (case a13 => k_is); (case l13 => k_is)
    (case c13 => k_is); (case k13 => k_is); (case a14 => k_is); (case l14 => k_is); (case c14 => k_is); (case k14 => k_is)
    (case a15 => k_is); (case l15 => k_is); (case c15 => k_is); (case k15 => k_is); (case a16 => k_is); (case l16 => k_is)
    (case c16 => k_is); (case k16 => k_is); (case a17 => k_is); (case l17 => k_is); (case c17 => k_is); (case k17 => k_is)
    (case a18 => k_is); (case l18 => k_is); (case c18 => k_is); (case k18 => k_is); (case a19 => k_is); (case l19 => k_is)
    (case c19 => k_is); (case k19 => k_is); (case a20 => k_is); (case l20 => k_is); (case c20 => k_is); (case k20 => k_is)
    (case a21 => k_is); (case l21 => k_is); (case c21 => k_is); (case k21 => k_is); (case a22 => k_is); (case l22 => k_is)
    (case c22 => k_is); (case k22 => k_is); (case a23 => k_is); (case l23 => k_is); (case c23 => k_is); (case k23 => k_is)
    (case a24 => k_is); (case l24 => k_is); (case c24 => k_is); (case k24 => k_is); (case a25 => k_is); (case l25 => k_is)
    (case c25 => k_is); (case k25 => k_is); (case a26 => k_is); (case l26 => k_is); (case c26 => k_is); (case k26 => k_is)
    (case a27 => k_is); (case l27 => k_is); (case c27 => k_is); (case k27 => k_is); (case a28 => k_is); (case l28 => k_is)
    (case c28 => k_is); (case k28 => k_is); (case a29 => k_is); (case l29 => k_is); (case c29 => k_is); (case k29 => k_is)
    (case a30 => k_is); (case l30 => k_is); (case c30 => k_is); (case k30 => k_is); (case a31 => k_is); (case l31 => k_is)
    (case c31 => k_is); (case k31 => k_is); (case a32 => k_is); (case l32 => k_is); (case c32 => k_is); (case k32 => k_is)
    (case a33 => k_is); (case l33 => k_is); (case c33 => k_is); (case k33 => k_is); (case a34 => k_is); (case l34 => k_is)
    (case c34 => k_is); (case k34 => k_is); (case a35 => k_is); (case l35 => k_is); (case c35 => k_is); (case k35 => k_is)
    (case a36 => k_is); (case l36 => k_is); (case c36 => k_is); (case k36 => k_is); (case a37 => k_is); (case l37 => k_is)
    (case c37 => k_is); (case k37 => k_is); (case a38 => k_is); (case l38 => k_is); (case c38 => k_is); (case k38 => k_is)
    (case a39 => k_is); (case l39 => k_is); (case c39 => k_is); (case k39 => k_is); (case a40 => k_is); (case l40 => k_is)
    (case c40 => k_is); (case k40 => k_is); (case a41 => k_is); (case l41 => k_is); (case c41 => k_is); (case k41 => k_is)
    (case a42 => k_is); (case l42 => k_is); (case c42 => k_is); (case k42 => k_is); (case a43 => k_is); (case l43 => k_is)
    (case c43 => k_is); (case k43 => k_is); (case a44 => k_is); (case l44 => k_is); (case c44 => k_is); (case k44 => k_is)
    (case a45 => k_is); (case l45 => k_is); (case c45 => k_is); (case k45 => k_is); (case a46 => k_is); (case l46 => k_is)
    (case c46 => k_is); (case k46 => k_is); (case a47 => k_is); (case l47 => k_is); (case c47 => k_is); (case k47 => k_is)
    (case a48 => k_is); (case l48 => k_is); (case c48 => k_is); (case k48 => k_is); (case a49 => k_is); (case l49 => k_is)
    (case c49 => k_is); (case k49 => k_is); (case a50 => k_is); (case l50 => k_is); (case c50 => k_is); (case k50 => k_is)
    (case a51 => k_is); (case l51 => k_is); (case c51 => k_is); (case k51 => k_is); (case a52 => k_is); (case l52 => k_is)
    (case c52 => k_is); (case k52 => k_is); (case a53 => k_is); (case l53 => k_is); (case c53 => k_is); (case k53 => k_is)
    (case a54 => k_is); (case l54 => k_is); (case c54 => k_is); (case k54 => k_is); (case a55 => k_is); (case l55 => k_is)
    (case c55 => k_is); (case k55 => k_is); (case g56 => k_is); (case pg56 => k_is); (case hd56 => k_is); (case po56 => k_is)
    (case sa56 => k_is); (case mk56 => k_is); (case kc56 => k_is); (case ha56 => k_is); (case hn56 => k_is); (case ht56 => k_is)
    (case hm56 => k_is); (case me56 => kernel_rfl); (case n56_letters => k_is); (case n56_answers => k_is); (case n56_variables => k_is); (case n56_procedures => k_is)
    (case n56__names => k_is); (case n56__sizes => k_is); (case n56__sights => k_is); (case n56_places => k_is); (case n56__points => k_is); (case am56_0 => k_is)
    (case im56_0 => k_is); (case lm56_0 => k_is); (case cm56_0 => k_is); (case km56_0 => k_is); (case am56_1 => k_is); (case im56_1 => k_is)
    (case lm56_1 => k_is); (case cm56_1 => k_is); (case km56_1 => k_is); (case am56_2 => k_is); (case im56_2 => k_is); (case lm56_2 => k_is)
    (case cm56_2 => k_is); (case km56_2 => k_is); (case am56_3 => k_is); (case im56_3 => k_is); (case lm56_3 => k_is); (case cm56_3 => k_is)
    (case km56_3 => k_is); (case am56_4 => k_is); (case im56_4 => k_is); (case lm56_4 => k_is); (case cm56_4 => k_is); (case km56_4 => k_is)
    (case vc6 => k_is); (case vl6 => k_is); (case vt6 => decide +kernel); (case vc24 => k_is); (case vc25 => k_is); (case vc26 => k_is)
    (case vc29 => k_is); (case vc30 => k_is); (case vc31 => k_is); (case vc32 => k_is); (case vl32 => k_is); (case vt32 => decide +kernel)
    (case vc35 => k_is); (case vc36 => k_is); (case vc37 => k_is); (case vc38 => k_is); (case vc39 => k_is); (case vc40 => k_is)
    (case vc41 => k_is); (case vc42 => k_is); (case vc43 => k_is); (case vc44 => k_is); (case vc45 => k_is); (case z0 => k_is)
    (case z1 => k_is); (case z2 => k_is); (case z3 => k_is); (case z4 => k_is); (case z5 => k_is); (case z6 => k_is)
    (case z7 => k_is); (case z8 => k_is); (case z9 => k_is); (case z10 => k_is); (case z11 => k_is); (case z12 => k_is)
    (case z13 => k_is); (case z14 => k_is); (case z15 => k_is); (case g2 => k_is); (case g3 => k_is); (case g4 => k_is)
    (case eB2 => kernel_rfl); (case eB => kernel_rfl); (case opq => first | k_is | kernel_rfl); (case tp => rfl); (case xC2 => kernel_rfl); (case xC3 => kernel_rfl)
    (case oC4 => k_is); (case rv4 => decide +kernel); (case ib4 => kernel_rfl); (case iC4 => k_is); (case tI4 => k_is); (case lI4 => k_is)
    (case cI4 => k_is); (case lD4 => k_is); (case vD4 => rfl); (case fD4 => decide +kernel); (case lc4 => k_is)
