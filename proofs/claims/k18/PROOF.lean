import PyProof.Rows.All
import Wide.All
import OpenK.AllK
import Wide.FinOn
import HandS.ForMost
import HandS.IsInst
import HandS.Strs
import HandS.Defaults
import HandS.WideBits
import HandS.SetBool
import HandS.DictComp
import HandS.Codes
import HandS.Style
import HandS.Walk
import HandS.More
import KE.SortData
import HandS.Star
import PyProof.TupleOfSeq
import HandS.SetFor
import HandS.WordsDict
import HandS.ExcOwn
import HandS.ExcValue
import HandS.TupAny
import PySem.Challenge.RW_allmends_k18_transversals_twice
set_option Elab.async false
set_option linter.all false
set_option maxRecDepth 100000
set_option maxHeartbeats 4000000
namespace Pf
open PySem PySem.Spec PyProof.Rows L2
def topS (i : Nat) : Stmt := PySem.Challenge.pw_allmends_k18_transversals_twice.main.body.getD i (.Pass ⟨0, 0, 0, 0⟩)
abbrev s_minimal : Stmt := topS 1
theorem sc_minimal : FnScope ["sets", "members", "masks", "one", "other"] ["sets"] (defScope s_minimal) := ⟨rfl, rfl, rfl, by decide +kernel, rfl, by decide +kernel, by decide +kernel⟩
abbrev s_transversals : Stmt := topS 2
theorem sc_transversals : FnScope ["sets", "members", "found", "mask"] ["sets"] (defScope s_transversals) := ⟨rfl, rfl, rfl, by decide +kernel, rfl, by decide +kernel, by decide +kernel⟩
abbrev s_meeting : Stmt := topS 3
theorem sc_meeting : FnScope ["found", "mask", "met", "grown", "one", "bit", "other"] ["found", "mask"] (defScope s_meeting) := ⟨rfl, rfl, rfl, by decide +kernel, rfl, by decide +kernel, by decide +kernel⟩
abbrev s_members_of : Stmt := topS 4
theorem sc_members_of : FnScope ["sets", "one", "member"] ["sets"] (defScope s_members_of) := ⟨rfl, rfl, rfl, by decide +kernel, rfl, by decide +kernel, by decide +kernel⟩
abbrev s_distinct_masks : Stmt := topS 5
theorem sc_distinct_masks : FnScope ["sets", "members", "member", "bits", "masks", "one", "mask", "index"] ["sets", "members"] (defScope s_distinct_masks) := ⟨rfl, rfl, rfl, by decide +kernel, rfl, by decide +kernel, by decide +kernel⟩
abbrev s_lies_in : Stmt := topS 6
theorem sc_lies_in : FnScope ["one", "other"] ["one", "other"] (defScope s_lies_in) := ⟨rfl, rfl, rfl, by decide +kernel, rfl, by decide +kernel, by decide +kernel⟩
abbrev s_bits_of : Stmt := topS 7
theorem sc_bits_of : FnScope ["mask", "index"] ["mask"] (defScope s_bits_of) := ⟨rfl, rfl, rfl, by decide +kernel, rfl, by decide +kernel, by decide +kernel⟩
abbrev s_listed : Stmt := topS 8
theorem sc_listed : FnScope ["masks", "members", "mask", "index", "member"] ["masks", "members"] (defScope s_listed) := ⟨rfl, rfl, rfl, by decide +kernel, rfl, by decide +kernel, by decide +kernel⟩
abbrev s_in_order : Stmt := topS 9
theorem sc_in_order : FnScope ["sets", "size", "one"] ["sets"] (defScope s_in_order) := ⟨rfl, rfl, rfl, by decide +kernel, rfl, by decide +kernel, by decide +kernel⟩
abbrev s__law_cell : Stmt := topS 11
theorem sc__law_cell : FnScope ["script", "k"] ["script", "k"] (defScope s__law_cell) := ⟨rfl, rfl, rfl, by decide +kernel, rfl, by decide +kernel, by decide +kernel⟩
abbrev s__law_reader : Stmt := topS 12
theorem sc__law_reader : FnScope ["cell"] ["cell"] (defScope s__law_reader) := ⟨rfl, rfl, rfl, by decide +kernel, rfl, by decide +kernel, by decide +kernel⟩
abbrev s__law_next : Stmt := topS 13
theorem sc__law_next : FnScope ["reader", "size", "k", "rest", "mixed"] ["reader", "size"] (defScope s__law_next) := ⟨rfl, rfl, rfl, by decide +kernel, rfl, by decide +kernel, by decide +kernel⟩
abbrev s__law_integers : Stmt := topS 14
theorem sc__law_integers : FnScope ["reader", "many", "integers", "k", "integer"] ["reader", "many"] (defScope s__law_integers) := ⟨rfl, rfl, rfl, by decide +kernel, rfl, by decide +kernel, by decide +kernel⟩
abbrev s__law_sets : Stmt := topS 15
theorem sc__law_sets : FnScope ["reader", "integers", "many", "least", "most", "sets", "k", "kind", "members", "picks", "j"] ["reader", "integers", "many", "least", "most"] (defScope s__law_sets) := ⟨rfl, rfl, rfl, by decide +kernel, rfl, by decide +kernel, by decide +kernel⟩
abbrev s__law_drawn : Stmt := topS 16
theorem sc__law_drawn : FnScope ["reader", "shape", "least", "integers"] ["reader"] (defScope s__law_drawn) := ⟨rfl, rfl, rfl, by decide +kernel, rfl, by decide +kernel, by decide +kernel⟩
abbrev s__law_passed : Stmt := topS 17
theorem sc__law_passed : FnScope ["sets", "form", "rows", "members"] ["sets", "form"] (defScope s__law_passed) := ⟨rfl, rfl, rfl, by decide +kernel, rfl, by decide +kernel, by decide +kernel⟩
abbrev s__law_once : Stmt := topS 18
theorem sc__law_once : FnScope ["parts", "kept", "part"] ["parts"] (defScope s__law_once) := ⟨rfl, rfl, rfl, by decide +kernel, rfl, by decide +kernel, by decide +kernel⟩
abbrev s__law_lies : Stmt := topS 19
theorem sc__law_lies : FnScope ["part", "whole", "member"] ["part", "whole"] (defScope s__law_lies) := ⟨rfl, rfl, rfl, by decide +kernel, rfl, by decide +kernel, by decide +kernel⟩
abbrev s__law_in_order : Stmt := topS 20
theorem sc__law_in_order : FnScope ["rows", "pair", "row"] ["rows"] (defScope s__law_in_order) := ⟨rfl, rfl, rfl, by decide +kernel, rfl, by decide +kernel, by decide +kernel⟩
abbrev s__law_meets_all : Stmt := topS 21
theorem sc__law_meets_all : FnScope ["row", "sets", "members", "met", "member"] ["row", "sets"] (defScope s__law_meets_all) := ⟨rfl, rfl, rfl, by decide +kernel, rfl, by decide +kernel, by decide +kernel⟩
abbrev s__law_minimal : Stmt := topS 22
theorem sc__law_minimal : FnScope ["rows", "kept", "row", "other"] ["rows"] (defScope s__law_minimal) := ⟨rfl, rfl, rfl, by decide +kernel, rfl, by decide +kernel, by decide +kernel⟩
abbrev s__law_told : Stmt := topS 23
theorem sc__law_told : FnScope ["told", "due", "k", "row", "j"] ["told", "due"] (defScope s__law_told) := ⟨rfl, rfl, rfl, by decide +kernel, rfl, by decide +kernel, by decide +kernel⟩
abbrev s__law_stays : Stmt := topS 24
theorem sc__law_stays : FnScope ["passed", "sets", "k"] ["passed", "sets"] (defScope s__law_stays) := ⟨rfl, rfl, rfl, by decide +kernel, rfl, by decide +kernel, by decide +kernel⟩
abbrev s__law_fair : Stmt := topS 25
theorem sc__law_fair : FnScope ["told", "sets", "row", "member", "other"] ["told", "sets"] (defScope s__law_fair) := ⟨rfl, rfl, rfl, by decide +kernel, rfl, by decide +kernel, by decide +kernel⟩
abbrev s_law : Stmt := topS 26
theorem sc_law : FnScope ["script", "sets", "plain", "form", "passed", "first", "handed", "second", "members", "row"] ["script"] (defScope s_law) := ⟨rfl, rfl, rfl, by decide +kernel, rfl, by decide +kernel, by decide +kernel⟩
/-- a def as it stands behind the top -/
structure DefAt (K : PySem.W.Frag) (mg : Str → Option Value) (x : Str) (st : Stmt) (ps : List Str) : Prop where
  ex : ∃ (f : Addr) (fd : FuncData), Fun K x x st f fd ∧ mg x = some (.ref f) ∧ Binds K fd ps []
/-- what a caller needs of a def -/
def Has (P : Program) (w : World) (K : PySem.W.Frag) (mg : Str → Option Value) (base : Heap) (k : Nat) (x : Str) (ps : List Str) (sp : Sp) : Prop :=
  ∃ (f : Addr) (fd : FuncData), FnOk P w K mg base CX0 k f fd ps sp ∧ mg x = some (.ref f) ∧ PySem.W.keepIn K (.ref f) = true ∧ Binds K fd ps []
theorem Has.none {P : Program} {w : World} {K : PySem.W.Frag} {mg : Str → Option Value} {base : Heap} {k : Nat} {x : Str} {st : Stmt} {ps : List Str} {sp : Sp} (D : DefAt K mg x st ps) (no : ∀ vs H Q E, ¬ sp vs H Q E) : Has P w K mg base k x ps sp := by
  obtain ⟨f, fd, F, m, b⟩ := D.ex
  exact ⟨f, fd, ⟨fun vs H Q E h => absurd h (no vs H Q E), fun A outer s H args us vs Q E _ _ _ _ h => absurd h (no vs H Q E)⟩, m, F.kp, b⟩
theorem Has.mono {P : Program} {w : World} {K : PySem.W.Frag} {mg : Str → Option Value} {base : Heap} {j k : Nat} {x : Str} {ps : List Str} {sp : Sp} (h : Has P w K mg base j x ps sp) (l : j ≤ k) : Has P w K mg base k x ps sp := by
  obtain ⟨f, fd, F, r⟩ := h
  exact ⟨f, fd, F.mono l, r⟩
structure Txt (K : PySem.W.Frag) (mg : Str → Option Value) : Prop where
  z_all : mg "all" = none
  z_any : mg "any" = none
  z_bool : mg "bool" = none
  z_enumerate : mg "enumerate" = none
  z_int : mg "int" = none
  z_isinstance : mg "isinstance" = none
  z_len : mg "len" = none
  z_list : mg "list" = none
  z_min : mg "min" = none
  z_range : mg "range" = none
  z_sorted : mg "sorted" = none
  z_tuple : mg "tuple" = none
  d_minimal : DefAt K mg "minimal" s_minimal ["sets"]
  d_transversals : DefAt K mg "transversals" s_transversals ["sets"]
  d_meeting : DefAt K mg "meeting" s_meeting ["found", "mask"]
  d_members_of : DefAt K mg "members_of" s_members_of ["sets"]
  d_distinct_masks : DefAt K mg "distinct_masks" s_distinct_masks ["sets", "members"]
  d_lies_in : DefAt K mg "lies_in" s_lies_in ["one", "other"]
  d_bits_of : DefAt K mg "bits_of" s_bits_of ["mask"]
  d_listed : DefAt K mg "listed" s_listed ["masks", "members"]
  d_in_order : DefAt K mg "in_order" s_in_order ["sets"]
  d__law_cell : DefAt K mg "_law_cell" s__law_cell ["script", "k"]
  d__law_reader : DefAt K mg "_law_reader" s__law_reader ["cell"]
  d__law_next : DefAt K mg "_law_next" s__law_next ["reader", "size"]
  d__law_integers : DefAt K mg "_law_integers" s__law_integers ["reader", "many"]
  d__law_sets : DefAt K mg "_law_sets" s__law_sets ["reader", "integers", "many", "least", "most"]
  d__law_drawn : DefAt K mg "_law_drawn" s__law_drawn ["reader"]
  d__law_passed : DefAt K mg "_law_passed" s__law_passed ["sets", "form"]
  d__law_once : DefAt K mg "_law_once" s__law_once ["parts"]
  d__law_lies : DefAt K mg "_law_lies" s__law_lies ["part", "whole"]
  d__law_in_order : DefAt K mg "_law_in_order" s__law_in_order ["rows"]
  d__law_meets_all : DefAt K mg "_law_meets_all" s__law_meets_all ["row", "sets"]
  d__law_minimal : DefAt K mg "_law_minimal" s__law_minimal ["rows"]
  d__law_told : DefAt K mg "_law_told" s__law_told ["told", "due"]
  d__law_stays : DefAt K mg "_law_stays" s__law_stays ["passed", "sets"]
  d__law_fair : DefAt K mg "_law_fair" s__law_fair ["told", "sets"]
  d_law : DefAt K mg "law" s_law ["script"]
/-! ### further rules -/
section
variable {X : Cx}
/-- two derivations of one expression -/
theorem pe_alt {e : Expr} {t u : TE} (h1 : PE X e t) (h2 : PE X e u) : PE X e (fun σ H Q => t σ H Q ∨ u σ H Q) :=
  ⟨fun pins s σ H Q I h => h.elim (h1.run pins s σ H Q I) (h2.run pins s σ H Q I)⟩
/-- tuple(list): the new object is known to have no dict of its own -/
def rTupF (K : PySem.W.Frag) : List V → Hp → VK → Prop := fun xs H Q => ∃ p ys, xs = [.ref p] ∧ SqL K H p ys ∧ ∀ l o, H l = none → o.cls = .type "tuple" → o.dict = none → Q (.ref l) (upd H l (.frz o (.tup ys)))
theorem call_tupleF : CallR X (.type "tuple") (rTupF X.K) := by
  intro pins s σ H xs us Q I r h
  obtain ⟨p, ys, rfl, hq, q⟩ := h
  obtain ⟨u, rfl, rx⟩ := vals1 r
  cases rx
  obtain ⟨its, r', pl, hz⟩ := I.list hq
  have hlen := r'.length
  refine call_tuple_list pl.isList (fun h' kp => ?_) (by simp only [List.size_toArray] <;> omega)
  have I1 : Inv X pins σ H { s with heap := h' } := I.kept (t' := s.toks) kp
  have e1 : (h'.push { cls := .type "tuple", data := .seq its.toArray }).get? h'.objs.size = some { cls := .type "tuple", data := .seq its.toArray } := Heap.get?_push_size _ rfl
  have I2 : Inv X pins σ (upd H h'.objs.size (.frz { cls := .type "tuple", data := .seq its.toArray } (.tup ys))) { s with heap := h'.push { cls := .type "tuple", data := .seq its.toArray } } :=
    I1.laid (t' := s.toks) (fun b o e => Heap.get?_push_of_some _ e) (Nat.le_refl _) (show ObjOk X.prog X.w _ _ _ (.frz _ (.tup ys)) from ⟨e1, hz, its, r', IsTup.new _ _⟩)
  exact ⟨.ref h'.objs.size, _, I2, rfl, q _ _ (I1.hok.fresh (Nat.le_refl _)) rfl rfl⟩
/-- a method of a tuple that was made so -/
def tyF (x : V) (H : Hp) : Prop := ∃ p o xs, x = .ref p ∧ H p = some (.frz o (.tup xs)) ∧ o.cls = .type "tuple" ∧ o.dict = none
def tBMF (r : V → List V → Hp → VK → Prop) (to : TE) (t : TA) : TE := fun σ H Q => to σ H fun x H1 => tyF x H1 ∧ t σ H1 fun xs H2 => r x xs H2 Q
theorem pe_bmF {o e : Expr} {es : List Expr} {to : TE} {t : TA} {name : Str} {apos cpos : Pos} {id : String} {r : V → List V → Hp → VK → Prop}
    (pa : PlainAttrs "tuple") (slot : Slot "tuple" name id) (hty : typeOf (.builtin id) = pure (.type "method_descriptor")) (hm : MtR X id r) (ho : PE X o to) (ha : PA X (e :: es) t)
    (hbase : attributeBase o name X.env (eval o X.env) = eval o X.env := by rfl)
    (hfew : ((backTo cpos (starEach (e :: es) X.env)).all (fun x => !x.1) && (backToKw cpos (keywordEach [] X.env)).all (fun x => x.1.isSome)
      && decide ((e :: es).length + ([] : List Keyword).length + (if ([] : List Keyword).isEmpty then 0 else 1) < 30)) = true := by rfl)
    (hline : (apos.endLine == cpos.line) = true := by rfl) (hs : starEach (e :: es) X.env = (false, eval e X.env) :: starEach es X.env := by rfl) (hplain : (backTo cpos (starEach es X.env)).any (·.1) = false := by rfl) :
    PE X (.Call (.Attribute o name apos) (e :: es) [] cpos) (tBMF r to t) := by
  refine ⟨fun pins s σ H Q I h => ?_⟩
  refine wpAny_Call_method_late hbase hfew hline rfl (thn (ho.run pins s σ H _ I h) fun v s1 ⟨x, H1, I1, r1, ty, q1⟩ => ?_)
  obtain ⟨p, ob, ys, rfl, hp, hc, hd⟩ := ty
  obtain ⟨e1, _⟩ := I1.hok p _ hp
  cases r1
  refine ⟨"tuple", id, pa, slot, hty, ⟨ob, e1, hc⟩, fun a e => ?_, ?_⟩
  · cases e
    exact ⟨ob, e1, hd⟩
  have hA := ha.run cpos pins s1 σ H1 _ I1 q1
  rw [hs] at hA ⊢
  refine Calls.callWith_builtin (by show (false || (backTo cpos (starEach es X.env)).any (·.1)) = false; rw [hplain] <;> rfl) (Calls.evalArgs_plain ?_)
  exact thn hA fun us s2 ⟨vs, H2, I2, r2, q2⟩ => hm pins s2 σ H2 (.ref p) vs (.ref p) us Q I2 rfl r2 q2
/-- xs.index(y), xs a list or a tuple made by tuple(..) -/
theorem pe_index {o e : Expr} {to te : TE} {apos cpos : Pos} (ho : PE X o to) (he : PE X e te)
    (hbase : attributeBase o "index" X.env (eval o X.env) = eval o X.env := by rfl)
    (hfew : ((backTo cpos (starEach [e] X.env)).all (fun x => !x.1) && (backToKw cpos (keywordEach [] X.env)).all (fun x => x.1.isSome)
      && decide ([e].length + ([] : List Keyword).length + (if ([] : List Keyword).isEmpty then 0 else 1) < 30)) = true := by rfl)
    (hline : (apos.endLine == cpos.line) = true := by rfl) (hs : starEach [e] X.env = (false, eval e X.env) :: starEach [] X.env := by rfl) (hplain : (backTo cpos (starEach [] X.env)).any (·.1) = false := by rfl) :
    PE X (.Call (.Attribute o "index" apos) [e] [] cpos) (fun σ H Q =>
      tBM X.K "list" (rIndex X.K) to (tCons te tNil) σ H Q ∨
      tBMF (fun x xs H Q => ∃ p, ∃ ys : List Str, ∃ z j, x = .ref p ∧ xs = [.str z] ∧ SqT X.K H p (ys.map V.str) ∧ ys[j]? = some z ∧ (∀ m, m < j → ys[m]? ≠ some z) ∧ Q (.int (j : Nat)) H) to (tCons te tNil) σ H Q) :=
  pe_alt (pe_bm PySem.F.plainAttrs_list PySem.F.slot_list_index PySem.F.type_list_index mt_index ho (pa_cons he pa_nil (hs := hs)) hbase hfew hline hs hplain)
    (pe_bmF PySem.F.plainAttrs_tuple PySem.F.slot_tuple_index PySem.F.type_tuple_index mt_tup_index ho (pa_cons he pa_nil (hs := hs)) hbase hfew hline hs hplain)
end
/-! ### the rules that speak of the written part, for the element of a comprehension: the part is named -/
section
variable {X : Cx} {K : PySem.W.Frag}
theorem ix_listK (h : X.K = K) : IxR X (rIxL K) := h ▸ ix_list
theorem ix_tupK (h : X.K = K) : IxR X (rIxT K) := h ▸ ix_tup
theorem ix_seqK (h : X.K = K) : IxR X (rIx K) := h ▸ ix_seq
theorem op_in_seqK (h : X.K = K) : OpR X (compareOp .In) (rIn K false) := h ▸ op_in_seq
theorem op_notIn_seqK (h : X.K = K) : OpR X (compareOp .NotIn) (rIn K true) := h ▸ op_notIn_seq
theorem sl_listK (h : X.K = K) : SlR X (rSlL K) := h ▸ sl_list
theorem sl_tupK (h : X.K = K) : SlR X (rSlT K) := h ▸ sl_tup
theorem call_isiK' (h : X.K = K) : CallR X (.builtin "isinstance") (rIsi K) := h ▸ call_isi
theorem call_len_seqK (h : X.K = K) : CallR X (.builtin "len") (fun xs H Q => ∃ p ys, xs = [.ref p] ∧ (SqL K H p ys ∨ SqT K H p ys) ∧ Q (.int ys.length) H) := h ▸ call_len_seq
end
section
variable {X : Cx}
/-- two derivations of one walk -/
theorem pi_alt {tg e : Expr} {t u : TI} (h1 : PI X tg e t) (h2 : PI X tg e u) : PI X tg e (fun σ H R => t σ H R ∨ u σ H R) :=
  ⟨fun pins s σ H R I h => h.elim (h1.run pins s σ H R I) (h2.run pins s σ H R I)⟩
end
section
variable {X : Cx} {K : PySem.W.Frag}
theorem pi_listK {tg l : Expr} {tl : TE} (h : X.K = K) (hl : PE X l tl) : PI X tg l (iList K tl) := h ▸ pi_list hl
theorem pi_tupK {tg l : Expr} {tl : TE} (h : X.K = K) (hl : PE X l tl) : PI X tg l (iTup K tl) := h ▸ pi_tup hl
theorem call_list_ofK (h : X.K = K) : CallR X (.type "list") (fun xs H Q => ∃ p ys, xs = [.ref p] ∧ (SqL K H p ys ∨ SqT K H p ys) ∧ ∀ l, H l = none → Q (.ref l) (upd H l (.lst ys))) := h ▸ call_list_of
end
section
variable {X : Cx} {K : PySem.W.Frag}
theorem pg_tupK {es : List Expr} {k : Nat} {t : TGs} {n : Nat} {pos : Pos} (h : X.K = K) (hc : X.calm = true) (hp : PGs X es t)
    (hn : (assignEach es X.env).length = n := by rfl) (hst : (assignEach es X.env).findIdx? (·.1) = none := by rfl) : PG X (.Tuple es k pos) (gTup K n t) := h ▸ pg_tup hc hp hn hst
end
/-! ### heaps: everything but what stands at r is as it was -/
def Fr (r : Addr) (H H' : Hp) : Prop := ∀ b o, b ≠ r → H b = some o → H' b = some o
theorem Fr.refl (r : Addr) (H : Hp) : Fr r H H := fun _ _ _ h => h
theorem Fr.trans {r : Addr} {H H1 H2 : Hp} (a : Fr r H H1) (b : Fr r H1 H2) : Fr r H H2 := fun c o n h => b c o n (a c o n h)
theorem Fr.of {r : Addr} {H H' : Hp} (a : Same H H') : Fr r H H' := fun c o _ h => a c o h
theorem Fr.new {r p : Addr} {H : Hp} {o : HO} (h : H p = none) : Fr r H (upd H p o) := fun b u _ e => by
  rw [upd_ne (ne_of_none e h)]
  exact e
theorem Fr.upd {r : Addr} {H : Hp} {o : HO} : Fr r H (upd H r o) := fun b u n e => by
  rw [upd_ne n]
  exact e
theorem Fr.mut {r p : Addr} {H H' : Hp} {o : HO} (a : Fr r H H') (h : H p = none) : Fr r H (L2.upd H' p o) := fun b u n e => by
  rw [upd_ne (ne_of_none e h)]
  exact a b u n e
theorem Fr.seq {K : PySem.W.Frag} {r : Addr} {H H' : Hp} {a : Addr} {xs : List V} (e : Fr r H H') (n : a ≠ r) (h : SqL K H a xs) : SqL K H' a xs := by
  rcases h with (h | ⟨o, h⟩) | h
  · exact .inl (.inl (e _ _ n h))
  · exact .inl (.inr ⟨o, e _ _ n h⟩)
  · exact .inr h
theorem same_new {H : Hp} {p : Addr} {o : HO} (h : H p = none) : Same H (upd H p o) := fun b u e => by
  rw [upd_ne (ne_of_none e h)]
  exact e
theorem same_mut {H H' : Hp} {p : Addr} {o : HO} (a : Same H H') (h : H p = none) : Same H (upd H' p o) := fun b u e => by
  rw [upd_ne (ne_of_none e h)]
  exact a b u e
theorem same_back {H H' : Hp} {p : Addr} (e : Same H H') (h : H' p = none) : H p = none := e.free h
/-- what tuples stood, stands -/
def Tp (H H' : Hp) : Prop := ∀ b xs, H b = some (.tup xs) → H' b = some (.tup xs)
theorem Tp.refl (H : Hp) : Tp H H := fun _ _ h => h
theorem Tp.trans {H H1 H2 : Hp} (a : Tp H H1) (b : Tp H1 H2) : Tp H H2 := fun c o h => b c o (a c o h)
theorem tps {H H' : Hp} (a : Same H H') : Tp H H' := fun b xs h => a b _ h
theorem tpn {H : Hp} {p : Addr} {o : HO} (h : H p = none) : Tp H (upd H p o) := tps (same_new h)
/-! ### a reader: a list of three ints -/
def RD (H : Hp) (r : Addr) : Prop := ∃ c k d : Int, H r = some (.lst [.int c, .int k, .int d])
theorem RD.of {H H' : Hp} {r : Addr} (h : RD H r) (e : Same H H') : RD H' r := by
  obtain ⟨c, k, d, h⟩ := h
  exact ⟨c, k, d, e _ _ h⟩
theorem RD.ne {H : Hp} {r p : Addr} (h : RD H r) (n : H p = none) : p ≠ r := by
  obtain ⟨c, k, d, h⟩ := h
  exact fun e => by
    subst e
    rw [n] at h
    cases h
theorem Fr.tp {r : Addr} {H H' : Hp} (a : Fr r H H') (h : RD H r) : Tp H H' := fun b xs e => by
  refine a b _ (fun z => ?_) e
  subst z
  obtain ⟨c, k, d, h⟩ := h
  rw [h] at e
  cases e
theorem Fr.free {r p : Addr} {H H' : Hp} (a : Fr r H H') (h : RD H r) (h' : RD H' r) (n : H' p = none) : H p = none := by
  cases q : H p with
  | none => rfl
  | some o =>
    have z := a p o (h'.ne n) q
    rw [n] at z
    cases z
/-! ### items -/
theorem at_in {α : Type} {xs : List α} {i : Int} (h0 : 0 ≤ i) (h : i < (xs.length : Int)) : ∃ x, xs[i.toNat]? = some x ∧ atI xs i = some x := by
  obtain ⟨n, rfl⟩ := Int.eq_ofNat_of_zero_le h0
  have h1 : n < xs.length := by omega
  have h2 : xs[n]? = some xs[n] := List.getElem?_eq_getElem h1
  exact ⟨xs[n], by simpa using h2, atI_nat h2⟩
theorem int_of_bl {i j : Int} (h : decide (V.int i = V.int j) = true) : i = j := V.int.inj (of_decide_eq_true h)
theorem int_ne_bl {i j : Int} (h : ¬ decide (V.int i = V.int j) = true) : i ≠ j := fun e => h (decide_eq_true (congrArg V.int e))
theorem dec_t {p : Prop} [Decidable p] (h : decide p = true) : p := of_decide_eq_true h
theorem dec_f {p : Prop} [Decidable p] (h : ¬ decide p = true) : ¬ p := fun z => h (decide_eq_true z)
theorem mod_lt {i n : Int} (h : 0 < n) : 0 ≤ i % n ∧ i % n < n := ⟨Int.emod_nonneg i (by omega), Int.emod_lt_of_pos i h⟩
theorem cut_to (xs : List V) (n : Nat) : cutV xs none (some (n : Int)) = xs.take n := by
  unfold cutV
  rw [HT.sIx_none, show HT.sIx xs.length xs.length (some (n : Int)) = min n xs.length from HT.sIx_nat xs.length xs.length n, Nat.sub_zero, List.drop_zero]
  by_cases h : n ≤ xs.length
  · rw [Nat.min_eq_left h]
  · rw [Nat.min_eq_right (by omega), List.take_length, List.take_of_length_le (by omega)]
theorem cut_from (xs : List V) (n : Nat) : cutV xs (some (n : Int)) none = xs.drop n := by
  unfold cutV
  rw [HT.sIx_none, show HT.sIx xs.length 0 (some (n : Int)) = min n xs.length from HT.sIx_nat xs.length 0 n]
  by_cases h : n ≤ xs.length
  · rw [Nat.min_eq_left h]
    exact List.take_of_length_le (by rw [List.length_drop]; exact Nat.le_refl _)
  · rw [Nat.min_eq_right (by omega), Nat.sub_self, List.take_zero, List.drop_of_length_le (by omega)]
theorem cutS_len (z : Str) (lo hi : Option Int) : (cutS z lo hi).length ≤ z.length := by
  show (List.toArray _).size ≤ z.cps.size
  rw [List.size_toArray, List.length_take, List.length_drop, Array.length_toList]
  omega
theorem str_at {z : Str} {i : Int} (h0 : 0 ≤ i) (h : i < (z.length : Int)) : ∃ c, atI z.cps.toList i = some c := by
  obtain ⟨c, _, e⟩ := at_in (xs := z.cps.toList) h0 (by rw [Array.length_toList]; exact h)
  exact ⟨c, e⟩
/-- what stood before r was laid -/
theorem Fr.back {r : Addr} {H0 H H' : Hp} (f : Fr r H H') (s : Same H0 H) (n : H0 r = none) : Same H0 H' := fun b o e => f b o (ne_of_none e n) (s b o e)
/-! ### texts of true signs -/
theorem sok_iff {x : Str} : PyData.strOk x = true ↔ ∀ c ∈ x.cps.toList, c < 0x110000 := by
  unfold PyData.strOk
  rw [← Array.all_toList, List.all_eq_true]
  constructor
  · intro h c hc
    exact of_decide_eq_true (h c hc)
  · intro h c hc
    exact decide_eq_true (h c hc)
theorem sok_app {x y : Str} (hx : PyData.strOk x = true) (hy : PyData.strOk y = true) : PyData.strOk (x ++ y) = true := by
  rw [sok_iff] at hx hy ⊢
  intro c hc
  have e : (x ++ y).cps.toList = x.cps.toList ++ y.cps.toList := Array.toList_append
  rw [e] at hc
  rcases List.mem_append.mp hc with h | h
  · exact hx c h
  · exact hy c h
theorem atI_mem {α : Type} {xs : List α} {i : Int} {x : α} (h : atI xs i = some x) : x ∈ xs := by
  unfold atI at h
  cases e : ixN xs.length i with
  | none => rw [e] at h; cases h
  | some j =>
    rw [e] at h
    exact List.mem_of_getElem? (show xs[j]? = some x from h)
theorem sok_one {z : Str} {i : Int} {c : Nat} (h : atI z.cps.toList i = some c) (hz : PyData.strOk z = true) : PyData.strOk ⟨#[c]⟩ = true := by
  rw [sok_iff] at hz ⊢
  intro d hd
  have e : d = c := by simpa using hd
  subst e
  exact hz d (atI_mem h)
theorem sok_cut {z : Str} {lo hi : Option Int} (hz : PyData.strOk z = true) : PyData.strOk (cutS z lo hi) = true := by
  rw [sok_iff] at hz ⊢
  intro d hd
  have e : d ∈ (z.cps.toList.drop (HT.sIx z.length 0 lo)).take (HT.sIx z.length z.length hi - HT.sIx z.length 0 lo) := by simpa [cutS] using hd
  exact hz d (List.mem_of_mem_drop (List.mem_of_mem_take e))
theorem one_len (c : Nat) : (⟨#[c]⟩ : Str).length = 1 := rfl
theorem app_len (x y : Str) : (x ++ y).length = x.length + y.length := by
  show (x.cps ++ y.cps).size = _
  rw [Array.size_append]
  rfl
theorem line_small {n : Nat} (h : n ≤ 100000) : n ≤ sizeLine := Nat.le_trans h (by decide)
theorem map_at {α β : Type} {f : α → β} {xs : List α} {j : Nat} {x : α} (h : xs[j]? = some x) : (xs.map f)[j]? = some (f x) := by
  rw [List.getElem?_map, h]
  rfl

end Pf

namespace Pf
open PySem PySem.Spec PyProof.Rows L2
section
variable {P : Program} {w : World} {K : PySem.W.Frag} {mg : Str → Option Value} {base : Heap}
def sp__law_cell (K : PySem.W.Frag) : Sp := fun vs H Q _ => ∃ (a : Addr) (ns : List Int) (j : Nat), vs = [.ref a, .int (j : Int)] ∧ SqL K H a (ns.map V.int) ∧ ∀ c : Int, Q (.int c) H
theorem ok__law_cell (T : Txt K mg) : Has P w K mg base 1 "_law_cell" ["script", "k"] (sp__law_cell K) := by
  obtain ⟨f, fd, F, m, b⟩ := T.d__law_cell.ex
  refine ⟨f, fd, F.ok sc__law_cell (fun vs H Q E h => ?_) (fun cdv A outer s H vs Q E hr h => ?_), m, F.kp, b⟩
  · obtain ⟨a, ns, j, rfl, hS, q⟩ := h
    rfl
  obtain ⟨a, ns, j, rfl, hS, q⟩ := h
  refine ⟨_, (pss_cons (ps_if (pt_cmpR op_lt (pv 1) (pe_callB call_len_seq (by rfl) T.z_len (by decide +kernel) (pa_cons (pv 0) pa_nil)) (nomark _))
      (pss_one (ps_ret (pe_ix ix_list (pv 0) (pv 1) (fun _ _ => rfl))))
      pss_nil)
      (pss_one (ps_ret pe_int))), ?_⟩
  refine ⟨_, rfl, _, rfl, a, _, rfl, .inl hS, _, _, rfl, rfl, _, rfl, ite2 (fun e => ?_) (fun e => ?_)⟩
  · have e1 := dec_t e
    obtain ⟨x, h1, h2⟩ := at_in (xs := ns.map V.int) (i := (j : Int)) (by omega) e1
    rw [List.getElem?_map] at h1
    cases h3 : ns[(j : Int).toNat]? with
    | none => rw [h3] at h1; cases h1
    | some c =>
      rw [h3] at h1
      cases h1
      exact ⟨_, rfl, _, rfl, a, _, _, _, rfl, rfl, hS, h2, q c⟩
  · exact q 0

def sp__law_reader (K : PySem.W.Frag) : Sp := fun vs H Q _ => ∃ (c : Int), vs = [.int c] ∧ ∀ (p : Addr) H', H p = none → Same H H' → RD H' p → Q (.ref p) H'
theorem ok__law_reader (T : Txt K mg) : Has P w K mg base 1 "_law_reader" ["cell"] (sp__law_reader K) := by
  obtain ⟨f, fd, F, m, b⟩ := T.d__law_reader.ex
  refine ⟨f, fd, F.ok sc__law_reader (fun vs H Q E h => ?_) (fun cdv A outer s H vs Q E hr h => ?_), m, F.kp, b⟩
  · obtain ⟨c, rfl, q⟩ := h
    rfl
  obtain ⟨c, rfl, q⟩ := h
  refine ⟨_, (pss_one (ps_ret (pe_lst (pa_cons (pv 0) (pa_cons pe_int (pa_cons (pe_op op_sub (pv 0) (pe_op op_pow pe_int pe_int)) pa_nil)))))), ?_⟩
  refine ⟨_, rfl, _, rfl, _, _, rfl, rfl, ⟨by decide, by decide, by decide⟩, _, _, rfl, rfl, by show 3 ≤ sizeLine; decide, fun p hp => ?_⟩
  exact q p _ hp (same_new hp) ⟨_, _, _, upd_same⟩


end
end Pf

namespace Pf
open PySem PySem.Spec PyProof.Rows L2
section
variable {P : Program} {w : World} {K : PySem.W.Frag} {mg : Str → Option Value} {base : Heap}
def sp__law_next (K : PySem.W.Frag) : Sp := fun vs H Q _ => ∃ (r : Addr) (n : Int), vs = [.ref r, .int n] ∧ RD H r ∧ 0 < n ∧ n < 1073741824 ∧ ∀ (v : Int) H', Fr r H H' → RD H' r → 0 ≤ v → v < n → Q (.int v) H'
theorem g0 {x y z : V} : atI [x, y, z] 0 = some x := atI_nat (j := 0) rfl
theorem g1 {x y z : V} : atI [x, y, z] 1 = some y := atI_nat (j := 1) rfl
theorem g2 {x y z : V} : atI [x, y, z] 2 = some z := atI_nat (j := 2) rfl
theorem ok__law_next (T : Txt K mg) : Has P w K mg base 1 "_law_next" ["reader", "size"] (sp__law_next K) := by
  obtain ⟨f, fd, F, m, b⟩ := T.d__law_next.ex
  refine ⟨f, fd, F.ok sc__law_next (fun vs H Q E h => ?_) (fun cdv A outer s H vs Q E hr h => ?_), m, F.kp, b⟩
  · obtain ⟨r, n, rfl, hR, h0, h1, q⟩ := h
    rfl
  obtain ⟨r, n, rfl, hR, h0, h1, q⟩ := h
  refine ⟨_, (pss_cons (ps_set (i := 2) sc__law_next.nd rfl (.inl rfl) (pe_ix ix_list (pv 0) pe_int (fun _ _ => rfl)))
      (pss_cons (ps_asg (pe_op op_add (pv 2) pe_int) (pg_sub (pv 0) pe_int set_list))
      (pss_cons (ps_if (PW.pt (pw_and (pt_cmpR op_ge (pe_ix ix_list (pv 0) pe_int (fun _ _ => rfl)) (pe_op op_pow pe_int pe_int) (nomark _)) (pw_and1 (pt_cmpR op_gt (pe_ix ix_list (pv 0) pe_int (fun _ _ => rfl)) pe_int (nomark _)))))
      (pss_cons (ps_set (i := 3) sc__law_next.nd rfl (.inl rfl) (pe_ix ix_list (pv 0) pe_int (fun _ _ => rfl)))
        (pss_cons (ps_asg (pe_op op_fdivN (pv 3) (pv 1)) (pg_sub (pv 0) pe_int set_list))
        (pss_one (ps_ret (pe_op op_mod (pe_callTy call_int1 (by rfl) T.z_int (by decide +kernel) (pa_cons (pv 3) pa_nil)) (pv 1))))))
      pss_nil)
      (pss_cons (ps_set (i := 4) sc__law_next.nd rfl (.inl rfl) (pe_op op_mod (pe_callTy call_int1 (by rfl) T.z_int (by decide +kernel) (pa_cons (pe_op op_add (pe_op op_add (pe_ix ix_list (pv 0) pe_int (fun _ _ => rfl)) (pe_op op_mul pe_int (pv 2))) pe_int) pa_nil)) pe_int))
      (pss_cons (ps_set (i := 4) sc__law_next.nd rfl (.inl rfl) (pe_op op_mod (pe_callTy call_int1 (by rfl) T.z_int (by decide +kernel) (pa_cons (pe_op op_mul (pv 4) (pe_op op_add (pv 4) pe_int)) pa_nil)) pe_int))
      (pss_cons (ps_set (i := 4) sc__law_next.nd rfl (.inl rfl) (pe_op op_mod (pe_callTy call_int1 (by rfl) T.z_int (by decide +kernel) (pa_cons (pe_op op_add (pe_op op_mul (pv 4) (pe_op op_add (pv 4) pe_int)) (pe_op op_mul pe_int (pv 2))) pa_nil)) pe_int))
      (pss_one (ps_ret (pe_op op_mod (pe_callTy call_int1 (by rfl) T.z_int (by decide +kernel) (pa_cons (pe_op op_fdivN (pv 4) pe_int) pa_nil)) (pv 1)))))))))), ?_⟩
  obtain ⟨c, k, d, hR⟩ := hR
  -- k = reader[1]
  refine ⟨_, rfl, r, _, 1, _, rfl, rfl, SqL.of hR, g1, ?_⟩
  -- reader[1] = k + 1
  refine ⟨_, rfl, _, _, rfl, rfl, _, rfl, r, _, 1, 1, rfl, rfl, hR, rfl, ?_⟩
  -- reader[0] >= 10 ** 18 and reader[2] > 0
  refine ⟨_, rfl, r, _, 0, .int c, rfl, rfl, SqL.of upd_same, g0, _, _, rfl, rfl, ⟨by decide, by decide, by decide⟩, _, _, rfl, rfl, _, rfl, ?_⟩
  refine ite2 (fun e => ⟨_, rfl, r, _, 2, _, rfl, rfl, SqL.of upd_same, g2, _, _, rfl, rfl, _, rfl, ite2 (fun e2 => ?a) (fun e2 => ?b)⟩) (fun e => iteF ?b2)
  case a =>
    refine ⟨_, rfl, r, _, 2, _, rfl, rfl, SqL.of upd_same, g2, ?_⟩
    refine ⟨_, rfl, _, rfl, _, _, rfl, rfl, ⟨by omega, by omega⟩, _, rfl, r, _, 2, 2, rfl, rfl, upd_same, rfl, ?_⟩
    refine ⟨_, rfl, .inl ⟨_, rfl, _, rfl, _, _, rfl, rfl, h0, ?_⟩⟩
    exact q _ _ (Fr.trans Fr.upd Fr.upd) ⟨_, _, _, upd_same⟩ (mod_lt h0).1 (mod_lt h0).2
  all_goals
    refine ⟨_, rfl, r, _, 0, _, rfl, rfl, SqL.of upd_same, g0, _, rfl, _, _, rfl, rfl, .inl ⟨by decide, by decide⟩, _, _, rfl, rfl, _, _, rfl, rfl, .inl ⟨_, rfl, _, _, rfl, rfl, (show (0 : Int) < 2147483647 by decide), ?_⟩⟩
    refine ⟨_, rfl, _, rfl, _, _, rfl, rfl, _, _, rfl, rfl, .inl ⟨by omega, by omega⟩, .inl ⟨_, rfl, _, _, rfl, rfl, (show (0 : Int) < 2147483629 by decide), ?_⟩⟩
    refine ⟨_, rfl, _, rfl, _, _, rfl, rfl, _, _, rfl, rfl, .inl ⟨by omega, by omega⟩, _, rfl, _, _, rfl, rfl, .inl ⟨by decide, by decide⟩, _, _, rfl, rfl, .inl ⟨_, rfl, _, _, rfl, rfl, (show (0 : Int) < 2147483647 by decide), ?_⟩⟩
    refine ⟨_, rfl, _, _, rfl, rfl, ⟨by decide, by decide⟩, .inl ⟨_, rfl, _, rfl, _, _, rfl, rfl, h0, ?_⟩⟩
    exact q _ _ Fr.upd ⟨_, _, _, upd_same⟩ (mod_lt h0).1 (mod_lt h0).2


end
end Pf

namespace Pf
open PySem PySem.Spec PyProof.Rows L2
section
variable {P : Program} {w : World} {K : PySem.W.Frag} {mg : Str → Option Value} {base : Heap}
/-! ### a set comprehension of ints over two sources -/
section
variable {prog : Program} {w : World} {A : Around} {R : Result → Shared → Prop} {s : Shared} {elt t0 i0 t1 i1 : Expr} {f0 f1 : List Expr} {scope : Scope} {pos : Pos} {it acc : Value} {env : Env}
theorem setTurn_out : compTurn (.SetComp elt [⟨t0, i0, f0, 0⟩, ⟨t1, i1, f1, 0⟩] scope pos) 0 it acc env = (do
    standAt i0.pos
    match ← pyNext it with
    | none => pure (.done .next)
    | some v =>
      letOwnedTupleGo t0 it v
      assign t0 env v
      let mut ok := true
      for c in f0 do
        if ok then ok ← isTrue c env (eval c env)
      if ok then
        let x ← eval i1 env
        standAt i1.pos
        let x ← foldedSetIterable i1 env x
        let _ ← runOwn (.compStart (.SetComp elt [⟨t0, i0, f0, 0⟩, ⟨t1, i1, f1, 0⟩] scope pos) 1 (← holding [x] (pyIter x)) acc env) env
      again (.compLoop (.SetComp elt [⟨t0, i0, f0, 0⟩, ⟨t1, i1, f1, 0⟩] scope pos) 0 it acc env)) := by rfl
theorem setTurn_in : compTurn (.SetComp elt [⟨t0, i0, f0, 0⟩, ⟨t1, i1, f1, 0⟩] scope pos) 1 it acc env = (do
    standAt i1.pos
    match ← pyNext it with
    | none => pure (.done .next)
    | some v =>
      letOwnedTupleGo t1 it v
      assign t1 env v
      let mut ok := true
      for c in f1 do
        if ok then ok ← isTrue c env (eval c env)
      if ok then
        (do let v ← eval elt env; standAt elt.pos; let _ ← call (.builtin "set.add") [acc, v])
      again (.compLoop (.SetComp elt [⟨t0, i0, f0, 0⟩, ⟨t1, i1, f1, 0⟩] scope pos) 1 it acc env)) := by rfl
/-- what a test of clauses asks -/
abbrev tests (fs : List Expr) (env : Env) : Sem Bool := forIn fs true fun c r => if r = true then do let ok ← isTrue c env (eval c env); pure (ForInStep.yield ok) else pure (ForInStep.yield r)
theorem setLoop_out (hs : ∀ x, foldedSetIterable i1 env x = pure x) (I : Nat → Shared → Prop)
    (turn : ∀ n z, I n z → wpAny (model prog w) A (pyNext it) (fun r z1 => match r with
      | none => R (.ok .next) z1
      | some v => wpAny (model prog w) A (letOwnedTupleGo t0 it v) (fun _ z2 => wpAny (model prog w) A (assign t0 env v) (fun _ z3 => wpAny (model prog w) A (tests f0 env) (fun ok z4 =>
          if ok = true then wpAny (model prog w) A (eval i1 env) (fun x z5 => wpAny (model prog w) A (pyIter x) (fun it1 z6 =>
            codeAny (model prog w) A (.compStart (.SetComp elt [⟨t0, i0, f0, 0⟩, ⟨t1, i1, f1, 0⟩] scope pos) 1 it1 acc env) (fun r z7 => match r with
              | .ok _ => ∃ m, m < n ∧ I m z7
              | .error _ => False) z6) (notedBy (model prog w) A env fun e z' => R (.error e) z') z5) (notedBy (model prog w) A env fun e z' => R (.error e) z') z4
          else ∃ m, m < n ∧ I m z4) (notedBy (model prog w) A env fun e z' => R (.error e) z') z3) (notedBy (model prog w) A env fun e z' => R (.error e) z') z2) (notedBy (model prog w) A env fun e z' => R (.error e) z') z1) (notedBy (model prog w) A env fun e z' => R (.error e) z') z)
    (n : Nat) (h : I n s) : codeAny (model prog w) A (.compLoop (.SetComp elt [⟨t0, i0, f0, 0⟩, ⟨t1, i1, f1, 0⟩] scope pos) 0 it acc env) R s := by
  refine codeAny_loop rfl I (fun n z hI => ?_) n h
  change wpAny _ A ((compTurn (.SetComp elt [⟨t0, i0, f0, 0⟩, ⟨t1, i1, f1, 0⟩] scope pos) 0 it acc env).onRaise (fun x => do noteFrame x env; theTreesLotGoes x)) _ _ z
  refine wpAny_noted ?_
  rw [setTurn_out]
  refine wpAny_bind (wpAny_standAt (wpAny_bind (wpAny_mono (turn n z hI) (fun r z1 q1 => ?_) fun _ _ k => k)))
  cases r with
  | none => exact wpAny_pure q1
  | some v =>
    refine wpAny_bind (wpAny_mono q1 (fun _ z2 q2 => ?_) fun _ _ k => k)
    refine wpAny_bind (wpAny_mono q2 (fun _ z3 q3 => wpAny_bind (wpAny_mono q3 (fun ok z4 q4 => ?_) fun _ _ k => k)) fun _ _ k => k)
    cases ok with
    | false => exact wpAny_pure ⟨rfl, q4⟩
    | true =>
      refine wpAny_bind (wpAny_mono q4 (fun x z5 q5 => ?_) fun _ _ k => k)
      refine wpAny_bind (wpAny_standAt (wpAny_bind (wpAny_of_eq (hs x) (wpAny_bind (wpAny_holding (wpAny_mono q5 (fun it1 z6 q6 => ?_) fun _ _ k => k))))))
      refine wpAny_bind (wpAny_runOwn ?_)
      rw [Around.mark_none]
      refine codeAny_mono q6 fun r z7 q7 => ?_
      cases r with
      | ok f => first | exact wpAny_pure ⟨rfl, q7⟩ | exact wpAny_bind (wpAny_pure (wpAny_pure ⟨rfl, q7⟩))
      | error e => exact q7.elim
theorem setLoop_in (I : Nat → Shared → Prop)
    (turn : ∀ n z, I n z → wpAny (model prog w) A (pyNext it) (fun r z1 => match r with
      | none => R (.ok .next) z1
      | some v => wpAny (model prog w) A (letOwnedTupleGo t1 it v) (fun _ z2 => wpAny (model prog w) A (assign t1 env v) (fun _ z3 => wpAny (model prog w) A (tests f1 env) (fun ok z4 =>
          if ok = true then wpAny (model prog w) A (eval elt env) (fun x z5 => wpAny (model prog w) A (call (.builtin "set.add") [acc, x]) (fun _ z6 => ∃ m, m < n ∧ I m z6) (notedBy (model prog w) A env fun e z' => R (.error e) z') z5) (notedBy (model prog w) A env fun e z' => R (.error e) z') z4
          else ∃ m, m < n ∧ I m z4) (notedBy (model prog w) A env fun e z' => R (.error e) z') z3) (notedBy (model prog w) A env fun e z' => R (.error e) z') z2) (notedBy (model prog w) A env fun e z' => R (.error e) z') z1) (notedBy (model prog w) A env fun e z' => R (.error e) z') z)
    (n : Nat) (h : I n s) : codeAny (model prog w) A (.compLoop (.SetComp elt [⟨t0, i0, f0, 0⟩, ⟨t1, i1, f1, 0⟩] scope pos) 1 it acc env) R s := by
  refine codeAny_loop rfl I (fun n z hI => ?_) n h
  change wpAny _ A ((compTurn (.SetComp elt [⟨t0, i0, f0, 0⟩, ⟨t1, i1, f1, 0⟩] scope pos) 1 it acc env).onRaise (fun x => do noteFrame x env; theTreesLotGoes x)) _ _ z
  refine wpAny_noted ?_
  rw [setTurn_in]
  refine wpAny_bind (wpAny_standAt (wpAny_bind (wpAny_mono (turn n z hI) (fun r z1 q1 => ?_) fun _ _ k => k)))
  cases r with
  | none => exact wpAny_pure q1
  | some v =>
    refine wpAny_bind (wpAny_mono q1 (fun _ z2 q2 => ?_) fun _ _ k => k)
    refine wpAny_bind (wpAny_mono q2 (fun _ z3 q3 => wpAny_bind (wpAny_mono q3 (fun ok z4 q4 => ?_) fun _ _ k => k)) fun _ _ k => k)
    cases ok with
    | false => exact wpAny_pure ⟨rfl, q4⟩
    | true => exact wpAny_bind (wpAny_bind (wpAny_mono q4 (fun x z5 q5 => wpAny_bind (wpAny_standAt (wpAny_bind (wpAny_mono q5 (fun _ z6 q6 => wpAny_pure (wpAny_pure ⟨rfl, q6⟩)) fun _ _ k => k)))) fun _ _ k => k))
theorem setStart_in (h0 : codeAny (model prog w) A (.compLoop (.SetComp elt [⟨t0, i0, f0, 0⟩, ⟨t1, i1, f1, 0⟩] scope pos) 1 it acc env) R s)
    (h : wpAny (model prog w) A (pyIter it) (fun it' z => codeAny (model prog w) A (.compLoop (.SetComp elt [⟨t0, i0, f0, 0⟩, ⟨t1, i1, f1, 0⟩] scope pos) 1 it' acc env) R z) (notedBy (model prog w) A env fun x z => R (.error x) z) s) :
    codeAny (model prog w) A (.compStart (.SetComp elt [⟨t0, i0, f0, 0⟩, ⟨t1, i1, f1, 0⟩] scope pos) 1 it acc env) R s := by
  refine codeAny_of_tree ?_
  change wpAny _ _ ((compStart (.SetComp elt [⟨t0, i0, f0, 0⟩, ⟨t1, i1, f1, 0⟩] scope pos) 1 it acc env).onRaise (fun x => do noteFrame x env; standAt theWindowsPlace)) _ _ s
  refine wpAny_notedAt ?_
  unfold compStart
  change wpAny _ _ (ask >>= _) _ _ s
  refine wpAny_bind (wpAny_askSetting (wpAny_ite ?_))
  split
  · first | exact wpAny_bind (wpAny_pure (wpAny_pure (And.intro rfl h0))) | exact wpAny_pure (And.intro rfl h0)
  · first
      | exact wpAny_bind (wpAny_rule (wpAny_bind (wpAny_standAt (wpAny_bind (wpAny_mono h (fun it' z k => wpAny_pure (And.intro rfl k)) fun _ _ x => x)))))
      | (refine wpAny_bind (wpAny_rule ?_); change wpAny _ _ (standAt i1.pos >>= _) _ _ s; exact wpAny_bind (wpAny_standAt (wpAny_bind (wpAny_mono h (fun it' z k => wpAny_pure (And.intro rfl k)) fun _ _ x => x))))
end
section
variable {X : Cx}
theorem setI_add {pins : List (Addr × Obj)} {σ : L2.St} {H : Hp} {s : Shared} {E : Value → Shared → Prop} {D : Addr} {S : Int → Bool} {n : Nat} {z : Int} {t : Tok} {Q : Value → Shared → Prop} (I : Inv X pins σ H s) (hD : H D = some (SetO X.w D S n)) (room : n + 1 < scanBound)
    (q : ∀ s', Inv X pins σ (upd H D (SetO X.w D (fun j => S j || decide (j = z)) (if S z = true then n else n + 1))) s' → Q .none s') : wpAny (model X.prog X.w) X.A (call (.builtin "set.add") [.ref D, .int z t]) Q E s := by
  refine setR_add (setO_get I hD) room fun h' sb new => q _ ?_
  have he : ∃ u, h'.get? D = some u := by
    have ⟨o, _, _, _, ho, _⟩ := new
    exact ⟨o, ho⟩
  exact I.write (e := D) (t' := s.toks + 1) (by rw [hD]; trivial) (.inl rfl) (fun b u hb hu => (sb.2 b hb).trans hu) he (setO_new new)
/-- {elt for tg in iter if .. for tg1 in iter1 if ..}, elt an int: D the new set -/
def tSc2 (w : World) (wi : TI) (g : TG) (tt : TT) (wi1 : TI) (g1 : TG) (tt1 : TT) (te : TE) (vs vs1 : List Nat) : TE := fun σ H Q => wi σ H fun J H1 => ∀ D, H1 D = none → ∃ W : Nat → Nat → Hp → Prop, (∃ m, W 0 m (upd H1 D (SetO w D (fun _ => false) 0))) ∧ ∀ i m H, W i m H →
  (J.stop i H ∧ Q (.ref D) H) ∨ (J.go i H ∧ ∃ Nx : Hp → Prop, (∀ H', Nx H' → ∃ m', m' < m ∧ W (i + 1) m' H') ∧ ∀ x H', J.yld i H x H' → g x (wipe σ vs) H' fun σ2 H2 => wipe σ2 vs = wipe σ vs ∧ tt σ2 H2 fun b H3 =>
    if b = true then wi1 σ2 H3 fun J1 H4 => ∃ W1 : Nat → Nat → Hp → Prop, (∃ m, W1 0 m H4) ∧ ∀ j k H, W1 j k H →
      (J1.stop j H ∧ Nx H) ∨ (J1.go j H ∧ ∃ Nx1 : Hp → Prop, (∀ H', Nx1 H' → ∃ k', k' < k ∧ W1 (j + 1) k' H') ∧ ∀ x H', J1.yld j H x H' → g1 x (wipe σ2 vs1) H' fun σ3 H5 => wipe σ3 vs1 = wipe σ2 vs1 ∧ tt1 σ3 H5 fun b H6 =>
        if b = true then te σ3 H6 fun y H7 => ∃ (z : Int) (S : Int → Bool) (n : Nat), y = .int z ∧ H7 D = some (SetO w D S n) ∧ n + 1 < scanBound ∧ Nx1 (upd H7 D (SetO w D (fun j => S j || decide (j = z)) (if S z = true then n else n + 1))) else Nx1 H6)
    else Nx H3)
theorem pe_sc2 {elt tg iter tg1 iter1 : Expr} {fs fs1 : List Expr} {scope : Scope} {own : List (Str × Nat)} {vs1 : List Nat} {pos : Pos} {wi wi1 : TI} {g g1 : TG} {tt tt1 : TT} {te : TE} (hc : X.calm = true) (hN : X.N.Nodup) (hi : PI X tg iter wi) (ok : BlkOk X.N X.env.scope scope own) (hv : ∀ i ∈ vs1, i ∈ own.map (·.2))
    (hg : ∀ (z : Shared) (J : Hp) (C : Addr) (cl : List (Str × Addr)) (fp : List Addr), PG (X.blk z J scope (compEnvC scope cl C X.env) fp) tg g)
    (ht : ∀ (z : Shared) (J : Hp) (C : Addr) (cl : List (Str × Addr)) (fp : List Addr), PTs (X.blk z J scope (compEnvC scope cl C X.env) fp) fs tt)
    (hi1 : ∀ (z : Shared) (J : Hp) (C : Addr) (cl : List (Str × Addr)) (fp : List Addr), PI (X.blk z J scope (compEnvC scope cl C X.env) fp) tg1 iter1 wi1)
    (hg1 : ∀ (z : Shared) (J : Hp) (C : Addr) (cl : List (Str × Addr)) (fp : List Addr), PG (X.blk z J scope (compEnvC scope cl C X.env) fp) tg1 g1)
    (ht1 : ∀ (z : Shared) (J : Hp) (C : Addr) (cl : List (Str × Addr)) (fp : List Addr), PTs (X.blk z J scope (compEnvC scope cl C X.env) fp) fs1 tt1)
    (he : ∀ (z : Shared) (J : Hp) (C : Addr) (cl : List (Str × Addr)) (fp : List Addr), PE (X.blk z J scope (compEnvC scope cl C X.env) fp) elt te)
    (hs : ∀ x, foldedSetIterable iter X.env x = pure x := by intro _; rfl) (hs1 : ∀ env x, foldedSetIterable iter1 env x = pure x := by intro _ _; rfl) :
    PE X (.SetComp elt [⟨tg, iter, fs, 0⟩, ⟨tg1, iter1, fs1, 0⟩] scope pos) (tSc2 X.w wi g tt wi1 g1 tt1 te (own.map (·.2)) vs1) := by
  refine ⟨fun pins sA σ HA Q IA hA => ?_⟩
  rw [PpSet.eval_SetComp]
  have cells : ∀ y ∈ scope.names, y.2 = .free → ∃ c, X.env.cells.lookup y.1 = some c := fun y hy e => (ok.free y hy e).elim (fun z => IA.ok.has _ (.inl z)) (fun z => IA.ok.has _ (.inr z))
  refine wpAny_comprehension_free rfl hs (closure_ok cells) ok.kind (fun y hy e => by rw [ok.uniq y hy, e]) (thn (hi.run pins sA σ HA _ IA hA) fun xv sB hB => thn hB fun itv sC hC => ?_)
  obtain ⟨it, fp, tn, J, HC, rfl, IC, T, stC, fC, hq⟩ := hC
  refine PpSet.newSet_ok (newEnv_comp ?_)
  obtain ⟨D, eD⟩ : ∃ D, D = sC.heap.objs.size := ⟨_, rfl⟩
  rw [← eD]
  have fresh : HC D = none := IC.hok.fresh (Nat.le_of_eq eD.symm)
  obtain ⟨W, ⟨mm, wS⟩, turn⟩ := hq D fresh
  obtain ⟨sD, esD⟩ : ∃ sD : Shared, sD = { sC with heap := sC.heap.push { cls := .type "set", dict := none, data := .set #[] 0 (.fresh 0 0 (!X.w.params.followText "set-order")) } } := ⟨_, rfl⟩
  have hpD : sD.heap = sC.heap.push { cls := .type "set", dict := none, data := .set #[] 0 (.fresh 0 0 (!X.w.params.followText "set-order")) } := by rw [esD]
  have ID : Inv X pins σ (upd HC D (SetO X.w D (fun _ => false) 0)) sD := by
    rw [esD]
    refine IC.laid (t' := sC.toks) (fun _ _ z => Heap.get?_push_of_some _ z) (Nat.le_of_eq eD.symm) ?_
    rw [eD]
    exact setO_new (setR_fresh X.w)
  have below : ∀ b ∈ fp, b < sC.heap.objs.size := fun b hb => (T.obj _ _ stC b hb).elim fun o z => Heap.lt_size z.1
  have parts : ∀ b ∈ fp, FpOk X pins (upd HC D (SetO X.w D (fun _ => false) 0)) b ∧ b < sD.heap.objs.size := fun b hb => by
    have lt := below b hb
    have ne : b ≠ D := by rw [eD]; exact Nat.ne_of_lt lt
    refine ⟨⟨(upd_ne ne).trans (fC b hb).1, (fC b hb).2⟩, ?_⟩
    rw [hpD, Heap.size_push]
    exact Nat.lt_succ_of_lt lt
  have stD : tn 0 sD.heap := T.keep _ _ _ stC fun b _ o z => by rw [hpD]; exact Heap.get?_push_of_some _ z
  have IE := block_start ID ok hN parts
  have pg := hg sD (upd HC D (SetO X.w D (fun _ => false) 0)) sD.heap.objs.size (cellsFrom (sD.heap.objs.size + 1) scope.names (cloFrom X.env.cells scope.names [])) fp
  have pt := ht sD (upd HC D (SetO X.w D (fun _ => false) 0)) sD.heap.objs.size (cellsFrom (sD.heap.objs.size + 1) scope.names (cloFrom X.env.cells scope.names [])) fp
  have pi1 := hi1 sD (upd HC D (SetO X.w D (fun _ => false) 0)) sD.heap.objs.size (cellsFrom (sD.heap.objs.size + 1) scope.names (cloFrom X.env.cells scope.names [])) fp
  have pg1 := hg1 sD (upd HC D (SetO X.w D (fun _ => false) 0)) sD.heap.objs.size (cellsFrom (sD.heap.objs.size + 1) scope.names (cloFrom X.env.cells scope.names [])) fp
  have pt1 := ht1 sD (upd HC D (SetO X.w D (fun _ => false) 0)) sD.heap.objs.size (cellsFrom (sD.heap.objs.size + 1) scope.names (cloFrom X.env.cells scope.names [])) fp
  have pv := he sD (upd HC D (SetO X.w D (fun _ => false) 0)) sD.heap.objs.size (cellsFrom (sD.heap.objs.size + 1) scope.names (cloFrom X.env.cells scope.names [])) fp
  rw [← esD]
  obtain ⟨eE, heE⟩ : ∃ eE, eE = compEnvC scope (cellsFrom (sD.heap.objs.size + 1) scope.names (cloFrom X.env.cells scope.names [])) sD.heap.objs.size X.env := ⟨_, rfl⟩
  obtain ⟨sE, hsE⟩ : ∃ sE : Shared, sE = { sD with heap := pushCells (sD.heap.push { cls := .type "dict", data := .dict #[] }) scope.names } := ⟨_, rfl⟩
  have locE : eE.locals = sD.heap.objs.size := by rw [heE]; rfl
  rw [← heE] at pg pt pi1 pg1 pt1 pv IE
  rw [← hsE] at IE
  change codeAny (model X.prog X.w) X.A (.compStart (.SetComp elt [⟨tg, iter, fs, 0⟩, ⟨tg1, iter1, fs1, 0⟩] scope pos) 0 (.ref it) (.ref D) (compEnvC scope (cellsFrom (sD.heap.objs.size + 1) scope.names (cloFrom X.env.cells scope.names [])) sD.heap.objs.size X.env)) (compPost (model X.prog X.w) X.A X.xe none (EP X pins σ Q) (.ref D) sD.heap.objs.size) { sD with heap := pushCells (sD.heap.push { cls := .type "dict", data := .dict #[] }) scope.names }
  rw [← heE, ← hsE]
  have stE : tn 0 sE.heap := T.keep _ _ _ stD fun b _ o z => by rw [hsE]; exact pushCells_keeps _ _ _ _ (Heap.get?_push_of_some _ z)
  obtain ⟨HD, hHD⟩ : ∃ HD, HD = upd HC D (SetO X.w D (fun _ => false) 0) := ⟨_, rfl⟩
  rw [← hHD] at ID IE pg pt pi1 pg1 pt1 pv wS parts
  have own0 : ∀ {σ' : L2.St} {H' : Hp} {s' : Shared}, Inv (X.blk sD HD scope eE fp) [] σ' H' s' → (∀ b ∈ fp, H' b = none) → ∀ b ∈ fp, FpOk (X.blk sD HD scope eE fp) [] H' b := fun I' n b hb =>
    ⟨n b hb, (I'.ok.exf b hb).1, I'.ok.exfs b hb, .inl hb, fun x c e => (I'.ok.exf b hb).2 x c e, fun p hp => absurd (show p ∈ ([] : List (Addr × Obj)) ++ [] from hp) (by simp)⟩
  have loop : codeAny (model X.prog X.w) X.A (.compLoop (.SetComp elt [⟨tg, iter, fs, 0⟩, ⟨tg1, iter1, fs1, 0⟩] scope pos) 0 (.ref it) (.ref D) eE) (compPost (model X.prog X.w) X.A X.xe none (EP X pins σ Q) (.ref D) sD.heap.objs.size) sE := by
    refine setLoop_out (hs1 eE) (fun n z => ∃ i G, W i n G ∧ (∀ b ∈ fp, G b = none) ∧ tn i z.heap ∧ Inv (X.blk sD HD scope eE fp) [] (wipe σ (own.map (·.2))) G z) ?_ mm ⟨0, HD, wS, fun b hb => (parts b hb).1.1, stE, IE⟩
    rintro n s1 ⟨i, G1, w1, n1, st1, I1⟩
    rcases turn i n G1 w1 with ⟨stop, fin⟩ | ⟨go, Nx, later, step⟩
    · refine thnF (T.done (X.blk sD HD scope eE fp) rfl rfl rfl hc i [] s1 _ G1 (fun _ _ => False) I1 (own0 I1 n1) st1 stop) fun r s2 ⟨hr, I2⟩ => ?_
      subst hr
      have back : Inv X pins σ G1 s2 := ID.call' (ch := fp) I2.os I2.base I2.hok I2.bare fun b hb => by
        obtain ⟨⟨_, p1, _, p3, p4, p5⟩, _⟩ := parts b hb
        exact ⟨p3, p1, p4, p5⟩
      have nL : G1 sD.heap.objs.size = none := by rw [← locE]; exact I2.free
      obtain ⟨mp, ns, _⟩ := I2.loc
      have ns : s2.heap.Ns eE.locals mp := ns
      rw [locE] at ns
      refine ⟨mp, ns, fun h3 sb => ?_⟩
      obtain ⟨f0, f1, f2, f3, f4, f5⟩ := ID.fpOk (Nat.le_refl _) nL
      exact ⟨.ref D, G1, back.turned (t' := s2.toks) (fun b o hb e => (sb.2 b hb).trans e) f0 f1 f3 f4 f5, rfl, fin⟩
    · refine thnF (T.item (X.blk sD HD scope eE fp) rfl rfl rfl hc i [] s1 _ G1 (fun _ _ => False) I1 (own0 I1 n1) st1 go) fun r s2 ⟨u, hr, h2⟩ => ?_
      subst hr
      refine thnF h2 fun _ s3 ⟨x, G3, I3, r3, y3, st3, n3⟩ => ?_
      refine thnF (pg.run _ s3 _ G3 x u _ (I3.pinned (own0 I3 n3) (T.obj _ _ st3)) r3 (step x G3 y3)) fun _ s4 ⟨σ4, G4, I4, hw4, q4⟩ => ?_
      refine thnF (pt.run _ s4 σ4 G4 _ I4 q4) fun ok5 s5 ⟨G5, I5, q5⟩ => ?_
      have again : ∀ {σ9 : L2.St} {z : Shared} {G : Hp}, Inv (X.blk sD HD scope eE fp) ([] ++ pinsAt fp s3.heap) σ9 G z → (wipe σ (own.map (·.2))).length = σ9.length → (∀ (j : Nat) v, (wipe σ (own.map (·.2)))[j]? = some (some v) → σ9[j]? = some (some v)) → Nx G →
          ∃ m, m < n ∧ ∃ i G, W i m G ∧ (∀ b ∈ fp, G b = none) ∧ tn i z.heap ∧ Inv (X.blk sD HD scope eE fp) [] (wipe σ (own.map (·.2))) G z := fun {σ9 z G} IZ l9 k9 nz => by
        obtain ⟨m', lt, w'⟩ := later G nz
        have pin : ∀ b ∈ fp, ∀ o, s3.heap.get? b = some o → z.heap.get? b = some o ∧ G b = none := fun b hb o e => by
          have k := IZ.pin (b, o) (List.mem_append_right _ (List.mem_append_right _ (mem_pinsAt hb e)))
          exact ⟨k.1, k.2.1⟩
        exact ⟨m', lt, i + 1, G, w', fun b hb => (T.obj _ _ st3 b hb).elim fun o k => (pin b hb o k.1).2, T.keep _ _ _ st3 fun b hb o e => (pin b hb o e).1, (IZ.unpinned (pins := [])).weak l9 k9⟩
      have l4 : (wipe σ (own.map (·.2))).length = σ4.length := by rw [← hw4, wipe_length]
      have k4 : ∀ (j : Nat) v, (wipe σ (own.map (·.2)))[j]? = some (some v) → σ4[j]? = some (some v) := fun j v e => by
        rw [← hw4] at e
        exact (wipe_some e).1
      have k5 : ∀ (j : Nat) v, (wipe σ (own.map (·.2)))[j]? = some (some v) → (wipe σ4 vs1)[j]? = some (some v) := fun j v e => by
        rw [← hw4] at e
        obtain ⟨e1, e2⟩ := wipe_some e
        exact (wipe_out fun z => e2 (hv j z)).trans e1
      cases ok5 with
      | false =>
        rw [if_neg Bool.false_ne_true] at q5 ⊢
        exact again I5 l4 k4 q5
      | true =>
        rw [if_pos rfl] at q5 ⊢
        refine thnF (pi1.run _ s5 σ4 G5 _ I5 q5) fun xv s6 hx => thnF hx fun itv s7 h7 => ?_
        obtain ⟨it1, fp1, tn1, J1, G7, rfl, I7, T1, st7, f7, W1, ⟨m1, w7⟩, turn1⟩ := h7
        have own1 : ∀ {G : Hp}, (∀ b ∈ fp1, G b = none) → ∀ b ∈ fp1, FpOk (X.blk sD HD scope eE fp) ([] ++ pinsAt fp s3.heap) G b := fun hn b hb => ⟨hn b hb, (f7 b hb).2⟩
        have loop1 : codeAny (model X.prog X.w) X.A (.compLoop (.SetComp elt [⟨tg, iter, fs, 0⟩, ⟨tg1, iter1, fs1, 0⟩] scope pos) 1 (.ref it1) (.ref D) eE)
            (fun r z => match r with
              | .ok _ => ∃ m, m < n ∧ ∃ i G, W i m G ∧ (∀ b ∈ fp, G b = none) ∧ tn i z.heap ∧ Inv (X.blk sD HD scope eE fp) [] (wipe σ (own.map (·.2))) G z
              | .error _ => False) s7 := by
          refine setLoop_in (fun k z => ∃ j G, W1 j k G ∧ (∀ b ∈ fp1, G b = none) ∧ tn1 j z.heap ∧ Inv (X.blk sD HD scope eE fp) ([] ++ pinsAt fp s3.heap) (wipe σ4 vs1) G z) ?_ m1 ⟨0, G7, w7, fun b hb => (f7 b hb).1, st7, I7.weak (wipe_length _ _) fun j v e => (wipe_some e).1⟩
          rintro k s8 ⟨j, G8, w8, n8, st8, I8⟩
          rcases turn1 j k G8 w8 with ⟨stop1, nx1⟩ | ⟨go1, Nx1, later1, step1⟩
          · refine thnF (T1.done (X.blk sD HD scope eE fp) rfl rfl rfl hc j _ s8 (wipe σ4 vs1) G8 (fun _ _ => False) I8 (own1 n8) st8 stop1) fun r s9 ⟨hr, I9⟩ => ?_
            subst hr
            exact again I9 (l4.trans (wipe_length σ4 vs1).symm) k5 nx1
          · refine thnF (T1.item (X.blk sD HD scope eE fp) rfl rfl rfl hc j _ s8 (wipe σ4 vs1) G8 (fun _ _ => False) I8 (own1 n8) st8 go1) fun r s9 ⟨u1, hr, h9⟩ => ?_
            subst hr
            refine thnF h9 fun _ s10 ⟨x1, G10, I10, r10, y10, st10, n10⟩ => ?_
            refine thnF (pg1.run _ s10 (wipe σ4 vs1) G10 x1 u1 _ (I10.pinned (own1 n10) (T1.obj _ _ st10)) r10 (step1 x1 G10 y10)) fun _ s11 ⟨σ11, G11, I11, hw11, q11⟩ => ?_
            refine thnF (pt1.run _ s11 σ11 G11 _ I11 q11) fun ok12 s12 ⟨G12, I12, q12⟩ => ?_
            have again1 : ∀ {z : Shared} {G : Hp}, Inv (X.blk sD HD scope eE fp) (([] ++ pinsAt fp s3.heap) ++ pinsAt fp1 s10.heap) σ11 G z → Nx1 G → ∃ m, m < k ∧ ∃ j G, W1 j m G ∧ (∀ b ∈ fp1, G b = none) ∧ tn1 j z.heap ∧ Inv (X.blk sD HD scope eE fp) ([] ++ pinsAt fp s3.heap) (wipe σ4 vs1) G z := fun {z G} IZ nz => by
              obtain ⟨m', lt, w'⟩ := later1 G nz
              have pin : ∀ b ∈ fp1, ∀ o, s10.heap.get? b = some o → z.heap.get? b = some o ∧ G b = none := fun b hb o e => by
                have k := IZ.pin (b, o) (List.mem_append_right _ (List.mem_append_right _ (mem_pinsAt hb e)))
                exact ⟨k.1, k.2.1⟩
              exact ⟨m', lt, j + 1, G, w', fun b hb => (T1.obj _ _ st10 b hb).elim fun o k => (pin b hb o k.1).2, T1.keep _ _ _ st10 fun b hb o e => (pin b hb o e).1, IZ.unpinned.weak (by rw [← hw11, wipe_length]) fun j v e => by rw [← hw11] at e; exact (wipe_some e).1⟩
            cases ok12 with
            | false =>
              rw [if_neg Bool.false_ne_true] at q12 ⊢
              exact again1 I12 q12
            | true =>
              rw [if_pos rfl] at q12 ⊢
              refine thnF (pv.run _ s12 σ11 G12 _ I12 q12) fun vv s13 ⟨yv, G13, I13, r13, zz, S, nn, ey, hD13, room, nx⟩ => ?_
              subst ey
              obtain ⟨tk, rfl⟩ := r13
              exact setI_add (X := X.blk sD HD scope eE fp) I13 hD13 room fun s14 I14 => again1 I14 nx
        exact setStart_in loop1 (T1.self X.A 0 _ _ _ st7 loop1)
  exact PpSet.codeAny_compStart_set loop (T.self X.A 0 _ _ _ stE loop)
end



end
end Pf

namespace Pf
open PySem PySem.Spec PyProof.Rows L2
section
variable {P : Program} {w : World} {K : PySem.W.Frag} {mg : Str → Option Value} {base : Heap}
def sp__law_integers (K : PySem.W.Frag) : Sp := fun vs H Q _ => ∃ (r : Addr) (n : Int), vs = [.ref r, .int n] ∧ RD H r ∧ 0 ≤ n ∧ n ≤ 1000 ∧ ∀ (p : Addr) (ns : List Int) (H' : Hp), Fr r H H' → RD H' r → H p = none → H' p = some (.lst (ns.map V.int)) → (ns.length : Int) = n → Q (.ref p) H'
theorem ok__law_integers (T : Txt K mg) : Has P w K mg base 2 "_law_integers" ["reader", "many"] (sp__law_integers K) := by
  obtain ⟨f, fd, F, m, b⟩ := T.d__law_integers.ex
  obtain ⟨f__law_next, fd__law_next, G__law_next, m__law_next, k__law_next, b__law_next⟩ := ok__law_next (P := P) (w := w) (base := base) T
  refine ⟨f, fd, F.ok sc__law_integers (fun vs H Q E h => ?_) (fun cdv A outer s H vs Q E hr h => ?_), m, F.kp, b⟩
  · obtain ⟨r, n, rfl, hR, h0, h1, q⟩ := h
    rfl
  obtain ⟨r, n, rfl, hR, h0, h1, q⟩ := h
  refine ⟨_, (pss_cons (ps_set (i := 2) sc__law_integers.nd rfl (.inl rfl) (pe_lst pa_nil))
      (pss_cons (ps_for PassesOwn.never rfl (pi_range1 (by rfl) T.z_range (pa_cons (pv 1) pa_nil)) (pg_name (i := 3) sc__law_integers.nd rfl (.inl rfl))
      (pss_cons (ps_set (i := 4) sc__law_integers.nd rfl (.inl rfl) (pe_op op_sub (pe_call G__law_next (hr.mono (by decide)) (by rfl) m__law_next k__law_next b__law_next .nil pass0 (pa_cons (pv 0) (pa_cons pe_int pa_nil))) pe_int))
        (C8.pss_cut (ps_if (pt_cmpR op_eq (pe_call G__law_next (hr.mono (by decide)) (by rfl) m__law_next k__law_next b__law_next .nil pass0 (pa_cons (pv 0) (pa_cons pe_int pa_nil))) pe_int (nomark _))
        (pss_one (ps_set (i := 4) sc__law_integers.nd rfl (.inl rfl) (pe_op op_sub (pe_call G__law_next (hr.mono (by decide)) (by rfl) m__law_next k__law_next b__law_next .nil pass0 (pa_cons (pv 0) (pa_cons pe_int pa_nil))) pe_int)))
        pss_nil)
        (pss_one (ps_expr (pe_bm PySem.F.plainAttrs_list PySem.F.slot_list_append PySem.F.type_list_append mt_append (pv 2) (pa_cons (pv 4) pa_nil)))))))
      (pss_one (ps_ret (pv 2))))), ?_⟩
  refine ⟨Nat.zero_le _, fun p np => ?_⟩
  have hp0 : upd H p (.lst []) p = some (.lst (([] : List Int).map V.int)) := upd_same
  have f0 : Fr r H (upd H p (.lst [])) := Fr.new np
  have R0 : RD (upd H p (.lst [])) r := hR.of (same_new np)
  have nr : p ≠ r := hR.ne np
  generalize upd H p (.lst []) = H1 at hp0 f0 R0 ⊢
  refine ⟨_, rfl, n, rfl, by omega, by omega, for_range (fun i σ H3 => ∃ (ns : List Int) (y1 y2 : Option V), σ = [some (.ref r), some (.int n), some (.ref p), y1, y2] ∧ Fr r H H3 ∧ RD H3 r ∧ H3 p = some (.lst (ns.map V.int)) ∧ ns.length = i)
    ⟨_, _, _, rfl, f0, R0, hp0, rfl⟩ ?_ ?_⟩
  · rintro i σ H3 hi ⟨ns, y1, y2, rfl, f3, R3, hp3, hl⟩
    refine ⟨_, rfl, r, 44, rfl, R3, by decide, by decide, fun v H4 f4 R4 v0 v1 => ⟨_, _, rfl, rfl, ?_⟩⟩
    refine ⟨fun σ H9 => ∃ z : Int, σ = [some (.ref r), some (.int n), some (.ref p), some (.int (0 + (i : Int))), some (.int z)] ∧ Fr r H H9 ∧ RD H9 r ∧ H9 p = some (.lst (ns.map V.int)), ?_, ?_⟩
    · refine ⟨_, rfl, r, 5, rfl, R4, by decide, by decide, fun v5 H5 f5 R5 w0 w1 => ?_⟩
      refine ⟨rfl, _, rfl, ite2 (fun e => ?_) (fun e => ?_)⟩
      · refine ⟨_, rfl, r, 200000001, rfl, R5, by decide, by decide, fun v6 H6 f6 R6 u0 u1 => ⟨_, _, rfl, rfl, ?_⟩⟩
        exact ⟨_, rfl, f3.trans (f4.trans (f5.trans f6)), R6, f6 _ _ nr (f5 _ _ nr (f4 _ _ nr hp3))⟩
      · exact ⟨_, rfl, f3.trans (f4.trans f5), R5, f5 _ _ nr (f4 _ _ nr hp3)⟩
    rintro _ H5 ⟨z, rfl, f5, R5, hp5⟩
    refine ⟨_, rfl, .inl ⟨rfl, _, SqL.of hp5⟩, _, rfl, p, _, _, rfl, rfl, hp5, ?_, ?_⟩
    · rw [List.length_map]
      exact small1000 (by omega)
    refine ⟨ns ++ [z], _, _, rfl, f5.mut np, ?_, ?_, ?_⟩
    · obtain ⟨x1, x2, x3, x4⟩ := R5
      exact ⟨x1, x2, x3, (upd_ne nr.symm).trans x4⟩
    · rw [upd_same, List.map_append]
      rfl
    · rw [List.length_append, hl]
      rfl
  · rintro σ H3 ⟨ns, y1, y2, rfl, f3, R3, hp3, hl⟩
    exact ⟨_, rfl, q p ns H3 f3 R3 np hp3 (by omega)⟩


end
end Pf

namespace Pf
open PySem PySem.Spec PyProof.Rows L2
section
variable {P : Program} {w : World} {K : PySem.W.Frag} {mg : Str → Option Value} {base : Heap}
/-! ### two lists side by side -/
def All2 {α β : Type} (R : α → β → Prop) (xs : List α) (ys : List β) : Prop := xs.length = ys.length ∧ ∀ (i : Nat) (x : α) (y : β), xs[i]? = some x → ys[i]? = some y → R x y
theorem All2.nil {α β : Type} {R : α → β → Prop} : All2 R [] [] := ⟨rfl, fun i x y h => by simp at h⟩
theorem All2.at {α β : Type} {R : α → β → Prop} {xs : List α} {ys : List β} (h : All2 R xs ys) {i : Nat} {x : α} (hx : xs[i]? = some x) : ∃ y, ys[i]? = some y ∧ R x y := by
  have hi : i < ys.length := by rw [← h.1]; exact (List.getElem?_eq_some_iff.mp hx).1
  exact ⟨ys[i], List.getElem?_eq_getElem hi, h.2 i x _ hx (List.getElem?_eq_getElem hi)⟩
theorem All2.of {α β : Type} {R : α → β → Prop} {xs : List α} {ys : List β} (h : All2 R xs ys) {i : Nat} {y : β} (hy : ys[i]? = some y) : ∃ x, xs[i]? = some x ∧ R x y := by
  have hi : i < xs.length := by rw [h.1]; exact (List.getElem?_eq_some_iff.mp hy).1
  exact ⟨xs[i], List.getElem?_eq_getElem hi, h.2 i _ y (List.getElem?_eq_getElem hi) hy⟩
theorem All2.imp {α β : Type} {R S : α → β → Prop} {xs : List α} {ys : List β} (h : All2 R xs ys) (k : ∀ x y, R x y → S x y) : All2 S xs ys := ⟨h.1, fun i x y a b => k x y (h.2 i x y a b)⟩
theorem All2.app {α β : Type} {R : α → β → Prop} {xs xs' : List α} {ys ys' : List β} (h : All2 R xs ys) (h' : All2 R xs' ys') : All2 R (xs ++ xs') (ys ++ ys') := by
  refine ⟨by rw [List.length_append, List.length_append, h.1, h'.1], fun i x y hx hy => ?_⟩
  by_cases hi : i < xs.length
  · rw [List.getElem?_append_left hi] at hx
    rw [List.getElem?_append_left (by rw [← h.1]; exact hi)] at hy
    exact h.2 i x y hx hy
  · rw [List.getElem?_append_right (by omega)] at hx
    rw [List.getElem?_append_right (by rw [← h.1]; omega), ← h.1] at hy
    exact h'.2 _ x y hx hy
theorem All2.one {α β : Type} {R : α → β → Prop} {x : α} {y : β} (h : R x y) : All2 R [x] [y] := ⟨rfl, fun i a b ha hb => by
  obtain _ | i := i
  · cases ha
    cases hb
    exact h
  · simp at ha⟩
theorem take_succ_at {α : Type} {xs : List α} {i : Nat} {x : α} (h : xs[i]? = some x) : xs.take (i + 1) = xs.take i ++ [x] := by rw [List.take_succ, h]; rfl
theorem All2.rev {α β : Type} {R : α → β → Prop} {xs : List α} {ys : List β} (h : All2 R xs ys) : All2 R xs.reverse ys.reverse := by
  have hl := h.1
  refine ⟨by rw [List.length_reverse, List.length_reverse, hl], fun i x y hx hy => ?_⟩
  have hi : i < xs.length := by
    have := (List.getElem?_eq_some_iff.mp hx).1
    rwa [List.length_reverse] at this
  rw [List.getElem?_reverse hi] at hx
  rw [List.getElem?_reverse (by omega), ← hl] at hy
  exact h.2 _ x y hx hy

def RowI (A : List Addr) (H : Hp) (v : V) (xs : List Int) : Prop := ∃ a, v = .ref a ∧ a ∉ A ∧ H a = some (.lst (xs.map V.int))
structure RSt (r p t : Addr) (ns : List Int) (H0 H : Hp) (vs : List V) (L : List (List Int)) (i : Nat) : Prop where
  f : Fr r H0 H
  rd : RD H r
  hp : H p = some (.lst (ns.map V.int))
  ht : H t = some (.lst vs)
  rw : All2 (RowI [r, t] H) vs L
  ln : L.length = i
  b : ∀ xs ∈ L, xs.length ≤ 12 + i ∧ ∀ x ∈ xs, x ∈ ns
theorem RSt.next {r p t : Addr} {ns : List Int} {H0 H H' : Hp} {vs : List V} {L : List (List Int)} {i : Nat} (h : RSt r p t ns H0 H vs L i) (n1 : p ≠ r) (n2 : t ≠ r) (f : Fr r H H') (R : RD H' r) : RSt r p t ns H0 H' vs L i :=
  ⟨h.f.trans f, R, f _ _ n1 h.hp, f _ _ n2 h.ht, h.rw.imp fun v xs ⟨a, e, n, k⟩ => ⟨a, e, n, f _ _ (fun z => n (z ▸ List.mem_cons_self)) k⟩, h.ln, h.b⟩
theorem RSt.add {r p t m : Addr} {ns xs : List Int} {H0 H : Hp} {vs : List V} {L : List (List Int)} {i : Nat} (h : RSt r p t ns H0 H vs L i) (nt : H0 t = none) (n1 : p ≠ t) (n2 : t ≠ r) (nm : m ≠ t) (nr : m ≠ r) (hm : H m = some (.lst (xs.map V.int))) (hl : xs.length ≤ 13 + i) (hn : ∀ x ∈ xs, x ∈ ns) :
    RSt r p t ns H0 (upd H t (.lst (vs ++ [.ref m]))) (vs ++ [.ref m]) (L ++ [xs]) (i + 1) := by
  refine ⟨h.f.mut nt, ?_, (upd_ne n1).trans h.hp, upd_same, ?_, ?_, ?_⟩
  · obtain ⟨x1, x2, x3, x4⟩ := h.rd
    exact ⟨x1, x2, x3, (upd_ne n2.symm).trans x4⟩
  · refine All2.app (h.rw.imp fun v ys ⟨a, e, n, k⟩ => ⟨a, e, n, (upd_ne (fun (z : a = t) => n (by rw [z]; exact List.mem_cons_of_mem _ List.mem_cons_self))).trans k⟩) (.one ⟨m, rfl, ?_, (upd_ne nm).trans hm⟩)
    intro z
    rcases List.mem_cons.mp z with z | z
    · exact nr z
    · exact nm (List.mem_singleton.mp z)
  · rw [List.length_append, h.ln]
    rfl
  · intro ys hy
    rcases List.mem_append.mp hy with hy | hy
    · exact ⟨by have := (h.b ys hy).1; omega, (h.b ys hy).2⟩
    · rw [List.mem_singleton.mp hy]
      exact ⟨by omega, hn⟩
def sp__law_sets (K : PySem.W.Frag) : Sp := fun us H Q _ => ∃ (r p : Addr) (ns : List Int) (many least most : Int), us = [.ref r, .ref p, .int many, .int least, .int most] ∧ RD H r ∧ p ≠ r ∧ H p = some (.lst (ns.map V.int)) ∧ 0 < ns.length ∧ ns.length ≤ 1000 ∧ 0 ≤ many ∧ many ≤ 80 ∧ 0 ≤ least ∧ least ≤ 2 ∧ 4 ≤ most ∧ most ≤ 10 ∧
  ∀ (t : Addr) (vs : List V) (L : List (List Int)) (H' : Hp), Fr r H H' → RD H' r → t ≠ r → H' t = some (.lst vs) → All2 (RowI [r, t] H') vs L → (L.length : Int) = many → (∀ xs ∈ L, xs.length ≤ 92 ∧ ∀ x ∈ xs, x ∈ ns) → Q (.ref t) H'
theorem ok__law_sets (T : Txt K mg) : Has P w K mg base 2 "_law_sets" ["reader", "integers", "many", "least", "most"] (sp__law_sets K) := by
  obtain ⟨f, fd, F, m, b⟩ := T.d__law_sets.ex
  obtain ⟨f__law_next, fd__law_next, G__law_next, m__law_next, k__law_next, b__law_next⟩ := ok__law_next (P := P) (w := w) (base := base) T
  refine ⟨f, fd, F.ok sc__law_sets (fun vs H Q E h => ?_) (fun cdv A outer s H vs Q E hr h => ?_), m, F.kp, b⟩
  · obtain ⟨r, p, ns, many, least, most, rfl, hR, npr, hp, l0, l1, m0, m1, a0, a1, b0, b1, q⟩ := h
    rfl
  obtain ⟨r, p, ns, many, least, most, rfl, hR, npr, hp, l0, l1, m0, m1, a0, a1, b0, b1, q⟩ := h
  refine ⟨_, (pss_cons (ps_set (i := 5) sc__law_sets.nd rfl (.inl rfl) (pe_lst pa_nil))
      (pss_cons (ps_for PassesOwn.never rfl (pi_range1 (by rfl) T.z_range (pa_cons (pv 2) pa_nil)) (pg_name (i := 6) sc__law_sets.nd rfl (.inl rfl))
      (pss_cons (ps_set (i := 7) sc__law_sets.nd rfl (.inl rfl) (pe_call G__law_next (hr.mono (by decide)) (by rfl) m__law_next k__law_next b__law_next .nil pass0 (pa_cons (pv 0) (pa_cons pe_int pa_nil))))
        (C8.pss_cut (ps_if (pt_cmpR op_gt (pv 6) pe_int (nomark _))
        (pss_one (ps_set (i := 7) sc__law_sets.nd rfl (.inl rfl) (pe_op op_mod (pe_callTy call_int1 (by rfl) T.z_int (by decide +kernel) (pa_cons (pv 7) pa_nil)) pe_int)))
        pss_nil)
        (pss_cons (ps_set (i := 8) sc__law_sets.nd rfl (.inl rfl) (pe_lst pa_nil))
        (pss_cons (ps_set (i := 9) sc__law_sets.nd rfl (.inl rfl) (pe_op op_add (pv 3) (pe_call G__law_next (hr.mono (by decide)) (by rfl) m__law_next k__law_next b__law_next .nil pass0 (pa_cons (pv 0) (pa_cons (pe_op op_sub (pe_op op_add (pv 4) pe_int) (pv 3)) pa_nil)))))
        (C8.pss_cut (ps_if (PW.pt (pw_and (pt_cmpR op_lt (pv 7) pe_int (nomark _)) (pw_and1 (pt_cmpR op_gt (pe_callB call_len_seq (by rfl) T.z_len (by decide +kernel) (pa_cons (pv 5) pa_nil)) pe_int (nomark _)))))
        (pss_cons (ps_set (i := 8) sc__law_sets.nd rfl (.inl rfl) (pe_revL (pe_ix ix_list (pv 5) (pe_call G__law_next (hr.mono (by decide)) (by rfl) m__law_next k__law_next b__law_next .nil pass0 (pa_cons (pv 0) (pa_cons (pe_callB call_len_seq (by rfl) T.z_len (by decide +kernel) (pa_cons (pv 5) pa_nil)) pa_nil))) (fun _ _ => rfl))))
          (pss_one (ps_set (i := 9) sc__law_sets.nd rfl (.inl rfl) (pv 7))))
        pss_nil)
        (pss_cons (ps_for PassesOwn.never rfl (pi_range1 (by rfl) T.z_range (pa_cons (pv 9) pa_nil)) (pg_name (i := 10) sc__law_sets.nd rfl (.inl rfl))
        (pss_one (ps_expr (pe_bm PySem.F.plainAttrs_list PySem.F.slot_list_append PySem.F.type_list_append mt_append (pv 8) (pa_cons (pe_ix ix_list (pv 1) (pe_call G__law_next (hr.mono (by decide)) (by rfl) m__law_next k__law_next b__law_next .nil pass0 (pa_cons (pv 0) (pa_cons (pe_callB call_len_seq (by rfl) T.z_len (by decide +kernel) (pa_cons (pv 1) pa_nil)) pa_nil))) (fun _ _ => rfl)) pa_nil)))))
        (C8.pss_cut (ps_if (pt_cmpR op_eq (pv 7) pe_int (nomark _))
        (pss_one (ps_set (i := 8) sc__law_sets.nd rfl (.inl rfl) (pe_op op_cat (pv 8) (pe_slice sl_list (pv 8) po_none (po_some pe_int)))))
        pss_nil)
        (pss_one (ps_expr (pe_bm PySem.F.plainAttrs_list PySem.F.slot_list_append PySem.F.type_list_append mt_append (pv 5) (pa_cons (pv 8) pa_nil))))))))))))
      (pss_cons (ps_if (pt_cmpR op_eq (pe_call G__law_next (hr.mono (by decide)) (by rfl) m__law_next k__law_next b__law_next .nil pass0 (pa_cons (pv 0) (pa_cons pe_int pa_nil))) pe_int (nomark _))
      (pss_one (ps_ret (pe_revL (pv 5))))
      pss_nil)
      (pss_one (ps_ret (pv 5)))))), ?_⟩
  have npt : ∀ {t : Addr}, H t = none → p ≠ t := fun n e => by rw [← e, hp] at n; cases n
  refine ⟨Nat.zero_le _, fun t nt => ?_⟩
  have nr : t ≠ r := hR.ne nt
  have npt := npt nt
  have S0 : RSt r p t ns H (upd H t (.lst [])) [] [] 0 := ⟨Fr.new nt, hR.of (same_new nt), same_new nt _ _ hp, upd_same, .nil, rfl, fun xs h => nomatch h⟩
  generalize upd H t (.lst []) = H1 at S0 ⊢
  refine ⟨_, rfl, many, rfl, by omega, by omega, for_range (fun i σ H3 => ∃ (vs : List V) (L : List (List Int)) (y6 y7 y8 y9 y10 : Option V), σ = [some (.ref r), some (.ref p), some (.int many), some (.int least), some (.int most), some (.ref t), y6, y7, y8, y9, y10] ∧ RSt r p t ns H H3 vs L i)
    ⟨_, _, _, _, _, _, _, rfl, S0⟩ ?_ ?_⟩
  · rintro i σ H3 hi ⟨vs, L, y6, y7, y8, y9, y10, rfl, S3⟩
    have hi80 : i < 80 := by omega
    refine ⟨_, rfl, r, 5, rfl, S3.rd, by decide, by decide, fun v H4 f4 R4 v0 v1 => ?_⟩
    have S4 := S3.next npr nr f4 R4
    refine ⟨fun σ H9 => ∃ z : Int, σ = [some (.ref r), some (.ref p), some (.int many), some (.int least), some (.int most), some (.ref t), some (.int (0 + (i : Int))), some (.int z), y8, y9, y10] ∧ H4 = H9 ∧ 0 ≤ z ∧ z < 5, ?_, ?_⟩
    · refine ⟨_, rfl, _, _, rfl, rfl, _, rfl, ite2 (fun e => ?_) (fun e => ⟨_, rfl, rfl, v0, v1⟩)⟩
      refine ⟨_, rfl, .inl ⟨_, rfl, _, _, rfl, rfl, (show (0 : Int) < 2 by decide), _, rfl, rfl, ?_, ?_⟩⟩
      all_goals have := mod_lt (i := v) (n := 2) (by decide); omega
    rintro _ _ ⟨z, rfl, rfl, z0, z5⟩
    refine ⟨Nat.zero_le _, fun m0 nm0 => ?_⟩
    have hm0 : upd H4 m0 (.lst []) m0 = some (.lst (([] : List Int).map V.int)) := upd_same
    have f5 : Fr r H4 (upd H4 m0 (.lst [])) := Fr.new nm0
    have R5 : RD (upd H4 m0 (.lst [])) r := R4.of (same_new nm0)
    generalize upd H4 m0 (.lst []) = H5 at hm0 f5 R5 ⊢
    have n4m : m0 ≠ t := fun e => by rw [e, S4.ht] at nm0; cases nm0
    have nmr : m0 ≠ r := R4.ne nm0
    refine ⟨_, rfl, _, rfl, _, rfl, _, _, rfl, rfl, _, rfl, _, _, rfl, rfl, r, _, rfl, R5, by omega, by omega, fun w H6 f6 R6 w0 w1 => ⟨_, _, rfl, rfl, ?_⟩⟩
    have hm6 := f6 _ _ nmr hm0
    refine ⟨fun σ H9 => ∃ (m : Addr) (xs : List Int) (n : Int), σ = [some (.ref r), some (.ref p), some (.int many), some (.int least), some (.int most), some (.ref t), some (.int (0 + (i : Int))), some (.int z), some (.ref m), some (.int n), y10] ∧ Fr r H4 H9 ∧ RD H9 r ∧ H4 m = none ∧ H9 m = some (.lst (xs.map V.int)) ∧ 0 ≤ n ∧ n ≤ 12 ∧ (xs.length : Int) + n + (if z = 0 then 1 else 0) ≤ 13 + i ∧ ∀ x ∈ xs, x ∈ ns, ?_, ?_⟩
    · have out : ∃ (m : Addr) (xs : List Int) (n : Int), ([some (.ref r), some (.ref p), some (.int many), some (.int least), some (.int most), some (.ref t), some (.int (0 + (i : Int))), some (.int z), some (.ref m0), some (.int (least + w)), y10] : L2.St) = [some (.ref r), some (.ref p), some (.int many), some (.int least), some (.int most), some (.ref t), some (.int (0 + (i : Int))), some (.int z), some (.ref m), some (.int n), y10] ∧ Fr r H4 H6 ∧ RD H6 r ∧ H4 m = none ∧ H6 m = some (.lst (xs.map V.int)) ∧ 0 ≤ n ∧ n ≤ 12 ∧ (xs.length : Int) + n + (if z = 0 then 1 else 0) ≤ 13 + i ∧ ∀ x ∈ xs, x ∈ ns :=
        ⟨m0, [], _, rfl, f5.trans f6, R6, nm0, hm6, by omega, by omega, by split <;> simp <;> omega, fun x h => nomatch h⟩
      have S6 := S4.next npr nr (f5.trans f6) R6
      refine ⟨_, rfl, _, _, rfl, rfl, _, rfl, ite2 (fun e => ?_) (fun e => iteF out)⟩
      refine ⟨_, rfl, t, _, rfl, .inl (SqL.of S6.ht), _, _, rfl, rfl, _, rfl, ite2 (fun e2 => ?_) (fun e2 => out)⟩
      have e2 : (0 : Int) < (vs.length : Nat) := of_decide_eq_true e2
      have l80 : vs.length = i := S6.rw.1.trans S6.ln
      refine ⟨_, rfl, _, rfl, _, rfl, t, _, rfl, .inl (SqL.of S6.ht), r, _, rfl, R6, by omega, by omega, fun u H7 f7 R7 u0 u1 => ?_⟩
      have S7 := S6.next npr nr f7 R7
      obtain ⟨y, hy1, hy2⟩ := at_in (xs := vs) u0 u1
      obtain ⟨xs, hxs, a, rfl, na, ha⟩ := S7.rw.at hy1
      refine ⟨t, _, _, _, rfl, rfl, SqL.of S7.ht, hy2, a, _, rfl, SqL.of ha, fun m nm => ⟨_, rfl, ?_⟩⟩
      have hb := S7.b xs (List.mem_of_getElem? hxs)
      have e1 : z < 2 := of_decide_eq_true e
      refine ⟨m, xs.reverse, z, rfl, (f5.trans (f6.trans f7)).trans (Fr.new nm), R7.of (same_new nm), (f5.trans (f6.trans f7)).free R4 R7 nm, by rw [upd_same, List.map_reverse], z0, by omega, ?_, fun x hx => hb.2 x (List.mem_reverse.mp hx)⟩
      rw [List.length_reverse]
      split <;> omega
    rintro _ H9 ⟨m, xs, n, rfl, f9, R9, nm, hm, n0, n12, hl, hx⟩
    have mt : m ≠ t := fun e => by rw [e, S4.ht] at nm; cases nm
    have mr : m ≠ r := R4.ne nm
    refine ⟨_, rfl, n, rfl, by omega, by omega, for_range (fun j σ H10 => ∃ (ys : List Int) (y10 : Option V), σ = [some (.ref r), some (.ref p), some (.int many), some (.int least), some (.int most), some (.ref t), some (.int (0 + (i : Int))), some (.int z), some (.ref m), some (.int n), y10] ∧ Fr r H4 H10 ∧ RD H10 r ∧ H10 m = some (.lst (ys.map V.int)) ∧ ys.length = xs.length + j ∧ ∀ x ∈ ys, x ∈ ns) ⟨xs, y10, rfl, f9, R9, hm, rfl, hx⟩ ?_ ?_⟩
    · rintro j σ H10 hj ⟨ys, y10, rfl, f10, R10, hm10, lj, hy⟩
      have S10 := S4.next npr nr f10 R10
      refine ⟨_, rfl, .inl ⟨rfl, _, SqL.of hm10⟩, _, rfl, _, rfl, _, rfl, p, _, rfl, .inl (SqL.of S10.hp), r, _, rfl, R10, by rw [List.length_map]; omega, by rw [List.length_map]; omega, fun u H11 f11 R11 u0 u1 => ?_⟩
      have S11 := S10.next npr nr f11 R11
      obtain ⟨x, hx1, hx2⟩ := at_in (xs := ns.map V.int) u0 u1
      rw [List.getElem?_map] at hx1
      cases hx3 : ns[u.toNat]? with
      | none => rw [hx3] at hx1; cases hx1
      | some c =>
        rw [hx3] at hx1
        cases hx1
        refine ⟨p, _, _, _, rfl, rfl, SqL.of S11.hp, hx2, m, _, _, rfl, rfl, f11 _ _ mr hm10, small1000 (by rw [List.length_map]; omega), ?_⟩
        refine ⟨ys ++ [c], _, rfl, (f10.trans f11).mut nm, ?_, by rw [upd_same, List.map_append]; rfl, by rw [List.length_append, lj]; rfl, fun x hx => ?_⟩
        · obtain ⟨x1, x2, x3, x4⟩ := R11
          exact ⟨x1, x2, x3, (upd_ne mr.symm).trans x4⟩
        · rcases List.mem_append.mp hx with hx | hx
          · exact hy x hx
          · rw [List.mem_singleton.mp hx]
            exact List.mem_of_getElem? hx3
    rintro σ H10 ⟨ys, y10, rfl, f10, R10, hm10, lj, hy⟩
    refine ⟨fun σ H9 => ∃ (m : Addr) (xs : List Int), σ = [some (.ref r), some (.ref p), some (.int many), some (.int least), some (.int most), some (.ref t), some (.int (0 + (i : Int))), some (.int z), some (.ref m), some (.int n), y10] ∧ Fr r H4 H9 ∧ RD H9 r ∧ m ≠ t ∧ m ≠ r ∧ H9 m = some (.lst (xs.map V.int)) ∧ xs.length ≤ 13 + i ∧ ∀ x ∈ xs, x ∈ ns, ?_, ?_⟩
    · refine ⟨_, rfl, rfl, _, rfl, ite2 (fun e => ?_) (fun e => ⟨m, ys, rfl, f10, R10, mt, mr, hm10, by split at hl <;> omega, hy⟩)⟩
      have ez : z = 0 := int_of_bl e
      rw [if_pos ez] at hl
      refine ⟨_, rfl, _, rfl, 1, rfl, m, _, rfl, SqL.of hm10, fun u nu => ?_⟩
      rw [show cutV (ys.map V.int) none (some 1) = (ys.take 1).map V.int by rw [show (1 : Int) = ((1 : Nat) : Int) from rfl, cut_to, List.map_take]]
      have hm11 := same_new (o := .lst ((ys.take 1).map V.int)) nu _ _ hm10
      have f11 := f10.trans (Fr.new (o := .lst ((ys.take 1).map V.int)) nu)
      have R11 := R10.of (same_new (o := .lst ((ys.take 1).map V.int)) nu)
      have hu := upd_same (H := H10) (a := u) (o := .lst ((ys.take 1).map V.int))
      generalize upd H10 u (.lst ((ys.take 1).map V.int)) = H11 at hm11 f11 R11 hu ⊢
      have l1 : (ys.take 1).length ≤ 1 := by rw [List.length_take]; omega
      refine ⟨m, u, _, _, rfl, rfl, hm11, hu, line_small (by rw [List.length_map, List.length_map]; omega), fun o no => ?_⟩
      have n4 : H4 o = none := f11.free R4 R11 no
      refine ⟨o, ys ++ ys.take 1, rfl, f11.trans (Fr.new no), R11.of (same_new no), (fun e => by rw [e, S4.ht] at n4; cases n4), R11.ne no, by rw [upd_same, List.map_append], by rw [List.length_append]; omega, fun x hx => ?_⟩
      rcases List.mem_append.mp hx with hx | hx
      · exact hy x hx
      · exact hy x (List.mem_of_mem_take hx)
    rintro _ H12 ⟨m2, zs, rfl, f12, R12, m2t, m2r, hm12, lz, hz⟩
    have S12 := S4.next npr nr f12 R12
    refine ⟨_, rfl, .inl ⟨rfl, _, SqL.of S12.ht⟩, _, rfl, t, _, _, rfl, rfl, S12.ht, small1000 (by have := S12.rw.1.trans S12.ln; omega), ?_⟩
    exact ⟨_, _, _, _, _, _, _, rfl, S12.add nt npt nr m2t m2r hm12 lz hz⟩
  · rintro σ H3 ⟨vs, L, y6, y7, y8, y9, y10, rfl, S3⟩
    have S3' := S3
    refine ⟨_, rfl, r, 2, rfl, S3.rd, by decide, by decide, fun v H4 f4 R4 v0 v1 => ⟨rfl, _, rfl, ite2 (fun e => ?_) (fun e => ?_)⟩⟩
    · have S4 := S3.next npr nr f4 R4
      refine ⟨_, rfl, t, _, rfl, SqL.of S4.ht, fun u nu => ?_⟩
      refine q u vs.reverse L.reverse _ (S4.f.trans (Fr.new nu)) (S4.rd.of (same_new nu)) (S4.rd.ne nu) upd_same ?_ (by rw [List.length_reverse, S4.ln]; omega) fun xs hx => ?_
      · refine All2.rev (S4.rw.imp fun v ys ⟨a, e, n, k⟩ => ⟨a, e, fun z => ?_, same_new nu _ _ k⟩)
        rcases List.mem_cons.mp z with z | z
        · exact n (by rw [z]; exact List.mem_cons_self)
        · rw [← List.mem_singleton.mp z, k] at nu
          cases nu
      · have := S4.b xs (List.mem_reverse.mp hx)
        exact ⟨by omega, this.2⟩
    · have S4 := S3.next npr nr f4 R4
      exact ⟨_, rfl, q t vs L H4 S4.f S4.rd nr S4.ht S4.rw (by rw [S4.ln]; omega) fun xs hx => ⟨by have := (S4.b xs hx).1; omega, (S4.b xs hx).2⟩⟩


end
end Pf

namespace Pf
open PySem PySem.Spec PyProof.Rows L2
section
variable {P : Program} {w : World} {K : PySem.W.Frag} {mg : Str → Option Value} {base : Heap}
/-- a proper part, of masks -/
def liesM (a b : Nat) : Bool := decide (a ≠ b) && decide (a &&& b = a)
theorem band_nat (a b : Nat) : Builtin.bitAnd (a : Int) (b : Int) = ((a &&& b : Nat) : Int) := by
  rw [PyProof.Rows.bitAnd_pp (Int.natCast_nonneg a) (Int.natCast_nonneg b), Int.toNat_natCast, Int.toNat_natCast]
theorem bor_nat (a b : Nat) : Builtin.bitOr (a : Int) (b : Int) = ((a ||| b : Nat) : Int) := by
  rw [Bits.bitOr_pp (Int.natCast_nonneg a) (Int.natCast_nonneg b), Int.toNat_natCast, Int.toNat_natCast]
def sp_lies_in (K : PySem.W.Frag) : Sp := fun us H Q _ => ∃ (a b : Nat), us = [.int (a : Int), .int (b : Int)] ∧ Q (.bl (liesM a b)) H
theorem ok_lies_in (T : Txt K mg) : Has P w K mg base 1 "lies_in" ["one", "other"] (sp_lies_in K) := by
  obtain ⟨f, fd, F, m, b⟩ := T.d_lies_in.ex
  refine ⟨f, fd, F.ok sc_lies_in (fun vs H Q E h => ?_) (fun cdv A outer s H vs Q E hr h => ?_), m, F.kp, b⟩
  · obtain ⟨a, b, rfl, q⟩ := h
    rfl
  obtain ⟨a, b, rfl, q⟩ := h
  refine ⟨_, (pss_one (ps_ret (pe_and (pe_cmpR op_ne (pv 0) (pv 1) (nomark _)) (pe_one (pe_cmpR op_eq (pe_op op_and (pv 0) (pv 1)) (pv 0) (nomark _)))))), ?_⟩
  have inj : ∀ {i j : Nat}, decide (V.int (i : Int) = V.int (j : Int)) = decide (i = j) := fun {i j} => by
    rw [Bool.eq_iff_iff, decide_eq_true_iff, decide_eq_true_iff]
    exact ⟨fun h => Int.ofNat.inj (V.int.inj h), fun h => congrArg (fun n : Nat => V.int n) h⟩
  refine ⟨_, rfl, _, rfl, rfl, _, rfl, ite2 (fun e => ?_) (fun e => ?_)⟩
  · refine ⟨_, rfl, _, rfl, _, _, rfl, rfl, _, rfl, rfl, ?_⟩
    rw [inj] at e
    show Q (.bl (decide (V.int (Builtin.bitAnd (a : Int) (b : Int)) = V.int (a : Int)))) H
    rw [band_nat, inj]
    have : liesM a b = decide (a &&& b = a) := by
      unfold liesM
      rw [show decide (a ≠ b) = true by simpa using e, Bool.true_and]
    rw [← this]
    exact q
  · rw [inj] at e
    have : liesM a b = false := by
      unfold liesM
      rw [show decide (a ≠ b) = false by simpa using e, Bool.false_and]
    rw [← this]
    exact q


end
end Pf

namespace Pf
open PySem PySem.Spec PyProof.Rows L2
section
variable {P : Program} {w : World} {K : PySem.W.Frag} {mg : Str → Option Value} {base : Heap}
theorem inV_ints (x : Int) (ns : List Int) : inV (.int x) (ns.map V.int) = decide (x ∈ ns) := by
  unfold inV
  rw [Bool.eq_iff_iff, List.any_eq_true, decide_eq_true_eq]
  constructor
  · rintro ⟨y, hy, e⟩
    obtain ⟨n, hn, rfl⟩ := List.mem_map.mp hy
    have : decide (n = x) = true := e
    rw [← of_decide_eq_true this]
    exact hn
  · intro h
    exact ⟨.int x, List.mem_map_of_mem h, (decide_eq_true rfl : decide (x = x) = true)⟩
def sp__law_lies (K : PySem.W.Frag) : Sp := fun us H Q _ => ∃ (p w : Addr) (xs ys : List Int), us = [.ref p, .ref w] ∧ SqT K H p (xs.map V.int) ∧ SqT K H w (ys.map V.int) ∧ Q (.bl (xs.all fun x => decide (x ∈ ys))) H
theorem ok__law_lies (T : Txt K mg) : Has P w K mg base 1 "_law_lies" ["part", "whole"] (sp__law_lies K) := by
  obtain ⟨f, fd, F, m, b⟩ := T.d__law_lies.ex
  refine ⟨f, fd, F.ok sc__law_lies (fun vs H Q E h => ?_) (fun cdv A outer s H vs Q E hr h => ?_), m, F.kp, b⟩
  · obtain ⟨p, w, xs, ys, rfl, hp, hw, q⟩ := h
    rfl
  obtain ⟨p, w, xs, ys, rfl, hp, hw, q⟩ := h
  refine ⟨_, (pss_cons (ps_for PassesOwn.never rfl (pi_tup (pv 0)) (pg_name (i := 2) sc__law_lies.nd rfl (.inl rfl))
      (pss_one (ps_if (pt_cmpR op_notIn_seq (pv 2) (pv 1) (by rfl))
        (pss_one (ps_ret pe_bl))
        pss_nil)))
      (pss_one (ps_ret pe_bl))), ?_⟩
  have flat : (ys.map V.int).all flatV = true := by
    rw [List.all_map]
    exact List.all_eq_true.mpr fun _ _ => rfl
  refine ⟨_, rfl, p, rfl, ⟨_, hp⟩, for_tup (xs := xs.map V.int) (fun i σ H' => H = H' ∧ ∃ y, σ = [some (.ref p), some (.ref w), y] ∧ ((xs.take i).all fun x => decide (x ∈ ys)) = true) ⟨rfl, none, rfl, rfl⟩ (fun i σ H' _ h => by rw [← h.1]; exact hp) ?_ ?_⟩
  · rintro i x σ _ hx ⟨rfl, y, rfl, hall⟩
    rw [List.getElem?_map] at hx
    cases hc : xs[i]? with
    | none => rw [hc] at hx; cases hx
    | some c =>
      rw [hc] at hx
      cases hx
      refine ⟨_, rfl, _, rfl, w, _, rfl, .inr hw, rfl, flat, _, rfl, ite2 (fun e => ?_) (fun e => ?_)⟩
      · have hn : c ∉ ys := by simpa [inV_ints] using e
        have : (xs.all fun x => decide (x ∈ ys)) = false := by
          rw [← Bool.not_eq_true]
          intro hall
          exact hn (of_decide_eq_true (List.all_eq_true.mp hall c (List.mem_of_getElem? hc)))
        rw [this] at q
        exact q
      · have hn : c ∈ ys := by simpa [inV_ints] using e
        refine ⟨rfl, _, rfl, ?_⟩
        rw [take_succ_at hc, List.all_append, hall, Bool.true_and, List.all_cons, List.all_nil, Bool.and_true]
        exact decide_eq_true hn
  · rintro σ _ ⟨rfl, y, rfl, hall⟩
    rw [List.length_map, List.take_length] at hall
    rw [hall] at q
    exact q


end
end Pf

namespace Pf
open PySem PySem.Spec PyProof.Rows L2
section
variable {P : Program} {w : World} {K : PySem.W.Frag} {mg : Str → Option Value} {base : Heap}
/-! ### two sources in one comprehension -/
section
variable {J : It} {n : Nat} {G : Hp → Prop} {Y : Nat → Hp → V → Hp → Prop}
theorem two_out (w : Walk J n G Y) {H0 : Hp} {Qd : Hp → Prop} {T : (Hp → Prop) → V → Hp → Prop} (Pv : Nat → Hp → Prop) (h0 : Pv 0 H0) (hG : ∀ i H, i ≤ n → Pv i H → G H)
    (hs : ∀ i x H H', i < n → Pv i H → Y i H x H' → T (Pv (i + 1)) x H') (hd : ∀ H, Pv n H → Qd H) :
    ∃ W : Nat → Nat → Hp → Prop, (∃ m, W 0 m H0) ∧ ∀ i m H, W i m H → (J.stop i H ∧ Qd H) ∨ (J.go i H ∧ ∃ N : Hp → Prop, (∀ H', N H' → ∃ m', m' < m ∧ W (i + 1) m' H') ∧ ∀ x H', J.yld i H x H' → T N x H') := by
  refine ⟨fun i m H => m = n - i ∧ i ≤ n ∧ Pv i H, ⟨n, by omega, Nat.zero_le _, h0⟩, fun i m H hw => ?_⟩
  obtain ⟨rfl, hi, p⟩ := hw
  have gH := hG i H hi p
  rcases Nat.lt_or_eq_of_le hi with hlt | rfl
  · exact .inr ⟨w.goes i H hlt gH, Pv (i + 1), fun H' p' => ⟨_, by omega, rfl, hlt, p'⟩, fun x H' y => hs i x H H' hlt p (w.yields i H x H' hlt gH y)⟩
  · exact .inl ⟨w.stops H gH, hd H p⟩
end
/-! ### a for that is the last of a block: what comes behind is a letter of its own -/
theorem for_itN {J : It} {n : Nat} {G : Hp → Prop} {Y : Nat → Hp → V → Hp → Prop} (w : Walk J n G Y) {g : TG} {tb : TS} {nx : L2.St → Hp → Prop} {rt : VK} {σ : L2.St} {H : Hp} (Pv : Nat → L2.St → Hp → Prop) (h0 : Pv 0 σ H) (hG : ∀ i σ H, i ≤ n → Pv i σ H → G H)
    (hs : ∀ i x σ H H', i < n → Pv i σ H → Y i H x H' → g x σ H' fun σ2 H2 => tb { nx := Pv (i + 1), rt := rt, bk := nx, ct := Pv (i + 1) } σ2 H2) (hd : ∀ σ H, Pv n σ H → nx σ H) :
    ∃ W : Nat → Nat → L2.St → Hp → Prop, (∃ m, W 0 m σ H) ∧ ∀ i m σ H, W i m σ H →
      (J.stop i H ∧ nx σ H) ∨ (J.go i H ∧ ∃ N : L2.St → Hp → Prop, (∀ σ' H', N σ' H' → ∃ m', m' < m ∧ W (i + 1) m' σ' H') ∧ ∀ x H', J.yld i H x H' → g x σ H' fun σ2 H2 => tb { nx := N, rt := rt, bk := nx, ct := N } σ2 H2) :=
  for_it (D := { nx := nx, rt := rt }) w Pv h0 hG hs hd
theorem gname_to {i : Nat} {v : V} {σ : L2.St} {H : Hp} {Q : L2.St → Hp → Prop} (h : Q (σ.set i (some v)) H) : gName i v σ H Q := h
theorem seq_to {t u : TS} {D : Ends} {σ : L2.St} {H : Hp} (h : t { D with nx := u D } σ H) : tSeq t u D σ H := h
theorem dun {k : Nat} {A : Around} (r : Room k A) : A.units + 1 < cLine := by have := r.units; omega


theorem nodup_le {α : Type} [DecidableEq α] : ∀ {xs ys : List α}, xs.Nodup → (∀ x ∈ xs, x ∈ ys) → xs.length ≤ ys.length
  | [], _, _, _ => Nat.zero_le _
  | x :: xs, ys, h, k => by
    have hx := k x List.mem_cons_self
    rw [List.nodup_cons] at h
    have ih := nodup_le (ys := ys.erase x) h.2 fun y hy => (List.mem_erase_of_ne (a := y) (b := x) (fun e : y = x => h.1 (by rw [← e]; exact hy))).mpr (k y (List.mem_cons_of_mem _ hy))
    rw [List.length_erase_of_mem hx] at ih
    have : 0 < ys.length := List.length_pos_of_mem hx
    rw [List.length_cons]
    omega
theorem seqT_same {K : PySem.W.Frag} {H H' : Hp} {a : Addr} {xs : List V} (e : Same H H') (h : SqT K H a xs) : SqT K H' a xs := by
  rcases h with (h | ⟨o, h⟩) | h
  · exact .inl (.inl (e _ _ h))
  · exact .inl (.inr ⟨o, e _ _ h⟩)
  · exact .inr h
theorem alt_seq {K : PySem.W.Frag} {i : Nat} {σ : L2.St} {H : Hp} {R : It → Hp → Prop} {a : Addr} {xs : List V} (hi : σ[i]? = some (some (.ref a))) (hq : SqL K H a xs ∨ SqT K H a xs)
    (k : ∀ (J : It) (G : Hp → Prop), Walk J xs.length G (YAt xs) → (∀ H', Same H H' → G H') → R J H) : iList K (tVar i) σ H R ∨ iTup K (tVar i) σ H R := by
  rcases hq with h | h
  · exact .inl ⟨_, hi, a, rfl, ⟨_, h⟩, k _ _ walk_list fun H' s => s.seq h⟩
  · exact .inr ⟨_, hi, a, rfl, ⟨_, h⟩, k _ _ walk_tup fun H' s => seqT_same s h⟩
theorem alt_seqS {K : PySem.W.Frag} {i : Nat} {σ : L2.St} {H0 H : Hp} {R : It → Hp → Prop} {a : Addr} {xs : List V} (s0 : Same H0 H) (hi : σ[i]? = some (some (.ref a))) (hq : SqL K H0 a xs ∨ SqT K H0 a xs)
    (k : ∀ (J : It) (G : Hp → Prop), Walk J xs.length G (YAt xs) → (∀ H', Same H0 H' → G H') → R J H) : iList K (tVar i) σ H R ∨ iTup K (tVar i) σ H R := by
  rcases hq with h | h
  · exact .inl ⟨_, hi, a, rfl, ⟨_, s0.seq h⟩, k _ _ walk_list fun H' s => s.seq h⟩
  · exact .inr ⟨_, hi, a, rfl, ⟨_, seqT_same s0 h⟩, k _ _ walk_tup fun H' s => seqT_same s h⟩
/-- S: the set of what stands in ls; n: how many -/
def CntI (S : Int → Bool) (n : Nat) (ls : List Int) : Prop := ∃ ks : List Int, ks.Nodup ∧ ks.length = n ∧ (∀ k, k ∈ ks ↔ S k = true) ∧ ∀ k, S k = true ↔ k ∈ ls
theorem CntI.zero : CntI (fun _ => false) 0 [] := ⟨[], List.nodup_nil, rfl, fun k => ⟨(fun h => nomatch h), (fun h => nomatch h)⟩, fun k => ⟨(fun h => nomatch h), (fun h => nomatch h)⟩⟩
theorem CntI.le {S : Int → Bool} {n : Nat} {ls ms : List Int} (h : CntI S n ls) (k : ∀ x ∈ ls, x ∈ ms) : n ≤ ms.length := by
  obtain ⟨ks, h1, h2, h3, h4⟩ := h
  rw [← h2]
  exact nodup_le h1 fun x hx => k x ((h4 x).mp ((h3 x).mp hx))
theorem CntI.more {S : Int → Bool} {n : Nat} {ls : List Int} (z : Int) (h : CntI S n ls) : CntI (fun j => S j || decide (j = z)) (if S z = true then n else n + 1) (ls ++ [z]) := by
  obtain ⟨ks, h1, h2, h3, h4⟩ := h
  have last : ∀ k, (S k || decide (k = z)) = true ↔ k ∈ ls ++ [z] := fun k => by
    rw [Bool.or_eq_true, decide_eq_true_eq, List.mem_append, List.mem_singleton, h4 k]
  by_cases hz : S z = true
  · rw [if_pos hz]
    refine ⟨ks, h1, h2, fun k => ?_, last⟩
    rw [h3 k, Bool.or_eq_true, decide_eq_true_eq]
    exact ⟨.inl, fun h => h.elim id fun e => e ▸ hz⟩
  · rw [if_neg hz]
    refine ⟨z :: ks, List.nodup_cons.mpr ⟨fun m => hz ((h3 z).mp m), h1⟩, by rw [List.length_cons, h2], fun k => ?_, last⟩
    rw [List.mem_cons, h3 k, Bool.or_eq_true, decide_eq_true_eq]
    exact ⟨fun h => h.elim .inr .inl, fun h => h.elim .inr .inl⟩
/-- sets as they are passed: a list or a tuple of lists or tuples of integers -/
def RowS (K : PySem.W.Frag) (H : Hp) (v : V) (xs : List Int) : Prop := ∃ a, v = .ref a ∧ (SqL K H a (xs.map V.int) ∨ SqT K H a (xs.map V.int))
def SetsAt (K : PySem.W.Frag) (H : Hp) (t : Addr) (vs : List V) (L : List (List Int)) : Prop := (SqL K H t vs ∨ SqT K H t vs) ∧ All2 (RowS K H) vs L
def sp_members_of (K : PySem.W.Frag) : Sp := fun us H Q _ => ∃ (t : Addr) (vs : List V) (L : List (List Int)) (ms : List Int), us = [.ref t] ∧ SetsAt K H t vs L ∧ (∀ xs ∈ L, ∀ x ∈ xs, x ∈ ms) ∧ ms.length ≤ 60 ∧
  ∀ (p : Addr) (ns : List Int) (H' : Hp), Same H H' → H p = none → H' p = some (.lst (ns.map V.int)) → ns.Pairwise (· < ·) → (∀ k : Int, k ∈ ns ↔ ∃ xs ∈ L, k ∈ xs) → Q (.ref p) H'
theorem ok_members_of (T : Txt K mg) : Has P w K mg base 1 "members_of" ["sets"] (sp_members_of K) := by
  obtain ⟨f, fd, F, m, b⟩ := T.d_members_of.ex
  refine ⟨f, fd, F.ok sc_members_of (fun vs H Q E h => ?_) (fun cdv A outer s H vs Q E hr h => ?_), m, F.kp, b⟩
  · obtain ⟨t, vs, L, ms, rfl, ⟨hS, hA⟩, hm, l60, q⟩ := h
    rfl
  obtain ⟨t, vs, L, ms, rfl, ⟨hS, hA⟩, hm, l60, q⟩ := h
  refine ⟨_, (pss_one (ps_ret (pe_callB (cr_sortedSet rfl) (by rfl) T.z_sorted (by decide +kernel) (pa_cons (pe_sc2 (own := [("one", 1), ("member", 2)]) (vs1 := [2]) (g := gName 1) (g1 := gName 2) (by rfl) sc_members_of.nd (pi_alt (pi_list (pv 0)) (pi_tup (pv 0))) (blkOk_by (own := [("one", 1), ("member", 2)]) (N := ["sets", "one", "member"]) (sc := defScope s_members_of) (by decide +kernel)) (by decide) (fun _ _ _ _ _ => (pg_name (i := 1) sc_members_of.nd rfl (.inl rfl))) (fun _ _ _ _ _ => pts_nil) (fun _ _ _ _ _ => (pi_alt (pi_listK (K := K) rfl (pv 1)) (pi_tupK (K := K) rfl (pv 1)))) (fun _ _ _ _ _ => (pg_name (i := 2) sc_members_of.nd rfl (.inl rfl))) (fun _ _ _ _ _ => pts_nil) (fun _ _ _ _ _ => (pv 2))) pa_nil)))), ?_⟩
  refine alt_seq (i := 0) rfl hS fun J G wk hG D nD => ?_
  have lv := hA.1
  refine two_out wk (fun i H' => Same H H' ∧ ∃ S n, H' D = some (SetO w D S n) ∧ CntI S n (L.take i).flatten) ⟨same_new nD, _, 0, upd_same, CntI.zero⟩ (fun i H' _ h' => hG H' h'.1) ?_ ?_
  · rintro i x H1 H2 hi ⟨s1, S, n, hD, hc⟩ ⟨rfl, hx⟩
    obtain ⟨xs, hxs, a, rfl, ha⟩ := hA.at hx
    refine ⟨rfl, ?_⟩
    refine alt_seqS (i := 1) s1 rfl ha fun J1 G1 wk1 hG1 => ?_
    show Exists _
    refine two_out wk1 (fun j H' => Same H H' ∧ ∃ S n, H' D = some (SetO w D S n) ∧ CntI S n ((L.take i).flatten ++ xs.take j)) ⟨s1, S, n, hD, by rw [List.take_zero, List.append_nil]; exact hc⟩ (fun j H' _ h' => hG1 H' h'.1) ?_ ?_
    · rintro j y H3 H4 hj ⟨s3, S3, n3, hD3, hc3⟩ ⟨rfl, hy⟩
      rw [List.getElem?_map] at hy
      cases eo : xs[j]? with
      | none => rw [eo] at hy; cases hy
      | some z =>
      rw [eo] at hy
      cases hy
      refine ⟨rfl, ?_⟩
      have ln : n3 ≤ ms.length := hc3.le fun c hc => by
        rcases List.mem_append.mp hc with hc | hc
        · obtain ⟨ys, h1, h2⟩ := List.mem_flatten.mp hc
          exact hm ys (List.mem_of_mem_take h1) c h2
        · exact hm xs (List.mem_of_getElem? hxs) c (List.mem_of_mem_take hc)
      refine ⟨_, rfl, z, S3, n3, rfl, hD3, by unfold scanBound; omega, same_mut s3 nD, _, _, upd_same, ?_⟩
      rw [take_succ_at eo, ← List.append_assoc]
      exact hc3.more z
    · rintro H3 ⟨s3, S3, n3, hD3, hc3⟩
      refine ⟨s3, S3, n3, hD3, ?_⟩
      rw [List.length_map, List.take_length] at hc3
      rw [take_succ_at hxs, List.flatten_append, List.flatten_cons, List.flatten_nil, List.append_nil]
      exact hc3
  · rintro H1 ⟨s1, S, n, hD, hc⟩
    rw [lv, List.take_length] at hc
    have ln : n ≤ ms.length := hc.le fun c hc => by
      obtain ⟨ys, h1, h2⟩ := List.mem_flatten.mp hc
      exact hm ys h1 c h2
    obtain ⟨ks, k1, k2, k3, k4⟩ := hc
    refine ⟨D, S, n, rfl, hD, by omega, fun ns p hs hk _ np => ?_⟩
    refine q p ns _ (s1.trans (same_new np)) (same_back s1 np) upd_same hs fun k => ?_
    rw [hk k, k4 k, List.mem_flatten]


end
end Pf

namespace Pf
open PySem PySem.Spec PyProof.Rows L2
section
variable {P : Program} {w : World} {K : PySem.W.Frag} {mg : Str → Option Value} {base : Heap}
/-! ### a dict comprehension that a statement gives to a local name -/
section
variable {X : Cx}
theorem sw_trueD {kx vx : Expr} {gs : List Comprehension} {scope : Scope} {pos py : Pos} {y : Str} {l : Nat} {env : Env} (hk : env.scope.kind = .function) (hy : env.scope.names.lookup y = some .local) (hl : (py.line == pos.line) = true)
    (ha : (scope.names.any fun (n, k) => n == y && (k == .local || k == .cell)) = false) : swapsWith (.DictComp kx vx gs scope pos) (some (.Name y py)) l env = pure true := by
  have ky : env.kindOf y = some .local := hy
  have hb : env.blockKind = .function := by unfold Env.blockKind; rw [hk]; rfl
  unfold swapsWith
  simp only [hb, ky, ha, Expr.pos, hl]
  rfl
theorem ps_setDc {i : Nat} {y : Str} {py : Pos} {kx vx tg iter : Expr} {ifs : List Expr} {scope : Scope} {own : List (Str × Nat)} {pos spos : Pos} {wi : TI} {g : TG} {tt : TT} {tk tv : TE} (hc : X.calm = true) (hN : X.N.Nodup) (hy : X.N[i]? = some y) (hyl : X.env.scope.names.lookup y = some .local)
    (hsw : swapsWith (.DictComp kx vx [⟨tg, iter, ifs, 0⟩] scope pos) (some (.Name y py)) spos.line X.env = pure true) (hi : PI X tg iter wi) (ok : BlkOk X.N X.env.scope scope own)
    (hg : ∀ (s : Shared) (H : Hp) (C : Addr) (cl : List (Str × Addr)) (fp : List Addr), PG (X.blk s H scope (compEnvC scope cl C X.env) fp) tg g) (ht : ∀ (s : Shared) (H : Hp) (C : Addr) (cl : List (Str × Addr)) (fp : List Addr), PTs (X.blk s H scope (compEnvC scope cl C X.env) fp) ifs tt)
    (hk : ∀ (s : Shared) (H : Hp) (C : Addr) (cl : List (Str × Addr)) (fp : List Addr), PE (X.blk s H scope (compEnvC scope cl C X.env) fp) kx tk)
    (he : ∀ (s : Shared) (H : Hp) (C : Addr) (cl : List (Str × Addr)) (fp : List Addr), PE (X.blk s H scope (compEnvC scope cl C X.env) fp) vx tv) (hs : ∀ x, foldedSetIterable iter X.env x = pure x := by intro _; rfl) :
    PS X (.Assign [.Name y py] (.DictComp kx vx [⟨tg, iter, ifs, 0⟩] scope pos) spos) (tAsg (tDc wi g tt tk tv (own.map (·.2))) (gName i)) := by
  refine ⟨fun pins s σ H D I h => ?_⟩
  rw [exec_Assign_Name_used _ _ _ _ hsw]
  refine wpAny_bind (wpAny_standAt (wpAny_bind ?_))
  change wpAny _ X.A (do let _ ← comprehension (.DictComp kx vx [⟨tg, iter, ifs, 0⟩] scope pos) scope X.env (firstIterPos [⟨tg, iter, ifs, 0⟩] pos) newDict false (eval iter X.env) (some (assign (.Name y py) X.env))) _ _ s
  have h : tDc wi g tt tk tv (own.map (·.2)) σ H (fun x H1 => gName i x σ H1 D.nx) := h
  refine wpAny_bind (thn (dc_core (Qf := fun _ s' => SP X pins D .next s') hc hN I hi ok hg ht hk he hs h fun L C s' m H' I' q hn f => ?_) fun _ s' hq => wpAny_pure (wpAny_pure hq))
  change wpAny _ _ (assign (.Name y py) X.env (.ref L)) _ _ _
  refine wpAny_assign_Name (store_ok2 (v := V.ref L) I' hN hy (.inl hyl) rfl (fun s2 I2 ⟨a, sb, ha⟩ => ?_) (.inr hyl))
  obtain ⟨f0, f1, f2, f3, f4, f5⟩ := f
  have haC : C ≠ a := by
    rcases ha with z | z
    · rw [z]; exact f1
    · exact fun e => f4 y a z e.symm
  refine ⟨m, hn.sameBut sb haC, fun h3 sb3 => ?_⟩
  exact ⟨_, H', I2.turned (t' := s2.toks) (fun b o hb e => (sb3.2 b hb).trans e) f0 f1 f3 f4 f5, q⟩
end


theorem putK_len {kvs : List (Key × V)} {k : Key} {v : V} : (putK kvs k v).length ≤ kvs.length + 1 := by
  unfold putK
  split
  · rw [List.length_map]
    omega
  · rw [List.length_append]
    exact Nat.le_refl _
/-- k: the mask of xs by the places in ns -/
def IsM (ns xs : List Int) (k : Nat) : Prop := ∀ i : Nat, k.testBit i = true ↔ ∃ x ∈ xs, ns[i]? = some x
/-- a dict that has the numbers ks -/
def mkD (ks : List Nat) : List (Key × V) := ks.map fun k : Nat => ((.inl (k : Int), .bl true) : Key × V)
theorem mkD_val (ks : List Nat) (k : Nat) : valV (mkD ks) (.inl (k : Int)) = if k ∈ ks then some (.bl true) else none := by
  induction ks with
  | nil => rfl
  | cons j ks ih =>
    change valV ((((.inl (j : Int), .bl true) : Key × V)) :: mkD ks) (.inl (k : Int)) = _
    by_cases e : j = k
    · subst e
      rw [valV_pos rfl, if_pos List.mem_cons_self]
    · rw [valV_neg (fun h => e (Int.ofNat.inj (Sum.inl.inj h))), ih]
      simp [List.mem_cons, Ne.symm (a := j) (b := k) e]
theorem mkD_put (ks : List Nat) (k : Nat) : putK (mkD ks) (.inl (k : Int)) (.bl true) = mkD (if k ∈ ks then ks else ks ++ [k]) := by
  by_cases e : k ∈ ks
  · rw [if_pos e]
    unfold putK
    rw [valV_any, mkD_val, if_pos e, if_pos (by rfl : (some (V.bl true)).isSome = true)]
    unfold mkD
    rw [List.map_map]
    refine List.map_congr_left fun j _ => ?_
    show (if (Sum.inl (j : Int) : Key) = .inl (k : Int) then ((.inl (j : Int), .bl true) : Key × V) else (.inl (j : Int), .bl true)) = (.inl (j : Int), .bl true)
    split <;> rfl
  · rw [if_neg e, putK_new _ (by rw [mkD_val, if_neg e])]
    unfold mkD
    rw [List.map_append]
    rfl
theorem IsM.zero {ns : List Int} : IsM ns [] 0 := fun i => by
  rw [Nat.zero_testBit]
  exact ⟨(fun h => nomatch h), fun ⟨_, h, _⟩ => nomatch h⟩
theorem IsM.more {ns xs : List Int} {k j : Nat} {c : Int} (nd : ns.Nodup) (h : IsM ns xs k) (hj : ns[j]? = some c) : IsM ns (xs ++ [c]) (k ||| 2 ^ j) := fun i => by
  rw [Nat.testBit_or, Nat.testBit_two_pow, Bool.or_eq_true, h i, decide_eq_true_eq]
  constructor
  · rintro (⟨x, hx, e⟩ | rfl)
    · exact ⟨x, List.mem_append_left _ hx, e⟩
    · exact ⟨c, List.mem_append_right _ List.mem_cons_self, hj⟩
  · rintro ⟨x, hx, e⟩
    rcases List.mem_append.mp hx with hx | hx
    · exact .inl ⟨x, hx, e⟩
    · rw [List.mem_singleton.mp hx] at e
      exact .inr ((List.getElem?_inj (List.getElem?_eq_some_iff.mp hj).1 nd).mp (hj.trans e.symm))
theorem IsM.eq {ns xs : List Int} {k j : Nat} (h : IsM ns xs k) (h' : IsM ns xs j) : k = j := Nat.eq_of_testBit_eq fun i => by
  rw [Bool.eq_iff_iff, h i, h' i]
def sp_distinct_masks (K : PySem.W.Frag) : Sp := fun us H Q _ => ∃ (t p : Addr) (vs : List V) (L : List (List Int)) (ns : List Int), us = [.ref t, .ref p] ∧ SetsAt K H t vs L ∧ H p = some (.lst (ns.map V.int)) ∧ ns.Nodup ∧ ns.length ≤ 60 ∧ (∀ xs ∈ L, ∀ x ∈ xs, x ∈ ns) ∧ L.length ≤ 1000 ∧
  ∀ (m : Addr) (ks : List Nat) (H' : Hp), Same H H' → H m = none → H' m = some (.lst (ks.map fun k : Nat => V.int k)) → ks.Nodup → (∀ k, k ∈ ks ↔ ∃ xs ∈ L, IsM ns xs k) → Q (.ref m) H'
theorem ok_distinct_masks (T : Txt K mg) : Has P w K mg base 1 "distinct_masks" ["sets", "members"] (sp_distinct_masks K) := by
  obtain ⟨f, fd, F, m, b⟩ := T.d_distinct_masks.ex
  refine ⟨f, fd, F.ok sc_distinct_masks (fun vs H Q E h => ?_) (fun cdv A outer s H vs Q E hr h => ?_), m, F.kp, b⟩
  · obtain ⟨t, p, vs, L, ns, rfl, ⟨hS, hA⟩, hp, nd, l60, hm, l200, q⟩ := h
    rfl
  obtain ⟨t, p, vs, L, ns, rfl, ⟨hS, hA⟩, hp, nd, l60, hm, l200, q⟩ := h
  refine ⟨_, (pss_cons (ps_setDc (i := 3) (own := [("index", 7), ("member", 2)]) (by rfl) sc_distinct_masks.nd rfl rfl (sw_trueD rfl rfl rfl (by decide +kernel)) (pi_enum (by rfl) T.z_enumerate (pa_cons (pv 1) pa_nil)) (blkOk_by (own := [("index", 7), ("member", 2)]) (N := ["sets", "members", "member", "bits", "masks", "one", "mask", "index"]) (sc := defScope s_distinct_masks) (by decide +kernel)) (fun _ _ _ _ _ => (pg_tupK (K := K) (n := 2) rfl rfl (pgs_cons (pg_name (i := 7) sc_distinct_masks.nd rfl (.inl rfl)) (pgs_cons (pg_name (i := 2) sc_distinct_masks.nd rfl (.inl rfl)) pgs_nil)))) (fun _ _ _ _ _ => pts_nil) (fun _ _ _ _ _ => (pv 2)) (fun _ _ _ _ _ => (pe_op op_shlW pe_int (pv 7))))
      (pss_cons (ps_set (i := 4) sc_distinct_masks.nd rfl (.inl rfl) pe_dnewK)
      (pss_cons (ps_for PassesOwn.never rfl (pi_alt (pi_list (pv 0)) (pi_tup (pv 0))) (pg_name (i := 5) sc_distinct_masks.nd rfl (.inl rfl))
      (pss_cons (ps_set (i := 6) sc_distinct_masks.nd rfl (.inl rfl) pe_int)
        (pss_cons (ps_for PassesOwn.never rfl (pi_alt (pi_list (pv 5)) (pi_tup (pv 5))) (pg_name (i := 2) sc_distinct_masks.nd rfl (.inl rfl))
        (pss_one (ps_set (i := 6) sc_distinct_masks.nd rfl (.inl rfl) (pe_op op_or (pv 6) (pe_dget (dun hr) (pv 3) (pv 2) (fun _ _ => rfl))))))
        (pss_one (ps_dput (dun hr) (pv 4) (pv 6) pe_bl (by rfl))))))
      (pss_one (ps_ret (pe_callTy (call_listD rfl) (by rfl) T.z_list (by decide +kernel) (pa_cons (pv 4) pa_nil))))))), ?_⟩
  refine ⟨_, rfl, p, _, rfl, SqL.of hp, fun D nD => ?_⟩
  show Exists _
  refine two_out walk_enum (fun i H' => Same H H' ∧ ∃ kvs : List (Key × V), H' D = some (.dK kvs) ∧ kvs.length ≤ i ∧ ∀ (j : Nat) (x : Int), j < i → ns[j]? = some x → valV kvs (.inl x) = some (.int ((2 ^ j : Nat) : Int))) ⟨same_new nD, [], upd_same, Nat.zero_le _, fun j x h => absurd h (Nat.not_lt_zero _)⟩ (fun i H' _ h' => h'.1.seq (SqL.of hp)) ?_ ?_
  · rintro i x H1 H2 hi ⟨s1, kvs, hD, lk, hv⟩ ⟨T, z, x, rfl, nT, rfl, hz, hx⟩
    cases hz
    have hx : (ns.map V.int)[i]? = some x := hx
    rw [List.getElem?_map] at hx
    cases ex : ns[i]? with
    | none => rw [ex] at hx; cases hx
    | some c =>
    rw [ex] at hx
    cases hx
    have hTt := upd_same (H := H1) (a := T) (o := .tup [.int (i : Nat), .int c])
    refine ⟨T, _, rfl, SqT.of hTt, rfl, _, _, rfl, _, _, rfl, rfl, rfl, ?_⟩
    have nDT : D ≠ T := ne_of_none hD nT
    have hi60 : i < 60 := by rw [List.length_map] at hi; omega
    have b1 : (Builtin.Int.intBits 1 : Int) = 1 := by decide
    refine ⟨_, rfl, _, rfl, _, _, rfl, rfl, ⟨by omega, by rw [b1]; omega⟩, kvs, .inl c, rfl, (same_new nT) _ _ hD, line_small (by omega), ?_⟩
    refine ⟨same_mut (s1.trans (same_new nT)) nD, _, upd_same, Nat.le_trans putK_len (by omega), fun j x hj ej => ?_⟩
    rw [valV_put]
    by_cases e : j = i
    · subst e
      rw [ex] at ej
      cases ej
      rw [if_pos rfl]
      show some (V.int (1 * 2 ^ ((j : Nat) : Int).toNat)) = _
      rw [Int.one_mul, Int.toNat_natCast]
      congr 2
    · have nx : x ≠ c := fun e2 => e (by
        subst e2
        exact (List.getElem?_inj (List.getElem?_eq_some_iff.mp ej).1 nd).mp (ej.trans ex.symm))
      rw [if_neg (fun h => nx (Sum.inl.inj h))]
      exact hv j x (by omega) ej
  · rintro H1 ⟨s1, kvs, hD, lk, hv⟩
    rw [List.length_map] at lk hv
    intro m nm
    have mD : m ≠ D := fun e => by rw [e, hD] at nm; cases nm
    have hm0 := upd_same (H := H1) (a := m) (o := .dK [])
    have hD0 : upd H1 m (.dK []) D = some (.dK kvs) := same_new nm _ _ hD
    have s0 := s1.trans (same_new (o := .dK []) nm)
    have nm0 : H m = none := same_back s1 nm
    generalize upd H1 m (.dK []) = H2 at hm0 hD0 s0 ⊢
    refine alt_seqS (i := 0) s0 rfl hS fun J G wk hG => ?_
    refine for_it wk (fun i σ H' => ∃ y2 y5 y6 y7, σ = [some (.ref t), some (.ref p), y2, some (.ref D), some (.ref m), y5, y6, y7] ∧ Same H H' ∧ H' D = some (.dK kvs) ∧ ∃ ks : List Nat, H' m = some (.dK (mkD ks)) ∧ ks.Nodup ∧ ks.length ≤ i ∧ ∀ k, k ∈ ks ↔ ∃ xs ∈ L.take i, IsM ns xs k)
      ⟨_, _, _, _, rfl, s0, hD0, [], hm0, List.nodup_nil, Nat.le_refl _, fun k => ⟨(fun h => nomatch h), fun ⟨_, h, _⟩ => nomatch h⟩⟩ (fun i σ H' _ h' => ?_) ?_ ?_
    · obtain ⟨_, _, _, _, _, s2, _⟩ := h'
      exact hG _ s2
    · rintro i x σ H3 H4 hi ⟨y2, y5, y6, y7, rfl, s3, hD3, ks, hm3, nks, lks, hks⟩ ⟨rfl, hx⟩
      obtain ⟨xs, hxs, a, rfl, ha⟩ := hA.at hx
      refine alt_seqS (i := 5) s3 rfl ha fun J1 G1 wk1 hG1 => ?_
      refine for_it wk1 (fun j σ H' => ∃ (y2 y7 : Option V) (k : Nat), σ = [some (.ref t), some (.ref p), y2, some (.ref D), some (.ref m), some (.ref a), some (.int (k : Int)), y7] ∧ H4 = H' ∧ IsM ns (xs.take j) k) ⟨_, _, 0, rfl, rfl, IsM.zero⟩ (fun i σ H' _ h' => ?_) ?_ ?_
      · obtain ⟨_, _, _, _, rfl, _⟩ := h'
        exact hG1 _ s3
      · rintro j y σ H5 H6 hj ⟨y2, y7, k, rfl, rfl, hk⟩ ⟨rfl, hy⟩
        rw [List.getElem?_map] at hy
        cases eo : xs[j]? with
        | none => rw [eo] at hy; cases hy
        | some c =>
        rw [eo] at hy
        cases hy
        obtain ⟨i0, hi0⟩ := List.getElem?_of_mem (hm xs (List.mem_of_getElem? hxs) c (List.mem_of_getElem? eo))
        have li0 : i0 < ns.length := (List.getElem?_eq_some_iff.mp hi0).1
        have hg := DGet.k (k := .inl c) hD3
        rw [hv i0 c li0 hi0] at hg
        refine ⟨_, rfl, _, rfl, _, rfl, D, _, rfl, hg, _, _, rfl, rfl, ?_⟩
        refine ⟨some (.int c), y7, k ||| 2 ^ i0, ?_, rfl, ?_⟩
        · rw [← bor_nat]
          rfl
        · rw [take_succ_at eo]
          exact hk.more nd hi0
      · rintro σ H5 ⟨y2, y7, k, rfl, rfl, hk⟩
        rw [List.length_map, List.take_length] at hk
        have hpt := DPut.k (k := .inl (k : Int)) (v := .bl true) hm3 (line_small (by unfold mkD; rw [List.length_map]; have := hA.1; omega))
        rw [mkD_put] at hpt
        refine ⟨_, rfl, _, rfl, m, _, rfl, hpt, _, _, _, _, rfl, same_mut s3 nm0, (upd_ne mD.symm).trans hD3, _, upd_same, ?_, ?_, fun j => ?_⟩
        · split
          · exact nks
          · next h => exact List.nodup_append.mpr ⟨nks, by simp, fun a ha b hb e => by rw [List.mem_singleton.mp hb] at e; exact h (e ▸ ha)⟩
        · split
          · omega
          · rw [List.length_append]
            exact Nat.succ_le_succ lks
        · have e1 : j ∈ (if k ∈ ks then ks else ks ++ [k]) ↔ j ∈ ks ∨ j = k := by
            split
            · next h => exact ⟨.inl, fun z => z.elim id fun e => e ▸ h⟩
            · rw [List.mem_append, List.mem_singleton]
          rw [e1, hks j, take_succ_at hxs]
          constructor
          · rintro (⟨ys, h1, h2⟩ | rfl)
            · exact ⟨ys, List.mem_append_left _ h1, h2⟩
            · exact ⟨xs, List.mem_append_right _ List.mem_cons_self, hk⟩
          · rintro ⟨ys, h1, h2⟩
            rcases List.mem_append.mp h1 with h1 | h1
            · exact .inl ⟨ys, h1, h2⟩
            · rw [List.mem_singleton.mp h1] at h2
              exact .inr (h2.eq hk)
    · rintro σ H3 ⟨y2, y5, y6, y7, rfl, s3, hD3, ks, hm3, nks, lks, hks⟩
      rw [hA.1, List.take_length] at hks
      refine ⟨_, rfl, m, _, rfl, .inl hm3, fun u nu => ?_⟩
      refine q u ks _ (s3.trans (same_new nu)) (same_back s3 nu) ?_ nks hks
      rw [upd_same]
      unfold mkD
      rw [List.map_map]
      rfl


end
end Pf

namespace Pf
open PySem PySem.Spec PyProof.Rows L2
section
variable {P : Program} {w : World} {K : PySem.W.Frag} {mg : Str → Option Value} {base : Heap}
theorem call_tuple_ofK {X : Cx} {K : PySem.W.Frag} (h : X.K = K) : CallR X (.type "tuple") (fun xs H Q => ∃ p ys, xs = [.ref p] ∧ ((SqL K H p ys ∧ ∀ l, H l = none → Q (.ref l) (upd H l (.tup ys))) ∨ SqT K H p ys ∧ Q (.ref p) H)) := h ▸ call_tuple_of
theorem lt_lineP {n : Nat} (h : n < 100000) : n < sizeLine := Nat.lt_of_lt_of_le h (by decide)
theorem sqT_keep {K : PySem.W.Frag} {H : Hp} {D a : Addr} {xs ws : List V} {o : HO} (h : SqT K H a xs) (hD : H D = some (.lst ws)) : SqT K (upd H D o) a xs := by
  rcases h with (h | ⟨o, h⟩) | h
  · exact .inl (.inl ((upd_ne fun e => by rw [e, hD] at h; cases h).trans h))
  · exact .inl (.inr ⟨o, (upd_ne fun e => by rw [e, hD] at h; cases h).trans h⟩)
  · exact .inr h
theorem RowS.same {K : PySem.W.Frag} {H H' : Hp} {v : V} {xs : List Int} (e : Same H H') (h : RowS K H v xs) : RowS K H' v xs := by
  obtain ⟨a, rfl, k⟩ := h
  exact ⟨a, rfl, k.elim (fun k => .inl (e.seq k)) fun k => .inr (seqT_same e k)⟩
def sp__law_passed (K : PySem.W.Frag) : Sp := fun us H Q _ => ∃ (t : Addr) (f : Nat) (vs : List V) (L : List (List Int)), us = [.ref t, .int (f : Int)] ∧ SetsAt K H t vs L ∧ L.length ≤ 1000 ∧
  ∀ (u : Addr) (ws : List V) (H' : Hp), Same H H' → SetsAt K H' u ws L → Q (.ref u) H'
theorem ok__law_passed (T : Txt K mg) : Has P w K mg base 1 "_law_passed" ["sets", "form"] (sp__law_passed K) := by
  obtain ⟨f, fd, F, m, b⟩ := T.d__law_passed.ex
  refine ⟨f, fd, F.ok sc__law_passed (fun vs H Q E h => ?_) (fun cdv A outer s H vs Q E hr h => ?_), m, F.kp, b⟩
  · obtain ⟨t, f, vs, L, rfl, ⟨ht, hA⟩, l1000, q⟩ := h
    rfl
  obtain ⟨t, f, vs, L, rfl, ⟨ht, hA⟩, l1000, q⟩ := h
  refine ⟨_, (pss_cons (ps_setLc (i := 2) (own := [("members", 3)]) (g := gName 3) (by rfl) sc__law_passed.nd rfl rfl (sw_true rfl rfl rfl (by decide +kernel)) (pi_alt (pi_list (pv 0)) (pi_tup (pv 0))) (blkOk_by (own := [("members", 3)]) (N := ["sets", "form", "rows", "members"]) (sc := defScope s__law_passed) (by decide +kernel)) (fun _ _ _ _ _ => (pg_name (i := 3) sc__law_passed.nd rfl (.inl rfl))) (fun _ _ _ _ _ => pts_nil) (fun _ _ _ _ _ => (pe_callTy (call_list_ofK (K := K) rfl) (by rfl) T.z_list (by decide +kernel) (pa_cons (pv 3) pa_nil))))
      (C8.pss_cut (ps_if (pt_cmpR op_eq (pe_op op_mod (pe_callTy call_int1 (by rfl) T.z_int (by decide +kernel) (pa_cons (pv 1) pa_nil)) pe_int) pe_int (nomark _))
      (pss_one (ps_setLc (i := 2) (own := [("members", 3)]) (g := gName 3) (by rfl) sc__law_passed.nd rfl rfl (sw_true rfl rfl rfl (by decide +kernel)) (pi_alt (pi_list (pv 0)) (pi_tup (pv 0))) (blkOk_by (own := [("members", 3)]) (N := ["sets", "form", "rows", "members"]) (sc := defScope s__law_passed) (by decide +kernel)) (fun _ _ _ _ _ => (pg_name (i := 3) sc__law_passed.nd rfl (.inl rfl))) (fun _ _ _ _ _ => pts_nil) (fun _ _ _ _ _ => (pe_callTy (call_tuple_ofK (K := K) rfl) (by rfl) T.z_tuple (by decide +kernel) (pa_cons (pv 3) pa_nil)))))
      pss_nil)
      (pss_cons (ps_if (pt_cmpR op_gt (pv 1) pe_int (nomark _))
      (pss_one (ps_ret (pe_callTy call_tuple_of (by rfl) T.z_tuple (by decide +kernel) (pa_cons (pv 2) pa_nil))))
      pss_nil)
      (pss_one (ps_ret (pv 2)))))), ?_⟩
  have lv := hA.1
  refine alt_seq (i := 0) rfl ht fun J G wk hG D nD => ?_
  show Exists _
  refine two_out wk (fun i H' => Same H H' ∧ ∃ ws, H' D = some (.lst ws) ∧ All2 (fun v (xs : List Int) => ∃ a, v = .ref a ∧ a ≠ D ∧ H' a = some (.lst (xs.map V.int))) ws (L.take i)) ⟨same_new nD, [], upd_same, All2.nil⟩ (fun i H' _ h' => hG H' h'.1) ?_ ?_
  · rintro i x H1 H2 hi ⟨s1, ws, hD, hP⟩ ⟨rfl, hx⟩
    obtain ⟨xs, hxs, a, rfl, ha⟩ := hA.at hx
    have lw := hP.1
    rw [List.length_take] at lw
    refine ⟨rfl, _, rfl, a, _, rfl, ha.imp (fun k => s1.seq k) (fun k => seqT_same s1 k), fun l nl => ⟨ws, same_new nl _ _ hD, lt_lineP (by omega), same_mut (s1.trans (same_new nl)) nD, _, upd_same, ?_⟩⟩
    have lD : l ≠ D := fun e => by rw [e, hD] at nl; cases nl
    rw [take_succ_at hxs]
    exact (hP.imp fun v ys ⟨b, e, n, k⟩ => ⟨b, e, n, (upd_ne n).trans (same_new nl _ _ k)⟩).app (All2.one ⟨l, rfl, lD, (upd_ne lD).trans upd_same⟩)
  rintro H1 ⟨s1, ws, hD, hP⟩
  rw [lv, List.take_length] at hP
  have hP1 : All2 (RowS K H1) ws L := hP.imp fun v xs ⟨a, e, _, k⟩ => ⟨a, e, .inl (SqL.of k)⟩
  clear hP
  refine ⟨fun σ H' => ∃ u ws y3, σ = [some (.ref t), some (.int (f : Int)), some (.ref u), y3] ∧ Same H H' ∧ H' u = some (.lst ws) ∧ All2 (RowS K H') ws L, ?_, ?_⟩
  · refine ⟨_, rfl, .inl ⟨_, rfl, _, _, rfl, rfl, (show (0 : Int) < 2 by decide), rfl, _, rfl, ite2 (fun e => ?_) (fun e => ?_)⟩⟩
    · refine alt_seqS (i := 0) s1 rfl ht fun J2 G2 wk2 hG2 D2 nD2 => ?_
      show Exists _
      refine two_out wk2 (fun i H' => Same H1 H' ∧ ∃ ws, H' D2 = some (.lst ws) ∧ All2 (fun v (xs : List Int) => ∃ a, v = .ref a ∧ SqT K H' a (xs.map V.int)) ws (L.take i)) ⟨same_new nD2, [], upd_same, All2.nil⟩ (fun i H' _ h' => hG2 H' (s1.trans h'.1)) ?_ ?_
      · rintro i x H2 H3 hi ⟨s2, ws2, hD2, hP2⟩ ⟨rfl, hx⟩
        obtain ⟨xs, hxs, a, rfl, ha⟩ := hA.at hx
        have lw := hP2.1
        rw [List.length_take] at lw
        have s02 := s1.trans s2
        rcases ha with ha | ha
        · refine ⟨rfl, _, rfl, a, _, rfl, .inl ⟨s02.seq ha, fun l nl => ⟨ws2, same_new nl _ _ hD2, lt_lineP (by omega), same_mut (s2.trans (same_new nl)) nD2, _, upd_same, ?_⟩⟩⟩
          have lD : l ≠ D2 := fun e => by rw [e, hD2] at nl; cases nl
          rw [take_succ_at hxs]
          exact (hP2.imp fun v ys ⟨b, e, k⟩ => ⟨b, e, sqT_keep (seqT_same (same_new nl) k) (same_new nl _ _ hD2)⟩).app (All2.one ⟨l, rfl, SqT.of ((upd_ne lD).trans upd_same)⟩)
        · refine ⟨rfl, _, rfl, a, _, rfl, .inr ⟨seqT_same s02 ha, ws2, hD2, lt_lineP (by omega), same_mut s2 nD2, _, upd_same, ?_⟩⟩
          rw [take_succ_at hxs]
          exact (hP2.imp fun v ys ⟨b, e, k⟩ => ⟨b, e, sqT_keep k hD2⟩).app (All2.one ⟨a, rfl, sqT_keep (seqT_same s02 ha) hD2⟩)
      · rintro H2 ⟨s2, ws2, hD2, hP2⟩
        rw [lv, List.take_length] at hP2
        exact ⟨D2, ws2, _, rfl, s1.trans s2, hD2, hP2.imp fun v xs ⟨a, e, k⟩ => ⟨a, e, .inr k⟩⟩
    · exact ⟨D, ws, _, rfl, s1, hD, hP1⟩
  rintro _ H3 ⟨u, us, y3, rfl, s3, hu, hR⟩
  refine ⟨_, rfl, _, _, rfl, rfl, _, rfl, ite2 (fun e => ?_) (fun e => ?_)⟩
  · exact ⟨_, rfl, u, _, rfl, .inl ⟨SqL.of hu, fun l nl => q l us _ (s3.trans (same_new nl)) ⟨.inr (SqT.of upd_same), hR.imp fun _ _ h => h.same (same_new nl)⟩⟩⟩
  · exact ⟨_, rfl, q u us H3 s3 ⟨.inl (SqL.of hu), hR⟩⟩


end
end Pf

namespace Pf
open PySem PySem.Spec PyProof.Rows L2
section
variable {P : Program} {w : World} {K : PySem.W.Frag} {mg : Str → Option Value} {base : Heap}
/-! ### lists of ints, of texts, as data -/
theorem lay_ints : ∀ ns : List Int, PyData.canLayAll0 (ns.map PyData.int) = true
  | [] => by simp [PyData.canLayAll0]
  | n :: ns => by simp [PyData.canLayAll0, PyData.canLay0, lay_ints ns]
theorem lay_strs : ∀ ws : List Str, (∀ x ∈ ws, PyData.strOk x = true) → PyData.canLayAll0 (ws.map PyData.str) = true
  | [], _ => by simp [PyData.canLayAll0]
  | n :: ns, h => by simp [PyData.canLayAll0, PyData.canLay0, lay_strs ns fun x hx => h x (List.mem_cons_of_mem _ hx), h n List.mem_cons_self]
theorem dep_ints : ∀ ns : List Int, PyData.depthAll (ns.map PyData.int) ≤ 1
  | [] => by simp [PyData.depthAll]
  | n :: ns => by
    have h := dep_ints ns
    simp only [List.map_cons, PyData.depthAll, PyData.depth]
    omega
theorem dep_strs : ∀ ws : List Str, PyData.depthAll (ws.map PyData.str) ≤ 1
  | [] => by simp [PyData.depthAll]
  | n :: ns => by
    have h := dep_strs ns
    simp only [List.map_cons, PyData.depthAll, PyData.depth]
    omega
theorem shaped_lst {ds : List PyData} (h : PyData.canLayAll0 ds = true) (d : PyData.depthAll ds ≤ 60) : SeqAt.shaped (.list ds) = true := by
  show (PyData.canLay0 (.list ds) && decide (PyData.depth (.list ds) ≤ 64)) = true
  rw [Bool.and_eq_true]
  refine ⟨by simp only [PyData.canLay0]; exact h, decide_eq_true ?_⟩
  simp only [PyData.depth]
  omega
theorem shaped_ints (ns : List Int) : SeqAt.shaped (.list (ns.map PyData.int)) = true := shaped_lst (lay_ints ns) (Nat.le_trans (dep_ints ns) (by decide))
theorem shaped_strs {ws : List Str} (h : ∀ x ∈ ws, PyData.strOk x = true) : SeqAt.shaped (.list (ws.map PyData.str)) = true := shaped_lst (lay_strs ws h) (Nat.le_trans (dep_strs ws) (by decide))
theorem eqv_self {d : PyData} (h : SeqAt.shaped d = true) : PyData.eqv d d = true := SeqAt.eqv_refl d (SeqAt.canLay_of_shaped h)
theorem dpa_ints {K : PySem.W.Frag} {H : Hp} : ∀ ns : List Int, DpAll K H (ns.map V.int) (ns.map PyData.int)
  | [] => .nil
  | n :: ns => .cons (.int n) (dpa_ints ns)
theorem dpa_strs {K : PySem.W.Frag} {H : Hp} : ∀ ws : List Str, DpAll K H (ws.map V.str) (ws.map PyData.str)
  | [] => .nil
  | n :: ns => .cons (.str n) (dpa_strs ns)

def sp__law_stays (K : PySem.W.Frag) : Sp := fun us H Q _ => ∃ (u t : Addr) (ws vs : List V) (L : List (List Int)), us = [.ref u, .ref t] ∧ SetsAt K H u ws L ∧ H t = some (.lst vs) ∧ All2 (RowI [] H) vs L ∧ L.length ≤ 1000 ∧ (∀ xs ∈ L, xs.length ≤ 100) ∧ ∀ H', Same H H' → Q (.bl true) H'
theorem ok__law_stays (T : Txt K mg) : Has P w K mg base 1 "_law_stays" ["passed", "sets"] (sp__law_stays K) := by
  obtain ⟨f, fd, F, m, b⟩ := T.d__law_stays.ex
  refine ⟨f, fd, F.ok sc__law_stays (fun vs H Q E h => ?_) (fun cdv A outer s H vs Q E hr h => ?_), m, F.kp, b⟩
  · obtain ⟨u, t, ws, vs, L, rfl, ⟨hu, hw⟩, ht, hA, l200, l100, q⟩ := h
    rfl
  obtain ⟨u, t, ws, vs, L, rfl, ⟨hu, hw⟩, ht, hA, l200, l100, q⟩ := h
  refine ⟨_, (pss_cons (ps_if (pt_cmpR op_ne (pe_callB call_len_seq (by rfl) T.z_len (by decide +kernel) (pa_cons (pv 0) pa_nil)) (pe_callB call_len_seq (by rfl) T.z_len (by decide +kernel) (pa_cons (pv 1) pa_nil)) (nomark _))
      (pss_one (ps_ret pe_bl))
      pss_nil)
      (pss_cons (ps_for PassesOwn.never rfl (pi_range1 (by rfl) T.z_range (pa_cons (pe_callB call_len_seq (by rfl) T.z_len (by decide +kernel) (pa_cons (pv 1) pa_nil)) pa_nil)) (pg_name (i := 2) sc__law_stays.nd rfl (.inl rfl))
      (pss_one (ps_if (pt_cmpR (op_neD hr.units) (pe_callTy call_list_of (by rfl) T.z_list (by decide +kernel) (pa_cons (pe_ix ix_seq (pv 0) (pv 2) (fun _ _ => rfl)) pa_nil)) (pe_ix ix_list (pv 1) (pv 2) (fun _ _ => rfl)) (nomark _))
        (pss_one (ps_ret pe_bl))
        pss_nil)))
      (pss_one (ps_ret pe_bl)))), ?_⟩
  have lw := hw.1
  have lv := hA.1
  have ne : ∀ {m n : Nat}, m = n → (!decide (V.int (m : Int) = V.int (n : Int))) = false := fun e => by rw [e]; simp
  refine ⟨_, rfl, u, ws, rfl, hu, _, rfl, t, vs, rfl, .inl (SqL.of ht), rfl, _, rfl, ite2 (fun e => absurd e (by rw [ne (lw.trans lv.symm)]; decide)) (fun _ => ?_)⟩
  refine ⟨_, rfl, t, vs, rfl, .inl (SqL.of ht), (vs.length : Nat), rfl, by omega, by omega, for_range (fun i σ H' => ∃ y, σ = [some (.ref u), some (.ref t), y] ∧ Same H H') ⟨_, rfl, Same.refl _⟩ ?_ ?_⟩
  · rintro i σ H1 hi ⟨y, rfl, s1⟩
    have hiv : i < vs.length := by omega
    obtain ⟨x, hx⟩ : ∃ x, vs[i]? = some x := ⟨_, List.getElem?_eq_getElem hiv⟩
    obtain ⟨xs, hxs, b, rfl, _, hb⟩ := hA.at hx
    obtain ⟨z, hz, a, rfl, ha⟩ := hw.of hxs
    have ha1 : SqL K H1 a (xs.map V.int) ∨ SqT K H1 a (xs.map V.int) := ha.imp (fun k => s1.seq k) fun k => seqT_same s1 k
    have hz' : atI ws (0 + (i : Int)) = some (V.ref a) := by rw [Int.zero_add]; exact atI_nat hz
    have hx' : atI vs (0 + (i : Int)) = some (V.ref b) := by rw [Int.zero_add]; exact atI_nat hx
    rcases hu with hu | hu
    · refine ⟨_, rfl, _, rfl, .inl ⟨u, ws, _, _, rfl, rfl, s1.seq hu, hz', a, _, rfl, ha1, fun l nl => ?_⟩⟩
      have s2 := s1.trans (same_new (o := .lst (xs.map V.int)) nl)
      have hl := upd_same (H := H1) (a := l) (o := .lst (xs.map V.int))
      generalize upd H1 l (.lst (xs.map V.int)) = H2 at s2 hl ⊢
      refine ⟨_, rfl, _, rfl, t, vs, _, _, rfl, rfl, SqL.of (s2 _ _ ht), hx', _, _, .lst (SqL.of hl) (dpa_ints xs), .lst (SqL.of (s2 _ _ hb)) (dpa_ints xs), shaped_ints xs, shaped_ints xs, _, rfl, ?_⟩
      rw [eqv_self (shaped_ints xs)]
      exact iteF ⟨_, rfl, s2⟩
    · refine ⟨_, rfl, _, rfl, .inr (.inl ⟨u, ws, _, _, rfl, rfl, seqT_same s1 hu, hz', a, _, rfl, ha1, fun l nl => ?_⟩)⟩
      have s2 := s1.trans (same_new (o := .lst (xs.map V.int)) nl)
      have hl := upd_same (H := H1) (a := l) (o := .lst (xs.map V.int))
      generalize upd H1 l (.lst (xs.map V.int)) = H2 at s2 hl ⊢
      refine ⟨_, rfl, _, rfl, t, vs, _, _, rfl, rfl, SqL.of (s2 _ _ ht), hx', _, _, .lst (SqL.of hl) (dpa_ints xs), .lst (SqL.of (s2 _ _ hb)) (dpa_ints xs), shaped_ints xs, shaped_ints xs, _, rfl, ?_⟩
      rw [eqv_self (shaped_ints xs)]
      exact iteF ⟨_, rfl, s2⟩
  · rintro σ H1 ⟨y, rfl, s1⟩
    exact q H1 s1


end
end Pf

namespace Pf
open PySem PySem.Spec PyProof.Rows L2
section
variable {P : Program} {w : World} {K : PySem.W.Frag} {mg : Str → Option Value} {base : Heap}
theorem tyx_seq {K : PySem.W.Frag} {H : Hp} {a : Addr} {xs : List V} (h : SqT K H a xs) : TyX K H (.ref a) (.type "tuple") := by
  rcases h with (h | ⟨o, h⟩) | ⟨o, its, n, h, hc, _⟩
  · exact .base (.tup h)
  · exact .fTuple h
  · exact .kTuple h hc
def RowT (K : PySem.W.Frag) (H : Hp) (v : V) (xs : List Int) : Prop := ∃ a, v = .ref a ∧ SqT K H a (xs.map V.int)
theorem ixq {K : PySem.W.Frag} {H : Hp} {d : Addr} {ws : List V} {i : Int} {v : V} {Q : V → Hp → Prop} (h : SqL K H d ws ∨ SqT K H d ws) (e : atI ws i = some v) (q : Q v H) : rIx K (.ref d) (.int i) H Q :=
  h.elim (fun k => .inl ⟨d, ws, i, v, rfl, rfl, k, e, q⟩) fun k => .inr (.inl ⟨d, ws, i, v, rfl, rfl, k, e, q⟩)
def sp__law_told (K : PySem.W.Frag) : Sp := fun us H Q _ => ∃ (a d : Addr) (vs ws : List V) (R : List (List Int)), us = [.ref a, .ref d] ∧ SqT K H a vs ∧ All2 (RowT K H) vs R ∧ (SqL K H d ws ∨ SqT K H d ws) ∧ All2 (RowT K H) ws R ∧ R.length ≤ 5000 ∧ (∀ xs ∈ R, xs.length ≤ 100) ∧ Q (.bl true) H
theorem ok__law_told (T : Txt K mg) : Has P w K mg base 1 "_law_told" ["told", "due"] (sp__law_told K) := by
  obtain ⟨f, fd, F, m, b⟩ := T.d__law_told.ex
  refine ⟨f, fd, F.ok sc__law_told (fun vs H Q E h => ?_) (fun cdv A outer s H vs Q E hr h => ?_), m, F.kp, b⟩
  · obtain ⟨a, d, vs, ws, R, rfl, ha, hv, hd, hw, l200, l100, q⟩ := h
    rfl
  obtain ⟨a, d, vs, ws, R, rfl, ha, hv, hd, hw, l200, l100, q⟩ := h
  refine ⟨_, (pss_cons (ps_if (PW.pt (pw_or (pt_not (pt_val (pe_callB call_isi (by rfl) T.z_isinstance (by decide +kernel) (pa_cons (pv 0) (pa_cons (pe_bltn (v := .ty "tuple") (by rfl) T.z_tuple (by decide +kernel) rfl) pa_nil))))) (pw_or1 (pt_cmpR op_ne (pe_callB call_len_seq (by rfl) T.z_len (by decide +kernel) (pa_cons (pv 0) pa_nil)) (pe_callB call_len_seq (by rfl) T.z_len (by decide +kernel) (pa_cons (pv 1) pa_nil)) (nomark _)))))
      (pss_one (ps_ret pe_bl))
      pss_nil)
      (pss_cons (ps_for PassesOwn.never rfl (pi_range1 (by rfl) T.z_range (pa_cons (pe_callB call_len_seq (by rfl) T.z_len (by decide +kernel) (pa_cons (pv 1) pa_nil)) pa_nil)) (pg_name (i := 2) sc__law_told.nd rfl (.inl rfl))
      (pss_cons (ps_set (i := 3) sc__law_told.nd rfl (.inl rfl) (pe_ix ix_tup (pv 0) (pv 2) (fun _ _ => rfl)))
        (pss_cons (ps_if (PW.pt (pw_or (pt_not (pt_val (pe_callB call_isi (by rfl) T.z_isinstance (by decide +kernel) (pa_cons (pv 3) (pa_cons (pe_bltn (v := .ty "tuple") (by rfl) T.z_tuple (by decide +kernel) rfl) pa_nil))))) (pw_or1 (pt_cmpR op_ne (pe_callB call_len_seq (by rfl) T.z_len (by decide +kernel) (pa_cons (pv 3) pa_nil)) (pe_callB call_len_seq (by rfl) T.z_len (by decide +kernel) (pa_cons (pe_ix ix_seq (pv 1) (pv 2) (fun _ _ => rfl)) pa_nil)) (nomark _)))))
        (pss_one (ps_ret pe_bl))
        pss_nil)
        (pss_one (ps_for PassesOwn.never rfl (pi_range1 (by rfl) T.z_range (pa_cons (pe_callB call_len_seq (by rfl) T.z_len (by decide +kernel) (pa_cons (pv 3) pa_nil)) pa_nil)) (pg_name (i := 4) sc__law_told.nd rfl (.inl rfl))
        (pss_one (ps_if (PW.pt (pw_or (pt_not (pt_val (pe_callB call_isi (by rfl) T.z_isinstance (by decide +kernel) (pa_cons (pe_ix ix_tup (pv 3) (pv 4) (fun _ _ => rfl)) (pa_cons (pe_bltn (v := .ty "int") (by rfl) T.z_int (by decide +kernel) rfl) pa_nil))))) (pw_or (pt_val (pe_callB call_isi (by rfl) T.z_isinstance (by decide +kernel) (pa_cons (pe_ix ix_tup (pv 3) (pv 4) (fun _ _ => rfl)) (pa_cons (pe_bltn (v := .ty "bool") (by rfl) T.z_bool (by decide +kernel) rfl) pa_nil)))) (pw_or1 (pt_cmpR op_ne (pe_ix ix_tup (pv 3) (pv 4) (fun _ _ => rfl)) (pe_ix ix_tup (pe_ix ix_seq (pv 1) (pv 2) (fun _ _ => rfl)) (pv 4) (fun _ _ => rfl)) (nomark _))))))
          (pss_one (ps_ret pe_bl))
          pss_nil)))))))
      (pss_one (ps_ret pe_bl)))), ?_⟩
  have ne : ∀ {m n : Nat}, m = n → (!decide (V.int (m : Int) = V.int (n : Int))) = false := fun e => by rw [e]; simp
  have neI : ∀ {x : Int}, (!decide (V.int x = V.int x)) = false := by intro x; simp
  have lv := hv.1
  have lw := hw.1
  refine ⟨_, rfl, V.ref a, V.ty "tuple", _, _, true, rfl, .ty _, tyx_seq ha, rfl, true, rfl, iteF ⟨_, rfl, a, vs, rfl, .inr ha, _, rfl, d, ws, rfl, hd, rfl, _, rfl, ite2 (fun e => absurd e (by rw [ne (lv.trans lw.symm)]; decide)) (fun _ => ?_)⟩⟩
  refine ⟨_, rfl, d, ws, rfl, hd, (ws.length : Nat), rfl, by omega, by omega, for_range (fun i σ H' => H = H' ∧ ∃ y2 y3 y4, σ = [some (.ref a), some (.ref d), y2, y3, y4]) ⟨rfl, _, _, _, rfl⟩ ?_ ?_⟩
  · rintro i σ _ hi ⟨rfl, y2, y3, y4, rfl⟩
    have hiw : i < ws.length := by omega
    obtain ⟨w, hw1⟩ : ∃ x, ws[i]? = some x := ⟨_, List.getElem?_eq_getElem hiw⟩
    obtain ⟨xs, hxs, e, rfl, he⟩ := hw.at hw1
    obtain ⟨v, hv1, r, rfl, hr⟩ := hv.of hxs
    have l1 := l100 xs (List.mem_of_getElem? hxs)
    have hv2 : atI vs (0 + (i : Int)) = some (V.ref r) := by rw [Int.zero_add]; exact atI_nat hv1
    have hw2 : atI ws (0 + (i : Int)) = some (V.ref e) := by rw [Int.zero_add]; exact atI_nat hw1
    refine ⟨_, rfl, _, rfl, a, vs, _, _, rfl, rfl, ha, hv2, ?_⟩
    refine ⟨_, rfl, V.ref r, V.ty "tuple", _, _, true, rfl, .ty _, tyx_seq hr, rfl, true, rfl, iteF ⟨_, rfl, r, _, rfl, .inr hr, _, rfl, _, rfl, ixq hd hw2 ⟨e, _, rfl, .inr he, rfl, _, rfl, ite2 (fun c => absurd c (by rw [ne rfl]; decide)) (fun _ => ?_)⟩⟩⟩
    refine ⟨_, rfl, r, _, rfl, .inr hr, ((xs.map V.int).length : Nat), rfl, by omega, by rw [List.length_map]; omega, for_range (fun j σ H' => H = H' ∧ ∃ y4, σ = [some (.ref a), some (.ref d), some (.int (0 + (i : Int))), some (.ref r), y4]) ⟨rfl, _, rfl⟩ ?_ ?_⟩
    · rintro j σ _ hj ⟨rfl, y4, rfl⟩
      rw [List.length_map] at hj
      have hjx : j < xs.length := by omega
      obtain ⟨x, hx⟩ : ∃ x, xs[j]? = some x := ⟨_, List.getElem?_eq_getElem hjx⟩
      have hx2 : atI (xs.map V.int) (0 + (j : Int)) = some (V.int x) := by rw [Int.zero_add]; exact atI_nat (by rw [List.getElem?_map, hx]; rfl)
      refine ⟨_, rfl, _, rfl, r, _, _, _, rfl, rfl, hr, hx2, V.int x, V.ty "int", _, _, true, rfl, .ty _, .base (.int x), rfl, true, rfl, iteF ?_⟩
      refine ⟨_, rfl, _, rfl, r, _, _, _, rfl, rfl, hr, hx2, V.int x, V.ty "bool", _, _, false, rfl, .ty _, .base (.int x), rfl, false, rfl, iteF ?_⟩
      refine ⟨_, rfl, _, rfl, r, _, _, _, rfl, rfl, hr, hx2, _, rfl, _, rfl, ixq hd hw2 ⟨_, rfl, e, _, _, _, rfl, rfl, he, hx2, rfl, _, rfl, ite2 (fun c => absurd c (by rw [neI]; decide)) (fun _ => ⟨rfl, _, rfl⟩)⟩⟩
    · rintro σ _ ⟨rfl, y4, rfl⟩
      exact ⟨rfl, _, _, _, rfl⟩
  · rintro σ _ ⟨rfl, y2, y3, y4, rfl⟩
    exact q


end
end Pf

namespace Pf
open PySem PySem.Spec PyProof.Rows L2
section
variable {P : Program} {w : World} {K : PySem.W.Frag} {mg : Str → Option Value} {base : Heap}
/-! ### masks read as sets: the row of a mask, what lies in what -/
theorem asc_eq : ∀ {xs ys : List Int}, xs.Pairwise (· < ·) → ys.Pairwise (· < ·) → (∀ z, z ∈ xs ↔ z ∈ ys) → xs = ys := fun {xs ys} hx hy h => by
  have n1 : xs.Nodup := hx.imp fun k => Int.ne_of_lt k
  have n2 : ys.Nodup := hy.imp fun k => Int.ne_of_lt k
  exact List.Perm.eq_of_pairwise (le := (· < ·)) (fun a b _ _ h1 h2 => absurd (Int.lt_trans h1 h2) (Int.lt_irrefl _)) hx hy ((List.perm_ext_iff_of_nodup n1 n2).mpr h)
/-- the members of a mask by the places in ns -/
def rowM (ns : List Int) (k : Nat) : List Int := (ns.zipIdx.filter fun p => k.testBit p.2).map Prod.fst
theorem rowM_mem {ns : List Int} {k : Nat} {x : Int} : x ∈ rowM ns k ↔ ∃ i : Nat, ns[i]? = some x ∧ k.testBit i = true := by
  unfold rowM
  rw [List.mem_map]
  constructor
  · rintro ⟨⟨y, i⟩, h, rfl⟩
    obtain ⟨h1, h2⟩ := List.mem_filter.mp h
    exact ⟨i, List.mem_zipIdx_iff_getElem?.mp h1, h2⟩
  · rintro ⟨i, h1, h2⟩
    exact ⟨(x, i), List.mem_filter.mpr ⟨List.mem_zipIdx_iff_getElem?.mpr h1, h2⟩, rfl⟩
theorem rowM_asc {ns : List Int} (h : ns.Pairwise (· < ·)) (k : Nat) : (rowM ns k).Pairwise (· < ·) := by
  refine List.Pairwise.sublist (?_ : (rowM ns k).Sublist ns) h
  have := (List.filter_sublist (l := ns.zipIdx) (p := fun p => k.testBit p.2)).map Prod.fst
  rwa [show ns.zipIdx.map Prod.fst = ns from List.zipIdx_map_fst 0 ns] at this
theorem IsM.row {ns xs : List Int} {k : Nat} (h : IsM ns xs k) (sub : ∀ x ∈ xs, x ∈ ns) {x : Int} : x ∈ rowM ns k ↔ x ∈ xs := by
  rw [rowM_mem]
  constructor
  · rintro ⟨i, h1, h2⟩
    obtain ⟨y, hy, e⟩ := (h i).mp h2
    rw [h1] at e
    cases e
    exact hy
  · intro hx
    obtain ⟨i, hi⟩ := List.getElem?_of_mem (sub x hx)
    exact ⟨i, hi, (h i).mpr ⟨x, hx, hi⟩⟩
theorem band_iff {k j : Nat} : k &&& j = k ↔ ∀ i, k.testBit i = true → j.testBit i = true := by
  constructor
  · intro h i hi
    rw [← h, Nat.testBit_and, Bool.and_eq_true] at hi
    exact hi.2
  · intro h
    refine Nat.eq_of_testBit_eq fun i => ?_
    rw [Nat.testBit_and]
    cases e : k.testBit i with
    | false => rfl
    | true => rw [h i e]; rfl
theorem IsM.part {ns xs ys : List Int} {k j : Nat} (hx : IsM ns xs k) (hy : IsM ns ys j) (sx : ∀ x ∈ xs, x ∈ ns) : (∀ i, k.testBit i = true → j.testBit i = true) ↔ ∀ x ∈ xs, x ∈ ys := by
  constructor
  · intro h x m
    obtain ⟨i, hi⟩ := List.getElem?_of_mem (sx x m)
    obtain ⟨y, hy', e⟩ := (hy i).mp (h i ((hx i).mpr ⟨x, m, hi⟩))
    rw [hi] at e
    cases e
    exact hy'
  · intro h i hi
    obtain ⟨x, m, e⟩ := (hx i).mp hi
    exact (hy i).mpr ⟨x, h x m, e⟩
theorem IsM.lies {ns xs ys : List Int} {k j : Nat} (hx : IsM ns xs k) (hy : IsM ns ys j) (sx : ∀ x ∈ xs, x ∈ ns) (sy : ∀ x ∈ ys, x ∈ ns) : liesM k j = true ↔ (∀ x ∈ xs, x ∈ ys) ∧ ∃ y ∈ ys, y ∉ xs := by
  unfold liesM
  rw [Bool.and_eq_true, decide_eq_true_eq, decide_eq_true_eq, band_iff, hx.part hy sx]
  constructor
  · rintro ⟨h1, h2⟩
    refine ⟨h2, Classical.byContradiction fun n => h1 (Nat.eq_of_testBit_eq fun i => ?_)⟩
    have h3 : ∀ y ∈ ys, y ∈ xs := fun y hy' => Classical.byContradiction fun z => n ⟨y, hy', z⟩
    rw [Bool.eq_iff_iff]
    exact ⟨(hx.part hy sx).mpr h2 i, (hy.part hx sy).mpr h3 i⟩
  · rintro ⟨h2, y, hy', n⟩
    refine ⟨fun e => n ?_, h2⟩
    subst e
    exact (hy.part hx sy).mp (fun i h => h) y hy'



end
end Pf

namespace Pf
open PySem PySem.Spec PyProof.Rows L2
section
variable {P : Program} {w : World} {K : PySem.W.Frag} {mg : Str → Option Value} {base : Heap}
/-! ### sorted(x) of data, x a list or a tuple of any length -/
section
open PySem.W PySem.Calls
variable {prog : Program} {w : World} {A : Around} {E : Value → Shared → Prop} {s : Shared} {β : Type} {vs : List Value} {bs : List β} {enc : β → PyData} {R : Value → β → Prop}
theorem sorted_seqD {l : Addr} {T : String} {o : Obj} {n : Nat} {Q : Value → Shared → Prop} (hT : T = "list" ∨ T = "tuple") (ho : s.heap.get? l = some o) (hc : o.cls = .type T) (hd : o.data = .seq vs.toArray n)
    (e : EachIs R vs bs) (er : EachIs (fun v b => ∃ as, Reads s.heap v (enc b) as) vs bs) (hal : AllAlike (bs.map enc)) (hk : Sortable (bs.map enc)) (hL : vs.length ≤ sizeLine)
    (hu : ∀ b, b ∈ bs → A.units + 2 + (enc b).depth < cLine)
    (h : ∀ (h' : Heap) (p : Addr) (out : List Value), (∀ b u, s.heap.get? b = some u → h'.get? b = some u) → s.heap.get? p = none → (∃ m, h'.get? p = some (seqObj "list" out.toArray m)) → out.length = vs.length → EachIs R out (bs.mergeSort (dataLe false enc)) → Q (.ref p) { s with heap := h' }) :
    wpAny (model prog w) A (call (.builtin "sorted") [.ref l]) Q E s := by
  refine call_function_entry (id := "sorted") PyProof.Rows.kind_sorted PyProof.Rows.plain_sorted PyProof.Rows.entry_sorted (PyProof.Rows.args_sorted1 (.ref l)) ?_
  show wpAny _ _ (Builtin.«sorted» ⟨[.ref l], []⟩) _ _ _
  delta Builtin.«sorted»
  refine wpAny_bind (m := checkCount "sorted" 1 1 _) (wpAny_pure (wpAny_bind (wpAny_collect_seq l hT ho hc hd (fun h1 kp => wpAny_bind (wpAny_newList ?_ (by simpa using hL))) (by simpa using hL))))
  have hL1 : (h1.push (seqObj "list" vs.toArray 0)).get? h1.objs.size = some (seqObj "list" vs.toArray 0) := Heap.get?_push_size _ rfl
  have old : ∀ b u, s.heap.get? b = some u → b ≠ h1.objs.size ∧ (h1.push (seqObj "list" vs.toArray 0)).get? b = some u := fun b u hb => ⟨Nat.ne_of_lt (Heap.lt_size (kp b u hb)), Heap.get?_push_of_some _ (kp b u hb)⟩
  have hr : EachIs (fun v b => ∃ as, Reads (sortingHeap (h1.push (seqObj "list" vs.toArray 0)) h1.objs.size vs) v (enc b) as) vs bs := er.mono fun _ _ ⟨as, r⟩ => ⟨as, PyProof.Rows.Reads.keeps (fun b u hb => sortingHeap_old (old b u hb).1 (old b u hb).2) r⟩
  have hA : EachIs (fun v d => ∃ as, Reads (sortingHeap (h1.push (seqObj "list" vs.toArray 0)) h1.objs.size vs) v d as) vs (bs.map enc) := each_map (R := fun v d => ∃ as, Reads (sortingHeap (h1.push (seqObj "list" vs.toArray 0)) h1.objs.size vs) v d as) enc hr
  show wpAny (model prog w) A.in1 (holding [.ref h1.objs.size] (call (.builtin "list.sort") [.ref h1.objs.size]) >>= _) _ _ { s with heap := h1.push (seqObj "list" vs.toArray 0) }
  refine wpAny_bind (wpAny_holding (wpAny_call_entry slot_list_sort ⟨_, hL1, rfl⟩ entry_list_sort (list_sort_vals hL1 (SortsAt.data (s := { s with heap := sortingHeap (h1.push (seqObj "list" vs.toArray 0)) h1.objs.size vs }) hA hal hk (bound_map hu)) hL ⟨_, rfl, ?_⟩) (args_list_sort _)))
  obtain ⟨m, hm⟩ := sortedHeap_at (vs := vs) (out := (sortVals (dataKind (sortingHeap (h1.push (seqObj "list" vs.toArray 0)) h1.objs.size vs) (bs.map enc)) false vs vs).toArray) hL1
  refine wpAny_pure ⟨_, rfl, h _ h1.objs.size (sortVals (dataKind (sortingHeap (h1.push (seqObj "list" vs.toArray 0)) h1.objs.size vs) (bs.map enc)) false vs vs) (fun b u hb => ?_) ?_ ⟨m, hm⟩ (sortVals_length false rfl) (sortVals_data false e hr hal)⟩
  · exact (sortedHeap_old (old b u hb).1 (Heap.lt_size (old b u hb).2)).trans (old b u hb).2
  · cases e : s.heap.get? h1.objs.size with
    | none => rfl
    | some u => exact absurd rfl (old _ u e).1
end
/-- sorted(x), x a list or a tuple of data that are alike -/
def rSortedD (K : PySem.W.Frag) : List V → Hp → VK → Prop := fun vs H Q => ∃ (a : Addr) (xs : List V) (ds : List PyData), vs = [.ref a] ∧ (SqL K H a xs ∨ SqT K H a xs) ∧ DpAll K H xs ds ∧ PySem.W.AllAlike ds ∧ PySem.W.Sortable ds ∧ (∀ d ∈ ds, d.depth ≤ 60) ∧
  ∀ (ys : List V) (p : Addr), ys.Perm xs → DpAll K H ys (ds.mergeSort (PySem.W.dataLe false id)) → H p = none → Q (.ref p) (upd H p (.lst ys))
theorem each_zip {X : Cx} {pins : List (Addr × Obj)} {σ : L2.St} {H : Hp} {s : Shared} (I : Inv X pins σ H s) : ∀ {xs : List V} {ds : List PyData} {us : List Value}, DpAll X.K H xs ds → Vals xs us → PySem.W.EachIs (fun u (b : V × PyData) => RelV b.1 u ∧ Dp X.K H b.1 b.2) us (xs.zip ds) ∧ PySem.W.EachIs (fun u (b : V × PyData) => ∃ as, Reads s.heap u b.2 as) us (xs.zip ds)
  | _, _, _, .nil, .nil => ⟨.nil, .nil⟩
  | _, _, _, .cons hd h, .cons r t => ⟨.cons ⟨r, hd⟩ (each_zip I h t).1, .cons (Dp.reads I _ _ _ hd r) (each_zip I h t).2⟩
theorem zip_snd {xs : List V} {ds : List PyData} (h : xs.length = ds.length) : (xs.zip ds).map Prod.snd = ds := List.map_snd_zip (Nat.le_of_eq h.symm)
theorem zip_fst {xs : List V} {ds : List PyData} (h : xs.length = ds.length) : (xs.zip ds).map Prod.fst = xs := List.map_fst_zip (Nat.le_of_eq h)
theorem each_out {K : PySem.W.Frag} {H : Hp} : ∀ {us : List Value} {bs : List (V × PyData)}, PySem.W.EachIs (fun u (b : V × PyData) => RelV b.1 u ∧ Dp K H b.1 b.2) us bs → Vals (bs.map Prod.fst) us ∧ DpAll K H (bs.map Prod.fst) (bs.map Prod.snd)
  | _, _, .nil => ⟨.nil, .nil⟩
  | _, _, .cons h t => ⟨.cons h.1 (each_out t).1, .cons h.2 (each_out t).2⟩
theorem dpa_len0 {K : PySem.W.Frag} {H : Hp} : ∀ {xs : List V} {ds : List PyData}, DpAll K H xs ds → xs.length = ds.length
  | _, _, .nil => rfl
  | _, _, .cons _ t => congrArg (· + 1) (dpa_len0 t)
theorem cr_sortedD {X : Cx} {K : PySem.W.Frag} (hK : X.K = K) (hu : X.A.units + 65 < cLine) : CallR X (.builtin "sorted") (rSortedD K) := by
  subst hK
  intro pins s σ H vs us Q I r h
  obtain ⟨a, xs, ds, rfl, hq, hd, hal, hk, hdp, q⟩ := h
  obtain ⟨u, rfl, rx⟩ := vals1 r
  cases rx
  have lz := dpa_len0 hd
  have body : ∀ (its : List Value) (T : String) (o : Obj) (n : Nat), Vals xs its → xs.length ≤ sizeLine → T = "list" ∨ T = "tuple" → s.heap.get? a = some o → o.cls = .type T → o.data = .seq its.toArray n → wpAny (model X.prog X.w) X.A (call (.builtin "sorted") [.ref a]) (EP X pins σ Q) X.xe s := fun its T o n rv hz hT ho hc hdt => by
    obtain ⟨e1, e2⟩ := each_zip I hd rv
    refine sorted_seqD hT ho hc hdt e1 (enc := Prod.snd) e2 (by rw [zip_snd lz]; exact hal) (by rw [zip_snd lz]; exact hk) (by rw [← rv.length]; exact hz) (fun b hb => ?_) fun h' p out kp hn hp hlen hout => ?_
    · have := hdp b.2 (by have := List.mem_map_of_mem (f := Prod.snd) hb; rwa [zip_snd lz] at this)
      omega
    · obtain ⟨m, hm⟩ := hp
      obtain ⟨o1, o2⟩ := each_out hout
      have hperm : ((xs.zip ds).mergeSort (PySem.W.dataLe false Prod.snd)).Perm (xs.zip ds) := List.mergeSort_perm _ _
      have eq2 : ((xs.zip ds).mergeSort (PySem.W.dataLe false Prod.snd)).map Prod.snd = ds.mergeSort (PySem.W.dataLe false id) := by
        have h := List.map_mergeSort (r := PySem.W.dataLe false Prod.snd) (s := PySem.W.dataLe false id) (f := Prod.snd) (l := xs.zip ds) (fun _ _ _ _ => rfl)
        rw [zip_snd lz] at h
        exact h
      rw [eq2] at o2
      have hN := HOk.gone I.hok hn
      have pm : (((xs.zip ds).mergeSort (PySem.W.dataLe false Prod.snd)).map Prod.fst).Perm xs := by
        have := hperm.map Prod.fst
        rwa [zip_fst lz] at this
      exact ⟨.ref p, _, I.laidN (t' := s.toks) kp hn hN (show ObjOk X.prog X.w _ h' p (.lst _) from ⟨by rw [pm.length_eq]; exact hz, out, m, o1, hm⟩), rfl, q _ p pm o2 hN⟩
  rcases hq with hq | hq
  · obtain ⟨its, rv, pl, hz⟩ := I.list hq
    obtain ⟨o, ho, hc, n, hdt⟩ := pl.isList
    exact body its "list" o n rv hz (.inl rfl) ho hc hdt
  · obtain ⟨its, rv, pl, hz⟩ := I.tuple hq
    obtain ⟨o, ho, hc, n, hdt⟩ := pl
    exact body its "tuple" o n rv hz (.inr rfl) ho hc hdt


theorem u65 {k : Nat} {A : Around} (r : Room k A) : A.units + 65 < cLine := by
  have := r.un
  omega



end
end Pf

namespace Pf
open PySem PySem.Spec PyProof.Rows L2
section
variable {P : Program} {w : World} {K : PySem.W.Frag} {mg : Str → Option Value} {base : Heap}
theorem lt_line {n : Nat} (h : n < 100000) : n < sizeLine := Nat.lt_of_lt_of_le h (by decide)
/-! ### rows by the number of their members, those of one number as tuples -/
theorem alike_intsL : ∀ xs ys : List Int, PySem.W.alikeAll (xs.map PyData.int) (ys.map PyData.int) = true
  | [], _ => by simp [PySem.W.alikeAll]
  | _ :: _, [] => by simp [PySem.W.alikeAll]
  | _ :: xs, _ :: ys => by simp [PySem.W.alikeAll, PySem.W.alike, alike_intsL xs ys]
theorem dep_intsL : ∀ xs : List Int, PyData.depthAll (xs.map PyData.int) = 0
  | [] => rfl
  | _ :: xs => by simp [PyData.depthAll, PyData.depth, dep_intsL xs]
theorem eqv_intsL : ∀ {xs ys : List Int}, PyData.eqvAll (xs.map PyData.int) (ys.map PyData.int) = true → xs = ys
  | [], [], _ => rfl
  | [], _ :: _, h => by simp [PyData.eqvAll] at h
  | _ :: _, [], h => by simp [PyData.eqvAll] at h
  | x :: xs, y :: ys, h => by
    have h : x = y ∧ PyData.eqvAll (xs.map PyData.int) (ys.map PyData.int) = true := by simpa [PyData.eqvAll, PyData.eqv] using h
    rw [h.1, eqv_intsL h.2]
theorem eqv_reflL : ∀ xs : List Int, PyData.eqvAll (xs.map PyData.int) (xs.map PyData.int) = true
  | [] => by simp [PyData.eqvAll]
  | x :: xs => by simp [PyData.eqvAll, PyData.eqv, eqv_reflL xs]
def prL (xs : List Int) : PyData := .tuple [.int (xs.length : Nat), .tuple (xs.map PyData.int)]
def rlL (a b : List Int) : Prop := a.length < b.length ∨ (a.length = b.length ∧ a < b)
noncomputable def srtL (R : List (List Int)) : List (List Int) := R.mergeSort fun a b => PySem.W.dataLe false id (prL a) (prL b)
theorem srt_rowsL (R : List (List Int)) : (R.map prL).mergeSort (PySem.W.dataLe false id) = (srtL R).map prL := (List.map_mergeSort (r := fun a b => PySem.W.dataLe false id (prL a) (prL b)) (s := PySem.W.dataLe false id) (f := prL) fun _ _ _ _ => rfl).symm
theorem srtL_perm (R : List (List Int)) : (srtL R).Perm R := List.mergeSort_perm _ _
theorem alike_rowL (a b : List Int) : PySem.W.alike (prL a) (prL b) = true := by
  unfold prL
  simp [PySem.W.alike, PySem.W.alikeAll, alike_intsL]
theorem alike_rowsL (R : List (List Int)) : PySem.W.AllAlike (R.map prL) ∧ PySem.W.Sortable (R.map prL) := ⟨.of alike_rowL, .tuples fun b => ⟨_, _, rfl⟩⟩
theorem dep_rowL (r : List Int) : (prL r).depth ≤ 60 := by simp [prL, PyData.depth, PyData.depthAll, dep_intsL]
theorem lay_intsL : ∀ ns : List Int, PyData.canLayAll0 (ns.map PyData.int) = true
  | [] => by simp [PyData.canLayAll0]
  | n :: ns => by simp [PyData.canLayAll0, PyData.canLay0, lay_intsL ns]
theorem shaped_rowL (r : List Int) : SeqAt.shaped (prL r) = true := by
  show (PyData.canLay0 (prL r) && decide (PyData.depth (prL r) ≤ 64)) = true
  rw [Bool.and_eq_true, decide_eq_true_eq]
  exact ⟨by simp [prL, PyData.canLay0, PyData.canLayAll0, lay_intsL], Nat.le_trans (dep_rowL r) (by decide)⟩
theorem eqv_prL {a b : List Int} : PyData.eqv (prL a) (prL b) = decide (a = b) := by
  rw [Bool.eq_iff_iff, decide_eq_true_eq]
  constructor
  · intro h
    simp only [prL, PyData.eqv, PyData.eqvAll, Bool.and_eq_true] at h
    exact eqv_intsL h.2.1
  · rintro rfl
    simp [prL, PyData.eqv, PyData.eqvAll, eqv_reflL]
theorem rowL_lt {a b : List Int} (h : rlL a b) : PySem.W.dataLe false id (prL a) (prL b) = true := by
  show (!PySem.W.dataLt (prL b) (prL a)) = true
  unfold prL
  rw [PySem.W.dataLt_tuple, PySem.W.dataLt_cons (by simp [PySem.W.alike])]
  simp only [PyData.eqv, beq_iff_eq]
  rcases h with h | ⟨e, h⟩
  · rw [if_neg (by omega), PySem.W.dataLt_int]
    simp
    omega
  · rw [if_pos (by omega), PySem.W.dataLt_cons (by simp [PySem.W.alike, alike_intsL])]
    rw [if_neg, PySem.W.dataLt_tuple]
    · show (!PySem.W.rowLt (b.map PyData.int) (a.map PyData.int)) = true
      rw [PySem.W.dataLt_ints, decide_eq_false (List.not_lt.mpr (List.le_of_lt h))]
      rfl
    · intro e
      have := eqv_intsL (xs := b) (ys := a) (by simpa [PyData.eqv] using e)
      rw [this] at h
      exact List.lt_irrefl _ h
theorem rowL_gt {a b : List Int} (h : rlL a b) : PySem.W.dataLe false id (prL b) (prL a) = false := by
  show (!PySem.W.dataLt (prL a) (prL b)) = false
  unfold prL
  rw [PySem.W.dataLt_tuple, PySem.W.dataLt_cons (by simp [PySem.W.alike])]
  simp only [PyData.eqv, beq_iff_eq]
  rcases h with h | ⟨e, h⟩
  · rw [if_neg (by omega), PySem.W.dataLt_int, decide_eq_true (by omega)]
    rfl
  · rw [if_pos (by omega), PySem.W.dataLt_cons (by simp [PySem.W.alike, alike_intsL]), if_neg, PySem.W.dataLt_tuple]
    · show (!PySem.W.rowLt (a.map PyData.int) (b.map PyData.int)) = false
      rw [PySem.W.dataLt_ints, decide_eq_true h]
      rfl
    · intro e
      have := eqv_intsL (xs := a) (ys := b) (by simpa [PyData.eqv] using e)
      rw [this] at h
      exact List.lt_irrefl _ h
theorem rlL_irrefl (a : List Int) : ¬ rlL a a := fun h => by
  rcases h with h | ⟨_, h⟩
  · omega
  · exact List.lt_irrefl _ h
theorem rlL_trans {a b c : List Int} (h : rlL a b) (k : rlL b c) : rlL a c := by
  rcases h with h | ⟨e, h⟩ <;> rcases k with k | ⟨f, k⟩
  · exact .inl (by omega)
  · exact .inl (by omega)
  · exact .inl (by omega)
  · exact .inr ⟨by omega, List.lt_trans h k⟩
theorem rlL_tri (a b : List Int) : rlL a b ∨ a = b ∨ rlL b a := by
  by_cases h1 : a.length < b.length
  · exact .inl (.inl h1)
  by_cases h2 : b.length < a.length
  · exact .inr (.inr (.inl h2))
  have e : a.length = b.length := by omega
  by_cases h3 : a < b
  · exact .inl (.inr ⟨e, h3⟩)
  by_cases h4 : b < a
  · exact .inr (.inr (.inr ⟨e.symm, h4⟩))
  exact .inr (.inl (List.le_antisymm (List.not_lt.mp h4) (List.not_lt.mp h3)))
theorem leL_or {a b : List Int} (h : PySem.W.dataLe false id (prL a) (prL b) = true) : a = b ∨ rlL a b := by
  rcases rlL_tri a b with k | k | k
  · exact .inr k
  · exact .inl k
  · rw [rowL_gt k] at h
    cases h
theorem srtL_le (R : List (List Int)) : (srtL R).Pairwise fun a b => a = b ∨ rlL a b := by
  have T := PySem.W.sortLe_total (listOrd itemOrd) false (fun r : List Int => PySem.W.keyToks (prL r))
  exact (List.pairwise_mergeSort (fun a b c => T.trans a b c) (fun a b => by rw [Bool.or_eq_true]; exact T.total a b) R).imp fun h => leL_or h
theorem srtL_lt {R : List (List Int)} (nd : R.Nodup) : (srtL R).Pairwise rlL :=
  ((srtL_le R).and ((srtL_perm R).symm.nodup nd)).imp fun k => k.1.elim (fun e => absurd e k.2) id
theorem rl_nd {R : List (List Int)} (h : R.Pairwise rlL) : R.Nodup := h.imp fun {a b} (k : rlL a b) (e : a = b) => rlL_irrefl b (by rw [e] at k; exact k)
theorem rl_uniq {R S : List (List Int)} (hR : R.Pairwise rlL) (hS : S.Pairwise rlL) (h : ∀ r, r ∈ R ↔ r ∈ S) : R = S := by
  exact List.Perm.eq_of_pairwise (le := rlL) (fun a b _ _ h1 h2 => absurd (rlL_trans h1 h2) (rlL_irrefl a)) hR hS ((List.perm_ext_iff_of_nodup (rl_nd hR) (rl_nd hS)).mpr h)
/-! ### each once, out of what is sorted -/
def onceA {α : Type} [DecidableEq α] (l : List α) : List α := l.foldl (fun c d => if c.getLast? = some d then c else c ++ [d]) []
theorem onceA_snoc {α : Type} [DecidableEq α] (l : List α) (d : α) : onceA (l ++ [d]) = if (onceA l).getLast? = some d then onceA l else onceA l ++ [d] := by
  unfold onceA
  rw [List.foldl_append]
  rfl
theorem snoc_indL {α : Type} {p : List α → Prop} (nil : p []) (snoc : ∀ xs x, p xs → p (xs ++ [x])) (xs : List α) : p xs := by
  have h : ∀ ys : List α, p ys.reverse := fun ys => by
    induction ys with
    | nil => exact nil
    | cons y ys ih =>
      rw [List.reverse_cons]
      exact snoc _ _ ih
  have := h xs.reverse
  rwa [List.reverse_reverse] at this
theorem onceA_len {α : Type} [DecidableEq α] (l : List α) : (onceA l).length ≤ l.length := by
  induction l using snoc_indL with
  | nil => exact Nat.le_refl _
  | snoc l d ih =>
    rw [onceA_snoc, List.length_append]
    split
    · omega
    · rw [List.length_append]
      omega
theorem onceA_ok {α : Type} [DecidableEq α] {lt : α → α → Prop} (ir : ∀ a, ¬ lt a a) (tr : ∀ {a b c}, lt a b → lt b c → lt a c) (l : List α) : (l.Pairwise fun a b => a = b ∨ lt a b) → (onceA l).Pairwise lt ∧ (∀ z, z ∈ onceA l ↔ z ∈ l) ∧ (onceA l).getLast? = l.getLast? := by
  induction l using snoc_indL with
  | nil => exact fun _ => ⟨.nil, fun _ => Iff.rfl, rfl⟩
  | snoc l d ih =>
    intro h
    rw [List.pairwise_append] at h
    obtain ⟨i1, i2, i3⟩ := ih h.1
    have le : ∀ x ∈ l, x = d ∨ lt x d := fun x hx => h.2.2 x hx d List.mem_cons_self
    rw [onceA_snoc]
    split
    · next e =>
      refine ⟨i1, fun z => ?_, by rw [e, List.getLast?_append]; rfl⟩
      rw [i2 z, List.mem_append, List.mem_singleton]
      refine ⟨.inl, fun k => k.elim id fun k => ?_⟩
      rw [k, ← i2 d]
      exact List.mem_of_getLast? e
    · next e =>
      refine ⟨List.pairwise_append.mpr ⟨i1, List.pairwise_singleton _ _, fun x hx y hy => ?_⟩, fun z => by rw [List.mem_append, List.mem_append, i2 z], by rw [List.getLast?_append, List.getLast?_append]; rfl⟩
      rw [List.mem_singleton.mp hy]
      refine (le x ((i2 x).mp hx)).elim (fun k => absurd ?_ e) id
      subst k
      cases eo : (onceA l).getLast? with
      | none => rw [List.getLast?_eq_none_iff.mp eo] at hx; cases hx
      | some y =>
      have hy2 := List.mem_of_getLast? eo
      refine congrArg some ?_
      rcases le y ((i2 y).mp hy2) with k | k
      · exact k
      · obtain ⟨init, ei⟩ := List.getLast?_eq_some_iff.mp eo
        rw [ei] at hx i1
        rw [List.pairwise_append] at i1
        rcases List.mem_append.mp hx with hx | hx
        · exact absurd (tr (i1.2.2 x hx y List.mem_cons_self) k) (ir x)
        · exact (List.mem_singleton.mp hx).symm
theorem onceA_mem {α : Type} [DecidableEq α] (l : List α) (z : α) : z ∈ onceA l ↔ z ∈ l := by
  induction l using snoc_indL with
  | nil => exact Iff.rfl
  | snoc l d ih =>
    rw [onceA_snoc]
    split
    · next e =>
      rw [ih, List.mem_append, List.mem_singleton]
      refine ⟨.inl, fun k => k.elim id fun k => ?_⟩
      exact ih.mp (k ▸ List.mem_of_getLast? e)
    · rw [List.mem_append, List.mem_append, ih]
def onceD (l : List PyData) : List PyData := l.foldl (fun c d => if c.getLast?.any (fun e => PyData.eqv e d) = true then c else c ++ [d]) []
theorem onceD_snoc (l : List PyData) (d : PyData) : onceD (l ++ [d]) = if (onceD l).getLast?.any (fun e => PyData.eqv e d) = true then onceD l else onceD l ++ [d] := by
  unfold onceD
  rw [List.foldl_append]
  rfl
theorem onceD_map {α : Type} [DecidableEq α] {f : α → PyData} (hf : ∀ a b, PyData.eqv (f a) (f b) = decide (a = b)) (l : List α) : onceD (l.map f) = (onceA l).map f := by
  induction l using snoc_indL with
  | nil => rfl
  | snoc l d ih =>
    rw [List.map_append, List.map_cons, List.map_nil, onceD_snoc, onceA_snoc, ih, List.getLast?_map]
    have : (Option.map f (onceA l).getLast?).any (fun e => PyData.eqv e (f d)) = decide ((onceA l).getLast? = some d) := by
      cases (onceA l).getLast? with
      | none => simp
      | some e => simp [hf]
    rw [this]
    by_cases k : (onceA l).getLast? = some d
    · rw [if_pos (decide_eq_true k), if_pos k]
    · rw [if_neg (by simpa using k), if_neg k, List.map_append]
      rfl
/-! ### a list of integers, each once, in order -/
def leI (a b : Int) : Bool := decide (a ≤ b)
def srtI (F : List Int) : List Int := F.mergeSort leI
theorem srtI_ints (F : List Int) : (F.map PyData.int).mergeSort (PySem.W.dataLe false id) = (srtI F).map PyData.int :=
  (List.map_mergeSort (r := leI) (s := PySem.W.dataLe false id) (f := PyData.int) fun a _ b _ => (congrFun (congrFun (PySem.W.dataLe_int (fun x : Int => x)) a) b).symm).symm
theorem alike_intL (F : List Int) : PySem.W.AllAlike (F.map PyData.int) ∧ PySem.W.Sortable (F.map PyData.int) := ⟨.of fun _ _ => rfl, .others fun _ => ⟨fun e => (nomatch e), fun _ e => (nomatch e)⟩⟩
def onI (xs : List Int) : List Int := onceA (srtI xs)
theorem onI_once (xs : List Int) : onceD ((xs.map PyData.int).mergeSort (PySem.W.dataLe false id)) = (onI xs).map PyData.int := by
  rw [srtI_ints, onceD_map fun a b => by rw [Bool.eq_iff_iff, decide_eq_true_eq]; simp [PyData.eqv]]
  rfl
theorem onI_len (xs : List Int) : (onI xs).length ≤ xs.length := Nat.le_trans (onceA_len _) (Nat.le_of_eq (List.mergeSort_perm _ _).length_eq)
theorem srtI_le (F : List Int) : (srtI F).Pairwise fun a b => a = b ∨ a < b := by
  have := List.pairwise_mergeSort (le := leI) (fun a b c h k => by
      have h := of_decide_eq_true h
      have k := of_decide_eq_true k
      exact decide_eq_true (by omega)) (fun a b => by
      rw [Bool.or_eq_true]
      unfold leI
      rw [decide_eq_true_eq, decide_eq_true_eq]
      omega) F
  exact this.imp fun {a b} h => by
    have := of_decide_eq_true h
    omega
theorem onI_asc (xs : List Int) : (onI xs).Pairwise (· < ·) := (onceA_ok (lt := fun a b : Int => a < b) Int.lt_irrefl Int.lt_trans _ (srtI_le xs)).1
theorem onI_mem (xs : List Int) (z : Int) : z ∈ onI xs ↔ z ∈ xs := ((onceA_ok (lt := fun a b : Int => a < b) Int.lt_irrefl Int.lt_trans _ (srtI_le xs)).2.1 z).trans (List.mergeSort_perm _ _).mem_iff
noncomputable def onL (R : List (List Int)) : List (List Int) := onceA (srtL R)
theorem onL_once (R : List (List Int)) : onceD ((R.map prL).mergeSort (PySem.W.dataLe false id)) = (onL R).map prL := by
  rw [srt_rowsL, onceD_map fun a b => eqv_prL]
  rfl
theorem onL_len (R : List (List Int)) : (onL R).length ≤ R.length := Nat.le_trans (onceA_len _) (Nat.le_of_eq (srtL_perm R).length_eq)
theorem onL_lt (R : List (List Int)) : (onL R).Pairwise rlL := (onceA_ok rlL_irrefl rlL_trans _ (srtL_le R)).1
theorem onL_mem (R : List (List Int)) (r : List Int) : r ∈ onL R ↔ r ∈ R := ((onceA_ok rlL_irrefl rlL_trans _ (srtL_le R)).2.1 r).trans (srtL_perm R).mem_iff
theorem shaped_intsL (xs : List Int) : SeqAt.shaped (.tuple (xs.map PyData.int)) = true := by
  show (PyData.canLay0 (.tuple (xs.map PyData.int)) && decide (PyData.depth (.tuple (xs.map PyData.int)) ≤ 64)) = true
  rw [Bool.and_eq_true, decide_eq_true_eq]
  exact ⟨by simp [PyData.canLay0, lay_intsL], by simp [PyData.depth, dep_intsL]⟩
theorem eqv_tupL {a b : List Int} : PyData.eqv (.tuple (a.map PyData.int)) (.tuple (b.map PyData.int)) = decide (a = b) := by
  rw [Bool.eq_iff_iff, decide_eq_true_eq]
  constructor
  · intro h
    simp only [PyData.eqv] at h
    exact eqv_intsL h
  · rintro rfl
    simp [PyData.eqv, eqv_reflL]
/-! ### what the least and the greatest of some sets are -/
def RsR (L : List (List Int)) (r : List Int) : Prop := ∃ xs ∈ L, r.Pairwise (· < ·) ∧ ∀ z, z ∈ r ↔ z ∈ xs
def MinR (L : List (List Int)) (r : List Int) : Prop := RsR L r ∧ ∀ o, RsR L o → o ≠ r → ¬ ∀ z ∈ o, z ∈ r
def MaxR (L : List (List Int)) (r : List Int) : Prop := RsR L r ∧ ∀ o, RsR L o → o ≠ r → ¬ ∀ z ∈ r, z ∈ o
theorem RsR.asc {L : List (List Int)} {r : List Int} (h : RsR L r) : r.Pairwise (· < ·) := by
  obtain ⟨xs, _, h, _⟩ := h
  exact h
theorem rsR_on {L : List (List Int)} {r : List Int} : r ∈ onL (L.map onI) ↔ RsR L r := by
  rw [onL_mem, List.mem_map]
  constructor
  · rintro ⟨xs, h, rfl⟩
    exact ⟨xs, h, onI_asc xs, onI_mem xs⟩
  · rintro ⟨xs, h, ha, hm⟩
    exact ⟨xs, h, asc_eq (onI_asc xs) ha fun z => (onI_mem xs z).trans (hm z).symm⟩
def anyMin (W : List (List Int)) (r : List Int) : Bool := W.any fun o => decide (o ≠ r) && o.all fun x => decide (x ∈ r)
def anyMax (W : List (List Int)) (r : List Int) : Bool := W.any fun o => decide (o ≠ r) && r.all fun x => decide (x ∈ o)
theorem minR_on {L : List (List Int)} {r : List Int} : r ∈ (onL (L.map onI)).filter (fun r => !anyMin (onL (L.map onI)) r) ↔ MinR L r := by
  rw [List.mem_filter, rsR_on, Bool.not_eq_true']
  refine and_congr_right fun _ => ?_
  constructor
  · intro h o ho ne hs
    have : anyMin (onL (L.map onI)) r = true := List.any_eq_true.mpr ⟨o, rsR_on.mpr ho, by
      rw [Bool.and_eq_true, decide_eq_true_eq, List.all_eq_true]
      exact ⟨ne, fun x hx => decide_eq_true (hs x hx)⟩⟩
    rw [this] at h
    cases h
  · intro h
    cases e : anyMin (onL (L.map onI)) r with
    | false => rfl
    | true =>
      obtain ⟨o, ho, k⟩ := List.any_eq_true.mp e
      rw [Bool.and_eq_true, decide_eq_true_eq, List.all_eq_true] at k
      exact absurd (fun z hz => of_decide_eq_true (k.2 z hz)) (h o (rsR_on.mp ho) k.1)
theorem maxR_on {L : List (List Int)} {r : List Int} : r ∈ (onL (L.map onI)).filter (fun r => !anyMax (onL (L.map onI)) r) ↔ MaxR L r := by
  rw [List.mem_filter, rsR_on, Bool.not_eq_true']
  refine and_congr_right fun _ => ?_
  constructor
  · intro h o ho ne hs
    have : anyMax (onL (L.map onI)) r = true := List.any_eq_true.mpr ⟨o, rsR_on.mpr ho, by
      rw [Bool.and_eq_true, decide_eq_true_eq, List.all_eq_true]
      exact ⟨ne, fun x hx => decide_eq_true (hs x hx)⟩⟩
    rw [this] at h
    cases h
  · intro h
    cases e : anyMax (onL (L.map onI)) r with
    | false => rfl
    | true =>
      obtain ⟨o, ho, k⟩ := List.any_eq_true.mp e
      rw [Bool.and_eq_true, decide_eq_true_eq, List.all_eq_true] at k
      exact absurd (fun z hz => of_decide_eq_true (k.2 z hz)) (h o (rsR_on.mp ho) k.1)



end
end Pf

namespace Pf
open PySem PySem.Spec PyProof.Rows L2
section
variable {P : Program} {w : World} {K : PySem.W.Frag} {mg : Str → Option Value} {base : Heap}
/-! ### data stays where the heap only grows -/
mutual
theorem dp_same {K : PySem.W.Frag} {H H' : Hp} (e : Same H H') : ∀ {v : V} {d : PyData}, Dp K H v d → Dp K H' v d
  | _, _, .non => .non
  | _, _, .bl b => .bl b
  | _, _, .int i => .int i
  | _, _, .str x => .str x
  | _, _, .lst h k => .lst (e.seq h) (dpa_same e k)
  | _, _, .tup h k => .tup (seqT_same e h) (dpa_same e k)
theorem dpa_same {K : PySem.W.Frag} {H H' : Hp} (e : Same H H') : ∀ {xs : List V} {ds : List PyData}, DpAll K H xs ds → DpAll K H' xs ds
  | _, _, .nil => .nil
  | _, _, .cons h k => .cons (dp_same e h) (dpa_same e k)
end


theorem ints_dpaL {K : PySem.W.Frag} {H : Hp} : ∀ {F : List Int} {ys : List V}, DpAll K H ys (F.map PyData.int) → ys = F.map V.int
  | [], _, .nil => rfl
  | z :: F, _, .cons h t => by
    cases h
    rw [ints_dpaL t]
    rfl
theorem dpa_at {K : PySem.W.Frag} {H : Hp} : ∀ {xs : List V} {ds : List PyData} {i : Nat} {v : V}, DpAll K H xs ds → xs[i]? = some v → ∃ d, ds[i]? = some d ∧ Dp K H v d
  | _, _, 0, _, .cons h _, e => by cases e; exact ⟨_, rfl, h⟩
  | _, _, i + 1, _, .cons _ t, e => dpa_at (i := i) t e
theorem dpa_of {K : PySem.W.Frag} {H : Hp} {β : Type} (f : β → PyData) : ∀ {xs : List V} {bs : List β}, xs.length = bs.length → (∀ (i : Nat) x b, xs[i]? = some x → bs[i]? = some b → Dp K H x (f b)) → DpAll K H xs (bs.map f)
  | [], [], _, _ => .nil
  | x :: xs, b :: bs, l, h => .cons (h 0 x b rfl rfl) (dpa_of f (Nat.succ.inj l) fun i x b hx hb => h (i + 1) x b hx hb)
theorem prL_at {K : PySem.W.Frag} {H : Hp} {y : V} {r : List Int} (h : Dp K H y (prL r)) : ∃ t u, y = .ref t ∧ SqT K H t [.int (r.length : Nat), .ref u] ∧ SqT K H u (r.map V.int) := by
  cases h with
  | tup hq hu =>
    cases hu with
    | cons h1 hu =>
      cases hu with
      | cons h2 hu =>
        cases hu
        cases h1
        cases h2 with
        | tup hq2 hk =>
          rw [ints_dpaL hk] at hq2
          exact ⟨_, _, rfl, hq, hq2⟩
theorem prL_of {K : PySem.W.Frag} {H : Hp} {t u : Addr} {r : List Int} (h : SqT K H t [.int (r.length : Nat), .ref u]) (hu : SqT K H u (r.map V.int)) : Dp K H (.ref t) (prL r) := .tup h (.cons (.int _) (.cons (.tup hu (dpa_ints _)) .nil))
theorem RowT.same {K : PySem.W.Frag} {H H' : Hp} {v : V} {xs : List Int} (e : Same H H') (h : RowT K H v xs) : RowT K H' v xs := by
  obtain ⟨a, rfl, h⟩ := h
  exact ⟨a, rfl, seqT_same e h⟩
def sp_in_order (K : PySem.W.Frag) : Sp := fun us H Q _ => ∃ (a : Addr) (vs : List V) (R : List (List Int)), us = [.ref a] ∧ H a = some (.lst vs) ∧ All2 (RowT K H) vs R ∧ R.Nodup ∧ R.length ≤ 5000 ∧ (∀ xs ∈ R, xs.length ≤ 100) ∧
  ∀ (p : Addr) (ws : List V) (S : List (List Int)) (H' : Hp), Same H H' → H p = none → H' p = some (.tup ws) → All2 (RowT K H') ws S → S.Pairwise rlL → (∀ r, r ∈ S ↔ r ∈ R) → Q (.ref p) H'
theorem ok_in_order (T : Txt K mg) : Has P w K mg base 1 "in_order" ["sets"] (sp_in_order K) := by
  obtain ⟨f, fd, F, m, b⟩ := T.d_in_order.ex
  refine ⟨f, fd, F.ok sc_in_order (fun vs H Q E h => ?_) (fun cdv A outer s H vs Q E hr h => ?_), m, F.kp, b⟩
  · obtain ⟨a, vs, R, rfl, ha, hA, nd, l200, l100, q⟩ := h
    rfl
  obtain ⟨a, vs, R, rfl, ha, hA, nd, l200, l100, q⟩ := h
  refine ⟨_, (pss_one (ps_ret (pe_callTy call_tuple_of (by rfl) T.z_tuple (by decide +kernel) (pa_cons (pe_lc (own := [("size", 1), ("one", 2)]) (by rfl) sc_in_order.nd (pi_list (pe_callB (cr_sortedD rfl (u65 hr)) (by rfl) T.z_sorted (by decide +kernel) (pa_cons (pe_lc (own := [("one", 2)]) (g := gName 2) (by rfl) sc_in_order.nd (pi_list (pv 0)) (blkOk_by (own := [("one", 2)]) (N := ["sets", "size", "one"]) (sc := defScope s_in_order) (by decide +kernel)) (fun _ _ _ _ _ => pg_name (i := 2) sc_in_order.nd rfl (Or.inl rfl)) (fun _ _ _ _ _ => pts_nil) (fun _ _ _ _ _ => (pe_tup (pa_cons (pe_callB (call_len_seqK (K := K) rfl) (by rfl) T.z_len (by decide +kernel) (pa_cons (pv 2) pa_nil)) (pa_cons (pv 2) pa_nil))))) pa_nil))) (blkOk_by (own := [("size", 1), ("one", 2)]) (N := ["sets", "size", "one"]) (sc := defScope s_in_order) (by decide +kernel)) (fun _ _ _ _ _ => (pg_tupK (K := K) (n := 2) rfl rfl (pgs_cons (pg_name (i := 1) sc_in_order.nd rfl (.inl rfl)) (pgs_cons (pg_name (i := 2) sc_in_order.nd rfl (.inl rfl)) pgs_nil)))) (fun _ _ _ _ _ => pts_nil) (fun _ _ _ _ _ => (pv 2))) pa_nil)))), ?_⟩
  have lv := hA.1
  refine ⟨_, rfl, a, rfl, ⟨_, SqL.of ha⟩, fun D nD => lc_it (walk_list (xs := vs)) (fun i H' => Same H H' ∧ ∃ ts, H' D = some (.lst ts) ∧ All2 (fun v (xs : List Int) => ∃ l u, v = .ref l ∧ H' l = some (.tup [.int (xs.length : Nat), .ref u]) ∧ SqT K H u (xs.map V.int)) ts (R.take i)) ⟨same_new nD, [], upd_same, All2.nil⟩ (fun i H' _ h' => h'.1.seq (SqL.of ha)) ?_ ?_⟩
  · rintro i x H1 H2 hi ⟨s1, ts, hD, hP⟩ ⟨rfl, hx⟩
    obtain ⟨xs, hxs, u, rfl, hu⟩ := hA.at hx
    have lt := hP.1
    rw [List.length_take] at lt
    refine ⟨rfl, _, rfl, u, _, rfl, .inr (seqT_same s1 hu), _, rfl, by show 2 ≤ sizeLine; decide, fun l nl => ⟨ts, same_new nl _ _ hD, lt_line (by omega), same_mut (s1.trans (same_new nl)) nD, _, upd_same, ?_⟩⟩
    rw [take_succ_at hxs]
    have nlD : l ≠ D := fun e => by rw [e, hD] at nl; cases nl
    exact (hP.imp fun v ys ⟨l2, u2, e, h1, h2⟩ => ⟨l2, u2, e, (upd_ne fun e2 => by rw [e2, hD] at h1; cases h1).trans (same_new nl _ _ h1), h2⟩).app (All2.one ⟨l, u, rfl, (upd_ne nlD).trans (by rw [List.length_map]; exact upd_same), hu⟩)
  rintro H1 ⟨s1, ts, hD, hP⟩
  rw [lv, List.take_length] at hP
  have lt := hP.1
  refine ⟨D, ts, R.map prL, rfl, .inl (SqL.of hD), dpa_of prL lt fun i x b hx hb => ?_, (alike_rowsL R).1, (alike_rowsL R).2, fun d hd => ?_, fun ys p pm hy np => ?_⟩
  · obtain ⟨l, u, rfl, h1, h2⟩ := hP.2 i x b hx hb
    exact prL_of (SqT.of h1) (seqT_same s1 h2)
  · obtain ⟨r, _, rfl⟩ := List.mem_map.mp hd
    exact dep_rowL r
  rw [srt_rowsL] at hy
  have s2 := s1.trans (same_new (o := .lst ys) np)
  have hy2 := dpa_same (same_new (o := .lst ys) np) hy
  have hp2 : upd H1 p (.lst ys) p = some (.lst ys) := upd_same
  generalize upd H1 p (.lst ys) = H2 at s2 hy2 hp2 ⊢
  have ly := dpa_len0 hy2
  rw [List.length_map, (srtL_perm R).length_eq] at ly
  refine ⟨p, rfl, ⟨_, SqL.of hp2⟩, fun D2 nD2 => lc_it (walk_list (xs := ys)) (fun i H' => Same H2 H' ∧ ∃ ws, H' D2 = some (.lst ws) ∧ All2 (RowT K H2) ws ((srtL R).take i)) ⟨same_new nD2, [], upd_same, All2.nil⟩ (fun i H' _ h' => h'.1.seq (SqL.of hp2)) ?_ ?_⟩
  · rintro i x H3 H4 hi ⟨s3, ws, hD2, hP2⟩ ⟨rfl, hx⟩
    obtain ⟨d, hd1, hd2⟩ := dpa_at hy2 hx
    rw [List.getElem?_map] at hd1
    obtain ⟨r, hr, rfl⟩ := Option.map_eq_some_iff.mp hd1
    obtain ⟨t, u, rfl, ht, hu⟩ := prL_at hd2
    have lw := hP2.1
    rw [List.length_take] at lw
    refine ⟨_, _, rfl, seqT_same s3 ht, rfl, _, _, rfl, _, _, rfl, rfl, rfl, _, rfl, ws, hD2, lt_line (by omega), same_mut s3 nD2, _, upd_same, ?_⟩
    rw [take_succ_at hr]
    exact hP2.app (All2.one ⟨u, rfl, hu⟩)
  rintro H3 ⟨s3, ws, hD2, hP2⟩
  rw [ly, ← (srtL_perm R).length_eq, List.take_length] at hP2
  refine ⟨D2, ws, rfl, .inl ⟨SqL.of hD2, fun l nl => ?_⟩⟩
  have s4 := s3.trans (same_new (o := .tup ws) nl)
  exact q l ws _ _ (s2.trans s4) (same_back (s2.trans s3) nl) upd_same (hP2.imp fun _ _ r => r.same s4) (srtL_lt nd) fun r => (srtL_perm R).mem_iff


end
end Pf

namespace Pf
open PySem PySem.Spec PyProof.Rows L2
section
variable {P : Program} {w : World} {K : PySem.W.Frag} {mg : Str → Option Value} {base : Heap}
/-! ### a comprehension's block that captures nothing -/
def blkNF (N : List Str) (scope : Scope) (own : List (Str × Nat)) : Bool := blkC N { scope with names := [] } scope own && scope.names.all fun y => match y.2 with | .free => false | _ => true
theorem blkOk_nf {N : List Str} {sc scope : Scope} {own : List (Str × Nat)} (h : blkNF N scope own = true) : BlkOk N sc scope own := by
  unfold blkNF at h
  rw [Bool.and_eq_true] at h
  obtain ⟨k1, k2, k3, k4, k5⟩ := blkOk_by h.1
  refine ⟨k1, k2, k3, fun y hy e => ?_, k5⟩
  have q := List.all_eq_true.mp h.2 y hy
  rw [e] at q
  cases q
theorem pi_enumK {X : Cx} {K : PySem.W.Frag} (h : X.K = K) {e : Expr} {ta : TA} {p pos tpos : Pos} {elts : List Expr} {kk : Nat} (hg : Gl X "enumerate") (hm : X.mg "enumerate" = none) (ha : PA X [e] ta) (hs : starEach [e] X.env = [(false, eval e X.env)] := by rfl) :
    PI X (.Tuple elts kk tpos) (.Call (.Name "enumerate" p) [e] [] pos) (iEnum K ta) := h ▸ pi_enum hg hm ha hs
/-- a block inside a block: what it captures is the outer block's own, or captured by that too -/
theorem relabel_look {env : Env} {x : Str} {k : NameKind} : ∀ {names : List (Str × NameKind)}, names.lookup x = some k →
    (names.map fun (n, k) => if (k == NameKind.free && env.scope.kind == .function && env.kindOf n == some .cell) then (n, NameKind.cell) else (n, k)).lookup x = some k ∨ (names.map fun (n, k) => if (k == NameKind.free && env.scope.kind == .function && env.kindOf n == some .cell) then (n, NameKind.cell) else (n, k)).lookup x = some .cell
  | [], h => by simp at h
  | (n, j) :: r, h => by
    have ih := @relabel_look env x k r
    show List.lookup x ((if (j == NameKind.free && env.scope.kind == .function && env.kindOf n == some .cell) = true then (n, NameKind.cell) else (n, j)) :: _) = _ ∨ List.lookup x ((if (j == NameKind.free && env.scope.kind == .function && env.kindOf n == some .cell) = true then (n, NameKind.cell) else (n, j)) :: _) = _
    cases hx : x == n with
    | true =>
      simp only [List.lookup_cons, hx] at h
      cases h
      by_cases hc : (k == NameKind.free && env.scope.kind == .function && env.kindOf n == some .cell) = true
      · rw [if_pos hc]
        simp only [List.lookup_cons, hx]
        exact .inr trivial
      · rw [if_neg hc]
        simp only [List.lookup_cons, hx]
        exact .inl trivial
    | false =>
      simp only [List.lookup_cons, hx] at h
      by_cases hc : (j == NameKind.free && env.scope.kind == .function && env.kindOf n == some .cell) = true
      · rw [if_pos hc]; simp only [List.lookup_cons, hx]; exact ih h
      · rw [if_neg hc]; simp only [List.lookup_cons, hx]; exact ih h
theorem blkOk_in {N : List Str} {env : Env} {sc1 scope : Scope} {own : List (Str × Nat)} (h : blkC N sc1 scope own = true) : BlkOk N (relabel sc1 env) scope own := by
  have b := blkOk_by h
  refine ⟨b.kind, b.uniq, b.ix, fun y hy e => ?_, b.own⟩
  rcases b.free y hy e with k | k
  · exact (relabel_look (env := env) k).elim .inl .inl
  · exact (relabel_look (env := env) k).elim .inr .inl
theorem pt_truthK {X : Cx} {K : PySem.W.Frag} {a : Expr} {ta : TE} (h : X.K = K) (ha : PE X a ta) (he : ∀ whole, isTrue a X.env whole = (do let v ← whole; standAt a.pos; holding [v] (truthy v))) :
    PT X a (fun σ H Q => ta σ H fun x H' => ∃ k, TruV K x H' k ∧ Q k H') := h ▸ pt_truth ha he
theorem cr_anyK {X : Cx} {K : PySem.W.Frag} (h : X.K = K) (hc : X.calm = true) : CallR X (.builtin "any") (rAny K) := h ▸ cr_any hc
theorem cr_allK {X : Cx} {K : PySem.W.Frag} (h : X.K = K) (hc : X.calm = true) : CallR X (.builtin "all") (rAll K) := h ▸ cr_all hc
theorem op_neDL {X : Cx} {K : PySem.W.Frag} (h : X.K = K) (hu : X.A.units + 64 < cLine) : OpR X (compareOp .NotEq) (rNeD K) := h ▸ op_neD hu
theorem op_eqDL {X : Cx} {K : PySem.W.Frag} (h : X.K = K) (hu : X.A.units + 64 < cLine) : OpR X (compareOp .Eq) (rEqD K) := h ▸ op_eqD hu


theorem bit_at (k i : Nat) : (Builtin.bitAnd ((k : Int) / 2 ^ ((i : Nat) : Int).toNat) 1 != 0) = k.testBit i := by
  have e : (k : Int) / 2 ^ ((i : Nat) : Int).toNat = ((k / 2 ^ i : Nat) : Int) := by
    rw [Int.toNat_natCast, Int.natCast_ediv, Int.natCast_pow]
    rfl
  rw [e, show (1 : Int) = ((1 : Nat) : Int) from rfl, band_nat, Nat.testBit, Nat.shiftRight_eq_div_pow, Nat.and_comm]
  rw [Bool.eq_iff_iff, bne_iff_ne, bne_iff_ne]
  omega
theorem row_step {ns : List Int} {k i : Nat} {c : Int} (h : ns[i]? = some c) : ((ns.zipIdx.take (i + 1)).filter fun p => k.testBit p.2).map Prod.fst = ((ns.zipIdx.take i).filter fun p => k.testBit p.2).map Prod.fst ++ (if k.testBit i = true then [c] else []) := by
  have e : ns.zipIdx[i]? = some (c, i) := by rw [List.getElem?_zipIdx, h]; simp
  rw [take_succ_at e, List.filter_append, List.map_append]
  congr 1
  by_cases b : k.testBit i = true
  · rw [if_pos b, List.filter_cons_of_pos (by exact b)]
    rfl
  · rw [if_neg b, List.filter_cons_of_neg (by exact b)]
    rfl
theorem rowM_len (ns : List Int) (k : Nat) : (rowM ns k).length ≤ ns.length := by
  unfold rowM
  rw [List.length_map]
  refine Nat.le_trans (List.length_filter_le _ _) ?_
  rw [List.length_zipIdx]
  exact Nat.le_refl _
def sp_listed (K : PySem.W.Frag) : Sp := fun us H Q _ => ∃ (a b : Addr) (ks : List Nat) (ns : List Int), us = [.ref a, .ref b] ∧ H a = some (.lst (ks.map fun k : Nat => V.int k)) ∧ H b = some (.lst (ns.map V.int)) ∧ (ks.map (rowM ns)).Nodup ∧ ks.length ≤ 5000 ∧ ns.length ≤ 60 ∧
  ∀ (p : Addr) (ws : List V) (S : List (List Int)) (H' : Hp), Same H H' → H p = none → H' p = some (.tup ws) → All2 (RowT K H') ws S → S.Pairwise rlL → (∀ r, r ∈ S ↔ ∃ k ∈ ks, r = rowM ns k) → Q (.ref p) H'
theorem ok_listed (T : Txt K mg) : Has P w K mg base 2 "listed" ["masks", "members"] (sp_listed K) := by
  obtain ⟨f, fd, F, m, b⟩ := T.d_listed.ex
  obtain ⟨f_in_order, fd_in_order, G_in_order, m_in_order, k_in_order, b_in_order⟩ := ok_in_order (P := P) (w := w) (base := base) T
  refine ⟨f, fd, F.ok sc_listed (fun vs H Q E h => ?_) (fun cdv A outer s H vs Q E hr h => ?_), m, F.kp, b⟩
  · obtain ⟨a, b, ks, ns, rfl, ha, hb, nd, l200, l60, q⟩ := h
    rfl
  obtain ⟨a, b, ks, ns, rfl, ha, hb, nd, l200, l60, q⟩ := h
  refine ⟨_, (pss_one (ps_ret (pe_call G_in_order (hr.mono (by decide)) (by rfl) m_in_order k_in_order b_in_order .nil pass0 (pa_cons (pe_lc (own := [("mask", 2)]) (g := gName 2) (by rfl) sc_listed.nd (pi_list (pv 0)) (blkOk_by (own := [("mask", 2)]) (N := ["masks", "members", "mask", "index", "member"]) (sc := defScope s_listed) (by decide +kernel)) (fun _ _ _ _ _ => pg_name (i := 2) sc_listed.nd rfl (Or.inr rfl)) (fun _ _ _ _ _ => pts_nil) (fun _ _ _ _ _ => (pe_callTy (call_tuple_ofK (K := K) rfl) (by rfl) T.z_tuple (by decide +kernel) (pa_cons (pe_lc (own := [("index", 3), ("member", 4)]) (by rfl) sc_listed.nd (pi_enumK (K := K) rfl (by rfl) T.z_enumerate (pa_cons (pv 1) pa_nil)) (blkOk_in (own := [("index", 3), ("member", 4)]) (N := ["masks", "members", "mask", "index", "member"]) (by decide +kernel)) (fun _ _ _ _ _ => (pg_tupK (K := K) (n := 2) rfl rfl (pgs_cons (pg_name (i := 3) sc_listed.nd rfl (.inl rfl)) (pgs_cons (pg_name (i := 4) sc_listed.nd rfl (.inl rfl)) pgs_nil)))) (fun _ _ _ _ _ => pts_one (pt_truthK (K := K) rfl (pe_op op_and (pe_op op_shr (pv 2) (pv 3)) pe_int) (by intro _; rfl))) (fun _ _ _ _ _ => (pv 4))) pa_nil)))) pa_nil)))), ?_⟩
  refine ⟨_, rfl, a, rfl, ⟨_, SqL.of ha⟩, fun D nD => lc_it (walk_list (xs := ks.map fun k : Nat => V.int k)) (fun i H' => Same H H' ∧ ∃ ts, H' D = some (.lst ts) ∧ All2 (fun v k => ∃ l, v = .ref l ∧ H' l = some (.tup ((rowM ns k).map V.int))) ts (ks.take i)) ⟨same_new nD, [], upd_same, All2.nil⟩ (fun i H' _ h' => h'.1.seq (SqL.of ha)) ?_ ?_⟩
  · rintro i x H1 H2 hi ⟨s1, ts, hD, hP⟩ ⟨rfl, hx⟩
    rw [List.getElem?_map] at hx
    obtain ⟨k, hk, rfl⟩ := Option.map_eq_some_iff.mp hx
    have lt := hP.1
    rw [List.length_take] at lt
    refine ⟨rfl, _, rfl, b, _, rfl, SqL.of (s1 _ _ hb), fun D2 nD2 => ?_⟩
    show Exists _
    refine two_out walk_enum (fun j H' => Same H2 H' ∧ H' D2 = some (.lst ((((ns.zipIdx.take j).filter fun p => k.testBit p.2).map Prod.fst).map V.int))) ⟨same_new nD2, upd_same⟩ (fun j H' _ h' => h'.1.seq (SqL.of (s1 _ _ hb))) ?_ ?_
    · rintro j x H3 H4 hj ⟨s3, hD2⟩ ⟨T, z, x, rfl, nT, rfl, hz, hx⟩
      cases hz
      have hx : (ns.map V.int)[j]? = some x := hx
      rw [List.getElem?_map] at hx
      obtain ⟨c, hc, rfl⟩ := Option.map_eq_some_iff.mp hx
      have hTt := upd_same (H := H3) (a := T) (o := .tup [.int (j : Nat), .int c])
      have s4 := s3.trans (same_new (o := .tup [.int (j : Nat), .int c]) nT)
      have hD4 := same_new (o := .tup [.int (j : Nat), .int c]) nT _ _ hD2
      have st := row_step (k := k) hc
      refine ⟨T, _, rfl, SqT.of hTt, rfl, _, _, rfl, _, _, rfl, rfl, rfl, _, rfl, _, rfl, _, _, rfl, rfl, Int.natCast_nonneg _, _, _, rfl, rfl, _, rfl, ite2 (fun e => ?_) (fun e => ?_)⟩
      · rw [bit_at] at e
        rw [if_pos e] at st
        have ln := List.length_filter_le (fun p : Int × Nat => k.testBit p.2) (ns.zipIdx.take j)
        rw [List.length_take, List.length_zipIdx] at ln
        refine ⟨_, rfl, _, hD4, lt_line (by rw [List.length_map, List.length_map]; omega), same_mut s4 nD2, ?_⟩
        rw [st, List.map_append]
        exact upd_same
      · rw [bit_at] at e
        rw [if_neg e, List.append_nil] at st
        refine ⟨s4, ?_⟩
        rw [st]
        exact hD4
    · rintro H3 ⟨s3, hD2⟩
      rw [List.length_map, ← List.length_zipIdx (i := 0), List.take_length] at hD2
      have s4 := s1.trans s3
      refine ⟨D2, _, rfl, .inl ⟨SqL.of hD2, fun l nl => ⟨ts, same_new nl _ _ (s3 _ _ hD), lt_line (by omega), same_mut (s4.trans (same_new nl)) nD, _, upd_same, ?_⟩⟩⟩
      rw [take_succ_at hk]
      have nlD : l ≠ D := fun e => by rw [e, s3 _ _ hD] at nl; cases nl
      exact (hP.imp fun v ys ⟨l2, e, h1⟩ => ⟨l2, e, (upd_ne fun e2 => by rw [e2, hD] at h1; cases h1).trans (same_new nl _ _ (s3 _ _ h1))⟩).app (All2.one ⟨l, rfl, (upd_ne nlD).trans upd_same⟩)
  rintro H1 ⟨s1, ts, hD, hP⟩
  rw [List.length_map, List.take_length] at hP
  have lt := hP.1
  have s0 : ∀ x ∈ ks.map (rowM ns), x.length ≤ 100 := fun x hx => by
    obtain ⟨k, _, rfl⟩ := List.mem_map.mp hx
    have := rowM_len ns k
    omega
  refine ⟨D, ts, ks.map (rowM ns), rfl, hD, ⟨by rw [List.length_map]; exact lt, fun i x r hx hr => ?_⟩, nd, by rw [List.length_map]; exact l200, s0, fun p ws S H' s2 np hp hw hS hm => q p ws S H' (s1.trans s2) (same_back s1 np) hp hw hS fun r => ?_⟩
  · rw [List.getElem?_map] at hr
    obtain ⟨k, hk, rfl⟩ := Option.map_eq_some_iff.mp hr
    obtain ⟨l, rfl, h1⟩ := hP.2 i x k hx hk
    exact ⟨l, rfl, SqT.of h1⟩
  · rw [hm r, List.mem_map]
    exact ⟨fun ⟨k, h1, h2⟩ => ⟨k, h1, h2.symm⟩, fun ⟨k, h1, h2⟩ => ⟨k, h1, h2.symm⟩⟩


end
end Pf

namespace Pf
open PySem PySem.Spec PyProof.Rows L2
section
variable {P : Program} {w : World} {K : PySem.W.Frag} {mg : Str → Option Value} {base : Heap}
/-- masks of some sets: how they stand for the rows -/
theorem masks_len {L : List (List Int)} {ns : List Int} {ks : List Nat} (nd : ks.Nodup) (hk : ∀ k, k ∈ ks ↔ ∃ xs ∈ L, IsM ns xs k) : ks.length ≤ L.length := by
  classical
  have := nodup_le (ys := L.map fun xs => if h : ∃ k, IsM ns xs k then h.choose else 0) nd fun k m => by
    obtain ⟨xs, hx, h⟩ := (hk k).mp m
    refine List.mem_map.mpr ⟨xs, hx, ?_⟩
    have e : ∃ k, IsM ns xs k := ⟨k, h⟩
    show (if h : ∃ k, IsM ns xs k then h.choose else 0) = k
    rw [dif_pos e]
    exact e.choose_spec.eq h
  rwa [List.length_map] at this
theorem mask_ex {ns : List Int} (nd : ns.Nodup) (xs : List Int) : (∀ x ∈ xs, x ∈ ns) → ∃ k, IsM ns xs k := by
  induction xs using snoc_indL with
  | nil => exact fun _ => ⟨0, IsM.zero⟩
  | snoc xs x ih =>
    intro h
    obtain ⟨k, hk⟩ := ih fun y m => h y (List.mem_append_left _ m)
    obtain ⟨j, hj⟩ := List.getElem?_of_mem (h x (List.mem_append_right _ List.mem_cons_self))
    exact ⟨_, hk.more nd hj⟩
/-- what the masks in ks are to the sets in L -/
structure MksAt (L : List (List Int)) (ns : List Int) (ks : List Nat) : Prop where
  asc : ns.Pairwise (· < ·)
  sub : ∀ xs ∈ L, ∀ x ∈ xs, x ∈ ns
  nd : ks.Nodup
  mem : ∀ k, k ∈ ks ↔ ∃ xs ∈ L, IsM ns xs k
theorem MksAt.nn {L : List (List Int)} {ns : List Int} {ks : List Nat} (h : MksAt L ns ks) : ns.Nodup := h.asc.imp fun k => Int.ne_of_lt k
theorem MksAt.row {L : List (List Int)} {ns : List Int} {ks : List Nat} (h : MksAt L ns ks) (r : List Int) : RsR L r ↔ ∃ k ∈ ks, r = rowM ns k := by
  constructor
  · rintro ⟨xs, hx, ha, hr⟩
    obtain ⟨k, hk⟩ := mask_ex h.nn xs (h.sub xs hx)
    exact ⟨k, (h.mem k).mpr ⟨xs, hx, hk⟩, asc_eq ha (rowM_asc h.asc k) fun z => by rw [hr z, hk.row (h.sub xs hx)]⟩
  · rintro ⟨k, hk, rfl⟩
    obtain ⟨xs, hx, hm⟩ := (h.mem k).mp hk
    exact ⟨xs, hx, rowM_asc h.asc k, fun z => hm.row (h.sub xs hx)⟩
theorem MksAt.inj {L : List (List Int)} {ns : List Int} {ks : List Nat} (h : MksAt L ns ks) {k j : Nat} (hk : k ∈ ks) (hj : j ∈ ks) (e : rowM ns k = rowM ns j) : k = j := by
  obtain ⟨xs, hx, hm⟩ := (h.mem k).mp hk
  obtain ⟨ys, hy, hn⟩ := (h.mem j).mp hj
  refine hm.eq fun i => (hn i).trans ⟨fun ⟨z, hz, e2⟩ => ⟨z, ?_, e2⟩, fun ⟨z, hz, e2⟩ => ⟨z, ?_, e2⟩⟩
  · rw [← hm.row (h.sub xs hx), e]
    exact (hn.row (h.sub ys hy)).mpr hz
  · rw [← hn.row (h.sub ys hy), ← e]
    exact (hm.row (h.sub xs hx)).mpr hz
theorem MksAt.rows {L : List (List Int)} {ns : List Int} {ks js : List Nat} (h : MksAt L ns ks) (nd : js.Nodup) (sub : ∀ k ∈ js, k ∈ ks) : (js.map (rowM ns)).Nodup := by
  show List.Pairwise _ _
  rw [List.pairwise_map]
  exact List.Pairwise.imp_of_mem (fun ha hb n e => n (h.inj (sub _ ha) (sub _ hb) e)) nd
theorem MksAt.lies {L : List (List Int)} {ns : List Int} {ks : List Nat} (h : MksAt L ns ks) {k j : Nat} (hk : k ∈ ks) (hj : j ∈ ks) : liesM k j = true ↔ rowM ns k ≠ rowM ns j ∧ ∀ z ∈ rowM ns k, z ∈ rowM ns j := by
  obtain ⟨xs, hx, hm⟩ := (h.mem k).mp hk
  obtain ⟨ys, hy, hn⟩ := (h.mem j).mp hj
  have rx : ∀ {z}, z ∈ rowM ns k ↔ z ∈ xs := hm.row (h.sub xs hx)
  have ry : ∀ {z}, z ∈ rowM ns j ↔ z ∈ ys := hn.row (h.sub ys hy)
  rw [hm.lies hn (h.sub xs hx) (h.sub ys hy)]
  constructor
  · rintro ⟨h1, y, h2, h3⟩
    refine ⟨fun e => h3 ?_, fun z hz => ry.mpr (h1 z (rx.mp hz))⟩
    rw [← rx, e]
    exact ry.mpr h2
  · rintro ⟨h1, h2⟩
    refine ⟨fun z hz => ry.mp (h2 z (rx.mpr hz)), Classical.byContradiction fun n => h1 (asc_eq (rowM_asc h.asc k) (rowM_asc h.asc j) fun z => ⟨h2 z, fun hz => Classical.byContradiction fun m => n ⟨z, ry.mp hz, fun c => m (rx.mpr c)⟩⟩)⟩
theorem MksAt.min {L : List (List Int)} {ns : List Int} {ks : List Nat} (h : MksAt L ns ks) (r : List Int) : (∃ k ∈ ks.filter fun k => !(ks.any fun j => liesM j k), r = rowM ns k) ↔ MinR L r := by
  constructor
  · rintro ⟨k, hk, rfl⟩
    obtain ⟨hk, hn⟩ := List.mem_filter.mp hk
    refine ⟨(h.row _).mpr ⟨k, hk, rfl⟩, fun o ho ne hs => ?_⟩
    obtain ⟨j, hj, rfl⟩ := (h.row o).mp ho
    rw [Bool.not_eq_true'] at hn
    rw [show (ks.any fun j => liesM j k) = true from List.any_eq_true.mpr ⟨j, hj, (h.lies hj hk).mpr ⟨ne, hs⟩⟩] at hn
    cases hn
  · rintro ⟨hr, hm⟩
    obtain ⟨k, hk, rfl⟩ := (h.row r).mp hr
    refine ⟨k, List.mem_filter.mpr ⟨hk, ?_⟩, rfl⟩
    rw [Bool.not_eq_true']
    cases e : ks.any fun j => liesM j k with
    | false => rfl
    | true =>
      obtain ⟨j, hj, l⟩ := List.any_eq_true.mp e
      obtain ⟨ne, hs⟩ := (h.lies hj hk).mp l
      exact absurd hs (hm _ ((h.row _).mpr ⟨j, hj, rfl⟩) ne)
theorem MksAt.max {L : List (List Int)} {ns : List Int} {ks : List Nat} (h : MksAt L ns ks) (r : List Int) : (∃ k ∈ ks.filter fun k => !(ks.any fun j => liesM k j), r = rowM ns k) ↔ MaxR L r := by
  constructor
  · rintro ⟨k, hk, rfl⟩
    obtain ⟨hk, hn⟩ := List.mem_filter.mp hk
    refine ⟨(h.row _).mpr ⟨k, hk, rfl⟩, fun o ho ne hs => ?_⟩
    obtain ⟨j, hj, rfl⟩ := (h.row o).mp ho
    rw [Bool.not_eq_true'] at hn
    rw [show (ks.any fun j => liesM k j) = true from List.any_eq_true.mpr ⟨j, hj, (h.lies hk hj).mpr ⟨fun e => ne e.symm, hs⟩⟩] at hn
    cases hn
  · rintro ⟨hr, hm⟩
    obtain ⟨k, hk, rfl⟩ := (h.row r).mp hr
    refine ⟨k, List.mem_filter.mpr ⟨hk, ?_⟩, rfl⟩
    rw [Bool.not_eq_true']
    cases e : ks.any fun j => liesM k j with
    | false => rfl
    | true =>
      obtain ⟨j, hj, l⟩ := List.any_eq_true.mp e
      obtain ⟨ne, hs⟩ := (h.lies hk hj).mp l
      exact absurd hs (hm _ ((h.row _).mpr ⟨j, hj, rfl⟩) fun e => ne e.symm)
theorem SetsAt.same {K : PySem.W.Frag} {H H' : Hp} {t : Addr} {vs : List V} {L : List (List Int)} (e : Same H H') (h : SetsAt K H t vs L) : SetsAt K H' t vs L :=
  ⟨h.1.elim (fun k => .inl (e.seq k)) fun k => .inr (seqT_same e k), h.2.imp fun v xs ⟨a, ea, k⟩ => ⟨a, ea, k.elim (fun k => .inl (e.seq k)) fun k => .inr (seqT_same e k)⟩⟩

/-- what minimal and maximal are asked -/
def sp_some (K : PySem.W.Frag) (C : List (List Int) → List Int → Prop) : Sp := fun us H Q _ => ∃ (t : Addr) (vs : List V) (L : List (List Int)) (ms : List Int), us = [.ref t] ∧ SetsAt K H t vs L ∧ (∀ xs ∈ L, ∀ x ∈ xs, x ∈ ms) ∧ ms.length ≤ 60 ∧ L.length ≤ 1000 ∧
  ∀ (p : Addr) (ws : List V) (S : List (List Int)) (H' : Hp), Same H H' → H p = none → H' p = some (.tup ws) → All2 (RowT K H') ws S → S.Pairwise rlL → (∀ r, r ∈ S ↔ C L r) → Q (.ref p) H'
theorem ok_minimal (T : Txt K mg) : Has P w K mg base 3 "minimal" ["sets"] (sp_some K MinR) := by
  obtain ⟨f, fd, F, m, b⟩ := T.d_minimal.ex
  obtain ⟨f_members_of, fd_members_of, G_members_of, m_members_of, k_members_of, b_members_of⟩ := ok_members_of (P := P) (w := w) (base := base) T
  obtain ⟨f_distinct_masks, fd_distinct_masks, G_distinct_masks, m_distinct_masks, k_distinct_masks, b_distinct_masks⟩ := ok_distinct_masks (P := P) (w := w) (base := base) T
  obtain ⟨f_listed, fd_listed, G_listed, m_listed, k_listed, b_listed⟩ := ok_listed (P := P) (w := w) (base := base) T
  obtain ⟨f_lies_in, fd_lies_in, G_lies_in, m_lies_in, k_lies_in, b_lies_in⟩ := ok_lies_in (P := P) (w := w) (base := base) T
  refine ⟨f, fd, F.ok sc_minimal (fun vs H Q E h => ?_) (fun cdv A outer s H vs Q E hr h => ?_), m, F.kp, b⟩
  · obtain ⟨t, vs, L, ms, rfl, hS, hm, l60, l200, q⟩ := h
    rfl
  obtain ⟨t, vs, L, ms, rfl, hS, hm, l60, l200, q⟩ := h
  refine ⟨_, (pss_cons (ps_set (i := 1) sc_minimal.nd rfl (.inl rfl) (pe_call G_members_of (hr.mono (by decide)) (by rfl) m_members_of k_members_of b_members_of .nil pass0 (pa_cons (pv 0) pa_nil)))
      (pss_cons (ps_set (i := 2) sc_minimal.nd rfl (.inr rfl) (pe_call G_distinct_masks (hr.mono (by decide)) (by rfl) m_distinct_masks k_distinct_masks b_distinct_masks .nil pass0 (pa_cons (pv 0) (pa_cons (pv 1) pa_nil))))
      (pss_one (ps_ret (pe_call G_listed (hr.mono (by decide)) (by rfl) m_listed k_listed b_listed .nil pass0 (pa_cons (pe_lc (own := [("one", 3)]) (g := gName 3) (by rfl) sc_minimal.nd (pi_list (pv 2)) (blkOk_by (own := [("one", 3)]) (N := ["sets", "members", "masks", "one", "other"]) (sc := defScope s_minimal) (by decide +kernel)) (fun _ _ _ _ _ => pg_name (i := 3) sc_minimal.nd rfl (Or.inr rfl)) (fun _ _ _ _ _ => pts_one (pt_not (pt_val (pe_callB (cr_anyK (K := K) rfl rfl) (by rfl) T.z_any (by decide +kernel) (pa_cons (pe_lc (own := [("other", 4)]) (g := gName 4) (by rfl) sc_minimal.nd (pi_listK (K := K) rfl (pv 2)) (blkOk_in (own := [("other", 4)]) (N := ["sets", "members", "masks", "one", "other"]) (by decide +kernel)) (fun _ _ _ _ _ => pg_name (i := 4) sc_minimal.nd rfl (Or.inl rfl)) (fun _ _ _ _ _ => pts_nil) (fun _ _ _ _ _ => (pe_call G_lies_in (hr.mono (by decide)) (by rfl) m_lies_in k_lies_in b_lies_in .nil pass0 (pa_cons (pv 4) (pa_cons (pv 3) pa_nil))))) pa_nil))))) (fun _ _ _ _ _ => (pv 3))) (pa_cons (pv 1) pa_nil))))))), ?_⟩
  refine ⟨_, rfl, t, vs, L, ms, rfl, hS, hm, l60, fun p ns H1 s1 np hp asc hns => ?_⟩
  have nn : ns.Nodup := asc.imp fun k => Int.ne_of_lt k
  have n60 : ns.length ≤ 60 := Nat.le_trans (nodup_le nn fun x hx => by
    obtain ⟨xs, h1, h2⟩ := (hns x).mp hx
    exact hm xs h1 x h2) l60
  have sub : ∀ xs ∈ L, ∀ x ∈ xs, x ∈ ns := fun xs h1 x h2 => (hns x).mpr ⟨xs, h1, h2⟩
  refine ⟨_, rfl, _, rfl, t, p, vs, L, ns, rfl, hS.same s1, hp, nn, n60, sub, l200, fun m ks H2 s2 nm hm nk hk => ?_⟩
  have M : MksAt L ns ks := ⟨asc, sub, nk, hk⟩
  have lk := masks_len nk hk
  refine ⟨_, rfl, m, rfl, ⟨_, SqL.of hm⟩, fun D nD => ?_⟩
  show Exists _
  refine two_out (walk_list (xs := ks.map fun k : Nat => V.int k)) (fun i H' => Same H2 H' ∧ H' D = some (.lst (((ks.take i).filter fun k => !(ks.any fun j => liesM j k)).map fun k : Nat => V.int k))) ⟨same_new nD, upd_same⟩ (fun i H' _ h' => h'.1.seq (SqL.of hm)) ?_ ?_
  · rintro i x H3 H4 hi ⟨s3, hD⟩ ⟨rfl, hx⟩
    rw [List.getElem?_map] at hx
    obtain ⟨k, hk1, rfl⟩ := Option.map_eq_some_iff.mp hx
    refine ⟨rfl, _, rfl, m, rfl, ⟨_, SqL.of (s3 _ _ hm)⟩, fun D2 nD2 => ?_⟩
    show Exists _
    refine two_out (walk_list (xs := ks.map fun k : Nat => V.int k)) (fun i H' => Same H4 H' ∧ H' D2 = some (.lst (((ks.take i).map fun j => liesM j k).map V.bl))) ⟨same_new nD2, upd_same⟩ (fun i H' _ h' => h'.1.seq (SqL.of (s3 _ _ hm))) ?_ ?_
    · rintro i2 x H5 H6 hi2 ⟨s5, hD5⟩ ⟨rfl, hx⟩
      rw [List.getElem?_map] at hx
      obtain ⟨j, hj1, rfl⟩ := Option.map_eq_some_iff.mp hx
      rw [List.length_map] at hi2
      refine ⟨rfl, _, rfl, _, rfl, j, k, rfl, _, hD5, small1000 (by rw [List.length_map, List.length_map, List.length_take]; omega), same_mut s5 nD2, ?_⟩
      rw [take_succ_at hj1, List.map_append, List.map_append]
      exact upd_same
    · rintro H5 ⟨s5, hD5⟩
      rw [List.length_map, List.take_length] at hD5
      have ea : (ks.map fun j => liesM j k).any id = ks.any fun j => liesM j k := by rw [List.any_map]; rfl
      have ln := List.length_filter_le (fun k => !(ks.any fun j => liesM j k)) (ks.take i)
      rw [List.length_take] at ln
      refine ⟨D2, _, rfl, SqL.of hD5, _, rfl, ite2 (fun e => ?_) (fun e => ?_)⟩
      · rw [ea] at e
        refine ⟨_, rfl, _, s5 _ _ hD, small1000 (by rw [List.length_map]; omega), same_mut (s3.trans s5) nD, ?_⟩
        rw [take_succ_at hk1, List.filter_append, List.filter_cons_of_pos (by exact e), List.map_append]
        exact upd_same
      · rw [ea] at e
        refine ⟨s3.trans s5, ?_⟩
        rw [take_succ_at hk1, List.filter_append, List.filter_cons_of_neg (by exact e), List.filter_nil, List.append_nil]
        exact s5 _ _ hD
  rintro H3 ⟨s3, hD⟩
  rw [List.length_map, List.take_length] at hD
  have s02 := (s1.trans s2).trans s3
  refine ⟨_, rfl, D, p, ks.filter fun k => !(ks.any fun j => liesM j k), ns, rfl, hD, s3 _ _ (s2 _ _ hp), M.rows (nk.filter _) fun k h => (List.mem_filter.mp h).1, Nat.le_trans (List.length_filter_le _ _) (by omega), n60, fun p2 ws S H' s4 np2 hp2 hw hS2 hm2 => ?_⟩
  exact q p2 ws S H' (s02.trans s4) (same_back s02 np2) hp2 hw hS2 fun r => (hm2 r).trans (M.min r)


end
end Pf

namespace Pf
open PySem PySem.Spec PyProof.Rows L2
section
variable {P : Program} {w : World} {K : PySem.W.Frag} {mg : Str → Option Value} {base : Heap}
/-- sorted(x), each value told with its data -/
def rSortedP (K : PySem.W.Frag) : List V → Hp → VK → Prop := fun vs H Q => ∃ (a : Addr) (xs : List V) (ds : List PyData), vs = [.ref a] ∧ (SqL K H a xs ∨ SqT K H a xs) ∧ DpAll K H xs ds ∧ PySem.W.AllAlike ds ∧ PySem.W.Sortable ds ∧ (∀ d ∈ ds, d.depth ≤ 60) ∧
  ∀ (bs : List (V × PyData)) (p : Addr), bs.Perm (xs.zip ds) → bs.map Prod.snd = ds.mergeSort (PySem.W.dataLe false id) → H p = none → Q (.ref p) (upd H p (.lst (bs.map Prod.fst)))
theorem zip_dp {K : PySem.W.Frag} {H : Hp} : ∀ {xs : List V} {ds : List PyData}, DpAll K H xs ds → ∀ b ∈ xs.zip ds, Dp K H b.1 b.2
  | _, _, .nil => fun b h => by cases h
  | _, _, .cons h t => fun b hb => by
    rw [List.zip_cons_cons] at hb
    rcases List.mem_cons.mp hb with rfl | hb
    · exact h
    · exact zip_dp t b hb
theorem cr_sortedP {X : Cx} {K : PySem.W.Frag} (hK : X.K = K) (hu : X.A.units + 65 < cLine) : CallR X (.builtin "sorted") (rSortedP K) := by
  subst hK
  intro pins s σ H vs us Q I r h
  obtain ⟨a, xs, ds, rfl, hq, hd, hal, hk, hdp, q⟩ := h
  obtain ⟨u, rfl, rx⟩ := vals1 r
  cases rx
  have lz := dpa_len0 hd
  have body : ∀ (its : List Value) (T : String) (o : Obj) (n : Nat), Vals xs its → xs.length ≤ sizeLine → T = "list" ∨ T = "tuple" → s.heap.get? a = some o → o.cls = .type T → o.data = .seq its.toArray n → wpAny (model X.prog X.w) X.A (call (.builtin "sorted") [.ref a]) (EP X pins σ Q) X.xe s := fun its T o n rv hz hT ho hc hdt => by
    obtain ⟨e1, e2⟩ := each_zip I hd rv
    refine sorted_seqD hT ho hc hdt e1 (enc := Prod.snd) e2 (by rw [zip_snd lz]; exact hal) (by rw [zip_snd lz]; exact hk) (by rw [← rv.length]; exact hz) (fun b hb => ?_) fun h' p out kp hn hp hlen hout => ?_
    · have := hdp b.2 (by have := List.mem_map_of_mem (f := Prod.snd) hb; rwa [zip_snd lz] at this)
      omega
    · obtain ⟨m, hm⟩ := hp
      obtain ⟨o1, o2⟩ := each_out hout
      have hperm : ((xs.zip ds).mergeSort (PySem.W.dataLe false Prod.snd)).Perm (xs.zip ds) := List.mergeSort_perm _ _
      have eq2 : ((xs.zip ds).mergeSort (PySem.W.dataLe false Prod.snd)).map Prod.snd = ds.mergeSort (PySem.W.dataLe false id) := by
        have h := List.map_mergeSort (r := PySem.W.dataLe false Prod.snd) (s := PySem.W.dataLe false id) (f := Prod.snd) (l := xs.zip ds) (fun _ _ _ _ => rfl)
        rw [zip_snd lz] at h
        exact h
      rw [eq2] at o2
      have hN := HOk.gone I.hok hn
      have pm : (((xs.zip ds).mergeSort (PySem.W.dataLe false Prod.snd)).map Prod.fst).Perm xs := by
        have := hperm.map Prod.fst
        rwa [zip_fst lz] at this
      exact ⟨.ref p, _, I.laidN (t' := s.toks) kp hn hN (show ObjOk X.prog X.w _ h' p (.lst _) from ⟨by rw [pm.length_eq]; exact hz, out, m, o1, hm⟩), rfl, q _ p hperm eq2 hN⟩
  rcases hq with hq | hq
  · obtain ⟨its, rv, pl, hz⟩ := I.list hq
    obtain ⟨o, ho, hc, n, hdt⟩ := pl.isList
    exact body its "list" o n rv hz (.inl rfl) ho hc hdt
  · obtain ⟨its, rv, pl, hz⟩ := I.tuple hq
    obtain ⟨o, ho, hc, n, hdt⟩ := pl
    exact body its "tuple" o n rv hz (.inr rfl) ho hc hdt


/-! ### sorted of tuples, empty ones among them -/
section
open PySem.W PySem.Calls PySem.SeqAt
variable {prog : Program} {w : World} {A : Around} {E : Value → Shared → Prop} {s : Shared}
/-- sortable, or tuples whatever they hold -/
def SortX (ds : List PyData) : Prop := Sortable ds ∨ ∀ d ∈ ds, ∃ xs, d = .tuple xs
theorem oneLt_tup {f : Bool} {xs ys : List PyData} {a b : Value} {as bs : List Addr} {Q : Bool → Shared → Prop} (ra : Reads s.heap a (.tuple xs) as) (rb : Reads s.heap b (.tuple ys) bs) (h : alike (.tuple xs) (.tuple ys) = true)
    (hu : A.units + min (PyData.tuple xs).depth (PyData.tuple ys).depth < cLine) (hq : Q (dataLt (.tuple xs) (.tuple ys)) s) : wpAny (model prog w) A (oneLt' f a b) Q E s := by
  cases f with
  | false => exact oneLt_alike (fun e => by cases e) ra rb h (fun e => by cases e) hu hq
  | true =>
    have hal : alikeAll xs ys = true := by simpa [alike] using h
    cases ra with
    | @tuple l o vs n _ as₁ h1 h2 h3 h4 =>
      cases rb with
      | @tuple l' o' vs' n' _ bs₁ k1 k2 k3 k4 =>
        have n1 : vs.size = xs.length := by simpa using ReadsAll.length _ _ _ h4
        have n2 : vs'.size = ys.length := by simpa using ReadsAll.length _ _ _ k4
        rw [dataLt_tuple, ← firstLt_toks xs ys hal, ← n1, ← n2] at hq
        rw [oneLt'_eq]
        simp only [if_true]
        obtain ⟨cls, dd, data, sl⟩ := o
        obtain ⟨cls2, dd2, data2, sl2⟩ := o'
        simp only at h2 h3 k2 k3
        subst h2 h3 k2 k3
        refine wpAny_bind (wpAny_cRoomFor (room_here hu) ?_)
        refine wpAny_bind (wpAny_callSpecialIfBound?_slot (T := "tuple") ⟨_, h1, rfl⟩ F.slot_tuple_lt (call_meets F.slot_tuple_lt ⟨_, h1, rfl⟩ F.entry_tuple_lt (F.args_tuple_lt_2 _ _) (tuple_ltAt l l' vs vs' n n' dd dd2 sl sl2 (pairEq xs ys) (fun j => dataLt (xs.getD j .none) (ys.getD j .none))) ⟨h1, k1, fun j j1 j2 => ?_, fun j j1 j2 hj => ?_, ?_⟩))
        · have := eqAt_alikeAll xs ys A.in1 s vs.toList vs'.toList _ _ h4 k4 hal (room_in hu) j (by simpa using j1) (by simpa using j2)
          simpa using this
        · have := rcLt_alikeAll xs ys A.in1 s vs.toList vs'.toList _ _ h4 k4 hal (room_in hu) j (by simpa using j1) (by simpa using j2) hj
          simpa using this
        · exact wpAny_truthy_bool hq
def someT : PyData → Bool
  | .tuple (_ :: _) => true
  | _ => false
theorem mix_firsts {M : Model} : ∀ {vs : List Value} {ds : List PyData} {Q : List (Option Value) → Shared → Prop}, EachIs (fun v d => ∃ as, Reads s.heap v d as) vs ds → (∀ d ∈ ds, ∃ xs, d = .tuple xs) → (∀ os, os.map (·.isSome) = ds.map someT → Q os s) → wpAny M A (vs.mapM firstOfTuple') Q E s
  | _, _, _, .nil, _, h => by rw [List.mapM_nil]; exact wpAny_pure (h [] rfl)
  | v :: vs, d :: ds, Q, .cons ⟨as, r⟩ t, ht, h => by
    obtain ⟨ys, rfl⟩ := ht d List.mem_cons_self
    rw [List.mapM_cons]
    refine wpAny_bind ?_
    rw [kas_first_eq]
    cases r with
    | @tuple a o xs n _ _ ho hc hd hr =>
      refine wpAny_bind (Looks.here (show Looks M s.heap (typeOf (.ref a)) o.cls from (Looks.ld ho).andThen .now) ?_)
      rw [hc, if_neg (by first | decide | simp)]
      refine wpAny_bind (listItems_at ho hd (wpAny_pure ?_))
      refine wpAny_bind (mix_firsts t (fun d hd => ht d (List.mem_cons_of_mem _ hd)) fun os eo => wpAny_pure (h _ ?_))
      rw [List.map_cons, List.map_cons, eo]
      congr 1
      have n1 : xs.size = ys.length := by simpa using ReadsAll.length _ _ _ hr
      cases ys with
      | nil =>
        rw [Array.getElem?_eq_none (by rw [n1]; exact Nat.le_refl _)]
        rfl
      | cons y ys =>
        have : 0 < xs.size := by rw [n1]; exact Nat.succ_pos _
        rw [Array.getElem?_eq_getElem this]
        rfl
theorem mix_kind {M : Model} {vs : List Value} {ds : List PyData} {Q : SortKind → Shared → Prop} (e : EachIs (fun v d => ∃ as, Reads s.heap v d as) vs ds) (ht : ∀ d ∈ ds, ∃ xs, d = .tuple xs) (hn : ¬ ∀ d ∈ ds, someT d = true) (h : Q (if (ds.head?.map someT) = some true then general' else oneType') s) : wpAny M A (keyKind' vs.toArray) Q E s := by
  rw [keyKind'_eq, List.mapM_toArray, map_eq_pure_bind]
  refine wpAny_bind (wpAny_bind (mix_firsts e ht fun os eo => wpAny_pure ?_))
  have ha : (os.toArray.all fun x => x.isSome) = false := by
    rw [← Bool.not_eq_true]
    intro hall
    refine hn fun d hd => ?_
    have h2 : ∀ b ∈ ds.map someT, b = true := by
      rw [← eo]
      intro b hb
      obtain ⟨o, ho, rfl⟩ := List.mem_map.mp hb
      have := Array.all_eq_true'.mp hall o (by simpa using ho)
      exact this
    exact h2 _ (List.mem_map_of_mem hd)
  rw [ha, if_neg (by simp)]
  have h0 : ((os.toArray[0]?.bind id).isSome) = decide ((ds.head?.map someT) = some true) := by
    cases os with
    | nil =>
      cases ds with
      | nil => rfl
      | cons d ds => cases eo
    | cons o os =>
      cases ds with
      | nil => cases eo
      | cons d ds =>
        rw [List.map_cons, List.map_cons] at eo
        have e1 := (List.cons.inj eo).1
        simp [← e1]
  rw [h0]
  by_cases c : (ds.head?.map someT) = some true
  · rw [if_pos (decide_eq_true c)]
    rw [if_pos c] at h
    exact wpAny_pure h
  · rw [if_neg (by simpa using c)]
    rw [if_neg c] at h
    cases e with
    | nil => exact absurd (fun d hd => by cases hd) hn
    | @cons v d vs ds r t =>
      rw [oneTypeOnly'_eq, List.mapM_toArray, map_eq_pure_bind]
      have hT : ∀ x ∈ v :: vs, Looks M s.heap (typeOf x) (Value.type "tuple") := fun x hx => by
        obtain ⟨d', hd', as, r'⟩ := (EachIs.cons r t).left x hx
        obtain ⟨xs, rfl⟩ := ht d' hd'
        exact looks_reads r'
      refine wpAny_bind (wpAny_bind (wpAny_bind (kas_mapM (r := Value.type "tuple") _ (fun x hx Q' hq => (hT x hx).here hq) (wpAny_pure ?_))))
      have hall : ((List.map (fun _ => Value.type "tuple") (v :: vs)).toArray.all fun x => x == Value.type "tuple") = true := by
        simp only [List.all_toArray, List.all_map, List.all_eq_true]
        intro _ _
        rfl
      have h1 : (List.map (fun _ => Value.type "tuple") (v :: vs)).toArray[0]? = some (Value.type "tuple") := by simp
      rw [h1]
      simp only [hall, if_true]
      exact wpAny_pure (wpAny_pure h)
theorem sortsX {vs : List Value} {ds : List PyData} (e : EachIs (fun v d => ∃ as, Reads s.heap v d as) vs ds) (hal : AllAlike ds) (hk : SortX ds) (hu : ∀ d, d ∈ ds → A.units + d.depth < cLine) : SortsAt prog w A s (dataKind s.heap ds) vs := by
  rcases hk with hk | ht
  · exact SortsAt.data e hal hk hu
  by_cases hn : ∀ d ∈ ds, someT d = true
  · refine SortsAt.data e hal (.inl fun d hd => ?_) hu
    obtain ⟨xs, rfl⟩ := ht d hd
    cases xs with
    | nil => cases hn _ hd
    | cons x xs => exact ⟨x, xs, rfl⟩
  have room : ∀ {d d' : PyData}, d ∈ ds → A.units + min d.depth d'.depth < cLine := fun {d d'} hd => Nat.lt_of_le_of_lt (Nat.add_le_add_left (Nat.min_le_left _ _) _) (hu d hd)
  have lt : ∀ f : Bool, ∀ (E : Value → Shared → Prop) (x y : Value) (a b : (dataKind s.heap ds).α) (Q : Bool → Shared → Prop), (dataKind s.heap ds).keyOf x = some a → (dataKind s.heap ds).keyOf y = some b → Q ((dataKind s.heap ds).blt a b) s → wpAny (model prog w) A (oneLt' f x y) Q E s := fun f E x y a b Q ha hb hq => by
    obtain ⟨d, as, hd, ra, rfl⟩ := dataKind_inv ha
    obtain ⟨d', as', hd', rb, rfl⟩ := dataKind_inv hb
    obtain ⟨xs, rfl⟩ := ht d hd
    obtain ⟨ys, rfl⟩ := ht d' hd'
    exact oneLt_tup ra rb (hal _ hd _ hd') (room hd) hq
  refine ⟨fun v hv => ?_, if (ds.head?.map someT) = some true then general' else oneType', ?_, fun h2 E Q hq => mix_kind e ht hn hq⟩
  · obtain ⟨d, hd, as, r⟩ := e.left v hv
    exact ⟨_, dataKind_some hal hd r⟩
  · split
    · intro E x y a b Q ha hb hq
      exact lt false E x y a b Q ha hb hq
    · intro E x y a b Q ha hb hq
      exact lt true E x y a b Q ha hb hq
end
section
open PySem.W PySem.Calls
variable {prog : Program} {w : World} {A : Around} {E : Value → Shared → Prop} {s : Shared} {β : Type} {vs : List Value} {bs : List β} {enc : β → PyData} {R : Value → β → Prop}
theorem sorted_seqX {l : Addr} {T : String} {o : Obj} {n : Nat} {Q : Value → Shared → Prop} (hT : T = "list" ∨ T = "tuple") (ho : s.heap.get? l = some o) (hc : o.cls = .type T) (hd : o.data = .seq vs.toArray n)
    (e : EachIs R vs bs) (er : EachIs (fun v b => ∃ as, Reads s.heap v (enc b) as) vs bs) (hal : AllAlike (bs.map enc)) (hk : SortX (bs.map enc)) (hL : vs.length ≤ sizeLine)
    (hu : ∀ b, b ∈ bs → A.units + 2 + (enc b).depth < cLine)
    (h : ∀ (h' : Heap) (p : Addr) (out : List Value), (∀ b u, s.heap.get? b = some u → h'.get? b = some u) → s.heap.get? p = none → (∃ m, h'.get? p = some (seqObj "list" out.toArray m)) → out.length = vs.length → EachIs R out (bs.mergeSort (dataLe false enc)) → Q (.ref p) { s with heap := h' }) :
    wpAny (model prog w) A (call (.builtin "sorted") [.ref l]) Q E s := by
  refine call_function_entry (id := "sorted") PyProof.Rows.kind_sorted PyProof.Rows.plain_sorted PyProof.Rows.entry_sorted (PyProof.Rows.args_sorted1 (.ref l)) ?_
  show wpAny _ _ (Builtin.«sorted» ⟨[.ref l], []⟩) _ _ _
  delta Builtin.«sorted»
  refine wpAny_bind (m := checkCount "sorted" 1 1 _) (wpAny_pure (wpAny_bind (wpAny_collect_seq l hT ho hc hd (fun h1 kp => wpAny_bind (wpAny_newList ?_ (by simpa using hL))) (by simpa using hL))))
  have hL1 : (h1.push (seqObj "list" vs.toArray 0)).get? h1.objs.size = some (seqObj "list" vs.toArray 0) := Heap.get?_push_size _ rfl
  have old : ∀ b u, s.heap.get? b = some u → b ≠ h1.objs.size ∧ (h1.push (seqObj "list" vs.toArray 0)).get? b = some u := fun b u hb => ⟨Nat.ne_of_lt (Heap.lt_size (kp b u hb)), Heap.get?_push_of_some _ (kp b u hb)⟩
  have hr : EachIs (fun v b => ∃ as, Reads (sortingHeap (h1.push (seqObj "list" vs.toArray 0)) h1.objs.size vs) v (enc b) as) vs bs := er.mono fun _ _ ⟨as, r⟩ => ⟨as, PyProof.Rows.Reads.keeps (fun b u hb => sortingHeap_old (old b u hb).1 (old b u hb).2) r⟩
  have hA : EachIs (fun v d => ∃ as, Reads (sortingHeap (h1.push (seqObj "list" vs.toArray 0)) h1.objs.size vs) v d as) vs (bs.map enc) := each_map (R := fun v d => ∃ as, Reads (sortingHeap (h1.push (seqObj "list" vs.toArray 0)) h1.objs.size vs) v d as) enc hr
  show wpAny (model prog w) A.in1 (holding [.ref h1.objs.size] (call (.builtin "list.sort") [.ref h1.objs.size]) >>= _) _ _ { s with heap := h1.push (seqObj "list" vs.toArray 0) }
  refine wpAny_bind (wpAny_holding (wpAny_call_entry slot_list_sort ⟨_, hL1, rfl⟩ entry_list_sort (list_sort_vals hL1 (sortsX (s := { s with heap := sortingHeap (h1.push (seqObj "list" vs.toArray 0)) h1.objs.size vs }) hA hal hk (bound_map hu)) hL ⟨_, rfl, ?_⟩) (args_list_sort _)))
  obtain ⟨m, hm⟩ := sortedHeap_at (vs := vs) (out := (sortVals (dataKind (sortingHeap (h1.push (seqObj "list" vs.toArray 0)) h1.objs.size vs) (bs.map enc)) false vs vs).toArray) hL1
  refine wpAny_pure ⟨_, rfl, h _ h1.objs.size (sortVals (dataKind (sortingHeap (h1.push (seqObj "list" vs.toArray 0)) h1.objs.size vs) (bs.map enc)) false vs vs) (fun b u hb => ?_) ?_ ⟨m, hm⟩ (sortVals_length false rfl) (sortVals_data false e hr hal)⟩
  · exact (sortedHeap_old (old b u hb).1 (Heap.lt_size (old b u hb).2)).trans (old b u hb).2
  · cases e : s.heap.get? h1.objs.size with
    | none => rfl
    | some u => exact absurd rfl (old _ u e).1
end
/-- sorted(x), each value told with its data -/
def rSortedX (K : PySem.W.Frag) : List V → Hp → VK → Prop := fun vs H Q => ∃ (a : Addr) (xs : List V) (ds : List PyData), vs = [.ref a] ∧ (SqL K H a xs ∨ SqT K H a xs) ∧ DpAll K H xs ds ∧ PySem.W.AllAlike ds ∧ SortX ds ∧ (∀ d ∈ ds, d.depth ≤ 60) ∧
  ∀ (bs : List (V × PyData)) (p : Addr), bs.Perm (xs.zip ds) → bs.map Prod.snd = ds.mergeSort (PySem.W.dataLe false id) → H p = none → Q (.ref p) (upd H p (.lst (bs.map Prod.fst)))
theorem cr_sortedX {X : Cx} {K : PySem.W.Frag} (hK : X.K = K) (hu : X.A.units + 65 < cLine) : CallR X (.builtin "sorted") (rSortedX K) := by
  subst hK
  intro pins s σ H vs us Q I r h
  obtain ⟨a, xs, ds, rfl, hq, hd, hal, hk, hdp, q⟩ := h
  obtain ⟨u, rfl, rx⟩ := vals1 r
  cases rx
  have lz := dpa_len0 hd
  have body : ∀ (its : List Value) (T : String) (o : Obj) (n : Nat), Vals xs its → xs.length ≤ sizeLine → T = "list" ∨ T = "tuple" → s.heap.get? a = some o → o.cls = .type T → o.data = .seq its.toArray n → wpAny (model X.prog X.w) X.A (call (.builtin "sorted") [.ref a]) (EP X pins σ Q) X.xe s := fun its T o n rv hz hT ho hc hdt => by
    obtain ⟨e1, e2⟩ := each_zip I hd rv
    refine sorted_seqX hT ho hc hdt e1 (enc := Prod.snd) e2 (by rw [zip_snd lz]; exact hal) (by rw [zip_snd lz]; exact hk) (by rw [← rv.length]; exact hz) (fun b hb => ?_) fun h' p out kp hn hp hlen hout => ?_
    · have := hdp b.2 (by have := List.mem_map_of_mem (f := Prod.snd) hb; rwa [zip_snd lz] at this)
      omega
    · obtain ⟨m, hm⟩ := hp
      obtain ⟨o1, o2⟩ := each_out hout
      have hperm : ((xs.zip ds).mergeSort (PySem.W.dataLe false Prod.snd)).Perm (xs.zip ds) := List.mergeSort_perm _ _
      have eq2 : ((xs.zip ds).mergeSort (PySem.W.dataLe false Prod.snd)).map Prod.snd = ds.mergeSort (PySem.W.dataLe false id) := by
        have h := List.map_mergeSort (r := PySem.W.dataLe false Prod.snd) (s := PySem.W.dataLe false id) (f := Prod.snd) (l := xs.zip ds) (fun _ _ _ _ => rfl)
        rw [zip_snd lz] at h
        exact h
      rw [eq2] at o2
      have hN := HOk.gone I.hok hn
      have pm : (((xs.zip ds).mergeSort (PySem.W.dataLe false Prod.snd)).map Prod.fst).Perm xs := by
        have := hperm.map Prod.fst
        rwa [zip_fst lz] at this
      exact ⟨.ref p, _, I.laidN (t' := s.toks) kp hn hN (show ObjOk X.prog X.w _ h' p (.lst _) from ⟨by rw [pm.length_eq]; exact hz, out, m, o1, hm⟩), rfl, q _ p hperm eq2 hN⟩
  rcases hq with hq | hq
  · obtain ⟨its, rv, pl, hz⟩ := I.list hq
    obtain ⟨o, ho, hc, n, hdt⟩ := pl.isList
    exact body its "list" o n rv hz (.inl rfl) ho hc hdt
  · obtain ⟨its, rv, pl, hz⟩ := I.tuple hq
    obtain ⟨o, ho, hc, n, hdt⟩ := pl
    exact body its "tuple" o n rv hz (.inr rfl) ho hc hdt


theorem atI_end {α : Type} (xs : List α) (x : α) : atI (xs ++ [x]) (-1) = some x := by
  unfold atI ixN
  rw [if_neg (by decide), if_pos (by rw [List.length_append, List.length_singleton]; omega)]
  show (xs ++ [x])[((-1 : Int) + ((xs ++ [x]).length : Nat)).toNat]? = some x
  rw [show ((-1 : Int) + ((xs ++ [x]).length : Nat)).toNat = xs.length by rw [List.length_append, List.length_singleton]; omega]
  simp
def sp__law_once (K : PySem.W.Frag) : Sp := fun us H Q _ => ∃ (a : Addr) (xs : List V) (ds : List PyData), us = [.ref a] ∧ (SqL K H a xs ∨ SqT K H a xs) ∧ DpAll K H xs ds ∧ PySem.W.AllAlike ds ∧ SortX ds ∧ (∀ d ∈ ds, d.depth ≤ 60 ∧ SeqAt.shaped d = true) ∧ xs.length ≤ 20000 ∧
  ∀ (p : Addr) (ys : List V) (H' : Hp), Same H H' → H p = none → H' p = some (.tup ys) → DpAll K H' ys (onceD (ds.mergeSort (PySem.W.dataLe false id))) → Q (.ref p) H'
theorem ok__law_once (T : Txt K mg) : Has P w K mg base 1 "_law_once" ["parts"] (sp__law_once K) := by
  obtain ⟨f, fd, F, m, b⟩ := T.d__law_once.ex
  refine ⟨f, fd, F.ok sc__law_once (fun vs H Q E h => ?_) (fun cdv A outer s H vs Q E hr h => ?_), m, F.kp, b⟩
  · obtain ⟨a, xs, ds, rfl, ha, hd, hal, hso, hdp, l200, q⟩ := h
    rfl
  obtain ⟨a, xs, ds, rfl, ha, hd, hal, hso, hdp, l200, q⟩ := h
  refine ⟨_, (pss_cons (ps_set (i := 1) sc__law_once.nd rfl (.inl rfl) (pe_lst pa_nil))
      (pss_cons (ps_for PassesOwn.never rfl (pi_list (pe_callB (cr_sortedX rfl (u65 hr)) (by rfl) T.z_sorted (by decide +kernel) (pa_cons (pv 0) pa_nil))) (pg_name (i := 2) sc__law_once.nd rfl (.inl rfl))
      (pss_one (ps_if (PW.pt (pw_or (pt_cmpR op_eq (pe_callB call_len_seq (by rfl) T.z_len (by decide +kernel) (pa_cons (pv 1) pa_nil)) pe_int (nomark _)) (pw_or1 (pt_cmpR (op_neD hr.units) (pe_ix ix_list (pv 1) (pe_un un_neg pe_int) (fun _ _ => rfl)) (pv 2) (nomark _)))))
        (pss_one (ps_expr (pe_bm PySem.F.plainAttrs_list PySem.F.slot_list_append PySem.F.type_list_append mt_append (pv 1) (pa_cons (pv 2) pa_nil))))
        pss_nil)))
      (pss_one (ps_ret (pe_callTy call_tuple_of (by rfl) T.z_tuple (by decide +kernel) (pa_cons (pv 1) pa_nil)))))), ?_⟩
  refine ⟨by show 0 ≤ sizeLine; decide, fun m nm => ?_⟩
  have s1 := same_new (o := .lst []) nm
  have hm1 : upd H m (.lst []) m = some (.lst []) := upd_same
  refine ⟨_, rfl, a, xs, ds, rfl, ha.imp (fun k => s1.seq k) (fun k => seqT_same s1 k), dpa_same s1 hd, hal, hso, fun d m => (hdp d m).1, fun bs p pm es np => ?_⟩
  have hb : ∀ b ∈ bs, Dp K H b.1 b.2 := fun b hb => zip_dp hd b (pm.mem_iff.mp hb)
  have hsh : ∀ b ∈ bs, SeqAt.shaped b.2 = true := fun b hb => (hdp b.2 (List.of_mem_zip (pm.mem_iff.mp hb)).2).2
  have ln : bs.length ≤ 20000 := by
    rw [pm.length_eq, List.length_zip]
    omega
  have pnm : m ≠ p := fun e => by rw [← e, hm1] at np; cases np
  have s2 := s1.trans (same_new (o := .lst (bs.map Prod.fst)) np)
  have hp2 : upd (upd H m (.lst [])) p (.lst (bs.map Prod.fst)) p = some (.lst (bs.map Prod.fst)) := upd_same
  have hm2 := same_new (o := .lst (bs.map Prod.fst)) np _ _ hm1
  generalize upd (upd H m (.lst [])) p (.lst (bs.map Prod.fst)) = H2 at s2 hp2 hm2 ⊢
  refine ⟨p, rfl, ⟨_, SqL.of hp2⟩, for_it (walk_list (xs := bs.map Prod.fst)) (fun i σ H' => ∃ y2, σ = [some (.ref a), some (.ref m), y2] ∧ Same H H' ∧ H' p = some (.lst (bs.map Prod.fst)) ∧ ∃ cs : List (V × PyData), H' m = some (.lst (cs.map Prod.fst)) ∧ (∀ b ∈ cs, b ∈ bs) ∧ cs.length ≤ i ∧ cs.map Prod.snd = onceD ((bs.take i).map Prod.snd)) ⟨_, rfl, s2, hp2, [], hm2, (fun _ h => nomatch h), Nat.le_refl _, rfl⟩ (fun i σ H' _ h' => ?_) ?_ ?_⟩
  · obtain ⟨_, _, _, h3, _⟩ := h'
    exact SqL.of h3
  · rintro i x σ H3 H4 hi ⟨y2, rfl, s3, hp3, cs, hm3, hcs, lc, eo⟩ ⟨rfl, hx⟩
    rw [List.getElem?_map] at hx
    obtain ⟨b, hb1, rfl⟩ := Option.map_eq_some_iff.mp hx
    have mb := List.mem_of_getElem? hb1
    rw [List.length_map] at hi
    have st : onceD ((bs.take (i + 1)).map Prod.snd) = if (cs.map Prod.snd).getLast?.any (fun e => PyData.eqv e b.2) = true then cs.map Prod.snd else cs.map Prod.snd ++ [b.2] := by
      rw [take_succ_at hb1, List.map_append, List.map_cons, List.map_nil, onceD_snoc, ← eo]
    have app : onceD ((bs.take (i + 1)).map Prod.snd) = cs.map Prod.snd ++ [b.2] → ∃ y2, [some (V.ref a), some (V.ref m), some b.1] = [some (V.ref a), some (V.ref m), y2] ∧ Same H (upd H4 m (.lst (cs.map Prod.fst ++ [b.1]))) ∧ upd H4 m (.lst (cs.map Prod.fst ++ [b.1])) p = some (.lst (bs.map Prod.fst)) ∧ ∃ cs2 : List (V × PyData), upd H4 m (.lst (cs.map Prod.fst ++ [b.1])) m = some (.lst (cs2.map Prod.fst)) ∧ (∀ b ∈ cs2, b ∈ bs) ∧ cs2.length ≤ i + 1 ∧ cs2.map Prod.snd = onceD ((bs.take (i + 1)).map Prod.snd) := fun e =>
      ⟨_, rfl, same_mut s3 nm, (upd_ne (Ne.symm pnm)).trans hp3, cs ++ [b], by rw [List.map_append]; exact upd_same, fun x hx => (List.mem_append.mp hx).elim (hcs x) fun hx => by rw [List.mem_singleton.mp hx]; exact mb, by rw [List.length_append]; exact Nat.succ_le_succ lc, by rw [List.map_append, e]; rfl⟩
    refine ⟨_, rfl, m, _, rfl, .inl (SqL.of hm3), rfl, _, rfl, ite2 (fun e => ?_) (fun e => ?_)⟩
    · have e1 : cs = [] := by
        have := of_decide_eq_true e
        have := Int.ofNat.inj (V.int.inj this)
        rw [List.length_map] at this
        exact List.eq_nil_of_length_eq_zero this
      refine iteT ⟨_, rfl, .inl ⟨rfl, _, SqL.of hm3⟩, _, rfl, m, _, _, rfl, rfl, hm3, lt_line (by rw [List.length_map]; omega), ?_⟩
      subst e1
      exact app st
    · rcases List.eq_nil_or_concat cs with e1 | ⟨cs', c, e1⟩
      · subst e1
        exact absurd (decide_eq_true rfl) e
      · have hc := hcs c (by rw [e1]; simp)
        have gl : (cs.map Prod.snd).getLast? = some c.2 := by rw [e1]; simp
        rw [gl] at st
        have hm4 := hm3
        rw [e1, List.concat_eq_append, List.map_append, List.map_singleton] at hm4
        refine ⟨_, rfl, _, rfl, m, _, _, c.1, rfl, rfl, SqL.of hm4, atI_end _ _, _, rfl, c.2, b.2, dp_same s3 (hb c hc), dp_same s3 (hb b mb), hsh c hc, hsh b mb, _, rfl, ite2 (fun e2 => ?_) (fun e2 => ?_)⟩
        · rw [if_neg (by intro h; have h : PyData.eqv c.2 b.2 = true := h; rw [h] at e2; cases e2)] at st
          exact ⟨_, rfl, .inl ⟨rfl, _, SqL.of hm3⟩, _, rfl, m, _, _, rfl, rfl, hm3, lt_line (by rw [List.length_map]; omega), app st⟩
        · have e3 : PyData.eqv c.2 b.2 = true := by
            cases h : PyData.eqv c.2 b.2 with
            | true => rfl
            | false => rw [h] at e2; exact absurd rfl e2
          rw [if_pos (show (some c.2).any (fun e => PyData.eqv e b.2) = true from e3)] at st
          exact ⟨_, rfl, s3, hp3, cs, hm3, hcs, Nat.le_succ_of_le lc, st.symm⟩
  · rintro σ H3 ⟨y2, rfl, s3, hp3, cs, hm3, hcs, lc, eo⟩
    have s4 : ∀ l, H3 l = none → H l = none := fun l nl => same_back s3 nl
    rw [List.length_map, List.take_length, es] at eo
    refine ⟨_, rfl, m, _, rfl, .inl ⟨SqL.of hm3, fun l nl => ?_⟩⟩
    have s5 := s3.trans (same_new (o := .tup (cs.map Prod.fst)) nl)
    refine q l _ _ s5 (s4 l nl) upd_same ?_
    rw [← eo]
    exact dpa_of Prod.snd (List.length_map ..) fun i x b hx hb0 => by
      rw [List.getElem?_map, hb0] at hx
      cases hx
      exact dp_same s5 (hb b (hcs b (List.mem_of_getElem? hb0)))


end
end Pf

namespace Pf
open PySem PySem.Spec PyProof.Rows L2
section
variable {P : Program} {w : World} {K : PySem.W.Frag} {mg : Str → Option Value} {base : Heap}
/-! ### masks that meet others: one more mask at a time -/
def subM (k j : Nat) : Prop := ∀ i, k.testBit i = true → j.testBit i = true
def metM (k j : Nat) : Prop := ∃ i, k.testBit i = true ∧ j.testBit i = true
theorem subM.refl (k : Nat) : subM k k := fun _ h => h
theorem subM.trans {a b c : Nat} (h : subM a b) (k : subM b c) : subM a c := fun i x => k i (h i x)
theorem subM.anti {a b : Nat} (h : subM a b) (k : subM b a) : a = b := Nat.eq_of_testBit_eq fun i => by
  rw [Bool.eq_iff_iff]
  exact ⟨h i, k i⟩
theorem metM.mono {a b m : Nat} (h : metM a m) (k : subM a b) : metM b m := by
  obtain ⟨i, h1, h2⟩ := h
  exact ⟨i, k i h1, h2⟩
theorem and_met {f k : Nat} : f &&& k ≠ 0 ↔ metM f k := by
  constructor
  · intro h
    refine Classical.byContradiction fun n => h (Nat.eq_of_testBit_eq fun i => ?_)
    rw [Nat.testBit_and, Nat.zero_testBit]
    cases h1 : f.testBit i with
    | false => rfl
    | true =>
      cases h2 : k.testBit i with
      | false => rfl
      | true => exact absurd ⟨i, h1, h2⟩ n
  · rintro ⟨i, h1, h2⟩ e
    have : (f &&& k).testBit i = true := by rw [Nat.testBit_and, h1, h2]; rfl
    rw [e, Nat.zero_testBit] at this
    cases this
theorem and_sub {g t : Nat} : g &&& t = t ↔ subM t g := by
  rw [Nat.and_comm]
  exact band_iff
/-- the bits of a mask below 2^n -/
def bitsM (n k : Nat) : List Nat := ((List.range n).filter k.testBit).map fun i => 2 ^ i
theorem bitsM_mem {n k b : Nat} (h : k < 2 ^ n) : b ∈ bitsM n k ↔ ∃ i, k.testBit i = true ∧ b = 2 ^ i := by
  unfold bitsM
  rw [List.mem_map]
  constructor
  · rintro ⟨i, hi, rfl⟩
    exact ⟨i, (List.mem_filter.mp hi).2, rfl⟩
  · rintro ⟨i, hi, rfl⟩
    refine ⟨i, List.mem_filter.mpr ⟨List.mem_range.mpr (Classical.byContradiction fun n => ?_), hi⟩, rfl⟩
    rw [Nat.testBit_lt_two_pow (Nat.lt_of_lt_of_le h (Nat.pow_le_pow_right (by decide) (Nat.not_lt.mp n)))] at hi
    cases hi
def mettF (F : List Nat) (k : Nat) : List Nat := F.filter fun f => decide (f &&& k ≠ 0)
def growF (n : Nat) (F : List Nat) (k : Nat) : List Nat := (F.filter fun f => !decide (f &&& k ≠ 0)).flatMap fun f => (bitsM n k).map fun b => f ||| b
def meetF (n : Nat) (F : List Nat) (k : Nat) : List Nat := mettF F k ++ (growF n F k).filter fun g => !((mettF F k).any fun t => decide (g &&& t = t))
theorem mettF_mem {F : List Nat} {k f : Nat} : f ∈ mettF F k ↔ f ∈ F ∧ metM f k := by
  unfold mettF
  rw [List.mem_filter, decide_eq_true_eq, and_met]
theorem growF_mem {n : Nat} {F : List Nat} {k g : Nat} (h : k < 2 ^ n) : g ∈ growF n F k ↔ ∃ f ∈ F, ¬ metM f k ∧ ∃ i, k.testBit i = true ∧ g = f ||| 2 ^ i := by
  unfold growF
  rw [List.mem_flatMap]
  constructor
  · rintro ⟨f, hf, hg⟩
    obtain ⟨h1, h2⟩ := List.mem_filter.mp hf
    obtain ⟨b, hb, rfl⟩ := List.mem_map.mp hg
    obtain ⟨i, hi, rfl⟩ := (bitsM_mem h).mp hb
    exact ⟨f, h1, by rw [← and_met]; simpa using h2, i, hi, rfl⟩
  · rintro ⟨f, hf, hn, i, hi, rfl⟩
    exact ⟨f, List.mem_filter.mpr ⟨hf, by rw [← and_met] at hn; simpa using hn⟩, List.mem_map.mpr ⟨2 ^ i, (bitsM_mem h).mpr ⟨i, hi, rfl⟩, rfl⟩⟩
theorem meetF_mem {n : Nat} {F : List Nat} {k g : Nat} (h : k < 2 ^ n) : g ∈ meetF n F k ↔ (g ∈ F ∧ metM g k) ∨ ((∃ f ∈ F, ¬ metM f k ∧ ∃ i, k.testBit i = true ∧ g = f ||| 2 ^ i) ∧ ∀ t ∈ F, metM t k → ¬ subM t g) := by
  unfold meetF
  rw [List.mem_append, mettF_mem, List.mem_filter, growF_mem h, Bool.not_eq_true', List.any_eq_false]
  refine or_congr_right (and_congr_right fun _ => ?_)
  constructor
  · intro a t ht hm hs
    exact a t (mettF_mem.mpr ⟨ht, hm⟩) (decide_eq_true (and_sub.mpr hs))
  · intro a t ht hs
    obtain ⟨h1, h2⟩ := mettF_mem.mp ht
    exact a t h1 h2 (and_sub.mp (of_decide_eq_true hs))
def TrM (ms : List Nat) (t : Nat) : Prop := ∀ m ∈ ms, metM t m
structure FoundM (n : Nat) (ms F : List Nat) : Prop where
  tr : ∀ f ∈ F, TrM ms f
  all : ∀ t, TrM ms t → ∃ f ∈ F, subM f t
  anti : ∀ f ∈ F, ∀ g ∈ F, subM f g → f = g
  nd : F.Nodup
  bd : ∀ f ∈ F, f < 2 ^ n
theorem FoundM.zero (n : Nat) : FoundM n [] [0] where
  tr := fun _ _ _ h => nomatch h
  all := fun t _ => ⟨0, List.mem_cons_self, fun i h => by rw [Nat.zero_testBit] at h; cases h⟩
  anti := fun f hf g hg _ => by rw [List.mem_singleton.mp hf, List.mem_singleton.mp hg]
  nd := by simp
  bd := fun f hf => by rw [List.mem_singleton.mp hf]; exact Nat.two_pow_pos n
theorem bit_or {f i j : Nat} : (f ||| 2 ^ i).testBit j = true ↔ f.testBit j = true ∨ i = j := by
  rw [Nat.testBit_or, Nat.testBit_two_pow, Bool.or_eq_true, decide_eq_true_eq]
theorem nodup_flat {α β : Type} {f : α → List β} : ∀ {l : List α}, l.Nodup → (∀ a ∈ l, (f a).Nodup) → (∀ a ∈ l, ∀ b ∈ l, ∀ x, x ∈ f a → x ∈ f b → a = b) → (l.flatMap f).Nodup
  | [], _, _, _ => List.nodup_nil
  | a :: l, nd, h1, h2 => by
    rw [List.flatMap_cons, List.nodup_append]
    rw [List.nodup_cons] at nd
    refine ⟨h1 a List.mem_cons_self, nodup_flat nd.2 (fun b hb => h1 b (List.mem_cons_of_mem _ hb)) fun b hb c hc => h2 b (List.mem_cons_of_mem _ hb) c (List.mem_cons_of_mem _ hc), fun x hx y hy e => ?_⟩
    obtain ⟨b, hb, hy⟩ := List.mem_flatMap.mp hy
    subst e
    exact nd.1 (h2 a List.mem_cons_self b (List.mem_cons_of_mem _ hb) x hx hy ▸ hb)
theorem or_same {f f' i i' k : Nat} (n : ¬ metM f k) (n' : ¬ metM f' k) (h : k.testBit i = true) (h' : k.testBit i' = true) (s : subM (f ||| 2 ^ i) (f' ||| 2 ^ i')) : i = i' ∧ subM f f' := by
  have e : i' = i := (bit_or.mp (s i (bit_or.mpr (.inr rfl)))).elim (fun c => absurd ⟨i, c, h⟩ n') id
  refine ⟨e.symm, fun j hj => ?_⟩
  rcases bit_or.mp (s j (bit_or.mpr (.inl hj))) with c | c
  · exact c
  · exact absurd ⟨j, hj, by rw [← c]; exact h'⟩ n
theorem FoundM.step {n m : Nat} {ms F : List Nat} (h : FoundM n ms F) (hm : m < 2 ^ n) : FoundM n (ms ++ [m]) (meetF n F m) := by
  refine ⟨fun g hg x hx => ?_, fun t ht => ?_, fun f hf g hg s => ?_, ?_, fun f hf => ?_⟩
  · rcases (meetF_mem hm).mp hg with ⟨h1, h2⟩ | ⟨⟨f, hf, nf, i, hi, rfl⟩, h2⟩
    · rcases List.mem_append.mp hx with hx | hx
      · exact h.tr g h1 x hx
      · rw [List.mem_singleton.mp hx]
        exact h2
    · rcases List.mem_append.mp hx with hx | hx
      · exact (h.tr f hf x hx).mono fun j hj => bit_or.mpr (.inl hj)
      · rw [List.mem_singleton.mp hx]
        exact ⟨i, bit_or.mpr (.inr rfl), hi⟩
  · obtain ⟨f, hf, s⟩ := h.all t fun x hx => ht x (List.mem_append_left _ hx)
    by_cases c : metM f m
    · exact ⟨f, (meetF_mem hm).mpr (.inl ⟨hf, c⟩), s⟩
    · obtain ⟨i, h1, h2⟩ := ht m (List.mem_append_right _ List.mem_cons_self)
      have s2 : subM (f ||| 2 ^ i) t := fun j hj => (bit_or.mp hj).elim (s j) fun e => by rw [← e]; exact h1
      by_cases d : ∃ g ∈ F, metM g m ∧ subM g (f ||| 2 ^ i)
      · obtain ⟨g, hg, mg, sg⟩ := d
        exact ⟨g, (meetF_mem hm).mpr (.inl ⟨hg, mg⟩), sg.trans s2⟩
      · exact ⟨_, (meetF_mem hm).mpr (.inr ⟨⟨f, hf, c, i, h2, rfl⟩, fun g hg mg sg => d ⟨g, hg, mg, sg⟩⟩), s2⟩
  · rcases (meetF_mem hm).mp hf with ⟨h1, h2⟩ | ⟨⟨f', hf', nf, i, hi, rfl⟩, h2⟩ <;> rcases (meetF_mem hm).mp hg with ⟨k1, k2⟩ | ⟨⟨g', hg', ng, j, hj, rfl⟩, k2⟩
    · exact h.anti f h1 g k1 s
    · exact absurd s (k2 f h1 h2)
    · have s2 : subM f' g := fun j hj => s j (bit_or.mpr (.inl hj))
      have e := h.anti f' hf' g k1 s2
      exact absurd (by rw [e]; exact k2) nf
    · obtain ⟨e1, e2⟩ := or_same nf ng hi hj s
      rw [h.anti f' hf' g' hg' e2, e1]
  · unfold meetF
    refine List.nodup_append.mpr ⟨h.nd.filter _, List.Pairwise.filter _ (?_ : (growF n F m).Nodup), fun a ha b hb e => ?_⟩
    · unfold growF
      have nm : ∀ {f}, f ∈ F.filter (fun f => !decide (f &&& m ≠ 0)) → f ∈ F ∧ ¬ metM f m := fun {f} hf => by
        obtain ⟨h1, h2⟩ := List.mem_filter.mp hf
        exact ⟨h1, by rw [← and_met]; simpa using h2⟩
      refine nodup_flat (h.nd.filter _) (fun f hf => ?_) fun f hf g hg x hx hy => ?_
      · show List.Pairwise _ _
        rw [List.pairwise_map]
        unfold bitsM
        rw [List.pairwise_map]
        have hr : ((List.range n).filter m.testBit).Nodup := List.nodup_range.filter _
        refine List.Pairwise.imp_of_mem (fun {a b} ha hb ne e => ne ?_) hr
        have n1 := (nm hf).2
        exact (or_same n1 n1 (List.mem_filter.mp ha).2 (List.mem_filter.mp hb).2 (by rw [e]; exact subM.refl _)).1
      · obtain ⟨b, hb, e1⟩ := List.mem_map.mp hx
        obtain ⟨c, hc, e2⟩ := List.mem_map.mp hy
        obtain ⟨i, hi, rfl⟩ := (bitsM_mem hm).mp hb
        obtain ⟨j, hj, rfl⟩ := (bitsM_mem hm).mp hc
        obtain ⟨h1, h2⟩ := nm hf
        obtain ⟨h3, h4⟩ := nm hg
        have e : f ||| 2 ^ i = g ||| 2 ^ j := e1.trans e2.symm
        exact (or_same h2 h4 hi hj (by rw [e]; exact subM.refl _)).2.anti (or_same h4 h2 hj hi (by rw [e]; exact subM.refl _)).2
    · subst e
      obtain ⟨h1, h2⟩ := mettF_mem.mp ha
      obtain ⟨h3, h4⟩ := List.mem_filter.mp hb
      rw [Bool.not_eq_true', List.any_eq_false] at h4
      exact h4 a (mettF_mem.mpr ⟨h1, h2⟩) (decide_eq_true (Nat.and_self a))
  · rcases (meetF_mem hm).mp hf with ⟨h1, _⟩ | ⟨⟨f', hf', nf, i, hi, rfl⟩, h2⟩
    · exact h.bd f h1
    · refine Nat.or_lt_two_pow (h.bd f' hf') (Nat.pow_lt_pow_right (by decide) (Classical.byContradiction fun c => ?_))
      rw [Nat.testBit_lt_two_pow (Nat.lt_of_lt_of_le hm (Nat.pow_le_pow_right (by decide) (Nat.not_lt.mp c)))] at hi
      cases hi
theorem FoundM.len {n : Nat} {ms F : List Nat} (h : FoundM n ms F) : F.length ≤ 2 ^ n := by
  have := nodup_le (ys := List.range (2 ^ n)) h.nd fun f hf => List.mem_range.mpr (h.bd f hf)
  rwa [List.length_range] at this


/-! ### the least sets that meet all of some sets -/
def HitsR (L : List (List Int)) (r : List Int) : Prop := ∀ xs ∈ L, ∃ x ∈ xs, x ∈ r
def TrvR (L : List (List Int)) (r : List Int) : Prop := r.Pairwise (· < ·) ∧ (∀ x ∈ r, ∃ xs ∈ L, x ∈ xs) ∧ HitsR L r ∧ ∀ o, (∀ z ∈ o, z ∈ r) → HitsR L o → ∀ z ∈ r, z ∈ o
theorem asc_nd {r : List Int} (h : r.Pairwise (· < ·)) : r.Nodup := h.imp fun k => Int.ne_of_lt k
theorem asc_short {o r : List Int} (ho : o.Pairwise (· < ·)) (hr : r.Pairwise (· < ·)) (ne : o ≠ r) (s : ∀ z ∈ o, z ∈ r) : o.length < r.length := by
  have : ∃ y ∈ r, y ∉ o := Classical.byContradiction fun n => ne (asc_eq ho hr fun z => ⟨s z, fun hz => Classical.byContradiction fun m => n ⟨z, hz, m⟩⟩)
  obtain ⟨y, h1, h2⟩ := this
  have := nodup_le (xs := y :: o) (ys := r) (List.nodup_cons.mpr ⟨h2, asc_nd ho⟩) fun z hz => (List.mem_cons.mp hz).elim (fun e => e ▸ h1) (s z)
  exact this
theorem min_ex {L : List (List Int)} : ∀ (n : Nat) (r : List Int), RsR L r → r.length ≤ n → ∃ m, MinR L m ∧ ∀ z ∈ m, z ∈ r
  | n, r, h, l => by
    by_cases c : MinR L r
    · exact ⟨r, c, fun _ h => h⟩
    · have : ∃ o, RsR L o ∧ o ≠ r ∧ ∀ z ∈ o, z ∈ r := Classical.byContradiction fun k => c ⟨h, fun o ho ne hs => k ⟨o, ho, ne, hs⟩⟩
      obtain ⟨o, ho, ne, hs⟩ := this
      have lt := asc_short ho.asc h.asc ne hs
      cases n with
      | zero => omega
      | succ n =>
        obtain ⟨m, h1, h2⟩ := min_ex n o ho (by omega)
        exact ⟨m, h1, fun z hz => hs z (h2 z hz)⟩
theorem hits_min {L S : List (List Int)} (hS : ∀ r, r ∈ S ↔ MinR L r) (r : List Int) : HitsR S r ↔ HitsR L r := by
  constructor
  · intro h xs hx
    have hr : RsR L (onI xs) := ⟨xs, hx, onI_asc xs, onI_mem xs⟩
    obtain ⟨m, h1, h2⟩ := min_ex _ _ hr (Nat.le_refl _)
    obtain ⟨x, h3, h4⟩ := h m ((hS m).mpr h1)
    exact ⟨x, (onI_mem xs x).mp (h2 x h3), h4⟩
  · intro h s hs
    obtain ⟨⟨xs, hx, _, hm⟩, _⟩ := (hS s).mp hs
    obtain ⟨x, h1, h2⟩ := h xs hx
    exact ⟨x, (hm x).mpr h1, h2⟩
theorem IsM.own {ns : List Int} (nd : ns.Nodup) {f : Nat} (h : f < 2 ^ ns.length) : IsM ns (rowM ns f) f := fun i => by
  constructor
  · intro hi
    have li : i < ns.length := Classical.byContradiction fun n => by
      rw [Nat.testBit_lt_two_pow (Nat.lt_of_lt_of_le h (Nat.pow_le_pow_right (by decide) (Nat.not_lt.mp n)))] at hi
      cases hi
    exact ⟨ns[i], rowM_mem.mpr ⟨i, List.getElem?_eq_getElem li, hi⟩, List.getElem?_eq_getElem li⟩
  · rintro ⟨x, hx, e⟩
    obtain ⟨j, h1, h2⟩ := rowM_mem.mp hx
    rw [(List.getElem?_inj (List.getElem?_eq_some_iff.mp e).1 nd).mp (e.trans h1.symm)]
    exact h2
theorem IsM.met {ns xs r : List Int} {f k : Nat} (hx : IsM ns xs k) (hr : IsM ns r f) (sx : ∀ x ∈ xs, x ∈ ns) : metM f k ↔ ∃ x ∈ xs, x ∈ r := by
  constructor
  · rintro ⟨i, h1, h2⟩
    obtain ⟨x, a, b⟩ := (hx i).mp h2
    obtain ⟨y, c, d⟩ := (hr i).mp h1
    rw [b] at d
    cases d
    exact ⟨x, a, c⟩
  · rintro ⟨x, h1, h2⟩
    obtain ⟨i, hi⟩ := List.getElem?_of_mem (sx x h1)
    exact ⟨i, (hr i).mpr ⟨x, h2, hi⟩, (hx i).mpr ⟨x, h1, hi⟩⟩
theorem MksAt.tr {S : List (List Int)} {ns r : List Int} {ks : List Nat} {f : Nat} (M : MksAt S ns ks) (hr : IsM ns r f) : TrM ks f ↔ HitsR S r := by
  constructor
  · intro h xs hx
    obtain ⟨k, hk⟩ := mask_ex M.nn xs (M.sub xs hx)
    exact (hk.met hr (M.sub xs hx)).mp (h k ((M.mem k).mpr ⟨xs, hx, hk⟩))
  · intro h k hk
    obtain ⟨xs, hx, hm⟩ := (M.mem k).mp hk
    exact (hm.met hr (M.sub xs hx)).mpr (h xs hx)
theorem found_rows {L S : List (List Int)} {ns : List Int} {ks F : List Nat} (hns : ∀ z, z ∈ ns ↔ ∃ xs ∈ L, z ∈ xs) (hS : ∀ r, r ∈ S ↔ MinR L r) (M : MksAt S ns ks) (Fd : FoundM ns.length ks F) (r : List Int) : (∃ f ∈ F, r = rowM ns f) ↔ TrvR L r := by
  constructor
  · rintro ⟨f, hf, rfl⟩
    have own := IsM.own M.nn (Fd.bd f hf)
    refine ⟨rowM_asc M.asc f, fun x hx => ?_, (hits_min hS _).mp ((M.tr own).mp (Fd.tr f hf)), fun o so ho z hz => ?_⟩
    · obtain ⟨i, h1, _⟩ := rowM_mem.mp hx
      exact (hns x).mp (List.mem_of_getElem? h1)
    · have on : ∀ x ∈ o, x ∈ ns := fun x hx => by
        obtain ⟨i, h1, _⟩ := rowM_mem.mp (so x hx)
        exact List.mem_of_getElem? h1
      obtain ⟨k, hk⟩ := mask_ex M.nn o on
      obtain ⟨g, hg, sg⟩ := Fd.all k ((M.tr hk).mpr ((hits_min hS _).mpr ho))
      have sk : subM k f := (hk.part own on).mpr so
      have e := Fd.anti g hg f hf (sg.trans sk)
      rw [e] at sg
      exact (own.part hk fun x hx => by
        obtain ⟨i, h1, _⟩ := rowM_mem.mp hx
        exact List.mem_of_getElem? h1).mp sg z hz
  · rintro ⟨ha, hs, hh, hm⟩
    have rn : ∀ x ∈ r, x ∈ ns := fun x hx => (hns x).mpr (hs x hx)
    obtain ⟨k, hk⟩ := mask_ex M.nn r rn
    obtain ⟨f, hf, sf⟩ := Fd.all k ((M.tr hk).mpr ((hits_min hS _).mpr hh))
    have own := IsM.own M.nn (Fd.bd f hf)
    have fn : ∀ x ∈ rowM ns f, x ∈ ns := fun x hx => by
      obtain ⟨i, h1, _⟩ := rowM_mem.mp hx
      exact List.mem_of_getElem? h1
    have so := (own.part hk fn).mp sf
    have back := hm _ so ((hits_min hS _).mp ((M.tr own).mp (Fd.tr f hf)))
    exact ⟨f, hf, asc_eq ha (rowM_asc M.asc f) fun z => ⟨back z, so z⟩⟩
theorem found_nd {ns : List Int} {ks F : List Nat} (nn : ns.Nodup) (Fd : FoundM ns.length ks F) : (F.map (rowM ns)).Nodup := by
  show List.Pairwise _ _
  rw [List.pairwise_map]
  refine List.Pairwise.imp_of_mem (fun {a b} ha hb n e => n ?_) Fd.nd
  have h1 := IsM.own nn (Fd.bd a ha)
  have h2 := IsM.own nn (Fd.bd b hb)
  rw [e] at h1
  exact h1.eq h2



end
end Pf

namespace Pf
open PySem PySem.Spec PyProof.Rows L2
section
variable {P : Program} {w : World} {K : PySem.W.Frag} {mg : Str → Option Value} {base : Heap}
theorem bits_lt (k : Nat) : k < 2 ^ Builtin.Int.intBits (k : Int) := by
  unfold Builtin.Int.intBits
  by_cases h : k = 0
  · subst h
    decide
  · rw [if_neg (by simpa using h)]
    exact Nat.lt_log2_self
theorem bitsM_up {k b n : Nat} (h : k < 2 ^ b) (l : b ≤ n) : bitsM n k = bitsM b k := by
  obtain ⟨d, rfl⟩ := Nat.exists_eq_add_of_le l
  unfold bitsM
  rw [List.range_add, List.filter_append]
  have : ((List.range d).map (b + ·)).filter k.testBit = [] := by
    rw [List.filter_eq_nil_iff]
    intro i hi
    obtain ⟨j, _, rfl⟩ := List.mem_map.mp hi
    rw [Nat.testBit_lt_two_pow (Nat.lt_of_lt_of_le h (Nat.pow_le_pow_right (by decide) (Nat.le_add_right b j)))]
    decide
  rw [this, List.append_nil]
theorem pow_int (i : Nat) : (1 : Int) * 2 ^ (i : Int).toNat = ((2 ^ i : Nat) : Int) := by
  rw [Int.one_mul, Int.toNat_natCast, Int.natCast_pow]
  rfl
def sp_bits_of (K : PySem.W.Frag) : Sp := fun us H Q _ => ∃ (k n : Nat), us = [.int (k : Int)] ∧ k < 2 ^ n ∧ n ≤ 20 ∧ ∀ (p : Addr) (H' : Hp), Same H H' → H p = none → H' p = some (.lst ((bitsM n k).map fun b : Nat => V.int b)) → Q (.ref p) H'
theorem ok_bits_of (T : Txt K mg) : Has P w K mg base 1 "bits_of" ["mask"] (sp_bits_of K) := by
  obtain ⟨f, fd, F, m, b⟩ := T.d_bits_of.ex
  refine ⟨f, fd, F.ok sc_bits_of (fun vs H Q E h => ?_) (fun cdv A outer s H vs Q E hr h => ?_), m, F.kp, b⟩
  · obtain ⟨k, n, rfl, hk, ln, q⟩ := h
    rfl
  obtain ⟨k, n, rfl, hk, ln, q⟩ := h
  refine ⟨_, (pss_one (ps_ret (pe_lc (own := [("index", 1)]) (g := gName 1) (by rfl) sc_bits_of.nd (pi_range1 (by rfl) T.z_range (pa_cons (pe_bits (pv 0)) pa_nil)) (blkOk_by (own := [("index", 1)]) (N := ["mask", "index"]) (sc := defScope s_bits_of) (by decide +kernel)) (fun _ _ _ _ _ => pg_name (i := 1) sc_bits_of.nd rfl (Or.inl rfl)) (fun _ _ _ _ _ => pts_one (pt_truthK (K := K) rfl (pe_op op_and (pe_op op_shr (pv 0) (pv 1)) pe_int) (by intro _; rfl))) (fun _ _ _ _ _ => (pe_op op_shlW pe_int (pv 1)))))), ?_⟩
  have lb : Builtin.Int.intBits (k : Int) ≤ n := PyProof.Rows.intBits_le hk
  have eb := bitsM_up (bits_lt k) lb
  have b1 : (Builtin.Int.intBits 1 : Int) = 1 := by decide
  refine ⟨_, rfl, _, rfl, _, rfl, by omega, by omega, fun D nD => ?_⟩
  show Exists _
  refine two_out (walk_range (lo := 0)) (fun i H' => Same H H' ∧ H' D = some (.lst ((((List.range i).filter k.testBit).map fun i => 2 ^ i).map fun b : Nat => V.int b))) ⟨same_new nD, upd_same⟩ (fun _ _ _ _ => trivial) ?_ ?_
  · rintro i x H1 H2 hi ⟨s1, hD⟩ ⟨rfl, hx⟩
    have hx : x = V.int (0 + (i : Int)) := hx
    rw [Int.zero_add] at hx
    subst hx
    rw [Int.toNat_natCast] at hi
    have ln2 := List.length_filter_le k.testBit (List.range i)
    rw [List.length_range] at ln2
    refine ⟨rfl, _, rfl, _, rfl, _, _, rfl, rfl, Int.natCast_nonneg _, _, _, rfl, rfl, _, rfl, ite2 (fun e => ?_) (fun e => ?_)⟩
    · rw [bit_at] at e
      refine ⟨_, rfl, _, _, rfl, rfl, ⟨by omega, by rw [b1]; omega⟩, _, hD, lt_line (by rw [List.length_map, List.length_map]; omega), same_mut s1 nD, ?_⟩
      rw [List.range_succ, List.filter_append, List.filter_cons_of_pos (by exact e), List.map_append, List.map_append]
      show upd H2 D (.lst (_ ++ [V.int (1 * 2 ^ (i : Int).toNat)])) D = _
      rw [pow_int]
      exact upd_same
    · rw [bit_at] at e
      refine ⟨s1, ?_⟩
      rw [List.range_succ, List.filter_append, List.filter_cons_of_neg (by exact e), List.filter_nil, List.append_nil]
      exact hD
  · rintro H1 ⟨s1, hD⟩
    refine q D H1 s1 nD ?_
    rw [eb]
    exact hD


end
end Pf

namespace Pf
open PySem PySem.Spec PyProof.Rows L2
section
variable {P : Program} {w : World} {K : PySem.W.Frag} {mg : Str → Option Value} {base : Heap}
theorem and_tru (f k : Nat) : (Builtin.bitAnd (f : Int) (k : Int) != 0) = decide (f &&& k ≠ 0) := by
  rw [band_nat, Bool.eq_iff_iff, bne_iff_ne, decide_eq_true_eq]
  omega
theorem flat_len {α β : Type} {f : α → List β} {c : Nat} : ∀ (l : List α), (∀ a ∈ l, (f a).length ≤ c) → (l.flatMap f).length ≤ l.length * c
  | [], _ => Nat.zero_le _
  | a :: l, h => by
    rw [List.flatMap_cons, List.length_append, List.length_cons, Nat.succ_mul, Nat.add_comm]
    exact Nat.add_le_add (flat_len l fun b hb => h b (List.mem_cons_of_mem _ hb)) (h a List.mem_cons_self)
theorem bitsM_len (n k : Nat) : (bitsM n k).length ≤ n := by
  unfold bitsM
  rw [List.length_map]
  refine Nat.le_trans (List.length_filter_le _ _) ?_
  rw [List.length_range]
  exact Nat.le_refl _
theorem growF_len (n : Nat) (F : List Nat) (k : Nat) : (growF n F k).length ≤ F.length * n := by
  unfold growF
  refine Nat.le_trans (flat_len _ fun f _ => by rw [List.length_map]; exact bitsM_len n k) ?_
  exact Nat.mul_le_mul_right n (List.length_filter_le _ _)
theorem growF_snoc (n : Nat) (F : List Nat) (k f : Nat) : growF n (F ++ [f]) k = growF n F k ++ (if f &&& k ≠ 0 then [] else (bitsM n k).map fun b => f ||| b) := by
  unfold growF
  rw [List.filter_append, List.flatMap_append]
  congr 1
  by_cases e : f &&& k ≠ 0
  · rw [if_pos e, List.filter_cons_of_neg (by simpa using e)]
    rfl
  · rw [if_neg e, List.filter_cons_of_pos (by simpa using e)]
    simp
theorem mettF_snoc (F : List Nat) (k f : Nat) : mettF (F ++ [f]) k = mettF F k ++ (if f &&& k ≠ 0 then [f] else []) := by
  unfold mettF
  rw [List.filter_append]
  congr 1
  by_cases e : f &&& k ≠ 0
  · rw [if_pos e, List.filter_cons_of_pos (by simpa using e)]
    rfl
  · rw [if_neg e, List.filter_cons_of_neg (by simpa using e)]
    rfl
theorem mettF_len (F : List Nat) (k : Nat) : (mettF F k).length ≤ F.length := List.length_filter_le _ _
def sp_meeting (K : PySem.W.Frag) : Sp := fun us H Q _ => ∃ (a : Addr) (F : List Nat) (k n : Nat), us = [.ref a, .int (k : Int)] ∧ H a = some (.lst (F.map fun f : Nat => V.int f)) ∧ k < 2 ^ n ∧ n ≤ 12 ∧ F.length ≤ 4096 ∧
  ∀ (p : Addr) (H' : Hp), Same H H' → H p = none → H' p = some (.lst ((meetF n F k).map fun f : Nat => V.int f)) → Q (.ref p) H'
theorem ok_meeting (T : Txt K mg) : Has P w K mg base 2 "meeting" ["found", "mask"] (sp_meeting K) := by
  obtain ⟨f, fd, F, m, b⟩ := T.d_meeting.ex
  obtain ⟨f_bits_of, fd_bits_of, G_bits_of, m_bits_of, k_bits_of, b_bits_of⟩ := ok_bits_of (P := P) (w := w) (base := base) T
  refine ⟨f, fd, F.ok sc_meeting (fun vs H Q E h => ?_) (fun cdv A outer s H vs Q E hr h => ?_), m, F.kp, b⟩
  · obtain ⟨a, F, k, n, rfl, ha, hk, l12, lF, q⟩ := h
    rfl
  obtain ⟨a, F, k, n, rfl, ha, hk, l12, lF, q⟩ := h
  refine ⟨_, (pss_cons (ps_set (i := 2) sc_meeting.nd rfl (.inr rfl) (pe_lc (own := [("one", 4)]) (g := gName 4) (by rfl) sc_meeting.nd (pi_list (pv 0)) (blkOk_by (own := [("one", 4)]) (N := ["found", "mask", "met", "grown", "one", "bit", "other"]) (sc := defScope s_meeting) (by decide +kernel)) (fun _ _ _ _ _ => pg_name (i := 4) sc_meeting.nd rfl (Or.inl rfl)) (fun _ _ _ _ _ => pts_one (pt_truthK (K := K) rfl (pe_op op_and (pv 4) (pv 1)) (by intro _; rfl))) (fun _ _ _ _ _ => (pv 4))))
      (pss_cons (ps_setLc2 (i := 3) (own := [("one", 4), ("bit", 5)]) (vs1 := [5]) (g := gName 4) (g1 := gName 5) (by rfl) sc_meeting.nd rfl rfl (sw_true rfl rfl rfl (by decide +kernel)) (pi_list (pv 0)) (blkOk_by (own := [("one", 4), ("bit", 5)]) (N := ["found", "mask", "met", "grown", "one", "bit", "other"]) (sc := defScope s_meeting) (by decide +kernel)) (by decide) (fun _ _ _ _ _ => (pg_name (i := 4) sc_meeting.nd rfl (.inl rfl))) (fun _ _ _ _ _ => pts_one (pt_not (pt_truthK (K := K) rfl (pe_op op_and (pv 4) (pv 1)) (by intro _; rfl)))) (fun _ _ _ _ _ => (pi_listK (K := K) rfl (pe_call G_bits_of (hr.mono (by decide)) (by rfl) m_bits_of k_bits_of b_bits_of .nil pass0 (pa_cons (pv 1) pa_nil)))) (fun _ _ _ _ _ => (pg_name (i := 5) sc_meeting.nd rfl (.inl rfl))) (fun _ _ _ _ _ => pts_nil) (fun _ _ _ _ _ => (pe_op op_or (pv 4) (pv 5))))
      (pss_one (ps_ret (pe_op op_cat (pv 2) (pe_lc (own := [("one", 4)]) (g := gName 4) (by rfl) sc_meeting.nd (pi_list (pv 3)) (blkOk_by (own := [("one", 4)]) (N := ["found", "mask", "met", "grown", "one", "bit", "other"]) (sc := defScope s_meeting) (by decide +kernel)) (fun _ _ _ _ _ => pg_name (i := 4) sc_meeting.nd rfl (Or.inr rfl)) (fun _ _ _ _ _ => pts_one (pt_not (pt_val (pe_callB (cr_anyK (K := K) rfl rfl) (by rfl) T.z_any (by decide +kernel) (pa_cons (pe_lc (own := [("other", 6)]) (g := gName 6) (by rfl) sc_meeting.nd (pi_listK (K := K) rfl (pv 2)) (blkOk_in (own := [("other", 6)]) (N := ["found", "mask", "met", "grown", "one", "bit", "other"]) (by decide +kernel)) (fun _ _ _ _ _ => pg_name (i := 6) sc_meeting.nd rfl (Or.inl rfl)) (fun _ _ _ _ _ => pts_nil) (fun _ _ _ _ _ => (pe_cmpR op_eq (pe_op op_and (pv 4) (pv 6)) (pv 6) (nomark _)))) pa_nil))))) (fun _ _ _ _ _ => (pv 4)))))))), ?_⟩
  refine ⟨_, rfl, a, rfl, ⟨_, SqL.of ha⟩, fun D nD => ?_⟩
  show Exists _
  refine two_out (walk_list (xs := F.map fun f : Nat => V.int f)) (fun i H' => Same H H' ∧ H' D = some (.lst ((mettF (F.take i) k).map fun f : Nat => V.int f))) ⟨same_new nD, upd_same⟩ (fun i H' _ h' => h'.1.seq (SqL.of ha)) ?_ ?_
  · rintro i x H1 H2 hi ⟨s1, hD⟩ ⟨rfl, hx⟩
    rw [List.getElem?_map] at hx
    obtain ⟨f, hf, rfl⟩ := Option.map_eq_some_iff.mp hx
    have st := mettF_snoc (F.take i) k f
    rw [← take_succ_at hf] at st
    have l1 := mettF_len (F.take i) k
    rw [List.length_take] at l1
    refine ⟨rfl, _, rfl, _, rfl, _, _, rfl, rfl, _, rfl, ite2 (fun e => ?_) (fun e => ?_)⟩
    · rw [and_tru] at e
      rw [if_pos (of_decide_eq_true e)] at st
      refine ⟨_, rfl, _, hD, lt_line (by rw [List.length_map]; omega), same_mut s1 nD, ?_⟩
      rw [st, List.map_append]
      exact upd_same
    · rw [and_tru] at e
      rw [if_neg (fun c => e (decide_eq_true c)), List.append_nil] at st
      refine ⟨s1, ?_⟩
      rw [st]
      exact hD
  rintro H1 ⟨s1, hD⟩
  rw [List.length_map, List.take_length] at hD
  refine ⟨_, rfl, a, rfl, ⟨_, SqL.of (s1 _ _ ha)⟩, fun D2 nD2 => ?_⟩
  show Exists _
  refine two_out (walk_list (xs := F.map fun f : Nat => V.int f)) (fun i H' => Same H1 H' ∧ H' D2 = some (.lst ((growF n (F.take i) k).map fun f : Nat => V.int f))) ⟨same_new nD2, upd_same⟩ (fun i H' _ h' => h'.1.seq (SqL.of (s1 _ _ ha))) ?_ ?_
  · rintro i x H2 H3 hi ⟨s2, hD2⟩ ⟨rfl, hx⟩
    rw [List.getElem?_map] at hx
    obtain ⟨f, hf, rfl⟩ := Option.map_eq_some_iff.mp hx
    have st := growF_snoc n (F.take i) k f
    rw [← take_succ_at hf] at st
    have l1 := growF_len n (F.take i) k
    have l2 : (F.take i).length * n ≤ 4096 * 12 := Nat.mul_le_mul (Nat.le_trans (List.length_take_le _ _) (by rw [List.length_map] at hi; omega)) l12
    have l3 := bitsM_len n k
    refine ⟨rfl, _, rfl, _, rfl, _, _, rfl, rfl, _, rfl, ite2 (fun e => ?_) (fun e => ?_)⟩
    · rw [and_tru] at e
      rw [if_neg (fun c => by rw [decide_eq_true c] at e; cases e)] at st
      refine ⟨_, rfl, k, n, rfl, hk, by omega, fun p H4 s4 np hp => ⟨p, rfl, ⟨_, SqL.of hp⟩, ?_⟩⟩
      have p3 : H3 D2 = some _ := hD2
      show Exists _
      refine two_out (walk_list (xs := (bitsM n k).map fun b : Nat => V.int b)) (fun j H' => Same H1 H' ∧ H' p = some (.lst ((bitsM n k).map fun b : Nat => V.int b)) ∧ H' D2 = some (.lst ((growF n (F.take i) k ++ ((bitsM n k).take j).map fun b => f ||| b).map fun f : Nat => V.int f))) ⟨s2.trans s4, hp, ?_⟩ (fun j H' _ h' => SqL.of h'.2.1) ?_ ?_
      · rw [List.take_zero, List.map_nil, List.append_nil]
        exact s4 _ _ hD2
      · rintro j x H5 H6 hj ⟨s5, hp5, hD5⟩ ⟨rfl, hx⟩
        rw [List.getElem?_map] at hx
        obtain ⟨b, hb, rfl⟩ := Option.map_eq_some_iff.mp hx
        rw [List.length_map] at hj
        have pD : p ≠ D2 := fun z => by rw [z, hD2] at np; cases np
        refine ⟨rfl, _, rfl, _, rfl, _, _, rfl, rfl, _, hD5, lt_line (by rw [List.length_map, List.length_append, List.length_map, List.length_take]; omega), same_mut s5 nD2, (upd_ne pD).trans hp5, ?_⟩
        have ee : growF n (F.take i) k ++ ((bitsM n k).take (j + 1)).map (fun b => f ||| b) = (growF n (F.take i) k ++ ((bitsM n k).take j).map fun b => f ||| b) ++ [f ||| b] := by
          rw [take_succ_at hb, List.map_append, List.append_assoc]
          rfl
        rw [ee]
        show upd H6 D2 (.lst (_ ++ [V.int (Builtin.bitOr (f : Int) (b : Int))])) D2 = _
        rw [bor_nat]
        refine upd_same.trans ?_
        simp only [List.map_append]
        rfl
      · rintro H5 ⟨s5, hp5, hD5⟩
        rw [List.length_map, List.take_length] at hD5
        refine ⟨s5, ?_⟩
        rw [st]
        exact hD5
    · rw [and_tru] at e
      have e2 : f &&& k ≠ 0 := Classical.byContradiction fun c => e (by rw [decide_eq_false c]; rfl)
      rw [if_pos e2, List.append_nil] at st
      refine ⟨s2, ?_⟩
      rw [st]
      exact hD2
  rintro H2 ⟨s2, hD2⟩
  rw [List.length_map, List.take_length] at hD2
  have l1 := growF_len n F k
  have l2 : F.length * n ≤ 4096 * 12 := Nat.mul_le_mul lF l12
  have l3 := mettF_len F k
  have hm := s2 _ _ hD
  refine ⟨_, rfl, _, rfl, D2, rfl, ⟨_, SqL.of hD2⟩, fun D3 nD3 => ?_⟩
  show Exists _
  refine two_out (walk_list (xs := (growF n F k).map fun f : Nat => V.int f)) (fun i H' => Same H2 H' ∧ H' D3 = some (.lst ((((growF n F k).take i).filter fun g => !((mettF F k).any fun t => decide (g &&& t = t))).map fun f : Nat => V.int f))) ⟨same_new nD3, upd_same⟩ (fun i H' _ h' => h'.1.seq (SqL.of hD2)) ?_ ?_
  · rintro i x H3 H4 hi ⟨s3, hD3⟩ ⟨rfl, hx⟩
    rw [List.getElem?_map] at hx
    obtain ⟨g, hg, rfl⟩ := Option.map_eq_some_iff.mp hx
    rw [List.length_map] at hi
    refine ⟨rfl, _, rfl, D, rfl, ⟨_, SqL.of (s3 _ _ hm)⟩, fun E nE => ?_⟩
    show Exists _
    refine two_out (walk_list (xs := (mettF F k).map fun f : Nat => V.int f)) (fun j H' => Same H4 H' ∧ H' E = some (.lst ((((mettF F k).take j).map fun t => decide (g &&& t = t)).map V.bl))) ⟨same_new nE, upd_same⟩ (fun j H' _ h' => h'.1.seq (SqL.of (s3 _ _ hm))) ?_ ?_
    · rintro j x H5 H6 hj ⟨s5, hE⟩ ⟨rfl, hx⟩
      rw [List.getElem?_map] at hx
      obtain ⟨t, ht, rfl⟩ := Option.map_eq_some_iff.mp hx
      rw [List.length_map] at hj
      refine ⟨rfl, _, rfl, _, rfl, _, _, rfl, rfl, _, rfl, rfl, _, hE, lt_line (by rw [List.length_map, List.length_map, List.length_take]; omega), same_mut s5 nE, ?_⟩
      rw [take_succ_at ht, List.map_append, List.map_append]
      show upd H6 E (.lst (_ ++ [V.bl (decide (V.int (Builtin.bitAnd (g : Int) (t : Int)) = V.int (t : Int)))])) E = some (.lst (_ ++ [V.bl (decide (g &&& t = t))]))
      rw [band_nat, show decide (V.int ((g &&& t : Nat) : Int) = V.int (t : Int)) = decide (g &&& t = t) from by
        rw [Bool.eq_iff_iff, decide_eq_true_iff, decide_eq_true_iff]
        exact ⟨fun h => Int.ofNat.inj (V.int.inj h), fun h => congrArg (fun n : Nat => V.int n) h⟩]
      exact upd_same
    · rintro H5 ⟨s5, hE⟩
      rw [List.length_map, List.take_length] at hE
      have ea : ((mettF F k).map fun t => decide (g &&& t = t)).any id = (mettF F k).any fun t => decide (g &&& t = t) := by rw [List.any_map]; rfl
      have ln := List.length_filter_le (fun g => !((mettF F k).any fun t => decide (g &&& t = t))) ((growF n F k).take i)
      rw [List.length_take] at ln
      refine ⟨E, _, rfl, SqL.of hE, _, rfl, ite2 (fun e => ?_) (fun e => ?_)⟩
      · rw [ea] at e
        refine ⟨_, rfl, _, s5 _ _ hD3, lt_line (by rw [List.length_map]; omega), same_mut (s3.trans s5) nD3, ?_⟩
        rw [take_succ_at hg, List.filter_append, List.filter_cons_of_pos (by exact e), List.map_append]
        exact upd_same
      · rw [ea] at e
        refine ⟨s3.trans s5, ?_⟩
        rw [take_succ_at hg, List.filter_append, List.filter_cons_of_neg (by exact e), List.filter_nil, List.append_nil]
        exact s5 _ _ hD3
  rintro H3 ⟨s3, hD3⟩
  rw [List.length_map, List.take_length] at hD3
  have ln := List.length_filter_le (fun g => !((mettF F k).any fun t => decide (g &&& t = t))) (growF n F k)
  refine ⟨D, D3, _, _, rfl, rfl, s3 _ _ hm, hD3, line_small (by rw [List.length_map, List.length_map]; omega), fun p np => ?_⟩
  have s4 := (s1.trans s2).trans s3
  refine q p _ (s4.trans (same_new np)) (same_back s4 np) ?_
  unfold meetF
  rw [List.map_append]
  exact upd_same


end
end Pf

namespace Pf
open PySem PySem.Spec PyProof.Rows L2
section
variable {P : Program} {w : World} {K : PySem.W.Frag} {mg : Str → Option Value} {base : Heap}
def sp_transversals (K : PySem.W.Frag) : Sp := fun us H Q _ => ∃ (t : Addr) (vs : List V) (L : List (List Int)) (ms : List Int), us = [.ref t] ∧ SetsAt K H t vs L ∧ (∀ xs ∈ L, ∀ x ∈ xs, x ∈ ms) ∧ ms.length ≤ 12 ∧ L.length ≤ 1000 ∧
  ∀ (p : Addr) (ws : List V) (S : List (List Int)) (H' : Hp), Same H H' → H p = none → H' p = some (.tup ws) → All2 (RowT K H') ws S → S.Pairwise rlL → (∀ r, r ∈ S ↔ TrvR L r) → Q (.ref p) H'
theorem two_le {a b : Nat} (h : a ≤ b) : 2 ^ a ≤ 2 ^ b := Nat.pow_le_pow_right (by decide) h
theorem IsM.lt {ns xs : List Int} {k : Nat} (h : IsM ns xs k) : k < 2 ^ ns.length := Nat.lt_pow_two_of_testBit _ fun i hi => by
  cases e : k.testBit i with
  | false => rfl
  | true =>
    obtain ⟨x, _, hx⟩ := (h i).mp e
    have := (List.getElem?_eq_some_iff.mp hx).1
    omega
theorem minR_len {L S : List (List Int)} (hp : S.Pairwise rlL) (hS : ∀ r, r ∈ S ↔ MinR L r) : S.length ≤ L.length := by
  have := nodup_le (ys := L.map onI) (rl_nd hp) fun r hr => by
    obtain ⟨⟨xs, hx, ha, hm⟩, _⟩ := (hS r).mp hr
    exact List.mem_map.mpr ⟨xs, hx, asc_eq (onI_asc xs) ha fun z => (onI_mem xs z).trans (hm z).symm⟩
  rwa [List.length_map] at this
theorem ok_transversals (T : Txt K mg) : Has P w K mg base 4 "transversals" ["sets"] (sp_transversals K) := by
  obtain ⟨f, fd, F, m, b⟩ := T.d_transversals.ex
  obtain ⟨f_members_of, fd_members_of, G_members_of, m_members_of, k_members_of, b_members_of⟩ := ok_members_of (P := P) (w := w) (base := base) T
  obtain ⟨f_distinct_masks, fd_distinct_masks, G_distinct_masks, m_distinct_masks, k_distinct_masks, b_distinct_masks⟩ := ok_distinct_masks (P := P) (w := w) (base := base) T
  obtain ⟨f_minimal, fd_minimal, G_minimal, m_minimal, k_minimal, b_minimal⟩ := ok_minimal (P := P) (w := w) (base := base) T
  obtain ⟨f_meeting, fd_meeting, G_meeting, m_meeting, k_meeting, b_meeting⟩ := ok_meeting (P := P) (w := w) (base := base) T
  obtain ⟨f_listed, fd_listed, G_listed, m_listed, k_listed, b_listed⟩ := ok_listed (P := P) (w := w) (base := base) T
  refine ⟨f, fd, F.ok sc_transversals (fun vs H Q E h => ?_) (fun cdv A outer s H vs Q E hr h => ?_), m, F.kp, b⟩
  · obtain ⟨t, vs, L, ms, rfl, hS, hm, l12, l200, q⟩ := h
    rfl
  obtain ⟨t, vs, L, ms, rfl, hS, hm, l12, l200, q⟩ := h
  refine ⟨_, (pss_cons (ps_set (i := 1) sc_transversals.nd rfl (.inl rfl) (pe_call G_members_of (hr.mono (by decide)) (by rfl) m_members_of k_members_of b_members_of .nil pass0 (pa_cons (pv 0) pa_nil)))
      (pss_cons (ps_set (i := 2) sc_transversals.nd rfl (.inl rfl) (pe_lst (pa_cons pe_int pa_nil)))
      (pss_cons (ps_for PassesOwn.never rfl (pi_list (pe_call G_distinct_masks (hr.mono (by decide)) (by rfl) m_distinct_masks k_distinct_masks b_distinct_masks .nil pass0 (pa_cons (pe_call G_minimal (hr.mono (by decide)) (by rfl) m_minimal k_minimal b_minimal .nil pass0 (pa_cons (pv 0) pa_nil)) (pa_cons (pv 1) pa_nil)))) (pg_name (i := 3) sc_transversals.nd rfl (.inl rfl))
      (pss_one (ps_set (i := 2) sc_transversals.nd rfl (.inl rfl) (pe_call G_meeting (hr.mono (by decide)) (by rfl) m_meeting k_meeting b_meeting .nil pass0 (pa_cons (pv 2) (pa_cons (pv 3) pa_nil))))))
      (pss_one (ps_ret (pe_call G_listed (hr.mono (by decide)) (by rfl) m_listed k_listed b_listed .nil pass0 (pa_cons (pv 2) (pa_cons (pv 1) pa_nil)))))))), ?_⟩
  refine ⟨_, rfl, t, vs, L, ms, rfl, hS, hm, by omega, fun p ns H1 s1 np hp asc hns => ?_⟩
  have nn : ns.Nodup := asc_nd asc
  have n12 : ns.length ≤ 12 := Nat.le_trans (nodup_le nn fun x hx => by
    obtain ⟨xs, h1, h2⟩ := (hns x).mp hx
    exact hm xs h1 x h2) l12
  refine ⟨by show 1 ≤ sizeLine; decide, fun fa nfa => ?_⟩
  have hfa := upd_same (H := H1) (a := fa) (o := .lst [.int 0])
  have s2 := s1.trans (same_new (o := .lst [.int 0]) nfa)
  have hp2 := same_new (o := .lst [.int 0]) nfa _ _ hp
  have nfa0 := same_back s1 nfa
  generalize upd H1 fa (.lst [.int 0]) = H2 at hfa s2 hp2 ⊢
  refine ⟨_, rfl, t, vs, L, ms, rfl, hS.same s2, hm, by omega, l200, fun a ws S H3 s3 na ha hw hlt hmin => ?_⟩
  have s03 := s2.trans s3
  have lS := minR_len hlt hmin
  have sub : ∀ xs ∈ S, ∀ x ∈ xs, x ∈ ns := fun r hr x hx => by
    obtain ⟨⟨xs, h1, _, h2⟩, _⟩ := (hmin r).mp hr
    exact (hns x).mpr ⟨xs, h1, (h2 x).mp hx⟩
  refine ⟨_, rfl, a, p, ws, S, ns, rfl, ⟨.inr (SqT.of ha), hw.imp fun v xs ⟨b, e, k⟩ => ⟨b, e, .inr k⟩⟩, s3 _ _ hp2, nn, by omega, sub, by omega, fun m ks H4 s4 nm hm4 nk hk => ?_⟩
  have M : MksAt S ns ks := ⟨asc, sub, nk, hk⟩
  have s04 := s03.trans s4
  have hp4 := s4 _ _ (s3 _ _ hp2)
  refine ⟨m, rfl, ⟨_, SqL.of hm4⟩, for_it (walk_list (xs := ks.map fun k : Nat => V.int k)) (fun i σ H' => ∃ y3 fb F, σ = [some (.ref t), some (.ref p), some (.ref fb), y3] ∧ Same H4 H' ∧ H' fb = some (.lst (F.map fun f : Nat => V.int f)) ∧ FoundM ns.length (ks.take i) F) ⟨_, fa, [0], rfl, fun _ _ h => h, s4 _ _ (s3 _ _ hfa), FoundM.zero _⟩ (fun i σ H' _ h' => ?_) ?_ ?_⟩
  · obtain ⟨_, _, _, _, h, _⟩ := h'
    exact h.seq (SqL.of hm4)
  · rintro i x σ H5 H6 hi ⟨y3, fb, F, rfl, s5, hfb, hF⟩ ⟨rfl, hx⟩
    rw [List.getElem?_map] at hx
    obtain ⟨k, hk1, rfl⟩ := Option.map_eq_some_iff.mp hx
    obtain ⟨xs, _, hx2⟩ := (hk k).mp (List.mem_of_getElem? hk1)
    have kl := hx2.lt
    have lF := Nat.le_trans hF.len (two_le n12)
    refine ⟨_, rfl, _, rfl, fb, F, k, ns.length, rfl, hfb, kl, n12, lF, fun p2 H7 s7 np2 hp7 => ⟨_, p2, _, rfl, s5.trans s7, hp7, ?_⟩⟩
    rw [take_succ_at hk1]
    exact hF.step kl
  · rintro σ H5 ⟨y3, fb, F, rfl, s5, hfb, hF⟩
    rw [List.length_map, List.take_length] at hF
    have lF := Nat.le_trans hF.len (two_le n12)
    refine ⟨_, rfl, _, rfl, fb, p, F, ns, rfl, hfb, s5 _ _ hp4, found_nd nn hF, by omega, by omega, fun p2 ws2 S2 H6 s6 np2 hp6 hw6 hlt6 hm6 => ?_⟩
    have s05 := s04.trans s5
    exact q p2 ws2 S2 H6 (s05.trans s6) (same_back s05 np2) hp6 hw6 hlt6 fun r => (hm6 r).trans (found_rows hns hmin M hF r)


end
end Pf

namespace Pf
open PySem PySem.Spec PyProof.Rows L2
section
variable {P : Program} {w : World} {K : PySem.W.Frag} {mg : Str → Option Value} {base : Heap}
def hitsB (L : List (List Int)) (r : List Int) : Bool := L.all fun xs => xs.any fun x => decide (x ∈ r)
theorem hitsB_iff {L : List (List Int)} {r : List Int} : hitsB L r = true ↔ HitsR L r := by
  unfold hitsB HitsR
  rw [List.all_eq_true]
  refine forall_congr' fun xs => forall_congr' fun _ => ?_
  rw [List.any_eq_true]
  exact ⟨fun ⟨x, h1, h2⟩ => ⟨x, h1, of_decide_eq_true h2⟩, fun ⟨x, h1, h2⟩ => ⟨x, h1, decide_eq_true h2⟩⟩
def sp__law_meets_all (K : PySem.W.Frag) : Sp := fun us H Q _ => ∃ (a b : Addr) (r : List Int) (vs : List V) (L : List (List Int)), us = [.ref a, .ref b] ∧ (SqL K H a (r.map V.int) ∨ SqT K H a (r.map V.int)) ∧ SetsAt K H b vs L ∧ Q (.bl (hitsB L r)) H
theorem ok__law_meets_all (T : Txt K mg) : Has P w K mg base 1 "_law_meets_all" ["row", "sets"] (sp__law_meets_all K) := by
  obtain ⟨f, fd, F, m, b⟩ := T.d__law_meets_all.ex
  refine ⟨f, fd, F.ok sc__law_meets_all (fun vs H Q E h => ?_) (fun cdv A outer s H vs Q E hr h => ?_), m, F.kp, b⟩
  · obtain ⟨a, b, r, vs, L, rfl, hr, ⟨hb, hA⟩, q⟩ := h
    rfl
  obtain ⟨a, b, r, vs, L, rfl, hr, ⟨hb, hA⟩, q⟩ := h
  refine ⟨_, (pss_cons (ps_for PassesOwn.never rfl (pi_alt (pi_list (pv 1)) (pi_tup (pv 1))) (pg_name (i := 2) sc__law_meets_all.nd rfl (.inl rfl))
      (pss_cons (ps_set (i := 3) sc__law_meets_all.nd rfl (.inl rfl) pe_bl)
        (C8.pss_cut (ps_for PassesOwn.never rfl (pi_alt (pi_list (pv 2)) (pi_tup (pv 2))) (pg_name (i := 4) sc__law_meets_all.nd rfl (.inl rfl))
        (pss_one (ps_if (pt_cmpR op_in_seq (pv 4) (pv 0) (by rfl))
          (pss_cons (ps_set (i := 3) sc__law_meets_all.nd rfl (.inl rfl) pe_bl)
            (pss_one ps_break))
          pss_nil)))
        (pss_one (ps_if (pt_not (pt_val (pv 3)))
        (pss_one (ps_ret pe_bl))
        pss_nil)))))
      (pss_one (ps_ret pe_bl))), ?_⟩
  refine alt_seq (i := 1) rfl hb fun J G wk hG => ?_
  have flat : (r.map V.int).all flatV = true := by
    rw [List.all_map]
    exact List.all_eq_true.mpr fun _ _ => rfl
  have lv := hA.1
  refine for_it wk (fun i σ H' => H = H' ∧ ∃ y2 y3 y4, σ = [some (.ref a), some (.ref b), y2, y3, y4] ∧ hitsB (L.take i) r = true) ⟨rfl, _, _, _, rfl, rfl⟩ (fun i σ H' _ h' => hG _ (by rw [← h'.1]; exact fun _ _ h => h)) ?_ ?_
  · rintro i x σ H1 H2 hi ⟨rfl, y2, y3, y4, rfl, hh⟩ ⟨rfl, hx⟩
    obtain ⟨xs, hxs, m, rfl, hm⟩ := hA.at hx
    refine ⟨fun σ H' => H2 = H' ∧ ∃ y4, σ = [some (.ref a), some (.ref b), some (.ref m), some (.bl (xs.any fun x => decide (x ∈ r))), y4], ?_, ?_⟩
    · refine alt_seqS (i := 2) (fun _ _ h => h) rfl hm fun J1 G1 wk1 hG1 => ?_
      refine for_it wk1 (fun j σ H' => H2 = H' ∧ ∃ y4, σ = [some (.ref a), some (.ref b), some (.ref m), some (.bl false), y4] ∧ ((xs.take j).any fun x => decide (x ∈ r)) = false) ⟨rfl, _, rfl, rfl⟩ (fun i σ H' _ h' => hG1 _ (by rw [← h'.1]; exact fun _ _ h => h)) ?_ ?_
      · rintro j x σ H3 H4 hj ⟨rfl, y4, rfl, hn⟩ ⟨rfl, hx⟩
        rw [List.getElem?_map] at hx
        obtain ⟨c, hc, rfl⟩ := Option.map_eq_some_iff.mp hx
        refine ⟨_, rfl, _, rfl, a, _, rfl, hr, rfl, flat, _, rfl, ite2 (fun e => ?_) (fun e => ?_)⟩
        · have hn : c ∈ r := by simpa [inV_ints] using e
          have : (xs.any fun x => decide (x ∈ r)) = true := List.any_eq_true.mpr ⟨c, List.mem_of_getElem? hc, decide_eq_true hn⟩
          rw [this]
          exact ⟨rfl, _, rfl⟩
        · have hm : c ∉ r := by simpa [inV_ints] using e
          refine ⟨rfl, _, rfl, ?_⟩
          rw [take_succ_at hc, List.any_append, hn, Bool.false_or, List.any_cons, List.any_nil, Bool.or_false]
          exact decide_eq_false hm
      · rintro σ H3 ⟨rfl, y4, rfl, hn⟩
        rw [List.length_map, List.take_length] at hn
        rw [hn]
        exact ⟨rfl, _, rfl⟩
    · rintro _ _ ⟨rfl, y4, rfl⟩
      refine ⟨_, rfl, _, rfl, ite2 (fun e => ?_) (fun e => ?_)⟩
      · have h1 : (xs.any fun x => decide (x ∈ r)) = false := by simpa using e
        have : hitsB L r = false := by
          rw [← Bool.not_eq_true]
          intro hall
          have := List.all_eq_true.mp hall xs (List.mem_of_getElem? hxs)
          rw [h1] at this
          cases this
        rw [this] at q
        exact q
      · have h1 : (xs.any fun x => decide (x ∈ r)) = true := by
          cases h : xs.any fun x => decide (x ∈ r) with
          | true => rfl
          | false => exact absurd (by rw [h]; rfl) e
        refine ⟨rfl, _, _, _, rfl, ?_⟩
        unfold hitsB at hh ⊢
        rw [take_succ_at hxs, List.all_append, hh, Bool.true_and, List.all_cons, List.all_nil, Bool.and_true]
        exact h1
  · rintro σ H1 ⟨rfl, y2, y3, y4, rfl, hh⟩
    rw [lv, List.take_length] at hh
    rw [hh] at q
    exact q


end
end Pf

namespace Pf
open PySem PySem.Spec PyProof.Rows L2
section
variable {P : Program} {w : World} {K : PySem.W.Frag} {mg : Str → Option Value} {base : Heap}
/-! ### twice the least sets that meet all: the least of the sets themselves -/
theorem trv_mem {L : List (List Int)} {r : List Int} (h : HitsR L r) (m : ∀ o, (∀ z ∈ o, z ∈ r) → HitsR L o → ∀ z ∈ r, z ∈ o) : ∀ x ∈ r, ∃ xs ∈ L, x ∈ xs := fun x hx => Classical.byContradiction fun n => by
  have hits : HitsR L (r.filter fun y => !decide (y = x)) := fun xs hxs => by
    obtain ⟨y, h1, h2⟩ := h xs hxs
    refine ⟨y, h1, List.mem_filter.mpr ⟨h2, ?_⟩⟩
    have : y ≠ x := fun e => n ⟨xs, hxs, e ▸ h1⟩
    simp [this]
  have := m _ (fun z hz => (List.mem_filter.mp hz).1) hits x hx
  have := (List.mem_filter.mp this).2
  simp at this
theorem hits_subs {W : List (List Int)} {o r : List Int} (h : HitsR W o) (s : ∀ z ∈ o, z ∈ r) : HitsR W r := fun xs hx => by
  obtain ⟨x, h1, h2⟩ := h xs hx
  exact ⟨x, h1, s x h2⟩
theorem trv_ex {L : List (List Int)} : ∀ (n : Nat) (o : List Int), o.length ≤ n → o.Pairwise (· < ·) → HitsR L o → ∃ t, TrvR L t ∧ ∀ z ∈ t, z ∈ o
  | n, o, l, ho, hh => by
    by_cases c : ∀ q, (∀ z ∈ q, z ∈ o) → HitsR L q → ∀ z ∈ o, z ∈ q
    · exact ⟨o, ⟨ho, trv_mem hh c, hh, c⟩, fun _ h => h⟩
    · have : ∃ q, (∀ z ∈ q, z ∈ o) ∧ HitsR L q ∧ ∃ z ∈ o, z ∉ q := Classical.byContradiction fun k => c fun q a b z hz => Classical.byContradiction fun e => k ⟨q, a, b, z, hz, e⟩
      obtain ⟨q, a, b, z, hz, nz⟩ := this
      have hs : ∀ y ∈ onI q, y ∈ o := fun y hy => a y ((onI_mem q y).mp hy)
      have lt := asc_short (onI_asc q) ho (fun e => nz ((onI_mem q z).mp (e ▸ hz))) hs
      cases n with
      | zero => omega
      | succ n =>
        obtain ⟨t, h1, h2⟩ := trv_ex n (onI q) (by omega) (onI_asc q) (hits_subs b fun y hy => (onI_mem q y).mpr hy)
        exact ⟨t, h1, fun y hy => hs y (h2 y hy)⟩
theorem hits_dual {L S : List (List Int)} (hS : ∀ r, r ∈ S ↔ TrvR L r) (r : List Int) : HitsR S r ↔ ∃ xs ∈ L, ∀ z ∈ xs, z ∈ r := by
  constructor
  · intro h
    refine Classical.byContradiction fun n => ?_
    have hit : HitsR L (L.flatten.filter fun z => !decide (z ∈ r)) := fun xs hx => by
      have : ∃ z ∈ xs, z ∉ r := Classical.byContradiction fun k => n ⟨xs, hx, fun z hz => Classical.byContradiction fun e => k ⟨z, hz, e⟩⟩
      obtain ⟨z, h1, h2⟩ := this
      exact ⟨z, h1, List.mem_filter.mpr ⟨List.mem_flatten.mpr ⟨xs, hx, h1⟩, by simp [h2]⟩⟩
    obtain ⟨t, h1, h2⟩ := trv_ex _ _ (Nat.le_refl _) (onI_asc _) (hits_subs hit fun z hz => (onI_mem _ z).mpr hz)
    obtain ⟨x, h3, h4⟩ := h t ((hS t).mpr h1)
    have := (List.mem_filter.mp ((onI_mem _ x).mp (h2 x h3))).2
    simp [h4] at this
  · rintro ⟨xs, hx, hs⟩ t ht
    obtain ⟨x, h1, h2⟩ := ((hS t).mp ht).2.2.1 xs hx
    exact ⟨x, h2, hs x h1⟩
theorem trv_dual {L S : List (List Int)} (hS : ∀ r, r ∈ S ↔ TrvR L r) (r : List Int) : TrvR S r ↔ MinR L r := by
  constructor
  · rintro ⟨h1, _, h3, h4⟩
    obtain ⟨xs, hx, hs⟩ := (hits_dual hS r).mp h3
    have e : onI xs = r := by
      have back := h4 (onI xs) (fun z hz => hs z ((onI_mem xs z).mp hz)) ((hits_dual hS _).mpr ⟨xs, hx, fun z hz => (onI_mem xs z).mpr hz⟩)
      exact asc_eq (onI_asc xs) h1 fun z => ⟨fun hz => hs z ((onI_mem xs z).mp hz), back z⟩
    refine ⟨⟨xs, hx, h1, fun z => by rw [← e]; exact onI_mem xs z⟩, fun o ho ne so => ?_⟩
    obtain ⟨ys, hy, _, hm⟩ := ho
    have back := h4 o so ((hits_dual hS o).mpr ⟨ys, hy, fun z hz => (hm z).mpr hz⟩)
    exact ne (asc_eq (by assumption) h1 fun z => ⟨so z, back z⟩)
  · rintro ⟨⟨xs, hx, h1, hm⟩, h2⟩
    have hit : HitsR S r := (hits_dual hS r).mpr ⟨xs, hx, fun z hz => (hm z).mpr hz⟩
    have mn : ∀ o, (∀ z ∈ o, z ∈ r) → HitsR S o → ∀ z ∈ r, z ∈ o := fun o so ho => by
      obtain ⟨ys, hy, hs⟩ := (hits_dual hS o).mp ho
      have e : onI ys = r := Classical.byContradiction fun ne => h2 (onI ys) ⟨ys, hy, onI_asc ys, onI_mem ys⟩ ne fun z hz => so z (hs z ((onI_mem ys z).mp hz))
      exact fun z hz => hs z ((onI_mem ys z).mp (e ▸ hz))
    exact ⟨h1, trv_mem hit mn, hit, mn⟩
theorem trv_least {L S : List (List Int)} (hS : ∀ r, r ∈ S ↔ MinR L r) (r : List Int) : TrvR S r ↔ TrvR L r := by
  constructor
  · rintro ⟨h1, _, h3, h4⟩
    have h3 := (hits_min hS r).mp h3
    have h4 : ∀ o, (∀ z ∈ o, z ∈ r) → HitsR L o → ∀ z ∈ r, z ∈ o := fun o so ho => h4 o so ((hits_min hS o).mpr ho)
    exact ⟨h1, trv_mem h3 h4, h3, h4⟩
  · rintro ⟨h1, _, h3, h4⟩
    have h3 := (hits_min hS r).mpr h3
    have h4 : ∀ o, (∀ z ∈ o, z ∈ r) → HitsR S o → ∀ z ∈ r, z ∈ o := fun o so ho => h4 o so ((hits_min hS o).mp ho)
    exact ⟨h1, trv_mem h3 h4, h3, h4⟩


def sp__law_drawn (K : PySem.W.Frag) : Sp := fun us H Q _ => ∃ (r : Addr), us = [.ref r] ∧ RD H r ∧ ∀ (t : Addr) (is : List Int) (vs : List V) (L : List (List Int)) (H' : Hp), Fr r H H' → RD H' r → t ≠ r → is.length ≤ 8 → H' t = some (.lst vs) → All2 (RowI [r, t] H') vs L → L.length ≤ 80 → (∀ xs ∈ L, xs.length ≤ 92 ∧ ∀ x ∈ xs, x ∈ is) → Q (.ref t) H'
theorem ok__law_drawn (T : Txt K mg) : Has P w K mg base 3 "_law_drawn" ["reader"] (sp__law_drawn K) := by
  obtain ⟨f, fd, F, m, b⟩ := T.d__law_drawn.ex
  obtain ⟨f__law_next, fd__law_next, G__law_next, m__law_next, k__law_next, b__law_next⟩ := ok__law_next (P := P) (w := w) (base := base) T
  obtain ⟨f__law_integers, fd__law_integers, G__law_integers, m__law_integers, k__law_integers, b__law_integers⟩ := ok__law_integers (P := P) (w := w) (base := base) T
  obtain ⟨f__law_sets, fd__law_sets, G__law_sets, m__law_sets, k__law_sets, b__law_sets⟩ := ok__law_sets (P := P) (w := w) (base := base) T
  refine ⟨f, fd, F.ok sc__law_drawn (fun vs H Q E h => ?_) (fun cdv A outer s H vs Q E hr h => ?_), m, F.kp, b⟩
  · obtain ⟨r, rfl, hR, q⟩ := h
    rfl
  obtain ⟨r, rfl, hR, q⟩ := h
  refine ⟨_, (pss_cons (ps_set (i := 1) sc__law_drawn.nd rfl (.inl rfl) (pe_call G__law_next (hr.mono (by decide)) (by rfl) m__law_next k__law_next b__law_next .nil pass0 (pa_cons (pv 0) (pa_cons pe_int pa_nil))))
      (pss_cons (ps_set (i := 2) sc__law_drawn.nd rfl (.inl rfl) (pe_callB (call_min2 rfl) (by rfl) T.z_min (by decide +kernel) (pa_cons pe_int (pa_cons (pe_call G__law_next (hr.mono (by decide)) (by rfl) m__law_next k__law_next b__law_next .nil pass0 (pa_cons (pv 0) (pa_cons pe_int pa_nil))) pa_nil))))
      (pss_cons (ps_if (pt_cmpR op_eq (pv 1) pe_int (nomark _))
      (pss_cons (ps_set (i := 3) sc__law_drawn.nd rfl (.inl rfl) (pe_call G__law_integers (hr.mono (by decide)) (by rfl) m__law_integers k__law_integers b__law_integers .nil pass0 (pa_cons (pv 0) (pa_cons (pe_op op_add pe_int (pe_call G__law_next (hr.mono (by decide)) (by rfl) m__law_next k__law_next b__law_next .nil pass0 (pa_cons (pv 0) (pa_cons pe_int pa_nil)))) pa_nil))))
        (pss_one (ps_ret (pe_call G__law_sets (hr.mono (by decide)) (by rfl) m__law_sets k__law_sets b__law_sets .nil pass0 (pa_cons (pv 0) (pa_cons (pv 3) (pa_cons (pe_op op_sub pe_int (pe_call G__law_next (hr.mono (by decide)) (by rfl) m__law_next k__law_next b__law_next .nil pass0 (pa_cons (pv 0) (pa_cons pe_int pa_nil)))) (pa_cons (pv 2) (pa_cons pe_int pa_nil)))))))))
      pss_nil)
      (pss_cons (ps_set (i := 3) sc__law_drawn.nd rfl (.inl rfl) (pe_call G__law_integers (hr.mono (by decide)) (by rfl) m__law_integers k__law_integers b__law_integers .nil pass0 (pa_cons (pv 0) (pa_cons (pe_op op_add pe_int (pe_call G__law_next (hr.mono (by decide)) (by rfl) m__law_next k__law_next b__law_next .nil pass0 (pa_cons (pv 0) (pa_cons pe_int pa_nil)))) pa_nil))))
      (pss_one (ps_ret (pe_call G__law_sets (hr.mono (by decide)) (by rfl) m__law_sets k__law_sets b__law_sets .nil pass0 (pa_cons (pv 0) (pa_cons (pv 3) (pa_cons (pe_call G__law_next (hr.mono (by decide)) (by rfl) m__law_next k__law_next b__law_next .nil pass0 (pa_cons (pv 0) (pa_cons pe_int pa_nil))) (pa_cons (pv 2) (pa_cons pe_int pa_nil)))))))))))), ?_⟩
  refine ⟨_, rfl, r, 8, rfl, hR, by decide, by decide, fun sh H1 f1 R1 s0 s1 => ?_⟩
  refine ⟨_, rfl, r, 4, rfl, R1, by decide, by decide, fun le H2 f2 R2 l0 l1 => ⟨_, _, rfl, ?_⟩⟩
  have f12 := f1.trans f2
  obtain ⟨lst, hlst⟩ : ∃ z : Int, z = (if le < 2 then le else 2) := ⟨_, rfl⟩
  rw [← hlst]
  have a0 : 0 ≤ lst ∧ lst ≤ 2 := by rw [hlst]; split <;> omega
  clear hlst
  refine ⟨_, rfl, rfl, _, rfl, ite2 (fun e => ?_) (fun e => ?_)⟩
  · refine ⟨_, rfl, _, rfl, r, 5, rfl, R2, by decide, by decide, fun a H3 f3 R3 b0 b1 => ⟨_, _, rfl, rfl, r, _, rfl, R3, by omega, by omega, fun p ns H4 f4 R4 np hp hn => ?_⟩⟩
    have npr := R3.ne np
    refine ⟨_, rfl, _, rfl, _, rfl, r, 3, rfl, R4, by decide, by decide, fun c H5 f5 R5 c0 c1 => ⟨_, _, rfl, rfl, _, rfl, r, p, ns, _, _, _, rfl, R5, npr, f5 _ _ npr hp, by omega, by omega, by omega, by omega, a0.1, a0.2, by decide, by decide, fun t vs L H6 f6 R6 tr ht hrw hl hb => ?_⟩⟩
    exact q t ns vs L H6 ((f12.trans (f3.trans f4)).trans (f5.trans f6)) R6 tr (by omega) ht hrw (by omega) hb
  refine ⟨_, rfl, _, rfl, r, 8, rfl, R2, by decide, by decide, fun a H3 f3 R3 b0 b1 => ⟨_, _, rfl, rfl, r, _, rfl, R3, by omega, by omega, fun p ns H4 f4 R4 np hp hn => ?_⟩⟩
  have npr := R3.ne np
  refine ⟨_, rfl, _, rfl, _, rfl, r, 9, rfl, R4, by decide, by decide, fun c H5 f5 R5 c0 c1 => ⟨_, rfl, r, p, ns, _, _, _, rfl, R5, npr, f5 _ _ npr hp, by omega, by omega, by omega, by omega, a0.1, a0.2, by decide, by decide, fun t vs L H6 f6 R6 tr ht hrw hl hb => ?_⟩⟩
  exact q t ns vs L H6 ((f12.trans (f3.trans f4)).trans (f5.trans f6)) R6 tr (by omega) ht hrw (by omega) hb


end
end Pf

namespace Pf
open PySem PySem.Spec PyProof.Rows L2
section
variable {P : Program} {w : World} {K : PySem.W.Frag} {mg : Str → Option Value} {base : Heap}
def RowsAt (K : PySem.W.Frag) (H : Hp) (l : Addr) (ws : List V) (S : List (List Int)) : Prop := H l = some (.lst ws) ∧ All2 (RowT K H) ws S
def sp__law_in_order (K : PySem.W.Frag) : Sp := fun us H Q _ => ∃ (a : Addr) (vs : List V) (R : List (List Int)), us = [.ref a] ∧ (SqL K H a vs ∨ SqT K H a vs) ∧ All2 (RowT K H) vs R ∧ R.length ≤ 5000 ∧
  ∀ (p : Addr) (ws : List V) (H' : Hp), Same H H' → H p = none → H' p = some (.lst ws) → All2 (RowT K H') ws (onL R) → Q (.ref p) H'
theorem ok__law_in_order (T : Txt K mg) : Has P w K mg base 2 "_law_in_order" ["rows"] (sp__law_in_order K) := by
  obtain ⟨f, fd, F, m, b⟩ := T.d__law_in_order.ex
  obtain ⟨f__law_once, fd__law_once, G__law_once, m__law_once, k__law_once, b__law_once⟩ := ok__law_once (P := P) (w := w) (base := base) T
  refine ⟨f, fd, F.ok sc__law_in_order (fun vs H Q E h => ?_) (fun cdv A outer s H vs Q E hr h => ?_), m, F.kp, b⟩
  · obtain ⟨a, vs, R, rfl, ha, hA, l5000, q⟩ := h
    rfl
  obtain ⟨a, vs, R, rfl, ha, hA, l5000, q⟩ := h
  refine ⟨_, (pss_one (ps_ret (pe_lc (own := [("pair", 1)]) (g := gName 1) (by rfl) sc__law_in_order.nd (pi_tup (pe_call G__law_once (hr.mono (by decide)) (by rfl) m__law_once k__law_once b__law_once .nil pass0 (pa_cons (pe_lc (own := [("row", 2)]) (g := gName 2) (by rfl) sc__law_in_order.nd (pi_alt (pi_list (pv 0)) (pi_tup (pv 0))) (blkOk_by (own := [("row", 2)]) (N := ["rows", "pair", "row"]) (sc := defScope s__law_in_order) (by decide +kernel)) (fun _ _ _ _ _ => pg_name (i := 2) sc__law_in_order.nd rfl (Or.inl rfl)) (fun _ _ _ _ _ => pts_nil) (fun _ _ _ _ _ => (pe_tup (pa_cons (pe_callB (call_len_seqK (K := K) rfl) (by rfl) T.z_len (by decide +kernel) (pa_cons (pv 2) pa_nil)) (pa_cons (pv 2) pa_nil))))) pa_nil))) (blkOk_by (own := [("pair", 1)]) (N := ["rows", "pair", "row"]) (sc := defScope s__law_in_order) (by decide +kernel)) (fun _ _ _ _ _ => pg_name (i := 1) sc__law_in_order.nd rfl (Or.inl rfl)) (fun _ _ _ _ _ => pts_nil) (fun _ _ _ _ _ => (pe_ix (ix_tupK (K := K) rfl) (pv 1) pe_int (fun _ _ => rfl)))))), ?_⟩
  have lv := hA.1
  refine alt_seq (i := 0) rfl ha fun J G wk hG D nD => ?_
  show Exists _
  refine two_out wk (fun i H' => Same H H' ∧ ∃ ts, H' D = some (.lst ts) ∧ All2 (fun v (r : List Int) => ∃ l u, v = .ref l ∧ H' l = some (.tup [.int (r.length : Nat), .ref u]) ∧ SqT K H u (r.map V.int)) ts (R.take i)) ⟨same_new nD, [], upd_same, All2.nil⟩ (fun i H' _ h' => hG H' h'.1) ?_ ?_
  · rintro i x H2 H3 hi ⟨s2, ts, hD, hP⟩ ⟨rfl, hx⟩
    obtain ⟨r, hr, u, rfl, hu⟩ := hA.at hx
    have lt := hP.1
    rw [List.length_take] at lt
    refine ⟨rfl, _, rfl, u, _, rfl, .inr (seqT_same s2 hu), _, rfl, by show 2 ≤ sizeLine; decide, fun l nl => ⟨ts, same_new nl _ _ hD, lt_line (by omega), same_mut (s2.trans (same_new nl)) nD, _, upd_same, ?_⟩⟩
    rw [take_succ_at hr]
    have nlD : l ≠ D := fun e => by rw [e, hD] at nl; cases nl
    exact (hP.imp fun v ys ⟨l2, u2, e, h1, h2⟩ => ⟨l2, u2, e, (upd_ne fun e2 => by rw [e2, hD] at h1; cases h1).trans (same_new nl _ _ h1), h2⟩).app (All2.one ⟨l, u, rfl, (upd_ne nlD).trans (by rw [List.length_map]; exact upd_same), hu⟩)
  rintro H2 ⟨s2, ts, hD, hP⟩
  rw [lv, List.take_length] at hP
  have lt := hP.1
  refine ⟨D, ts, R.map prL, rfl, .inl (SqL.of hD), dpa_of prL hP.1 fun i x b hx hb => ?_, (alike_rowsL _).1, .inl (alike_rowsL _).2, fun d hd => ?_, by omega, fun p ys H3 s3 np hp hd => ?_⟩
  · obtain ⟨l, u, rfl, h1, h2⟩ := hP.2 i x b hx hb
    exact prL_of (SqT.of h1) (seqT_same s2 h2)
  · obtain ⟨r, _, rfl⟩ := List.mem_map.mp hd
    exact ⟨dep_rowL r, shaped_rowL r⟩
  rw [onL_once] at hd
  have ly := dpa_len0 hd
  rw [List.length_map] at ly
  have lW := onL_len R
  have s03 := s2.trans s3
  refine ⟨p, rfl, ⟨_, SqT.of hp⟩, fun D3 nD3 => ?_⟩
  show Exists _
  refine two_out (walk_tup (xs := ys)) (fun i H' => Same H3 H' ∧ ∃ ws, H' D3 = some (.lst ws) ∧ All2 (RowT K H3) ws ((onL R).take i)) ⟨same_new nD3, [], upd_same, All2.nil⟩ (fun i H' _ h' => seqT_same h'.1 (SqT.of hp)) ?_ ?_
  · rintro i x H4 H5 hi ⟨s4, ws, hD3, hP2⟩ ⟨rfl, hx⟩
    obtain ⟨d, hd1, hd2⟩ := dpa_at hd hx
    rw [List.getElem?_map] at hd1
    obtain ⟨r, hr, rfl⟩ := Option.map_eq_some_iff.mp hd1
    obtain ⟨t, u, rfl, ht, hu⟩ := prL_at hd2
    have lw := hP2.1
    rw [List.length_take] at lw
    refine ⟨rfl, _, rfl, t, _, _, _, rfl, rfl, seqT_same s4 ht, atI_nat (j := 1) rfl, ws, hD3, lt_line (by omega), same_mut s4 nD3, _, upd_same, ?_⟩
    rw [take_succ_at hr]
    exact hP2.app (All2.one ⟨u, rfl, hu⟩)
  rintro H4 ⟨s4, rs, hD3, hP2⟩
  rw [ly, List.take_length] at hP2
  exact q D3 rs H4 (s03.trans s4) (same_back s03 nD3) hD3 (hP2.imp fun _ _ r => r.same s4)


end
end Pf

namespace Pf
open PySem PySem.Spec PyProof.Rows L2
section
variable {P : Program} {w : World} {K : PySem.W.Frag} {mg : Str → Option Value} {base : Heap}
def sp__law_minimal (K : PySem.W.Frag) : Sp := fun us H Q _ => ∃ (a : Addr) (rs : List V) (W : List (List Int)), us = [.ref a] ∧ H a = some (.lst rs) ∧ All2 (RowT K H) rs W ∧ W.length ≤ 5000 ∧
  ∀ (p : Addr) (ws : List V) (H' : Hp), Same H H' → H p = none → H' p = some (.lst ws) → All2 (RowT K H') ws (W.filter fun r => !anyMin W r) → Q (.ref p) H'
theorem ok__law_minimal (T : Txt K mg) : Has P w K mg base 2 "_law_minimal" ["rows"] (sp__law_minimal K) := by
  obtain ⟨f, fd, F, m, b⟩ := T.d__law_minimal.ex
  obtain ⟨f__law_lies, fd__law_lies, G__law_lies, m__law_lies, k__law_lies, b__law_lies⟩ := ok__law_lies (P := P) (w := w) (base := base) T
  refine ⟨f, fd, F.ok sc__law_minimal (fun vs H Q E h => ?_) (fun cdv A outer s H vs Q E hr h => ?_), m, F.kp, b⟩
  · obtain ⟨a, rs, W, rfl, ha, hR, l5000, q⟩ := h
    rfl
  obtain ⟨a, rs, W, rfl, ha, hR, l5000, q⟩ := h
  refine ⟨_, (pss_cons (ps_set (i := 1) sc__law_minimal.nd rfl (.inl rfl) (pe_lst pa_nil))
      (pss_cons (ps_for PassesOwn.never rfl (pi_list (pv 0)) (pg_name (i := 2) sc__law_minimal.nd rfl (.inr rfl))
      (pss_one (ps_if (pt_not (pt_val (pe_callB (cr_any rfl) (by rfl) T.z_any (by decide +kernel) (pa_cons (pe_lc (own := [("other", 3)]) (g := gName 3) (by rfl) sc__law_minimal.nd (pi_list (pv 0)) (blkOk_by (own := [("other", 3)]) (N := ["rows", "kept", "row", "other"]) (sc := defScope s__law_minimal) (by decide +kernel)) (fun _ _ _ _ _ => pg_name (i := 3) sc__law_minimal.nd rfl (Or.inl rfl)) (fun _ _ _ _ _ => pts_nil) (fun _ _ _ _ _ => (pe_and (pe_cmpR (op_neDL (K := K) rfl hr.units) (pv 3) (pv 2) (nomark _)) (pe_one (pe_call G__law_lies (hr.mono (by decide)) (by rfl) m__law_lies k__law_lies b__law_lies .nil pass0 (pa_cons (pv 3) (pa_cons (pv 2) pa_nil))))))) pa_nil))))
        (pss_one (ps_expr (pe_bm PySem.F.plainAttrs_list PySem.F.slot_list_append PySem.F.type_list_append mt_append (pv 1) (pa_cons (pv 2) pa_nil))))
        pss_nil)))
      (pss_one (ps_ret (pv 1))))), ?_⟩
  have lr := hR.1
  refine ⟨by show 0 ≤ sizeLine; decide, fun l nl => ?_⟩
  have s5 := same_new (o := .lst []) nl
  have hl5 := upd_same (H := H) (a := l) (o := .lst [])
  generalize upd H l (.lst []) = H5 at s5 hl5 ⊢
  refine ⟨_, rfl, a, rfl, ⟨_, SqL.of (s5 _ _ ha)⟩, for_it (walk_list (xs := rs)) (fun i σ H' => ∃ y2, σ = [some (.ref a), some (.ref l), y2, none] ∧ Same H H' ∧ ∃ ws, H' l = some (.lst ws) ∧ All2 (RowT K H) ws ((W.take i).filter fun r => !anyMin W r)) ⟨_, rfl, s5, [], hl5, All2.nil⟩ (fun i σ H' _ h' => ?_) ?_ ?_⟩
  · obtain ⟨_, _, h, _⟩ := h'
    exact SqL.of (h _ _ ha)
  · rintro i x σ H6 H7 hi ⟨y2, rfl, s7, ws, hl, hw⟩ ⟨rfl, hx⟩
    obtain ⟨r, hr, u, rfl, hu⟩ := hR.at hx
    have lw := hw.1
    have fw := List.length_filter_le (fun r => !anyMin W r) (W.take i)
    rw [List.length_take] at fw
    refine ⟨_, rfl, a, rfl, ⟨_, SqL.of (s7 _ _ ha)⟩, fun E nE => ?_⟩
    show Exists _
    refine two_out (walk_list (xs := rs)) (fun j H' => Same H7 H' ∧ H' E = some (.lst (((W.take j).map fun o => decide (o ≠ r) && o.all fun x => decide (x ∈ r)).map V.bl))) ⟨same_new nE, upd_same⟩ (fun i H' _ h' => h'.1.seq (SqL.of (s7 _ _ ha))) ?_ ?_
    · rintro j x H8 H9 hj ⟨s8, hE⟩ ⟨rfl, hx⟩
      obtain ⟨o, ho, v, rfl, hv⟩ := hR.at hx
      have s48 := s7.trans s8
      have fin : ∀ b : Bool, (decide (o ≠ r) && o.all fun x => decide (x ∈ r)) = b → ∃ acc, H9 E = some (.lst acc) ∧ acc.length < sizeLine ∧ Same H7 (upd H9 E (.lst (acc ++ [V.bl b]))) ∧ upd H9 E (.lst (acc ++ [V.bl b])) E = some (.lst (((W.take (j + 1)).map fun o => decide (o ≠ r) && o.all fun x => decide (x ∈ r)).map V.bl)) := fun b eb => by
        refine ⟨_, hE, lt_line (by rw [List.length_map, List.length_map, List.length_take]; omega), same_mut s8 nE, ?_⟩
        rw [take_succ_at ho, List.map_append, List.map_append, ← eb]
        exact upd_same
      refine ⟨rfl, _, rfl, _, rfl, .tuple (o.map PyData.int), .tuple (r.map PyData.int), .tup (seqT_same s48 hv) (dpa_ints o), .tup (seqT_same s48 hu) (dpa_ints r), shaped_intsL o, shaped_intsL r, _, rfl, ite2 (fun e => ?_) (fun e => ?_)⟩
      · rw [eqv_tupL] at e
        refine ⟨_, rfl, _, rfl, _, _, o, r, rfl, seqT_same s48 hv, seqT_same s48 hu, fin _ ?_⟩
        rw [show decide (o ≠ r) = true by simpa using e, Bool.true_and]
      · rw [eqv_tupL] at e
        refine fin _ ?_
        have e1 : o = r := by simpa using e
        simp [e1]
    · rintro H8 ⟨s8, hE⟩
      rw [lr, List.take_length] at hE
      have ea : (W.map fun o => decide (o ≠ r) && o.all fun x => decide (x ∈ r)).any id = anyMin W r := by
        unfold anyMin
        rw [List.any_map]
        rfl
      refine ⟨E, _, rfl, SqL.of hE, _, rfl, ite2 (fun e => ?_) (fun e => ?_)⟩
      · rw [ea] at e
        refine ⟨_, rfl, .inl ⟨rfl, _, SqL.of (s8 _ _ hl)⟩, _, rfl, l, _, _, rfl, rfl, s8 _ _ hl, lt_line (by omega), _, rfl, same_mut (s7.trans s8) nl, _, upd_same, ?_⟩
        rw [take_succ_at hr, List.filter_append, List.filter_cons_of_pos (by exact e)]
        exact hw.app (All2.one ⟨u, rfl, hu⟩)
      · rw [ea] at e
        refine ⟨_, rfl, s7.trans s8, ws, s8 _ _ hl, ?_⟩
        rw [take_succ_at hr, List.filter_append, List.filter_cons_of_neg (by exact e), List.filter_nil, List.append_nil]
        exact hw
  · rintro σ H6 ⟨y2, rfl, s6, ws, hl, hw⟩
    rw [lr, List.take_length] at hw
    exact ⟨_, rfl, q l ws H6 s6 nl hl (hw.imp fun _ _ r => r.same s6)⟩


end
end Pf

namespace Pf
open PySem PySem.Spec PyProof.Rows L2
section
variable {P : Program} {w : World} {K : PySem.W.Frag} {mg : Str → Option Value} {base : Heap}
def tupI (r : List Int) : PyData := .tuple (r.map PyData.int)
theorem lay_rows : ∀ S : List (List Int), PyData.canLayAll0 (S.map tupI) = true
  | [] => by simp [PyData.canLayAll0]
  | r :: S => by simp [PyData.canLayAll0, PyData.canLay0, tupI, lay_intsL, lay_rows S]
theorem dep_rows : ∀ S : List (List Int), PyData.depthAll (S.map tupI) ≤ 2
  | [] => by simp [PyData.depthAll]
  | r :: S => by
    have h := dep_rows S
    have e : (tupI r).depth ≤ 1 := by simp [tupI, PyData.depth, dep_intsL]
    simp only [List.map_cons, PyData.depthAll]
    omega
theorem shaped_rows (S : List (List Int)) : SeqAt.shaped (.list (S.map tupI)) = true := shaped_lst (lay_rows S) (Nat.le_trans (dep_rows S) (by decide))
theorem onL_id {S : List (List Int)} (h : S.Pairwise rlL) : onL S = S := rl_uniq (onL_lt S) h fun r => onL_mem S r
theorem onI_id {r : List Int} (h : r.Pairwise (· < ·)) : onI r = r := asc_eq (onI_asc r) h fun z => onI_mem r z
theorem hits_rows {L W : List (List Int)} (hW : ∀ r, r ∈ W ↔ RsR L r) (r : List Int) : HitsR W r ↔ HitsR L r := by
  constructor
  · intro h xs hx
    obtain ⟨x, h1, h2⟩ := h (onI xs) ((hW _).mpr ⟨xs, hx, onI_asc xs, onI_mem xs⟩)
    exact ⟨x, (onI_mem xs x).mp h1, h2⟩
  · intro h w hw
    obtain ⟨xs, hx, _, hm⟩ := (hW w).mp hw
    obtain ⟨x, h1, h2⟩ := h xs hx
    exact ⟨x, (hm x).mpr h1, h2⟩
theorem iteF' {b : Bool} {P Q : Prop} (h : b = false) (q : Q) : if b = true then P else Q := by
  rw [h]
  exact q
def sp__law_fair (K : PySem.W.Frag) : Sp := fun us H Q _ => ∃ (a b : Addr) (vs ws : List V) (S L W : List (List Int)), us = [.ref a, .ref b] ∧ SqT K H a vs ∧ All2 (RowT K H) vs S ∧ S.length ≤ 1000 ∧ (∀ r ∈ S, r.length ≤ 100) ∧ S.Pairwise rlL ∧ (∀ r, r ∈ S ↔ TrvR L r) ∧ H b = some (.lst ws) ∧ All2 (RowT K H) ws W ∧ (∀ r, r ∈ W ↔ RsR L r) ∧
  ∀ H', Same H H' → Q (.bl true) H'
theorem ok__law_fair (T : Txt K mg) : Has P w K mg base 3 "_law_fair" ["told", "sets"] (sp__law_fair K) := by
  obtain ⟨f, fd, F, m, b⟩ := T.d__law_fair.ex
  obtain ⟨f__law_once, fd__law_once, G__law_once, m__law_once, k__law_once, b__law_once⟩ := ok__law_once (P := P) (w := w) (base := base) T
  obtain ⟨f__law_meets_all, fd__law_meets_all, G__law_meets_all, m__law_meets_all, k__law_meets_all, b__law_meets_all⟩ := ok__law_meets_all (P := P) (w := w) (base := base) T
  obtain ⟨f__law_in_order, fd__law_in_order, G__law_in_order, m__law_in_order, k__law_in_order, b__law_in_order⟩ := ok__law_in_order (P := P) (w := w) (base := base) T
  refine ⟨f, fd, F.ok sc__law_fair (fun vs H Q E h => ?_) (fun cdv A outer s H vs Q E hr h => ?_), m, F.kp, b⟩
  · obtain ⟨a, b, vs, ws, S, L, W, rfl, ha, hS, lS, bS, pS, mS, hb, hW, mW, q⟩ := h
    rfl
  obtain ⟨a, b, vs, ws, S, L, W, rfl, ha, hS, lS, bS, pS, mS, hb, hW, mW, q⟩ := h
  refine ⟨_, (pss_cons (ps_if (pt_not (pt_val (pe_callB call_isi (by rfl) T.z_isinstance (by decide +kernel) (pa_cons (pv 0) (pa_cons (pe_bltn (v := .ty "tuple") (by rfl) T.z_tuple (by decide +kernel) rfl) pa_nil)))))
      (pss_one (ps_ret pe_bl))
      pss_nil)
      (pss_cons (ps_for PassesOwn.never rfl (pi_tup (pv 0)) (pg_name (i := 2) sc__law_fair.nd rfl (.inl rfl))
      (pss_cons (ps_if (pt_not (pt_val (pe_callB call_isi (by rfl) T.z_isinstance (by decide +kernel) (pa_cons (pv 2) (pa_cons (pe_bltn (v := .ty "tuple") (by rfl) T.z_tuple (by decide +kernel) rfl) pa_nil)))))
        (pss_one (ps_ret pe_bl))
        pss_nil)
        (pss_cons (ps_if (pt_not (pt_val (pe_callB (cr_all rfl) (by rfl) T.z_all (by decide +kernel) (pa_cons (pe_lc (own := [("member", 3)]) (g := gName 3) (by rfl) sc__law_fair.nd (pi_tup (pv 2)) (blkOk_by (own := [("member", 3)]) (N := ["told", "sets", "row", "member", "other"]) (sc := defScope s__law_fair) (by decide +kernel)) (fun _ _ _ _ _ => pg_name (i := 3) sc__law_fair.nd rfl (Or.inl rfl)) (fun _ _ _ _ _ => pts_nil) (fun _ _ _ _ _ => (pe_and (pe_callB (call_isiK' (K := K) rfl) (by rfl) T.z_isinstance (by decide +kernel) (pa_cons (pv 3) (pa_cons (pe_bltn (v := .ty "int") (by rfl) T.z_int (by decide +kernel) rfl) pa_nil))) (pe_one (pe_not (pe_callB (call_isiK' (K := K) rfl) (by rfl) T.z_isinstance (by decide +kernel) (pa_cons (pv 3) (pa_cons (pe_bltn (v := .ty "bool") (by rfl) T.z_bool (by decide +kernel) rfl) pa_nil)))))))) pa_nil))))
        (pss_one (ps_ret pe_bl))
        pss_nil)
        (pss_cons (ps_if (PW.pt (pw_or (pt_cmpR (op_neD hr.units) (pe_call G__law_once (hr.mono (by decide)) (by rfl) m__law_once k__law_once b__law_once .nil pass0 (pa_cons (pv 2) pa_nil)) (pv 2) (nomark _)) (pw_or1 (pt_not (pt_val (pe_call G__law_meets_all (hr.mono (by decide)) (by rfl) m__law_meets_all k__law_meets_all b__law_meets_all .nil pass0 (pa_cons (pv 2) (pa_cons (pv 1) pa_nil))))))))
        (pss_one (ps_ret pe_bl))
        pss_nil)
        (pss_one (ps_for PassesOwn.never rfl (pi_tup (pv 2)) (pg_name (i := 3) sc__law_fair.nd rfl (.inr rfl))
        (pss_one (ps_if (pt_val (pe_call G__law_meets_all (hr.mono (by decide)) (by rfl) m__law_meets_all k__law_meets_all b__law_meets_all .nil pass0 (pa_cons (pe_lc (own := [("other", 4)]) (g := gName 4) (by rfl) sc__law_fair.nd (pi_tup (pv 2)) (blkOk_by (own := [("other", 4)]) (N := ["told", "sets", "row", "member", "other"]) (sc := defScope s__law_fair) (by decide +kernel)) (fun _ _ _ _ _ => pg_name (i := 4) sc__law_fair.nd rfl (Or.inl rfl)) (fun _ _ _ _ _ => pts_one (pt_cmpR op_ne (pv 4) (pv 3) (nomark _))) (fun _ _ _ _ _ => (pv 4))) (pa_cons (pv 1) pa_nil))))
          (pss_one (ps_ret pe_bl))
          pss_nil))))))))
      (pss_one (ps_ret (pe_cmpR (op_eqD hr.units) (pe_callTy call_list_of (by rfl) T.z_list (by decide +kernel) (pa_cons (pv 0) pa_nil)) (pe_call G__law_in_order (hr.mono (by decide)) (by rfl) m__law_in_order k__law_in_order b__law_in_order .nil pass0 (pa_cons (pv 0) pa_nil)) (nomark _)))))), ?_⟩
  have lv := hS.1
  refine ⟨_, rfl, V.ref a, V.ty "tuple", _, _, true, rfl, .ty _, tyx_seq ha, rfl, true, rfl, iteF ?_⟩
  refine ⟨_, rfl, a, rfl, ⟨_, ha⟩, for_it (walk_tup (xs := vs)) (fun i σ H' => Same H H' ∧ ∃ y2 y3, σ = [some (.ref a), some (.ref b), y2, y3, none]) ⟨fun _ _ h => h, _, _, rfl⟩ (fun i σ H' _ h' => seqT_same h'.1 ha) ?_ ?_⟩
  · rintro i x σ H1 H2 hi ⟨s1, y2, y3, rfl⟩ ⟨rfl, hx⟩
    obtain ⟨r, hr, u, rfl, hu0⟩ := hS.at hx
    have hu := seqT_same s1 hu0
    have mr := List.mem_of_getElem? hr
    have lr := bS r mr
    obtain ⟨h1, h2, h3, h4⟩ := (mS r).mp mr
    refine ⟨_, rfl, V.ref u, V.ty "tuple", _, _, true, rfl, .ty _, tyx_seq hu, rfl, true, rfl, iteF ?_⟩
    refine ⟨_, rfl, u, rfl, ⟨_, hu⟩, fun D nD => ?_⟩
    show Exists _
    refine two_out (walk_tup (xs := r.map V.int)) (fun j H' => Same H2 H' ∧ H' D = some (.lst ((List.replicate j true).map V.bl))) ⟨same_new nD, upd_same⟩ (fun j H' _ h' => seqT_same h'.1 hu) ?_ ?_
    · rintro j x H3 H4 hj ⟨s3, hD⟩ ⟨rfl, hx⟩
      rw [List.getElem?_map] at hx
      obtain ⟨c, hc, rfl⟩ := Option.map_eq_some_iff.mp hx
      rw [List.length_map] at hj
      refine ⟨rfl, _, rfl, V.int c, V.ty "int", _, _, true, rfl, .ty _, .base (.int c), rfl, true, rfl, iteT ⟨_, rfl, V.int c, V.ty "bool", _, _, false, rfl, .ty _, .base (.int c), rfl, false, rfl, ?_⟩⟩
      refine ⟨_, hD, lt_line (by rw [List.length_map, List.length_replicate]; omega), same_mut s3 nD, ?_⟩
      rw [List.replicate_succ', List.map_append]
      exact upd_same
    · rintro H3 ⟨s3, hD⟩
      rw [List.length_map] at hD
      have ea : (List.replicate r.length true).all id = true := by
        rw [List.all_eq_true]
        intro b hb
        exact (List.mem_replicate.mp hb).2
      refine ⟨D, _, rfl, SqL.of hD, _, rfl, iteF' (by rw [ea]; rfl) ?_⟩
      refine ⟨_, rfl, u, _, r.map PyData.int, rfl, .inr (seqT_same s3 hu), dpa_ints r, (alike_intL r).1, .inl (alike_intL r).2, fun d hd => ?_, by rw [List.length_map]; omega, fun p ys H4 s4 np hp hd => ?_⟩
      · obtain ⟨z, _, rfl⟩ := List.mem_map.mp hd
        exact ⟨by simp [PyData.depth], by simp [SeqAt.shaped, PyData.canLay0, PyData.depth]⟩
      rw [onI_once, onI_id h1] at hd
      obtain rfl := ints_dpaL hd
      have s24 := s3.trans s4
      have s04 := s1.trans s24
      have hu4 := seqT_same s24 hu
      have sets : ∀ {H'}, Same H H' → SetsAt K H' b ws W := fun s => ⟨.inl (SqL.of (s _ _ hb)), hW.imp fun v xs h => by
        obtain ⟨c, e, k⟩ := h.same s
        exact ⟨c, e, .inr k⟩⟩
      refine ⟨_, rfl, tupI r, tupI r, .tup (SqT.of hp) (dpa_ints r), .tup hu4 (dpa_ints r), shaped_intsL r, shaped_intsL r, _, rfl, iteF' (by show (!PyData.eqv (.tuple (r.map PyData.int)) (.tuple (r.map PyData.int))) = false; rw [eqv_tupL]; simp) ⟨_, rfl, _, rfl, u, b, r, ws, W, rfl, .inr hu4, sets s04, _, rfl, iteF' (by rw [hitsB_iff.mpr ((hits_rows mW r).mpr h3)]; rfl) ?_⟩⟩
      refine ⟨_, rfl, u, rfl, ⟨_, hu4⟩, for_it (walk_tup (xs := r.map V.int)) (fun j σ H' => Same H H' ∧ Same H4 H' ∧ ∃ y3, σ = [some (.ref a), some (.ref b), some (.ref u), y3, none]) ⟨s04, fun _ _ h => h, _, rfl⟩ (fun j σ H' _ h' => seqT_same h'.2.1 hu4) ?_ ?_⟩
      · rintro j x σ H5 H6 hj ⟨s5, s45, y3, rfl⟩ ⟨rfl, hx⟩
        rw [List.getElem?_map] at hx
        obtain ⟨c, hc, rfl⟩ := Option.map_eq_some_iff.mp hx
        have hu6 := seqT_same s45 hu4
        refine ⟨_, rfl, u, rfl, ⟨_, hu6⟩, fun E nE => ?_⟩
        show Exists _
        refine two_out (walk_tup (xs := r.map V.int)) (fun k H' => Same H6 H' ∧ H' E = some (.lst (((r.take k).filter fun y => !decide (y = c)).map V.int))) ⟨same_new nE, upd_same⟩ (fun k H' _ h' => seqT_same h'.1 hu6) ?_ ?_
        · rintro k x H7 H8 hk ⟨s7, hE⟩ ⟨rfl, hx⟩
          rw [List.getElem?_map] at hx
          obtain ⟨y, hy, rfl⟩ := Option.map_eq_some_iff.mp hx
          rw [List.length_map] at hk
          have ln := List.length_filter_le (fun y => !decide (y = c)) (r.take k)
          rw [List.length_take] at ln
          have eq : decide (V.int y = V.int c) = decide (y = c) := by
            rw [Bool.eq_iff_iff, decide_eq_true_iff, decide_eq_true_iff]
            exact ⟨fun h => V.int.inj h, fun h => congrArg V.int h⟩
          refine ⟨rfl, _, rfl, _, rfl, rfl, _, rfl, ite2 (fun e => ?_) (fun e => ?_)⟩
          · rw [eq] at e
            refine ⟨_, rfl, _, hE, lt_line (by rw [List.length_map]; omega), same_mut s7 nE, ?_⟩
            rw [take_succ_at hy, List.filter_append, List.filter_cons_of_pos (by exact e), List.map_append]
            exact upd_same
          · rw [eq] at e
            refine ⟨s7, ?_⟩
            rw [take_succ_at hy, List.filter_append, List.filter_cons_of_neg (by exact e), List.filter_nil, List.append_nil]
            exact hE
        · rintro H7 ⟨s7, hE⟩
          rw [List.length_map, List.take_length] at hE
          have no : hitsB W (r.filter fun y => !decide (y = c)) = false := by
            rw [← Bool.not_eq_true]
            intro h
            have := h4 _ (fun z hz => (List.mem_filter.mp hz).1) ((hits_rows mW _).mp (hitsB_iff.mp h)) c (List.mem_of_getElem? hc)
            have := (List.mem_filter.mp this).2
            simp at this
          refine ⟨_, rfl, E, b, _, ws, W, rfl, .inl (SqL.of hE), sets (s5.trans s7), _, rfl, iteF' no ⟨s5.trans s7, s45.trans s7, _, rfl⟩⟩
      · rintro σ H5 ⟨s5, _, y3, rfl⟩
        exact ⟨s5, _, _, rfl⟩
  · rintro σ H1 ⟨s1, y2, y3, rfl⟩
    refine ⟨_, rfl, a, _, rfl, .inr (seqT_same s1 ha), fun l nl => ?_⟩
    have sl := s1.trans (same_new (o := .lst vs) nl)
    have hl := upd_same (H := H1) (a := l) (o := .lst vs)
    generalize upd H1 l (.lst vs) = H2 at sl hl ⊢
    refine ⟨_, rfl, a, vs, S, rfl, .inr (seqT_same sl ha), hS.imp fun _ _ h => h.same sl, by omega, fun p ws2 H3 s3 np hp hw => ?_⟩
    rw [onL_id pS] at hw
    have s03 := sl.trans s3
    have d1 : ∀ {H'} {xs : List V}, All2 (RowT K H') xs S → DpAll K H' xs (S.map tupI) := fun h => dpa_of tupI h.1 fun i x r hx hr => by
      obtain ⟨b, rfl, k⟩ := h.2 i x r hx hr
      exact .tup k (dpa_ints r)
    refine ⟨_, _, .lst (SqL.of (s3 _ _ hl)) (d1 (hS.imp fun _ _ h => h.same s03)), .lst (SqL.of hp) (d1 hw), shaped_rows S, shaped_rows S, ?_⟩
    rw [eqv_self (shaped_rows S)]
    exact q H3 s03


end
end Pf

namespace Pf
open PySem PySem.Spec PyProof.Rows L2
section
variable {P : Program} {w : World} {K : PySem.W.Frag} {mg : Str → Option Value} {base : Heap}
theorem op_catAL {X : Cx} {K : PySem.W.Frag} (h : X.K = K) : OpR X (binaryOp .Add) (rCatA K) := h ▸ op_catA
/-! ### all sets of some integers that ascend -/
def subsI (ns : List Int) : List (List Int) := ns.foldl (fun R m => R ++ R.map (· ++ [m])) [[]]
theorem subsI_snoc (ns : List Int) (m : Int) : subsI (ns ++ [m]) = subsI ns ++ (subsI ns).map (· ++ [m]) := by
  unfold subsI
  rw [List.foldl_append]
  rfl
theorem subsI_len (ns : List Int) : (subsI ns).length = 2 ^ ns.length := by
  induction ns using snoc_indL with
  | nil => rfl
  | snoc ns m ih =>
    rw [subsI_snoc, List.length_append, List.length_map, ih, List.length_append, List.length_singleton, Nat.pow_succ]
    omega
theorem subsI_mem (ns : List Int) : ns.Pairwise (· < ·) → ∀ r, r ∈ subsI ns ↔ r.Pairwise (· < ·) ∧ ∀ z ∈ r, z ∈ ns := by
  induction ns using snoc_indL with
  | nil =>
    intro _ r
    show r ∈ [[]] ↔ _
    rw [List.mem_singleton]
    constructor
    · rintro rfl
      exact ⟨.nil, fun _ h => h⟩
    · rintro ⟨_, h⟩
      cases r with
      | nil => rfl
      | cons x r => exact nomatch h x List.mem_cons_self
  | snoc ns m ih =>
    intro h r
    rw [List.pairwise_append] at h
    have ih := ih h.1
    have lt : ∀ x ∈ ns, x < m := fun x hx => h.2.2 x hx m List.mem_cons_self
    rw [subsI_snoc, List.mem_append, List.mem_map, ih]
    constructor
    · rintro (⟨h1, h2⟩ | ⟨s, hs, rfl⟩)
      · exact ⟨h1, fun z hz => List.mem_append_left _ (h2 z hz)⟩
      · obtain ⟨h1, h2⟩ := (ih s).mp hs
        refine ⟨List.pairwise_append.mpr ⟨h1, List.pairwise_singleton _ _, fun x hx y hy => by rw [List.mem_singleton.mp hy]; exact lt x (h2 x hx)⟩, fun z hz => ?_⟩
        rcases List.mem_append.mp hz with hz | hz
        · exact List.mem_append_left _ (h2 z hz)
        · exact List.mem_append_right _ hz
    · rintro ⟨h1, h2⟩
      by_cases c : m ∈ r
      · right
        rcases List.eq_nil_or_concat r with e | ⟨s, x, e⟩
        · rw [e] at c
          cases c
        · rw [List.concat_eq_append] at e
          subst e
          rw [List.pairwise_append] at h1
          have xm : x = m := by
            rcases List.mem_append.mp c with c | c
            · have a := h1.2.2 m c x List.mem_cons_self
              rcases List.mem_append.mp (h2 x (List.mem_append_right _ List.mem_cons_self)) with b | b
              · have := lt x b
                omega
              · exact List.mem_singleton.mp b
            · exact (List.mem_singleton.mp c).symm
          subst xm
          refine ⟨s, (ih s).mpr ⟨h1.1, fun z hz => ?_⟩, rfl⟩
          have := h1.2.2 z hz x List.mem_cons_self
          rcases List.mem_append.mp (h2 z (List.mem_append_left _ hz)) with b | b
          · exact b
          · have := List.mem_singleton.mp b
            omega
      · left
        refine ⟨h1, fun z hz => ?_⟩
        rcases List.mem_append.mp (h2 z hz) with b | b
        · exact b
        · rw [List.mem_singleton.mp b] at hz
          exact absurd hz c
theorem subsI_nd (ns : List Int) : ns.Pairwise (· < ·) → (subsI ns).Nodup := by
  induction ns using snoc_indL with
  | nil => exact fun _ => by simp [subsI]
  | snoc ns m ih =>
    intro h
    rw [List.pairwise_append] at h
    have lt : ∀ x ∈ ns, x < m := fun x hx => h.2.2 x hx m List.mem_cons_self
    rw [subsI_snoc, List.nodup_append]
    refine ⟨ih h.1, ?_, fun a ha b hb e => ?_⟩
    · show List.Pairwise _ _
      rw [List.pairwise_map]
      exact (ih h.1).imp fun ne e => ne (List.append_cancel_right e)
    · subst e
      obtain ⟨s, _, rfl⟩ := List.mem_map.mp hb
      have := ((subsI_mem ns h.1 _).mp ha).2 m (List.mem_append_right _ List.mem_cons_self)
      have := lt m this
      omega
/-- the least of what meets all, out of the rows in order -/
def hasB (F : List (List Int)) (r : List Int) : Bool := F.any fun o => o.all fun x => decide (x ∈ r)
theorem hasB_iff {F : List (List Int)} {r : List Int} : hasB F r = true ↔ ∃ o ∈ F, ∀ x ∈ o, x ∈ r := by
  unfold hasB
  rw [List.any_eq_true]
  refine exists_congr fun o => and_congr_right fun _ => ?_
  rw [List.all_eq_true]
  exact ⟨fun h x hx => of_decide_eq_true (h x hx), fun h x hx => decide_eq_true (h x hx)⟩
def leastF (W S : List (List Int)) : List (List Int) := S.foldl (fun F r => if hitsB W r && !hasB F r then F ++ [r] else F) []
theorem leastF_snoc (W S : List (List Int)) (r : List Int) : leastF W (S ++ [r]) = if hitsB W r && !hasB (leastF W S) r then leastF W S ++ [r] else leastF W S := by
  unfold leastF
  rw [List.foldl_append]
  rfl
theorem leastF_sub (W S : List (List Int)) : (leastF W S).Sublist S := by
  induction S using snoc_indL with
  | nil => exact List.Sublist.refl _
  | snoc S r ih =>
    rw [leastF_snoc]
    split
    · exact ih.append (List.Sublist.refl _)
    · exact ih.trans (List.sublist_append_left _ _)
theorem hits_sub {W : List (List Int)} {o r : List Int} (h : HitsR W o) (s : ∀ z ∈ o, z ∈ r) : HitsR W r := fun xs hx => by
  obtain ⟨x, h1, h2⟩ := h xs hx
  exact ⟨x, h1, s x h2⟩
/-- rows that come by their number of members, and with each all its parts -/
theorem leastF_ok (W : List (List Int)) (S : List (List Int)) : S.Pairwise rlL → (∀ r ∈ S, r.Pairwise (· < ·)) → (∀ r ∈ S, ∀ o : List Int, o.Pairwise (· < ·) → (∀ z ∈ o, z ∈ r) → o ∈ S) →
    ∀ r, r ∈ leastF W S ↔ r ∈ S ∧ HitsR W r ∧ ∀ o : List Int, o.Pairwise (· < ·) → (∀ z ∈ o, z ∈ r) → HitsR W o → o = r := by
  induction S using snoc_indL with
  | nil =>
    intro _ _ _ r
    constructor
    · intro h
      cases h
    · rintro ⟨h, _⟩
      cases h
  | snoc S x ih =>
    intro h1 h2 h3
    have p := List.pairwise_append.mp h1
    have down : ∀ r ∈ S, ∀ o : List Int, o.Pairwise (· < ·) → (∀ z ∈ o, z ∈ r) → o ∈ S := fun r hr o ho hs => by
      rcases List.mem_append.mp (h3 r (List.mem_append_left _ hr) o ho hs) with k | k
      · exact k
      · rw [List.mem_singleton.mp k] at hs ho ⊢
        by_cases e : x = r
        · rw [e]; exact hr
        · have a := asc_short ho (h2 r (List.mem_append_left _ hr)) e hs
          rcases p.2.2 r hr x List.mem_cons_self with b | ⟨b, _⟩ <;> omega
    have ih := ih p.1 (fun r hr => h2 r (List.mem_append_left _ hr)) down
    have hx := h2 x (List.mem_append_right _ List.mem_cons_self)
    have key : (hitsB W x && !hasB (leastF W S) x) = true ↔ HitsR W x ∧ ∀ o : List Int, o.Pairwise (· < ·) → (∀ z ∈ o, z ∈ x) → HitsR W o → o = x := by
      rw [Bool.and_eq_true, hitsB_iff, Bool.not_eq_true']
      refine and_congr_right fun hh => ?_
      constructor
      · intro k o ho hs hho
        refine Classical.byContradiction fun ne => ?_
        -- the least of such parts
        have big : ∀ (n : Nat) (o : List Int), o.length ≤ n → o.Pairwise (· < ·) → (∀ z ∈ o, z ∈ x) → HitsR W o → o ≠ x → False := by
          intro n
          induction n with
          | zero =>
            intro o l ho hs hho ne
            have oS : o ∈ S := by
              rcases List.mem_append.mp (h3 x (List.mem_append_right _ List.mem_cons_self) o ho hs) with c | c
              · exact c
              · exact absurd (List.mem_singleton.mp c) ne
            have e0 : o = [] := List.eq_nil_of_length_eq_zero (by omega)
            have : o ∈ leastF W S := (ih o).mpr ⟨oS, hho, fun q hq hqs _ => by
              rw [e0] at hqs ⊢
              cases q with
              | nil => rfl
              | cons z q => exact nomatch hqs z List.mem_cons_self⟩
            have := hasB_iff.mpr ⟨o, this, hs⟩
            rw [k] at this
            cases this
          | succ n ihn =>
            intro o l ho hs hho ne
            have oS : o ∈ S := by
              rcases List.mem_append.mp (h3 x (List.mem_append_right _ List.mem_cons_self) o ho hs) with c | c
              · exact c
              · exact absurd (List.mem_singleton.mp c) ne
            by_cases c : ∀ q : List Int, q.Pairwise (· < ·) → (∀ z ∈ q, z ∈ o) → HitsR W q → q = o
            · have := hasB_iff.mpr ⟨o, (ih o).mpr ⟨oS, hho, c⟩, hs⟩
              rw [k] at this
              cases this
            · have : ∃ q : List Int, q.Pairwise (· < ·) ∧ (∀ z ∈ q, z ∈ o) ∧ HitsR W q ∧ q ≠ o := Classical.byContradiction fun n => c fun q a b d => Classical.byContradiction fun e => n ⟨q, a, b, d, e⟩
              obtain ⟨q, a, b, d, e⟩ := this
              have lq := asc_short a ho e b
              have lo := asc_short ho hx ne hs
              exact ihn q (by omega) a (fun z hz => hs z (b z hz)) d fun e2 => by rw [e2] at lq; omega
        exact big _ o (Nat.le_refl _) ho hs hho ne
      · intro k
        rw [← Bool.not_eq_true]
        intro hb
        obtain ⟨o, ho, hs⟩ := hasB_iff.mp hb
        obtain ⟨oS, hho, _⟩ := (ih o).mp ho
        have e := k o (h2 o (List.mem_append_left _ oS)) hs hho
        rw [e] at oS
        exact rlL_irrefl x (p.2.2 x oS x List.mem_cons_self)
    intro r
    rw [leastF_snoc]
    split
    · next c =>
      rw [List.mem_append, List.mem_singleton, List.mem_append, List.mem_singleton, ih]
      constructor
      · rintro (⟨a, b⟩ | rfl)
        · exact ⟨.inl a, b⟩
        · exact ⟨.inr rfl, key.mp c⟩
      · rintro ⟨a | rfl, b⟩
        · exact .inl ⟨a, b⟩
        · exact .inr rfl
    · next c =>
      rw [List.mem_append, List.mem_singleton, ih]
      constructor
      · rintro ⟨a, b⟩
        exact ⟨.inl a, b⟩
      · rintro ⟨a | rfl, b⟩
        · exact ⟨a, b⟩
        · exact absurd (key.mpr b) c


theorem sets_rowT {K : PySem.W.Frag} {H : Hp} {a : Addr} {ws : List V} {S : List (List Int)} (h : H a = some (.tup ws)) (hw : All2 (RowT K H) ws S) : SetsAt K H a ws S := ⟨.inr (SqT.of h), hw.imp fun v xs ⟨b, e, k⟩ => ⟨b, e, .inr k⟩⟩
theorem rowT_sameA {K : PySem.W.Frag} {H H' : Hp} {ws : List V} {S : List (List Int)} (e : Same H H') (h : All2 (RowT K H) ws S) : All2 (RowT K H') ws S := h.imp fun _ _ r => r.same e
theorem rowI_same {A : List Addr} {H H' : Hp} {vs : List V} {L : List (List Int)} (e : Same H H') (h : All2 (RowI A H) vs L) : All2 (RowI A H') vs L := h.imp fun v xs ⟨a, ea, n, k⟩ => ⟨a, ea, n, e _ _ k⟩
def sp_law (K : PySem.W.Frag) : Sp := fun vs H Q _ => ∃ (a : Addr) (ns : List Int), vs = [.ref a] ∧ SqL K H a (ns.map V.int) ∧ ns.length ≤ 63 ∧ ∀ H', Q (.bl true) H'
theorem ok_law {f : Addr} {fd : FuncData} (T : Txt K mg) (F : Fun K "law" "law" s_law f fd) : FnOk P w K mg base CX0 6 f fd ["script"] (sp_law K) := by
  obtain ⟨f__law_drawn, fd__law_drawn, G__law_drawn, m__law_drawn, k__law_drawn, b__law_drawn⟩ := ok__law_drawn (P := P) (w := w) (base := base) T
  obtain ⟨f__law_reader, fd__law_reader, G__law_reader, m__law_reader, k__law_reader, b__law_reader⟩ := ok__law_reader (P := P) (w := w) (base := base) T
  obtain ⟨f__law_cell, fd__law_cell, G__law_cell, m__law_cell, k__law_cell, b__law_cell⟩ := ok__law_cell (P := P) (w := w) (base := base) T
  obtain ⟨f__law_in_order, fd__law_in_order, G__law_in_order, m__law_in_order, k__law_in_order, b__law_in_order⟩ := ok__law_in_order (P := P) (w := w) (base := base) T
  obtain ⟨f__law_once, fd__law_once, G__law_once, m__law_once, k__law_once, b__law_once⟩ := ok__law_once (P := P) (w := w) (base := base) T
  obtain ⟨f__law_next, fd__law_next, G__law_next, m__law_next, k__law_next, b__law_next⟩ := ok__law_next (P := P) (w := w) (base := base) T
  obtain ⟨f__law_passed, fd__law_passed, G__law_passed, m__law_passed, k__law_passed, b__law_passed⟩ := ok__law_passed (P := P) (w := w) (base := base) T
  obtain ⟨f_transversals, fd_transversals, G_transversals, m_transversals, k_transversals, b_transversals⟩ := ok_transversals (P := P) (w := w) (base := base) T
  obtain ⟨f__law_fair, fd__law_fair, G__law_fair, m__law_fair, k__law_fair, b__law_fair⟩ := ok__law_fair (P := P) (w := w) (base := base) T
  obtain ⟨f__law_stays, fd__law_stays, G__law_stays, m__law_stays, k__law_stays, b__law_stays⟩ := ok__law_stays (P := P) (w := w) (base := base) T
  obtain ⟨f__law_told, fd__law_told, G__law_told, m__law_told, k__law_told, b__law_told⟩ := ok__law_told (P := P) (w := w) (base := base) T
  obtain ⟨f__law_minimal, fd__law_minimal, G__law_minimal, m__law_minimal, k__law_minimal, b__law_minimal⟩ := ok__law_minimal (P := P) (w := w) (base := base) T
  refine F.ok sc_law (fun vs H Q E h => ?_) (fun cdv A outer s H vs Q E hr h => ?_)
  · obtain ⟨sc, ns, rfl, hS, hl, q⟩ := h
    rfl
  obtain ⟨sc, ns, rfl, hS, hl, q⟩ := h
  refine ⟨_, (pss_cons (ps_set (i := 1) sc_law.nd rfl (.inl rfl) (pe_call G__law_drawn (hr.mono (by decide)) (by rfl) m__law_drawn k__law_drawn b__law_drawn .nil pass0 (pa_cons (pe_call G__law_reader (hr.mono (by decide)) (by rfl) m__law_reader k__law_reader b__law_reader .nil pass0 (pa_cons (pe_call G__law_cell (hr.mono (by decide)) (by rfl) m__law_cell k__law_cell b__law_cell .nil pass0 (pa_cons (pv 0) (pa_cons pe_int pa_nil))) pa_nil)) pa_nil)))
      (pss_cons (ps_set (i := 2) sc_law.nd rfl (.inl rfl) (pe_call G__law_in_order (hr.mono (by decide)) (by rfl) m__law_in_order k__law_in_order b__law_in_order .nil pass0 (pa_cons (pe_lc (own := [("members", 8)]) (g := gName 8) (by rfl) sc_law.nd (pi_list (pv 1)) (blkOk_by (own := [("members", 8)]) (N := ["script", "sets", "plain", "form", "passed", "first", "handed", "second", "members", "row"]) (sc := defScope s_law) (by decide +kernel)) (fun _ _ _ _ _ => pg_name (i := 8) sc_law.nd rfl (Or.inl rfl)) (fun _ _ _ _ _ => pts_nil) (fun _ _ _ _ _ => (pe_call G__law_once (hr.mono (by decide)) (by rfl) m__law_once k__law_once b__law_once .nil pass0 (pa_cons (pv 8) pa_nil)))) pa_nil)))
      (pss_cons (ps_set (i := 3) sc_law.nd rfl (.inl rfl) (pe_call G__law_next (hr.mono (by decide)) (by rfl) m__law_next k__law_next b__law_next .nil pass0 (pa_cons (pe_call G__law_reader (hr.mono (by decide)) (by rfl) m__law_reader k__law_reader b__law_reader .nil pass0 (pa_cons (pe_call G__law_cell (hr.mono (by decide)) (by rfl) m__law_cell k__law_cell b__law_cell .nil pass0 (pa_cons (pv 0) (pa_cons pe_int pa_nil))) pa_nil)) (pa_cons pe_int pa_nil))))
      (pss_cons (ps_set (i := 4) sc_law.nd rfl (.inl rfl) (pe_call G__law_passed (hr.mono (by decide)) (by rfl) m__law_passed k__law_passed b__law_passed .nil pass0 (pa_cons (pv 1) (pa_cons (pv 3) pa_nil))))
      (pss_cons (ps_set (i := 5) sc_law.nd rfl (.inl rfl) (pe_call G_transversals (hr.mono (by decide)) (by rfl) m_transversals k_transversals b_transversals .nil pass0 (pa_cons (pv 4) pa_nil)))
      (pss_cons (ps_if (PW.pt (pw_or (pt_not (pt_val (pe_call G__law_fair (hr.mono (by decide)) (by rfl) m__law_fair k__law_fair b__law_fair .nil pass0 (pa_cons (pv 5) (pa_cons (pv 2) pa_nil))))) (pw_or1 (pt_not (pt_val (pe_call G__law_stays (hr.mono (by decide)) (by rfl) m__law_stays k__law_stays b__law_stays .nil pass0 (pa_cons (pv 4) (pa_cons (pv 1) pa_nil))))))))
      (pss_one (ps_ret pe_bl))
      pss_nil)
      (pss_cons (ps_set (i := 6) sc_law.nd rfl (.inl rfl) (pe_call G__law_passed (hr.mono (by decide)) (by rfl) m__law_passed k__law_passed b__law_passed .nil pass0 (pa_cons (pv 5) (pa_cons (pe_op op_sub pe_int (pv 3)) pa_nil))))
      (pss_cons (ps_set (i := 7) sc_law.nd rfl (.inl rfl) (pe_call G_transversals (hr.mono (by decide)) (by rfl) m_transversals k_transversals b_transversals .nil pass0 (pa_cons (pv 6) pa_nil)))
      (pss_cons (ps_if (PW.pt (pw_or (pt_not (pt_val (pe_call G__law_told (hr.mono (by decide)) (by rfl) m__law_told k__law_told b__law_told .nil pass0 (pa_cons (pv 7) (pa_cons (pe_call G__law_minimal (hr.mono (by decide)) (by rfl) m__law_minimal k__law_minimal b__law_minimal .nil pass0 (pa_cons (pv 2) pa_nil)) pa_nil))))) (pw_or1 (pt_not (pt_val (pe_call G__law_stays (hr.mono (by decide)) (by rfl) m__law_stays k__law_stays b__law_stays .nil pass0 (pa_cons (pv 6) (pa_cons (pe_lc (own := [("row", 9)]) (g := gName 9) (by rfl) sc_law.nd (pi_tup (pv 5)) (blkOk_by (own := [("row", 9)]) (N := ["script", "sets", "plain", "form", "passed", "first", "handed", "second", "members", "row"]) (sc := defScope s_law) (by decide +kernel)) (fun _ _ _ _ _ => pg_name (i := 9) sc_law.nd rfl (Or.inl rfl)) (fun _ _ _ _ _ => pts_nil) (fun _ _ _ _ _ => (pe_callTy (call_list_ofK (K := K) rfl) (by rfl) T.z_list (by decide +kernel) (pa_cons (pv 9) pa_nil)))) pa_nil))))))))
      (pss_one (ps_ret pe_bl))
      pss_nil)
      (pss_cons (ps_if (pt_not (pt_val (pe_call G__law_told (hr.mono (by decide)) (by rfl) m__law_told k__law_told b__law_told .nil pass0 (pa_cons (pe_call G_transversals (hr.mono (by decide)) (by rfl) m_transversals k_transversals b_transversals .nil pass0 (pa_cons (pe_call G__law_passed (hr.mono (by decide)) (by rfl) m__law_passed k__law_passed b__law_passed .nil pass0 (pa_cons (pv 7) (pa_cons (pv 3) pa_nil))) pa_nil)) (pa_cons (pv 5) pa_nil)))))
      (pss_one (ps_ret pe_bl))
      pss_nil)
      (pss_one (ps_ret (pe_and (pe_call G__law_told (hr.mono (by decide)) (by rfl) m__law_told k__law_told b__law_told .nil pass0 (pa_cons (pe_call G_transversals (hr.mono (by decide)) (by rfl) m_transversals k_transversals b_transversals .nil pass0 (pa_cons (pv 4) pa_nil)) (pa_cons (pv 5) pa_nil))) (pe_one (pe_call G__law_stays (hr.mono (by decide)) (by rfl) m__law_stays k__law_stays b__law_stays .nil pass0 (pa_cons (pv 4) (pa_cons (pv 1) pa_nil))))))))))))))))), ?_⟩
  refine ⟨_, rfl, sc, ns, 0, rfl, hS, fun c0 => ⟨c0, rfl, fun r0 H1 n0 e1 R1 => ⟨r0, rfl, R1, fun t is vs L H2 f2 R2 tr i8 ht hA lL lb => ?_⟩⟩⟩
  have s02 := f2.back e1 n0
  have A2 : All2 (RowI [] H2) vs L := hA.imp fun v xs ⟨a, ea, _, k⟩ => ⟨a, ea, List.not_mem_nil, k⟩
  have bL : ∀ xs ∈ L, xs.length ≤ 100 := fun xs h => by have := (lb xs h).1; omega
  clear hA f2 R2 tr e1 R1
  have lv := A2.1
  refine ⟨_, rfl, t, rfl, ⟨_, SqL.of ht⟩, fun D nD => ?_⟩
  show Exists _
  refine two_out (walk_list (xs := vs)) (fun i H' => Same H2 H' ∧ ∃ ts, H' D = some (.lst ts) ∧ All2 (fun v (r : List Int) => ∃ p, v = .ref p ∧ H' p = some (.tup (r.map V.int))) ts ((L.take i).map onI)) ⟨same_new nD, [], upd_same, All2.nil⟩ (fun i H' _ h' => h'.1.seq (SqL.of ht)) ?_ ?_
  · rintro i x HA HB hi ⟨s1, ts, hD, hP⟩ ⟨rfl, hx⟩
    obtain ⟨xs, hxs, a, rfl, _, ha⟩ := A2.at hx
    have l1 := bL xs (List.mem_of_getElem? hxs)
    have lt := hP.1
    rw [List.length_map, List.length_take] at lt
    refine ⟨rfl, _, rfl, a, _, xs.map PyData.int, rfl, .inl (SqL.of (s1 _ _ ha)), dpa_ints xs, (alike_intL xs).1, .inl (alike_intL xs).2, fun d hd => ?_, by rw [List.length_map]; omega, fun p ys H3 s3 np hp hd => ?_⟩
    · obtain ⟨z, _, rfl⟩ := List.mem_map.mp hd
      exact ⟨by simp [PyData.depth], by simp [SeqAt.shaped, PyData.canLay0, PyData.depth]⟩
    · rw [onI_once] at hd
      obtain rfl := ints_dpaL hd
      have pD : p ≠ D := fun e => by rw [e, hD] at np; cases np
      refine ⟨ts, s3 _ _ hD, lt_line (by omega), same_mut (s1.trans s3) nD, _, upd_same, ?_⟩
      rw [take_succ_at hxs, List.map_append]
      exact (hP.imp fun v r ⟨p2, e, h1⟩ => ⟨p2, e, (upd_ne fun e2 => by rw [e2, hD] at h1; cases h1).trans (s3 _ _ h1)⟩).app (All2.one ⟨p, rfl, (upd_ne pD).trans hp⟩)
  rintro H3 ⟨s3, ps, hD, hP⟩
  rw [lv, List.take_length] at hP
  refine ⟨D, ps, L.map onI, rfl, .inl (SqL.of hD), hP.imp fun v r ⟨p, e, h⟩ => ⟨p, e, SqT.of h⟩, by rw [List.length_map]; omega, fun pp pws H4 s4 _ hpp hW => ?_⟩
  have pW := onL_lt (L.map onI)
  have mW : ∀ r, r ∈ onL (L.map onI) ↔ RsR L r := fun r => rsR_on
  have minW : ∀ r, r ∈ (onL (L.map onI)).filter (fun r => !anyMin (onL (L.map onI)) r) ↔ MinR L r := fun r => minR_on
  have lW : (onL (L.map onI)).length ≤ 80 := by
    have := onL_len (L.map onI)
    rw [List.length_map] at this
    omega
  generalize onL (L.map onI) = W at hW pW mW minW lW
  have s24 := s3.trans s4
  clear hP hD s3 s4
  refine ⟨_, rfl, sc, ns, 1, rfl, (s02.trans s24).seq hS, fun c1 => ⟨c1, rfl, fun r1 H5 n1 e5 R5 => ⟨r1, 4, rfl, R5, by decide, by decide, fun fm H6 f6 R6 fm0 fm1 => ?_⟩⟩⟩
  have s46 := f6.back e5 n1
  obtain ⟨f, rfl⟩ := Int.eq_ofNat_of_zero_le fm0
  have s26 := s24.trans s46
  have t6 := s26 _ _ ht
  have A6 := rowI_same s26 A2
  have hpp6 := s46 _ _ hpp
  have hW6 := rowT_sameA s46 hW
  clear A2 ht hpp hW s46 s26 s24 f6 R6 e5 R5
  refine ⟨_, rfl, _, rfl, t, f, vs, L, rfl, ⟨.inl (SqL.of t6), A6.imp fun v xs ⟨a, e, _, k⟩ => ⟨a, e, .inl (SqL.of k)⟩⟩, by omega, fun pu pw H7 s7 hP => ?_⟩
  refine ⟨_, rfl, pu, pw, L, is, rfl, hP, fun xs h => (lb xs h).2, by omega, by omega, fun fa fw S H8 s8 _ hf hfw pS mS => ?_⟩
  have sub : ∀ r ∈ S, ∀ x ∈ r, x ∈ is := fun r hr x hx => by
    obtain ⟨xs, h1, h2⟩ := ((mS r).mp hr).2.1 x hx
    exact (lb xs h1).2 x h2
  have bS : ∀ r ∈ S, r.length ≤ 100 := fun r hr => by
    have := nodup_le (asc_nd ((mS r).mp hr).1) (sub r hr)
    omega
  have lS : S.length ≤ 256 := by
    have a := nodup_le (rl_nd pS) (ys := subsI (onI is)) fun r hr => (subsI_mem _ (onI_asc is) r).mpr ⟨((mS r).mp hr).1, fun z hz => (onI_mem is z).mpr (sub r hr z hz)⟩
    rw [subsI_len] at a
    exact Nat.le_trans a (two_le (b := 8) (Nat.le_trans (onI_len is) i8))
  have s68 := s7.trans s8
  refine ⟨_, rfl, _, rfl, fa, pp, fw, pws, S, L, W, rfl, SqT.of hf, hfw, by omega, bS, pS, mS, s68 _ _ hpp6, rowT_sameA s68 hW6, mW, fun H9 s9 => ⟨_, rfl, iteF ?_⟩⟩
  have s89 := s8.trans s9
  refine ⟨_, rfl, _, rfl, pu, t, pw, vs, L, rfl, hP.same s89, (s7.trans s89) _ _ t6, rowI_same (s7.trans s89) A6, by omega, bL, fun H10 s10 => ⟨_, rfl, iteF ?_⟩⟩
  have s80 := s9.trans s10
  refine ⟨_, rfl, _, rfl, 3, f, rfl, rfl, fa, 3 - f, fw, S, congrArg (fun z => [V.ref fa, V.int z]) (by omega), sets_rowT (s80 _ _ hf) (rowT_sameA s80 hfw), by omega, fun hu hw H11 s11 hH => ?_⟩
  refine ⟨_, rfl, hu, hw, S, is, rfl, hH, sub, by omega, by omega, fun sa sw S2 H12 s12 _ hs hsw p2 m2 => ?_⟩
  have s8B := s80.trans (s11.trans s12)
  have e2 : S2 = W.filter fun r => !anyMin W r := rl_uniq p2 (pW.filter _) fun r => (m2 r).trans ((trv_dual mS r).trans (minW r).symm)
  have hS2 : ∀ r, r ∈ S2 ↔ MinR L r := fun r => (m2 r).trans (trv_dual mS r)
  have sub2 : ∀ r ∈ S2, ∀ x ∈ r, x ∈ is := fun r hr x hx => by
    obtain ⟨⟨xs, h1, _, h2⟩, _⟩ := (hS2 r).mp hr
    exact (lb xs h1).2 x ((h2 x).mp hx)
  have bS2 : ∀ r ∈ S2, r.length ≤ 100 := fun r hr => by
    have := nodup_le (asc_nd ((hS2 r).mp hr).1.asc) (sub2 r hr)
    omega
  have lS2 : S2.length ≤ 80 := by
    rw [e2]
    exact Nat.le_trans (List.length_filter_le _ _) lW
  refine ⟨_, rfl, _, rfl, pp, pws, W, rfl, (s68.trans s8B) _ _ hpp6, rowT_sameA (s68.trans s8B) hW6, by omega, fun mp mws H13 s13 _ hmp hmw => ?_⟩
  rw [← e2] at hmw
  refine ⟨sa, mp, sw, mws, S2, rfl, SqT.of (s13 _ _ hs), rowT_sameA s13 hsw, .inl (SqL.of hmp), hmw, by omega, bS2, _, rfl, iteF ?_⟩
  have s8C := s8B.trans s13
  refine ⟨_, rfl, _, rfl, fa, rfl, ⟨_, SqT.of (s8C _ _ hf)⟩, fun E nE => ?_⟩
  have lfw := hfw.1
  refine two_out (walk_tup (xs := fw)) (fun i H' => Same H13 H' ∧ ∃ ts, H' E = some (.lst ts) ∧ All2 (fun v (xs : List Int) => ∃ a, v = .ref a ∧ a ≠ E ∧ H' a = some (.lst (xs.map V.int))) ts (S.take i)) ⟨same_new nE, [], upd_same, All2.nil⟩ (fun i H' _ h' => seqT_same h'.1 (SqT.of (s8C _ _ hf))) ?_ ?_
  · rintro i x HA HB hi ⟨s1, ts, hE, hP2⟩ ⟨rfl, hx⟩
    obtain ⟨r, hr, u, rfl, hu⟩ := hfw.at hx
    have lt := hP2.1
    rw [List.length_take] at lt
    refine ⟨rfl, _, rfl, u, _, rfl, .inr (seqT_same (s8C.trans s1) hu), fun l nl => ⟨ts, same_new nl _ _ hE, lt_line (by omega), same_mut (s1.trans (same_new nl)) nE, _, upd_same, ?_⟩⟩
    have lE : l ≠ E := fun e => by rw [e, hE] at nl; cases nl
    rw [take_succ_at hr]
    exact (hP2.imp fun v ys ⟨b, e, n, k⟩ => ⟨b, e, n, (upd_ne n).trans (same_new nl _ _ k)⟩).app (All2.one ⟨l, rfl, lE, (upd_ne lE).trans upd_same⟩)
  rintro H14 ⟨s14, ts, hE, hP2⟩
  rw [lfw, List.take_length] at hP2
  have s13E := s13.trans s14
  have s8D := s8C.trans s14
  refine ⟨hu, E, hw, ts, S, rfl, hH.same (s12.trans s13E), hE, hP2.imp fun v xs ⟨a, e, _, k⟩ => ⟨a, e, List.not_mem_nil, k⟩, by omega, bS, fun H15 s15 => ⟨_, rfl, iteF ?_⟩⟩
  have s13F := s13E.trans s15
  have s8F := s8D.trans s15
  -- three times
  refine ⟨_, rfl, _, rfl, sa, f, sw, S2, rfl, sets_rowT (s13F _ _ hs) (rowT_sameA s13F hsw), by omega, fun tu tw H16 s16 hT => ?_⟩
  refine ⟨tu, tw, S2, is, rfl, hT, sub2, by omega, by omega, fun ta taw S3 H17 s17 _ hta htaw p3 m3 => ?_⟩
  have e3 : S3 = S := rl_uniq p3 pS fun r => (m3 r).trans ((trv_least hS2 r).trans (mS r).symm)
  subst e3
  have s8G := s8F.trans (s16.trans s17)
  refine ⟨_, rfl, ta, fa, taw, fw, S3, rfl, SqT.of hta, htaw, .inr (SqT.of (s8G _ _ hf)), rowT_sameA s8G hfw, by omega, bS, _, rfl, iteF ?_⟩
  have s7G := s8.trans s8G
  refine ⟨_, rfl, pu, pw, L, is, rfl, hP.same s7G, fun xs h => (lb xs h).2, by omega, by omega, fun fb fbw S4 H18 s18 _ hfb hfbw p4 m4 => ?_⟩
  have e4 : S4 = S3 := rl_uniq p4 pS fun r => (m4 r).trans (mS r).symm
  subst e4
  have s8H := s8G.trans s18
  have s7H := s8.trans s8H
  refine ⟨_, rfl, fb, fa, fbw, fw, S4, rfl, SqT.of hfb, hfbw, .inr (SqT.of (s8H _ _ hf)), rowT_sameA s8H hfw, by omega, bS, _, rfl, iteT ?_⟩
  exact ⟨_, rfl, _, rfl, pu, t, pw, vs, L, rfl, hP.same s7H, (s7.trans s7H) _ _ t6, rowI_same (s7.trans s7H) A6, by omega, bL, fun H19 _ => q H19⟩


end
end Pf

namespace Pf
open PySem PySem.Spec PyProof.Rows L2
theorem all_mk {l : PySem.W.OpenLaw} {w : World} {K : PySem.W.Frag} {h : Heap} {mg : Str → Option Value} {fa f0 f1 f2 f3 f4 f5 f6 f7 f8 f9 f10 f11 f12 f13 f14 f15 f16 f17 f18 f19 f20 f21 f22 f23 f24 : Addr} (X : K.In h) (G : h.Ns mainGlobals mg) (hfa : mg "law" = some (.ref fa))
    {od0 an0 od1 an1 od2 an2 od3 an3 od4 an4 od5 an5 od6 an6 od7 an7 od8 an8 od9 an9 od10 an10 od11 an11 od12 an12 od13 an13 od14 an14 od15 an15 od16 an16 od17 an17 od18 an18 od19 an19 od20 an20 od21 an21 od22 an22 od23 an23 od24 an24 : Option Addr}
    {sl0 sl1 sl2 sl3 sl4 sl5 sl6 sl7 sl8 sl9 sl10 sl11 sl12 sl13 sl14 sl15 sl16 sl17 sl18 sl19 sl20 sl21 sl22 sl23 sl24 : Array (Option Value)} {oc0 kV0 dc0 pm0 cd0 ct0 oc1 kV1 dc1 pm1 cd1 ct1 oc2 kV2 dc2 pm2 cd2 ct2 oc3 kV3 dc3 pm3 cd3 ct3 oc4 kV4 dc4 pm4 cd4 ct4 oc5 kV5 dc5 pm5 cd5 ct5 oc6 kV6 dc6 pm6 cd6 ct6 oc7 kV7 dc7 pm7 cd7 ct7 oc8 kV8 dc8 pm8 cd8 ct8 oc9 kV9 dc9 pm9 cd9 ct9 oc10 kV10 dc10 pm10 cd10 ct10 oc11 kV11 dc11 pm11 cd11 ct11 oc12 kV12 dc12 pm12 cd12 ct12 oc13 kV13 dc13 pm13 cd13 ct13 oc14 kV14 dc14 pm14 cd14 ct14 oc15 kV15 dc15 pm15 cd15 ct15 oc16 kV16 dc16 pm16 cd16 ct16 oc17 kV17 dc17 pm17 cd17 ct17 oc18 kV18 dc18 pm18 cd18 ct18 oc19 kV19 dc19 pm19 cd19 ct19 oc20 kV20 dc20 pm20 cd20 ct20 oc21 kV21 dc21 pm21 cd21 ct21 oc22 kV22 dc22 pm22 cd22 ct22 oc23 kV23 dc23 pm23 cd23 ct23 oc24 kV24 dc24 pm24 cd24 ct24 : Value}
    (a0 : PySem.W.nsIn K mainGlobals "minimal" = some (some (.ref f0))) (l0 : K.lookup f0 = some ⟨oc0, od0, .func (PySem.W.fnOf "minimal" "minimal" (defArgs s_minimal) (defBody s_minimal) (defScope s_minimal) .none kV0 dc0 pm0 an0 cd0 ct0), sl0⟩) (c0 : PySem.W.codeIn K cd0 "minimal" = true) (k0 : PySem.W.keepIn K (.ref f0) = true)
    (a1 : PySem.W.nsIn K mainGlobals "transversals" = some (some (.ref f1))) (l1 : K.lookup f1 = some ⟨oc1, od1, .func (PySem.W.fnOf "transversals" "transversals" (defArgs s_transversals) (defBody s_transversals) (defScope s_transversals) .none kV1 dc1 pm1 an1 cd1 ct1), sl1⟩) (c1 : PySem.W.codeIn K cd1 "transversals" = true) (k1 : PySem.W.keepIn K (.ref f1) = true)
    (a2 : PySem.W.nsIn K mainGlobals "meeting" = some (some (.ref f2))) (l2 : K.lookup f2 = some ⟨oc2, od2, .func (PySem.W.fnOf "meeting" "meeting" (defArgs s_meeting) (defBody s_meeting) (defScope s_meeting) .none kV2 dc2 pm2 an2 cd2 ct2), sl2⟩) (c2 : PySem.W.codeIn K cd2 "meeting" = true) (k2 : PySem.W.keepIn K (.ref f2) = true)
    (a3 : PySem.W.nsIn K mainGlobals "members_of" = some (some (.ref f3))) (l3 : K.lookup f3 = some ⟨oc3, od3, .func (PySem.W.fnOf "members_of" "members_of" (defArgs s_members_of) (defBody s_members_of) (defScope s_members_of) .none kV3 dc3 pm3 an3 cd3 ct3), sl3⟩) (c3 : PySem.W.codeIn K cd3 "members_of" = true) (k3 : PySem.W.keepIn K (.ref f3) = true)
    (a4 : PySem.W.nsIn K mainGlobals "distinct_masks" = some (some (.ref f4))) (l4 : K.lookup f4 = some ⟨oc4, od4, .func (PySem.W.fnOf "distinct_masks" "distinct_masks" (defArgs s_distinct_masks) (defBody s_distinct_masks) (defScope s_distinct_masks) .none kV4 dc4 pm4 an4 cd4 ct4), sl4⟩) (c4 : PySem.W.codeIn K cd4 "distinct_masks" = true) (k4 : PySem.W.keepIn K (.ref f4) = true)
    (a5 : PySem.W.nsIn K mainGlobals "lies_in" = some (some (.ref f5))) (l5 : K.lookup f5 = some ⟨oc5, od5, .func (PySem.W.fnOf "lies_in" "lies_in" (defArgs s_lies_in) (defBody s_lies_in) (defScope s_lies_in) .none kV5 dc5 pm5 an5 cd5 ct5), sl5⟩) (c5 : PySem.W.codeIn K cd5 "lies_in" = true) (k5 : PySem.W.keepIn K (.ref f5) = true)
    (a6 : PySem.W.nsIn K mainGlobals "bits_of" = some (some (.ref f6))) (l6 : K.lookup f6 = some ⟨oc6, od6, .func (PySem.W.fnOf "bits_of" "bits_of" (defArgs s_bits_of) (defBody s_bits_of) (defScope s_bits_of) .none kV6 dc6 pm6 an6 cd6 ct6), sl6⟩) (c6 : PySem.W.codeIn K cd6 "bits_of" = true) (k6 : PySem.W.keepIn K (.ref f6) = true)
    (a7 : PySem.W.nsIn K mainGlobals "listed" = some (some (.ref f7))) (l7 : K.lookup f7 = some ⟨oc7, od7, .func (PySem.W.fnOf "listed" "listed" (defArgs s_listed) (defBody s_listed) (defScope s_listed) .none kV7 dc7 pm7 an7 cd7 ct7), sl7⟩) (c7 : PySem.W.codeIn K cd7 "listed" = true) (k7 : PySem.W.keepIn K (.ref f7) = true)
    (a8 : PySem.W.nsIn K mainGlobals "in_order" = some (some (.ref f8))) (l8 : K.lookup f8 = some ⟨oc8, od8, .func (PySem.W.fnOf "in_order" "in_order" (defArgs s_in_order) (defBody s_in_order) (defScope s_in_order) .none kV8 dc8 pm8 an8 cd8 ct8), sl8⟩) (c8 : PySem.W.codeIn K cd8 "in_order" = true) (k8 : PySem.W.keepIn K (.ref f8) = true)
    (a9 : PySem.W.nsIn K mainGlobals "_law_cell" = some (some (.ref f9))) (l9 : K.lookup f9 = some ⟨oc9, od9, .func (PySem.W.fnOf "_law_cell" "_law_cell" (defArgs s__law_cell) (defBody s__law_cell) (defScope s__law_cell) .none kV9 dc9 pm9 an9 cd9 ct9), sl9⟩) (c9 : PySem.W.codeIn K cd9 "_law_cell" = true) (k9 : PySem.W.keepIn K (.ref f9) = true)
    (a10 : PySem.W.nsIn K mainGlobals "_law_reader" = some (some (.ref f10))) (l10 : K.lookup f10 = some ⟨oc10, od10, .func (PySem.W.fnOf "_law_reader" "_law_reader" (defArgs s__law_reader) (defBody s__law_reader) (defScope s__law_reader) .none kV10 dc10 pm10 an10 cd10 ct10), sl10⟩) (c10 : PySem.W.codeIn K cd10 "_law_reader" = true) (k10 : PySem.W.keepIn K (.ref f10) = true)
    (a11 : PySem.W.nsIn K mainGlobals "_law_next" = some (some (.ref f11))) (l11 : K.lookup f11 = some ⟨oc11, od11, .func (PySem.W.fnOf "_law_next" "_law_next" (defArgs s__law_next) (defBody s__law_next) (defScope s__law_next) .none kV11 dc11 pm11 an11 cd11 ct11), sl11⟩) (c11 : PySem.W.codeIn K cd11 "_law_next" = true) (k11 : PySem.W.keepIn K (.ref f11) = true)
    (a12 : PySem.W.nsIn K mainGlobals "_law_integers" = some (some (.ref f12))) (l12 : K.lookup f12 = some ⟨oc12, od12, .func (PySem.W.fnOf "_law_integers" "_law_integers" (defArgs s__law_integers) (defBody s__law_integers) (defScope s__law_integers) .none kV12 dc12 pm12 an12 cd12 ct12), sl12⟩) (c12 : PySem.W.codeIn K cd12 "_law_integers" = true) (k12 : PySem.W.keepIn K (.ref f12) = true)
    (a13 : PySem.W.nsIn K mainGlobals "_law_sets" = some (some (.ref f13))) (l13 : K.lookup f13 = some ⟨oc13, od13, .func (PySem.W.fnOf "_law_sets" "_law_sets" (defArgs s__law_sets) (defBody s__law_sets) (defScope s__law_sets) .none kV13 dc13 pm13 an13 cd13 ct13), sl13⟩) (c13 : PySem.W.codeIn K cd13 "_law_sets" = true) (k13 : PySem.W.keepIn K (.ref f13) = true)
    (a14 : PySem.W.nsIn K mainGlobals "_law_drawn" = some (some (.ref f14))) (l14 : K.lookup f14 = some ⟨oc14, od14, .func (PySem.W.fnOf "_law_drawn" "_law_drawn" (defArgs s__law_drawn) (defBody s__law_drawn) (defScope s__law_drawn) .none kV14 dc14 pm14 an14 cd14 ct14), sl14⟩) (c14 : PySem.W.codeIn K cd14 "_law_drawn" = true) (k14 : PySem.W.keepIn K (.ref f14) = true)
    (a15 : PySem.W.nsIn K mainGlobals "_law_passed" = some (some (.ref f15))) (l15 : K.lookup f15 = some ⟨oc15, od15, .func (PySem.W.fnOf "_law_passed" "_law_passed" (defArgs s__law_passed) (defBody s__law_passed) (defScope s__law_passed) .none kV15 dc15 pm15 an15 cd15 ct15), sl15⟩) (c15 : PySem.W.codeIn K cd15 "_law_passed" = true) (k15 : PySem.W.keepIn K (.ref f15) = true)
    (a16 : PySem.W.nsIn K mainGlobals "_law_once" = some (some (.ref f16))) (l16 : K.lookup f16 = some ⟨oc16, od16, .func (PySem.W.fnOf "_law_once" "_law_once" (defArgs s__law_once) (defBody s__law_once) (defScope s__law_once) .none kV16 dc16 pm16 an16 cd16 ct16), sl16⟩) (c16 : PySem.W.codeIn K cd16 "_law_once" = true) (k16 : PySem.W.keepIn K (.ref f16) = true)
    (a17 : PySem.W.nsIn K mainGlobals "_law_lies" = some (some (.ref f17))) (l17 : K.lookup f17 = some ⟨oc17, od17, .func (PySem.W.fnOf "_law_lies" "_law_lies" (defArgs s__law_lies) (defBody s__law_lies) (defScope s__law_lies) .none kV17 dc17 pm17 an17 cd17 ct17), sl17⟩) (c17 : PySem.W.codeIn K cd17 "_law_lies" = true) (k17 : PySem.W.keepIn K (.ref f17) = true)
    (a18 : PySem.W.nsIn K mainGlobals "_law_in_order" = some (some (.ref f18))) (l18 : K.lookup f18 = some ⟨oc18, od18, .func (PySem.W.fnOf "_law_in_order" "_law_in_order" (defArgs s__law_in_order) (defBody s__law_in_order) (defScope s__law_in_order) .none kV18 dc18 pm18 an18 cd18 ct18), sl18⟩) (c18 : PySem.W.codeIn K cd18 "_law_in_order" = true) (k18 : PySem.W.keepIn K (.ref f18) = true)
    (a19 : PySem.W.nsIn K mainGlobals "_law_meets_all" = some (some (.ref f19))) (l19 : K.lookup f19 = some ⟨oc19, od19, .func (PySem.W.fnOf "_law_meets_all" "_law_meets_all" (defArgs s__law_meets_all) (defBody s__law_meets_all) (defScope s__law_meets_all) .none kV19 dc19 pm19 an19 cd19 ct19), sl19⟩) (c19 : PySem.W.codeIn K cd19 "_law_meets_all" = true) (k19 : PySem.W.keepIn K (.ref f19) = true)
    (a20 : PySem.W.nsIn K mainGlobals "_law_minimal" = some (some (.ref f20))) (l20 : K.lookup f20 = some ⟨oc20, od20, .func (PySem.W.fnOf "_law_minimal" "_law_minimal" (defArgs s__law_minimal) (defBody s__law_minimal) (defScope s__law_minimal) .none kV20 dc20 pm20 an20 cd20 ct20), sl20⟩) (c20 : PySem.W.codeIn K cd20 "_law_minimal" = true) (k20 : PySem.W.keepIn K (.ref f20) = true)
    (a21 : PySem.W.nsIn K mainGlobals "_law_told" = some (some (.ref f21))) (l21 : K.lookup f21 = some ⟨oc21, od21, .func (PySem.W.fnOf "_law_told" "_law_told" (defArgs s__law_told) (defBody s__law_told) (defScope s__law_told) .none kV21 dc21 pm21 an21 cd21 ct21), sl21⟩) (c21 : PySem.W.codeIn K cd21 "_law_told" = true) (k21 : PySem.W.keepIn K (.ref f21) = true)
    (a22 : PySem.W.nsIn K mainGlobals "_law_stays" = some (some (.ref f22))) (l22 : K.lookup f22 = some ⟨oc22, od22, .func (PySem.W.fnOf "_law_stays" "_law_stays" (defArgs s__law_stays) (defBody s__law_stays) (defScope s__law_stays) .none kV22 dc22 pm22 an22 cd22 ct22), sl22⟩) (c22 : PySem.W.codeIn K cd22 "_law_stays" = true) (k22 : PySem.W.keepIn K (.ref f22) = true)
    (a23 : PySem.W.nsIn K mainGlobals "_law_fair" = some (some (.ref f23))) (l23 : K.lookup f23 = some ⟨oc23, od23, .func (PySem.W.fnOf "_law_fair" "_law_fair" (defArgs s__law_fair) (defBody s__law_fair) (defScope s__law_fair) .none kV23 dc23 pm23 an23 cd23 ct23), sl23⟩) (c23 : PySem.W.codeIn K cd23 "_law_fair" = true) (k23 : PySem.W.keepIn K (.ref f23) = true)
    (a24 : PySem.W.nsIn K mainGlobals "law" = some (some (.ref f24))) (l24 : K.lookup f24 = some ⟨oc24, od24, .func (PySem.W.fnOf "law" "law" (defArgs s_law) (defBody s_law) (defScope s_law) .none kV24 dc24 pm24 an24 cd24 ct24), sl24⟩) (c24 : PySem.W.codeIn K cd24 "law" = true) (k24 : PySem.W.keepIn K (.ref f24) = true)
    (z0 : PySem.W.nsIn K mainGlobals "all" = some none) (z1 : PySem.W.nsIn K mainGlobals "any" = some none) (z2 : PySem.W.nsIn K mainGlobals "bool" = some none) (z3 : PySem.W.nsIn K mainGlobals "enumerate" = some none) (z4 : PySem.W.nsIn K mainGlobals "int" = some none) (z5 : PySem.W.nsIn K mainGlobals "isinstance" = some none) (z6 : PySem.W.nsIn K mainGlobals "len" = some none) (z7 : PySem.W.nsIn K mainGlobals "list" = some none) (z8 : PySem.W.nsIn K mainGlobals "min" = some none) (z9 : PySem.W.nsIn K mainGlobals "range" = some none) (z10 : PySem.W.nsIn K mainGlobals "sorted" = some none) (z11 : PySem.W.nsIn K mainGlobals "tuple" = some none)
    :
    ∃ fd : FuncData, (∀ (s : Shared) (v : Value), BindsTo s fd ⟨[v], []⟩ [("script", v)]) ∧ ∀ base : Heap, K.In base → base.Ns mainGlobals mg → FnOk l.prog w K mg base CX0 6 fa fd ["script"] (sp_law K) := by
  have e := hfa.symm.trans (PySem.W.mg_of X G a24)
  cases e
  have F0 := fun_mk (st := s_minimal) l0 c0 k0
  have F1 := fun_mk (st := s_transversals) l1 c1 k1
  have F2 := fun_mk (st := s_meeting) l2 c2 k2
  have F3 := fun_mk (st := s_members_of) l3 c3 k3
  have F4 := fun_mk (st := s_distinct_masks) l4 c4 k4
  have F5 := fun_mk (st := s_lies_in) l5 c5 k5
  have F6 := fun_mk (st := s_bits_of) l6 c6 k6
  have F7 := fun_mk (st := s_listed) l7 c7 k7
  have F8 := fun_mk (st := s_in_order) l8 c8 k8
  have F9 := fun_mk (st := s__law_cell) l9 c9 k9
  have F10 := fun_mk (st := s__law_reader) l10 c10 k10
  have F11 := fun_mk (st := s__law_next) l11 c11 k11
  have F12 := fun_mk (st := s__law_integers) l12 c12 k12
  have F13 := fun_mk (st := s__law_sets) l13 c13 k13
  have F14 := fun_mk (st := s__law_drawn) l14 c14 k14
  have F15 := fun_mk (st := s__law_passed) l15 c15 k15
  have F16 := fun_mk (st := s__law_once) l16 c16 k16
  have F17 := fun_mk (st := s__law_lies) l17 c17 k17
  have F18 := fun_mk (st := s__law_in_order) l18 c18 k18
  have F19 := fun_mk (st := s__law_meets_all) l19 c19 k19
  have F20 := fun_mk (st := s__law_minimal) l20 c20 k20
  have F21 := fun_mk (st := s__law_told) l21 c21 k21
  have F22 := fun_mk (st := s__law_stays) l22 c22 k22
  have F23 := fun_mk (st := s__law_fair) l23 c23 k23
  have F24 := fun_mk (st := s_law) l24 c24 k24
  have T : Txt K mg := ⟨PySem.W.mg_none_of X G z0,
    PySem.W.mg_none_of X G z1,
    PySem.W.mg_none_of X G z2,
    PySem.W.mg_none_of X G z3,
    PySem.W.mg_none_of X G z4,
    PySem.W.mg_none_of X G z5,
    PySem.W.mg_none_of X G z6,
    PySem.W.mg_none_of X G z7,
    PySem.W.mg_none_of X G z8,
    PySem.W.mg_none_of X G z9,
    PySem.W.mg_none_of X G z10,
    PySem.W.mg_none_of X G z11,
    ⟨⟨_, _, F0, PySem.W.mg_of X G a0, F0.binds (ps := ["sets"]) fun _ _ _ _ _ _ us hl => match us, hl with | [_], _ => rfl⟩⟩,
    ⟨⟨_, _, F1, PySem.W.mg_of X G a1, F1.binds (ps := ["sets"]) fun _ _ _ _ _ _ us hl => match us, hl with | [_], _ => rfl⟩⟩,
    ⟨⟨_, _, F2, PySem.W.mg_of X G a2, F2.binds (ps := ["found", "mask"]) fun _ _ _ _ _ _ us hl => match us, hl with | [_, _], _ => rfl⟩⟩,
    ⟨⟨_, _, F3, PySem.W.mg_of X G a3, F3.binds (ps := ["sets"]) fun _ _ _ _ _ _ us hl => match us, hl with | [_], _ => rfl⟩⟩,
    ⟨⟨_, _, F4, PySem.W.mg_of X G a4, F4.binds (ps := ["sets", "members"]) fun _ _ _ _ _ _ us hl => match us, hl with | [_, _], _ => rfl⟩⟩,
    ⟨⟨_, _, F5, PySem.W.mg_of X G a5, F5.binds (ps := ["one", "other"]) fun _ _ _ _ _ _ us hl => match us, hl with | [_, _], _ => rfl⟩⟩,
    ⟨⟨_, _, F6, PySem.W.mg_of X G a6, F6.binds (ps := ["mask"]) fun _ _ _ _ _ _ us hl => match us, hl with | [_], _ => rfl⟩⟩,
    ⟨⟨_, _, F7, PySem.W.mg_of X G a7, F7.binds (ps := ["masks", "members"]) fun _ _ _ _ _ _ us hl => match us, hl with | [_, _], _ => rfl⟩⟩,
    ⟨⟨_, _, F8, PySem.W.mg_of X G a8, F8.binds (ps := ["sets"]) fun _ _ _ _ _ _ us hl => match us, hl with | [_], _ => rfl⟩⟩,
    ⟨⟨_, _, F9, PySem.W.mg_of X G a9, F9.binds (ps := ["script", "k"]) fun _ _ _ _ _ _ us hl => match us, hl with | [_, _], _ => rfl⟩⟩,
    ⟨⟨_, _, F10, PySem.W.mg_of X G a10, F10.binds (ps := ["cell"]) fun _ _ _ _ _ _ us hl => match us, hl with | [_], _ => rfl⟩⟩,
    ⟨⟨_, _, F11, PySem.W.mg_of X G a11, F11.binds (ps := ["reader", "size"]) fun _ _ _ _ _ _ us hl => match us, hl with | [_, _], _ => rfl⟩⟩,
    ⟨⟨_, _, F12, PySem.W.mg_of X G a12, F12.binds (ps := ["reader", "many"]) fun _ _ _ _ _ _ us hl => match us, hl with | [_, _], _ => rfl⟩⟩,
    ⟨⟨_, _, F13, PySem.W.mg_of X G a13, F13.binds (ps := ["reader", "integers", "many", "least", "most"]) fun _ _ _ _ _ _ us hl => match us, hl with | [_, _, _, _, _], _ => rfl⟩⟩,
    ⟨⟨_, _, F14, PySem.W.mg_of X G a14, F14.binds (ps := ["reader"]) fun _ _ _ _ _ _ us hl => match us, hl with | [_], _ => rfl⟩⟩,
    ⟨⟨_, _, F15, PySem.W.mg_of X G a15, F15.binds (ps := ["sets", "form"]) fun _ _ _ _ _ _ us hl => match us, hl with | [_, _], _ => rfl⟩⟩,
    ⟨⟨_, _, F16, PySem.W.mg_of X G a16, F16.binds (ps := ["parts"]) fun _ _ _ _ _ _ us hl => match us, hl with | [_], _ => rfl⟩⟩,
    ⟨⟨_, _, F17, PySem.W.mg_of X G a17, F17.binds (ps := ["part", "whole"]) fun _ _ _ _ _ _ us hl => match us, hl with | [_, _], _ => rfl⟩⟩,
    ⟨⟨_, _, F18, PySem.W.mg_of X G a18, F18.binds (ps := ["rows"]) fun _ _ _ _ _ _ us hl => match us, hl with | [_], _ => rfl⟩⟩,
    ⟨⟨_, _, F19, PySem.W.mg_of X G a19, F19.binds (ps := ["row", "sets"]) fun _ _ _ _ _ _ us hl => match us, hl with | [_, _], _ => rfl⟩⟩,
    ⟨⟨_, _, F20, PySem.W.mg_of X G a20, F20.binds (ps := ["rows"]) fun _ _ _ _ _ _ us hl => match us, hl with | [_], _ => rfl⟩⟩,
    ⟨⟨_, _, F21, PySem.W.mg_of X G a21, F21.binds (ps := ["told", "due"]) fun _ _ _ _ _ _ us hl => match us, hl with | [_, _], _ => rfl⟩⟩,
    ⟨⟨_, _, F22, PySem.W.mg_of X G a22, F22.binds (ps := ["passed", "sets"]) fun _ _ _ _ _ _ us hl => match us, hl with | [_, _], _ => rfl⟩⟩,
    ⟨⟨_, _, F23, PySem.W.mg_of X G a23, F23.binds (ps := ["told", "sets"]) fun _ _ _ _ _ _ us hl => match us, hl with | [_, _], _ => rfl⟩⟩,
    ⟨⟨_, _, F24, PySem.W.mg_of X G a24, F24.binds (ps := ["script"]) fun _ _ _ _ _ _ us hl => match us, hl with | [_], _ => rfl⟩⟩⟩
  refine ⟨PySem.W.fnOf "law" "law" (defArgs s_law) (defBody s_law) (defScope s_law) .none kV24 dc24 pm24 an24 cd24 ct24, fun s v => .of_eq rfl, fun base _ _ => ?_⟩
  exact ok_law (P := l.prog) (w := w) (base := base) T F24
end Pf
open PySem PySem.W PyProof.Rows
set_option maxRecDepth 100000 in
set_option maxHeartbeats 0 in
theorem PySem.Challenge.cw_allmends_k18_transversals_twice_holds : PySem.Challenge.rw_allmends_k18_transversals_twice.Holds := by
  w_on; o_law; k_head; (case hw => w_witness2)
  k_fill
  refine L2.walk_of (l := PySem.Challenge.rw_allmends_k18_transversals_twice) (n := 63) (k := 6) (x := "script") (CX := fun _ => L2.CX0) (sp := fun w => Pf.sp_law _) rfl (by decide) rfl ⟨rfl, by decide, by decide⟩ (fun w h Y => PySem.W.kIn_of Y) ?F (fun _ _ a ns hl _ hS => ⟨a, ns, rfl, hS, hl, fun _ => rfl⟩) (fun _ _ _ _ _ h => h)
  case F =>
    intro w mg fa h KX G hmg
    refine' Pf.all_mk KX G hmg ?a0 ?l0 ?c0 ?k0 ?a1 ?l1 ?c1 ?k1 ?a2 ?l2 ?c2 ?k2 ?a3 ?l3 ?c3 ?k3 ?a4 ?l4 ?c4 ?k4 ?a5 ?l5 ?c5 ?k5 ?a6 ?l6 ?c6 ?k6 ?a7 ?l7 ?c7 ?k7 ?a8 ?l8 ?c8 ?k8 ?a9 ?l9 ?c9 ?k9 ?a10 ?l10 ?c10 ?k10 ?a11 ?l11 ?c11 ?k11 ?a12 ?l12 ?c12 ?k12 ?a13 ?l13 ?c13 ?k13 ?a14 ?l14 ?c14 ?k14 ?a15 ?l15 ?c15 ?k15 ?a16 ?l16 ?c16 ?k16 ?a17 ?l17 ?c17 ?k17 ?a18 ?l18 ?c18 ?k18 ?a19 ?l19 ?c19 ?k19 ?a20 ?l20 ?c20 ?k20 ?a21 ?l21 ?c21 ?k21 ?a22 ?l22 ?c22 ?k22 ?a23 ?l23 ?c23 ?k23 ?a24 ?l24 ?c24 ?k24 ?z0 ?z1 ?z2 ?z3 ?z4 ?z5 ?z6 ?z7 ?z8 ?z9 ?z10 ?z11
    (case a0 => k_is); (case l0 => k_is); (case c0 => k_is); (case k0 => k_is); (case a1 => k_is); (case l1 => k_is)
    (case c1 => k_is); (case k1 => k_is); (case a2 => k_is); (case l2 => k_is); (case c2 => k_is); (case k2 => k_is)
    (case a3 => k_is); (case l3 => k_is); (case c3 => k_is); (case k3 => k_is); (case a4 => k_is); (case l4 => k_is)
    (case c4 => k_is); (case k4 => k_is); (case a5 => k_is); (case l5 => k_is); (case c5 => k_is); (case k5 => k_is)
    (case a6 => k_is); (case l6 => k_is); (case c6 => k_is); (case k6 => k_is); (case a7 => k_is); (case l7 => k_is)
    (case c7 => k_is); (case k7 => k_is); (case a8 => k_is); (case l8 => k_is); (case c8 => k_is); (case k8 => k_is)
    (case a9 => k_is); (case l9 => k_is); (case c9 => k_is); (case k9 => k_is); (case a10 => k_is); (case l10 => k_is)
    (case c10 => k_is); (case k10 => k_is); (case a11 => k_is); (case l11 => k_is); (case c11 => k_is); (case k11 => k_is)
    (case a12 => k_is); (case l12 => k_is); (case c12 => k_is); (case k12 => k_is); (case a13 => k_is); (case l13 => k_is)
    (case c13 => k_is); (case k13 => k_is); (case a14 => k_is); (case l14 => k_is); (case c14 => k_is); (case k14 => k_is)
    (case a15 => k_is); (case l15 => k_is); (case c15 => k_is); (case k15 => k_is); (case a16 => k_is); (case l16 => k_is)
    (case c16 => k_is); (case k16 => k_is); (case a17 => k_is); (case l17 => k_is); (case c17 => k_is); (case k17 => k_is)
    (case a18 => k_is); (case l18 => k_is); (case c18 => k_is); (case k18 => k_is); (case a19 => k_is); (case l19 => k_is)
    (case c19 => k_is); (case k19 => k_is); (case a20 => k_is); (case l20 => k_is); (case c20 => k_is); (case k20 => k_is)
    (case a21 => k_is); (case l21 => k_is); (case c21 => k_is); (case k21 => k_is); (case a22 => k_is); (case l22 => k_is)
    (case c22 => k_is); (case k22 => k_is); (case a23 => k_is); (case l23 => k_is); (case c23 => k_is); (case k23 => k_is)
    (case a24 => k_is); (case l24 => k_is); (case c24 => k_is); (case k24 => k_is); (case z0 => k_is); (case z1 => k_is)
    (case z2 => k_is); (case z3 => k_is); (case z4 => k_is); (case z5 => k_is); (case z6 => k_is); (case z7 => k_is)
    (case z8 => k_is); (case z9 => k_is); (case z10 => k_is); (case z11 => k_is)
