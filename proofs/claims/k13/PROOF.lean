import PyProof.Rows.All
import Wide.All
import OpenK.AllK
import Wide.FinOn
import HandS.ForMost
import HandS.IsInst
import HandS.Strs
import HandS.ExcInit
import HandS.Nested
import HandS.FStr
import HandS.ExcValue
import KE.KExcSuper
import KE.KExcIs
import HandS.Walk
import HandS.Deep
import HandS.Zip
import HandS.Codes
import HandS.ExcOwn
import HandS.ExcField
import HandS.Flow
import HandS.WordsExc
import HandS.TryOnly
import PySem.Challenge.RW_allmends_k13_both_contracts
set_option Elab.async false
set_option linter.all false
set_option maxRecDepth 100000
set_option maxHeartbeats 4000000
namespace Pf
open PySem PySem.Spec PyProof.Rows L2
def topS (i : Nat) : Stmt := PySem.Challenge.pw_allmends_k13_both_contracts.main.body.getD i (.Pass ⟨0, 0, 0, 0⟩)
abbrev s__wall : Stmt := topS 0
theorem sc__wall : FnScope ["k"] ["k"] (defScope s__wall) := ⟨rfl, rfl, rfl, by decide +kernel, rfl, by decide +kernel, by decide +kernel⟩
abbrev s_frozen : Stmt := topS 20
theorem sc_frozen : FnScope ["value", "part"] ["value"] (defScope s_frozen) := ⟨rfl, rfl, rfl, by decide +kernel, rfl, by decide +kernel, by decide +kernel⟩
abbrev s_letters_reason : Stmt := topS 25
theorem sc_letters_reason : FnScope ["letters", "answers"] ["letters", "answers"] (defScope s_letters_reason) := ⟨rfl, rfl, rfl, by decide +kernel, rfl, by decide +kernel, by decide +kernel⟩
abbrev s_first_reason : Stmt := topS 29
theorem sc_first_reason : FnScope ["letters", "answers", "states"] ["letters", "answers", "states"] (defScope s_first_reason) := ⟨rfl, rfl, rfl, by decide +kernel, rfl, by decide +kernel, by decide +kernel⟩
abbrev s_states_reason : Stmt := topS 30
theorem sc_states_reason : FnScope ["letters", "answers", "states", "targets", "row", "target"] ["letters", "answers", "states"] (defScope s_states_reason) := ⟨rfl, rfl, rfl, by decide +kernel, rfl, by decide +kernel, by decide +kernel⟩
abbrev s_events_of : Stmt := topS 31
theorem sc_events_of : FnScope ["contract", "reads", "writes", "letter"] ["contract"] (defScope s_events_of) := ⟨rfl, rfl, rfl, by decide +kernel, rfl, by decide +kernel, by decide +kernel⟩
abbrev s_both : Stmt := topS 32
theorem sc_both : FnScope ["first", "second", "pairs", "pair"] ["first", "second"] (defScope s_both) := ⟨rfl, rfl, rfl, by decide +kernel, rfl, by decide +kernel, by decide +kernel⟩
abbrev s_reached_pairs : Stmt := topS 33
theorem sc_reached_pairs : FnScope ["first", "second", "pairs", "done", "event", "target"] ["first", "second"] (defScope s_reached_pairs) := ⟨rfl, rfl, rfl, by decide +kernel, rfl, by decide +kernel, by decide +kernel⟩
abbrev s_pair_target : Stmt := topS 34
theorem sc_pair_target : FnScope ["first", "second", "pair", "event", "one", "other"] ["first", "second", "pair", "event"] (defScope s_pair_target) := ⟨rfl, rfl, rfl, by decide +kernel, rfl, by decide +kernel, by decide +kernel⟩
abbrev s_pair_row : Stmt := topS 35
theorem sc_pair_row : FnScope ["first", "second", "pairs", "pair", "targets", "event", "target", "behind", "finish", "silence", "one", "other"] ["first", "second", "pairs", "pair"] (defScope s_pair_row) := ⟨rfl, rfl, rfl, by decide +kernel, rfl, by decide +kernel, by decide +kernel⟩
abbrev s__law_cell : Stmt := topS 37
theorem sc__law_cell : FnScope ["script", "k"] ["script", "k"] (defScope s__law_cell) := ⟨rfl, rfl, rfl, by decide +kernel, rfl, by decide +kernel, by decide +kernel⟩
abbrev s__law_reader : Stmt := topS 38
theorem sc__law_reader : FnScope ["cell"] ["cell"] (defScope s__law_reader) := ⟨rfl, rfl, rfl, by decide +kernel, rfl, by decide +kernel, by decide +kernel⟩
abbrev s__law_next : Stmt := topS 39
theorem sc__law_next : FnScope ["reader", "size", "k", "rest", "mixed"] ["reader", "size"] (defScope s__law_next) := ⟨rfl, rfl, rfl, by decide +kernel, rfl, by decide +kernel, by decide +kernel⟩
abbrev s__law_same : Stmt := topS 40
theorem sc__law_same : FnScope ["told", "due", "k"] ["told", "due"] (defScope s__law_same) := ⟨rfl, rfl, rfl, by decide +kernel, rfl, by decide +kernel, by decide +kernel⟩
abbrev s__law_target : Stmt := topS 41
theorem sc__law_target : FnScope ["reader", "many", "number"] ["reader", "many"] (defScope s__law_target) := ⟨rfl, rfl, rfl, by decide +kernel, rfl, by decide +kernel, by decide +kernel⟩
abbrev s__law_states : Stmt := topS 42
theorem sc__law_states : FnScope ["reader", "letters", "answers", "many", "states", "k", "reads", "over", "writes", "flags", "letter"] ["reader", "letters", "answers", "many"] (defScope s__law_states) := ⟨rfl, rfl, rfl, by decide +kernel, rfl, by decide +kernel, by decide +kernel⟩
abbrev s__law_events : Stmt := topS 43
theorem sc__law_events : FnScope ["letters", "answers", "reads", "letter"] ["letters", "answers"] (defScope s__law_events) := ⟨rfl, rfl, rfl, by decide +kernel, rfl, by decide +kernel, by decide +kernel⟩
abbrev s__law_follow : Stmt := topS 44
theorem sc__law_follow : FnScope ["states", "state", "event"] ["states", "state", "event"] (defScope s__law_follow) := ⟨rfl, rfl, rfl, by decide +kernel, rfl, by decide +kernel, by decide +kernel⟩
abbrev s__law_right : Stmt := topS 45
theorem sc__law_right : FnScope ["contract", "parts", "state", "event"] ["contract", "parts"] (defScope s__law_right) := ⟨rfl, rfl, rfl, by decide +kernel, rfl, by decide +kernel, by decide +kernel⟩
abbrev s__law_pairs : Stmt := topS 46
theorem sc__law_pairs : FnScope ["first", "second", "events", "pairs", "at", "event", "left", "right"] ["first", "second", "events"] (defScope s__law_pairs) := ⟨rfl, rfl, rfl, by decide +kernel, rfl, by decide +kernel, by decide +kernel⟩
abbrev s__law_joined : Stmt := topS 47
theorem sc__law_joined : FnScope ["one", "two", "events", "pairs", "states", "pair", "row", "event", "target", "closing", "quiet"] ["one", "two"] (defScope s__law_joined) := ⟨rfl, rfl, rfl, by decide +kernel, rfl, by decide +kernel, by decide +kernel⟩
abbrev s__law_told : Stmt := topS 48
theorem sc__law_told : FnScope ["one", "two", "kept", "word", "e"] ["one", "two"] (defScope s__law_told) := ⟨rfl, rfl, rfl, by decide +kernel, rfl, by decide +kernel, by decide +kernel⟩
abbrev s__law_sides : Stmt := topS 49
theorem sc__law_sides : FnScope ["script", "reader", "letters", "answers", "kind", "sides", "turn", "own", "many"] ["script"] (defScope s__law_sides) := ⟨rfl, rfl, rfl, by decide +kernel, rfl, by decide +kernel, by decide +kernel⟩
abbrev s_law : Stmt := topS 50
theorem sc_law : FnScope ["script", "sides", "contracts", "asked", "due", "told", "side", "turn"] ["script"] (defScope s_law) := ⟨rfl, rfl, rfl, by decide +kernel, rfl, by decide +kernel, by decide +kernel⟩
abbrev s_Contract_init : Stmt := inClass (topS 28) 0
theorem sc_Contract_init : FnScope ["self", "letters", "answers", "states", "reason"] ["self", "letters", "answers", "states"] (defScope s_Contract_init) := ⟨rfl, rfl, rfl, by decide +kernel, rfl, by decide +kernel, by decide +kernel⟩
abbrev s_Contract_follow : Stmt := inClass (topS 28) 1
theorem sc_Contract_follow : FnScope ["self", "state", "event", "row", "targets"] ["self", "state", "event"] (defScope s_Contract_follow) := ⟨rfl, rfl, rfl, by decide +kernel, rfl, by decide +kernel, by decide +kernel⟩
abbrev id_Contract : Nat := 28
abbrev id_MendError : Nat := 2
abbrev id_InvalidInput : Nat := 3
abbrev id_InvalidText : Nat := 4
abbrev id_InvalidProgram : Nat := 5
abbrev id_InvalidContract : Nat := 6
abbrev id_InvalidChange : Nat := 7
abbrev id_InvalidStream : Nat := 8
abbrev id_InvalidPlaces : Nat := 9
abbrev id_InvalidEdit : Nat := 10
abbrev id_InvalidLine : Nat := 11
abbrev id_InvalidName : Nat := 12
abbrev id_Mismatch : Nat := 13
abbrev id_BoundError : Nat := 14
abbrev id_TooLarge : Nat := 15
abbrev id_TooLong : Nat := 16
abbrev id_TooManyCases : Nat := 17
abbrev id_DeskError : Nat := 18
/-- a class's __init__, a method, as a caller needs them -/
def HasMk (P : Program) (w : World) (K : PySem.W.Frag) (mg : Str → Option Value) (base : Heap) (k : Nat) (C : Addr) (ps : List Str) (sp : Sp) : Prop :=
  ∃ (f : Addr) (fd : FuncData), FnOk P w K mg base CX0 k f fd ps sp ∧ Mk K C f ∧ Binds K fd ps []
def HasM (P : Program) (w : World) (K : PySem.W.Frag) (mg : Str → Option Value) (base : Heap) (k : Nat) (C : Addr) (m : Str) (ps : List Str) (sp : Sp) : Prop :=
  ∃ (f : Addr) (fd : FuncData), FnOk P w K mg base CX0 k f fd ps sp ∧ Meth K C m f ∧ Binds K fd ps []
/-- a def that may raise -/
def HasX (P : Program) (w : World) (K : PySem.W.Frag) (mg : Str → Option Value) (base : Heap) (k : Nat) (x : Str) (ps : List Str) (sp : Sp) : Prop :=
  ∃ (f : Addr) (fd : FuncData), FnOk P w K mg base (L2.CX P w) k f fd ps sp ∧ mg x = some (.ref f) ∧ PySem.W.keepIn K (.ref f) = true ∧ Binds K fd ps []
/-- a def as it stands behind the top -/
structure DefAt (K : PySem.W.Frag) (mg : Str → Option Value) (x : Str) (st : Stmt) (ps : List Str) : Prop where
  ex : ∃ (f : Addr) (fd : FuncData), Fun K x x st f fd ∧ mg x = some (.ref f) ∧ Binds K fd ps []
/-- what a caller needs of a def -/
def Has (P : Program) (w : World) (K : PySem.W.Frag) (mg : Str → Option Value) (base : Heap) (k : Nat) (x : Str) (ps : List Str) (sp : Sp) : Prop :=
  ∃ (f : Addr) (fd : FuncData), FnOk P w K mg base CX0 k f fd ps sp ∧ mg x = some (.ref f) ∧ PySem.W.keepIn K (.ref f) = true ∧ Binds K fd ps []
theorem Has.none {P : Program} {w : World} {K : PySem.W.Frag} {mg : Str → Option Value} {base : Heap} {k : Nat} {x : Str} {st : Stmt} {ps : List Str} {sp : Sp} (D : DefAt K mg x st ps) (no : ∀ vs H Q E, ¬ sp vs H Q E) : Has P w K mg base k x ps sp := by
  obtain ⟨f, fd, F, m, b⟩ := D.ex
  exact ⟨f, fd, ⟨fun vs H Q E h => absurd h (no vs H Q E), fun A outer s H args us vs Q E _ _ _ _ h => absurd h (no vs H Q E)⟩, m, F.kp, b⟩
theorem Has.mono {P : Program} {w : World} {K : PySem.W.Frag} {mg : Str → Option Value} {base : Heap} {j k : Nat} {x : Str} {ps : List Str} {sp : Sp} (h : Has P w K mg base j x ps sp) (l : j ≤ k) : Has P w K mg base k x ps sp := by
  obtain ⟨f, fd, F, r⟩ := h
  exact ⟨f, fd, F.mono l, r⟩
/-! ### further rules -/
section
variable {X : Cx}
/-- two derivations of one expression -/
theorem pe_alt {e : Expr} {t u : TE} (h1 : PE X e t) (h2 : PE X e u) : PE X e (fun σ H Q => t σ H Q ∨ u σ H Q) :=
  ⟨fun pins s σ H Q I h => h.elim (h1.run pins s σ H Q I) (h2.run pins s σ H Q I)⟩
/-- tuple(list): the new object is known to have no dict of its own -/
def rTupF (K : PySem.W.Frag) : List V → Hp → VK → Prop := fun xs H Q => ∃ p ys, xs = [.ref p] ∧ SqL K H p ys ∧ ∀ l o, H l = none → o.cls = .type "tuple" → o.dict = none → Q (.ref l) (upd H l (.frz o (.tup ys)))
theorem call_tupleF : CallR X (.type "tuple") (rTupF X.K) := by
  intro pins s σ H xs us Q I r h
  obtain ⟨p, ys, rfl, hq, q⟩ := h
  obtain ⟨u, rfl, rx⟩ := vals1 r
  cases rx
  obtain ⟨its, r', pl, hz⟩ := I.list hq
  have hlen := r'.length
  refine call_tuple_list pl.isList (fun h' kp => ?_) (by simp only [List.size_toArray] <;> omega)
  have I1 : Inv X pins σ H { s with heap := h' } := I.kept (t' := s.toks) kp
  have e1 : (h'.push { cls := .type "tuple", data := .seq its.toArray }).get? h'.objs.size = some { cls := .type "tuple", data := .seq its.toArray } := Heap.get?_push_size _ rfl
  have I2 : Inv X pins σ (upd H h'.objs.size (.frz { cls := .type "tuple", data := .seq its.toArray } (.tup ys))) { s with heap := h'.push { cls := .type "tuple", data := .seq its.toArray } } :=
    I1.laid (t' := s.toks) (fun b o e => Heap.get?_push_of_some _ e) (Nat.le_refl _) (show ObjOk X.prog X.w _ _ _ (.frz _ (.tup ys)) from ⟨e1, hz, its, r', IsTup.new _ _⟩)
  exact ⟨.ref h'.objs.size, _, I2, rfl, q _ _ (I1.hok.fresh (Nat.le_refl _)) rfl rfl⟩
/-- a method of a tuple that was made so -/
def tyF (x : V) (H : Hp) : Prop := ∃ p o xs, x = .ref p ∧ H p = some (.frz o (.tup xs)) ∧ o.cls = .type "tuple" ∧ o.dict = none
def tBMF (r : V → List V → Hp → VK → Prop) (to : TE) (t : TA) : TE := fun σ H Q => to σ H fun x H1 => tyF x H1 ∧ t σ H1 fun xs H2 => r x xs H2 Q
theorem pe_bmF {o e : Expr} {es : List Expr} {to : TE} {t : TA} {name : Str} {apos cpos : Pos} {id : String} {r : V → List V → Hp → VK → Prop}
    (pa : PlainAttrs "tuple") (slot : Slot "tuple" name id) (hty : typeOf (.builtin id) = pure (.type "method_descriptor")) (hm : MtR X id r) (ho : PE X o to) (ha : PA X (e :: es) t)
    (hbase : attributeBase o name X.env (eval o X.env) = eval o X.env := by rfl)
    (hfew : ((backTo cpos (starEach (e :: es) X.env)).all (fun x => !x.1) && (backToKw cpos (keywordEach [] X.env)).all (fun x => x.1.isSome)
      && decide ((e :: es).length + ([] : List Keyword).length + (if ([] : List Keyword).isEmpty then 0 else 1) < 30)) = true := by rfl)
    (hline : (apos.endLine == cpos.line) = true := by rfl) (hs : starEach (e :: es) X.env = (false, eval e X.env) :: starEach es X.env := by rfl) (hplain : (backTo cpos (starEach es X.env)).any (·.1) = false := by rfl) :
    PE X (.Call (.Attribute o name apos) (e :: es) [] cpos) (tBMF r to t) := by
  refine ⟨fun pins s σ H Q I h => ?_⟩
  refine wpAny_Call_method_late hbase hfew hline rfl (thn (ho.run pins s σ H _ I h) fun v s1 ⟨x, H1, I1, r1, ty, q1⟩ => ?_)
  obtain ⟨p, ob, ys, rfl, hp, hc, hd⟩ := ty
  obtain ⟨e1, _⟩ := I1.hok p _ hp
  cases r1
  refine ⟨"tuple", id, pa, slot, hty, ⟨ob, e1, hc⟩, fun a e => ?_, ?_⟩
  · cases e
    exact ⟨ob, e1, hd⟩
  have hA := ha.run cpos pins s1 σ H1 _ I1 q1
  rw [hs] at hA ⊢
  refine Calls.callWith_builtin (by show (false || (backTo cpos (starEach es X.env)).any (·.1)) = false; rw [hplain] <;> rfl) (Calls.evalArgs_plain ?_)
  exact thn hA fun us s2 ⟨vs, H2, I2, r2, q2⟩ => hm pins s2 σ H2 (.ref p) vs (.ref p) us Q I2 rfl r2 q2
/-- xs.index(y), xs a list or a tuple made by tuple(..) -/
theorem pe_index {o e : Expr} {to te : TE} {apos cpos : Pos} (ho : PE X o to) (he : PE X e te)
    (hbase : attributeBase o "index" X.env (eval o X.env) = eval o X.env := by rfl)
    (hfew : ((backTo cpos (starEach [e] X.env)).all (fun x => !x.1) && (backToKw cpos (keywordEach [] X.env)).all (fun x => x.1.isSome)
      && decide ([e].length + ([] : List Keyword).length + (if ([] : List Keyword).isEmpty then 0 else 1) < 30)) = true := by rfl)
    (hline : (apos.endLine == cpos.line) = true := by rfl) (hs : starEach [e] X.env = (false, eval e X.env) :: starEach [] X.env := by rfl) (hplain : (backTo cpos (starEach [] X.env)).any (·.1) = false := by rfl) :
    PE X (.Call (.Attribute o "index" apos) [e] [] cpos) (fun σ H Q =>
      tBM X.K "list" (rIndex X.K) to (tCons te tNil) σ H Q ∨
      tBMF (fun x xs H Q => ∃ p, ∃ ys : List Str, ∃ z j, x = .ref p ∧ xs = [.str z] ∧ SqT X.K H p (ys.map V.str) ∧ ys[j]? = some z ∧ (∀ m, m < j → ys[m]? ≠ some z) ∧ Q (.int (j : Nat)) H) to (tCons te tNil) σ H Q) :=
  pe_alt (pe_bm PySem.F.plainAttrs_list PySem.F.slot_list_index PySem.F.type_list_index mt_index ho (pa_cons he pa_nil (hs := hs)) hbase hfew hline hs hplain)
    (pe_bmF PySem.F.plainAttrs_tuple PySem.F.slot_tuple_index PySem.F.type_tuple_index mt_tup_index ho (pa_cons he pa_nil (hs := hs)) hbase hfew hline hs hplain)
end
/-! ### the rules that speak of the written part, for the element of a comprehension: the part is named -/
section
variable {X : Cx} {K : PySem.W.Frag}
theorem ix_listK (h : X.K = K) : IxR X (rIxL K) := h ▸ ix_list
theorem ix_tupK (h : X.K = K) : IxR X (rIxT K) := h ▸ ix_tup
theorem ix_seqK (h : X.K = K) : IxR X (rIx K) := h ▸ ix_seq
theorem op_in_seqK (h : X.K = K) : OpR X (compareOp .In) (rIn K false) := h ▸ op_in_seq
theorem op_notIn_seqK (h : X.K = K) : OpR X (compareOp .NotIn) (rIn K true) := h ▸ op_notIn_seq
theorem sl_listK (h : X.K = K) : SlR X (rSlL K) := h ▸ sl_list
theorem sl_tupK (h : X.K = K) : SlR X (rSlT K) := h ▸ sl_tup
theorem call_isiK' (h : X.K = K) : CallR X (.builtin "isinstance") (rIsi K) := h ▸ call_isi
theorem call_len_seqK (h : X.K = K) : CallR X (.builtin "len") (fun xs H Q => ∃ p ys, xs = [.ref p] ∧ (SqL K H p ys ∨ SqT K H p ys) ∧ Q (.int ys.length) H) := h ▸ call_len_seq
end
section
variable {X : Cx}
/-- two derivations of one walk -/
theorem pi_alt {tg e : Expr} {t u : TI} (h1 : PI X tg e t) (h2 : PI X tg e u) : PI X tg e (fun σ H R => t σ H R ∨ u σ H R) :=
  ⟨fun pins s σ H R I h => h.elim (h1.run pins s σ H R I) (h2.run pins s σ H R I)⟩
end
section
variable {X : Cx} {K : PySem.W.Frag}
theorem pi_listK {tg l : Expr} {tl : TE} (h : X.K = K) (hl : PE X l tl) : PI X tg l (iList K tl) := h ▸ pi_list hl
theorem pi_tupK {tg l : Expr} {tl : TE} (h : X.K = K) (hl : PE X l tl) : PI X tg l (iTup K tl) := h ▸ pi_tup hl
theorem call_list_ofK (h : X.K = K) : CallR X (.type "list") (fun xs H Q => ∃ p ys, xs = [.ref p] ∧ (SqL K H p ys ∨ SqT K H p ys) ∧ ∀ l, H l = none → Q (.ref l) (upd H l (.lst ys))) := h ▸ call_list_of
end
section
variable {X : Cx} {K : PySem.W.Frag}
theorem pg_tupK {es : List Expr} {k : Nat} {t : TGs} {n : Nat} {pos : Pos} (h : X.K = K) (hc : X.calm = true) (hp : PGs X es t)
    (hn : (assignEach es X.env).length = n := by rfl) (hst : (assignEach es X.env).findIdx? (·.1) = none := by rfl) : PG X (.Tuple es k pos) (gTup K n t) := h ▸ pg_tup hc hp hn hst
end
/-! ### heaps: everything but what stands at r is as it was -/
def Fr (r : Addr) (H H' : Hp) : Prop := ∀ b o, b ≠ r → H b = some o → H' b = some o
theorem Fr.refl (r : Addr) (H : Hp) : Fr r H H := fun _ _ _ h => h
theorem Fr.trans {r : Addr} {H H1 H2 : Hp} (a : Fr r H H1) (b : Fr r H1 H2) : Fr r H H2 := fun c o n h => b c o n (a c o n h)
theorem Fr.of {r : Addr} {H H' : Hp} (a : Same H H') : Fr r H H' := fun c o _ h => a c o h
theorem Fr.new {r p : Addr} {H : Hp} {o : HO} (h : H p = none) : Fr r H (upd H p o) := fun b u _ e => by
  rw [upd_ne (ne_of_none e h)]
  exact e
theorem Fr.upd {r : Addr} {H : Hp} {o : HO} : Fr r H (upd H r o) := fun b u n e => by
  rw [upd_ne n]
  exact e
theorem Fr.mut {r p : Addr} {H H' : Hp} {o : HO} (a : Fr r H H') (h : H p = none) : Fr r H (L2.upd H' p o) := fun b u n e => by
  rw [upd_ne (ne_of_none e h)]
  exact a b u n e
theorem Fr.seq {K : PySem.W.Frag} {r : Addr} {H H' : Hp} {a : Addr} {xs : List V} (e : Fr r H H') (n : a ≠ r) (h : SqL K H a xs) : SqL K H' a xs := by
  rcases h with (h | ⟨o, h⟩) | h
  · exact .inl (.inl (e _ _ n h))
  · exact .inl (.inr ⟨o, e _ _ n h⟩)
  · exact .inr h
theorem same_new {H : Hp} {p : Addr} {o : HO} (h : H p = none) : Same H (upd H p o) := fun b u e => by
  rw [upd_ne (ne_of_none e h)]
  exact e
theorem same_mut {H H' : Hp} {p : Addr} {o : HO} (a : Same H H') (h : H p = none) : Same H (upd H' p o) := fun b u e => by
  rw [upd_ne (ne_of_none e h)]
  exact a b u e
theorem same_back {H H' : Hp} {p : Addr} (e : Same H H') (h : H' p = none) : H p = none := e.free h
/-- what tuples stood, stands -/
def Tp (H H' : Hp) : Prop := ∀ b xs, H b = some (.tup xs) → H' b = some (.tup xs)
theorem Tp.refl (H : Hp) : Tp H H := fun _ _ h => h
theorem Tp.trans {H H1 H2 : Hp} (a : Tp H H1) (b : Tp H1 H2) : Tp H H2 := fun c o h => b c o (a c o h)
theorem tps {H H' : Hp} (a : Same H H') : Tp H H' := fun b xs h => a b _ h
theorem tpn {H : Hp} {p : Addr} {o : HO} (h : H p = none) : Tp H (upd H p o) := tps (same_new h)
/-! ### a reader: a list of three ints -/
def RD (H : Hp) (r : Addr) : Prop := ∃ c k d : Int, H r = some (.lst [.int c, .int k, .int d])
theorem RD.of {H H' : Hp} {r : Addr} (h : RD H r) (e : Same H H') : RD H' r := by
  obtain ⟨c, k, d, h⟩ := h
  exact ⟨c, k, d, e _ _ h⟩
theorem RD.ne {H : Hp} {r p : Addr} (h : RD H r) (n : H p = none) : p ≠ r := by
  obtain ⟨c, k, d, h⟩ := h
  exact fun e => by
    subst e
    rw [n] at h
    cases h
theorem Fr.tp {r : Addr} {H H' : Hp} (a : Fr r H H') (h : RD H r) : Tp H H' := fun b xs e => by
  refine a b _ (fun z => ?_) e
  subst z
  obtain ⟨c, k, d, h⟩ := h
  rw [h] at e
  cases e
theorem Fr.free {r p : Addr} {H H' : Hp} (a : Fr r H H') (h : RD H r) (h' : RD H' r) (n : H' p = none) : H p = none := by
  cases q : H p with
  | none => rfl
  | some o =>
    have z := a p o (h'.ne n) q
    rw [n] at z
    cases z
/-! ### items -/
theorem at_in {α : Type} {xs : List α} {i : Int} (h0 : 0 ≤ i) (h : i < (xs.length : Int)) : ∃ x, xs[i.toNat]? = some x ∧ atI xs i = some x := by
  obtain ⟨n, rfl⟩ := Int.eq_ofNat_of_zero_le h0
  have h1 : n < xs.length := by omega
  have h2 : xs[n]? = some xs[n] := List.getElem?_eq_getElem h1
  exact ⟨xs[n], by simpa using h2, atI_nat h2⟩
theorem int_of_bl {i j : Int} (h : decide (V.int i = V.int j) = true) : i = j := V.int.inj (of_decide_eq_true h)
theorem int_ne_bl {i j : Int} (h : ¬ decide (V.int i = V.int j) = true) : i ≠ j := fun e => h (decide_eq_true (congrArg V.int e))
theorem dec_t {p : Prop} [Decidable p] (h : decide p = true) : p := of_decide_eq_true h
theorem dec_f {p : Prop} [Decidable p] (h : ¬ decide p = true) : ¬ p := fun z => h (decide_eq_true z)
theorem mod_lt {i n : Int} (h : 0 < n) : 0 ≤ i % n ∧ i % n < n := ⟨Int.emod_nonneg i (by omega), Int.emod_lt_of_pos i h⟩
theorem cut_to (xs : List V) (n : Nat) : cutV xs none (some (n : Int)) = xs.take n := by
  unfold cutV
  rw [HT.sIx_none, show HT.sIx xs.length xs.length (some (n : Int)) = min n xs.length from HT.sIx_nat xs.length xs.length n, Nat.sub_zero, List.drop_zero]
  by_cases h : n ≤ xs.length
  · rw [Nat.min_eq_left h]
  · rw [Nat.min_eq_right (by omega), List.take_length, List.take_of_length_le (by omega)]
theorem cut_from (xs : List V) (n : Nat) : cutV xs (some (n : Int)) none = xs.drop n := by
  unfold cutV
  rw [HT.sIx_none, show HT.sIx xs.length 0 (some (n : Int)) = min n xs.length from HT.sIx_nat xs.length 0 n]
  by_cases h : n ≤ xs.length
  · rw [Nat.min_eq_left h]
    exact List.take_of_length_le (by rw [List.length_drop]; exact Nat.le_refl _)
  · rw [Nat.min_eq_right (by omega), Nat.sub_self, List.take_zero, List.drop_of_length_le (by omega)]
theorem cutS_len (z : Str) (lo hi : Option Int) : (cutS z lo hi).length ≤ z.length := by
  show (List.toArray _).size ≤ z.cps.size
  rw [List.size_toArray, List.length_take, List.length_drop, Array.length_toList]
  omega
theorem str_at {z : Str} {i : Int} (h0 : 0 ≤ i) (h : i < (z.length : Int)) : ∃ c, atI z.cps.toList i = some c := by
  obtain ⟨c, _, e⟩ := at_in (xs := z.cps.toList) h0 (by rw [Array.length_toList]; exact h)
  exact ⟨c, e⟩
/-- what stood before r was laid -/
theorem Fr.back {r : Addr} {H0 H H' : Hp} (f : Fr r H H') (s : Same H0 H) (n : H0 r = none) : Same H0 H' := fun b o e => f b o (ne_of_none e n) (s b o e)
/-! ### texts of true signs -/
theorem sok_iff {x : Str} : PyData.strOk x = true ↔ ∀ c ∈ x.cps.toList, c < 0x110000 := by
  unfold PyData.strOk
  rw [← Array.all_toList, List.all_eq_true]
  constructor
  · intro h c hc
    exact of_decide_eq_true (h c hc)
  · intro h c hc
    exact decide_eq_true (h c hc)
theorem sok_app {x y : Str} (hx : PyData.strOk x = true) (hy : PyData.strOk y = true) : PyData.strOk (x ++ y) = true := by
  rw [sok_iff] at hx hy ⊢
  intro c hc
  have e : (x ++ y).cps.toList = x.cps.toList ++ y.cps.toList := Array.toList_append
  rw [e] at hc
  rcases List.mem_append.mp hc with h | h
  · exact hx c h
  · exact hy c h
theorem atI_mem {α : Type} {xs : List α} {i : Int} {x : α} (h : atI xs i = some x) : x ∈ xs := by
  unfold atI at h
  cases e : ixN xs.length i with
  | none => rw [e] at h; cases h
  | some j =>
    rw [e] at h
    exact List.mem_of_getElem? (show xs[j]? = some x from h)
theorem sok_one {z : Str} {i : Int} {c : Nat} (h : atI z.cps.toList i = some c) (hz : PyData.strOk z = true) : PyData.strOk ⟨#[c]⟩ = true := by
  rw [sok_iff] at hz ⊢
  intro d hd
  have e : d = c := by simpa using hd
  subst e
  exact hz d (atI_mem h)
theorem sok_cut {z : Str} {lo hi : Option Int} (hz : PyData.strOk z = true) : PyData.strOk (cutS z lo hi) = true := by
  rw [sok_iff] at hz ⊢
  intro d hd
  have e : d ∈ (z.cps.toList.drop (HT.sIx z.length 0 lo)).take (HT.sIx z.length z.length hi - HT.sIx z.length 0 lo) := by simpa [cutS] using hd
  exact hz d (List.mem_of_mem_drop (List.mem_of_mem_take e))
theorem one_len (c : Nat) : (⟨#[c]⟩ : Str).length = 1 := rfl
theorem app_len (x y : Str) : (x ++ y).length = x.length + y.length := by
  show (x.cps ++ y.cps).size = _
  rw [Array.size_append]
  rfl
theorem line_small {n : Nat} (h : n ≤ 100000) : n ≤ sizeLine := Nat.le_trans h (by decide)
theorem map_at {α β : Type} {f : α → β} {xs : List α} {j : Nat} {x : α} (h : xs[j]? = some x) : (xs.map f)[j]? = some (f x) := by
  rw [List.getElem?_map, h]
  rfl
open NdefX
/-! ### an error class whose __init__ hands a text to the class above it and keeps its argument -/
section
open NdefX PySem.W
/-- what an f-string may hold -/
def Fmt (y : V) : Prop := (∃ z : Str, y = .str z ∧ z.length ≤ 100000) ∨ ∃ i : Int, y = .int i ∧ i.natAbs < 2 ^ 64
/-- the promise of such an __init__: the field is set -/
def spInit (C : Addr) (fld : Str) : Sp := fun vs H Q _ => ∃ (a : Addr) (y : V), vs = [.ref a, y] ∧ Fmt y ∧ H a = some (exo a C none) ∧
  ∀ dx, H dx = none → dx ≠ a → Q .non (upd (upd H dx (exd dx [(fld, y)])) a (exo a C (some dx)))
/-- the scope of such an __init__ -/
abbrev initSc (par : Str) : Scope := { kind := .function, names := [("self", .local), (par, .local), ("__class__", .free), ("super", .globalImplicit)], isGenerator := false, isCoroutine := false, more := [] }
/-- the written part, as far as it speaks of the class and its __init__ -/
structure InitK (P : Program) (K : PySem.W.Frag) (mg : Str → Option Value) (f cc cda C : Addr) (qual : Str) (params : Arguments) (body : List Stmt) (fd : FuncData) (par fld : Str) : Prop where
  ex : ∃ (oc : Value) (od : Option Addr) (osl : Array (Option Value)) (dV kV doc pm ct : Value) (an : Option Addr), fd = PySem.W.fnX "__init__" qual params body (initSc par) [("__class__", cc)] dV kV doc pm an (.ref cda) ct ∧ K.lookup f = some ⟨oc, od, .func fd, osl⟩
  code : PySem.W.codeIn K (.ref cda) qual = true
  file : ∃ (oc : Value) (od : Option Addr) (vs : Array Value) (sl : Array (Option Value)) (file : Str) (tf : Tok), K.lookup cda = some ⟨oc, od, .fields vs, sl⟩ ∧ vs[2]? = some (.str file tf) ∧ (P.main.file == file) = true
  cell : ∃ (oc : Value) (od : Option Addr) (sl : Array (Option Value)), K.lookup cc = some ⟨oc, od, .cell (some (.ref C)), sl⟩
  cls : OexC K C
  me : PySem.W.mroIn K C (.ref C) = some true
  up : PySem.W.ks_superIn K C C "__init__" = some (some (.builtin "ValueError.__init__"))
  ve : PySem.W.subIn K (.ref C) (.type "ValueError") = some true
  opq : PySem.W.nsIn K cStatics "thirdparty.any" = some none
  fld : PySem.W.findIn K (.ref C) fld = some none
  zsup : mg "super" = none
  self : (params.posonlyargs ++ params.args).head?.map (·.arg) = some "self"
  top : (P.main.scope.names.lookup ("super" : Str)).isSome = false
structure InitS (par : Str) : Prop where
  n : NScope ["self", par, "__class__"] ["self", par] ["__class__"] (initSc par)
  sup : (initSc par).names.lookup ("super" : Str) = some .globalImplicit
  cls : (initSc par).names.lookup ("__class__" : Str) = some .free
  vself : (initSc par).names.lookup ("self" : Str) = some .local
  vpar : (initSc par).names.lookup par = some .local
  d1 : (par == ("__debug__" : Str)) = false
  d2 : (par == ("__classdict__" : Str)) = false
variable {CX : CXT} {P : Program} {w : World} {K : PySem.W.Frag} {mg : Str → Option Value} {base : Heap} {k : Nat} {f cc cda C : Addr} {qual : Str} {params : Arguments} {fd : FuncData} {par fld : Str}
  {p0 p1 p2 p3 p4 q0 q1 q2 q3 : Pos} {fs : Expr} {tfs : TE}
/-- the function, as HandS names it -/
abbrev initF (qual : Str) (params : Arguments) (body : List Stmt) (par : Str) (cc cda : Addr) : NF := { name := "__init__", qual := qual, params := params, body := body, scope := initSc par, cl := [("__class__", cc)], c := cda }
abbrev initB (p0 p1 p2 p3 p4 q0 q1 q2 q3 : Pos) (fs : Expr) (par fld : Str) : List Stmt :=
  [.Expr (.Call (.Attribute (.Call (.Name "super" p0) [] [] p1) "__init__" p2) [fs] [] p3) p4, .Assign [.Attribute (.Name "self" q0) fld q1] (.Name par q2) q3]
theorem init_ok (Z : InitK P K mg f cc cda C qual params (initB p0 p1 p2 p3 p4 q0 q1 q2 q3 fs par fld) fd par fld) (S : InitS par)
    (hfs : ∀ (A : Around) (outer : List Env) (s : Shared) (H : Hp) (E : XK), PE (ncx CX P w K mg base ["self", par, "__class__"] (initF qual params (initB p0 p1 p2 p3 p4 q0 q1 q2 q3 fs par fld) par cc cda) f A outer s H E) fs tfs)
    (hst : ∀ env : Env, starEach [fs] env = [(false, eval fs env)])
    {pl : Env → Sem Bool} (hev : ∀ env : Env, eval (.Call (.Attribute (.Call (.Name "super" p0) [] [] p1) "__init__" p2) [fs] [] p3) env = (do
      let o ← attributeBase (.Call (.Name "super" p0) [] [] p1) "__init__" env (eval (.Call (.Name "super" p0) [] [] p1) env)
      standAt p2.atName
      let (g, gs) ← holding [o] (getMethod o "__init__" (pl env))
      callWith p3 g gs (backTo p3 (starEach [fs] env)) []))
    (hrd : ∀ (a : Addr) (y : V) (H : Hp) (Q : VK), Fmt y → (∀ z, Q (.str z) H) → tfs [some (.ref a), some y, some (.ref C)] H Q) :
    FnOk P w K mg base CX (k + 1) f fd ["self", par] (spInit C fld) := by
  obtain ⟨oc, od, osl, dV, kV, doc, pm, ct, an, rfl, lk⟩ := Z.ex
  refine ⟨fun vs H Q E h => by obtain ⟨a, y, rfl, _⟩ := h; rfl, fun A outer s H args us vs Q E hr e0 hb r hsp => ?_⟩
  obtain ⟨a, y, rfl, hy, ha, q⟩ := hsp
  have KX : K.In s.heap := e0.mod.kin.keeps fun b o e => (e0.bs b o e).1
  have lim : s.heap.NoLimit := e0.mod.nolimit.keeps fun b o e => (e0.bs b o e).1
  have hl2 : us.length = 2 := r.length.symm
  refine codeAny_call_function hr.depth (KX _ _ lk) rfl S.n.co S.n.gen rfl (PySem.W.codeRec_of KX Z.code) (hb _ _ _ _ ?_)
  refine wpAny_newFunctionEnv S.n.nocell (fun ⟨n, _⟩ hm => S.n.par n (List.of_mem_zip hm).1) (fun g1 hns hsb => ⟨lim.fresh _ hsb, ?_⟩) S.n.kind
  have kp : ∀ b o, s.heap.get? b = some o → g1.get? b = some o := fun b o e => hsb.extBut b o (Nat.ne_of_lt (Heap.lt_size e)) (Heap.get?_push_of_some _ e)
  obtain ⟨occ, odc, slc, hcell⟩ := Z.cell
  have hC : CellsAt [("__class__", cc)] ["__class__"] [some (.ref C)] s.heap H := by
    refine ⟨rfl, fun y c e => ?_, fun x y c e1 e2 => ?_, fun i y e => ?_⟩
    · have ec : cc = c := by
        by_cases hy2 : y = "__class__"
        · subst hy2; exact Option.some.inj e
        · have hb : (y == ("__class__" : Str)) = false := by simpa using hy2
          simp [List.lookup, hb] at e
      subst ec
      exact ⟨(e0.bs _ _ (e0.mod.kin _ _ hcell)).2, _, _, KX _ _ hcell, rfl⟩
    · have one : ∀ z, List.lookup z [(("__class__" : Str), cc)] = some c → z = "__class__" := fun z e => by
        by_cases hz : z = "__class__"
        · exact hz
        · have hb : (z == ("__class__" : Str)) = false := by simpa using hz
          simp [List.lookup, hb] at e
      rw [one x e1, one y e2]
    · match i, e with
      | 0, e =>
        cases e
        exact ⟨cc, rfl, fun v hv => by cases hv; exact ⟨_, rfl, _, KX _ _ hcell, rfl⟩⟩
      | i + 1, e => cases e
  have I := inv_startN (CX := CX) (N := ["self", par, "__class__"]) (F := initF qual params (initB p0 p1 p2 p3 p4 q0 q1 q2 q3 fs par fld) par cc cda) (f := f) (ws := [some (.ref C)]) (E := E) (tk := s.toks + (List.zip (["self", par] : List Str) us).length) S.n hr.hd e0 rfl r hC hns kp
  refine ks_codeAny_funcAt ?_
  refine ks_wpAt_execs_cons (ks_wpAt_Expr_any (ks_wpAt_MethodCall ?_ (hev _)))
  obtain ⟨ocd, odd, vsd, sld, fl, tfl, hcode, hvs, hfile⟩ := Z.file
  obtain ⟨ar, har, hself⟩ : ∃ ar, (params.posonlyargs ++ params.args).head? = some ar ∧ ar.arg = "self" := by
    have z := Z.self
    cases e : (params.posonlyargs ++ params.args).head? with
    | none => rw [e] at z; cases z
    | some ar => rw [e] at z; exact ⟨ar, rfl, Option.some.inj z⟩
  have X1 : K.In g1 := fun b o e => kp b o (KX b o e)
  obtain ⟨nm, qn, N, bs, bm, sn, sub, ab, col, dd, k0, k1, k2, k3, k5, hK, hbm⟩ := Z.cls.cls
  have hC1 := X1 _ _ hK
  obtain ⟨t1, hx⟩ := exo_at I.hok ha
  have fresh : ∀ {b : Addr} {o : Obj}, g1.get? b = some o → b ≠ g1.objs.size := fun h => Nat.ne_of_lt (Heap.lt_size h)
  have mx : (List.zip (["self", par] : List Str) us).reverse.lookup ("self" : Str) = some (.ref a) := by
    match us, r with
    | [_, _], .cons ra _ =>
      cases ra
      have hne : (("self" : Str) == par) = false := by
        have nd := S.n.nd
        by_cases e : ("self" : Str) = par
        · subst e
          exact absurd nd (by simp)
        · simpa using e
      show List.lookup ("self" : Str) [(par, _), ("self", Value.ref a)] = _
      simp [List.lookup, hne]
  refine ks_wpAt_super_base (env := envX qual (initSc par) s.heap.objs.size f (.ref cda) [("__class__", cc)]) S.sup S.cls rfl rfl (X1 _ _ lk) rfl har rfl (X1 _ _ hcode) rfl hvs hfile Z.top ?_
  obtain ⟨mb, hb1, hb2⟩ := I.mod.blt
  refine ks_loadName_global rfl S.sup (Calls.loadGlobal_builtin (I.mod.glob.keeps I.bk) Z.zsup (hb1.keeps I.bk) ((hb2 "super" (by decide)).trans (by decide +kernel)) ⟨rfl, ?_⟩)
  refine wpAny_loadName_free rfl S.cls rfl ⟨_, X1 _ _ hcell, rfl⟩ ?_
  rw [hself]
  refine wpAny_loadName_local rfl S.vself hns mx ?_
  refine ks_wpAny_isType_cls hC1 rfl ⟨rfl, ?_⟩
  refine ks_wpAny_call_super hC1 rfl hx rfl (fun c e => by cases e) (looks_mroIn X1 Z.me) (fun h2 e2 kp2 => ?_)
  have I2 := I.kept (t' := s.toks + (List.zip (["self", par] : List Str) us).length) kp2
  have X2 : K.In h2 := fun b o e => kp2 _ _ (X1 b o e)
  have J2 : InstAt h2 a ({ cls := .ref C, dict := none, data := .fields #[.ref t1, .none, .none, .none, .bool false, .none] } : Obj) C none := ⟨kp2 _ _ hx, rfl, rfl, trivial⟩
  obtain ⟨cd, hcd⟩ : ∃ cd, clsIn K C = some cd := by
    unfold clsIn
    rw [hK]
    exact ⟨_, rfl⟩
  have hup := Z.up
  unfold ks_superIn at hup
  rw [hcd] at hup
  refine kxs_getMethod kxs_ValueError e2 (looks_opaque X2 Z.opq) (l₀ := cd.mro) (fun _ _ _ _ k q => wpAny_bind ((looks_clsIn X2 hcd) _ _ _ _ k (wpAny_pure q))) rfl X2 hup (J2.type.andThen (looks_subIn X2 Z.ve)) (ks_ne X2 J2 hcd) rfl ?_
  -- the bound __init__ is called
  have kp3 : ∀ b o, h2.get? b = some o → (h2.push (kxs_mw "ValueError.__init__" a)).get? b = some o := fun b o e => Heap.get?_push_of_some _ e
  have eu : (h2.push (kxs_mw "ValueError.__init__" a)).get? h2.objs.size = some (kxs_mw "ValueError.__init__" a) := Heap.get?_push_at rfl rfl
  have I3 := I2.kept (t' := s.toks + (List.zip (["self", par] : List Str) us).length + 1) kp3
  have I3p := I3.pinned (fp := [h2.objs.size]) (fun b hb => by
    rcases List.mem_singleton.mp hb with rfl
    exact I2.fpOk (Nat.le_refl _) (I2.hok.fresh (Nat.le_refl _))) (fun b hb => by
    rcases List.mem_singleton.mp hb with rfl
    exact ⟨_, eu, fun v e => by cases e⟩)
  have pa := (pa_cons (hfs A outer s H E) pa_nil (hst _)).run p3 _ _ _ H (fun xs H' => ∃ z, xs = [.str z] ∧ H' = H) I3p (hrd a y H _ hy fun z => ⟨z, rfl, rfl⟩)
  rw [hst] at pa
  rw [hst]
  refine kxs_callWith (i := "ValueError.__init__") (x := a) rfl ?_
  refine Calls.evalArgs_plain (wpAny_mono pa (fun vs s4 hv => ?_) fun e s' he => ?_)
  · obtain ⟨xs, H4, I4, rv, z, rfl, rfl⟩ := hv
    obtain ⟨pu, _⟩ := I4.pin (h2.objs.size, kxs_mw "ValueError.__init__" a) (List.mem_append_right _ (mem_pinsAt (List.mem_singleton.mpr rfl) eu))
    refine ⟨pu, ?_⟩
    obtain ⟨t4, hx4⟩ := exo_at I4.hok ha
    have X4 : K.In s4.heap := I4.kIn
    obtain ⟨h4, g4, d4, tk4, os4⟩ := s4
    have hvl : vs.length ≤ sizeLine := by
      rw [← rv.length]
      exact line_small (by show 1 ≤ 100000; decide)
    -- the method-wrapper's call
    refine wpAny_call (codeAny_of_tree ?_)
    show wpAny _ (Around.in1 _) (callAny (.ref h2.objs.size) ⟨vs, []⟩) _ _ _
    simp only [callAny]
    refine wpAny_bind (wpAny_load pu ?_)
    simp only [kxs_mw, show (Value.type "method-wrapper" == Value.type "method" || Value.type "method-wrapper" == Value.type "builtin_function_or_method" || Value.type "method-wrapper" == Value.type "method-wrapper") = true by decide, if_true]
    refine KFB.if_so (by decide) ?_
    refine wpAny_bind (check_bound_init PySem.F.excBase_ValueError.toExcCallFacts (X4 _ _ hK) hx4 rfl ?_)
    refine wpAny_bind (wpAny_pure (wpAny_pure ?_))
    refine ⟨plainId_quiet PySem.F.excBase_ValueError.init.plain _, codeAny_builtin PySem.F.excBase_ValueError.initEntry ?_⟩
    refine exc_init_tree (cls := .ref C) (t0 := t4) (dv := none) (c2 := .none) (c3 := .none) (b4 := .bool false) hx4 hvl (fun h5 k5 e5 _ => ?_)
    have J5 := (I4.write (t' := tk4) (x := a) (e := a) (o := exo a C none) (by rw [ha]; exact True.intro) (.inl rfl) k5 ⟨_, e5⟩ (exo_ok e5)).unpinned
    have eH : upd H4 a (exo a C none) = H4 := by
      funext b
      by_cases hb : b = a
      · rw [hb, upd_same, ha]
      · rw [upd_ne hb]
    rw [eH] at J5
    have ps := (pss_one (ps_ost (X := ncx CX P w K mg base ["self", par, "__class__"] (initF qual params (initB p0 p1 p2 p3 p4 q0 q1 q2 q3 fs par fld) par cc cda) f A outer s H4 E) (p' := q1) (pos := q3) (f := fld)
      (pe_var (i := 0) (pos := q0) (x := "self") rfl (.inl S.vself)) (pe_var (i := 1) (pos := q2) (x := par) rfl (.inl S.vpar) S.d1 S.d2) rfl)).run [] _ _ H4 { nx := fun _ H' => Q .non H', rt := Q } J5
      ⟨y, rfl, .ref a, rfl, a, C, rfl, Z.cls, Z.fld, .inl ⟨ha, fun dx n1 n2 => q dx n1 n2⟩⟩
    refine _root_.PySem.wpAt_of_wpAny (wpAny_mono ps (fun fl s' hs => ?_) fun e s' hs => hs)
    cases fl with
    | ret u =>
      obtain ⟨v, σ', H', J, rv, q⟩ := hs
      exact ⟨v, H', J.os, J.bare, J.base, J.hok, rv, q⟩
    | next =>
      obtain ⟨σ', H', J, q⟩ := hs
      exact ⟨.non, H', J.os, J.bare, J.base, J.hok, rfl, q⟩
    | brk =>
      obtain ⟨_, _, _, q⟩ := hs
      exact False.elim q
    | cont =>
      obtain ⟨_, _, _, q⟩ := hs
      exact False.elim q
  · exact he
end
/-! ### errors held as values -/
section
variable {X : Cx} {o e : Expr} {to te : TE} {ta : TA} {f : Str} {p pos : Pos}
/-- C(e), C's own __init__ keeping sp: the new error as a value -/
def tMkV (C : Addr) (sp : Sp) (ta : TA) : TE := fun σ H Q => ta σ H fun vs H1 => vs.length ≤ 1000 ∧ ∀ a, H1 a = none → sp (.ref a :: vs) (upd H1 a (exo a C none)) (fun v H2 => v = .non ∧ Q (.ref a) H2) E0
theorem pe_oex {x : Str} {C fI : Addr} {k : Nat} {fd : FuncData} {ps : List Str} {sp : Sp} (T : OexC X.K C) (iC : PySem.W.findIn X.K (.ref C) "__init__" = some (some (.ref fI))) (tI : PySem.W.typeIn X.K (.ref fI) = some (.type "function"))
    (G : FnOk X.prog X.w X.K X.mg X.base CX0 k fI fd ps sp) (hr : Room (k + 1) X.A) (hb : Binds X.K fd ps []) (hg : Gl X x) (hm : X.mg x = some (.ref C)) (ha : PE X e te)
    (hst : starEach [e] X.env = (false, eval e X.env) :: starEach [] X.env := by rfl) (hdb : (x == ("__debug__" : Str)) = false := by decide) :
    PE X (.Call (.Name x p) [e] [] pos) (tMkV C sp (tCons te tNil)) := by
  refine ⟨fun pins s σ H Q I h => ?_⟩
  obtain ⟨nm, q, N, bs, bm, sn, sub, ab, col, dd, k0, k1, k2, k3, k5, hC, hbm⟩ := T.cls
  refine wpAny_Call_Name_kw (ld_glob I hg hm ?_ hdb)
  refine PySem.W.callWith_K (h₀ := X.base) I.ok.mod.kin T.kC (thn ((pa_cons ha pa_nil hst).run pos pins s σ H _ I h) fun us s1 ⟨vs, H1, I1, r1, hz, q1⟩ => ⟨I1.kIn, ?_⟩) hst rfl
  show wpAny _ _ (call (.ref C) us) _ _ _
  obtain ⟨hp, g, dr, tk, os⟩ := s1
  have h1 : hp.objs.size ≤ hp.objs.size + 1 := Nat.le_succ _
  have q2 := q1 (hp.objs.size + 1) (I1.hok.fresh h1)
  have up2 : ∀ b o, hp.get? b = some o → ((hp.push (PySem.W.kdv_tup us)).push (PySem.HandSPX.excO C hp.objs.size)).get? b = some o := fun b o z => Heap.get?_push_of_some _ (Heap.get?_push_of_some _ z)
  have here : ((hp.push (PySem.W.kdv_tup us)).push (PySem.HandSPX.excO C hp.objs.size)).get? (hp.objs.size + 1) = some (PySem.HandSPX.excO C hp.objs.size) := by heap_get
  have I2 := I1.laid (t' := tk) (a := hp.objs.size + 1) (o := exo (hp.objs.size + 1) C none) (h' := (hp.push (PySem.W.kdv_tup us)).push (PySem.HandSPX.excO C hp.objs.size)) up2 h1 (exo_ok here)
  have r2 : Vals (V.ref (hp.objs.size + 1) :: vs) (Value.ref (hp.objs.size + 1) :: us) := .cons rfl r1
  have len2 : (Value.ref (hp.objs.size + 1) :: us ++ []).length = ps.length := by
    rw [List.append_nil, ← r2.length]
    exact G.len _ _ _ _ q2
  have usl : us.length ≤ sizeLine := by
    rw [← Paired.length r1]
    exact line_small (by omega)
  have bd := hb ⟨(hp.push (PySem.W.kdv_tup us)).push (PySem.HandSPX.excO C hp.objs.size), g, dr, tk, os⟩ (Value.ref (hp.objs.size + 1) :: us) I2.kIn len2
  rw [List.append_nil] at bd
  refine wpAny_call (PySem.HandSPX.call_own F.excBase_ValueError (fun Y => PySem.HandSPX.refsVE_contains Y bm hbm) (I1.kIn _ _ hC) (PySem.W.looks_findIn I1.kIn iC) (fun self => PySem.W.bind_fn I1.kIn self tI) usl
    (codeAny_mono (G.run _ X.stack _ _ ⟨Value.ref (hp.objs.size + 1) :: us, []⟩ _ _ _ E0 (hr.make C us []) (I2.env0.make C us []) bd r2 q2) fun r s' hq => ?_))
  cases r with
  | error er => exact hq.elim
  | ok fl =>
    cases fl with
    | ret u =>
      obtain ⟨v, H3, I3, rv, ev, q3⟩ := I2.after hq
      subst ev
      exact ⟨rv, .ref _, H3, I3, rfl, q3⟩
    | next => exact False.elim hq
    | brk => exact False.elim hq
    | cont => exact False.elim hq
/-- C(), C without an own __init__ -/
theorem pe_exc0 {x : Str} {C : Addr} {bmB : List Value} {B newId initId : String} (F : ExcBaseFacts B newId initId bmB) (q : PySem.W.excIn X.K C bmB newId = true) (gC : X.mg x = some (.ref C)) (kC : PySem.W.keepIn X.K (.ref C) = true) (hg : Gl X x)
    (hdb : (x == ("__debug__" : Str)) = false := by decide) :
    PE X (.Call (.Name x p) [] [] pos) (fun _ H Q => ∀ a, H a = none → Q (.ref a) (upd H a (ExO (.ref C) a))) := by
  refine ⟨fun pins s σ H Q I h => ?_⟩
  refine wpAny_Call_Name_kw (ld_glob I hg gC ?_ hdb)
  refine PySem.W.callWith_K0 I.kIn kC ?_
  show wpAny _ _ (call (.ref C) []) _ _ _
  obtain ⟨bm, N, nm, qn, bs, hdct, sn, sub, ab, col, dd, k0, k1, k2, k3, k5, mN, hC, hN, hni, T⟩ := exc_obj I.kIn q
  refine wpAny_call_exc_subT F T hC hN hni (fun h' a hm => ?_) (Nat.zero_le _)
  have hn : H a = none := I.hok.gone hm.new
  obtain ⟨t, ht, _, _⟩ := hm.there
  exact ⟨.ref a, upd H a (ExO (.ref C) a), I.laidN hm.keeps hm.new hn (exO_ok ht ⟨rfl, rfl⟩ rfl rfl rfl (show 4 < 6 by decide)), rfl, h a hn⟩
/-- what stands at an error's address: one with an own __init__, before and behind it, or one without -/
def ErrO (H : Hp) (C a : Addr) : Prop := H a = some (exo a C none) ∨ (∃ d fs, H a = some (exo a C (some d)) ∧ H d = some (exd d fs)) ∨ H a = some (ExO (.ref C) a)
/-- what the written part says of an error class, for isinstance -/
structure ErrC (K : PySem.W.Frag) (C : Addr) : Prop where
  cl : (PySem.W.clsIn K C).isSome = true
  ga : PySem.W.findIn K (.ref C) "__getattribute__" = some (some (.builtin "BaseException.__getattribute__"))
  gt : PySem.W.findIn K (.ref C) "__getattr__" = some none
  sb : PySem.W.subIn K (.ref C) (.type "BaseException") = some true
  ca : PySem.W.findIn K (.ref C) "__class__" = some (some (.builtin "object.__class__"))
  cn : PySem.W.specialIn K (.builtin "object.__class__") "__get__" = some (some (.builtin "getset_descriptor.__get__"))
  ct : PySem.W.takesIn K (.builtin "object.__class__") = some true
  cm : PySem.W.mroIn K C (.type "object") = some true
  hd : PySem.W.hasDictIn K C = true
theorem err_inst {pins : List (Addr × Obj)} {σ : L2.St} {H : Hp} {s : Shared} {C a : Addr} (I : Inv X pins σ H s) (h : ErrO H C a) : ∃ ox od, PySem.W.InstAt s.heap a ox C od := by
  rcases h with h | ⟨d, fs, h, hd⟩ | h
  · obtain ⟨t, e⟩ := exo_at I.hok h
    exact ⟨_, none, e, rfl, rfl, True.intro⟩
  · obtain ⟨t, e⟩ := exo_at I.hok h
    obtain ⟨mA, hns, _⟩ := exd_at I.hok hd
    obtain ⟨od, es, ep, e2, _⟩ := hns
    exact ⟨_, some od, e, rfl, rfl, e2⟩
  · obtain ⟨⟨oe, vs, e, z, d, _⟩, _, _⟩ := I.hok a _ h
    refine ⟨oe, none, e, z.1, ?_, ?_⟩
    · unfold PySem.W.notCls
      rw [d]
    · rw [z.2]
      exact True.intro
/-- isinstance of an error, of one class -/
def rIsE (K : PySem.W.Frag) : List V → Hp → VK → Prop := fun xs H Q => ∃ (a C : Addr) (c : V) (u : Value) (b : Bool), xs = [.ref a, c] ∧ ClsV c u ∧ ErrC K C ∧ ErrO H C a ∧ PySem.W.kitOne K (.ref C) u = some b ∧ Q (.bl b) H
theorem call_isE : CallR X (.builtin "isinstance") (rIsE X.K) := by
  intro pins s σ H xs us Q I r h
  obtain ⟨a, C, c, u, b, rfl, kc, T, he, e, q⟩ := h
  obtain ⟨u1, u2, rfl, r1, r2⟩ := vals2 r
  have e2 := kc.eq r2
  subst e2
  cases r1
  obtain ⟨ox, od, J⟩ := err_inst I he
  exact PySem.W.kia_one (PySem.W.kitx_exc T.cl T.ga T.gt T.sb T.ca T.cn T.ct T.cm) I.kIn J e (fun z => nomatch z) fun tk => ⟨.bl b, H, I.tok tk, rfl, q⟩
/-- e.f of an error held as a value -/
def tEf (K : PySem.W.Frag) (f : Str) (te : TE) : TE := fun σ H Q => te σ H fun x H1 => ∃ (a C d : Addr) (fs : List (Str × V)) (v : V), x = .ref a ∧ ErrC K C ∧ PySem.W.findIn K (.ref C) f = some none ∧ H1 a = some (exo a C (some d)) ∧ H1 d = some (exd d fs) ∧ fs.lookup f = some v ∧ Q v H1
theorem pe_ef (he : PE X e te) (hb : attributeBase e f X.env (eval e X.env) = eval e X.env := by rfl) : PE X (.Attribute e f pos) (tEf X.K f te) := by
  refine ⟨fun pins s σ H Q I h => ?_⟩
  refine attr_of hb (thn (he.run pins s σ H _ I h) fun u s1 hh => ?_)
  obtain ⟨x, H1, I1, rx, a, C, d, fs, v, rfl, T, hno, ha, hd, l, q⟩ := hh
  cases rx
  obtain ⟨t, e1⟩ := exo_at I1.hok ha
  obtain ⟨mA, hns, hr⟩ := exd_at I1.hok hd
  obtain ⟨od, ho, hl⟩ := lookIn_ns hns
  obtain ⟨u, hu, ru⟩ := RelO.some_of (v := v) (o := mA f) (by rw [← l]; exact hr f)
  have J : PySem.W.InstAt s1.heap a ({ cls := .ref C, dict := some d, data := .fields #[.ref t, .none, .none, .none, .bool false, .none] } : Obj) C (some od) := ⟨e1, rfl, rfl, ho⟩
  exact HandSPX.exc_get I1.kIn J T.ga T.gt T.sb (PySem.W.findObj_own T.hd hno rfl (by rw [hl, hu])) (handed_of ru) ⟨v, H1, I1.tok _, ru, q⟩
/-- the promise of an error's __init__, whatever heap it leaves -/
def spInitA (C : Addr) (fld : Str) : Sp := fun vs H Q _ => ∃ (a : Addr) (y : V), vs = [.ref a, y] ∧ Fmt y ∧ H a = some (exo a C none) ∧
  ∀ (d : Addr) (H' : Hp), (∀ b o, H b = some o → b ≠ a → H' b = some o) → H' a = some (exo a C (some d)) → H' d = some (exd d [(fld, y)]) → H d = none → Q .non H'
theorem initA {C : Addr} {fld : Str} (vs : List V) (H : Hp) (Q : VK) (E : XK) (h : spInitA C fld vs H Q E) : spInit C fld vs H Q E := by
  obtain ⟨a, y, rfl, hy, ha, q⟩ := h
  refine ⟨a, y, rfl, hy, ha, fun d n k => q d _ (fun b o e ne => ?_) upd_same ((upd_ne k).trans upd_same) n⟩
  rw [upd_ne ne, upd_ne (ne_of_none e n)]
  exact e
theorem same_made {H H' : Hp} {a : Addr} {o : HO} (n : H a = none) (k : ∀ b u, upd H a o b = some u → b ≠ a → H' b = some u) : Same H H' := fun b u e =>
  k b u (by rw [upd_ne (ne_of_none e n)]; exact e) (ne_of_none e n)
end
/-! ### the facts of error classes, by one look each -/
def errB (K : PySem.W.Frag) (C : Addr) : Bool := (PySem.W.clsIn K C).isSome && decide (PySem.W.findIn K (.ref C) "__getattribute__" = some (some (.builtin "BaseException.__getattribute__"))) && decide (PySem.W.findIn K (.ref C) "__getattr__" = some none) &&
  decide (PySem.W.subIn K (.ref C) (.type "BaseException") = some true) && decide (PySem.W.findIn K (.ref C) "__class__" = some (some (.builtin "object.__class__"))) && decide (PySem.W.specialIn K (.builtin "object.__class__") "__get__" = some (some (.builtin "getset_descriptor.__get__"))) &&
  decide (PySem.W.takesIn K (.builtin "object.__class__") = some true) && decide (PySem.W.mroIn K C (.type "object") = some true) && PySem.W.hasDictIn K C
theorem errB_ok {K : PySem.W.Frag} {C : Addr} (h : errB K C = true) : ErrC K C := by
  unfold errB at h
  simp only [Bool.and_eq_true, decide_eq_true_eq] at h
  obtain ⟨⟨⟨⟨⟨⟨⟨⟨h1, h2⟩, h3⟩, h4⟩, h5⟩, h6⟩, h7⟩, h8⟩, h9⟩ := h
  exact ⟨h1, h2, h3, h4, h5, h6, h7, h8, h9⟩
/-- the class with this number -/
def clsAt (l : List (Nat × Addr)) (n : Nat) : Addr := match l.lookup n with
  | some a => a
  | none => 0
def errsB (K : PySem.W.Frag) (c : Nat → Addr) (ids : List Nat) (up : Nat → Nat → Bool) : Bool := ids.all fun i => PySem.W.keepIn K (.ref (c i)) && errB K (c i) && decide (PySem.W.kitOne K (.ref (c i)) (.type "ValueError") = some true) &&
  ids.all fun j => decide (PySem.W.kitOne K (.ref (c i)) (.ref (c j)) = some (up i j))
theorem errsB_ok {K : PySem.W.Frag} {c : Nat → Addr} {ids : List Nat} {up : Nat → Nat → Bool} (h : errsB K c ids up = true) : (∀ i ∈ ids, PySem.W.keepIn K (.ref (c i)) = true) ∧ (∀ i ∈ ids, ErrC K (c i)) ∧
    (∀ i ∈ ids, ∀ j ∈ ids, PySem.W.kitOne K (.ref (c i)) (.ref (c j)) = some (up i j)) ∧ ∀ i ∈ ids, PySem.W.kitOne K (.ref (c i)) (.type "ValueError") = some true := by
  unfold errsB at h
  rw [List.all_eq_true] at h
  have z : ∀ i ∈ ids, PySem.W.keepIn K (.ref (c i)) = true ∧ ErrC K (c i) ∧ PySem.W.kitOne K (.ref (c i)) (.type "ValueError") = some true ∧ ∀ j ∈ ids, PySem.W.kitOne K (.ref (c i)) (.ref (c j)) = some (up i j) := fun i hi => by
    have q := h i hi
    simp only [Bool.and_eq_true, decide_eq_true_eq, List.all_eq_true] at q
    exact ⟨q.1.1.1, errB_ok q.1.1.2, q.1.2, q.2⟩
  exact ⟨fun i hi => (z i hi).1, fun i hi => (z i hi).2.1, fun i hi => (z i hi).2.2.2, fun i hi => (z i hi).2.2.1⟩
/-- an __init__'s facts -/
def initB' (K : PySem.W.Frag) (C : Addr) (fld : Str) : Bool := decide (PySem.W.mroIn K C (.ref C) = some true) && decide (PySem.W.ks_superIn K C C "__init__" = some (some (.builtin "ValueError.__init__"))) && decide (PySem.W.subIn K (.ref C) (.type "ValueError") = some true) &&
  decide (PySem.W.findIn K (.ref C) fld = some none) && decide (PySem.W.findIn K (.ref C) "__setattr__" = some (some (.builtin "object.__setattr__"))) && decide (PySem.W.subIn K (.ref C) (.type "BaseException") = some true) && decide (PySem.W.typeIn K (.ref C) = some (.type "type"))
theorem initB_ok {K : PySem.W.Frag} {C : Addr} {fld : Str} (h : initB' K C fld = true) : PySem.W.mroIn K C (.ref C) = some true ∧ PySem.W.ks_superIn K C C "__init__" = some (some (.builtin "ValueError.__init__")) ∧ PySem.W.subIn K (.ref C) (.type "ValueError") = some true ∧
    PySem.W.findIn K (.ref C) fld = some none ∧ PySem.W.findIn K (.ref C) "__setattr__" = some (some (.builtin "object.__setattr__")) ∧ PySem.W.subIn K (.ref C) (.type "BaseException") = some true ∧ PySem.W.typeIn K (.ref C) = some (.type "type") := by
  unfold initB' at h
  simp only [Bool.and_eq_true, decide_eq_true_eq] at h
  obtain ⟨⟨⟨⟨⟨⟨h1, h2⟩, h3⟩, h4⟩, h5⟩, h6⟩, h7⟩ := h
  exact ⟨h1, h2, h3, h4, h5, h6, h7⟩

def errsB2 (K : PySem.W.Frag) (c : Nat → Addr) (m : Nat) (ids : List Nat) : Bool := ids.all fun i => decide (PySem.W.typeIn K (.ref (c i)) = some (.type "type")) && decide (PySem.W.subIn K (.ref (c i)) (.ref (c m)) = some true)
theorem errsB2_ok {K : PySem.W.Frag} {c : Nat → Addr} {m : Nat} {ids : List Nat} (h : errsB2 K c m ids = true) : (∀ i ∈ ids, PySem.W.typeIn K (.ref (c i)) = some (.type "type")) ∧ ∀ i ∈ ids, PySem.W.subIn K (.ref (c i)) (.ref (c m)) = some true := by
  unfold errsB2 at h
  rw [List.all_eq_true] at h
  refine ⟨fun i hi => ?_, fun i hi => ?_⟩
  · have q := h i hi
    simp only [Bool.and_eq_true, decide_eq_true_eq] at q
    exact q.1
  · have q := h i hi
    simp only [Bool.and_eq_true, decide_eq_true_eq] at q
    exact q.2
def errIds : List Nat := [2, 3, 4, 5, 6, 7, 8, 9, 10, 11, 12, 13, 14, 15, 16, 17, 18]
def errChains : List (Nat × List Nat) := [(2, [2]), (3, [3, 2]), (4, [4, 3, 2]), (5, [5, 3, 2]), (6, [6, 3, 2]), (7, [7, 3, 2]), (8, [8, 3, 2]), (9, [9, 3, 2]), (10, [10, 3, 2]), (11, [11, 3, 2]), (12, [12, 3, 2]), (13, [13, 3, 2]), (14, [14, 2]), (15, [15, 14, 2]), (16, [16, 14, 2]), (17, [17, 14, 2]), (18, [18, 2])]
def errUp (i j : Nat) : Bool := match errChains.lookup i with | some l => l.contains j | none => false
/-- an error class's __init__ as it stands behind the top -/
def InitAt (P : Program) (K : PySem.W.Frag) (mg : Str → Option Value) (C : Addr) (st : Stmt) (par fld : Str) : Prop := ∃ (f cc cda : Addr) (fd : FuncData) (qual : Str), InitK P K mg f cc cda C qual (defArgs st) (defBody st) fd par fld ∧
  PySem.W.findIn K (.ref C) "__init__" = some (some (.ref f)) ∧ PySem.W.typeIn K (.ref f) = some (.type "function") ∧ Binds K fd ["self", par] []
/-- what a call of such a class needs -/
def HasI (P : Program) (w : World) (K : PySem.W.Frag) (mg : Str → Option Value) (base : Heap) (C : Addr) (par fld : Str) : Prop := ∃ (f : Addr) (fd : FuncData), FnOk P w K mg base CX0 1 f fd ["self", par] (spInitA C fld) ∧
  PySem.W.findIn K (.ref C) "__init__" = some (some (.ref f)) ∧ PySem.W.typeIn K (.ref f) = some (.type "function") ∧ Binds K fd ["self", par] []
theorem log_small {n : Nat} (h : n < 2 ^ 64) : n.log2 < 1920 := by
  by_cases e : n = 0
  · rw [e]
    decide
  · exact (Nat.log2_lt e).mpr (Nat.lt_of_lt_of_le h (Nat.pow_le_pow_right (by decide) (by decide)))
theorem fj2 {s1 : Str} (h1 : s1.length ≤ 1000) {a C : Addr} {y : V} {H : Hp} {Q : VK} (hy : Fmt y) (q : ∀ z, Q (.str z) H) : tJs [tC (.str s1), tFmt (tVar 1)] Str.empty [some (.ref a), some y, some (.ref C)] H (fun out H1 => Q (.str out) H1) := by
  have e1 : (Str.empty ++ s1).length = s1.length := by rw [app_len]; exact Nat.zero_add _
  refine ⟨s1, rfl, by rw [e1]; exact line_small (by omega), y, rfl, ?_⟩
  rcases hy with ⟨z, rfl, hz⟩ | ⟨i, rfl, hi⟩
  · exact .inl ⟨z, rfl, line_small hz, z, rfl, by rw [app_len, e1]; exact Nat.le_trans (by omega) (show 101000 ≤ sizeLine by decide), q _⟩
  · have hl := log_small hi
    exact .inr ⟨i, rfl, hl, _, rfl, by rw [app_len, e1]; exact Nat.le_trans (Nat.add_le_add h1 (int_text_len_1921 hl)) (show 2921 ≤ sizeLine by decide), q _⟩
theorem fj3 {s1 s2 : Str} (h1 : s1.length ≤ 1000) (h2 : s2.length ≤ 1000) {a C : Addr} {y : V} {H : Hp} {Q : VK} (hy : Fmt y) (q : ∀ z, Q (.str z) H) : tJs [tC (.str s1), tFmt (tVar 1), tC (.str s2)] Str.empty [some (.ref a), some y, some (.ref C)] H (fun out H1 => Q (.str out) H1) := by
  have e1 : (Str.empty ++ s1).length = s1.length := by rw [app_len]; exact Nat.zero_add _
  refine ⟨s1, rfl, by rw [e1]; exact line_small (by omega), y, rfl, ?_⟩
  rcases hy with ⟨z, rfl, hz⟩ | ⟨i, rfl, hi⟩
  · exact .inl ⟨z, rfl, line_small hz, z, rfl, by rw [app_len, e1]; exact Nat.le_trans (by omega) (show 101000 ≤ sizeLine by decide), s2, rfl, by rw [app_len, app_len, e1]; exact Nat.le_trans (by omega) (show 102000 ≤ sizeLine by decide), q _⟩
  · have hl := log_small hi
    have hs := int_text_len_1921 hl
    exact .inr ⟨i, rfl, hl, _, rfl, by rw [app_len, e1]; exact Nat.le_trans (Nat.add_le_add h1 hs) (show 2921 ≤ sizeLine by decide), s2, rfl, by rw [app_len, app_len, e1]; exact Nat.le_trans (Nat.add_le_add (Nat.add_le_add h1 hs) h2) (show 3921 ≤ sizeLine by decide), q _⟩
structure Txt (P : Program) (K : PySem.W.Frag) (mg : Str → Option Value) (c : Nat → Addr) : Prop where
  z_ValueError : mg "ValueError" = none
  z_all : mg "all" = none
  z_any : mg "any" = none
  z_bool : mg "bool" = none
  z_int : mg "int" = none
  z_isinstance : mg "isinstance" = none
  z_len : mg "len" = none
  z_list : mg "list" = none
  z_range : mg "range" = none
  z_str : mg "str" = none
  z_super : mg "super" = none
  z_tuple : mg "tuple" = none
  z_zip : mg "zip" = none
  d__wall : DefAt K mg "_wall" s__wall ["k"]
  d_frozen : DefAt K mg "frozen" s_frozen ["value"]
  d_letters_reason : DefAt K mg "letters_reason" s_letters_reason ["letters", "answers"]
  d_first_reason : DefAt K mg "first_reason" s_first_reason ["letters", "answers", "states"]
  d_states_reason : DefAt K mg "states_reason" s_states_reason ["letters", "answers", "states"]
  d_events_of : DefAt K mg "events_of" s_events_of ["contract"]
  d_both : DefAt K mg "both" s_both ["first", "second"]
  d_reached_pairs : DefAt K mg "reached_pairs" s_reached_pairs ["first", "second"]
  d_pair_target : DefAt K mg "pair_target" s_pair_target ["first", "second", "pair", "event"]
  d_pair_row : DefAt K mg "pair_row" s_pair_row ["first", "second", "pairs", "pair"]
  d__law_cell : DefAt K mg "_law_cell" s__law_cell ["script", "k"]
  d__law_reader : DefAt K mg "_law_reader" s__law_reader ["cell"]
  d__law_next : DefAt K mg "_law_next" s__law_next ["reader", "size"]
  d__law_same : DefAt K mg "_law_same" s__law_same ["told", "due"]
  d__law_target : DefAt K mg "_law_target" s__law_target ["reader", "many"]
  d__law_states : DefAt K mg "_law_states" s__law_states ["reader", "letters", "answers", "many"]
  d__law_events : DefAt K mg "_law_events" s__law_events ["letters", "answers"]
  d__law_follow : DefAt K mg "_law_follow" s__law_follow ["states", "state", "event"]
  d__law_right : DefAt K mg "_law_right" s__law_right ["contract", "parts"]
  d__law_pairs : DefAt K mg "_law_pairs" s__law_pairs ["first", "second", "events"]
  d__law_joined : DefAt K mg "_law_joined" s__law_joined ["one", "two"]
  d__law_told : DefAt K mg "_law_told" s__law_told ["one", "two"]
  d__law_sides : DefAt K mg "_law_sides" s__law_sides ["script"]
  d_law : DefAt K mg "law" s_law ["script"]
  g_Contract : mg "Contract" = some (.ref (c 28))
  cl_Contract : Cls K (c 28)
  ins_Contract : C8.InsC K (c 28)
  n_Contract_letters : NoAttr K (c 28) "letters"
  n_Contract_answers : NoAttr K (c 28) "answers"
  n_Contract_states : NoAttr K (c 28) "states"
  d_Contract_init : ∃ (f : Addr) (fd : FuncData), Fun K "__init__" "Contract.__init__" s_Contract_init f fd ∧ Mk K (c 28) f ∧ Binds K fd ["self", "letters", "answers", "states"] []
  d_Contract_follow : ∃ (f : Addr) (fd : FuncData), Fun K "follow" "Contract.follow" s_Contract_follow f fd ∧ Meth K (c 28) "follow" f ∧ Binds K fd ["self", "state", "event"] []
  c_MOST_LETTERS : ∃ t, mg "MOST_LETTERS" = some (.int 3 t)
  c_LEAST_ANSWERS : ∃ t, mg "LEAST_ANSWERS" = some (.int 2 t)
  c_MOST_ANSWERS : ∃ t, mg "MOST_ANSWERS" = some (.int 4 t)
  c_MOST_STATES : ∃ t, mg "MOST_STATES" = some (.int 8 t)
  g_MendError : mg "MendError" = some (.ref (c 2))
  g_InvalidInput : mg "InvalidInput" = some (.ref (c 3))
  g_InvalidText : mg "InvalidText" = some (.ref (c 4))
  g_InvalidProgram : mg "InvalidProgram" = some (.ref (c 5))
  g_InvalidContract : mg "InvalidContract" = some (.ref (c 6))
  g_InvalidChange : mg "InvalidChange" = some (.ref (c 7))
  g_InvalidStream : mg "InvalidStream" = some (.ref (c 8))
  g_InvalidPlaces : mg "InvalidPlaces" = some (.ref (c 9))
  g_InvalidEdit : mg "InvalidEdit" = some (.ref (c 10))
  g_InvalidLine : mg "InvalidLine" = some (.ref (c 11))
  g_InvalidName : mg "InvalidName" = some (.ref (c 12))
  g_Mismatch : mg "Mismatch" = some (.ref (c 13))
  g_BoundError : mg "BoundError" = some (.ref (c 14))
  g_TooLarge : mg "TooLarge" = some (.ref (c 15))
  g_TooLong : mg "TooLong" = some (.ref (c 16))
  g_TooManyCases : mg "TooManyCases" = some (.ref (c 17))
  g_DeskError : mg "DeskError" = some (.ref (c 18))
  kp : ∀ i ∈ errIds, PySem.W.keepIn K (.ref (c i)) = true
  er : ∀ i ∈ errIds, ErrC K (c i)
  isa : ∀ i ∈ errIds, ∀ j ∈ errIds, PySem.W.kitOne K (.ref (c i)) (.ref (c j)) = some (errUp i j)
  ve : ∀ i ∈ errIds, PySem.W.kitOne K (.ref (c i)) (.type "ValueError") = some true
  ty : ∀ i ∈ errIds, PySem.W.typeIn K (.ref (c i)) = some (.type "type")
  su : ∀ i ∈ errIds, PySem.W.subIn K (.ref (c i)) (.ref (c id_MendError)) = some true
  x_MendError : PySem.W.excIn K (c 2) [.type "ValueError", .type "Exception", .type "BaseException", .type "object"] "ValueError.__new__" = true
  x_InvalidInput : PySem.W.excIn K (c 3) [.type "ValueError", .type "Exception", .type "BaseException", .type "object"] "ValueError.__new__" = true
  o_InvalidText : OexC K (c 4)
  n_InvalidText : InitAt P K mg (c 4) (inClass (topS 4) 0) "position" "position"
  f_InvalidText : PySem.W.findIn K (.ref (c 4)) "position" = some none
  o_InvalidProgram : OexC K (c 5)
  n_InvalidProgram : InitAt P K mg (c 5) (inClass (topS 5) 0) "reason" "reason"
  f_InvalidProgram : PySem.W.findIn K (.ref (c 5)) "reason" = some none
  o_InvalidContract : OexC K (c 6)
  n_InvalidContract : InitAt P K mg (c 6) (inClass (topS 6) 0) "reason" "reason"
  f_InvalidContract : PySem.W.findIn K (.ref (c 6)) "reason" = some none
  x_InvalidChange : PySem.W.excIn K (c 7) [.type "ValueError", .type "Exception", .type "BaseException", .type "object"] "ValueError.__new__" = true
  x_InvalidStream : PySem.W.excIn K (c 8) [.type "ValueError", .type "Exception", .type "BaseException", .type "object"] "ValueError.__new__" = true
  o_InvalidPlaces : OexC K (c 9)
  n_InvalidPlaces : InitAt P K mg (c 9) (inClass (topS 9) 0) "place" "place"
  f_InvalidPlaces : PySem.W.findIn K (.ref (c 9)) "place" = some none
  o_InvalidEdit : OexC K (c 10)
  n_InvalidEdit : InitAt P K mg (c 10) (inClass (topS 10) 0) "place" "place"
  f_InvalidEdit : PySem.W.findIn K (.ref (c 10)) "place" = some none
  o_InvalidLine : OexC K (c 11)
  n_InvalidLine : InitAt P K mg (c 11) (inClass (topS 11) 0) "number" "number"
  f_InvalidLine : PySem.W.findIn K (.ref (c 11)) "number" = some none
  o_InvalidName : OexC K (c 12)
  n_InvalidName : InitAt P K mg (c 12) (inClass (topS 12) 0) "name" "name"
  f_InvalidName : PySem.W.findIn K (.ref (c 12)) "name" = some none
  x_Mismatch : PySem.W.excIn K (c 13) [.type "ValueError", .type "Exception", .type "BaseException", .type "object"] "ValueError.__new__" = true
  x_BoundError : PySem.W.excIn K (c 14) [.type "ValueError", .type "Exception", .type "BaseException", .type "object"] "ValueError.__new__" = true
  o_TooLarge : OexC K (c 15)
  n_TooLarge : InitAt P K mg (c 15) (inClass (topS 15) 0) "what" "what"
  f_TooLarge : PySem.W.findIn K (.ref (c 15)) "what" = some none
  o_TooLong : OexC K (c 16)
  n_TooLong : InitAt P K mg (c 16) (inClass (topS 16) 0) "what" "what"
  f_TooLong : PySem.W.findIn K (.ref (c 16)) "what" = some none
  o_TooManyCases : OexC K (c 17)
  n_TooManyCases : InitAt P K mg (c 17) (inClass (topS 17) 0) "limit" "limit"
  f_TooManyCases : PySem.W.findIn K (.ref (c 17)) "limit" = some none
  x_DeskError : PySem.W.excIn K (c 18) [.type "ValueError", .type "Exception", .type "BaseException", .type "object"] "ValueError.__new__" = true
section
variable {P : Program} {w : World} {K : PySem.W.Frag} {mg : Str → Option Value} {base : Heap} {c : Nat → Addr}
theorem mk_InvalidText (T : Txt P K mg c) : HasI P w K mg base (c 4) "position" "position" := by
  obtain ⟨f, cc, cda, fd, qual, Z, i, t, b⟩ := T.n_InvalidText
  exact ⟨f, fd, (init_ok Z ⟨nscope_by (by decide +kernel), rfl, rfl, rfl, rfl, rfl, rfl⟩ (fun A outer s H E => pe_joined (PJ.cons pe_str (PJ.cons (pe_fmt (pe_var (i := 1) rfl (.inl rfl))) PJ.nil))) (fun env => rfl) (fun env => rfl) (fun a y H Q hy q => fj2 (by decide +kernel) hy q)).imp initA, i, t, b⟩
theorem mk_InvalidProgram (T : Txt P K mg c) : HasI P w K mg base (c 5) "reason" "reason" := by
  obtain ⟨f, cc, cda, fd, qual, Z, i, t, b⟩ := T.n_InvalidProgram
  exact ⟨f, fd, (init_ok Z ⟨nscope_by (by decide +kernel), rfl, rfl, rfl, rfl, rfl, rfl⟩ (fun A outer s H E => pe_joined (PJ.cons pe_str (PJ.cons (pe_fmt (pe_var (i := 1) rfl (.inl rfl))) PJ.nil))) (fun env => rfl) (fun env => rfl) (fun a y H Q hy q => fj2 (by decide +kernel) hy q)).imp initA, i, t, b⟩
theorem mk_InvalidContract (T : Txt P K mg c) : HasI P w K mg base (c 6) "reason" "reason" := by
  obtain ⟨f, cc, cda, fd, qual, Z, i, t, b⟩ := T.n_InvalidContract
  exact ⟨f, fd, (init_ok Z ⟨nscope_by (by decide +kernel), rfl, rfl, rfl, rfl, rfl, rfl⟩ (fun A outer s H E => pe_joined (PJ.cons pe_str (PJ.cons (pe_fmt (pe_var (i := 1) rfl (.inl rfl))) PJ.nil))) (fun env => rfl) (fun env => rfl) (fun a y H Q hy q => fj2 (by decide +kernel) hy q)).imp initA, i, t, b⟩
theorem mk_InvalidPlaces (T : Txt P K mg c) : HasI P w K mg base (c 9) "place" "place" := by
  obtain ⟨f, cc, cda, fd, qual, Z, i, t, b⟩ := T.n_InvalidPlaces
  exact ⟨f, fd, (init_ok Z ⟨nscope_by (by decide +kernel), rfl, rfl, rfl, rfl, rfl, rfl⟩ (fun A outer s H E => pe_joined (PJ.cons pe_str (PJ.cons (pe_fmt (pe_var (i := 1) rfl (.inl rfl))) (PJ.cons pe_str PJ.nil)))) (fun env => rfl) (fun env => rfl) (fun a y H Q hy q => fj3 (by decide +kernel) (by decide +kernel) hy q)).imp initA, i, t, b⟩
theorem mk_InvalidEdit (T : Txt P K mg c) : HasI P w K mg base (c 10) "place" "place" := by
  obtain ⟨f, cc, cda, fd, qual, Z, i, t, b⟩ := T.n_InvalidEdit
  exact ⟨f, fd, (init_ok Z ⟨nscope_by (by decide +kernel), rfl, rfl, rfl, rfl, rfl, rfl⟩ (fun A outer s H E => pe_joined (PJ.cons pe_str (PJ.cons (pe_fmt (pe_var (i := 1) rfl (.inl rfl))) (PJ.cons pe_str PJ.nil)))) (fun env => rfl) (fun env => rfl) (fun a y H Q hy q => fj3 (by decide +kernel) (by decide +kernel) hy q)).imp initA, i, t, b⟩
theorem mk_InvalidLine (T : Txt P K mg c) : HasI P w K mg base (c 11) "number" "number" := by
  obtain ⟨f, cc, cda, fd, qual, Z, i, t, b⟩ := T.n_InvalidLine
  exact ⟨f, fd, (init_ok Z ⟨nscope_by (by decide +kernel), rfl, rfl, rfl, rfl, rfl, rfl⟩ (fun A outer s H E => pe_joined (PJ.cons pe_str (PJ.cons (pe_fmt (pe_var (i := 1) rfl (.inl rfl))) (PJ.cons pe_str PJ.nil)))) (fun env => rfl) (fun env => rfl) (fun a y H Q hy q => fj3 (by decide +kernel) (by decide +kernel) hy q)).imp initA, i, t, b⟩
theorem mk_InvalidName (T : Txt P K mg c) : HasI P w K mg base (c 12) "name" "name" := by
  obtain ⟨f, cc, cda, fd, qual, Z, i, t, b⟩ := T.n_InvalidName
  exact ⟨f, fd, (init_ok Z ⟨nscope_by (by decide +kernel), rfl, rfl, rfl, rfl, rfl, rfl⟩ (fun A outer s H E => pe_joined (PJ.cons pe_str (PJ.cons (pe_fmt (pe_var (i := 1) rfl (.inl rfl))) PJ.nil))) (fun env => rfl) (fun env => rfl) (fun a y H Q hy q => fj2 (by decide +kernel) hy q)).imp initA, i, t, b⟩
theorem mk_TooLarge (T : Txt P K mg c) : HasI P w K mg base (c 15) "what" "what" := by
  obtain ⟨f, cc, cda, fd, qual, Z, i, t, b⟩ := T.n_TooLarge
  exact ⟨f, fd, (init_ok Z ⟨nscope_by (by decide +kernel), rfl, rfl, rfl, rfl, rfl, rfl⟩ (fun A outer s H E => pe_joined (PJ.cons pe_str (PJ.cons (pe_fmt (pe_var (i := 1) rfl (.inl rfl))) PJ.nil))) (fun env => rfl) (fun env => rfl) (fun a y H Q hy q => fj2 (by decide +kernel) hy q)).imp initA, i, t, b⟩
theorem mk_TooLong (T : Txt P K mg c) : HasI P w K mg base (c 16) "what" "what" := by
  obtain ⟨f, cc, cda, fd, qual, Z, i, t, b⟩ := T.n_TooLong
  exact ⟨f, fd, (init_ok Z ⟨nscope_by (by decide +kernel), rfl, rfl, rfl, rfl, rfl, rfl⟩ (fun A outer s H E => pe_joined (PJ.cons pe_str (PJ.cons (pe_fmt (pe_var (i := 1) rfl (.inl rfl))) PJ.nil))) (fun env => rfl) (fun env => rfl) (fun a y H Q hy q => fj2 (by decide +kernel) hy q)).imp initA, i, t, b⟩
theorem mk_TooManyCases (T : Txt P K mg c) : HasI P w K mg base (c 17) "limit" "limit" := by
  obtain ⟨f, cc, cda, fd, qual, Z, i, t, b⟩ := T.n_TooManyCases
  exact ⟨f, fd, (init_ok Z ⟨nscope_by (by decide +kernel), rfl, rfl, rfl, rfl, rfl, rfl⟩ (fun A outer s H E => pe_joined (PJ.cons pe_str (PJ.cons (pe_fmt (pe_var (i := 1) rfl (.inl rfl))) (PJ.cons pe_str PJ.nil)))) (fun env => rfl) (fun env => rfl) (fun a y H Q hy q => fj3 (by decide +kernel) (by decide +kernel) hy q)).imp initA, i, t, b⟩
end
end Pf

namespace Pf
open PySem PySem.Spec PyProof.Rows L2
section
variable {P : Program} {w : World} {K : PySem.W.Frag} {mg : Str → Option Value} {base : Heap}
variable {c : Nat → Addr}
def sp__law_next (K : PySem.W.Frag) : Sp := fun vs H Q _ => ∃ (r : Addr) (n : Int), vs = [.ref r, .int n] ∧ RD H r ∧ 0 < n ∧ n < 1073741824 ∧ ∀ (v : Int) H', Fr r H H' → RD H' r → 0 ≤ v → v < n → Q (.int v) H'
theorem g0 {x y z : V} : atI [x, y, z] 0 = some x := atI_nat (j := 0) rfl
theorem g1 {x y z : V} : atI [x, y, z] 1 = some y := atI_nat (j := 1) rfl
theorem g2 {x y z : V} : atI [x, y, z] 2 = some z := atI_nat (j := 2) rfl
theorem ok__law_next (T : Txt P K mg c) : Has P w K mg base 1 "_law_next" ["reader", "size"] (sp__law_next K) := by
  obtain ⟨f, fd, F, m, b⟩ := T.d__law_next.ex
  refine ⟨f, fd, F.ok sc__law_next (fun vs H Q E h => ?_) (fun cdv A outer s H vs Q E hr h => ?_), m, F.kp, b⟩
  · obtain ⟨r, n, rfl, hR, h0, h1, q⟩ := h
    rfl
  obtain ⟨r, n, rfl, hR, h0, h1, q⟩ := h
  refine ⟨_, (pss_cons (ps_set (i := 2) sc__law_next.nd rfl (.inl rfl) (pe_ix ix_list (pv 0) pe_int (fun _ _ => rfl)))
      (pss_cons (ps_asg (pe_op op_add (pv 2) pe_int) (pg_sub (pv 0) pe_int set_list))
      (pss_cons (ps_if (PW.pt (pw_and (pt_cmpR op_ge (pe_ix ix_list (pv 0) pe_int (fun _ _ => rfl)) (pe_op op_pow pe_int pe_int) (nomark _)) (pw_and1 (pt_cmpR op_gt (pe_ix ix_list (pv 0) pe_int (fun _ _ => rfl)) pe_int (nomark _)))))
      (pss_cons (ps_set (i := 3) sc__law_next.nd rfl (.inl rfl) (pe_ix ix_list (pv 0) pe_int (fun _ _ => rfl)))
        (pss_cons (ps_asg (pe_op op_fdivN (pv 3) (pv 1)) (pg_sub (pv 0) pe_int set_list))
        (pss_one (ps_ret (pe_op op_mod (pe_callTy call_int1 (by rfl) T.z_int (by decide +kernel) (pa_cons (pv 3) pa_nil)) (pv 1))))))
      pss_nil)
      (pss_cons (ps_set (i := 4) sc__law_next.nd rfl (.inl rfl) (pe_op op_mod (pe_callTy call_int1 (by rfl) T.z_int (by decide +kernel) (pa_cons (pe_op op_add (pe_op op_add (pe_ix ix_list (pv 0) pe_int (fun _ _ => rfl)) (pe_op op_mul pe_int (pv 2))) pe_int) pa_nil)) pe_int))
      (pss_cons (ps_set (i := 4) sc__law_next.nd rfl (.inl rfl) (pe_op op_mod (pe_callTy call_int1 (by rfl) T.z_int (by decide +kernel) (pa_cons (pe_op op_mul (pv 4) (pe_op op_add (pv 4) pe_int)) pa_nil)) pe_int))
      (pss_cons (ps_set (i := 4) sc__law_next.nd rfl (.inl rfl) (pe_op op_mod (pe_callTy call_int1 (by rfl) T.z_int (by decide +kernel) (pa_cons (pe_op op_add (pe_op op_mul (pv 4) (pe_op op_add (pv 4) pe_int)) (pe_op op_mul pe_int (pv 2))) pa_nil)) pe_int))
      (pss_one (ps_ret (pe_op op_mod (pe_callTy call_int1 (by rfl) T.z_int (by decide +kernel) (pa_cons (pe_op op_fdivN (pv 4) pe_int) pa_nil)) (pv 1)))))))))), ?_⟩
  obtain ⟨c, k, d, hR⟩ := hR
  -- k = reader[1]
  refine ⟨_, rfl, r, _, 1, _, rfl, rfl, SqL.of hR, g1, ?_⟩
  -- reader[1] = k + 1
  refine ⟨_, rfl, _, _, rfl, rfl, _, rfl, r, _, 1, 1, rfl, rfl, hR, rfl, ?_⟩
  -- reader[0] >= 10 ** 18 and reader[2] > 0
  refine ⟨_, rfl, r, _, 0, .int c, rfl, rfl, SqL.of upd_same, g0, _, _, rfl, rfl, ⟨by decide, by decide, by decide⟩, _, _, rfl, rfl, _, rfl, ?_⟩
  refine ite2 (fun e => ⟨_, rfl, r, _, 2, _, rfl, rfl, SqL.of upd_same, g2, _, _, rfl, rfl, _, rfl, ite2 (fun e2 => ?a) (fun e2 => ?b)⟩) (fun e => iteF ?b2)
  case a =>
    refine ⟨_, rfl, r, _, 2, _, rfl, rfl, SqL.of upd_same, g2, ?_⟩
    refine ⟨_, rfl, _, rfl, _, _, rfl, rfl, ⟨by omega, by omega⟩, _, rfl, r, _, 2, 2, rfl, rfl, upd_same, rfl, ?_⟩
    refine ⟨_, rfl, .inl ⟨_, rfl, _, rfl, _, _, rfl, rfl, h0, ?_⟩⟩
    exact q _ _ (Fr.trans Fr.upd Fr.upd) ⟨_, _, _, upd_same⟩ (mod_lt h0).1 (mod_lt h0).2
  all_goals
    refine ⟨_, rfl, r, _, 0, _, rfl, rfl, SqL.of upd_same, g0, _, rfl, _, _, rfl, rfl, .inl ⟨by decide, by decide⟩, _, _, rfl, rfl, _, _, rfl, rfl, .inl ⟨_, rfl, _, _, rfl, rfl, (show (0 : Int) < 2147483647 by decide), ?_⟩⟩
    refine ⟨_, rfl, _, rfl, _, _, rfl, rfl, _, _, rfl, rfl, .inl ⟨by omega, by omega⟩, .inl ⟨_, rfl, _, _, rfl, rfl, (show (0 : Int) < 2147483629 by decide), ?_⟩⟩
    refine ⟨_, rfl, _, rfl, _, _, rfl, rfl, _, _, rfl, rfl, .inl ⟨by omega, by omega⟩, _, rfl, _, _, rfl, rfl, .inl ⟨by decide, by decide⟩, _, _, rfl, rfl, .inl ⟨_, rfl, _, _, rfl, rfl, (show (0 : Int) < 2147483647 by decide), ?_⟩⟩
    refine ⟨_, rfl, _, _, rfl, rfl, ⟨by decide, by decide⟩, .inl ⟨_, rfl, _, rfl, _, _, rfl, rfl, h0, ?_⟩⟩
    exact q _ _ Fr.upd ⟨_, _, _, upd_same⟩ (mod_lt h0).1 (mod_lt h0).2


end
end Pf

namespace Pf
open PySem PySem.Spec PyProof.Rows L2
section
variable {P : Program} {w : World} {K : PySem.W.Frag} {mg : Str → Option Value} {base : Heap}
variable {c : Nat → Addr}
def sp__law_cell (K : PySem.W.Frag) : Sp := fun vs H Q _ => ∃ (a : Addr) (ns : List Int) (j : Nat), vs = [.ref a, .int (j : Int)] ∧ SqL K H a (ns.map V.int) ∧ ∀ c : Int, Q (.int c) H
theorem ok__law_cell (T : Txt P K mg c) : Has P w K mg base 1 "_law_cell" ["script", "k"] (sp__law_cell K) := by
  obtain ⟨f, fd, F, m, b⟩ := T.d__law_cell.ex
  refine ⟨f, fd, F.ok sc__law_cell (fun vs H Q E h => ?_) (fun cdv A outer s H vs Q E hr h => ?_), m, F.kp, b⟩
  · obtain ⟨a, ns, j, rfl, hS, q⟩ := h
    rfl
  obtain ⟨a, ns, j, rfl, hS, q⟩ := h
  refine ⟨_, (pss_cons (ps_if (pt_cmpR op_lt (pv 1) (pe_callB call_len_seq (by rfl) T.z_len (by decide +kernel) (pa_cons (pv 0) pa_nil)) (nomark _))
      (pss_one (ps_ret (pe_ix ix_list (pv 0) (pv 1) (fun _ _ => rfl))))
      pss_nil)
      (pss_one (ps_ret pe_int))), ?_⟩
  refine ⟨_, rfl, _, rfl, a, _, rfl, .inl hS, _, _, rfl, rfl, _, rfl, ite2 (fun e => ?_) (fun e => ?_)⟩
  · have e1 := dec_t e
    obtain ⟨x, h1, h2⟩ := at_in (xs := ns.map V.int) (i := (j : Int)) (by omega) e1
    rw [List.getElem?_map] at h1
    cases h3 : ns[(j : Int).toNat]? with
    | none => rw [h3] at h1; cases h1
    | some c =>
      rw [h3] at h1
      cases h1
      exact ⟨_, rfl, _, rfl, a, _, _, _, rfl, rfl, hS, h2, q c⟩
  · exact q 0

def sp__law_reader (K : PySem.W.Frag) : Sp := fun vs H Q _ => ∃ (c : Int), vs = [.int c] ∧ ∀ (p : Addr) H', H p = none → Same H H' → RD H' p → Q (.ref p) H'
theorem ok__law_reader (T : Txt P K mg c) : Has P w K mg base 1 "_law_reader" ["cell"] (sp__law_reader K) := by
  obtain ⟨f, fd, F, m, b⟩ := T.d__law_reader.ex
  refine ⟨f, fd, F.ok sc__law_reader (fun vs H Q E h => ?_) (fun cdv A outer s H vs Q E hr h => ?_), m, F.kp, b⟩
  · obtain ⟨c, rfl, q⟩ := h
    rfl
  obtain ⟨c, rfl, q⟩ := h
  refine ⟨_, (pss_one (ps_ret (pe_lst (pa_cons (pv 0) (pa_cons pe_int (pa_cons (pe_op op_sub (pv 0) (pe_op op_pow pe_int pe_int)) pa_nil)))))), ?_⟩
  refine ⟨_, rfl, _, rfl, _, _, rfl, rfl, ⟨by decide, by decide, by decide⟩, _, _, rfl, rfl, by show 3 ≤ sizeLine; decide, fun p hp => ?_⟩
  exact q p _ hp (same_new hp) ⟨_, _, _, upd_same⟩

theorem yes {p : Prop} [Decidable p] {A B : Prop} (h : p) (a : A) : if decide p = true then A else B := by
  rw [decide_eq_true h]
  exact iteT a
theorem nope {p : Prop} [Decidable p] {A B : Prop} (h : ¬ p) (b : B) : if decide p = true then A else B := by
  rw [decide_eq_false h]
  exact iteF b

/-- data without lists, of a depth -/
def tupOk : Nat → PyData → Prop
  | _, .none => True
  | _, .bool _ => True
  | _, .int _ => True
  | _, .str _ => True
  | n + 1, .tuple ds => ds.length ≤ 100000 ∧ ∀ d ∈ ds, tupOk n d
  | _, _ => False
def sp__law_same (K : PySem.W.Frag) (n : Nat) : Sp := fun vs H Q _ => ∃ (x y : V) (d : PyData), vs = [x, y] ∧ Dp K H x d ∧ Dp K H y d ∧ tupOk n d ∧ ∀ H', Same H H' → Q (.bl true) H'
theorem tyx_seq {K : PySem.W.Frag} {H : Hp} {a : Addr} {xs : List V} (h : SqT K H a xs) : TyX K H (.ref a) (.type "tuple") := by
  rcases h with (h | ⟨o, h⟩) | ⟨o, its, n, h, hc, _⟩
  · exact .base (.tup h)
  · exact .fTuple h
  · exact .kTuple h hc
theorem seqT_same {K : PySem.W.Frag} {H H' : Hp} {a : Addr} {xs : List V} (e : Same H H') (h : SqT K H a xs) : SqT K H' a xs := by
  rcases h with (h | ⟨o, h⟩) | h
  · exact .inl (.inl (e _ _ h))
  · exact .inl (.inr ⟨o, e _ _ h⟩)
  · exact .inr h
mutual
theorem dp_same {K : PySem.W.Frag} {H H' : Hp} (e : Same H H') : ∀ {v : V} {d : PyData}, Dp K H v d → Dp K H' v d
  | _, _, .non => .non
  | _, _, .bl b => .bl b
  | _, _, .int i => .int i
  | _, _, .str x => .str x
  | _, _, .lst h k => .lst (e.seq h) (dpa_same e k)
  | _, _, .tup h k => .tup (seqT_same e h) (dpa_same e k)
theorem dpa_same {K : PySem.W.Frag} {H H' : Hp} (e : Same H H') : ∀ {xs : List V} {ds : List PyData}, DpAll K H xs ds → DpAll K H' xs ds
  | _, _, .nil => .nil
  | _, _, .cons h k => .cons (dp_same e h) (dpa_same e k)
end
theorem dpa_len {K : PySem.W.Frag} {H : Hp} : ∀ {xs : List V} {ds : List PyData}, DpAll K H xs ds → xs.length = ds.length
  | _, _, .nil => rfl
  | _, _, .cons _ k => congrArg (· + 1) (dpa_len k)
theorem dpa_at {K : PySem.W.Frag} {H : Hp} : ∀ {xs : List V} {ds : List PyData} {i : Nat}, DpAll K H xs ds → i < ds.length → ∃ x d, xs[i]? = some x ∧ ds[i]? = some d ∧ Dp K H x d
  | _, _, _, .nil, h => absurd h (Nat.not_lt_zero _)
  | _, _, 0, .cons h _, _ => ⟨_, _, rfl, rfl, h⟩
  | _, _, i + 1, .cons _ k, h => dpa_at (i := i) k (Nat.lt_of_succ_lt_succ h)
theorem all_true (n : Nat) : (List.replicate n true).all id = true := by
  induction n with
  | zero => rfl
  | succ n ih => rw [List.replicate_succ, List.all_cons, ih]; rfl
theorem same_step {n : Nat} (T : Txt P K mg c) (R : Has P w K mg base (n + 2) "_law_same" ["told", "due"] (fun vs H Q E => ∃ m, n = m + 1 ∧ sp__law_same K m vs H Q E)) : Has P w K mg base (n + 3) "_law_same" ["told", "due"] (sp__law_same K n) := by
  obtain ⟨f__law_same, fd__law_same, G__law_same, m__law_same, k__law_same, b__law_same⟩ := R
  obtain ⟨f, fd, F, m, b⟩ := T.d__law_same.ex
  refine ⟨f, fd, F.ok sc__law_same (fun vs H Q E h => ?_) (fun cdv A outer s H vs Q E hr h => ?_), m, F.kp, b⟩
  · obtain ⟨x, y, d, rfl, hx, hy, hd, q⟩ := h
    rfl
  obtain ⟨x, y, d, rfl, hx, hy, hd, q⟩ := h
  refine ⟨_, (pss_cons (ps_if (pt_val (pe_callB call_isi (by rfl) T.z_isinstance (by decide +kernel) (pa_cons (pv 1) (pa_cons (pe_bltn (v := .ty "tuple") (by rfl) T.z_tuple (by decide +kernel) rfl) pa_nil))))
      (pss_cons (ps_if (PW.pt (pw_or (pt_not (pt_val (pe_callB call_isi (by rfl) T.z_isinstance (by decide +kernel) (pa_cons (pv 0) (pa_cons (pe_bltn (v := .ty "tuple") (by rfl) T.z_tuple (by decide +kernel) rfl) pa_nil))))) (pw_or1 (pt_cmpR op_ne (pe_callB call_len_seq (by rfl) T.z_len (by decide +kernel) (pa_cons (pv 0) pa_nil)) (pe_callB call_len_seq (by rfl) T.z_len (by decide +kernel) (pa_cons (pv 1) pa_nil)) (nomark _)))))
        (pss_one (ps_ret pe_bl))
        pss_nil)
        (pss_one (ps_ret (pe_callB (cr_all rfl) (by rfl) T.z_all (by decide +kernel) (pa_cons (pe_lc (own := [("k", 2)]) (g := gName 2) (by rfl) sc__law_same.nd (pi_range1 (by rfl) T.z_range (pa_cons (pe_callB call_len_seq (by rfl) T.z_len (by decide +kernel) (pa_cons (pv 1) pa_nil)) pa_nil)) (blkOk_by (own := [("k", 2)]) (N := ["told", "due", "k"]) (sc := defScope s__law_same) (by decide +kernel)) (fun _ _ _ _ _ => pg_name (i := 2) sc__law_same.nd rfl (Or.inl rfl)) (fun _ _ _ _ _ => pts_nil) (fun _ _ _ _ _ => (pe_call G__law_same (hr.mono (by omega)) (by rfl) m__law_same k__law_same b__law_same .nil pass0 (pa_cons (pe_ix (ix_tupK (K := K) rfl) (pv 0) (pv 2) (fun _ _ => rfl)) (pa_cons (pe_ix (ix_tupK (K := K) rfl) (pv 1) (pv 2) (fun _ _ => rfl)) pa_nil))))) pa_nil)))))
      pss_nil)
      (pss_cons (ps_if (pt_cmpR op_isN (pv 1) pe_non (nomark _))
      (pss_one (ps_ret (pe_cmpR op_isN (pv 0) pe_non (nomark _))))
      pss_nil)
      (pss_cons (ps_if (pt_val (pe_callB call_isi (by rfl) T.z_isinstance (by decide +kernel) (pa_cons (pv 1) (pa_cons (pe_bltn (v := .ty "str") (by rfl) T.z_str (by decide +kernel) rfl) pa_nil))))
      (pss_one (ps_ret (pe_and (pe_callB call_isi (by rfl) T.z_isinstance (by decide +kernel) (pa_cons (pv 0) (pa_cons (pe_bltn (v := .ty "str") (by rfl) T.z_str (by decide +kernel) rfl) pa_nil))) (pe_one (pe_cmpR op_eq (pv 0) (pv 1) (nomark _))))))
      pss_nil)
      (pss_cons (ps_if (PW.pt (pw_or (pt_val (pe_callB call_isi (by rfl) T.z_isinstance (by decide +kernel) (pa_cons (pv 0) (pa_cons (pe_bltn (v := .ty "bool") (by rfl) T.z_bool (by decide +kernel) rfl) pa_nil)))) (pw_or1 (pt_val (pe_callB call_isi (by rfl) T.z_isinstance (by decide +kernel) (pa_cons (pv 1) (pa_cons (pe_bltn (v := .ty "bool") (by rfl) T.z_bool (by decide +kernel) rfl) pa_nil)))))))
      (pss_one (ps_ret (pe_and (pe_callB call_isi (by rfl) T.z_isinstance (by decide +kernel) (pa_cons (pv 0) (pa_cons (pe_bltn (v := .ty "bool") (by rfl) T.z_bool (by decide +kernel) rfl) pa_nil))) (pe_and (pe_callB call_isi (by rfl) T.z_isinstance (by decide +kernel) (pa_cons (pv 1) (pa_cons (pe_bltn (v := .ty "bool") (by rfl) T.z_bool (by decide +kernel) rfl) pa_nil))) (pe_one (pe_cmpR op_eq (pv 0) (pv 1) (nomark _)))))))
      pss_nil)
      (pss_one (ps_ret (pe_and (pe_callB call_isi (by rfl) T.z_isinstance (by decide +kernel) (pa_cons (pv 0) (pa_cons (pe_bltn (v := .ty "int") (by rfl) T.z_int (by decide +kernel) rfl) pa_nil))) (pe_one (pe_cmpR op_eq (pv 0) (pv 1) (nomark _)))))))))), ?_⟩
  cases hy with
  | non =>
    cases hx
    refine ⟨_, rfl, _, _, _, _, _, rfl, .ty _, .base .non, kit_ty (by decide +kernel), _, rfl, iteF ?_⟩
    refine ⟨_, rfl, rfl, _, rfl, yes rfl ?_⟩
    exact ⟨_, rfl, rfl, q H (Same.refl H)⟩
  | str z =>
    cases hx
    refine ⟨_, rfl, _, _, _, _, _, rfl, .ty _, .base (.str z), kit_ty (by decide +kernel), _, rfl, iteF ?_⟩
    refine ⟨_, rfl, rfl, _, rfl, nope (fun e => nomatch e) ?_⟩
    refine ⟨_, rfl, _, _, _, _, _, rfl, .ty _, .base (.str z), kit_ty (by decide +kernel), _, rfl, iteT ?_⟩
    refine ⟨_, rfl, _, _, _, _, _, rfl, .ty _, .base (.str z), kit_ty (by decide +kernel), _, rfl, iteT ?_⟩
    refine ⟨_, rfl, _, rfl, rfl, ?_⟩
    rw [decide_eq_true (rfl : V.str z = V.str z)]
    exact q H (Same.refl H)
  | bl z =>
    cases hx
    refine ⟨_, rfl, _, _, _, _, _, rfl, .ty _, .base (.bl z), kit_ty (by decide +kernel), _, rfl, iteF ?_⟩
    refine ⟨_, rfl, rfl, _, rfl, nope (fun e => nomatch e) ?_⟩
    refine ⟨_, rfl, _, _, _, _, _, rfl, .ty _, .base (.bl z), kit_ty (by decide +kernel), _, rfl, iteF ?_⟩
    refine ⟨_, rfl, _, _, _, _, _, rfl, .ty _, .base (.bl z), kit_ty (by decide +kernel), _, rfl, iteT (iteT ?_)⟩
    refine ⟨_, rfl, _, _, _, _, _, rfl, .ty _, .base (.bl z), kit_ty (by decide +kernel), _, rfl, iteT ?_⟩
    refine ⟨_, rfl, _, _, _, _, _, rfl, .ty _, .base (.bl z), kit_ty (by decide +kernel), _, rfl, iteT ?_⟩
    refine ⟨_, rfl, _, rfl, rfl, ?_⟩
    rw [decide_eq_true (rfl : V.bl z = V.bl z)]
    exact q H (Same.refl H)
  | int z =>
    cases hx
    refine ⟨_, rfl, _, _, _, _, _, rfl, .ty _, .base (.int z), kit_ty (by decide +kernel), _, rfl, iteF ?_⟩
    refine ⟨_, rfl, rfl, _, rfl, nope (fun e => nomatch e) ?_⟩
    refine ⟨_, rfl, _, _, _, _, _, rfl, .ty _, .base (.int z), kit_ty (by decide +kernel), _, rfl, iteF ?_⟩
    refine ⟨_, rfl, _, _, _, _, _, rfl, .ty _, .base (.int z), kit_ty (by decide +kernel), _, rfl, iteF ?_⟩
    refine ⟨_, rfl, _, _, _, _, _, rfl, .ty _, .base (.int z), kit_ty (by decide +kernel), _, rfl, iteF ?_⟩
    refine ⟨_, rfl, _, _, _, _, _, rfl, .ty _, .base (.int z), kit_ty (by decide +kernel), _, rfl, iteT ?_⟩
    refine ⟨_, rfl, _, rfl, rfl, ?_⟩
    rw [decide_eq_true (rfl : V.int z = V.int z)]
    exact q H (Same.refl H)
  | lst _ _ => cases n <;> exact hd.elim
  | @tup a xs ds ha hxs =>
    obtain _ | m := n
    · exact hd.elim
    obtain ⟨hdl, hd⟩ := hd
    cases hx with
    | @tup b ys _ hb hys =>
    have lx := dpa_len hxs
    have ly := dpa_len hys
    refine ⟨_, rfl, _, _, _, _, _, rfl, .ty _, tyx_seq ha, kit_ty (r := true) (by decide +kernel), _, rfl, iteT ?_⟩
    -- not isinstance(told, tuple) or len(told) != len(due)
    refine ⟨_, rfl, _, _, _, _, _, rfl, .ty _, tyx_seq hb, kit_ty (r := true) (by decide +kernel), _, rfl, iteF ?_⟩
    refine ⟨_, rfl, b, _, rfl, .inr hb, _, rfl, a, _, rfl, .inr ha, rfl, _, rfl, ?_⟩
    rw [lx, ly, decide_eq_true (rfl : V.int ((ds.length : Nat) : Int) = V.int ((ds.length : Nat) : Int))]
    refine iteF ?_
    -- all([..])
    refine ⟨_, rfl, a, _, rfl, .inr ha, ((xs.length : Nat) : Int), rfl, by omega, by omega, fun D nD => ?_⟩
    rw [lx]
    refine lc_range (lo := 0) (fun i H' => Same H H' ∧ H' D = some (.lst ((List.replicate i true).map V.bl))) ⟨same_new nD, upd_same⟩ (fun i H' hi h => ?_) (fun H' h => ?_)
    · obtain ⟨s1, hD⟩ := h
      have hi2 : i < ds.length := by simpa using hi
      obtain ⟨x1, d1, e1, e2, p1⟩ := dpa_at hxs hi2
      obtain ⟨x2, d2, e3, e4, p2⟩ := dpa_at hys hi2
      rw [e2] at e4
      cases e4
      have gi : (0 : Int) + (i : Int) = (i : Int) := Int.zero_add _
      refine ⟨rfl, ?_⟩
      refine ⟨_, rfl, _, rfl, b, _, _, x2, rfl, rfl, seqT_same s1 hb, ?_, _, rfl, _, rfl, a, _, _, x1, rfl, rfl, seqT_same s1 ha, ?_, ?_⟩
      · rw [gi]
        exact atI_nat e3
      · rw [gi]
        exact atI_nat e1
      refine ⟨m, rfl, x2, x1, d1, rfl, dp_same s1 p2, dp_same s1 p1, hd d1 (List.mem_of_getElem? e2), fun H2 s2 => ?_⟩
      refine ⟨_, s2 _ _ hD, ?_, ⟨same_mut (s1.trans s2) nD, ?_⟩⟩
      · rw [List.length_map, List.length_replicate]
        exact Nat.lt_of_lt_of_le (Nat.lt_of_lt_of_le hi2 hdl) (by decide)
      · rw [upd_same, List.replicate_succ', List.map_append]
        rfl
    · obtain ⟨s1, hD⟩ := h
      refine ⟨D, _, rfl, SqL.of hD, ?_⟩
      rw [all_true]
      exact q H' s1
theorem ok__law_same (T : Txt P K mg c) : ∀ n : Nat, Has P w K mg base (n + 3) "_law_same" ["told", "due"] (sp__law_same K n)
| 0 => same_step T (.none T.d__law_same fun vs H Q E ⟨m, h, _⟩ => by cases h)
| n + 1 => same_step T (by
  obtain ⟨f, fd, G, r⟩ := ok__law_same T n
  exact ⟨f, fd, G.imp fun vs H Q E ⟨m', h, k⟩ => by cases h; exact k, r⟩)

/-! ### lists of ints, of texts, as data -/
theorem lay_ints : ∀ ns : List Int, PyData.canLayAll0 (ns.map PyData.int) = true
  | [] => by simp [PyData.canLayAll0]
  | n :: ns => by simp [PyData.canLayAll0, PyData.canLay0, lay_ints ns]
theorem lay_strs : ∀ ws : List Str, (∀ x ∈ ws, PyData.strOk x = true) → PyData.canLayAll0 (ws.map PyData.str) = true
  | [], _ => by simp [PyData.canLayAll0]
  | n :: ns, h => by simp [PyData.canLayAll0, PyData.canLay0, lay_strs ns fun x hx => h x (List.mem_cons_of_mem _ hx), h n List.mem_cons_self]
theorem dep_ints : ∀ ns : List Int, PyData.depthAll (ns.map PyData.int) ≤ 1
  | [] => by simp [PyData.depthAll]
  | n :: ns => by
    have h := dep_ints ns
    simp only [List.map_cons, PyData.depthAll, PyData.depth]
    omega
theorem dep_strs : ∀ ws : List Str, PyData.depthAll (ws.map PyData.str) ≤ 1
  | [] => by simp [PyData.depthAll]
  | n :: ns => by
    have h := dep_strs ns
    simp only [List.map_cons, PyData.depthAll, PyData.depth]
    omega
theorem shaped_lst {ds : List PyData} (h : PyData.canLayAll0 ds = true) (d : PyData.depthAll ds ≤ 60) : SeqAt.shaped (.list ds) = true := by
  show (PyData.canLay0 (.list ds) && decide (PyData.depth (.list ds) ≤ 64)) = true
  rw [Bool.and_eq_true]
  refine ⟨by simp only [PyData.canLay0]; exact h, decide_eq_true ?_⟩
  simp only [PyData.depth]
  omega
theorem shaped_ints (ns : List Int) : SeqAt.shaped (.list (ns.map PyData.int)) = true := shaped_lst (lay_ints ns) (Nat.le_trans (dep_ints ns) (by decide))
theorem shaped_strs {ws : List Str} (h : ∀ x ∈ ws, PyData.strOk x = true) : SeqAt.shaped (.list (ws.map PyData.str)) = true := shaped_lst (lay_strs ws h) (Nat.le_trans (dep_strs ws) (by decide))
theorem eqv_self {d : PyData} (h : SeqAt.shaped d = true) : PyData.eqv d d = true := SeqAt.eqv_refl d (SeqAt.canLay_of_shaped h)
theorem dpa_ints {K : PySem.W.Frag} {H : Hp} : ∀ ns : List Int, DpAll K H (ns.map V.int) (ns.map PyData.int)
  | [] => .nil
  | n :: ns => .cons (.int n) (dpa_ints ns)
theorem dpa_strs {K : PySem.W.Frag} {H : Hp} : ∀ ws : List Str, DpAll K H (ws.map V.str) (ws.map PyData.str)
  | [] => .nil
  | n :: ns => .cons (.str n) (dpa_strs ns)


end
end Pf

namespace Pf
open PySem PySem.Spec PyProof.Rows L2
section
variable {P : Program} {w : World} {K : PySem.W.Frag} {mg : Str → Option Value} {base : Heap}
variable {c : Nat → Addr}
/-! ### contracts as data -/
inductive Ev where
  | over
  | read (n : Nat)
  | write (n : Nat)
def Ev.d : Ev → PyData
  | .over => .tuple [.str "over"]
  | .read n => .tuple [.str "read", .int n]
  | .write n => .tuple [.str "write", .int n]
structure Row where
  rd : List (Option Nat)
  ov : Option Nat
  wr : List (Option Nat)
  fi : Bool
  si : Bool
def oD : Option Nat → PyData
  | none => .none
  | some n => .int n
def oV : Option Nat → V
  | none => .non
  | some n => .int n
def Row.d (r : Row) : PyData := .tuple [.tuple (r.rd.map oD), oD r.ov, .tuple (r.wr.map oD), .bool r.fi, .bool r.si]
def stD (s : List Row) : PyData := .tuple (s.map Row.d)
structure Cn where
  l : Nat
  a : Nat
  st : List Row
def Cn.d (c : Cn) : PyData := .tuple [.int c.l, .int c.a, stD c.st]
structure Row.Ok (r : Row) (l a n : Nat) : Prop where
  rl : r.rd.length = l
  wl : r.wr.length = a
  rt : ∀ t ∈ r.rd, ∀ k, t = some k → k < n
  ot : ∀ k, r.ov = some k → k < n
  wt : ∀ t ∈ r.wr, ∀ k, t = some k → k < n
structure Cn.Ok (c : Cn) : Prop where
  l1 : 1 ≤ c.l
  l3 : c.l ≤ 3
  a2 : 2 ≤ c.a
  a4 : c.a ≤ 4
  s1 : 1 ≤ c.st.length
  s8 : c.st.length ≤ 8
  rows : ∀ r ∈ c.st, r.Ok c.l c.a c.st.length
def evs (l a : Nat) : List Ev := .over :: ((List.range l).map .read ++ (List.range a).map .write)
def Row.at (r : Row) : Ev → Option Nat
  | .over => r.ov
  | .read n => r.rd.getD n none
  | .write n => r.wr.getD n none
def tgt (s : List Row) (k : Nat) (e : Ev) : Option Nat := match s[k]? with
  | none => none
  | some r => r.at e
/-- an event of these letters and answers -/
def Ev.Ok (l a : Nat) : Ev → Prop
  | .over => True
  | .read n => n < l
  | .write n => n < a
theorem evs_ok {l a : Nat} {e : Ev} (h : e ∈ evs l a) : e.Ok l a := by
  rcases List.mem_cons.mp h with rfl | h
  · trivial
  rcases List.mem_append.mp h with h | h
  · obtain ⟨n, hn, rfl⟩ := List.mem_map.mp h
    exact List.mem_range.mp hn
  · obtain ⟨n, hn, rfl⟩ := List.mem_map.mp h
    exact List.mem_range.mp hn
theorem evs_len (l a : Nat) : (evs l a).length = 1 + l + a := by
  simp only [evs, List.length_cons, List.length_append, List.length_map, List.length_range]
  omega
/-! ### tuples as data -/
theorem dp_o {K : PySem.W.Frag} {H : Hp} (o : Option Nat) : Dp K H (oV o) (oD o) := by
  cases o with
  | none => exact .non
  | some n => exact .int n
theorem dp_oV {K : PySem.W.Frag} {H : Hp} {v : V} {o : Option Nat} (h : Dp K H v (oD o)) : v = oV o := by
  cases o with
  | none =>
    have h' : Dp K H v .none := h
    cases h'
    rfl
  | some n =>
    have h' : Dp K H v (.int n) := h
    cases h'
    rfl
theorem dp_tup {K : PySem.W.Frag} {H : Hp} {v : V} {ds : List PyData} (h : Dp K H v (.tuple ds)) : ∃ a xs, v = .ref a ∧ SqT K H a xs ∧ DpAll K H xs ds := by
  cases h with
  | tup h k => exact ⟨_, _, rfl, h, k⟩
theorem dp_ix {K : PySem.W.Frag} {H : Hp} {v : V} {ds : List PyData} {d : PyData} {i : Nat} (h : Dp K H v (.tuple ds)) (e : ds[i]? = some d) : ∃ a xs x, v = .ref a ∧ SqT K H a xs ∧ atI xs (i : Int) = some x ∧ Dp K H x d := by
  obtain ⟨a, xs, rfl, h, k⟩ := dp_tup h
  obtain ⟨x, d', e1, e2, p⟩ := dpa_at k (List.getElem?_eq_some_iff.mp e).1
  rw [e] at e2
  cases e2
  exact ⟨a, xs, x, rfl, h, atI_nat e1, p⟩

/-! ### two sources in one comprehension -/
section
variable {J : It} {n : Nat} {G : Hp → Prop} {Y : Nat → Hp → V → Hp → Prop}
theorem two_out (w : Walk J n G Y) {H0 : Hp} {Qd : Hp → Prop} {T : (Hp → Prop) → V → Hp → Prop} (Pv : Nat → Hp → Prop) (h0 : Pv 0 H0) (hG : ∀ i H, i ≤ n → Pv i H → G H)
    (hs : ∀ i x H H', i < n → Pv i H → Y i H x H' → T (Pv (i + 1)) x H') (hd : ∀ H, Pv n H → Qd H) :
    ∃ W : Nat → Nat → Hp → Prop, (∃ m, W 0 m H0) ∧ ∀ i m H, W i m H → (J.stop i H ∧ Qd H) ∨ (J.go i H ∧ ∃ N : Hp → Prop, (∀ H', N H' → ∃ m', m' < m ∧ W (i + 1) m' H') ∧ ∀ x H', J.yld i H x H' → T N x H') := by
  refine ⟨fun i m H => m = n - i ∧ i ≤ n ∧ Pv i H, ⟨n, by omega, Nat.zero_le _, h0⟩, fun i m H hw => ?_⟩
  obtain ⟨rfl, hi, p⟩ := hw
  have gH := hG i H hi p
  rcases Nat.lt_or_eq_of_le hi with hlt | rfl
  · exact .inr ⟨w.goes i H hlt gH, Pv (i + 1), fun H' p' => ⟨_, by omega, rfl, hlt, p'⟩, fun x H' y => hs i x H H' hlt p (w.yields i H x H' hlt gH y)⟩
  · exact .inl ⟨w.stops H gH, hd H p⟩
end

/-! ### the pairs that can be reached -/
def pt2 (c1 c2 : Cn) (pr : Nat × Nat) (e : Ev) : Option (Nat × Nat) := match tgt c1.st pr.1 e, tgt c2.st pr.2 e with
  | some x, some y => some (x, y)
  | _, _ => none
def stepE (c1 c2 : Cn) (pr : Nat × Nat) (P : List (Nat × Nat)) (e : Ev) : List (Nat × Nat) := match pt2 c1 c2 pr e with
  | none => P
  | some t => if t ∈ P then P else P ++ [t]
def rowE (c1 c2 : Cn) (P : List (Nat × Nat)) (pr : Nat × Nat) (es : List Ev) : List (Nat × Nat) := es.foldl (stepE c1 c2 pr) P
def nxP (c1 c2 : Cn) (P : List (Nat × Nat)) (i : Nat) : List (Nat × Nat) := match P[i]? with
  | none => P
  | some pr => rowE c1 c2 P pr (evs c1.l c1.a)
def walkP (c1 c2 : Cn) : Nat → List (Nat × Nat)
  | 0 => [(0, 0)]
  | n + 1 => nxP c1 c2 (walkP c1 c2 n) n
def InB (c1 c2 : Cn) (P : List (Nat × Nat)) : Prop := ∀ p ∈ P, p.1 < c1.st.length ∧ p.2 < c2.st.length
theorem tgt_lt {c : Cn} (h : c.Ok) {k x : Nat} {e : Ev} (t : tgt c.st k e = some x) : x < c.st.length := by
  unfold tgt at t
  cases e1 : c.st[k]? with
  | none => rw [e1] at t; cases t
  | some r =>
    rw [e1] at t
    have ok := h.rows r (List.mem_of_getElem? e1)
    cases e with
    | over => exact ok.ot x t
    | read n =>
      have t' : r.rd.getD n none = some x := t
      rw [List.getD_eq_getElem?_getD] at t'
      cases e2 : r.rd[n]? with
      | none => rw [e2] at t'; cases t'
      | some o =>
        rw [e2] at t'
        exact ok.rt o (List.mem_of_getElem? e2) x t'
    | write n =>
      have t' : r.wr.getD n none = some x := t
      rw [List.getD_eq_getElem?_getD] at t'
      cases e2 : r.wr[n]? with
      | none => rw [e2] at t'; cases t'
      | some o =>
        rw [e2] at t'
        exact ok.wt o (List.mem_of_getElem? e2) x t'
theorem pt2_lt {c1 c2 : Cn} (h1 : c1.Ok) (h2 : c2.Ok) {pr t : Nat × Nat} {e : Ev} (h : pt2 c1 c2 pr e = some t) : t.1 < c1.st.length ∧ t.2 < c2.st.length := by
  unfold pt2 at h
  cases e1 : tgt c1.st pr.1 e with
  | none => rw [e1] at h; cases h
  | some x =>
    cases e2 : tgt c2.st pr.2 e with
    | none => rw [e1, e2] at h; cases h
    | some y =>
      rw [e1, e2] at h
      cases h
      exact ⟨tgt_lt h1 e1, tgt_lt h2 e2⟩
theorem stepE_pre (c1 c2 : Cn) (pr : Nat × Nat) (P : List (Nat × Nat)) (e : Ev) : P <+: stepE c1 c2 pr P e := by
  unfold stepE
  cases pt2 c1 c2 pr e with
  | none => exact List.prefix_rfl
  | some t =>
    show P <+: (if t ∈ P then P else P ++ [t])
    by_cases h : t ∈ P
    · rw [if_pos h]
      exact List.prefix_rfl
    · rw [if_neg h]
      exact List.prefix_append _ _
theorem rowE_pre (c1 c2 : Cn) (pr : Nat × Nat) : ∀ (es : List Ev) (P : List (Nat × Nat)), P <+: rowE c1 c2 P pr es
  | [], P => List.prefix_rfl
  | e :: es, P => (stepE_pre c1 c2 pr P e).trans (rowE_pre c1 c2 pr es _)
theorem rowE_cat (c1 c2 : Cn) (pr : Nat × Nat) (es fs : List Ev) (P : List (Nat × Nat)) : rowE c1 c2 P pr (es ++ fs) = rowE c1 c2 (rowE c1 c2 P pr es) pr fs := List.foldl_append ..
theorem nxP_pre (c1 c2 : Cn) (P : List (Nat × Nat)) (i : Nat) : P <+: nxP c1 c2 P i := by
  unfold nxP
  cases P[i]? with
  | none => exact List.prefix_rfl
  | some pr => exact rowE_pre c1 c2 pr _ P
theorem walk_pre (c1 c2 : Cn) {m n : Nat} (h : m ≤ n) : walkP c1 c2 m <+: walkP c1 c2 n := by
  induction n with
  | zero =>
    have e : m = 0 := by omega
    subst e
    exact List.prefix_rfl
  | succ n ih =>
    by_cases e : m = n + 1
    · subst e
      exact List.prefix_rfl
    · exact (ih (by omega)).trans (nxP_pre c1 c2 _ n)
theorem stepE_in {c1 c2 : Cn} (h1 : c1.Ok) (h2 : c2.Ok) {P : List (Nat × Nat)} (b : InB c1 c2 P) (pr : Nat × Nat) (e : Ev) : InB c1 c2 (stepE c1 c2 pr P e) := by
  unfold stepE
  cases h : pt2 c1 c2 pr e with
  | none => exact b
  | some t =>
    by_cases hm : t ∈ P
    · simpa [hm] using b
    · intro p hp
      simp only [hm, if_false, List.mem_append, List.mem_singleton] at hp
      rcases hp with hp | rfl
      · exact b p hp
      · exact pt2_lt h1 h2 h
theorem rowE_in {c1 c2 : Cn} (h1 : c1.Ok) (h2 : c2.Ok) (pr : Nat × Nat) : ∀ (es : List Ev) {P : List (Nat × Nat)}, InB c1 c2 P → InB c1 c2 (rowE c1 c2 P pr es)
  | [], _, b => b
  | e :: es, _, b => rowE_in h1 h2 pr es (stepE_in h1 h2 b pr e)
theorem walk_in {c1 c2 : Cn} (h1 : c1.Ok) (h2 : c2.Ok) : ∀ n, InB c1 c2 (walkP c1 c2 n)
  | 0 => fun p hp => by
    rcases List.mem_singleton.mp hp with rfl
    exact ⟨h1.s1, h2.s1⟩
  | n + 1 => by
    show InB c1 c2 (nxP c1 c2 _ n)
    unfold nxP
    cases (walkP c1 c2 n)[n]? with
    | none => exact walk_in h1 h2 n
    | some pr => exact rowE_in h1 h2 pr _ (walk_in h1 h2 n)
theorem stepE_len (c1 c2 : Cn) (pr : Nat × Nat) (P : List (Nat × Nat)) (e : Ev) : (stepE c1 c2 pr P e).length ≤ P.length + 1 := by
  unfold stepE
  cases pt2 c1 c2 pr e with
  | none => exact Nat.le_succ _
  | some t =>
    by_cases h : t ∈ P
    · simp [h]
    · simp [h]
theorem rowE_len (c1 c2 : Cn) (pr : Nat × Nat) : ∀ (es : List Ev) (P : List (Nat × Nat)), (rowE c1 c2 P pr es).length ≤ P.length + es.length
  | [], P => Nat.le_refl _
  | e :: es, P => by
    have a := rowE_len c1 c2 pr es (stepE c1 c2 pr P e)
    have b := stepE_len c1 c2 pr P e
    show (rowE c1 c2 (stepE c1 c2 pr P e) pr es).length ≤ P.length + (es.length + 1)
    omega
theorem walk_len {c1 c2 : Cn} (h1 : c1.Ok) : ∀ n, (walkP c1 c2 n).length ≤ 1 + 8 * n
  | 0 => Nat.le_refl _
  | n + 1 => by
    have ih := walk_len (c2 := c2) h1 n
    show (nxP c1 c2 _ n).length ≤ _
    unfold nxP
    cases (walkP c1 c2 n)[n]? with
    | none =>
      show (walkP c1 c2 n).length ≤ _
      omega
    | some pr =>
      have a := rowE_len c1 c2 pr (evs c1.l c1.a) (walkP c1 c2 n)
      rw [evs_len] at a
      have := h1.l3
      have := h1.a4
      show (rowE c1 c2 _ pr _).length ≤ _
      omega
theorem walk_stop {c1 c2 : Cn} {n : Nat} (h : (walkP c1 c2 n).length ≤ n) : ∀ m, n ≤ m → walkP c1 c2 m = walkP c1 c2 n := by
  intro m hm
  induction m with
  | zero =>
    have e : n = 0 := by omega
    rw [e]
  | succ m ih =>
    by_cases e : n = m + 1
    · rw [e]
    · have i := ih (by omega)
      show nxP c1 c2 (walkP c1 c2 m) m = _
      unfold nxP
      rw [i, List.getElem?_eq_none (by omega)]
theorem walk_pos (c1 c2 : Cn) (n : Nat) : 1 ≤ (walkP c1 c2 n).length := (walk_pre c1 c2 (Nat.zero_le n)).length_le
theorem pre_at {α : Type} {P Q : List α} (h : P <+: Q) {i : Nat} {x : α} (e : P[i]? = some x) : Q[i]? = some x := by
  obtain ⟨R, rfl⟩ := h
  exact (List.getElem?_append_left (List.getElem?_eq_some_iff.mp e).1).trans e
theorem rowE_has {c1 c2 : Cn} {pr t : Nat × Nat} {e : Ev} : ∀ {es : List Ev} {P : List (Nat × Nat)}, e ∈ es → pt2 c1 c2 pr e = some t → t ∈ rowE c1 c2 P pr es
  | [], _, h, _ => by cases h
  | f :: es, P, h, ht => by
    rcases List.mem_cons.mp h with rfl | h
    · refine (rowE_pre c1 c2 pr es _).subset ?_
      unfold stepE
      rw [ht]
      by_cases hm : t ∈ P
      · simp [hm]
      · simp [hm]
    · exact rowE_has (es := es) h ht
theorem walk_closed {c1 c2 : Cn} : ∀ (n i : Nat) (pr t : Nat × Nat) (e : Ev), i < n → (walkP c1 c2 n)[i]? = some pr → e ∈ evs c1.l c1.a → pt2 c1 c2 pr e = some t → t ∈ walkP c1 c2 n
  | 0, i, _, _, _, hi, _, _, _ => absurd hi (Nat.not_lt_zero _)
  | n + 1, i, pr, t, e, hi, hp, he, ht => by
    by_cases hl : i < (walkP c1 c2 n).length
    · have hp' : (walkP c1 c2 n)[i]? = some pr := by
        have := pre_at (walk_pre c1 c2 (Nat.le_succ n)) (List.getElem?_eq_getElem hl)
        rw [hp] at this
        rw [List.getElem?_eq_getElem hl]
        exact this.symm
      by_cases hin : i < n
      · exact (walk_pre c1 c2 (Nat.le_succ n)).subset (walk_closed n i pr t e hin hp' he ht)
      · have ei : i = n := by omega
        subst ei
        show t ∈ nxP c1 c2 _ i
        unfold nxP
        rw [hp']
        exact rowE_has he ht
    · exfalso
      have st := walk_stop (c1 := c1) (c2 := c2) (n := n) (by omega) (n + 1) (Nat.le_succ n)
      rw [st] at hp
      exact hl (List.getElem?_eq_some_iff.mp hp).1
/-- what follows, as a place -/
def pix (c1 c2 : Cn) (F : List (Nat × Nat)) (pr : Nat × Nat) (e : Ev) : Option Nat := (pt2 c1 c2 pr e).map F.idxOf
def flg (c : Cn) (k : Nat) : Bool × Bool := match c.st[k]? with
  | none => (false, false)
  | some r => (r.fi, r.si)
def jrow (c1 c2 : Cn) (F : List (Nat × Nat)) (pr : Nat × Nat) : Row :=
  { rd := (List.range c1.l).map fun k => pix c1 c2 F pr (.read k), ov := pix c1 c2 F pr .over, wr := (List.range c1.a).map fun k => pix c1 c2 F pr (.write k),
    fi := (flg c1 pr.1).1 && (flg c2 pr.2).1, si := (flg c1 pr.1).2 && (flg c2 pr.2).2 }
@[irreducible] def allP (c1 c2 : Cn) : List (Nat × Nat) := walkP c1 c2 64
theorem all_is (c1 c2 : Cn) : allP c1 c2 = walkP c1 c2 64 := by unfold allP; rfl
def joinC (c1 c2 : Cn) : Cn := ⟨c1.l, c1.a, (allP c1 c2).map (jrow c1 c2 (allP c1 c2))⟩
theorem all_closed {c1 c2 : Cn} (h : (allP c1 c2).length ≤ 8) {pr t : Nat × Nat} {e : Ev} (hp : pr ∈ allP c1 c2) (he : e ∈ evs c1.l c1.a) (ht : pt2 c1 c2 pr e = some t) : t ∈ allP c1 c2 := by
  rw [all_is] at h hp ⊢
  obtain ⟨i, hi, rfl⟩ := List.getElem_of_mem hp
  exact walk_closed 64 i _ t e (by omega) (List.getElem?_eq_getElem hi) he ht
theorem all_pos (c1 c2 : Cn) : 1 ≤ (allP c1 c2).length := by rw [all_is]; exact walk_pos c1 c2 64
theorem all_pre (c1 c2 : Cn) {n : Nat} (h : n ≤ 64) : walkP c1 c2 n <+: allP c1 c2 := by rw [all_is]; exact walk_pre c1 c2 h
theorem all_stop {c1 c2 : Cn} {n : Nat} (h : (walkP c1 c2 n).length ≤ n) (hn : n ≤ 64) : allP c1 c2 = walkP c1 c2 n := by rw [all_is]; exact walk_stop h 64 hn
theorem all_in {c1 c2 : Cn} (h1 : c1.Ok) (h2 : c2.Ok) : InB c1 c2 (allP c1 c2) := by rw [all_is]; exact walk_in h1 h2 64
theorem all_len {c1 c2 : Cn} (h1 : c1.Ok) : (allP c1 c2).length ≤ 513 := by rw [all_is]; exact walk_len h1 64
theorem ev_read {l a k : Nat} (h : k < l) : Ev.read k ∈ evs l a := List.mem_cons_of_mem _ (List.mem_append_left _ (List.mem_map.mpr ⟨k, List.mem_range.mpr h, rfl⟩))
theorem ev_write {l a k : Nat} (h : k < a) : Ev.write k ∈ evs l a := List.mem_cons_of_mem _ (List.mem_append_right _ (List.mem_map.mpr ⟨k, List.mem_range.mpr h, rfl⟩))
theorem ev_over {l a : Nat} : Ev.over ∈ evs l a := List.mem_cons_self
theorem join_ok {c1 c2 : Cn} (h1 : c1.Ok) (h2 : c2.Ok) (h : (allP c1 c2).length ≤ 8) : (joinC c1 c2).Ok := by
  have px : ∀ pr ∈ allP c1 c2, ∀ e ∈ evs c1.l c1.a, ∀ k, pix c1 c2 (allP c1 c2) pr e = some k → k < (allP c1 c2).length := fun pr hp e he k hk => by
    unfold pix at hk
    cases ht : pt2 c1 c2 pr e with
    | none => rw [ht] at hk; cases hk
    | some t =>
      rw [ht] at hk
      cases hk
      exact List.idxOf_lt_length_of_mem (all_closed h hp he ht)
  refine ⟨h1.l1, h1.l3, h1.a2, h1.a4, ?_, ?_, ?_⟩
  · show 1 ≤ ((allP c1 c2).map _).length
    rw [List.length_map]
    exact all_pos c1 c2
  · show ((allP c1 c2).map _).length ≤ 8
    rw [List.length_map]
    exact h
  · intro r hr
    obtain ⟨pr, hp, rfl⟩ := List.mem_map.mp hr
    show (jrow c1 c2 (allP c1 c2) pr).Ok c1.l c1.a ((allP c1 c2).map _).length
    rw [List.length_map]
    refine ⟨by simp [jrow], by simp [jrow], ?_, px pr hp _ ev_over, ?_⟩
    · intro t ht k hk
      obtain ⟨j, hj, rfl⟩ := List.mem_map.mp ht
      exact px pr hp _ (ev_read (List.mem_range.mp hj)) k hk
    · intro t ht k hk
      obtain ⟨j, hj, rfl⟩ := List.mem_map.mp ht
      exact px pr hp _ (ev_write (List.mem_range.mp hj)) k hk

mutual
def frz : PyData → PyData
  | .list ds => .tuple (frzs ds)
  | .tuple ds => .tuple (frzs ds)
  | d => d
def frzs : List PyData → List PyData
  | [] => []
  | d :: ds => frz d :: frzs ds
end
theorem frzs_map : ∀ ds : List PyData, frzs ds = ds.map frz
  | [] => by simp [frzs]
  | d :: ds => by simp [frzs, frzs_map ds]
/-- data of a depth -/
def datOk : Nat → PyData → Prop
  | _, .none => True
  | _, .bool _ => True
  | _, .int _ => True
  | _, .str _ => True
  | n + 1, .list ds => ds.length ≤ 1000 ∧ ∀ d ∈ ds, datOk n d
  | n + 1, .tuple ds => ds.length ≤ 1000 ∧ ∀ d ∈ ds, datOk n d
  | _, _ => False

mutual
inductive Dl (K : PySem.W.Frag) (H : Hp) : V → PyData → Prop
  | non : Dl K H .non .none
  | bl (b : Bool) : Dl K H (.bl b) (.bool b)
  | int (i : Int) : Dl K H (.int i) (.int i)
  | str (x : Str) : Dl K H (.str x) (.str x)
  | lst {a : Addr} {xs : List V} {ds : List PyData} : H a = some (.lst xs) → DlAll K H xs ds → Dl K H (.ref a) (.list ds)
  | tup {a : Addr} {xs : List V} {ds : List PyData} : SqT K H a xs → DlAll K H xs ds → Dl K H (.ref a) (.tuple ds)
inductive DlAll (K : PySem.W.Frag) (H : Hp) : List V → List PyData → Prop
  | nil : DlAll K H [] []
  | cons {v : V} {vs : List V} {d : PyData} {ds : List PyData} : Dl K H v d → DlAll K H vs ds → DlAll K H (v :: vs) (d :: ds)
end
mutual
theorem dl_same {K : PySem.W.Frag} {H H' : Hp} (e : Same H H') : ∀ {v : V} {d : PyData}, Dl K H v d → Dl K H' v d
  | _, _, .non => .non
  | _, _, .bl b => .bl b
  | _, _, .int i => .int i
  | _, _, .str x => .str x
  | _, _, .lst h k => .lst (e _ _ h) (dla_same e k)
  | _, _, .tup h k => .tup (seqT_same e h) (dla_same e k)
theorem dla_same {K : PySem.W.Frag} {H H' : Hp} (e : Same H H') : ∀ {xs : List V} {ds : List PyData}, DlAll K H xs ds → DlAll K H' xs ds
  | _, _, .nil => .nil
  | _, _, .cons h k => .cons (dl_same e h) (dla_same e k)
end
theorem dla_len {K : PySem.W.Frag} {H : Hp} : ∀ {xs : List V} {ds : List PyData}, DlAll K H xs ds → xs.length = ds.length
  | _, _, .nil => rfl
  | _, _, .cons _ k => congrArg (· + 1) (dla_len k)
theorem dla_at {K : PySem.W.Frag} {H : Hp} : ∀ {xs : List V} {ds : List PyData} {i : Nat} {x : V}, DlAll K H xs ds → xs[i]? = some x → ∃ d, ds[i]? = some d ∧ Dl K H x d
  | _, _, _, _, .nil, h => by simp at h
  | _, _, 0, _, .cons h _, e => by
    have e' := Option.some.inj e
    subst e'
    exact ⟨_, rfl, h⟩
  | _, _, i + 1, _, .cons _ k, e => dla_at (i := i) k e
def sp_frozen (K : PySem.W.Frag) (n : Nat) : Sp := fun vs H Q _ => ∃ (v : V) (d : PyData), vs = [v] ∧ Dl K H v d ∧ datOk n d ∧ ∀ (v' : V) (H' : Hp), Same H H' → Dp K H' v' (frz d) → Q v' H'
theorem dpa_app {K : PySem.W.Frag} {H : Hp} {v : V} {d : PyData} : ∀ {xs : List V} {ds : List PyData}, DpAll K H xs ds → Dp K H v d → DpAll K H (xs ++ [v]) (ds ++ [d])
  | _, _, .nil, h => .cons h .nil
  | _, _, .cons k l, h => .cons k (dpa_app l h)
theorem seqT_mut {K : PySem.W.Frag} {H : Hp} {D a : Addr} {ys xs : List V} {o : HO} (e : H D = some (.lst ys)) (h : SqT K H a xs) : SqT K (upd H D o) a xs := by
  rcases h with (h | ⟨o', h⟩) | h
  · refine .inl (.inl ((upd_ne fun z => ?_).trans h))
    subst z
    rw [e] at h
    cases h
  · refine .inl (.inr ⟨o', (upd_ne fun z => ?_).trans h⟩)
    subst z
    rw [e] at h
    cases h
  · exact .inr h
theorem two_cls : Paired ClsV [V.ty "list", V.ty "tuple"] [Value.type "list", Value.type "tuple"] := .cons (.ty _) (.cons (.ty _) .nil)
theorem kitA2 {K : PySem.W.Frag} {t : Value} {b1 b2 : Bool} (h1 : PySem.W.kitOne K t (.type "list") = some b1) (h2 : PySem.W.kitOne K t (.type "tuple") = some b2) : PySem.W.kitAny K t [.type "list", .type "tuple"] = some (b1 || b2) :=
  kitAny_cons h1 (fun e => kitAny_cons h2 (fun e2 => by rw [e, e2]; exact kitAny_nil) (fun e2 => by rw [e, e2]; rfl)) (fun e => by rw [e]; rfl)
def lt2 : List Value := [.type "list", .type "tuple"]
theorem kl_non {K : PySem.W.Frag} : PySem.W.kitAny K (.type "NoneType") [.type "list", .type "tuple"] = some false := kitA2 (kit_ty (r := false) (by decide +kernel)) (kit_ty (r := false) (by decide +kernel))
theorem kl_bool {K : PySem.W.Frag} : PySem.W.kitAny K (.type "bool") [.type "list", .type "tuple"] = some false := kitA2 (kit_ty (r := false) (by decide +kernel)) (kit_ty (r := false) (by decide +kernel))
theorem kl_int {K : PySem.W.Frag} : PySem.W.kitAny K (.type "int") [.type "list", .type "tuple"] = some false := kitA2 (kit_ty (r := false) (by decide +kernel)) (kit_ty (r := false) (by decide +kernel))
theorem kl_str {K : PySem.W.Frag} : PySem.W.kitAny K (.type "str") [.type "list", .type "tuple"] = some false := kitA2 (kit_ty (r := false) (by decide +kernel)) (kit_ty (r := false) (by decide +kernel))
theorem kl_list {K : PySem.W.Frag} : PySem.W.kitAny K (.type "list") [.type "list", .type "tuple"] = some true := kitA2 (kit_ty (r := true) (by decide +kernel)) (kit_ty (r := false) (by decide +kernel))
theorem kl_tup {K : PySem.W.Frag} : PySem.W.kitAny K (.type "tuple") [.type "list", .type "tuple"] = some true := kitA2 (kit_ty (r := false) (by decide +kernel)) (kit_ty (r := true) (by decide +kernel))
mutual
theorem dp_mut {K : PySem.W.Frag} {H : Hp} {D : Addr} {ys : List V} {o : HO} (e : H D = some (.lst ys)) : ∀ {v : V} {d : PyData} (n : Nat), tupOk n d → Dp K H v d → Dp K (upd H D o) v d
  | _, _, _, _, .non => .non
  | _, _, _, _, .bl b => .bl b
  | _, _, _, _, .int i => .int i
  | _, _, _, _, .str x => .str x
  | _, _, 0, h, .lst _ _ => h.elim
  | _, _, _ + 1, h, .lst _ _ => h.elim
  | _, _, 0, h, .tup _ _ => h.elim
  | _, _, n + 1, h, .tup q k => .tup (seqT_mut e q) (dpa_mut e n h.2 k)
theorem dpa_mut {K : PySem.W.Frag} {H : Hp} {D : Addr} {ys : List V} {o : HO} (e : H D = some (.lst ys)) : ∀ {xs : List V} {ds : List PyData} (n : Nat), (∀ d ∈ ds, tupOk n d) → DpAll K H xs ds → DpAll K (upd H D o) xs ds
  | _, _, _, _, .nil => .nil
  | _, _, n, h, .cons p k => .cons (dp_mut e n (h _ List.mem_cons_self) p) (dpa_mut e n (fun d hd => h d (List.mem_cons_of_mem _ hd)) k)
end
theorem frz_ok : ∀ (n : Nat) (d : PyData), datOk n d → tupOk n (frz d)
  | 0, .none, _ => by simp [frz, tupOk]
  | 0, .bool _, _ => by simp [frz, tupOk]
  | 0, .int _, _ => by simp [frz, tupOk]
  | 0, .str _, _ => by simp [frz, tupOk]
  | n + 1, .none, _ => by simp [frz, tupOk]
  | n + 1, .bool _, _ => by simp [frz, tupOk]
  | n + 1, .int _, _ => by simp [frz, tupOk]
  | n + 1, .str _, _ => by simp [frz, tupOk]
  | n + 1, .list ds, h => by
    rw [frz, frzs_map]
    refine ⟨by rw [List.length_map]; exact Nat.le_trans h.1 (by decide), fun d hd => ?_⟩
    obtain ⟨d', hd', rfl⟩ := List.mem_map.mp hd
    exact frz_ok n d' (h.2 d' hd')
  | n + 1, .tuple ds, h => by
    rw [frz, frzs_map]
    refine ⟨by rw [List.length_map]; exact Nat.le_trans h.1 (by decide), fun d hd => ?_⟩
    obtain ⟨d', hd', rfl⟩ := List.mem_map.mp hd
    exact frz_ok n d' (h.2 d' hd')
theorem take_frz {ds : List PyData} {i : Nat} {d : PyData} (h : ds[i]? = some d) : (ds.take i).map frz ++ [frz d] = (ds.take (i + 1)).map frz := by
  obtain ⟨hi, e⟩ := List.getElem?_eq_some_iff.mp h
  rw [List.take_succ, List.map_append, h]
  rfl
theorem frozen_step {n : Nat} (T : Txt P K mg c) (R : Has P w K mg base (n + 1) "frozen" ["value"] (fun vs H Q E => ∃ m, n = m + 1 ∧ sp_frozen K m vs H Q E)) : Has P w K mg base (n + 2) "frozen" ["value"] (sp_frozen K n) := by
  obtain ⟨f_frozen, fd_frozen, G_frozen, m_frozen, k_frozen, b_frozen⟩ := R
  obtain ⟨f, fd, F, m, b⟩ := T.d_frozen.ex
  refine ⟨f, fd, F.ok sc_frozen (fun vs H Q E h => ?_) (fun cdv A outer s H vs Q E hr h => ?_), m, F.kp, b⟩
  · obtain ⟨v, d, rfl, hv, hd, q⟩ := h
    rfl
  obtain ⟨v, d, rfl, hv, hd, q⟩ := h
  refine ⟨_, (pss_cons (ps_if (pt_val (pe_callB call_isiT (by rfl) T.z_isinstance (by decide +kernel) (pa_cons (pv 0) (pa_cons (pe_tup (pa_cons (pe_bltn (v := .ty "list") (by rfl) T.z_list (by decide +kernel) rfl) (pa_cons (pe_bltn (v := .ty "tuple") (by rfl) T.z_tuple (by decide +kernel) rfl) pa_nil))) pa_nil))))
      (pss_one (ps_ret (pe_callTy call_tuple_of (by rfl) T.z_tuple (by decide +kernel) (pa_cons (pe_lc (own := [("part", 1)]) (g := gName 1) (by rfl) sc_frozen.nd (pi_alt (pi_list (pv 0)) (pi_tup (pv 0))) (blkOk_by (own := [("part", 1)]) (N := ["value", "part"]) (sc := defScope s_frozen) (by decide +kernel)) (fun _ _ _ _ _ => pg_name (i := 1) sc_frozen.nd rfl (Or.inl rfl)) (fun _ _ _ _ _ => pts_nil) (fun _ _ _ _ _ => (pe_call G_frozen (hr.mono (by omega)) (by rfl) m_frozen k_frozen b_frozen .nil pass0 (pa_cons (pv 1) pa_nil)))) pa_nil))))
      pss_nil)
      (pss_one (ps_ret (pv 0)))), ?_⟩
  refine ⟨_, rfl, (by show 2 ≤ sizeLine; decide), fun tp ntp => ?_⟩
  have s0 : Same H (upd H tp (.tup [.ty "list", .ty "tuple"])) := same_new ntp
  cases hv with
  | non => exact ⟨_, _, _, _, _, false, rfl, upd_same, two_cls, .base .non, kl_non, _, rfl, iteF ⟨_, rfl, q _ _ s0 .non⟩⟩
  | bl z => exact ⟨_, _, _, _, _, false, rfl, upd_same, two_cls, .base (.bl z), kl_bool, _, rfl, iteF ⟨_, rfl, q _ _ s0 (.bl z)⟩⟩
  | int z => exact ⟨_, _, _, _, _, false, rfl, upd_same, two_cls, .base (.int z), kl_int, _, rfl, iteF ⟨_, rfl, q _ _ s0 (.int z)⟩⟩
  | str z => exact ⟨_, _, _, _, _, false, rfl, upd_same, two_cls, .base (.str z), kl_str, _, rfl, iteF ⟨_, rfl, q _ _ s0 (.str z)⟩⟩
  | @lst a xs ds h k =>
    obtain _ | m := n
    · exact hd.elim
    obtain ⟨hdl, hd⟩ := hd
    have lx := dla_len k
    refine ⟨_, _, _, _, _, true, rfl, upd_same, two_cls, .base (.lst (s0 _ _ h)), kl_list, _, rfl, iteT ?_⟩
    refine .inl ⟨_, rfl, a, rfl, ⟨_, SqL.of (s0 _ _ h)⟩, fun D nD => lc_it walk_list (fun i H' => Same (upd H tp (.tup [.ty "list", .ty "tuple"])) H' ∧ ∃ ws, H' D = some (.lst ws) ∧ DpAll K H' ws ((ds.take i).map frz)) ⟨same_new nD, [], upd_same, .nil⟩ (fun i H' _ h' => h'.1.seq (SqL.of (s0 _ _ h))) ?_ ?_⟩
    · rintro i x H1 H2 hi ⟨s1, ws, hD, hws⟩ ⟨rfl, hx⟩
      obtain ⟨d, ed, hx2⟩ := dla_at k hx
      refine ⟨rfl, _, rfl, m, rfl, x, d, rfl, dl_same (s0.trans s1) hx2, hd d (List.mem_of_getElem? ed), fun v' H3 s3 hv' => ⟨ws, s3 _ _ hD, ?_, same_mut (s1.trans s3) nD, ws ++ [v'], upd_same, ?_⟩⟩
      · have := dpa_len hws
        rw [List.length_map, List.length_take] at this
        exact Nat.lt_of_lt_of_le (show ws.length < 1001 by omega) (by decide)
      · rw [← take_frz ed]
        have hl : ∀ d' ∈ (ds.take i).map frz, tupOk m d' := fun d' hd' => by
          obtain ⟨d0, h0, rfl⟩ := List.mem_map.mp hd'
          exact frz_ok m d0 (hd d0 (List.mem_of_mem_take h0))
        exact dpa_app (dpa_mut (s3 _ _ hD) m hl (dpa_same s3 hws)) (dp_mut (s3 _ _ hD) m (frz_ok m d (hd d (List.mem_of_getElem? ed))) hv')
    · rintro H1 ⟨s1, ws, hD, hws⟩
      refine ⟨D, ws, rfl, .inl ⟨SqL.of hD, fun l nl => ?_⟩⟩
      refine q _ _ ((s0.trans s1).trans (same_new nl)) ?_
      rw [lx, List.take_length] at hws
      rw [frz, frzs_map]
      exact .tup (SqT.of upd_same) (dpa_same (same_new nl) hws)
  | @tup a xs ds h k =>
    obtain _ | m := n
    · exact hd.elim
    obtain ⟨hdl, hd⟩ := hd
    have lx := dla_len k
    refine ⟨_, _, _, _, _, true, rfl, upd_same, two_cls, tyx_seq (seqT_same s0 h), kl_tup, _, rfl, iteT ?_⟩
    refine .inr ⟨_, rfl, a, rfl, ⟨_, seqT_same s0 h⟩, fun D nD => lc_it walk_tup (fun i H' => Same (upd H tp (.tup [.ty "list", .ty "tuple"])) H' ∧ ∃ ws, H' D = some (.lst ws) ∧ DpAll K H' ws ((ds.take i).map frz)) ⟨same_new nD, [], upd_same, .nil⟩ (fun i H' _ h' => seqT_same h'.1 (seqT_same s0 h)) ?_ ?_⟩
    · rintro i x H1 H2 hi ⟨s1, ws, hD, hws⟩ ⟨rfl, hx⟩
      obtain ⟨d, ed, hx2⟩ := dla_at k hx
      refine ⟨rfl, _, rfl, m, rfl, x, d, rfl, dl_same (s0.trans s1) hx2, hd d (List.mem_of_getElem? ed), fun v' H3 s3 hv' => ⟨ws, s3 _ _ hD, ?_, same_mut (s1.trans s3) nD, ws ++ [v'], upd_same, ?_⟩⟩
      · have := dpa_len hws
        rw [List.length_map, List.length_take] at this
        exact Nat.lt_of_lt_of_le (show ws.length < 1001 by omega) (by decide)
      · rw [← take_frz ed]
        have hl : ∀ d' ∈ (ds.take i).map frz, tupOk m d' := fun d' hd' => by
          obtain ⟨d0, h0, rfl⟩ := List.mem_map.mp hd'
          exact frz_ok m d0 (hd d0 (List.mem_of_mem_take h0))
        exact dpa_app (dpa_mut (s3 _ _ hD) m hl (dpa_same s3 hws)) (dp_mut (s3 _ _ hD) m (frz_ok m d (hd d (List.mem_of_getElem? ed))) hv')
    · rintro H1 ⟨s1, ws, hD, hws⟩
      refine ⟨D, ws, rfl, .inl ⟨SqL.of hD, fun l nl => ?_⟩⟩
      refine q _ _ ((s0.trans s1).trans (same_new nl)) ?_
      rw [lx, List.take_length] at hws
      rw [frz, frzs_map]
      exact .tup (SqT.of upd_same) (dpa_same (same_new nl) hws)
theorem ok_frozen (T : Txt P K mg c) : ∀ n : Nat, Has P w K mg base (n + 2) "frozen" ["value"] (sp_frozen K n)
| 0 => frozen_step T (.none T.d_frozen fun vs H Q E ⟨m, h, _⟩ => by cases h)
| n + 1 => frozen_step T (by
  obtain ⟨f, fd, G, r⟩ := ok_frozen T n
  exact ⟨f, fd, G.imp fun vs H Q E ⟨m', h, k⟩ => by cases h; exact k, r⟩)


end
end Pf

namespace Pf
open PySem PySem.Spec PyProof.Rows L2
section
variable {P : Program} {w : World} {K : PySem.W.Frag} {mg : Str → Option Value} {base : Heap}
variable {c : Nat → Addr}
theorem nyes {p : Prop} [Decidable p] {A B : Prop} (h : p) (b : B) : if (!decide p) = true then A else B := by
  rw [decide_eq_true h]
  exact iteF b
def lr (l a : Int) : Str := if 1 ≤ l ∧ l ≤ 3 then (if 2 ≤ a ∧ a ≤ 4 then Str.empty else "answers") else "letters"
def sp_letters_reason (K : PySem.W.Frag) : Sp := fun vs H Q _ => ∃ l a : Int, vs = [.int l, .int a] ∧ 1 ≤ l ∧ l ≤ 3 ∧ 2 ≤ a ∧ a ≤ 4 ∧ Q (.str Str.empty) H
theorem ok_letters_reason (T : Txt P K mg c) : Has P w K mg base 1 "letters_reason" ["letters", "answers"] (sp_letters_reason K) := by
  obtain ⟨f, fd, F, m, b⟩ := T.d_letters_reason.ex
  obtain ⟨tk_MOST_LETTERS, cc_MOST_LETTERS⟩ := T.c_MOST_LETTERS
  obtain ⟨tk_LEAST_ANSWERS, cc_LEAST_ANSWERS⟩ := T.c_LEAST_ANSWERS
  obtain ⟨tk_MOST_ANSWERS, cc_MOST_ANSWERS⟩ := T.c_MOST_ANSWERS
  refine ⟨f, fd, F.ok sc_letters_reason (fun vs H Q E h => ?_) (fun cdv A outer s H vs Q E hr h => ?_), m, F.kp, b⟩
  · obtain ⟨l, a, rfl, h1, h2, h3, h4, q⟩ := h
    rfl
  obtain ⟨l, a, rfl, h1, h2, h3, h4, q⟩ := h
  refine ⟨_, (pss_cons (ps_if (pt_not (pt_chain op_le op_le pe_int (pv 0) (pe_glob (v := .int 3) rfl cc_MOST_LETTERS ⟨_, rfl⟩)))
      (pss_one (ps_ret pe_str))
      pss_nil)
      (pss_cons (ps_if (pt_not (pt_chain op_le op_le (pe_glob (v := .int 2) rfl cc_LEAST_ANSWERS ⟨_, rfl⟩) (pv 1) (pe_glob (v := .int 4) rfl cc_MOST_ANSWERS ⟨_, rfl⟩)))
      (pss_one (ps_ret pe_str))
      pss_nil)
      (pss_one (ps_ret pe_str)))), ?_⟩
  refine ⟨_, rfl, _, _, rfl, rfl, _, rfl, yes h1 ⟨_, _, rfl, rfl, _, rfl, nyes h2 ?_⟩⟩
  refine ⟨_, rfl, _, _, rfl, rfl, _, rfl, yes h3 ⟨_, _, rfl, rfl, _, rfl, nyes h4 ?_⟩⟩
  exact q
/-- rows as they are handed in: lists or tuples of targets -/
def isSeq (d : PyData) (ds : List PyData) : Prop := d = .list ds ∨ d = .tuple ds
def rawRow (d : PyData) (r : Row) : Prop := ∃ s1 s2, d = .tuple [s1, oD r.ov, s2, .bool r.fi, .bool r.si] ∧ isSeq s1 (r.rd.map oD) ∧ isSeq s2 (r.wr.map oD)
def rawSt (d : PyData) (st : List Row) : Prop := ∃ ds, isSeq d ds ∧ ds.length = st.length ∧ ∀ (i : Nat) (d' : PyData) (r : Row), ds[i]? = some d' → st[i]? = some r → rawRow d' r
def RawSt (K : PySem.W.Frag) (H : Hp) (v : V) (st : List Row) : Prop := ∃ d, Dl K H v d ∧ rawSt d st
theorem RawSt.same {K : PySem.W.Frag} {H H' : Hp} {v : V} {st : List Row} (e : Same H H') (h : RawSt K H v st) : RawSt K H' v st := by
  obtain ⟨d, h, r⟩ := h
  exact ⟨d, dl_same e h, r⟩
theorem dl_seq {K : PySem.W.Frag} {H : Hp} {v : V} {d : PyData} {ds : List PyData} (h : Dl K H v d) (e : isSeq d ds) : ∃ a xs, v = .ref a ∧ (SqL K H a xs ∨ SqT K H a xs) ∧ DlAll K H xs ds := by
  rcases e with rfl | rfl
  · cases h with
    | lst h k => exact ⟨_, _, rfl, .inl (SqL.of h), k⟩
  · cases h with
    | tup h k => exact ⟨_, _, rfl, .inr h, k⟩
theorem dla_idx {K : PySem.W.Frag} {H : Hp} : ∀ {xs : List V} {ds : List PyData} {i : Nat} {d : PyData}, DlAll K H xs ds → ds[i]? = some d → ∃ x, xs[i]? = some x ∧ Dl K H x d
  | _, _, _, _, .nil, h => by simp at h
  | _, _, 0, _, .cons h _, e => by
    have e' := Option.some.inj e
    subst e'
    exact ⟨_, rfl, h⟩
  | _, _, i + 1, _, .cons _ k, e => dla_idx (i := i) k e
theorem dl_ix {K : PySem.W.Frag} {H : Hp} {v : V} {ds : List PyData} {d : PyData} {i : Nat} (h : Dl K H v (.tuple ds)) (e : ds[i]? = some d) : ∃ a xs x, v = .ref a ∧ SqT K H a xs ∧ atI xs (i : Int) = some x ∧ Dl K H x d := by
  cases h with
  | @tup a xs _ h k =>
    obtain ⟨x, e1, p⟩ := dla_idx k e
    exact ⟨a, xs, x, rfl, h, atI_nat e1, p⟩
def sp_states_reason (K : PySem.W.Frag) : Sp := fun vs H Q _ => ∃ (cn : Cn) (v : V), vs = [.int cn.l, .int cn.a, v] ∧ cn.Ok ∧ RawSt K H v cn.st ∧ ∀ H', Same H H' → Q (.str Str.empty) H'
theorem alt_seq {K : PySem.W.Frag} {i : Nat} {σ : L2.St} {H : Hp} {R : It → Hp → Prop} {a : Addr} {xs : List V} (hi : σ[i]? = some (some (.ref a))) (hq : SqL K H a xs ∨ SqT K H a xs)
    (k : ∀ (J : It) (G : Hp → Prop), Walk J xs.length G (YAt xs) → (∀ H', Same H H' → G H') → R J H) : iList K (tVar i) σ H R ∨ iTup K (tVar i) σ H R := by
  rcases hq with h | h
  · exact .inl ⟨_, hi, a, rfl, ⟨_, h⟩, k _ _ walk_list fun H' s => s.seq h⟩
  · exact .inr ⟨_, hi, a, rfl, ⟨_, h⟩, k _ _ walk_tup fun H' s => seqT_same s h⟩
theorem any_false (n : Nat) : (List.replicate n false).any id = false := by
  induction n with
  | zero => rfl
  | succ n ih => rw [List.replicate_succ, List.any_cons, ih]; rfl
theorem dl_oV {K : PySem.W.Frag} {H : Hp} {v : V} {o : Option Nat} (h : Dl K H v (oD o)) : v = oV o := by
  cases o with
  | none =>
    have h' : Dl K H v .none := h
    cases h'
    rfl
  | some n =>
    have h' : Dl K H v (.int n) := h
    cases h'
    rfl
theorem dla_oV {K : PySem.W.Frag} {H : Hp} : ∀ {os : List (Option Nat)} {ws : List V}, DlAll K H ws (os.map oD) → ws = os.map oV
  | [], _, .nil => rfl
  | o :: os, _, .cons h k => by rw [dl_oV h, dla_oV k]; rfl
/-- a target below n -/
def Tg (n : Nat) (x : V) : Prop := ∃ o : Option Nat, x = oV o ∧ ∀ k, o = some k → k < n
theorem rt_all {r : Row} {l a n : Nat} (h : r.Ok l a n) : ∀ x ∈ (r.rd.map oV ++ [oV r.ov]) ++ r.wr.map oV, Tg n x := by
  intro x hx
  rcases List.mem_append.mp hx with hx | hx
  · rcases List.mem_append.mp hx with hx | hx
    · obtain ⟨o, ho, rfl⟩ := List.mem_map.mp hx
      exact ⟨o, rfl, h.rt o ho⟩
    · rcases List.mem_singleton.mp hx with rfl
      exact ⟨_, rfl, h.ot⟩
  · obtain ⟨o, ho, rfl⟩ := List.mem_map.mp hx
    exact ⟨o, rfl, h.wt o ho⟩
/-- one row, read -/
structure RowAt (K : PySem.W.Frag) (H : Hp) (x : V) (r : Row) : Prop where
  at0 : ∃ p ws q, x = .ref p ∧ SqT K H p ws ∧ atI ws 0 = some (.ref q) ∧ (SqL K H q (r.rd.map oV) ∨ SqT K H q (r.rd.map oV))
  at1 : ∃ p ws, x = .ref p ∧ SqT K H p ws ∧ atI ws 1 = some (oV r.ov)
  at2 : ∃ p ws q, x = .ref p ∧ SqT K H p ws ∧ atI ws 2 = some (.ref q) ∧ (SqL K H q (r.wr.map oV) ∨ SqT K H q (r.wr.map oV))
theorem row_at {K : PySem.W.Frag} {H : Hp} {x : V} {d : PyData} {r : Row} (h : Dl K H x d) (e : rawRow d r) : RowAt K H x r := by
  obtain ⟨s1, s2, rfl, e1, e2⟩ := e
  refine ⟨?_, ?_, ?_⟩
  · obtain ⟨p, ws, y, rfl, hq, hy, hd⟩ := dl_ix h (i := 0) rfl
    obtain ⟨q, us, rfl, hs, hk⟩ := dl_seq hd e1
    rw [dla_oV hk] at hs
    exact ⟨p, ws, q, rfl, hq, hy, hs⟩
  · obtain ⟨p, ws, y, rfl, hq, hy, hd⟩ := dl_ix h (i := 1) rfl
    rw [dl_oV hd] at hy
    exact ⟨p, ws, rfl, hq, hy⟩
  · obtain ⟨p, ws, y, rfl, hq, hy, hd⟩ := dl_ix h (i := 2) rfl
    obtain ⟨q, us, rfl, hs, hk⟩ := dl_seq hd e2
    rw [dla_oV hk] at hs
    exact ⟨p, ws, q, rfl, hq, hy, hs⟩
theorem seq_same {K : PySem.W.Frag} {H H' : Hp} {a : Addr} {xs : List V} (e : Same H H') (h : SqL K H a xs ∨ SqT K H a xs) : SqL K H' a xs ∨ SqT K H' a xs := h.imp (fun h => e.seq h) (fun h => seqT_same e h)
theorem RowAt.same {K : PySem.W.Frag} {H H' : Hp} {x : V} {r : Row} (e : Same H H') (h : RowAt K H x r) : RowAt K H' x r := by
  obtain ⟨⟨p, ws, q, h1, h2, h3, h4⟩, ⟨p', ws', h5, h6, h7⟩, ⟨p2, ws2, q2, h8, h9, h10, h11⟩⟩ := h
  exact ⟨⟨p, ws, q, h1, seqT_same e h2, h3, seq_same e h4⟩, ⟨p', ws', h5, seqT_same e h6, h7⟩, ⟨p2, ws2, q2, h8, seqT_same e h9, h10, seq_same e h11⟩⟩
theorem ok_states_reason (T : Txt P K mg c) : Has P w K mg base 1 "states_reason" ["letters", "answers", "states"] (sp_states_reason K) := by
  obtain ⟨f, fd, F, m, b⟩ := T.d_states_reason.ex
  obtain ⟨tk_MOST_STATES, cc_MOST_STATES⟩ := T.c_MOST_STATES
  refine ⟨f, fd, F.ok sc_states_reason (fun vs H Q E h => ?_) (fun cdv A outer s H vs Q E hr h => ?_), m, F.kp, b⟩
  · obtain ⟨cn, v, rfl, ho, hv, q⟩ := h
    rfl
  obtain ⟨cn, v, rfl, ho, hv, q⟩ := h
  refine ⟨_, (pss_cons (ps_if (pt_not (pt_chain op_le op_le pe_int (pe_callB call_len_seq (by rfl) T.z_len (by decide +kernel) (pa_cons (pv 2) pa_nil)) (pe_glob (v := .int 8) rfl cc_MOST_STATES ⟨_, rfl⟩)))
      (pss_one (ps_ret pe_str))
      pss_nil)
      (pss_cons (ps_if (pt_val (pe_callB (cr_any rfl) (by rfl) T.z_any (by decide +kernel) (pa_cons (pe_lc (own := [("row", 4)]) (g := gName 4) (by rfl) sc_states_reason.nd (pi_alt (pi_list (pv 2)) (pi_tup (pv 2))) (blkOk_by (own := [("row", 4)]) (N := ["letters", "answers", "states", "targets", "row", "target"]) (sc := defScope s_states_reason) (by decide +kernel)) (fun _ _ _ _ _ => pg_name (i := 4) sc_states_reason.nd rfl (Or.inl rfl)) (fun _ _ _ _ _ => pts_nil) (fun _ _ _ _ _ => (pe_or (pe_cmpR op_ne (pe_callB (call_len_seqK (K := K) rfl) (by rfl) T.z_len (by decide +kernel) (pa_cons (pe_ix (ix_tupK (K := K) rfl) (pv 4) pe_int (fun _ _ => rfl)) pa_nil)) (pv 0) (nomark _)) (pe_one (pe_cmpR op_ne (pe_callB (call_len_seqK (K := K) rfl) (by rfl) T.z_len (by decide +kernel) (pa_cons (pe_ix (ix_tupK (K := K) rfl) (pv 4) pe_int (fun _ _ => rfl)) pa_nil)) (pv 1) (nomark _)))))) pa_nil)))
      (pss_one (ps_ret pe_str))
      pss_nil)
      (pss_cons (ps_setLc2 (i := 3) (own := [("row", 4), ("target", 5)]) (vs1 := [5]) (g := gName 4) (g1 := gName 5) (by rfl) sc_states_reason.nd rfl rfl (sw_true rfl rfl rfl (by decide +kernel)) (pi_alt (pi_list (pv 2)) (pi_tup (pv 2))) (blkOk_by (own := [("row", 4), ("target", 5)]) (N := ["letters", "answers", "states", "targets", "row", "target"]) (sc := defScope s_states_reason) (by decide +kernel)) (by decide) (fun _ _ _ _ _ => pg_name (i := 4) sc_states_reason.nd rfl (Or.inl rfl)) (fun _ _ _ _ _ => pts_nil) (fun _ _ _ _ _ => (pi_listK (K := K) rfl (pe_op op_cat (pe_op op_cat (pe_callTy (call_list_ofK (K := K) rfl) (by rfl) T.z_list (by decide +kernel) (pa_cons (pe_ix (ix_tupK (K := K) rfl) (pv 4) pe_int (fun _ _ => rfl)) pa_nil)) (pe_lst (pa_cons (pe_ix (ix_tupK (K := K) rfl) (pv 4) pe_int (fun _ _ => rfl)) pa_nil))) (pe_callTy (call_list_ofK (K := K) rfl) (by rfl) T.z_list (by decide +kernel) (pa_cons (pe_ix (ix_tupK (K := K) rfl) (pv 4) pe_int (fun _ _ => rfl)) pa_nil))))) (fun _ _ _ _ _ => pg_name (i := 5) sc_states_reason.nd rfl (Or.inl rfl)) (fun _ _ _ _ _ => pts_nil) (fun _ _ _ _ _ => (pv 5)))
      (pss_cons (ps_if (pt_val (pe_callB (cr_any rfl) (by rfl) T.z_any (by decide +kernel) (pa_cons (pe_lc (own := [("target", 5)]) (g := gName 5) (by rfl) sc_states_reason.nd (pi_list (pv 3)) (blkOk_by (own := [("target", 5)]) (N := ["letters", "answers", "states", "targets", "row", "target"]) (sc := defScope s_states_reason) (by decide +kernel)) (fun _ _ _ _ _ => pg_name (i := 5) sc_states_reason.nd rfl (Or.inl rfl)) (fun _ _ _ _ _ => pts_nil) (fun _ _ _ _ _ => (pe_and (pe_cmpR op_notN (pv 5) pe_non (nomark _)) (pe_one (pe_not (pe_chain op_le op_lt pe_int (pv 5) (pe_callB (call_len_seqK (K := K) rfl) (by rfl) T.z_len (by decide +kernel) (pa_cons (pv 2) pa_nil)))))))) pa_nil)))
      (pss_one (ps_ret pe_str))
      pss_nil)
      (pss_one (ps_ret pe_str)))))), ?_⟩
  obtain ⟨d, hv, ds, es, el, er⟩ := hv
  obtain ⟨a, xs, rfl, hq, hk⟩ := dl_seq hv es
  have lx : xs.length = cn.st.length := (dla_len hk).trans el
  have o1 := ho.s1
  have o8 := ho.s8
  have rows : ∀ (i : Nat) (x : V), xs[i]? = some x → ∃ r, cn.st[i]? = some r ∧ RowAt K H x r := fun i x hx => by
    obtain ⟨d', e1, h1⟩ := dla_at hk hx
    have hi : i < cn.st.length := by
      have := (List.getElem?_eq_some_iff.mp hx).1
      omega
    exact ⟨cn.st[i], List.getElem?_eq_getElem hi, row_at h1 (er i d' _ e1 (List.getElem?_eq_getElem hi))⟩
  refine ⟨_, rfl, a, xs, rfl, hq, _, _, rfl, rfl, _, rfl, yes (by omega) ⟨_, _, rfl, rfl, _, rfl, nyes (by omega) ?_⟩⟩
  -- any([..])
  refine alt_seq rfl hq fun J G w g => fun D nD => lc_it w (fun i H' => Same H H' ∧ H' D = some (.lst ((List.replicate i false).map V.bl))) ⟨same_new nD, upd_same⟩ (fun i H' _ h' => g _ h'.1) ?_ ?_
  · rintro i x H1 H2 hi ⟨s1, hD⟩ ⟨rfl, hx⟩
    obtain ⟨r, er, ra⟩ := rows i x hx
    have ok := ho.rows r (List.mem_of_getElem? er)
    obtain ⟨⟨p, ws, q0, h1, h2, h3, h4⟩, _, ⟨p2, ws2, q2, h8, h9, h10, h11⟩⟩ := ra.same s1
    have rl := ok.rl
    have wl := ok.wl
    subst h1
    cases h8
    refine ⟨rfl, _, rfl, p, ws, _, _, rfl, rfl, h2, h3, q0, _, rfl, h4, _, rfl, rfl, _, rfl, ?_⟩
    rw [List.length_map, rl, decide_eq_true (rfl : V.int ((cn.l : Nat) : Int) = V.int ((cn.l : Nat) : Int))]
    refine iteF ⟨_, rfl, p, ws2, _, _, rfl, rfl, h9, h10, q2, _, rfl, h11, _, rfl, rfl, ?_⟩
    rw [List.length_map, wl, decide_eq_true (rfl : V.int ((cn.a : Nat) : Int) = V.int ((cn.a : Nat) : Int))]
    refine ⟨_, hD, ?_, same_mut s1 nD, ?_⟩
    · rw [List.length_map, List.length_replicate]
      exact small1000 (by omega)
    · rw [upd_same, List.replicate_succ', List.map_append]
      rfl
  rintro H1 ⟨s1, hD⟩
  refine ⟨D, _, rfl, SqL.of hD, _, rfl, ?_⟩
  rw [any_false]
  refine iteF ?_
  -- targets
  refine alt_seq rfl (seq_same s1 hq) fun J G w g => fun D2 nD2 => two_out w (fun i H' => Same H1 H' ∧ ∃ acc, H' D2 = some (.lst acc) ∧ acc.length ≤ 8 * i ∧ ∀ x ∈ acc, Tg cn.st.length x) ⟨same_new nD2, [], upd_same, Nat.zero_le _, fun x hx => nomatch hx⟩ (fun i H' _ h' => g _ h'.1) ?_ ?_
  · rintro i x H2 H3 hi ⟨s2, acc, hD2, la, ta⟩ ⟨rfl, hx⟩
    obtain ⟨r, er, ra⟩ := rows i x hx
    have ok := ho.rows r (List.mem_of_getElem? er)
    have s12 := s1.trans s2
    have rl := ok.rl
    have wl := ok.wl
    have l3 := ho.l3
    have a4 := ho.a4
    refine ⟨rfl, ?_⟩
    obtain ⟨⟨p, ws, q0, h1, h2, h3, h4⟩, ⟨p1, ws1, h5, h6, h7⟩, ⟨p2, ws2, q2, h8, h9, h10, h11⟩⟩ := ra.same s12
    subst h1
    cases h5
    cases h8
    refine ⟨_, rfl, p, ws, _, _, rfl, rfl, h2, h3, q0, _, rfl, h4, fun l0 n0 => ?_⟩
    have t0 := same_new (o := .lst (r.rd.map oV)) n0
    refine ⟨_, rfl, p, ws1, _, _, rfl, rfl, seqT_same t0 h6, h7, by show 1 ≤ sizeLine; decide, fun l1 n1 => ?_⟩
    have t1 := t0.trans (same_new (o := .lst [oV r.ov]) n1)
    refine ⟨l0, l1, _, _, rfl, rfl, same_new n1 _ _ upd_same, upd_same, line_small (by rw [List.length_map]; show r.rd.length + 1 ≤ _; omega), fun l2 n2 => ?_⟩
    have t2 := t1.trans (same_new (o := .lst (r.rd.map oV ++ [oV r.ov])) n2)
    refine ⟨_, rfl, p, ws2, _, _, rfl, rfl, seqT_same t2 h9, h10, q2, _, rfl, seq_same t2 h11, fun l3 n3 => ?_⟩
    have t3 := t2.trans (same_new (o := .lst (r.wr.map oV)) n3)
    refine ⟨l2, l3, _, _, rfl, rfl, same_new n3 _ _ upd_same, upd_same, line_small (by rw [List.length_append, List.length_map, List.length_map]; show r.rd.length + 1 + r.wr.length ≤ _; omega), fun l4 n4 => ?_⟩
    have t4 := t3.trans (same_new (o := .lst ((r.rd.map oV ++ [oV r.ov]) ++ r.wr.map oV)) n4)
    have h14 : l4 ≠ D2 := fun e => by
      subst e
      rw [t3 _ _ hD2] at n4
      cases n4
    have len : ((r.rd.map oV ++ [oV r.ov]) ++ r.wr.map oV).length ≤ 8 := by
      rw [List.length_append, List.length_append, List.length_map, List.length_map]
      show r.rd.length + 1 + r.wr.length ≤ _
      omega
    have all := rt_all ok
    have here := upd_same (H := upd (upd (upd (upd H3 l0 (.lst (r.rd.map oV))) l1 (.lst [oV r.ov])) l2 (.lst (r.rd.map oV ++ [oV r.ov]))) l3 (.lst (r.wr.map oV))) (a := l4) (o := .lst ((r.rd.map oV ++ [oV r.ov]) ++ r.wr.map oV))
    generalize ((r.rd.map oV ++ [oV r.ov]) ++ r.wr.map oV) = ts at t4 len all here ⊢
    generalize upd (upd (upd (upd (upd H3 l0 (.lst (r.rd.map oV))) l1 (.lst [oV r.ov])) l2 (.lst (r.rd.map oV ++ [oV r.ov]))) l3 (.lst (r.wr.map oV))) l4 (.lst ts) = H4 at t4 here ⊢
    refine ⟨l4, rfl, ⟨_, SqL.of here⟩, ?_⟩
    show Exists _
    refine two_out walk_list (fun j H' => Fr D2 H4 H' ∧ Same H1 H' ∧ ∃ acc, H' D2 = some (.lst acc) ∧ acc.length ≤ 8 * i + j ∧ ∀ x ∈ acc, Tg cn.st.length x) ⟨Fr.refl _ _, s2.trans t4, acc, t4 _ _ hD2, la, ta⟩ (fun j H' _ h' => h'.1.seq h14 (SqL.of here)) ?_ ?_
    · rintro j y H5 H6 hj ⟨f5, s5, acc5, hD5, la5, ta5⟩ ⟨rfl, hy⟩
      refine ⟨rfl, ?_⟩
      refine ⟨_, rfl, acc5, hD5, small1000 (by omega), f5.trans Fr.upd, ?_, acc5 ++ [y], upd_same, ?_, ?_⟩
      · exact same_mut s5 nD2
      · rw [List.length_append]
        show acc5.length + 1 ≤ _
        omega
      · intro x hx
        rcases List.mem_append.mp hx with hx | hx
        · exact ta5 x hx
        · rcases List.mem_singleton.mp hx with rfl
          exact all _ (List.mem_of_getElem? hy)
    · rintro H5 ⟨f5, s5, acc5, hD5, la5, ta5⟩
      exact ⟨s5, acc5, hD5, by omega, ta5⟩
  rintro H2 ⟨s2, acc, hD2, la, ta⟩
  have s12 := s1.trans s2
  -- any([..])
  refine ⟨_, rfl, D2, rfl, ⟨_, SqL.of hD2⟩, fun D3 nD3 => lc_it walk_list (fun i H' => Same H2 H' ∧ H' D3 = some (.lst ((List.replicate i false).map V.bl))) ⟨same_new nD3, upd_same⟩ (fun i H' _ h' => h'.1.seq (SqL.of hD2)) ?_ ?_⟩
  · rintro i x H3 H4 hi ⟨s3, hD3⟩ ⟨rfl, hx⟩
    obtain ⟨o, rfl, ho⟩ := ta x (List.mem_of_getElem? hx)
    have fin : ∀ H', H' = H4 → ∃ acc_1, H' D3 = some (.lst acc_1) ∧ acc_1.length < sizeLine ∧ Same H2 (upd H' D3 (.lst (acc_1 ++ [V.bl false]))) ∧ (upd H' D3 (.lst (acc_1 ++ [V.bl false]))) D3 = some (.lst ((List.replicate (i + 1) false).map V.bl)) := by
      rintro H' rfl
      refine ⟨_, hD3, ?_, same_mut s3 nD3, ?_⟩
      · rw [List.length_map, List.length_replicate]
        exact small1000 (by omega)
      · rw [upd_same, List.replicate_succ', List.map_append]
        rfl
    refine ⟨rfl, ?_⟩
    refine ⟨_, rfl, rfl, _, rfl, ?_⟩
    cases o with
    | none => exact iteF (fin _ rfl)
    | some n =>
      have hn := ho n rfl
      refine iteT ?_
      refine ⟨_, rfl, _, _, rfl, rfl, _, rfl, yes (by omega) ⟨_, rfl, a, xs, rfl, seq_same (s12.trans s3) hq, _, _, rfl, rfl, _, rfl, ?_⟩⟩
      rw [lx, decide_eq_true (show (n : Int) < (cn.st.length : Nat) by omega)]
      exact fin _ rfl
  rintro H3 ⟨s3, hD3⟩
  refine ⟨D3, _, rfl, SqL.of hD3, _, rfl, ?_⟩
  rw [any_false]
  refine iteF ?_
  exact q _ (s12.trans s3)
def sp_first_reason (K : PySem.W.Frag) : Sp := sp_states_reason K
theorem ok_first_reason (T : Txt P K mg c) : Has P w K mg base 2 "first_reason" ["letters", "answers", "states"] (sp_first_reason K) := by
  obtain ⟨f, fd, F, m, b⟩ := T.d_first_reason.ex
  obtain ⟨f_letters_reason, fd_letters_reason, G_letters_reason, m_letters_reason, k_letters_reason, b_letters_reason⟩ := ok_letters_reason (P := P) (w := w) (base := base) T
  obtain ⟨f_states_reason, fd_states_reason, G_states_reason, m_states_reason, k_states_reason, b_states_reason⟩ := ok_states_reason (P := P) (w := w) (base := base) T
  refine ⟨f, fd, F.ok sc_first_reason (fun vs H Q E h => ?_) (fun cdv A outer s H vs Q E hr h => ?_), m, F.kp, b⟩
  · obtain ⟨cn, v, rfl, ho, hv, q⟩ := h
    rfl
  obtain ⟨cn, v, rfl, ho, hv, q⟩ := h
  refine ⟨_, (pss_one (ps_ret (pe_orT (pe_call G_letters_reason (hr.mono (by decide)) (by rfl) m_letters_reason k_letters_reason b_letters_reason .nil pass0 (pa_cons (pv 0) (pa_cons (pv 1) pa_nil))) (pe_one (pe_call G_states_reason (hr.mono (by decide)) (by rfl) m_states_reason k_states_reason b_states_reason .nil pass0 (pa_cons (pv 0) (pa_cons (pv 1) (pa_cons (pv 2) pa_nil)))))))), ?_⟩
  refine ⟨_, rfl, _, rfl, _, _, rfl, by have := ho.l1; omega, by have := ho.l3; omega, by have := ho.a2; omega, by have := ho.a4; omega, false, ⟨Nat.zero_le _, rfl⟩, iteF ?_⟩
  exact ⟨_, rfl, _, rfl, _, rfl, cn, v, rfl, ho, hv, q⟩
/-- a contract's fields -/
def cf (c : Cn) (s : V) : List (Str × V) := putF "states" s (putF "answers" (.int c.a) (putF "letters" (.int c.l) []))
theorem cf_no {c : Cn} {s : V} {m : Str} (h1 : ¬ m = "states") (h2 : ¬ m = "answers") (h3 : ¬ m = "letters") : (cf c s).lookup m = none := by
  unfold cf
  rw [lookup_putF, if_neg h1, lookup_putF, if_neg h2, lookup_putF, if_neg h3]
  rfl
theorem cf_s {c : Cn} {s : V} : (cf c s).lookup ("states" : Str) = some s := by
  unfold cf
  rw [lookup_putF, if_pos rfl]
theorem cf_a {c : Cn} {s : V} : (cf c s).lookup ("answers" : Str) = some (.int c.a) := by
  unfold cf
  rw [lookup_putF, if_neg (by decide +kernel), lookup_putF, if_pos rfl]
theorem cf_l {c : Cn} {s : V} : (cf c s).lookup ("letters" : Str) = some (.int c.l) := by
  unfold cf
  rw [lookup_putF, if_neg (by decide +kernel), lookup_putF, if_neg (by decide +kernel), lookup_putF, if_pos rfl]
/-- a contract stands at p -/
def ConAt (K : PySem.W.Frag) (C : Addr) (H : Hp) (p : Addr) (c : Cn) : Prop := ∃ (dx : Addr) (s : V), H p = some (.ins C dx (cf c s)) ∧ Dp K H s (stD c.st)
theorem ConAt.same {K : PySem.W.Frag} {C : Addr} {H H' : Hp} {p : Addr} {c : Cn} (e : Same H H') (h : ConAt K C H p c) : ConAt K C H' p c := by
  obtain ⟨dx, s, h, d⟩ := h
  exact ⟨dx, s, e _ _ h, dp_same e d⟩
theorem seqT_fr {K : PySem.W.Frag} {H H' : Hp} {p a C dx : Addr} {fs : List (Str × V)} {xs : List V} (hp : H p = some (.ins C dx fs)) (f : Fr p H H') (h : SqT K H a xs) : SqT K H' a xs := by
  rcases h with (h | ⟨o', h⟩) | h
  · refine .inl (.inl (f _ _ (fun z => ?_) h))
    subst z
    rw [hp] at h
    cases h
  · refine .inl (.inr ⟨o', f _ _ (fun z => ?_) h⟩)
    subst z
    rw [hp] at h
    cases h
  · exact .inr h
theorem seqL_fr {K : PySem.W.Frag} {H H' : Hp} {p a C dx : Addr} {fs : List (Str × V)} {xs : List V} (hp : H p = some (.ins C dx fs)) (f : Fr p H H') (h : SqL K H a xs) : SqL K H' a xs := by
  rcases h with (h | ⟨o', h⟩) | h
  · refine .inl (.inl (f _ _ (fun z => ?_) h))
    subst z
    rw [hp] at h
    cases h
  · refine .inl (.inr ⟨o', f _ _ (fun z => ?_) h⟩)
    subst z
    rw [hp] at h
    cases h
  · exact .inr h
mutual
theorem dl_fr {K : PySem.W.Frag} {H H' : Hp} {p C dx : Addr} {fs : List (Str × V)} (hp : H p = some (.ins C dx fs)) (f : Fr p H H') : ∀ {v : V} {d : PyData}, Dl K H v d → Dl K H' v d
  | _, _, .non => .non
  | _, _, .bl b => .bl b
  | _, _, .int i => .int i
  | _, _, .str x => .str x
  | _, _, .lst h k => .lst (f _ _ (fun z => by subst z; rw [hp] at h; cases h) h) (dla_fr hp f k)
  | _, _, .tup h k => .tup (seqT_fr hp f h) (dla_fr hp f k)
theorem dla_fr {K : PySem.W.Frag} {H H' : Hp} {p C dx : Addr} {fs : List (Str × V)} (hp : H p = some (.ins C dx fs)) (f : Fr p H H') : ∀ {xs : List V} {ds : List PyData}, DlAll K H xs ds → DlAll K H' xs ds
  | _, _, .nil => .nil
  | _, _, .cons h k => .cons (dl_fr hp f h) (dla_fr hp f k)
end
mutual
theorem dp_fr {K : PySem.W.Frag} {H H' : Hp} {p C dx : Addr} {fs : List (Str × V)} (hp : H p = some (.ins C dx fs)) (f : Fr p H H') : ∀ {v : V} {d : PyData}, Dp K H v d → Dp K H' v d
  | _, _, .non => .non
  | _, _, .bl b => .bl b
  | _, _, .int i => .int i
  | _, _, .str x => .str x
  | _, _, .lst h k => .lst (seqL_fr hp f h) (dpa_fr hp f k)
  | _, _, .tup h k => .tup (seqT_fr hp f h) (dpa_fr hp f k)
theorem dpa_fr {K : PySem.W.Frag} {H H' : Hp} {p C dx : Addr} {fs : List (Str × V)} (hp : H p = some (.ins C dx fs)) (f : Fr p H H') : ∀ {xs : List V} {ds : List PyData}, DpAll K H xs ds → DpAll K H' xs ds
  | _, _, .nil => .nil
  | _, _, .cons h k => .cons (dp_fr hp f h) (dpa_fr hp f k)
end
def sp_Contract_init (K : PySem.W.Frag) (C : Addr) : Sp := fun vs H Q _ => ∃ (p dx : Addr) (cn : Cn) (v : V), vs = [.ref p, .int cn.l, .int cn.a, v] ∧ H p = some (.ins C dx []) ∧ cn.Ok ∧ RawSt K H v cn.st ∧
  ∀ H', (∀ b o, H b = some o → b ≠ p → H' b = some o) → ConAt K C H' p cn → Q .non H'
theorem frz_atoms : ∀ os : List (Option Nat), (os.map oD).map frz = os.map oD
  | [] => rfl
  | o :: os => by
    rw [List.map_cons, List.map_cons, frz_atoms os]
    cases o <;> simp [oD, frz]
theorem frz_row {d : PyData} {r : Row} (h : rawRow d r) : frz d = r.d := by
  obtain ⟨s1, s2, rfl, e1, e2⟩ := h
  have z : ∀ (s : PyData) (os : List (Option Nat)), isSeq s (os.map oD) → frz s = .tuple (os.map oD) := fun s os e => by
    rcases e with rfl | rfl <;> rw [frz, frzs_map, frz_atoms]
  have y : frz (oD r.ov) = oD r.ov := by cases r.ov <;> simp [oD, frz]
  simp [frz, frzs, z _ _ e1, z _ _ e2, y, Row.d]
theorem frz_st {d : PyData} {st : List Row} (h : rawSt d st) : frz d = stD st := by
  obtain ⟨ds, es, el, er⟩ := h
  have e : ds.map frz = st.map Row.d := by
    apply List.ext_getElem?
    intro i
    rw [List.getElem?_map, List.getElem?_map]
    cases h1 : ds[i]? with
    | none =>
      rw [List.getElem?_eq_none (by have := List.getElem?_eq_none_iff.mp h1; omega)]
      rfl
    | some d' =>
      have hi : i < st.length := by
        have := (List.getElem?_eq_some_iff.mp h1).1
        omega
      rw [List.getElem?_eq_getElem hi]
      exact congrArg some (frz_row (er i d' _ h1 (List.getElem?_eq_getElem hi)))
  rcases es with rfl | rfl <;> rw [frz, frzs_map, e] <;> rfl
theorem dat_raw {d : PyData} {cn : Cn} (ho : cn.Ok) (h : rawSt d cn.st) : datOk 3 d := by
  obtain ⟨ds, es, el, er⟩ := h
  have atom : ∀ n o, datOk n (oD o) := fun n o => by cases n <;> cases o <;> simp [oD, datOk]
  have sq : ∀ (s : PyData) (os : List (Option Nat)), os.length ≤ 1000 → isSeq s (os.map oD) → datOk 1 s := fun s os l e => by
    have a : ∀ d ∈ os.map oD, datOk 0 d := fun d hd => by
      obtain ⟨o, _, rfl⟩ := List.mem_map.mp hd
      exact atom 0 o
    rcases e with rfl | rfl
    · exact ⟨by rw [List.length_map]; exact l, a⟩
    · exact ⟨by rw [List.length_map]; exact l, a⟩
  have o8 := ho.s8
  have l3 := ho.l3
  have a4 := ho.a4
  have all : ds.length ≤ 1000 ∧ ∀ d ∈ ds, datOk 2 d := by
    refine ⟨by omega, fun d hd => ?_⟩
    obtain ⟨i, hi, rfl⟩ := List.getElem_of_mem hd
    have hi2 : i < cn.st.length := by omega
    obtain ⟨s1, s2, e, e1, e2⟩ := er i _ _ (List.getElem?_eq_getElem hi) (List.getElem?_eq_getElem hi2)
    have ok := ho.rows _ (List.getElem_mem hi2)
    have rl := ok.rl
    have wl := ok.wl
    rw [e]
    refine ⟨by show 5 ≤ 1000; decide, fun d hd => ?_⟩
    rcases List.mem_cons.mp hd with rfl | hd
    · exact sq _ _ (by omega) e1
    rcases List.mem_cons.mp hd with rfl | hd
    · exact atom _ _
    rcases List.mem_cons.mp hd with rfl | hd
    · exact sq _ _ (by omega) e2
    rcases List.mem_cons.mp hd with rfl | hd
    · trivial
    rcases List.mem_cons.mp hd with rfl | hd
    · trivial
    · cases hd
  rcases es with rfl | rfl
  · exact all
  · exact all
theorem ok_Contract_init (T : Txt P K mg c) : HasMk P w K mg base 6 (c 28) ["self", "letters", "answers", "states"] (sp_Contract_init K (c id_Contract)) := by
  obtain ⟨f, fd, F, m, b⟩ := T.d_Contract_init
  obtain ⟨f_first_reason, fd_first_reason, G_first_reason, m_first_reason, k_first_reason, b_first_reason⟩ := ok_first_reason (P := P) (w := w) (base := base) T
  obtain ⟨f_frozen, fd_frozen, G_frozen, m_frozen, k_frozen, b_frozen⟩ := ok_frozen (P := P) (w := w) (base := base) T 3
  refine ⟨f, fd, F.ok sc_Contract_init (fun vs H Q E h => ?_) (fun cdv A outer s H vs Q E hr h => ?_), m, b⟩
  · obtain ⟨p, dx, cn, v, rfl, hp, ho, hv, q⟩ := h
    rfl
  obtain ⟨p, dx, cn, v, rfl, hp, ho, hv, q⟩ := h
  refine ⟨_, (pss_cons (ps_set (i := 4) sc_Contract_init.nd rfl (.inl rfl) (pe_call G_first_reason (hr.mono (by decide)) (by rfl) m_first_reason k_first_reason b_first_reason .nil pass0 (pa_cons (pv 1) (pa_cons (pv 2) (pa_cons (pv 3) pa_nil)))))
      (pss_cons (ps_if (pt_truth (pv 4) (by intro _; rfl))
      (pss_one ps_never)
      pss_nil)
      (pss_cons (ps_fld (pv 0) (pv 1) rfl)
      (pss_cons (ps_fld (pv 0) (pv 2) rfl)
      (pss_one (ps_fld (pv 0) (pe_call G_frozen (hr.mono (by decide)) (by rfl) m_frozen k_frozen b_frozen .nil pass0 (pa_cons (pv 3) pa_nil)) rfl)))))), ?_⟩
  refine ⟨_, rfl, _, rfl, _, rfl, cn, v, rfl, ho, hv, fun H1 s1 => ?_⟩
  have hp1 := s1 _ _ hp
  have hv1 := hv.same s1
  refine ⟨_, rfl, false, ⟨Nat.zero_le _, rfl⟩, iteF ?_⟩
  refine ⟨_, rfl, _, rfl, p, c id_Contract, dx, [], rfl, hp1, T.cl_Contract, T.n_Contract_letters, (by show 0 < 1000; decide), ?_⟩
  refine ⟨_, rfl, _, rfl, p, c id_Contract, dx, _, rfl, upd_same, T.cl_Contract, T.n_Contract_answers, (by show 1 < 1000; decide), ?_⟩
  have f2 : Fr p H1 (upd (upd H1 p (.ins (c id_Contract) dx (putF "letters" (.int cn.l) []))) p (.ins (c id_Contract) dx (putF "answers" (.int cn.a) (putF "letters" (.int cn.l) [])))) := Fr.trans Fr.upd Fr.upd
  obtain ⟨d, hd, hr0⟩ := hv1
  refine ⟨_, rfl, v, d, rfl, dl_fr hp1 f2 hd, dat_raw ho hr0, fun v' H3 s3 hv3 => ?_⟩
  rw [frz_st hr0] at hv3
  have hp3 := s3 _ _ upd_same
  refine ⟨_, rfl, p, c id_Contract, dx, _, rfl, hp3, T.cl_Contract, T.n_Contract_states, (by show 2 < 1000; decide), ?_⟩
  refine q _ (fun b o hb hne => ?_) ⟨dx, v', upd_same, dp_fr hp3 Fr.upd hv3⟩
  rw [upd_ne hne]
  exact s3 _ _ (f2 b o hne (s1 _ _ hb))
/-- what follows an event in a state -/
def sp_Contract_follow (K : PySem.W.Frag) (C : Addr) : Sp := fun vs H Q _ => ∃ (p : Addr) (cn : Cn) (k : Nat) (e : Ev) (ev : V), vs = [.ref p, .int (k : Int), ev] ∧ ConAt K C H p cn ∧ cn.Ok ∧ k < cn.st.length ∧ Dp K H ev e.d ∧ e.Ok cn.l cn.a ∧ Q (oV (tgt cn.st k e)) H
theorem opt_at {os : List (Option Nat)} {n : Nat} (h : n < os.length) : (os.map oD)[n]? = some (oD (os.getD n none)) := by
  rw [List.getElem?_map, List.getElem?_eq_getElem h, List.getD_eq_getElem?_getD, List.getElem?_eq_getElem h]
  rfl
theorem ok_Contract_follow (T : Txt P K mg c) : HasM P w K mg base 1 (c 28) "follow" ["self", "state", "event"] (sp_Contract_follow K (c id_Contract)) := by
  obtain ⟨f, fd, F, m, b⟩ := T.d_Contract_follow
  refine ⟨f, fd, F.ok sc_Contract_follow (fun vs H Q E h => ?_) (fun cdv A outer s H vs Q E hr h => ?_), m, b⟩
  · obtain ⟨p, cn, k, e, ev, rfl, hc, ho, hk, he, heo, q⟩ := h
    rfl
  obtain ⟨p, cn, k, e, ev, rfl, hc, ho, hk, he, heo, q⟩ := h
  refine ⟨_, (pss_cons (ps_set (i := 3) sc_Contract_follow.nd rfl (.inl rfl) (pe_ix ix_tup (pe_fld (pv 0) rfl) (pv 1) (fun _ _ => rfl)))
      (pss_cons (ps_if (pt_cmpR op_eq (pe_ix ix_tup (pv 2) pe_int (fun _ _ => rfl)) pe_str (nomark _))
      (pss_one (ps_ret (pe_ix ix_tup (pv 3) pe_int (fun _ _ => rfl))))
      pss_nil)
      (pss_cons (ps_set (i := 4) sc_Contract_follow.nd rfl (.inl rfl) (pe_ifExp (pt_cmpR op_eq (pe_ix ix_tup (pv 2) pe_int (fun _ _ => rfl)) pe_str (nomark _)) (pe_ix ix_tup (pv 3) pe_int (fun _ _ => rfl)) (pe_ix ix_tup (pv 3) pe_int (fun _ _ => rfl))))
      (pss_one (ps_ret (pe_ix ix_tup (pv 4) (pe_ix ix_tup (pv 2) pe_int (fun _ _ => rfl)) (fun _ _ => rfl))))))), ?_⟩
  obtain ⟨dx, s, hp, hs⟩ := hc
  have hr : cn.st[k]? = some cn.st[k] := List.getElem?_eq_getElem hk
  have ok := ho.rows _ (List.getElem_mem hk)
  have ht : ∀ e, tgt cn.st k e = cn.st[k].at e := fun e => by
    unfold tgt
    rw [hr]
  obtain ⟨a1, xs1, x1, rfl, q1, i1, d1⟩ := dp_ix hs (i := k) (d := cn.st[k].d) (by rw [List.getElem?_map, hr]; rfl)
  obtain ⟨a2, xs2, x2, rfl, q2, i2, d2⟩ := dp_ix d1 (i := 1) rfl
  rw [ht] at q
  generalize cn.st[k] = r at d1 d2 ok q
  refine ⟨_, rfl, p, _, dx, _, _, rfl, hp, T.cl_Contract, T.n_Contract_states, cf_s, _, rfl, a1, xs1, _, _, rfl, rfl, q1, i1, ?_⟩
  cases e with
  | over =>
    obtain ⟨b, ys, y, rfl, q3, i3, d3⟩ := dp_ix he (i := 0) rfl
    cases d3
    refine ⟨_, rfl, b, ys, _, _, rfl, rfl, q3, i3, rfl, _, rfl, yes rfl ?_⟩
    refine ⟨_, rfl, _, xs2, _, _, rfl, rfl, q2, i2, ?_⟩
    rw [dp_oV d2]
    exact q
  | read n =>
    obtain ⟨b, ys, y, rfl, q3, i3, d3⟩ := dp_ix he (i := 0) rfl
    obtain ⟨b', ys', y', eb, q4, i4, d4⟩ := dp_ix he (i := 1) rfl
    cases eb
    cases d3
    cases d4
    obtain ⟨a3, xs3, x3, e3, q5, i5, d5⟩ := dp_ix d1 (i := 0) rfl
    cases e3
    obtain ⟨a6, xs6, x6, rfl, q6, i6, d6⟩ := dp_ix d5 (i := n) (opt_at (by rw [ok.rl]; exact heo))
    refine ⟨_, rfl, b, ys, _, _, rfl, rfl, q3, i3, rfl, _, rfl, nope (by decide +kernel) ?_⟩
    refine ⟨_, rfl, b, ys, _, _, rfl, rfl, q3, i3, rfl, _, rfl, yes (by decide +kernel) ?_⟩
    refine ⟨_, rfl, _, xs3, _, _, rfl, rfl, q5, i5, ?_⟩
    refine ⟨_, rfl, _, rfl, b, ys', _, _, rfl, rfl, q4, i4, a6, xs6, _, _, rfl, rfl, q6, i6, ?_⟩
    rw [dp_oV d6]
    exact q
  | write n =>
    obtain ⟨b, ys, y, rfl, q3, i3, d3⟩ := dp_ix he (i := 0) rfl
    obtain ⟨b', ys', y', eb, q4, i4, d4⟩ := dp_ix he (i := 1) rfl
    cases eb
    cases d3
    cases d4
    obtain ⟨a3, xs3, x3, e3, q5, i5, d5⟩ := dp_ix d1 (i := 2) rfl
    cases e3
    obtain ⟨a6, xs6, x6, rfl, q6, i6, d6⟩ := dp_ix d5 (i := n) (opt_at (by rw [ok.wl]; exact heo))
    refine ⟨_, rfl, b, ys, _, _, rfl, rfl, q3, i3, rfl, _, rfl, nope (by decide +kernel) ?_⟩
    refine ⟨_, rfl, b, ys, _, _, rfl, rfl, q3, i3, rfl, _, rfl, nope (by decide +kernel) ?_⟩
    refine ⟨_, rfl, _, xs3, _, _, rfl, rfl, q5, i5, ?_⟩
    refine ⟨_, rfl, _, rfl, b, ys', _, _, rfl, rfl, q4, i4, a6, xs6, _, _, rfl, rfl, q6, i6, ?_⟩
    rw [dp_oV d6]
    exact q


end
end Pf

namespace Pf
open PySem PySem.Spec PyProof.Rows L2
section
variable {P : Program} {w : World} {K : PySem.W.Frag} {mg : Str → Option Value} {base : Heap}
variable {c : Nat → Addr}
/-! ### data and lists that grow -/
theorem push_dp {K : PySem.W.Frag} {H : Hp} {D : Addr} {ws : List V} {ds : List PyData} {v : V} {d : PyData} {o : HO} (n : Nat) (hD : H D = some (.lst ws)) (hw : DpAll K H ws ds) (ok : ∀ d ∈ ds, tupOk n d) (hv : Dp K H v d) (okd : tupOk n d) : DpAll K (upd H D o) (ws ++ [v]) (ds ++ [d]) :=
  dpa_app (dpa_mut hD n ok hw) (dp_mut hD n okd hv)
theorem seqT_frl {K : PySem.W.Frag} {H H' : Hp} {r a : Addr} {ys xs : List V} (hr : H r = some (.lst ys)) (f : Fr r H H') (h : SqT K H a xs) : SqT K H' a xs := by
  rcases h with (h | ⟨o', h⟩) | h
  · refine .inl (.inl (f _ _ (fun z => ?_) h))
    subst z
    rw [hr] at h
    cases h
  · refine .inl (.inr ⟨o', f _ _ (fun z => ?_) h⟩)
    subst z
    rw [hr] at h
    cases h
  · exact .inr h
mutual
theorem dp_frl {K : PySem.W.Frag} {H H' : Hp} {r : Addr} {ys : List V} (hr : H r = some (.lst ys)) (f : Fr r H H') : ∀ {v : V} {d : PyData} (n : Nat), tupOk n d → Dp K H v d → Dp K H' v d
  | _, _, _, _, .non => .non
  | _, _, _, _, .bl b => .bl b
  | _, _, _, _, .int i => .int i
  | _, _, _, _, .str x => .str x
  | _, _, 0, h, .lst _ _ => h.elim
  | _, _, _ + 1, h, .lst _ _ => h.elim
  | _, _, 0, h, .tup _ _ => h.elim
  | _, _, n + 1, h, .tup q k => .tup (seqT_frl hr f q) (dpa_frl hr f n h.2 k)
theorem dpa_frl {K : PySem.W.Frag} {H H' : Hp} {r : Addr} {ys : List V} (hr : H r = some (.lst ys)) (f : Fr r H H') : ∀ {xs : List V} {ds : List PyData} (n : Nat), (∀ d ∈ ds, tupOk n d) → DpAll K H xs ds → DpAll K H' xs ds
  | _, _, _, _, .nil => .nil
  | _, _, n, h, .cons p k => .cons (dp_frl hr f n (h _ List.mem_cons_self) p) (dpa_frl hr f n (fun d hd => h d (List.mem_cons_of_mem _ hd)) k)
end
theorem ok_o (n : Nat) (o : Option Nat) : tupOk n (oD o) := by cases n <;> cases o <;> simp [oD, tupOk]
theorem ok_ev (n : Nat) (e : Ev) : tupOk (n + 1) e.d := by
  have h0 : ∀ x : Str, tupOk n (.str x) := fun x => by cases n <;> simp [tupOk]
  have h1 : ∀ i : Int, tupOk n (.int i) := fun x => by cases n <;> simp [tupOk]
  cases e with
  | over => exact ⟨by show 1 ≤ 100000; decide, fun d hd => by rcases List.mem_singleton.mp hd with rfl; exact h0 _⟩
  | read k =>
    refine ⟨by show 2 ≤ 100000; decide, fun d hd => ?_⟩
    rcases List.mem_cons.mp hd with rfl | hd
    · exact h0 _
    · rcases List.mem_singleton.mp hd with rfl
      exact h1 _
  | write k =>
    refine ⟨by show 2 ≤ 100000; decide, fun d hd => ?_⟩
    rcases List.mem_cons.mp hd with rfl | hd
    · exact h0 _
    · rcases List.mem_singleton.mp hd with rfl
      exact h1 _
theorem ok_evs (n l a : Nat) : ∀ d ∈ (evs l a).map Ev.d, tupOk (n + 1) d := fun d hd => by
  obtain ⟨e, _, rfl⟩ := List.mem_map.mp hd
  exact ok_ev n e
theorem ok_row (n : Nat) (r : Row) (h1 : r.rd.length ≤ 1000) (h2 : r.wr.length ≤ 1000) : tupOk (n + 2) r.d := by
  have hb : ∀ b : Bool, tupOk (n + 1) (.bool b) := fun b => by simp [tupOk]
  have hl : ∀ os : List (Option Nat), os.length ≤ 1000 → tupOk (n + 1) (.tuple (os.map oD)) := fun os h => by
    refine ⟨by rw [List.length_map]; exact Nat.le_trans h (by decide), fun d hd => ?_⟩
    obtain ⟨o, _, rfl⟩ := List.mem_map.mp hd
    exact ok_o n o
  refine ⟨by show 5 ≤ 100000; decide, fun d hd => ?_⟩
  rcases List.mem_cons.mp hd with rfl | hd
  · exact hl _ h1
  rcases List.mem_cons.mp hd with rfl | hd
  · exact ok_o _ _
  rcases List.mem_cons.mp hd with rfl | hd
  · exact hl _ h2
  rcases List.mem_cons.mp hd with rfl | hd
  · exact hb _
  rcases List.mem_cons.mp hd with rfl | hd
  · exact hb _
  · cases hd
theorem ok_rows {st : List Row} {l a m : Nat} (hl : l ≤ 1000) (ha : a ≤ 1000) (h : ∀ r ∈ st, r.Ok l a m) : ∀ d ∈ st.map Row.d, tupOk 2 d := fun d hd => by
  obtain ⟨r, hr, rfl⟩ := List.mem_map.mp hd
  have o := h r hr
  exact ok_row 0 r (by rw [o.rl]; exact hl) (by rw [o.wl]; exact ha)
theorem ok_st {st : List Row} {l a m : Nat} (hl : l ≤ 1000) (ha : a ≤ 1000) (hs : st.length ≤ 1000) (h : ∀ r ∈ st, r.Ok l a m) : tupOk 3 (stD st) :=
  ⟨by rw [List.length_map]; exact Nat.le_trans hs (by decide), ok_rows hl ha h⟩
theorem u65 {k : Nat} {A : Around} (r : Room k A) : A.units + 65 < cLine := by
  have := r.un
  omega
theorem nnope {p : Prop} [Decidable p] {A B : Prop} (h : ¬ p) (a : A) : if (!decide p) = true then A else B := by
  rw [decide_eq_false h]
  exact iteT a
def prD (pr : Nat × Nat) : PyData := .tuple [.int pr.1, .int pr.2]
theorem pr_eqv (p q : Nat × Nat) : PyData.eqv (prD p) (prD q) = decide (p = q) := by
  obtain ⟨a, b⟩ := p
  obtain ⟨x, y⟩ := q
  have h : PyData.eqv (prD (a, b)) (prD (x, y)) = ((a : Int) == (x : Int) && ((b : Int) == (y : Int) && true)) := by simp [prD, PyData.eqv, PyData.eqvAll]
  rw [h, Bool.eq_iff_iff]
  simp only [Bool.and_eq_true, beq_iff_eq, decide_eq_true_eq, Prod.mk.injEq, and_true]
  omega
theorem any_pr (P : List (Nat × Nat)) (t : Nat × Nat) : ((P.map prD).any fun z => PyData.eqv z (prD t)) = decide (t ∈ P) := by
  induction P with
  | nil => simp
  | cons p P ih =>
    rw [List.map_cons, List.any_cons, ih, pr_eqv, Bool.eq_iff_iff]
    simp only [Bool.or_eq_true, decide_eq_true_eq, List.mem_cons]
    constructor
    · rintro (h | h)
      · exact .inl h.symm
      · exact .inr h
    · rintro (h | h)
      · exact .inl h.symm
      · exact .inr h
theorem lay_pr (p : Nat × Nat) : PyData.canLay0 (prD p) = true := by simp [prD, PyData.canLay0, PyData.canLayAll0]
theorem lay_prs : ∀ P : List (Nat × Nat), PyData.canLayAll0 (P.map prD) = true
  | [] => by simp [PyData.canLayAll0]
  | p :: P => by simp [PyData.canLayAll0, lay_pr, lay_prs P]
theorem dep_pr (p : Nat × Nat) : PyData.depth (prD p) ≤ 3 := by simp [prD, PyData.depth, PyData.depthAll]
theorem dep_prs : ∀ P : List (Nat × Nat), PyData.depthAll (P.map prD) ≤ 4
  | [] => by simp [PyData.depthAll]
  | p :: P => by
    have h := dep_prs P
    have h2 := dep_pr p
    simp only [List.map_cons, PyData.depthAll]
    omega
theorem shaped_pr (p : Nat × Nat) : SeqAt.shaped (prD p) = true := by
  show (PyData.canLay0 (prD p) && decide (PyData.depth (prD p) ≤ 64)) = true
  rw [lay_pr, Bool.true_and]
  exact decide_eq_true (Nat.le_trans (dep_pr p) (by decide))
theorem shaped_prs (P : List (Nat × Nat)) : SeqAt.shaped (.list (P.map prD)) = true := shaped_lst (lay_prs P) (Nat.le_trans (dep_prs P) (by decide))
theorem dpa_get {K : PySem.W.Frag} {H : Hp} {xs : List V} {ds : List PyData} {i : Nat} {d : PyData} (h : DpAll K H xs ds) (e : ds[i]? = some d) : ∃ x, xs[i]? = some x ∧ Dp K H x d := by
  obtain ⟨x, d', e1, e2, p⟩ := dpa_at h (List.getElem?_eq_some_iff.mp e).1
  rw [e] at e2
  cases e2
  exact ⟨x, e1, p⟩
theorem dpa_getx {K : PySem.W.Frag} {H : Hp} {xs : List V} {ds : List PyData} {i : Nat} {x : V} (h : DpAll K H xs ds) (e : xs[i]? = some x) : ∃ d, ds[i]? = some d ∧ Dp K H x d := by
  have hi := (List.getElem?_eq_some_iff.mp e).1
  rw [dpa_len h] at hi
  obtain ⟨x', d', e1, e2, p⟩ := dpa_at h hi
  rw [e] at e1
  cases e1
  exact ⟨d', e2, p⟩
theorem walk_zipT {K : PySem.W.Frag} {a b : Addr} {xs ys : List V} {n : Nat} (h1 : xs.length = n) (h2 : ys.length = n) : Walk (RZ.ItzT K a b) n (fun H => SqT K H a xs ∧ SqT K H b ys) (YPair (fun i => xs[i]?) (fun i => ys[i]?)) where
  goes := fun i H hi g => ⟨xs, ys, xs[i], ys[i], g.1, g.2, List.getElem?_eq_getElem (by omega), List.getElem?_eq_getElem (by omega)⟩
  stops := fun H g => ⟨xs, ys, g.1, g.2, .inl (by omega)⟩
  yields := fun i H v H' _ g y => by
    obtain ⟨t, u, z, rfl, nt, e, k1, k2⟩ := y
    exact ⟨t, u, z, rfl, nt, e, k1 xs g.1, k2 ys g.2⟩
/-- the five parts of a state's row -/
theorem row_parts {K : PySem.W.Frag} {H : Hp} {s : V} {cn : Cn} {k : Nat} {r : Row} (hs : Dp K H s (stD cn.st)) (hr : cn.st[k]? = some r) : ∃ a xs b ys, s = .ref a ∧ SqT K H a xs ∧ atI xs (k : Int) = some (.ref b) ∧ SqT K H b ys ∧ ys.length = 5 ∧ ys.drop 3 = [.bl r.fi, .bl r.si] ∧ atI ys 3 = some (.bl r.fi) ∧ atI ys 4 = some (.bl r.si) := by
  obtain ⟨a, xs, x, rfl, q1, i1, d1⟩ := dp_ix hs (i := k) (d := r.d) (by rw [List.getElem?_map, hr]; rfl)
  have d2 : Dp K H x (.tuple [.tuple (r.rd.map oD), oD r.ov, .tuple (r.wr.map oD), .bool r.fi, .bool r.si]) := d1
  obtain ⟨b, ys, rfl, q2, k2⟩ := dp_tup d2
  cases k2 with
  | cons h0 k2 =>
  cases k2 with
  | cons h1 k2 =>
  cases k2 with
  | cons h2 k2 =>
  cases k2 with
  | cons h3 k2 =>
  cases k2 with
  | cons h4 k2 =>
  cases k2
  cases h3
  cases h4
  exact ⟨a, xs, b, _, rfl, q1, i1, q2, rfl, rfl, atI_nat (j := 3) rfl, atI_nat (j := 4) rfl⟩
theorem flg_at {cn : Cn} {k : Nat} {r : Row} (hr : cn.st[k]? = some r) : flg cn k = (r.fi, r.si) := by
  unfold flg
  rw [hr]
theorem cut_mid (xs : List V) (i j : Nat) (h1 : i ≤ j) (h2 : j ≤ xs.length) : cutV xs (some (i : Int)) (some (j : Int)) = (xs.drop i).take (j - i) := by
  unfold cutV
  rw [show HT.sIx xs.length 0 (some (i : Int)) = min i xs.length from HT.sIx_nat xs.length 0 i, show HT.sIx xs.length xs.length (some (j : Int)) = min j xs.length from HT.sIx_nat xs.length xs.length j, Nat.min_eq_left h2, Nat.min_eq_left (Nat.le_trans h1 h2)]
theorem evs_map {α : Type} (f : Ev → α) (l a : Nat) : (evs l a).map f = f .over :: ((List.range l).map (fun k => f (.read k)) ++ (List.range a).map fun k => f (.write k)) := by
  simp [evs, Function.comp_def]
theorem evs_reads {α : Type} (f : Ev → α) (l a : Nat) : (((evs l a).map f).drop 1).take (1 + l - 1) = (List.range l).map fun k => f (.read k) := by
  rw [evs_map, List.drop_succ_cons, List.drop_zero, List.take_left' (by simp)]
theorem evs_writes {α : Type} (f : Ev → α) (l a : Nat) : ((evs l a).map f).drop (1 + l) = (List.range a).map fun k => f (.write k) := by
  rw [evs_map, Nat.add_comm, List.drop_succ_cons, List.drop_left' (by simp)]
theorem dla_oVs {K : PySem.W.Frag} {H : Hp} : ∀ os : List (Option Nat), DlAll K H (os.map oV) (os.map oD)
  | [] => .nil
  | o :: os => .cons (by cases o; exact .non; exact .int _) (dla_oVs os)
theorem dl_oo {K : PySem.W.Frag} {H : Hp} (o : Option Nat) : Dl K H (oV o) (oD o) := by
  cases o
  · exact .non
  · exact .int _

theorem evs_push (f : Nat → Ev) (i : Nat) : (List.range i).map (fun k => (f k).d) ++ [(f i).d] = (List.range (i + 1)).map fun k => (f k).d := by
  rw [List.range_succ, List.map_append]
  rfl
theorem evs_d (l a : Nat) : (evs l a).map Ev.d = (Ev.over.d :: (List.range l).map fun k => (Ev.read k).d) ++ (List.range a).map fun k => (Ev.write k).d := by
  simp [evs, Function.comp_def]
theorem dpa_cat {K : PySem.W.Frag} {H : Hp} : ∀ {xs ys : List V} {ds es : List PyData}, DpAll K H xs ds → DpAll K H ys es → DpAll K H (xs ++ ys) (ds ++ es)
  | _, _, _, _, .nil, h => h
  | _, _, _, _, .cons p k, h => .cons p (dpa_cat k h)
def sp__law_events (K : PySem.W.Frag) : Sp := fun vs H Q _ => ∃ (l a : Nat), vs = [.int (l : Int), .int (a : Int)] ∧ l ≤ 3 ∧ a ≤ 4 ∧ ∀ (p : Addr) (H' : Hp) (xs : List V), Same H H' → H p = none → H' p = some (.lst xs) → DpAll K H' xs ((evs l a).map Ev.d) → Q (.ref p) H'
theorem s3h {H : Hp} {t p0 p1 : Addr} {o o0 o1 : HO} (nt : H t = none) (n0 : (upd H t o) p0 = none) (n1 : (upd (upd H t o) p0 o0) p1 = none) : (upd (upd (upd H t o) p0 o0) p1 o1) t = some o := by
  have a : (upd H t o) t = some o := upd_same
  have b : (upd (upd H t o) p0 o0) t = some o := (upd_ne (ne_of_none a n0)).trans a
  exact (upd_ne (ne_of_none b n1)).trans b
theorem ok__law_events (T : Txt P K mg c) : Has P w K mg base 1 "_law_events" ["letters", "answers"] (sp__law_events K) := by
  obtain ⟨f, fd, F, m, b⟩ := T.d__law_events.ex
  refine ⟨f, fd, F.ok sc__law_events (fun vs H Q E h => ?_) (fun cdv A outer s H vs Q E hr h => ?_), m, F.kp, b⟩
  · obtain ⟨l, a, rfl, hl, ha, q⟩ := h
    rfl
  obtain ⟨l, a, rfl, hl, ha, q⟩ := h
  refine ⟨_, (pss_cons (ps_setLc (i := 2) (own := [("letter", 3)]) (g := gName 3) (by rfl) sc__law_events.nd rfl rfl (sw_true rfl rfl rfl (by decide +kernel)) (pi_range1 (by rfl) T.z_range (pa_cons (pv 0) pa_nil)) (blkOk_by (own := [("letter", 3)]) (N := ["letters", "answers", "reads", "letter"]) (sc := defScope s__law_events) (by decide +kernel)) (fun _ _ _ _ _ => pg_name (i := 3) sc__law_events.nd rfl (Or.inl rfl)) (fun _ _ _ _ _ => pts_nil) (fun _ _ _ _ _ => (pe_tup (pa_cons pe_str (pa_cons (pv 3) pa_nil)))))
      (pss_one (ps_ret (pe_op op_cat (pe_op op_cat (pe_lst (pa_cons (pe_tup (pa_cons pe_str pa_nil)) pa_nil)) (pv 2)) (pe_lc (own := [("letter", 3)]) (g := gName 3) (by rfl) sc__law_events.nd (pi_range1 (by rfl) T.z_range (pa_cons (pv 1) pa_nil)) (blkOk_by (own := [("letter", 3)]) (N := ["letters", "answers", "reads", "letter"]) (sc := defScope s__law_events) (by decide +kernel)) (fun _ _ _ _ _ => pg_name (i := 3) sc__law_events.nd rfl (Or.inl rfl)) (fun _ _ _ _ _ => pts_nil) (fun _ _ _ _ _ => (pe_tup (pa_cons pe_str (pa_cons (pv 3) pa_nil))))))))), ?_⟩
  refine ⟨_, rfl, (l : Int), rfl, by omega, by omega, fun D nD => ?_⟩
  refine lc_range (lo := 0) (fun i H' => Same H H' ∧ ∃ ws, H' D = some (.lst ws) ∧ DpAll K H' ws ((List.range i).map fun k => (Ev.read k).d)) ⟨same_new nD, [], upd_same, .nil⟩ (fun i H' hi h => ?_) (fun H9 h => ?_)
  · obtain ⟨s1, ws, hD, hw⟩ := h
    have hi2 : i < l := by simpa using hi
    have gi : (0 : Int) + (i : Int) = (i : Int) := Int.zero_add _
    refine ⟨rfl, _, rfl, by show 2 ≤ sizeLine; decide, fun t nt => ?_⟩
    have st := same_new (o := .tup [.str "read", .int (0 + (i : Int))]) nt
    refine ⟨ws, st _ _ hD, ?_, same_mut (s1.trans st) nD, ws ++ [.ref t], upd_same, ?_⟩
    · have := dpa_len hw
      rw [List.length_map, List.length_range] at this
      exact small1000 (by omega)
    · rw [← evs_push]
      refine push_dp 1 (st _ _ hD) (dpa_same st hw) (fun d hd => ?_) (.tup (SqT.of upd_same) (.cons (.str _) (.cons ?_ .nil))) (ok_ev 0 _)
      · obtain ⟨k, _, rfl⟩ := List.mem_map.mp hd
        exact ok_ev 0 _
      · rw [gi]
        exact .int _
  obtain ⟨s1, ws, hD, hw⟩ := h
  have lw : ws.length = l := by
    have := dpa_len hw
    simpa using this
  clear nD
  refine ⟨by show 1 ≤ sizeLine; decide, fun t nt => ⟨by show 1 ≤ sizeLine; decide, fun p0 n0 => ?_⟩⟩
  have s2 := (same_new (o := .tup [.str "over"]) nt).trans (same_new (o := .lst [.ref t]) n0)
  refine ⟨_, rfl, p0, D, _, _, rfl, rfl, upd_same, s2 _ _ hD, line_small (by show 1 + ws.length ≤ _; omega), fun p1 n1 => ?_⟩
  have s3 := s2.trans (same_new (o := .lst ([.ref t] ++ ws)) n1)
  have h1 : DpAll K (upd (upd (upd H9 t (.tup [.str "over"])) p0 (.lst [.ref t])) p1 (.lst ([.ref t] ++ ws))) ([.ref t] ++ ws) (Ev.over.d :: (List.range l).map fun k => (Ev.read k).d) := by
    have := dpa_same s3 hw
    simp only [Int.toNat_natCast] at this
    exact .cons (.tup (SqT.of (s3h nt n0 n1)) (.cons (.str _) .nil)) this
  have hp1 : (upd (upd (upd H9 t (.tup [.str "over"])) p0 (.lst [.ref t])) p1 (.lst ([.ref t] ++ ws))) p1 = some (.lst ([.ref t] ++ ws)) := upd_same
  have s13 := s1.trans s3
  have l1 : ([V.ref t] ++ ws).length = 1 + l := by
    show ([V.ref t] ++ ws).length = 1 + l
    rw [List.length_append, lw]
    rfl
  generalize upd (upd (upd H9 t (.tup [.str "over"])) p0 (.lst [.ref t])) p1 (.lst ([.ref t] ++ ws)) = H1 at h1 hp1 s13
  generalize ([V.ref t] ++ ws) = vs1 at h1 hp1 l1
  clear s3 s2 n0 n1 nt s1 hD hw
  refine ⟨_, rfl, (a : Int), rfl, by omega, by omega, fun D nD => ?_⟩
  refine lc_range (lo := 0) (fun i H' => Same H1 H' ∧ ∃ ws, H' D = some (.lst ws) ∧ DpAll K H' ws ((List.range i).map fun k => (Ev.write k).d)) ⟨same_new nD, [], upd_same, .nil⟩ (fun i H' hi h => ?_) (fun H9 h => ?_)
  · obtain ⟨s1, ws, hD, hw⟩ := h
    have hi2 : i < a := by simpa using hi
    have gi : (0 : Int) + (i : Int) = (i : Int) := Int.zero_add _
    refine ⟨rfl, _, rfl, by show 2 ≤ sizeLine; decide, fun t nt => ?_⟩
    have st := same_new (o := .tup [.str "write", .int (0 + (i : Int))]) nt
    refine ⟨ws, st _ _ hD, ?_, same_mut (s1.trans st) nD, ws ++ [.ref t], upd_same, ?_⟩
    · have := dpa_len hw
      rw [List.length_map, List.length_range] at this
      exact small1000 (by omega)
    · rw [← evs_push]
      refine push_dp 1 (st _ _ hD) (dpa_same st hw) (fun d hd => ?_) (.tup (SqT.of upd_same) (.cons (.str _) (.cons ?_ .nil))) (ok_ev 0 _)
      · obtain ⟨k, _, rfl⟩ := List.mem_map.mp hd
        exact ok_ev 0 _
      · rw [gi]
        exact .int _
  obtain ⟨s1, ws2, hD, hw⟩ := h
  have lw2 : ws2.length = a := by
    have := dpa_len hw
    simpa using this
  refine ⟨p1, D, _, _, rfl, rfl, s1 _ _ hp1, hD, line_small (by omega), fun p2 n2 => ?_⟩
  have s4 := same_new (o := .lst (vs1 ++ ws2)) n2
  have sall := (s13.trans s1).trans s4
  refine q p2 _ _ sall ((s13.trans s1).free n2) upd_same ?_
  rw [evs_d]
  have := dpa_same s4 hw
  simp only [Int.toNat_natCast] at this
  exact dpa_cat (dpa_same (s1.trans s4) h1) this
def sp_events_of (K : PySem.W.Frag) (C : Addr) : Sp := fun vs H Q _ => ∃ (c : Addr) (cn : Cn), vs = [.ref c] ∧ ConAt K C H c cn ∧ cn.Ok ∧ ∀ (p : Addr) (H' : Hp) (xs : List V), Same H H' → H p = none → H' p = some (.lst xs) → DpAll K H' xs ((evs cn.l cn.a).map Ev.d) → Q (.ref p) H'
theorem ok_events_of (T : Txt P K mg c) : Has P w K mg base 1 "events_of" ["contract"] (sp_events_of K (c id_Contract)) := by
  obtain ⟨f, fd, F, m, b⟩ := T.d_events_of.ex
  refine ⟨f, fd, F.ok sc_events_of (fun vs H Q E h => ?_) (fun cdv A outer s H vs Q E hr h => ?_), m, F.kp, b⟩
  · obtain ⟨pc, ⟨l, a, st⟩, rfl, hc, ho, q⟩ := h
    rfl
  obtain ⟨pc, ⟨l, a, st⟩, rfl, hc, ho, q⟩ := h
  refine ⟨_, (pss_cons (ps_setLc (i := 1) (own := [("letter", 3)]) (g := gName 3) (by rfl) sc_events_of.nd rfl rfl (sw_true rfl rfl rfl (by decide +kernel)) (pi_range1 (by rfl) T.z_range (pa_cons (pe_fld (pv 0) rfl) pa_nil)) (blkOk_by (own := [("letter", 3)]) (N := ["contract", "reads", "writes", "letter"]) (sc := defScope s_events_of) (by decide +kernel)) (fun _ _ _ _ _ => pg_name (i := 3) sc_events_of.nd rfl (Or.inl rfl)) (fun _ _ _ _ _ => pts_nil) (fun _ _ _ _ _ => (pe_tup (pa_cons pe_str (pa_cons (pv 3) pa_nil)))))
      (pss_cons (ps_setLc (i := 2) (own := [("letter", 3)]) (g := gName 3) (by rfl) sc_events_of.nd rfl rfl (sw_true rfl rfl rfl (by decide +kernel)) (pi_range1 (by rfl) T.z_range (pa_cons (pe_fld (pv 0) rfl) pa_nil)) (blkOk_by (own := [("letter", 3)]) (N := ["contract", "reads", "writes", "letter"]) (sc := defScope s_events_of) (by decide +kernel)) (fun _ _ _ _ _ => pg_name (i := 3) sc_events_of.nd rfl (Or.inl rfl)) (fun _ _ _ _ _ => pts_nil) (fun _ _ _ _ _ => (pe_tup (pa_cons pe_str (pa_cons (pv 3) pa_nil)))))
      (pss_one (ps_ret (pe_op op_cat (pe_op op_cat (pe_lst (pa_cons (pe_tup (pa_cons pe_str pa_nil)) pa_nil)) (pv 1)) (pv 2)))))), ?_⟩
  have hl : l ≤ 3 := ho.l3
  have ha : a ≤ 4 := ho.a4
  obtain ⟨dx, sv, hp, hs⟩ := hc
  refine ⟨_, rfl, pc, _, dx, _, _, rfl, hp, T.cl_Contract, T.n_Contract_letters, cf_l, (l : Int), rfl, by omega, by omega, fun D nD => ?_⟩
  refine lc_range (lo := 0) (fun i H' => Same H H' ∧ ∃ ws, H' D = some (.lst ws) ∧ DpAll K H' ws ((List.range i).map fun k => (Ev.read k).d)) ⟨same_new nD, [], upd_same, .nil⟩ (fun i H' hi h => ?_) (fun H9 h => ?_)
  · obtain ⟨s1, ws, hD, hw⟩ := h
    have hi2 : i < l := by simpa using hi
    have gi : (0 : Int) + (i : Int) = (i : Int) := Int.zero_add _
    refine ⟨rfl, _, rfl, by show 2 ≤ sizeLine; decide, fun t nt => ?_⟩
    have st := same_new (o := .tup [.str "read", .int (0 + (i : Int))]) nt
    refine ⟨ws, st _ _ hD, ?_, same_mut (s1.trans st) nD, ws ++ [.ref t], upd_same, ?_⟩
    · have := dpa_len hw
      rw [List.length_map, List.length_range] at this
      exact small1000 (by omega)
    · rw [← evs_push]
      refine push_dp 1 (st _ _ hD) (dpa_same st hw) (fun d hd => ?_) (.tup (SqT.of upd_same) (.cons (.str _) (.cons ?_ .nil))) (ok_ev 0 _)
      · obtain ⟨k, _, rfl⟩ := List.mem_map.mp hd
        exact ok_ev 0 _
      · rw [gi]
        exact .int _
  obtain ⟨s1, ws, hD, hw⟩ := h
  have lw : ws.length = l := by
    have := dpa_len hw
    simpa using this
  clear nD
  have nD0 : H9 D = some (.lst ws) := hD
  refine ⟨_, rfl, pc, _, dx, _, _, rfl, s1 _ _ hp, T.cl_Contract, T.n_Contract_answers, cf_a, (a : Int), rfl, by omega, by omega, fun D2 nD => ?_⟩
  refine lc_range (lo := 0) (fun i H' => Same H9 H' ∧ ∃ ws, H' D2 = some (.lst ws) ∧ DpAll K H' ws ((List.range i).map fun k => (Ev.write k).d)) ⟨same_new nD, [], upd_same, .nil⟩ (fun i H' hi h => ?_) (fun H8 h => ?_)
  · obtain ⟨s1, ws, hD, hw⟩ := h
    have hi2 : i < a := by simpa using hi
    have gi : (0 : Int) + (i : Int) = (i : Int) := Int.zero_add _
    refine ⟨rfl, _, rfl, by show 2 ≤ sizeLine; decide, fun t nt => ?_⟩
    have st := same_new (o := .tup [.str "write", .int (0 + (i : Int))]) nt
    refine ⟨ws, st _ _ hD, ?_, same_mut (s1.trans st) nD, ws ++ [.ref t], upd_same, ?_⟩
    · have := dpa_len hw
      rw [List.length_map, List.length_range] at this
      exact small1000 (by omega)
    · rw [← evs_push]
      refine push_dp 1 (st _ _ hD) (dpa_same st hw) (fun d hd => ?_) (.tup (SqT.of upd_same) (.cons (.str _) (.cons ?_ .nil))) (ok_ev 0 _)
      · obtain ⟨k, _, rfl⟩ := List.mem_map.mp hd
        exact ok_ev 0 _
      · rw [gi]
        exact .int _
  obtain ⟨s2, ws2, hD2, hw2⟩ := h
  have lw2 : ws2.length = a := by
    have := dpa_len hw2
    simpa using this
  refine ⟨by show 1 ≤ sizeLine; decide, fun t nt => ⟨by show 1 ≤ sizeLine; decide, fun p0 n0 => ?_⟩⟩
  have s3 := (same_new (o := .tup [.str "over"]) nt).trans (same_new (o := .lst [.ref t]) n0)
  refine ⟨_, rfl, p0, D, _, _, rfl, rfl, upd_same, s3 _ _ (s2 _ _ nD0), line_small (by show 1 + ws.length ≤ _; omega), fun p1 n1 => ?_⟩
  have s4 := s3.trans (same_new (o := .lst ([.ref t] ++ ws)) n1)
  have h1 : DpAll K (upd (upd (upd H8 t (.tup [.str "over"])) p0 (.lst [.ref t])) p1 (.lst ([.ref t] ++ ws))) ([.ref t] ++ ws) (Ev.over.d :: (List.range l).map fun k => (Ev.read k).d) := by
    have := dpa_same (s2.trans s4) hw
    simp only [Int.toNat_natCast] at this
    exact .cons (.tup (SqT.of (s3h nt n0 n1)) (.cons (.str _) .nil)) this
  have hp1 : (upd (upd (upd H8 t (.tup [.str "over"])) p0 (.lst [.ref t])) p1 (.lst ([.ref t] ++ ws))) p1 = some (.lst ([.ref t] ++ ws)) := upd_same
  have l1 : ([V.ref t] ++ ws).length = 1 + l := by
    show ([V.ref t] ++ ws).length = 1 + l
    rw [List.length_append, lw]
    rfl
  refine ⟨_, rfl, p1, D2, _, _, rfl, rfl, hp1, s4 _ _ hD2, line_small (by omega), fun p2 n2 => ?_⟩
  have s5 := same_new (o := .lst (([V.ref t] ++ ws) ++ ws2)) n2
  have s14 := (s1.trans s2).trans s4
  refine q p2 _ _ (s14.trans s5) (s14.free n2) upd_same ?_
  rw [evs_d]
  have := dpa_same (s4.trans s5) hw2
  simp only [Int.toNat_natCast] at this
  exact dpa_cat (dpa_same s5 h1) this
/-- what follows an event in a state, the law's own way -/
def sp__law_follow (K : PySem.W.Frag) : Sp := fun vs H Q _ => ∃ (cn : Cn) (s : V) (k : Nat) (e : Ev) (ev : V), vs = [s, .int (k : Int), ev] ∧ Dp K H s (stD cn.st) ∧ cn.Ok ∧ k < cn.st.length ∧ Dp K H ev e.d ∧ e.Ok cn.l cn.a ∧ Q (oV (tgt cn.st k e)) H
theorem ok__law_follow (T : Txt P K mg c) : Has P w K mg base 1 "_law_follow" ["states", "state", "event"] (sp__law_follow K) := by
  obtain ⟨f, fd, F, m, b⟩ := T.d__law_follow.ex
  refine ⟨f, fd, F.ok sc__law_follow (fun vs H Q E h => ?_) (fun cdv A outer s H vs Q E hr h => ?_), m, F.kp, b⟩
  · obtain ⟨cn, s, k, e, ev, rfl, hs, ho, hk, he, heo, q⟩ := h
    rfl
  obtain ⟨cn, s, k, e, ev, rfl, hs, ho, hk, he, heo, q⟩ := h
  refine ⟨_, (pss_cons (ps_if (pt_cmpR op_eq (pe_ix ix_tup (pv 2) pe_int (fun _ _ => rfl)) pe_str (nomark _))
      (pss_one (ps_ret (pe_ix ix_tup (pe_ix ix_tup (pv 0) (pv 1) (fun _ _ => rfl)) pe_int (fun _ _ => rfl))))
      pss_nil)
      (pss_cons (ps_if (pt_cmpR op_eq (pe_ix ix_tup (pv 2) pe_int (fun _ _ => rfl)) pe_str (nomark _))
      (pss_one (ps_ret (pe_ix ix_tup (pe_ix ix_tup (pe_ix ix_tup (pv 0) (pv 1) (fun _ _ => rfl)) pe_int (fun _ _ => rfl)) (pe_ix ix_tup (pv 2) pe_int (fun _ _ => rfl)) (fun _ _ => rfl))))
      pss_nil)
      (pss_one (ps_ret (pe_ix ix_tup (pe_ix ix_tup (pe_ix ix_tup (pv 0) (pv 1) (fun _ _ => rfl)) pe_int (fun _ _ => rfl)) (pe_ix ix_tup (pv 2) pe_int (fun _ _ => rfl)) (fun _ _ => rfl)))))), ?_⟩
  have hr : cn.st[k]? = some cn.st[k] := List.getElem?_eq_getElem hk
  have ok := ho.rows _ (List.getElem_mem hk)
  have ht : ∀ e, tgt cn.st k e = cn.st[k].at e := fun e => by
    unfold tgt
    rw [hr]
  obtain ⟨a1, xs1, x1, rfl, q1, i1, d1⟩ := dp_ix hs (i := k) (d := cn.st[k].d) (by rw [List.getElem?_map, hr]; rfl)
  obtain ⟨a2, xs2, x2, rfl, q2, i2, d2⟩ := dp_ix d1 (i := 1) rfl
  rw [ht] at q
  generalize cn.st[k] = r at d1 d2 ok q
  cases e with
  | over =>
    obtain ⟨b, ys, y, rfl, q3, i3, d3⟩ := dp_ix he (i := 0) rfl
    cases d3
    refine ⟨_, rfl, b, ys, _, _, rfl, rfl, q3, i3, rfl, _, rfl, yes rfl ?_⟩
    refine ⟨_, rfl, _, rfl, a1, xs1, _, _, rfl, rfl, q1, i1, a2, xs2, _, _, rfl, rfl, q2, i2, ?_⟩
    rw [dp_oV d2]
    exact q
  | read n =>
    obtain ⟨b, ys, y, rfl, q3, i3, d3⟩ := dp_ix he (i := 0) rfl
    obtain ⟨b', ys', y', eb, q4, i4, d4⟩ := dp_ix he (i := 1) rfl
    cases eb
    cases d3
    cases d4
    obtain ⟨a3, xs3, x3, e3, q5, i5, d5⟩ := dp_ix d1 (i := 0) rfl
    cases e3
    obtain ⟨a6, xs6, x6, rfl, q6, i6, d6⟩ := dp_ix d5 (i := n) (opt_at (by rw [ok.rl]; exact heo))
    refine ⟨_, rfl, b, ys, _, _, rfl, rfl, q3, i3, rfl, _, rfl, nope (by decide +kernel) ?_⟩
    refine ⟨_, rfl, b, ys, _, _, rfl, rfl, q3, i3, rfl, _, rfl, yes (by decide +kernel) ?_⟩
    refine ⟨_, rfl, _, rfl, a1, xs1, _, _, rfl, rfl, q1, i1, a2, xs3, _, _, rfl, rfl, q5, i5, _, rfl, b, ys', _, _, rfl, rfl, q4, i4, a6, xs6, _, _, rfl, rfl, q6, i6, ?_⟩
    rw [dp_oV d6]
    exact q
  | write n =>
    obtain ⟨b, ys, y, rfl, q3, i3, d3⟩ := dp_ix he (i := 0) rfl
    obtain ⟨b', ys', y', eb, q4, i4, d4⟩ := dp_ix he (i := 1) rfl
    cases eb
    cases d3
    cases d4
    obtain ⟨a3, xs3, x3, e3, q5, i5, d5⟩ := dp_ix d1 (i := 2) rfl
    cases e3
    obtain ⟨a6, xs6, x6, rfl, q6, i6, d6⟩ := dp_ix d5 (i := n) (opt_at (by rw [ok.wl]; exact heo))
    refine ⟨_, rfl, b, ys, _, _, rfl, rfl, q3, i3, rfl, _, rfl, nope (by decide +kernel) ?_⟩
    refine ⟨_, rfl, b, ys, _, _, rfl, rfl, q3, i3, rfl, _, rfl, nope (by decide +kernel) ?_⟩
    refine ⟨_, rfl, _, rfl, a1, xs1, _, _, rfl, rfl, q1, i1, a2, xs3, _, _, rfl, rfl, q5, i5, _, rfl, b, ys', _, _, rfl, rfl, q4, i4, a6, xs6, _, _, rfl, rfl, q6, i6, ?_⟩
    rw [dp_oV d6]
    exact q
def sp_pair_target (K : PySem.W.Frag) (C : Addr) : Sp := fun vs H Q _ => ∃ (p1 p2 : Addr) (c1 c2 : Cn) (pw ev : V) (pr : Nat × Nat) (e : Ev), vs = [.ref p1, .ref p2, pw, ev] ∧ ConAt K C H p1 c1 ∧ ConAt K C H p2 c2 ∧ c1.Ok ∧ c2.Ok ∧ Dp K H pw (prD pr) ∧
  pr.1 < c1.st.length ∧ pr.2 < c2.st.length ∧ Dp K H ev e.d ∧ e.Ok c1.l c1.a ∧ e.Ok c2.l c2.a ∧ (pt2 c1 c2 pr e = none → Q .non H) ∧ ∀ (x y : Nat) (t : Addr) (H' : Hp), pt2 c1 c2 pr e = some (x, y) → Same H H' → Dp K H' (.ref t) (prD (x, y)) → Q (.ref t) H'
theorem ok_pair_target (T : Txt P K mg c) : Has P w K mg base 2 "pair_target" ["first", "second", "pair", "event"] (sp_pair_target K (c id_Contract)) := by
  obtain ⟨f, fd, F, m, b⟩ := T.d_pair_target.ex
  obtain ⟨f_Contract_follow, fd_Contract_follow, G_Contract_follow, M_Contract_follow, b_Contract_follow⟩ := ok_Contract_follow (P := P) (w := w) (base := base) T
  refine ⟨f, fd, F.ok sc_pair_target (fun vs H Q E h => ?_) (fun cdv A outer s H vs Q E hr h => ?_), m, F.kp, b⟩
  · obtain ⟨p1, p2, c1, c2, pw, ev, pr, e, rfl, h1, h2, o1, o2, hpv, l1, l2, he, eo1, eo2, qn, qs⟩ := h
    rfl
  obtain ⟨p1, p2, c1, c2, pw, ev, pr, e, rfl, h1, h2, o1, o2, hpv, l1, l2, he, eo1, eo2, qn, qs⟩ := h
  refine ⟨_, (pss_cons (ps_set (i := 4) sc_pair_target.nd rfl (.inl rfl) (pe_meth (pv 0) T.cl_Contract M_Contract_follow G_Contract_follow (hr.mono (by decide)) b_Contract_follow .nil pass0 (pa_cons (pe_ix ix_tup (pv 2) pe_int (fun _ _ => rfl)) (pa_cons (pv 3) pa_nil))))
      (pss_cons (ps_set (i := 5) sc_pair_target.nd rfl (.inl rfl) (pe_meth (pv 1) T.cl_Contract M_Contract_follow G_Contract_follow (hr.mono (by decide)) b_Contract_follow .nil pass0 (pa_cons (pe_ix ix_tup (pv 2) pe_int (fun _ _ => rfl)) (pa_cons (pv 3) pa_nil))))
      (pss_one (ps_ret (pe_ifExp (PW.pt (pw_or (pt_cmpR op_isN (pv 4) pe_non (nomark _)) (pw_or1 (pt_cmpR op_isN (pv 5) pe_non (nomark _))))) pe_non (pe_tup (pa_cons (pv 4) (pa_cons (pv 5) pa_nil)))))))), ?_⟩
  obtain ⟨a1, xs1, x1, rfl, q1, i1, d1⟩ := dp_ix hpv (i := 0) rfl
  obtain ⟨a2, xs2, x2, ea, q2, i2, d2⟩ := dp_ix hpv (i := 1) rfl
  cases ea
  cases d1
  cases d2
  obtain ⟨dx1, s1, hp1, hs1⟩ := id h1
  obtain ⟨dx2, s2, hp2, hs2⟩ := id h2
  refine ⟨_, rfl, p1, dx1, _, rfl, hp1, cf_no (by decide +kernel) (by decide +kernel) (by decide +kernel), _, rfl, a1, xs1, _, _, rfl, rfl, q1, i1, _, rfl, p1, c1, pr.1, e, ev, rfl, h1, o1, l1, he, eo1, ?_⟩
  refine ⟨_, rfl, p2, dx2, _, rfl, hp2, cf_no (by decide +kernel) (by decide +kernel) (by decide +kernel), _, rfl, a1, xs2, _, _, rfl, rfl, q2, i2, _, rfl, p2, c2, pr.2, e, ev, rfl, h2, o2, l2, he, eo2, ?_⟩
  unfold pt2 at qn qs
  cases e1 : tgt c1.st pr.1 e with
  | none =>
    rw [e1] at qn
    refine ⟨_, rfl, rfl, _, rfl, yes rfl ?_⟩
    exact qn rfl
  | some x =>
    rw [e1] at qn qs
    refine ⟨_, rfl, rfl, _, rfl, nope (fun z => nomatch z) ?_⟩
    cases e2 : tgt c2.st pr.2 e with
    | none =>
      rw [e2] at qn
      refine ⟨_, rfl, rfl, _, rfl, yes rfl ?_⟩
      exact qn rfl
    | some y =>
      rw [e2] at qs
      refine ⟨_, rfl, rfl, _, rfl, nope (fun z => nomatch z) ?_⟩
      refine ⟨_, rfl, _, rfl, by show 2 ≤ sizeLine; decide, fun t nt => ?_⟩
      exact qs x y t _ rfl (same_new nt) (.tup (SqT.of upd_same) (.cons (.int _) (.cons (.int _) .nil)))


end
end Pf

namespace Pf
open PySem PySem.Spec PyProof.Rows L2
section
variable {P : Program} {w : World} {K : PySem.W.Frag} {mg : Str → Option Value} {base : Heap}
variable {c : Nat → Addr}
def mu3 (σ : L2.St) : Nat := match σ[3]? with
  | some (some (V.int n)) => 9 - n.toNat
  | _ => 0
def sp_reached_pairs (K : PySem.W.Frag) (C L : Addr) : Sp := fun vs H Q E => ∃ (p1 p2 : Addr) (c1 c2 : Cn), vs = [.ref p1, .ref p2] ∧ ConAt K C H p1 c1 ∧ ConAt K C H p2 c2 ∧ c1.Ok ∧ c2.Ok ∧ c1.l = c2.l ∧ c1.a = c2.a ∧
  ((allP c1 c2).length ≤ 8 → ∀ (p : Addr) (H' : Hp) (xs : List V), Same H H' → H p = none → H' p = some (.lst xs) → DpAll K H' xs ((allP c1 c2).map prD) → Q (.ref p) H') ∧
  (8 < (allP c1 c2).length → ∀ (d : Addr) (H' : Hp), Same H H' → H d = none → H' d = some (.xd [("what", .str "states")]) → E (.ref L) (some d) H')
theorem ok_pr (n : Nat) (pr : Nat × Nat) : tupOk (n + 1) (prD pr) := by
  have h1 : ∀ i : Int, tupOk n (.int i) := fun x => by cases n <;> simp [tupOk]
  refine ⟨by show 2 ≤ 100000; decide, fun d hd => ?_⟩
  rcases List.mem_cons.mp hd with rfl | hd
  · exact h1 _
  · rcases List.mem_singleton.mp hd with rfl
    exact h1 _
theorem ok_prs (n : Nat) (P : List (Nat × Nat)) : ∀ d ∈ P.map prD, tupOk (n + 1) d := fun d hd => by
  obtain ⟨e, _, rfl⟩ := List.mem_map.mp hd
  exact ok_pr n e
theorem ok_reached_pairs (T : Txt P K mg c) : HasX P w K mg base 3 "reached_pairs" ["first", "second"] (sp_reached_pairs K (c id_Contract) (c id_TooLarge)) := by
  obtain ⟨f, fd, F, m, b⟩ := T.d_reached_pairs.ex
  obtain ⟨tk_MOST_STATES, cc_MOST_STATES⟩ := T.c_MOST_STATES
  obtain ⟨f_TooLarge, fd_TooLarge, G_TooLarge, i_TooLarge, t_TooLarge, b_TooLarge⟩ := mk_TooLarge (P := P) (w := w) (base := base) T
  obtain ⟨f_events_of, fd_events_of, G_events_of, m_events_of, k_events_of, b_events_of⟩ := ok_events_of (P := P) (w := w) (base := base) T
  obtain ⟨f_pair_target, fd_pair_target, G_pair_target, m_pair_target, k_pair_target, b_pair_target⟩ := ok_pair_target (P := P) (w := w) (base := base) T
  refine ⟨f, fd, F.okX sc_reached_pairs (fun vs H Q E h => ?_) (fun cdv A outer s H vs Q E hr h => ?_), m, F.kp, b⟩
  · obtain ⟨p1, p2, c1, c2, rfl, h1, h2, o1, o2, el, ea, qs, qe⟩ := h
    rfl
  obtain ⟨p1, p2, c1, c2, rfl, h1, h2, o1, o2, el, ea, qs, qe⟩ := h
  refine ⟨_, (pss_cons (ps_set (i := 2) sc_reached_pairs.nd rfl (.inl rfl) (pe_lst (pa_cons (pe_tup (pa_cons pe_int (pa_cons pe_int pa_nil))) pa_nil)))
      (pss_cons (ps_set (i := 3) sc_reached_pairs.nd rfl (.inl rfl) pe_int)
      (pss_cons (ps_while (passes_of rfl) (pt_cmpR op_lt (pv 3) (pe_callB call_len_seq (by rfl) T.z_len (by decide +kernel) (pa_cons (pv 2) pa_nil)) (nomark _))
      (pss_cons (ps_for (passes_of rfl) rfl (pi_list (pe_call G_events_of (hr.mono (by decide)) (by rfl) m_events_of k_events_of b_events_of .nil pass0 (pa_cons (pv 0) pa_nil))) (pg_name (i := 4) sc_reached_pairs.nd rfl (.inl rfl))
        (pss_cons (ps_set (i := 5) sc_reached_pairs.nd rfl (.inl rfl) (pe_call G_pair_target (hr.mono (by decide)) (by rfl) m_pair_target k_pair_target b_pair_target .nil pass0 (pa_cons (pv 0) (pa_cons (pv 1) (pa_cons (pe_ix ix_list (pv 2) (pv 3) (fun _ _ => rfl)) (pa_cons (pv 4) pa_nil))))))
          (pss_one (ps_if (PW.pt (pw_and (pt_cmpR op_notN (pv 5) pe_non (nomark _)) (pw_and1 (pt_cmpR (op_notInD (u65 hr)) (pv 5) (pv 2) (by rfl)))))
          (pss_cons (ps_if (pt_cmpR op_eq (pe_callB call_len_seq (by rfl) T.z_len (by decide +kernel) (pa_cons (pv 2) pa_nil)) (pe_glob (v := .int 8) rfl cc_MOST_STATES ⟨_, rfl⟩) (nomark _))
            (pss_one (ps_raise rfl (takes_of rfl rfl rfl rfl) (pmk_oex T.o_TooLarge i_TooLarge t_TooLarge G_TooLarge (hr.mono (by decide)) b_TooLarge .nil pass0 (by rfl) T.g_TooLarge (pa_cons pe_str pa_nil))))
            pss_nil)
            (pss_one (ps_expr (pe_bm PySem.F.plainAttrs_list PySem.F.slot_list_append PySem.F.type_list_append mt_append (pv 2) (pa_cons (pv 5) pa_nil)))))
          pss_nil))))
        (pss_one (ps_aug (i := 3) sc_reached_pairs.nd rfl (.inl rfl) pe_int ip_add))))
      (pss_one (ps_ret (pv 2)))))), ?_⟩
  refine ⟨by show 2 ≤ sizeLine; decide, fun t0 n0 => ⟨by show 1 ≤ sizeLine; decide, fun D nD => ?_⟩⟩
  have sD := (same_new (o := .tup [.int 0, .int 0]) n0).trans (same_new (o := .lst [.ref t0]) nD)
  have hD0 : (upd (upd H t0 (.tup [.int 0, .int 0])) D (.lst [.ref t0])) D = some (.lst [.ref t0]) := upd_same
  have hx0 : DpAll K (upd (upd H t0 (.tup [.int 0, .int 0])) D (.lst [.ref t0])) [.ref t0] ((walkP c1 c2 0).map prD) := .cons (.tup (SqT.of ((upd_ne (ne_of_none upd_same nD)).trans upd_same)) (.cons (.int _) (.cons (.int _) .nil))) .nil
  have nDH : H D = none := (same_new n0).free nD
  generalize upd (upd H t0 (.tup [.int 0, .int 0])) D (.lst [.ref t0]) = H0 at sD hD0 hx0 ⊢
  refine while_by (fun σ H' => ∃ (n : Nat) (xs : List V) (y1 y2 : Option V), σ = [some (.ref p1), some (.ref p2), some (.ref D), some (.int (n : Int)), y1, y2] ∧ Same H H' ∧ H' D = some (.lst xs) ∧ DpAll K H' xs ((walkP c1 c2 n).map prD) ∧ (walkP c1 c2 n).length ≤ 8 ∧ n ≤ (walkP c1 c2 n).length)
    (fun σ _ => mu3 σ) ⟨0, _, none, none, rfl, sD, hD0, hx0, by show 1 ≤ 8; decide, Nat.zero_le _⟩ ?_ ?_
  · rintro σ H1 ⟨n, xs, y1, y2, rfl, s1, hD, hx, l8, hn⟩
    have lx : xs.length = (walkP c1 c2 n).length := by
      have := dpa_len hx
      rwa [List.length_map] at this
    refine ⟨_, rfl, _, rfl, D, xs, rfl, .inl (SqL.of hD), _, _, rfl, rfl, _, rfl, ite2 (fun e => ?_) (fun e => ?_)⟩
    · have e1 := dec_t e
      have hnl : n < (walkP c1 c2 n).length := by omega
      have hpr : (walkP c1 c2 n)[n]? = some (walkP c1 c2 n)[n] := List.getElem?_eq_getElem hnl
      have hw : walkP c1 c2 (n + 1) = rowE c1 c2 (walkP c1 c2 n) (walkP c1 c2 n)[n] (evs c1.l c1.a) := by
        show nxP c1 c2 (walkP c1 c2 n) n = _
        unfold nxP
        rw [hpr]
      have hb := walk_in o1 o2 n _ (List.getElem_mem hnl)
      have hpre := all_pre c1 c2 (show n + 1 ≤ 64 by omega)
      rw [hw] at hpre
      generalize walkP c1 c2 n = P at *
      generalize P[n] = pr at *
      refine ⟨_, rfl, p1, c1, rfl, h1.same s1, o1, fun pe H2 es s2 nE hE hes => ?_⟩
      have s12 := s1.trans s2
      have neD : pe ≠ D := fun z => by
        subst z
        rw [hD] at nE
        cases nE
      have hD2 := s2 _ _ hD
      have hx2 := dpa_same s2 hx
      have les : es.length = (evs c1.l c1.a).length := by
        have := dpa_len hes
        rwa [List.length_map] at this
      refine ⟨pe, rfl, ⟨_, SqL.of hE⟩, for_list (K := K) (a := pe) (xs := es) (fun i σ H' => ∃ (xs' : List V) (y1 y2 : Option V), σ = [some (.ref p1), some (.ref p2), some (.ref D), some (.int (n : Int)), y1, y2] ∧ Fr D H2 H' ∧ Same H H' ∧ H' D = some (.lst xs') ∧
        DpAll K H' xs' ((rowE c1 c2 P pr ((evs c1.l c1.a).take i)).map prD) ∧ (rowE c1 c2 P pr ((evs c1.l c1.a).take i)).length ≤ 8) ⟨xs, y1, y2, rfl, Fr.refl _ _, s12, hD2, hx2, l8⟩ (fun i σ H' _ h' => ?_) ?_ ?_⟩
      · obtain ⟨_, _, _, _, f, _⟩ := h'
        exact f.seq neD (SqL.of hE)
      · rintro i y σ H3 hi ⟨xs3, z1, z2, rfl, f3, s3, hD3, hx3, l3⟩
        obtain ⟨d, ed, hy⟩ := dpa_getx (dpa_frl hD2 f3 1 (ok_evs 0 _ _) hes) hi
        rw [List.getElem?_map] at ed
        cases ev1 : (evs c1.l c1.a)[i]? with
        | none => rw [ev1] at ed; cases ed
        | some ev =>
        rw [ev1] at ed
        cases ed
        have evm := evs_ok (List.mem_of_getElem? ev1)
        have htk : (evs c1.l c1.a).take (i + 1) = (evs c1.l c1.a).take i ++ [ev] := by
          rw [List.take_succ, ev1]
          rfl
        have hstep : rowE c1 c2 P pr ((evs c1.l c1.a).take (i + 1)) = stepE c1 c2 pr (rowE c1 c2 P pr ((evs c1.l c1.a).take i)) ev := by
          rw [htk, rowE_cat]
          rfl
        have hsp : rowE c1 c2 P pr ((evs c1.l c1.a).take (i + 1)) <+: allP c1 c2 := by
          refine List.IsPrefix.trans ?_ hpre
          have e2 := rowE_cat c1 c2 pr ((evs c1.l c1.a).take (i + 1)) ((evs c1.l c1.a).drop (i + 1)) P
          rw [List.take_append_drop] at e2
          rw [e2]
          exact rowE_pre c1 c2 pr _ _
        have hpn : (rowE c1 c2 P pr ((evs c1.l c1.a).take i))[n]? = some pr := pre_at (rowE_pre c1 c2 pr _ P) hpr
        rw [hstep] at hsp ⊢
        generalize rowE c1 c2 P pr ((evs c1.l c1.a).take i) = R at *
        obtain ⟨v, ev3, hv⟩ := dpa_get hx3 (i := n) (d := prD pr) (by rw [List.getElem?_map, hpn]; rfl)
        refine ⟨_, rfl, _, rfl, _, rfl, _, rfl, D, xs3, _, v, rfl, rfl, SqL.of hD3, atI_nat ev3, _, rfl, ?_⟩
        refine ⟨p1, p2, c1, c2, v, y, pr, ev, rfl, h1.same s3, h2.same s3, o1, o2, hv, hb.1, hb.2, hy, evm, el ▸ ea ▸ evm, fun en => ?_, fun x z t H4 en s4 ht => ?_⟩
        · have hst : stepE c1 c2 pr R ev = R := by
            unfold stepE
            rw [en]
          refine ⟨_, rfl, rfl, _, rfl, nyes rfl ?_⟩
          refine ⟨xs3, _, _, rfl, f3, s3, hD3, ?_, ?_⟩
          · rw [hst]
            exact hx3
          · rw [hst]
            exact l3
        · have hD4 := s4 _ _ hD3
          have hx4 := dpa_same s4 hx3
          have f4 := f3.trans (Fr.of (r := D) s4)
          have s34 := s3.trans s4
          have lx3 : xs3.length = R.length := by
            have := dpa_len hx3
            rwa [List.length_map] at this
          refine ⟨_, rfl, rfl, _, rfl, nnope (fun z => nomatch z) ?_⟩
          refine ⟨_, rfl, _, rfl, prD (x, z), R.map prD, ht, .lst (SqL.of hD4) hx4, shaped_pr _, shaped_prs _, _, rfl, ?_⟩
          rw [any_pr]
          by_cases hm : (x, z) ∈ R
          · have hst : stepE c1 c2 pr R ev = R := by
              unfold stepE
              rw [en]
              exact if_pos hm
            refine nyes hm ?_
            refine ⟨xs3, _, _, rfl, f4, s34, hD4, ?_, ?_⟩
            · rw [hst]
              exact hx4
            · rw [hst]
              exact l3
          · have hst : stepE c1 c2 pr R ev = R ++ [(x, z)] := by
              unfold stepE
              rw [en]
              exact if_neg hm
            refine nnope hm ?_
            refine ⟨_, rfl, D, xs3, rfl, .inl (SqL.of hD4), rfl, _, rfl, ite2 (fun e => ?_) (fun e => ?_)⟩
            · have e8 := int_of_bl e
              have h8 : R.length = 8 := by omega
              have hgt : 8 < (allP c1 c2).length := by
                have := hsp.length_le
                rw [hst, List.length_append] at this
                have h1 : [(x, z)].length = 1 := rfl
                omega
              refine ⟨by decide, fun a na => ⟨a, .str "states", rfl, .inl ⟨_, rfl, by decide +kernel⟩, upd_same, fun d H5 kp ha hd nd => ⟨rfl, d, _, ha, hd, (same_new na).free nd, ?_⟩⟩⟩
              have nd4 := (same_new na).free nd
              have s5 : Same H4 (upd (del H5 a) d (.xd [("what", .str "states")])) := fun b o hb => by
                have ba := ne_of_none hb na
                rw [upd_ne (ne_of_none hb nd4), del_ne ba]
                exact same_made na kp b o hb
              exact qe hgt d _ (s34.trans s5) (s34.free nd4) upd_same
            · have e8 := int_ne_bl e
              have h8 : R.length < 8 := by omega
              refine ⟨_, rfl, .inl ⟨rfl, _, SqL.of hD4⟩, _, rfl, D, xs3, _, rfl, rfl, hD4, small1000 (by omega), ?_⟩
              refine ⟨_, _, _, rfl, f4.trans Fr.upd, ?_, upd_same, ?_, ?_⟩
              · intro b o hb
                rw [upd_ne (ne_of_none hb nDH)]
                exact s34 b o hb
              · rw [hst, List.map_append]
                exact push_dp 1 hD4 hx4 (ok_prs 0 _) ht (ok_pr 0 _)
              · rw [hst, List.length_append]
                show R.length + 1 ≤ 8
                omega
      · rintro σ H3 ⟨xs3, z1, z2, rfl, f3, s3, hD3, hx3, l3⟩
        rw [les, List.take_length, ← hw] at hx3
        rw [les, List.take_length, ← hw] at l3
        have hlen : n + 1 ≤ (walkP c1 c2 (n + 1)).length := by
          have a := (rowE_pre c1 c2 pr (evs c1.l c1.a) P).length_le
          rw [← hw] at a
          omega
        refine ⟨_, rfl, _, _, rfl, rfl, ⟨n + 1, xs3, z1, z2, rfl, s3, hD3, hx3, l3, hlen⟩, ?_⟩
        show 9 - (((n : Int) + 1).toNat) < 9 - ((n : Int).toNat)
        omega
    · have e1 := dec_f e
      have hstop := all_stop (c1 := c1) (c2 := c2) (n := n) (by omega) (by omega)
      refine ⟨_, rfl, qs (by rw [hstop]; exact l8) D H1 xs s1 nDH hD (by rw [hstop]; exact hx)⟩
  · rintro σ H1 Q1 Q2 hq ⟨v, e1, v2, e2, p, ys, e3, e4, i, j, e5, e6, k, e7, q⟩
    exact ⟨v, e1, v2, e2, p, ys, e3, e4, i, j, e5, e6, k, e7, hq _ _ q⟩


end
end Pf

namespace Pf
open PySem PySem.Spec PyProof.Rows L2
section
variable {P : Program} {w : World} {K : PySem.W.Frag} {mg : Str → Option Value} {base : Heap}
variable {c : Nat → Addr}
theorem ne_of_none' {H H' : Hp} {D p : Addr} {o : HO} (h : H D = some o) (s : Same H H') (n : H' p = none) : p ≠ D := fun e => by
  subst e
  rw [s _ _ h] at n
  cases n
def sp_pair_row (K : PySem.W.Frag) (C : Addr) : Sp := fun vs H Q _ => ∃ (p1 p2 q : Addr) (c1 c2 : Cn) (xs : List V) (pw : V) (pr : Nat × Nat), vs = [.ref p1, .ref p2, .ref q, pw] ∧ ConAt K C H p1 c1 ∧ ConAt K C H p2 c2 ∧ c1.Ok ∧ c2.Ok ∧ c1.l = c2.l ∧ c1.a = c2.a ∧
  H q = some (.lst xs) ∧ DpAll K H xs ((allP c1 c2).map prD) ∧ (allP c1 c2).length ≤ 8 ∧ Dp K H pw (prD pr) ∧ pr ∈ allP c1 c2 ∧ ∀ (v : V) (d : PyData) (H' : Hp), Same H H' → (∀ (D : Addr) (ys : List V), H D = some (.lst ys) → Dl K (del H' D) v d) → rawRow d (jrow c1 c2 (allP c1 c2) pr) → Q v H'
theorem idx_before {t : Nat × Nat} : ∀ {P : List (Nat × Nat)} {m : Nat} {p : Nat × Nat}, m < P.idxOf t → P[m]? = some p → p ≠ t
  | [], _, _, h, _ => by simp at h
  | x :: P, m, p, h, e => by
    rw [List.idxOf_cons] at h
    by_cases hx : x = t
    · subst hx
      simp at h
    · have hb : (x == t) = false := by simpa using hx
      rw [hb] at h
      cases m with
      | zero =>
        have e' : x = p := Option.some.inj e
        rw [← e']
        exact hx
      | succ m => exact idx_before (P := P) (m := m) (by simpa using h) e
theorem idx_at {t : Nat × Nat} : ∀ {P : List (Nat × Nat)}, t ∈ P → P[P.idxOf t]? = some t := fun {P} h => by
  rw [List.getElem?_eq_getElem (List.idxOf_lt_length_of_mem h)]
  simp
theorem ok_pair_row (T : Txt P K mg c) : Has P w K mg base 3 "pair_row" ["first", "second", "pairs", "pair"] (sp_pair_row K (c id_Contract)) := by
  obtain ⟨f, fd, F, m, b⟩ := T.d_pair_row.ex
  obtain ⟨f_events_of, fd_events_of, G_events_of, m_events_of, k_events_of, b_events_of⟩ := ok_events_of (P := P) (w := w) (base := base) T
  obtain ⟨f_pair_target, fd_pair_target, G_pair_target, m_pair_target, k_pair_target, b_pair_target⟩ := ok_pair_target (P := P) (w := w) (base := base) T
  refine ⟨f, fd, F.ok sc_pair_row (fun vs H Q E h => ?_) (fun cdv A outer s H vs Q E hr h => ?_), m, F.kp, b⟩
  · obtain ⟨p1, p2, q0, c1, c2, xs, pw, pr, rfl, h1, h2, o1, o2, el, ea, hq, hx, l8, hp, hm, q⟩ := h
    rfl
  obtain ⟨p1, p2, q0, c1, c2, xs, pw, pr, rfl, h1, h2, o1, o2, el, ea, hq, hx, l8, hp, hm, q⟩ := h
  refine ⟨_, (pss_cons (ps_set (i := 4) sc_pair_row.nd rfl (.inl rfl) (pe_lst pa_nil))
      (pss_cons (ps_for PassesOwn.never rfl (pi_list (pe_call G_events_of (hr.mono (by decide)) (by rfl) m_events_of k_events_of b_events_of .nil pass0 (pa_cons (pv 0) pa_nil))) (pg_name (i := 5) sc_pair_row.nd rfl (.inl rfl))
      (pss_cons (ps_set (i := 6) sc_pair_row.nd rfl (.inl rfl) (pe_call G_pair_target (hr.mono (by decide)) (by rfl) m_pair_target k_pair_target b_pair_target .nil pass0 (pa_cons (pv 0) (pa_cons (pv 1) (pa_cons (pv 3) (pa_cons (pv 5) pa_nil))))))
        (pss_one (ps_expr (pe_bm PySem.F.plainAttrs_list PySem.F.slot_list_append PySem.F.type_list_append mt_append (pv 4) (pa_cons (pe_ifExp (pt_cmpR op_isN (pv 6) pe_non (nomark _)) pe_non (pe_bm PySem.F.plainAttrs_list PySem.F.slot_list_index PySem.F.type_list_index (mt_indexD (u65 hr)) (pv 2) (pa_cons (pv 6) pa_nil))) pa_nil))))))
      (pss_cons (ps_set (i := 7) sc_pair_row.nd rfl (.inl rfl) (pe_op op_add pe_int (pe_fld (pv 0) rfl)))
      (pss_cons (ps_asg (pe_lc (own := [("one", 10), ("other", 11)]) (by rfl) sc_pair_row.nd (RZ.pi_zipA (by rfl) T.z_zip (pa_cons (pe_slice sl_tup (pe_ix ix_tup (pe_fld (pv 0) rfl) (pe_ix ix_tup (pv 3) pe_int (fun _ _ => rfl)) (fun _ _ => rfl)) (po_some pe_int) po_none) (pa_cons (pe_slice sl_tup (pe_ix ix_tup (pe_fld (pv 1) rfl) (pe_ix ix_tup (pv 3) pe_int (fun _ _ => rfl)) (fun _ _ => rfl)) (po_some pe_int) po_none) pa_nil))) (blkOk_by (own := [("one", 10), ("other", 11)]) (N := ["first", "second", "pairs", "pair", "targets", "event", "target", "behind", "finish", "silence", "one", "other"]) (sc := defScope s_pair_row) (by decide +kernel)) (fun _ _ _ _ _ => (pg_tupK (K := K) (n := 2) rfl rfl (pgs_cons (pg_name (i := 10) sc_pair_row.nd rfl (.inl rfl)) (pgs_cons (pg_name (i := 11) sc_pair_row.nd rfl (.inl rfl)) pgs_nil)))) (fun _ _ _ _ _ => pts_nil) (fun _ _ _ _ _ => (pe_and (pv 10) (pe_one (pv 11))))) (pg_lst rfl (pgs_cons (pg_name (i := 8) sc_pair_row.nd rfl (.inl rfl)) (pgs_cons (pg_name (i := 9) sc_pair_row.nd rfl (.inl rfl)) pgs_nil))))
      (pss_one (ps_ret (pe_tup (pa_cons (pe_slice sl_list (pv 4) (po_some pe_int) (po_some (pv 7))) (pa_cons (pe_ix ix_list (pv 4) pe_int (fun _ _ => rfl)) (pa_cons (pe_slice sl_list (pv 4) (po_some (pv 7)) po_none) (pa_cons (pv 8) (pa_cons (pv 9) pa_nil)))))))))))), ?_⟩
  refine ⟨by show 0 ≤ sizeLine; decide, fun D nD => ?_⟩
  have s1 := same_new (o := .lst []) nD
  have hD1 : (upd H D (.lst [])) D = some (.lst []) := upd_same
  generalize upd H D (.lst []) = H1 at s1 hD1 ⊢
  refine ⟨_, rfl, p1, c1, rfl, h1.same s1, o1, fun pe H2 es s2 nE hE hes => ?_⟩
  have s12 := s1.trans s2
  have hD2 := s2 _ _ hD1
  have neD : pe ≠ D := fun z => by
    subst z
    rw [hD1] at nE
    cases nE
  have les : es.length = (evs c1.l c1.a).length := by
    have := dpa_len hes
    rwa [List.length_map] at this
  have hb := all_in o1 o2 pr hm
  have hl3 := o1.l3
  have ha4 := o1.a4
  refine ⟨pe, rfl, ⟨_, SqL.of hE⟩, for_list (K := K) (a := pe) (xs := es) (fun i σ H' => ∃ (y1 y2 : Option V), σ = [some (.ref p1), some (.ref p2), some (.ref q0), some pw, some (.ref D), y1, y2, none, none, none, none, none] ∧ Fr D H2 H' ∧ Same H H' ∧
    H' D = some (.lst (((evs c1.l c1.a).take i).map fun e => oV (pix c1 c2 (allP c1 c2) pr e)))) ⟨none, none, rfl, Fr.refl _ _, s12, hD2⟩ (fun i σ H' _ h' => ?_) ?_ ?_⟩
  · obtain ⟨_, _, _, f, _⟩ := h'
    exact f.seq neD (SqL.of hE)
  · rintro i y σ H3 hi ⟨y1, y2, rfl, f3, s3, hD3⟩
    obtain ⟨d, ed, hy⟩ := dpa_getx (dpa_frl hD2 f3 1 (ok_evs 0 _ _) hes) hi
    rw [List.getElem?_map] at ed
    cases ev1 : (evs c1.l c1.a)[i]? with
    | none => rw [ev1] at ed; cases ed
    | some ev =>
    rw [ev1] at ed
    cases ed
    have evi := List.mem_of_getElem? ev1
    have evm := evs_ok evi
    have hil : i < 8 := by
      have := (List.getElem?_eq_some_iff.mp hi).1
      rw [les, evs_len] at this
      omega
    have htk : ((evs c1.l c1.a).take (i + 1)).map (fun e => oV (pix c1 c2 (allP c1 c2) pr e)) = ((evs c1.l c1.a).take i).map (fun e => oV (pix c1 c2 (allP c1 c2) pr e)) ++ [oV (pix c1 c2 (allP c1 c2) pr ev)] := by
      rw [List.take_succ, ev1, List.map_append]
      rfl
    have hle : (((evs c1.l c1.a).take i).map fun e => oV (pix c1 c2 (allP c1 c2) pr e)).length ≤ 8 := by
      rw [List.length_map, List.length_take]
      omega
    refine ⟨_, rfl, _, rfl, _, rfl, _, rfl, ?_⟩
    refine ⟨p1, p2, c1, c2, pw, y, pr, ev, rfl, h1.same s3, h2.same s3, o1, o2, dp_same s3 hp, hb.1, hb.2, hy, evm, el ▸ ea ▸ evm, fun en => ?_, fun x z t H4 en s4 ht => ?_⟩
    · have hpx : pix c1 c2 (allP c1 c2) pr ev = none := by
        unfold pix
        rw [en]
        rfl
      rw [hpx] at htk
      refine ⟨_, rfl, .inl ⟨rfl, _, SqL.of hD3⟩, _, rfl, rfl, _, rfl, yes rfl ⟨D, _, _, rfl, rfl, hD3, small1000 (by omega), ?_⟩⟩
      refine ⟨_, _, rfl, f3.trans Fr.upd, ?_, ?_⟩
      · intro b o hb'
        rw [upd_ne (ne_of_none hb' nD)]
        exact s3 b o hb'
      · rw [htk]
        exact upd_same
    · have hmem := all_closed l8 hm evi en
      have hpx : pix c1 c2 (allP c1 c2) pr ev = some ((allP c1 c2).idxOf (x, z)) := by
        unfold pix
        rw [en]
        rfl
      rw [hpx] at htk
      have s34 := s3.trans s4
      have hD4 := s4 _ _ hD3
      refine ⟨_, rfl, .inl ⟨rfl, _, SqL.of hD4⟩, _, rfl, rfl, _, rfl, nope (fun z => nomatch z) ?_⟩
      refine ⟨_, rfl, .inl ⟨rfl, _, SqL.of (s34 _ _ hq)⟩, _, rfl, q0, .ref t, prD (x, z), (allP c1 c2).map prD, (allP c1 c2).idxOf (x, z), prD (x, z), rfl, rfl, .lst (SqL.of (s34 _ _ hq)) (dpa_same s34 hx), ht, shaped_prs _, shaped_pr _, map_at (idx_at hmem), by rw [pr_eqv]; exact decide_eq_true rfl, fun m z' hmj hz' => ?_, ?_⟩
      · rw [List.getElem?_map] at hz'
        cases e5 : (allP c1 c2)[m]? with
        | none => rw [e5] at hz'; cases hz'
        | some p5 =>
          rw [e5] at hz'
          cases hz'
          rw [pr_eqv]
          exact decide_eq_false (idx_before hmj e5)
      refine ⟨D, _, _, rfl, rfl, hD4, small1000 (by omega), ?_⟩
      refine ⟨_, _, rfl, (f3.trans (Fr.of s4)).trans Fr.upd, ?_, ?_⟩
      · intro b o hb'
        rw [upd_ne (ne_of_none hb' nD)]
        exact s34 b o hb'
      · rw [htk]
        exact upd_same
  rintro σ H3 ⟨y1, y2, rfl, f3, s3, hD3⟩
  rw [les, List.take_length] at hD3
  obtain ⟨dx1, sv1, hp1, hs1⟩ := id (h1.same s3)
  obtain ⟨dx2, sv2, hp2, hs2⟩ := id (h2.same s3)
  refine ⟨_, rfl, p1, _, dx1, _, _, rfl, hp1, T.cl_Contract, T.n_Contract_letters, cf_l, _, _, rfl, rfl, ?_⟩
  -- finish, silence
  obtain ⟨r1, hr1⟩ : ∃ r, c1.st[pr.1]? = some r := ⟨_, List.getElem?_eq_getElem hb.1⟩
  obtain ⟨r2, hr2⟩ : ∃ r, c2.st[pr.2]? = some r := ⟨_, List.getElem?_eq_getElem hb.2⟩
  obtain ⟨a1, xs1, b1, ys1, rfl, q1, i1, q2, l5, d5, _, _⟩ := row_parts hs1 hr1
  obtain ⟨a2, xs2, b2, ys2, rfl, q3, i2, q4, l6, d6, _, _⟩ := row_parts hs2 hr2
  obtain ⟨e1, ws1, x1, rfl, q5, i5, d7⟩ := dp_ix (dp_same s3 hp) (i := 0) rfl
  obtain ⟨e2, ws2, x2, ee, q6, i6, d8⟩ := dp_ix (dp_same s3 hp) (i := 1) rfl
  cases ee
  cases d7
  cases d8
  refine ⟨_, rfl, p1, _, dx1, _, _, rfl, hp1, T.cl_Contract, T.n_Contract_states, cf_s, _, rfl, e1, ws1, _, _, rfl, rfl, q5, i5, a1, xs1, _, _, rfl, rfl, q1, i1, 3, rfl, b1, ys1, rfl, q2, by rw [l5]; decide, fun pA nA => ?_⟩
  rw [show cutV ys1 (some 3) none = [.bl r1.fi, .bl r1.si] from (cut_from ys1 3).trans d5]
  have sA := same_new (o := .tup [.bl r1.fi, .bl r1.si]) nA
  refine ⟨_, rfl, p2, _, dx2, _, _, rfl, sA _ _ hp2, T.cl_Contract, T.n_Contract_states, cf_s, _, rfl, e1, ws2, _, _, rfl, rfl, seqT_same sA q6, i6, a2, xs2, _, _, rfl, rfl, seqT_same sA q3, i2, 3, rfl, b2, ys2, rfl, seqT_same sA q4, by rw [l6]; decide, fun pB nB => ?_⟩
  rw [show cutV ys2 (some 3) none = [.bl r2.fi, .bl r2.si] from (cut_from ys2 3).trans d6]
  have sB := sA.trans (same_new (o := .tup [.bl r2.fi, .bl r2.si]) nB)
  have tA : SqT K (upd (upd H3 pA (.tup [.bl r1.fi, .bl r1.si])) pB (.tup [.bl r2.fi, .bl r2.si])) pA [.bl r1.fi, .bl r1.si] := SqT.of ((upd_ne (ne_of_none upd_same nB)).trans upd_same)
  have tB : SqT K (upd (upd H3 pA (.tup [.bl r1.fi, .bl r1.si])) pB (.tup [.bl r2.fi, .bl r2.si])) pB [.bl r2.fi, .bl r2.si] := SqT.of upd_same
  generalize upd (upd H3 pA (.tup [.bl r1.fi, .bl r1.si])) pB (.tup [.bl r2.fi, .bl r2.si]) = H4 at sB tA tB ⊢
  refine ⟨pA, pB, _, _, rfl, .inr ⟨tA, tB, fun D2 nD2 => ?_⟩⟩
  refine lc_it (walk_zipT (n := 2) rfl rfl) (fun i H' => Same H4 H' ∧ H' D2 = some (.lst (([r1.fi && r2.fi, r1.si && r2.si].take i).map V.bl))) ⟨same_new nD2, upd_same⟩ (fun i H' _ h' => ⟨seqT_same h'.1 tA, seqT_same h'.1 tB⟩) ?_ ?_
  · rintro i x H5 H6 hi ⟨s5, hD5⟩ ⟨t, u, z, rfl, nt, rfl, k1, k2⟩
    have st := same_new (o := .tup [u, z]) nt
    refine ⟨t, [u, z], rfl, SqT.of upd_same, rfl, u, [z], rfl, z, [], rfl, rfl, ?_⟩
    have fin : ∀ (b : Bool), [r1.fi && r2.fi, r1.si && r2.si][i]? = some b → ∃ acc, (upd H5 t (.tup [u, z])) D2 = some (.lst acc) ∧ acc.length < sizeLine ∧ Same H4 (upd (upd H5 t (.tup [u, z])) D2 (.lst (acc ++ [.bl b]))) ∧
        (upd (upd H5 t (.tup [u, z])) D2 (.lst (acc ++ [.bl b]))) D2 = some (.lst (([r1.fi && r2.fi, r1.si && r2.si].take (i + 1)).map V.bl)) := fun b hb' => by
      refine ⟨_, st _ _ hD5, ?_, same_mut (s5.trans st) nD2, ?_⟩
      · rw [List.length_map, List.length_take]
        exact small1000 (by omega)
      · rw [upd_same, List.take_succ, hb', List.map_append]
        rfl
    obtain _ | _ | i := i
    · cases k1
      cases k2
      refine ⟨rfl, _, rfl, _, rfl, ?_⟩
      cases h1 : r1.fi with
      | true =>
        rw [h1] at fin
        exact iteT ⟨_, rfl, fin _ rfl⟩
      | false =>
        rw [h1] at fin
        exact iteF (fin _ rfl)
    · cases k1
      cases k2
      refine ⟨rfl, _, rfl, _, rfl, ?_⟩
      cases h1 : r1.si with
      | true =>
        rw [h1] at fin
        exact iteT ⟨_, rfl, fin _ rfl⟩
      | false =>
        rw [h1] at fin
        exact iteF (fin _ rfl)
    · omega
  rintro H5 ⟨s5, hD5⟩
  refine ⟨D2, _, rfl, SqL.of hD5, rfl, _, _, rfl, _, _, rfl, rfl, ?_⟩
  have hT := s5 _ _ (sB _ _ hD3)
  have hcut : ((1 : Int) + (c1.l : Int)) = ((1 + c1.l : Nat) : Int) := by omega
  have hlen : ((evs c1.l c1.a).map fun e => oV (pix c1 c2 (allP c1 c2) pr e)).length = 1 + c1.l + c1.a := by rw [List.length_map, evs_len]
  refine ⟨_, rfl, 1, rfl, _, rfl, _, rfl, D, _, rfl, SqL.of hT, fun pC nC => ?_⟩
  rw [hcut, show cutV ((evs c1.l c1.a).map fun e => oV (pix c1 c2 (allP c1 c2) pr e)) (some 1) (some ((1 + c1.l : Nat) : Int)) = _ from cut_mid _ 1 (1 + c1.l) (by omega) (by omega), evs_reads]
  have sC := same_new (o := .lst ((List.range c1.l).map fun k => oV (pix c1 c2 (allP c1 c2) pr (.read k)))) nC
  have h0 : atI ((evs c1.l c1.a).map fun e => oV (pix c1 c2 (allP c1 c2) pr e)) 0 = some (oV (pix c1 c2 (allP c1 c2) pr .over)) := atI_nat (j := 0) (by rw [evs_map]; rfl)
  refine ⟨_, rfl, D, _, 0, _, rfl, rfl, SqL.of (sC _ _ hT), h0, ?_⟩
  refine ⟨_, rfl, _, rfl, _, rfl, D, _, rfl, SqL.of (sC _ _ hT), fun pE nE' => ?_⟩
  rw [hcut, cut_from, evs_writes]
  have sE := sC.trans (same_new (o := .lst ((List.range c1.a).map fun k => oV (pix c1 c2 (allP c1 c2) pr (.write k)))) nE')
  refine ⟨_, rfl, _, rfl, by show 5 ≤ sizeLine; decide, fun tp ntp => ?_⟩
  have s6 := same_new (o := .tup [.ref pC, oV (pix c1 c2 (allP c1 c2) pr .over), .ref pE, .bl (r1.fi && r2.fi), .bl (r1.si && r2.si)]) ntp
  have hC6 := s6 _ _ (same_new (o := .lst ((List.range c1.a).map fun k => oV (pix c1 c2 (allP c1 c2) pr (.write k)))) nE' _ _ (upd_same (H := H5) (a := pC) (o := .lst ((List.range c1.l).map fun k => oV (pix c1 c2 (allP c1 c2) pr (.read k))))))
  have hE6 := s6 _ _ (upd_same (H := upd H5 pC (.lst ((List.range c1.l).map fun k => oV (pix c1 c2 (allP c1 c2) pr (.read k))))) (a := pE) (o := .lst ((List.range c1.a).map fun k => oV (pix c1 c2 (allP c1 c2) pr (.write k)))))
  have sAll := (((s3.trans sB).trans s5).trans sE).trans s6
  have sb1 := (s3.trans sB).trans s5
  have sb2 := sb1.trans sC
  have sb0 := sb1.trans sE
  have hrd : (jrow c1 c2 (allP c1 c2) pr).rd.map oV = (List.range c1.l).map fun k => oV (pix c1 c2 (allP c1 c2) pr (.read k)) := by
    show ((List.range c1.l).map _).map oV = _
    rw [List.map_map]
    rfl
  have hwr : (jrow c1 c2 (allP c1 c2) pr).wr.map oV = (List.range c1.a).map fun k => oV (pix c1 c2 (allP c1 c2) pr (.write k)) := by
    show ((List.range c1.a).map _).map oV = _
    rw [List.map_map]
    rfl
  have hfi : (jrow c1 c2 (allP c1 c2) pr).fi = (r1.fi && r2.fi) := by
    show ((flg c1 pr.1).1 && (flg c2 pr.2).1) = _
    rw [flg_at hr1, flg_at hr2]
  have hsi : (jrow c1 c2 (allP c1 c2) pr).si = (r1.si && r2.si) := by
    show ((flg c1 pr.1).2 && (flg c2 pr.2).2) = _
    rw [flg_at hr1, flg_at hr2]
  refine q _ (.tuple [.list ((jrow c1 c2 (allP c1 c2) pr).rd.map oD), oD (jrow c1 c2 (allP c1 c2) pr).ov, .list ((jrow c1 c2 (allP c1 c2) pr).wr.map oD), .bool (r1.fi && r2.fi), .bool (r1.si && r2.si)]) _ sAll
    (fun D0 ys hD0 => .tup (SqT.of ((del_ne (ne_of_none' hD0 sb0 ntp)).trans upd_same)) (.cons (.lst ((del_ne (ne_of_none' hD0 sb1 nC)).trans hC6) (by rw [← hrd]; exact dla_oVs _)) (.cons (dl_oo _) (.cons (.lst ((del_ne (ne_of_none' hD0 sb2 nE')).trans hE6) (by rw [← hwr]; exact dla_oVs _)) (.cons (.bl _) (.cons (.bl _) .nil))))))
    ⟨_, _, by rw [hfi, hsi], .inl rfl, .inl rfl⟩


end
end Pf

namespace Pf
open PySem PySem.Spec PyProof.Rows L2
section
variable {P : Program} {w : World} {K : PySem.W.Frag} {mg : Str → Option Value} {base : Heap}
variable {c : Nat → Addr}
theorem del_upd {H : Hp} {D : Addr} {o : HO} : del (upd H D o) D = del H D := by
  funext b
  by_cases h : b = D
  · subst h
    rw [del_same, del_same]
  · rw [del_ne h, del_ne h, upd_ne h]
theorem del_mono {H H' : Hp} {D : Addr} (s : Same H H') : Same (del H D) (del H' D) := fun b o h => by
  by_cases e : b = D
  · subst e
    rw [del_same] at h
    cases h
  · rw [del_ne e] at h ⊢
    exact s _ _ h
theorem del_sub {H : Hp} {D : Addr} : Same (del H D) H := fun b o h => by
  by_cases e : b = D
  · subst e
    rw [del_same] at h
    cases h
  · rwa [del_ne e] at h
theorem dla_app {K : PySem.W.Frag} {H : Hp} {v : V} {d : PyData} : ∀ {xs : List V} {ds : List PyData}, DlAll K H xs ds → Dl K H v d → DlAll K H (xs ++ [v]) (ds ++ [d])
  | _, _, .nil, h => .cons h .nil
  | _, _, .cons k l, h => .cons k (dla_app l h)
def sp_both (K : PySem.W.Frag) (C M L : Addr) : Sp := fun vs H Q E => ∃ (p1 p2 : Addr) (c1 c2 : Cn), vs = [.ref p1, .ref p2] ∧ ConAt K C H p1 c1 ∧ ConAt K C H p2 c2 ∧ c1.Ok ∧ c2.Ok ∧
  (¬ (c1.l = c2.l ∧ c1.a = c2.a) → E (.ref M) none H) ∧
  (c1.l = c2.l → c1.a = c2.a → (allP c1 c2).length ≤ 8 → ∀ (p : Addr) (H' : Hp), Same H H' → H p = none → ConAt K C H' p (joinC c1 c2) → Q (.ref p) H') ∧
  (c1.l = c2.l → c1.a = c2.a → 8 < (allP c1 c2).length → ∀ (d : Addr) (H' : Hp), Same H H' → H d = none → H' d = some (.xd [("what", .str "states")]) → E (.ref L) (some d) H')
theorem ok_both (T : Txt P K mg c) : HasX P w K mg base 8 "both" ["first", "second"] (sp_both K (c id_Contract) (c id_Mismatch) (c id_TooLarge)) := by
  obtain ⟨f, fd, F, m, b⟩ := T.d_both.ex
  obtain ⟨f_reached_pairs, fd_reached_pairs, G_reached_pairs, m_reached_pairs, k_reached_pairs, b_reached_pairs⟩ := ok_reached_pairs (P := P) (w := w) (base := base) T
  obtain ⟨f_Contract_init, fd_Contract_init, G_Contract_init, M_Contract_init, b_Contract_init⟩ := ok_Contract_init (P := P) (w := w) (base := base) T
  obtain ⟨f_pair_row, fd_pair_row, G_pair_row, m_pair_row, k_pair_row, b_pair_row⟩ := ok_pair_row (P := P) (w := w) (base := base) T
  refine ⟨f, fd, F.okX sc_both (fun vs H Q E h => ?_) (fun cdv A outer s H vs Q E hr h => ?_), m, F.kp, b⟩
  · obtain ⟨p1, p2, c1, c2, rfl, h1, h2, o1, o2, qm, qs, qe⟩ := h
    rfl
  obtain ⟨p1, p2, c1, c2, rfl, h1, h2, o1, o2, qm, qs, qe⟩ := h
  refine ⟨_, (pss_cons (ps_if (PW.pt (pw_or (pt_cmpR op_ne (pe_fld (pv 0) rfl) (pe_fld (pv 1) rfl) (nomark _)) (pw_or1 (pt_cmpR op_ne (pe_fld (pv 0) rfl) (pe_fld (pv 1) rfl) (nomark _)))))
      (pss_one (ps_raise rfl (takes_of rfl rfl rfl rfl) (pmk_own PySem.F.excBase_ValueError T.x_Mismatch T.g_Mismatch (T.kp _ (by decide)) (raises_own (T.er _ (by decide)).sb (T.ty _ (by decide))) (by rfl))))
      pss_nil)
      (pss_cons (ps_set (i := 2) sc_both.nd rfl (.inr rfl) (pe_callS G_reached_pairs (hr.mono (by decide)) (by rfl) m_reached_pairs k_reached_pairs b_reached_pairs (fun σ => passAt (takes_of rfl rfl rfl rfl) σ) (pa_cons (pv 0) (pa_cons (pv 1) pa_nil))))
      (pss_one (ps_ret (pe_make M_Contract_init G_Contract_init (hr.mono (by decide)) (by rfl) T.g_Contract b_Contract_init .nil pass0 (pa_cons (pe_fld (pv 0) rfl) (pa_cons (pe_fld (pv 0) rfl) (pa_cons (pe_lc (own := [("pair", 3)]) (g := gName 3) (by rfl) sc_both.nd (pi_list (pv 2)) (blkOk_by (own := [("pair", 3)]) (N := ["first", "second", "pairs", "pair"]) (sc := defScope s_both) (by decide +kernel)) (fun _ _ _ _ _ => pg_name (i := 3) sc_both.nd rfl (Or.inl rfl)) (fun _ _ _ _ _ => pts_nil) (fun _ _ _ _ _ => (pe_call G_pair_row (hr.mono (by decide)) (by rfl) m_pair_row k_pair_row b_pair_row .nil pass0 (pa_cons (pv 0) (pa_cons (pv 1) (pa_cons (pv 2) (pa_cons (pv 3) pa_nil))))))) pa_nil)))))))), ?_⟩
  obtain ⟨dx1, sv1, hp1, hs1⟩ := id h1
  obtain ⟨dx2, sv2, hp2, hs2⟩ := id h2
  refine ⟨_, rfl, p1, _, dx1, _, _, rfl, hp1, T.cl_Contract, T.n_Contract_letters, cf_l, _, rfl, p2, _, dx2, _, _, rfl, hp2, T.cl_Contract, T.n_Contract_letters, cf_l, rfl, _, rfl, ?_⟩
  by_cases el : c1.l = c2.l
  case neg => exact nnope (fun e => el (by have := V.int.inj e; omega)) (qm fun z => el z.1)
  refine nyes (by rw [el]) ?_
  refine ⟨_, rfl, p1, _, dx1, _, _, rfl, hp1, T.cl_Contract, T.n_Contract_answers, cf_a, _, rfl, p2, _, dx2, _, _, rfl, hp2, T.cl_Contract, T.n_Contract_answers, cf_a, rfl, _, rfl, ?_⟩
  by_cases ea : c1.a = c2.a
  case neg => exact nnope (fun e => ea (by have := V.int.inj e; omega)) (qm fun z => ea z.2)
  refine nyes (by rw [ea]) ?_
  refine ⟨_, rfl, _, rfl, p1, p2, c1, c2, rfl, h1, h2, o1, o2, el, ea, fun l8 pq H1 xs s1 nq hq hx => ?_, qe el ea⟩
  have hp11 := s1 _ _ hp1
  refine ⟨_, rfl, p1, _, dx1, _, _, rfl, hp11, T.cl_Contract, T.n_Contract_letters, cf_l, _, rfl, p1, _, dx1, _, _, rfl, hp11, T.cl_Contract, T.n_Contract_answers, cf_a, ?_⟩
  have lx : xs.length = (allP c1 c2).length := by
    have := dpa_len hx
    rwa [List.length_map] at this
  refine ⟨_, rfl, pq, rfl, ⟨_, SqL.of hq⟩, fun D nD => lc_it walk_list (fun i H' => Same H1 H' ∧ ∃ ws ds, H' D = some (.lst ws) ∧ DlAll K (del H' D) ws ds ∧ ds.length = i ∧ ∀ (j : Nat) (d : PyData) (pr : Nat × Nat), ds[j]? = some d → (allP c1 c2)[j]? = some pr → rawRow d (jrow c1 c2 (allP c1 c2) pr))
    ⟨same_new nD, [], [], upd_same, .nil, rfl, fun j d pr h => by simp at h⟩ (fun i H' _ h' => h'.1.seq (SqL.of hq)) ?_ ?_⟩
  · rintro i x H2 H3 hi ⟨s2, ws, ds, hD, hw, ld, hr0⟩ ⟨rfl, hxi⟩
    obtain ⟨d, ed, hd⟩ := dpa_getx hx hxi
    rw [List.getElem?_map] at ed
    cases ep : (allP c1 c2)[i]? with
    | none => rw [ep] at ed; cases ed
    | some pr =>
    rw [ep] at ed
    cases ed
    have s12 := s1.trans s2
    refine ⟨rfl, ?_⟩
    refine ⟨_, rfl, _, rfl, _, rfl, _, rfl, p1, p2, pq, c1, c2, xs, x, pr, rfl, h1.same s12, h2.same s12, o1, o2, el, ea, s2 _ _ hq, dpa_same s2 hx, l8, dp_same s2 hd, List.mem_of_getElem? ep, fun v d' H4 s4 hv hrr => ?_⟩
    refine ⟨ws, s4 _ _ hD, ?_, same_mut (s2.trans s4) nD, ws ++ [v], ds ++ [d'], upd_same, ?_, ?_, ?_⟩
    · have := dla_len hw
      exact small1000 (by omega)
    · rw [del_upd]
      exact dla_app (dla_same (del_mono s4) hw) (hv D ws hD)
    · rw [List.length_append, ld]
      rfl
    · intro j d0 pr0 e1 e2
      by_cases hj : j < ds.length
      · rw [List.getElem?_append_left hj] at e1
        exact hr0 j d0 pr0 e1 e2
      · rw [List.getElem?_append_right (by omega)] at e1
        have hj2 : j = i := by
          have := (List.getElem?_eq_some_iff.mp e1).1
          have h1 : [d'].length = 1 := rfl
          omega
        subst hj2
        rw [ld, Nat.sub_self] at e1
        rw [ep] at e2
        cases e2
        have e3 := Option.some.inj e1
        subst e3
        exact hrr
  rintro H2 ⟨s2, ws, ds, hD, hw, ld, hr0⟩
  intro x dx nx ndx nex
  have s12 := s1.trans s2
  have s3 : Same H2 (upd (upd H2 dx (.own x)) x (.ins (c id_Contract) dx [])) := fun b o e => by
    rw [upd_ne (ne_of_none e nx), upd_ne (ne_of_none e ndx)]
    exact e
  refine ⟨x, dx, joinC c1 c2, .ref D, rfl, upd_same, join_ok o1 o2 l8, ⟨.list ds, .lst (s3 _ _ hD) (dla_same (del_sub.trans s3) hw), ds, .inl rfl, ?_, ?_⟩, fun H' kp hc => ⟨rfl, ?_⟩⟩
  · show ds.length = ((allP c1 c2).map _).length
    rw [List.length_map, ld, lx]
  · intro i d' r e1 e2
    have e2' : ((allP c1 c2).map (jrow c1 c2 (allP c1 c2)))[i]? = some r := e2
    rw [List.getElem?_map] at e2'
    cases e3 : (allP c1 c2)[i]? with
    | none => rw [e3] at e2'; cases e2'
    | some pr =>
      rw [e3] at e2'
      cases e2'
      exact hr0 i d' pr e1 e3
  · refine qs el ea l8 x H' (fun b o e => ?_) (s12.free nx) hc
    have e2 := s12 _ _ e
    exact kp b o (s3 _ _ e2) (ne_of_none e2 nx)


end
end Pf

namespace Pf
open PySem PySem.Spec PyProof.Rows L2
section
variable {P : Program} {w : World} {K : PySem.W.Frag} {mg : Str → Option Value} {base : Heap}
variable {c : Nat → Addr}
def sp__law_pairs (K : PySem.W.Frag) : Sp := fun vs H Q _ => ∃ (s1 s2 : V) (pe : Addr) (es : List V) (c1 c2 : Cn), vs = [s1, s2, .ref pe] ∧ Dp K H s1 (stD c1.st) ∧ Dp K H s2 (stD c2.st) ∧ c1.Ok ∧ c2.Ok ∧ c1.l = c2.l ∧ c1.a = c2.a ∧ H pe = some (.lst es) ∧ DpAll K H es ((evs c1.l c1.a).map Ev.d) ∧
  ∀ (p : Addr) (H' : Hp) (xs : List V), Same H H' → H p = none → H' p = some (.lst xs) → DpAll K H' xs ((allP c1 c2).map prD) → Q (.ref p) H'
theorem ok__law_pairs (T : Txt P K mg c) : Has P w K mg base 2 "_law_pairs" ["first", "second", "events"] (sp__law_pairs K) := by
  obtain ⟨f, fd, F, m, b⟩ := T.d__law_pairs.ex
  obtain ⟨f__law_follow, fd__law_follow, G__law_follow, m__law_follow, k__law_follow, b__law_follow⟩ := ok__law_follow (P := P) (w := w) (base := base) T
  refine ⟨f, fd, F.ok sc__law_pairs (fun vs H Q E h => ?_) (fun cdv A outer s H vs Q E hr h => ?_), m, F.kp, b⟩
  · obtain ⟨s1, s2, pe, es, c1, c2, rfl, h1, h2, o1, o2, el, ea, hE, hes, q⟩ := h
    rfl
  obtain ⟨s1, s2, pe, es, c1, c2, rfl, h1, h2, o1, o2, el, ea, hE, hes, q⟩ := h
  refine ⟨_, (pss_cons (ps_set (i := 3) sc__law_pairs.nd rfl (.inl rfl) (pe_lst (pa_cons (pe_tup (pa_cons pe_int (pa_cons pe_int pa_nil))) pa_nil)))
      (pss_cons (ps_for PassesOwn.never rfl (pi_range1 (by rfl) T.z_range (pa_cons pe_int pa_nil)) (pg_name (i := 4) sc__law_pairs.nd rfl (.inl rfl))
      (pss_one (ps_if (pt_cmpR op_lt (pv 4) (pe_callB call_len_seq (by rfl) T.z_len (by decide +kernel) (pa_cons (pv 3) pa_nil)) (nomark _))
        (pss_one (ps_for PassesOwn.never rfl (pi_list (pv 2)) (pg_name (i := 5) sc__law_pairs.nd rfl (.inl rfl))
          (pss_cons (ps_set (i := 6) sc__law_pairs.nd rfl (.inl rfl) (pe_call G__law_follow (hr.mono (by decide)) (by rfl) m__law_follow k__law_follow b__law_follow .nil pass0 (pa_cons (pv 0) (pa_cons (pe_ix ix_tup (pe_ix ix_list (pv 3) (pv 4) (fun _ _ => rfl)) pe_int (fun _ _ => rfl)) (pa_cons (pv 5) pa_nil)))))
            (pss_cons (ps_set (i := 7) sc__law_pairs.nd rfl (.inl rfl) (pe_call G__law_follow (hr.mono (by decide)) (by rfl) m__law_follow k__law_follow b__law_follow .nil pass0 (pa_cons (pv 1) (pa_cons (pe_ix ix_tup (pe_ix ix_list (pv 3) (pv 4) (fun _ _ => rfl)) pe_int (fun _ _ => rfl)) (pa_cons (pv 5) pa_nil)))))
            (pss_one (ps_if (PW.pt (pw_and (pt_cmpR op_notN (pv 6) pe_non (nomark _)) (pw_and (pt_cmpR op_notN (pv 7) pe_non (nomark _)) (pw_and1 (pt_cmpR (op_notInD (u65 hr)) (pe_tup (pa_cons (pv 6) (pa_cons (pv 7) pa_nil))) (pv 3) (by rfl))))))
            (pss_one (ps_expr (pe_bm PySem.F.plainAttrs_list PySem.F.slot_list_append PySem.F.type_list_append mt_append (pv 3) (pa_cons (pe_tup (pa_cons (pv 6) (pa_cons (pv 7) pa_nil))) pa_nil))))
            pss_nil))))))
        pss_nil)))
      (pss_one (ps_ret (pv 3))))), ?_⟩
  refine ⟨by show 2 ≤ sizeLine; decide, fun t0 n0 => ⟨by show 1 ≤ sizeLine; decide, fun D nD => ?_⟩⟩
  have sD := (same_new (o := .tup [.int 0, .int 0]) n0).trans (same_new (o := .lst [.ref t0]) nD)
  have hD0 : (upd (upd H t0 (.tup [.int 0, .int 0])) D (.lst [.ref t0])) D = some (.lst [.ref t0]) := upd_same
  have hx0 : DpAll K (upd (upd H t0 (.tup [.int 0, .int 0])) D (.lst [.ref t0])) [.ref t0] ((walkP c1 c2 0).map prD) := .cons (.tup (SqT.of ((upd_ne (ne_of_none upd_same nD)).trans upd_same)) (.cons (.int _) (.cons (.int _) .nil))) .nil
  have nDH : H D = none := (same_new n0).free nD
  generalize upd (upd H t0 (.tup [.int 0, .int 0])) D (.lst [.ref t0]) = H0 at sD hD0 hx0 ⊢
  refine ⟨64, rfl, by decide, by decide, for_range (n := 64) (fun i σ H' => ∃ (xs : List V) (y1 y2 y3 y4 : Option V), σ = [some s1, some s2, some (.ref pe), some (.ref D), y1, y2, y3, y4] ∧ Same H H' ∧ H' D = some (.lst xs) ∧ DpAll K H' xs ((walkP c1 c2 i).map prD)) ⟨_, none, none, none, none, rfl, sD, hD0, hx0⟩ ?_ ?_⟩
  · rintro i σ H1 hi ⟨xs, y1, y2, y3, y4, rfl, s3, hD, hx⟩
    have lx : xs.length = (walkP c1 c2 i).length := by
      have := dpa_len hx
      rwa [List.length_map] at this
    have gi : (0 : Int) + (i : Int) = (i : Int) := Int.zero_add _
    rw [gi]
    refine ⟨_, rfl, _, rfl, D, xs, rfl, .inl (SqL.of hD), _, _, rfl, rfl, _, rfl, ite2 (fun e => ?_) (fun e => ?_)⟩
    · have e1 := dec_t e
      have hnl : i < (walkP c1 c2 i).length := by omega
      have hpr : (walkP c1 c2 i)[i]? = some (walkP c1 c2 i)[i] := List.getElem?_eq_getElem hnl
      have hw : walkP c1 c2 (i + 1) = rowE c1 c2 (walkP c1 c2 i) (walkP c1 c2 i)[i] (evs c1.l c1.a) := by
        show nxP c1 c2 (walkP c1 c2 i) i = _
        unfold nxP
        rw [hpr]
      have hb := walk_in o1 o2 i _ (List.getElem_mem hnl)
      have hlP := walk_len (c2 := c2) o1 i
      have les : es.length = (evs c1.l c1.a).length := by
        have := dpa_len hes
        rwa [List.length_map] at this
      rw [hw]
      generalize walkP c1 c2 i = P at *
      generalize P[i] = pr at *
      refine ⟨_, rfl, pe, rfl, ⟨_, SqL.of (s3 _ _ hE)⟩, for_list (K := K) (a := pe) (xs := es) (fun j σ H' => ∃ (xs' : List V) (y2 y3 y4 : Option V), σ = [some s1, some s2, some (.ref pe), some (.ref D), some (.int (i : Int)), y2, y3, y4] ∧ Same H H' ∧ H' D = some (.lst xs') ∧
        DpAll K H' xs' ((rowE c1 c2 P pr ((evs c1.l c1.a).take j)).map prD)) ⟨xs, y2, y3, y4, rfl, s3, hD, hx⟩ (fun j σ H' _ h' => ?_) ?_ ?_⟩
      · obtain ⟨_, _, _, _, _, sh, _⟩ := h'
        exact SqL.of (sh _ _ hE)
      · rintro j y σ H3 hj ⟨xs3, z2, z3, z4, rfl, s5, hD3, hx3⟩
        obtain ⟨d, ed, hy⟩ := dpa_getx (dpa_same s5 hes) hj
        rw [List.getElem?_map] at ed
        cases ev1 : (evs c1.l c1.a)[j]? with
        | none => rw [ev1] at ed; cases ed
        | some ev =>
        rw [ev1] at ed
        cases ed
        have evm := evs_ok (List.mem_of_getElem? ev1)
        have hj8 : j < 8 := by
          have h8 := (List.getElem?_eq_some_iff.mp ev1).1
          rw [evs_len] at h8
          have := o1.l3
          have := o1.a4
          omega
        have hstep : rowE c1 c2 P pr ((evs c1.l c1.a).take (j + 1)) = stepE c1 c2 pr (rowE c1 c2 P pr ((evs c1.l c1.a).take j)) ev := by
          rw [show (evs c1.l c1.a).take (j + 1) = (evs c1.l c1.a).take j ++ [ev] by rw [List.take_succ, ev1]; rfl, rowE_cat]
          rfl
        have hpn : (rowE c1 c2 P pr ((evs c1.l c1.a).take j))[i]? = some pr := pre_at (rowE_pre c1 c2 pr _ P) hpr
        have hlR := rowE_len c1 c2 pr ((evs c1.l c1.a).take j) P
        rw [List.length_take] at hlR
        rw [hstep]
        generalize rowE c1 c2 P pr ((evs c1.l c1.a).take j) = R at *
        have lx3 : xs3.length = R.length := by
          have := dpa_len hx3
          rwa [List.length_map] at this
        obtain ⟨v, ev3, hv⟩ := dpa_get hx3 (i := i) (d := prD pr) (by rw [List.getElem?_map, hpn]; rfl)
        obtain ⟨a1, ys1, x1, rfl, q1, i1, d1⟩ := dp_ix hv (i := 0) rfl
        obtain ⟨a2, ys2, x2, ee, q2, i2, d2⟩ := dp_ix hv (i := 1) rfl
        cases ee
        cases d1
        cases d2
        refine ⟨_, rfl, _, rfl, _, rfl, D, xs3, _, _, rfl, rfl, SqL.of hD3, atI_nat ev3, a1, ys1, _, _, rfl, rfl, q1, i1, _, rfl, c1, s1, pr.1, ev, y, rfl, dp_same s5 h1, o1, hb.1, hy, evm, ?_⟩
        refine ⟨_, rfl, _, rfl, _, rfl, D, xs3, _, _, rfl, rfl, SqL.of hD3, atI_nat ev3, a1, ys2, _, _, rfl, rfl, q2, i2, _, rfl, c2, s2, pr.2, ev, y, rfl, dp_same s5 h2, o2, hb.2, hy, el ▸ ea ▸ evm, ?_⟩
        cases t1 : tgt c1.st pr.1 ev with
        | none =>
          have hst : stepE c1 c2 pr R ev = R := by
            unfold stepE pt2
            rw [t1]
          rw [hst]
          exact ⟨_, rfl, rfl, _, rfl, nyes rfl ⟨xs3, _, _, _, rfl, s5, hD3, hx3⟩⟩
        | some x =>
        refine ⟨_, rfl, rfl, _, rfl, nnope (fun z => nomatch z) ?_⟩
        cases t2 : tgt c2.st pr.2 ev with
        | none =>
          have hst : stepE c1 c2 pr R ev = R := by
            unfold stepE pt2
            rw [t1, t2]
          rw [hst]
          exact ⟨_, rfl, rfl, _, rfl, nyes rfl ⟨xs3, _, _, _, rfl, s5, hD3, hx3⟩⟩
        | some z =>
        refine ⟨_, rfl, rfl, _, rfl, nnope (fun z => nomatch z) ?_⟩
        refine ⟨_, rfl, _, rfl, by show 2 ≤ sizeLine; decide, fun t nt => ?_⟩
        have st := same_new (o := .tup [.int x, .int z]) nt
        have ht : Dp K (upd H3 t (.tup [.int x, .int z])) (.ref t) (prD (x, z)) := .tup (SqT.of upd_same) (.cons (.int _) (.cons (.int _) .nil))
        refine ⟨_, rfl, prD (x, z), R.map prD, ht, .lst (SqL.of (st _ _ hD3)) (dpa_same st hx3), shaped_pr _, shaped_prs _, _, rfl, ?_⟩
        rw [any_pr]
        by_cases hm : (x, z) ∈ R
        · have hst : stepE c1 c2 pr R ev = R := by
            unfold stepE pt2
            rw [t1, t2]
            exact if_pos hm
          rw [hst]
          exact nyes hm ⟨xs3, _, _, _, rfl, s5.trans st, st _ _ hD3, dpa_same st hx3⟩
        · have hst : stepE c1 c2 pr R ev = R ++ [(x, z)] := by
            unfold stepE pt2
            rw [t1, t2]
            exact if_neg hm
          rw [hst]
          refine nnope hm ?_
          refine ⟨_, rfl, .inl ⟨rfl, _, SqL.of (st _ _ hD3)⟩, _, rfl, _, rfl, by show 2 ≤ sizeLine; decide, fun t5 nt5 => ?_⟩
          have st5 := st.trans (same_new (o := .tup [.int x, .int z]) nt5)
          have ht5 : Dp K (upd (upd H3 t (.tup [.int x, .int z])) t5 (.tup [.int x, .int z])) (.ref t5) (prD (x, z)) := .tup (SqT.of upd_same) (.cons (.int _) (.cons (.int _) .nil))
          refine ⟨D, xs3, _, rfl, rfl, st5 _ _ hD3, small1000 (by omega), ?_⟩
          refine ⟨_, _, _, _, rfl, ?_, upd_same, ?_⟩
          · intro b o hb'
            rw [upd_ne (ne_of_none hb' nDH)]
            exact (s5.trans st5) b o hb'
          · rw [List.map_append]
            exact push_dp 1 (st5 _ _ hD3) (dpa_same st5 hx3) (ok_prs 0 _) ht5 (ok_pr 0 _)
      · rintro σ H3 ⟨xs3, z2, z3, z4, rfl, s5, hD3, hx3⟩
        rw [les, List.take_length] at hx3
        exact ⟨xs3, _, z2, z3, z4, rfl, s5, hD3, hx3⟩
    · have e1 := dec_f e
      have hst : walkP c1 c2 (i + 1) = walkP c1 c2 i := walk_stop (by omega) (i + 1) (Nat.le_succ i)
      rw [hst]
      exact ⟨xs, _, y2, y3, y4, rfl, s3, hD, hx⟩
  · rintro σ H1 ⟨xs, y1, y2, y3, y4, rfl, s3, hD, hx⟩
    rw [← all_is] at hx
    exact ⟨_, rfl, q D H1 xs s3 nDH hD hx⟩


end
end Pf

namespace Pf
open PySem PySem.Spec PyProof.Rows L2
section
variable {P : Program} {w : World} {K : PySem.W.Frag} {mg : Str → Option Value} {base : Heap}
variable {c : Nat → Addr}
theorem ok_two (n : Nat) (x y : Int) : tupOk (n + 1) (.tuple [.int x, .int y]) := by
  have h1 : ∀ i : Int, tupOk n (.int i) := fun x => by cases n <;> simp [tupOk]
  refine ⟨by show 2 ≤ 100000; decide, fun d hd => ?_⟩
  rcases List.mem_cons.mp hd with rfl | hd
  · exact h1 _
  · rcases List.mem_singleton.mp hd with rfl
    exact h1 _
def sp__law_right (K : PySem.W.Frag) (C : Addr) : Sp := fun vs H Q _ => ∃ (p : Addr) (v : V) (cn : Cn), vs = [.ref p, v] ∧ ConAt K C H p cn ∧ Dp K H v cn.d ∧ cn.Ok ∧ ∀ H', Same H H' → Q (.bl true) H'
theorem ok__law_right (T : Txt P K mg c) : Has P w K mg base 7 "_law_right" ["contract", "parts"] (sp__law_right K (c id_Contract)) := by
  obtain ⟨f, fd, F, m, b⟩ := T.d__law_right.ex
  obtain ⟨f__law_same, fd__law_same, G__law_same, m__law_same, k__law_same, b__law_same⟩ := ok__law_same (P := P) (w := w) (base := base) T 3
  obtain ⟨f__law_events, fd__law_events, G__law_events, m__law_events, k__law_events, b__law_events⟩ := ok__law_events (P := P) (w := w) (base := base) T
  obtain ⟨f__law_follow, fd__law_follow, G__law_follow, m__law_follow, k__law_follow, b__law_follow⟩ := ok__law_follow (P := P) (w := w) (base := base) T
  obtain ⟨f_Contract_follow, fd_Contract_follow, G_Contract_follow, M_Contract_follow, b_Contract_follow⟩ := ok_Contract_follow (P := P) (w := w) (base := base) T
  refine ⟨f, fd, F.ok sc__law_right (fun vs H Q E h => ?_) (fun cdv A outer s H vs Q E hr h => ?_), m, F.kp, b⟩
  · obtain ⟨p, v, cn, rfl, hc, hv, ho, q⟩ := h
    rfl
  obtain ⟨p, v, cn, rfl, hc, hv, ho, q⟩ := h
  refine ⟨_, (pss_cons (ps_if (PW.pt (pw_or (pt_not (pt_val (pe_callB (C8.call_isC T.ins_Contract) (by rfl) T.z_isinstance (by decide +kernel) (pa_cons (pv 0) (pa_cons (pe_glob (v := .ref (c 28)) (by rfl) T.g_Contract rfl) pa_nil))))) (pw_or1 (pt_not (pt_val (pe_call G__law_same (hr.mono (by decide)) (by rfl) m__law_same k__law_same b__law_same .nil pass0 (pa_cons (pe_tup (pa_cons (pe_fld (pv 0) rfl) (pa_cons (pe_fld (pv 0) rfl) pa_nil))) (pa_cons (pe_tup (pa_cons (pe_ix ix_tup (pv 1) pe_int (fun _ _ => rfl)) (pa_cons (pe_ix ix_tup (pv 1) pe_int (fun _ _ => rfl)) pa_nil))) pa_nil))))))))
      (pss_one (ps_ret pe_bl))
      pss_nil)
      (pss_cons (ps_for PassesOwn.never rfl (pi_range1 (by rfl) T.z_range (pa_cons (pe_callB call_len_seq (by rfl) T.z_len (by decide +kernel) (pa_cons (pe_ix ix_tup (pv 1) pe_int (fun _ _ => rfl)) pa_nil)) pa_nil)) (pg_name (i := 2) sc__law_right.nd rfl (.inl rfl))
      (pss_one (ps_for PassesOwn.never rfl (pi_list (pe_call G__law_events (hr.mono (by decide)) (by rfl) m__law_events k__law_events b__law_events .nil pass0 (pa_cons (pe_ix ix_tup (pv 1) pe_int (fun _ _ => rfl)) (pa_cons (pe_ix ix_tup (pv 1) pe_int (fun _ _ => rfl)) pa_nil)))) (pg_name (i := 3) sc__law_right.nd rfl (.inl rfl))
        (pss_one (ps_if (pt_not (pt_val (pe_call G__law_same (hr.mono (by decide)) (by rfl) m__law_same k__law_same b__law_same .nil pass0 (pa_cons (pe_meth (pv 0) T.cl_Contract M_Contract_follow G_Contract_follow (hr.mono (by decide)) b_Contract_follow .nil pass0 (pa_cons (pv 2) (pa_cons (pv 3) pa_nil))) (pa_cons (pe_call G__law_follow (hr.mono (by decide)) (by rfl) m__law_follow k__law_follow b__law_follow .nil pass0 (pa_cons (pe_ix ix_tup (pv 1) pe_int (fun _ _ => rfl)) (pa_cons (pv 2) (pa_cons (pv 3) pa_nil)))) pa_nil)))))
          (pss_one (ps_ret pe_bl))
          pss_nil)))))
      (pss_one (ps_ret (pe_call G__law_same (hr.mono (by decide)) (by rfl) m__law_same k__law_same b__law_same .nil pass0 (pa_cons (pe_fld (pv 0) rfl) (pa_cons (pe_ix ix_tup (pv 1) pe_int (fun _ _ => rfl)) pa_nil))))))), ?_⟩
  obtain ⟨dx, sv, hp, hs⟩ := id hc
  obtain ⟨a1, xs1, x1, rfl, q1, i1, d1⟩ := dp_ix hv (i := 0) rfl
  obtain ⟨a2, xs2, x2, e2, q2, i2, d2⟩ := dp_ix hv (i := 1) rfl
  obtain ⟨a3, xs3, x3, e3, q3, i3, d3⟩ := dp_ix hv (i := 2) rfl
  cases e2
  cases e3
  cases d1
  cases d2
  refine ⟨_, rfl, p, dx, _, rfl, hp, ?_⟩
  refine ⟨_, rfl, ?_⟩
  refine ⟨_, rfl, p, _, dx, _, _, rfl, hp, T.cl_Contract, T.n_Contract_letters, cf_l, _, rfl, p, _, dx, _, _, rfl, hp, T.cl_Contract, T.n_Contract_answers, cf_a, by show 2 ≤ sizeLine; decide, fun t1 n1 => ?_⟩
  have s1 := same_new (o := .tup [.int cn.l, .int cn.a]) n1
  refine ⟨_, rfl, a1, xs1, _, _, rfl, rfl, seqT_same s1 q1, i1, _, rfl, a1, xs2, _, _, rfl, rfl, seqT_same s1 q2, i2, by show 2 ≤ sizeLine; decide, fun t2 n2 => ?_⟩
  have s2 := s1.trans (same_new (o := .tup [.int cn.l, .int cn.a]) n2)
  refine ⟨_, _, .tuple [.int cn.l, .int cn.a], rfl, .tup (SqT.of ((upd_ne (ne_of_none upd_same n2)).trans upd_same)) (.cons (.int _) (.cons (.int _) .nil)), .tup (SqT.of upd_same) (.cons (.int _) (.cons (.int _) .nil)), ok_two 2 _ _, fun H1 s3 => ?_⟩
  have s13 := s2.trans s3
  refine ⟨_, rfl, ?_⟩
  obtain ⟨b, ys, rfl, qb, kb⟩ := dp_tup d3
  have lb : ys.length = cn.st.length := by
    have := dpa_len kb
    rwa [List.length_map] at this
  have o8 := ho.s8
  refine ⟨_, rfl, a1, xs3, _, _, rfl, rfl, seqT_same s13 q3, i3, b, ys, rfl, .inr (seqT_same s13 qb), ((ys.length : Nat) : Int), rfl, by omega, by omega, for_range (fun i σ H' => ∃ (y1 y2 : Option V), σ = [some (.ref p), some (.ref a1), y1, y2] ∧ Same H H') ⟨none, none, rfl, s13⟩ ?_ ?_⟩
  · rintro i σ H2 hi ⟨y1, y2, rfl, s4⟩
    have hi2 : i < cn.st.length := by
      have : i < ((ys.length : Nat) : Int).toNat := hi
      simp only [Int.toNat_natCast] at this
      omega
    have gi : (0 : Int) + (i : Int) = (i : Int) := Int.zero_add _
    rw [gi]
    refine ⟨_, rfl, a1, xs1, _, _, rfl, rfl, seqT_same s4 q1, i1, _, rfl, a1, xs2, _, _, rfl, rfl, seqT_same s4 q2, i2, cn.l, cn.a, rfl, ho.l3, ho.a4, fun pe H3 es s5 nE hE hes => ?_⟩
    refine ⟨pe, rfl, ⟨_, SqL.of hE⟩, for_list (K := K) (a := pe) (xs := es) (fun j σ H' => ∃ (y2 : Option V), σ = [some (.ref p), some (.ref a1), some (.int (i : Int)), y2] ∧ Same H3 H') ⟨y2, rfl, Same.refl _⟩ (fun j σ H' _ h' => ?_) ?_ ?_⟩
    · obtain ⟨_, _, sh⟩ := h'
      exact SqL.of (sh _ _ hE)
    · rintro j y σ H4 hj ⟨z2, rfl, s6⟩
      have s46 := (s4.trans s5).trans s6
      obtain ⟨d, ed, hy⟩ := dpa_getx (dpa_same s6 hes) hj
      rw [List.getElem?_map] at ed
      cases ev1 : (evs cn.l cn.a)[j]? with
      | none => rw [ev1] at ed; cases ed
      | some ev =>
      rw [ev1] at ed
      cases ed
      have evm := evs_ok (List.mem_of_getElem? ev1)
      refine ⟨_, rfl, p, dx, _, rfl, s46 _ _ hp, cf_no (by decide +kernel) (by decide +kernel) (by decide +kernel), _, rfl, _, rfl, p, cn, i, ev, y, rfl, hc.same s46, ho, hi2, hy, evm, ?_⟩
      refine ⟨_, rfl, a1, xs3, _, _, rfl, rfl, seqT_same s46 q3, i3, _, rfl, _, rfl, cn, .ref b, i, ev, y, rfl, dp_same s46 d3, ho, hi2, hy, evm, ?_⟩
      refine ⟨_, _, oD (tgt cn.st i ev), rfl, dp_o _, dp_o _, ok_o 3 _, fun H5 s7 => ?_⟩
      refine ⟨_, rfl, ?_⟩
      exact ⟨_, rfl, s6.trans s7⟩
    · rintro σ H4 ⟨z2, rfl, s6⟩
      exact ⟨_, z2, rfl, (s4.trans s5).trans s6⟩
  · rintro σ H2 ⟨y1, y2, rfl, s4⟩
    have ok3 : tupOk 3 (stD cn.st) := ok_st (Nat.le_trans ho.l3 (by decide)) (Nat.le_trans ho.a4 (by decide)) (Nat.le_trans o8 (by decide)) ho.rows
    refine ⟨_, rfl, p, _, dx, _, _, rfl, s4 _ _ hp, T.cl_Contract, T.n_Contract_states, cf_s, _, rfl, a1, xs3, _, _, rfl, rfl, seqT_same s4 q3, i3, _, _, stD cn.st, rfl, dp_same s4 hs, dp_same s4 d3, ok3, fun H3 s5 => q H3 (s4.trans s5)⟩


end
end Pf

namespace Pf
open PySem PySem.Spec PyProof.Rows L2
section
variable {P : Program} {w : World} {K : PySem.W.Frag} {mg : Str → Option Value} {base : Heap}
variable {c : Nat → Addr}
def sp__law_target (K : PySem.W.Frag) : Sp := fun vs H Q _ => ∃ (r : Addr) (n : Nat), vs = [.ref r, .int (n : Int)] ∧ RD H r ∧ n ≤ 1000 ∧ ∀ (o : Option Nat) (H' : Hp), Fr r H H' → RD H' r → (∀ k, o = some k → k < n) → Q (oV o) H'
theorem ok__law_target (T : Txt P K mg c) : Has P w K mg base 2 "_law_target" ["reader", "many"] (sp__law_target K) := by
  obtain ⟨f, fd, F, m, b⟩ := T.d__law_target.ex
  obtain ⟨f__law_next, fd__law_next, G__law_next, m__law_next, k__law_next, b__law_next⟩ := ok__law_next (P := P) (w := w) (base := base) T
  refine ⟨f, fd, F.ok sc__law_target (fun vs H Q E h => ?_) (fun cdv A outer s H vs Q E hr h => ?_), m, F.kp, b⟩
  · obtain ⟨r, n, rfl, hR, hn, q⟩ := h
    rfl
  obtain ⟨r, n, rfl, hR, hn, q⟩ := h
  refine ⟨_, (pss_cons (ps_set (i := 2) sc__law_target.nd rfl (.inl rfl) (pe_call G__law_next (hr.mono (by decide)) (by rfl) m__law_next k__law_next b__law_next .nil pass0 (pa_cons (pv 0) (pa_cons (pe_op op_add (pv 1) pe_int) pa_nil))))
      (pss_cons (ps_if (pt_cmpR op_eq (pv 2) (pv 1) (nomark _))
      (pss_one (ps_ret pe_non))
      pss_nil)
      (pss_one (ps_ret (pv 2))))), ?_⟩
  refine ⟨_, rfl, _, rfl, _, _, rfl, rfl, r, (n : Int) + 1, rfl, hR, by omega, by omega, fun v H1 f1 R1 a b => ?_⟩
  refine ⟨_, rfl, _, rfl, rfl, _, rfl, ite2 (fun e => ?_) (fun e => ?_)⟩
  · exact q none H1 f1 R1 fun k h => by cases h
  · have e2 := int_ne_bl e
    obtain ⟨m, rfl⟩ := Int.eq_ofNat_of_zero_le a
    exact ⟨_, rfl, q (some m) H1 f1 R1 fun k h => by cases h; omega⟩
theorem dp_R {K : PySem.W.Frag} {H H' : Hp} {r : Addr} {v : V} {d : PyData} (n : Nat) (R : RD H r) (f : Fr r H H') (ok : tupOk n d) (h : Dp K H v d) : Dp K H' v d := by
  obtain ⟨_, _, _, e⟩ := R
  exact dp_frl e f n ok h
theorem dpa_R {K : PySem.W.Frag} {H H' : Hp} {r : Addr} {vs : List V} {ds : List PyData} (n : Nat) (R : RD H r) (f : Fr r H H') (ok : ∀ d ∈ ds, tupOk n d) (h : DpAll K H vs ds) : DpAll K H' vs ds := by
  obtain ⟨_, _, _, e⟩ := R
  exact dpa_frl e f n ok h
theorem dpa_oVs {K : PySem.W.Frag} {H : Hp} : ∀ os : List (Option Nat), DpAll K H (os.map oV) (os.map oD)
  | [] => .nil
  | o :: os => .cons (dp_o o) (dpa_oVs os)
theorem ok_os (n : Nat) (os : List (Option Nat)) (h : os.length ≤ 1000) : tupOk (n + 1) (.tuple (os.map oD)) := by
  refine ⟨by rw [List.length_map]; exact Nat.le_trans h (by decide), fun d hd => ?_⟩
  obtain ⟨o, _, rfl⟩ := List.mem_map.mp hd
  exact ok_o n o
def sp__law_states (K : PySem.W.Frag) : Sp := fun vs H Q _ => ∃ (r : Addr) (l a n : Nat), vs = [.ref r, .int (l : Int), .int (a : Int), .int (n : Int)] ∧ RD H r ∧ l ≤ 3 ∧ a ≤ 4 ∧ n ≤ 8 ∧
  ∀ (v : V) (st : List Row) (H' : Hp), Fr r H H' → RD H' r → st.length = n → (∀ x ∈ st, x.Ok l a n) → Dp K H' v (stD st) → Q v H'
theorem ok__law_states (T : Txt P K mg c) : Has P w K mg base 3 "_law_states" ["reader", "letters", "answers", "many"] (sp__law_states K) := by
  obtain ⟨f, fd, F, m, b⟩ := T.d__law_states.ex
  obtain ⟨f__law_target, fd__law_target, G__law_target, m__law_target, k__law_target, b__law_target⟩ := ok__law_target (P := P) (w := w) (base := base) T
  obtain ⟨f__law_next, fd__law_next, G__law_next, m__law_next, k__law_next, b__law_next⟩ := ok__law_next (P := P) (w := w) (base := base) T
  refine ⟨f, fd, F.ok sc__law_states (fun vs H Q E h => ?_) (fun cdv A outer s H vs Q E hr h => ?_), m, F.kp, b⟩
  · obtain ⟨r, l, a, n, rfl, hR, hl, ha, hn, q⟩ := h
    rfl
  obtain ⟨r, l, a, n, rfl, hR, hl, ha, hn, q⟩ := h
  refine ⟨_, (pss_cons (ps_set (i := 4) sc__law_states.nd rfl (.inl rfl) (pe_lst pa_nil))
      (pss_cons (ps_for PassesOwn.never rfl (pi_range1 (by rfl) T.z_range (pa_cons (pv 3) pa_nil)) (pg_name (i := 5) sc__law_states.nd rfl (.inl rfl))
      (pss_cons (ps_set (i := 6) sc__law_states.nd rfl (.inl rfl) (pe_callTy call_tuple_of (by rfl) T.z_tuple (by decide +kernel) (pa_cons (pe_lc (own := [("letter", 10)]) (g := gName 10) (by rfl) sc__law_states.nd (pi_range1 (by rfl) T.z_range (pa_cons (pv 1) pa_nil)) (blkOk_by (own := [("letter", 10)]) (N := ["reader", "letters", "answers", "many", "states", "k", "reads", "over", "writes", "flags", "letter"]) (sc := defScope s__law_states) (by decide +kernel)) (fun _ _ _ _ _ => pg_name (i := 10) sc__law_states.nd rfl (Or.inl rfl)) (fun _ _ _ _ _ => pts_nil) (fun _ _ _ _ _ => (pe_call G__law_target (hr.mono (by decide)) (by rfl) m__law_target k__law_target b__law_target .nil pass0 (pa_cons (pv 0) (pa_cons (pv 3) pa_nil))))) pa_nil)))
        (pss_cons (ps_set (i := 7) sc__law_states.nd rfl (.inl rfl) (pe_call G__law_target (hr.mono (by decide)) (by rfl) m__law_target k__law_target b__law_target .nil pass0 (pa_cons (pv 0) (pa_cons (pv 3) pa_nil))))
        (pss_cons (ps_set (i := 8) sc__law_states.nd rfl (.inl rfl) (pe_callTy call_tuple_of (by rfl) T.z_tuple (by decide +kernel) (pa_cons (pe_lc (own := [("letter", 10)]) (g := gName 10) (by rfl) sc__law_states.nd (pi_range1 (by rfl) T.z_range (pa_cons (pv 2) pa_nil)) (blkOk_by (own := [("letter", 10)]) (N := ["reader", "letters", "answers", "many", "states", "k", "reads", "over", "writes", "flags", "letter"]) (sc := defScope s__law_states) (by decide +kernel)) (fun _ _ _ _ _ => pg_name (i := 10) sc__law_states.nd rfl (Or.inl rfl)) (fun _ _ _ _ _ => pts_nil) (fun _ _ _ _ _ => (pe_call G__law_target (hr.mono (by decide)) (by rfl) m__law_target k__law_target b__law_target .nil pass0 (pa_cons (pv 0) (pa_cons (pv 3) pa_nil))))) pa_nil)))
        (pss_cons (ps_set (i := 9) sc__law_states.nd rfl (.inl rfl) (pe_call G__law_next (hr.mono (by decide)) (by rfl) m__law_next k__law_next b__law_next .nil pass0 (pa_cons (pv 0) (pa_cons pe_int pa_nil))))
        (pss_one (ps_expr (pe_bm PySem.F.plainAttrs_list PySem.F.slot_list_append PySem.F.type_list_append mt_append (pv 4) (pa_cons (pe_tup (pa_cons (pv 6) (pa_cons (pv 7) (pa_cons (pv 8) (pa_cons (pe_cmpR op_eq (pe_op op_fdivN (pv 9) pe_int) pe_int (nomark _)) (pa_cons (pe_cmpR op_eq (pe_op op_mod (pe_callTy call_int1 (by rfl) T.z_int (by decide +kernel) (pa_cons (pv 9) pa_nil)) pe_int) pe_int (nomark _)) pa_nil)))))) pa_nil)))))))))
      (pss_one (ps_ret (pe_callTy call_tuple_of (by rfl) T.z_tuple (by decide +kernel) (pa_cons (pv 4) pa_nil)))))), ?_⟩
  refine ⟨by show 0 ≤ sizeLine; decide, fun D nD => ?_⟩
  have neD : D ≠ r := hR.ne nD
  refine ⟨_, rfl, (n : Int), rfl, by omega, by omega, for_range (fun i σ H' => ∃ (xs : List V) (st : List Row) (y5 y6 y7 y8 y9 : Option V), σ = [some (.ref r), some (.int (l : Int)), some (.int (a : Int)), some (.int (n : Int)), some (.ref D), y5, y6, y7, y8, y9, none] ∧
    Fr r H H' ∧ RD H' r ∧ H' D = some (.lst xs) ∧ DpAll K H' xs (st.map Row.d) ∧ st.length = i ∧ ∀ x ∈ st, x.Ok l a n) ⟨[], [], none, none, none, none, none, rfl, Fr.new nD, hR.of (same_new nD), upd_same, .nil, rfl, fun x h => nomatch h⟩ ?_ ?_⟩
  · rintro i σ H1 hi ⟨xs, st, y5, y6, y7, y8, y9, rfl, f1, R1, hD, hx, ls, oks⟩
    have hi8 : i < n := by simpa using hi
    have okx := ok_rows (Nat.le_trans hl (by decide)) (Nat.le_trans ha (by decide)) oks
    -- reads
    refine ⟨_, rfl, (l : Int), rfl, by omega, by omega, fun D2 nD2 => ?_⟩
    have neD2 : D2 ≠ r := R1.ne nD2
    refine lc_range (lo := 0) (fun j H' => Fr r H1 H' ∧ RD H' r ∧ ∃ os : List (Option Nat), os.length = j ∧ (∀ t ∈ os, ∀ k, t = some k → k < n) ∧ H' D2 = some (.lst (os.map oV))) ⟨Fr.new nD2, R1.of (same_new nD2), [], rfl, (fun t h => nomatch h), upd_same⟩ (fun j H2 hj h => ?_) (fun H2 h => ?_)
    · obtain ⟨f2, R2, os, lo, oos, hD2⟩ := h
      have hj3 : j < l := by simpa using hj
      refine ⟨rfl, _, rfl, _, rfl, r, n, rfl, R2, by omega, fun o H3 f3 R3 ho => ⟨_, f3 _ _ neD2 hD2, ?_, ?_, ?_, os ++ [o], ?_, ?_, ?_⟩⟩
      · rw [List.length_map]
        exact small1000 (by omega)
      · exact (f2.trans f3).mut nD2
      · obtain ⟨c', k', d', e⟩ := R3
        exact ⟨c', k', d', (upd_ne neD2.symm).trans e⟩
      · rw [List.length_append, lo]
        rfl
      · intro t ht
        rcases List.mem_append.mp ht with ht | ht
        · exact oos t ht
        · rcases List.mem_singleton.mp ht with rfl
          exact ho
      · rw [upd_same, List.map_append]
        rfl
    obtain ⟨f2, R2, os, lo, oos, hD2⟩ := h
    have lo2 : os.length = l := by simpa using lo
    refine ⟨D2, _, rfl, .inl ⟨SqL.of hD2, fun t1 nt1 => ?_⟩⟩
    have f3 : Fr r H1 (upd H2 t1 (.tup (os.map oV))) := f2.trans (Fr.new nt1)
    have R3 := R2.of (same_new (o := .tup (os.map oV)) nt1)
    have hd1 : Dp K (upd H2 t1 (.tup (os.map oV))) (.ref t1) (.tuple (os.map oD)) := .tup (SqT.of upd_same) (dpa_oVs os)
    generalize upd H2 t1 (.tup (os.map oV)) = H3 at f3 R3 hd1 ⊢
    -- over
    refine ⟨_, rfl, _, rfl, r, n, rfl, R3, by omega, fun ov H4 f4 R4 hov => ?_⟩
    have hd2 := dp_R 1 R3 f4 (ok_os 0 os (by omega)) hd1
    have f14 := f3.trans f4
    -- writes
    refine ⟨_, rfl, (a : Int), rfl, by omega, by omega, fun D3 nD3 => ?_⟩
    have neD3 : D3 ≠ r := R4.ne nD3
    refine lc_range (lo := 0) (fun j H' => Fr r H4 H' ∧ RD H' r ∧ ∃ os : List (Option Nat), os.length = j ∧ (∀ t ∈ os, ∀ k, t = some k → k < n) ∧ H' D3 = some (.lst (os.map oV))) ⟨Fr.new nD3, R4.of (same_new nD3), [], rfl, (fun t h => nomatch h), upd_same⟩ (fun j H5 hj h => ?_) (fun H5 h => ?_)
    · obtain ⟨f5, R5, os, lo, oos, hD3⟩ := h
      have hj3 : j < a := by simpa using hj
      refine ⟨rfl, _, rfl, _, rfl, r, n, rfl, R5, by omega, fun o H6 f6 R6 ho => ⟨_, f6 _ _ neD3 hD3, ?_, ?_, ?_, os ++ [o], ?_, ?_, ?_⟩⟩
      · rw [List.length_map]
        exact small1000 (by omega)
      · exact (f5.trans f6).mut nD3
      · obtain ⟨c', k', d', e⟩ := R6
        exact ⟨c', k', d', (upd_ne neD3.symm).trans e⟩
      · rw [List.length_append, lo]
        rfl
      · intro t ht
        rcases List.mem_append.mp ht with ht | ht
        · exact oos t ht
        · rcases List.mem_singleton.mp ht with rfl
          exact ho
      · rw [upd_same, List.map_append]
        rfl
    obtain ⟨f5, R5, ws, lw, ows, hD3⟩ := h
    have lw2 : ws.length = a := by simpa using lw
    refine ⟨D3, _, rfl, .inl ⟨SqL.of hD3, fun t2 nt2 => ?_⟩⟩
    have f6 : Fr r H4 (upd H5 t2 (.tup (ws.map oV))) := f5.trans (Fr.new nt2)
    have R6 := R5.of (same_new (o := .tup (ws.map oV)) nt2)
    have hd3 : Dp K (upd H5 t2 (.tup (ws.map oV))) (.ref t2) (.tuple (ws.map oD)) := .tup (SqT.of upd_same) (dpa_oVs ws)
    generalize upd H5 t2 (.tup (ws.map oV)) = H6 at f6 R6 hd3 ⊢
    have hd4 := dp_R 1 R4 f6 (ok_os 0 os (by omega)) hd2
    have f16 := f14.trans f6
    -- flags
    refine ⟨_, rfl, r, 4, rfl, R6, by decide, by decide, fun fl H7 f7 R7 fa fb => ?_⟩
    have hd5 := dp_R 1 R6 f7 (ok_os 0 os (by omega)) hd4
    have hd6 := dp_R 1 R6 f7 (ok_os 0 ws (by omega)) hd3
    have f17 := f16.trans f7
    have hD7 := f17 _ _ neD hD
    have hx7 := dpa_R 2 R1 f17 okx hx
    refine ⟨_, rfl, .inl ⟨rfl, _, SqL.of hD7⟩, _, rfl, _, rfl, _, rfl, ?_⟩
    refine ⟨_, rfl, _, _, rfl, rfl, ⟨by decide, by decide⟩, rfl, ?_⟩
    refine ⟨_, rfl, .inl ⟨_, rfl, _, _, rfl, rfl, (show (0 : Int) < 2 by decide), rfl, ?_⟩⟩
    refine ⟨by show 5 ≤ sizeLine; decide, fun t3 nt3 => ⟨D, xs, _, rfl, rfl, same_new nt3 _ _ hD7, small1000 ?_, ?_⟩⟩
    · have := dpa_len hx7
      rw [List.length_map] at this
      omega
    have s8 := same_new (o := .tup [.ref t1, oV ov, .ref t2, .bl (decide (V.int (Int.fdiv fl 2) = V.int 1)), .bl (decide (V.int (fl % 2) = V.int 1))]) nt3
    have R8 := R7.of s8
    refine ⟨_, st ++ [⟨os, ov, ws, decide (V.int (Int.fdiv fl 2) = V.int 1), decide (V.int (fl % 2) = V.int 1)⟩], _, _, _, _, _, rfl, ?_, ?_, upd_same, ?_, ?_, ?_⟩
    · exact ((f1.trans f17).trans (Fr.of s8)).mut nD
    · obtain ⟨c', k', d', e⟩ := R8
      exact ⟨c', k', d', (upd_ne neD.symm).trans e⟩
    · rw [List.map_append]
      exact push_dp 2 (s8 _ _ hD7) (dpa_same s8 hx7) okx (.tup (SqT.of upd_same) (.cons (dp_same s8 hd5) (.cons (dp_o ov) (.cons (dp_same s8 hd6) (.cons (.bl _) (.cons (.bl _) .nil)))))) (ok_row 0 _ (by show os.length ≤ 1000; omega) (by show ws.length ≤ 1000; omega))
    · rw [List.length_append, ls]
      rfl
    · intro x hx
      rcases List.mem_append.mp hx with hx | hx
      · exact oks x hx
      · rcases List.mem_singleton.mp hx with rfl
        exact ⟨lo2, lw2, oos, hov, ows⟩
  · rintro σ H1 ⟨xs, st, y5, y6, y7, y8, y9, rfl, f1, R1, hD, hx, ls, oks⟩
    refine ⟨_, rfl, D, xs, rfl, .inl ⟨SqL.of hD, fun t nt => ?_⟩⟩
    have s2 := same_new (o := .tup xs) nt
    exact q _ st _ (f1.trans (Fr.of s2)) (R1.of s2) (by simpa using ls) oks (.tup (SqT.of upd_same) (dpa_same s2 hx))


end
end Pf

namespace Pf
open PySem PySem.Spec PyProof.Rows L2
section
variable {P : Program} {w : World} {K : PySem.W.Frag} {mg : Str → Option Value} {base : Heap}
variable {c : Nat → Addr}
theorem andV_read {ta tb : TE} {σ : L2.St} {H : Hp} {Q : VK} {b1 b2 : Bool} (h1 : ∀ Q' : VK, Q' (.bl b1) H → ta σ H Q') (h2 : ∀ Q' : VK, Q' (.bl b2) H → tb σ H Q') (q : Q (.bl (b1 && b2)) H) : tAndV ta tb σ H Q := by
  refine h1 _ ⟨b1, rfl, ?_⟩
  cases b1 with
  | true => exact iteT (h2 _ q)
  | false => exact iteF q
theorem and_asg {ta tb : TE} {u : TS} {D : Ends} {i : Nat} {σ : L2.St} {H : Hp} {b1 b2 : Bool} (h1 : ∀ Q' : VK, Q' (.bl b1) H → ta σ H Q') (h2 : ∀ Q' : VK, Q' (.bl b2) H → tb σ H Q') (q : u D (σ.set i (some (.bl (b1 && b2)))) H) : tSeq (tAsg (tAndV ta tb) (gName i)) u D σ H := andV_read h1 h2 q
def jd (c1 c2 : Cn) : PyData := if c1.l = c2.l ∧ c1.a = c2.a then (if 8 < (allP c1 c2).length then .tuple [.str "large states", .none] else .tuple [.str "", (joinC c1 c2).d]) else .tuple [.str "mismatch", .none]
def sp__law_joined (K : PySem.W.Frag) : Sp := fun vs H Q _ => ∃ (v1 v2 : V) (c1 c2 : Cn), vs = [v1, v2] ∧ Dp K H v1 c1.d ∧ Dp K H v2 c2.d ∧ c1.Ok ∧ c2.Ok ∧ ∀ (v : V) (H' : Hp), Same H H' → Dp K H' v (jd c1 c2) → Q v H'
theorem ok__law_joined (T : Txt P K mg c) : Has P w K mg base 3 "_law_joined" ["one", "two"] (sp__law_joined K) := by
  obtain ⟨f, fd, F, m, b⟩ := T.d__law_joined.ex
  obtain ⟨f__law_events, fd__law_events, G__law_events, m__law_events, k__law_events, b__law_events⟩ := ok__law_events (P := P) (w := w) (base := base) T
  obtain ⟨f__law_pairs, fd__law_pairs, G__law_pairs, m__law_pairs, k__law_pairs, b__law_pairs⟩ := ok__law_pairs (P := P) (w := w) (base := base) T
  obtain ⟨f__law_follow, fd__law_follow, G__law_follow, m__law_follow, k__law_follow, b__law_follow⟩ := ok__law_follow (P := P) (w := w) (base := base) T
  refine ⟨f, fd, F.ok sc__law_joined (fun vs H Q E h => ?_) (fun cdv A outer s H vs Q E hr h => ?_), m, F.kp, b⟩
  · obtain ⟨v1, v2, c1, c2, rfl, h1, h2, o1, o2, q⟩ := h
    rfl
  obtain ⟨v1, v2, c1, c2, rfl, h1, h2, o1, o2, q⟩ := h
  refine ⟨_, (pss_cons (ps_if (PW.pt (pw_or (pt_cmpR op_ne (pe_ix ix_tup (pv 0) pe_int (fun _ _ => rfl)) (pe_ix ix_tup (pv 1) pe_int (fun _ _ => rfl)) (nomark _)) (pw_or1 (pt_cmpR op_ne (pe_ix ix_tup (pv 0) pe_int (fun _ _ => rfl)) (pe_ix ix_tup (pv 1) pe_int (fun _ _ => rfl)) (nomark _)))))
      (pss_one (ps_ret (pe_tup (pa_cons pe_str (pa_cons pe_non pa_nil)))))
      pss_nil)
      (pss_cons (ps_set (i := 2) sc__law_joined.nd rfl (.inl rfl) (pe_call G__law_events (hr.mono (by decide)) (by rfl) m__law_events k__law_events b__law_events .nil pass0 (pa_cons (pe_ix ix_tup (pv 0) pe_int (fun _ _ => rfl)) (pa_cons (pe_ix ix_tup (pv 0) pe_int (fun _ _ => rfl)) pa_nil))))
      (pss_cons (ps_set (i := 3) sc__law_joined.nd rfl (.inl rfl) (pe_call G__law_pairs (hr.mono (by decide)) (by rfl) m__law_pairs k__law_pairs b__law_pairs .nil pass0 (pa_cons (pe_ix ix_tup (pv 0) pe_int (fun _ _ => rfl)) (pa_cons (pe_ix ix_tup (pv 1) pe_int (fun _ _ => rfl)) (pa_cons (pv 2) pa_nil)))))
      (pss_cons (ps_if (pt_cmpR op_gt (pe_callB call_len_seq (by rfl) T.z_len (by decide +kernel) (pa_cons (pv 3) pa_nil)) pe_int (nomark _))
      (pss_one (ps_ret (pe_tup (pa_cons pe_str (pa_cons pe_non pa_nil)))))
      pss_nil)
      (pss_cons (ps_set (i := 4) sc__law_joined.nd rfl (.inl rfl) (pe_lst pa_nil))
      (pss_cons (ps_for PassesOwn.never rfl (pi_list (pv 3)) (pg_name (i := 5) sc__law_joined.nd rfl (.inl rfl))
      (pss_cons (ps_set (i := 6) sc__law_joined.nd rfl (.inl rfl) (pe_lst pa_nil))
        (pss_cons (ps_for PassesOwn.never rfl (pi_list (pv 2)) (pg_name (i := 7) sc__law_joined.nd rfl (.inl rfl))
        (pss_cons (ps_set (i := 8) sc__law_joined.nd rfl (.inl rfl) (pe_tup (pa_cons (pe_call G__law_follow (hr.mono (by decide)) (by rfl) m__law_follow k__law_follow b__law_follow .nil pass0 (pa_cons (pe_ix ix_tup (pv 0) pe_int (fun _ _ => rfl)) (pa_cons (pe_ix ix_tup (pv 5) pe_int (fun _ _ => rfl)) (pa_cons (pv 7) pa_nil)))) (pa_cons (pe_call G__law_follow (hr.mono (by decide)) (by rfl) m__law_follow k__law_follow b__law_follow .nil pass0 (pa_cons (pe_ix ix_tup (pv 1) pe_int (fun _ _ => rfl)) (pa_cons (pe_ix ix_tup (pv 5) pe_int (fun _ _ => rfl)) (pa_cons (pv 7) pa_nil)))) pa_nil))))
          (pss_one (ps_if (PW.pt (pw_or (pt_cmpR op_isN (pe_ix ix_tup (pv 8) pe_int (fun _ _ => rfl)) pe_non (nomark _)) (pw_or1 (pt_cmpR op_isN (pe_ix ix_tup (pv 8) pe_int (fun _ _ => rfl)) pe_non (nomark _)))))
          (pss_one (ps_expr (pe_bm PySem.F.plainAttrs_list PySem.F.slot_list_append PySem.F.type_list_append mt_append (pv 6) (pa_cons pe_non pa_nil))))
          (pss_one (ps_expr (pe_bm PySem.F.plainAttrs_list PySem.F.slot_list_append PySem.F.type_list_append mt_append (pv 6) (pa_cons (pe_bm PySem.F.plainAttrs_list PySem.F.slot_list_index PySem.F.type_list_index (mt_indexD (u65 hr)) (pv 3) (pa_cons (pv 8) pa_nil)) pa_nil))))))))
        (pss_cons (ps_set (i := 9) sc__law_joined.nd rfl (.inl rfl) (pe_and (pe_ix ix_tup (pe_ix ix_tup (pe_ix ix_tup (pv 0) pe_int (fun _ _ => rfl)) (pe_ix ix_tup (pv 5) pe_int (fun _ _ => rfl)) (fun _ _ => rfl)) pe_int (fun _ _ => rfl)) (pe_one (pe_ix ix_tup (pe_ix ix_tup (pe_ix ix_tup (pv 1) pe_int (fun _ _ => rfl)) (pe_ix ix_tup (pv 5) pe_int (fun _ _ => rfl)) (fun _ _ => rfl)) pe_int (fun _ _ => rfl)))))
        (pss_cons (ps_set (i := 10) sc__law_joined.nd rfl (.inl rfl) (pe_and (pe_ix ix_tup (pe_ix ix_tup (pe_ix ix_tup (pv 0) pe_int (fun _ _ => rfl)) (pe_ix ix_tup (pv 5) pe_int (fun _ _ => rfl)) (fun _ _ => rfl)) pe_int (fun _ _ => rfl)) (pe_one (pe_ix ix_tup (pe_ix ix_tup (pe_ix ix_tup (pv 1) pe_int (fun _ _ => rfl)) (pe_ix ix_tup (pv 5) pe_int (fun _ _ => rfl)) (fun _ _ => rfl)) pe_int (fun _ _ => rfl)))))
        (pss_one (ps_expr (pe_bm PySem.F.plainAttrs_list PySem.F.slot_list_append PySem.F.type_list_append mt_append (pv 4) (pa_cons (pe_tup (pa_cons (pe_callTy call_tuple_of (by rfl) T.z_tuple (by decide +kernel) (pa_cons (pe_slice sl_list (pv 6) (po_some pe_int) (po_some (pe_op op_add pe_int (pe_ix ix_tup (pv 0) pe_int (fun _ _ => rfl))))) pa_nil)) (pa_cons (pe_ix ix_list (pv 6) pe_int (fun _ _ => rfl)) (pa_cons (pe_callTy call_tuple_of (by rfl) T.z_tuple (by decide +kernel) (pa_cons (pe_slice sl_list (pv 6) (po_some (pe_op op_add pe_int (pe_ix ix_tup (pv 0) pe_int (fun _ _ => rfl)))) po_none) pa_nil)) (pa_cons (pv 9) (pa_cons (pv 10) pa_nil)))))) pa_nil)))))))))
      (pss_one (ps_ret (pe_tup (pa_cons pe_str (pa_cons (pe_tup (pa_cons (pe_ix ix_tup (pv 0) pe_int (fun _ _ => rfl)) (pa_cons (pe_ix ix_tup (pv 0) pe_int (fun _ _ => rfl)) (pa_cons (pe_callTy call_tuple_of (by rfl) T.z_tuple (by decide +kernel) (pa_cons (pv 4) pa_nil)) pa_nil)))) pa_nil))))))))))), ?_⟩
  obtain ⟨a, xs0, x0, rfl, q0, i0, d0⟩ := dp_ix h1 (i := 0) rfl
  obtain ⟨a', xs1, x1, ee, q1, i1, d1⟩ := dp_ix h1 (i := 1) rfl
  cases ee
  obtain ⟨a', xs2, x2, ee, q2, i2, d2⟩ := dp_ix h1 (i := 2) rfl
  cases ee
  obtain ⟨b, ys0, z0, rfl, p0, j0, f0⟩ := dp_ix h2 (i := 0) rfl
  obtain ⟨b', ys1, z1, ee, p1, j1, f1⟩ := dp_ix h2 (i := 1) rfl
  cases ee
  obtain ⟨b', ys2, z2, ee, p2, j2, f2⟩ := dp_ix h2 (i := 2) rfl
  cases ee
  cases d0
  cases d1
  cases f0
  cases f1
  refine ⟨_, rfl, a, xs0, _, _, rfl, rfl, q0, i0, _, rfl, b, ys0, _, _, rfl, rfl, p0, j0, rfl, _, rfl, ?_⟩
  have mis : ¬ (c1.l = c2.l ∧ c1.a = c2.a) → ∀ (Hx : Hp), Hx = H → 2 ≤ sizeLine ∧ ∀ p, Hx p = none → Q (.ref p) (upd Hx p (.tup [.str "mismatch", .non])) := by
    rintro hn Hx rfl
    refine ⟨by decide, fun p np => q _ _ (same_new np) ?_⟩
    unfold jd
    rw [if_neg hn]
    exact .tup (SqT.of upd_same) (.cons (.str _) (.cons .non .nil))
  by_cases el : c1.l = c2.l
  case neg => exact nnope (fun e => el (by have := V.int.inj e; omega)) (mis (fun z => el z.1) H rfl)
  refine nyes (by rw [el]) ?_
  refine ⟨_, rfl, a, xs1, _, _, rfl, rfl, q1, i1, _, rfl, b, ys1, _, _, rfl, rfl, p1, j1, rfl, _, rfl, ?_⟩
  by_cases ea : c1.a = c2.a
  case neg => exact nnope (fun e => ea (by have := V.int.inj e; omega)) (mis (fun z => ea z.2) H rfl)
  refine nyes (by rw [ea]) ?_
  -- events, pairs
  refine ⟨_, rfl, a, xs0, _, _, rfl, rfl, q0, i0, _, rfl, a, xs1, _, _, rfl, rfl, q1, i1, c1.l, c1.a, rfl, o1.l3, o1.a4, fun pe H1 es s1 nE hE hes => ?_⟩
  refine ⟨_, rfl, a, xs2, _, _, rfl, rfl, seqT_same s1 q2, i2, _, rfl, b, ys2, _, _, rfl, rfl, seqT_same s1 p2, j2, _, rfl, _, _, pe, es, c1, c2, rfl, dp_same s1 d2, dp_same s1 f2, o1, o2, el, ea, hE, hes, fun pq H2 xs s2 nq hq hx => ?_⟩
  have s12 := s1.trans s2
  have lx : xs.length = (allP c1 c2).length := by
    have := dpa_len hx
    rwa [List.length_map] at this
  refine ⟨_, rfl, pq, xs, rfl, .inl (SqL.of hq), _, _, rfl, rfl, _, rfl, ite2 (fun e => ?_) (fun e => ?_)⟩
  · have e1 := dec_t e
    refine ⟨by show 2 ≤ sizeLine; decide, fun p np => q _ _ (s12.trans (same_new np)) ?_⟩
    unfold jd
    rw [if_pos ⟨el, ea⟩, if_pos (by omega)]
    exact .tup (SqT.of upd_same) (.cons (.str _) (.cons .non .nil))
  have e1 := dec_f e
  have l8 : (allP c1 c2).length ≤ 8 := by omega
  have hl3 := o1.l3
  have ha4 := o1.a4
  have les : es.length = (evs c1.l c1.a).length := by
    have := dpa_len hes
    rwa [List.length_map] at this
  have hlen : ∀ pr, ((evs c1.l c1.a).map fun e => oV (pix c1 c2 (allP c1 c2) pr e)).length = 1 + c1.l + c1.a := fun pr => by rw [List.length_map, evs_len]
  have jok := join_ok o1 o2 l8
  refine ⟨by show 0 ≤ sizeLine; decide, fun S nS => ?_⟩
  refine ⟨_, rfl, pq, rfl, ⟨_, SqL.of (same_new nS _ _ hq)⟩, for_list (K := K) (a := pq) (xs := xs) (fun i σ H' => ∃ (zs : List V) (y5 y6 y7 y8 y9 y10 : Option V), σ = [some (.ref a), some (.ref b), some (.ref pe), some (.ref pq), some (.ref S), y5, y6, y7, y8, y9, y10] ∧ Same H2 H' ∧ H' S = some (.lst zs) ∧
    DpAll K H' zs ((((allP c1 c2).take i).map (jrow c1 c2 (allP c1 c2))).map Row.d)) ⟨[], none, none, none, none, none, none, rfl, same_new nS, upd_same, .nil⟩ (fun i σ H' _ h' => ?_) ?_ ?_⟩
  · obtain ⟨_, _, _, _, _, _, _, _, sh, _⟩ := h'
    exact SqL.of (sh _ _ hq)
  · rintro i y σ H4 hi ⟨zs, y5, y6, y7, y8, y9, y10, rfl, s4, hS, hz⟩
    obtain ⟨d, ed, hd⟩ := dpa_getx (dpa_same s4 hx) hi
    rw [List.getElem?_map] at ed
    cases ep : (allP c1 c2)[i]? with
    | none => rw [ep] at ed; cases ed
    | some pr =>
    rw [ep] at ed
    cases ed
    have hm := List.mem_of_getElem? ep
    have hb := all_in o1 o2 pr hm
    obtain ⟨r1, hr1⟩ : ∃ r, c1.st[pr.1]? = some r := ⟨_, List.getElem?_eq_getElem hb.1⟩
    obtain ⟨r2, hr2⟩ : ∃ r, c2.st[pr.2]? = some r := ⟨_, List.getElem?_eq_getElem hb.2⟩
    have s14 := s12.trans s4
    obtain ⟨k1, ws1, x3, rfl, q5, i5, d7⟩ := dp_ix hd (i := 0) rfl
    obtain ⟨k2, ws2, x4, ee, q6, i6, d8⟩ := dp_ix hd (i := 1) rfl
    cases ee
    cases d7
    cases d8
    refine ⟨by show 0 ≤ sizeLine; decide, fun D nD => ?_⟩
    refine ⟨_, rfl, pe, rfl, ⟨_, SqL.of (same_new nD _ _ (s4 _ _ (s2 _ _ hE)))⟩, for_list (K := K) (a := pe) (xs := es) (fun j σ H' => ∃ (y7 y8 : Option V), σ = [some (.ref a), some (.ref b), some (.ref pe), some (.ref pq), some (.ref S), some (.ref k1), some (.ref D), y7, y8, y9, y10] ∧ Same H4 H' ∧
      H' D = some (.lst (((evs c1.l c1.a).take j).map fun e => oV (pix c1 c2 (allP c1 c2) pr e)))) ⟨y7, y8, rfl, same_new nD, upd_same⟩ (fun j σ H' _ h' => ?_) ?_ ?_⟩
    · obtain ⟨_, _, _, sh, _⟩ := h'
      exact SqL.of (sh _ _ (s4 _ _ (s2 _ _ hE)))
    · rintro j w σ H5 hj ⟨y7, y8, rfl, s5, hD⟩
      have s15 := s14.trans s5
      obtain ⟨d, ed, hy⟩ := dpa_getx (dpa_same ((s2.trans s4).trans s5) hes) hj
      rw [List.getElem?_map] at ed
      cases ev1 : (evs c1.l c1.a)[j]? with
      | none => rw [ev1] at ed; cases ed
      | some ev =>
      rw [ev1] at ed
      cases ed
      have evi := List.mem_of_getElem? ev1
      have evm := evs_ok evi
      have hjl : j < 8 := by
        have := (List.getElem?_eq_some_iff.mp ev1).1
        rw [evs_len] at this
        omega
      have htk : ((evs c1.l c1.a).take (j + 1)).map (fun e => oV (pix c1 c2 (allP c1 c2) pr e)) = ((evs c1.l c1.a).take j).map (fun e => oV (pix c1 c2 (allP c1 c2) pr e)) ++ [oV (pix c1 c2 (allP c1 c2) pr ev)] := by
        rw [List.take_succ, ev1, List.map_append]
        rfl
      have hle : (((evs c1.l c1.a).take j).map fun e => oV (pix c1 c2 (allP c1 c2) pr e)).length ≤ 8 := by
        rw [List.length_map, List.length_take]
        omega
      have fin : ∀ (t : Addr) (ts : List V) (H' : Hp), H5 t = none → H' = upd H5 t (.tup ts) → ∃ l xs' y', V.ref D = V.ref l ∧ [oV (pix c1 c2 (allP c1 c2) pr ev)] = [y'] ∧ H' l = some (.lst xs') ∧ xs'.length < sizeLine ∧ ∃ (y7 y8 : Option V), [some (V.ref a), some (.ref b), some (.ref pe), some (.ref pq), some (.ref S), some (.ref k1), some (.ref D), some w, some (.ref t), y9, y10] = [some (.ref a), some (.ref b), some (.ref pe), some (.ref pq), some (.ref S), some (.ref k1), some (.ref D), y7, y8, y9, y10] ∧ Same H4 (upd H' l (.lst (xs' ++ [y']))) ∧
          (upd H' l (.lst (xs' ++ [y']))) D = some (.lst (((evs c1.l c1.a).take (j + 1)).map fun e => oV (pix c1 c2 (allP c1 c2) pr e))) := by
        rintro t ts H' nt rfl
        have st := same_new (o := .tup ts) nt
        refine ⟨D, _, _, rfl, rfl, st _ _ hD, small1000 (by omega), _, _, rfl, same_mut (s5.trans st) nD, ?_⟩
        rw [htk]
        exact upd_same
      refine ⟨_, rfl, a, xs2, _, _, rfl, rfl, seqT_same s15 q2, i2, _, rfl, k1, ws1, _, _, rfl, rfl, seqT_same s5 q5, i5, _, rfl, c1, _, pr.1, ev, w, rfl, dp_same s15 d2, o1, hb.1, hy, evm, ?_⟩
      refine ⟨_, rfl, b, ys2, _, _, rfl, rfl, seqT_same s15 p2, j2, _, rfl, k1, ws2, _, _, rfl, rfl, seqT_same s5 q6, i6, _, rfl, c2, _, pr.2, ev, w, rfl, dp_same s15 f2, o2, hb.2, hy, el ▸ ea ▸ evm, ?_⟩
      refine ⟨by show 2 ≤ sizeLine; decide, fun t nt => ?_⟩
      have st := same_new (o := .tup [oV (tgt c1.st pr.1 ev), oV (tgt c2.st pr.2 ev)]) nt
      have fin' := fin t [oV (tgt c1.st pr.1 ev), oV (tgt c2.st pr.2 ev)] _ nt rfl
      have hD6 := st _ _ hD
      refine ⟨_, rfl, t, _, _, _, rfl, rfl, SqT.of upd_same, atI_nat (j := 0) rfl, rfl, _, rfl, ?_⟩
      cases t1 : tgt c1.st pr.1 ev with
      | none =>
        have hpx : pix c1 c2 (allP c1 c2) pr ev = none := by
          unfold pix pt2
          rw [t1]
          rfl
        rw [hpx] at fin'
        rw [t1] at fin' hD6
        refine yes rfl ?_
        exact ⟨_, rfl, .inl ⟨rfl, _, SqL.of hD6⟩, fin'⟩
      | some x =>
      refine nope (fun z => nomatch z) ?_
      refine ⟨_, rfl, t, _, _, _, rfl, rfl, SqT.of upd_same, atI_nat (j := 1) rfl, rfl, _, rfl, ?_⟩
      cases t2 : tgt c2.st pr.2 ev with
      | none =>
        have hpx : pix c1 c2 (allP c1 c2) pr ev = none := by
          unfold pix pt2
          rw [t1, t2]
          rfl
        rw [hpx] at fin'
        rw [t1, t2] at fin' hD6
        refine yes rfl ?_
        exact ⟨_, rfl, .inl ⟨rfl, _, SqL.of hD6⟩, fin'⟩
      | some z =>
      have en : pt2 c1 c2 pr ev = some (x, z) := by
        unfold pt2
        rw [t1, t2]
      have hmem := all_closed l8 hm evi en
      have hpx : pix c1 c2 (allP c1 c2) pr ev = some ((allP c1 c2).idxOf (x, z)) := by
        unfold pix
        rw [en]
        rfl
      rw [hpx] at fin'
      rw [t1, t2] at fin' hD6 st
      refine nope (fun z => nomatch z) ?_
      have s24 := (s4.trans s5).trans st
      refine ⟨_, rfl, .inl ⟨rfl, _, SqL.of hD6⟩, _, rfl, .inl ⟨rfl, _, SqL.of (s24 _ _ hq)⟩, _, rfl, pq, .ref t, prD (x, z), (allP c1 c2).map prD, (allP c1 c2).idxOf (x, z), prD (x, z), rfl, rfl, .lst (SqL.of (s24 _ _ hq)) (dpa_same s24 hx), .tup (SqT.of upd_same) (.cons (.int _) (.cons (.int _) .nil)), shaped_prs _, shaped_pr _, map_at (idx_at hmem), by rw [pr_eqv]; exact decide_eq_true rfl, fun m z' hmj hz' => ?_, fin'⟩
      rw [List.getElem?_map] at hz'
      cases e5 : (allP c1 c2)[m]? with
      | none => rw [e5] at hz'; cases hz'
      | some p5 =>
        rw [e5] at hz'
        cases hz'
        rw [pr_eqv]
        exact decide_eq_false (idx_before hmj e5)
    · rintro σ H5 ⟨y7, y8, rfl, s5, hD⟩
      rw [les, List.take_length] at hD
      have s15 := s14.trans s5
      obtain ⟨g1, gs1, g2, gs2, rfl, w1, w2, w3, _, _, w4, w5⟩ := row_parts (dp_same s15 d2) hr1
      obtain ⟨m1, ms1, m2, ms2, rfl, w6, w7, w8, _, _, w9, w10⟩ := row_parts (dp_same s15 f2) hr2
      dsimp only
      refine and_asg (b1 := r1.fi) (b2 := r2.fi) (fun Q' q' => ⟨_, rfl, a, xs2, _, _, rfl, rfl, seqT_same s15 q2, i2, _, rfl, k1, ws1, _, _, rfl, rfl, seqT_same s5 q5, i5, g1, gs1, _, _, rfl, rfl, w1, w2, g2, gs2, _, _, rfl, rfl, w3, w4, q'⟩)
        (fun Q' q' => ⟨_, rfl, b, ys2, _, _, rfl, rfl, seqT_same s15 p2, j2, _, rfl, k1, ws2, _, _, rfl, rfl, seqT_same s5 q6, i6, m1, ms1, _, _, rfl, rfl, w6, w7, m2, ms2, _, _, rfl, rfl, w8, w9, q'⟩) ?_
      refine and_asg (b1 := r1.si) (b2 := r2.si) (fun Q' q' => ⟨_, rfl, a, xs2, _, _, rfl, rfl, seqT_same s15 q2, i2, _, rfl, k1, ws1, _, _, rfl, rfl, seqT_same s5 q5, i5, g1, gs1, _, _, rfl, rfl, w1, w2, g2, gs2, _, _, rfl, rfl, w3, w5, q'⟩)
        (fun Q' q' => ⟨_, rfl, b, ys2, _, _, rfl, rfl, seqT_same s15 p2, j2, _, rfl, k1, ws2, _, _, rfl, rfl, seqT_same s5 q6, i6, m1, ms1, _, _, rfl, rfl, w6, w7, m2, ms2, _, _, rfl, rfl, w8, w10, q'⟩) ?_
      have hcut : ((1 : Int) + (c1.l : Int)) = ((1 + c1.l : Nat) : Int) := by omega
      have hlen1 := hlen pr
      have h0 : atI ((evs c1.l c1.a).map fun e => oV (pix c1 c2 (allP c1 c2) pr e)) 0 = some (oV (pix c1 c2 (allP c1 c2) pr .over)) := atI_nat (j := 0) (by rw [evs_map]; rfl)
      have hrd : (jrow c1 c2 (allP c1 c2) pr).rd.map oV = (List.range c1.l).map fun k => oV (pix c1 c2 (allP c1 c2) pr (.read k)) := by
        show ((List.range c1.l).map _).map oV = _
        rw [List.map_map]
        rfl
      have hwr : (jrow c1 c2 (allP c1 c2) pr).wr.map oV = (List.range c1.a).map fun k => oV (pix c1 c2 (allP c1 c2) pr (.write k)) := by
        show ((List.range c1.a).map _).map oV = _
        rw [List.map_map]
        rfl
      have hfi : (jrow c1 c2 (allP c1 c2) pr).fi = (r1.fi && r2.fi) := by
        show ((flg c1 pr.1).1 && (flg c2 pr.2).1) = _
        rw [flg_at hr1, flg_at hr2]
      have hsi : (jrow c1 c2 (allP c1 c2) pr).si = (r1.si && r2.si) := by
        show ((flg c1 pr.1).2 && (flg c2 pr.2).2) = _
        rw [flg_at hr1, flg_at hr2]
      rw [← hfi, ← hsi]
      refine ⟨_, rfl, .inl ⟨rfl, _, SqL.of (s5 _ _ hS)⟩, _, rfl, 1, rfl, _, rfl, a, xs0, _, _, rfl, rfl, seqT_same s15 q0, i0, _, _, rfl, rfl, _, rfl, D, _, rfl, SqL.of hD, fun pC nC => ?_⟩
      rw [show cutV ((evs c1.l c1.a).map fun e => oV (pix c1 c2 (allP c1 c2) pr e)) (some 1) (some ((fun i j => i + j) 1 (c1.l : Int))) = (List.range c1.l).map fun k => oV (pix c1 c2 (allP c1 c2) pr (.read k)) from by
        show cutV _ (some 1) (some ((1 : Int) + (c1.l : Int))) = _
        rw [hcut, show cutV ((evs c1.l c1.a).map fun e => oV (pix c1 c2 (allP c1 c2) pr e)) (some 1) (some ((1 + c1.l : Nat) : Int)) = _ from cut_mid _ 1 (1 + c1.l) (by omega) (by omega), evs_reads], ← hrd]
      refine ⟨pC, _, rfl, .inl ⟨SqL.of upd_same, fun tC ntC => ?_⟩⟩
      have sC := (same_new (o := .lst ((jrow c1 c2 (allP c1 c2) pr).rd.map oV)) nC).trans (same_new (o := .tup ((jrow c1 c2 (allP c1 c2) pr).rd.map oV)) ntC)
      have hdC : Dp K (upd (upd H5 pC (.lst ((jrow c1 c2 (allP c1 c2) pr).rd.map oV))) tC (.tup ((jrow c1 c2 (allP c1 c2) pr).rd.map oV))) (.ref tC) (.tuple ((jrow c1 c2 (allP c1 c2) pr).rd.map oD)) := .tup (SqT.of upd_same) (dpa_oVs _)
      generalize upd (upd H5 pC (.lst ((jrow c1 c2 (allP c1 c2) pr).rd.map oV))) tC (.tup ((jrow c1 c2 (allP c1 c2) pr).rd.map oV)) = H6 at sC hdC ⊢
      have s16 := s15.trans sC
      refine ⟨_, rfl, D, _, 0, _, rfl, rfl, SqL.of (sC _ _ hD), h0, ?_⟩
      refine ⟨_, rfl, _, rfl, a, xs0, _, _, rfl, rfl, seqT_same s16 q0, i0, _, _, rfl, rfl, _, rfl, D, _, rfl, SqL.of (sC _ _ hD), fun pE nE' => ?_⟩
      rw [show cutV ((evs c1.l c1.a).map fun e => oV (pix c1 c2 (allP c1 c2) pr e)) (some ((fun i j => i + j) 1 (c1.l : Int))) none = (List.range c1.a).map fun k => oV (pix c1 c2 (allP c1 c2) pr (.write k)) from by
        show cutV _ (some ((1 : Int) + (c1.l : Int))) none = _
        rw [hcut, cut_from, evs_writes], ← hwr]
      refine ⟨pE, _, rfl, .inl ⟨SqL.of upd_same, fun tE ntE => ?_⟩⟩
      have sE := (same_new (o := .lst ((jrow c1 c2 (allP c1 c2) pr).wr.map oV)) nE').trans (same_new (o := .tup ((jrow c1 c2 (allP c1 c2) pr).wr.map oV)) ntE)
      have hdE : Dp K (upd (upd H6 pE (.lst ((jrow c1 c2 (allP c1 c2) pr).wr.map oV))) tE (.tup ((jrow c1 c2 (allP c1 c2) pr).wr.map oV))) (.ref tE) (.tuple ((jrow c1 c2 (allP c1 c2) pr).wr.map oD)) := .tup (SqT.of upd_same) (dpa_oVs _)
      generalize upd (upd H6 pE (.lst ((jrow c1 c2 (allP c1 c2) pr).wr.map oV))) tE (.tup ((jrow c1 c2 (allP c1 c2) pr).wr.map oV)) = H7 at sE hdE ⊢
      refine ⟨_, rfl, _, rfl, by show 5 ≤ sizeLine; decide, fun tp ntp => ?_⟩
      have s8 := same_new (o := .tup [.ref tC, oV (pix c1 c2 (allP c1 c2) pr .over), .ref tE, .bl (jrow c1 c2 (allP c1 c2) pr).fi, .bl (jrow c1 c2 (allP c1 c2) pr).si]) ntp
      have hdR : Dp K (upd H7 tp (.tup [.ref tC, oV (pix c1 c2 (allP c1 c2) pr .over), .ref tE, .bl (jrow c1 c2 (allP c1 c2) pr).fi, .bl (jrow c1 c2 (allP c1 c2) pr).si])) (.ref tp) (jrow c1 c2 (allP c1 c2) pr).d :=
        .tup (SqT.of upd_same) (.cons (dp_same (sE.trans s8) hdC) (.cons (dp_o _) (.cons (dp_same s8 hdE) (.cons (.bl _) (.cons (.bl _) .nil)))))
      have s58 := ((s5.trans sC).trans sE).trans s8
      have okR : ∀ r ∈ (allP c1 c2).map (jrow c1 c2 (allP c1 c2)), r.Ok c1.l c1.a ((allP c1 c2).map (jrow c1 c2 (allP c1 c2))).length := jok.rows
      have okz : ∀ d ∈ (((allP c1 c2).take i).map (jrow c1 c2 (allP c1 c2))).map Row.d, tupOk 2 d := ok_rows (l := c1.l) (a := c1.a) (m := ((allP c1 c2).map (jrow c1 c2 (allP c1 c2))).length) (by omega) (by omega) fun r hr => okR r (by
        obtain ⟨p0, hp0, rfl⟩ := List.mem_map.mp hr
        exact List.mem_map.mpr ⟨p0, List.mem_of_mem_take hp0, rfl⟩)
      have okj := okR _ (List.mem_map.mpr ⟨pr, hm, rfl⟩)
      have hil : i < 8 := by
        have := (List.getElem?_eq_some_iff.mp ep).1
        omega
      refine ⟨S, zs, _, rfl, rfl, s58 _ _ hS, small1000 ?_, ?_⟩
      · have := dpa_len hz
        rw [List.length_map, List.length_map, List.length_take] at this
        omega
      refine ⟨_, _, _, _, _, _, _, rfl, same_mut (s4.trans s58) nS, upd_same, ?_⟩
      rw [show (((allP c1 c2).take (i + 1)).map (jrow c1 c2 (allP c1 c2))).map Row.d = (((allP c1 c2).take i).map (jrow c1 c2 (allP c1 c2))).map Row.d ++ [(jrow c1 c2 (allP c1 c2) pr).d] from by
        rw [List.take_succ, ep, List.map_append, List.map_append]
        rfl]
      exact push_dp 2 (s58 _ _ hS) (dpa_same s58 hz) okz hdR (ok_row 0 _ (by rw [okj.rl]; omega) (by rw [okj.wl]; omega))
  · rintro σ H4 ⟨zs, y5, y6, y7, y8, y9, y10, rfl, s4, hS, hz⟩
    rw [lx, List.take_length] at hz
    have s14 := s12.trans s4
    refine ⟨_, rfl, a, xs0, _, _, rfl, rfl, seqT_same s14 q0, i0, _, rfl, a, xs1, _, _, rfl, rfl, seqT_same s14 q1, i1, _, rfl, S, zs, rfl, .inl ⟨SqL.of hS, fun t1 n1 => ?_⟩⟩
    have u1 := same_new (o := .tup zs) n1
    have k1 : Dp K (upd H4 t1 (.tup zs)) (.ref t1) (stD (joinC c1 c2).st) := .tup (SqT.of upd_same) (dpa_same u1 hz)
    refine ⟨by show 3 ≤ sizeLine; decide, fun t2 n2 => ⟨by show 2 ≤ sizeLine; decide, fun t3 n3 => ?_⟩⟩
    have u2 := same_new (o := .tup [.int c1.l, .int c1.a, .ref t1]) n2
    have u3 := same_new (o := .tup [.str "", .ref t2]) n3
    refine q _ _ (((s14.trans u1).trans u2).trans u3) ?_
    unfold jd
    rw [if_pos ⟨el, ea⟩, if_neg (by omega)]
    exact .tup (SqT.of upd_same) (.cons (.str _) (.cons (.tup (SqT.of (u3 _ _ upd_same)) (.cons (.int _) (.cons (.int _) (.cons (dp_same (u2.trans u3) k1) .nil)))) .nil))


end
end Pf

namespace Pf
open PySem PySem.Spec PyProof.Rows L2
section
variable {P : Program} {w : World} {K : PySem.W.Frag} {mg : Str → Option Value} {base : Heap}
variable {c : Nat → Addr}
/-! ### isinstance of the error that a suite holds, with a dict of its own or without -/
def rIsEX (K : PySem.W.Frag) (a : Addr) (cls : Value) (d : Option Addr) : List V → Hp → VK → Prop := fun xs H Q => ∃ (C : Addr) (c : V) (u : Value) (b : Bool), xs = [.ref a, c] ∧ cls = .ref C ∧ (d = none ∨ ∃ dd fs, d = some dd ∧ H dd = some (.xd fs)) ∧ ClsV c u ∧ ErrC K C ∧ PySem.W.kitOne K (.ref C) u = some b ∧ Q (.bl b) H
theorem call_isEX {X : Cx} {a : Addr} {oe : Obj} {cls : Value} {d : Option Addr} {pn : List (Addr × Obj)} (hz : Zc cls d oe) (hf : ∃ vs, oe.data = .fields vs) : CallR (X.suite a ((a, oe) :: pn)) (.builtin "isinstance") (rIsEX X.K a cls d) := by
  intro pins s σ H xs us Q I r h
  obtain ⟨C, c, u, b, rfl, rfl, hd, kc, T, e, q⟩ := h
  obtain ⟨u1, u2, rfl, r1, r2⟩ := vals2 r
  have e2 := kc.eq r2
  subst e2
  cases r1
  obtain ⟨hg, _⟩ := I.pin (a, oe) (List.mem_append_left _ List.mem_cons_self)
  obtain ⟨vs, hv⟩ := hf
  obtain ⟨z1, z2⟩ := hz
  have J : ∃ od, PySem.W.InstAt s.heap a oe C od := by
    rcases hd with rfl | ⟨dd, fs, rfl, hdd⟩
    · refine ⟨none, hg, z1, ?_, ?_⟩
      · unfold PySem.W.notCls
        rw [hv]
      · rw [z2]
        exact True.intro
    · have ox : ObjOk X.prog X.w H s.heap dd (.xd fs) := I.hok dd _ hdd
      obtain ⟨mA, hns, hr⟩ := ox
      obtain ⟨od, ho, hl⟩ := lookIn_ns hns
      refine ⟨some od, hg, z1, ?_, ?_⟩
      · unfold PySem.W.notCls
        rw [hv]
      · rw [z2]
        exact ho
  obtain ⟨od, J⟩ := J
  exact PySem.W.kia_one (PySem.W.kitx_exc T.cl T.ga T.gt T.sb T.ca T.cn T.ct T.cm) I.kIn J e (fun z => nomatch z) fun tk => ⟨.bl b, H, I.tok tk, rfl, q⟩
theorem xfc {K : PySem.W.Frag} {C : Addr} (T : ErrC K C) : XfC K C := ⟨T.ga, T.gt, T.sb, T.hd⟩
theorem pe_bmK {X : Cx} {K : PySem.W.Frag} {o e : Expr} {es : List Expr} {to : TE} {t : TA} {name : Str} {apos cpos : Pos} {T id : String} {r : V → List V → Hp → VK → Prop} (hK : X.K = K) (pa : PlainAttrs T) (slot : Slot T name id) (hty : typeOf (.builtin id) = pure (.type "method_descriptor")) (hm : MtR X id r) (ho : PE X o to) (ha : PA X (e :: es) t)
    (hbase : attributeBase o name X.env (eval o X.env) = eval o X.env := by rfl) (hfew : ((backTo cpos (starEach (e :: es) X.env)).all (fun x => !x.1) && (backToKw cpos (keywordEach [] X.env)).all (fun x => x.1.isSome) && decide ((e :: es).length + ([] : List Keyword).length + (if ([] : List Keyword).isEmpty then 0 else 1) < 30)) = true := by rfl)
    (hline : (apos.endLine == cpos.line) = true := by rfl) (hs : starEach (e :: es) X.env = (false, eval e X.env) :: starEach es X.env := by rfl) (hplain : (backTo cpos (starEach es X.env)).any (·.1) = false := by rfl) : PE X (.Call (.Attribute o name apos) (e :: es) [] cpos) (tBM K T r to t) :=
  hK ▸ pe_bm pa slot hty hm ho ha hbase hfew hline hs hplain
theorem exm_up {K : PySem.W.Frag} {C S : Addr} (h1 : PySem.W.subIn K (.ref S) (.type "BaseException") = some true) (h2 : (PySem.W.clsIn K S).isSome = true) (h3 : PySem.W.typeIn K (.ref S) = some (.type "type")) (h4 : PySem.W.subIn K (.ref C) (.ref S) = some true) : PySem.W.exmOne K (.ref C) (.ref S) = some true := by
  have g1 : (PySem.W.subIn K (.ref S) (.type "BaseException") == some true) = true := by rw [h1]; rfl
  have g2 : ((PySem.W.clsIn K S).isSome && PySem.W.typeIn K (.ref S) == some (.type "type")) = true := by rw [h2, h3]; rfl
  exact (if_pos g1).trans ((if_pos g2).trans h4)

def toldIs (K : PySem.W.Frag) (C : Addr) (c1 c2 : Cn) (w : Str) (ks : List V) (H : Hp) : Prop := (¬ (c1.l = c2.l ∧ c1.a = c2.a) ∧ w = "mismatch" ∧ ks = []) ∨ ((c1.l = c2.l ∧ c1.a = c2.a) ∧ 8 < (allP c1 c2).length ∧ w = "large states" ∧ ks = []) ∨
  ((c1.l = c2.l ∧ c1.a = c2.a) ∧ (allP c1 c2).length ≤ 8 ∧ w = "" ∧ ∃ p, ks = [.ref p] ∧ ConAt K C H p (joinC c1 c2))
def sp__law_told (K : PySem.W.Frag) (C : Addr) : Sp := fun vs H Q _ => ∃ (p1 p2 : Addr) (c1 c2 : Cn), vs = [.ref p1, .ref p2] ∧ ConAt K C H p1 c1 ∧ ConAt K C H p2 c2 ∧ c1.Ok ∧ c2.Ok ∧
  ∀ (w : Str) (ks : List V) (t kl : Addr) (H' : Hp), Same H H' → SqT K H' t [.str w, .ref kl] → H' kl = some (.lst ks) → toldIs K C c1 c2 w ks H' → Q (.ref t) H'
theorem ok__law_told (T : Txt P K mg c) : Has P w K mg base 9 "_law_told" ["one", "two"] (sp__law_told K (c id_Contract)) := by
  obtain ⟨f, fd, F, m, b⟩ := T.d__law_told.ex
  obtain ⟨f_both, fd_both, G_both, m_both, k_both, b_both⟩ := ok_both (P := P) (w := w) (base := base) T
  refine ⟨f, fd, F.ok sc__law_told (fun vs H Q E h => ?_) (fun cdv A outer s H vs Q E hr h => ?_), m, F.kp, b⟩
  · obtain ⟨p1, p2, c1, c2, rfl, h1, h2, o1, o2, q⟩ := h
    rfl
  obtain ⟨p1, p2, c1, c2, rfl, h1, h2, o1, o2, q⟩ := h
  refine ⟨_, (pss_cons (ps_set (i := 2) sc__law_told.nd rfl (.inl rfl) (pe_lst pa_nil))
      (pss_cons (ps_set (i := 3) sc__law_told.nd rfl (.inl rfl) pe_str)
      (pss_cons (ps_try_as (i := 4) rfl rfl sc__law_told.nd rfl rfl ⟨rfl, by decide, .inl T.g_MendError⟩ takes0 (fun W pn xe tk _ => (pss_one (ps_expr (by exact (pe_bmK (K := K) rfl PySem.F.plainAttrs_list PySem.F.slot_list_append PySem.F.type_list_append mt_append (pv 2) (pa_cons (pe_callS G_both (hr.mono (by decide)) (by rfl) m_both k_both b_both (fun σ => passAt tk σ) (pa_cons (pv 0) (pa_cons (pv 1) pa_nil))) pa_nil))))))
      (fun a oe cls d pn hz hf => (pss_cons (ps_set (i := 3) sc__law_told.nd rfl (.inl rfl) pe_str)
        (pss_cons (ps_if (PW.pt (pw_and (pt_val (pe_callB (call_isEX hz hf) (by rfl) T.z_isinstance (by decide +kernel) (pa_cons (pv 4) (pa_cons (pe_glob (v := .ref (c 13)) (by rfl) T.g_Mismatch rfl) pa_nil)))) (pw_and (pt_val (pe_callB (call_isEX hz hf) (by rfl) T.z_isinstance (by decide +kernel) (pa_cons (pv 4) (pa_cons (pe_glob (v := .ref (c 3)) (by rfl) T.g_InvalidInput rfl) pa_nil)))) (pw_and1 (pt_not (pt_val (pe_callB (call_isEX hz hf) (by rfl) T.z_isinstance (by decide +kernel) (pa_cons (pv 4) (pa_cons (pe_glob (v := .ref (c 14)) (by rfl) T.g_BoundError rfl) pa_nil)))))))))
        (pss_one (ps_set (i := 3) sc__law_told.nd rfl (.inl rfl) pe_str))
        pss_nil)
        (pss_cons (ps_if (PW.pt (pw_and (pt_val (pe_callB (call_isEX hz hf) (by rfl) T.z_isinstance (by decide +kernel) (pa_cons (pv 4) (pa_cons (pe_glob (v := .ref (c 15)) (by rfl) T.g_TooLarge rfl) pa_nil)))) (pw_and (pt_val (pe_callB (call_isEX hz hf) (by rfl) T.z_isinstance (by decide +kernel) (pa_cons (pv 4) (pa_cons (pe_glob (v := .ref (c 14)) (by rfl) T.g_BoundError rfl) pa_nil)))) (pw_and1 (pt_not (pt_val (pe_callB (call_isEX hz hf) (by rfl) T.z_isinstance (by decide +kernel) (pa_cons (pv 4) (pa_cons (pe_glob (v := .ref (c 3)) (by rfl) T.g_InvalidInput rfl) pa_nil)))))))))
        (pss_one (ps_if (pt_val (pe_callB (call_isiK' (K := K) rfl) (by rfl) T.z_isinstance (by decide +kernel) (pa_cons (pe_xf (xfc (T.er id_TooLarge (by decide))) T.f_TooLarge hz hf (pv 4)) (pa_cons (pe_bltn (v := .ty "str") (by rfl) T.z_str (by decide +kernel) rfl) pa_nil))))
          (pss_one (ps_set (i := 3) sc__law_told.nd rfl (.inl rfl) (pe_op op_add_str pe_str (pe_xf (xfc (T.er id_TooLarge (by decide))) T.f_TooLarge hz hf (pv 4)))))
          pss_nil))
        pss_nil)
        (pss_cons (ps_if (PW.pt (pw_or (pt_val (pe_callB (call_isEX hz hf) (by rfl) T.z_isinstance (by decide +kernel) (pa_cons (pv 4) (pa_cons (pe_glob (v := .ref (c 16)) (by rfl) T.g_TooLong rfl) pa_nil)))) (pw_or (pt_val (pe_callB (call_isEX hz hf) (by rfl) T.z_isinstance (by decide +kernel) (pa_cons (pv 4) (pa_cons (pe_glob (v := .ref (c 17)) (by rfl) T.g_TooManyCases rfl) pa_nil)))) (pw_or1 (pt_val (pe_callB (call_isEX hz hf) (by rfl) T.z_isinstance (by decide +kernel) (pa_cons (pv 4) (pa_cons (pe_glob (v := .ref (c 18)) (by rfl) T.g_DeskError rfl) pa_nil))))))))
        (pss_one (ps_set (i := 3) sc__law_told.nd rfl (.inl rfl) pe_str))
        pss_nil)
        (pss_cons (ps_if (PW.pt (pw_or (pt_val (pe_callB (call_isEX hz hf) (by rfl) T.z_isinstance (by decide +kernel) (pa_cons (pv 4) (pa_cons (pe_glob (v := .ref (c 4)) (by rfl) T.g_InvalidText rfl) pa_nil)))) (pw_or (pt_val (pe_callB (call_isEX hz hf) (by rfl) T.z_isinstance (by decide +kernel) (pa_cons (pv 4) (pa_cons (pe_glob (v := .ref (c 5)) (by rfl) T.g_InvalidProgram rfl) pa_nil)))) (pw_or1 (pt_val (pe_callB (call_isEX hz hf) (by rfl) T.z_isinstance (by decide +kernel) (pa_cons (pv 4) (pa_cons (pe_glob (v := .ref (c 6)) (by rfl) T.g_InvalidContract rfl) pa_nil))))))))
        (pss_one (ps_set (i := 3) sc__law_told.nd rfl (.inl rfl) pe_str))
        pss_nil)
        (pss_cons (ps_if (PW.pt (pw_or (pt_val (pe_callB (call_isEX hz hf) (by rfl) T.z_isinstance (by decide +kernel) (pa_cons (pv 4) (pa_cons (pe_glob (v := .ref (c 7)) (by rfl) T.g_InvalidChange rfl) pa_nil)))) (pw_or (pt_val (pe_callB (call_isEX hz hf) (by rfl) T.z_isinstance (by decide +kernel) (pa_cons (pv 4) (pa_cons (pe_glob (v := .ref (c 8)) (by rfl) T.g_InvalidStream rfl) pa_nil)))) (pw_or1 (pt_val (pe_callB (call_isEX hz hf) (by rfl) T.z_isinstance (by decide +kernel) (pa_cons (pv 4) (pa_cons (pe_glob (v := .ref (c 9)) (by rfl) T.g_InvalidPlaces rfl) pa_nil))))))))
        (pss_one (ps_set (i := 3) sc__law_told.nd rfl (.inl rfl) pe_str))
        pss_nil)
        (pss_cons (ps_if (PW.pt (pw_or (pt_val (pe_callB (call_isEX hz hf) (by rfl) T.z_isinstance (by decide +kernel) (pa_cons (pv 4) (pa_cons (pe_glob (v := .ref (c 10)) (by rfl) T.g_InvalidEdit rfl) pa_nil)))) (pw_or (pt_val (pe_callB (call_isEX hz hf) (by rfl) T.z_isinstance (by decide +kernel) (pa_cons (pv 4) (pa_cons (pe_glob (v := .ref (c 11)) (by rfl) T.g_InvalidLine rfl) pa_nil)))) (pw_or1 (pt_val (pe_callB (call_isEX hz hf) (by rfl) T.z_isinstance (by decide +kernel) (pa_cons (pv 4) (pa_cons (pe_glob (v := .ref (c 12)) (by rfl) T.g_InvalidName rfl) pa_nil))))))))
        (pss_one (ps_set (i := 3) sc__law_told.nd rfl (.inl rfl) pe_str))
        pss_nil)
        (pss_one (ps_if (pt_not (pt_val (pe_callB (call_isEX hz hf) (by rfl) T.z_isinstance (by decide +kernel) (pa_cons (pv 4) (pa_cons (pe_bltn (v := .ty "ValueError") (by rfl) T.z_ValueError (by decide +kernel) rfl) pa_nil)))))
        (pss_one (ps_set (i := 3) sc__law_told.nd rfl (.inl rfl) pe_str))
        pss_nil)))))))))))
      (pss_one (ps_ret (pe_tup (pa_cons (pv 3) (pa_cons (pv 2) pa_nil)))))))), ?_⟩
  refine ⟨by show 0 ≤ sizeLine; decide, fun kl nk => ?_⟩
  have s0 := same_new (o := .lst []) nk
  have hk : (upd H kl (.lst [])) kl = some (.lst []) := upd_same
  generalize upd H kl (.lst []) = H0 at s0 hk ⊢
  have exm : ∀ m ∈ errIds, PySem.W.exmOne K (.ref (c m)) (.ref (c id_MendError)) = some true := fun m hm => exm_up (T.er id_MendError (by decide)).sb (T.er id_MendError (by decide)).cl (T.ty _ (by decide)) (T.su m hm)
  refine ⟨_, rfl, .inl ⟨rfl, _, SqL.of hk⟩, _, rfl, _, rfl, p1, p2, c1, c2, rfl, h1.same s0, h2.same s0, o1, o2, fun hn => ?_, fun el ea l8 p H1 s1 np hc => ?_, fun el ea hg d H1 s1 nd hd1 => ?_⟩
  · refine ⟨true, exm 13 (by decide), fun _ a na => ?_, fun z => nomatch z⟩
    have hd : (none : Option Addr) = none ∨ ∃ dd fs, (none : Option Addr) = some dd ∧ H0 dd = some (.xd fs) := .inl rfl
    have k2 : PySem.W.kitOne K (.ref (c 13)) (.ref (c 2)) = some true := T.isa _ (by decide) _ (by decide)
    have k3 : PySem.W.kitOne K (.ref (c 13)) (.ref (c 3)) = some true := T.isa _ (by decide) _ (by decide)
    have k4 : PySem.W.kitOne K (.ref (c 13)) (.ref (c 4)) = some false := T.isa _ (by decide) _ (by decide)
    have k5 : PySem.W.kitOne K (.ref (c 13)) (.ref (c 5)) = some false := T.isa _ (by decide) _ (by decide)
    have k6 : PySem.W.kitOne K (.ref (c 13)) (.ref (c 6)) = some false := T.isa _ (by decide) _ (by decide)
    have k7 : PySem.W.kitOne K (.ref (c 13)) (.ref (c 7)) = some false := T.isa _ (by decide) _ (by decide)
    have k8 : PySem.W.kitOne K (.ref (c 13)) (.ref (c 8)) = some false := T.isa _ (by decide) _ (by decide)
    have k9 : PySem.W.kitOne K (.ref (c 13)) (.ref (c 9)) = some false := T.isa _ (by decide) _ (by decide)
    have k10 : PySem.W.kitOne K (.ref (c 13)) (.ref (c 10)) = some false := T.isa _ (by decide) _ (by decide)
    have k11 : PySem.W.kitOne K (.ref (c 13)) (.ref (c 11)) = some false := T.isa _ (by decide) _ (by decide)
    have k12 : PySem.W.kitOne K (.ref (c 13)) (.ref (c 12)) = some false := T.isa _ (by decide) _ (by decide)
    have k13 : PySem.W.kitOne K (.ref (c 13)) (.ref (c 13)) = some true := T.isa _ (by decide) _ (by decide)
    have k14 : PySem.W.kitOne K (.ref (c 13)) (.ref (c 14)) = some false := T.isa _ (by decide) _ (by decide)
    have k15 : PySem.W.kitOne K (.ref (c 13)) (.ref (c 15)) = some false := T.isa _ (by decide) _ (by decide)
    have k16 : PySem.W.kitOne K (.ref (c 13)) (.ref (c 16)) = some false := T.isa _ (by decide) _ (by decide)
    have k17 : PySem.W.kitOne K (.ref (c 13)) (.ref (c 17)) = some false := T.isa _ (by decide) _ (by decide)
    have k18 : PySem.W.kitOne K (.ref (c 13)) (.ref (c 18)) = some false := T.isa _ (by decide) _ (by decide)
    have kv := T.ve 13 (by decide)
    have em := T.er 13 (by decide)
    refine ⟨_, rfl, _, _, _, _, rfl, rfl, hd, .own _, em, k13, _, rfl, _, rfl, _, _, _, _, rfl, rfl, hd, .own _, em, k3, _, rfl, _, rfl, _, _, _, _, rfl, rfl, hd, .own _, em, k14, _, rfl, ?_⟩
    refine ⟨_, rfl, _, _, _, _, rfl, rfl, hd, .own _, em, k15, _, rfl, ?_⟩
    refine ⟨_, rfl, _, _, _, _, rfl, rfl, hd, .own _, em, k16, _, rfl, _, rfl, _, _, _, _, rfl, rfl, hd, .own _, em, k17, _, rfl, _, rfl, _, _, _, _, rfl, rfl, hd, .own _, em, k18, _, rfl, ?_⟩
    refine ⟨_, rfl, _, _, _, _, rfl, rfl, hd, .own _, em, k4, _, rfl, _, rfl, _, _, _, _, rfl, rfl, hd, .own _, em, k5, _, rfl, _, rfl, _, _, _, _, rfl, rfl, hd, .own _, em, k6, _, rfl, ?_⟩
    refine ⟨_, rfl, _, _, _, _, rfl, rfl, hd, .own _, em, k7, _, rfl, _, rfl, _, _, _, _, rfl, rfl, hd, .own _, em, k8, _, rfl, _, rfl, _, _, _, _, rfl, rfl, hd, .own _, em, k9, _, rfl, ?_⟩
    refine ⟨_, rfl, _, _, _, _, rfl, rfl, hd, .own _, em, k10, _, rfl, _, rfl, _, _, _, _, rfl, rfl, hd, .own _, em, k11, _, rfl, _, rfl, _, _, _, _, rfl, rfl, hd, .own _, em, k12, _, rfl, ?_⟩
    refine ⟨_, rfl, _, _, _, _, rfl, rfl, hd, .ty _, em, kv, _, rfl, ?_⟩
    refine ⟨_, rfl, _, rfl, by show 2 ≤ sizeLine; decide, fun tp ntp => ?_⟩
    exact q "mismatch" [] tp kl _ (s0.trans (same_new ntp)) (SqT.of upd_same) (same_new ntp _ _ hk) (.inl ⟨hn, rfl, rfl⟩)
  · refine ⟨kl, _, _, rfl, rfl, s1 _ _ hk, by decide, ?_⟩
    refine ⟨_, rfl, _, rfl, by show 2 ≤ sizeLine; decide, fun tp ntp => ?_⟩
    have nkH : H kl = none := nk
    have sk : Same H (upd H1 kl (.lst ([] ++ [.ref p]))) := fun b o hb => by
      rw [upd_ne (ne_of_none hb nkH)]
      exact s1 _ _ (s0 _ _ hb)
    have hc' : ConAt K (c id_Contract) (upd H1 kl (.lst ([] ++ [.ref p]))) p (joinC c1 c2) := by
      obtain ⟨dx, sv, hp, hs⟩ := hc
      have hkl := s1 _ _ hk
      refine ⟨dx, sv, (upd_ne fun z => ?_).trans hp, dp_mut hkl 3 ?_ hs⟩
      · subst z
        rw [hkl] at hp
        cases hp
      · have jo := join_ok o1 o2 l8
        exact ok_st (Nat.le_trans jo.l3 (by decide)) (Nat.le_trans jo.a4 (by decide)) (Nat.le_trans jo.s8 (by decide)) jo.rows
    exact q "" [.ref p] tp kl _ (sk.trans (same_new ntp)) (SqT.of upd_same) (same_new ntp _ _ upd_same) (.inr (.inr ⟨⟨el, ea⟩, l8, rfl, p, rfl, hc'.same (same_new ntp)⟩))
  · refine ⟨true, exm 15 (by decide), fun _ a na => ?_, fun z => nomatch z⟩
    have hd : (some d : Option Addr) = none ∨ ∃ dd fs, (some d : Option Addr) = some dd ∧ H1 dd = some (.xd fs) := .inr ⟨d, _, rfl, hd1⟩
    have k2 : PySem.W.kitOne K (.ref (c 15)) (.ref (c 2)) = some true := T.isa _ (by decide) _ (by decide)
    have k3 : PySem.W.kitOne K (.ref (c 15)) (.ref (c 3)) = some false := T.isa _ (by decide) _ (by decide)
    have k4 : PySem.W.kitOne K (.ref (c 15)) (.ref (c 4)) = some false := T.isa _ (by decide) _ (by decide)
    have k5 : PySem.W.kitOne K (.ref (c 15)) (.ref (c 5)) = some false := T.isa _ (by decide) _ (by decide)
    have k6 : PySem.W.kitOne K (.ref (c 15)) (.ref (c 6)) = some false := T.isa _ (by decide) _ (by decide)
    have k7 : PySem.W.kitOne K (.ref (c 15)) (.ref (c 7)) = some false := T.isa _ (by decide) _ (by decide)
    have k8 : PySem.W.kitOne K (.ref (c 15)) (.ref (c 8)) = some false := T.isa _ (by decide) _ (by decide)
    have k9 : PySem.W.kitOne K (.ref (c 15)) (.ref (c 9)) = some false := T.isa _ (by decide) _ (by decide)
    have k10 : PySem.W.kitOne K (.ref (c 15)) (.ref (c 10)) = some false := T.isa _ (by decide) _ (by decide)
    have k11 : PySem.W.kitOne K (.ref (c 15)) (.ref (c 11)) = some false := T.isa _ (by decide) _ (by decide)
    have k12 : PySem.W.kitOne K (.ref (c 15)) (.ref (c 12)) = some false := T.isa _ (by decide) _ (by decide)
    have k13 : PySem.W.kitOne K (.ref (c 15)) (.ref (c 13)) = some false := T.isa _ (by decide) _ (by decide)
    have k14 : PySem.W.kitOne K (.ref (c 15)) (.ref (c 14)) = some true := T.isa _ (by decide) _ (by decide)
    have k15 : PySem.W.kitOne K (.ref (c 15)) (.ref (c 15)) = some true := T.isa _ (by decide) _ (by decide)
    have k16 : PySem.W.kitOne K (.ref (c 15)) (.ref (c 16)) = some false := T.isa _ (by decide) _ (by decide)
    have k17 : PySem.W.kitOne K (.ref (c 15)) (.ref (c 17)) = some false := T.isa _ (by decide) _ (by decide)
    have k18 : PySem.W.kitOne K (.ref (c 15)) (.ref (c 18)) = some false := T.isa _ (by decide) _ (by decide)
    have kv := T.ve 15 (by decide)
    have em := T.er 15 (by decide)
    refine ⟨_, rfl, _, _, _, _, rfl, rfl, hd, .own _, em, k13, _, rfl, ?_⟩
    refine ⟨_, rfl, _, _, _, _, rfl, rfl, hd, .own _, em, k15, _, rfl, _, rfl, _, _, _, _, rfl, rfl, hd, .own _, em, k14, _, rfl, _, rfl, _, _, _, _, rfl, rfl, hd, .own _, em, k3, _, rfl, ?_⟩
    refine ⟨_, rfl, rfl, rfl, d, _, _, rfl, hd1, rfl, _, _, _, _, true, rfl, .ty _, .base (.str _), kit_ty (by decide +kernel), _, rfl, ?_⟩
    refine ⟨_, rfl, rfl, rfl, d, _, _, rfl, hd1, rfl, _, _, rfl, rfl, by decide +kernel, ?_⟩
    refine ⟨_, rfl, _, _, _, _, rfl, rfl, hd, .own _, em, k16, _, rfl, _, rfl, _, _, _, _, rfl, rfl, hd, .own _, em, k17, _, rfl, _, rfl, _, _, _, _, rfl, rfl, hd, .own _, em, k18, _, rfl, ?_⟩
    refine ⟨_, rfl, _, _, _, _, rfl, rfl, hd, .own _, em, k4, _, rfl, _, rfl, _, _, _, _, rfl, rfl, hd, .own _, em, k5, _, rfl, _, rfl, _, _, _, _, rfl, rfl, hd, .own _, em, k6, _, rfl, ?_⟩
    refine ⟨_, rfl, _, _, _, _, rfl, rfl, hd, .own _, em, k7, _, rfl, _, rfl, _, _, _, _, rfl, rfl, hd, .own _, em, k8, _, rfl, _, rfl, _, _, _, _, rfl, rfl, hd, .own _, em, k9, _, rfl, ?_⟩
    refine ⟨_, rfl, _, _, _, _, rfl, rfl, hd, .own _, em, k10, _, rfl, _, rfl, _, _, _, _, rfl, rfl, hd, .own _, em, k11, _, rfl, _, rfl, _, _, _, _, rfl, rfl, hd, .own _, em, k12, _, rfl, ?_⟩
    refine ⟨_, rfl, _, _, _, _, rfl, rfl, hd, .ty _, em, kv, _, rfl, ?_⟩
    refine ⟨_, rfl, _, rfl, by show 2 ≤ sizeLine; decide, fun tp ntp => ?_⟩
    exact q _ [] tp kl _ ((s0.trans s1).trans (same_new ntp)) (SqT.of upd_same) (same_new ntp _ _ (s1 _ _ hk)) (.inr (.inl ⟨⟨el, ea⟩, hg, by decide +kernel, rfl⟩))


end
end Pf

namespace Pf
open PySem PySem.Spec PyProof.Rows L2
section
variable {P : Program} {w : World} {K : PySem.W.Frag} {mg : Str → Option Value} {base : Heap}
variable {c : Nat → Addr}
/-- an if that sets one name, in the middle of a block -/
theorem if_join {cc : TT} {te : TE} {u : TS} {D : Ends} {σ : L2.St} {H : Hp} {i : Nat} {x0 : V} (Pf : V → Hp → Prop) (key : ∀ x H', Pf x H' → u D (σ.set i (some x)) H') (hσ : σ.set i (some x0) = σ)
    (h : ∀ R : V → Hp → Prop, (∀ x H', Pf x H' → R x H') → cc σ H fun b H1 => if b = true then te σ H1 R else R x0 H1) : tSeq (tIfS cc (tAsg te (gName i)) tNext) u D σ H := by
  have z := h (fun x H' => u D (σ.set i (some x)) H') key
  simp only [hσ] at z
  exact z
theorem ok_cn {cn : Cn} (h : cn.Ok) : tupOk 4 cn.d := by
  have h1 : ∀ i : Int, tupOk 3 (.int i) := fun i => by simp [tupOk]
  have h2 : tupOk 3 (stD cn.st) := ok_st (Nat.le_trans h.l3 (by decide)) (Nat.le_trans h.a4 (by decide)) (Nat.le_trans h.s8 (by decide)) h.rows
  refine ⟨by show 3 ≤ 100000; decide, fun d hd => ?_⟩
  rcases List.mem_cons.mp hd with rfl | hd
  · exact h1 _
  rcases List.mem_cons.mp hd with rfl | hd
  · exact h1 _
  · rcases List.mem_singleton.mp hd with rfl
    exact h2
def sp__law_sides (K : PySem.W.Frag) : Sp := fun vs H Q _ => ∃ (a : Addr) (ns : List Int), vs = [.ref a] ∧ SqL K H a (ns.map V.int) ∧ ∀ (S : Addr) (v1 v2 : V) (c1 c2 : Cn) (H' : Hp), Same H H' → H' S = some (.lst [v1, v2]) → Dp K H' v1 c1.d → Dp K H' v2 c2.d → c1.Ok → c2.Ok → Q (.ref S) H'
theorem ok__law_sides (T : Txt P K mg c) : Has P w K mg base 4 "_law_sides" ["script"] (sp__law_sides K) := by
  obtain ⟨f, fd, F, m, b⟩ := T.d__law_sides.ex
  obtain ⟨f__law_reader, fd__law_reader, G__law_reader, m__law_reader, k__law_reader, b__law_reader⟩ := ok__law_reader (P := P) (w := w) (base := base) T
  obtain ⟨f__law_cell, fd__law_cell, G__law_cell, m__law_cell, k__law_cell, b__law_cell⟩ := ok__law_cell (P := P) (w := w) (base := base) T
  obtain ⟨f__law_next, fd__law_next, G__law_next, m__law_next, k__law_next, b__law_next⟩ := ok__law_next (P := P) (w := w) (base := base) T
  obtain ⟨f__law_states, fd__law_states, G__law_states, m__law_states, k__law_states, b__law_states⟩ := ok__law_states (P := P) (w := w) (base := base) T
  refine ⟨f, fd, F.ok sc__law_sides (fun vs H Q E h => ?_) (fun cdv A outer s H vs Q E hr h => ?_), m, F.kp, b⟩
  · obtain ⟨a, ns, rfl, hS, q⟩ := h
    rfl
  obtain ⟨a, ns, rfl, hS, q⟩ := h
  refine ⟨_, (pss_cons (ps_set (i := 1) sc__law_sides.nd rfl (.inl rfl) (pe_call G__law_reader (hr.mono (by decide)) (by rfl) m__law_reader k__law_reader b__law_reader .nil pass0 (pa_cons (pe_call G__law_cell (hr.mono (by decide)) (by rfl) m__law_cell k__law_cell b__law_cell .nil pass0 (pa_cons (pv 0) (pa_cons pe_int pa_nil))) pa_nil)))
      (pss_cons (ps_set (i := 2) sc__law_sides.nd rfl (.inl rfl) (pe_op op_add pe_int (pe_call G__law_next (hr.mono (by decide)) (by rfl) m__law_next k__law_next b__law_next .nil pass0 (pa_cons (pv 1) (pa_cons pe_int pa_nil)))))
      (pss_cons (ps_set (i := 3) sc__law_sides.nd rfl (.inl rfl) (pe_op op_add pe_int (pe_call G__law_next (hr.mono (by decide)) (by rfl) m__law_next k__law_next b__law_next .nil pass0 (pa_cons (pv 1) (pa_cons pe_int pa_nil)))))
      (pss_cons (ps_set (i := 4) sc__law_sides.nd rfl (.inl rfl) (pe_call G__law_next (hr.mono (by decide)) (by rfl) m__law_next k__law_next b__law_next .nil pass0 (pa_cons (pv 1) (pa_cons pe_int pa_nil))))
      (pss_cons (ps_set (i := 5) sc__law_sides.nd rfl (.inl rfl) (pe_lst pa_nil))
      (pss_cons (ps_for PassesOwn.never rfl (pi_range1 (by rfl) T.z_range (pa_cons pe_int pa_nil)) (pg_name (i := 6) sc__law_sides.nd rfl (.inl rfl))
      (pss_cons (ps_set (i := 7) sc__law_sides.nd rfl (.inl rfl) (pe_call G__law_reader (hr.mono (by decide)) (by rfl) m__law_reader k__law_reader b__law_reader .nil pass0 (pa_cons (pe_call G__law_cell (hr.mono (by decide)) (by rfl) m__law_cell k__law_cell b__law_cell .nil pass0 (pa_cons (pv 0) (pa_cons (pe_op op_add pe_int (pv 6)) pa_nil))) pa_nil)))
        (pss_cons (ps_if (PW.pt (pw_and (pt_cmpR op_eq (pv 6) pe_int (nomark _)) (pw_and1 (pt_cmpR op_in_seq (pv 4) (pe_lst (pa_cons pe_int (pa_cons pe_int pa_nil))) (by rfl)))))
        (pss_one (ps_set (i := 2) sc__law_sides.nd rfl (.inl rfl) (pe_op op_add pe_int (pe_op op_mod (pe_callTy call_int1 (by rfl) T.z_int (by decide +kernel) (pa_cons (pe_op op_add (pv 2) (pe_call G__law_next (hr.mono (by decide)) (by rfl) m__law_next k__law_next b__law_next .nil pass0 (pa_cons (pv 1) (pa_cons pe_int pa_nil)))) pa_nil)) pe_int))))
        pss_nil)
        (pss_cons (ps_if (PW.pt (pw_and (pt_cmpR op_eq (pv 6) pe_int (nomark _)) (pw_and1 (pt_cmpR op_in_seq (pv 4) (pe_lst (pa_cons pe_int (pa_cons pe_int pa_nil))) (by rfl)))))
        (pss_one (ps_set (i := 3) sc__law_sides.nd rfl (.inl rfl) (pe_op op_add pe_int (pe_op op_mod (pe_callTy call_int1 (by rfl) T.z_int (by decide +kernel) (pa_cons (pe_op op_add (pe_op op_sub (pv 3) pe_int) (pe_call G__law_next (hr.mono (by decide)) (by rfl) m__law_next k__law_next b__law_next .nil pass0 (pa_cons (pv 1) (pa_cons pe_int pa_nil)))) pa_nil)) pe_int))))
        pss_nil)
        (pss_cons (ps_set (i := 8) sc__law_sides.nd rfl (.inl rfl) (pe_op op_add pe_int (pe_call G__law_next (hr.mono (by decide)) (by rfl) m__law_next k__law_next b__law_next .nil pass0 (pa_cons (pv 7) (pa_cons pe_int pa_nil)))))
        (pss_cons (ps_if (pt_cmpR op_eq (pe_call G__law_next (hr.mono (by decide)) (by rfl) m__law_next k__law_next b__law_next .nil pass0 (pa_cons (pv 7) (pa_cons pe_int pa_nil))) pe_int (nomark _))
        (pss_one (ps_set (i := 8) sc__law_sides.nd rfl (.inl rfl) (pe_op op_add pe_int (pe_call G__law_next (hr.mono (by decide)) (by rfl) m__law_next k__law_next b__law_next .nil pass0 (pa_cons (pv 7) (pa_cons pe_int pa_nil))))))
        pss_nil)
        (pss_one (ps_expr (pe_bm PySem.F.plainAttrs_list PySem.F.slot_list_append PySem.F.type_list_append mt_append (pv 5) (pa_cons (pe_tup (pa_cons (pv 2) (pa_cons (pv 3) (pa_cons (pe_call G__law_states (hr.mono (by decide)) (by rfl) m__law_states k__law_states b__law_states .nil pass0 (pa_cons (pv 7) (pa_cons (pv 2) (pa_cons (pv 3) (pa_cons (pv 8) pa_nil))))) pa_nil)))) pa_nil))))))))))
      (pss_cons (ps_if (pt_cmpR op_in_seq (pv 4) (pe_lst (pa_cons pe_int (pa_cons pe_int pa_nil))) (by rfl))
      (pss_one (ps_asg (pe_ix ix_list (pv 5) pe_int (fun _ _ => rfl)) (pg_sub (pv 5) pe_int set_list)))
      pss_nil)
      (pss_one (ps_ret (pv 5)))))))))), ?_⟩
  refine ⟨_, rfl, a, ns, 0, rfl, hS, fun c0 => ⟨c0, rfl, fun r H1 nr s1 R1 => ?_⟩⟩
  refine ⟨_, rfl, r, 3, rfl, R1, by decide, by decide, fun v2 H2 f2 R2 a2 b2 => ⟨_, _, rfl, rfl, ?_⟩⟩
  refine ⟨_, rfl, r, 3, rfl, R2, by decide, by decide, fun v3 H3 f3 R3 a3 b3 => ⟨_, _, rfl, rfl, ?_⟩⟩
  refine ⟨_, rfl, r, 12, rfl, R3, by decide, by decide, fun v4 H4 f4 R4 a4 b4 => ?_⟩
  refine ⟨by show 0 ≤ sizeLine; decide, fun S nS => ?_⟩
  have hSr : S ≠ r := R4.ne nS
  have s4 : Same H H4 := ((f2.trans f3).trans f4).back s1 nr
  refine ⟨2, rfl, by decide, by decide, for_range (n := 2) (fun i σ H' => ∃ (l an : Nat) (vs : List V) (cs : List Cn) (y6 y7 y8 : Option V), σ = [some (.ref a), some (.ref r), some (.int (l : Int)), some (.int (an : Int)), some (.int v4), some (.ref S), y6, y7, y8] ∧
    1 ≤ l ∧ l ≤ 3 ∧ 2 ≤ an ∧ an ≤ 4 ∧ Same H H' ∧ RD H' r ∧ H' S = some (.lst vs) ∧ DpAll K H' vs (cs.map Cn.d) ∧ cs.length = i ∧ ∀ x ∈ cs, x.Ok)
    ⟨(1 + v2).toNat, (2 + v3).toNat, [], [], none, none, none, ?_, by omega, by omega, by omega, by omega, same_mut s4 (s4.free nS) |> fun z => z, R4.of (same_new nS), upd_same, .nil, rfl, fun x h => nomatch h⟩ ?_ ?_⟩
  · rw [Int.toNat_of_nonneg (by omega), Int.toNat_of_nonneg (by omega)]
    rfl
  · rintro i σ H5 hi ⟨l, an, vs, cs, y6, y7, y8, rfl, hl1, hl3, ha2, ha4, s5, R5, hS5, hv, lc, oks⟩
    have gi : (0 : Int) + (i : Int) = (i : Int) := Int.zero_add _
    rw [gi]
    refine ⟨_, rfl, _, rfl, _, _, rfl, rfl, a, ns, 1 + i, ?_, s5.seq hS, fun c1 => ⟨c1, rfl, fun o H6 no s6 Ro => ?_⟩⟩
    · show [V.ref a, V.int ((1 : Int) + (i : Int))] = _
      rw [show ((1 : Int) + (i : Int)) = ((1 + i : Nat) : Int) by omega]
    have no5 := no
    have s56 := s5.trans s6
    have R6 := R5.of s6
    have hS6 := s6 _ _ hS5
    have hro : o ≠ r := R5.ne no
    have hv6 := dpa_same s6 hv
    dsimp only
    -- letters
    refine if_join (i := 2) (x0 := .int (l : Int)) (fun x H' => ∃ l2 : Nat, x = .int (l2 : Int) ∧ 1 ≤ l2 ∧ l2 ≤ 3 ∧ Fr r H6 H' ∧ RD H' r) ?_ rfl (fun R k => ?_)
    case refine_2 =>
      refine ⟨_, rfl, rfl, _, rfl, ite2 (fun e => ?_) (fun e => ?_)⟩
      · refine ⟨_, rfl, by show 2 ≤ sizeLine; decide, fun nl hnl => ?_⟩
        have sl := same_new (o := .lst [.int 0, .int 2]) hnl
        refine ⟨nl, [.int 0, .int 2], rfl, .inl (SqL.of upd_same), rfl, rfl, _, rfl, ite2 (fun e => ?_) (fun e => ?_)⟩
        · refine ⟨_, rfl, _, rfl, r, 2, rfl, R6.of sl, by decide, by decide, fun v7 H7 f7 R7 a7 b7 => ⟨_, _, rfl, rfl, .inl ⟨_, rfl, _, _, rfl, rfl, (show (0 : Int) < 3 by decide), _, _, rfl, rfl, ?_⟩⟩⟩
          refine k _ _ ⟨(1 + ((l : Int) + v7) % 3).toNat, congrArg V.int (Int.toNat_of_nonneg (by omega)).symm, by omega, by omega, (Fr.of sl).trans f7, R7⟩
        · exact k _ _ ⟨l, rfl, hl1, hl3, Fr.of sl, R6.of sl⟩
      · exact k _ _ ⟨l, rfl, hl1, hl3, Fr.refl _ _, R6⟩
    rintro _ H7 ⟨l2, rfl, hl21, hl23, f7, R7⟩
    -- answers
    refine if_join (i := 3) (x0 := .int (an : Int)) (fun x H' => ∃ a2 : Nat, x = .int (a2 : Int) ∧ 2 ≤ a2 ∧ a2 ≤ 4 ∧ Fr r H7 H' ∧ RD H' r) ?_ rfl (fun R k => ?_)
    case refine_2 =>
      refine ⟨_, rfl, rfl, _, rfl, ite2 (fun e => ?_) (fun e => ?_)⟩
      · refine ⟨_, rfl, by show 2 ≤ sizeLine; decide, fun nl hnl => ?_⟩
        have sl := same_new (o := .lst [.int 1, .int 2]) hnl
        refine ⟨nl, [.int 1, .int 2], rfl, .inl (SqL.of upd_same), rfl, rfl, _, rfl, ite2 (fun e => ?_) (fun e => ?_)⟩
        · refine ⟨_, rfl, _, _, rfl, rfl, _, rfl, r, 2, rfl, R7.of sl, by decide, by decide, fun v8 H8 f8 R8 a8 b8 => ⟨_, _, rfl, rfl, .inl ⟨_, rfl, _, _, rfl, rfl, (show (0 : Int) < 3 by decide), _, _, rfl, rfl, ?_⟩⟩⟩
          refine k _ _ ⟨(2 + ((an : Int) - 1 + v8) % 3).toNat, congrArg V.int (Int.toNat_of_nonneg (by omega)).symm, by omega, by omega, (Fr.of sl).trans f8, R8⟩
        · exact k _ _ ⟨an, rfl, ha2, ha4, Fr.of sl, R7.of sl⟩
      · exact k _ _ ⟨an, rfl, ha2, ha4, Fr.refl _ _, R7⟩
    rintro _ H8 ⟨an2, rfl, ha22, ha24, f8, R8⟩
    have f68 := f7.trans f8
    have Ro8 : RD H8 o := by
      obtain ⟨x1, x2, x3, e⟩ := Ro
      exact ⟨x1, x2, x3, f68 _ _ hro e⟩
    -- many
    refine ⟨_, rfl, o, 4, rfl, Ro8, by decide, by decide, fun v9 H9 f9 R9 a9 b9 => ⟨_, _, rfl, rfl, ?_⟩⟩
    dsimp only
    refine if_join (i := 8) (x0 := .int (1 + v9)) (fun x H' => ∃ m : Nat, x = .int (m : Int) ∧ 1 ≤ m ∧ m ≤ 8 ∧ Fr o H9 H' ∧ RD H' o) ?_ rfl (fun R k => ?_)
    case refine_2 =>
      refine ⟨_, rfl, o, 8, rfl, R9, by decide, by decide, fun v10 H10 f10 R10 a10 b10 => ⟨rfl, _, rfl, ite2 (fun e => ?_) (fun e => ?_)⟩⟩
      · refine ⟨_, rfl, o, 8, rfl, R10, by decide, by decide, fun v11 H11 f11 R11 a11 b11 => ⟨_, _, rfl, rfl, ?_⟩⟩
        exact k _ _ ⟨(1 + v11).toNat, congrArg V.int (Int.toNat_of_nonneg (by omega)).symm, by omega, by omega, f10.trans f11, R11⟩
      · exact k _ _ ⟨(1 + v9).toNat, congrArg V.int (Int.toNat_of_nonneg (by omega)).symm, by omega, by omega, f10, R10⟩
    rintro _ H12 ⟨m, rfl, hm1, hm8, f12, R12⟩
    have hSo : S ≠ o := ne_of_none hS5 no
    have f8c := f9.trans f12
    have hS12 := f8c _ _ hSo (f68 _ _ hSr hS6)
    refine ⟨_, rfl, .inl ⟨rfl, _, SqL.of hS12⟩, _, rfl, _, rfl, _, rfl, _, rfl, _, rfl, _, rfl, o, l2, an2, m, rfl, R12, hl23, ha24, hm8, fun v st H13 f13 R13 ls oksn hst => ?_⟩
    have f8d := f8c.trans f13
    have okn : (⟨l2, an2, st⟩ : Cn).Ok := ⟨hl21, hl23, ha22, ha24, by show 1 ≤ st.length; omega, by show st.length ≤ 8; omega, fun x hx => by
      have := oksn x hx
      rw [← ls] at this
      exact this⟩
    have okc : ∀ d ∈ cs.map Cn.d, tupOk 4 d := fun d hd => by
      obtain ⟨x, hx, rfl⟩ := List.mem_map.mp hd
      exact ok_cn (oks x hx)
    have hv13 := dpa_R 4 Ro8 f8d okc (dpa_R 4 R6 f68 okc hv6)
    have hS13 := f13 _ _ hSo hS12
    refine ⟨by show 3 ≤ sizeLine; decide, fun t nt => ⟨S, vs, _, rfl, rfl, same_new nt _ _ hS13, small1000 ?_, ?_⟩⟩
    · have := dpa_len hv
      rw [List.length_map] at this
      omega
    have st14 := same_new (o := .tup [.int (l2 : Int), .int (an2 : Int), v]) nt
    have hcn : Dp K (upd H13 t (.tup [.int (l2 : Int), .int (an2 : Int), v])) (.ref t) (⟨l2, an2, st⟩ : Cn).d := .tup (SqT.of upd_same) (.cons (.int _) (.cons (.int _) (.cons (dp_same st14 hst) .nil)))
    refine ⟨l2, an2, vs ++ [.ref t], cs ++ [⟨l2, an2, st⟩], _, _, _, rfl, hl21, hl23, ha22, ha24, ?_, ?_, upd_same, ?_, ?_, ?_⟩
    · intro b ob hb
      have hb5 := s5 _ _ hb
      have hbS : b ≠ S := ne_of_none hb (s4.free nS)
      rw [upd_ne hbS]
      exact st14 _ _ (f8d _ _ (ne_of_none hb5 no) (f68 _ _ (ne_of_none hb nr) (s6 _ _ hb5)))
    · obtain ⟨x1, x2, x3, e⟩ := R8
      exact ⟨x1, x2, x3, (upd_ne hSr.symm).trans (st14 _ _ (f8d _ _ hro.symm e))⟩
    · rw [List.map_append]
      exact push_dp 4 (st14 _ _ hS13) (dpa_same st14 hv13) okc hcn (ok_cn okn)
    · rw [List.length_append, lc]
      rfl
    · intro x hx
      rcases List.mem_append.mp hx with hx | hx
      · exact oks x hx
      · rcases List.mem_singleton.mp hx with rfl
        exact okn
  · rintro σ H5 ⟨l, an, vs, cs, y6, y7, y8, rfl, hl1, hl3, ha2, ha4, s5, R5, hS5, hv, lc, oks⟩
    obtain _ | ⟨c1, _ | ⟨c2, _ | ⟨c3, cs⟩⟩⟩ := cs
    · cases lc
    · cases lc
    case cons.cons.cons => simp at lc
    cases hv with
    | cons d1 hv =>
    cases hv with
    | cons d2 hv =>
    cases hv
    have o1 := oks c1 List.mem_cons_self
    have o2 := oks c2 (List.mem_cons_of_mem _ List.mem_cons_self)
    rename_i v1 v2
    refine ⟨_, rfl, by show 2 ≤ sizeLine; decide, fun nl hnl => ?_⟩
    have sl := same_new (o := .lst [.int 3, .int 4]) hnl
    have hS6 := sl _ _ hS5
    refine ⟨nl, [.int 3, .int 4], rfl, .inl (SqL.of upd_same), rfl, rfl, _, rfl, ite2 (fun e => ?_) (fun e => ?_)⟩
    · refine ⟨_, rfl, S, _, 0, v1, rfl, rfl, SqL.of hS6, atI_nat (j := 0) rfl, _, rfl, S, _, 1, 1, rfl, rfl, hS6, rfl, ?_⟩
      have d1' := dp_mut (o := .lst [v1, v1]) hS6 4 (ok_cn o1) (dp_same sl d1)
      refine ⟨_, rfl, q S v1 v1 c1 c1 _ (fun b ob hb => ?_) upd_same d1' d1' o1 o1⟩
      rw [upd_ne (ne_of_none hb (s4.free nS))]
      exact sl _ _ (s5 _ _ hb)
    · exact ⟨_, rfl, q S v1 v2 c1 c2 _ (s5.trans sl) hS6 (dp_same sl d1) (dp_same sl d2) o1 o2⟩


end
end Pf

namespace Pf
open PySem PySem.Spec PyProof.Rows L2
section
variable {P : Program} {w : World} {K : PySem.W.Frag} {mg : Str → Option Value} {base : Heap}
variable {c : Nat → Addr}
def sp_law (K : PySem.W.Frag) : Sp := fun vs H Q _ => ∃ (a : Addr) (ns : List Int), vs = [.ref a] ∧ SqL K H a (ns.map V.int) ∧ ns.length ≤ 63 ∧ ∀ H', Q (.bl true) H'
mutual
theorem dl_dp {K : PySem.W.Frag} {H : Hp} : ∀ {v : V} {d : PyData} (n : Nat), tupOk n d → Dp K H v d → Dl K H v d
  | _, _, _, _, .non => .non
  | _, _, _, _, .bl b => .bl b
  | _, _, _, _, .int i => .int i
  | _, _, _, _, .str x => .str x
  | _, _, 0, h, .lst _ _ => h.elim
  | _, _, _ + 1, h, .lst _ _ => h.elim
  | _, _, 0, h, .tup _ _ => h.elim
  | _, _, n + 1, h, .tup q k => .tup q (dla_dp n h.2 k)
theorem dla_dp {K : PySem.W.Frag} {H : Hp} : ∀ {xs : List V} {ds : List PyData} (n : Nat), (∀ d ∈ ds, tupOk n d) → DpAll K H xs ds → DlAll K H xs ds
  | _, _, _, _, .nil => .nil
  | _, _, n, h, .cons p k => .cons (dl_dp n (h _ List.mem_cons_self) p) (dla_dp n (fun d hd => h d (List.mem_cons_of_mem _ hd)) k)
end
theorem ok_stc {cn : Cn} (h : cn.Ok) : tupOk 3 (stD cn.st) := ok_st (Nat.le_trans h.l3 (by decide)) (Nat.le_trans h.a4 (by decide)) (Nat.le_trans h.s8 (by decide)) h.rows
theorem raw_dp {K : PySem.W.Frag} {H : Hp} {v : V} {cn : Cn} (ho : cn.Ok) (h : Dp K H v (stD cn.st)) : RawSt K H v cn.st := by
  refine ⟨stD cn.st, dl_dp 3 (ok_stc ho) h, cn.st.map Row.d, .inr rfl, by rw [List.length_map], fun i d' r e1 e2 => ?_⟩
  rw [List.getElem?_map, e2] at e1
  cases e1
  exact ⟨_, _, rfl, .inr rfl, .inr rfl⟩
theorem conAt_mut {K : PySem.W.Frag} {C : Addr} {H : Hp} {p D : Addr} {cn : Cn} {ys : List V} {o : HO} (ho : cn.Ok) (e : H D = some (.lst ys)) (h : ConAt K C H p cn) : ConAt K C (upd H D o) p cn := by
  obtain ⟨dx, sv, hp, hs⟩ := h
  refine ⟨dx, sv, (upd_ne fun z => ?_).trans hp, dp_mut e 3 (ok_stc ho) hs⟩
  subst z
  rw [e] at hp
  cases hp
theorem ok_law {f : Addr} {fd : FuncData} (T : Txt P K mg c) (F : Fun K "law" "law" s_law f fd) : FnOk P w K mg base CX0 10 f fd ["script"] (sp_law K) := by
  obtain ⟨f__law_sides, fd__law_sides, G__law_sides, m__law_sides, k__law_sides, b__law_sides⟩ := ok__law_sides (P := P) (w := w) (base := base) T
  obtain ⟨f_Contract_init, fd_Contract_init, G_Contract_init, M_Contract_init, b_Contract_init⟩ := ok_Contract_init (P := P) (w := w) (base := base) T
  obtain ⟨f__law_joined, fd__law_joined, G__law_joined, m__law_joined, k__law_joined, b__law_joined⟩ := ok__law_joined (P := P) (w := w) (base := base) T
  obtain ⟨f__law_told, fd__law_told, G__law_told, m__law_told, k__law_told, b__law_told⟩ := ok__law_told (P := P) (w := w) (base := base) T
  obtain ⟨f__law_right, fd__law_right, G__law_right, m__law_right, k__law_right, b__law_right⟩ := ok__law_right (P := P) (w := w) (base := base) T
  refine F.ok sc_law (fun vs H Q E h => ?_) (fun cdv A outer s H vs Q E hr h => ?_)
  · obtain ⟨sc, ns, rfl, hS, hl, q⟩ := h
    rfl
  obtain ⟨sc, ns, rfl, hS, hl, q⟩ := h
  refine ⟨_, (pss_cons (ps_set (i := 1) sc_law.nd rfl (.inr rfl) (pe_call G__law_sides (hr.mono (by decide)) (by rfl) m__law_sides k__law_sides b__law_sides .nil pass0 (pa_cons (pv 0) pa_nil)))
      (pss_cons (ps_set (i := 2) sc_law.nd rfl (.inr rfl) (pe_lc (own := [("side", 6)]) (g := gName 6) (by rfl) sc_law.nd (pi_list (pv 1)) (blkOk_by (own := [("side", 6)]) (N := ["script", "sides", "contracts", "asked", "due", "told", "side", "turn"]) (sc := defScope s_law) (by decide +kernel)) (fun _ _ _ _ _ => pg_name (i := 6) sc_law.nd rfl (Or.inl rfl)) (fun _ _ _ _ _ => pts_nil) (fun _ _ _ _ _ => (pe_make M_Contract_init G_Contract_init (hr.mono (by decide)) (by rfl) T.g_Contract b_Contract_init .nil pass0 (pa_cons (pe_ix (ix_tupK (K := K) rfl) (pv 6) pe_int (fun _ _ => rfl)) (pa_cons (pe_ix (ix_tupK (K := K) rfl) (pv 6) pe_int (fun _ _ => rfl)) (pa_cons (pe_ix (ix_tupK (K := K) rfl) (pv 6) pe_int (fun _ _ => rfl)) pa_nil)))))))
      (pss_cons (ps_for PassesOwn.never rfl (pi_list (pe_lst (pa_cons (pe_tup (pa_cons pe_int (pa_cons pe_int pa_nil))) (pa_cons (pe_tup (pa_cons pe_int (pa_cons pe_int pa_nil))) (pa_cons (pe_tup (pa_cons pe_int (pa_cons pe_int pa_nil))) (pa_cons (pe_tup (pa_cons pe_int (pa_cons pe_int pa_nil))) pa_nil)))))) (pg_name (i := 3) sc_law.nd rfl (.inl rfl))
      (pss_cons (ps_set (i := 4) sc_law.nd rfl (.inl rfl) (pe_call G__law_joined (hr.mono (by decide)) (by rfl) m__law_joined k__law_joined b__law_joined .nil pass0 (pa_cons (pe_ix ix_list (pv 1) (pe_ix ix_tup (pv 3) pe_int (fun _ _ => rfl)) (fun _ _ => rfl)) (pa_cons (pe_ix ix_list (pv 1) (pe_ix ix_tup (pv 3) pe_int (fun _ _ => rfl)) (fun _ _ => rfl)) pa_nil))))
        (pss_cons (ps_set (i := 5) sc_law.nd rfl (.inl rfl) (pe_call G__law_told (hr.mono (by decide)) (by rfl) m__law_told k__law_told b__law_told .nil pass0 (pa_cons (pe_ix ix_list (pv 2) (pe_ix ix_tup (pv 3) pe_int (fun _ _ => rfl)) (fun _ _ => rfl)) (pa_cons (pe_ix ix_list (pv 2) (pe_ix ix_tup (pv 3) pe_int (fun _ _ => rfl)) (fun _ _ => rfl)) pa_nil))))
        (pss_cons (ps_if (PW.pt (pw_or (pt_cmpR op_ne (pe_ix ix_tup (pv 5) pe_int (fun _ _ => rfl)) (pe_ix ix_tup (pv 4) pe_int (fun _ _ => rfl)) (nomark _)) (pw_or1 (pt_cmpR op_ne (pe_callB call_len_seq (by rfl) T.z_len (by decide +kernel) (pa_cons (pe_ix ix_tup (pv 5) pe_int (fun _ _ => rfl)) pa_nil)) (pe_callTy call_int1 (by rfl) T.z_int (by decide +kernel) (pa_cons (pe_cmpR op_eq (pe_ix ix_tup (pv 4) pe_int (fun _ _ => rfl)) pe_str (nomark _)) pa_nil)) (nomark _)))))
        (pss_one (ps_ret pe_bl))
        pss_nil)
        (pss_one (ps_if (PW.pt (pw_and (pt_cmpR op_eq (pe_ix ix_tup (pv 4) pe_int (fun _ _ => rfl)) pe_str (nomark _)) (pw_and1 (pt_not (pt_val (pe_call G__law_right (hr.mono (by decide)) (by rfl) m__law_right k__law_right b__law_right .nil pass0 (pa_cons (pe_ix ix_list (pe_ix ix_tup (pv 5) pe_int (fun _ _ => rfl)) pe_int (fun _ _ => rfl)) (pa_cons (pe_ix ix_tup (pv 4) pe_int (fun _ _ => rfl)) pa_nil))))))))
        (pss_one (ps_ret pe_bl))
        pss_nil))))))
      (pss_one (ps_ret (pe_callB (cr_all rfl) (by rfl) T.z_all (by decide +kernel) (pa_cons (pe_lc (own := [("turn", 7)]) (g := gName 7) (by rfl) sc_law.nd (pi_range1 (by rfl) T.z_range (pa_cons pe_int pa_nil)) (blkOk_by (own := [("turn", 7)]) (N := ["script", "sides", "contracts", "asked", "due", "told", "side", "turn"]) (sc := defScope s_law) (by decide +kernel)) (fun _ _ _ _ _ => pg_name (i := 7) sc_law.nd rfl (Or.inl rfl)) (fun _ _ _ _ _ => pts_nil) (fun _ _ _ _ _ => (pe_call G__law_right (hr.mono (by decide)) (by rfl) m__law_right k__law_right b__law_right .nil pass0 (pa_cons (pe_ix (ix_listK (K := K) rfl) (pv 2) (pv 7) (fun _ _ => rfl)) (pa_cons (pe_ix (ix_listK (K := K) rfl) (pv 1) (pv 7) (fun _ _ => rfl)) pa_nil))))) pa_nil))))))), ?_⟩
  refine ⟨_, rfl, sc, ns, rfl, hS, fun S v1 v2 c1 c2 H1 s1 hSS d1 d2 o1 o2 => ?_⟩
  have kc : ∀ (j : Nat) (x : V), [v1, v2][j]? = some x → ∃ cn, [c1, c2][j]? = some cn ∧ Dp K H1 x cn.d ∧ cn.Ok := fun j x hx => by
    obtain _ | _ | j := j
    · cases hx
      exact ⟨c1, rfl, d1, o1⟩
    · cases hx
      exact ⟨c2, rfl, d2, o2⟩
    · simp at hx
  have kok : ∀ (j : Nat) (cn : Cn), [c1, c2][j]? = some cn → cn.Ok := fun j x hx => by
    obtain _ | _ | j := j
    · cases hx
      exact o1
    · cases hx
      exact o2
    · simp at hx
  refine ⟨_, rfl, S, rfl, ⟨_, SqL.of hSS⟩, fun D nD => lc_it walk_list (fun i H' => Same H1 H' ∧ ∃ ps : List Addr, H' D = some (.lst (ps.map V.ref)) ∧ ps.length = i ∧ ∀ (j : Nat) (p : Addr) (cn : Cn), ps[j]? = some p → [c1, c2][j]? = some cn → ConAt K (c id_Contract) H' p cn)
    ⟨same_new nD, [], upd_same, rfl, fun j p cn h => by simp at h⟩ (fun i H' _ h' => h'.1.seq (SqL.of hSS)) ?_ ?_⟩
  · rintro i x H2 H3 hi ⟨s2, ps, hD, lp, hps⟩ ⟨rfl, hx⟩
    obtain ⟨cn, ecn, dcn, okn⟩ := kc i x hx
    have dcn2 := dp_same s2 dcn
    obtain ⟨a, xs0, x0, rfl, q0, i0, e0⟩ := dp_ix dcn2 (i := 0) rfl
    obtain ⟨a', xs1, x1, ee, q1, i1, e1⟩ := dp_ix dcn2 (i := 1) rfl
    cases ee
    obtain ⟨a', xs2, x2, ee, q2, i2, e2⟩ := dp_ix dcn2 (i := 2) rfl
    cases ee
    cases e0
    cases e1
    refine ⟨rfl, _, rfl, a, xs0, _, _, rfl, rfl, q0, i0, _, rfl, a, xs1, _, _, rfl, rfl, q1, i1, _, rfl, a, xs2, _, _, rfl, rfl, q2, i2, fun x dx nx ndx nex => ?_⟩
    have s3 : Same H3 (upd (upd H3 dx (.own x)) x (.ins (c id_Contract) dx [])) := fun b o e => by
      rw [upd_ne (ne_of_none e nx), upd_ne (ne_of_none e ndx)]
      exact e
    refine ⟨x, dx, cn, _, rfl, upd_same, okn, raw_dp okn (dp_same s3 e2), fun H' kp hc => ⟨rfl, ?_⟩⟩
    have s4 : Same H3 H' := fun b o e => kp b o (s3 _ _ e) (ne_of_none e nx)
    refine ⟨_, s4 _ _ hD, ?_, same_mut (s2.trans s4) nD, ps ++ [x], ?_, ?_, ?_⟩
    · rw [List.length_map]
      exact small1000 (by have : i < 2 := hi; omega)
    · rw [upd_same, List.map_append]
      rfl
    · rw [List.length_append, lp]
      rfl
    · intro j p cn' hj hcn
      by_cases hjl : j < ps.length
      · rw [List.getElem?_append_left hjl] at hj
        exact conAt_mut (kok j cn' hcn) (s4 _ _ hD) ((hps j p cn' hj hcn).same s4)
      · rw [List.getElem?_append_right (by omega)] at hj
        have hji : j = i := by
          have := (List.getElem?_eq_some_iff.mp hj).1
          have h1 : [x].length = 1 := rfl
          omega
        subst hji
        rw [lp, Nat.sub_self] at hj
        have hx' := Option.some.inj hj
        subst hx'
        rw [ecn] at hcn
        cases hcn
        exact conAt_mut okn (s4 _ _ hD) hc
  rintro H2 ⟨s2, ps, hD, lp, hps⟩
  obtain _ | ⟨p1, _ | ⟨p2, _ | ⟨p3, ps⟩⟩⟩ := ps
  · cases lp
  · cases lp
  case cons.cons.cons => simp at lp
  have hc1 := hps 0 p1 c1 rfl rfl
  have hc2 := hps 1 p2 c2 rfl rfl
  have hS2 := s2 _ _ hSS
  have d12 := dp_same s2 d1
  have d22 := dp_same s2 d2
  -- for asked in ..
  refine ⟨by show 2 ≤ sizeLine; decide, fun t1 n1 => ⟨by show 2 ≤ sizeLine; decide, fun t2 n2 => ⟨by show 2 ≤ sizeLine; decide, fun t3 n3 => ⟨by show 2 ≤ sizeLine; decide, fun t4 n4 => ⟨by show 4 ≤ sizeLine; decide, fun L nL => ?_⟩⟩⟩⟩⟩
  have u1 := same_new (o := .tup [.int 0, .int 1]) n1
  have u2 := same_new (o := .tup [.int 1, .int 0]) n2
  have u3 := same_new (o := .tup [.int 0, .int 0]) n3
  have u4 := same_new (o := .tup [.int 0, .int 1]) n4
  have uL := same_new (o := .lst [.ref t1, .ref t2, .ref t3, .ref t4]) nL
  have hL := upd_same (H := upd (upd (upd (upd H2 t1 (.tup [.int 0, .int 1])) t2 (.tup [.int 1, .int 0])) t3 (.tup [.int 0, .int 0])) t4 (.tup [.int 0, .int 1])) (a := L) (o := .lst [.ref t1, .ref t2, .ref t3, .ref t4])
  have kt : ∀ (j : Nat) (x : V), [V.ref t1, .ref t2, .ref t3, .ref t4][j]? = some x → ∃ (t : Addr) (i1 i2 : Nat), x = .ref t ∧ i1 < 2 ∧ i2 < 2 ∧ (upd (upd (upd (upd (upd H2 t1 (.tup [.int 0, .int 1])) t2 (.tup [.int 1, .int 0])) t3 (.tup [.int 0, .int 0])) t4 (.tup [.int 0, .int 1])) L (.lst [.ref t1, .ref t2, .ref t3, .ref t4])) t = some (.tup [.int (i1 : Int), .int (i2 : Int)]) := fun j x hx => by
    obtain _ | _ | _ | _ | j := j
    · cases hx
      exact ⟨t1, 0, 1, rfl, by decide, by decide, uL _ _ (u4 _ _ (u3 _ _ (u2 _ _ upd_same)))⟩
    · cases hx
      exact ⟨t2, 1, 0, rfl, by decide, by decide, uL _ _ (u4 _ _ (u3 _ _ upd_same))⟩
    · cases hx
      exact ⟨t3, 0, 0, rfl, by decide, by decide, uL _ _ (u4 _ _ upd_same)⟩
    · cases hx
      exact ⟨t4, 0, 1, rfl, by decide, by decide, uL _ _ upd_same⟩
    · simp at hx
  have sL := (((u1.trans u2).trans u3).trans u4).trans uL
  generalize upd (upd (upd (upd (upd H2 t1 (.tup [.int 0, .int 1])) t2 (.tup [.int 1, .int 0])) t3 (.tup [.int 0, .int 0])) t4 (.tup [.int 0, .int 1])) L (.lst [.ref t1, .ref t2, .ref t3, .ref t4]) = H3 at sL kt hL ⊢
  have hS3 := sL _ _ hS2
  have hD3 := sL _ _ hD
  have two : ∀ i : Nat, i < 2 → ∃ (v : V) (p : Addr) (cn : Cn), [v1, v2][i]? = some v ∧ ([p1, p2].map V.ref)[i]? = some (.ref p) ∧ Dp K H3 v cn.d ∧ cn.Ok ∧ ConAt K (c id_Contract) H3 p cn := fun i hi => by
    obtain _ | _ | i := i
    · exact ⟨v1, p1, c1, rfl, rfl, dp_same sL d12, o1, hc1.same sL⟩
    · exact ⟨v2, p2, c2, rfl, rfl, dp_same sL d22, o2, hc2.same sL⟩
    · omega
  refine ⟨L, rfl, ⟨_, SqL.of hL⟩, for_list (K := K) (a := L) (xs := [.ref t1, .ref t2, .ref t3, .ref t4]) (fun i σ H' => ∃ (y3 y4 y5 : Option V), σ = [some (.ref sc), some (.ref S), some (.ref D), y3, y4, y5, none, none] ∧ Same H3 H') ⟨none, none, none, rfl, Same.refl _⟩ (fun i σ H' _ h' => ?_) ?_ ?_⟩
  · obtain ⟨_, _, _, _, sh⟩ := h'
    exact SqL.of (sh _ _ hL)
  · rintro i x σ H4 hi ⟨y3, y4, y5, rfl, s4⟩
    obtain ⟨t, i1, i2, rfl, hi1, hi2, ht⟩ := kt i x hi
    obtain ⟨w1, r1, k1, ev1, ep1, dv1, ok1, cn1⟩ := two i1 hi1
    obtain ⟨w2, r2, k2, ev2, ep2, dv2, ok2, cn2⟩ := two i2 hi2
    have ht4 := SqT.of (K := K) (s4 _ _ ht)
    refine ⟨_, rfl, _, rfl, t, _, _, _, rfl, rfl, ht4, atI_nat (j := 0) rfl, S, _, _, _, rfl, rfl, SqL.of (s4 _ _ hS3), atI_nat ev1, _, rfl, _, rfl, t, _, _, _, rfl, rfl, ht4, atI_nat (j := 1) rfl, S, _, _, _, rfl, rfl, SqL.of (s4 _ _ hS3), atI_nat ev2, ?_⟩
    refine ⟨w1, w2, k1, k2, rfl, dp_same s4 dv1, dp_same s4 dv2, ok1, ok2, fun due H5 s5 hdue => ?_⟩
    have s45 := s4.trans s5
    have ht5 := SqT.of (K := K) (s45 _ _ ht)
    refine ⟨_, rfl, _, rfl, t, _, _, _, rfl, rfl, ht5, atI_nat (j := 0) rfl, D, _, _, _, rfl, rfl, SqL.of (s45 _ _ hD3), atI_nat ep1, _, rfl, _, rfl, t, _, _, _, rfl, rfl, ht5, atI_nat (j := 1) rfl, D, _, _, _, rfl, rfl, SqL.of (s45 _ _ hD3), atI_nat ep2, ?_⟩
    refine ⟨r1, r2, k1, k2, rfl, cn1.same s45, cn2.same s45, ok1, ok2, fun w ks tt kl H6 s6 htt hkl htold => ?_⟩
    have hdue6 := dp_same s6 hdue
    obtain ⟨dd, hjd, hw1, hw2⟩ : ∃ dd, jd k1 k2 = .tuple [.str w, dd] ∧ (w = "" → ∃ p cn, ks = [.ref p] ∧ ConAt K (c id_Contract) H6 p cn ∧ cn.Ok ∧ dd = cn.d) ∧ (¬ w = "" → ks = []) := by
      rcases htold with ⟨hn, rfl, rfl⟩ | ⟨hs, hg, rfl, rfl⟩ | ⟨hs, hg, rfl, p, rfl, hc⟩
      · exact ⟨.none, by unfold jd; rw [if_neg hn], fun e => absurd e (by decide +kernel), fun _ => rfl⟩
      · exact ⟨.none, by unfold jd; rw [if_pos hs, if_pos hg], fun e => absurd e (by decide +kernel), fun _ => rfl⟩
      · exact ⟨(joinC k1 k2).d, by unfold jd; rw [if_pos hs, if_neg (by omega)], fun _ => ⟨p, _, rfl, hc, join_ok ok1 ok2 hg, rfl⟩, fun e => absurd rfl e⟩
    rw [hjd] at hdue6
    obtain ⟨a, xs0, x0, rfl, q0, i0, e0⟩ := dp_ix hdue6 (i := 0) rfl
    obtain ⟨a', xs1, x1, ee, q1, i1', e1⟩ := dp_ix hdue6 (i := 1) rfl
    cases ee
    cases e0
    refine ⟨_, rfl, tt, _, _, _, rfl, rfl, htt, atI_nat (j := 0) rfl, _, rfl, a, xs0, _, _, rfl, rfl, q0, i0, rfl, _, rfl, nyes rfl ?_⟩
    refine ⟨_, rfl, tt, _, _, _, rfl, rfl, htt, atI_nat (j := 1) rfl, kl, ks, rfl, .inl (SqL.of hkl), _, rfl, a, xs0, _, _, rfl, rfl, q0, i0, rfl, .inr ⟨_, rfl, rfl, _, rfl, ?_⟩⟩
    by_cases hw : w = ""
    · obtain ⟨p, cn, hks, hcn, hok, hdd⟩ := hw1 hw
      have hb : decide (V.str w = V.str "") = true := decide_eq_true (congrArg V.str hw)
      have e2 : V.int ((ks.length : Nat) : Int) = V.int (if decide (V.str w = V.str "") = true then 1 else 0) := by
        rw [if_pos hb, hks]
        rfl
      refine nyes e2 ?_
      refine ⟨_, rfl, a, xs0, _, _, rfl, rfl, q0, i0, rfl, _, rfl, yes (congrArg V.str hw) ?_⟩
      rw [hks] at hkl
      refine ⟨_, rfl, tt, _, _, _, rfl, rfl, htt, atI_nat (j := 1) rfl, kl, _, _, _, rfl, rfl, SqL.of hkl, atI_nat (j := 0) rfl, _, rfl, a, xs1, _, _, rfl, rfl, q1, i1', p, x1, cn, rfl, hcn, hdd ▸ e1, hok, fun H7 s7 => ?_⟩
      exact ⟨_, rfl, _, _, _, rfl, (s45.trans s6).trans s7⟩
    · have hks := hw2 hw
      have hb : ¬ decide (V.str w = V.str "") = true := fun z => hw (V.str.inj (of_decide_eq_true z))
      have e2 : V.int ((ks.length : Nat) : Int) = V.int (if decide (V.str w = V.str "") = true then 1 else 0) := by
        rw [if_neg hb, hks]
        rfl
      refine nyes e2 ?_
      refine ⟨_, rfl, a, xs0, _, _, rfl, rfl, q0, i0, rfl, _, rfl, nope (fun z => hw (V.str.inj z)) ?_⟩
      exact ⟨_, _, _, rfl, s45.trans s6⟩
  · rintro σ H4 ⟨y3, y4, y5, rfl, s4⟩
    refine ⟨2, rfl, by decide, by decide, fun D4 nD4 => ?_⟩
    refine lc_range (lo := 0) (n := 2) (fun i H' => Same H4 H' ∧ H' D4 = some (.lst ((List.replicate i true).map V.bl))) ⟨same_new nD4, upd_same⟩ (fun i H' hi h => ?_) (fun H' h => ?_)
    · obtain ⟨s5, hD4⟩ := h
      obtain ⟨w1, r1, k1, ev1, ep1, dv1, ok1, cn1⟩ := two i hi
      have s45 := s4.trans s5
      have gi : (0 : Int) + (i : Int) = (i : Int) := Int.zero_add _
      refine ⟨rfl, _, rfl, _, rfl, D, _, _, .ref r1, rfl, rfl, SqL.of (s45 _ _ hD3), ?_, _, rfl, _, rfl, S, _, _, w1, rfl, rfl, SqL.of (s45 _ _ hS3), ?_, ?_⟩
      · rw [gi]
        exact atI_nat ep1
      · rw [gi]
        exact atI_nat ev1
      refine ⟨r1, w1, k1, rfl, cn1.same s45, dp_same s45 dv1, ok1, fun H7 s7 => ?_⟩
      refine ⟨_, s7 _ _ hD4, ?_, same_mut (s5.trans s7) nD4, ?_⟩
      · rw [List.length_map, List.length_replicate]
        exact small1000 (by omega)
      · rw [upd_same, List.replicate_succ', List.map_append]
        rfl
    · obtain ⟨s5, hD4⟩ := h
      refine ⟨D4, _, rfl, SqL.of hD4, ?_⟩
      rw [all_true]
      exact q H'


end
end Pf

namespace Pf
open PySem PySem.Spec PyProof.Rows L2
theorem all_mk {l : PySem.W.OpenLaw} {w : World} {K : PySem.W.Frag} {h : Heap} {mg : Str → Option Value} {fa f0 f1 f2 f3 f4 f5 f6 f7 f8 f9 f10 f11 f12 f13 f14 f15 f16 f17 f18 f19 f20 f21 f22 f23 : Addr} {C2 C3 C4 C5 C6 C7 C8 C9 C10 C11 C12 C13 C14 C15 C16 C17 C18 C28 : Addr} (X : K.In h) (G : h.Ns mainGlobals mg) (hfa : mg "law" = some (.ref fa))
    {od0 an0 od1 an1 od2 an2 od3 an3 od4 an4 od5 an5 od6 an6 od7 an7 od8 an8 od9 an9 od10 an10 od11 an11 od12 an12 od13 an13 od14 an14 od15 an15 od16 an16 od17 an17 od18 an18 od19 an19 od20 an20 od21 an21 od22 an22 od23 an23 : Option Addr}
    {sl0 sl1 sl2 sl3 sl4 sl5 sl6 sl7 sl8 sl9 sl10 sl11 sl12 sl13 sl14 sl15 sl16 sl17 sl18 sl19 sl20 sl21 sl22 sl23 : Array (Option Value)} {oc0 kV0 dc0 pm0 cd0 ct0 oc1 kV1 dc1 pm1 cd1 ct1 oc2 kV2 dc2 pm2 cd2 ct2 oc3 kV3 dc3 pm3 cd3 ct3 oc4 kV4 dc4 pm4 cd4 ct4 oc5 kV5 dc5 pm5 cd5 ct5 oc6 kV6 dc6 pm6 cd6 ct6 oc7 kV7 dc7 pm7 cd7 ct7 oc8 kV8 dc8 pm8 cd8 ct8 oc9 kV9 dc9 pm9 cd9 ct9 oc10 kV10 dc10 pm10 cd10 ct10 oc11 kV11 dc11 pm11 cd11 ct11 oc12 kV12 dc12 pm12 cd12 ct12 oc13 kV13 dc13 pm13 cd13 ct13 oc14 kV14 dc14 pm14 cd14 ct14 oc15 kV15 dc15 pm15 cd15 ct15 oc16 kV16 dc16 pm16 cd16 ct16 oc17 kV17 dc17 pm17 cd17 ct17 oc18 kV18 dc18 pm18 cd18 ct18 oc19 kV19 dc19 pm19 cd19 ct19 oc20 kV20 dc20 pm20 cd20 ct20 oc21 kV21 dc21 pm21 cd21 ct21 oc22 kV22 dc22 pm22 cd22 ct22 oc23 kV23 dc23 pm23 cd23 ct23 : Value}
    (a0 : PySem.W.nsIn K mainGlobals "_wall" = some (some (.ref f0))) (l0 : K.lookup f0 = some ⟨oc0, od0, .func (PySem.W.fnOf "_wall" "_wall" (defArgs s__wall) (defBody s__wall) (defScope s__wall) .none kV0 dc0 pm0 an0 cd0 ct0), sl0⟩) (c0 : PySem.W.codeIn K cd0 "_wall" = true) (k0 : PySem.W.keepIn K (.ref f0) = true)
    (a1 : PySem.W.nsIn K mainGlobals "frozen" = some (some (.ref f1))) (l1 : K.lookup f1 = some ⟨oc1, od1, .func (PySem.W.fnOf "frozen" "frozen" (defArgs s_frozen) (defBody s_frozen) (defScope s_frozen) .none kV1 dc1 pm1 an1 cd1 ct1), sl1⟩) (c1 : PySem.W.codeIn K cd1 "frozen" = true) (k1 : PySem.W.keepIn K (.ref f1) = true)
    (a2 : PySem.W.nsIn K mainGlobals "letters_reason" = some (some (.ref f2))) (l2 : K.lookup f2 = some ⟨oc2, od2, .func (PySem.W.fnOf "letters_reason" "letters_reason" (defArgs s_letters_reason) (defBody s_letters_reason) (defScope s_letters_reason) .none kV2 dc2 pm2 an2 cd2 ct2), sl2⟩) (c2 : PySem.W.codeIn K cd2 "letters_reason" = true) (k2 : PySem.W.keepIn K (.ref f2) = true)
    (a3 : PySem.W.nsIn K mainGlobals "first_reason" = some (some (.ref f3))) (l3 : K.lookup f3 = some ⟨oc3, od3, .func (PySem.W.fnOf "first_reason" "first_reason" (defArgs s_first_reason) (defBody s_first_reason) (defScope s_first_reason) .none kV3 dc3 pm3 an3 cd3 ct3), sl3⟩) (c3 : PySem.W.codeIn K cd3 "first_reason" = true) (k3 : PySem.W.keepIn K (.ref f3) = true)
    (a4 : PySem.W.nsIn K mainGlobals "states_reason" = some (some (.ref f4))) (l4 : K.lookup f4 = some ⟨oc4, od4, .func (PySem.W.fnOf "states_reason" "states_reason" (defArgs s_states_reason) (defBody s_states_reason) (defScope s_states_reason) .none kV4 dc4 pm4 an4 cd4 ct4), sl4⟩) (c4 : PySem.W.codeIn K cd4 "states_reason" = true) (k4 : PySem.W.keepIn K (.ref f4) = true)
    (a5 : PySem.W.nsIn K mainGlobals "events_of" = some (some (.ref f5))) (l5 : K.lookup f5 = some ⟨oc5, od5, .func (PySem.W.fnOf "events_of" "events_of" (defArgs s_events_of) (defBody s_events_of) (defScope s_events_of) .none kV5 dc5 pm5 an5 cd5 ct5), sl5⟩) (c5 : PySem.W.codeIn K cd5 "events_of" = true) (k5 : PySem.W.keepIn K (.ref f5) = true)
    (a6 : PySem.W.nsIn K mainGlobals "both" = some (some (.ref f6))) (l6 : K.lookup f6 = some ⟨oc6, od6, .func (PySem.W.fnOf "both" "both" (defArgs s_both) (defBody s_both) (defScope s_both) .none kV6 dc6 pm6 an6 cd6 ct6), sl6⟩) (c6 : PySem.W.codeIn K cd6 "both" = true) (k6 : PySem.W.keepIn K (.ref f6) = true)
    (a7 : PySem.W.nsIn K mainGlobals "reached_pairs" = some (some (.ref f7))) (l7 : K.lookup f7 = some ⟨oc7, od7, .func (PySem.W.fnOf "reached_pairs" "reached_pairs" (defArgs s_reached_pairs) (defBody s_reached_pairs) (defScope s_reached_pairs) .none kV7 dc7 pm7 an7 cd7 ct7), sl7⟩) (c7 : PySem.W.codeIn K cd7 "reached_pairs" = true) (k7 : PySem.W.keepIn K (.ref f7) = true)
    (a8 : PySem.W.nsIn K mainGlobals "pair_target" = some (some (.ref f8))) (l8 : K.lookup f8 = some ⟨oc8, od8, .func (PySem.W.fnOf "pair_target" "pair_target" (defArgs s_pair_target) (defBody s_pair_target) (defScope s_pair_target) .none kV8 dc8 pm8 an8 cd8 ct8), sl8⟩) (c8 : PySem.W.codeIn K cd8 "pair_target" = true) (k8 : PySem.W.keepIn K (.ref f8) = true)
    (a9 : PySem.W.nsIn K mainGlobals "pair_row" = some (some (.ref f9))) (l9 : K.lookup f9 = some ⟨oc9, od9, .func (PySem.W.fnOf "pair_row" "pair_row" (defArgs s_pair_row) (defBody s_pair_row) (defScope s_pair_row) .none kV9 dc9 pm9 an9 cd9 ct9), sl9⟩) (c9 : PySem.W.codeIn K cd9 "pair_row" = true) (k9 : PySem.W.keepIn K (.ref f9) = true)
    (a10 : PySem.W.nsIn K mainGlobals "_law_cell" = some (some (.ref f10))) (l10 : K.lookup f10 = some ⟨oc10, od10, .func (PySem.W.fnOf "_law_cell" "_law_cell" (defArgs s__law_cell) (defBody s__law_cell) (defScope s__law_cell) .none kV10 dc10 pm10 an10 cd10 ct10), sl10⟩) (c10 : PySem.W.codeIn K cd10 "_law_cell" = true) (k10 : PySem.W.keepIn K (.ref f10) = true)
    (a11 : PySem.W.nsIn K mainGlobals "_law_reader" = some (some (.ref f11))) (l11 : K.lookup f11 = some ⟨oc11, od11, .func (PySem.W.fnOf "_law_reader" "_law_reader" (defArgs s__law_reader) (defBody s__law_reader) (defScope s__law_reader) .none kV11 dc11 pm11 an11 cd11 ct11), sl11⟩) (c11 : PySem.W.codeIn K cd11 "_law_reader" = true) (k11 : PySem.W.keepIn K (.ref f11) = true)
    (a12 : PySem.W.nsIn K mainGlobals "_law_next" = some (some (.ref f12))) (l12 : K.lookup f12 = some ⟨oc12, od12, .func (PySem.W.fnOf "_law_next" "_law_next" (defArgs s__law_next) (defBody s__law_next) (defScope s__law_next) .none kV12 dc12 pm12 an12 cd12 ct12), sl12⟩) (c12 : PySem.W.codeIn K cd12 "_law_next" = true) (k12 : PySem.W.keepIn K (.ref f12) = true)
    (a13 : PySem.W.nsIn K mainGlobals "_law_same" = some (some (.ref f13))) (l13 : K.lookup f13 = some ⟨oc13, od13, .func (PySem.W.fnOf "_law_same" "_law_same" (defArgs s__law_same) (defBody s__law_same) (defScope s__law_same) .none kV13 dc13 pm13 an13 cd13 ct13), sl13⟩) (c13 : PySem.W.codeIn K cd13 "_law_same" = true) (k13 : PySem.W.keepIn K (.ref f13) = true)
    (a14 : PySem.W.nsIn K mainGlobals "_law_target" = some (some (.ref f14))) (l14 : K.lookup f14 = some ⟨oc14, od14, .func (PySem.W.fnOf "_law_target" "_law_target" (defArgs s__law_target) (defBody s__law_target) (defScope s__law_target) .none kV14 dc14 pm14 an14 cd14 ct14), sl14⟩) (c14 : PySem.W.codeIn K cd14 "_law_target" = true) (k14 : PySem.W.keepIn K (.ref f14) = true)
    (a15 : PySem.W.nsIn K mainGlobals "_law_states" = some (some (.ref f15))) (l15 : K.lookup f15 = some ⟨oc15, od15, .func (PySem.W.fnOf "_law_states" "_law_states" (defArgs s__law_states) (defBody s__law_states) (defScope s__law_states) .none kV15 dc15 pm15 an15 cd15 ct15), sl15⟩) (c15 : PySem.W.codeIn K cd15 "_law_states" = true) (k15 : PySem.W.keepIn K (.ref f15) = true)
    (a16 : PySem.W.nsIn K mainGlobals "_law_events" = some (some (.ref f16))) (l16 : K.lookup f16 = some ⟨oc16, od16, .func (PySem.W.fnOf "_law_events" "_law_events" (defArgs s__law_events) (defBody s__law_events) (defScope s__law_events) .none kV16 dc16 pm16 an16 cd16 ct16), sl16⟩) (c16 : PySem.W.codeIn K cd16 "_law_events" = true) (k16 : PySem.W.keepIn K (.ref f16) = true)
    (a17 : PySem.W.nsIn K mainGlobals "_law_follow" = some (some (.ref f17))) (l17 : K.lookup f17 = some ⟨oc17, od17, .func (PySem.W.fnOf "_law_follow" "_law_follow" (defArgs s__law_follow) (defBody s__law_follow) (defScope s__law_follow) .none kV17 dc17 pm17 an17 cd17 ct17), sl17⟩) (c17 : PySem.W.codeIn K cd17 "_law_follow" = true) (k17 : PySem.W.keepIn K (.ref f17) = true)
    (a18 : PySem.W.nsIn K mainGlobals "_law_right" = some (some (.ref f18))) (l18 : K.lookup f18 = some ⟨oc18, od18, .func (PySem.W.fnOf "_law_right" "_law_right" (defArgs s__law_right) (defBody s__law_right) (defScope s__law_right) .none kV18 dc18 pm18 an18 cd18 ct18), sl18⟩) (c18 : PySem.W.codeIn K cd18 "_law_right" = true) (k18 : PySem.W.keepIn K (.ref f18) = true)
    (a19 : PySem.W.nsIn K mainGlobals "_law_pairs" = some (some (.ref f19))) (l19 : K.lookup f19 = some ⟨oc19, od19, .func (PySem.W.fnOf "_law_pairs" "_law_pairs" (defArgs s__law_pairs) (defBody s__law_pairs) (defScope s__law_pairs) .none kV19 dc19 pm19 an19 cd19 ct19), sl19⟩) (c19 : PySem.W.codeIn K cd19 "_law_pairs" = true) (k19 : PySem.W.keepIn K (.ref f19) = true)
    (a20 : PySem.W.nsIn K mainGlobals "_law_joined" = some (some (.ref f20))) (l20 : K.lookup f20 = some ⟨oc20, od20, .func (PySem.W.fnOf "_law_joined" "_law_joined" (defArgs s__law_joined) (defBody s__law_joined) (defScope s__law_joined) .none kV20 dc20 pm20 an20 cd20 ct20), sl20⟩) (c20 : PySem.W.codeIn K cd20 "_law_joined" = true) (k20 : PySem.W.keepIn K (.ref f20) = true)
    (a21 : PySem.W.nsIn K mainGlobals "_law_told" = some (some (.ref f21))) (l21 : K.lookup f21 = some ⟨oc21, od21, .func (PySem.W.fnOf "_law_told" "_law_told" (defArgs s__law_told) (defBody s__law_told) (defScope s__law_told) .none kV21 dc21 pm21 an21 cd21 ct21), sl21⟩) (c21 : PySem.W.codeIn K cd21 "_law_told" = true) (k21 : PySem.W.keepIn K (.ref f21) = true)
    (a22 : PySem.W.nsIn K mainGlobals "_law_sides" = some (some (.ref f22))) (l22 : K.lookup f22 = some ⟨oc22, od22, .func (PySem.W.fnOf "_law_sides" "_law_sides" (defArgs s__law_sides) (defBody s__law_sides) (defScope s__law_sides) .none kV22 dc22 pm22 an22 cd22 ct22), sl22⟩) (c22 : PySem.W.codeIn K cd22 "_law_sides" = true) (k22 : PySem.W.keepIn K (.ref f22) = true)
    (a23 : PySem.W.nsIn K mainGlobals "law" = some (some (.ref f23))) (l23 : K.lookup f23 = some ⟨oc23, od23, .func (PySem.W.fnOf "law" "law" (defArgs s_law) (defBody s_law) (defScope s_law) .none kV23 dc23 pm23 an23 cd23 ct23), sl23⟩) (c23 : PySem.W.codeIn K cd23 "law" = true) (k23 : PySem.W.keepIn K (.ref f23) = true)
    (g28 : PySem.W.nsIn K mainGlobals "Contract" = some (some (.ref C28))) (pg28 : PySem.W.plainGet K C28 Str.empty = true) (hd28 : PySem.W.hasDictIn K C28 = true) (po28 : PySem.W.plainOver K C28 = true) (sa28 : PySem.W.findIn K (.ref C28) "__setattr__" = some (some (.builtin "object.__setattr__"))) (mk28 : PySem.W.makesIn K C28 = true) (kc28 : PySem.W.keepIn K (.ref C28) = true)
    (ha28 : PySem.W.findIn K (.ref C28) "__class__" = some (some (.builtin "object.__class__"))) (hn28 : PySem.W.specialIn K (.builtin "object.__class__") "__get__" = some (some (.builtin "getset_descriptor.__get__"))) (ht28 : PySem.W.takesIn K (.builtin "object.__class__") = some true) (hm28 : PySem.W.mroIn K C28 (.type "object") = some true) (me28 : PySem.W.kitOne K (.ref C28) (.ref C28) = some true)
    (n28_letters : PySem.W.findIn K (.ref C28) "letters" = some none)
    (n28_answers : PySem.W.findIn K (.ref C28) "answers" = some none)
    (n28_states : PySem.W.findIn K (.ref C28) "states" = some none)
    {fm28_0 : Addr} {odm28_0 anm28_0 : Option Addr} {slm28_0 : Array (Option Value)} {ocm28_0 kVm28_0 dcm28_0 pmm28_0 cdm28_0 ctm28_0 : Value} (am28_0 : PySem.W.findIn K (.ref C28) "__init__" = some (some (.ref fm28_0))) (im28_0 : PySem.W.isFn K (.ref fm28_0) = true) (lm28_0 : K.lookup fm28_0 = some ⟨ocm28_0, odm28_0, .func (PySem.W.fnOf "__init__" "Contract.__init__" (defArgs s_Contract_init) (defBody s_Contract_init) (defScope s_Contract_init) .none kVm28_0 dcm28_0 pmm28_0 anm28_0 cdm28_0 ctm28_0), slm28_0⟩) (cm28_0 : PySem.W.codeIn K cdm28_0 "Contract.__init__" = true) (km28_0 : PySem.W.keepIn K (.ref fm28_0) = true)
    {fm28_1 : Addr} {odm28_1 anm28_1 : Option Addr} {slm28_1 : Array (Option Value)} {ocm28_1 kVm28_1 dcm28_1 pmm28_1 cdm28_1 ctm28_1 : Value} (am28_1 : PySem.W.findIn K (.ref C28) "follow" = some (some (.ref fm28_1))) (im28_1 : PySem.W.isFn K (.ref fm28_1) = true) (lm28_1 : K.lookup fm28_1 = some ⟨ocm28_1, odm28_1, .func (PySem.W.fnOf "follow" "Contract.follow" (defArgs s_Contract_follow) (defBody s_Contract_follow) (defScope s_Contract_follow) .none kVm28_1 dcm28_1 pmm28_1 anm28_1 cdm28_1 ctm28_1), slm28_1⟩) (cm28_1 : PySem.W.codeIn K cdm28_1 "Contract.follow" = true) (km28_1 : PySem.W.keepIn K (.ref fm28_1) = true)
    {tc22 : Tok} (vc22 : PySem.W.nsIn K mainGlobals "MOST_LETTERS" = some (some (.int 3 tc22)))
    {tc23 : Tok} (vc23 : PySem.W.nsIn K mainGlobals "LEAST_ANSWERS" = some (some (.int 2 tc23)))
    {tc24 : Tok} (vc24 : PySem.W.nsIn K mainGlobals "MOST_ANSWERS" = some (some (.int 4 tc24)))
    {tc27 : Tok} (vc27 : PySem.W.nsIn K mainGlobals "MOST_STATES" = some (some (.int 8 tc27)))
    (z0 : PySem.W.nsIn K mainGlobals "ValueError" = some none) (z1 : PySem.W.nsIn K mainGlobals "all" = some none) (z2 : PySem.W.nsIn K mainGlobals "any" = some none) (z3 : PySem.W.nsIn K mainGlobals "bool" = some none) (z4 : PySem.W.nsIn K mainGlobals "int" = some none) (z5 : PySem.W.nsIn K mainGlobals "isinstance" = some none) (z6 : PySem.W.nsIn K mainGlobals "len" = some none) (z7 : PySem.W.nsIn K mainGlobals "list" = some none) (z8 : PySem.W.nsIn K mainGlobals "range" = some none) (z9 : PySem.W.nsIn K mainGlobals "str" = some none) (z10 : PySem.W.nsIn K mainGlobals "super" = some none) (z11 : PySem.W.nsIn K mainGlobals "tuple" = some none) (z12 : PySem.W.nsIn K mainGlobals "zip" = some none)
    (g2 : PySem.W.nsIn K mainGlobals "MendError" = some (some (.ref C2)))
    (g3 : PySem.W.nsIn K mainGlobals "InvalidInput" = some (some (.ref C3)))
    (g4 : PySem.W.nsIn K mainGlobals "InvalidText" = some (some (.ref C4)))
    (g5 : PySem.W.nsIn K mainGlobals "InvalidProgram" = some (some (.ref C5)))
    (g6 : PySem.W.nsIn K mainGlobals "InvalidContract" = some (some (.ref C6)))
    (g7 : PySem.W.nsIn K mainGlobals "InvalidChange" = some (some (.ref C7)))
    (g8 : PySem.W.nsIn K mainGlobals "InvalidStream" = some (some (.ref C8)))
    (g9 : PySem.W.nsIn K mainGlobals "InvalidPlaces" = some (some (.ref C9)))
    (g10 : PySem.W.nsIn K mainGlobals "InvalidEdit" = some (some (.ref C10)))
    (g11 : PySem.W.nsIn K mainGlobals "InvalidLine" = some (some (.ref C11)))
    (g12 : PySem.W.nsIn K mainGlobals "InvalidName" = some (some (.ref C12)))
    (g13 : PySem.W.nsIn K mainGlobals "Mismatch" = some (some (.ref C13)))
    (g14 : PySem.W.nsIn K mainGlobals "BoundError" = some (some (.ref C14)))
    (g15 : PySem.W.nsIn K mainGlobals "TooLarge" = some (some (.ref C15)))
    (g16 : PySem.W.nsIn K mainGlobals "TooLong" = some (some (.ref C16)))
    (g17 : PySem.W.nsIn K mainGlobals "TooManyCases" = some (some (.ref C17)))
    (g18 : PySem.W.nsIn K mainGlobals "DeskError" = some (some (.ref C18)))
    (eB : errsB K (clsAt [(2, C2), (3, C3), (4, C4), (5, C5), (6, C6), (7, C7), (8, C8), (9, C9), (10, C10), (11, C11), (12, C12), (13, C13), (14, C14), (15, C15), (16, C16), (17, C17), (18, C18), (28, C28)]) errIds errUp = true) (opq : PySem.W.nsIn K cStatics "thirdparty.any" = some none) (tp : (l.prog.main.scope.names.lookup ("super" : Str)).isSome = false)
    (eB2 : errsB2 K (clsAt [(2, C2), (3, C3), (4, C4), (5, C5), (6, C6), (7, C7), (8, C8), (9, C9), (10, C10), (11, C11), (12, C12), (13, C13), (14, C14), (15, C15), (16, C16), (17, C17), (18, C18), (28, C28)]) id_MendError errIds = true)
    (xC2 : PySem.W.excIn K C2 [.type "ValueError", .type "Exception", .type "BaseException", .type "object"] "ValueError.__new__" = true)
    (xC3 : PySem.W.excIn K C3 [.type "ValueError", .type "Exception", .type "BaseException", .type "object"] "ValueError.__new__" = true)
    {nm4 q4 qu4 fl4 : Str} {N4 I4 cc4 cda4 : Addr} {bs4 bm4 sub4 : List Value} {sn4 : List Str} {ab4 : Bool} {col4 : Option Bool} {dd4 od1_4 od2_4 od3_4 an_4 : Option Addr} {k0_4 k1_4 k2_4 k3_4 k5_4 : Option Value} {oc1_4 oc2_4 oc3_4 kW4 doc4 pmm4 ctt4 : Value} {sl1_4 sl2_4 sl3_4 : Array (Option Value)} {vs4 : Array Value} {tf4 : Tok}
    (oC4 : K.lookup C4 = some (excClassObj nm4 q4 C4 N4 bs4 bm4 true sn4 sub4 ab4 col4 dd4 k0_4 k1_4 k2_4 k3_4 k5_4 "ValueError.__new__")) (rv4 : PySem.HandSPX.refsVE bm4 = true) (ib4 : initB' K C4 "position" = true)
    (iC4 : PySem.W.findIn K (.ref C4) "__init__" = some (some (.ref I4))) (tI4 : PySem.W.typeIn K (.ref I4) = some (.type "function"))
    (lI4 : K.lookup I4 = some ⟨oc1_4, od1_4, .func (PySem.W.fnX "__init__" qu4 (defArgs (inClass (topS 4) 0)) (defBody (inClass (topS 4) 0)) (initSc "position") [("__class__", cc4)] .none kW4 doc4 pmm4 an_4 (.ref cda4) ctt4), sl1_4⟩) (cI4 : PySem.W.codeIn K (.ref cda4) qu4 = true)
    (lD4 : K.lookup cda4 = some ⟨oc2_4, od2_4, .fields vs4, sl2_4⟩) (vD4 : vs4[2]? = some (.str fl4 tf4)) (fD4 : (l.prog.main.file == fl4) = true) (lc4 : K.lookup cc4 = some ⟨oc3_4, od3_4, .cell (some (.ref C4)), sl3_4⟩)
    {nm5 q5 qu5 fl5 : Str} {N5 I5 cc5 cda5 : Addr} {bs5 bm5 sub5 : List Value} {sn5 : List Str} {ab5 : Bool} {col5 : Option Bool} {dd5 od1_5 od2_5 od3_5 an_5 : Option Addr} {k0_5 k1_5 k2_5 k3_5 k5_5 : Option Value} {oc1_5 oc2_5 oc3_5 kW5 doc5 pmm5 ctt5 : Value} {sl1_5 sl2_5 sl3_5 : Array (Option Value)} {vs5 : Array Value} {tf5 : Tok}
    (oC5 : K.lookup C5 = some (excClassObj nm5 q5 C5 N5 bs5 bm5 true sn5 sub5 ab5 col5 dd5 k0_5 k1_5 k2_5 k3_5 k5_5 "ValueError.__new__")) (rv5 : PySem.HandSPX.refsVE bm5 = true) (ib5 : initB' K C5 "reason" = true)
    (iC5 : PySem.W.findIn K (.ref C5) "__init__" = some (some (.ref I5))) (tI5 : PySem.W.typeIn K (.ref I5) = some (.type "function"))
    (lI5 : K.lookup I5 = some ⟨oc1_5, od1_5, .func (PySem.W.fnX "__init__" qu5 (defArgs (inClass (topS 5) 0)) (defBody (inClass (topS 5) 0)) (initSc "reason") [("__class__", cc5)] .none kW5 doc5 pmm5 an_5 (.ref cda5) ctt5), sl1_5⟩) (cI5 : PySem.W.codeIn K (.ref cda5) qu5 = true)
    (lD5 : K.lookup cda5 = some ⟨oc2_5, od2_5, .fields vs5, sl2_5⟩) (vD5 : vs5[2]? = some (.str fl5 tf5)) (fD5 : (l.prog.main.file == fl5) = true) (lc5 : K.lookup cc5 = some ⟨oc3_5, od3_5, .cell (some (.ref C5)), sl3_5⟩)
    {nm6 q6 qu6 fl6 : Str} {N6 I6 cc6 cda6 : Addr} {bs6 bm6 sub6 : List Value} {sn6 : List Str} {ab6 : Bool} {col6 : Option Bool} {dd6 od1_6 od2_6 od3_6 an_6 : Option Addr} {k0_6 k1_6 k2_6 k3_6 k5_6 : Option Value} {oc1_6 oc2_6 oc3_6 kW6 doc6 pmm6 ctt6 : Value} {sl1_6 sl2_6 sl3_6 : Array (Option Value)} {vs6 : Array Value} {tf6 : Tok}
    (oC6 : K.lookup C6 = some (excClassObj nm6 q6 C6 N6 bs6 bm6 true sn6 sub6 ab6 col6 dd6 k0_6 k1_6 k2_6 k3_6 k5_6 "ValueError.__new__")) (rv6 : PySem.HandSPX.refsVE bm6 = true) (ib6 : initB' K C6 "reason" = true)
    (iC6 : PySem.W.findIn K (.ref C6) "__init__" = some (some (.ref I6))) (tI6 : PySem.W.typeIn K (.ref I6) = some (.type "function"))
    (lI6 : K.lookup I6 = some ⟨oc1_6, od1_6, .func (PySem.W.fnX "__init__" qu6 (defArgs (inClass (topS 6) 0)) (defBody (inClass (topS 6) 0)) (initSc "reason") [("__class__", cc6)] .none kW6 doc6 pmm6 an_6 (.ref cda6) ctt6), sl1_6⟩) (cI6 : PySem.W.codeIn K (.ref cda6) qu6 = true)
    (lD6 : K.lookup cda6 = some ⟨oc2_6, od2_6, .fields vs6, sl2_6⟩) (vD6 : vs6[2]? = some (.str fl6 tf6)) (fD6 : (l.prog.main.file == fl6) = true) (lc6 : K.lookup cc6 = some ⟨oc3_6, od3_6, .cell (some (.ref C6)), sl3_6⟩)
    (xC7 : PySem.W.excIn K C7 [.type "ValueError", .type "Exception", .type "BaseException", .type "object"] "ValueError.__new__" = true)
    (xC8 : PySem.W.excIn K C8 [.type "ValueError", .type "Exception", .type "BaseException", .type "object"] "ValueError.__new__" = true)
    {nm9 q9 qu9 fl9 : Str} {N9 I9 cc9 cda9 : Addr} {bs9 bm9 sub9 : List Value} {sn9 : List Str} {ab9 : Bool} {col9 : Option Bool} {dd9 od1_9 od2_9 od3_9 an_9 : Option Addr} {k0_9 k1_9 k2_9 k3_9 k5_9 : Option Value} {oc1_9 oc2_9 oc3_9 kW9 doc9 pmm9 ctt9 : Value} {sl1_9 sl2_9 sl3_9 : Array (Option Value)} {vs9 : Array Value} {tf9 : Tok}
    (oC9 : K.lookup C9 = some (excClassObj nm9 q9 C9 N9 bs9 bm9 true sn9 sub9 ab9 col9 dd9 k0_9 k1_9 k2_9 k3_9 k5_9 "ValueError.__new__")) (rv9 : PySem.HandSPX.refsVE bm9 = true) (ib9 : initB' K C9 "place" = true)
    (iC9 : PySem.W.findIn K (.ref C9) "__init__" = some (some (.ref I9))) (tI9 : PySem.W.typeIn K (.ref I9) = some (.type "function"))
    (lI9 : K.lookup I9 = some ⟨oc1_9, od1_9, .func (PySem.W.fnX "__init__" qu9 (defArgs (inClass (topS 9) 0)) (defBody (inClass (topS 9) 0)) (initSc "place") [("__class__", cc9)] .none kW9 doc9 pmm9 an_9 (.ref cda9) ctt9), sl1_9⟩) (cI9 : PySem.W.codeIn K (.ref cda9) qu9 = true)
    (lD9 : K.lookup cda9 = some ⟨oc2_9, od2_9, .fields vs9, sl2_9⟩) (vD9 : vs9[2]? = some (.str fl9 tf9)) (fD9 : (l.prog.main.file == fl9) = true) (lc9 : K.lookup cc9 = some ⟨oc3_9, od3_9, .cell (some (.ref C9)), sl3_9⟩)
    {nm10 q10 qu10 fl10 : Str} {N10 I10 cc10 cda10 : Addr} {bs10 bm10 sub10 : List Value} {sn10 : List Str} {ab10 : Bool} {col10 : Option Bool} {dd10 od1_10 od2_10 od3_10 an_10 : Option Addr} {k0_10 k1_10 k2_10 k3_10 k5_10 : Option Value} {oc1_10 oc2_10 oc3_10 kW10 doc10 pmm10 ctt10 : Value} {sl1_10 sl2_10 sl3_10 : Array (Option Value)} {vs10 : Array Value} {tf10 : Tok}
    (oC10 : K.lookup C10 = some (excClassObj nm10 q10 C10 N10 bs10 bm10 true sn10 sub10 ab10 col10 dd10 k0_10 k1_10 k2_10 k3_10 k5_10 "ValueError.__new__")) (rv10 : PySem.HandSPX.refsVE bm10 = true) (ib10 : initB' K C10 "place" = true)
    (iC10 : PySem.W.findIn K (.ref C10) "__init__" = some (some (.ref I10))) (tI10 : PySem.W.typeIn K (.ref I10) = some (.type "function"))
    (lI10 : K.lookup I10 = some ⟨oc1_10, od1_10, .func (PySem.W.fnX "__init__" qu10 (defArgs (inClass (topS 10) 0)) (defBody (inClass (topS 10) 0)) (initSc "place") [("__class__", cc10)] .none kW10 doc10 pmm10 an_10 (.ref cda10) ctt10), sl1_10⟩) (cI10 : PySem.W.codeIn K (.ref cda10) qu10 = true)
    (lD10 : K.lookup cda10 = some ⟨oc2_10, od2_10, .fields vs10, sl2_10⟩) (vD10 : vs10[2]? = some (.str fl10 tf10)) (fD10 : (l.prog.main.file == fl10) = true) (lc10 : K.lookup cc10 = some ⟨oc3_10, od3_10, .cell (some (.ref C10)), sl3_10⟩)
    {nm11 q11 qu11 fl11 : Str} {N11 I11 cc11 cda11 : Addr} {bs11 bm11 sub11 : List Value} {sn11 : List Str} {ab11 : Bool} {col11 : Option Bool} {dd11 od1_11 od2_11 od3_11 an_11 : Option Addr} {k0_11 k1_11 k2_11 k3_11 k5_11 : Option Value} {oc1_11 oc2_11 oc3_11 kW11 doc11 pmm11 ctt11 : Value} {sl1_11 sl2_11 sl3_11 : Array (Option Value)} {vs11 : Array Value} {tf11 : Tok}
    (oC11 : K.lookup C11 = some (excClassObj nm11 q11 C11 N11 bs11 bm11 true sn11 sub11 ab11 col11 dd11 k0_11 k1_11 k2_11 k3_11 k5_11 "ValueError.__new__")) (rv11 : PySem.HandSPX.refsVE bm11 = true) (ib11 : initB' K C11 "number" = true)
    (iC11 : PySem.W.findIn K (.ref C11) "__init__" = some (some (.ref I11))) (tI11 : PySem.W.typeIn K (.ref I11) = some (.type "function"))
    (lI11 : K.lookup I11 = some ⟨oc1_11, od1_11, .func (PySem.W.fnX "__init__" qu11 (defArgs (inClass (topS 11) 0)) (defBody (inClass (topS 11) 0)) (initSc "number") [("__class__", cc11)] .none kW11 doc11 pmm11 an_11 (.ref cda11) ctt11), sl1_11⟩) (cI11 : PySem.W.codeIn K (.ref cda11) qu11 = true)
    (lD11 : K.lookup cda11 = some ⟨oc2_11, od2_11, .fields vs11, sl2_11⟩) (vD11 : vs11[2]? = some (.str fl11 tf11)) (fD11 : (l.prog.main.file == fl11) = true) (lc11 : K.lookup cc11 = some ⟨oc3_11, od3_11, .cell (some (.ref C11)), sl3_11⟩)
    {nm12 q12 qu12 fl12 : Str} {N12 I12 cc12 cda12 : Addr} {bs12 bm12 sub12 : List Value} {sn12 : List Str} {ab12 : Bool} {col12 : Option Bool} {dd12 od1_12 od2_12 od3_12 an_12 : Option Addr} {k0_12 k1_12 k2_12 k3_12 k5_12 : Option Value} {oc1_12 oc2_12 oc3_12 kW12 doc12 pmm12 ctt12 : Value} {sl1_12 sl2_12 sl3_12 : Array (Option Value)} {vs12 : Array Value} {tf12 : Tok}
    (oC12 : K.lookup C12 = some (excClassObj nm12 q12 C12 N12 bs12 bm12 true sn12 sub12 ab12 col12 dd12 k0_12 k1_12 k2_12 k3_12 k5_12 "ValueError.__new__")) (rv12 : PySem.HandSPX.refsVE bm12 = true) (ib12 : initB' K C12 "name" = true)
    (iC12 : PySem.W.findIn K (.ref C12) "__init__" = some (some (.ref I12))) (tI12 : PySem.W.typeIn K (.ref I12) = some (.type "function"))
    (lI12 : K.lookup I12 = some ⟨oc1_12, od1_12, .func (PySem.W.fnX "__init__" qu12 (defArgs (inClass (topS 12) 0)) (defBody (inClass (topS 12) 0)) (initSc "name") [("__class__", cc12)] .none kW12 doc12 pmm12 an_12 (.ref cda12) ctt12), sl1_12⟩) (cI12 : PySem.W.codeIn K (.ref cda12) qu12 = true)
    (lD12 : K.lookup cda12 = some ⟨oc2_12, od2_12, .fields vs12, sl2_12⟩) (vD12 : vs12[2]? = some (.str fl12 tf12)) (fD12 : (l.prog.main.file == fl12) = true) (lc12 : K.lookup cc12 = some ⟨oc3_12, od3_12, .cell (some (.ref C12)), sl3_12⟩)
    (xC13 : PySem.W.excIn K C13 [.type "ValueError", .type "Exception", .type "BaseException", .type "object"] "ValueError.__new__" = true)
    (xC14 : PySem.W.excIn K C14 [.type "ValueError", .type "Exception", .type "BaseException", .type "object"] "ValueError.__new__" = true)
    {nm15 q15 qu15 fl15 : Str} {N15 I15 cc15 cda15 : Addr} {bs15 bm15 sub15 : List Value} {sn15 : List Str} {ab15 : Bool} {col15 : Option Bool} {dd15 od1_15 od2_15 od3_15 an_15 : Option Addr} {k0_15 k1_15 k2_15 k3_15 k5_15 : Option Value} {oc1_15 oc2_15 oc3_15 kW15 doc15 pmm15 ctt15 : Value} {sl1_15 sl2_15 sl3_15 : Array (Option Value)} {vs15 : Array Value} {tf15 : Tok}
    (oC15 : K.lookup C15 = some (excClassObj nm15 q15 C15 N15 bs15 bm15 true sn15 sub15 ab15 col15 dd15 k0_15 k1_15 k2_15 k3_15 k5_15 "ValueError.__new__")) (rv15 : PySem.HandSPX.refsVE bm15 = true) (ib15 : initB' K C15 "what" = true)
    (iC15 : PySem.W.findIn K (.ref C15) "__init__" = some (some (.ref I15))) (tI15 : PySem.W.typeIn K (.ref I15) = some (.type "function"))
    (lI15 : K.lookup I15 = some ⟨oc1_15, od1_15, .func (PySem.W.fnX "__init__" qu15 (defArgs (inClass (topS 15) 0)) (defBody (inClass (topS 15) 0)) (initSc "what") [("__class__", cc15)] .none kW15 doc15 pmm15 an_15 (.ref cda15) ctt15), sl1_15⟩) (cI15 : PySem.W.codeIn K (.ref cda15) qu15 = true)
    (lD15 : K.lookup cda15 = some ⟨oc2_15, od2_15, .fields vs15, sl2_15⟩) (vD15 : vs15[2]? = some (.str fl15 tf15)) (fD15 : (l.prog.main.file == fl15) = true) (lc15 : K.lookup cc15 = some ⟨oc3_15, od3_15, .cell (some (.ref C15)), sl3_15⟩)
    {nm16 q16 qu16 fl16 : Str} {N16 I16 cc16 cda16 : Addr} {bs16 bm16 sub16 : List Value} {sn16 : List Str} {ab16 : Bool} {col16 : Option Bool} {dd16 od1_16 od2_16 od3_16 an_16 : Option Addr} {k0_16 k1_16 k2_16 k3_16 k5_16 : Option Value} {oc1_16 oc2_16 oc3_16 kW16 doc16 pmm16 ctt16 : Value} {sl1_16 sl2_16 sl3_16 : Array (Option Value)} {vs16 : Array Value} {tf16 : Tok}
    (oC16 : K.lookup C16 = some (excClassObj nm16 q16 C16 N16 bs16 bm16 true sn16 sub16 ab16 col16 dd16 k0_16 k1_16 k2_16 k3_16 k5_16 "ValueError.__new__")) (rv16 : PySem.HandSPX.refsVE bm16 = true) (ib16 : initB' K C16 "what" = true)
    (iC16 : PySem.W.findIn K (.ref C16) "__init__" = some (some (.ref I16))) (tI16 : PySem.W.typeIn K (.ref I16) = some (.type "function"))
    (lI16 : K.lookup I16 = some ⟨oc1_16, od1_16, .func (PySem.W.fnX "__init__" qu16 (defArgs (inClass (topS 16) 0)) (defBody (inClass (topS 16) 0)) (initSc "what") [("__class__", cc16)] .none kW16 doc16 pmm16 an_16 (.ref cda16) ctt16), sl1_16⟩) (cI16 : PySem.W.codeIn K (.ref cda16) qu16 = true)
    (lD16 : K.lookup cda16 = some ⟨oc2_16, od2_16, .fields vs16, sl2_16⟩) (vD16 : vs16[2]? = some (.str fl16 tf16)) (fD16 : (l.prog.main.file == fl16) = true) (lc16 : K.lookup cc16 = some ⟨oc3_16, od3_16, .cell (some (.ref C16)), sl3_16⟩)
    {nm17 q17 qu17 fl17 : Str} {N17 I17 cc17 cda17 : Addr} {bs17 bm17 sub17 : List Value} {sn17 : List Str} {ab17 : Bool} {col17 : Option Bool} {dd17 od1_17 od2_17 od3_17 an_17 : Option Addr} {k0_17 k1_17 k2_17 k3_17 k5_17 : Option Value} {oc1_17 oc2_17 oc3_17 kW17 doc17 pmm17 ctt17 : Value} {sl1_17 sl2_17 sl3_17 : Array (Option Value)} {vs17 : Array Value} {tf17 : Tok}
    (oC17 : K.lookup C17 = some (excClassObj nm17 q17 C17 N17 bs17 bm17 true sn17 sub17 ab17 col17 dd17 k0_17 k1_17 k2_17 k3_17 k5_17 "ValueError.__new__")) (rv17 : PySem.HandSPX.refsVE bm17 = true) (ib17 : initB' K C17 "limit" = true)
    (iC17 : PySem.W.findIn K (.ref C17) "__init__" = some (some (.ref I17))) (tI17 : PySem.W.typeIn K (.ref I17) = some (.type "function"))
    (lI17 : K.lookup I17 = some ⟨oc1_17, od1_17, .func (PySem.W.fnX "__init__" qu17 (defArgs (inClass (topS 17) 0)) (defBody (inClass (topS 17) 0)) (initSc "limit") [("__class__", cc17)] .none kW17 doc17 pmm17 an_17 (.ref cda17) ctt17), sl1_17⟩) (cI17 : PySem.W.codeIn K (.ref cda17) qu17 = true)
    (lD17 : K.lookup cda17 = some ⟨oc2_17, od2_17, .fields vs17, sl2_17⟩) (vD17 : vs17[2]? = some (.str fl17 tf17)) (fD17 : (l.prog.main.file == fl17) = true) (lc17 : K.lookup cc17 = some ⟨oc3_17, od3_17, .cell (some (.ref C17)), sl3_17⟩)
    (xC18 : PySem.W.excIn K C18 [.type "ValueError", .type "Exception", .type "BaseException", .type "object"] "ValueError.__new__" = true)
    :
    ∃ fd : FuncData, (∀ (s : Shared) (v : Value), BindsTo s fd ⟨[v], []⟩ [("script", v)]) ∧ ∀ base : Heap, K.In base → base.Ns mainGlobals mg → FnOk l.prog w K mg base CX0 10 fa fd ["script"] (sp_law K) := by
  have e := hfa.symm.trans (PySem.W.mg_of X G a23)
  cases e
  have F0 := fun_mk (st := s__wall) l0 c0 k0
  have F1 := fun_mk (st := s_frozen) l1 c1 k1
  have F2 := fun_mk (st := s_letters_reason) l2 c2 k2
  have F3 := fun_mk (st := s_first_reason) l3 c3 k3
  have F4 := fun_mk (st := s_states_reason) l4 c4 k4
  have F5 := fun_mk (st := s_events_of) l5 c5 k5
  have F6 := fun_mk (st := s_both) l6 c6 k6
  have F7 := fun_mk (st := s_reached_pairs) l7 c7 k7
  have F8 := fun_mk (st := s_pair_target) l8 c8 k8
  have F9 := fun_mk (st := s_pair_row) l9 c9 k9
  have F10 := fun_mk (st := s__law_cell) l10 c10 k10
  have F11 := fun_mk (st := s__law_reader) l11 c11 k11
  have F12 := fun_mk (st := s__law_next) l12 c12 k12
  have F13 := fun_mk (st := s__law_same) l13 c13 k13
  have F14 := fun_mk (st := s__law_target) l14 c14 k14
  have F15 := fun_mk (st := s__law_states) l15 c15 k15
  have F16 := fun_mk (st := s__law_events) l16 c16 k16
  have F17 := fun_mk (st := s__law_follow) l17 c17 k17
  have F18 := fun_mk (st := s__law_right) l18 c18 k18
  have F19 := fun_mk (st := s__law_pairs) l19 c19 k19
  have F20 := fun_mk (st := s__law_joined) l20 c20 k20
  have F21 := fun_mk (st := s__law_told) l21 c21 k21
  have F22 := fun_mk (st := s__law_sides) l22 c22 k22
  have F23 := fun_mk (st := s_law) l23 c23 k23
  have Fm28_0 := fun_mk (st := s_Contract_init) lm28_0 cm28_0 km28_0
  have Fm28_1 := fun_mk (st := s_Contract_follow) lm28_1 cm28_1 km28_1
  obtain ⟨e1, e2, e3, e4⟩ := errsB_ok eB
  obtain ⟨e5, e6⟩ := errsB2_ok eB2
  have ix4 := initB_ok ib4
  have ox4 : OexC K C4 := ⟨⟨nm4, q4, N4, bs4, bm4, sn4, sub4, ab4, col4, dd4, k0_4, k1_4, k2_4, k3_4, k5_4, oC4, rv4⟩, ix4.2.2.2.2.1, ix4.2.2.2.2.2.1, ix4.2.2.2.2.2.2, e1 4 (by decide)⟩
  have ix5 := initB_ok ib5
  have ox5 : OexC K C5 := ⟨⟨nm5, q5, N5, bs5, bm5, sn5, sub5, ab5, col5, dd5, k0_5, k1_5, k2_5, k3_5, k5_5, oC5, rv5⟩, ix5.2.2.2.2.1, ix5.2.2.2.2.2.1, ix5.2.2.2.2.2.2, e1 5 (by decide)⟩
  have ix6 := initB_ok ib6
  have ox6 : OexC K C6 := ⟨⟨nm6, q6, N6, bs6, bm6, sn6, sub6, ab6, col6, dd6, k0_6, k1_6, k2_6, k3_6, k5_6, oC6, rv6⟩, ix6.2.2.2.2.1, ix6.2.2.2.2.2.1, ix6.2.2.2.2.2.2, e1 6 (by decide)⟩
  have ix9 := initB_ok ib9
  have ox9 : OexC K C9 := ⟨⟨nm9, q9, N9, bs9, bm9, sn9, sub9, ab9, col9, dd9, k0_9, k1_9, k2_9, k3_9, k5_9, oC9, rv9⟩, ix9.2.2.2.2.1, ix9.2.2.2.2.2.1, ix9.2.2.2.2.2.2, e1 9 (by decide)⟩
  have ix10 := initB_ok ib10
  have ox10 : OexC K C10 := ⟨⟨nm10, q10, N10, bs10, bm10, sn10, sub10, ab10, col10, dd10, k0_10, k1_10, k2_10, k3_10, k5_10, oC10, rv10⟩, ix10.2.2.2.2.1, ix10.2.2.2.2.2.1, ix10.2.2.2.2.2.2, e1 10 (by decide)⟩
  have ix11 := initB_ok ib11
  have ox11 : OexC K C11 := ⟨⟨nm11, q11, N11, bs11, bm11, sn11, sub11, ab11, col11, dd11, k0_11, k1_11, k2_11, k3_11, k5_11, oC11, rv11⟩, ix11.2.2.2.2.1, ix11.2.2.2.2.2.1, ix11.2.2.2.2.2.2, e1 11 (by decide)⟩
  have ix12 := initB_ok ib12
  have ox12 : OexC K C12 := ⟨⟨nm12, q12, N12, bs12, bm12, sn12, sub12, ab12, col12, dd12, k0_12, k1_12, k2_12, k3_12, k5_12, oC12, rv12⟩, ix12.2.2.2.2.1, ix12.2.2.2.2.2.1, ix12.2.2.2.2.2.2, e1 12 (by decide)⟩
  have ix15 := initB_ok ib15
  have ox15 : OexC K C15 := ⟨⟨nm15, q15, N15, bs15, bm15, sn15, sub15, ab15, col15, dd15, k0_15, k1_15, k2_15, k3_15, k5_15, oC15, rv15⟩, ix15.2.2.2.2.1, ix15.2.2.2.2.2.1, ix15.2.2.2.2.2.2, e1 15 (by decide)⟩
  have ix16 := initB_ok ib16
  have ox16 : OexC K C16 := ⟨⟨nm16, q16, N16, bs16, bm16, sn16, sub16, ab16, col16, dd16, k0_16, k1_16, k2_16, k3_16, k5_16, oC16, rv16⟩, ix16.2.2.2.2.1, ix16.2.2.2.2.2.1, ix16.2.2.2.2.2.2, e1 16 (by decide)⟩
  have ix17 := initB_ok ib17
  have ox17 : OexC K C17 := ⟨⟨nm17, q17, N17, bs17, bm17, sn17, sub17, ab17, col17, dd17, k0_17, k1_17, k2_17, k3_17, k5_17, oC17, rv17⟩, ix17.2.2.2.2.1, ix17.2.2.2.2.2.1, ix17.2.2.2.2.2.2, e1 17 (by decide)⟩
  have T : Txt l.prog K mg (clsAt [(2, C2), (3, C3), (4, C4), (5, C5), (6, C6), (7, C7), (8, C8), (9, C9), (10, C10), (11, C11), (12, C12), (13, C13), (14, C14), (15, C15), (16, C16), (17, C17), (18, C18), (28, C28)]) := ⟨PySem.W.mg_none_of X G z0,
    PySem.W.mg_none_of X G z1,
    PySem.W.mg_none_of X G z2,
    PySem.W.mg_none_of X G z3,
    PySem.W.mg_none_of X G z4,
    PySem.W.mg_none_of X G z5,
    PySem.W.mg_none_of X G z6,
    PySem.W.mg_none_of X G z7,
    PySem.W.mg_none_of X G z8,
    PySem.W.mg_none_of X G z9,
    PySem.W.mg_none_of X G z10,
    PySem.W.mg_none_of X G z11,
    PySem.W.mg_none_of X G z12,
    ⟨⟨_, _, F0, PySem.W.mg_of X G a0, F0.binds (ps := ["k"]) fun _ _ _ _ _ _ us hl => match us, hl with | [_], _ => rfl⟩⟩,
    ⟨⟨_, _, F1, PySem.W.mg_of X G a1, F1.binds (ps := ["value"]) fun _ _ _ _ _ _ us hl => match us, hl with | [_], _ => rfl⟩⟩,
    ⟨⟨_, _, F2, PySem.W.mg_of X G a2, F2.binds (ps := ["letters", "answers"]) fun _ _ _ _ _ _ us hl => match us, hl with | [_, _], _ => rfl⟩⟩,
    ⟨⟨_, _, F3, PySem.W.mg_of X G a3, F3.binds (ps := ["letters", "answers", "states"]) fun _ _ _ _ _ _ us hl => match us, hl with | [_, _, _], _ => rfl⟩⟩,
    ⟨⟨_, _, F4, PySem.W.mg_of X G a4, F4.binds (ps := ["letters", "answers", "states"]) fun _ _ _ _ _ _ us hl => match us, hl with | [_, _, _], _ => rfl⟩⟩,
    ⟨⟨_, _, F5, PySem.W.mg_of X G a5, F5.binds (ps := ["contract"]) fun _ _ _ _ _ _ us hl => match us, hl with | [_], _ => rfl⟩⟩,
    ⟨⟨_, _, F6, PySem.W.mg_of X G a6, F6.binds (ps := ["first", "second"]) fun _ _ _ _ _ _ us hl => match us, hl with | [_, _], _ => rfl⟩⟩,
    ⟨⟨_, _, F7, PySem.W.mg_of X G a7, F7.binds (ps := ["first", "second"]) fun _ _ _ _ _ _ us hl => match us, hl with | [_, _], _ => rfl⟩⟩,
    ⟨⟨_, _, F8, PySem.W.mg_of X G a8, F8.binds (ps := ["first", "second", "pair", "event"]) fun _ _ _ _ _ _ us hl => match us, hl with | [_, _, _, _], _ => rfl⟩⟩,
    ⟨⟨_, _, F9, PySem.W.mg_of X G a9, F9.binds (ps := ["first", "second", "pairs", "pair"]) fun _ _ _ _ _ _ us hl => match us, hl with | [_, _, _, _], _ => rfl⟩⟩,
    ⟨⟨_, _, F10, PySem.W.mg_of X G a10, F10.binds (ps := ["script", "k"]) fun _ _ _ _ _ _ us hl => match us, hl with | [_, _], _ => rfl⟩⟩,
    ⟨⟨_, _, F11, PySem.W.mg_of X G a11, F11.binds (ps := ["cell"]) fun _ _ _ _ _ _ us hl => match us, hl with | [_], _ => rfl⟩⟩,
    ⟨⟨_, _, F12, PySem.W.mg_of X G a12, F12.binds (ps := ["reader", "size"]) fun _ _ _ _ _ _ us hl => match us, hl with | [_, _], _ => rfl⟩⟩,
    ⟨⟨_, _, F13, PySem.W.mg_of X G a13, F13.binds (ps := ["told", "due"]) fun _ _ _ _ _ _ us hl => match us, hl with | [_, _], _ => rfl⟩⟩,
    ⟨⟨_, _, F14, PySem.W.mg_of X G a14, F14.binds (ps := ["reader", "many"]) fun _ _ _ _ _ _ us hl => match us, hl with | [_, _], _ => rfl⟩⟩,
    ⟨⟨_, _, F15, PySem.W.mg_of X G a15, F15.binds (ps := ["reader", "letters", "answers", "many"]) fun _ _ _ _ _ _ us hl => match us, hl with | [_, _, _, _], _ => rfl⟩⟩,
    ⟨⟨_, _, F16, PySem.W.mg_of X G a16, F16.binds (ps := ["letters", "answers"]) fun _ _ _ _ _ _ us hl => match us, hl with | [_, _], _ => rfl⟩⟩,
    ⟨⟨_, _, F17, PySem.W.mg_of X G a17, F17.binds (ps := ["states", "state", "event"]) fun _ _ _ _ _ _ us hl => match us, hl with | [_, _, _], _ => rfl⟩⟩,
    ⟨⟨_, _, F18, PySem.W.mg_of X G a18, F18.binds (ps := ["contract", "parts"]) fun _ _ _ _ _ _ us hl => match us, hl with | [_, _], _ => rfl⟩⟩,
    ⟨⟨_, _, F19, PySem.W.mg_of X G a19, F19.binds (ps := ["first", "second", "events"]) fun _ _ _ _ _ _ us hl => match us, hl with | [_, _, _], _ => rfl⟩⟩,
    ⟨⟨_, _, F20, PySem.W.mg_of X G a20, F20.binds (ps := ["one", "two"]) fun _ _ _ _ _ _ us hl => match us, hl with | [_, _], _ => rfl⟩⟩,
    ⟨⟨_, _, F21, PySem.W.mg_of X G a21, F21.binds (ps := ["one", "two"]) fun _ _ _ _ _ _ us hl => match us, hl with | [_, _], _ => rfl⟩⟩,
    ⟨⟨_, _, F22, PySem.W.mg_of X G a22, F22.binds (ps := ["script"]) fun _ _ _ _ _ _ us hl => match us, hl with | [_], _ => rfl⟩⟩,
    ⟨⟨_, _, F23, PySem.W.mg_of X G a23, F23.binds (ps := ["script"]) fun _ _ _ _ _ _ us hl => match us, hl with | [_], _ => rfl⟩⟩,
    PySem.W.mg_of X G g28,
    ⟨pg28, hd28, po28, sa28⟩,
    ⟨⟨pg28, hd28, po28, sa28⟩, ha28, hn28, ht28, hm28, me28⟩,
    n28_letters,
    n28_answers,
    n28_states,
    ⟨_, _, Fm28_0, ⟨mk28, am28_0, im28_0, kc28⟩, Fm28_0.binds (ps := ["self", "letters", "answers", "states"]) fun _ _ _ _ _ _ us hl => match us, hl with | [_, _, _, _], _ => rfl⟩,
    ⟨_, _, Fm28_1, ⟨am28_1, im28_1, km28_1⟩, Fm28_1.binds (ps := ["self", "state", "event"]) fun _ _ _ _ _ _ us hl => match us, hl with | [_, _, _], _ => rfl⟩,
    ⟨tc22, PySem.W.mg_of X G vc22⟩,
    ⟨tc23, PySem.W.mg_of X G vc23⟩,
    ⟨tc24, PySem.W.mg_of X G vc24⟩,
    ⟨tc27, PySem.W.mg_of X G vc27⟩,
    PySem.W.mg_of X G g2,
    PySem.W.mg_of X G g3,
    PySem.W.mg_of X G g4,
    PySem.W.mg_of X G g5,
    PySem.W.mg_of X G g6,
    PySem.W.mg_of X G g7,
    PySem.W.mg_of X G g8,
    PySem.W.mg_of X G g9,
    PySem.W.mg_of X G g10,
    PySem.W.mg_of X G g11,
    PySem.W.mg_of X G g12,
    PySem.W.mg_of X G g13,
    PySem.W.mg_of X G g14,
    PySem.W.mg_of X G g15,
    PySem.W.mg_of X G g16,
    PySem.W.mg_of X G g17,
    PySem.W.mg_of X G g18,
    e1,
    e2,
    e3,
    e4,
    e5,
    e6,
    xC2,
    xC3,
    ox4,
    ⟨I4, cc4, cda4, _, qu4, ⟨⟨_, _, _, _, _, _, _, _, _, rfl, lI4⟩, cI4, ⟨_, _, _, _, _, _, lD4, vD4, fD4⟩, ⟨_, _, _, lc4⟩, ox4, ix4.1, ix4.2.1, ix4.2.2.1, opq, ix4.2.2.2.1, PySem.W.mg_none_of X G z10, rfl, tp⟩, iC4, tI4, .all fun us hl => match us, hl with | [_, _], _ => rfl⟩,
    ix4.2.2.2.1,
    ox5,
    ⟨I5, cc5, cda5, _, qu5, ⟨⟨_, _, _, _, _, _, _, _, _, rfl, lI5⟩, cI5, ⟨_, _, _, _, _, _, lD5, vD5, fD5⟩, ⟨_, _, _, lc5⟩, ox5, ix5.1, ix5.2.1, ix5.2.2.1, opq, ix5.2.2.2.1, PySem.W.mg_none_of X G z10, rfl, tp⟩, iC5, tI5, .all fun us hl => match us, hl with | [_, _], _ => rfl⟩,
    ix5.2.2.2.1,
    ox6,
    ⟨I6, cc6, cda6, _, qu6, ⟨⟨_, _, _, _, _, _, _, _, _, rfl, lI6⟩, cI6, ⟨_, _, _, _, _, _, lD6, vD6, fD6⟩, ⟨_, _, _, lc6⟩, ox6, ix6.1, ix6.2.1, ix6.2.2.1, opq, ix6.2.2.2.1, PySem.W.mg_none_of X G z10, rfl, tp⟩, iC6, tI6, .all fun us hl => match us, hl with | [_, _], _ => rfl⟩,
    ix6.2.2.2.1,
    xC7,
    xC8,
    ox9,
    ⟨I9, cc9, cda9, _, qu9, ⟨⟨_, _, _, _, _, _, _, _, _, rfl, lI9⟩, cI9, ⟨_, _, _, _, _, _, lD9, vD9, fD9⟩, ⟨_, _, _, lc9⟩, ox9, ix9.1, ix9.2.1, ix9.2.2.1, opq, ix9.2.2.2.1, PySem.W.mg_none_of X G z10, rfl, tp⟩, iC9, tI9, .all fun us hl => match us, hl with | [_, _], _ => rfl⟩,
    ix9.2.2.2.1,
    ox10,
    ⟨I10, cc10, cda10, _, qu10, ⟨⟨_, _, _, _, _, _, _, _, _, rfl, lI10⟩, cI10, ⟨_, _, _, _, _, _, lD10, vD10, fD10⟩, ⟨_, _, _, lc10⟩, ox10, ix10.1, ix10.2.1, ix10.2.2.1, opq, ix10.2.2.2.1, PySem.W.mg_none_of X G z10, rfl, tp⟩, iC10, tI10, .all fun us hl => match us, hl with | [_, _], _ => rfl⟩,
    ix10.2.2.2.1,
    ox11,
    ⟨I11, cc11, cda11, _, qu11, ⟨⟨_, _, _, _, _, _, _, _, _, rfl, lI11⟩, cI11, ⟨_, _, _, _, _, _, lD11, vD11, fD11⟩, ⟨_, _, _, lc11⟩, ox11, ix11.1, ix11.2.1, ix11.2.2.1, opq, ix11.2.2.2.1, PySem.W.mg_none_of X G z10, rfl, tp⟩, iC11, tI11, .all fun us hl => match us, hl with | [_, _], _ => rfl⟩,
    ix11.2.2.2.1,
    ox12,
    ⟨I12, cc12, cda12, _, qu12, ⟨⟨_, _, _, _, _, _, _, _, _, rfl, lI12⟩, cI12, ⟨_, _, _, _, _, _, lD12, vD12, fD12⟩, ⟨_, _, _, lc12⟩, ox12, ix12.1, ix12.2.1, ix12.2.2.1, opq, ix12.2.2.2.1, PySem.W.mg_none_of X G z10, rfl, tp⟩, iC12, tI12, .all fun us hl => match us, hl with | [_, _], _ => rfl⟩,
    ix12.2.2.2.1,
    xC13,
    xC14,
    ox15,
    ⟨I15, cc15, cda15, _, qu15, ⟨⟨_, _, _, _, _, _, _, _, _, rfl, lI15⟩, cI15, ⟨_, _, _, _, _, _, lD15, vD15, fD15⟩, ⟨_, _, _, lc15⟩, ox15, ix15.1, ix15.2.1, ix15.2.2.1, opq, ix15.2.2.2.1, PySem.W.mg_none_of X G z10, rfl, tp⟩, iC15, tI15, .all fun us hl => match us, hl with | [_, _], _ => rfl⟩,
    ix15.2.2.2.1,
    ox16,
    ⟨I16, cc16, cda16, _, qu16, ⟨⟨_, _, _, _, _, _, _, _, _, rfl, lI16⟩, cI16, ⟨_, _, _, _, _, _, lD16, vD16, fD16⟩, ⟨_, _, _, lc16⟩, ox16, ix16.1, ix16.2.1, ix16.2.2.1, opq, ix16.2.2.2.1, PySem.W.mg_none_of X G z10, rfl, tp⟩, iC16, tI16, .all fun us hl => match us, hl with | [_, _], _ => rfl⟩,
    ix16.2.2.2.1,
    ox17,
    ⟨I17, cc17, cda17, _, qu17, ⟨⟨_, _, _, _, _, _, _, _, _, rfl, lI17⟩, cI17, ⟨_, _, _, _, _, _, lD17, vD17, fD17⟩, ⟨_, _, _, lc17⟩, ox17, ix17.1, ix17.2.1, ix17.2.2.1, opq, ix17.2.2.2.1, PySem.W.mg_none_of X G z10, rfl, tp⟩, iC17, tI17, .all fun us hl => match us, hl with | [_, _], _ => rfl⟩,
    ix17.2.2.2.1,
    xC18⟩
  refine ⟨PySem.W.fnOf "law" "law" (defArgs s_law) (defBody s_law) (defScope s_law) .none kV23 dc23 pm23 an23 cd23 ct23, fun s v => .of_eq rfl, fun base _ _ => ?_⟩
  exact ok_law (P := l.prog) (w := w) (base := base) T F23
end Pf
open PySem PySem.W PyProof.Rows
set_option maxRecDepth 100000 in
set_option maxHeartbeats 0 in
theorem PySem.Challenge.cw_allmends_k13_both_contracts_holds : PySem.Challenge.rw_allmends_k13_both_contracts.Holds := by
  w_on; o_law; k_head; (case hw => w_witness2)
  k_fill
  refine L2.walk_of (l := PySem.Challenge.rw_allmends_k13_both_contracts) (n := 63) (k := 10) (x := "script") (CX := fun _ => L2.CX0) (sp := fun w => Pf.sp_law _) rfl (by decide) rfl ⟨rfl, by decide, by decide⟩ (fun w h Y => PySem.W.kIn_of Y) ?F (fun _ _ a ns hl _ hS => ⟨a, ns, rfl, hS, hl, fun _ => rfl⟩) (fun _ _ _ _ _ h => h)
  case F =>
    intro w mg fa h KX G hmg
    refine' Pf.all_mk KX G hmg ?a0 ?l0 ?c0 ?k0 ?a1 ?l1 ?c1 ?k1 ?a2 ?l2 ?c2 ?k2 ?a3 ?l3 ?c3 ?k3 ?a4 ?l4 ?c4 ?k4 ?a5 ?l5 ?c5 ?k5 ?a6 ?l6 ?c6 ?k6 ?a7 ?l7 ?c7 ?k7 ?a8 ?l8 ?c8 ?k8 ?a9 ?l9 ?c9 ?k9 ?a10 ?l10 ?c10 ?k10 ?a11 ?l11 ?c11 ?k11 ?a12 ?l12 ?c12 ?k12 ?a13 ?l13 ?c13 ?k13 ?a14 ?l14 ?c14 ?k14 ?a15 ?l15 ?c15 ?k15 ?a16 ?l16 ?c16 ?k16 ?a17 ?l17 ?c17 ?k17 ?a18 ?l18 ?c18 ?k18 ?a19 ?l19 ?c19 ?k19 ?a20 ?l20 ?c20 ?k20 ?a21 ?l21 ?c21 ?k21 ?a22 ?l22 ?c22 ?k22 ?a23 ?l23 ?c23 ?k23 ?g28 ?pg28 ?hd28 ?po28 ?sa28 ?mk28 ?kc28 ?ha28 ?hn28 ?ht28 ?hm28 ?me28 ?n28_letters ?n28_answers ?n28_states ?am28_0 ?im28_0 ?lm28_0 ?cm28_0 ?km28_0 ?am28_1 ?im28_1 ?lm28_1 ?cm28_1 ?km28_1 ?vc22 ?vc23 ?vc24 ?vc27 ?z0 ?z1 ?z2 ?z3 ?z4 ?z5 ?z6 ?z7 ?z8 ?z9 ?z10 ?z11 ?z12 ?g2 ?g3 ?g4 ?g5 ?g6 ?g7 ?g8 ?g9 ?g10 ?g11 ?g12 ?g13 ?g14 ?g15 ?g16 ?g17 ?g18 ?eB2 ?eB ?opq ?tp ?xC2 ?xC3 ?oC4 ?rv4 ?ib4 ?iC4 ?tI4 ?lI4 ?cI4 ?lD4 ?vD4 ?fD4 ?lc4 ?oC5 ?rv5 ?ib5 ?iC5 ?tI5 ?lI5 ?cI5 ?lD5 ?vD5 ?fD5 ?lc5 ?oC6 ?rv6 ?ib6 ?iC6 ?tI6 ?lI6 ?cI6 ?lD6 ?vD6 ?fD6 ?lc6 ?xC7 ?xC8 ?oC9 ?rv9 ?ib9 ?iC9 ?tI9 ?lI9 ?cI9 ?lD9 ?vD9 ?fD9 ?lc9 ?oC10 ?rv10 ?ib10 ?iC10 ?tI10 ?lI10 ?cI10 ?lD10 ?vD10 ?fD10 ?lc10 ?oC11 ?rv11 ?ib11 ?iC11 ?tI11 ?lI11 ?cI11 ?lD11 ?vD11 ?fD11 ?lc11 ?oC12 ?rv12 ?ib12 ?iC12 ?tI12 ?lI12 ?cI12 ?lD12 ?vD12 ?fD12 ?lc12 ?xC13 ?xC14 ?oC15 ?rv15 ?ib15 ?iC15 ?tI15 ?lI15 ?cI15 ?lD15 ?vD15 ?fD15 ?lc15 ?oC16 ?rv16 ?ib16 ?iC16 ?tI16 ?lI16 ?cI16 ?lD16 ?vD16 ?fD16 ?lc16 ?oC17 ?rv17 ?ib17 ?iC17 ?tI17 ?lI17 ?cI17 ?lD17 ?vD17 ?fD17 ?lc17 ?xC18
    (case a0 => k_is); (case l0 => k_is); (case c0 => k_is); (case k0 => k_is); (case a1 => k_is); (case l1 => k_is)
    (case c1 => k_is); (case k1 => k_is); (case a2 => k_is); (case l2 => k_is); (case c2 => k_is); (case k2 => k_is)
    (case a3 => k_is); (case l3 => k_is); (case c3 => k_is); (case k3 => k_is); (case a4 => k_is); (case l4 => k_is)
    (case c4 => k_is); (case k4 => k_is); (case a5 => k_is); (case l5 => k_is); (case c5 => k_is); (case k5 => k_is)
    (case a6 => k_is); (case l6 => k_is); (case c6 => k_is); (case k6 => k_is); (case a7 => k_is); (case l7 => k_is)
    (case c7 => k_is); (case k7 => k_is); (case a8 => k_is); (case l8 => k_is); (case c8 => k_is); (case k8 => k_is)
    (case a9 => k_is); (case l9 => k_is); (case c9 => k_is); (case k9 => k_is); (case a10 => k_is); (case l10 => k_is)
    (case c10 => k_is); (case k10 => k_is); (case a11 => k_is); (case l11 => k_is); (case c11 => k_is); (case k11 => k_is)
    (case a12 => k_is); (case l12 => k_is); (case c12 => k_is); (case k12 => k_is); (case a13 => k_is); (case l13 => k_is)
    (case c13 => k_is); (case k13 => k_is); (case a14 => k_is); (case l14 => k_is); (case c14 => k_is); (case k14 => k_is)
    (case a15 => k_is); (case l15 => k_is); (case c15 => k_is); (case k15 => k_is); (case a16 => k_is); (case l16 => k_is)
    (case c16 => k_is); (case k16 => k_is); (case a17 => k_is); (case l17 => k_is); (case c17 => k_is); (case k17 => k_is)
    (case a18 => k_is); (case l18 => k_is); (case c18 => k_is); (case k18 => k_is); (case a19 => k_is); (case l19 => k_is)
    (case c19 => k_is); (case k19 => k_is); (case a20 => k_is); (case l20 => k_is); (case c20 => k_is); (case k20 => k_is)
    (case a21 => k_is); (case l21 => k_is); (case c21 => k_is); (case k21 => k_is); (case a22 => k_is); (case l22 => k_is)
    (case c22 => k_is); (case k22 => k_is); (case a23 => k_is); (case l23 => k_is); (case c23 => k_is); (case k23 => k_is)
    (case g28 => k_is); (case pg28 => k_is); (case hd28 => k_is); (case po28 => k_is); (case sa28 => k_is); (case mk28 => k_is)
    (case kc28 => k_is); (case ha28 => k_is); (case hn28 => k_is); (case ht28 => k_is); (case hm28 => k_is); (case me28 => kernel_rfl)
    (case n28_letters => k_is); (case n28_answers => k_is); (case n28_states => k_is); (case am28_0 => k_is); (case im28_0 => k_is); (case lm28_0 => k_is)
    (case cm28_0 => k_is); (case km28_0 => k_is); (case am28_1 => k_is); (case im28_1 => k_is); (case lm28_1 => k_is); (case cm28_1 => k_is)
    (case km28_1 => k_is); (case vc22 => k_is); (case vc23 => k_is); (case vc24 => k_is); (case vc27 => k_is); (case z0 => k_is)
    (case z1 => k_is); (case z2 => k_is); (case z3 => k_is); (case z4 => k_is); (case z5 => k_is); (case z6 => k_is)
    (case z7 => k_is); (case z8 => k_is); (case z9 => k_is); (case z10 => k_is); (case z11 => k_is); (case z12 => k_is)
    (case g2 => k_is); (case g3 => k_is); (case g4 => k_is); (case g5 => k_is); (case g6 => k_is); (case g7 => k_is)
    (case g8 => k_is); (case g9 => k_is); (case g10 => k_is); (case g11 => k_is); (case g12 => k_is); (case g13 => k_is)
    (case g14 => k_is); (case g15 => k_is); (case g16 => k_is); (case g17 => k_is); (case g18 => k_is); (case eB2 => kernel_rfl)
    (case eB => kernel_rfl); (case opq => first | k_is | kernel_rfl); (case tp => rfl); (case xC2 => kernel_rfl); (case xC3 => kernel_rfl); (case oC4 => k_is)
    (case rv4 => decide +kernel); (case ib4 => kernel_rfl); (case iC4 => k_is); (case tI4 => k_is); (case lI4 => k_is); (case cI4 => k_is)
    (case lD4 => k_is); (case vD4 => rfl); (case fD4 => decide +kernel); (case lc4 => k_is); (case oC5 => k_is); (case rv5 => decide +kernel)
    (case ib5 => kernel_rfl); (case iC5 => k_is); (case tI5 => k_is); (case lI5 => k_is); (case cI5 => k_is); (case lD5 => k_is)
    (case vD5 => rfl); (case fD5 => decide +kernel); (case lc5 => k_is); (case oC6 => k_is); (case rv6 => decide +kernel); (case ib6 => kernel_rfl)
    (case iC6 => k_is); (case tI6 => k_is); (case lI6 => k_is); (case cI6 => k_is); (case lD6 => k_is); (case vD6 => rfl)
    (case fD6 => decide +kernel); (case lc6 => k_is); (case xC7 => kernel_rfl); (case xC8 => kernel_rfl); (case oC9 => k_is); (case rv9 => decide +kernel)
    (case ib9 => kernel_rfl); (case iC9 => k_is); (case tI9 => k_is); (case lI9 => k_is); (case cI9 => k_is); (case lD9 => k_is)
    (case vD9 => rfl); (case fD9 => decide +kernel); (case lc9 => k_is); (case oC10 => k_is); (case rv10 => decide +kernel); (case ib10 => kernel_rfl)
    (case iC10 => k_is); (case tI10 => k_is); (case lI10 => k_is); (case cI10 => k_is); (case lD10 => k_is); (case vD10 => rfl)
    (case fD10 => decide +kernel); (case lc10 => k_is); (case oC11 => k_is); (case rv11 => decide +kernel); (case ib11 => kernel_rfl); (case iC11 => k_is)
    (case tI11 => k_is); (case lI11 => k_is); (case cI11 => k_is); (case lD11 => k_is); (case vD11 => rfl); (case fD11 => decide +kernel)
    (case lc11 => k_is); (case oC12 => k_is); (case rv12 => decide +kernel); (case ib12 => kernel_rfl); (case iC12 => k_is); (case tI12 => k_is)
    (case lI12 => k_is); (case cI12 => k_is); (case lD12 => k_is); (case vD12 => rfl); (case fD12 => decide +kernel); (case lc12 => k_is)
    (case xC13 => kernel_rfl); (case xC14 => kernel_rfl); (case oC15 => k_is); (case rv15 => decide +kernel); (case ib15 => kernel_rfl); (case iC15 => k_is)
    (case tI15 => k_is); (case lI15 => k_is); (case cI15 => k_is); (case lD15 => k_is); (case vD15 => rfl); (case fD15 => decide +kernel)
    (case lc15 => k_is); (case oC16 => k_is); (case rv16 => decide +kernel); (case ib16 => kernel_rfl); (case iC16 => k_is); (case tI16 => k_is)
    (case lI16 => k_is); (case cI16 => k_is); (case lD16 => k_is); (case vD16 => rfl); (case fD16 => decide +kernel); (case lc16 => k_is)
    (case oC17 => k_is); (case rv17 => decide +kernel); (case ib17 => kernel_rfl); (case iC17 => k_is); (case tI17 => k_is); (case lI17 => k_is)
    (case cI17 => k_is); (case lD17 => k_is); (case vD17 => rfl); (case fD17 => decide +kernel); (case lc17 => k_is); (case xC18 => kernel_rfl)
