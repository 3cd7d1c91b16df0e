import PyProof.Rows.All
import Wide.All
import OpenK.AllK
import Wide.FinOn
import KE.KStateDown
import Lean
import HandS.Base
import HandS.Call
import HandS.Ends
import HandS.More
import HandS.Words
import HandS.WordsExc
import HandS.Defaults
import HandS.Head0
import HandS.Head1
import HandS.Head2
import HandS.HeadEnd
import HandS.HeadHook1
import HandS.HeadHook2
import HandS.HeadHook3
import HandS.HeadHook4
import HandS.ForMost
import HandS.Sort
import HandS.SortInts
import HandS.IsInst
import HandS.Walk
import KE.KDictPairs
import HandS.SetFor
import HandS.Strs
import KE.GoesMore
import HandS.Star
import HandS.DictComp
import HandS.CallLocal
import HandS.TupAny
import HandS.TryOnly
import HandS.Zip
import HandS.Text
import PySem.Challenge.RW_nestrows_k13_written_and_read
set_option Elab.async false
set_option linter.all false
set_option maxRecDepth 100000
set_option maxHeartbeats 0
namespace NH
open PySem PySem.Spec PyProof.Rows L2

def top (i : Nat) : Stmt := PySem.Challenge.pw_nestrows_k13_written_and_read.main.body.getD i (.Pass ⟨0, 0, 0, 0⟩)
def dOf (x : Str) (i : Nat) : He.DefD := ⟨(x, none), x, x, defArgs (top i), defBody (top i), defScope (top i), [], []⟩
def mOf (c m q : Str) (i j : Nat) : He.DefD := ⟨(c, some m), m, q, defArgs (inClass (top i) j), defBody (inClass (top i) j), defScope (inClass (top i) j), [], []⟩
def fnP0 : List He.DefD := [dOf "is_number" 13, dOf "of_num" 16, dOf "of_two_numbers" 17, dOf "of_if" 18, dOf "of_let" 19, dOf "of_upto" 20, dOf "of_len" 21, dOf "of_sum" 22]
def fnP1 : List He.DefD := [dOf "of_sums" 23, dOf "of_one" 24, dOf "of_pick" 25, dOf "of_put" 26, dOf "of_flat" 27, dOf "of_each" 28, dOf "of_where" 29, dOf "depth_of" 31]
def fnP2 : List He.DefD := [dOf "last_number" 35, dOf "has_shape" 36, dOf "number_of" 37, dOf "parts_of" 38, dOf "parts_ahead" 41, dOf "has_face" 44, dOf "is_param" 45, dOf "told_faces" 46]
def fnP3 : List He.DefD := [dOf "form_of" 47, dOf "forms_of" 48, dOf "faces" 49, dOf "words_of" 52, dOf "written_function" 53, dOf "written" 54, dOf "is_numeral" 55, dOf "read" 57]
def fnP4 : List He.DefD := [dOf "taken_by" 61, dOf "looks_at" 62, dOf "taken_in" 63, dOf "code_of" 66, dOf "flat" 67, dOf "_law_taken" 69, dOf "_law_alike" 70, dOf "_law_parts" 71]
def fnP5 : List He.DefD := [dOf "_law_size" 72, dOf "_law_within" 73, dOf "_law_leaf" 74, dOf "_law_number" 75, dOf "_law_bound" 76, dOf "_law_any" 77, dOf "_law_tree" 78, dOf "_law_face" 79]
def fnP6 : List He.DefD := [dOf "_law_body" 80, dOf "_law_program" 81, dOf "_law_words" 82, dOf "_law_text" 83, dOf "law" 84, mOf "Node" "__init__" "Node.__init__" 40 0, mOf "Form" "__init__" "Form.__init__" 42 0, mOf "Look" "__init__" "Look.__init__" 43 0]
def fnP7 : List He.DefD := [mOf "Look" "refuse_if" "Look.refuse_if" 43 1, mOf "Look" "node_of" "Look.node_of" 43 2, mOf "Look" "may_call" "Look.may_call" 43 3, mOf "Look" "parts_that_name" "Look.parts_that_name" 43 4, mOf "Look" "depth_told" "Look.depth_told" 43 5, mOf "Coder" "__init__" "Coder.__init__" 65 0, mOf "Coder" "new_one" "Coder.new_one" 65 1, mOf "Coder" "block_of" "Coder.block_of" 65 2]
def fnP8 : List He.DefD := [mOf "Coder" "add_rows" "Coder.add_rows" 65 3, mOf "Coder" "row_end" "Coder.row_end" 65 4, mOf "Coder" "if_end" "Coder.if_end" 65 5, mOf "Coder" "items_end" "Coder.items_end" 65 6, mOf "RowReader" "__init__" "RowReader.__init__" 56 0, mOf "RowReader" "upcoming" "RowReader.upcoming" 56 1, mOf "RowReader" "next_word" "RowReader.next_word" 56 2, mOf "RowReader" "numeral" "RowReader.numeral" 56 3]
def fnP9 : List He.DefD := [mOf "RowReader" "sign" "RowReader.sign" 56 4, mOf "RowReader" "function_told" "RowReader.function_told" 56 5, mOf "RowReader" "expression" "RowReader.expression" 56 6]
def fn : List He.DefD := fnP0 ++ fnP1 ++ fnP2 ++ fnP3 ++ fnP4 ++ fnP5 ++ fnP6 ++ fnP7 ++ fnP8 ++ fnP9
def faP0 : List He.Fa := [.free "len", .free "range", .free "tuple", .free "list", .free "dict", .free "int", .free "sorted", .free "sum", .free "max", .free "min"]
def faP1 : List He.Fa := [.free "isinstance", .free "str", .free "bool", .free "set", .free "all", .free "enumerate", .glo "is_number", .glo "of_num", .glo "of_two_numbers", .glo "of_if"]
def faP2 : List He.Fa := [.glo "of_let", .glo "of_upto", .glo "of_len", .glo "of_sum", .glo "of_sums", .glo "of_one", .glo "of_pick", .glo "of_put", .glo "of_flat", .glo "of_each"]
def faP3 : List He.Fa := [.glo "of_where", .glo "depth_of", .glo "last_number", .glo "has_shape", .glo "number_of", .glo "parts_of", .glo "parts_ahead", .glo "has_face", .glo "is_param", .glo "told_faces"]
def faP4 : List He.Fa := [.glo "form_of", .glo "forms_of", .glo "faces", .glo "words_of", .glo "written_function", .glo "written", .glo "is_numeral", .glo "read", .glo "taken_by", .glo "looks_at"]
def faP5 : List He.Fa := [.glo "taken_in", .glo "code_of", .glo "flat", .glo "_law_taken", .glo "_law_alike", .glo "_law_parts", .glo "_law_size", .glo "_law_within", .glo "_law_leaf", .glo "_law_number"]
def faP6 : List He.Fa := [.glo "_law_bound", .glo "_law_any", .glo "_law_tree", .glo "_law_face", .glo "_law_body", .glo "_law_program", .glo "_law_words", .glo "_law_text", .glo "law", .glo "Node"]
def faP7 : List He.Fa := [.glo "Form", .glo "Look", .glo "Coder", .glo "RowReader", .glo "RULES", .glo "LENGTHS", .glo "NUMBERED", .glo "ITEM_WORDS", .glo "WITH_DEPTH", .int "LAST_NUMBER" (10006)]
def faP8 : List He.Fa := [.int "MOST_FUNCTIONS" (6), .int "LAST_NAME" (19), .int "MOST_DEPTH" (3), .int "MOST_PARAMS" (4), .int "LAST_PLACE" (59), .int "MOST_WITHIN" (12), .int "NO_DEPTH" (-1), .int "MOST_FIGURES" (5), .cls "Node", .mkr "Node"]
def faP9 : List He.Fa := [.noat "Node" "word", .noat "Node" "function", .noat "Node" "place", .noat "Node" "number", .noat "Node" "parts", .noat "Node" "depth", .cls "Form", .mkr "Form", .noat "Form" "names", .noat "Form" "depths"]
def faP10 : List He.Fa := [.noat "Form" "body", .cls "Look", .mkr "Look", .noat "Look" "known", .noat "Look" "function", .noat "Look" "looked_at", .noat "Look" "calls_itself", .meth "Look" "refuse_if", .meth "Look" "node_of", .meth "Look" "may_call"]
def faP11 : List He.Fa := [.meth "Look" "parts_that_name", .meth "Look" "depth_told", .cls "Coder", .mkr "Coder", .noat "Coder" "registers", .meth "Coder" "new_one", .meth "Coder" "block_of", .meth "Coder" "add_rows", .meth "Coder" "row_end", .meth "Coder" "if_end"]
def faP12 : List He.Fa := [.meth "Coder" "items_end", .cls "RowReader", .mkr "RowReader", .noat "RowReader" "row", .noat "RowReader" "words", .noat "RowReader" "place", .meth "RowReader" "upcoming", .meth "RowReader" "next_word", .meth "RowReader" "numeral", .meth "RowReader" "sign"]
def faP13 : List He.Fa := [.meth "RowReader" "function_told", .meth "RowReader" "expression"]
def fa : List He.Fa := faP0 ++ faP1 ++ faP2 ++ faP3 ++ faP4 ++ faP5 ++ faP6 ++ faP7 ++ faP8 ++ faP9 ++ faP10 ++ faP11 ++ faP12 ++ faP13
def nmP0 : List PySem.Str := ["NestError", "BadProgram", "BadText", "DIVISOR", "LAST_NUMBER", "MOST_DEPTH", "MOST_FUNCTIONS", "MOST_PARAMS", "LAST_NAME", "LAST_PLACE", "MOST_WITHIN", "is_number"]
def nmP1 : List PySem.Str := ["NO_DEPTH", "of_num", "of_two_numbers", "of_if", "of_let", "of_upto", "of_len", "of_sum", "of_sums", "of_one", "of_pick", "of_put"]
def nmP2 : List PySem.Str := ["of_flat", "of_each", "of_where", "RULES", "depth_of", "LENGTHS", "NUMBERED", "last_number", "has_shape", "number_of", "parts_of", "Node"]
def nmP3 : List PySem.Str := ["parts_ahead", "Form", "Look", "has_face", "is_param", "told_faces", "form_of", "forms_of", "faces", "MOST_FIGURES", "words_of", "written_function"]
def nmP4 : List PySem.Str := ["written", "is_numeral", "RowReader", "read", "ITEM_WORDS", "WITH_DEPTH", "taken_by", "looks_at", "taken_in", "Coder", "code_of", "flat"]
def nmP5 : List PySem.Str := ["_law_taken", "_law_alike", "_law_parts", "_law_size", "_law_within", "_law_leaf", "_law_number", "_law_bound", "_law_any", "_law_tree", "_law_face", "_law_body"]
def nmP6 : List PySem.Str := ["_law_program", "_law_words", "_law_text"]
def names : List PySem.Str := nmP0 ++ nmP1 ++ nmP2 ++ nmP3 ++ nmP4 ++ nmP5 ++ nmP6
def lenT : List (Str × He.Dv) := [("num", .int 2), ("name", .int 2), ("plus", .int 3), ("minus", .int 3), ("times", .int 3), ("less", .int 3), ("same", .int 3), ("if", .int 4), ("let", .int 4), ("upto", .int 2), ("len", .int 2), ("sum", .int 2), ("sums", .int 2), ("one", .int 2), ("pick", .int 3), ("put", .int 3), ("flat", .int 2), ("each", .int 4), ("where", .int 4), ("call", .int 3)]
def rulT : List (Str × He.Dv) := [("num", .glo "of_num"), ("plus", .glo "of_two_numbers"), ("minus", .glo "of_two_numbers"), ("times", .glo "of_two_numbers"), ("less", .glo "of_two_numbers"), ("same", .glo "of_two_numbers"), ("if", .glo "of_if"), ("let", .glo "of_let"), ("upto", .glo "of_upto"), ("len", .glo "of_len"), ("sum", .glo "of_sum"), ("sums", .glo "of_sums"), ("one", .glo "of_one"), ("pick", .glo "of_pick"), ("put", .glo "of_put"), ("flat", .glo "of_flat"), ("each", .glo "of_each"), ("where", .glo "of_where")]
def lenK : List Str := ["num", "name", "plus", "minus", "times", "less", "same", "if", "let", "upto", "len", "sum", "sums", "one", "pick", "put", "flat", "each", "where", "call"]
def rulK : List Str := ["num", "plus", "minus", "times", "less", "same", "if", "let", "upto", "len", "sum", "sums", "one", "pick", "put", "flat", "each", "where"]
def tsT : List He.Tab := [(fun K => He.ga K "LENGTHS", lenK), (fun K => He.ga K "RULES", rulK)]
def numD : List He.Dv := [.str "num", .str "name", .str "let", .str "each", .str "where", .str "call"]
def itD : List He.Dv := [.str "each", .str "where"]
def wdD : List He.Dv := [.str "pick", .str "put", .str "flat", .str "one"]
def exB (K : PySem.W.Frag) : Bool := He.tupB K "NUMBERED" numD && (He.tupB K "ITEM_WORDS" itD && (He.tupB K "WITH_DEPTH" wdD && (He.valsB K (He.ga K "LENGTHS") lenT && He.valsB K (He.ga K "RULES") rulT)))
abbrev R : PySem.W.OpenRow := PySem.W.OpenLaw.row PySem.Challenge.rw_nestrows_k13_written_and_read
abbrev hk : PySem.W.Hook := He.hookX 4 fa fn tsT [] exB
def ob (s : PySem.W.SharedT) : He.AlX := He.obsX 4 fa fn tsT [] exB (HandSHeadRun.getT s)
theorem ob_eq (s : PySem.W.SharedT) : ob s = hk.obs s.abs := He.obsX_eq (HandSHeadRun.getT_eq s)
end NH
set_option maxHeartbeats 0
namespace NH
open PySem PySem.Spec PyProof.Rows L2
theorem runF (w : World) : HandSHeadRun.RunEq R (PySem.W.view R.prog [84]) hk ob 12000 names (w.withFollow "special-get-raises" false) := by
  intro os
  kernel_rfl
theorem runT (w : World) : HandSHeadRun.RunEq R (PySem.W.view R.prog [84]) hk ob 12000 names (w.withFollow "special-get-raises" true) := by
  intro os
  kernel_rfl
theorem run (w : World) : HandSHeadRun.RunEq R (PySem.W.view R.prog [84]) hk ob 12000 names w := PySem.W.byRow2 "special-get-raises" (P := fun w => HandSHeadRun.RunEq R (PySem.W.view R.prog [84]) hk ob 12000 names w) runF runT w
end NH
set_option maxHeartbeats 4000000
namespace NR
open PySem PySem.Spec PyProof.Rows L2
abbrev FnP (K : PySem.W.Frag) (x : Str) (st : Stmt) (f : Addr) (fd : FuncData) : Prop := FunD K x x (defArgs st) (defBody st) (defScope st) [] [] f fd
/-- an own def by its name: it keeps its promise -/
structure Okf (P : Program) (w : World) (K : PySem.W.Frag) (mg : Str → Option Value) (base : Heap) (CX : CXT) (k : Nat) (x : Str) (ps : List Str) (sp : Sp) : Prop where
  ex : ∃ f fd, FnOk P w K mg base CX k f fd ps sp ∧ mg x = some (.ref f) ∧ PySem.W.keepIn K (.ref f) = true ∧ Binds K fd ps []
theorem Okf.mono {P w K mg base CX j k x ps sp} (O : Okf P w K mg base CX j x ps sp) (h : j ≤ k) : Okf P w K mg base CX k x ps sp := by
  obtain ⟨f, fd, F, r⟩ := O.ex
  exact ⟨f, fd, F.mono h, r⟩
section
variable {X : Cx} {CX : CXT} {k : Nat} {x : Str} {ps : List Str} {sp : Sp} {E : XK} {e : Expr} {es : List Expr} {t : TA} {p pos : Pos}
theorem pe_c (O : Okf X.prog X.w X.K X.mg X.base CX k x ps sp) (hr : Room k X.A) (hg : Gl X x) (hx : Passes CX X E)
    (ha : PA X (e :: es) t) (hdb : (x == ("__debug__" : Str)) = false := by decide) (he : starEach (e :: es) X.env = (false, eval e X.env) :: starEach es X.env := by rfl) (hpl : (backTo pos (starEach es X.env)).any (·.1) = false := by rfl) :
    PE X (.Call (.Name x p) (e :: es) [] pos) (tCall sp [] E t) := by
  obtain ⟨f, fd, F, hm, hk, hb⟩ := O.ex
  exact pe_call F hr hg hm hk hb .nil hx ha hdb he hpl
end
/-! ### the rules with the written part told -/
section
variable {X : Cx} (K : PySem.W.Frag)
theorem ix_listK (h : X.K = K := by rfl) : IxR X (rIxL K) := h ▸ ix_list
theorem ix_tupK (h : X.K = K := by rfl) : IxR X (rIxT K) := h ▸ ix_tup
theorem sl_listK (h : X.K = K := by rfl) : SlR X (rSlL K) := h ▸ sl_list
theorem sl_tupK (h : X.K = K := by rfl) : SlR X (rSlT K) := h ▸ sl_tup
def rLen (K : PySem.W.Frag) : List V → Hp → VK → Prop := fun xs H Q => ∃ p ys, xs = [.ref p] ∧ (SqL K H p ys ∨ SqT K H p ys) ∧ Q (.int ys.length) H
theorem call_lenK (h : X.K = K := by rfl) : CallR X (.builtin "len") (rLen K) := h ▸ call_len_seq
def rListOf (K : PySem.W.Frag) : List V → Hp → VK → Prop := fun xs H Q => ∃ p ys, xs = [.ref p] ∧ (SqL K H p ys ∨ SqT K H p ys) ∧ ∀ l, H l = none → Q (.ref l) (upd H l (.lst ys))
theorem call_listK (h : X.K = K := by rfl) : CallR X (.type "list") (rListOf K) := h ▸ call_list_of
def rTupleOf (K : PySem.W.Frag) : List V → Hp → VK → Prop := fun xs H Q => ∃ p ys, xs = [.ref p] ∧ ((SqL K H p ys ∧ ∀ l, H l = none → Q (.ref l) (upd H l (.tup ys))) ∨ (SqT K H p ys ∧ Q (.ref p) H))
theorem call_tupleK (h : X.K = K := by rfl) : CallR X (.type "tuple") (rTupleOf K) := h ▸ call_tuple_of
theorem op_inK (h : X.K = K := by rfl) : OpR X (compareOp .In) (rIn K false) := h ▸ op_in_seq
theorem op_notInK (h : X.K = K := by rfl) : OpR X (compareOp .NotIn) (rIn K true) := h ▸ op_notIn_seq
theorem op_eqDK (hu : X.A.units + 64 < cLine) (h : X.K = K := by rfl) : OpR X (compareOp .Eq) (rEqD K) := h ▸ op_eqD hu
theorem op_neDK (hu : X.A.units + 64 < cLine) (h : X.K = K := by rfl) : OpR X (compareOp .NotEq) (rNeD K) := h ▸ op_neD hu
theorem op_catTK (h : X.K = K := by rfl) : OpR X (binaryOp .Add) (rCatT K) := h ▸ op_catT
theorem cr_sortedK (h : X.K = K := by rfl) : CallR X (.builtin "sorted") (rSorted K) := h ▸ cr_sorted
theorem pi_listK {tg l : Expr} {tl : TE} (hl : PE X l tl) (h : X.K = K := by rfl) : PI X tg l (iList K tl) := h ▸ pi_list hl
theorem pi_tupK {tg l : Expr} {tl : TE} (hl : PE X l tl) (h : X.K = K := by rfl) : PI X tg l (iTup K tl) := h ▸ pi_tup hl
theorem pe_fldK {e : Expr} {ta : TE} {f : Str} {pos : Pos} (he : PE X e ta) (hb : attributeBase e f X.env (eval e X.env) = eval e X.env) (h : X.K = K := by rfl) : PE X (.Attribute e f pos) (tFld K ta f) := h ▸ pe_fld he hb
end
/-- all but what stands at r stays -/
def SameX (r : Addr) (H H' : Hp) : Prop := ∀ b o, b ≠ r → H b = some o → H' b = some o
theorem SameX.refl (r : Addr) (H : Hp) : SameX r H H := fun _ _ _ h => h
theorem SameX.trans {r : Addr} {H H1 H2 : Hp} (a : SameX r H H1) (b : SameX r H1 H2) : SameX r H H2 := fun c o n h => b c o n (a c o n h)
theorem SameX.upd {r : Addr} {H : Hp} {o : HO} : SameX r H (upd H r o) := fun b u n h => by rw [upd_ne n]; exact h
theorem SameX.new {r p : Addr} {H : Hp} {o : HO} (h : H p = none) : SameX r H (L2.upd H p o) := fun b u n q => by rw [upd_ne (ne_of_none q h)]; exact q
theorem Same.toX {r : Addr} {H H' : Hp} (h : Same H H') : SameX r H H' := fun b o _ q => h b o q
theorem same_new {H : Hp} {p : Addr} (h : H p = none) (o : HO) : Same H (upd H p o) := fun b u q => by rw [upd_ne (ne_of_none q h)]; exact q
/-- where the drawing's list stands, where the script does, the script -/
structure RD where
  r : Addr
  a : Addr
  ns : List Int
instance : CoeOut RD Addr := ⟨RD.r⟩
/-- the script lies apart from the row (or in the written part, where nothing changes) -/
def Apt (K : PySem.W.Frag) (r : RD) : Prop := r.a ≠ r.r ∨ ∀ H, SqL K H r.a (r.ns.map V.int)
/-- the state of the drawing: a list of the script, how many cells are taken, what is mixed, what is left -/
structure Draw (K : PySem.W.Frag) (r : RD) (H : Hp) : Prop where
  ex : ∃ (p x l : Int), H r.r = some (.lst [.ref r.a, .int p, .int x, .int l]) ∧ SqL K H r.a (r.ns.map V.int) ∧ Apt K r ∧ 0 ≤ p ∧ 0 ≤ x ∧ 0 ≤ l
theorem sqL_X {K : PySem.W.Frag} {r a : Addr} {H H' : Hp} {xs : List V} (e : SameX r H H') (n : a ≠ r) (h : SqL K H a xs) : SqL K H' a xs := by
  rcases h with (h | ⟨o, h⟩) | h
  · exact .inl (.inl (e _ _ n h))
  · exact .inl (.inr ⟨o, e _ _ n h⟩)
  · exact .inr h
theorem Apt.sq {K : PySem.W.Frag} {r : RD} {H H' : Hp} (n : Apt K r) (e : SameX r.r H H') (S : SqL K H r.a (r.ns.map V.int)) : SqL K H' r.a (r.ns.map V.int) := by
  rcases n with n | n
  · exact sqL_X e n S
  · exact n H'
/-- behind drawing -/
structure Drawn (K : PySem.W.Frag) (r : RD) (H H' : Hp) : Prop where
  d : Draw K r H'
  s : SameX r.r H H'
section
variable {K : PySem.W.Frag} {r : RD} {H H1 H2 H' : Hp}
theorem Drawn.trans (a : Drawn K r H H1) (b : Drawn K r H1 H2) : Drawn K r H H2 := ⟨b.d, a.s.trans b.s⟩
theorem Drawn.refl (d : Draw K r H) : Drawn K r H H := ⟨d, .refl _ _⟩
theorem Draw.ref (d : Draw K r H) : ∃ o, H r.r = some o := by
  obtain ⟨p, x, l, h, _⟩ := d.ex
  exact ⟨_, h⟩
theorem Drawn.new {q : Addr} {o : HO} (d : Draw K r H) (h : H q = none) : Drawn K r H (upd H q o) := by
  obtain ⟨p, x, l, e, S, rest⟩ := d.ex
  exact ⟨⟨p, x, l, by rw [upd_ne (ne_of_none e h)]; exact e, (same_new h o).seq S, rest⟩, .new h⟩
/-- a state that any list of the right sort is -/
theorem Draw.put {p x l : Int} (S : SqL K H r.a (r.ns.map V.int)) (n : Apt K r) (e : SameX r.r H H') (h : H' r.r = some (.lst [.ref r.a, .int p, .int x, .int l])) (hp : 0 ≤ p) (hx : 0 ≤ x) (hl : 0 ≤ l) : Drawn K r H H' :=
  ⟨⟨p, x, l, h, n.sq e S, n, hp, hx, hl⟩, e⟩
/-- what was made since may change -/
theorem Drawn.put {D : Addr} {o : HO} (g : Drawn K r H H') (d : Draw K r H) (h : H D = none) : Drawn K r H (upd H' D o) := by
  obtain ⟨p0, x0, l0, e0, S0, n0, _⟩ := d.ex
  obtain ⟨p, x, l, e, S, n, rest⟩ := g.d.ex
  have nr : r.r ≠ D := ne_of_none e0 h
  refine ⟨⟨p, x, l, by rw [upd_ne nr]; exact e, ?_, n, rest⟩, fun b u nb hb => ?_⟩
  · rcases n with n | n
    · rcases S0 with (q | ⟨o, q⟩) | q
      · exact .inl (.inl ((upd_ne (ne_of_none q h)).trans (g.s _ _ n q)))
      · exact .inl (.inr ⟨o, (upd_ne (ne_of_none q h)).trans (g.s _ _ n q)⟩)
      · exact .inr q
    · exact n _
  · rw [upd_ne (ne_of_none hb h)]
    exact g.s b u nb hb
end
def spTaken (K : PySem.W.Frag) : Sp := fun vs H Q _ => ∃ (r : RD) (m : Int), vs = [.ref r.r, .int m] ∧ Draw K r H ∧ 0 < m ∧ m < 1073741824 ∧
  ∀ (k : Int) (H' : Hp), 0 ≤ k → k < m → Drawn K r H H' → Q (.int k) H'
end NR
set_option maxHeartbeats 4000000
namespace NR
open PySem PySem.Spec PyProof.Rows L2
def top (i : Nat) : Stmt := PySem.Challenge.pw_nestrows_k13_written_and_read.main.body.getD i (.Pass ⟨0, 0, 0, 0⟩)
abbrev sLawTaken : Stmt := top 69
theorem scTaken : FnScope ["_law_row", "_law_many", "_law_found", "_law_cell"] ["_law_row", "_law_many"] (defScope sLawTaken) := ⟨rfl, rfl, rfl, by decide +kernel, rfl, by decide +kernel, by decide +kernel⟩
section
variable {P : Program} {w : World} {K : PySem.W.Frag} {mg : Str → Option Value} {base : Heap} {f : Addr} {fd : FuncData}
theorem ok_taken (F : FnP K "_law_taken" sLawTaken f fd) (z_len : mg "len" = none) : FnOk P w K mg base CX0 1 f fd ["_law_row", "_law_many"] (spTaken K) := by
  have sc := scTaken
  refine F.ok sc (fun vs H Q E h => ?_) (fun cdv A outer s H vs Q E hr h => ?_)
  · obtain ⟨r, m, rfl, _⟩ := h
    rfl
  obtain ⟨r, m, rfl, d, m0, m1, q⟩ := h
  refine ⟨_, (pss_cons (ps_if (pt_cmpR op_gt (pe_ix ix_list (pv 0) pe_int (fun _ _ => rfl)) pe_int (nomark _)) (pss_cons (ps_set (i := 2) sc.nd rfl (.inl rfl) (pe_op op_mod (pe_ix ix_list (pv 0) pe_int (fun _ _ => rfl)) (pv 1)))
    (pss_cons (ps_asg (pe_op op_fdiv (pe_ix ix_list (pv 0) pe_int (fun _ _ => rfl)) (pv 1)) (pg_sub (pv 0) pe_int set_list))
    (pss_one (ps_ret (pv 2))))) pss_nil)
    (pss_cons (ps_asg (pe_op op_add (pe_ix ix_list (pv 0) pe_int (fun _ _ => rfl)) pe_int) (pg_sub (pv 0) pe_int set_list))
    (pss_cons (ps_if (pt_cmpR op_gt (pe_ix ix_list (pv 0) pe_int (fun _ _ => rfl)) (pe_callB call_len_seq rfl z_len PySem.boot_len (pa_cons (pe_ix ix_list (pv 0) pe_int (fun _ _ => rfl)) pa_nil)) (nomark _)) (pss_cons (ps_asg (pe_op op_mod (pe_op op_add (pe_op op_mul (pe_ix ix_list (pv 0) pe_int (fun _ _ => rfl)) pe_int) pe_int) pe_int) (pg_sub (pv 0) pe_int set_list))
    (pss_one (ps_ret (pe_op op_mod (pe_op op_fdiv (pe_ix ix_list (pv 0) pe_int (fun _ _ => rfl)) pe_int) (pv 1))))) pss_nil)
    (pss_cons (ps_set (i := 3) sc.nd rfl (.inl rfl) (pe_ix ix_list (pe_ix ix_list (pv 0) pe_int (fun _ _ => rfl)) (pe_op op_sub (pe_ix ix_list (pv 0) pe_int (fun _ _ => rfl)) pe_int) (fun _ _ => rfl)))
    (pss_cons (ps_asg (pe_op op_mod (pe_op op_add (pe_op op_add (pe_op op_mul (pe_ix ix_list (pv 0) pe_int (fun _ _ => rfl)) pe_int) (pv 3)) pe_int) pe_int) (pg_sub (pv 0) pe_int set_list))
    (pss_cons (ps_asg (pe_ifExp (pt_cmpR op_ge (pv 3) (pe_op op_pow pe_int pe_int) (nomark _)) (pe_op op_fdiv (pv 3) (pv 1)) pe_int) (pg_sub (pv 0) pe_int set_list))
    (pss_one (ps_ret (pe_op op_mod (pv 3) (pv 1)))))))))), ?_⟩
  obtain ⟨p, x, l, er, S, nr, hp, hx, hl⟩ := d.ex
  obtain ⟨r, a, ns⟩ := r
  change H r = _ at er
  change Apt K ⟨r, a, ns⟩ at nr
  change SqL K H a (ns.map V.int) at S
  refine ⟨_, rfl, _, _, _, _, rfl, rfl, SqL.of er, rfl, _, _, rfl, rfl, _, rfl, ?_⟩
  refine ite2 (fun c => ?_) (fun c => ?_)
  · have c' : 0 < l := of_decide_eq_true c
    refine ⟨_, rfl, _, _, _, _, rfl, rfl, SqL.of er, rfl, _, rfl, _, _, rfl, rfl, m0, ?_⟩
    refine ⟨_, rfl, _, _, _, _, rfl, rfl, SqL.of er, rfl, _, rfl, _, _, rfl, rfl, ⟨m0, m1⟩, _, rfl, _, _, _, _, rfl, rfl, er, rfl, ?_⟩
    refine ⟨_, rfl, ?_⟩
    exact q _ _ (Int.emod_nonneg _ (by omega)) (Int.emod_lt_of_pos _ m0) (Draw.put S nr .upd upd_same hp hx (Int.ediv_nonneg hl (by omega)))
  · have c' : ¬ 0 < l := fun z => c (decide_eq_true z)
    refine ⟨_, rfl, _, _, _, _, rfl, rfl, SqL.of er, rfl, _, _, rfl, rfl, _, rfl, _, _, _, _, rfl, rfl, er, rfl, ?_⟩
    have S1 : SqL K (upd H r (.lst [.ref a, .int (p + 1), .int x, .int l])) a (ns.map V.int) := nr.sq (r := ⟨r, a, ns⟩) (H := H) .upd S
    have hl' : (ns.map V.int).length = ns.length := List.length_map _
    refine ⟨_, rfl, _, _, _, _, rfl, rfl, SqL.of upd_same, rfl, _, rfl, _, _, _, _, rfl, rfl, SqL.of upd_same, rfl, a, _, rfl, .inl S1, _, _, rfl, rfl, _, rfl, ?_⟩
    rw [hl']
    refine ite2 (fun c => ?_) (fun c => ?_)
    · refine ⟨_, rfl, _, _, _, _, rfl, rfl, SqL.of upd_same, rfl, _, _, rfl, rfl, .inr ⟨by decide, by decide⟩, _, _, rfl, rfl, _, _, rfl, rfl, (show (0 : Int) < 2147483647 by decide), _, rfl, _, _, _, _, rfl, rfl, upd_same, rfl, ?_⟩
      rw [upd_upd]
      refine ⟨_, rfl, _, _, _, _, rfl, rfl, SqL.of upd_same, rfl, _, _, rfl, rfl, ⟨by decide, by decide⟩, _, rfl, _, _, rfl, rfl, m0, ?_⟩
      exact q _ _ (Int.emod_nonneg _ (by omega)) (Int.emod_lt_of_pos _ m0) (Draw.put S nr .upd upd_same (by omega) (Int.emod_nonneg _ (by decide)) hl)
    · have c2 : ¬ ((ns.length : Int) < p + 1) := fun z => c (decide_eq_true z)
      have hk : p.toNat < ns.length := by omega
      have ek : p + 1 - 1 = ((p.toNat : Nat) : Int) := by omega
      have ev : atI (ns.map V.int) (p + 1 - 1) = some (.int ns[p.toNat]) := by
        rw [ek]
        exact atI_nat (by rw [List.getElem?_map, List.getElem?_eq_getElem hk]; rfl)
      refine ⟨_, rfl, _, _, _, _, rfl, rfl, SqL.of upd_same, rfl, _, rfl, _, _, _, _, rfl, rfl, SqL.of upd_same, rfl, _, _, rfl, rfl, _, _, _, _, rfl, rfl, S1, ev, ?_⟩
      refine ⟨_, rfl, _, _, _, _, rfl, rfl, SqL.of upd_same, rfl, _, _, rfl, rfl, .inr ⟨by decide, by decide⟩, _, rfl, _, _, rfl, rfl, _, _, rfl, rfl, _, _, rfl, rfl, (show (0 : Int) < 2147483647 by decide), _, rfl, _, _, _, _, rfl, rfl, upd_same, rfl, ?_⟩
      rw [upd_upd]
      refine ⟨_, rfl, _, _, rfl, rfl, ⟨by decide, by decide, by decide⟩, _, _, rfl, rfl, _, rfl, ?_⟩
      refine ite2 (fun c => ?_) (fun c => ?_)
      · have c3 : (10 : Int) ^ (18 : Int).toNat ≤ ns[p.toNat] := of_decide_eq_true c
        have c4 : (0 : Int) ≤ ns[p.toNat] := Int.le_trans (by decide) c3
        refine ⟨_, rfl, _, rfl, _, _, rfl, rfl, ⟨m0, m1⟩, _, rfl, _, _, _, _, rfl, rfl, upd_same, rfl, ?_⟩
        rw [upd_upd]
        refine ⟨_, rfl, _, rfl, _, _, rfl, rfl, m0, ?_⟩
        exact q _ _ (Int.emod_nonneg _ (by omega)) (Int.emod_lt_of_pos _ m0) (Draw.put S nr .upd upd_same (by omega) (Int.emod_nonneg _ (by decide)) (Int.ediv_nonneg c4 (by omega)))
      · refine ⟨_, rfl, _, _, _, _, rfl, rfl, upd_same, rfl, ?_⟩
        rw [upd_upd]
        refine ⟨_, rfl, _, rfl, _, _, rfl, rfl, m0, ?_⟩
        exact q _ _ (Int.emod_nonneg _ (by omega)) (Int.emod_lt_of_pos _ m0) (Draw.put S nr .upd upd_same (by omega) (Int.emod_nonneg _ (by decide)) (Int.le_refl 0))
end
end NR
set_option maxHeartbeats 4000000
namespace NR
open PySem PySem.Spec PyProof.Rows L2
/-! ### expressions -/
inductive W where
  | num | name | plus | minus | times | less | same | ite | elet | upto | len | sum | sums | one | pick | put | flat | each | whr | call
  deriving DecidableEq
def W.str : W → Str
  | .num => "num" | .name => "name" | .plus => "plus" | .minus => "minus" | .times => "times" | .less => "less" | .same => "same"
  | .ite => "if" | .elet => "let" | .upto => "upto" | .len => "len" | .sum => "sum" | .sums => "sums" | .one => "one"
  | .pick => "pick" | .put => "put" | .flat => "flat" | .each => "each" | .whr => "where" | .call => "call"
/-- 0: a number; 1: a number, parts; 2: a number, a tuple of parts; 3: parts -/
def W.lay : W → Nat
  | .num | .name => 0
  | .elet | .each | .whr => 1
  | .call => 2
  | _ => 3
inductive Ex where
  | node (w : W) (n : Int) (ps : List Ex)
mutual
def Ex.size : Ex → Nat
  | .node _ _ ps => 1 + sizes ps
def sizes : List Ex → Nat
  | [] => 0
  | e :: es => e.size + sizes es
end
mutual
def Ex.hgt : Ex → Nat
  | .node _ _ ps => 1 + hgts ps
def hgts : List Ex → Nat
  | [] => 0
  | e :: es => max e.hgt (hgts es)
end
theorem Ex.hgt_pos (e : Ex) : 0 < e.hgt := by
  cases e
  unfold Ex.hgt
  omega
/-! ### an expression in the heap -/
mutual
inductive TIn (H : Hp) : V → Ex → Prop
  | leaf {a : Addr} {w : W} {n : Int} : w.lay = 0 → H a = some (.tup [.str w.str, .int n]) → TIn H (.ref a) (.node w n [])
  | bind {a : Addr} {w : W} {n : Int} {xs : List V} {ps : List Ex} : w.lay = 1 → H a = some (.tup (.str w.str :: .int n :: xs)) → TIns H xs ps → TIn H (.ref a) (.node w n ps)
  | call {a b : Addr} {n : Int} {xs : List V} {ps : List Ex} : H a = some (.tup [.str W.call.str, .int n, .ref b]) → H b = some (.tup xs) → TIns H xs ps → TIn H (.ref a) (.node .call n ps)
  | bare {a : Addr} {w : W} {xs : List V} {ps : List Ex} : w.lay = 3 → H a = some (.tup (.str w.str :: xs)) → TIns H xs ps → TIn H (.ref a) (.node w (-1) ps)
inductive TIns (H : Hp) : List V → List Ex → Prop
  | nil : TIns H [] []
  | cons {v : V} {vs : List V} {e : Ex} {es : List Ex} : TIn H v e → TIns H vs es → TIns H (v :: vs) (e :: es)
end
/-- tuples stay -/
def TK (H H' : Hp) : Prop := ∀ b xs, H b = some (.tup xs) → H' b = some (.tup xs)
theorem TK.refl (H : Hp) : TK H H := fun _ _ h => h
theorem TK.trans {H H1 H2 : Hp} (a : TK H H1) (b : TK H1 H2) : TK H H2 := fun c xs h => b c xs (a c xs h)
theorem TK.of {H H' : Hp} (h : Same H H') : TK H H' := fun b xs q => h b _ q
mutual
theorem TIn.mono {H H' : Hp} (k : TK H H') : ∀ {v : V} {e : Ex}, TIn H v e → TIn H' v e
  | _, _, .leaf l h => .leaf l (k _ _ h)
  | _, _, .bind l h p => .bind l (k _ _ h) (TIns.mono k p)
  | _, _, .call h h' p => .call (k _ _ h) (k _ _ h') (TIns.mono k p)
  | _, _, .bare l h p => .bare l (k _ _ h) (TIns.mono k p)
theorem TIns.mono {H H' : Hp} (k : TK H H') : ∀ {vs : List V} {es : List Ex}, TIns H vs es → TIns H' vs es
  | _, _, .nil => .nil
  | _, _, .cons h p => .cons (TIn.mono k h) (TIns.mono k p)
end
theorem SameX.tk {r : Addr} {H H' : Hp} {xs : List V} (s : SameX r H H') (h : H r = some (.lst xs)) : TK H H' := fun b ys q => s b _ (ne_of q h (by intro z; cases z)) q
theorem Drawn.tk {K : PySem.W.Frag} {r : RD} {H H' : Hp} (g : Drawn K r H H') (d : Draw K r H) : TK H H' := by
  obtain ⟨p, x, l, h, _⟩ := d.ex
  exact g.s.tk h
/-! ### its depth -/
abbrev Env1 := Int → Option Nat
def ups (ρ : Env1) (x : Int) (d : Nat) : Env1 := fun y => if y = x then some d else ρ y
mutual
inductive Ty (fs : List (List Nat × Nat)) : Env1 → Ex → Nat → Prop
  | num {ρ : Env1} {n : Int} : 0 ≤ n → n ≤ 10006 → Ty fs ρ (.node .num n []) 0
  | name {ρ : Env1} {x : Int} {d : Nat} : 0 ≤ x → x ≤ 19 → ρ x = some d → d ≤ 3 → Ty fs ρ (.node .name x []) d
  | two {ρ : Env1} {w : W} {a b : Ex} : (w = .plus ∨ w = .minus ∨ w = .times ∨ w = .less ∨ w = .same) → Ty fs ρ a 0 → Ty fs ρ b 0 → Ty fs ρ (.node w (-1) [a, b]) 0
  | ite {ρ : Env1} {c a b : Ex} {d : Nat} : Ty fs ρ c 0 → Ty fs ρ a d → Ty fs ρ b d → Ty fs ρ (.node .ite (-1) [c, a, b]) d
  | elet {ρ : Env1} {x : Int} {a b : Ex} {d1 d : Nat} : 0 ≤ x → x ≤ 19 → Ty fs ρ a d1 → Ty fs (ups ρ x d1) b d → Ty fs ρ (.node .elet x [a, b]) d
  | upto {ρ : Env1} {a : Ex} : Ty fs ρ a 0 → Ty fs ρ (.node .upto (-1) [a]) 1
  | len {ρ : Env1} {a : Ex} {d : Nat} : Ty fs ρ a (d + 1) → Ty fs ρ (.node .len (-1) [a]) 0
  | sum {ρ : Env1} {a : Ex} : Ty fs ρ a 1 → Ty fs ρ (.node .sum (-1) [a]) 0
  | sums {ρ : Env1} {a : Ex} : Ty fs ρ a 1 → Ty fs ρ (.node .sums (-1) [a]) 1
  | one {ρ : Env1} {a : Ex} {d : Nat} : Ty fs ρ a d → d < 3 → Ty fs ρ (.node .one (-1) [a]) (d + 1)
  | pick {ρ : Env1} {a b : Ex} {d : Nat} : Ty fs ρ a (d + 1) → Ty fs ρ b 0 → Ty fs ρ (.node .pick (-1) [a, b]) d
  | put {ρ : Env1} {a b : Ex} {d : Nat} : Ty fs ρ a (d + 1) → Ty fs ρ b (d + 1) → Ty fs ρ (.node .put (-1) [a, b]) (d + 1)
  | flat {ρ : Env1} {a : Ex} {d : Nat} : Ty fs ρ a (d + 2) → Ty fs ρ (.node .flat (-1) [a]) (d + 1)
  | each {ρ : Env1} {x : Int} {a b : Ex} {d1 d : Nat} : 0 ≤ x → x ≤ 19 → Ty fs ρ a (d1 + 1) → Ty fs (ups ρ x d1) b d → d < 3 → Ty fs ρ (.node .each x [a, b]) (d + 1)
  | whr {ρ : Env1} {x : Int} {a b : Ex} {d1 : Nat} : 0 ≤ x → x ≤ 19 → Ty fs ρ a (d1 + 1) → Ty fs (ups ρ x d1) b 0 → Ty fs ρ (.node .whr x [a, b]) (d1 + 1)
  | call {ρ : Env1} {k : Nat} {ps : List Ex} {ds : List Nat} {d : Nat} : k ≤ 5 → fs[k]? = some (ds, d) → Tys fs ρ ps ds → Ty fs ρ (.node .call (k : Int) ps) d
inductive Tys (fs : List (List Nat × Nat)) : Env1 → List Ex → List Nat → Prop
  | nil {ρ : Env1} : Tys fs ρ [] []
  | cons {ρ : Env1} {e : Ex} {es : List Ex} {d : Nat} {ds : List Nat} : Ty fs ρ e d → Tys fs ρ es ds → Tys fs ρ (e :: es) (d :: ds)
end
/-! ### the names that are known -/
def kvOf (p : Int × Nat) : Key × V := (Sum.inl p.1, .int (p.2 : Int))
structure KnOk (kn : List (Int × Nat)) (ρ : Env1) : Prop where
  nd : (kn.map (·.1)).Nodup
  lo : ∀ p ∈ kn, 0 ≤ p.1 ∧ p.1 ≤ 19 ∧ p.2 ≤ 3
  ok : ∀ p ∈ kn, ρ p.1 = some p.2
def Known (H : Hp) (a : Addr) (ρ : Env1) : Prop := ∃ kn : List (Int × Nat), H a = some (.dK (kn.map kvOf)) ∧ KnOk kn ρ
theorem Known.of {r a : Addr} {H H' : Hp} {xs : List V} {ρ : Env1} (k : Known H a ρ) (s : SameX r H H') (h : H r = some (.lst xs)) : Known H' a ρ := by
  obtain ⟨kn, e, o⟩ := k
  exact ⟨kn, s _ _ (ne_of e h (by intro z; cases z)) e, o⟩
theorem Drawn.known {K : PySem.W.Frag} {r : RD} {a : Addr} {H H' : Hp} {ρ : Env1} (g : Drawn K r H H') (d : Draw K r H) (k : Known H a ρ) : Known H' a ρ := by
  obtain ⟨p, x, l, h, _⟩ := d.ex
  exact k.of g.s h
theorem few : ∀ (n : Nat) (l : List Int), l.Nodup → (∀ x ∈ l, 0 ≤ x ∧ x < (n : Int)) → l.length ≤ n
  | 0, [], _, _ => Nat.le_refl _
  | 0, x :: l, _, h => by
    have := h x (List.mem_cons_self ..)
    omega
  | n + 1, l, nd, h => by
    have h1 : (l.filter fun x => decide (x ≠ (n : Int))).length ≤ n := by
      refine few n _ (nd.filter _) fun x hx => ?_
      obtain ⟨h2, h3⟩ := List.mem_filter.mp hx
      have h4 := h x h2
      have h5 : x ≠ (n : Int) := of_decide_eq_true h3
      omega
    have h2 : l.length ≤ (l.filter fun x => decide (x ≠ (n : Int))).length + 1 := by
      clear h1 h
      induction l with
      | nil => simp
      | cons x l ih =>
        obtain ⟨h3, h4⟩ := List.nodup_cons.mp nd
        by_cases e : x = (n : Int)
        · have h5 : (l.filter fun x => decide (x ≠ (n : Int))) = l := by
            refine List.filter_eq_self.mpr fun y hy => ?_
            refine decide_eq_true fun e2 => ?_
            rw [e2, ← e] at hy
            exact h3 hy
          rw [List.filter_cons, if_neg (by simp [e]), h5]
          simp
        · rw [List.filter_cons, if_pos (by simp [e])]
          have := ih h4
          simp only [List.length_cons]
          omega
    omega
theorem KnOk.few {kn : List (Int × Nat)} {ρ : Env1} (k : KnOk kn ρ) : kn.length ≤ 20 := by
  have := NR.few 20 (kn.map (·.1)) k.nd fun x hx => by
    obtain ⟨p, hp, rfl⟩ := List.mem_map.mp hx
    have := k.lo p hp
    omega
  rw [List.length_map] at this
  exact this
end NR
namespace NR
open PySem PySem.Spec PyProof.Rows L2
theorem seq_rest {t u : TS} {D : Ends} {σ : L2.St} {H : Hp} (R : Hp → Prop) (h2 : ∀ H', R H' → u D σ H') (h1 : (∀ H', R H' → u D σ H') → t { D with nx := u D } σ H) : tSeq t u D σ H := h1 h2
theorem if_rest {c : TT} {a b u : TS} {D : Ends} {σ : L2.St} {H : Hp} (R : Hp → Prop) (h2 : ∀ H', R H' → u D σ H') (h1 : (∀ H', R H' → u D σ H') → c σ H fun k H1 => if k = true then a { D with nx := u D } σ H1 else b { D with nx := u D } σ H1) : tSeq (tIfS c a b) u D σ H := h1 h2
theorem valV_kn {x : Int} {d : Nat} : ∀ {l : List (Int × Nat)}, (l.map (·.1)).Nodup → (x, d) ∈ l → valV (l.map kvOf) (Sum.inl x) = some (.int (d : Int))
  | [], _, h => by cases h
  | (y, c) :: l, nd, h => by
    obtain ⟨n1, n2⟩ := List.nodup_cons.mp (show (y :: l.map (·.1)).Nodup from nd)
    show ((((Sum.inl y : Key), V.int (c : Int)) :: l.map kvOf).find? fun kv => decide (kv.1 = Sum.inl x)).map (·.2) = _
    by_cases e : y = x
    · rw [List.find?_cons_of_pos (by simp [e])]
      rcases List.mem_cons.mp h with h | h
      · cases h
        rfl
      · exact absurd (List.mem_map.mpr ⟨(x, d), h, rfl⟩) (by rw [← e]; exact n1)
    · rw [List.find?_cons_of_neg (by simp [e])]
      rcases List.mem_cons.mp h with h | h
      · cases h
        exact absurd rfl e
      · exact valV_kn n2 h
theorem Draw.same {K : PySem.W.Frag} {r : RD} {H H' : Hp} (d : Draw K r H) (s : Same H H') : Draw K r H' := by
  obtain ⟨p, x, l, e, S, rest⟩ := d.ex
  exact ⟨p, x, l, s _ _ e, s.seq S, rest⟩
theorem Draw.drawn {K : PySem.W.Frag} {r : RD} {H H' : Hp} (d : Draw K r H) (s : Same H H') : Drawn K r H H' := ⟨d.same s, fun b o _ h => s b o h⟩
theorem dpInts {K : PySem.W.Frag} {H : Hp} : ∀ ns : List Int, DpAll K H (ns.map V.int) (ns.map PyData.int)
  | [] => .nil
  | n :: ns => .cons (.int n) (dpInts ns)
theorem canInts : ∀ ns : List Int, PyData.canLayAll0 (ns.map PyData.int) = true
  | [] => rfl
  | _ :: ns => canInts ns
theorem depInts : ∀ ns : List Int, PyData.depthAll (ns.map PyData.int) = 0
  | [] => rfl
  | _ :: ns => by
    show max 0 (PyData.depthAll (ns.map PyData.int)) = 0
    rw [depInts ns]
    rfl
theorem shapedInts (ns : List Int) : SeqAt.shaped (.list (ns.map PyData.int)) = true := by
  show (PyData.canLayAll0 (ns.map PyData.int) && decide (PyData.depthAll (ns.map PyData.int) + 1 ≤ 64)) = true
  rw [canInts, depInts]
  rfl
theorem le2 {n : Nat} (h : n ≤ 1000) : n ≤ sizeLine := Nat.le_of_lt (small1000 h)
def spLeaf (K : PySem.W.Frag) (fs : List (List Nat × Nat)) (n : Nat) : Sp := fun vs H Q _ => ∃ (r : RD) (a : Addr) (d : Nat) (ρ : Env1), vs = [.ref r.r, .int (d : Int), .ref a] ∧ Draw K r H ∧ Known H a ρ ∧ d < n ∧ d ≤ 3 ∧
  ∀ (v : V) (H' : Hp) (e : Ex), Drawn K r H H' → TIn H' v e → Ty fs ρ e d → e.hgt ≤ d + 1 → e.size ≤ d + 1 → Q v H'
end NR
set_option maxHeartbeats 4000000
namespace NR
open PySem PySem.Spec PyProof.Rows L2
theorem ok_never {P : Program} {w : World} {K : PySem.W.Frag} {mg : Str → Option Value} {base : Heap} {CX : CXT} {k : Nat} {f : Addr} {fd : FuncData} {ps : List Str} {sp : Sp} (no : ∀ vs H Q E, ¬ sp vs H Q E) : FnOk P w K mg base CX k f fd ps sp :=
  ⟨fun vs H Q E h => absurd h (no vs H Q E), fun A outer s H args us vs Q E _ _ _ _ h => absurd h (no vs H Q E)⟩
/-! ### faces in the heap -/
def dV (d : Nat) : V := .int (d : Int)
inductive FIns (H : Hp) : List V → List (List Nat × Nat) → Prop
  | nil : FIns H [] []
  | cons {a b : Addr} {ds : List Nat} {d : Nat} {vs : List V} {fs : List (List Nat × Nat)} : H a = some (.tup [.ref b, dV d]) → H b = some (.tup (ds.map dV)) → FIns H vs fs → FIns H (.ref a :: vs) ((ds, d) :: fs)
theorem FIns.mono {H H' : Hp} (k : TK H H') : ∀ {vs fs}, FIns H vs fs → FIns H' vs fs
  | _, _, .nil => .nil
  | _, _, .cons h1 h2 r => .cons (k _ _ h1) (k _ _ h2) (r.mono k)
theorem FIns.len {H : Hp} : ∀ {vs fs}, FIns H vs fs → vs.length = fs.length
  | _, _, .nil => rfl
  | _, _, .cons _ _ r => congrArg (· + 1) r.len
theorem FIns.get {H : Hp} : ∀ {vs fs} (_ : FIns H vs fs) (i : Nat) {ds : List Nat} {d : Nat}, fs[i]? = some (ds, d) → ∃ a b, vs[i]? = some (.ref a) ∧ H a = some (.tup [.ref b, dV d]) ∧ H b = some (.tup (ds.map dV))
  | _, _, .nil, i, _, _, h => by simp at h
  | _, _, .cons h1 h2 _, 0, _, _, h => by
    cases h
    exact ⟨_, _, rfl, h1, h2⟩
  | _, _, .cons _ _ r, i + 1, ds, d, h => r.get i h
theorem FIns.snoc {H : Hp} {a b : Addr} {ds : List Nat} {d : Nat} (h1 : H a = some (.tup [.ref b, dV d])) (h2 : H b = some (.tup (ds.map dV))) : ∀ {vs fs}, FIns H vs fs → FIns H (vs ++ [.ref a]) (fs ++ [(ds, d)])
  | _, _, .nil => .cons h1 h2 .nil
  | _, _, .cons x y r => .cons x y (r.snoc h1 h2)
/-- what the making of expressions knows of the program so far -/
structure Gen (H : Hp) (r : RD) (m : Addr) (fs : List (List Nat × Nat)) (own : Nat) : Prop where
  ex : ∃ (fl : Addr) (xs : List V), H m = some (.dK [(Sum.inr "faces", .ref fl), (Sum.inr "own", .int (own : Int)), (Sum.inr "left", .int 0)]) ∧ H fl = some (.lst xs) ∧ FIns H xs fs ∧ fl ≠ r.r
  len : fs.length = own + 1
  few : own ≤ 5
  lo : ∀ p ∈ fs, p.2 ≤ 3 ∧ p.1.length ≤ 4 ∧ ∀ d ∈ p.1, d ≤ 3
theorem Drawn.gen {K : PySem.W.Frag} {r : RD} {m : Addr} {H H' : Hp} {fs : List (List Nat × Nat)} {own : Nat} (g : Drawn K r H H') (d : Draw K r H) (G : Gen H r m fs own) : Gen H' r m fs own := by
  obtain ⟨fl, xs, h1, h2, h3, h4⟩ := G.ex
  obtain ⟨p, x, l, h, _⟩ := d.ex
  exact ⟨⟨fl, xs, g.s _ _ (ne_of h1 h (by intro z; cases z)) h1, g.s _ _ h4 h2, h3.mono (g.tk d), h4⟩, G.len, G.few, G.lo⟩
/-! ### one name more -/
theorem putK_kn {l : List (Int × Nat)} {ρ : Env1} {x : Int} {d : Nat} (o : KnOk l ρ) (x0 : 0 ≤ x) (x1 : x ≤ 19) (d3 : d ≤ 3) : ∃ l', putK (l.map kvOf) (Sum.inl x) (dV d) = l'.map kvOf ∧ KnOk l' (ups ρ x d) := by
  unfold putK
  by_cases h : ((l.map kvOf).any fun kv => decide (kv.1 = Sum.inl x)) = true
  · rw [if_pos h]
    refine ⟨l.map fun p => if p.1 = x then (p.1, d) else p, ?_, ?_, ?_, ?_⟩
    · rw [List.map_map, List.map_map]
      refine List.map_congr_left fun p _ => ?_
      show (if (Sum.inl p.1 : Key) = Sum.inl x then ((Sum.inl p.1 : Key), dV d) else (Sum.inl p.1, V.int (p.2 : Int))) = kvOf (if p.1 = x then (p.1, d) else p)
      by_cases e : p.1 = x
      · rw [if_pos (by rw [e]), if_pos e]
        rfl
      · rw [if_neg (by simpa using e), if_neg e]
        rfl
    · have e : ((l.map fun p => if p.1 = x then (p.1, d) else p).map (·.1)) = l.map (·.1) := by
        rw [List.map_map]
        refine List.map_congr_left fun p _ => ?_
        show (if p.1 = x then (p.1, d) else p).1 = p.1
        split <;> rfl
      rw [e]
      exact o.nd
    · intro p hp
      obtain ⟨q, hq, rfl⟩ := List.mem_map.mp hp
      have := o.lo q hq
      split
      · exact ⟨this.1, this.2.1, d3⟩
      · exact this
    · intro p hp
      obtain ⟨q, hq, rfl⟩ := List.mem_map.mp hp
      have := o.ok q hq
      split
      · rename_i e
        unfold ups
        rw [if_pos e]
      · rename_i e
        unfold ups
        rw [if_neg e]
        exact this
  · rw [if_neg h]
    have hn : ∀ p ∈ l, p.1 ≠ x := fun p hp e => h (List.any_eq_true.mpr ⟨kvOf p, List.mem_map.mpr ⟨p, hp, rfl⟩, by
      show decide ((Sum.inl p.1 : Key) = Sum.inl x) = true
      rw [e]
      simp⟩)
    refine ⟨l ++ [(x, d)], by rw [List.map_append]; rfl, ?_, ?_, ?_⟩
    · rw [List.map_append]
      refine List.nodup_append.mpr ⟨o.nd, by simp, fun a ha b hb => ?_⟩
      obtain ⟨p, hp, rfl⟩ := List.mem_map.mp ha
      simp only [List.map_cons, List.map_nil, List.mem_singleton] at hb
      rw [hb]
      exact hn p hp
    · intro p hp
      rcases List.mem_append.mp hp with hp | hp
      · exact o.lo p hp
      · rw [List.mem_singleton.mp hp]
        exact ⟨x0, x1, d3⟩
    · intro p hp
      unfold ups
      rcases List.mem_append.mp hp with hp | hp
      · rw [if_neg (hn p hp)]
        exact o.ok p hp
      · rw [List.mem_singleton.mp hp]
        simp
/-! ### promises -/
def spTree (K : PySem.W.Frag) (fs : List (List Nat × Nat)) (own n : Nat) : Sp := fun vs H Q _ => ∃ (r : RD) (m a : Addr) (d : Nat) (deep : Int) (ρ : Env1), vs = [.ref r.r, .ref m, .int (d : Int), .int deep, .ref a] ∧ Draw K r H ∧ Gen H r m fs own ∧ Known H a ρ ∧ d ≤ 3 ∧ deep ≤ (n : Int) ∧
  ∀ (v : V) (H' : Hp) (e : Ex), Drawn K r H H' → TIn H' v e → Ty (fs.take own) ρ e d → e.hgt ≤ n + 4 → Q v H'
def spAny (K : PySem.W.Frag) (fs : List (List Nat × Nat)) (own n : Nat) : Sp := fun vs H Q _ => ∃ (r : RD) (m a : Addr) (d : Nat) (deep : Int) (ρ : Env1), vs = [.ref r.r, .ref m, .int (d : Int), .int deep, .ref a] ∧ Draw K r H ∧ Gen H r m fs own ∧ Known H a ρ ∧ d ≤ 3 ∧ 1 ≤ deep ∧ deep ≤ (n : Int) ∧
  ∀ (v : V) (H' : Hp) (e : Ex), Drawn K r H H' → TIn H' v e → Ty (fs.take own) ρ e d → e.hgt ≤ n + 4 → Q v H'
def spNumber (K : PySem.W.Frag) (fs : List (List Nat × Nat)) (own n : Nat) : Sp := fun vs H Q _ => ∃ (r : RD) (m a : Addr) (deep : Int) (ρ : Env1), vs = [.ref r.r, .ref m, .int deep, .ref a] ∧ Draw K r H ∧ Gen H r m fs own ∧ Known H a ρ ∧ 1 ≤ deep ∧ deep ≤ (n : Int) ∧
  ∀ (v : V) (H' : Hp) (e : Ex), Drawn K r H H' → TIn H' v e → Ty (fs.take own) ρ e 0 → e.hgt ≤ n + 4 → Q v H'
/-- how much less deep an item is -/
def W.off : W → Nat
  | .elet => 0
  | _ => 1
def spBound (K : PySem.W.Frag) (fs : List (List Nat × Nat)) (own n : Nat) : Sp := fun vs H Q _ => ∃ (r : RD) (m a : Addr) (w : W) (d t : Nat) (deep : Int) (ρ : Env1), vs = [.ref r.r, .ref m, .str w.str, .int (d : Int), .int deep, .ref a, .int (t : Int)] ∧ w.lay = 1 ∧ Draw K r H ∧ Gen H r m fs own ∧ Known H a ρ ∧ d ≤ 3 ∧ t ≤ 3 ∧ w.off ≤ d ∧ 1 ≤ deep ∧ deep ≤ (n : Int) ∧
  ∀ (v : V) (H' : Hp) (x : Int) (e1 e2 : Ex), Drawn K r H H' → TIn H' v (.node w x [e1, e2]) → 0 ≤ x → x ≤ 19 → Ty (fs.take own) ρ e1 d → Ty (fs.take own) (ups ρ x (d - w.off)) e2 t → (Ex.node w x [e1, e2]).hgt ≤ n + 4 → Q v H'
theorem hgt1 {w : W} {n : Int} {a : Ex} {k : Nat} (h : a.hgt ≤ k) : (Ex.node w n [a]).hgt ≤ k + 1 := by
  simp only [Ex.hgt, hgts]
  omega
theorem hgt2 {w : W} {n : Int} {a b : Ex} {k : Nat} (h : a.hgt ≤ k) (h' : b.hgt ≤ k) : (Ex.node w n [a, b]).hgt ≤ k + 1 := by
  simp only [Ex.hgt, hgts]
  omega
theorem hgt3 {w : W} {n : Int} {a b c : Ex} {k : Nat} (h : a.hgt ≤ k) (h' : b.hgt ≤ k) (h'' : c.hgt ≤ k) : (Ex.node w n [a, b, c]).hgt ≤ k + 1 := by
  simp only [Ex.hgt, hgts]
  omega
end NR
namespace NR
open PySem PySem.Spec PyProof.Rows L2
theorem Tys.snoc {fs : List (List Nat × Nat)} {ρ : Env1} {e : Ex} {d : Nat} : ∀ {es : List Ex} {ds : List Nat}, Tys fs ρ es ds → Ty fs ρ e d → Tys fs ρ (es ++ [e]) (ds ++ [d])
  | _, _, .nil, h => .cons h .nil
  | _, _, .cons h r, h' => .cons h (r.snoc h')
theorem TIns.snoc {H : Hp} {v : V} {e : Ex} : ∀ {vs : List V} {es : List Ex}, TIns H vs es → TIn H v e → TIns H (vs ++ [v]) (es ++ [e])
  | _, _, .nil, h => .cons h .nil
  | _, _, .cons h r, h' => .cons h (r.snoc h')
theorem TIns.len {H : Hp} : ∀ {vs : List V} {es : List Ex}, TIns H vs es → vs.length = es.length
  | _, _, .nil => rfl
  | _, _, .cons _ r => congrArg (· + 1) r.len
theorem hgts_snoc {k : Nat} {e : Ex} : ∀ {es : List Ex}, hgts es ≤ k → e.hgt ≤ k → hgts (es ++ [e]) ≤ k
  | [], _, h => by
    show max e.hgt 0 ≤ k
    omega
  | x :: es, h, h' => by
    have h1 : max x.hgt (hgts es) ≤ k := h
    have := hgts_snoc (es := es) (by omega) h'
    show max x.hgt (hgts (es ++ [e])) ≤ k
    omega
/-- a list that changes leaves tuples as they are -/
theorem TK.lst {H : Hp} {D : Addr} {xs ys : List V} (h : H D = some (.lst xs)) : TK H (upd H D (.lst ys)) := fun b zs q => by
  rw [upd_ne (ne_of q h (by intro z; cases z))]
  exact q
theorem val_faces {a b c : V} : valV ([(Sum.inr "faces", a), (Sum.inr "own", b), (Sum.inr "left", c)] : List (Key × V)) (Sum.inr "faces") = some a := by rfl
theorem val_own {a b c : V} : valV ([(Sum.inr "faces", a), (Sum.inr "own", b), (Sum.inr "left", c)] : List (Key × V)) (Sum.inr "own") = some b := by rfl
theorem val_left {a b c : V} : valV ([(Sum.inr "faces", a), (Sum.inr "own", b), (Sum.inr "left", c)] : List (Key × V)) (Sum.inr "left") = some c := by rfl
theorem dget {H : Hp} {a : Addr} {kvs : List (Key × V)} {k : Key} {v : V} (e : H a = some (.dK kvs)) (h : valV kvs k = some v) : DGet H a (kV k) (some v) := by
  rw [← h]
  exact DGet.k e
end NR
set_option maxHeartbeats 4000000
namespace NR
open PySem PySem.Spec PyProof.Rows L2
theorem cut1 (x : V) (xs : List V) : cutV (x :: xs) (some 1) none = xs := by
  unfold cutV HT.sIx
  simp
theorem cut2 (x y : V) (xs : List V) : cutV (x :: y :: xs) (some 2) none = xs := by
  unfold cutV HT.sIx
  simp
theorem not1 (x : V) (xs : List V) : ¬ (HT.sIx (x :: xs).length 0 (some 1) = 0 ∧ HT.sIx (x :: xs).length (x :: xs).length none = (x :: xs).length) := by
  unfold HT.sIx
  simp
theorem not2 (x y : V) (xs : List V) : ¬ (HT.sIx (x :: y :: xs).length 0 (some 2) = 0 ∧ HT.sIx (x :: y :: xs).length (x :: y :: xs).length none = (x :: y :: xs).length) := by
  unfold HT.sIx
  simp
theorem in_leaf (w : W) : inV (.str w.str) [.str "num", .str "name"] = decide (w.lay = 0) := by cases w <;> decide
theorem in_bind (w : W) : inV (.str w.str) [.str "let", .str "each", .str "where"] = decide (w.lay = 1) := by cases w <;> decide
theorem eq_call (w : W) : decide (V.str w.str = V.str "call") = decide (w.lay = 2) := by cases w <;> decide
mutual
/-- no expression has more than four parts -/
def Ex.few : Ex → Prop
  | .node _ _ ps => ps.length ≤ 4 ∧ fews ps
def fews : List Ex → Prop
  | [] => True
  | e :: es => e.few ∧ fews es
end
theorem fews_mem : ∀ {es : List Ex} {i : Nat} {e : Ex}, fews es → es[i]? = some e → e.few
  | [], i, e, _, h => by simp at h
  | x :: es, 0, e, f, h => by
    cases h
    exact f.1
  | x :: es, i + 1, e, f, h => fews_mem (es := es) (i := i) f.2 h
def spParts (K : PySem.W.Frag) : Sp := fun vs H Q _ => ∃ (v : V) (w : W) (n : Int) (ps : List Ex), vs = [v] ∧ TIn H v (.node w n ps) ∧
  ∀ (p : Addr) (H' : Hp) (xs : List V), Same H H' → H' p = some (.tup xs) → TIns H' xs ps → Q (.ref p) H'
def spSize (K : PySem.W.Frag) (n : Nat) : Sp := fun vs H Q _ => ∃ (v : V) (e : Ex), vs = [v] ∧ TIn H v e ∧ e.hgt ≤ n ∧ e.few ∧
  ∀ (H' : Hp), Same H H' → Q (.int (e.size : Int)) H'
def spWithin (K : PySem.W.Frag) (n : Nat) : Sp := fun vs H Q _ => ∃ (v : V) (e : Ex), vs = [v] ∧ TIn H v e ∧ e.hgt ≤ n ∧ e.few ∧
  ∀ (H' : Hp), Same H H' → Q (.int ((e.hgt - 1 : Nat) : Int)) H'
section
variable {X : Cx} (K : PySem.W.Frag)
theorem cr_sumK (hc : X.calm = true) (h : X.K = K := by rfl) : CallR X (.builtin "sum") (rSum K) := h ▸ cr_sum hc
theorem cr_maxK (hc : X.calm = true) (h : X.K = K := by rfl) : CallR X (.builtin "max") (rMax K) := h ▸ cr_max hc
end
theorem TIns.get {H : Hp} : ∀ {vs : List V} {es : List Ex} (_ : TIns H vs es) (i : Nat) {v : V}, vs[i]? = some v → ∃ e, es[i]? = some e ∧ TIn H v e
  | _, _, .nil, i, _, h => by simp at h
  | _, _, .cons h1 _, 0, _, h => by
    cases h
    exact ⟨_, rfl, h1⟩
  | _, _, .cons _ r, i + 1, v, h => r.get i h
theorem sizes_cons (e : Ex) (es : List Ex) : sizes (e :: es) = e.size + sizes es := rfl
theorem hgts_cons (e : Ex) (es : List Ex) : hgts (e :: es) = max e.hgt (hgts es) := rfl
theorem at0 {x : V} {xs : List V} : atI (x :: xs) 0 = some x := atI_nat (j := 0) rfl
theorem at1 {x y : V} {xs : List V} : atI (x :: y :: xs) 1 = some y := atI_nat (j := 1) rfl
theorem at2 {x y z : V} {xs : List V} : atI (x :: y :: z :: xs) 2 = some z := atI_nat (j := 2) rfl
theorem size_mem : ∀ {es : List Ex} {i : Nat} {e : Ex}, es[i]? = some e → e.size ≤ sizes es ∧ e.hgt ≤ hgts es
  | [], i, e, h => by simp at h
  | x :: es, 0, e, h => by
    cases h
    rw [sizes_cons, hgts_cons]
    omega
  | x :: es, i + 1, e, h => by
    have := size_mem (es := es) (i := i) h
    rw [sizes_cons, hgts_cons]
    omega
theorem len_sizes : ∀ es : List Ex, es.length ≤ sizes es
  | [] => Nat.le_refl _
  | .node w n ps :: es => by
    have := len_sizes es
    simp only [sizes, Ex.size, List.length_cons]
    omega
theorem sum_sizes : ∀ es : List Ex, ((es.map fun e => (e.size : Int))).sum = (sizes es : Int)
  | [] => rfl
  | e :: es => by
    rw [List.map_cons, List.sum_cons, sum_sizes es, sizes_cons]
    omega
theorem max_hgts : ∀ (es : List Ex) (m : Int), m ∈ (0 :: es.map fun e => (e.hgt : Int)) → (∀ y ∈ (0 :: es.map fun e => (e.hgt : Int)), y ≤ m) → m = (hgts es : Int)
  | [], m, h, _ => by
    simp only [List.map_nil, List.mem_singleton] at h
    rw [h]
    rfl
  | e :: es, m, h, h' => by
    have h0 : ∀ y ∈ (0 :: es.map fun e => (e.hgt : Int)), y ≤ m := fun y hy => by
      rcases List.mem_cons.mp hy with hy | hy
      · exact h' y (by rw [hy]; exact List.mem_cons_self ..)
      · exact h' y (List.mem_cons_of_mem _ (List.mem_cons_of_mem _ hy))
    have he : (e.hgt : Int) ≤ m := h' _ (List.mem_cons_of_mem _ (List.mem_cons_self ..))
    have hb : (hgts es : Int) ≤ m := by
      clear h h' he
      induction es with
      | nil => exact h0 0 (List.mem_cons_self ..)
      | cons x xs ih =>
        have h1 := h0 (x.hgt : Int) (List.mem_cons_of_mem _ (List.mem_cons_self ..))
        have h2 := ih fun y hy => by
          rcases List.mem_cons.mp hy with hy | hy
          · exact h0 y (by rw [hy]; exact List.mem_cons_self ..)
          · exact h0 y (List.mem_cons_of_mem _ (List.mem_cons_of_mem _ hy))
        rw [hgts_cons]
        omega
    rw [hgts_cons]
    simp only [List.map_cons, List.mem_cons] at h
    rcases h with h | h | h
    · omega
    · omega
    · obtain ⟨x, hx, hx2⟩ := List.mem_map.mp h
      obtain ⟨i, hi, rfl⟩ := List.mem_iff_getElem.mp hx
      have := (size_mem (List.getElem?_eq_getElem hi)).2
      omega
theorem same_put {H H' : Hp} {p : Addr} {o : HO} (h : Same H H') (n : H p = none) : Same H (upd H' p o) := fun b u q => by
  rw [upd_ne (ne_of_none q n)]
  exact h b u q
end NR
set_option maxHeartbeats 4000000
namespace NR
open PySem PySem.Spec PyProof.Rows L2
/-! ### tuples known to the object: dict(tuple of pairs) -/
section
variable {X : Cx} (K : PySem.W.Frag)
def rTupleF (K : PySem.W.Frag) : List V → Hp → VK → Prop := fun xs H Q => ∃ p ys, xs = [.ref p] ∧ SqL K H p ys ∧ ∀ l o, H l = none → o.dict = none → Q (.ref l) (upd H l (.frz o (.tup ys)))
theorem call_tupleF (h : X.K = K := by rfl) : CallR X (.type "tuple") (rTupleF K) := by
  subst h
  rintro pins s σ H xs us Q I rel ⟨p, ys, rfl, sq, want⟩
  have eu : us = [.ref p] := Vals.ref1 rel
  subst eu
  obtain ⟨its, rv, pl, hz⟩ := I.list sq
  have lens := rv.length
  have sz : its.toArray.size ≤ sizeLine := by
    rw [List.size_toArray]
    omega
  refine call_tuple_list pl.isList ?_ sz
  intro hp kept
  have J : L2.Inv X pins σ H { s with heap := hp } := I.kept (t' := s.toks) kept
  have okT : ObjOk X.prog X.w (upd H hp.objs.size (.frz { cls := .type "tuple", data := .seq its.toArray } (.tup ys))) (hp.push { cls := .type "tuple", data := .seq its.toArray }) hp.objs.size (.frz { cls := .type "tuple", data := .seq its.toArray } (.tup ys)) :=
    ⟨Heap.get?_push_size _ rfl, hz, its, rv, IsTup.new _ _⟩
  refine ⟨.ref hp.objs.size, _, J.laid (t' := s.toks) (fun _ _ z => Heap.get?_push_of_some _ z) (Nat.le_refl _) okT, rfl, ?_⟩
  exact want _ _ (J.hok.fresh (Nat.le_refl _)) rfl
/-- a written tuple, known to the object -/
def tTupF (t : TA) : TE := fun σ H Q => t σ H fun xs H1 => xs.length ≤ sizeLine ∧ ∀ p o, H1 p = none → o.dict = none → Q (.ref p) (upd H1 p (.frz o (.tup xs)))
theorem pe_tupF {es : List Expr} {t : TA} {x1 : Nat} {pos : Pos} (h : PA X es t) : PE X (.Tuple es x1 pos) (tTupF t) := by
  constructor
  intro pins s σ H Q I want
  apply wpAny_Tuple_spliced
  apply thn (h.run pos pins s σ H _ I want)
  rintro us s1 ⟨xs, G, J, rel, hz, nxt⟩
  have hz' : us.length ≤ sizeLine := by
    rw [← rel.length]
    exact hz
  refine ⟨hz', ?_⟩
  have okT : ObjOk X.prog X.w (upd G s1.heap.objs.size (.frz { cls := .type "tuple", data := .seq us.toArray } (.tup xs))) (s1.heap.push { cls := .type "tuple", data := .seq us.toArray }) s1.heap.objs.size (.frz { cls := .type "tuple", data := .seq us.toArray } (.tup xs)) :=
    ⟨Heap.get?_push_size _ rfl, hz, us, rel, IsTup.new _ _⟩
  exact ⟨.ref s1.heap.objs.size, _, J.laid (t' := s1.toks) (fun _ _ z => Heap.get?_push_of_some _ z) (Nat.le_refl _) okT, rfl, nxt _ _ (J.hok.fresh (Nat.le_refl _)) rfl⟩
theorem pairs_of2 {pins : List (Addr × Obj)} {σ : L2.St} {H : Hp} {s : Shared} (I : Inv X pins σ H s) : ∀ {ps : List Addr} {kvs : List (Key × V)}, Paired (fun p kv => SqT X.K H p [kV kv.1, kv.2]) ps kvs →
    ∃ (pv : List (Value × Value)) (prs : List (Key × Value)), KV kvs prs ∧ prs.length = ps.length ∧ pv.length = ps.length ∧ ∀ (j : Nat) (k v : Value), pv[j]? = some (k, v) → ∃ b, ps[j]? = some b ∧ IsTup s.heap b #[k, v] ∧ ∃ q, prs[j]? = some (q, v) ∧ keyIs q k = true
  | _, _, .nil => ⟨[], [], .nil, rfl, rfl, fun j k v e => by simp at e⟩
  | p :: ps, kv :: kvs, .cons pair tail => by
    obtain ⟨pv, prs, kvr, l1, l2, each⟩ := pairs_of2 I tail
    obtain ⟨its, two, isT, _⟩ := I.tuple pair
    obtain ⟨k0, v0, eits, rk, rw0⟩ := vals2 two
    subst eits
    have k1 := kV_is (P := X.prog) (w := X.w) rk
    refine ⟨(k0, v0) :: pv, (kv.1, v0) :: prs, .cons ⟨rfl, rw0⟩ kvr, congrArg (· + 1) l1, congrArg (· + 1) l2, ?_⟩
    rintro (_ | j) k v e
    · cases e
      exact ⟨p, rfl, isT, kv.1, rfl, k1⟩
    · exact each j k v e
def rDictT (K : PySem.W.Frag) : List V → Hp → VK → Prop := fun xs H Q => ∃ (a : Addr) (o : Obj) (ps : List Addr) (kvs : List (Key × V)), xs = [.ref a] ∧ H a = some (.frz o (.tup (ps.map V.ref))) ∧ o.dict = none ∧ Paired (fun p kv => SqT K H p [kV kv.1, kv.2]) ps kvs ∧
    ∀ p, H p = none → Q (.ref p) (upd H p (.dK (mergeK [] kvs)))
theorem call_dictT (hcalm : X.calm = true) (h : X.K = K := by rfl) : CallR X (.type "dict") (rDictT K) := by
  subst h
  rintro pins s σ H xs us Q I rel ⟨a, o, ps, kvs, rfl, at_, nod, prd, want⟩
  have eu : us = [.ref a] := Vals.ref1 rel
  subst eu
  obtain ⟨ho, hz, its, rv, o2, ho2, hc, n, hdat⟩ := (show ObjOk X.prog X.w H s.heap a (.frz o (.tup (ps.map V.ref))) from I.hok a _ at_)
  have eo : o = o2 := Option.some.inj (ho.symm.trans ho2)
  subst eo
  have ei : its = ps.map Value.ref := refs_at rv
  subst ei
  rw [List.length_map] at hz
  obtain ⟨pv, prs, kvr, l1, l2, each⟩ := pairs_of2 I prd
  have items : PairItems s.heap (ps.map Value.ref).toArray (fun j => ps.getD j 0) pv := by
    refine ⟨by simp [l2], fun j k v e => ?_⟩
    obtain ⟨b, e1, e2, _⟩ := each j k v e
    have eb : ps.getD j 0 = b := by
      rw [List.getD_eq_getElem?_getD, e1]
      rfl
    dsimp only
    rw [eb]
    exact ⟨by simp [e1], .inl e2⟩
  have have_ : PairsHave (mixKind X.prog X.w) pv.length (PairRel pv) prs := by
    refine ⟨l1.trans l2.symm, fun i key v e => ?_⟩
    obtain ⟨_, _, _, qk, e3, e4⟩ := each i key v e
    exact ⟨qk, e3, e4⟩
  apply PySem.call_dict_pairs (PairArg.tuple a (ps.map Value.ref).toArray (fun j => ps.getD j 0) pv) (I.ok.hd hcalm) ⟨⟨o, n, ho, hc, nod, hdat⟩, items⟩ have_ (by omega)
  intro hp tk isD kept
  have small : (mergeK [] kvs).length ≤ sizeLine := by
    have z := length_mergeK kvs []
    have z2 := kvr.length
    simp only [List.length_nil] at z
    omega
  have nosys : (s.heap.objs.size == sysModules) = false := beq_false_of_ne (Nat.ne_of_gt I.big)
  have okD : ObjOk X.prog X.w (upd H s.heap.objs.size (.dK (mergeK [] kvs))) hp s.heap.objs.size (.dK (mergeK [] kvs)) := ⟨small, nosys, _, KV.merge kvr .nil, isD⟩
  exact ⟨.ref s.heap.objs.size, _, I.laid (t' := tk) (fun b o z => kept b o (by simp) z) (Nat.le_refl _) okD, rfl, want _ (I.hok.fresh (Nat.le_refl _))⟩
end
end NR
set_option maxHeartbeats 4000000
namespace NR
open PySem PySem.Spec PyProof.Rows L2
/-! ### params in the heap -/
inductive PIns (H : Hp) : List V → List (Int × Nat) → Prop
  | nil : PIns H [] []
  | cons {a : Addr} {x : Int} {d : Nat} {vs : List V} {ps : List (Int × Nat)} : H a = some (.tup [.int x, dV d]) → PIns H vs ps → PIns H (.ref a :: vs) ((x, d) :: ps)
theorem PIns.mono {H H' : Hp} (k : TK H H') : ∀ {vs ps}, PIns H vs ps → PIns H' vs ps
  | _, _, .nil => .nil
  | _, _, .cons h r => .cons (k _ _ h) (r.mono k)
theorem PIns.len {H : Hp} : ∀ {vs ps}, PIns H vs ps → vs.length = ps.length
  | _, _, .nil => rfl
  | _, _, .cons _ r => congrArg (· + 1) r.len
theorem PIns.snoc {H : Hp} {a : Addr} {x : Int} {d : Nat} (h1 : H a = some (.tup [.int x, dV d])) : ∀ {vs ps}, PIns H vs ps → PIns H (vs ++ [.ref a]) (ps ++ [(x, d)])
  | _, _, .nil => .cons h1 .nil
  | _, _, .cons h r => .cons h (r.snoc h1)
theorem PIns.get {H : Hp} : ∀ {vs ps} (_ : PIns H vs ps) (i : Nat) {v : V}, vs[i]? = some v → ∃ a x d, v = .ref a ∧ ps[i]? = some (x, d) ∧ H a = some (.tup [.int x, dV d])
  | _, _, .nil, i, _, h => by simp at h
  | _, _, .cons h1 _, 0, _, h => by
    cases h
    exact ⟨_, _, _, rfl, rfl, h1⟩
  | _, _, .cons _ r, i + 1, v, h => r.get i h
/-- a face that can be -/
structure FaceOk (ps : List (Int × Nat)) (d : Nat) : Prop where
  nd : (ps.map (·.1)).Nodup
  lo : ∀ p ∈ ps, 0 ≤ p.1 ∧ p.1 ≤ 19 ∧ p.2 ≤ 3
  few : ps.length ≤ 4
  hd : d ≤ 3
  first : ∃ x rest, ps = (x, 0) :: rest
structure FaceIn (H : Hp) (v : V) (ps : List (Int × Nat)) (d : Nat) : Prop where
  ex : ∃ (t pt : Addr) (o : Obj) (vs : List V), v = .ref t ∧ H t = some (.tup [.ref pt, dV d]) ∧ H pt = some (.frz o (.tup vs)) ∧ o.dict = none ∧ PIns H vs ps
theorem FaceIn.same {H H' : Hp} {v : V} {ps : List (Int × Nat)} {d : Nat} (F : FaceIn H v ps d) (s : Same H H') : FaceIn H' v ps d := by
  obtain ⟨t, pt, o, vs, e1, e2, e3, e4, e5⟩ := F.ex
  exact ⟨t, pt, o, vs, e1, s _ _ e2, s _ _ e3, e4, e5.mono (TK.of s)⟩
theorem FaceIn.drawn {K : PySem.W.Frag} {r : RD} {H H' : Hp} {v : V} {ps : List (Int × Nat)} {d : Nat} (F : FaceIn H v ps d) (g : Drawn K r H H') (dr : Draw K r H) : FaceIn H' v ps d := by
  obtain ⟨t, pt, o, vs, e1, e2, e3, e4, e5⟩ := F.ex
  obtain ⟨p, x, l, h, _⟩ := dr.ex
  exact ⟨t, pt, o, vs, e1, g.tk dr _ _ e2, g.s _ _ (ne_of e3 h (by intro z; cases z)) e3, e4, e5.mono (g.tk dr)⟩
def spFace (K : PySem.W.Frag) : Sp := fun vs H Q _ => ∃ (r : RD), vs = [.ref r.r] ∧ Draw K r H ∧
  ∀ (v : V) (H' : Hp) (ps : List (Int × Nat)) (d : Nat), Drawn K r H H' → FaceIn H' v ps d → FaceOk ps d → Q v H'
theorem inV_int {x : Int} : ∀ {ns : List Int}, inV (.int x) (ns.map V.int) = decide (x ∈ ns)
  | [] => by simp [inV]
  | n :: ns => by
    have ih := inV_int (x := x) (ns := ns)
    show (eqV (.int n) (.int x) || inV (.int x) (ns.map V.int)) = _
    rw [ih]
    show ((n == x) || decide (x ∈ ns)) = _
    by_cases e : n = x
    · simp [e]
    · have e' : x ≠ n := fun z => e z.symm
      simp [e, e']
theorem allFlat_int : ∀ (ns : List Int), (ns.map V.int).all flatV = true
  | [] => rfl
  | _ :: ns => allFlat_int ns
end NR
set_option maxHeartbeats 4000000
namespace NR
open PySem PySem.Spec PyProof.Rows L2
section
variable {X : Cx} (K : PySem.W.Frag)
theorem pg_tupK {es : List Expr} {k : Nat} {t : TGs} {n : Nat} {pos : Pos} (hc : X.calm = true) (h : PGs X es t)
    (hn : (assignEach es X.env).length = n := by rfl) (hst : (assignEach es X.env).findIdx? (·.1) = none := by rfl) (hK : X.K = K := by rfl) : PG X (.Tuple es k pos) (gTup K n t) := hK ▸ pg_tup hc h hn hst
end
mutual
def Ex.selfs (k : Int) : Ex → Nat
  | .node w n ps => (if w = .call ∧ n = k then 1 else 0) + selfss k ps
def selfss (k : Int) : List Ex → Nat
  | [] => 0
  | e :: es => e.selfs k + selfss k es
end
theorem selfs_eq (k : Int) (w : W) (n : Int) (ps : List Ex) : (Ex.node w n ps).selfs k = (if w = .call ∧ n = k then 1 else 0) + selfss k ps := rfl
theorem selfss_cons (k : Int) (e : Ex) (es : List Ex) : selfss k (e :: es) = e.selfs k + selfss k es := rfl
theorem selfss_nil (k : Int) : selfss k [] = 0 := rfl
/-! ### more names, more functions -/
theorem ups_weak {ρ ρ' : Env1} {x : Int} {d : Nat} (h : ∀ y c, ρ y = some c → ρ' y = some c) : ∀ y c, ups ρ x d y = some c → ups ρ' x d y = some c := fun y c e => by
  unfold ups at e ⊢
  split
  · rename_i q
    rw [if_pos q] at e
    exact e
  · rename_i q
    rw [if_neg q] at e
    exact h y c e
mutual
theorem Ty.weak {fs fs' : List (List Nat × Nat)} (hf : ∀ (k : Nat) p, fs[k]? = some p → fs'[k]? = some p) : ∀ {ρ ρ' : Env1} {e : Ex} {d : Nat}, Ty fs ρ e d → (∀ y c, ρ y = some c → ρ' y = some c) → Ty fs' ρ' e d
  | _, _, _, _, .num a b, _ => .num a b
  | _, _, _, _, .name a b c d, h => .name a b (h _ _ c) d
  | _, _, _, _, .two w a b, h => .two w (a.weak hf h) (b.weak hf h)
  | _, _, _, _, .ite c a b, h => .ite (c.weak hf h) (a.weak hf h) (b.weak hf h)
  | _, _, _, _, .elet x y a b, h => .elet x y (a.weak hf h) (b.weak hf (ups_weak h))
  | _, _, _, _, .upto a, h => .upto (a.weak hf h)
  | _, _, _, _, .len a, h => .len (a.weak hf h)
  | _, _, _, _, .sum a, h => .sum (a.weak hf h)
  | _, _, _, _, .sums a, h => .sums (a.weak hf h)
  | _, _, _, _, .one a c, h => .one (a.weak hf h) c
  | _, _, _, _, .pick a b, h => .pick (a.weak hf h) (b.weak hf h)
  | _, _, _, _, .put a b, h => .put (a.weak hf h) (b.weak hf h)
  | _, _, _, _, .flat a, h => .flat (a.weak hf h)
  | _, _, _, _, .each x y a b c, h => .each x y (a.weak hf h) (b.weak hf (ups_weak h)) c
  | _, _, _, _, .whr x y a b, h => .whr x y (a.weak hf h) (b.weak hf (ups_weak h))
  | _, _, _, _, .call k f ps, h => .call k (hf _ _ f) (ps.weak hf h)
theorem Tys.weak {fs fs' : List (List Nat × Nat)} (hf : ∀ (k : Nat) p, fs[k]? = some p → fs'[k]? = some p) : ∀ {ρ ρ' : Env1} {es : List Ex} {ds : List Nat}, Tys fs ρ es ds → (∀ y c, ρ y = some c → ρ' y = some c) → Tys fs' ρ' es ds
  | _, _, _, _, .nil, _ => .nil
  | _, _, _, _, .cons a r, h => .cons (a.weak hf h) (r.weak hf h)
end
theorem take_get {fs : List (List Nat × Nat)} {own : Nat} (k : Nat) (p : List Nat × Nat) (h : (fs.take own)[k]? = some p) : fs[k]? = some p := by
  rw [List.getElem?_take] at h
  split at h
  · exact h
  · cases h
mutual
theorem Ty.noself {fs : List (List Nat × Nat)} {own : Nat} (hl : fs.length ≤ own) : ∀ {ρ : Env1} {e : Ex} {d : Nat}, Ty fs ρ e d → e.selfs (own : Int) = 0
  | _, _, _, .num a b => rfl
  | _, _, _, .name a b c d => rfl
  | _, _, _, .two w a b => by
    rw [selfs_eq, selfss_cons, selfss_cons, selfss_nil, a.noself hl, b.noself hl, if_neg (by rintro ⟨z, _⟩; rcases w with w | w | w | w | w <;> (rw [w] at z; cases z))]
  | _, _, _, .ite c a b => by
    rw [selfs_eq, selfss_cons, selfss_cons, selfss_cons, selfss_nil, a.noself hl, b.noself hl, c.noself hl]
    rfl
  | _, _, _, .elet x y a b => by
    rw [selfs_eq, selfss_cons, selfss_cons, selfss_nil, a.noself hl, b.noself hl, if_neg (by rintro ⟨z, _⟩; cases z)]
  | _, _, _, .upto a => by
    rw [selfs_eq, selfss_cons, selfss_nil, a.noself hl]
    rfl
  | _, _, _, .len a => by
    rw [selfs_eq, selfss_cons, selfss_nil, a.noself hl]
    rfl
  | _, _, _, .sum a => by
    rw [selfs_eq, selfss_cons, selfss_nil, a.noself hl]
    rfl
  | _, _, _, .sums a => by
    rw [selfs_eq, selfss_cons, selfss_nil, a.noself hl]
    rfl
  | _, _, _, .one a c => by
    rw [selfs_eq, selfss_cons, selfss_nil, a.noself hl]
    rfl
  | _, _, _, .pick a b => by
    rw [selfs_eq, selfss_cons, selfss_cons, selfss_nil, a.noself hl, b.noself hl]
    rfl
  | _, _, _, .put a b => by
    rw [selfs_eq, selfss_cons, selfss_cons, selfss_nil, a.noself hl, b.noself hl]
    rfl
  | _, _, _, .flat a => by
    rw [selfs_eq, selfss_cons, selfss_nil, a.noself hl]
    rfl
  | _, _, _, .each x y a b c => by
    rw [selfs_eq, selfss_cons, selfss_cons, selfss_nil, a.noself hl, b.noself hl, if_neg (by rintro ⟨z, _⟩; cases z)]
  | _, _, _, .whr x y a b => by
    rw [selfs_eq, selfss_cons, selfss_cons, selfss_nil, a.noself hl, b.noself hl, if_neg (by rintro ⟨z, _⟩; cases z)]
  | _, _, _, .call k f ps => by
    have h1 := (List.getElem?_eq_some_iff.mp f).1
    rw [selfs_eq, ps.noself hl, if_neg (by rintro ⟨_, z⟩; omega)]
theorem Tys.noself {fs : List (List Nat × Nat)} {own : Nat} (hl : fs.length ≤ own) : ∀ {ρ : Env1} {es : List Ex} {ds : List Nat}, Tys fs ρ es ds → selfss (own : Int) es = 0
  | _, _, _, .nil => rfl
  | _, _, _, .cons a r => by
    rw [selfss_cons, a.noself hl, r.noself hl]
end
/-! ### the names of params -/
def envOf (ps : List (Int × Nat)) : Env1 := fun x => (ps.find? fun p => decide (p.1 = x)).map (·.2)
theorem envOf_mem : ∀ {ps : List (Int × Nat)} {x : Int} {d : Nat}, (ps.map (·.1)).Nodup → (x, d) ∈ ps → envOf ps x = some d
  | [], _, _, _, h => by cases h
  | (y, c) :: l, x, d, nd, h => by
    obtain ⟨n1, n2⟩ := List.nodup_cons.mp (show (y :: l.map (·.1)).Nodup from nd)
    unfold envOf
    by_cases e : y = x
    · rw [List.find?_cons_of_pos (by simp [e])]
      rcases List.mem_cons.mp h with h | h
      · cases h
        rfl
      · exact absurd (List.mem_map.mpr ⟨(x, d), h, rfl⟩) (by rw [← e]; exact n1)
    · rw [List.find?_cons_of_neg (by simp [e])]
      rcases List.mem_cons.mp h with h | h
      · cases h
        exact absurd rfl e
      · exact envOf_mem n2 h
theorem envOf_none {ps : List (Int × Nat)} {x : Int} (h : ∀ p ∈ ps, p.1 ≠ x) : envOf ps x = none := by
  unfold envOf
  rw [List.find?_eq_none.mpr fun p hp => by simpa using h p hp]
  rfl
theorem FaceOk.kn {ps : List (Int × Nat)} {d : Nat} (F : FaceOk ps d) : KnOk ps (envOf ps) := ⟨F.nd, F.lo, fun p hp => envOf_mem F.nd hp⟩
theorem mergeK_kn : ∀ {ps acc : List (Int × Nat)}, ((acc ++ ps).map (·.1)).Nodup → mergeK (acc.map kvOf) (ps.map kvOf) = (acc ++ ps).map kvOf
  | [], acc, _ => by
    rw [List.append_nil]
    rfl
  | (x, d) :: ps, acc, nd => by
    have hn : ∀ p ∈ acc, p.1 ≠ x := fun p hp e => by
      rw [List.map_append] at nd
      exact (List.nodup_append.mp nd).2.2 p.1 (List.mem_map.mpr ⟨p, hp, rfl⟩) x (List.mem_map.mpr ⟨(x, d), List.mem_cons_self .., rfl⟩) e
    have e1 : putK (acc.map kvOf) (Sum.inl x) (.int (d : Int)) = (acc ++ [(x, d)]).map kvOf := by
      unfold putK
      rw [if_neg, List.map_append]
      · rfl
      · intro h
        obtain ⟨kv, h1, h2⟩ := List.any_eq_true.mp h
        obtain ⟨p, hp, rfl⟩ := List.mem_map.mp h1
        have h3 : (Sum.inl p.1 : Key) = Sum.inl x := of_decide_eq_true h2
        injection h3 with h3
        exact hn p hp h3
    show mergeK (putK (acc.map kvOf) (Sum.inl x) (.int (d : Int))) (ps.map kvOf) = _
    rw [e1, mergeK_kn (ps := ps) (acc := acc ++ [(x, d)]) (by rw [List.append_assoc]; exact nd), List.append_assoc]
    rfl
theorem PIns.paired {K : PySem.W.Frag} {H : Hp} : ∀ {vs ps}, PIns H vs ps → ∃ as : List Addr, vs = as.map V.ref ∧ Paired (fun p (kv : Key × V) => SqT K H p [kV kv.1, kv.2]) as (ps.map kvOf)
  | _, _, .nil => ⟨[], rfl, .nil⟩
  | _, _, .cons (a := a) h r => by
    obtain ⟨as, e, p⟩ := r.paired (K := K)
    exact ⟨a :: as, by rw [e]; rfl, .cons (SqT.of h) p⟩
theorem upd_id {H : Hp} {a : Addr} {o : HO} (h : H a = some o) : upd H a o = H := by
  funext b
  unfold upd
  split
  · rename_i e
    rw [e, h]
  · rfl
theorem sub_len : ∀ {l1 l2 : List Int}, l1.Nodup → (∀ x ∈ l1, x ∈ l2) → l1.length ≤ l2.length
  | [], _, _, _ => Nat.zero_le _
  | x :: l1, l2, nd, h => by
    obtain ⟨n1, n2⟩ := List.nodup_cons.mp nd
    have hx : x ∈ l2 := h x (List.mem_cons_self ..)
    have h2 := sub_len (l2 := l2.erase x) n2 fun y hy => (List.mem_erase_of_ne (fun (z : y = x) => n1 (z ▸ hy))).mpr (h y (List.mem_cons_of_mem _ hy))
    rw [List.length_erase_of_mem hx] at h2
    have : 0 < l2.length := List.length_pos_of_mem hx
    simp only [List.length_cons]
    omega
theorem valV_some {x : Int} : ∀ (l : List (Int × Nat)), (valV (l.map kvOf) (Sum.inl x)).isSome = l.any fun p => decide (p.1 = x)
  | [] => rfl
  | (y, c) :: l => by
    have ih := valV_some (x := x) l
    unfold valV at ih ⊢
    rw [List.map_cons]
    by_cases e : y = x
    · rw [List.find?_cons_of_pos (by simp [kvOf, e])]
      simp [e]
    · rw [List.find?_cons_of_neg (by simp [kvOf, e]), ih]
      simp [e]
theorem TK.dict {H : Hp} {D : Addr} {a b : List (Key × V)} (h : H D = some (.dK a)) : TK H (upd H D (.dK b)) := fun c zs q => by
  rw [upd_ne (ne_of q h (by intro z; cases z))]
  exact q
theorem range_map_nodup (n : Nat) : ((List.range n).map fun (j : Nat) => (j : Int)).Nodup := by
  induction n with
  | zero => simp
  | succ n ih =>
    rw [List.range_succ, List.map_append]
    refine List.nodup_append.mpr ⟨ih, by simp, fun a ha b hb => ?_⟩
    obtain ⟨j, hj, rfl⟩ := List.mem_map.mp ha
    have := List.mem_range.mp hj
    simp only [List.map_cons, List.map_nil, List.mem_singleton] at hb
    omega
theorem cut01 (x : V) (xs : List V) : cutV (x :: xs) none (some 1) = [x] := by
  unfold cutV HT.sIx
  simp
theorem if_restS {c : TT} {a b u : TS} {D : Ends} {σ : L2.St} {H : Hp} (R : L2.St → Hp → Prop) (h2 : ∀ σ' H', R σ' H' → u D σ' H') (h1 : (∀ σ' H', R σ' H' → u D σ' H') → c σ H fun k H1 => if k = true then a { D with nx := u D } σ H1 else b { D with nx := u D } σ H1) : tSeq (tIfS c a b) u D σ H := h1 h2
theorem SqT.fr {K : PySem.W.Frag} {H : Hp} {a : Addr} {o : Obj} {xs : List V} (h : H a = some (.frz o (.tup xs))) : SqT K H a xs := .inl (.inr ⟨o, h⟩)
theorem Drawn.ne {K : PySem.W.Frag} {r : RD} {H : Hp} {D : Addr} (d : Draw K r H) (h : H D = none) : D ≠ r.r := by
  obtain ⟨o, ho⟩ := d.ref
  exact (ne_of_none ho h).symm
def spBody (K : PySem.W.Frag) (fs : List (List Nat × Nat)) (own : Nat) : Sp := fun vs H Q _ => ∃ (r : RD) (m : Addr) (fv : V) (b : Bool) (ps : List (Int × Nat)) (d : Nat), vs = [.ref r.r, .ref m, fv, .bl b] ∧ Draw K r H ∧ Gen H r m fs own ∧ FaceIn H fv ps d ∧ FaceOk ps d ∧ fs[own]? = some (ps.map (·.2), d) ∧
  ∀ (v : V) (H' : Hp) (e : Ex), Drawn K r H H' → TIn H' v e → Ty fs (envOf ps) e d → e.selfs (own : Int) ≤ 1 → e.hgt ≤ 12 → Q v H'
end NR
set_option maxHeartbeats 4000000
namespace NR
open PySem PySem.Spec PyProof.Rows L2
/-! ### what never changes stays -/
structure IK (H H' : Hp) : Prop where
  t : TK H H'
  f : ∀ b o xs, H b = some (.frz o (.tup xs)) → H' b = some (.frz o (.tup xs))
theorem IK.refl (H : Hp) : IK H H := ⟨.refl H, fun _ _ _ h => h⟩
theorem IK.trans {H H1 H2 : Hp} (a : IK H H1) (b : IK H1 H2) : IK H H2 := ⟨a.t.trans b.t, fun c o xs h => b.f c o xs (a.f c o xs h)⟩
theorem IK.of {H H' : Hp} (s : Same H H') : IK H H' := ⟨TK.of s, fun b o xs h => s b _ h⟩
theorem IK.lst {H : Hp} {D : Addr} {xs ys : List V} (h : H D = some (.lst xs)) : IK H (upd H D (.lst ys)) := ⟨TK.lst h, fun b o zs q => by
  rw [upd_ne (ne_of q h (by intro z; cases z))]
  exact q⟩
theorem IK.dict {H : Hp} {D : Addr} {a b : List (Key × V)} (h : H D = some (.dK a)) : IK H (upd H D (.dK b)) := ⟨TK.dict h, fun b o zs q => by
  rw [upd_ne (ne_of q h (by intro z; cases z))]
  exact q⟩
theorem Drawn.ik {K : PySem.W.Frag} {r : RD} {H H' : Hp} (g : Drawn K r H H') (d : Draw K r H) : IK H H' := by
  obtain ⟨p, x, l, h, _⟩ := d.ex
  exact ⟨g.tk d, fun b o xs q => g.s _ _ (ne_of q h (by intro z; cases z)) q⟩
/-! ### programs -/
structure Fn where
  ps : List (Int × Nat)
  d : Nat
  e : Ex
def Fn.face (f : Fn) : List Nat × Nat := (f.ps.map (·.2), f.d)
def facesOf (prog : List Fn) : List (List Nat × Nat) := prog.map Fn.face
/-- params in the heap, as a tuple that dict() takes -/
structure PtIn (H : Hp) (v : V) (ps : List (Int × Nat)) : Prop where
  ex : ∃ (pt : Addr) (o : Obj) (vs : List V), v = .ref pt ∧ H pt = some (.frz o (.tup vs)) ∧ o.dict = none ∧ PIns H vs ps
theorem PtIn.mono {H H' : Hp} {v : V} {ps : List (Int × Nat)} (p : PtIn H v ps) (k : IK H H') : PtIn H' v ps := by
  obtain ⟨pt, o, vs, e1, e2, e3, e4⟩ := p.ex
  exact ⟨pt, o, vs, e1, k.f _ _ _ e2, e3, e4.mono k.t⟩
inductive PgIns (H : Hp) : List V → List Fn → Prop
  | nil : PgIns H [] []
  | cons {a : Addr} {pv bv : V} {f : Fn} {vs : List V} {fs : List Fn} : H a = some (.tup [pv, dV f.d, bv]) → PtIn H pv f.ps → TIn H bv f.e → PgIns H vs fs → PgIns H (.ref a :: vs) (f :: fs)
theorem PgIns.mono {H H' : Hp} (k : IK H H') : ∀ {vs fs}, PgIns H vs fs → PgIns H' vs fs
  | _, _, .nil => .nil
  | _, _, .cons h p t r => .cons (k.t _ _ h) (p.mono k) (t.mono k.t) (r.mono k)
theorem PgIns.len {H : Hp} : ∀ {vs fs}, PgIns H vs fs → vs.length = fs.length
  | _, _, .nil => rfl
  | _, _, .cons _ _ _ r => congrArg (· + 1) r.len
theorem PgIns.snoc {H : Hp} {a : Addr} {pv bv : V} {f : Fn} (h1 : H a = some (.tup [pv, dV f.d, bv])) (h2 : PtIn H pv f.ps) (h3 : TIn H bv f.e) : ∀ {vs fs}, PgIns H vs fs → PgIns H (vs ++ [.ref a]) (fs ++ [f])
  | _, _, .nil => .cons h1 h2 h3 .nil
  | _, _, .cons x y z r => .cons x y z (r.snoc h1 h2 h3)
/-- a program that can be -/
structure Good (prog : List Fn) : Prop where
  few : prog.length ≤ 6
  fn : ∀ (i : Nat) (f : Fn), prog[i]? = some f → FaceOk f.ps f.d ∧ Ty (facesOf (prog.take (i + 1))) (envOf f.ps) f.e f.d ∧ f.e.selfs (i : Int) ≤ 1 ∧ f.e.size ≤ 60 ∧ f.e.hgt ≤ 13
theorem Good.snoc {prog : List Fn} {f : Fn} (g : Good prog) (hl : prog.length ≤ 5) (h : FaceOk f.ps f.d ∧ Ty (facesOf (prog ++ [f])) (envOf f.ps) f.e f.d ∧ f.e.selfs (prog.length : Int) ≤ 1 ∧ f.e.size ≤ 60 ∧ f.e.hgt ≤ 13) : Good (prog ++ [f]) := by
  refine ⟨by rw [List.length_append]; exact Nat.succ_le_succ hl, fun i f' hf => ?_⟩
  by_cases c : i < prog.length
  · rw [List.getElem?_append_left c] at hf
    rw [List.take_append_of_le_length (by omega)]
    exact g.fn i f' hf
  · have hi : i = prog.length := by
      have := (List.getElem?_eq_some_iff.mp hf).1
      rw [List.length_append] at this
      simp only [List.length_cons, List.length_nil] at this
      omega
    subst hi
    rw [List.getElem?_append_right (Nat.le_refl _), Nat.sub_self] at hf
    cases hf
    rw [List.take_of_length_le (by rw [List.length_append]; exact Nat.le_refl _)]
    exact h
theorem Good.lo {prog : List Fn} (g : Good prog) : ∀ p ∈ facesOf prog, p.2 ≤ 3 ∧ p.1.length ≤ 4 ∧ ∀ d ∈ p.1, d ≤ 3 := fun p hp => by
  obtain ⟨f, hf, rfl⟩ := List.mem_map.mp hp
  obtain ⟨i, hi, rfl⟩ := List.mem_iff_getElem.mp hf
  obtain ⟨h, _⟩ := g.fn i _ (List.getElem?_eq_getElem hi)
  refine ⟨h.hd, by rw [show (Fn.face prog[i]).1 = prog[i].ps.map (·.2) from rfl, List.length_map]; exact h.few, fun d hd => ?_⟩
  obtain ⟨q, hq, rfl⟩ := List.mem_map.mp hd
  exact (h.lo q hq).2.2
/-! ### few parts -/
mutual
theorem Ty.few {fs : List (List Nat × Nat)} (hf : ∀ p ∈ fs, p.1.length ≤ 4) : ∀ {ρ : Env1} {e : Ex} {d : Nat}, Ty fs ρ e d → e.few
  | _, _, _, .num _ _ => ⟨Nat.zero_le _, trivial⟩
  | _, _, _, .name _ _ _ _ => ⟨Nat.zero_le _, trivial⟩
  | _, _, _, .two _ a b => ⟨by show 2 ≤ 4; omega, a.few hf, b.few hf, trivial⟩
  | _, _, _, .ite c a b => ⟨by show 3 ≤ 4; omega, c.few hf, a.few hf, b.few hf, trivial⟩
  | _, _, _, .elet _ _ a b => ⟨by show 2 ≤ 4; omega, a.few hf, b.few hf, trivial⟩
  | _, _, _, .upto a => ⟨by show 1 ≤ 4; omega, a.few hf, trivial⟩
  | _, _, _, .len a => ⟨by show 1 ≤ 4; omega, a.few hf, trivial⟩
  | _, _, _, .sum a => ⟨by show 1 ≤ 4; omega, a.few hf, trivial⟩
  | _, _, _, .sums a => ⟨by show 1 ≤ 4; omega, a.few hf, trivial⟩
  | _, _, _, .one a _ => ⟨by show 1 ≤ 4; omega, a.few hf, trivial⟩
  | _, _, _, .pick a b => ⟨by show 2 ≤ 4; omega, a.few hf, b.few hf, trivial⟩
  | _, _, _, .put a b => ⟨by show 2 ≤ 4; omega, a.few hf, b.few hf, trivial⟩
  | _, _, _, .flat a => ⟨by show 1 ≤ 4; omega, a.few hf, trivial⟩
  | _, _, _, .each _ _ a b _ => ⟨by show 2 ≤ 4; omega, a.few hf, b.few hf, trivial⟩
  | _, _, _, .whr _ _ a b => ⟨by show 2 ≤ 4; omega, a.few hf, b.few hf, trivial⟩
  | _, _, _, .call _ f ps => by
    have h := ps.few hf
    exact ⟨by rw [h.1]; exact hf _ (List.mem_of_getElem? f), h.2⟩
theorem Tys.few {fs : List (List Nat × Nat)} (hf : ∀ p ∈ fs, p.1.length ≤ 4) : ∀ {ρ : Env1} {es : List Ex} {ds : List Nat}, Tys fs ρ es ds → es.length = ds.length ∧ fews es
  | _, _, _, .nil => ⟨rfl, trivial⟩
  | _, _, _, .cons a r => by
    have h := r.few hf
    exact ⟨congrArg (· + 1) h.1, a.few hf, h.2⟩
end
mutual
/-- without more than one part each, an expression is as large as it is high -/
theorem size_leaf : ∀ (n : Nat) (e : Ex), e.few → e.hgt ≤ n → e.size ≤ 5 ^ n
  | 0, e, _, h => by
    have := e.hgt_pos
    omega
  | n + 1, .node w k ps, f, h => by
    have h1 : 1 + hgts ps ≤ n + 1 := h
    have h2 := sizes_leaf n ps f.2 (by omega)
    have h3 : ps.length ≤ 4 := f.1
    have h4 : ps.length * 5 ^ n ≤ 4 * 5 ^ n := Nat.mul_le_mul_right _ h3
    have h5 : 1 ≤ 5 ^ n := Nat.one_le_pow _ _ (by omega)
    show 1 + sizes ps ≤ 5 ^ (n + 1)
    rw [Nat.pow_succ]
    omega
theorem sizes_leaf : ∀ (n : Nat) (es : List Ex), fews es → hgts es ≤ n → sizes es ≤ es.length * 5 ^ n
  | n, [], _, _ => Nat.zero_le _
  | n, e :: es, f, h => by
    have h1 : max e.hgt (hgts es) ≤ n := h
    have h2 := size_leaf n e f.1 (by omega)
    have h3 := sizes_leaf n es f.2 (by omega)
    show e.size + sizes es ≤ (es.length + 1) * 5 ^ n
    rw [Nat.add_mul]
    omega
end
def spProgram (K : PySem.W.Frag) : Sp := fun vs H Q _ => ∃ (r : RD) (most : Int), vs = [.ref r.r, .int most] ∧ Draw K r H ∧ 1 ≤ most ∧ most ≤ 6 ∧
  ∀ (a : Addr) (H' : Hp) (vs : List V) (prog : List Fn), Drawn K r H H' → H' a = some (.tup vs) → PgIns H' vs prog → Good prog → 1 ≤ prog.length → (prog.length : Int) ≤ most → Q (.ref a) H'
end NR
set_option maxHeartbeats 4000000
namespace NR
open PySem PySem.Spec PyProof.Rows L2
section
variable {X : Cx} (K : PySem.W.Frag)
theorem call_isiK (h : X.K = K := by rfl) : CallR X (.builtin "isinstance") (rIsi K) := h ▸ call_isi
theorem call_isiTK (h : X.K = K := by rfl) : CallR X (.builtin "isinstance") (rIsiT K) := h ▸ call_isiT
theorem ix_seqK (h : X.K = K := by rfl) : IxR X (rIx K) := h ▸ ix_seq
end
/-! ### data: whole numbers, texts, tuples and lists of these -/
inductive Da where
  | int (n : Int)
  | str (s : Str)
  | seq (l : Bool) (ds : List Da)
mutual
def Da.hgt : Da → Nat
  | .int _ => 1
  | .str _ => 1
  | .seq _ ds => 1 + dhgts ds
def dhgts : List Da → Nat
  | [] => 0
  | d :: ds => max d.hgt (dhgts ds)
end
theorem Da.hgt_pos (d : Da) : 0 < d.hgt := by
  cases d <;> simp only [Da.hgt] <;> omega
/-- the object at a is a list, a tuple of these -/
def SeqA (H : Hp) (l : Bool) (a : Addr) (vs : List V) : Prop := (l = true ∧ H a = some (.lst vs)) ∨ (l = false ∧ (H a = some (.tup vs) ∨ ∃ o, H a = some (.frz o (.tup vs))))
mutual
inductive DIn (H : Hp) : V → Da → Prop
  | int {n : Int} : DIn H (.int n) (.int n)
  | str {s : Str} : DIn H (.str s) (.str s)
  | seq {l : Bool} {a : Addr} {vs : List V} {ds : List Da} : SeqA H l a vs → vs.length ≤ 1000 → DIns H vs ds → DIn H (.ref a) (.seq l ds)
inductive DIns (H : Hp) : List V → List Da → Prop
  | nil : DIns H [] []
  | cons {v : V} {vs : List V} {d : Da} {ds : List Da} : DIn H v d → DIns H vs ds → DIns H (v :: vs) (d :: ds)
end
theorem SeqA.same {H H' : Hp} {l : Bool} {a : Addr} {vs : List V} (h : SeqA H l a vs) (s : Same H H') : SeqA H' l a vs := by
  rcases h with ⟨e, h⟩ | ⟨e, h | ⟨o, h⟩⟩
  · exact .inl ⟨e, s _ _ h⟩
  · exact .inr ⟨e, .inl (s _ _ h)⟩
  · exact .inr ⟨e, .inr ⟨o, s _ _ h⟩⟩
theorem SeqA.sq {K : PySem.W.Frag} {H : Hp} {l : Bool} {a : Addr} {vs : List V} (h : SeqA H l a vs) : SqL K H a vs ∨ SqT K H a vs := by
  rcases h with ⟨_, h⟩ | ⟨_, h | ⟨o, h⟩⟩
  · exact .inl (SqL.of h)
  · exact .inr (SqT.of h)
  · exact .inr (.inl (.inr ⟨o, h⟩))
theorem SeqA.ty {K : PySem.W.Frag} {H : Hp} {l : Bool} {a : Addr} {vs : List V} (h : SeqA H l a vs) : TyX K H (.ref a) (.type (if l = true then "list" else "tuple")) := by
  rcases h with ⟨rfl, h⟩ | ⟨rfl, h | ⟨o, h⟩⟩
  · exact .base (.lst h)
  · exact .base (.tup h)
  · exact .fTuple h
theorem SeqA.at {K : PySem.W.Frag} {H : Hp} {l : Bool} {a : Addr} {vs : List V} (h : SeqA H l a vs) {i : Nat} {v : V} (hv : vs[i]? = some v) {Q : VK} (q : Q v H) : rIx K (.ref a) (.int (i : Int)) H Q := by
  rcases h.sq (K := K) with h | h
  · exact .inl ⟨a, vs, _, v, rfl, rfl, h, atI_nat hv, q⟩
  · exact .inr (.inl ⟨a, vs, _, v, rfl, rfl, h, atI_nat hv, q⟩)
mutual
theorem DIn.same {H H' : Hp} (s : Same H H') : ∀ {v : V} {d : Da}, DIn H v d → DIn H' v d
  | _, _, .int => .int
  | _, _, .str => .str
  | _, _, .seq h l r => .seq (h.same s) l (r.same s)
theorem DIns.same {H H' : Hp} (s : Same H H') : ∀ {vs : List V} {ds : List Da}, DIns H vs ds → DIns H' vs ds
  | _, _, .nil => .nil
  | _, _, .cons h r => .cons (h.same s) (r.same s)
end
theorem DIns.len {H : Hp} : ∀ {vs : List V} {ds : List Da}, DIns H vs ds → vs.length = ds.length
  | _, _, .nil => rfl
  | _, _, .cons _ r => congrArg (· + 1) r.len
theorem DIns.get {H : Hp} : ∀ {vs : List V} {ds : List Da} (_ : DIns H vs ds) (i : Nat) {d : Da}, ds[i]? = some d → ∃ v, vs[i]? = some v ∧ DIn H v d ∧ d.hgt ≤ dhgts ds
  | _, _, .nil, i, _, h => by simp at h
  | _, _, .cons (ds := ds) h1 _, 0, d, h => by
    cases h
    exact ⟨_, rfl, h1, by simp only [dhgts]; omega⟩
  | _, _, .cons (d := d0) (ds := ds) _ r, i + 1, d, h => by
    obtain ⟨v, e1, e2, e3⟩ := r.get i h
    exact ⟨v, e1, e2, by simp only [dhgts]; omega⟩
def spAlike (K : PySem.W.Frag) (n : Nat) : Sp := fun vs H Q _ => ∃ (u v : V) (d : Da), vs = [u, v] ∧ DIn H u d ∧ DIn H v d ∧ d.hgt ≤ n ∧ ∀ H', Same H H' → Q (.bl true) H'
end NR
set_option maxHeartbeats 4000000
namespace NR
open PySem PySem.Spec PyProof.Rows L2
/-! ### expressions with their places and depths -/
inductive Nd where
  | node (w : W) (p : Nat) (n : Int) (ps : List Nd) (d : Nat)
def Nd.d : Nd → Nat
  | .node _ _ _ _ d => d
mutual
def Nd.size : Nd → Nat
  | .node _ _ _ ps _ => 1 + nsizes ps
def nsizes : List Nd → Nat
  | [] => 0
  | e :: es => e.size + nsizes es
end
mutual
def Nd.hgt : Nd → Nat
  | .node _ _ _ ps _ => 1 + nhgts ps
def nhgts : List Nd → Nat
  | [] => 0
  | e :: es => max e.hgt (nhgts es)
end
theorem Nd.hgt_pos (e : Nd) : 0 < e.hgt := by
  cases e
  unfold Nd.hgt
  omega
theorem Nd.size_pos (e : Nd) : 0 < e.size := by
  cases e
  unfold Nd.size
  omega
theorem nsizes_len : ∀ (l : List Nd), l.length ≤ nsizes l
  | [] => Nat.le_refl _
  | e :: l => by
    have := nsizes_len l
    have := e.size_pos
    show l.length + 1 ≤ e.size + nsizes l
    omega
/-- the depth that comes of the parts' depths -/
inductive Dep : W → List Nat → Nat → Prop
  | num : Dep .num [] 0
  | two {w : W} : (w = .plus ∨ w = .minus ∨ w = .times ∨ w = .less ∨ w = .same) → Dep w [0, 0] 0
  | ite {d : Nat} : Dep .ite [0, d, d] d
  | elet {c d : Nat} : Dep .elet [c, d] d
  | upto : Dep .upto [0] 1
  | len {d : Nat} : Dep .len [d + 1] 0
  | sum : Dep .sum [1] 0
  | sums : Dep .sums [1] 1
  | one {d : Nat} : d < 3 → Dep .one [d] (d + 1)
  | pick {d : Nat} : Dep .pick [d + 1, 0] d
  | put {d : Nat} : Dep .put [d + 1, d + 1] (d + 1)
  | flat {d : Nat} : Dep .flat [d + 2] (d + 1)
  | each {c d : Nat} : d < 3 → Dep .each [c + 1, d] (d + 1)
  | whr {c : Nat} : Dep .whr [c + 1, 0] (c + 1)
theorem Dep.ite3 {ds : List Nat} {d : Nat} : Dep .ite ds d → ds.length = 3
  | .ite => rfl
  | .two h => by simp at h
mutual
inductive An (fs : List (List Nat × Nat)) : Env1 → Nat → Ex → Nd → Prop
  | num {ρ : Env1} {p : Nat} {n : Int} : 0 ≤ n → n ≤ 10006 → An fs ρ p (.node .num n []) (.node .num p n [] 0)
  | name {ρ : Env1} {p : Nat} {x : Int} {d : Nat} : 0 ≤ x → x ≤ 19 → ρ x = some d → d ≤ 3 → An fs ρ p (.node .name x []) (.node .name p x [] d)
  | bind {ρ : Env1} {p : Nat} {w : W} {x : Int} {a b : Ex} {na nb : Nd} {d : Nat} : w.lay = 1 → 0 ≤ x → x ≤ 19 → An fs ρ (p + 1) a na → w.off ≤ na.d → An fs (ups ρ x (na.d - w.off)) (p + 1 + a.size) b nb → Dep w [na.d, nb.d] d → An fs ρ p (.node w x [a, b]) (.node w p x [na, nb] d)
  | call {ρ : Env1} {p k : Nat} {ps : List Ex} {nps : List Nd} {ds : List Nat} {d : Nat} : k ≤ 5 → fs[k]? = some (ds, d) → Ans fs ρ (p + 1) ps nps → nps.map Nd.d = ds → An fs ρ p (.node .call (k : Int) ps) (.node .call p (k : Int) nps d)
  | bare {ρ : Env1} {p : Nat} {w : W} {ps : List Ex} {nps : List Nd} {d : Nat} : w.lay = 3 → Ans fs ρ (p + 1) ps nps → Dep w (nps.map Nd.d) d → An fs ρ p (.node w (-1) ps) (.node w p (-1) nps d)
inductive Ans (fs : List (List Nat × Nat)) : Env1 → Nat → List Ex → List Nd → Prop
  | nil {ρ : Env1} {p : Nat} : Ans fs ρ p [] []
  | cons {ρ : Env1} {p : Nat} {e : Ex} {es : List Ex} {nd : Nd} {nds : List Nd} : An fs ρ p e nd → Ans fs ρ (p + e.size) es nds → Ans fs ρ p (e :: es) (nd :: nds)
end
theorem ans1 {fs : List (List Nat × Nat)} {ρ : Env1} {p : Nat} {a : Ex} {na : Nd} (h : An fs ρ p a na) : Ans fs ρ p [a] [na] := .cons h .nil
theorem ans2 {fs : List (List Nat × Nat)} {ρ : Env1} {p : Nat} {a b : Ex} {na nb : Nd} (h : An fs ρ p a na) (h' : An fs ρ (p + a.size) b nb) : Ans fs ρ p [a, b] [na, nb] := .cons h (.cons h' .nil)
mutual
theorem Ty.an {fs : List (List Nat × Nat)} : ∀ {ρ : Env1} {e : Ex} {d : Nat}, Ty fs ρ e d → ∀ p, ∃ nd, An fs ρ p e nd ∧ nd.d = d
  | _, _, _, .num h h', p => ⟨_, .num h h', rfl⟩
  | _, _, _, .name h h' h1 h2, p => ⟨_, .name h h' h1 h2, rfl⟩
  | _, _, _, .two (a := a) hw ha hb, p => by
    obtain ⟨na, h1, e1⟩ := ha.an (p + 1)
    obtain ⟨nb, h2, e2⟩ := hb.an (p + 1 + a.size)
    exact ⟨_, .bare (by rcases hw with rfl | rfl | rfl | rfl | rfl <;> rfl) (ans2 h1 h2) (by simp only [List.map_cons, List.map_nil, e1, e2]; exact .two hw), rfl⟩
  | _, _, _, .ite (c := c) (a := a) hc ha hb, p => by
    obtain ⟨nc, h0, e0⟩ := hc.an (p + 1)
    obtain ⟨na, h1, e1⟩ := ha.an (p + 1 + c.size)
    obtain ⟨nb, h2, e2⟩ := hb.an (p + 1 + c.size + a.size)
    exact ⟨_, .bare rfl (.cons h0 (ans2 h1 h2)) (by simp only [List.map_cons, List.map_nil, e0, e1, e2]; exact .ite), rfl⟩
  | _, _, _, .elet (a := a) h0 h1 ha hb, p => by
    obtain ⟨na, h2, e1⟩ := ha.an (p + 1)
    obtain ⟨nb, h3, e2⟩ := hb.an (p + 1 + a.size)
    exact ⟨_, .bind rfl h0 h1 h2 (Nat.zero_le _) (by rw [e1]; exact h3) (by rw [e2]; exact .elet), rfl⟩
  | _, _, _, .upto ha, p => by
    obtain ⟨na, h1, e1⟩ := ha.an (p + 1)
    exact ⟨_, .bare rfl (ans1 h1) (by simp only [List.map_cons, List.map_nil, e1]; exact .upto), rfl⟩
  | _, _, _, .len ha, p => by
    obtain ⟨na, h1, e1⟩ := ha.an (p + 1)
    exact ⟨_, .bare rfl (ans1 h1) (by simp only [List.map_cons, List.map_nil, e1]; exact .len), rfl⟩
  | _, _, _, .sum ha, p => by
    obtain ⟨na, h1, e1⟩ := ha.an (p + 1)
    exact ⟨_, .bare rfl (ans1 h1) (by simp only [List.map_cons, List.map_nil, e1]; exact .sum), rfl⟩
  | _, _, _, .sums ha, p => by
    obtain ⟨na, h1, e1⟩ := ha.an (p + 1)
    exact ⟨_, .bare rfl (ans1 h1) (by simp only [List.map_cons, List.map_nil, e1]; exact .sums), rfl⟩
  | _, _, _, .one ha hd, p => by
    obtain ⟨na, h1, e1⟩ := ha.an (p + 1)
    exact ⟨_, .bare rfl (ans1 h1) (by simp only [List.map_cons, List.map_nil, e1]; exact .one hd), rfl⟩
  | _, _, _, .pick (a := a) ha hb, p => by
    obtain ⟨na, h1, e1⟩ := ha.an (p + 1)
    obtain ⟨nb, h2, e2⟩ := hb.an (p + 1 + a.size)
    exact ⟨_, .bare rfl (ans2 h1 h2) (by simp only [List.map_cons, List.map_nil, e1, e2]; exact .pick), rfl⟩
  | _, _, _, .put (a := a) ha hb, p => by
    obtain ⟨na, h1, e1⟩ := ha.an (p + 1)
    obtain ⟨nb, h2, e2⟩ := hb.an (p + 1 + a.size)
    exact ⟨_, .bare rfl (ans2 h1 h2) (by simp only [List.map_cons, List.map_nil, e1, e2]; exact .put), rfl⟩
  | _, _, _, .flat ha, p => by
    obtain ⟨na, h1, e1⟩ := ha.an (p + 1)
    exact ⟨_, .bare rfl (ans1 h1) (by simp only [List.map_cons, List.map_nil, e1]; exact .flat), rfl⟩
  | _, _, _, .each (a := a) h0 h1 ha hb hd, p => by
    obtain ⟨na, h2, e1⟩ := ha.an (p + 1)
    obtain ⟨nb, h3, e2⟩ := hb.an (p + 1 + a.size)
    exact ⟨_, .bind rfl h0 h1 h2 (by rw [e1]; exact Nat.succ_le_succ (Nat.zero_le _)) (by rw [e1]; exact h3) (by rw [e1, e2]; exact .each hd), rfl⟩
  | _, _, _, .whr (a := a) h0 h1 ha hb, p => by
    obtain ⟨na, h2, e1⟩ := ha.an (p + 1)
    obtain ⟨nb, h3, e2⟩ := hb.an (p + 1 + a.size)
    exact ⟨_, .bind rfl h0 h1 h2 (by rw [e1]; exact Nat.succ_le_succ (Nat.zero_le _)) (by rw [e1]; exact h3) (by rw [e1, e2]; exact .whr), rfl⟩
  | _, _, _, .call hk hf hp, p => by
    obtain ⟨nps, h1, e1⟩ := hp.an (p + 1)
    exact ⟨_, .call hk hf h1 e1, rfl⟩
theorem Tys.an {fs : List (List Nat × Nat)} : ∀ {ρ : Env1} {es : List Ex} {ds : List Nat}, Tys fs ρ es ds → ∀ p, ∃ nds, Ans fs ρ p es nds ∧ nds.map Nd.d = ds
  | _, _, _, .nil, p => ⟨[], .nil, rfl⟩
  | _, _, _, .cons (e := e) ha hr, p => by
    obtain ⟨na, h1, e1⟩ := ha.an p
    obtain ⟨nds, h2, e2⟩ := hr.an (p + e.size)
    exact ⟨_, .cons h1 h2, by rw [List.map_cons, e1, e2]⟩
end
mutual
theorem An.sz {fs : List (List Nat × Nat)} : ∀ {ρ : Env1} {p : Nat} {e : Ex} {nd : Nd}, An fs ρ p e nd → nd.size = e.size ∧ nd.hgt = e.hgt
  | _, _, _, _, .num _ _ => ⟨rfl, rfl⟩
  | _, _, _, _, .name _ _ _ _ => ⟨rfl, rfl⟩
  | _, _, _, _, .bind _ _ _ ha _ hb _ => by
    have h1 := ha.sz
    have h2 := hb.sz
    simp only [Nd.size, nsizes, Ex.size, sizes, Nd.hgt, nhgts, Ex.hgt, hgts, h1, h2, and_self]
  | _, _, _, _, .call _ _ hp _ => by
    have h1 := hp.sz
    simp only [Nd.size, Ex.size, Nd.hgt, Ex.hgt, h1, and_self]
  | _, _, _, _, .bare _ hp _ => by
    have h1 := hp.sz
    simp only [Nd.size, Ex.size, Nd.hgt, Ex.hgt, h1, and_self]
theorem Ans.sz {fs : List (List Nat × Nat)} : ∀ {ρ : Env1} {p : Nat} {es : List Ex} {nds : List Nd}, Ans fs ρ p es nds → nsizes nds = sizes es ∧ nhgts nds = hgts es
  | _, _, _, _, .nil => ⟨rfl, rfl⟩
  | _, _, _, _, .cons ha hr => by
    have h1 := ha.sz
    have h2 := hr.sz
    simp only [nsizes, sizes, nhgts, hgts, h1, h2, and_self]
end
/-! ### rows of flat code -/
inductive Row where
  | num (p r : Nat) (n : Int)
  | bare (w : W) (p r : Nat) (as : List Nat) (dd : Option Nat)
  | call (p r : Nat) (k : Int) (as : List Nat)
  | ite (p r c : Nat) (tk : List Nat) (ra : List Row) (ta : Nat) (rb : List Row) (tb : Nat)
  | ea (w : W) (p r a da it : Nat) (tk : List Nat) (rs : List Row) (t d : Nat)
def nDa (n : Nat) : Da := .int (n : Int)
def oDa : Option Nat → List Da
  | some d => [nDa d]
  | none => []
mutual
def Row.da : Row → Da
  | .num p r n => .seq false [.str "num", nDa p, nDa r, .int n]
  | .bare w p r as dd => .seq false (.str w.str :: nDa p :: nDa r :: (as.map nDa ++ oDa dd))
  | .call p r k as => .seq false [.str "call", nDa p, nDa r, .int k, .seq false (as.map nDa)]
  | .ite p r c tk ra ta rb tb => .seq false [.str "if", nDa p, nDa r, nDa c, .seq false (tk.map nDa), .seq false (rowsDa ra), nDa ta, .seq false (rowsDa rb), nDa tb]
  | .ea w p r a da it tk rs t d => .seq false [.str w.str, nDa p, nDa r, nDa a, nDa da, nDa it, .seq false (tk.map nDa), .seq false (rowsDa rs), nDa t, nDa d]
def rowsDa : List Row → List Da
  | [] => []
  | r :: rs => r.da :: rowsDa rs
end
theorem rowsDa_append : ∀ (a b : List Row), rowsDa (a ++ b) = rowsDa a ++ rowsDa b
  | [], _ => rfl
  | r :: a, b => congrArg (r.da :: ·) (rowsDa_append a b)
theorem rowsDa_len : ∀ (a : List Row), (rowsDa a).length = a.length
  | [] => rfl
  | r :: a => congrArg (· + 1) (rowsDa_len a)
def Row.reads : Row → List Nat
  | .num _ _ _ => []
  | .bare _ _ _ as _ => as
  | .call _ _ _ as => as
  | .ite _ _ c tk _ _ _ _ => c :: tk
  | .ea _ _ _ a _ _ tk _ _ _ => a :: tk
/-- the registers below f among L, rising -/
def tin (L : List Nat) (f : Nat) : List Nat := (List.range f).filter fun k => decide (k ∈ L)
def seen1 (rs : List Row) (t : Nat) : List Nat := t :: rs.flatMap Row.reads
/-- words whose rows tell the depth of the first part -/
def W.wd : W → Bool
  | .pick | .put | .flat | .one => true
  | _ => false
def headD : List Nd → Option Nat
  | [] => none
  | a :: _ => some a.d
mutual
inductive Lay : Nd → Env1 → Nat → List Row → Nat → Nat → Prop
  | num {p : Nat} {n : Int} {d r : Nat} {ε : Env1} : Lay (.node .num p n [] d) ε r [.num p r n] r (r + 1)
  | name {p : Nat} {x : Int} {d r t : Nat} {ε : Env1} : ε x = some t → Lay (.node .name p x [] d) ε r [] t r
  | elet {p : Nat} {x : Int} {a b : Nd} {d r r1 r2 ta tb : Nat} {ε : Env1} {ra rb : List Row} : Lay a ε r ra ta r1 → Lay b (ups ε x ta) r1 rb tb r2 → Lay (.node .elet p x [a, b] d) ε r (ra ++ rb) tb r2
  | ite {p : Nat} {n : Int} {c a b : Nd} {d r r1 r2 r3 tc ta tb : Nat} {ε : Env1} {rc ra rb : List Row} : Lay c ε r rc tc r1 → Lay a ε r1 ra ta r2 → Lay b ε r2 rb tb r3 →
      Lay (.node .ite p n [c, a, b] d) ε r (rc ++ [.ite p r3 tc (tin (seen1 ra ta ++ seen1 rb tb) r1) ra ta rb tb]) r3 (r3 + 1)
  | ea {p : Nat} {x : Int} {w : W} {a b : Nd} {d r r1 r2 ta tb : Nat} {ε : Env1} {ra rb : List Row} : (w = .each ∨ w = .whr) → Lay a ε r ra ta r1 → Lay b (ups ε x r1) (r1 + 1) rb tb r2 →
      Lay (.node w p x [a, b] d) ε r (ra ++ [.ea w p r2 ta a.d r1 (tin (seen1 rb tb) r1) rb tb d]) r2 (r2 + 1)
  | call {p : Nat} {k : Int} {ps : List Nd} {d r r1 : Nat} {ε : Env1} {rs : List Row} {ts : List Nat} : Lays ps ε r rs ts r1 → Lay (.node .call p k ps d) ε r (rs ++ [.call p r1 k ts]) r1 (r1 + 1)
  | bare {w : W} {p : Nat} {n : Int} {ps : List Nd} {d r r1 : Nat} {ε : Env1} {rs : List Row} {ts : List Nat} : w.lay = 3 → w ≠ .ite → Lays ps ε r rs ts r1 →
      Lay (.node w p n ps d) ε r (rs ++ [.bare w p r1 ts (if w.wd = true then headD ps else none)]) r1 (r1 + 1)
inductive Lays : List Nd → Env1 → Nat → List Row → List Nat → Nat → Prop
  | nil {r : Nat} {ε : Env1} : Lays [] ε r [] [] r
  | cons {a : Nd} {l : List Nd} {r r1 r2 t : Nat} {ε : Env1} {ra rl : List Row} {ts : List Nat} : Lay a ε r ra t r1 → Lays l ε r1 rl ts r2 → Lays (a :: l) ε r (ra ++ rl) (t :: ts) r2
end
theorem lay3 {p : Nat} {n : Int} {d r r1 : Nat} {ε : Env1} {rs : List Row} {ts : List Nat} {nps : List Nd} (l : Lays nps ε r rs ts r1) (h : nps.length = 3) : ∃ rs t r', Lay (.node .ite p n nps d) ε r rs t r' := by
  obtain _ | ⟨l0, l⟩ := l
  · simp at h
  obtain _ | ⟨l1, l⟩ := l
  · simp at h
  obtain _ | ⟨l2, l⟩ := l
  · simp at h
  obtain _ | ⟨l3, l⟩ := l
  · exact ⟨_, _, _, .ite l0 l1 l2⟩
  · simp at h
/-- a name that has a depth has a register -/
def Cov (ρ ε : Env1) : Prop := ∀ x d, ρ x = some d → ∃ t, ε x = some t
theorem Cov.ups {ρ ε : Env1} (c : Cov ρ ε) (x : Int) (d t : Nat) : Cov (ups ρ x d) (NR.ups ε x t) := fun y e h => by
  unfold NR.ups at h ⊢
  by_cases q : y = x
  · exact ⟨t, if_pos q⟩
  · rw [if_neg q] at h ⊢
    exact c y e h
mutual
theorem An.lay {fs : List (List Nat × Nat)} : ∀ {ρ : Env1} {p : Nat} {e : Ex} {nd : Nd}, An fs ρ p e nd → ∀ (ε : Env1), Cov ρ ε → ∀ r, ∃ rs t r', Lay nd ε r rs t r'
  | _, _, _, _, .num _ _, ε, c, r => ⟨_, _, _, .num⟩
  | _, _, _, _, .name _ _ h _, ε, c, r => by
    obtain ⟨t, ht⟩ := c _ _ h
    exact ⟨_, _, _, .name ht⟩
  | _, _, _, _, .bind (w := w) (x := x) (na := na) hw _ _ ha ho hb hd, ε, c, r => by
    obtain ⟨ra, ta, r1, la⟩ := ha.lay ε c r
    have hw' : w = .elet ∨ w = .each ∨ w = .whr := by revert hw; cases w <;> simp [W.lay]
    rcases hw' with rfl | h
    · obtain ⟨rb, tb, r2, lb⟩ := hb.lay (ups ε x ta) (c.ups _ _ _) r1
      exact ⟨_, _, _, .elet la lb⟩
    · obtain ⟨rb, tb, r2, lb⟩ := hb.lay (ups ε x r1) (c.ups _ _ _) (r1 + 1)
      exact ⟨_, _, _, .ea h la lb⟩
  | _, _, _, _, .call _ _ hp _, ε, c, r => by
    obtain ⟨rs, ts, r1, l⟩ := hp.lay ε c r
    exact ⟨_, _, _, .call l⟩
  | _, _, _, _, .bare (w := w) hw hp hd, ε, c, r => by
    obtain ⟨rs, ts, r1, l⟩ := hp.lay ε c r
    by_cases q : w = .ite
    · subst q
      have hl := hd.ite3
      rw [List.length_map] at hl
      exact lay3 l hl
    · exact ⟨_, _, _, .bare hw q l⟩
theorem Ans.lay {fs : List (List Nat × Nat)} : ∀ {ρ : Env1} {p : Nat} {es : List Ex} {nds : List Nd}, Ans fs ρ p es nds → ∀ (ε : Env1), Cov ρ ε → ∀ r, ∃ rs ts r', Lays nds ε r rs ts r'
  | _, _, _, _, .nil, ε, c, r => ⟨_, _, _, .nil⟩
  | _, _, _, _, .cons ha hr, ε, c, r => by
    obtain ⟨ra, ta, r1, la⟩ := ha.lay ε c r
    obtain ⟨rs, ts, r2, l⟩ := hr.lay ε c r1
    exact ⟨_, _, _, .cons la l⟩
end
end NR
set_option maxHeartbeats 4000000
namespace NR
open PySem PySem.Spec PyProof.Rows L2
/-- how many of L lie below b -/
def below (b : Nat) (L : List Nat) : Nat := (L.filter fun k => decide (k < b)).length
theorem below_append (b : Nat) (L M : List Nat) : below b (L ++ M) = below b L + below b M := by
  unfold below
  rw [List.filter_append, List.length_append]
theorem below_nil (b : Nat) : below b [] = 0 := rfl
theorem below_cons (b x : Nat) (L : List Nat) : below b (x :: L) = below b [x] + below b L := below_append b [x] L
theorem below_le (b : Nat) (L : List Nat) : below b L ≤ L.length := List.length_filter_le _ _
theorem below_ge {b x : Nat} (h : b ≤ x) : below b [x] = 0 := by
  unfold below
  rw [List.filter_cons, if_neg (by simpa using h)]
  rfl
theorem tin_nodup (L : List Nat) (f : Nat) : (tin L f).Nodup := List.nodup_range.filter _
theorem tin_mem {L : List Nat} {f k : Nat} : k ∈ tin L f ↔ k ∈ L ∧ k < f := by
  unfold tin
  rw [List.mem_filter, List.mem_range, decide_eq_true_eq]
  exact And.comm
theorem sub_lenN {A : List Nat} : ∀ {B : List Nat}, A.Nodup → (∀ x ∈ A, x ∈ B) → A.length ≤ B.length := by
  induction A with
  | nil => intro B _ _; exact Nat.zero_le _
  | cons a A ih =>
    intro B nd h
    obtain ⟨n1, n2⟩ := List.nodup_cons.mp nd
    have ha : a ∈ B := h a (List.mem_cons_self ..)
    have h2 := ih (B := B.erase a) n2 fun x hx => (List.mem_erase_of_ne (fun z => n1 (by rw [← z]; exact hx))).mpr (h x (List.mem_cons_of_mem _ hx))
    rw [List.length_erase_of_mem ha] at h2
    have := List.length_pos_of_mem ha
    simp only [List.length_cons]
    omega
theorem below_tin (b : Nat) (L : List Nat) (f : Nat) : below b (tin L f) ≤ below b L := by
  unfold below
  refine sub_lenN ((tin_nodup L f).filter _) fun x hx => ?_
  obtain ⟨h1, h2⟩ := List.mem_filter.mp hx
  exact List.mem_filter.mpr ⟨(tin_mem.mp h1).1, h2⟩
theorem tin_len (L : List Nat) (f : Nat) : (tin L f).length ≤ below f L := by
  refine sub_lenN (tin_nodup L f) fun x hx => ?_
  obtain ⟨h1, h2⟩ := tin_mem.mp hx
  exact List.mem_filter.mpr ⟨h1, decide_eq_true h2⟩
mutual
theorem Lay.up : ∀ {nd : Nd} {ε : Env1} {r : Nat} {rs : List Row} {t r' : Nat}, Lay nd ε r rs t r' → r ≤ r' ∧ rs.length ≤ nd.size
  | _, _, _, _, _, _, .num => ⟨Nat.le_succ _, Nat.le_refl _⟩
  | _, _, _, _, _, _, .name _ => ⟨Nat.le_refl _, Nat.zero_le _⟩
  | _, _, _, _, _, _, .elet la lb => by
    have h1 := la.up
    have h2 := lb.up
    simp only [Nd.size, nsizes, List.length_append]
    omega
  | _, _, _, _, _, _, .ite lc la lb => by
    have h0 := lc.up
    have h1 := la.up
    have h2 := lb.up
    simp only [Nd.size, nsizes, List.length_append, List.length_cons, List.length_nil]
    omega
  | _, _, _, _, _, _, .ea _ la lb => by
    have h1 := la.up
    have h2 := lb.up
    simp only [Nd.size, nsizes, List.length_append, List.length_cons, List.length_nil]
    omega
  | _, _, _, _, _, _, .call l => by
    have h := l.up
    simp only [Nd.size, nsizes, List.length_append, List.length_cons, List.length_nil]
    omega
  | _, _, _, _, _, _, .bare _ _ l => by
    have h := l.up
    simp only [Nd.size, nsizes, List.length_append, List.length_cons, List.length_nil]
    omega
theorem Lays.up : ∀ {nds : List Nd} {ε : Env1} {r : Nat} {rs : List Row} {ts : List Nat} {r' : Nat}, Lays nds ε r rs ts r' → r ≤ r' ∧ rs.length ≤ nsizes nds ∧ ts.length = nds.length
  | _, _, _, _, _, _, .nil => ⟨Nat.le_refl _, Nat.le_refl _, rfl⟩
  | _, _, _, _, _, _, .cons la l => by
    have h1 := la.up
    have h2 := l.up
    simp only [nsizes, List.length_append, List.length_cons]
    omega
end
theorem fm_append (a b : List Row) : (a ++ b).flatMap Row.reads = a.flatMap Row.reads ++ b.flatMap Row.reads := List.flatMap_append
theorem fm_one (a : Row) : [a].flatMap Row.reads = a.reads := by simp
mutual
theorem Lay.cnt : ∀ {nd : Nd} {ε : Env1} {r : Nat} {rs : List Row} {t r' : Nat}, Lay nd ε r rs t r' → ∀ b, b ≤ r → below b (seen1 rs t) ≤ nd.size
  | _, _, _, _, _, _, .num, b, hb => by
    simp only [seen1, fm_one, Row.reads]
    exact Nat.le_trans (below_le _ _) (Nat.le_refl _)
  | _, _, _, _, _, _, .name _, b, hb => Nat.le_trans (below_le _ _) (Nat.le_refl _)
  | _, _, _, _, _, _, .elet (ra := ra) la lb, b, hb => by
    have h1 := la.cnt b hb
    have h2 := lb.cnt b (Nat.le_trans hb la.up.1)
    simp only [seen1] at h1 h2 ⊢
    rw [below_cons] at h1 h2 ⊢
    rw [fm_append, below_append]
    simp only [Nd.size, nsizes]
    omega
  | _, _, _, _, _, _, .ite (r1 := r1) (r3 := r3) (tc := tc) (ra := ra) (rb := rb) (ta := ta) (tb := tb) lc la lb, b, hb => by
    have u0 := lc.up
    have u1 := la.up
    have u2 := lb.up
    have h0 := lc.cnt b hb
    have h1 := la.cnt b (by omega)
    have h2 := lb.cnt b (by omega)
    have h3 := below_tin b (seen1 ra ta ++ seen1 rb tb) r1
    rw [below_append] at h3
    have h4 := below_ge (b := b) (x := r3) (by omega)
    generalize hL : seen1 ra ta ++ seen1 rb tb = L at h3 ⊢
    simp only [seen1] at h0 ⊢
    rw [below_cons] at h0 ⊢
    rw [fm_append, fm_one, below_append]
    simp only [Row.reads]
    rw [below_cons b tc]
    simp only [Nd.size, nsizes]
    omega
  | _, _, _, _, _, _, .ea (r1 := r1) (r2 := r2) (ta := ta) (rb := rb) (tb := tb) _ la lb, b, hb => by
    have u0 := la.up
    have u1 := lb.up
    have h0 := la.cnt b hb
    have h1 := lb.cnt b (by omega)
    have h3 := below_tin b (seen1 rb tb) r1
    have h4 := below_ge (b := b) (x := r2) (by omega)
    generalize hL : seen1 rb tb = L at h1 h3 ⊢
    simp only [seen1] at h0 ⊢
    rw [below_cons] at h0 ⊢
    rw [fm_append, fm_one, below_append]
    simp only [Row.reads]
    rw [below_cons b ta]
    simp only [Nd.size, nsizes]
    omega
  | _, _, _, _, _, _, .call (r1 := r1) l, b, hb => by
    have h1 := l.cnt b hb
    have h4 := below_ge (b := b) (x := r1) (by have := l.up; omega)
    simp only [seen1]
    rw [below_cons, fm_append, fm_one, below_append]
    simp only [Nd.size, Row.reads]
    omega
  | _, _, _, _, _, _, .bare (r1 := r1) _ _ l, b, hb => by
    have h1 := l.cnt b hb
    have h4 := below_ge (b := b) (x := r1) (by have := l.up; omega)
    simp only [seen1]
    rw [below_cons, fm_append, fm_one, below_append]
    simp only [Nd.size, Row.reads]
    omega
theorem Lays.cnt : ∀ {nds : List Nd} {ε : Env1} {r : Nat} {rs : List Row} {ts : List Nat} {r' : Nat}, Lays nds ε r rs ts r' → ∀ b, b ≤ r → below b (rs.flatMap Row.reads) + below b ts ≤ nsizes nds
  | _, _, _, _, _, _, .nil, b, hb => Nat.le_refl _
  | _, _, _, _, _, _, .cons (t := t) la l, b, hb => by
    have h1 := la.cnt b hb
    have h2 := l.cnt b (Nat.le_trans hb la.up.1)
    simp only [seen1] at h1
    rw [below_cons] at h1
    rw [below_cons b t, fm_append, below_append]
    simp only [nsizes]
    omega
end
/-! ### no row reads much -/
mutual
theorem Lay.rd : ∀ {nd : Nd} {ε : Env1} {r : Nat} {rs : List Row} {t r' : Nat}, Lay nd ε r rs t r' → ∀ row ∈ rs, row.reads.length ≤ nd.size
  | _, _, _, _, _, _, .num, row, h => by
    rw [List.mem_singleton.mp h]
    exact Nat.zero_le _
  | _, _, _, _, _, _, .name _, row, h => by cases h
  | _, _, _, _, _, _, .elet la lb, row, h => by
    simp only [Nd.size, nsizes]
    rcases List.mem_append.mp h with h | h
    · have := la.rd row h; omega
    · have := lb.rd row h; omega
  | _, _, _, _, _, _, .ite (r1 := r1) (ra := ra) (rb := rb) (ta := ta) (tb := tb) lc la lb, row, h => by
    simp only [Nd.size, nsizes]
    rcases List.mem_append.mp h with h | h
    · have := lc.rd row h; omega
    · rw [List.mem_singleton.mp h]
      have h1 := la.cnt r1 (Nat.le_refl _)
      have h2 := lb.cnt r1 la.up.1
      have h3 := tin_len (seen1 ra ta ++ seen1 rb tb) r1
      rw [below_append] at h3
      simp only [Row.reads, List.length_cons]
      omega
  | _, _, _, _, _, _, .ea (r1 := r1) (rb := rb) (tb := tb) _ la lb, row, h => by
    simp only [Nd.size, nsizes]
    rcases List.mem_append.mp h with h | h
    · have := la.rd row h; omega
    · rw [List.mem_singleton.mp h]
      have h1 := lb.cnt r1 (Nat.le_succ _)
      have h3 := tin_len (seen1 rb tb) r1
      simp only [Row.reads, List.length_cons]
      omega
  | _, _, _, _, _, _, .call (ps := ps) l, row, h => by
    simp only [Nd.size]
    rcases List.mem_append.mp h with h | h
    · have := l.rd row h; omega
    · rw [List.mem_singleton.mp h]
      have h1 := l.up
      have h2 := nsizes_len ps
      simp only [Row.reads]
      omega
  | _, _, _, _, _, _, .bare (ps := ps) _ _ l, row, h => by
    simp only [Nd.size]
    rcases List.mem_append.mp h with h | h
    · have := l.rd row h; omega
    · rw [List.mem_singleton.mp h]
      have h1 := l.up
      have h2 := nsizes_len ps
      simp only [Row.reads]
      omega
theorem Lays.rd : ∀ {nds : List Nd} {ε : Env1} {r : Nat} {rs : List Row} {ts : List Nat} {r' : Nat}, Lays nds ε r rs ts r' → ∀ row ∈ rs, row.reads.length ≤ nsizes nds
  | _, _, _, _, _, _, .nil, row, h => by cases h
  | _, _, _, _, _, _, .cons la l, row, h => by
    simp only [nsizes]
    rcases List.mem_append.mp h with h | h
    · have := la.rd row h; omega
    · have := l.rd row h; omega
end
/-! ### two rising lists of the same numbers -/
theorem rise_eq : ∀ {a b : List Int}, a.Pairwise (· < ·) → b.Pairwise (· < ·) → (∀ k, k ∈ a ↔ k ∈ b) → a = b
  | [], [], _, _, _ => rfl
  | [], y :: b, _, _, h => by simpa using (h y).mpr (List.mem_cons_self ..)
  | x :: a, [], _, _, h => by simpa using (h x).mp (List.mem_cons_self ..)
  | x :: a, y :: b, ha, hb, h => by
    obtain ⟨a1, a2⟩ := List.pairwise_cons.mp ha
    obtain ⟨b1, b2⟩ := List.pairwise_cons.mp hb
    have e : x = y := by
      rcases List.mem_cons.mp ((h x).mp (List.mem_cons_self ..)) with e | e
      · exact e
      · rcases List.mem_cons.mp ((h y).mpr (List.mem_cons_self ..)) with e2 | e2
        · exact e2.symm
        · have := b1 x e; have := a1 y e2; omega
    subst e
    refine congrArg (x :: ·) (rise_eq a2 b2 fun k => ⟨fun hk => ?_, fun hk => ?_⟩)
    · rcases List.mem_cons.mp ((h k).mp (List.mem_cons_of_mem _ hk)) with e | e
      · have := a1 k hk; omega
      · exact e
    · rcases List.mem_cons.mp ((h k).mpr (List.mem_cons_of_mem _ hk)) with e | e
      · have := b1 k hk; omega
      · exact e
def nI (n : Nat) : Int := (n : Int)
theorem tin_eq {L : List Nat} {f : Nat} {ns : List Int} (h1 : ns.Pairwise (· < ·)) (h2 : ∀ k : Int, k ∈ ns ↔ ∃ n : Nat, k = (n : Int) ∧ n ∈ L ∧ n < f) : ns = (tin L f).map nI := by
  refine rise_eq h1 ?_ fun k => ?_
  · refine List.pairwise_map.mpr ((List.pairwise_lt_range.filter _).imp fun h => ?_)
    unfold nI
    omega
  · rw [h2, List.mem_map]
    constructor
    · rintro ⟨n, rfl, a, b⟩
      exact ⟨n, tin_mem.mpr ⟨a, b⟩, rfl⟩
    · rintro ⟨n, a, rfl⟩
      exact ⟨n, rfl, (tin_mem.mp a).1, (tin_mem.mp a).2⟩
/-! ### how deep the rows are, as data -/
theorem dhgts_append : ∀ (a b : List Da), dhgts (a ++ b) = max (dhgts a) (dhgts b)
  | [], b => by simp [dhgts]
  | x :: a, b => by
    have := dhgts_append a b
    simp only [List.cons_append, dhgts]
    omega
theorem dhgts_n : ∀ (l : List Nat), dhgts (l.map nDa) ≤ 1
  | [] => Nat.zero_le _
  | x :: l => by
    have := dhgts_n l
    simp only [List.map_cons, dhgts, nDa, Da.hgt]
    omega
theorem dhgts_o : ∀ (o : Option Nat), dhgts (oDa o) ≤ 1
  | none => Nat.zero_le _
  | some d => by simp [oDa, nDa, dhgts, Da.hgt]
mutual
theorem Lay.dh : ∀ {nd : Nd} {ε : Env1} {r : Nat} {rs : List Row} {t r' : Nat}, Lay nd ε r rs t r' → dhgts (rowsDa rs) ≤ 2 * nd.hgt + 1
  | _, _, _, _, _, _, .num => by simp [rowsDa, Row.da, dhgts, Da.hgt, nDa, Nd.hgt, nhgts]
  | _, _, _, _, _, _, .name _ => Nat.zero_le _
  | _, _, _, _, _, _, .elet la lb => by
    have h1 := la.dh
    have h2 := lb.dh
    rw [rowsDa_append, dhgts_append]
    simp only [Nd.hgt, nhgts]
    omega
  | _, _, _, _, _, _, .ite (r1 := r1) (ra := ra) (rb := rb) (ta := ta) (tb := tb) lc la lb => by
    have h0 := lc.dh
    have h1 := la.dh
    have h2 := lb.dh
    have h3 := dhgts_n (tin (seen1 ra ta ++ seen1 rb tb) r1)
    rw [rowsDa_append, dhgts_append]
    simp only [Nd.hgt, nhgts, rowsDa, Row.da, dhgts, Da.hgt, nDa] at *
    omega
  | _, _, _, _, _, _, .ea (r1 := r1) (rb := rb) (tb := tb) _ la lb => by
    have h1 := la.dh
    have h2 := lb.dh
    have h3 := dhgts_n (tin (seen1 rb tb) r1)
    rw [rowsDa_append, dhgts_append]
    simp only [Nd.hgt, nhgts, rowsDa, Row.da, dhgts, Da.hgt, nDa] at *
    omega
  | _, _, _, _, _, _, .call (ts := ts) l => by
    have h := l.dh
    have h3 := dhgts_n ts
    rw [rowsDa_append, dhgts_append]
    simp only [Nd.hgt, rowsDa, Row.da, dhgts, Da.hgt, nDa] at *
    omega
  | _, _, _, _, _, _, .bare (w := w) (ps := ps) (ts := ts) _ _ l => by
    have h := l.dh
    have h3 := dhgts_n ts
    have h4 := dhgts_o (if w.wd = true then headD ps else none)
    rw [rowsDa_append, dhgts_append]
    simp only [Nd.hgt, rowsDa, Row.da, dhgts, Da.hgt, dhgts_append, nDa] at *
    omega
theorem Lays.dh : ∀ {nds : List Nd} {ε : Env1} {r : Nat} {rs : List Row} {ts : List Nat} {r' : Nat}, Lays nds ε r rs ts r' → dhgts (rowsDa rs) ≤ 2 * nhgts nds + 1
  | _, _, _, _, _, _, .nil => Nat.zero_le _
  | _, _, _, _, _, _, .cons la l => by
    have h1 := la.dh
    have h2 := l.dh
    rw [rowsDa_append, dhgts_append]
    simp only [nhgts]
    omega
end
end NR
set_option maxHeartbeats 4000000
namespace NR
open PySem PySem.Spec PyProof.Rows L2
/-- an empty set, as set() lays it -/
abbrev set00 (w : World) : Obj := { cls := .type "set", dict := none, data := .set #[] 0 (.fresh 0 0 (!w.params.followText "set-order")) }
section
variable {P : Program} {w : World} {A : Around} {E : Value → Shared → Prop} {s : Shared}
theorem call_set_lst {l : Addr} {items : Array Value} (ns : List Int) {Q : Value → Shared → Prop} (hh : A.handled = none) (hl : s.heap.IsList l items) (hit : IntsAre items.toList ns) (hb : ns.length + 1 < scanBound)
    (want : ∀ (h' : Heap) (tk c : Nat), SetR w h' s.heap.objs.size (fun j => decide (j ∈ ns)) c → c ≤ ns.length → (∀ b o, s.heap.get? b = some o → h'.get? b = some o) → Q (.ref s.heap.objs.size) { s with heap := h', toks := tk }) :
    wpAny (model P w) A (call (.type "set") [.ref l]) Q E s := by
  have hisz : items.size = ns.length := by have q := IntsAre.length hit; rwa [Array.length_toList] at q
  obtain ⟨c, tl, hmro⟩ := F.called_set.mro
  have hmade := F.called_set.made; have hsub := F.called_set.sub
  refine wpAny_call (codeAny_of_tree (show wpAny _ _ (callAny (.type "set") _) _ _ _ from wpAny_pure ⟨Code.quiet_builtin _ (by decide +kernel), codeAny_builtin F.entry_type_call ?_⟩))
  rw [Around.under_plain (weight_type_call_type "set" [.ref l] []) rfl]
  have h1 := F.called_set.notType; have h2 := F.called_set.canCreate; have hct := F.typeCall_set_1 (.ref l)
  repeat (any_goals (first | assumption | wp_step))
  refine codeAny_mono (code_set_led1 (.ref l) (E := E) (Q₁ := fun obj s₁ => obj = .ref s.heap.objs.size ∧ s₁ = { s with heap := s.heap.push (set00 w) }) ⟨rfl, rfl⟩) fun r s₁ hr => ?_
  cases r with
  | error e => exact hr
  | ok fl =>
    cases fl with
    | ret obj =>
      obtain ⟨rfl, rfl⟩ := hr
      have hS : (s.heap.push (set00 w)).get? s.heap.objs.size = some (set00 w) := Heap.get?_push_size _ rfl
      have hT : Shared.TypeIs { s with heap := s.heap.push (set00 w) } (.ref s.heap.objs.size) "set" := ⟨_, hS, rfl⟩
      have hli := F.called_set.init.lookup; have hbi := F.called_set.init.bind (.ref s.heap.objs.size)
      repeat (any_goals (first | assumption | wp_step))
      refine codeAny_mono (codeAny_call_builtin (R := wants (fun r s₂ => r = .none ∧ ∃ h' tk c, s₂ = { s with heap := h', toks := tk } ∧ SetR w h' s.heap.objs.size (fun j => decide (j ∈ ns)) c ∧ c ≤ ns.length ∧ (∀ b o, s.heap.get? b = some o → h'.get? b = some o)) E) F.called_set.init.plain F.entry_set_init (check_set_init_1 hT ?_)) fun r₂ s₂ hr₂ => ?_
      · obtain ⟨⟨ocls, odict, odata, oslots⟩, hol, hcl, nl, hdl⟩ := hl
        simp only at hcl hdl
        subst hcl hdl
        have hol' : (s.heap.push (set00 w)).get? l = some { cls := .type "list", dict := odict, data := .seq items nl, slots := oslots } := Heap.get?_push_of_some _ hol
        have hsls := F.sub_list_set; have hslf := F.sub_list_frozenset
        have hne : (Value.type "list" == Value.type "dict") = false := by decide
        have hl1 : (s.heap.push (set00 w)).IsList l items := ⟨_, hol', rfl, nl, rfl⟩
        unfold Builtin.«set.__init__» noKeywords Builtin.Frozenset.updateFrom
        generalize hPI : pyIter = PI
        wp_walk
        subst hPI
        refine wpAny_pyIter_list hl1 (wpAny_bind (wpAny_runValue ?_))
        have hlS : l < s.heap.objs.size := Heap.lt_size hol
        have hh3 : A.in1.in1.in1.handled = none := by simp [hh]
        have hz1 : (s.heap.push (set00 w)).objs.size = s.heap.objs.size + 1 := Heap.size_push ..
        have hneI : l ≠ (s.heap.push (set00 w)).objs.size := by rw [hz1]; exact Nat.ne_of_lt (Nat.lt_succ_of_lt hlS)
        have hSf : s.heap.objs.size ∉ [(s.heap.push (set00 w)).objs.size, l] := by
          rw [hz1]; intro z; rcases List.mem_cons.mp z with z | z
          · exact absurd z (Nat.ne_of_lt (Nat.lt_succ_self _))
          · rcases List.mem_cons.mp z with z | z
            · exact absurd z (Nat.ne_of_gt hlS)
            · cases z
        have hval : ∀ (i : Nat) (v : Value), items[i]? = some v → ∃ k t, ns[i]? = some k ∧ v = .int k t := fun i v hv => by
          have hi : i < ns.length := by rw [← hisz]; exact (Array.getElem?_eq_some_iff.mp hv).1
          obtain ⟨t, e⟩ := PyProof.Rows.IntsAre.int_at hit i v (by rw [Array.getElem?_toList]; exact hv)
          exact ⟨ns[i], t, List.getElem?_eq_getElem hi, by rw [e, List.getD_eq_getElem?_getD, List.getElem?_eq_getElem hi] <;> rfl⟩
        refine set_update_ints ((Walks.list hh3 _ l hneI items).toS) s.heap.objs.size hSf ns hisz hb hval (items.size - 0) 0 _ (by omega) (Nat.zero_le _) ⟨⟨_, Heap.get?_push_size _ rfl, rfl, rfl⟩, (hl1.push _)⟩ ⟨0, Nat.le_refl 0, setR_new_at (Heap.get?_push_of_some _ hS)⟩ ?hR
        intro s' c' hm hc' hS'
        obtain ⟨h', g2, d', tk', os'⟩ := s'
        have eg : g2 = s.gens := hm.gens
        have ed : d' = s.drawn := hm.drawn
        have eo : os' = s.os := hm.os
        subst eg ed eo
        rw [hisz] at hc'
        refine wpAny_pure (show wpAny _ _ (ret Value.none) _ _ _ from wpAny_pure ⟨rfl, h', tk', c', rfl, hS', hc', fun b o e => ?_⟩)
        have hb0 : b < s.heap.objs.size := Heap.lt_size e
        refine hm.heap b o (fun z => ?_) (Heap.get?_push_of_some _ (Heap.get?_push_of_some _ e))
        rcases List.mem_cons.mp z with z | z
        · exact absurd z (Nat.ne_of_lt hb0)
        · rcases List.mem_cons.mp z with z | z
          · exact absurd (z.trans hz1) (Nat.ne_of_lt (Nat.lt_succ_of_lt hb0))
          · cases z
      · cases r₂ with
        | error e => exact hr₂
        | ok fl₂ =>
          cases fl₂ with
          | ret r =>
            obtain ⟨rfl, h', tk, c', rfl, hS', hc', hk'⟩ := hr₂
            repeat (any_goals (first | assumption | wp_step))
            exact want _ _ _ hS' hc' hk'
          | _ => exact hr₂.elim
    | _ => exact hr.elim
end
section
variable {X : Cx} (K : PySem.W.Frag) (w : World)
/-- set(xs), xs a list of whole numbers -/
def rSetL (K : PySem.W.Frag) (w : World) : List V → Hp → VK → Prop := fun xs H Q => ∃ (l : Addr) (ns : List Int), xs = [.ref l] ∧ SqL K H l (ns.map V.int) ∧ ns.length ≤ 4000 ∧ ∀ (p : Addr) (c : Nat), H p = none → c ≤ ns.length → Q (.ref p) (upd H p (SetO w p (fun j => decide (j ∈ ns)) c))
theorem cr_setL (hc : X.calm = true) (h : X.K = K := by rfl) (hw : X.w = w := by rfl) : CallR X (.type "set") (rSetL K w) := by
  subst h hw
  rintro pins s σ H xs us Q I r ⟨l, ns, rfl, sq, hn, want⟩
  rw [Vals.ref1 r]
  obtain ⟨its, rv, pl, hz⟩ := I.list sq
  refine call_set_lst ns (I.ok.hd hc) pl.isList (ints_of_vals rv) (by unfold scanBound; omega) fun h' tk c R1 hcn k => ?_
  exact ⟨.ref _, upd H s.heap.objs.size (SetO X.w s.heap.objs.size (fun j => decide (j ∈ ns)) c), I.laid (t' := tk) k (Nat.le_refl _) (setO_new R1), rfl, want _ _ (I.hok.fresh (Nat.le_refl _)) hcn⟩
theorem cr_sortedSetK (hc : X.calm = true) (hw : X.w = w := by rfl) : CallR X (.builtin "sorted") (rSortedSet w) := hw ▸ cr_sortedSet hc
end
end NR
set_option maxHeartbeats 4000000
namespace NR
open PySem PySem.Spec PyProof.Rows L2
section
variable {prog : Program} {w : World} {K : Type} [DecidableEq K] {knd : KeyKind prog w K} {A : Around} {E : Value → Shared → Prop} {s : Shared}
theorem put_pairs {d : Addr} {kvs : List (K × Value)} {k : K} {key v : Value} {Q : Unit → Shared → Prop} (hkey : knd.is k key = true) (hm : s.heap.DictOf knd d kvs) (hsz : kvs.length ≤ sizeLine)
    (want : ∀ h', h'.DictOf knd d (stored kvs k v) → Heap.SameBut d s.heap h' → Q () { s with heap := h' }) : wpAny (model prog w) A (dictPut d (knd.hash k) key v) Q E s := by
  obtain ⟨o, es, ep, ho, hc, hd, hk, hp, hn⟩ := hm
  have hes : es.size ≤ sizeLine := by
    have e1 := hp.length
    rw [Array.length_toList] at e1
    omega
  unfold dictPut
  refine wpAny_bind (wpAny_dictFind_of hkey ho hd hk ?_)
  have hidx : (es.findIdx? fun e => knd.is k e.key) = kvs.findIdx? fun kv => decide (kv.1 = k) := by
    rw [← hp.findIdx k]; cases es; simp
  cases hi : es.findIdx? fun e => knd.is k e.key with
  | some i =>
    refine wpAny_updateDict ho hd (want _ ⟨_, _, ep, Heap.get?_update_self _ ho (Obj.isFreed_of_dict (Obj.data_mapDict hd _)), hc.mapDict _, Obj.data_mapDict hd _, hk.modify _ _, ?_, ?_⟩ (Heap.SameBut.update ..))
    · have hl : (es.toList.findIdx? fun e => knd.is k e.key) = some i := by rw [← hi]; cases es; simp
      have q := hp.modify hn hl v
      rw [stored, if_pos (any_of_findIdx_some (hidx ▸ hi))]
      cases es; simpa using q
    · rw [stored, if_pos (any_of_findIdx_some (hidx ▸ hi)), keys_map_store]; exact hn
  | none =>
    have hnot : k ∉ kvs.map (·.1) := not_mem_of_findIdx_none (hidx ▸ hi)
    have hany : ¬ (kvs.any fun kv => decide (kv.1 = k)) = true := fun z => by
      obtain ⟨kv, h1, h2⟩ := List.any_eq_true.mp z
      exact hnot (List.mem_map.mpr ⟨kv, h1, of_decide_eq_true h2⟩)
    refine wpAny_updateDictKeys (hz := hes) ho hd (want _ ⟨_, _, ep + 1, Heap.get?_update_self _ ho (Obj.isFreed_of_dict (Obj.data_mapDictKeys hd _)), hc.mapDictKeys _, Obj.data_mapDictKeys hd _, hk.push hkey _, ?_, ?_⟩ (Heap.SameBut.update ..))
    · have q := hp.append hkey (knd.hash k) v
      rw [stored, if_neg hany]
      cases es; simpa using q
    · rw [stored, if_neg hany, List.map_append]
      refine List.nodup_append.mpr ⟨hn, by simp, fun a ha b hb z => ?_⟩
      have e : b = k := by simpa using hb
      exact hnot (by rw [← e, ← z]; exact ha)
theorem merge_mapping {d o : Addr} {kvs more : List (K × Value)} {Q : Unit → Shared → Prop} (hdo : d ≠ o) (hoS : (o == sysModules) = false) (hnr : ∀ k a, knd.is k (.ref a) = false)
    (hd : s.heap.DictOf knd d kvs) (ho : s.heap.DictOf knd o more) (hsz : kvs.length + more.length ≤ sizeLine)
    (want : ∀ h', h'.DictOf knd d (merged kvs more) → Heap.SameBut d s.heap h' → Q () { s with heap := h' }) :
    wpAny (model prog w) A (mergeMapping d (.ref o) false) Q E s := by
  obtain ⟨od, esd, epd, hod, hcd, hdd, hkd, hpd, hnd⟩ := id hd
  obtain ⟨oo, eso, epo, hoo, hco, hdo', hko, hpo, hno⟩ := id ho
  have hlen : more.length = eso.size := by rw [← hpo.length, Array.length_toList]
  unfold mergeMapping
  refine wpAny_bind (wpAny_isInstance (b := true) ho.typeIs (by rw [isSubtype_type]; kernel_rfl) ?_)
  dsimp only
  rw [if_pos rfl]
  refine wpAny_bind (wpAny_specialOf ho.typeIs F.slot_dict_iter.lookup (wpAny_bind (wpAny_pure ?_)))
  have e1 : (some (Value.builtin "dict.__iter__") == some (Value.builtin "dict.__iter__")) = true := by decide
  rw [e1]
  dsimp only
  rw [if_neg (by rw [hoS]; exact Bool.false_ne_true)]
  have loop : wpAny (model prog w) A (do
      let l ← dictEntries o
      have size : Nat := l.size
      let epoch ← dictEpoch o
      forIn (List.range size) PUnit.unit fun i (_ : PUnit) => (do
        let l' ← dictEntries o
        match l'[i]? with
          | some e => do
            holding [e.key, e.val] (dictPut d e.hash e.key e.val)
            let ep' ← dictEpoch o
            if (ep' != epoch) = true then do
                (unsupported "dict.changed-during-merge" : Sem PUnit)
                pure (ForInStep.yield PUnit.unit)
              else pure (ForInStep.yield PUnit.unit)
          | _ => do
            (unsupported "dict.changed-during-merge" : Sem PUnit)
            pure (ForInStep.yield PUnit.unit) : Sem (ForInStep PUnit))
      pure ()) Q E s := by
    refine wpAny_bind (wpAny_dictEntries hoo hdo' (wpAny_bind (wpAny_dictEpoch hoo hdo' (wpAny_bind ?_))))
    rw [List.range_eq_range']
    refine wpAny_forIn_list _ (fun rest _ s' => ∃ h' i, s' = { s with heap := h' } ∧ rest = List.range' i (eso.size - i) ∧ i ≤ eso.size ∧ h'.DictOf knd d (merged kvs (more.take i)) ∧ h'.get? o = some oo ∧ Heap.SameBut d s.heap h') _ ?_ ?_ _ _ ⟨s.heap, 0, rfl, by simp, Nat.zero_le _, by simpa [merged] using hd, hoo, Heap.SameBut.refl _ _⟩
    · rintro x rest b s' ⟨h', i, rfl, hr, hi, hd', hoo', hs'⟩
      have hlt : i < eso.size := Nat.lt_of_not_le fun z => by rw [Nat.sub_eq_zero_of_le z] at hr; simp at hr
      obtain ⟨rfl, hrest⟩ : x = i ∧ rest = List.range' (i + 1) (eso.size - (i + 1)) := by
        rw [show eso.size - i = (eso.size - (i + 1)) + 1 by omega, List.range'_succ] at hr
        injection hr with h1 h2
        exact ⟨h1, h2⟩
      refine wpAny_bind (wpAny_dictEntries hoo' hdo' ?_)
      rw [Array.getElem?_eq_getElem hlt]
      obtain ⟨⟨k, v⟩, hkv⟩ : ∃ kv, more[x]? = some kv := ⟨more[x]'(by rw [hlen]; exact hlt), List.getElem?_eq_getElem _⟩
      obtain ⟨hkey, hval⟩ := hpo.get? (e := eso[x]) (by simp [hlt]) hkv
      obtain ⟨k', hkey', hhash⟩ := hko eso[x] (Array.getElem_mem hlt)
      obtain rfl : k' = k := knd.inj _ _ _ hkey' hkey
      dsimp only
      rw [hhash, hval]
      have hmx : (merged kvs (more.take x)).length ≤ sizeLine := by
        have q1 := merged_length_le kvs (more.take x)
        have q2 : (more.take x).length ≤ more.length := by rw [List.length_take]; omega
        omega
      refine wpAny_bind (wpAny_holding (put_pairs hkey hd' hmx fun h'' hd'' hs'' => ?_))
      have hoo'' : h''.get? o = some oo := (hs''.2 o (Ne.symm hdo)).trans hoo'
      refine wpAny_bind (wpAny_dictEpoch hoo'' hdo' ?_)
      rw [if_neg (by simp)]
      exact wpAny_pure ⟨h'', x + 1, rfl, hrest, hlt, by rw [merged_take_succ kvs more x (k', v) hkv]; exact hd'', hoo'', hs'.trans hs''⟩
    · rintro b s' ⟨h', i, rfl, hr, hi, hd', hoo', hs'⟩
      have hin : i = eso.size := Nat.le_antisymm hi (Nat.le_of_not_lt fun z => by
        rw [show eso.size - i = (eso.size - (i + 1)) + 1 by omega, List.range'_succ] at hr; exact nomatch hr)
      refine wpAny_pure (want h' ?_ hs')
      rw [hin, ← hlen, List.take_length] at hd'; exact hd'
  refine wpAny_bind (wpAny_dictEntries hod hdd ?_)
  split
  · refine wpAny_bind (wpAny_dictEntries hoo hdo' (wpAny_bind ?_))
    rw [← Array.forIn_toList]
    refine wpAny_forIn_list _ (fun rest _ s' => s' = s ∧ ∀ e ∈ rest, e ∈ eso) _ ?_ ?_ _ _ ⟨rfl, fun e he => by simpa using he⟩
    · rintro x rest b s' ⟨rfl, hin⟩
      obtain ⟨k, hk1, _⟩ := hko x (hin x (List.mem_cons_self ..))
      have hne : ∀ a, x.key ≠ .ref a := fun a z => by rw [z, hnr] at hk1; cases hk1
      split
      · rename_i a ea
        exact absurd ea (hne a)
      · exact wpAny_pure ⟨rfl, fun e he => hin e (List.mem_cons_of_mem _ he)⟩
    · rintro b s' ⟨rfl, _⟩
      exact loop
  · exact loop
end
theorem mix_noref {P : Program} {w : World} (k : Key) (a : Addr) : (mixKind P w).is k (.ref a) = false := by
  cases h : (mixKind P w).is k (.ref a) with
  | false => rfl
  | true => rcases keyIs_shape h with ⟨i, t, _, e⟩ | ⟨x, t, _, e⟩ <;> cases e
theorem merged_nil {κ : Type} [DecidableEq κ] (l : List (κ × Value)) (hn : (l.map (·.1)).Nodup) : merged [] l = l := merged_nil_of_nodup l hn
/-- {**d, k: v}: the new dict holds what stands in d, then k -/
def tDStar (td tk tv : TE) : TE := fun σ H Q => ∀ p, H p = none → td σ (upd H p (.dK [])) fun x H1 => ∃ (a : Addr) (kvs : List (Key × V)), x = .ref a ∧ a ≠ p ∧ H1 a = some (.dK kvs) ∧ H1 p = some (.dK []) ∧ kvs.length ≤ 1000 ∧
  ∀ q, upd H1 p (.dK kvs) q = none → tk σ (upd (upd H1 p (.dK kvs)) q (.dK [])) fun y H2 => tv σ H2 fun z H3 => H3 p = some (.dK kvs) ∧ H3 q = some (.dK []) ∧ p ≠ q ∧ ∃ k : Key, y = kV k ∧ Q (.ref p) (upd (upd H3 q (.dK [(k, z)])) p (.dK (putK kvs k z)))
theorem pe_dstar {X : Cx} {ed ek ev : Expr} {td tk tv : TE} {pos : Pos} (hd : PE X ed td) (hk : PE X ek tk) (hv : PE X ev tv) : PE X (.Dict [none, some ek] [ed, ev] pos) (tDStar td tk tv) := by
  refine ⟨fun pins s σ H Q I want => ?_⟩
  rw [arm_eval_Dict]
  refine wpAny_bind (wpAny_standAt ?_)
  show wpAny _ _ (dictDisplay [(none, (do let x ← eval ed X.env; standAt pos; pure x)), (some (eval ek X.env), (do let x ← eval ev X.env; standAt pos; pure x))]) _ _ s
  unfold dictDisplay
  dsimp only
  refine wpAny_bind ?_
  rw [List.forIn_cons]
  dsimp only
  refine wpAny_bind (wpAny_bind ?_)
  rw [if_pos (show ([] : List (Sem Value × Sem Value)).isEmpty = true from rfl)]
  refine wpAny_pure (wpAny_bind (wpAny_alloc (wpAny_bind (wpAny_holding (wpAny_bind ?_)))))
  have I1 := I.laid (a := s.heap.objs.size) (o := .dK []) (h' := s.heap.push { cls := .type "dict", data := .dict #[] }) (t' := s.toks) (fun _ _ q => Heap.get?_push_of_some _ q) (Nat.le_refl _) (dk_empty s.heap I.big)
  refine thn (hd.run pins _ σ _ _ I1 (want _ (I.hok.fresh (Nat.le_refl _)))) ?_
  rintro u s1 ⟨x, H1, J1, r1, a, kvs, rfl, hne, ha, hp, hlen, w1⟩
  cases r1
  refine wpAny_bind (wpAny_standAt (wpAny_pure ?_))
  generalize s.heap.objs.size = p at hne hp w1
  obtain ⟨z0, hd0, vs0, rel0, dd0⟩ := dk_of J1.hok hp
  obtain ⟨za, hda, vsa, rela, dda⟩ := dk_of J1.hok ha
  cases rel0
  have la := rela.length
  have nda : (vsa.map (·.1)).Nodup := by obtain ⟨_, _, _, _, _, _, _, _, n⟩ := dda; exact n
  have big : (1000 : Nat) + 1000 ≤ sizeLine := by decide
  refine wpAny_bind (wpAny_onRaise (wpAny_tryCatch (wpAny_onRaise (wpAny_holding (merge_mapping (Ne.symm hne) hda mix_noref dd0 dda (by simp only [List.length_nil]; omega) fun h1 m1 sb1 => ?_)))))
  rw [merged_nil _ nda] at m1
  have J2 : Inv X pins σ (upd H1 p (.dK kvs)) { s1 with heap := h1 } := d_write (t' := s1.toks) J1 (by rw [hp]; exact True.intro) sb1 (let ⟨q, _, _, hq, _⟩ := m1; ⟨q, hq⟩) (dk_new za hd0 rela m1)
  refine wpAny_pure ?_
  dsimp only
  rw [List.forIn_cons]
  dsimp only
  refine wpAny_bind ?_
  rw [if_neg (by simp)]
  refine wpAny_pure ?_
  dsimp only
  rw [List.forIn_nil]
  refine wpAny_pure ?_
  dsimp only
  refine wpAny_bind ?_
  rw [if_neg (by simp)]
  refine wpAny_bind (wpAny_holding (wpAny_subDict (knd := mixKind X.prog X.w) (by simp) ?_))
  have I3 := J2.laid (a := h1.objs.size) (o := .dK []) (h' := h1.push { cls := .type "dict", data := .dict #[] }) (t' := s1.toks) (fun _ _ q => Heap.get?_push_of_some _ q) (Nat.le_refl _) (dk_empty h1 J2.big)
  have w2 := w1 _ (J2.hok.fresh (Nat.le_refl _))
  refine evalPairs_cons ?_
  refine thn (hk.run pins _ σ _ _ I3 w2) ?_
  rintro yk s2 ⟨y, H2, J3, r2, w3⟩
  refine wpAny_bind (thn (hv.run pins _ σ _ _ J3 w3) ?_)
  rintro zk s3 ⟨z, H3, J4, r3, hp3, hq3, npq, k, rfl, w4⟩
  refine wpAny_bind (wpAny_standAt (wpAny_pure (evalPairs_nil ?_)))
  obtain ⟨zq, hdq, vsq, relq, ddq⟩ := dk_of J4.hok hq3
  cases relq
  refine ⟨[(k, zk)], ⟨kV_is r2, rfl, trivial⟩, ddq, fun h2 m2 sb2 => ?_⟩
  have e1 : merged [] [(k, zk)] = [(k, zk)] := rfl
  rw [e1] at m2
  have J5 : Inv X pins σ (upd H3 h1.objs.size (.dK [(k, z)])) { s3 with heap := h2, toks := s3.toks + 1 } := d_write (t' := s3.toks + 1) J4 (by rw [hq3]; exact True.intro) sb2 (let ⟨q, _, _, hq, _⟩ := m2; ⟨q, hq⟩) (dk_new (by show 1 ≤ sizeLine; decide) hdq (.cons ⟨rfl, r3⟩ .nil) m2)
  have hp5 : upd H3 h1.objs.size (.dK [(k, z)]) p = some (.dK kvs) := (upd_ne npq).trans hp3
  obtain ⟨zp, hdp, vsp, relp, ddp⟩ := dk_of J5.hok hp5
  have lp := relp.length
  refine wpAny_bind (wpAny_onRaise (wpAny_holding (merge_mapping (s := { s3 with heap := h2, toks := s3.toks + 1 }) npq hdq mix_noref ddp m2 (by simp only [List.length_cons, List.length_nil]; omega) fun h3 m3 sb3 => ?_)))
  refine wpAny_pure (wpAny_pure ?_)
  have zl : (putK kvs k z).length ≤ sizeLine := by
    have q := length_mergeK [(k, z)] kvs
    have q2 : mergeK kvs [(k, z)] = putK kvs k z := rfl
    rw [q2] at q
    simp only [List.length_cons, List.length_nil] at q
    omega
  exact ⟨.ref p, _, d_write (t' := s3.toks + 1) J5 (by rw [hp5]; exact True.intro) sb3 (let ⟨q, _, _, hq, _⟩ := m3; ⟨q, hq⟩) (dk_new zl hdp (show KV (putK kvs k z) (merged vsp [(k, zk)]) from KV.merge (more := [(k, z)]) (rs := [(k, zk)]) (.cons ⟨rfl, r3⟩ .nil) relp) m3), rfl, w4⟩
end NR
set_option maxHeartbeats 4000000
namespace NR
open PySem PySem.Spec PyProof.Rows L2
open AutoSeq1 (wpAny_loadPart')
/-! ### enumerate(tuple) -/
theorem meets_enum_tup (l : Addr) (items : Array Value) (n : Nat) (dct : Option Addr) (sl : Array (Option Value)) :
    Meets (Builtin.«enumerate.__new__» ⟨[.type "enumerate", .ref l], []⟩) (fun _ R s => s.heap.get? l = some { cls := .type "tuple", dict := dct, data := .seq items n, slots := sl } ∧
      R (.ok (.ret (.ref (s.heap.push { cls := .type "tuple_iterator", data := .fields #[.ref l, .int 0 0] }).objs.size)))
        { s with heap := (s.heap.push { cls := .type "tuple_iterator", data := .fields #[.ref l, .int 0 0] }).push { cls := .type "enumerate", data := .fields #[.none, .bool false, .ref s.heap.objs.size, rawInt 0, .none, .none] } }) :=
  .of_wp fun prog w A R s h => by
    obtain ⟨hp, g, d, tk, os⟩ := s; obtain ⟨hl, h⟩ := h
    have hsub := sub_enumerate
    have hL : Heap.IsTuple (Shared.heap ⟨hp, g, d, tk, os⟩) l items := ⟨_, hl, rfl, n, rfl⟩
    wp_walk using wpAny_loadPart' hl
    refine wpAny_stack_any fun st => wpAny_pure ?_
    split
    · rename_i c _ _ _ _ _
      cases (c == Value.type "enumerate") <;> (wp_walk using wpAny_loadPart' hl, wpAny_pyIter_tuple hL; exact ⟨_, rfl, h⟩)
    · wp_walk using wpAny_loadPart' hl, wpAny_pyIter_tuple hL; exact ⟨_, rfl, h⟩
section
variable {prog : Program} {w : World} {A : Around} {E : Value → Shared → Prop} {s : Shared}
theorem call_enum_tup {l : Addr} {items : Array Value} {Q : Value → Shared → Prop} (hL : s.heap.IsTuple l items)
    (want : ∀ h', IsEnum h' (s.heap.objs.size + 1) s.heap.objs.size 0 .none → h'.IsTupleIter s.heap.objs.size l 0 → (∀ b o, s.heap.get? b = some o → h'.get? b = some o) → Q (.ref (s.heap.objs.size + 1)) { s with heap := h' }) :
    wpAny (model prog w) A (call (.type "enumerate") [.ref l]) Q E s := by
  obtain ⟨⟨c, dct, dt, sl⟩, hl, hc, n, hd⟩ := hL
  cases (show c = .type "tuple" from hc)
  cases (show dt = .seq items n from hd)
  refine callType_new F.called_enumerate (by decide) (F.typeCall_enumerate_1 _) (F.newCall_enumerate_1 _) (fun obj => F.args_object_init_2 obj _) F.entry_enumerate_new (meets_enum_tup l items n dct sl) ⟨hl, ?_⟩
  have hz : (s.heap.push { cls := .type "tuple_iterator", data := .fields #[.ref l, .int 0 0] }).objs.size = s.heap.objs.size + 1 := Heap.size_push ..
  show _ ∧ _
  rw [hz]
  have he : IsEnum ((s.heap.push { cls := .type "tuple_iterator", data := .fields #[.ref l, .int 0 0] }).push { cls := .type "enumerate", data := .fields #[.none, .bool false, .ref s.heap.objs.size, rawInt 0, .none, .none] }) (s.heap.objs.size + 1) s.heap.objs.size 0 .none := by
    have q := Heap.get?_push_size (s.heap.push { cls := .type "tuple_iterator", data := .fields #[.ref l, .int 0 0] }) (o := { cls := .type "enumerate", data := .fields #[.none, .bool false, .ref s.heap.objs.size, rawInt 0, .none, .none] }) rfl
    rw [hz] at q; exact q
  exact ⟨⟨_, he, rfl⟩, want _ he ⟨_, Heap.get?_push_of_some _ (Heap.get?_push_size _ rfl), rfl, rfl⟩ fun b o x => Heap.get?_push_of_some _ (Heap.get?_push_of_some _ x)⟩
end
/-- the tuple at a, each item in a new pair -/
def IteT (K : PySem.W.Frag) (a : Addr) : It :=
  ⟨fun i H => ∃ (xs : List V) (x : V), SqT K H a xs ∧ xs[i]? = some x, fun i H v H' => ∃ T x, v = .ref T ∧ H T = none ∧ H' = upd H T (.tup [.int (i : Nat), x]) ∧ ∀ xs, SqT K H a xs → xs[i]? = some x, fun i H => ∃ xs : List V, SqT K H a xs ∧ xs.length = i⟩
theorem turn_enumT {P : Program} {w : World} {K : PySem.W.Frag} {elts : List Expr} {kk : Nat} {tpos : Pos} (a e it : Addr) :
    Turn P w K (.Tuple elts kk tpos) (IteT K a) [e, it] e (fun i h => (∃ old, IsEnum h e it ((i : Nat) : Int) old) ∧ h.IsTupleIter it a i ∧ e ≠ it ∧ a ≠ it ∧ a ≠ e) where
  mem := by simp
  obj := fun i h st b hb => by
    obtain ⟨⟨old, he⟩, ⟨o, ho, hc, hd⟩, _⟩ := st
    rcases (by simpa using hb : b = e ∨ b = it) with z | z
    · rw [z]; exact ⟨_, he, fun v q => nomatch q⟩
    · rw [z]; exact ⟨o, ho, fun v q => by rw [hd] at q; cases q⟩
  keep := fun i h h' st k => let ⟨⟨old, he⟩, hi, hne⟩ := st; ⟨⟨old, k e (by simp) _ he⟩, hi.at fun o q => k it (by simp) o q, hne⟩
  item := by
    intro X hP hw hK hc i pins s σ H E I hf st hg
    subst hP hw hK
    obtain ⟨⟨old, he⟩, hit, hne, hai, hae⟩ := st
    obtain ⟨xs, x, hq, hx⟩ := hg
    obtain ⟨its, rv, p, hz⟩ := I.tuple hq
    obtain ⟨u, hu, ru⟩ := rv.get hx
    have hel : e < s.heap.objs.size := Heap.lt_size he
    have hil : it < s.heap.objs.size := by obtain ⟨_, q, _⟩ := hit; exact Heap.lt_size q
    have hd := I.ok.hd hc
    have hu' : its.toArray[i]? = some u := by simpa using hu
    have hlt : i < its.toArray.size := (Array.getElem?_eq_some_iff.mp hu').1
    refine wpAny_pyNext_enum_itemD (Draws.tuple (by rw [← hd]) it a hai its.toArray) he ⟨hit, p⟩ hlt hne (by simp; exact ⟨hne, fun z => hae z.symm⟩) fun x' h' tk hx' ho hst' hT hsz hk => ?_
    have ex : x' = u := Option.some.inj (hx'.symm.trans hu')
    subst ex
    refine ⟨_, rfl, wpAny_letOwnedTupleGo_enum (s := { s with heap := h', toks := tk + 1 }) ho fun h'' he' sb => ?_⟩
    have hT2 : h''.get? s.heap.objs.size = some { cls := .type "tuple", data := .seq #[.int i tk, x'] } := (sb.2 _ (Nat.ne_of_gt hel)).trans hT
    have new : ObjOk X.prog X.w (upd H s.heap.objs.size (.tup [.int (i : Nat), x])) h'' s.heap.objs.size (.tup [.int (i : Nat), x]) :=
      ⟨by show 2 ≤ sizeLine; decide, [.int i tk, x'], .cons ⟨_, rfl⟩ (.cons ru .nil), ⟨_, hT2, rfl, _, rfl⟩⟩
    have I1 : Inv X pins σ (upd H s.heap.objs.size (.tup [.int (i : Nat), x])) { s with heap := h'', toks := tk + 1 } :=
      I.turnedNew (ch := [e, it]) (fun b ob hb q => (sb.2 b (fun z => hb (by simp [z]))).trans (hk b ob (fun z => hb (by simp [z])) (fun z => hb (by simp [z])) q)) hf (Nat.le_refl _) new
    refine ⟨.ref s.heap.objs.size, _, I1, rfl, ⟨_, x, rfl, I.hok.fresh (Nat.le_refl _), rfl, fun ys hy => by rw [I.tuple_inj hy hq]; exact hx⟩, ⟨⟨x', ?_⟩, hst'.1.at fun o q => (sb.2 it (Ne.symm hne)).trans q, hne, hai, hae⟩, fun b hb => ?_⟩
    · rw [show ((i + 1 : Nat) : Int) = (i : Int) + 1 by omega]; exact he'
    · have hb' : b < s.heap.objs.size := by
        rcases (by simpa using hb : b = e ∨ b = it) with z | z
        · rw [z]; exact hel
        · rw [z]; exact hil
      rw [upd_ne (Nat.ne_of_lt hb')]
      exact (hf b hb).1
  done := by
    intro X hP hw hK hc i pins s σ H E I hf st hg
    subst hP hw hK
    obtain ⟨⟨old, he⟩, hit, hne, hai, hae⟩ := st
    obtain ⟨xs, hq, hx⟩ := hg
    obtain ⟨its, rv, p, hz⟩ := I.tuple hq
    obtain ⟨f0, f1, f2, f3, f4, f5⟩ := hf it (by simp)
    have hl := rv.length
    subst hx
    have e : xs.length = its.toArray.size := by rw [List.size_toArray]; omega
    have hd := I.ok.hd hc
    refine wpAny_pyNext_enum_endD (Draws.tuple (by rw [← hd]) it a hai its.toArray) he ⟨by rw [← e]; exact hit, p⟩ fun h' eb => ⟨rfl, I.turned (t' := s.toks) (fun b o hb q => eb b o hb q) f0 f1 f3 f4 f5⟩
  self := fun A i s Q E st h => let ⟨⟨_, he⟩, _⟩ := st; wpAny_pyIter_enum he h
def iEnumT (K : PySem.W.Frag) (ta : TA) : TI := fun σ H R => ta σ H fun vs H1 => ∃ a xs, vs = [.ref a] ∧ SqT K H1 a xs ∧ R (IteT K a) H1
theorem pi_enumT {X : Cx} {e : Expr} {ta : TA} {p pos tpos : Pos} {elts : List Expr} {kk : Nat} (hg : Gl X "enumerate") (hm : X.mg "enumerate" = none) (ha : PA X [e] ta) (hs : starEach [e] X.env = [(false, eval e X.env)] := by rfl) :
    PI X (.Tuple elts kk tpos) (.Call (.Name "enumerate" p) [e] [] pos) (iEnumT X.K ta) := by
  refine ⟨fun pins s σ H R I h => ?_⟩
  refine Call_ (ld_blt I hg hm boot_enumerate (PyProof.Rows.callWith_type1 (thn (ha.run pos pins s σ H _ I h) fun us s1 ⟨vs, H1, I1, r1, a, xs, ex, hq, q⟩ => ?_) hs rfl))
  subst ex
  rw [Vals.ref1 r1]
  obtain ⟨its, rv, pt, hz⟩ := I1.tuple hq
  have hlt : a < s1.heap.objs.size := by obtain ⟨o, ho, _⟩ := pt; exact Heap.lt_size ho
  refine call_enum_tup pt fun h' he hit hk => wpAny_pyIter_enum he ?_
  have I2 : Inv X pins σ H1 { s1 with heap := h' } := I1.kept (t' := s1.toks) hk
  refine ⟨s1.heap.objs.size + 1, [s1.heap.objs.size + 1, s1.heap.objs.size], _, _, H1, rfl, I2, turn_enumT a (s1.heap.objs.size + 1) s1.heap.objs.size, ⟨⟨.none, he⟩, hit, Nat.succ_ne_self _, Nat.ne_of_lt hlt, Nat.ne_of_lt (Nat.lt_succ_of_lt hlt)⟩, fun b hb => ?_, q⟩
  have hle : s1.heap.objs.size ≤ b := by
    rcases (by simpa using hb : b = s1.heap.objs.size + 1 ∨ b = s1.heap.objs.size) with z | z
    · rw [z]; exact Nat.le_add_right _ _
    · rw [z]; exact Nat.le_refl _
  exact I1.fpOk hle (I1.hok.fresh hle)
theorem walk_enumT {K : PySem.W.Frag} {a : Addr} {xs : List V} : Walk (IteT K a) xs.length (fun H => SqT K H a xs) (YPair (fun i => some (.int (i : Nat))) (fun i => xs[i]?)) := by
  refine ⟨fun i _ hi q => ⟨xs, xs[i], q, by simp [hi]⟩, fun _ q => ⟨xs, q, rfl⟩, fun i H v H' _ q y => ?_⟩
  obtain ⟨T, x, h1, h2, h3, h4⟩ := y
  exact ⟨T, .int (i : Nat), x, h1, h2, h3, rfl, h4 xs q⟩
section
variable {X : Cx} (K : PySem.W.Frag)
theorem pi_enumTK {e : Expr} {ta : TA} {p pos tpos : Pos} {elts : List Expr} {kk : Nat} (hg : Gl X "enumerate") (hm : X.mg "enumerate" = none) (ha : PA X [e] ta) (hs : starEach [e] X.env = [(false, eval e X.env)] := by rfl) (h : X.K = K := by rfl) :
    PI X (.Tuple elts kk tpos) (.Call (.Name "enumerate" p) [e] [] pos) (iEnumT K ta) := h ▸ pi_enumT hg hm ha hs
end
/-! ### list.extend(tuple) -/
theorem meets_extend_tup (l : Addr) (items : Array Value) (n : Nat) (b : Addr) (items2 : Array Value) (n2 : Nat) (dct : Option Addr) (sl : Array (Option Value)) (h0 : ¬(!items.isEmpty && Builtin.List.listTooLong (items.size + items2.size)) = true) (h1 : items.size ≤ sizeLine) (h2 : items.size + items2.size ≤ sizeLine + 1) :
    Meets (Builtin.«list.extend» ⟨[.ref l, .ref b], []⟩) (fun _ R s => s.heap.get? l = some { cls := .type "list", dict := none, data := .seq items n, slots := #[] } ∧ s.heap.get? b = some { cls := .type "tuple", dict := dct, data := .seq items2 n2, slots := sl } ∧ R (.ok (.ret Value.none)) { s with heap := s.heap.update l (Obj.mapSeq fun x => x ++ items2), toks := s.toks }) :=
  .of_wp fun prog w A R s h => by
    obtain ⟨hp, g, d, tk, os⟩ := s; obtain ⟨hl, hb, h⟩ := h
    have f1 := AutoSeq1.idx_int; have f2 := AutoSeq1.sub_tuple_tuple; have f3 := AutoSeq1.sub_list_list; have f4 := AutoSeq1.sub_tuple_list; have f5 := AutoSeq1.sub_list_tuple
    have hz' : (items ++ items2).size ≤ sizeLine + 1 := by rw [Array.size_append]; exact h2
    wp_walk using (wpAny_updateSeq hl rfl (hz := h1) (_hz' := hz')), wpAny_loadPart' hl, wpAny_loadPart' hb; exact ⟨_, rfl, h⟩
def rExtT (K : PySem.W.Frag) : V → List V → Hp → VK → Prop := fun x vs H Q => ∃ l b xs zs, x = .ref l ∧ vs = [.ref b] ∧ H l = some (.lst xs) ∧ SqT K H b zs ∧ xs.length + zs.length ≤ 100000 ∧ Q .non (upd H l (.lst (xs ++ zs)))
theorem mt_extT {X : Cx} (K : PySem.W.Frag) (h : X.K = K := by rfl) : MtM X "list.extend" (rExtT K) := by
  subst h
  rintro pins s σ H x vs v us Q I rx rv ⟨l, b, xs, zs, rfl, rfl, hH, hB, hz, q⟩
  cases rx
  rw [Vals.ref1 rv]
  obtain ⟨z, its, n, r, hl, e⟩ := I.lstM hH
  obtain ⟨its2, r2, ⟨⟨c2, d2, t2, sl2⟩, e2, ec, n2, ed⟩, hl2⟩ := I.tuple hB
  cases (show c2 = .type "tuple" from ec)
  cases (show t2 = .seq its2.toArray n2 from ed)
  have l1 := r.length
  have l2 := r2.length
  have big : 100000 ≤ sizeLine := by decide
  have hsz : its.toArray.size + its2.toArray.size ≤ sizeLine := by rw [List.size_toArray, List.size_toArray]; omega
  refine call_meets F.slot_list_extend ⟨_, e, rfl⟩ F.entry_list_extend (F.args_list_extend_2 _ _) (meets_extend_tup l its.toArray n b its2.toArray n2 d2 sl2 (extend_door hsz) (by rw [List.size_toArray] at *; omega) (by omega)) ⟨e, e2, ?_⟩
  refine ⟨.non, _, I.lset (its' := its ++ its2) hH e (by simp) (r.append r2) ?_, rfl, q⟩
  rw [List.length_append]
  omega
end NR
set_option maxHeartbeats 4000000
namespace NR
open PySem PySem.Spec PyProof.Rows L2
abbrev FnM (K : PySem.W.Frag) (x qual : Str) (st : Stmt) (f : Addr) (fd : FuncData) : Prop := FunD K x qual (defArgs st) (defBody st) (defScope st) [] [] f fd
/-- a method of the class at C keeps its promise -/
structure Okm (P : Program) (w : World) (K : PySem.W.Frag) (mg : Str → Option Value) (base : Heap) (CX : CXT) (k : Nat) (C : Addr) (m : Str) (ps : List Str) (sp : Sp) : Prop where
  ex : ∃ f fd, FnOk P w K mg base CX k f fd ps sp ∧ Meth K C m f ∧ Binds K fd ps [] ∧ Cls K C
theorem Okm.mono {P w K mg base CX j k C m ps sp} (O : Okm P w K mg base CX j C m ps sp) (h : j ≤ k) : Okm P w K mg base CX k C m ps sp := by
  obtain ⟨f, fd, F, r⟩ := O.ex
  exact ⟨f, fd, F.mono h, r⟩
/-- a class by its name: its making keeps the promise of __init__ -/
structure Okc (P : Program) (w : World) (K : PySem.W.Frag) (mg : Str → Option Value) (base : Heap) (CX : CXT) (k : Nat) (x : Str) (C : Addr) (ps : List Str) (sp : Sp) : Prop where
  ex : ∃ f fd, FnOk P w K mg base CX k f fd ps sp ∧ Mk K C f ∧ Binds K fd ps [] ∧ mg x = some (.ref C)
theorem Okc.mono {P w K mg base CX j k x C ps sp} (O : Okc P w K mg base CX j x C ps sp) (h : j ≤ k) : Okc P w K mg base CX k x C ps sp := by
  obtain ⟨f, fd, F, r⟩ := O.ex
  exact ⟨f, fd, F.mono h, r⟩
section
variable {X : Cx} {CX : CXT} {k : Nat} {x m : Str} {C : Addr} {ps : List Str} {sp : Sp} {E : XK} {o e : Expr} {es : List Expr} {t : TA} {ta : TE} {p pos apos : Pos}
theorem pe_m {pl : Sem Bool} (O : Okm X.prog X.w X.K X.mg X.base CX k C m ps sp) (he : PE X o ta) (hr : Room k X.A) (hx : Passes CX X E) (ha : PA X (e :: es) t)
    (hst : starEach (e :: es) X.env = (false, eval e X.env) :: starEach es X.env := by rfl) (hpl : (backTo pos (starEach es X.env)).any (·.1) = false := by rfl)
    (ht : eval (.Call (.Attribute o m apos) (e :: es) [] pos) X.env = (do let ov ← eval o X.env; standAt apos.atName; let (f, first) ← holding [ov] (getMethod ov m pl); callWith pos f first (backTo pos (starEach (e :: es) X.env)) (backToKw pos (keywordEach [] X.env))) := by rfl) :
    PE X (.Call (.Attribute o m apos) (e :: es) [] pos) (tMeth C m sp [] E ta t) := by
  obtain ⟨f, fd, F, hm, hb, c⟩ := O.ex
  exact pe_meth he c hm F hr hb .nil hx ha hst hpl ht
theorem pe_m0 {pl : Sem Bool} (O : Okm X.prog X.w X.K X.mg X.base CX k C m ps sp) (he : PE X o ta) (hr : Room k X.A) (hx : Passes CX X E)
    (ht : eval (.Call (.Attribute o m apos) [] [] pos) X.env = (do let ov ← eval o X.env; standAt apos.atName; let (f, first) ← holding [ov] (getMethod ov m pl); callWith pos f first (backTo pos (starEach [] X.env)) (backToKw pos (keywordEach [] X.env))) := by rfl) :
    PE X (.Call (.Attribute o m apos) [] [] pos) (tMeth C m sp [] E ta tNil) := by
  obtain ⟨f, fd, F, hm, hb, c⟩ := O.ex
  exact pe_meth0 he c hm F hr hb .nil hx ht
theorem pe_mk (O : Okc X.prog X.w X.K X.mg X.base CX k x C ps sp) (hr : Room (k + 1) X.A) (hg : Gl X x) (hx : Passes CX X E) (ha : PA X (e :: es) t) (hdb : (x == ("__debug__" : Str)) = false := by decide)
    (he : starEach (e :: es) X.env = (false, eval e X.env) :: starEach es X.env := by rfl) (hpl : (backTo pos (starEach es X.env)).any (·.1) = false := by rfl) : PE X (.Call (.Name x p) (e :: es) [] pos) (tMake C sp [] E t) := by
  obtain ⟨f, fd, F, M, hb, hm⟩ := O.ex
  exact pe_make M F hr hg hm hb .nil hx ha hdb he hpl
end
section
variable {X : Cx} (K : PySem.W.Frag)
theorem pa_starK {e : Expr} {es : List Expr} {te : TE} {t : TA} {p : Pos} (he : PE X e te) (hr : PA X es t) (hs : starEach (.Starred e p :: es) X.env = (true, eval e X.env) :: starEach es X.env := by rfl) (h : X.K = K := by rfl) : PA X (.Starred e p :: es) (StX.tStar K te t) := h ▸ StX.pa_star he hr hs
theorem sl_tupAK (h : X.K = K := by rfl) : SlR X (rSlA K) := h ▸ sl_tupA
theorem op_catAK (h : X.K = K := by rfl) : OpR X (binaryOp .Add) (rCatA K) := h ▸ op_catA
theorem pg_lstK {es : List Expr} {k : Nat} {t : TGs} {n : Nat} {pos : Pos} (hc : X.calm = true) (h : PGs X es t) (hn : (assignEach es X.env).length = n := by rfl) (hst : (assignEach es X.env).findIdx? (·.1) = none := by rfl) (hk : X.K = K := by rfl) : PG X (.Tuple es k pos) (gLst K n t) := hk ▸ pg_lst hc h hn hst
theorem cr_allK (hc : X.calm = true) (h : X.K = K := by rfl) : CallR X (.builtin "all") (rAll K) := h ▸ cr_all hc
theorem pi_enumK {e : Expr} {ta : TA} {p pos tpos : Pos} {elts : List Expr} {kk : Nat} (hg : Gl X "enumerate") (hm : X.mg "enumerate" = none) (ha : PA X [e] ta) (hs : starEach [e] X.env = [(false, eval e X.env)] := by rfl) (h : X.K = K := by rfl) : PI X (.Tuple elts kk tpos) (.Call (.Name "enumerate" p) [e] [] pos) (iEnum K ta) := h ▸ pi_enum hg hm ha hs
theorem ps_fldK {o value : Expr} {f : Str} {pos pos' : Pos} {ta tv : TE} (ha : PE X o ta) (hv : PE X value tv) (hs : swapsWith value (some (.Attribute o f pos')) pos.line X.env = pure false) (h : X.K = K := by rfl) : PS X (.Assign [.Attribute o f pos'] value pos) (sFld K ta tv f) := h ▸ ps_fld ha hv hs
end
theorem pe_gI {X : Cx} {x : Str} {i : Int} {t : Tok} {pos : Pos} (hg : Gl X x) (hm : X.mg x = some (.int i t)) (hdb : (x == ("__debug__" : Str)) = false := by decide) : PE X (.Name x pos) (fun _ H Q => Q (.int i) H) := pe_glob (v := .int i) hg hm ⟨_, rfl⟩ hdb
theorem pe_gR {X : Cx} {x : Str} {a : Addr} {pos : Pos} (hg : Gl X x) (hm : X.mg x = some (.ref a)) (hdb : (x == ("__debug__" : Str)) = false := by decide) : PE X (.Name x pos) (fun _ H Q => Q (.ref a) H) := pe_glob (v := .ref a) hg hm rfl hdb
/-! ### tables with text keys in the top -/
/-- at d a table of values by words -/
structure Tbl (K : PySem.W.Frag) (w : World) (d : Addr) (g : W → Option V) : Prop where
  kd : ∃ es n, KDict K w d es n
  at_ : ∀ (x : W) (v : V), g x = some v → ∃ u, PySem.W.nsIn K d x.str = some (some u) ∧ RelV v u
section
variable {X : Cx} (K : PySem.W.Frag) {w : World} {d : Addr} {g : W → Option V}
def rInTbl (d : Addr) (g : W → Option V) (neg : Bool) : R2 := fun x y H Q => ∃ (z : W) (v : V), x = .str z.str ∧ y = .ref d ∧ g z = some v ∧ Q (.bl (!neg)) H
theorem op_inTbl (T : Tbl X.K X.w d g) : OpR X (compareOp .In) (rInTbl d g false) := by
  rintro pins s σ H x y v u Q I rx ry ⟨z, v0, rfl, rfl, hg, q⟩
  obtain ⟨es, n, D⟩ := T.kd
  obtain ⟨u0, h1, h2⟩ := T.at_ z v0 hg
  exact op_in_kd D pins s σ H _ _ v u Q I rx ry ⟨z.str, some u0, rfl, rfl, h1, q⟩
theorem op_notInTbl (T : Tbl X.K X.w d g) : OpR X (compareOp .NotIn) (rInTbl d g true) := by
  rintro pins s σ H x y v u Q I rx ry ⟨z, v0, rfl, rfl, hg, q⟩
  obtain ⟨es, n, D⟩ := T.kd
  obtain ⟨u0, h1, h2⟩ := T.at_ z v0 hg
  exact op_notIn_kd D pins s σ H _ _ v u Q I rx ry ⟨z.str, some u0, rfl, rfl, h1, q⟩
def rIxTbl (d : Addr) (g : W → Option V) : R2 := fun x y H Q => ∃ (z : W) (v : V), x = .ref d ∧ y = .str z.str ∧ g z = some v ∧ Q v H
theorem ix_tbl (T : Tbl X.K X.w d g) : IxR X (rIxTbl d g) := by
  rintro value slice pins s σ H x y v u Q I rx ry ⟨z, v0, rfl, rfl, hg, q⟩ hs
  obtain ⟨es, n, D⟩ := T.kd
  obtain ⟨u0, h1, h2⟩ := T.at_ z v0 hg
  exact ix_kdict value slice pins s σ H _ _ v u Q I rx ry ⟨d, z.str, v0, rfl, rfl, ⟨es, n, u0, D.at_, D.lit, h1, h2⟩, q⟩ hs
end
/-! ### nodes in the heap -/
def ndF (w : W) (fn : Int) (p : Nat) (n : Int) (l : Addr) (d : Nat) : List (Str × V) := [("word", .str w.str), ("function", .int fn), ("place", .int (p : Int)), ("number", .int n), ("parts", .ref l), ("depth", .int (d : Int))]
def NT : Addr → Prop := fun _ => True
def New (H : Hp) : Addr → Prop := fun b => H b = none
mutual
/-- a node in the heap, all of whose objects lie in G -/
inductive NdIn (H : Hp) (G : Addr → Prop) (C : Addr) (fn : Int) : V → Nd → Prop
  | mk {a dx l : Addr} {w : W} {p : Nat} {n : Int} {ps : List Nd} {d : Nat} {vs : List V} : G a → G l → H a = some (.ins C dx (ndF w fn p n l d)) → H l = some (.lst vs) → NdIns H G C fn vs ps → NdIn H G C fn (.ref a) (.node w p n ps d)
inductive NdIns (H : Hp) (G : Addr → Prop) (C : Addr) (fn : Int) : List V → List Nd → Prop
  | nil : NdIns H G C fn [] []
  | cons {v : V} {vs : List V} {e : Nd} {es : List Nd} : NdIn H G C fn v e → NdIns H G C fn vs es → NdIns H G C fn (v :: vs) (e :: es)
end
section
variable {H H' : Hp} {G G' : Addr → Prop} {C : Addr} {fn : Int}
mutual
theorem NdIn.keep (g : ∀ b, G b → G' b) (s : ∀ b o, G b → H b = some o → H' b = some o) : ∀ {v : V} {e : Nd}, NdIn H G C fn v e → NdIn H' G' C fn v e
  | _, _, .mk i1 i2 h1 h2 r => .mk (g _ i1) (g _ i2) (s _ _ i1 h1) (s _ _ i2 h2) (NdIns.keep g s r)
theorem NdIns.keep (g : ∀ b, G b → G' b) (s : ∀ b o, G b → H b = some o → H' b = some o) : ∀ {vs : List V} {es : List Nd}, NdIns H G C fn vs es → NdIns H' G' C fn vs es
  | _, _, .nil => .nil
  | _, _, .cons h r => .cons (NdIn.keep g s h) (NdIns.keep g s r)
end
theorem NdIn.same (s : Same H H') {v : V} {e : Nd} (h : NdIn H G C fn v e) : NdIn H' G C fn v e := h.keep (fun _ g => g) fun b o _ q => s b o q
theorem NdIns.same (s : Same H H') {vs : List V} {es : List Nd} (h : NdIns H G C fn vs es) : NdIns H' G C fn vs es := h.keep (fun _ g => g) fun b o _ q => s b o q
theorem NdIn.any {v : V} {e : Nd} (h : NdIn H G C fn v e) : NdIn H NT C fn v e := h.keep (fun _ _ => trivial) fun b o _ q => q
theorem NdIns.any {vs : List V} {es : List Nd} (h : NdIns H G C fn vs es) : NdIns H NT C fn vs es := h.keep (fun _ _ => trivial) fun b o _ q => q
theorem NdIn.len : ∀ {vs : List V} {es : List Nd}, NdIns H G C fn vs es → vs.length = es.length
  | _, _, .nil => rfl
  | _, _, .cons _ r => congrArg (· + 1) (NdIn.len r)
theorem NdIns.len {vs : List V} {es : List Nd} (h : NdIns H G C fn vs es) : vs.length = es.length := NdIn.len h
theorem NdIns.snoc {v : V} {e : Nd} : ∀ {vs : List V} {es : List Nd}, NdIns H G C fn vs es → NdIn H G C fn v e → NdIns H G C fn (vs ++ [v]) (es ++ [e])
  | _, _, .nil, h => .cons h .nil
  | _, _, .cons h r, h' => .cons h (NdIns.snoc r h')
end
theorem ndF_word {w fn p n l d} : (ndF w fn p n l d).lookup ("word" : Str) = some (.str w.str) := by rfl
theorem ndF_function {w fn p n l d} : (ndF w fn p n l d).lookup ("function" : Str) = some (.int fn) := by rfl
theorem ndF_place {w fn p n l d} : (ndF w fn p n l d).lookup ("place" : Str) = some (.int (p : Int)) := by rfl
theorem ndF_number {w fn p n l d} : (ndF w fn p n l d).lookup ("number" : Str) = some (.int n) := by rfl
theorem ndF_parts {w fn p n l d} : (ndF w fn p n l d).lookup ("parts" : Str) = some (.ref l) := by rfl
theorem ndF_depth {w fn p n l d} : (ndF w fn p n l d).lookup ("depth" : Str) = some (.int (d : Int)) := by rfl
end NR
set_option maxHeartbeats 4000000
namespace NR
open PySem PySem.Spec PyProof.Rows L2

def lastOf : W → Int
  | .num => 10006
  | .call => 5
  | _ => 19
/-- how many parts, of words without a number -/
def W.ar : W → Nat
  | .plus | .minus | .times | .less | .same | .pick | .put => 2
  | .ite => 3
  | _ => 1
def lenOf (w : W) : Nat := match w.lay with
  | 0 => 2
  | 1 => 4
  | 2 => 3
  | _ => 1 + w.ar
def numW : List V := [.str "num", .str "name", .str "let", .str "each", .str "where", .str "call"]
def W.numd (w : W) : Bool := match w.lay with
  | 3 => false
  | _ => true
theorem inNum (w : W) : inV (.str w.str) numW = w.numd := by cases w <;> decide +kernel
theorem flatNum : numW.all flatV = true := rfl
def gLen : W → Option V := fun w => some (.int (lenOf w : Int))
/-- numbers and parts as they must be -/
structure ShOk (w : W) (n : Int) (k : Nat) : Prop where
  n0 : w.numd = true → 0 ≤ n ∧ n ≤ lastOf w
  k1 : w.lay = 1 → k = 2
  k3 : w.lay = 3 → k = w.ar
theorem TIn.hd {H : Hp} {v : V} {w : W} {n : Int} {ps : List Ex} (t : TIn H v (.node w n ps)) (s : ShOk w n ps.length) : ∃ a xs, v = .ref a ∧ H a = some (.tup (.str w.str :: xs)) ∧ xs.length + 1 = lenOf w ∧ (w.numd = true → ∃ ys, xs = .int n :: ys) ∧ (w.numd = false → n = -1 ∧ TIns H xs ps) ∧
    (w.lay = 2 → ∃ b zs, xs = [.int n, .ref b] ∧ H b = some (.tup zs) ∧ TIns H zs ps) ∧ (w.lay < 2 → ∃ ys, xs = .int n :: ys ∧ TIns H ys ps) := by
  cases t with
  | leaf h0 h1 => exact ⟨_, _, rfl, h1, by rw [lenOf, h0]; rfl, fun _ => ⟨_, rfl⟩, fun z => (by rw [W.numd, h0] at z; cases z), fun z => (by omega), fun _ => ⟨_, rfl, .nil⟩⟩
  | bind h0 h1 h2 =>
    have hl := h2.len
    have := s.k1 h0
    exact ⟨_, _, rfl, h1, by rw [lenOf, h0, List.length_cons]; show _ = 4; omega, fun _ => ⟨_, rfl⟩, fun z => (by rw [W.numd, h0] at z; cases z), fun z => (by omega), fun _ => ⟨_, rfl, h2⟩⟩
  | call h1 h2 h3 => exact ⟨_, _, rfl, h1, rfl, fun _ => ⟨_, rfl⟩, fun z => (by cases z), fun _ => ⟨_, _, rfl, h2, h3⟩, fun z => by simp [W.lay] at z⟩
  | bare h0 h1 h2 =>
    have hl := h2.len
    have := s.k3 h0
    exact ⟨_, _, rfl, h1, by rw [lenOf, h0]; show _ = 1 + w.ar; omega, fun z => (by rw [W.numd, h0] at z; cases z), fun _ => ⟨rfl, h2⟩, fun z => (by omega), fun z => by omega⟩
def spLast : Sp := fun vs H Q _ => ∃ (x : W), vs = [.str x.str] ∧ x.numd = true ∧ Q (.int (lastOf x)) H
theorem wne {x : W} {z : Str} (h : decide (x.str = z) = false) : decide (V.str x.str = V.str z) = false := by
  rw [decide_eq_false_iff_not] at h ⊢
  exact fun e => h (by injection e)
abbrev sLastNumber : Stmt := top 35
theorem scsLastNumber : FnScope ["word"] ["word"] (defScope sLastNumber) := ⟨rfl, rfl, rfl, by decide +kernel, rfl, by decide +kernel, by decide +kernel⟩
section
variable {P : Program} {w : World} {K : PySem.W.Frag} {mg : Str → Option Value} {base : Heap} {f : Addr} {fd : FuncData}

theorem ok_last (F : FnP K "last_number" sLastNumber f fd) {t0 t1 t2 : Tok} (m_LAST_NUMBER : mg "LAST_NUMBER" = some (.int 10006 t0)) (m_MOST_FUNCTIONS : mg "MOST_FUNCTIONS" = some (.int 6 t1)) (m_LAST_NAME : mg "LAST_NAME" = some (.int 19 t2)) : FnOk P w K mg base CX0 1 f fd ["word"] spLast := by
  have sc := scsLastNumber
  refine F.ok sc (fun vs H Q E h => ?_) (fun cdv A outer s H vs Q E hr h => ?_)
  · obtain ⟨x, rfl, _⟩ := h
    rfl
  obtain ⟨x, rfl, hx, q⟩ := h
  refine ⟨_, (pss_cons (ps_if (pt_cmpR op_eq (pv 0) pe_str (nomark _)) (pss_one (ps_ret (pe_gI rfl m_LAST_NUMBER))) pss_nil)
    (pss_cons (ps_if (pt_cmpR op_eq (pv 0) pe_str (nomark _)) (pss_one (ps_ret (pe_op op_sub (pe_gI rfl m_MOST_FUNCTIONS) pe_int))) pss_nil)
    (pss_one (ps_ret (pe_gI rfl m_LAST_NAME))))), ?_⟩
  refine ⟨_, rfl, rfl, _, rfl, ?_⟩
  refine ite2 (fun c => ?_) (fun c => ⟨_, rfl, rfl, _, rfl, ite2 (fun c2 => ?_) (fun c2 => ?_)⟩)
  · have e : x = .num := by revert c hx; cases x <;> decide +kernel
    subst e
    exact q
  · have e : x = .call := by revert c2 hx; cases x <;> decide +kernel
    subst e
    exact ⟨_, _, rfl, rfl, q⟩
  · have e : lastOf x = 19 := by revert c c2 hx; cases x <;> decide +kernel
    rw [e] at q
    exact q
end

def spNumOf (K : PySem.W.Frag) : Sp := fun vs H Q _ => ∃ (v : V) (x : W) (n : Int) (ps : List Ex), vs = [v] ∧ TIn H v (.node x n ps) ∧ ShOk x n ps.length ∧ Q (.int n) H
abbrev sNumberOf : Stmt := top 37
theorem scsNumberOf : FnScope ["expression"] ["expression"] (defScope sNumberOf) := ⟨rfl, rfl, rfl, by decide +kernel, rfl, by decide +kernel, by decide +kernel⟩
section
variable {P : Program} {w : World} {K : PySem.W.Frag} {mg : Str → Option Value} {base : Heap} {f : Addr} {fd : FuncData}

theorem ok_numof (F : FnP K "number_of" sNumberOf f fd) {aN : Addr} (m_NUMBERED : mg "NUMBERED" = some (.ref aN)) (hN : ∀ H, SqT K H aN numW) : FnOk P w K mg base CX0 1 f fd ["expression"] (spNumOf K) := by
  have sc := scsNumberOf
  refine F.ok sc (fun vs H Q E h => ?_) (fun cdv A outer s H vs Q E hr h => ?_)
  · obtain ⟨v, x, n, ps, rfl, _⟩ := h
    rfl
  obtain ⟨v, x, n, ps, rfl, ti, sh, q⟩ := h
  obtain ⟨a, xs, rfl, ha, hl, h1, h2, h3, h4⟩ := ti.hd sh
  refine ⟨_, (pss_cons (ps_if (pt_cmpR (op_inK K) (pe_ix (ix_tupK K) (pv 0) pe_int (fun _ _ => rfl)) (pe_gR rfl m_NUMBERED) (by rfl)) (pss_one (ps_ret (pe_ix (ix_tupK K) (pv 0) pe_int (fun _ _ => rfl)))) pss_nil)
    (pss_one (ps_ret (pe_un un_neg pe_int)))), ?_⟩
  refine ⟨_, rfl, a, _, _, .str x.str, rfl, rfl, SqT.of ha, at0, aN, _, rfl, .inr (hN _), rfl, flatNum, _, rfl, ?_⟩
  rw [show inV (.str x.str) numW = x.numd from inNum x]
  refine ite2 (fun c => ?_) (fun c => ?_)
  · obtain ⟨ys, rfl⟩ := h1 c
    exact ⟨_, rfl, a, _, _, _, rfl, rfl, SqT.of ha, at1, q⟩
  · obtain ⟨rfl, _⟩ := h2 (Bool.eq_false_iff.mpr c)
    exact ⟨_, rfl, q⟩
end

def spPartsOf (K : PySem.W.Frag) : Sp := fun vs H Q _ => ∃ (v : V) (x : W) (n : Int) (ps : List Ex), vs = [v] ∧ TIn H v (.node x n ps) ∧ ShOk x n ps.length ∧ ∀ (H' : Hp) (l : Addr) (xs : List V), Same H H' → H' l = some (.lst xs) → TIns H' xs ps → Q (.ref l) H'
theorem isCall (x : W) : decide (V.str x.str = V.str "call") = decide (x.lay = 2) := by cases x <;> decide +kernel
abbrev sPartsOf : Stmt := top 38
theorem scsPartsOf : FnScope ["expression"] ["expression"] (defScope sPartsOf) := ⟨rfl, rfl, rfl, by decide +kernel, rfl, by decide +kernel, by decide +kernel⟩
section
variable {P : Program} {w : World} {K : PySem.W.Frag} {mg : Str → Option Value} {base : Heap} {f : Addr} {fd : FuncData}

theorem ok_partsof (F : FnP K "parts_of" sPartsOf f fd) {aN : Addr} (m_NUMBERED : mg "NUMBERED" = some (.ref aN)) (hN : ∀ H, SqT K H aN numW) (z_list : mg "list" = none) : FnOk P w K mg base CX0 1 f fd ["expression"] (spPartsOf K) := by
  have sc := scsPartsOf
  refine F.ok sc (fun vs H Q E h => ?_) (fun cdv A outer s H vs Q E hr h => ?_)
  · obtain ⟨v, x, n, ps, rfl, _⟩ := h
    rfl
  obtain ⟨v, x, n, ps, rfl, ti, sh, q⟩ := h
  obtain ⟨a, xs, rfl, ha, hl, h1, h2, h3, h4⟩ := ti.hd sh
  refine ⟨_, (pss_cons (ps_if (pt_cmpR op_eq (pe_ix (ix_tupK K) (pv 0) pe_int (fun _ _ => rfl)) pe_str (nomark _)) (pss_one (ps_ret (pe_callTy (call_listK K) rfl z_list (by decide +kernel) (pa_cons (pe_ix (ix_tupK K) (pv 0) pe_int (fun _ _ => rfl)) pa_nil)))) pss_nil)
    (pss_cons (ps_if (pt_cmpR (op_inK K) (pe_ix (ix_tupK K) (pv 0) pe_int (fun _ _ => rfl)) (pe_gR rfl m_NUMBERED) (by rfl)) (pss_one (ps_ret (pe_callTy (call_listK K) rfl z_list (by decide +kernel) (pa_cons (pe_slice (sl_tupK K) (pv 0) (po_some pe_int) po_none) pa_nil)))) pss_nil)
    (pss_one (ps_ret (pe_callTy (call_listK K) rfl z_list (by decide +kernel) (pa_cons (pe_slice (sl_tupK K) (pv 0) (po_some pe_int) po_none) pa_nil)))))), ?_⟩
  refine ⟨_, rfl, a, _, _, .str x.str, rfl, rfl, SqT.of ha, at0, rfl, _, rfl, ?_⟩
  rw [isCall x]
  refine ite2 (fun c => ?_) (fun c => ?_)
  · obtain ⟨b, zs, rfl, hb, hz⟩ := h3 (of_decide_eq_true c)
    refine ⟨_, rfl, a, _, _, _, rfl, rfl, SqT.of ha, rfl, b, zs, rfl, .inr (SqT.of hb), fun l hl => ?_⟩
    exact q _ l zs (same_new hl _) upd_same (hz.mono (TK.of (same_new hl _)))
  · have c' : x.lay ≠ 2 := fun z => c (decide_eq_true z)
    refine ⟨_, rfl, a, _, _, .str x.str, rfl, rfl, SqT.of ha, at0, aN, _, rfl, .inr (hN _), rfl, flatNum, _, rfl, ?_⟩
    rw [show inV (.str x.str) numW = x.numd from inNum x]
    refine ite2 (fun c => ?_) (fun c => ?_)
    · obtain ⟨ys, rfl, hy⟩ := h4 (by revert c c'; cases x <;> decide +kernel)
      refine ⟨_, rfl, 2, rfl, a, _, rfl, SqT.of ha, fun z => ?_, fun p hp => ?_⟩
      · exact absurd z.1 (by simp [HT.sIx])
      have s1 := same_new hp (.tup (cutV (.str x.str :: .int n :: ys) (some 2) none))
      refine ⟨p, _, rfl, .inr (SqT.of upd_same), fun l hl => ?_⟩
      have e : cutV (.str x.str :: .int n :: ys) (some 2) none = ys := by simp [cutV, HT.sIx]
      have s2 := s1.trans (same_new hl (.lst (cutV (.str x.str :: .int n :: ys) (some 2) none)))
      exact q _ l ys s2 (by rw [upd_same, e]) (hy.mono (TK.of s2))
    · obtain ⟨rfl, hy⟩ := h2 (Bool.eq_false_iff.mpr c)
      refine ⟨_, rfl, 1, rfl, a, _, rfl, SqT.of ha, fun z => ?_, fun p hp => ?_⟩
      · exact absurd z.1 (by simp [HT.sIx])
      have s1 := same_new hp (.tup (cutV (.str x.str :: xs) (some 1) none))
      refine ⟨p, _, rfl, .inr (SqT.of upd_same), fun l hl => ?_⟩
      have e : cutV (.str x.str :: xs) (some 1) none = xs := by simp [cutV, HT.sIx]
      have s2 := s1.trans (same_new hl (.lst (cutV (.str x.str :: xs) (some 1) none)))
      exact q _ l xs s2 (by rw [upd_same, e]) (hy.mono (TK.of s2))
end
end NR
set_option maxHeartbeats 4000000
namespace NR
open PySem PySem.Spec PyProof.Rows L2

def spIsNum : Sp := fun vs H Q _ => ∃ (n k : Int), vs = [.int n, .int k] ∧ Q (.bl (decide (0 ≤ n) && decide (n ≤ k))) H
abbrev sIsNumber : Stmt := top 13
theorem scsIsNumber : FnScope ["value", "last"] ["value", "last"] (defScope sIsNumber) := ⟨rfl, rfl, rfl, by decide +kernel, rfl, by decide +kernel, by decide +kernel⟩
section
variable {P : Program} {w : World} {K : PySem.W.Frag} {mg : Str → Option Value} {base : Heap} {f : Addr} {fd : FuncData}

theorem ok_isnum (F : FnP K "is_number" sIsNumber f fd) (z_isinstance : mg "isinstance" = none) (z_int : mg "int" = none) (z_bool : mg "bool" = none) : FnOk P w K mg base CX0 1 f fd ["value", "last"] spIsNum := by
  have sc := scsIsNumber
  refine F.ok sc (fun vs H Q E h => ?_) (fun cdv A outer s H vs Q E hr h => ?_)
  · obtain ⟨n, k, rfl, _⟩ := h
    rfl
  obtain ⟨n, k, rfl, q⟩ := h
  refine ⟨_, (pss_cons (ps_if (PW.pt (pw_or (pt_not (pt_val (pe_callB (call_isiK K) rfl z_isinstance (by decide +kernel) (pa_cons (pv 0) (pa_cons (pe_bltn (v := .ty "int") rfl z_int (by decide +kernel) rfl) pa_nil))))) (pw_or1 (pt_val (pe_callB (call_isiK K) rfl z_isinstance (by decide +kernel) (pa_cons (pv 0) (pa_cons (pe_bltn (v := .ty "bool") rfl z_bool (by decide +kernel) rfl) pa_nil))))))) (pss_one (ps_ret pe_bl)) pss_nil)
    (pss_one (ps_ret (pe_chain op_le op_le pe_int (pv 0) (pv 1))))), ?_⟩
  refine ⟨_, rfl, _, _, _, _, _, rfl, .ty _, .base (.int n), kit_ty (r := true) (by decide +kernel), _, rfl, ?_⟩
  refine ite2 (fun z => nomatch z) (fun _ => ?_)
  refine ⟨_, rfl, _, _, _, _, _, rfl, .ty _, .base (.int n), kit_ty (r := false) (by decide +kernel), _, rfl, ?_⟩
  refine ite2 (fun z => nomatch z) (fun _ => ?_)
  refine ⟨_, rfl, _, _, rfl, rfl, _, rfl, ?_⟩
  refine ite2 (fun c => ?_) (fun c => ?_)
  · refine ⟨_, rfl, _, _, rfl, rfl, ?_⟩
    rw [c] at q
    exact q
  · rw [Bool.eq_false_iff.mpr c] at q
    exact q
end
end NR
set_option maxHeartbeats 4000000
namespace NR
open PySem PySem.Spec PyProof.Rows L2

theorem Dep.inum {ds d} : Dep .num ds d → ds = [] ∧ d = 0 := by intro h; cases h with | num => exact ⟨rfl, rfl⟩ | two h => simp at h
theorem Dep.itwo {w : W} {ds d} (hw : w = .plus ∨ w = .minus ∨ w = .times ∨ w = .less ∨ w = .same) : Dep w ds d → ds = [0, 0] ∧ d = 0 := by
  intro h; rcases hw with rfl | rfl | rfl | rfl | rfl <;> cases h <;> exact ⟨rfl, rfl⟩
theorem Dep.iite {ds d} : Dep .ite ds d → ds = [0, d, d] := by intro h; cases h with | ite => rfl | two h => simp at h
theorem Dep.ielet {ds d} : Dep .elet ds d → ∃ c, ds = [c, d] := by intro h; cases h with | elet => exact ⟨_, rfl⟩ | two h => simp at h
theorem Dep.iupto {ds d} : Dep .upto ds d → ds = [0] ∧ d = 1 := by intro h; cases h with | upto => exact ⟨rfl, rfl⟩ | two h => simp at h
theorem Dep.ilen {ds d} : Dep .len ds d → ∃ c, ds = [c + 1] ∧ d = 0 := by intro h; cases h with | len => exact ⟨_, rfl, rfl⟩ | two h => simp at h
theorem Dep.isum {ds d} : Dep .sum ds d → ds = [1] ∧ d = 0 := by intro h; cases h with | sum => exact ⟨rfl, rfl⟩ | two h => simp at h
theorem Dep.isums {ds d} : Dep .sums ds d → ds = [1] ∧ d = 1 := by intro h; cases h with | sums => exact ⟨rfl, rfl⟩ | two h => simp at h
theorem Dep.ione {ds d} : Dep .one ds d → ∃ c, ds = [c] ∧ d = c + 1 ∧ c < 3 := by intro h; cases h with | one h => exact ⟨_, rfl, rfl, h⟩ | two h => simp at h
theorem Dep.ipick {ds d} : Dep .pick ds d → ds = [d + 1, 0] := by intro h; cases h with | pick => rfl | two h => simp at h
theorem Dep.iput {ds d} : Dep .put ds d → ∃ c, ds = [c + 1, c + 1] ∧ d = c + 1 := by intro h; cases h with | put => exact ⟨_, rfl, rfl⟩ | two h => simp at h
theorem Dep.iflat {ds d} : Dep .flat ds d → ∃ c, ds = [c + 2] ∧ d = c + 1 := by intro h; cases h with | flat => exact ⟨_, rfl, rfl⟩ | two h => simp at h
theorem Dep.ieach {ds d} : Dep .each ds d → ∃ b c, ds = [b + 1, c] ∧ d = c + 1 ∧ c < 3 := by intro h; cases h with | each h => exact ⟨_, _, rfl, rfl, h⟩ | two h => simp at h
theorem Dep.iwhr {ds d} : Dep .whr ds d → ∃ b, ds = [b + 1, 0] ∧ d = b + 1 := by intro h; cases h with | whr => exact ⟨_, rfl, rfl⟩ | two h => simp at h
def spOf (S : W → Prop) : Sp := fun vs H Q _ => ∃ (l : Addr) (ds : List Nat) (d : Nat) (x : W), vs = [.ref l] ∧ H l = some (.lst (ds.map dV)) ∧ S x ∧ Dep x ds d ∧ ∀ H', Same H H' → Q (dV d) H'
theorem q0 {Q : VK} {v : V} {H : Hp} (q : ∀ H', Same H H' → Q v H') : Q v H := q H (fun _ _ h => h)
theorem eqT {α : Sort _} {a b : α} (c : Bool) (h : c = true) : (if c = true then a else b) = a := if_pos h
def isTwo (w : W) : Prop := w = .plus ∨ w = .minus ∨ w = .times ∨ w = .less ∨ w = .same
abbrev sOfNum : Stmt := top 16
theorem scsOfNum : FnScope ["depths"] ["depths"] (defScope sOfNum) := ⟨rfl, rfl, rfl, by decide +kernel, rfl, by decide +kernel, by decide +kernel⟩
section
variable {P : Program} {w : World} {K : PySem.W.Frag} {mg : Str → Option Value} {base : Heap} {f : Addr} {fd : FuncData}

theorem ok_of_num (F : FnP K "of_num" sOfNum f fd) {t0 t1 : Tok} (m_NO_DEPTH : mg "NO_DEPTH" = some (.int (-1) t0)) (m_MOST_DEPTH : mg "MOST_DEPTH" = some (.int 3 t1)) : FnOk P w K mg base CX0 1 f fd ["depths"] (spOf (· = .num)) := by
  have sc := scsOfNum
  refine F.ok sc (fun vs H Q E h => ?_) (fun cdv A outer s H vs Q E hr h => ?_)
  · obtain ⟨l, ds, d, x, rfl, _⟩ := h
    rfl
  obtain ⟨l, ds, d, x, rfl, hl, hx, hD, q⟩ := h
  refine ⟨_, (pss_one (ps_ret pe_int)), ?_⟩
  subst hx
  obtain ⟨rfl, rfl⟩ := hD.inum
  exact q0 q
end
abbrev sOfTwoNumbers : Stmt := top 17
theorem scsOfTwoNumbers : FnScope ["depths"] ["depths"] (defScope sOfTwoNumbers) := ⟨rfl, rfl, rfl, by decide +kernel, rfl, by decide +kernel, by decide +kernel⟩
section
variable {P : Program} {w : World} {K : PySem.W.Frag} {mg : Str → Option Value} {base : Heap} {f : Addr} {fd : FuncData}

theorem ok_of_two_numbers (F : FnP K "of_two_numbers" sOfTwoNumbers f fd) {t0 t1 : Tok} (m_NO_DEPTH : mg "NO_DEPTH" = some (.int (-1) t0)) (m_MOST_DEPTH : mg "MOST_DEPTH" = some (.int 3 t1)) : FnOk P w K mg base CX0 1 f fd ["depths"] (spOf isTwo) := by
  have sc := scsOfTwoNumbers
  refine F.ok sc (fun vs H Q E h => ?_) (fun cdv A outer s H vs Q E hr h => ?_)
  · obtain ⟨l, ds, d, x, rfl, _⟩ := h
    rfl
  obtain ⟨l, ds, d, x, rfl, hl, hx, hD, q⟩ := h
  refine ⟨_, (pss_one (ps_ret (pe_ifExp (pt_cmpR (op_eqDK K hr.units) (pv 0) (pe_lst (pa_cons pe_int (pa_cons pe_int pa_nil))) (nomark _)) pe_int (pe_gI rfl m_NO_DEPTH)))), ?_⟩
  obtain ⟨rfl, rfl⟩ := hD.itwo hx
  refine ⟨_, rfl, by show 2 ≤ sizeLine; decide, fun p hp => ?_⟩
  refine ⟨.list [.int 0, .int 0], .list [.int 0, .int 0], .lst (SqL.of (same_new hp _ _ _ hl)) (.cons (.int _) (.cons (.int _) .nil)), .lst (SqL.of upd_same) (.cons (.int _) (.cons (.int _) .nil)), by rfl, by rfl, _, rfl, ?_⟩
  refine ite2 (fun _ => ?_) (fun z => absurd rfl z)
  exact q _ (same_new hp _)
end
abbrev sOfIf : Stmt := top 18
theorem scsOfIf : FnScope ["depths", "chosen", "yes", "no"] ["depths"] (defScope sOfIf) := ⟨rfl, rfl, rfl, by decide +kernel, rfl, by decide +kernel, by decide +kernel⟩
section
variable {P : Program} {w : World} {K : PySem.W.Frag} {mg : Str → Option Value} {base : Heap} {f : Addr} {fd : FuncData}

theorem ok_of_if (F : FnP K "of_if" sOfIf f fd) {t0 t1 : Tok} (m_NO_DEPTH : mg "NO_DEPTH" = some (.int (-1) t0)) (m_MOST_DEPTH : mg "MOST_DEPTH" = some (.int 3 t1)) : FnOk P w K mg base CX0 1 f fd ["depths"] (spOf (· = .ite)) := by
  have sc := scsOfIf
  refine F.ok sc (fun vs H Q E h => ?_) (fun cdv A outer s H vs Q E hr h => ?_)
  · obtain ⟨l, ds, d, x, rfl, _⟩ := h
    rfl
  obtain ⟨l, ds, d, x, rfl, hl, hx, hD, q⟩ := h
  refine ⟨_, (pss_cons (ps_asg (pv 0) (pg_lstK K (n := 3) rfl (pgs_cons (pg_name (i := 1) sc.nd rfl (.inl rfl)) (pgs_cons (pg_name (i := 2) sc.nd rfl (.inl rfl)) (pgs_cons (pg_name (i := 3) sc.nd rfl (.inl rfl)) pgs_nil)))))
    (pss_one (ps_ret (pe_ifExp (PW.pt (pw_and (pt_cmpR op_eq (pv 1) pe_int (nomark _)) (pw_and1 (pt_cmpR op_eq (pv 2) (pv 3) (nomark _))))) (pv 2) (pe_gI rfl m_NO_DEPTH))))), ?_⟩
  subst hx
  obtain rfl := hD.iite
  refine ⟨_, rfl, l, _, rfl, SqL.of hl, rfl, _, _, rfl, _, _, rfl, _, _, rfl, rfl, ?_⟩
  refine ⟨_, rfl, rfl, _, rfl, ?_⟩
  refine ite2 (fun _ => ?_) (fun z => absurd rfl z)
  refine ⟨_, rfl, _, rfl, rfl, _, rfl, ?_⟩
  refine ite2 (fun _ => ?_) (fun z => absurd (decide_eq_true rfl) z)
  exact ⟨_, rfl, q0 q⟩
end
abbrev sOfLet : Stmt := top 19
theorem scsOfLet : FnScope ["depths"] ["depths"] (defScope sOfLet) := ⟨rfl, rfl, rfl, by decide +kernel, rfl, by decide +kernel, by decide +kernel⟩
section
variable {P : Program} {w : World} {K : PySem.W.Frag} {mg : Str → Option Value} {base : Heap} {f : Addr} {fd : FuncData}

theorem ok_of_let (F : FnP K "of_let" sOfLet f fd) {t0 t1 : Tok} (m_NO_DEPTH : mg "NO_DEPTH" = some (.int (-1) t0)) (m_MOST_DEPTH : mg "MOST_DEPTH" = some (.int 3 t1)) : FnOk P w K mg base CX0 1 f fd ["depths"] (spOf (· = .elet)) := by
  have sc := scsOfLet
  refine F.ok sc (fun vs H Q E h => ?_) (fun cdv A outer s H vs Q E hr h => ?_)
  · obtain ⟨l, ds, d, x, rfl, _⟩ := h
    rfl
  obtain ⟨l, ds, d, x, rfl, hl, hx, hD, q⟩ := h
  refine ⟨_, (pss_one (ps_ret (pe_ix (ix_listK K) (pv 0) pe_int (fun _ _ => rfl)))), ?_⟩
  subst hx
  obtain ⟨c, rfl⟩ := hD.ielet
  exact ⟨_, rfl, l, _, _, _, rfl, rfl, SqL.of hl, rfl, q0 q⟩
end
abbrev sOfUpto : Stmt := top 20
theorem scsOfUpto : FnScope ["depths"] ["depths"] (defScope sOfUpto) := ⟨rfl, rfl, rfl, by decide +kernel, rfl, by decide +kernel, by decide +kernel⟩
section
variable {P : Program} {w : World} {K : PySem.W.Frag} {mg : Str → Option Value} {base : Heap} {f : Addr} {fd : FuncData}

theorem ok_of_upto (F : FnP K "of_upto" sOfUpto f fd) {t0 t1 : Tok} (m_NO_DEPTH : mg "NO_DEPTH" = some (.int (-1) t0)) (m_MOST_DEPTH : mg "MOST_DEPTH" = some (.int 3 t1)) : FnOk P w K mg base CX0 1 f fd ["depths"] (spOf (· = .upto)) := by
  have sc := scsOfUpto
  refine F.ok sc (fun vs H Q E h => ?_) (fun cdv A outer s H vs Q E hr h => ?_)
  · obtain ⟨l, ds, d, x, rfl, _⟩ := h
    rfl
  obtain ⟨l, ds, d, x, rfl, hl, hx, hD, q⟩ := h
  refine ⟨_, (pss_one (ps_ret (pe_ifExp (pt_cmpR (op_eqDK K hr.units) (pv 0) (pe_lst (pa_cons pe_int pa_nil)) (nomark _)) pe_int (pe_gI rfl m_NO_DEPTH)))), ?_⟩
  subst hx
  obtain ⟨rfl, rfl⟩ := hD.iupto
  refine ⟨_, rfl, by show 1 ≤ sizeLine; decide, fun p hp => ?_⟩
  refine ⟨.list [.int 0], .list [.int 0], .lst (SqL.of (same_new hp _ _ _ hl)) (.cons (.int _) .nil), .lst (SqL.of upd_same) (.cons (.int _) .nil), by rfl, by rfl, _, rfl, ?_⟩
  refine ite2 (fun _ => ?_) (fun z => absurd rfl z)
  exact q _ (same_new hp _)
end
abbrev sOfLen : Stmt := top 21
theorem scsOfLen : FnScope ["depths"] ["depths"] (defScope sOfLen) := ⟨rfl, rfl, rfl, by decide +kernel, rfl, by decide +kernel, by decide +kernel⟩
section
variable {P : Program} {w : World} {K : PySem.W.Frag} {mg : Str → Option Value} {base : Heap} {f : Addr} {fd : FuncData}

theorem ok_of_len (F : FnP K "of_len" sOfLen f fd) {t0 t1 : Tok} (m_NO_DEPTH : mg "NO_DEPTH" = some (.int (-1) t0)) (m_MOST_DEPTH : mg "MOST_DEPTH" = some (.int 3 t1)) : FnOk P w K mg base CX0 1 f fd ["depths"] (spOf (· = .len)) := by
  have sc := scsOfLen
  refine F.ok sc (fun vs H Q E h => ?_) (fun cdv A outer s H vs Q E hr h => ?_)
  · obtain ⟨l, ds, d, x, rfl, _⟩ := h
    rfl
  obtain ⟨l, ds, d, x, rfl, hl, hx, hD, q⟩ := h
  refine ⟨_, (pss_one (ps_ret (pe_ifExp (pt_cmpR op_ge (pe_ix (ix_listK K) (pv 0) pe_int (fun _ _ => rfl)) pe_int (nomark _)) pe_int (pe_gI rfl m_NO_DEPTH)))), ?_⟩
  subst hx
  obtain ⟨c, rfl, rfl⟩ := hD.ilen
  refine ⟨_, rfl, l, _, _, _, rfl, rfl, SqL.of hl, rfl, _, _, rfl, rfl, _, rfl, ?_⟩
  refine ite2 (fun _ => ?_) (fun z => absurd (decide_eq_true (by omega)) z)
  exact q0 q
end
abbrev sOfSum : Stmt := top 22
theorem scsOfSum : FnScope ["depths"] ["depths"] (defScope sOfSum) := ⟨rfl, rfl, rfl, by decide +kernel, rfl, by decide +kernel, by decide +kernel⟩
section
variable {P : Program} {w : World} {K : PySem.W.Frag} {mg : Str → Option Value} {base : Heap} {f : Addr} {fd : FuncData}

theorem ok_of_sum (F : FnP K "of_sum" sOfSum f fd) {t0 t1 : Tok} (m_NO_DEPTH : mg "NO_DEPTH" = some (.int (-1) t0)) (m_MOST_DEPTH : mg "MOST_DEPTH" = some (.int 3 t1)) : FnOk P w K mg base CX0 1 f fd ["depths"] (spOf (· = .sum)) := by
  have sc := scsOfSum
  refine F.ok sc (fun vs H Q E h => ?_) (fun cdv A outer s H vs Q E hr h => ?_)
  · obtain ⟨l, ds, d, x, rfl, _⟩ := h
    rfl
  obtain ⟨l, ds, d, x, rfl, hl, hx, hD, q⟩ := h
  refine ⟨_, (pss_one (ps_ret (pe_ifExp (pt_cmpR (op_eqDK K hr.units) (pv 0) (pe_lst (pa_cons pe_int pa_nil)) (nomark _)) pe_int (pe_gI rfl m_NO_DEPTH)))), ?_⟩
  subst hx
  obtain ⟨rfl, rfl⟩ := hD.isum
  refine ⟨_, rfl, by show 1 ≤ sizeLine; decide, fun p hp => ?_⟩
  refine ⟨.list [.int 1], .list [.int 1], .lst (SqL.of (same_new hp _ _ _ hl)) (.cons (.int _) .nil), .lst (SqL.of upd_same) (.cons (.int _) .nil), by rfl, by rfl, _, rfl, ?_⟩
  refine ite2 (fun _ => ?_) (fun z => absurd rfl z)
  exact q _ (same_new hp _)
end
abbrev sOfSums : Stmt := top 23
theorem scsOfSums : FnScope ["depths"] ["depths"] (defScope sOfSums) := ⟨rfl, rfl, rfl, by decide +kernel, rfl, by decide +kernel, by decide +kernel⟩
section
variable {P : Program} {w : World} {K : PySem.W.Frag} {mg : Str → Option Value} {base : Heap} {f : Addr} {fd : FuncData}

theorem ok_of_sums (F : FnP K "of_sums" sOfSums f fd) {t0 t1 : Tok} (m_NO_DEPTH : mg "NO_DEPTH" = some (.int (-1) t0)) (m_MOST_DEPTH : mg "MOST_DEPTH" = some (.int 3 t1)) : FnOk P w K mg base CX0 1 f fd ["depths"] (spOf (· = .sums)) := by
  have sc := scsOfSums
  refine F.ok sc (fun vs H Q E h => ?_) (fun cdv A outer s H vs Q E hr h => ?_)
  · obtain ⟨l, ds, d, x, rfl, _⟩ := h
    rfl
  obtain ⟨l, ds, d, x, rfl, hl, hx, hD, q⟩ := h
  refine ⟨_, (pss_one (ps_ret (pe_ifExp (pt_cmpR (op_eqDK K hr.units) (pv 0) (pe_lst (pa_cons pe_int pa_nil)) (nomark _)) pe_int (pe_gI rfl m_NO_DEPTH)))), ?_⟩
  subst hx
  obtain ⟨rfl, rfl⟩ := hD.isums
  refine ⟨_, rfl, by show 1 ≤ sizeLine; decide, fun p hp => ?_⟩
  refine ⟨.list [.int 1], .list [.int 1], .lst (SqL.of (same_new hp _ _ _ hl)) (.cons (.int _) .nil), .lst (SqL.of upd_same) (.cons (.int _) .nil), by rfl, by rfl, _, rfl, ?_⟩
  refine ite2 (fun _ => ?_) (fun z => absurd rfl z)
  exact q _ (same_new hp _)
end
abbrev sOfOne : Stmt := top 24
theorem scsOfOne : FnScope ["depths"] ["depths"] (defScope sOfOne) := ⟨rfl, rfl, rfl, by decide +kernel, rfl, by decide +kernel, by decide +kernel⟩
section
variable {P : Program} {w : World} {K : PySem.W.Frag} {mg : Str → Option Value} {base : Heap} {f : Addr} {fd : FuncData}

theorem ok_of_one (F : FnP K "of_one" sOfOne f fd) {t0 t1 : Tok} (m_NO_DEPTH : mg "NO_DEPTH" = some (.int (-1) t0)) (m_MOST_DEPTH : mg "MOST_DEPTH" = some (.int 3 t1)) : FnOk P w K mg base CX0 1 f fd ["depths"] (spOf (· = .one)) := by
  have sc := scsOfOne
  refine F.ok sc (fun vs H Q E h => ?_) (fun cdv A outer s H vs Q E hr h => ?_)
  · obtain ⟨l, ds, d, x, rfl, _⟩ := h
    rfl
  obtain ⟨l, ds, d, x, rfl, hl, hx, hD, q⟩ := h
  refine ⟨_, (pss_one (ps_ret (pe_ifExp (pt_cmpR op_lt (pe_ix (ix_listK K) (pv 0) pe_int (fun _ _ => rfl)) (pe_gI rfl m_MOST_DEPTH) (nomark _)) (pe_op op_add (pe_ix (ix_listK K) (pv 0) pe_int (fun _ _ => rfl)) pe_int) (pe_gI rfl m_NO_DEPTH)))), ?_⟩
  subst hx
  obtain ⟨c, rfl, rfl, hc⟩ := hD.ione
  refine ⟨_, rfl, l, _, _, _, rfl, rfl, SqL.of hl, rfl, _, _, rfl, rfl, _, rfl, ?_⟩
  refine ite2 (fun _ => ?_) (fun z => absurd (decide_eq_true (by omega)) z)
  refine ⟨_, rfl, l, _, _, _, rfl, rfl, SqL.of hl, rfl, _, _, rfl, rfl, ?_⟩
  exact q0 q
end
abbrev sOfPick : Stmt := top 25
theorem scsOfPick : FnScope ["depths", "row", "number"] ["depths"] (defScope sOfPick) := ⟨rfl, rfl, rfl, by decide +kernel, rfl, by decide +kernel, by decide +kernel⟩
section
variable {P : Program} {w : World} {K : PySem.W.Frag} {mg : Str → Option Value} {base : Heap} {f : Addr} {fd : FuncData}

theorem ok_of_pick (F : FnP K "of_pick" sOfPick f fd) {t0 t1 : Tok} (m_NO_DEPTH : mg "NO_DEPTH" = some (.int (-1) t0)) (m_MOST_DEPTH : mg "MOST_DEPTH" = some (.int 3 t1)) : FnOk P w K mg base CX0 1 f fd ["depths"] (spOf (· = .pick)) := by
  have sc := scsOfPick
  refine F.ok sc (fun vs H Q E h => ?_) (fun cdv A outer s H vs Q E hr h => ?_)
  · obtain ⟨l, ds, d, x, rfl, _⟩ := h
    rfl
  obtain ⟨l, ds, d, x, rfl, hl, hx, hD, q⟩ := h
  refine ⟨_, (pss_cons (ps_asg (pv 0) (pg_lstK K (n := 2) rfl (pgs_cons (pg_name (i := 1) sc.nd rfl (.inl rfl)) (pgs_cons (pg_name (i := 2) sc.nd rfl (.inl rfl)) pgs_nil))))
    (pss_one (ps_ret (pe_ifExp (PW.pt (pw_and (pt_cmpR op_ge (pv 1) pe_int (nomark _)) (pw_and1 (pt_cmpR op_eq (pv 2) pe_int (nomark _))))) (pe_op op_sub (pv 1) pe_int) (pe_gI rfl m_NO_DEPTH))))), ?_⟩
  subst hx
  obtain rfl := hD.ipick
  refine ⟨_, rfl, l, _, rfl, SqL.of hl, rfl, _, _, rfl, _, _, rfl, rfl, ?_⟩
  refine ⟨_, rfl, _, _, rfl, rfl, _, rfl, ?_⟩
  refine ite2 (fun _ => ?_) (fun z => absurd (decide_eq_true (by omega)) z)
  refine ⟨_, rfl, rfl, _, rfl, ?_⟩
  refine ite2 (fun _ => ?_) (fun z => absurd rfl z)
  refine ⟨_, rfl, _, _, rfl, rfl, ?_⟩
  have e : (((d + 1 : Nat) : Int) - 1) = (d : Int) := by omega
  show Q (V.int (((d + 1 : Nat) : Int) - 1)) _
  rw [e]
  exact q0 q
end
abbrev sOfPut : Stmt := top 26
theorem scsOfPut : FnScope ["depths", "first", "second"] ["depths"] (defScope sOfPut) := ⟨rfl, rfl, rfl, by decide +kernel, rfl, by decide +kernel, by decide +kernel⟩
section
variable {P : Program} {w : World} {K : PySem.W.Frag} {mg : Str → Option Value} {base : Heap} {f : Addr} {fd : FuncData}

theorem ok_of_put (F : FnP K "of_put" sOfPut f fd) {t0 t1 : Tok} (m_NO_DEPTH : mg "NO_DEPTH" = some (.int (-1) t0)) (m_MOST_DEPTH : mg "MOST_DEPTH" = some (.int 3 t1)) : FnOk P w K mg base CX0 1 f fd ["depths"] (spOf (· = .put)) := by
  have sc := scsOfPut
  refine F.ok sc (fun vs H Q E h => ?_) (fun cdv A outer s H vs Q E hr h => ?_)
  · obtain ⟨l, ds, d, x, rfl, _⟩ := h
    rfl
  obtain ⟨l, ds, d, x, rfl, hl, hx, hD, q⟩ := h
  refine ⟨_, (pss_cons (ps_asg (pv 0) (pg_lstK K (n := 2) rfl (pgs_cons (pg_name (i := 1) sc.nd rfl (.inl rfl)) (pgs_cons (pg_name (i := 2) sc.nd rfl (.inl rfl)) pgs_nil))))
    (pss_one (ps_ret (pe_ifExp (PW.pt (pw_and (pt_cmpR op_ge (pv 1) pe_int (nomark _)) (pw_and1 (pt_cmpR op_eq (pv 1) (pv 2) (nomark _))))) (pv 1) (pe_gI rfl m_NO_DEPTH))))), ?_⟩
  subst hx
  obtain ⟨c, rfl, rfl⟩ := hD.iput
  refine ⟨_, rfl, l, _, rfl, SqL.of hl, rfl, _, _, rfl, _, _, rfl, rfl, ?_⟩
  refine ⟨_, rfl, _, _, rfl, rfl, _, rfl, ?_⟩
  refine ite2 (fun _ => ?_) (fun z => absurd (decide_eq_true (by omega)) z)
  refine ⟨_, rfl, _, rfl, rfl, _, rfl, ?_⟩
  refine ite2 (fun _ => ?_) (fun z => absurd (decide_eq_true rfl) z)
  exact ⟨_, rfl, q0 q⟩
end
abbrev sOfFlat : Stmt := top 27
theorem scsOfFlat : FnScope ["depths"] ["depths"] (defScope sOfFlat) := ⟨rfl, rfl, rfl, by decide +kernel, rfl, by decide +kernel, by decide +kernel⟩
section
variable {P : Program} {w : World} {K : PySem.W.Frag} {mg : Str → Option Value} {base : Heap} {f : Addr} {fd : FuncData}

theorem ok_of_flat (F : FnP K "of_flat" sOfFlat f fd) {t0 t1 : Tok} (m_NO_DEPTH : mg "NO_DEPTH" = some (.int (-1) t0)) (m_MOST_DEPTH : mg "MOST_DEPTH" = some (.int 3 t1)) : FnOk P w K mg base CX0 1 f fd ["depths"] (spOf (· = .flat)) := by
  have sc := scsOfFlat
  refine F.ok sc (fun vs H Q E h => ?_) (fun cdv A outer s H vs Q E hr h => ?_)
  · obtain ⟨l, ds, d, x, rfl, _⟩ := h
    rfl
  obtain ⟨l, ds, d, x, rfl, hl, hx, hD, q⟩ := h
  refine ⟨_, (pss_one (ps_ret (pe_ifExp (pt_cmpR op_ge (pe_ix (ix_listK K) (pv 0) pe_int (fun _ _ => rfl)) pe_int (nomark _)) (pe_op op_sub (pe_ix (ix_listK K) (pv 0) pe_int (fun _ _ => rfl)) pe_int) (pe_gI rfl m_NO_DEPTH)))), ?_⟩
  subst hx
  obtain ⟨c, rfl, rfl⟩ := hD.iflat
  refine ⟨_, rfl, l, _, _, _, rfl, rfl, SqL.of hl, rfl, _, _, rfl, rfl, _, rfl, ?_⟩
  refine ite2 (fun _ => ?_) (fun z => absurd (decide_eq_true (by omega)) z)
  refine ⟨_, rfl, l, _, _, _, rfl, rfl, SqL.of hl, rfl, _, _, rfl, rfl, ?_⟩
  have e : (((c + 2 : Nat) : Int) - 1) = ((c + 1 : Nat) : Int) := by omega
  show Q (V.int (((c + 2 : Nat) : Int) - 1)) _
  rw [e]
  exact q0 q
end
abbrev sOfEach : Stmt := top 28
theorem scsOfEach : FnScope ["depths"] ["depths"] (defScope sOfEach) := ⟨rfl, rfl, rfl, by decide +kernel, rfl, by decide +kernel, by decide +kernel⟩
section
variable {P : Program} {w : World} {K : PySem.W.Frag} {mg : Str → Option Value} {base : Heap} {f : Addr} {fd : FuncData}

theorem ok_of_each (F : FnP K "of_each" sOfEach f fd) {t0 t1 : Tok} (m_NO_DEPTH : mg "NO_DEPTH" = some (.int (-1) t0)) (m_MOST_DEPTH : mg "MOST_DEPTH" = some (.int 3 t1)) : FnOk P w K mg base CX0 1 f fd ["depths"] (spOf (· = .each)) := by
  have sc := scsOfEach
  refine F.ok sc (fun vs H Q E h => ?_) (fun cdv A outer s H vs Q E hr h => ?_)
  · obtain ⟨l, ds, d, x, rfl, _⟩ := h
    rfl
  obtain ⟨l, ds, d, x, rfl, hl, hx, hD, q⟩ := h
  refine ⟨_, (pss_one (ps_ret (pe_ifExp (pt_cmpR op_lt (pe_ix (ix_listK K) (pv 0) pe_int (fun _ _ => rfl)) (pe_gI rfl m_MOST_DEPTH) (nomark _)) (pe_op op_add (pe_ix (ix_listK K) (pv 0) pe_int (fun _ _ => rfl)) pe_int) (pe_gI rfl m_NO_DEPTH)))), ?_⟩
  subst hx
  obtain ⟨b, c, rfl, rfl, hc⟩ := hD.ieach
  refine ⟨_, rfl, l, _, _, _, rfl, rfl, SqL.of hl, rfl, _, _, rfl, rfl, _, rfl, ?_⟩
  refine ite2 (fun _ => ?_) (fun z => absurd (decide_eq_true (by omega)) z)
  refine ⟨_, rfl, l, _, _, _, rfl, rfl, SqL.of hl, rfl, _, _, rfl, rfl, ?_⟩
  exact q0 q
end
abbrev sOfWhere : Stmt := top 29
theorem scsOfWhere : FnScope ["depths"] ["depths"] (defScope sOfWhere) := ⟨rfl, rfl, rfl, by decide +kernel, rfl, by decide +kernel, by decide +kernel⟩
section
variable {P : Program} {w : World} {K : PySem.W.Frag} {mg : Str → Option Value} {base : Heap} {f : Addr} {fd : FuncData}

theorem ok_of_where (F : FnP K "of_where" sOfWhere f fd) {t0 t1 : Tok} (m_NO_DEPTH : mg "NO_DEPTH" = some (.int (-1) t0)) (m_MOST_DEPTH : mg "MOST_DEPTH" = some (.int 3 t1)) : FnOk P w K mg base CX0 1 f fd ["depths"] (spOf (· = .whr)) := by
  have sc := scsOfWhere
  refine F.ok sc (fun vs H Q E h => ?_) (fun cdv A outer s H vs Q E hr h => ?_)
  · obtain ⟨l, ds, d, x, rfl, _⟩ := h
    rfl
  obtain ⟨l, ds, d, x, rfl, hl, hx, hD, q⟩ := h
  refine ⟨_, (pss_one (ps_ret (pe_ifExp (pt_cmpR op_eq (pe_ix (ix_listK K) (pv 0) pe_int (fun _ _ => rfl)) pe_int (nomark _)) (pe_ix (ix_listK K) (pv 0) pe_int (fun _ _ => rfl)) (pe_gI rfl m_NO_DEPTH)))), ?_⟩
  subst hx
  obtain ⟨b, rfl, rfl⟩ := hD.iwhr
  refine ⟨_, rfl, l, _, _, _, rfl, rfl, SqL.of hl, rfl, rfl, _, rfl, ?_⟩
  refine ite2 (fun _ => ?_) (fun z => absurd rfl z)
  exact ⟨_, rfl, l, _, _, _, rfl, rfl, SqL.of hl, rfl, q0 q⟩
end
end NR
set_option maxHeartbeats 4000000
namespace NR
open PySem PySem.Spec PyProof.Rows L2

def spShape (K : PySem.W.Frag) : Sp := fun vs H Q _ => ∃ (v : V) (x : W) (n : Int) (ps : List Ex), vs = [v] ∧ TIn H v (.node x n ps) ∧ ShOk x n ps.length ∧ Q (.bl true) H
theorem isCallN (x : W) : (!decide (V.str x.str = V.str "call")) = !decide (x.lay = 2) := by rw [isCall]
abbrev sHasShape : Stmt := top 36
theorem scsHasShape : FnScope ["expression", "word"] ["expression"] (defScope sHasShape) := ⟨rfl, rfl, rfl, by decide +kernel, rfl, by decide +kernel, by decide +kernel⟩
section
variable {P : Program} {w : World} {K : PySem.W.Frag} {mg : Str → Option Value} {base : Heap} {f : Addr} {fd : FuncData}

theorem ok_shape (F : FnP K "has_shape" sHasShape f fd) {aN aL : Addr} (m_NUMBERED : mg "NUMBERED" = some (.ref aN)) (hN : ∀ H, SqT K H aN numW) (m_LENGTHS : mg "LENGTHS" = some (.ref aL)) (T_LENGTHS : Tbl K w aL gLen)
    (O_is_number : Okf P w K mg base CX0 1 "is_number" ["value", "last"] spIsNum) (O_last_number : Okf P w K mg base CX0 1 "last_number" ["word"] spLast)
    (z_isinstance : mg "isinstance" = none) (z_tuple : mg "tuple" = none) (z_len : mg "len" = none) (z_str : mg "str" = none) : FnOk P w K mg base CX0 2 f fd ["expression"] (spShape K) := by
  have sc := scsHasShape
  refine F.ok sc (fun vs H Q E h => ?_) (fun cdv A outer s H vs Q E hr h => ?_)
  · obtain ⟨v, x, n, ps, rfl, _⟩ := h
    rfl
  obtain ⟨v, x, n, ps, rfl, ti, sh, q⟩ := h
  obtain ⟨a, xs, rfl, ha, hl, h1, h2, h3, h4⟩ := ti.hd sh
  refine ⟨_, (pss_cons (ps_if (PW.pt (pw_or (pt_not (pt_val (pe_callB (call_isiK K) rfl z_isinstance (by decide +kernel) (pa_cons (pv 0) (pa_cons (pe_bltn (v := .ty "tuple") rfl z_tuple (by decide +kernel) rfl) pa_nil))))) (pw_or1 (pt_cmpR op_eq (pe_callB (call_lenK K) rfl z_len PySem.boot_len (pa_cons (pv 0) pa_nil)) pe_int (nomark _))))) (pss_one (ps_ret pe_bl)) pss_nil)
    (pss_cons (ps_set (i := 1) sc.nd rfl (.inl rfl) (pe_ix (ix_tupK K) (pv 0) pe_int (fun _ _ => rfl)))
    (pss_cons (ps_if (PW.pt (pw_or (pt_not (pt_val (pe_callB (call_isiK K) rfl z_isinstance (by decide +kernel) (pa_cons (pv 1) (pa_cons (pe_bltn (v := .ty "str") rfl z_str (by decide +kernel) rfl) pa_nil))))) (pw_or (pt_cmpR (op_notInTbl T_LENGTHS) (pv 1) (pe_gR rfl m_LENGTHS) (by rfl)) (pw_or1 (pt_cmpR op_ne (pe_callB (call_lenK K) rfl z_len PySem.boot_len (pa_cons (pv 0) pa_nil)) (pe_ix (ix_tbl T_LENGTHS) (pe_gR rfl m_LENGTHS) (pv 1) (fun _ _ => rfl)) (nomark _)))))) (pss_one (ps_ret pe_bl)) pss_nil)
    (pss_cons (ps_if (PW.pt (pw_and (pt_cmpR (op_inK K) (pv 1) (pe_gR rfl m_NUMBERED) (by rfl)) (pw_and1 (pt_not (pt_val (pe_c O_is_number hr rfl pass0 (pa_cons (pe_ix (ix_tupK K) (pv 0) pe_int (fun _ _ => rfl)) (pa_cons (pe_c O_last_number hr rfl pass0 (pa_cons (pv 1) pa_nil)) pa_nil)))))))) (pss_one (ps_ret pe_bl)) pss_nil)
    (pss_one (ps_ret (pe_or (pe_cmpR op_ne (pv 1) pe_str (nomark _)) (pe_one (pe_callB (call_isiK K) rfl z_isinstance (by decide +kernel) (pa_cons (pe_ix (ix_tupK K) (pv 0) pe_int (fun _ _ => rfl)) (pa_cons (pe_bltn (v := .ty "tuple") rfl z_tuple (by decide +kernel) rfl) pa_nil))))))))))), ?_⟩
  refine ⟨_, rfl, _, _, _, _, _, rfl, .ty _, .base (.tup ha), kit_ty (r := true) (by decide +kernel), _, rfl, ?_⟩
  refine ite2 (fun z => nomatch z) (fun _ => ?_)
  refine ⟨_, rfl, a, _, rfl, .inr (SqT.of ha), rfl, _, rfl, ?_⟩
  refine ite2 (fun z => ?_) (fun _ => ?_)
  · have z1 : V.int ((V.str x.str :: xs).length : Int) = V.int 0 := of_decide_eq_true z
    injection z1 with z1
    rw [List.length_cons] at z1
    omega
  refine ⟨_, rfl, a, _, _, .str x.str, rfl, rfl, SqT.of ha, at0, ?_⟩
  refine ⟨_, rfl, _, _, _, _, _, rfl, .ty _, .base (.str _), kit_ty (r := true) (by decide +kernel), _, rfl, ?_⟩
  refine ite2 (fun z => nomatch z) (fun _ => ?_)
  refine ⟨_, rfl, x, _, rfl, rfl, rfl, _, rfl, ?_⟩
  refine ite2 (fun z => nomatch z) (fun _ => ?_)
  refine ⟨_, rfl, a, _, rfl, .inr (SqT.of ha), _, rfl, x, _, rfl, rfl, rfl, rfl, _, rfl, ?_⟩
  have e0 : decide (V.int ((V.str x.str :: xs).length : Int) = V.int (lenOf x : Int)) = true := decide_eq_true (by rw [List.length_cons, hl])
  refine ite2 (fun z => ?_) (fun _ => ?_)
  · rw [e0] at z
    cases z
  dsimp only [tNext]
  refine if_rest (fun H' => H' = H) (fun H' e => ?_) (fun rest => ?_)
  · subst e
    refine ⟨_, rfl, rfl, _, rfl, ?_⟩
    rw [isCallN x]
    refine ite2 (fun c => ?_) (fun c => ?_)
    · exact q
    · have c2 : x.lay = 2 := by
        cases h : decide (x.lay = 2) with
        | true => exact of_decide_eq_true h
        | false => rw [h] at c; exact absurd rfl c
      obtain ⟨b, zs, rfl, hb, hz⟩ := h3 c2
      exact ⟨_, rfl, a, _, _, _, rfl, rfl, SqT.of ha, rfl, _, _, _, _, _, rfl, .ty _, .base (.tup hb), kit_ty (r := true) (by decide +kernel), q⟩
  · refine ⟨_, rfl, aN, _, rfl, .inr (hN _), rfl, flatNum, _, rfl, ?_⟩
    rw [show inV (.str x.str) numW = x.numd from inNum x]
    refine ite2 (fun c => ?_) (fun c => ?_)
    · obtain ⟨ys, rfl⟩ := h1 c
      obtain ⟨n0, n1⟩ := sh.n0 c
      refine ⟨_, rfl, a, _, _, _, rfl, rfl, SqT.of ha, at1, _, rfl, x, rfl, c, n, lastOf x, rfl, _, rfl, ?_⟩
      rw [decide_eq_true n0, decide_eq_true n1]
      exact ite2 (fun z => nomatch z) (fun _ => rest H rfl)
    · exact ite2 (fun z => nomatch z) (fun _ => rest H rfl)
end

/-- the rule of each word keeps its promise -/
def Rls (P : Program) (w : World) (K : PySem.W.Frag) (mg : Str → Option Value) (base : Heap) (k : Nat) (g : W → Option V) : Prop := ∀ (x : W) (ds : List Nat) (d : Nat), Dep x ds d → ∃ (fa : Addr) (fd : FuncData) (S : W → Prop), g x = some (.ref fa) ∧ FnOk P w K mg base CX0 k fa fd ["depths"] (spOf S) ∧ S x ∧ PySem.W.keepIn K (.ref fa) = true ∧ Binds K fd ["depths"] []
def spDepth : Sp := fun vs H Q _ => ∃ (l : Addr) (ds : List Nat) (d : Nat) (x : W), vs = [.str x.str, .ref l] ∧ H l = some (.lst (ds.map dV)) ∧ Dep x ds d ∧ ∀ H', Same H H' → Q (dV d) H'
abbrev sDepthOf : Stmt := top 31
theorem scsDepthOf : FnScope ["word", "depths", "rule"] ["word", "depths"] (defScope sDepthOf) := ⟨rfl, rfl, rfl, by decide +kernel, rfl, by decide +kernel, by decide +kernel⟩
section
variable {P : Program} {w : World} {K : PySem.W.Frag} {mg : Str → Option Value} {base : Heap} {f : Addr} {fd : FuncData}

theorem ok_depth (F : FnP K "depth_of" sDepthOf f fd) {aR : Addr} {g : W → Option V} (m_RULES : mg "RULES" = some (.ref aR)) (T_RULES : Tbl K w aR g) (rl : Rls P w K mg base 1 g) : FnOk P w K mg base CX0 2 f fd ["word", "depths"] spDepth := by
  have sc := scsDepthOf
  refine F.ok sc (fun vs H Q E h => ?_) (fun cdv A outer s H vs Q E hr h => ?_)
  · obtain ⟨l, ds, d, x, rfl, _⟩ := h
    rfl
  obtain ⟨l, ds, d, x, rfl, hl, hD, q⟩ := h
  obtain ⟨fa, fd', S, hg, Fr, hS, kr, br⟩ := rl x ds d hD
  refine ⟨_, (pss_cons (ps_set (i := 2) sc.nd rfl (.inl rfl) (pe_ix (ix_tbl T_RULES) (pe_gR rfl m_RULES) (pv 0) (fun _ _ => rfl)))
    (pss_one (ps_ret (pe_callL (i := 2) Fr hr rfl (.inl rfl) kr br .nil pass0 (pa_cons (pv 1) pa_nil))))), ?_⟩
  exact ⟨_, rfl, x, _, rfl, rfl, hg, rfl, _, rfl, l, ds, d, x, rfl, hl, hS, hD, q⟩
end

/-- let, if, each, where: the first part alone is done ahead -/
def W.bl : W → Bool
  | .ite | .elet | .each | .whr => true
  | _ => false
def aheadOf (x : W) (ps : List Nd) : List Nd := if x.bl = true then ps.take 1 else ps
def blW : List V := [.str "if", .str "let", .str "each", .str "where"]
theorem inBl (x : W) : inV (.str x.str) blW = x.bl := by cases x <;> decide +kernel
def spAhead (C : Addr) : Sp := fun vs H Q _ => ∃ (G : Addr → Prop) (v : V) (fn : Int) (x : W) (p : Nat) (n : Int) (ps : List Nd) (d : Nat), vs = [v] ∧ NdIn H G C fn v (.node x p n ps d) ∧ ∀ (H' : Hp) (l : Addr) (xs : List V), Same H H' → H' l = some (.lst xs) → (G l ∨ H l = none) → NdIns H' G C fn xs (aheadOf x ps) → Q (.ref l) H'
theorem NdIns.take1 {H : Hp} {G : Addr → Prop} {C : Addr} {fn : Int} : ∀ {vs : List V} {es : List Nd}, NdIns H G C fn vs es → NdIns H G C fn (vs.take 1) (es.take 1)
  | _, _, .nil => .nil
  | _, _, .cons h r => by simp only [List.take_succ_cons, List.take_zero]; exact .cons h .nil
/-- what of the class Node must be known -/
structure NdC (K : PySem.W.Frag) (C : Addr) : Prop where
  cl : Cls K C
  word : NoAttr K C "word"
  function : NoAttr K C "function"
  place : NoAttr K C "place"
  number : NoAttr K C "number"
  parts : NoAttr K C "parts"
  depth : NoAttr K C "depth"
theorem cutTo1 (xs : List V) : cutV xs none (some 1) = xs.take 1 := by
  cases xs with
  | nil => rfl
  | cons a t => simp [cutV, HT.sIx]
abbrev sPartsAhead : Stmt := top 41
theorem scsPartsAhead : FnScope ["node"] ["node"] (defScope sPartsAhead) := ⟨rfl, rfl, rfl, by decide +kernel, rfl, by decide +kernel, by decide +kernel⟩
section
variable {P : Program} {w : World} {K : PySem.W.Frag} {mg : Str → Option Value} {base : Heap} {f : Addr} {fd : FuncData}

theorem ok_ahead {C : Addr} (F : FnP K "parts_ahead" sPartsAhead f fd) (N : NdC K C) : FnOk P w K mg base CX0 1 f fd ["node"] (spAhead C) := by
  have sc := scsPartsAhead
  refine F.ok sc (fun vs H Q E h => ?_) (fun cdv A outer s H vs Q E hr h => ?_)
  · obtain ⟨G, v, fn, x, p, n, ps, d, rfl, _⟩ := h
    rfl
  obtain ⟨G, v, fn, x, p, n, ps, d, rfl, hn, q⟩ := h
  cases hn with
  | @mk a dx l _ _ _ _ _ vs g1 g2 h1 h2 h3 =>
  refine ⟨_, (pss_cons (ps_if (pt_cmpR (op_inK K) (pe_fldK K (pv 0) rfl) (pe_tup (pa_cons pe_str (pa_cons pe_str (pa_cons pe_str (pa_cons pe_str pa_nil))))) (by rfl)) (pss_one (ps_ret (pe_slice (sl_listK K) (pe_fldK K (pv 0) rfl) po_none (po_some pe_int)))) pss_nil)
    (pss_one (ps_ret (pe_fldK K (pv 0) rfl)))), ?_⟩
  refine ⟨_, rfl, _, C, _, _, _, rfl, h1, N.cl, N.word, ndF_word, by show 4 ≤ sizeLine; decide, fun p0 hp => ?_⟩
  have s1 := same_new hp (.tup blW)
  refine ⟨p0, _, rfl, .inr (SqT.of upd_same), rfl, rfl, _, rfl, ?_⟩
  have e : (if (false = true) then !inV (.str x.str) blW else inV (.str x.str) blW) = x.bl := inBl x
  refine ite2 (fun c => ?_) (fun c => ?_)
  · have c' : x.bl = true := e.symm.trans c
    refine ⟨_, rfl, _, C, _, _, _, rfl, s1 _ _ h1, N.cl, N.parts, ndF_parts, 1, rfl, _, _, rfl, SqL.of (s1 _ _ h2), fun p1 hp1 => ?_⟩
    have s2 := s1.trans (same_new hp1 (.lst (cutV vs none (some 1))))
    refine q _ p1 _ s2 (by rw [upd_same, cutTo1]) (.inr (s1.free hp1)) ?_
    rw [aheadOf, if_pos c']
    exact (h3.same s2).take1
  · have c' : ¬ x.bl = true := fun z => c (e.trans z)
    refine ⟨_, rfl, _, C, _, _, _, rfl, s1 _ _ h1, N.cl, N.parts, ndF_parts, ?_⟩
    refine q _ _ _ s1 (s1 _ _ h2) (.inl g2) ?_
    rw [aheadOf, if_neg c']
    exact h3.same s1
end

def spNode (C : Addr) : Sp := fun vs H Q _ => ∃ (a dx l : Addr) (fn : Int) (x : W) (p : Nat) (n : Int) (d : Nat), vs = [.ref a, .str x.str, .int fn, .int (p : Int), .int n, .ref l, .int (d : Int)] ∧ H a = some (.ins C dx []) ∧ Q .non (upd H a (.ins C dx (ndF x fn p n l d)))
abbrev sNodeInit : Stmt := inClass (top 40) 0
theorem scsNodeInit : FnScope ["self", "word", "function", "place", "number", "parts", "depth"] ["self", "word", "function", "place", "number", "parts", "depth"] (defScope sNodeInit) := ⟨rfl, rfl, rfl, by decide +kernel, rfl, by decide +kernel, by decide +kernel⟩
section
variable {P : Program} {w : World} {K : PySem.W.Frag} {mg : Str → Option Value} {base : Heap} {f : Addr} {fd : FuncData}

theorem ok_node {C : Addr} (F : FnM K "__init__" "Node.__init__" sNodeInit f fd) (N : NdC K C) : FnOk P w K mg base CX0 1 f fd ["self", "word", "function", "place", "number", "parts", "depth"] (spNode C) := by
  have sc := scsNodeInit
  refine F.ok sc (fun vs H Q E h => ?_) (fun cdv A outer s H vs Q E hr h => ?_)
  · obtain ⟨a, dx, l, fn, x, p, n, d, rfl, _⟩ := h
    rfl
  obtain ⟨a, dx, l, fn, x, p, n, d, rfl, ha, q⟩ := h
  refine ⟨_, (pss_cons (ps_fldK K (pv 0) (pv 1) rfl)
    (pss_cons (ps_fldK K (pv 0) (pv 2) rfl)
    (pss_cons (ps_fldK K (pv 0) (pv 3) rfl)
    (pss_cons (ps_fldK K (pv 0) (pv 4) rfl)
    (pss_cons (ps_fldK K (pv 0) (pv 5) rfl)
    (pss_one (ps_fldK K (pv 0) (pv 6) rfl))))))), ?_⟩
  refine ⟨_, rfl, _, rfl, a, C, dx, _, rfl, ha, N.cl, N.word, by decide, ?_⟩
  refine ⟨_, rfl, _, rfl, a, C, dx, _, rfl, upd_same, N.cl, N.function, by show 1 < 1000; decide, ?_⟩
  rw [upd_upd]
  refine ⟨_, rfl, _, rfl, a, C, dx, _, rfl, upd_same, N.cl, N.place, by show 2 < 1000; decide, ?_⟩
  rw [upd_upd]
  refine ⟨_, rfl, _, rfl, a, C, dx, _, rfl, upd_same, N.cl, N.number, by show 3 < 1000; decide, ?_⟩
  rw [upd_upd]
  refine ⟨_, rfl, _, rfl, a, C, dx, _, rfl, upd_same, N.cl, N.parts, by show 4 < 1000; decide, ?_⟩
  rw [upd_upd]
  refine ⟨_, rfl, _, rfl, a, C, dx, _, rfl, upd_same, N.cl, N.depth, by show 5 < 1000; decide, ?_⟩
  rw [upd_upd]
  exact q
end
end NR
set_option maxHeartbeats 4000000
namespace NR
open PySem PySem.Spec PyProof.Rows L2

/-! ### names in the heap -/
structure Nm (H : Hp) (a : Addr) (ρ : Env1) : Prop where
  ex : ∃ kn : List (Int × Nat), H a = some (.dK (kn.map kvOf)) ∧ (kn.map (·.1)).Nodup ∧ (∀ p ∈ kn, 0 ≤ p.1 ∧ p.1 ≤ 19) ∧ ∀ x d, ρ x = some d → (x, d) ∈ kn
theorem Nm.keep {H H' : Hp} {a : Addr} {ρ : Env1} (n : Nm H a ρ) (k : ∀ o, H a = some o → H' a = some o) : Nm H' a ρ := by
  obtain ⟨kn, h, r⟩ := n.ex
  exact ⟨kn, k _ h, r⟩
theorem few20 {kn : List (Int × Nat)} (nd : (kn.map (·.1)).Nodup) (lo : ∀ p ∈ kn, 0 ≤ p.1 ∧ p.1 ≤ 19) : kn.length ≤ 20 := by
  have := NR.few 20 (kn.map (·.1)) nd fun x hx => by
    obtain ⟨p, hp, rfl⟩ := List.mem_map.mp hx
    have := lo p hp
    omega
  rw [List.length_map] at this
  exact this
theorem put_nm {l : List (Int × Nat)} {ρ : Env1} {x : Int} {d : Nat} (nd : (l.map (·.1)).Nodup) (lo : ∀ p ∈ l, 0 ≤ p.1 ∧ p.1 ≤ 19) (ok : ∀ x d, ρ x = some d → (x, d) ∈ l) (x0 : 0 ≤ x) (x1 : x ≤ 19) :
    ∃ l' : List (Int × Nat), putK (l.map kvOf) (Sum.inl x) (dV d) = l'.map kvOf ∧ (l'.map (·.1)).Nodup ∧ (∀ p ∈ l', 0 ≤ p.1 ∧ p.1 ≤ 19) ∧ ∀ y e, ups ρ x d y = some e → (y, e) ∈ l' := by
  unfold putK
  by_cases h : ((l.map kvOf).any fun kv => decide (kv.1 = Sum.inl x)) = true
  · rw [if_pos h]
    have hx : ∃ p ∈ l, p.1 = x := by
      obtain ⟨kv, h1, h2⟩ := List.any_eq_true.mp h
      obtain ⟨p, hp, rfl⟩ := List.mem_map.mp h1
      exact ⟨p, hp, by simpa [kvOf] using h2⟩
    refine ⟨l.map fun p => if p.1 = x then (p.1, d) else p, ?_, ?_, ?_, ?_⟩
    · rw [List.map_map, List.map_map]
      refine List.map_congr_left fun p _ => ?_
      show (if (Sum.inl p.1 : Key) = Sum.inl x then ((Sum.inl p.1 : Key), dV d) else (Sum.inl p.1, V.int (p.2 : Int))) = kvOf (if p.1 = x then (p.1, d) else p)
      by_cases e : p.1 = x
      · rw [if_pos (by rw [e]), if_pos e]
        rfl
      · rw [if_neg (by simpa using e), if_neg e]
        rfl
    · have e : ((l.map fun p => if p.1 = x then (p.1, d) else p).map (·.1)) = l.map (·.1) := by
        rw [List.map_map]
        refine List.map_congr_left fun p _ => ?_
        show (if p.1 = x then (p.1, d) else p).1 = p.1
        split <;> rfl
      rw [e]
      exact nd
    · intro p hp
      obtain ⟨q, hq, rfl⟩ := List.mem_map.mp hp
      have := lo q hq
      split <;> exact this
    · intro y e hy
      unfold ups at hy
      by_cases c : y = x
      · rw [if_pos c] at hy
        cases hy
        obtain ⟨p, hp, e⟩ := hx
        exact List.mem_map.mpr ⟨p, hp, by rw [if_pos e, e, c]⟩
      · rw [if_neg c] at hy
        exact List.mem_map.mpr ⟨(y, e), ok y e hy, if_neg c⟩
  · rw [if_neg h]
    have hn : ∀ p ∈ l, p.1 ≠ x := fun p hp e => h (List.any_eq_true.mpr ⟨kvOf p, List.mem_map.mpr ⟨p, hp, rfl⟩, by
      show decide ((Sum.inl p.1 : Key) = Sum.inl x) = true
      rw [e]
      simp⟩)
    refine ⟨l ++ [(x, d)], by rw [List.map_append]; rfl, ?_, ?_, ?_⟩
    · rw [List.map_append]
      refine List.nodup_append.mpr ⟨nd, by simp, fun a ha b hb => ?_⟩
      obtain ⟨p, hp, rfl⟩ := List.mem_map.mp ha
      simp only [List.map_cons, List.map_nil, List.mem_singleton] at hb
      rw [hb]
      exact hn p hp
    · intro p hp
      rcases List.mem_append.mp hp with hp | hp
      · exact lo p hp
      · rw [List.mem_singleton.mp hp]
        exact ⟨x0, x1⟩
    · intro y e hy
      unfold ups at hy
      by_cases c : y = x
      · rw [if_pos c] at hy
        cases hy
        rw [c]
        exact List.mem_append_right _ (List.mem_cons_self ..)
      · rw [if_neg c] at hy
        exact List.mem_append_left _ (ok y e hy)
/-! ### the look -/
def lkF (kn : Addr) (fn : Int) (p : Nat) (b : Bool) : List (Str × V) := [("known", .ref kn), ("function", .int fn), ("looked_at", .int (p : Int)), ("calls_itself", .bl b)]
theorem lkF_known {kn fn p b} : (lkF kn fn p b).lookup ("known" : Str) = some (.ref kn) := by rfl
theorem lkF_function {kn fn p b} : (lkF kn fn p b).lookup ("function" : Str) = some (.int fn) := by rfl
theorem lkF_at {kn fn p b} : (lkF kn fn p b).lookup ("looked_at" : Str) = some (.int (p : Int)) := by rfl
theorem lkF_self {kn fn p b} : (lkF kn fn p b).lookup ("calls_itself" : Str) = some (.bl b) := by rfl
theorem lkF_no {kn fn p b} {m : Str} (h : (m == "known") = false ∧ (m == "function") = false ∧ (m == "looked_at") = false ∧ (m == "calls_itself") = false) : (lkF kn fn p b).lookup m = none := by
  obtain ⟨h1, h2, h3, h4⟩ := h
  simp only [lkF, List.lookup_cons, h1, h2, h3, h4, List.lookup_nil]
structure LkC (K : PySem.W.Frag) (C : Addr) : Prop where
  cl : Cls K C
  known : NoAttr K C "known"
  function : NoAttr K C "function"
  looked : NoAttr K C "looked_at"
  self : NoAttr K C "calls_itself"
def spLook (C : Addr) : Sp := fun vs H Q _ => ∃ (a dx kn : Addr) (fn : Int), vs = [.ref a, .ref kn, .int fn] ∧ H a = some (.ins C dx []) ∧ Q .non (upd H a (.ins C dx (lkF kn fn 0 false)))
abbrev sLookInit : Stmt := inClass (top 43) 0
theorem scsLookInit : FnScope ["self", "known", "function"] ["self", "known", "function"] (defScope sLookInit) := ⟨rfl, rfl, rfl, by decide +kernel, rfl, by decide +kernel, by decide +kernel⟩
section
variable {P : Program} {w : World} {K : PySem.W.Frag} {mg : Str → Option Value} {base : Heap} {f : Addr} {fd : FuncData}

theorem ok_look {C : Addr} (F : FnM K "__init__" "Look.__init__" sLookInit f fd) (N : LkC K C) : FnOk P w K mg base CX0 1 f fd ["self", "known", "function"] (spLook C) := by
  have sc := scsLookInit
  refine F.ok sc (fun vs H Q E h => ?_) (fun cdv A outer s H vs Q E hr h => ?_)
  · obtain ⟨a, dx, kn, fn, rfl, _⟩ := h
    rfl
  obtain ⟨a, dx, kn, fn, rfl, ha, q⟩ := h
  refine ⟨_, (pss_cons (ps_fldK K (pv 0) (pv 1) rfl)
    (pss_cons (ps_fldK K (pv 0) (pv 2) rfl)
    (pss_cons (ps_fldK K (pv 0) pe_int rfl)
    (pss_one (ps_fldK K (pv 0) pe_bl rfl))))), ?_⟩
  refine ⟨_, rfl, _, rfl, a, C, dx, _, rfl, ha, N.cl, N.known, by decide, ?_⟩
  refine ⟨_, rfl, _, rfl, a, C, dx, _, rfl, upd_same, N.cl, N.function, by show 1 < 1000; decide, ?_⟩
  rw [upd_upd]
  refine ⟨_, rfl, a, C, dx, _, rfl, upd_same, N.cl, N.looked, by show 2 < 1000; decide, ?_⟩
  rw [upd_upd]
  refine ⟨_, rfl, a, C, dx, _, rfl, upd_same, N.cl, N.self, by show 3 < 1000; decide, ?_⟩
  rw [upd_upd]
  exact q
end

def spRefuse : Sp := fun vs H Q _ => ∃ (a u v : V), vs = [a, .bl false, u, v] ∧ Q .non H
abbrev sLookRefuseIf : Stmt := inClass (top 43) 1
theorem scsLookRefuseIf : FnScope ["self", "wrong", "place", "word"] ["self", "wrong", "place", "word"] (defScope sLookRefuseIf) := ⟨rfl, rfl, rfl, by decide +kernel, rfl, by decide +kernel, by decide +kernel⟩
section
variable {P : Program} {w : World} {K : PySem.W.Frag} {mg : Str → Option Value} {base : Heap} {f : Addr} {fd : FuncData}

theorem ok_refuse (F : FnM K "refuse_if" "Look.refuse_if" sLookRefuseIf f fd) : FnOk P w K mg base CX0 1 f fd ["self", "wrong", "place", "word"] spRefuse := by
  have sc := scsLookRefuseIf
  refine F.ok sc (fun vs H Q E h => ?_) (fun cdv A outer s H vs Q E hr h => ?_)
  · obtain ⟨a, u, v, rfl, _⟩ := h
    rfl
  obtain ⟨a, u, v, rfl, q⟩ := h
  refine ⟨_, (pss_one (ps_if (pt_val (pv 1)) (pss_one ps_never) pss_nil)), ?_⟩
  exact ⟨_, rfl, _, rfl, ite2 (fun z => nomatch z) (fun _ => q)⟩
end

def spMay (K : PySem.W.Frag) (C : Addr) : Sp := fun vs H Q _ => ∃ (a dx kn : Addr) (fn k p : Nat) (b : Bool) (xs : List V) (fs : List (List Nat × Nat)) (ds : List Nat) (d : Nat), vs = [.ref a, .int (k : Int), .int (ds.length : Int)] ∧ H a = some (.ins C dx (lkF kn fn p b)) ∧ H kn = some (.lst xs) ∧ FIns H xs fs ∧ fs[k]? = some (ds, d) ∧ k ≤ fn ∧ (k = fn → b = false) ∧
  ∀ H', SameX a H H' → H' a = some (.ins C dx (lkF kn fn p (b || decide (k = fn)))) → Q (.bl true) H'
abbrev sLookMayCall : Stmt := inClass (top 43) 3
theorem scsLookMayCall : FnScope ["self", "called", "many"] ["self", "called", "many"] (defScope sLookMayCall) := ⟨rfl, rfl, rfl, by decide +kernel, rfl, by decide +kernel, by decide +kernel⟩
section
variable {P : Program} {w : World} {K : PySem.W.Frag} {mg : Str → Option Value} {base : Heap} {f : Addr} {fd : FuncData}

theorem ok_may {C : Addr} (F : FnM K "may_call" "Look.may_call" sLookMayCall f fd) (N : LkC K C) (z_len : mg "len" = none) : FnOk P w K mg base CX0 1 f fd ["self", "called", "many"] (spMay K C) := by
  have sc := scsLookMayCall
  refine F.ok sc (fun vs H Q E h => ?_) (fun cdv A outer s H vs Q E hr h => ?_)
  · obtain ⟨a, dx, kn, fn, k, p, b, xs, fs, ds, d, rfl, _⟩ := h
    rfl
  obtain ⟨a, dx, kn, fn, k, p, b, xs, fs, ds, d, rfl, ha, hk, hf, hfk, hle, hb, q⟩ := h
  refine ⟨_, (pss_cons (ps_if (pt_cmpR op_gt (pv 1) (pe_fldK K (pv 0) rfl) (nomark _)) (pss_one (ps_ret pe_bl)) pss_nil)
    (pss_cons (ps_if (PW.pt (pw_and (pt_cmpR op_eq (pv 1) (pe_fldK K (pv 0) rfl) (nomark _)) (pw_and1 (pt_val (pe_fldK K (pv 0) rfl))))) (pss_one (ps_ret pe_bl)) pss_nil)
    (pss_cons (ps_if (pt_cmpR op_eq (pv 1) (pe_fldK K (pv 0) rfl) (nomark _)) (pss_one (ps_fldK K (pv 0) pe_bl rfl)) pss_nil)
    (pss_one (ps_ret (pe_cmpR op_eq (pv 2) (pe_callB (call_lenK K) rfl z_len PySem.boot_len (pa_cons (pe_ix (ix_tupK K) (pe_ix (ix_listK K) (pe_fldK K (pv 0) rfl) (pv 1) (fun _ _ => rfl)) pe_int (fun _ _ => rfl)) pa_nil)) (nomark _))))))), ?_⟩
  have fin : ∀ H', SameX a H H' → H' a = some (.ins C dx (lkF kn fn p (b || decide (k = fn)))) → ∃ v, (L2.start ["self", "called", "many"] [V.ref a, .int (k : Int), .int (ds.length : Int)])[2]? = some (some v) ∧ ∃ u, (L2.start ["self", "called", "many"] [V.ref a, .int (k : Int), .int (ds.length : Int)])[0]? = some (some u) ∧ True := fun _ _ _ => ⟨_, rfl, _, rfl, trivial⟩
  refine ⟨_, rfl, _, rfl, a, C, dx, _, _, rfl, ha, N.cl, N.function, lkF_function, _, _, rfl, rfl, _, rfl, ?_⟩
  refine ite2 (fun z => absurd (of_decide_eq_true z) (by omega)) (fun _ => ?_)
  dsimp only [tNext]
  refine if_rest (fun H' => H' = H) (fun H1 e => ?_) (fun rest => ?_)
  · subst e
    refine if_rest (fun H' => SameX a H1 H' ∧ H' a = some (.ins C dx (lkF kn fn p (b || decide (k = fn))))) (fun H' e => ?_) (fun rest => ?_)
    · obtain ⟨s1, h1⟩ := e
      have nk : kn ≠ a := ne_of hk ha (by intro z; cases z)
      obtain ⟨t, bb, g1, g2, g3⟩ := hf.get k hfk
      have tk : TK H1 H' := fun y zs hy => s1 _ _ (ne_of hy ha (by intro z; cases z)) hy
      refine ⟨_, rfl, _, rfl, a, C, dx, _, _, rfl, h1, N.cl, N.known, lkF_known, _, rfl, kn, xs, _, _, rfl, rfl, SqL.of (s1 _ _ nk hk), atI_nat g1, t, _, _, _, rfl, rfl, SqT.of (tk _ _ g2), rfl, bb, _, rfl, .inr (SqT.of (tk _ _ g3)), rfl, ?_⟩
      have e2 : decide (V.int (ds.length : Int) = V.int ((ds.map dV).length : Int)) = true := decide_eq_true (by rw [List.length_map])
      show Q (.bl (decide (V.int (ds.length : Int) = V.int ((ds.map dV).length : Int)))) H'
      rw [e2]
      exact q _ s1 h1
    · refine ⟨_, rfl, _, rfl, a, C, dx, _, _, rfl, ha, N.cl, N.function, lkF_function, rfl, _, rfl, ?_⟩
      refine ite2 (fun z => ?_) (fun z => ?_)
      · have z1 : k = fn := by
          have := of_decide_eq_true z
          injection this with this
          omega
        refine ⟨_, rfl, a, C, dx, _, rfl, ha, N.cl, N.self, by show 4 < 1000; decide, rest _ ⟨.upd, ?_⟩⟩
        rw [upd_same, decide_eq_true z1, Bool.or_true]
        rfl
      · have z1 : ¬ k = fn := fun e => z (decide_eq_true (by rw [e]))
        refine rest _ ⟨.refl _ _, ?_⟩
        rw [decide_eq_false z1, Bool.or_false]
        exact ha
  · refine ⟨_, rfl, _, rfl, a, C, dx, _, _, rfl, ha, N.cl, N.function, lkF_function, rfl, _, rfl, ?_⟩
    refine ite2 (fun z => ?_) (fun z => ite2 (fun y => nomatch y) (fun _ => rest _ rfl))
    have z1 : k = fn := by
      have := of_decide_eq_true z
      injection this with this
      omega
    refine ⟨_, rfl, a, C, dx, _, _, rfl, ha, N.cl, N.self, lkF_self, _, rfl, ?_⟩
    rw [hb z1]
    exact ite2 (fun y => nomatch y) (fun _ => rest _ rfl)
end
end NR
set_option maxHeartbeats 4000000
namespace NR
open PySem PySem.Spec PyProof.Rows L2

theorem NdIns.get {H : Hp} {G : Addr → Prop} {C : Addr} {fn : Int} : ∀ {vs : List V} {es : List Nd} (_ : NdIns H G C fn vs es) (i : Nat) {v : V}, vs[i]? = some v → ∃ e, es[i]? = some e ∧ NdIn H G C fn v e
  | _, _, .nil, i, _, h => by simp at h
  | _, _, .cons h1 _, 0, _, h => by
    cases h
    exact ⟨_, rfl, h1⟩
  | _, _, .cons _ r, i + 1, v, h => r.get i h
theorem mapdV (ds : List Nat) : ds.map dV = (ds.map nI).map V.int := by
  rw [List.map_map]
  rfl
inductive DT (fs : List (List Nat × Nat)) (ρ : Env1) : W → Int → List Nd → Nat → Prop
  | name {x : Int} {d : Nat} : ρ x = some d → DT fs ρ .name x [] d
  | call {k : Nat} {nps : List Nd} {ds : List Nat} {d : Nat} : fs[k]? = some (ds, d) → nps.map Nd.d = ds → DT fs ρ .call (k : Int) nps d
  | dep {x : W} {n : Int} {nps : List Nd} {d : Nat} : x ≠ .name → x ≠ .call → Dep x (nps.map Nd.d) d → DT fs ρ x n nps d
def spTold (K : PySem.W.Frag) (C CN : Addr) : Sp := fun vs H Q _ => ∃ (a dx kn nm l : Addr) (fn : Int) (p : Nat) (b : Bool) (xs us : List V) (fs : List (List Nat × Nat)) (ρ : Env1) (x : W) (n : Int) (nps : List Nd) (d : Nat), vs = [.ref a, .str x.str, .int n, .ref l, .ref nm] ∧ H a = some (.ins C dx (lkF kn fn p b)) ∧ H kn = some (.lst xs) ∧ FIns H xs fs ∧ H l = some (.lst us) ∧ NdIns H NT CN fn us nps ∧ us.length ≤ 100 ∧ Nm H nm ρ ∧ DT fs ρ x n nps d ∧ ∀ H', Same H H' → Q (dV d) H'
theorem isName (x : W) : decide (V.str x.str = V.str "name") = decide (x = .name) := by cases x <;> decide +kernel
theorem isCall2 (x : W) : decide (V.str x.str = V.str "call") = decide (x = .call) := by cases x <;> decide +kernel
abbrev sLookDepthTold : Stmt := inClass (top 43) 5
theorem scsLookDepthTold : FnScope ["self", "word", "number", "parts", "names", "depths", "wanted", "depth", "part"] ["self", "word", "number", "parts", "names"] (defScope sLookDepthTold) := ⟨rfl, rfl, rfl, by decide +kernel, rfl, by decide +kernel, by decide +kernel⟩
section
variable {P : Program} {w : World} {K : PySem.W.Frag} {mg : Str → Option Value} {base : Heap} {f : Addr} {fd : FuncData}

theorem ok_told {C CN : Addr} (F : FnM K "depth_told" "Look.depth_told" sLookDepthTold f fd) (N : LkC K C) (ND : NdC K CN) (O_depth_of : Okf P w K mg base CX0 2 "depth_of" ["word", "depths"] spDepth) {t0 : Tok} (m_NO_DEPTH : mg "NO_DEPTH" = some (.int (-1) t0)) (z_list : mg "list" = none) : FnOk P w K mg base CX0 3 f fd ["self", "word", "number", "parts", "names"] (spTold K C CN) := by
  have sc := scsLookDepthTold
  refine F.ok sc (fun vs H Q E h => ?_) (fun cdv A outer s H vs Q E hr h => ?_)
  · obtain ⟨a, dx, kn, nm, l, fn, p, b, xs, us, fs, ρ, x, n, nps, d, rfl, _⟩ := h
    rfl
  have hu := hu_of hr
  obtain ⟨a, dx, kn, nm, l, fn, p, b, xs, us, fs, ρ, x, n, nps, d, rfl, ha, hk, hf, hl, hn, hlen, hm, dt, q⟩ := h
  refine ⟨_, (pss_cons (ps_setLc (i := 5) (own := [("part", 8)]) (by rfl) sc.nd rfl rfl (sw_true rfl rfl rfl (by decide +kernel)) (pi_listK K (pv 3)) (blkOk_by (own := [("part", 8)]) (N := ["self", "word", "number", "parts", "names", "depths", "wanted", "depth", "part"]) (sc := defScope sLookDepthTold) (by decide +kernel)) (fun _ _ _ _ _ => (pg_name (i := 8) sc.nd rfl (.inl rfl))) (fun _ _ _ _ _ => pts_nil) (fun _ _ _ _ _ => (pe_fldK K (pv 8) rfl)))
    (pss_cons (ps_if (pt_cmpR op_eq (pv 1) pe_str (nomark _)) (pss_one (ps_ret (pe_dget hu (pv 4) (pv 2) (fun _ _ => rfl)))) pss_nil)
    (pss_cons (ps_if (pt_cmpR op_eq (pv 1) pe_str (nomark _)) (pss_cons (ps_asg (pe_ix (ix_listK K) (pe_fldK K (pv 0) rfl) (pv 2) (fun _ _ => rfl)) (pg_tupK K (n := 2) rfl (pgs_cons (pg_name (i := 6) sc.nd rfl (.inl rfl)) (pgs_cons (pg_name (i := 7) sc.nd rfl (.inl rfl)) pgs_nil))))
    (pss_one (ps_ret (pe_ifExp (pt_cmpR (op_eqDK K hr.units) (pv 5) (pe_callTy (call_listK K) rfl z_list (by decide +kernel) (pa_cons (pv 6) pa_nil)) (nomark _)) (pv 7) (pe_gI rfl m_NO_DEPTH))))) pss_nil)
    (pss_one (ps_ret (pe_c O_depth_of hr rfl pass0 (pa_cons (pv 1) (pa_cons (pv 5) pa_nil)))))))), ?_⟩
  refine ⟨_, rfl, l, rfl, ⟨_, SqL.of hl⟩, fun D hD => ?_⟩
  have hul := hn.len
  refine lc_list (K := K) (a := l) (xs := us) (fun i H' => H' = upd H D (.lst ((nps.take i).map fun e => dV e.d))) rfl ?_ ?_ ?_
  · rintro i H' _ rfl
    exact (same_new hD _).seq (SqL.of hl)
  · rintro i v H' hi rfl
    obtain ⟨e, he, hin⟩ := hn.get i hi
    cases hin with
    | @mk ea edx el ew ep en eps ed evs _ _ h1 h2 h3 =>
    refine ⟨rfl, ?_⟩
    have hlt : i < nps.length := (List.getElem?_eq_some_iff.mp he).1
    refine ⟨_, rfl, ea, CN, edx, _, _, rfl, same_new hD _ _ _ h1, ND.cl, ND.depth, ndF_depth, _, upd_same, ?_, ?_⟩
    · rw [List.length_map, List.length_take]
      exact small1000 (by omega)
    · rw [upd_upd, List.take_add_one, he, List.map_append]
      rfl
  rintro H' rfl
  have e0 : (nps.take us.length).map (fun e => dV e.d) = (nps.map Nd.d).map dV := by rw [hul, List.take_length, List.map_map]; rfl
  rw [e0]
  have s1 := same_new hD (.lst ((nps.map Nd.d).map dV))
  have eD : upd H D (.lst ((nps.map Nd.d).map dV)) D = some (.lst ((nps.map Nd.d).map dV)) := upd_same
  generalize upd H D (.lst ((nps.map Nd.d).map dV)) = H1 at s1 eD ⊢
  dsimp only [gName]
  refine ⟨_, rfl, rfl, _, rfl, ?_⟩
  rw [isName x]
  refine ite2 (fun c => ?_) (fun c => ?_)
  · have c' : x = .name := of_decide_eq_true c
    subst c'
    cases dt with
    | name h =>
      obtain ⟨kl, g1, g2, g3, g4⟩ := hm.ex
      exact ⟨_, rfl, _, rfl, nm, _, rfl, dget (s1 _ _ g1) (k := Sum.inl n) (valV_kn g2 (g4 _ _ h)), q _ s1⟩
    | dep h _ _ => exact absurd rfl h
  · have c' : x ≠ .name := fun z => c (decide_eq_true z)
    dsimp only [tNext]
    refine ⟨_, rfl, rfl, _, rfl, ?_⟩
    rw [isCall2 x]
    refine ite2 (fun c => ?_) (fun c => ?_)
    · have c2 : x = .call := of_decide_eq_true c
      subst c2
      cases dt with
      | @call k _ ds _ h h' =>
        obtain ⟨t, bb, g1, g2, g3⟩ := hf.get k h
        refine ⟨_, rfl, a, C, dx, _, _, rfl, s1 _ _ ha, N.cl, N.known, lkF_known, _, rfl, kn, xs, _, _, rfl, rfl, SqL.of (s1 _ _ hk), atI_nat g1, t, _, rfl, SqT.of (s1 _ _ g2), rfl, _, _, rfl, _, _, rfl, rfl, ?_⟩
        refine ⟨_, rfl, _, rfl, bb, _, rfl, .inr (SqT.of (s1 _ _ g3)), fun p0 hp0 => ?_⟩
        have s2 := same_new hp0 (.lst (ds.map dV))
        have e2 : (nps.map Nd.d).map dV = (ds.map nI).map V.int := by rw [h', mapdV]
        have e3 : ds.map dV = (ds.map nI).map V.int := mapdV ds
        refine ⟨.list ((ds.map nI).map PyData.int), .list ((ds.map nI).map PyData.int), .lst (SqL.of (s2 _ _ eD)) (by rw [e2]; exact dpInts _), .lst (SqL.of upd_same) (by rw [e3]; exact dpInts _), shapedInts _, shapedInts _, _, rfl, ?_⟩
        rw [SeqAt.eqv_refl (.list ((ds.map nI).map PyData.int)) (show PyData.canLayAll0 _ = true from canInts _)]
        refine ite2 (fun _ => ?_) (fun z => absurd rfl z)
        exact ⟨_, rfl, q _ (s1.trans s2)⟩
      | dep _ h _ => exact absurd rfl h
    · have c2 : x ≠ .call := fun z => c (decide_eq_true z)
      cases dt with
      | name _ => exact absurd rfl c'
      | call _ _ => exact absurd rfl c2
      | dep _ _ h => exact ⟨_, rfl, _, rfl, D, _, d, x, rfl, eD, h, fun H2 s2 => q _ (s1.trans s2)⟩
end
end NR
set_option maxHeartbeats 4000000
namespace NR
open PySem PySem.Spec PyProof.Rows L2

/-- what stands around a look -/
structure LkIn (H : Hp) (C a dx kn : Addr) (fn : Nat) (p : Nat) (b : Bool) (fs : List (List Nat × Nat)) : Prop where
  ha : H a = some (.ins C dx (lkF kn fn p b))
  ex : ∃ xs, H kn = some (.lst xs) ∧ FIns H xs fs
theorem SameX.tkI {a : Addr} {H H' : Hp} {C dx : Addr} {fs : List (Str × V)} (s : SameX a H H') (h : H a = some (.ins C dx fs)) : TK H H' := fun b xs q => s b _ (ne_of q h (by intro z; cases z)) q
theorem LkIn.keep {H H' : Hp} {C a dx kn : Addr} {fn p p' : Nat} {b b' : Bool} {fs : List (List Nat × Nat)} (L : LkIn H C a dx kn fn p b fs) (s : SameX a H H') (h : H' a = some (.ins C dx (lkF kn fn p' b'))) : LkIn H' C a dx kn fn p' b' fs := by
  obtain ⟨xs, h1, h2⟩ := L.ex
  exact ⟨h, xs, s _ _ (ne_of h1 L.ha (by intro z; cases z)) h1, h2.mono (s.tkI L.ha)⟩
theorem LkIn.same {H H' : Hp} {C a dx kn : Addr} {fn p : Nat} {b : Bool} {fs : List (List Nat × Nat)} (L : LkIn H C a dx kn fn p b fs) (s : Same H H') : LkIn H' C a dx kn fn p b fs := L.keep (Same.toX s) (s _ _ L.ha)
theorem Nm.sameX {a m : Addr} {H H' : Hp} {C dx : Addr} {fs : List (Str × V)} {ρ : Env1} (n : Nm H m ρ) (s : SameX a H H') (h : H a = some (.ins C dx fs)) : Nm H' m ρ := by
  obtain ⟨kn, h1, r⟩ := n.ex
  exact ⟨kn, s _ _ (ne_of h1 h (by intro z; cases z)) h1, r⟩
theorem Nm.same {m : Addr} {H H' : Hp} {ρ : Env1} (n : Nm H m ρ) (s : Same H H') : Nm H' m ρ := n.keep fun o h => s _ _ h
theorem New.ne {H : Hp} {a b : Addr} {o : HO} (h : New H b) (ha : H a = some o) : b ≠ a := fun z => by
  rw [New, z, ha] at h
  cases h
theorem Same.new {H H' : Hp} (s : Same H H') {b : Addr} (h : New H' b) : New H b := s.free h
theorem SameX.new' {a : Addr} {H H' : Hp} {o : HO} (s : SameX a H H') (ha : H a = some o) (ha' : ∃ o', H' a = some o') {b : Addr} (h : New H' b) : New H b := by
  cases e : H b with
  | none => exact e
  | some u =>
    by_cases c : b = a
    · obtain ⟨o', h'⟩ := ha'
      rw [New, c, h'] at h
      cases h
    · have := s b u c e
      rw [New, this] at h
      cases h
def spNodeOf (C CN : Addr) (n : Nat) : Sp := fun vs H Q _ => ∃ (a dx kn nm : Addr) (v : V) (fn p : Nat) (b : Bool) (wi : Nat) (fs : List (List Nat × Nat)) (ρ : Env1) (e : Ex) (nd : Nd),
  vs = [.ref a, v, .ref nm, .int (wi : Int)] ∧ LkIn H C a dx kn fn p b fs ∧ TIn H v e ∧ Nm H nm ρ ∧ An (fs.take (fn + 1)) ρ p e nd ∧ e.hgt ≤ n ∧ p + e.size ≤ 60 ∧ wi + e.hgt ≤ 13 ∧ e.selfs fn + b.toNat ≤ 1 ∧
  ∀ (H' : Hp) (v' : V), SameX a H H' → H' a = some (.ins C dx (lkF kn fn (p + e.size) (b || decide (0 < e.selfs fn)))) → NdIn H' (New H) CN fn v' nd → Q v' H'
def spThat (C CN : Addr) (n : Nat) : Sp := fun vs H Q _ => ∃ (a dx kn nm : Addr) (v pz : V) (fn p : Nat) (b : Bool) (wi : Nat) (fs : List (List Nat × Nat)) (ρ : Env1) (x : W) (k : Int) (e1 e2 : Ex) (n1 n2 : Nd),
  vs = [.ref a, v, pz, .ref nm, .int (wi : Int)] ∧ LkIn H C a dx kn fn (p + 1) b fs ∧ TIn H v (.node x k [e1, e2]) ∧ Nm H nm ρ ∧ x.lay = 1 ∧ 0 ≤ k ∧ k ≤ 19 ∧ An (fs.take (fn + 1)) ρ (p + 1) e1 n1 ∧ x.off ≤ n1.d ∧ An (fs.take (fn + 1)) (ups ρ k (n1.d - x.off)) (p + 1 + e1.size) e2 n2 ∧
  e1.hgt ≤ n ∧ e2.hgt ≤ n ∧ p + 1 + e1.size + e2.size ≤ 60 ∧ wi + 1 + e1.hgt ≤ 13 ∧ wi + 1 + e2.hgt ≤ 13 ∧ e1.selfs fn + e2.selfs fn + b.toNat ≤ 1 ∧
  ∀ (H' : Hp) (l : Addr) (vs' : List V), SameX a H H' → H' a = some (.ins C dx (lkF kn fn (p + 1 + e1.size + e2.size) (b || decide (0 < e1.selfs fn + e2.selfs fn)))) → H' l = some (.lst vs') → New H l → NdIns H' (New H) CN fn vs' [n1, n2] → Q (.ref l) H'
theorem orN (b : Bool) (k : Nat) : (b || decide (0 < k)).toNat ≤ b.toNat + k := by
  cases b
  · by_cases h : 0 < k
    · simp [h]; omega
    · simp [h]
  · simp
theorem orOr (b : Bool) (j k : Nat) : ((b || decide (0 < j)) || decide (0 < k)) = (b || decide (0 < j + k)) := by
  cases b
  · by_cases h : 0 < j
    · simp [h]; omega
    · have e : j = 0 := by omega
      simp [e]
  · simp
theorem isLetN {x : W} (h : x.lay = 1) : (!decide (V.str x.str = V.str "let")) = decide (x.off = 1) := by revert h; cases x <;> simp [W.lay] <;> decide +kernel
theorem offOr {x : W} (h : x.lay = 1) : x.off = 0 ∨ x.off = 1 := by cases x <;> simp [W.off]
abbrev sLookPartsThatName : Stmt := inClass (top 43) 4
theorem scsLookPartsThatName : FnScope ["self", "expression", "place", "names", "within", "word", "name", "named", "body", "first", "depth", "second"] ["self", "expression", "place", "names", "within"] (defScope sLookPartsThatName) := ⟨rfl, rfl, rfl, by decide +kernel, rfl, by decide +kernel, by decide +kernel⟩
section
variable {P : Program} {w : World} {K : PySem.W.Frag} {mg : Str → Option Value} {base : Heap} {f : Addr} {fd : FuncData}

theorem ok_that {n k : Nat} {C CN : Addr} (F : FnM K "parts_that_name" "Look.parts_that_name" sLookPartsThatName f fd) (ND : NdC K CN) (M_refuse_if : Okm P w K mg base CX0 k C "refuse_if" ["self", "wrong", "place", "word"] spRefuse)
    (M_node_of : Okm P w K mg base CX0 k C "node_of" ["self", "expression", "names", "within"] (spNodeOf C CN n)) : FnOk P w K mg base CX0 (k + 1) f fd ["self", "expression", "place", "names", "within"] (spThat C CN n) := by
  have sc := scsLookPartsThatName
  refine F.ok sc (fun vs H Q E h => ?_) (fun cdv A outer s H vs Q E hr h => ?_)
  · obtain ⟨a, dx, kn, nm, v, pz, fn, p, b, wi, fs, ρ, x, k, e1, e2, n1, n2, rfl, _⟩ := h
    rfl
  have hu := hu_of hr
  obtain ⟨a, dx, kn, nm, v, pz, fn, p, b, wi, fs, ρ, x, kk, e1, e2, n1, n2, rfl, L, ti, hm, hx, k0, k1, a1, ho, a2, hh1, hh2, hz, hw1, hw2, hs, q⟩ := h
  cases ti with
  | call _ _ _ => cases hx
  | bare h0 _ _ => rw [hx] at h0; cases h0
  | @bind ta _ _ txs _ _ h1 h2 =>
  cases h2 with
  | @cons v1 _ _ _ t1 r1 =>
  cases r1 with
  | @cons v2 _ _ _ t2 r2 =>
  cases r2
  refine ⟨_, (pss_cons (ps_asg (pv 1) (pg_tupK K (n := 4) rfl (pgs_cons (pg_name (i := 5) sc.nd rfl (.inl rfl)) (pgs_cons (pg_name (i := 6) sc.nd rfl (.inl rfl)) (pgs_cons (pg_name (i := 7) sc.nd rfl (.inl rfl)) (pgs_cons (pg_name (i := 8) sc.nd rfl (.inl rfl)) pgs_nil))))))
    (pss_cons (ps_set (i := 9) sc.nd rfl (.inl rfl) (pe_m M_node_of (pv 0) hr pass0 (pa_cons (pv 7) (pa_cons (pv 3) (pa_cons (pe_op op_add (pv 4) pe_int) pa_nil)))))
    (pss_cons (ps_set (i := 10) sc.nd rfl (.inl rfl) (pe_fldK K (pv 9) rfl))
    (pss_cons (ps_if (pt_cmpR op_ne (pv 5) pe_str (nomark _)) (pss_cons (ps_expr (pe_m M_refuse_if (pv 0) hr pass0 (pa_cons (pe_cmpR op_eq (pv 10) pe_int (nomark _)) (pa_cons (pv 2) (pa_cons pe_str pa_nil)))))
    (pss_one (ps_aug (i := 10) sc.nd rfl (.inl rfl) pe_int ip_sub))) pss_nil)
    (pss_cons (ps_set (i := 11) sc.nd rfl (.inl rfl) (pe_m M_node_of (pv 0) hr pass0 (pa_cons (pv 8) (pa_cons (pe_dstar (pv 3) (pv 6) (pv 10)) (pa_cons (pe_op op_add (pv 4) pe_int) pa_nil)))))
    (pss_one (ps_ret (pe_lst (pa_cons (pv 9) (pa_cons (pv 11) pa_nil)))))))))), ?_⟩
  refine ⟨_, rfl, ta, _, rfl, SqT.of h1, rfl, _, _, rfl, _, _, rfl, _, _, rfl, _, _, rfl, rfl, ?_⟩
  refine ⟨_, rfl, a, dx, _, rfl, L.ha, lkF_no (by decide +kernel), _, rfl, _, rfl, _, rfl, _, _, rfl, rfl, a, dx, kn, nm, v1, fn, p + 1, b, wi + 1, fs, ρ, e1, n1, rfl, L, t1, hm, a1, hh1, by omega, by omega, by omega, fun H1 u1 s1 g1 nd1 => ?_⟩
  have tk1 : TK H H1 := s1.tkI L.ha
  have L1 := L.keep s1 g1
  have hm1 := hm.sameX s1 L.ha
  have hd1 : ∃ ea edx efs, u1 = .ref ea ∧ H1 ea = some (.ins CN edx efs) ∧ efs.lookup ("depth" : Str) = some (.int (n1.d : Int)) := by
    cases nd1 with
    | mk _ _ i1 i2 i3 => exact ⟨_, _, _, rfl, i1, ndF_depth⟩
  obtain ⟨ea, edx, efs, rfl, i1, i2⟩ := hd1
  refine ⟨_, rfl, ea, CN, edx, _, _, rfl, i1, ND.cl, ND.depth, i2, ?_⟩
  dsimp only [gName]
  refine if_restS (fun σ' H' => ∃ pz', σ' = [some (.ref a), some (.ref ta), some pz, some (.ref nm), some (.int (wi : Int)), some (.str x.str), some (.int kk), some v1, some v2, some (.ref ea), some (.int ((n1.d - x.off : Nat) : Int)), pz'] ∧ H' = H1) (fun σ' H' e => ?_) (fun rest => ?_)
  · obtain ⟨pz', rfl, rfl⟩ := e
    refine ⟨_, rfl, a, dx, _, rfl, g1, lkF_no (by decide +kernel), _, rfl, fun p0 hp0 => ?_⟩
    obtain ⟨kl, j1, j2, j3, j4⟩ := hm1.ex
    have npm : nm ≠ p0 := ne_of_none j1 hp0
    have hf20 := few20 j2 j3
    refine ⟨_, rfl, nm, _, rfl, npm, by rw [upd_ne npm]; exact j1, upd_same, by rw [List.length_map]; omega, fun q0 hq0 => ?_⟩
    rw [upd_upd] at hq0 ⊢
    have npq : p0 ≠ q0 := fun z => by rw [z, upd_same] at hq0; cases hq0
    have hq1 : H' q0 = none := by rw [upd_ne npq.symm] at hq0; exact hq0
    obtain ⟨kl', m1, m2, m3, m4⟩ := put_nm (d := n1.d - x.off) j2 j3 j4 k0 k1
    refine ⟨_, rfl, _, rfl, by rw [upd_ne npq, upd_same], upd_same, npq, Sum.inl kk, rfl, ?_⟩
    rw [show putK (kl.map kvOf) (Sum.inl kk) (V.int ((n1.d - x.off : Nat) : Int)) = kl'.map kvOf from m1]
    generalize eH2 : upd (upd (upd (upd H' p0 (.dK (kl.map kvOf))) q0 (.dK [])) q0 (.dK [(Sum.inl kk, V.int ((n1.d - x.off : Nat) : Int))])) p0 (.dK (kl'.map kvOf)) = H2
    have s2 : Same H' H2 := fun b o hb => by
      have n1 := ne_of_none hb hp0
      have n2 := ne_of_none hb hq1
      rw [← eH2, upd_ne n1, upd_ne n2, upd_ne n2, upd_ne n1]
      exact hb
    have eq2 : H2 p0 = some (.dK (kl'.map kvOf)) := by rw [← eH2, upd_same]
    refine ⟨_, rfl, _, _, rfl, rfl, a, dx, kn, p0, v2, fn, p + 1 + e1.size, b || decide (0 < e1.selfs fn), wi + 1, fs, _, e2, n2, rfl, L1.same s2, (t2.mono tk1).mono (TK.of s2), ⟨kl', eq2, m2, m3, m4⟩, a2, hh2, by omega, by omega, by have := orN b (e1.selfs fn); omega, fun H3 u2 s3 g3 nd2 => ?_⟩
    refine ⟨_, rfl, _, rfl, by show 2 ≤ sizeLine; decide, fun l hl => ?_⟩
    have s4 := same_new hl (.lst [.ref ea, u2])
    have nn : ∀ b, New H2 b → New H b := fun b h => s1.new' L.ha ⟨_, g1⟩ (Same.new s2 h)
    have nd1' : NdIn H3 (New H) CN fn (.ref ea) n1 := (nd1.same s2).keep (fun _ h => h) fun b' o' g' hb => s3 _ _ (g'.ne L.ha) hb
    have nd2' : NdIn H3 (New H) CN fn u2 n2 := nd2.keep nn fun _ _ _ h => h
    have nl : New H l := by
      have h2 : New H2 l := s3.new' (s2 _ _ g1) ⟨_, g3⟩ hl
      exact nn _ h2
    refine q _ l _ ((s1.trans (Same.toX s2)).trans (s3.trans (Same.toX s4))) (s4 _ _ ?_) upd_same nl (.cons (nd1'.same s4) (.cons (nd2'.same s4) .nil))
    rw [g3, orOr]
  · refine ⟨_, rfl, rfl, _, rfl, ?_⟩
    rw [isLetN hx]
    refine ite2 (fun c => ?_) (fun c => ?_)
    · have c1 : x.off = 1 := of_decide_eq_true c
      have e0 : decide (V.int (n1.d : Int) = V.int 0) = false := decide_eq_false fun z => by
        injection z with z
        omega
      refine ⟨_, rfl, a, dx, _, rfl, g1, lkF_no (by decide +kernel), _, rfl, rfl, _, rfl, .ref a, pz, .str "depth", by rw [e0]; rfl, ?_⟩
      refine ⟨_, rfl, _, _, rfl, rfl, rest _ _ ⟨none, ?_, rfl⟩⟩
      rw [show ((n1.d - x.off : Nat) : Int) = (n1.d : Int) - 1 by omega]
      rfl
    · have c1 : x.off = 0 := by
        rcases offOr hx with h | h
        · exact h
        · exact absurd (decide_eq_true h) c
      refine rest _ _ ⟨none, ?_, rfl⟩
      rw [c1]
      rfl
end
end NR
set_option maxHeartbeats 4000000
namespace NR
open PySem PySem.Spec PyProof.Rows L2

theorem Dep.ar {x : W} {ds : List Nat} {d : Nat} (h : Dep x ds d) (hx : x.lay = 3) : ds.length = x.ar := by
  cases h with
  | two h => rcases h with rfl | rfl | rfl | rfl | rfl <;> rfl
  | num => cases hx
  | elet => cases hx
  | each _ => cases hx
  | whr => cases hx
  | _ => rfl
theorem Ans.len {fs : List (List Nat × Nat)} : ∀ {ρ : Env1} {p : Nat} {es : List Ex} {nds : List Nd}, Ans fs ρ p es nds → es.length = nds.length
  | _, _, _, _, .nil => rfl
  | _, _, _, _, .cons _ r => congrArg (· + 1) r.len
/-- what an annotated expression tells of its own word -/
structure AnI (fs : List (List Nat × Nat)) (ρ : Env1) (p : Nat) (x : W) (k : Int) (ps : List Ex) (nps : List Nd) (d : Nat) : Prop where
  sh : ShOk x k ps.length
  dt : DT fs ρ x k nps d
  nm : x = .name → ∃ d, ρ k = some d
  cl : x = .call → ∃ (j : Nat) (ds : List Nat) (d : Nat), k = (j : Int) ∧ fs[j]? = some (ds, d) ∧ ps.length = ds.length
  pt : (x.lay = 1 ∧ ∃ a b na nb, ps = [a, b] ∧ nps = [na, nb] ∧ 0 ≤ k ∧ k ≤ 19 ∧ An fs ρ (p + 1) a na ∧ x.off ≤ na.d ∧ An fs (ups ρ k (na.d - x.off)) (p + 1 + a.size) b nb) ∨ (x.lay ≠ 1 ∧ Ans fs ρ (p + 1) ps nps)
theorem An.inv {fs : List (List Nat × Nat)} {ρ : Env1} {p : Nat} {e : Ex} {nd : Nd} (h : An fs ρ p e nd) : ∃ x k ps nps d, e = .node x k ps ∧ nd = .node x p k nps d ∧ AnI fs ρ p x k ps nps d := by
  cases h with
  | num h0 h1 => exact ⟨_, _, _, _, _, rfl, rfl, ⟨fun _ => ⟨h0, h1⟩, fun z => (by cases z), fun z => (by cases z)⟩, .dep (by decide) (by decide) .num, fun z => (by cases z), fun z => (by cases z), .inr ⟨by decide, .nil⟩⟩
  | name h0 h1 h2 h3 => exact ⟨_, _, _, _, _, rfl, rfl, ⟨fun _ => ⟨h0, h1⟩, fun z => (by cases z), fun z => (by cases z)⟩, .name h2, fun _ => ⟨_, h2⟩, fun z => (by cases z), .inr ⟨by decide, .nil⟩⟩
  | @bind _ _ w x a b na nb d hw h0 h1 ha ho hb hd =>
    have hl : lastOf w = 19 := by revert hw; cases w <;> simp [W.lay] <;> rfl
    refine ⟨_, _, _, _, _, rfl, rfl, ⟨fun _ => ⟨h0, by rw [hl]; exact h1⟩, fun _ => rfl, fun z => (by omega)⟩, .dep (fun z => (by rw [z] at hw; cases hw)) (fun z => (by rw [z] at hw; cases hw)) hd, fun z => (by rw [z] at hw; cases hw), fun z => (by rw [z] at hw; cases hw), .inl ⟨hw, a, b, na, nb, rfl, rfl, h0, h1, ha, ho, hb⟩⟩
  | @call _ _ k ps nps ds d hk hf hp hd =>
    refine ⟨_, _, _, _, _, rfl, rfl, ⟨fun _ => ⟨by omega, by show (k : Int) ≤ 5; omega⟩, fun z => (by cases z), fun z => (by cases z)⟩, .call hf hd, fun z => (by cases z), fun _ => ⟨k, ds, d, rfl, hf, ?_⟩, .inr ⟨by decide, hp⟩⟩
    rw [hp.len, ← hd, List.length_map]
  | @bare _ _ w ps nps d hw hp hd =>
    refine ⟨_, _, _, _, _, rfl, rfl, ⟨fun z => ?_, fun z => (by omega), fun z => ?_⟩, .dep (fun z => (by rw [z] at hw; cases hw)) (fun z => (by rw [z] at hw; cases hw)) hd, fun z => (by rw [z] at hw; cases hw), fun z => (by rw [z] at hw; cases hw), .inr ⟨by omega, hp⟩⟩
    · unfold W.numd at z
      rw [hw] at z
      cases z
    · have := hd.ar hw
      rw [List.length_map] at this
      rw [hp.len, this]
theorem Ans.get {fs : List (List Nat × Nat)} : ∀ {ρ : Env1} {p : Nat} {es : List Ex} {nds : List Nd} (_ : Ans fs ρ p es nds) (i : Nat) {e : Ex}, es[i]? = some e → ∃ nd, nds[i]? = some nd ∧ An fs ρ (p + sizes (es.take i)) e nd
  | _, _, _, _, .nil, i, _, h => by simp at h
  | _, p, _, _, .cons (e := e0) ha _, 0, _, h => by
    cases h
    exact ⟨_, rfl, ha⟩
  | _, p, _, _, .cons (e := e0) ha r, i + 1, e, h => by
    obtain ⟨nd, h1, h2⟩ := r.get i h
    refine ⟨nd, h1, ?_⟩
    rw [List.take_succ_cons, show sizes (e0 :: List.take i _) = e0.size + sizes (List.take i _) from rfl, ← Nat.add_assoc]
    exact h2
theorem sizes_take : ∀ (es : List Ex) (i : Nat) {e : Ex}, es[i]? = some e → sizes (es.take (i + 1)) = sizes (es.take i) + e.size ∧ sizes (es.take (i + 1)) ≤ sizes es ∧ e.hgt ≤ hgts es
  | [], i, _, h => by simp at h
  | a :: es, 0, _, h => by
    cases h
    simp only [List.take_succ_cons, List.take_zero, sizes, hgts]
    omega
  | a :: es, i + 1, e, h => by
    obtain ⟨h1, h2, h3⟩ := sizes_take es i h
    rw [List.take_succ_cons, List.take_succ_cons]
    simp only [sizes, hgts]
    omega
theorem selfss_take (k : Int) : ∀ (es : List Ex) (i : Nat) {e : Ex}, es[i]? = some e → selfss k (es.take (i + 1)) = selfss k (es.take i) + e.selfs k ∧ selfss k (es.take (i + 1)) ≤ selfss k es
  | [], i, _, h => by simp at h
  | a :: es, 0, _, h => by
    cases h
    simp only [List.take_succ_cons, List.take_zero, selfss]
    omega
  | a :: es, i + 1, e, h => by
    obtain ⟨h1, h2⟩ := selfss_take k es i h
    rw [List.take_succ_cons, List.take_succ_cons]
    simp only [selfss]
    omega
def thatW : List V := [.str "let", .str "each", .str "where"]
theorem inThat (x : W) : inV (.str x.str) thatW = decide (x.lay = 1) := by cases x <;> decide +kernel
theorem andF {c d : Bool} (h : c = true → d = false) : (if c = true then d else false) = false := by
  cases c
  · rfl
  · exact h rfl
abbrev sLookNodeOf : Stmt := inClass (top 43) 2
theorem scsLookNodeOf : FnScope ["self", "expression", "names", "within", "place", "word", "number", "parts", "depth", "part"] ["self", "expression", "names", "within"] (defScope sLookNodeOf) := ⟨rfl, rfl, rfl, by decide +kernel, rfl, by decide +kernel, by decide +kernel⟩
section
variable {P : Program} {w : World} {K : PySem.W.Frag} {mg : Str → Option Value} {base : Heap} {f : Addr} {fd : FuncData}

theorem ok_nodeof {n k : Nat} {C CN : Addr} (F : FnM K "node_of" "Look.node_of" sLookNodeOf f fd) (N : LkC K C) (ND : NdC K CN) (hk : 3 ≤ k) (M_refuse_if : Okm P w K mg base CX0 (k + 1) C "refuse_if" ["self", "wrong", "place", "word"] spRefuse)
    (M_may_call : Okm P w K mg base CX0 (k + 1) C "may_call" ["self", "called", "many"] (spMay K C)) (M_node_of : Okm P w K mg base CX0 (k + 1) C "node_of" ["self", "expression", "names", "within"] (spNodeOf C CN n))
    (M_parts_that_name : Okm P w K mg base CX0 (k + 1) C "parts_that_name" ["self", "expression", "place", "names", "within"] (spThat C CN n)) (M_depth_told : Okm P w K mg base CX0 (k + 1) C "depth_told" ["self", "word", "number", "parts", "names"] (spTold K C CN))
    (C_Node : Okc P w K mg base CX0 k "Node" CN ["self", "word", "function", "place", "number", "parts", "depth"] (spNode CN)) (O_has_shape : Okf P w K mg base CX0 (k + 1) "has_shape" ["expression"] (spShape K)) (O_number_of : Okf P w K mg base CX0 (k + 1) "number_of" ["expression"] (spNumOf K)) (O_parts_of : Okf P w K mg base CX0 (k + 1) "parts_of" ["expression"] (spPartsOf K))
    {t0 t1 t2 : Tok} (m_LAST_PLACE : mg "LAST_PLACE" = some (.int 59 t0)) (m_MOST_WITHIN : mg "MOST_WITHIN" = some (.int 12 t1)) (m_NO_DEPTH : mg "NO_DEPTH" = some (.int (-1) t2)) (z_len : mg "len" = none) : FnOk P w K mg base CX0 (k + 2) f fd ["self", "expression", "names", "within"] (spNodeOf C CN (n + 1)) := by
  have sc := scsLookNodeOf
  refine F.ok sc (fun vs H Q E h => ?_) (fun cdv A outer s H vs Q E hr h => ?_)
  · obtain ⟨a, dx, kn, nm, v, fn, p, b, wi, fs, ρ, e, nd, rfl, _⟩ := h
    rfl
  have hu := hu_of hr
  obtain ⟨a, dx, kn, nm, v, fn, p, b, wi, fs, ρ, e, nd, rfl, L, ti, hm, an, hh, hz, hw, hs, q⟩ := h
  obtain ⟨x, kk, ps, nps, d, rfl, rfl, I⟩ := an.inv
  have hsz : (Ex.node x kk ps).size = 1 + sizes ps := rfl
  have hht : (Ex.node x kk ps).hgt = 1 + hgts ps := rfl
  have hss : (Ex.node x kk ps).selfs fn = (if x = .call ∧ kk = fn then 1 else 0) + selfss fn ps := rfl
  obtain ⟨ta, txs, rfl, th, tl, t1', t2', t3, t4⟩ := ti.hd I.sh
  refine ⟨_, (pss_cons (ps_set (i := 4) sc.nd rfl (.inl rfl) (pe_fldK K (pv 0) rfl))
    (pss_cons (ps_fldaug (pv 0) pe_int in_add)
    (pss_cons (ps_expr (pe_m M_refuse_if (pv 0) hr pass0 (pa_cons (pe_or (pe_cmpR op_gt (pv 4) (pe_gI rfl m_LAST_PLACE) (nomark _)) (pe_one (pe_cmpR op_gt (pv 3) (pe_gI rfl m_MOST_WITHIN) (nomark _)))) (pa_cons (pv 4) (pa_cons pe_str pa_nil)))))
    (pss_cons (ps_expr (pe_m M_refuse_if (pv 0) hr pass0 (pa_cons (pe_not (pe_c O_has_shape hr rfl pass0 (pa_cons (pv 1) pa_nil))) (pa_cons (pv 4) (pa_cons pe_str pa_nil)))))
    (pss_cons (ps_par (by rfl) sc.nd (i := 5) (j := 6) rfl rfl (by decide) rfl rfl (pa_cons (pe_ix (ix_tupK K) (pv 1) pe_int (fun _ _ => rfl)) (pa_cons (pe_c O_number_of hr rfl pass0 (pa_cons (pv 1) pa_nil)) pa_nil)) (by rfl))
    (pss_cons (ps_expr (pe_m M_refuse_if (pv 0) hr pass0 (pa_cons (pe_and (pe_cmpR op_eq (pv 5) pe_str (nomark _)) (pe_one (pe_cmp (pc_dnotin hu (pv 6) (pv 2))))) (pa_cons (pv 4) (pa_cons pe_str pa_nil)))))
    (pss_cons (ps_expr (pe_m M_refuse_if (pv 0) hr pass0 (pa_cons (pe_and (pe_cmpR op_eq (pv 5) pe_str (nomark _)) (pe_one (pe_not (pe_m M_may_call (pv 0) hr pass0 (pa_cons (pv 6) (pa_cons (pe_callB (call_lenK K) rfl z_len PySem.boot_len (pa_cons (pe_ix (ix_tupK K) (pv 1) pe_int (fun _ _ => rfl)) pa_nil)) pa_nil)))))) (pa_cons (pv 4) (pa_cons pe_str pa_nil)))))
    (pss_cons (ps_if (pt_cmpR (op_inK K) (pv 5) (pe_tup (pa_cons pe_str (pa_cons pe_str (pa_cons pe_str pa_nil)))) (by rfl)) (pss_one (ps_set (i := 7) sc.nd rfl (.inl rfl) (pe_m M_parts_that_name (pv 0) hr pass0 (pa_cons (pv 1) (pa_cons (pv 4) (pa_cons (pv 2) (pa_cons (pv 3) pa_nil))))))) (pss_one (ps_setLc (i := 7) (own := [("part", 9)]) (by rfl) sc.nd rfl rfl (sw_true rfl rfl rfl (by decide +kernel)) (pi_listK K (pe_c O_parts_of hr rfl pass0 (pa_cons (pv 1) pa_nil))) (blkOk_by (own := [("part", 9)]) (N := ["self", "expression", "names", "within", "place", "word", "number", "parts", "depth", "part"]) (sc := defScope sLookNodeOf) (by decide +kernel)) (fun _ _ _ _ _ => (pg_name (i := 9) sc.nd rfl (.inl rfl))) (fun _ _ _ _ _ => pts_nil) (fun _ _ _ _ _ => (pe_m M_node_of (pv 0) hr pass0 (pa_cons (pv 9) (pa_cons (pv 2) (pa_cons (pe_op op_add (pv 3) pe_int) pa_nil))))))))
    (pss_cons (ps_set (i := 8) sc.nd rfl (.inl rfl) (pe_m M_depth_told (pv 0) hr pass0 (pa_cons (pv 5) (pa_cons (pv 6) (pa_cons (pv 7) (pa_cons (pv 2) pa_nil))))))
    (pss_cons (ps_expr (pe_m M_refuse_if (pv 0) hr pass0 (pa_cons (pe_cmpR op_eq (pv 8) (pe_gI rfl m_NO_DEPTH) (nomark _)) (pa_cons (pv 4) (pa_cons pe_str pa_nil)))))
    (pss_one (ps_ret (pe_mk C_Node hr rfl pass0 (pa_cons (pv 5) (pa_cons (pe_fldK K (pv 0) rfl) (pa_cons (pv 4) (pa_cons (pv 6) (pa_cons (pv 7) (pa_cons (pv 8) pa_nil))))))))))))))))))), ?_⟩
  refine ⟨_, rfl, a, C, dx, _, _, rfl, L.ha, N.cl, N.looked, lkF_at, ?_⟩
  refine ⟨_, rfl, a, C, dx, _, _, rfl, L.ha, N.cl, N.looked, lkF_at, _, _, rfl, rfl, dx, _, L.ha, by show 4 < 1000; decide, ?_⟩
  have e1 : putF "looked_at" (V.int ((p : Int) + 1)) (lkF kn fn p b) = lkF kn fn (p + 1) b := rfl
  rw [e1]
  have s1 : SameX a H (upd H a (.ins C dx (lkF kn fn (p + 1) b))) := .upd
  have g1 : upd H a (.ins C dx (lkF kn fn (p + 1) b)) a = some (.ins C dx (lkF kn fn (p + 1) b)) := upd_same
  generalize upd H a (.ins C dx (lkF kn fn (p + 1) b)) = H1 at s1 g1 ⊢
  have L1 := L.keep s1 g1
  have tk1 := s1.tkI L.ha
  have ti1 := ti.mono tk1
  have hm1 := hm.sameX s1 L.ha
  have th1 := tk1 _ _ th
  have c1 : decide ((59 : Int) < (p : Int)) = false := decide_eq_false (by omega)
  have c2 : decide ((12 : Int) < (wi : Int)) = false := decide_eq_false (by omega)
  refine ⟨_, rfl, a, dx, _, rfl, g1, lkF_no (by decide +kernel), _, rfl, _, _, rfl, rfl, _, rfl, ?_⟩
  refine ite2 (fun z => absurd (of_decide_eq_true z) (by omega)) (fun _ => ?_)
  refine ⟨_, rfl, _, _, rfl, rfl, _, rfl, .ref a, .int (p : Int), .str "size", by dsimp only; rw [c2]; rfl, ?_⟩
  -- form
  refine ⟨_, rfl, a, dx, _, rfl, g1, lkF_no (by decide +kernel), _, rfl, .ref ta, x, kk, ps, rfl, ti1, I.sh, _, rfl, _, rfl, .ref a, .int (p : Int), .str "form", rfl, ?_⟩
  -- word, number
  refine ⟨_, rfl, ta, _, _, .str x.str, rfl, rfl, SqT.of th1, at0, _, rfl, .ref ta, x, kk, ps, rfl, ti1, I.sh, _, _, rfl, ?_⟩
  -- name
  dsimp only
  refine seq_rest (fun H' => H' = H1) (fun H1' e => ?_) (fun rest => ?_)
  · subst e
    -- call
    refine seq_rest (fun H' => SameX a H1' H' ∧ H' a = some (.ins C dx (lkF kn fn (p + 1) (b || decide (x = .call ∧ kk = fn))))) (fun H2 e => ?_) (fun rest => ?_)
    · obtain ⟨s2, g2⟩ := e
      have L2 := L1.keep s2 g2
      have tk2 := s2.tkI g1
      have ti2 := ti1.mono tk2
      have hm2 := hm1.sameX s2 g1
      have th2 := tk2 _ _ th1
      generalize eb : (b || decide (x = .call ∧ kk = (fn : Int))) = b2 at g2 L2
      have hb2 : selfss fn ps + b2.toNat ≤ 1 := by
        rw [hss] at hs
        rw [← eb]
        by_cases c : x = .call ∧ kk = (fn : Int)
        · rw [if_pos c] at hs
          rw [decide_eq_true c, Bool.or_true, Bool.toNat_true]
          omega
        · rw [if_neg c] at hs
          rw [decide_eq_false c, Bool.or_false]
          omega
      have hb3 : (b2 || decide (0 < selfss fn ps)) = (b || decide (0 < (Ex.node x kk ps).selfs fn)) := by
        rw [hss, ← eb]
        by_cases c : x = .call ∧ kk = (fn : Int)
        · rw [if_pos c, decide_eq_true c, decide_eq_true (show 0 < 1 + selfss fn ps by omega), Bool.or_true, Bool.true_or]
        · rw [if_neg c, decide_eq_false c, Bool.or_false, Nat.zero_add]
      refine if_restS (fun σ' H' => ∃ (l : Addr) (us : List V), σ' = [some (.ref a), some (.ref ta), some (.ref nm), some (.int (wi : Int)), some (.int (p : Int)), some (.str x.str), some (.int kk), some (.ref l), none, none] ∧ SameX a H2 H' ∧ H' a = some (.ins C dx (lkF kn fn (p + 1 + sizes ps) (b2 || decide (0 < selfss fn ps)))) ∧ H' l = some (.lst us) ∧ New H2 l ∧ NdIns H' (New H2) CN fn us nps) (fun σ' H3 e => ?_) (fun rest => ?_)
      · obtain ⟨l, us, rfl, s3, g3, hl, nl, hn⟩ := e
        have nn : ∀ b, New H2 b → New H b := fun b h => s1.new' L.ha ⟨_, g1⟩ (s2.new' g1 ⟨_, g2⟩ h)
        have L3 := L2.keep s3 g3
        have hm3 := hm2.sameX s3 g2
        obtain ⟨xs, k1, k2⟩ := L3.ex
        have hul : us.length ≤ 100 := by
          have h1 := hn.len
          have h2 := an.sz
          have h3 := nsizes_len nps
          have h4 : (Nd.node x p kk nps d).size = 1 + nsizes nps := rfl
          omega
        have dt' : DT fs ρ x kk nps d := by
          cases I.dt with
          | name h => exact .name h
          | call h h' => exact .call (by rw [List.getElem?_take] at h; split at h; exact h; cases h) h'
          | dep h1 h2 h3 => exact .dep h1 h2 h3
        refine ⟨_, rfl, a, dx, _, rfl, g3, lkF_no (by decide +kernel), _, rfl, _, rfl, _, rfl, _, rfl, a, dx, kn, nm, l, fn, _, _, xs, us, fs, ρ, x, kk, nps, d, rfl, g3, k1, k2, hl, hn.any, hul, hm3, dt', fun H4 s4 => ?_⟩
        have g4 := s4 _ _ g3
        have c5 : decide (V.int (d : Int) = V.int (-1)) = false := decide_eq_false fun z => by
          injection z with z
          omega
        refine ⟨_, rfl, a, dx, _, rfl, g4, lkF_no (by decide +kernel), _, rfl, rfl, _, rfl, .ref a, .int (p : Int), .str "depth", by rw [show decide (dV d = V.int (-1)) = false from c5]; rfl, ?_⟩
        refine ⟨_, rfl, _, rfl, a, C, dx, _, _, rfl, g4, N.cl, N.function, lkF_function, _, rfl, _, rfl, _, rfl, _, rfl, fun o odx no nodx nox => ?_⟩
        refine ⟨o, odx, l, fn, x, p, kk, d, rfl, upd_same, rfl, ?_⟩
        rw [upd_upd]
        generalize eH5 : upd (upd H4 odx (.own o)) o (.ins CN odx (ndF x fn p kk l d)) = H5
        have s5 : Same H4 H5 := fun b' o' hb => by
          rw [← eH5, upd_ne (ne_of_none hb no), upd_ne (ne_of_none hb nodx)]
          exact hb
        refine q _ _ (s1.trans (s2.trans (s3.trans (Same.toX (s4.trans s5))))) (s5 _ _ ?_) (.mk (dx := odx) (l := l) (nn _ (s3.new' g2 ⟨_, g3⟩ (Same.new s4 no))) (nn _ nl) (by rw [← eH5, upd_same]) (s5 _ _ (s4 _ _ hl)) (((hn.keep nn fun _ _ _ h => h).same s4).same s5))
        rw [g4, hb3, hsz, Nat.add_assoc]
      · refine ⟨_, rfl, by show 3 ≤ sizeLine; decide, fun p0 hp0 => ?_⟩
        have sp := same_new hp0 (.tup thatW)
        refine ⟨p0, _, rfl, .inr (SqT.of upd_same), rfl, rfl, _, rfl, ?_⟩
        have ew : (if (false = true) then !inV (.str x.str) thatW else inV (.str x.str) thatW) = decide (x.lay = 1) := inThat x
        have gp := sp _ _ g2
        refine ite2 (fun c => ?_) (fun c => ?_)
        · rcases I.pt with ⟨h1, ea, eb', na, nb, rfl, rfl, k0, k1, a1, ho, a2⟩ | ⟨h1, _⟩
          · have hs2 : selfss (fn : Int) [ea, eb'] = ea.selfs fn + eb'.selfs fn := by simp only [selfss, Nat.add_zero]
            have hz2 : sizes [ea, eb'] = ea.size + eb'.size := by simp only [sizes, Nat.add_zero]
            have hg2 : hgts [ea, eb'] = max ea.hgt eb'.hgt := by simp only [hgts, Nat.max_zero]
            rw [hs2] at hb2
            refine ⟨_, rfl, a, dx, _, rfl, gp, lkF_no (by decide +kernel), _, rfl, _, rfl, _, rfl, _, rfl, a, dx, kn, nm, .ref ta, .int (p : Int), fn, p, b2, wi, fs, ρ, x, kk, ea, eb', na, nb, rfl, L2.same sp, ti2.mono (TK.of sp), hm2.same sp, h1, k0, k1, a1, ho, a2, by omega, by omega, by omega, by omega, by omega, hb2, fun H3 l vs' s3 g3 hl nl hn => ?_⟩
            refine rest _ _ ⟨l, vs', rfl, (Same.toX sp).trans s3, ?_, hl, Same.new sp nl, hn.keep (fun _ h => Same.new sp h) fun _ _ _ h => h⟩
            rw [g3, hs2, hz2, Nat.add_assoc]
          · exact absurd (of_decide_eq_true (ew.symm.trans c)) h1
        · have c' : x.lay ≠ 1 := fun z => c (ew.trans (decide_eq_true z))
          rcases I.pt with ⟨h1, _⟩ | ⟨_, as⟩
          · exact absurd h1 c'
          refine ⟨_, rfl, .ref ta, x, kk, ps, rfl, ti2.mono (TK.of sp), I.sh, fun H3 l xs s3 hl tis => ⟨l, rfl, ⟨_, SqL.of hl⟩, fun D hD => ?_⟩⟩
          have g3 := s3 _ _ gp
          have nDa : a ≠ D := ne_of_none g3 hD
          have nDl : l ≠ D := ne_of_none hl hD
          have nla : l ≠ a := ne_of hl g3 (by intro z; cases z)
          have L3 := (L2.same sp).same s3
          have hm3 := (hm2.same sp).same s3
          have sD := same_new hD (.lst [])
          have hxl := tis.len
          have hasl := as.len
          have hps : ps.length ≤ 100 := by
            have h2 := an.sz
            have h3 := nsizes_len nps
            have h4 : (Nd.node x p kk nps d).size = 1 + nsizes nps := rfl
            omega
          refine lc_list (K := K) (a := l) (xs := xs) (fun i H' => ∃ acc, H' D = some (.lst acc) ∧ NdIns H' (fun b => New H3 b ∧ b ≠ D) CN fn acc (nps.take i) ∧ H' a = some (.ins C dx (lkF kn fn (p + 1 + sizes (ps.take i)) (b2 || decide (0 < selfss fn (ps.take i))))) ∧ ∀ b' o', b' ≠ a → H3 b' = some o' → H' b' = some o') ⟨[], upd_same, .nil, ?_, fun b' o' _ hb => sD _ _ hb⟩ ?_ ?_ ?_
          · rw [upd_ne nDa, g3, List.take_zero, show sizes [] = 0 from rfl, show selfss (fn : Int) [] = 0 from rfl]
            simp
          · rintro i H' _ ⟨acc, _, _, _, k⟩
            exact SqL.of (k _ _ nla hl)
          · rintro i v H' hi ⟨acc, e1, e2, e3, k⟩
            obtain ⟨e, he, te⟩ := tis.get i hi
            obtain ⟨nd, hnd, ane⟩ := as.get i he
            obtain ⟨z1, z2, z3⟩ := sizes_take ps i he
            obtain ⟨y1, y2⟩ := selfss_take fn ps i he
            have sX : SameX a H3 H' := fun b' o' n' hb => k _ _ n' hb
            have tk : TK H3 H' := sX.tkI g3
            have hlen : acc.length ≤ 100 := by
              have h1 := e2.len
              rw [List.length_take] at h1
              omega
            refine ⟨rfl, ?_⟩
            refine ⟨_, rfl, a, dx, _, rfl, e3, lkF_no (by decide +kernel), _, rfl, _, rfl, _, rfl, _, _, rfl, rfl, a, dx, kn, nm, v, fn, p + 1 + sizes (ps.take i), b2 || decide (0 < selfss fn (ps.take i)), wi + 1, fs, ρ, e, nd, rfl, L3.keep sX e3, te.mono tk, hm3.sameX sX g3, ane, by omega, by omega, by omega, by have := orN b2 (selfss fn (ps.take i)); omega, fun H4 u s4 g4 hu4 => ?_⟩
            have eD4 : H4 D = some (.lst acc) := s4 _ _ nDa.symm e1
            refine ⟨acc, eD4, small1000 (by omega), acc ++ [u], upd_same, ?_, ?_, fun b' o' n' hb => ?_⟩
            · have ki : ∀ b', New H' b' → New H3 b' ∧ b' ≠ D := fun b' h => by
                refine ⟨?_, h.ne e1⟩
                cases e : H3 b' with
                | none => exact e
                | some o' =>
                  have na : b' ≠ a := h.ne e3
                  have hq := k _ _ na e
                  rw [New, hq] at h
                  cases h
              have nds : NdIns H4 (fun b => New H3 b ∧ b ≠ D) CN fn acc (nps.take i) := e2.keep (fun _ h => h) fun b' o' g' hb => s4 _ _ (g'.1.ne g3) hb
              have nu : NdIn H4 (fun b => New H3 b ∧ b ≠ D) CN fn u nd := hu4.keep ki fun _ _ _ h => h
              rw [List.take_add_one, hnd]
              exact (nds.snoc nu).keep (fun _ h => h) fun b' o' g' hb => by rw [upd_ne g'.2]; exact hb
            · rw [upd_ne nDa, g4, orOr, y1, z1, Nat.add_assoc]
            · rw [upd_ne (ne_of_none hb hD)]
              exact s4 _ _ n' (k _ _ n' hb)
          · rintro H' ⟨acc, e1, e2, e3, k⟩
            rw [List.take_of_length_le (by omega)] at e2
            rw [List.take_of_length_le (by omega)] at e3
            have n32 : ∀ b', New H3 b' → New H2 b' := fun b' h => Same.new sp (Same.new s3 h)
            exact rest _ _ ⟨D, acc, rfl, fun b' o' n' hb => k _ _ n' (s3 _ _ (sp _ _ hb)), e3, e1, n32 _ hD, e2.keep (fun _ h => n32 _ h.1) fun _ _ _ h => h⟩
    · refine ⟨_, rfl, a, dx, _, rfl, g1, lkF_no (by decide +kernel), _, rfl, rfl, _, rfl, ?_⟩
      rw [isCall2 x]
      refine ite2 (fun z => ?_) (fun z => ?_)
      · have z1 : x = .call := of_decide_eq_true z
        obtain ⟨j, ds, dd, rfl, hj, hl⟩ := I.cl z1
        subst z1
        obtain ⟨tb, zs, rfl, hb, hz'⟩ := t3 rfl
        have hjf : j ≤ fn ∧ fs[j]? = some (ds, dd) := by
          rw [List.getElem?_take] at hj
          split at hj
          · exact ⟨by omega, hj⟩
          · cases hj
        obtain ⟨xs, k1, k2⟩ := L1.ex
        refine ⟨_, rfl, a, dx, _, rfl, g1, lkF_no (by decide +kernel), _, rfl, _, rfl, ta, _, _, _, rfl, rfl, SqT.of th1, rfl, tb, _, rfl, .inr (SqT.of (tk1 _ _ hb)), a, dx, kn, fn, j, p + 1, b, xs, fs, ds, dd, ?_, g1, k1, k2, hjf.2, hjf.1, fun ej => ?_, fun H2 s2 g2 => ?_⟩
        · rw [hz'.len, hl]
          rfl
        · cases b with
          | false => rfl
          | true =>
            rw [hss, if_pos ⟨rfl, by rw [ej]⟩] at hs
            simp at hs
        · refine ⟨_, rfl, _, rfl, .ref a, .int (p : Int), .str "call", rfl, rest _ ⟨s2, ?_⟩⟩
          rw [g2]
          have e9 : decide (j = fn) = decide (W.call = W.call ∧ (j : Int) = (fn : Int)) := by
            by_cases h9 : j = fn
            · simp [h9]
            · have : ¬ (j : Int) = (fn : Int) := by omega
              simp [h9, this]
          rw [e9]
      · have z1 : ¬ (x = .call ∧ kk = fn) := fun y => z (decide_eq_true y.1)
        refine ⟨_, rfl, .ref a, .int (p : Int), .str "call", rfl, rest _ ⟨.refl _ _, ?_⟩⟩
        rw [decide_eq_false z1, Bool.or_false]
        exact g1
  · refine ⟨_, rfl, a, dx, _, rfl, g1, lkF_no (by decide +kernel), _, rfl, rfl, _, rfl, ?_⟩
    rw [isName x]
    refine ite2 (fun z => ?_) (fun z => ⟨_, rfl, .ref a, .int (p : Int), .str "name", rfl, rest _ rfl⟩)
    obtain ⟨dd, hd⟩ := I.nm (of_decide_eq_true z)
    obtain ⟨kl, j1, j2, j3, j4⟩ := hm1.ex
    exact ⟨_, rfl, _, rfl, nm, _, rfl, dget j1 (k := Sum.inl kk) (valV_kn j2 (j4 _ _ hd)), _, rfl, .ref a, .int (p : Int), .str "name", rfl, rest _ rfl⟩
end
end NR
set_option maxHeartbeats 4000000
namespace NR
open PySem PySem.Spec PyProof.Rows L2

def spParam : Sp := fun vs H Q _ => ∃ (a : Addr) (x : Int) (d : Nat), vs = [.ref a] ∧ H a = some (.tup [.int x, dV d]) ∧ 0 ≤ x ∧ x ≤ 19 ∧ d ≤ 3 ∧ Q (.bl true) H
abbrev sIsParam : Stmt := top 45
theorem scsIsParam : FnScope ["param"] ["param"] (defScope sIsParam) := ⟨rfl, rfl, rfl, by decide +kernel, rfl, by decide +kernel, by decide +kernel⟩
section
variable {P : Program} {w : World} {K : PySem.W.Frag} {mg : Str → Option Value} {base : Heap} {f : Addr} {fd : FuncData}

theorem ok_param (F : FnP K "is_param" sIsParam f fd) (O_is_number : Okf P w K mg base CX0 1 "is_number" ["value", "last"] spIsNum) {t0 t1 : Tok} (m_LAST_NAME : mg "LAST_NAME" = some (.int 19 t0)) (m_MOST_DEPTH : mg "MOST_DEPTH" = some (.int 3 t1)) (z_isinstance : mg "isinstance" = none) (z_tuple : mg "tuple" = none) (z_len : mg "len" = none) : FnOk P w K mg base CX0 2 f fd ["param"] spParam := by
  have sc := scsIsParam
  refine F.ok sc (fun vs H Q E h => ?_) (fun cdv A outer s H vs Q E hr h => ?_)
  · obtain ⟨a, x, d, rfl, _⟩ := h
    rfl
  obtain ⟨a, x, d, rfl, ha, x0, x1, hd, q⟩ := h
  refine ⟨_, (pss_cons (ps_if (PW.pt (pw_or (pt_not (pt_val (pe_callB (call_isiK K) rfl z_isinstance (by decide +kernel) (pa_cons (pv 0) (pa_cons (pe_bltn (v := .ty "tuple") rfl z_tuple (by decide +kernel) rfl) pa_nil))))) (pw_or1 (pt_cmpR op_ne (pe_callB (call_lenK K) rfl z_len PySem.boot_len (pa_cons (pv 0) pa_nil)) pe_int (nomark _))))) (pss_one (ps_ret pe_bl)) pss_nil)
    (pss_one (ps_ret (pe_and (pe_c O_is_number hr rfl pass0 (pa_cons (pe_ix (ix_tupK K) (pv 0) pe_int (fun _ _ => rfl)) (pa_cons (pe_gI rfl m_LAST_NAME) pa_nil))) (pe_one (pe_c O_is_number hr rfl pass0 (pa_cons (pe_ix (ix_tupK K) (pv 0) pe_int (fun _ _ => rfl)) (pa_cons (pe_gI rfl m_MOST_DEPTH) pa_nil)))))))), ?_⟩
  refine ⟨_, rfl, _, _, _, _, _, rfl, .ty _, .base (.tup ha), kit_ty (r := true) (by decide +kernel), _, rfl, ?_⟩
  refine ite2 (fun z => nomatch z) (fun _ => ?_)
  refine ⟨_, rfl, a, _, rfl, .inr (SqT.of ha), rfl, _, rfl, ?_⟩
  refine ite2 (fun z => absurd (show false = true from z) Bool.false_ne_true) (fun _ => ?_)
  refine ⟨_, rfl, a, _, _, _, rfl, rfl, SqT.of ha, rfl, x, 19, rfl, _, rfl, ?_⟩
  rw [decide_eq_true x0, decide_eq_true x1]
  refine ite2 (fun _ => ?_) (fun z => absurd rfl z)
  refine ⟨_, rfl, a, _, _, _, rfl, rfl, SqT.of ha, rfl, (d : Int), 3, rfl, ?_⟩
  rw [decide_eq_true (show (0 : Int) ≤ (d : Int) by omega), decide_eq_true (show (d : Int) ≤ 3 by omega)]
  exact q
end

def spHasFace (K : PySem.W.Frag) : Sp := fun vs H Q _ => ∃ (a : Addr) (pz bz : V) (ps : List (Int × Nat)) (d : Nat), vs = [.ref a] ∧ H a = some (.tup [pz, dV d, bz]) ∧ PtIn H pz ps ∧ FaceOk ps d ∧ ∀ H', Same H H' → Q (.bl true) H'
theorem SqT.frz {K : PySem.W.Frag} {H : Hp} {a : Addr} {o : Obj} {xs : List V} (h : H a = some (.frz o (.tup xs))) : SqT K H a xs := .inl (.inr ⟨o, h⟩)
theorem allTrue (n : Nat) : (List.replicate n true).all id = true := by simp
abbrev sHasFace : Stmt := top 44
theorem scsHasFace : FnScope ["function", "params", "depth", "param"] ["function"] (defScope sHasFace) := ⟨rfl, rfl, rfl, by decide +kernel, rfl, by decide +kernel, by decide +kernel⟩
section
variable {P : Program} {w : World} {K : PySem.W.Frag} {mg : Str → Option Value} {base : Heap} {f : Addr} {fd : FuncData}

theorem ok_hasface (F : FnP K "has_face" sHasFace f fd) (O_is_number : Okf P w K mg base CX0 2 "is_number" ["value", "last"] spIsNum) (O_is_param : Okf P w K mg base CX0 2 "is_param" ["param"] spParam) {t0 t1 : Tok} (m_MOST_PARAMS : mg "MOST_PARAMS" = some (.int 4 t0)) (m_MOST_DEPTH : mg "MOST_DEPTH" = some (.int 3 t1))
    (z_isinstance : mg "isinstance" = none) (z_tuple : mg "tuple" = none) (z_len : mg "len" = none) (z_all : mg "all" = none) (z_set : mg "set" = none) : FnOk P w K mg base CX0 3 f fd ["function"] (spHasFace K) := by
  have sc := scsHasFace
  refine F.ok sc (fun vs H Q E h => ?_) (fun cdv A outer s H vs Q E hr h => ?_)
  · obtain ⟨a, pz, bz, ps, d, rfl, _⟩ := h
    rfl
  obtain ⟨a, pz, bz, ps, d, rfl, ha, hp, fo, q⟩ := h
  obtain ⟨pt, o, vs, rfl, h1, h2, h3⟩ := hp.ex
  have hl := h3.len
  have fw := fo.few
  have fd3 := fo.hd
  refine ⟨_, (pss_cons (ps_if (PW.pt (pw_or (pt_not (pt_val (pe_callB (call_isiK K) rfl z_isinstance (by decide +kernel) (pa_cons (pv 0) (pa_cons (pe_bltn (v := .ty "tuple") rfl z_tuple (by decide +kernel) rfl) pa_nil))))) (pw_or1 (pt_cmpR op_ne (pe_callB (call_lenK K) rfl z_len PySem.boot_len (pa_cons (pv 0) pa_nil)) pe_int (nomark _))))) (pss_one (ps_ret pe_bl)) pss_nil)
    (pss_cons (ps_par (by rfl) sc.nd (i := 1) (j := 2) rfl rfl (by decide) rfl rfl (pa_cons (pe_ix (ix_tupK K) (pv 0) pe_int (fun _ _ => rfl)) (pa_cons (pe_ix (ix_tupK K) (pv 0) pe_int (fun _ _ => rfl)) pa_nil)) (by rfl))
    (pss_cons (ps_if (PW.pt (pw_or (pt_not (pt_val (pe_callB (call_isiK K) rfl z_isinstance (by decide +kernel) (pa_cons (pv 1) (pa_cons (pe_bltn (v := .ty "tuple") rfl z_tuple (by decide +kernel) rfl) pa_nil))))) (pw_or (pt_cmpR op_gt (pe_callB (call_lenK K) rfl z_len PySem.boot_len (pa_cons (pv 1) pa_nil)) (pe_gI rfl m_MOST_PARAMS) (nomark _)) (pw_or1 (pt_not (pt_val (pe_c O_is_number hr rfl pass0 (pa_cons (pv 2) (pa_cons (pe_gI rfl m_MOST_DEPTH) pa_nil))))))))) (pss_one (ps_ret pe_bl)) pss_nil)
    (pss_cons (ps_if (pt_not (pt_val (pe_callB (cr_allK K rfl) rfl z_all (by decide +kernel) (pa_cons (pe_lc (own := [("param", 3)]) (by rfl) sc.nd (pi_tupK K (pv 1)) (blkOk_by (own := [("param", 3)]) (N := ["function", "params", "depth", "param"]) (sc := defScope sHasFace) (by decide +kernel)) (fun _ _ _ _ _ => (pg_name (i := 3) sc.nd rfl (.inl rfl))) (fun _ _ _ _ _ => pts_nil) (fun _ _ _ _ _ => (pe_c O_is_param hr rfl pass0 (pa_cons (pv 3) pa_nil)))) pa_nil)))) (pss_one (ps_ret pe_bl)) pss_nil)
    (pss_one (ps_ret (pe_cmpR op_eq (RZ.pe_lenSetI rfl z_len rfl z_set (pe_lc (own := [("param", 3)]) (by rfl) sc.nd (pi_tupK K (pv 1)) (blkOk_by (own := [("param", 3)]) (N := ["function", "params", "depth", "param"]) (sc := defScope sHasFace) (by decide +kernel)) (fun _ _ _ _ _ => (pg_name (i := 3) sc.nd rfl (.inl rfl))) (fun _ _ _ _ _ => pts_nil) (fun _ _ _ _ _ => (pe_ix (ix_tupK K) (pv 3) pe_int (fun _ _ => rfl))))) (pe_callB (call_lenK K) rfl z_len PySem.boot_len (pa_cons (pv 1) pa_nil)) (nomark _)))))))), ?_⟩
  refine ⟨_, rfl, _, _, _, _, _, rfl, .ty _, .base (.tup ha), kit_ty (r := true) (by decide +kernel), _, rfl, ?_⟩
  refine ite2 (fun z => nomatch z) (fun _ => ?_)
  refine ⟨_, rfl, a, _, rfl, .inr (SqT.of ha), rfl, _, rfl, ?_⟩
  refine ite2 (fun z => absurd (show false = true from z) Bool.false_ne_true) (fun _ => ?_)
  refine ⟨_, rfl, a, _, _, _, rfl, rfl, SqT.of ha, rfl, _, rfl, a, _, _, _, rfl, rfl, SqT.of ha, rfl, _, _, rfl, ?_⟩
  refine ⟨_, rfl, _, _, _, _, _, rfl, .ty _, .fTuple h1, kit_ty (r := true) (by decide +kernel), _, rfl, ?_⟩
  refine ite2 (fun z => nomatch z) (fun _ => ?_)
  refine ⟨_, rfl, pt, _, rfl, .inr (SqT.frz h1), _, _, rfl, rfl, _, rfl, ?_⟩
  refine ite2 (fun z => absurd (of_decide_eq_true z) (by omega)) (fun _ => ?_)
  refine ⟨_, rfl, (d : Int), 3, rfl, _, rfl, ?_⟩
  rw [decide_eq_true (show (0 : Int) ≤ (d : Int) by omega), decide_eq_true (show (d : Int) ≤ 3 by omega)]
  refine ite2 (fun z => nomatch z) (fun _ => ?_)
  -- all
  refine ⟨_, rfl, pt, rfl, ⟨_, SqT.frz h1⟩, fun D hD => ?_⟩
  have sD := same_new hD (.lst [])
  refine lc_tup (K := K) (a := pt) (xs := vs) (fun i H' => H' = upd H D (.lst ((List.replicate i true).map V.bl))) rfl ?_ ?_ ?_
  · rintro i H' _ rfl
    exact SqT.frz (same_new hD _ _ _ h1)
  · rintro i v H' hi rfl
    obtain ⟨ea, x, dd, rfl, e1, e2⟩ := h3.get i hi
    have lo := fo.lo _ (List.mem_of_getElem? e1)
    have hi' : i < vs.length := (List.getElem?_eq_some_iff.mp hi).1
    refine ⟨rfl, ?_⟩
    refine ⟨_, rfl, ea, x, dd, rfl, same_new hD _ _ _ e2, lo.1, lo.2.1, lo.2.2, _, upd_same, ?_, ?_⟩
    · rw [List.length_map, List.length_replicate]
      exact small1000 (by omega)
    · rw [upd_upd, List.replicate_succ', List.map_append]
      rfl
  rintro H' rfl
  have s1 := same_new hD (.lst ((List.replicate vs.length true).map V.bl))
  refine ⟨D, _, rfl, SqL.of upd_same, _, rfl, ?_⟩
  rw [allTrue]
  refine ite2 (fun z => nomatch z) (fun _ => ?_)
  generalize upd H D (.lst ((List.replicate vs.length true).map V.bl)) = H1 at s1 ⊢
  have h1' := s1 _ _ h1
  have h3' := h3.mono (TK.of s1)
  refine ⟨_, rfl, pt, rfl, ⟨_, SqT.frz h1'⟩, fun D2 hD2 => ?_⟩
  refine lc_tup (K := K) (a := pt) (xs := vs) (fun i H' => H' = upd H1 D2 (.lst (((ps.take i).map (·.1)).map V.int))) rfl ?_ ?_ ?_
  · rintro i H' _ rfl
    exact SqT.frz (same_new hD2 _ _ _ h1')
  · rintro i v H' hi rfl
    obtain ⟨ea, x, dd, rfl, e1, e2⟩ := h3'.get i hi
    have hi' : i < vs.length := (List.getElem?_eq_some_iff.mp hi).1
    refine ⟨rfl, ?_⟩
    refine ⟨_, rfl, ea, _, _, _, rfl, rfl, SqT.of (same_new hD2 _ _ _ e2), rfl, _, upd_same, ?_, ?_⟩
    · rw [List.length_map, List.length_map, List.length_take]
      exact small1000 (by omega)
    · rw [upd_upd, List.take_add_one, e1, List.map_append, List.map_append]
      rfl
  rintro H' rfl
  rw [hl, List.take_length]
  have s2 := same_new hD2 (.lst ((ps.map (·.1)).map V.int))
  refine ⟨D2, _, rfl, SqL.of upd_same, fo.nd, by rw [List.length_map]; omega, _, rfl, pt, _, rfl, .inr (SqT.frz (s2 _ _ h1')), rfl, ?_⟩
  have e9 : decide (V.int (((ps.map (·.1)).length : Nat) : Int) = V.int ((vs.length : Nat) : Int)) = true := decide_eq_true (by rw [List.length_map, hl])
  show Q (.bl (decide (V.int (((ps.map (·.1)).length : Nat) : Int) = V.int ((vs.length : Nat) : Int)))) _
  rw [e9]
  exact q _ (s1.trans s2)
end
end NR
set_option maxHeartbeats 4000000
namespace NR
open PySem PySem.Spec PyProof.Rows L2

theorem PgIns.get {H : Hp} : ∀ {vs fs} (_ : PgIns H vs fs) (i : Nat) {v : V}, vs[i]? = some v → ∃ (a : Addr) (pz bz : V) (f : Fn), v = .ref a ∧ fs[i]? = some f ∧ H a = some (.tup [pz, dV f.d, bz]) ∧ PtIn H pz f.ps ∧ TIn H bz f.e
  | _, _, .nil, i, _, h => by simp at h
  | _, _, .cons h1 h2 h3 _, 0, _, h => by
    cases h
    exact ⟨_, _, _, _, rfl, rfl, h1, h2, h3⟩
  | _, _, .cons _ _ _ r, i + 1, v, h => r.get i h
def spFaces (K : PySem.W.Frag) : Sp := fun vs H Q _ => ∃ (a : Addr) (us : List V) (prog : List Fn), vs = [.ref a] ∧ H a = some (.tup us) ∧ PgIns H us prog ∧ Good prog ∧ 1 ≤ prog.length ∧ ∀ (H' : Hp) (l : Addr) (xs : List V), Same H H' → H' l = some (.lst xs) → FIns H' xs (facesOf prog) → Q (.ref l) H'
abbrev sToldFaces : Stmt := top 46
theorem scsToldFaces : FnScope ["program", "told", "at", "function", "param"] ["program"] (defScope sToldFaces) := ⟨rfl, rfl, rfl, by decide +kernel, rfl, by decide +kernel, by decide +kernel⟩
section
variable {P : Program} {w : World} {K : PySem.W.Frag} {mg : Str → Option Value} {base : Heap} {f : Addr} {fd : FuncData}

theorem ok_faces (F : FnP K "told_faces" sToldFaces f fd) (O_has_face : Okf P w K mg base CX0 3 "has_face" ["function"] (spHasFace K)) {t0 : Tok} (m_MOST_FUNCTIONS : mg "MOST_FUNCTIONS" = some (.int 6 t0)) (z_len : mg "len" = none) (z_enumerate : mg "enumerate" = none) (z_tuple : mg "tuple" = none) : FnOk P w K mg base CX0 4 f fd ["program"] (spFaces K) := by
  have sc := scsToldFaces
  refine F.ok sc (fun vs H Q E h => ?_) (fun cdv A outer s H vs Q E hr h => ?_)
  · obtain ⟨a, us, prog, rfl, _⟩ := h
    rfl
  obtain ⟨a, us, prog, rfl, ha, hp, good, h1, q⟩ := h
  have hl := hp.len
  have few := good.few
  refine ⟨_, PSs.nox (pss_cons (ps_if (pt_cmpR op_eq (pe_callB (call_lenK K) rfl z_len PySem.boot_len (pa_cons (pv 0) pa_nil)) pe_int (nomark _)) (pss_one ps_never) pss_nil)
    (pss_cons (ps_set (i := 1) sc.nd rfl (.inl rfl) (pe_lst pa_nil))
    (pss_cons (ps_for PassesOwn.never rfl (pi_enumTK K rfl z_enumerate (pa_cons (pv 0) pa_nil)) (pg_tupK K (n := 2) rfl (pgs_cons (pg_name (i := 2) sc.nd rfl (.inl rfl)) (pgs_cons (pg_name (i := 3) sc.nd rfl (.inl rfl)) pgs_nil))) (pss_cons (ps_if (pt_cmpR op_ge (pv 2) (pe_gI rfl m_MOST_FUNCTIONS) (nomark _)) (pss_one ps_never) pss_nil)
    (pss_cons (ps_if (pt_not (pt_val (pe_c O_has_face hr rfl pass0 (pa_cons (pv 3) pa_nil)))) (pss_one ps_never) pss_nil)
    (pss_one (ps_expr (pe_bm PySem.F.plainAttrs_list PySem.F.slot_list_append PySem.F.type_list_append mt_append (pv 1) (pa_cons (pe_tup (pa_cons (pe_callTy (call_tupleK K) rfl z_tuple (by decide +kernel) (pa_cons (pe_lc (own := [("param", 4)]) (by rfl) sc.nd (pi_tupK K (pe_ix (ix_tupK K) (pv 3) pe_int (fun _ _ => rfl))) (blkOk_by (own := [("param", 4)]) (N := ["program", "told", "at", "function", "param"]) (sc := defScope sToldFaces) (by decide +kernel)) (fun _ _ _ _ _ => (pg_name (i := 4) sc.nd rfl (.inl rfl))) (fun _ _ _ _ _ => pts_nil) (fun _ _ _ _ _ => (pe_ix (ix_tupK K) (pv 4) pe_int (fun _ _ => rfl)))) pa_nil)) (pa_cons (pe_ix (ix_tupK K) (pv 3) pe_int (fun _ _ => rfl)) pa_nil))) pa_nil)))))))
    (pss_one (ps_ret (pv 1)))))), ?_⟩
  refine ⟨_, rfl, a, _, rfl, .inr (SqT.of ha), rfl, _, rfl, ?_⟩
  refine ite2 (fun z => ?_) (fun _ => ?_)
  · have z1 : V.int (us.length : Int) = V.int 0 := of_decide_eq_true z
    injection z1 with z1
    omega
  refine ⟨by show 0 ≤ sizeLine; decide, fun l hl0 => ?_⟩
  have s0 := same_new hl0 (.lst [])
  refine ⟨_, rfl, a, us, rfl, SqT.of (s0 _ _ ha), for_it (walk_enumT (K := K) (a := a) (xs := us)) (fun i σ H' => ∃ (xs : List V) (x1 x2 x3 : Option V), σ = [some (.ref a), some (.ref l), x1, x2, x3] ∧ Same H H' ∧ H' l = some (.lst xs) ∧ FIns H' xs (facesOf (prog.take i))) ⟨[], none, none, none, rfl, s0, upd_same, .nil⟩ ?_ ?_ ?_⟩
  · rintro i σ H' _ ⟨xs, x1, x2, x3, rfl, s1, _, _⟩
    exact SqT.of (s1 _ _ ha)
  · rintro i x σ H1 H2 hi ⟨xs, x1, x2, x3, rfl, s1, g1, g2⟩ ⟨T, y, z, rfl, hT, rfl, e1, e2⟩
    cases e1
    obtain ⟨fa, pz, bz, f0, rfl, e3, e4, e5, e6⟩ := hp.get i e2
    have sT := same_new hT (.tup [.int (i : Nat), .ref fa])
    have s2 := s1.trans sT
    obtain ⟨fo, _⟩ := good.fn i f0 e3
    have hxl := g2.len
    have hip : i < prog.length := by omega
    refine ⟨T, _, rfl, SqT.of upd_same, rfl, _, _, rfl, _, _, rfl, rfl, ?_⟩
    refine ⟨_, rfl, _, _, rfl, rfl, _, rfl, ?_⟩
    refine ite2 (fun z => absurd (of_decide_eq_true z) (by omega)) (fun _ => ?_)
    refine ⟨_, rfl, fa, pz, bz, f0.ps, f0.d, rfl, s2 _ _ e4, e5.mono (IK.of s2), fo, fun H3 s3 => ⟨_, rfl, ?_⟩⟩
    refine ite2 (fun z => nomatch z) (fun _ => ?_)
    have s4 := s2.trans s3
    obtain ⟨pt, o, vs, rfl, p1, p2, p3⟩ := (e5.mono (IK.of s4)).ex
    have hpl := p3.len
    have fw := fo.few
    have gl := s3 _ _ (sT _ _ g1)
    refine ⟨_, rfl, .inl ⟨rfl, _, SqL.of gl⟩, _, rfl, fa, _, _, _, rfl, rfl, SqT.of (s4 _ _ e4), rfl, pt, rfl, ⟨_, SqT.frz p1⟩, fun D hD => ?_⟩
    refine lc_tup (K := K) (a := pt) (xs := vs) (fun i H' => H' = upd H3 D (.lst ((f0.ps.take i).map fun p => dV p.2))) rfl ?_ ?_ ?_
    · rintro i H' _ rfl
      exact SqT.frz (same_new hD _ _ _ p1)
    · rintro j v H' hj rfl
      obtain ⟨ea, xx, dd, rfl, r1, r2⟩ := p3.get j hj
      have hj' : j < vs.length := (List.getElem?_eq_some_iff.mp hj).1
      refine ⟨rfl, ?_⟩
      refine ⟨_, rfl, ea, _, _, _, rfl, rfl, SqT.of (same_new hD _ _ _ r2), rfl, _, upd_same, ?_, ?_⟩
      · rw [List.length_map, List.length_take]
        exact small1000 (by omega)
      · rw [upd_upd, List.take_add_one, r1, List.map_append]
        rfl
    rintro H' rfl
    rw [hpl, List.take_length]
    have sD := same_new hD (.lst (f0.ps.map fun p => dV p.2))
    refine ⟨D, _, rfl, .inl ⟨SqL.of upd_same, fun t1 ht1 => ?_⟩⟩
    have s5 := same_new ht1 (.tup (f0.ps.map fun p => dV p.2))
    have s6 := s4.trans (sD.trans s5)
    refine ⟨_, rfl, fa, _, _, _, rfl, rfl, SqT.of (s6 _ _ e4), rfl, by show 2 ≤ sizeLine; decide, fun t2 ht2 => ?_⟩
    have s7 := same_new ht2 (.tup [.ref t1, dV f0.d])
    have s8 := (sD.trans s5).trans s7
    have gl8 := s8 _ _ gl
    have hxs : xs.length ≤ 6 := by
      rw [hxl]
      unfold facesOf
      rw [List.length_map, List.length_take]
      omega
    refine ⟨l, xs, _, rfl, rfl, gl8, small1000 (by omega), xs ++ [.ref t2], _, _, _, rfl, ?_, upd_same, ?_⟩
    · intro b o hb
      rw [upd_ne (ne_of_none hb hl0)]
      exact s8 _ _ (s4 _ _ hb)
    · have kk := TK.lst (ys := xs ++ [.ref t2]) gl8
      have e9 : facesOf (prog.take (i + 1)) = facesOf (prog.take i) ++ [(f0.ps.map (·.2), f0.d)] := by
        unfold facesOf
        rw [List.take_add_one, e3, List.map_append]
        rfl
      rw [e9]
      refine FIns.snoc (kk _ _ upd_same) (kk _ _ ?_) (((g2.mono (TK.of sT)).mono (TK.of s3)).mono ((TK.of s8).trans kk))
      rw [List.map_map]
      exact s7 _ _ upd_same
  · rintro σ H' ⟨xs, x1, x2, x3, rfl, s1, g1, g2⟩
    rw [List.take_of_length_le (by omega)] at g2
    exact ⟨_, rfl, q _ _ _ s1 g1 g2⟩
end
end NR
set_option maxHeartbeats 4000000
namespace NR
open PySem PySem.Spec PyProof.Rows L2

def fmF (nl dl : Addr) (b : V) : List (Str × V) := [("names", .ref nl), ("depths", .ref dl), ("body", b)]
theorem fmF_names {nl dl b} : (fmF nl dl b).lookup ("names" : Str) = some (.ref nl) := by rfl
theorem fmF_depths {nl dl b} : (fmF nl dl b).lookup ("depths" : Str) = some (.ref dl) := by rfl
theorem fmF_body {nl dl b} : (fmF nl dl b).lookup ("body" : Str) = some b := by rfl
structure FmC (K : PySem.W.Frag) (C : Addr) : Prop where
  cl : Cls K C
  names : NoAttr K C "names"
  depths : NoAttr K C "depths"
  body : NoAttr K C "body"
def spForm (C : Addr) : Sp := fun vs H Q _ => ∃ (a dx nl dl : Addr) (b : V), vs = [.ref a, .ref nl, .ref dl, b] ∧ H a = some (.ins C dx []) ∧ Q .non (upd H a (.ins C dx (fmF nl dl b)))
/-- a form in the heap -/
structure FmIn (H : Hp) (G : Addr → Prop) (CF CN : Addr) (fn : Int) (v : V) (ps : List (Int × Nat)) (nd : Nd) : Prop where
  ex : ∃ (a dx nl dl : Addr) (b : V), v = .ref a ∧ G a ∧ G nl ∧ G dl ∧ H a = some (.ins CF dx (fmF nl dl b)) ∧ H nl = some (.lst (ps.map fun p => .int p.1)) ∧ H dl = some (.lst (ps.map fun p => dV p.2)) ∧ NdIn H G CN fn b nd
theorem FmIn.keep {H H' : Hp} {G G' : Addr → Prop} {CF CN : Addr} {fn : Int} {v : V} {ps : List (Int × Nat)} {nd : Nd} (h : FmIn H G CF CN fn v ps nd) (g : ∀ b, G b → G' b) (s : ∀ b o, G b → H b = some o → H' b = some o) : FmIn H' G' CF CN fn v ps nd := by
  obtain ⟨a, dx, nl, dl, b, e, g1, g2, g3, h1, h2, h3, h4⟩ := h.ex
  exact ⟨a, dx, nl, dl, b, e, g _ g1, g _ g2, g _ g3, s _ _ g1 h1, s _ _ g2 h2, s _ _ g3 h3, h4.keep g s⟩
abbrev sFormInit : Stmt := inClass (top 42) 0
theorem scsFormInit : FnScope ["self", "names", "depths", "body"] ["self", "names", "depths", "body"] (defScope sFormInit) := ⟨rfl, rfl, rfl, by decide +kernel, rfl, by decide +kernel, by decide +kernel⟩
section
variable {P : Program} {w : World} {K : PySem.W.Frag} {mg : Str → Option Value} {base : Heap} {f : Addr} {fd : FuncData}

theorem ok_form {C : Addr} (F : FnM K "__init__" "Form.__init__" sFormInit f fd) (N : FmC K C) : FnOk P w K mg base CX0 1 f fd ["self", "names", "depths", "body"] (spForm C) := by
  have sc := scsFormInit
  refine F.ok sc (fun vs H Q E h => ?_) (fun cdv A outer s H vs Q E hr h => ?_)
  · obtain ⟨a, dx, nl, dl, b, rfl, _⟩ := h
    rfl
  obtain ⟨a, dx, nl, dl, b, rfl, ha, q⟩ := h
  refine ⟨_, (pss_cons (ps_fldK K (pv 0) (pv 1) rfl)
    (pss_cons (ps_fldK K (pv 0) (pv 2) rfl)
    (pss_one (ps_fldK K (pv 0) (pv 3) rfl)))), ?_⟩
  refine ⟨_, rfl, _, rfl, a, C, dx, _, rfl, ha, N.cl, N.names, by decide, ?_⟩
  refine ⟨_, rfl, _, rfl, a, C, dx, _, rfl, upd_same, N.cl, N.depths, by show 1 < 1000; decide, ?_⟩
  rw [upd_upd]
  refine ⟨_, rfl, _, rfl, a, C, dx, _, rfl, upd_same, N.cl, N.body, by show 2 < 1000; decide, ?_⟩
  rw [upd_upd]
  exact q
end

def spFormOf (K : PySem.W.Frag) (CF CN : Addr) : Sp := fun vs H Q _ => ∃ (a l : Addr) (i : Nat) (pz bz : V) (f : Fn) (xs : List V) (fs : List (List Nat × Nat)) (nd : Nd), vs = [.ref a, .int (i : Int), .ref l] ∧ H a = some (.tup [pz, dV f.d, bz]) ∧ PtIn H pz f.ps ∧ TIn H bz f.e ∧ FaceOk f.ps f.d ∧ H l = some (.lst xs) ∧ FIns H xs fs ∧
  An (fs.take (i + 1)) (envOf f.ps) 0 f.e nd ∧ nd.d = f.d ∧ f.e.size ≤ 60 ∧ f.e.hgt ≤ 13 ∧ f.e.selfs i ≤ 1 ∧ ∀ (H' : Hp) (v : V), Same H H' → FmIn H' (New H) CF CN i v f.ps nd → Q v H'
theorem envOf_some {ps : List (Int × Nat)} {x : Int} {d : Nat} (h : envOf ps x = some d) : (x, d) ∈ ps := by
  unfold envOf at h
  cases e : ps.find? fun p => decide (p.1 = x) with
  | none =>
    rw [e] at h
    cases h
  | some p =>
    rw [e] at h
    cases h
    have h1 := List.mem_of_find?_eq_some e
    have h2 : p.1 = x := by simpa using List.find?_some e
    rw [← h2]
    exact h1
abbrev sFormOf : Stmt := top 47
theorem scsFormOf : FnScope ["function", "at", "told", "params", "depth", "body", "look", "node", "param"] ["function", "at", "told"] (defScope sFormOf) := ⟨rfl, rfl, rfl, by decide +kernel, rfl, by decide +kernel, by decide +kernel⟩
section
variable {P : Program} {w : World} {K : PySem.W.Frag} {mg : Str → Option Value} {base : Heap} {f : Addr} {fd : FuncData}

theorem ok_formof {k : Nat} {CL CF CN : Addr} (F : FnP K "form_of" sFormOf f fd) (NL : LkC K CL) (NF : FmC K CF) (ND : NdC K CN) (C_Look : Okc P w K mg base CX0 k "Look" CL ["self", "known", "function"] (spLook CL)) (C_Form : Okc P w K mg base CX0 k "Form" CF ["self", "names", "depths", "body"] (spForm CF))
    (M_node_of : Okm P w K mg base CX0 (k + 1) CL "node_of" ["self", "expression", "names", "within"] (spNodeOf CL CN 13)) (M_refuse_if : Okm P w K mg base CX0 (k + 1) CL "refuse_if" ["self", "wrong", "place", "word"] spRefuse) (z_dict : mg "dict" = none) : FnOk P w K mg base CX0 (k + 2) f fd ["function", "at", "told"] (spFormOf K CF CN) := by
  have sc := scsFormOf
  refine F.ok sc (fun vs H Q E h => ?_) (fun cdv A outer s H vs Q E hr h => ?_)
  · obtain ⟨a, l, i, pz, bz, f0, xs, fs, nd, rfl, _⟩ := h
    rfl
  have hu := hu_of hr
  obtain ⟨a, l, i, pz, bz, f0, xs, fs, nd, rfl, ha, hp, ti, fo, hl, hf, an, hd, hz, hh, hs, q⟩ := h
  obtain ⟨pt, o, vs, rfl, p1, p2, p3⟩ := hp.ex
  have fw := fo.few
  have hpl := p3.len
  refine ⟨_, (pss_cons (ps_asg (pv 0) (pg_tupK K (n := 3) rfl (pgs_cons (pg_name (i := 3) sc.nd rfl (.inl rfl)) (pgs_cons (pg_name (i := 4) sc.nd rfl (.inl rfl)) (pgs_cons (pg_name (i := 5) sc.nd rfl (.inl rfl)) pgs_nil)))))
    (pss_cons (ps_set (i := 6) sc.nd rfl (.inl rfl) (pe_mk C_Look hr rfl pass0 (pa_cons (pv 2) (pa_cons (pv 1) pa_nil))))
    (pss_cons (ps_set (i := 7) sc.nd rfl (.inl rfl) (pe_m M_node_of (pv 6) hr pass0 (pa_cons (pv 5) (pa_cons (pe_callTy (call_dictT K rfl) rfl z_dict (by decide +kernel) (pa_cons (pv 3) pa_nil)) (pa_cons pe_int pa_nil)))))
    (pss_cons (ps_expr (pe_m M_refuse_if (pv 6) hr pass0 (pa_cons (pe_cmpR op_ne (pe_fldK K (pv 7) rfl) (pv 4) (nomark _)) (pa_cons pe_int (pa_cons pe_str pa_nil)))))
    (pss_one (ps_ret (pe_mk C_Form hr rfl pass0 (pa_cons (pe_lc (own := [("param", 8)]) (by rfl) sc.nd (pi_tupK K (pv 3)) (blkOk_by (own := [("param", 8)]) (N := ["function", "at", "told", "params", "depth", "body", "look", "node", "param"]) (sc := defScope sFormOf) (by decide +kernel)) (fun _ _ _ _ _ => (pg_name (i := 8) sc.nd rfl (.inl rfl))) (fun _ _ _ _ _ => pts_nil) (fun _ _ _ _ _ => (pe_ix (ix_tupK K) (pv 8) pe_int (fun _ _ => rfl)))) (pa_cons (pe_lc (own := [("param", 8)]) (by rfl) sc.nd (pi_tupK K (pv 3)) (blkOk_by (own := [("param", 8)]) (N := ["function", "at", "told", "params", "depth", "body", "look", "node", "param"]) (sc := defScope sFormOf) (by decide +kernel)) (fun _ _ _ _ _ => (pg_name (i := 8) sc.nd rfl (.inl rfl))) (fun _ _ _ _ _ => pts_nil) (fun _ _ _ _ _ => (pe_ix (ix_tupK K) (pv 8) pe_int (fun _ _ => rfl)))) (pa_cons (pv 7) pa_nil)))))))))), ?_⟩
  refine ⟨_, rfl, a, _, rfl, SqT.of ha, rfl, _, _, rfl, _, _, rfl, _, _, rfl, rfl, ?_⟩
  refine ⟨_, rfl, _, rfl, fun lo ldx nlo nldx nne => ⟨lo, ldx, l, i, rfl, upd_same, rfl, ?_⟩⟩
  rw [upd_upd]
  generalize eH1 : upd (upd H ldx (.own lo)) lo (.ins CL ldx (lkF l i 0 false)) = H1
  have s1 : Same H H1 := fun b' o' hb => by
    rw [← eH1, upd_ne (ne_of_none hb nlo), upd_ne (ne_of_none hb nldx)]
    exact hb
  have g1 : H1 lo = some (.ins CL ldx (lkF l i 0 false)) := by rw [← eH1, upd_same]
  have L1 : LkIn H1 CL lo ldx l i 0 false fs := ⟨g1, xs, s1 _ _ hl, hf.mono (TK.of s1)⟩
  obtain ⟨as, eas, prd⟩ := (p3.mono (TK.of s1)).paired (K := K)
  refine ⟨_, rfl, lo, ldx, _, rfl, g1, lkF_no (by decide +kernel), _, rfl, _, rfl, pt, o, as, _, rfl, by rw [← eas]; exact s1 _ _ p1, p2, prd, fun m hm => ?_⟩
  rw [show mergeK [] (f0.ps.map kvOf) = f0.ps.map kvOf from mergeK_kn (acc := []) fo.nd]
  have s2 := same_new hm (.dK (f0.ps.map kvOf))
  have em : upd H1 m (.dK (f0.ps.map kvOf)) m = some (.dK (f0.ps.map kvOf)) := upd_same
  generalize upd H1 m (.dK (f0.ps.map kvOf)) = H2 at s2 em ⊢
  have hnm : Nm H2 m (envOf f0.ps) := ⟨f0.ps, em, fo.nd, fun p hp => ⟨(fo.lo p hp).1, (fo.lo p hp).2.1⟩, fun x d h => envOf_some h⟩
  refine ⟨lo, ldx, l, m, bz, i, 0, false, 0, fs, envOf f0.ps, f0.e, nd, rfl, L1.same s2, (ti.mono (TK.of s1)).mono (TK.of s2), hnm, an, hh, by omega, by omega, by simpa using hs, fun H3 v3 s3 g3 nd3 => ?_⟩
  have s12 := s1.trans s2
  have n20 : ∀ b, New H2 b → New H b := fun b h => Same.new s12 h
  have sN : Same H H3 := fun b' o' hb => s3 _ _ (ne_of_none hb nlo) (s12 _ _ hb)
  obtain ⟨na, nadx, nafs, rfl, i1, i2⟩ : ∃ ea edx efs, v3 = .ref ea ∧ H3 ea = some (.ins CN edx efs) ∧ efs.lookup ("depth" : Str) = some (.int (nd.d : Int)) := by
    cases nd3 with
    | mk _ _ i1 i2 i3 => exact ⟨_, _, _, rfl, i1, ndF_depth⟩
  have c5 : (!decide (V.int (nd.d : Int) = dV f0.d)) = false := by rw [hd, show decide (V.int (f0.d : Int) = dV f0.d) = true from decide_eq_true rfl]; rfl
  refine ⟨_, rfl, lo, ldx, _, rfl, g3, lkF_no (by decide +kernel), _, rfl, na, CN, nadx, _, _, rfl, i1, ND.cl, ND.depth, i2, _, rfl, rfl, .ref lo, .int 0, .str "depth", by rw [c5]; rfl, ?_⟩
  -- names
  have p1' := sN _ _ p1
  have p3' := p3.mono (TK.of sN)
  refine ⟨_, rfl, pt, rfl, ⟨_, SqT.frz p1'⟩, fun D hD => ?_⟩
  refine lc_tup (K := K) (a := pt) (xs := vs) (fun i H' => H' = upd H3 D (.lst ((f0.ps.take i).map fun p => .int p.1))) rfl ?_ ?_ ?_
  · rintro i H' _ rfl
    exact SqT.frz (same_new hD _ _ _ p1')
  · rintro j v H' hj rfl
    obtain ⟨ea, xx, dd, rfl, r1, r2⟩ := p3'.get j hj
    have hj' : j < vs.length := (List.getElem?_eq_some_iff.mp hj).1
    refine ⟨rfl, ?_⟩
    refine ⟨_, rfl, ea, _, _, _, rfl, rfl, SqT.of (same_new hD _ _ _ r2), rfl, _, upd_same, ?_, ?_⟩
    · rw [List.length_map, List.length_take]
      exact small1000 (by omega)
    · rw [upd_upd, List.take_add_one, r1, List.map_append]
      rfl
  rintro H' rfl
  rw [hpl, List.take_length]
  have sD := same_new hD (.lst (f0.ps.map fun p => .int p.1))
  have eD : upd H3 D (.lst (f0.ps.map fun p => .int p.1)) D = some (.lst (f0.ps.map fun p => .int p.1)) := upd_same
  generalize upd H3 D (.lst (f0.ps.map fun p => .int p.1)) = H4 at sD eD ⊢
  have p1'' := sD _ _ p1'
  have p3'' := p3'.mono (TK.of sD)
  refine ⟨_, rfl, pt, rfl, ⟨_, SqT.frz p1''⟩, fun D2 hD2 => ?_⟩
  refine lc_tup (K := K) (a := pt) (xs := vs) (fun i H' => H' = upd H4 D2 (.lst ((f0.ps.take i).map fun p => dV p.2))) rfl ?_ ?_ ?_
  · rintro i H' _ rfl
    exact SqT.frz (same_new hD2 _ _ _ p1'')
  · rintro j v H' hj rfl
    obtain ⟨ea, xx, dd, rfl, r1, r2⟩ := p3''.get j hj
    have hj' : j < vs.length := (List.getElem?_eq_some_iff.mp hj).1
    refine ⟨rfl, ?_⟩
    refine ⟨_, rfl, ea, _, _, _, rfl, rfl, SqT.of (same_new hD2 _ _ _ r2), rfl, _, upd_same, ?_, ?_⟩
    · rw [List.length_map, List.length_take]
      exact small1000 (by omega)
    · rw [upd_upd, List.take_add_one, r1, List.map_append]
      rfl
  rintro H' rfl
  rw [hpl, List.take_length]
  have sD2 := same_new hD2 (.lst (f0.ps.map fun p => dV p.2))
  have eD2 : upd H4 D2 (.lst (f0.ps.map fun p => dV p.2)) D2 = some (.lst (f0.ps.map fun p => dV p.2)) := upd_same
  generalize upd H4 D2 (.lst (f0.ps.map fun p => dV p.2)) = H5 at sD2 eD2 ⊢
  refine ⟨_, rfl, fun fo' fdx nfo nfdx nfe => ⟨fo', fdx, D, D2, .ref na, rfl, upd_same, rfl, ?_⟩⟩
  rw [upd_upd]
  generalize eH6 : upd (upd H5 fdx (.own fo')) fo' (.ins CF fdx (fmF D D2 (.ref na))) = H6
  have s6 : Same H5 H6 := fun b' o' hb => by
    rw [← eH6, upd_ne (ne_of_none hb nfo), upd_ne (ne_of_none hb nfdx)]
    exact hb
  have s36 := (sD.trans sD2).trans s6
  have n30 : ∀ b, New H3 b → New H b := fun b h => Same.new sN h
  refine q _ _ (sN.trans s36) ⟨fo', fdx, D, D2, .ref na, rfl, n30 _ (Same.new (sD.trans sD2) nfo), n30 _ hD, n30 _ (Same.new sD hD2), by rw [← eH6, upd_same], s6 _ _ (sD2 _ _ eD), s6 _ _ eD2, (nd3.keep n20 fun _ _ _ h => h).same s36⟩
end
end NR
set_option maxHeartbeats 4000000
namespace NR
open PySem PySem.Spec PyProof.Rows L2

/-- forms in the heap, numbered from i -/
inductive FmIns (H : Hp) (G : Addr → Prop) (CF CN : Addr) : Nat → List V → List (List (Int × Nat) × Nd) → Prop
  | nil {i : Nat} : FmIns H G CF CN i [] []
  | cons {i : Nat} {v : V} {vs : List V} {f : List (Int × Nat) × Nd} {fs : List (List (Int × Nat) × Nd)} : FmIn H G CF CN i v f.1 f.2 → FmIns H G CF CN (i + 1) vs fs → FmIns H G CF CN i (v :: vs) (f :: fs)
theorem FmIns.keep {H H' : Hp} {G G' : Addr → Prop} {CF CN : Addr} (g : ∀ b, G b → G' b) (s : ∀ b o, G b → H b = some o → H' b = some o) : ∀ {i : Nat} {vs : List V} {fs : List (List (Int × Nat) × Nd)}, FmIns H G CF CN i vs fs → FmIns H' G' CF CN i vs fs
  | _, _, _, .nil => .nil
  | _, _, _, .cons h r => .cons (h.keep g s) (FmIns.keep g s r)
theorem FmIns.len {H : Hp} {G : Addr → Prop} {CF CN : Addr} : ∀ {i : Nat} {vs : List V} {fs : List (List (Int × Nat) × Nd)}, FmIns H G CF CN i vs fs → vs.length = fs.length
  | _, _, _, .nil => rfl
  | _, _, _, .cons _ r => congrArg (· + 1) r.len
theorem FmIns.snoc {H : Hp} {G : Addr → Prop} {CF CN : Addr} {v : V} {f : List (Int × Nat) × Nd} : ∀ {i : Nat} {vs : List V} {fs : List (List (Int × Nat) × Nd)}, FmIns H G CF CN i vs fs → FmIn H G CF CN ((i + fs.length : Nat) : Int) v f.1 f.2 → FmIns H G CF CN i (vs ++ [v]) (fs ++ [f])
  | i, _, _, .nil, h => .cons (by simpa using h) .nil
  | i, _, _, .cons (fs := fs) h0 r, h => .cons h0 (r.snoc (by
      have e : i + 1 + fs.length = i + (fs.length + 1) := by omega
      rw [e]
      exact h))
theorem FmIns.get {H : Hp} {G : Addr → Prop} {CF CN : Addr} : ∀ {i : Nat} {vs : List V} {fs : List (List (Int × Nat) × Nd)} (_ : FmIns H G CF CN i vs fs) (j : Nat) {v : V}, vs[j]? = some v → ∃ f, fs[j]? = some f ∧ FmIn H G CF CN ((i + j : Nat) : Int) v f.1 f.2
  | _, _, _, .nil, j, _, h => by simp at h
  | i, _, _, .cons h1 _, 0, _, h => by
    cases h
    exact ⟨_, rfl, h1⟩
  | i, _, _, .cons _ r, j + 1, v, h => by
    obtain ⟨f, e1, e2⟩ := r.get j h
    refine ⟨f, e1, ?_⟩
    have e : i + 1 + j = i + (j + 1) := by omega
    rw [e] at e2
    exact e2
/-- the nodes of all bodies -/
structure Nds (prog : List Fn) (fm : List (List (Int × Nat) × Nd)) : Prop where
  len : fm.length = prog.length
  at_ : ∀ (i : Nat) (f : Fn), prog[i]? = some f → ∃ nd, fm[i]? = some (f.ps, nd) ∧ An ((facesOf prog).take (i + 1)) (envOf f.ps) 0 f.e nd ∧ nd.d = f.d
theorem Good.nds {prog : List Fn} (g : Good prog) : ∃ fm, Nds prog fm := by
  have key : ∀ n, n ≤ prog.length → ∃ fm : List (List (Int × Nat) × Nd), fm.length = n ∧ ∀ (i : Nat) (f : Fn), i < n → prog[i]? = some f → ∃ nd, fm[i]? = some (f.ps, nd) ∧ An ((facesOf prog).take (i + 1)) (envOf f.ps) 0 f.e nd ∧ nd.d = f.d := by
    intro n
    induction n with
    | zero => exact fun _ => ⟨[], rfl, fun i f h => by omega⟩
    | succ n ih =>
      intro hn
      obtain ⟨fm, e1, e2⟩ := ih (by omega)
      have hf := List.getElem?_eq_getElem (show n < prog.length by omega)
      obtain ⟨_, ty, _⟩ := g.fn n _ hf
      obtain ⟨nd, a1, a2⟩ := ty.an 0
      refine ⟨fm ++ [(prog[n].ps, nd)], by rw [List.length_append, e1]; rfl, fun i f hi h => ?_⟩
      by_cases c : i < n
      · obtain ⟨nd', h1, h2⟩ := e2 i f c h
        exact ⟨nd', by rw [List.getElem?_append_left (by omega)]; exact h1, h2⟩
      · have ei : i = n := by omega
        subst ei
        rw [hf] at h
        cases h
        refine ⟨nd, by rw [List.getElem?_append_right (by omega), e1, Nat.sub_self]; rfl, ?_, a2⟩
        have e3 : (facesOf prog).take (i + 1) = facesOf (prog.take (i + 1)) := by unfold facesOf; rw [List.map_take]
        rw [e3]
        exact a1
  obtain ⟨fm, e1, e2⟩ := key prog.length (Nat.le_refl _)
  exact ⟨fm, e1, fun i f h => e2 i f (List.getElem?_eq_some_iff.mp h).1 h⟩
def spForms (K : PySem.W.Frag) (CF CN : Addr) : Sp := fun vs H Q _ => ∃ (a : Addr) (us : List V) (prog : List Fn) (fm : List (List (Int × Nat) × Nd)), vs = [.ref a] ∧ H a = some (.tup us) ∧ PgIns H us prog ∧ Good prog ∧ 1 ≤ prog.length ∧ Nds prog fm ∧ ∀ (H' : Hp) (l : Addr) (xs : List V), Same H H' → H' l = some (.lst xs) → FmIns H' NT CF CN 0 xs fm → Q (.ref l) H'
abbrev sFormsOf : Stmt := top 48
theorem scsFormsOf : FnScope ["program", "told", "at", "function"] ["program"] (defScope sFormsOf) := ⟨rfl, rfl, rfl, by decide +kernel, rfl, by decide +kernel, by decide +kernel⟩
section
variable {P : Program} {w : World} {K : PySem.W.Frag} {mg : Str → Option Value} {base : Heap} {f : Addr} {fd : FuncData}

theorem ok_forms {k : Nat} {CF CN : Addr} (F : FnP K "forms_of" sFormsOf f fd) (O_told_faces : Okf P w K mg base CX0 k "told_faces" ["program"] (spFaces K)) (O_form_of : Okf P w K mg base CX0 k "form_of" ["function", "at", "told"] (spFormOf K CF CN)) (z_enumerate : mg "enumerate" = none) : FnOk P w K mg base CX0 (k + 1) f fd ["program"] (spForms K CF CN) := by
  have sc := scsFormsOf
  refine F.ok sc (fun vs H Q E h => ?_) (fun cdv A outer s H vs Q E hr h => ?_)
  · obtain ⟨a, us, prog, fm, rfl, _⟩ := h
    rfl
  obtain ⟨a, us, prog, fm, rfl, ha, hp, good, h1, nds, q⟩ := h
  have hl := hp.len
  have few := good.few
  refine ⟨_, (pss_cons (ps_set (i := 1) sc.nd rfl (.inr rfl) (pe_c O_told_faces hr rfl pass0 (pa_cons (pv 0) pa_nil)))
    (pss_one (ps_ret (pe_lc (own := [("at", 2), ("function", 3)]) (by rfl) sc.nd (pi_enumTK K rfl z_enumerate (pa_cons (pv 0) pa_nil)) (blkOk_by (own := [("at", 2), ("function", 3)]) (N := ["program", "told", "at", "function"]) (sc := defScope sFormsOf) (by decide +kernel)) (fun _ _ _ _ _ => (pg_tupK K (n := 2) rfl (pgs_cons (pg_name (i := 2) sc.nd rfl (.inl rfl)) (pgs_cons (pg_name (i := 3) sc.nd rfl (.inl rfl)) pgs_nil)))) (fun _ _ _ _ _ => pts_nil) (fun _ _ _ _ _ => (pe_c O_form_of hr rfl pass0 (pa_cons (pv 3) (pa_cons (pv 2) (pa_cons (pv 1) pa_nil))))))))), ?_⟩
  refine ⟨_, rfl, a, us, prog, rfl, ha, hp, good, h1, fun H1 l xs s1 g1 g2 => ?_⟩
  refine ⟨_, rfl, a, us, rfl, SqT.of (s1 _ _ ha), fun D hD => ?_⟩
  have sD := same_new hD (.lst [])
  refine lc_it (walk_enumT (K := K) (a := a) (xs := us)) (fun i H' => ∃ acc, Same H1 H' ∧ H' D = some (.lst acc) ∧ FmIns H' (· ≠ D) CF CN 0 acc (fm.take i)) ⟨[], sD, upd_same, .nil⟩ ?_ ?_ ?_
  · rintro i H' _ ⟨acc, s2, _, _⟩
    exact SqT.of (s2 _ _ (s1 _ _ ha))
  · rintro i x H2 H3 hi ⟨acc, s2, e1, e2⟩ ⟨T, y, z, rfl, hT, rfl, c1, c2⟩
    cases c1
    obtain ⟨fa, pz, bz, f0, rfl, e3, e4, e5, e6⟩ := hp.get i c2
    obtain ⟨fo, ty, hs, hz, hh⟩ := good.fn i f0 e3
    obtain ⟨nd, m1, m2, m3⟩ := nds.at_ i f0 e3
    have sT := same_new hT (.tup [.int (i : Nat), .ref fa])
    have s3 := (s1.trans s2).trans sT
    have hal := e2.len
    rw [List.length_take] at hal
    refine ⟨T, _, rfl, SqT.of upd_same, rfl, _, _, rfl, _, _, rfl, rfl, rfl, ?_⟩
    refine ⟨_, rfl, _, rfl, _, rfl, fa, l, i, pz, bz, f0, xs, facesOf prog, nd, rfl, s3 _ _ e4, e5.mono (IK.of s3), e6.mono (TK.of s3), fo, sT _ _ (s2 _ _ g1), (g2.mono (TK.of s2)).mono (TK.of sT), m2, m3, hz, hh, hs, fun H4 v4 s4 f4 => ?_⟩
    have eD4 := s4 _ _ (sT _ _ e1)
    refine ⟨acc, eD4, small1000 (by omega), acc ++ [v4], fun b o hb => ?_, upd_same, ?_⟩
    · rw [upd_ne (ne_of_none hb hD)]
      exact s4 _ _ (sT _ _ (s2 _ _ hb))
    · have e9 : fm.take (i + 1) = fm.take i ++ [(f0.ps, nd)] := by rw [List.take_add_one, m1]; rfl
      rw [e9]
      have eD3 := sT _ _ e1
      have n1 : ∀ b, New (upd H2 T (.tup [.int (i : Nat), .ref fa])) b → b ≠ D := fun b h => h.ne eD3
      have fl : (fm.take i).length = i := by
        rw [List.length_take, nds.len]
        omega
      refine (FmIns.snoc (e2.keep (fun _ h => h) fun b o _ hb => s4 _ _ (sT _ _ hb)) (f := (f0.ps, nd)) (v := v4) ?_).keep (fun _ h => h) fun b o nb hb => by rw [upd_ne nb]; exact hb
      rw [fl, Nat.zero_add]
      exact f4.keep n1 fun _ _ _ h => h
  · rintro H' ⟨acc, s2, e1, e2⟩
    rw [List.take_of_length_le (by rw [nds.len]; omega)] at e2
    exact q _ _ _ (s1.trans s2) e1 (e2.keep (fun _ _ => trivial) fun _ _ _ h => h)
end
end NR
set_option maxHeartbeats 4000000
namespace NR
open PySem PySem.Spec PyProof.Rows L2 TL
/-! ### programs as texts -/
def iT (n : Int) : Str := Str.ofString (toString n)
mutual
def Ex.words : Ex → List Str
  | .node w n ps => ("(" : Str) :: w.str :: ((if w.numd = true then [iT n] else []) ++ (wordss ps ++ [(")" : Str)]))
def wordss : List Ex → List Str
  | [] => []
  | e :: es => e.words ++ wordss es
end
def psWords : List (Int × Nat) → List Str
  | [] => []
  | p :: ps => iT p.1 :: iT p.2 :: psWords ps
def Fn.words (f : Fn) : List Str := iT f.d :: iT f.ps.length :: (psWords f.ps ++ f.e.words)
def Fn.row (f : Fn) : Str := Txt.join (" " : Str) f.words
def progText (prog : List Fn) : Str := Txt.join ("\n" : Str) (prog.map Fn.row)
theorem wordss_append : ∀ (a b : List Ex), wordss (a ++ b) = wordss a ++ wordss b
  | [], _ => rfl
  | e :: a, b => by
    simp only [List.cons_append, wordss, wordss_append a b, List.append_assoc]
theorem psWords_append : ∀ (a b : List (Int × Nat)), psWords (a ++ b) = psWords a ++ psWords b
  | [], _ => rfl
  | p :: a, b => by
    simp only [List.cons_append, psWords, psWords_append a b]
theorem psWords_len : ∀ (a : List (Int × Nat)), (psWords a).length = 2 * a.length
  | [] => rfl
  | p :: a => by
    simp only [psWords, List.length_cons, psWords_len a]
    omega
mutual
theorem Ex.words_len : ∀ (e : Ex), e.words.length ≤ 4 * e.size
  | .node w n ps => by
    have := wordss_len ps
    simp only [Ex.words, Ex.size, List.length_cons, List.length_append, List.length_nil]
    split <;> simp only [List.length_cons, List.length_nil] <;> omega
theorem wordss_len : ∀ (es : List Ex), (wordss es).length ≤ 4 * sizes es
  | [] => Nat.le_refl _
  | e :: es => by
    have h1 := e.words_len
    have h2 := wordss_len es
    simp only [wordss, sizes, List.length_append]
    omega
end
/-- a word as it may stand: short, without blanks -/
structure WdOk (s : Str) : Prop where
  len : s.length ≤ 5
  nb : 32 ∉ tl s
  nl : 10 ∉ tl s
theorem len_tl' (s : Str) : s.length = (tl s).length := len_tl s
/-- a number as it may stand -/
theorem iT_tl {n : Int} (h : 0 ≤ n) : tl (iT n) = numL n.toNat := by
  obtain ⟨m, rfl⟩ := Int.eq_ofNat_of_zero_le h
  exact tl_num m
theorem iT_len {n : Int} (h : 0 ≤ n) (h1 : n ≤ 10006) : (iT n).length ≤ 5 := by
  rw [len_tl', iT_tl h]
  exact numL_len (by decide) (by have : (10 : Nat) ^ 5 = 100000 := by decide
                                 omega)
theorem iT_ok {n : Int} (h : 0 ≤ n) (h1 : n ≤ 10006) : WdOk (iT n) :=
  ⟨iT_len h h1, by rw [iT_tl h]; exact numL_free (.inl (by decide)), by rw [iT_tl h]; exact numL_free (.inl (by decide))⟩
theorem iT_int {n : Int} (h : 0 ≤ n) (h1 : n ≤ 10006) : intText? (iT n) = some n := by
  obtain ⟨m, rfl⟩ := Int.eq_ofNat_of_zero_le h
  exact int_num (by have := numL_len (n := m) (k := 5) (by decide) (by have : (10 : Nat) ^ 5 = 100000 := by decide
                                                                       omega)
                    omega)
theorem digit_ok : ∀ c, 48 ≤ c → c ≤ 57 → Unicode.isDigit c = true := by
  intro c h1 h2
  have : c = 48 ∨ c = 49 ∨ c = 50 ∨ c = 51 ∨ c = 52 ∨ c = 53 ∨ c = 54 ∨ c = 55 ∨ c = 56 ∨ c = 57 := by omega
  rcases this with rfl | rfl | rfl | rfl | rfl | rfl | rfl | rfl | rfl | rfl <;> decide +kernel
theorem iT_digit {n : Int} (h : 0 ≤ n) : Txt.isdigit (iT n) = true := by
  unfold Txt.isdigit
  rw [Bool.and_eq_true_iff]
  have e := iT_tl h
  refine ⟨decide_eq_true ?_, ?_⟩
  · rw [len_tl', e]
    exact List.length_pos_iff.mpr (numL_ne _)
  · rw [Array.all_eq_true']
    intro c hc
    have hc' : c ∈ numL n.toNat := by
      rw [← e]
      exact Array.mem_toList_iff.mpr hc
    have := numL_digits _ c hc'
    exact digit_ok c this.1 this.2
theorem numL_head {n : Nat} (h : 0 < n) : ∃ c r, numL n = c :: r ∧ c ≠ 48 := by
  induction n using Nat.strongRecOn with
  | _ n ih =>
    by_cases q : n < 10
    · exact ⟨48 + n, [], numL_lt q, by omega⟩
    · obtain ⟨c, r, e, hc⟩ := ih (n / 10) (by omega) (by omega)
      exact ⟨c, r ++ [48 + n % 10], by rw [numL_step (by omega), e]; rfl, hc⟩
theorem W.str_ok (w : W) : WdOk w.str := by
  have : ∀ w : W, decide (w.str.length ≤ 5) = true ∧ (tl w.str).contains 32 = false ∧ (tl w.str).contains 10 = false := by
    intro w
    cases w <;> decide +kernel
  obtain ⟨h1, h2, h3⟩ := this w
  exact ⟨of_decide_eq_true h1, fun h => (by rw [List.contains_iff_mem.mpr h] at h2; cases h2), fun h => (by rw [List.contains_iff_mem.mpr h] at h3; cases h3)⟩
mutual
def Ex.nok : Ex → Prop
  | .node w n ps => (w.numd = true → 0 ≤ n ∧ n ≤ 10006) ∧ noksE ps
def noksE : List Ex → Prop
  | [] => True
  | e :: es => e.nok ∧ noksE es
end
mutual
def Ex.sh : Ex → Prop
  | .node w n ps => (ShOk w n ps.length ∧ (w.lay = 3 → n = -1) ∧ (w.lay = 0 → ps = [])) ∧ shsE ps
def shsE : List Ex → Prop
  | [] => True
  | e :: es => e.sh ∧ shsE es
end
theorem last_le (w : W) : lastOf w ≤ 10006 := by cases w <;> decide
mutual
theorem Ex.sh_nok : ∀ (e : Ex), e.sh → e.nok
  | .node w n ps, h => ⟨fun q => ⟨(h.1.1.n0 q).1, Int.le_trans (h.1.1.n0 q).2 (last_le w)⟩, shs_nok ps h.2⟩
theorem shs_nok : ∀ (es : List Ex), shsE es → noksE es
  | [], _ => trivial
  | e :: es, h => ⟨e.sh_nok h.1, shs_nok es h.2⟩
end
theorem par_ok (b : Bool) : WdOk (if b = true then ("(" : Str) else (")" : Str)) := by
  cases b
  · exact ⟨by decide, by decide +kernel, by decide +kernel⟩
  · exact ⟨by decide, by decide +kernel, by decide +kernel⟩
mutual
theorem Ex.words_ok : ∀ (e : Ex), e.nok → ∀ s ∈ e.words, WdOk s
  | .node w n ps, h, s, hs => by
    simp only [Ex.words] at hs
    rcases List.mem_cons.mp hs with rfl | hs
    · exact par_ok true
    rcases List.mem_cons.mp hs with rfl | hs
    · exact w.str_ok
    rcases List.mem_append.mp hs with hs | hs
    · split at hs
      · rename_i q
        rw [List.mem_singleton.mp hs]
        exact iT_ok (h.1 q).1 (h.1 q).2
      · cases hs
    rcases List.mem_append.mp hs with hs | hs
    · exact wordss_ok ps h.2 s hs
    · rw [List.mem_singleton.mp hs]
      exact par_ok false
theorem wordss_ok : ∀ (es : List Ex), noksE es → ∀ s ∈ wordss es, WdOk s
  | [], _, s, hs => by cases hs
  | e :: es, h, s, hs => by
    rcases List.mem_append.mp hs with hs | hs
    · exact e.words_ok h.1 s hs
    · exact wordss_ok es h.2 s hs
end
theorem An.shI {fs : List (List Nat × Nat)} {ρ : Env1} {p : Nat} {w : W} {n : Int} {ps : List Ex} {nd : Nd} (h : An fs ρ p (.node w n ps) nd) : ShOk w n ps.length ∧ (w.lay = 3 → n = -1) ∧ (w.lay = 0 → ps = []) := by
  obtain ⟨x, k, qs, nps, d, e, _, I⟩ := h.inv
  cases e
  refine ⟨I.sh, ?_, ?_⟩
  · cases h with
    | num _ _ => intro z; cases z
    | name _ _ _ _ => intro z; cases z
    | bind hw _ _ _ _ _ _ => intro z; rw [hw] at z; cases z
    | call _ _ _ _ => intro z; cases z
    | bare _ _ _ => intro _; rfl
  · cases h with
    | num _ _ => intro _; rfl
    | name _ _ _ _ => intro _; rfl
    | bind hw _ _ _ _ _ _ => intro z; rw [hw] at z; cases z
    | call _ _ _ _ => intro z; cases z
    | bare hw _ _ => intro z; rw [hw] at z; cases z
mutual
theorem An.sh {fs : List (List Nat × Nat)} : ∀ {ρ : Env1} {p : Nat} {e : Ex} {nd : Nd}, An fs ρ p e nd → e.sh
  | _, _, _, _, h@(.num _ _) => ⟨(An.shI h), trivial⟩
  | _, _, _, _, h@(.name _ _ _ _) => ⟨(An.shI h), trivial⟩
  | _, _, _, _, h@(.bind _ _ _ ha _ hb _) => ⟨(An.shI h), ha.sh, hb.sh, trivial⟩
  | _, _, _, _, h@(.call _ _ hp _) => ⟨(An.shI h), hp.sh⟩
  | _, _, _, _, h@(.bare _ hp _) => ⟨(An.shI h), hp.sh⟩
theorem Ans.sh {fs : List (List Nat × Nat)} : ∀ {ρ : Env1} {p : Nat} {es : List Ex} {nds : List Nd}, Ans fs ρ p es nds → shsE es
  | _, _, _, _, .nil => trivial
  | _, _, _, _, .cons ha hr => ⟨ha.sh, hr.sh⟩
end
theorem psWords_ok : ∀ (ps : List (Int × Nat)), (∀ p ∈ ps, 0 ≤ p.1 ∧ p.1 ≤ 19 ∧ p.2 ≤ 3) → ∀ s ∈ psWords ps, WdOk s
  | [], _, s, hs => by cases hs
  | p :: ps, h, s, hs => by
    have h0 := h p (List.mem_cons_self ..)
    rcases List.mem_cons.mp hs with rfl | hs
    · exact iT_ok h0.1 (by omega)
    rcases List.mem_cons.mp hs with rfl | hs
    · exact iT_ok (by omega) (by omega)
    · exact psWords_ok ps (fun p hp => h p (List.mem_cons_of_mem _ hp)) s hs
/-- a function that may be written -/
structure FnT (f : Fn) : Prop where
  fo : FaceOk f.ps f.d
  sh : f.e.sh
  sz : f.e.size ≤ 60
  hg : f.e.hgt ≤ 13
theorem Fn.words_ok {f : Fn} (h : FnT f) : ∀ s ∈ f.words, WdOk s := by
  intro s hs
  have h1 := h.fo.hd
  have h2 := h.fo.few
  unfold Fn.words at hs
  rcases List.mem_cons.mp hs with rfl | hs
  · exact iT_ok (by omega) (by omega)
  rcases List.mem_cons.mp hs with rfl | hs
  · exact iT_ok (by omega) (by omega)
  rcases List.mem_append.mp hs with hs | hs
  · exact psWords_ok _ h.fo.lo s hs
  · exact Ex.words_ok _ (f.e.sh_nok h.sh) s hs
theorem Fn.words_len {f : Fn} (h : FnT f) : f.words.length ≤ 250 := by
  have h1 := psWords_len f.ps
  have h2 := f.e.words_len
  have h3 := h.sz
  have h4 := h.fo.few
  simp only [Fn.words, List.length_cons, List.length_append]
  omega
theorem joinL_mem {s c : Nat} : ∀ {ps : List (List Nat)}, c ∈ joinL [s] ps → c = s ∨ ∃ p ∈ ps, c ∈ p
  | [], h => by cases h
  | [p], h => .inr ⟨p, List.mem_singleton.mpr rfl, h⟩
  | p :: q :: r, h => by
    have h' : c ∈ p ++ ([s] ++ joinL [s] (q :: r)) := h
    rcases List.mem_append.mp h' with h | h
    · exact .inr ⟨p, List.mem_cons_self .., h⟩
    rcases List.mem_append.mp h with h | h
    · exact .inl (List.mem_singleton.mp h)
    · rcases joinL_mem h with h | ⟨x, hx, h⟩
      · exact .inl h
      · exact .inr ⟨x, List.mem_cons_of_mem _ hx, h⟩
theorem joinL_len {s m : Nat} : ∀ {ps : List (List Nat)}, (∀ p ∈ ps, p.length ≤ m) → (joinL [s] ps).length ≤ ps.length * (m + 1)
  | [], h => Nat.zero_le _
  | [p], h => by
    have := h p (List.mem_singleton.mpr rfl)
    show p.length ≤ 1 * (m + 1)
    omega
  | p :: q :: r, h => by
    have h1 := h p (List.mem_cons_self ..)
    have h2 := joinL_len (s := s) (ps := q :: r) fun x hx => h x (List.mem_cons_of_mem _ hx)
    show (p ++ ([s] ++ joinL [s] (q :: r))).length ≤ _
    rw [List.length_append, List.length_append, List.length_cons, List.length_nil, List.length_cons (a := p), Nat.add_mul]
    omega
theorem tl_blank : tl (" " : Str) = [32] := by decide +kernel
theorem tl_nl : tl ("\n" : Str) = [10] := by decide +kernel
theorem Fn.row_tl (f : Fn) : tl f.row = joinL [32] (f.words.map tl) := by
  unfold Fn.row
  rw [join_eq, tl_join, tl_blank]
theorem Fn.row_len {f : Fn} (h : FnT f) : f.row.length ≤ 1500 := by
  rw [len_tl', Fn.row_tl]
  have h1 := joinL_len (s := 32) (m := 5) (ps := f.words.map tl) fun p hp => by
    obtain ⟨s, hs, rfl⟩ := List.mem_map.mp hp
    rw [← len_tl']
    exact (Fn.words_ok h s hs).len
  have h2 := Fn.words_len h
  rw [List.length_map] at h1
  omega
theorem Fn.row_nl {f : Fn} (h : FnT f) : 10 ∉ tl f.row := by
  rw [Fn.row_tl]
  intro hm
  rcases joinL_mem hm with h0 | ⟨p, hp, h0⟩
  · cases h0
  · obtain ⟨s, hs, rfl⟩ := List.mem_map.mp hp
    exact (Fn.words_ok h s hs).nl h0
/-- a row's words come back -/
theorem Fn.row_split {f : Fn} (h : FnT f) : Txt.split f.row (" " : Str) = f.words :=
  split_join tl_blank (by decide +kernel) (by unfold Fn.words; simp) fun p hp => (Fn.words_ok h p hp).nb
theorem prog_split {prog : List Fn} (h : ∀ f ∈ prog, FnT f) (hne : prog ≠ []) : Txt.split (progText prog) ("\n" : Str) = prog.map Fn.row :=
  split_join tl_nl (by decide +kernel) (fun e => hne (List.map_eq_nil_iff.mp e)) fun p hp => by
    obtain ⟨f, hf, rfl⟩ := List.mem_map.mp hp
    exact Fn.row_nl (h f hf)
theorem prog_len {prog : List Fn} (h : ∀ f ∈ prog, FnT f) (h6 : prog.length ≤ 6) : (progText prog).length ≤ 10000 := by
  unfold progText
  rw [len_tl', join_eq, tl_join, tl_nl]
  have h1 := joinL_len (s := 10) (m := 1500) (ps := (prog.map Fn.row).map tl) fun p hp => by
    obtain ⟨s, hs, rfl⟩ := List.mem_map.mp hp
    obtain ⟨f, hf, rfl⟩ := List.mem_map.mp hs
    rw [← len_tl']
    exact Fn.row_len (h f hf)
  rw [List.length_map, List.length_map] at h1
  omega
theorem Good.fnT {prog : List Fn} (g : Good prog) : ∀ f ∈ prog, FnT f := fun f hf => by
  obtain ⟨i, hi, e⟩ := List.mem_iff_getElem.mp hf
  have hfi : prog[i]? = some f := by rw [List.getElem?_eq_getElem hi, e]
  obtain ⟨h1, h2, h3, h4, h5⟩ := g.fn i f hfi
  obtain ⟨nd, an, _⟩ := h2.an 0
  exact ⟨h1, an.sh, h4, h5⟩
theorem sumlen {m : Nat} : ∀ (l : List Str), (∀ s ∈ l, s.length ≤ m) → (l.map (·.length)).sum ≤ l.length * m
  | [], _ => Nat.zero_le _
  | s :: l, h => by
    have h1 := h s (List.mem_cons_self ..)
    have h2 := sumlen l fun x hx => h x (List.mem_cons_of_mem _ hx)
    simp only [List.map_cons, List.sum_cons, List.length_cons, Nat.add_mul]
    omega
end NR
set_option maxHeartbeats 4000000
namespace NR
open PySem PySem.Spec PyProof.Rows L2
abbrev sLawParts : Stmt := top 71
theorem scsLawParts : FnScope ["_law_tree_here"] ["_law_tree_here"] (defScope sLawParts) := ⟨rfl, rfl, rfl, by decide +kernel, rfl, by decide +kernel, by decide +kernel⟩
section
variable {P : Program} {w : World} {K : PySem.W.Frag} {mg : Str → Option Value} {base : Heap} {f : Addr} {fd : FuncData}

theorem ok_parts (F : FnP K "_law_parts" sLawParts f fd) : FnOk P w K mg base CX0 1 f fd ["_law_tree_here"] (spParts K) := by
  have sc := scsLawParts
  refine F.ok sc (fun vs H Q E h => ?_) (fun cdv A outer s H vs Q E hr h => ?_)
  · obtain ⟨v, w, n, ps, rfl, _⟩ := h
    rfl
  obtain ⟨v, wd, n, ps, rfl, ti, q⟩ := h
  refine ⟨_, (pss_cons (ps_if (pt_cmpR (op_inK K) (pe_ix (ix_tupK K) (pv 0) pe_int (fun _ _ => rfl)) (pe_tup (pa_cons pe_str (pa_cons pe_str pa_nil))) (by rfl)) (pss_one (ps_ret (pe_tup pa_nil))) pss_nil)
    (pss_cons (ps_if (pt_cmpR op_eq (pe_ix (ix_tupK K) (pv 0) pe_int (fun _ _ => rfl)) pe_str (nomark _)) (pss_one (ps_ret (pe_ix (ix_tupK K) (pv 0) pe_int (fun _ _ => rfl)))) pss_nil)
    (pss_one (ps_ret (pe_ifExp (pt_cmpR (op_inK K) (pe_ix (ix_tupK K) (pv 0) pe_int (fun _ _ => rfl)) (pe_tup (pa_cons pe_str (pa_cons pe_str (pa_cons pe_str pa_nil)))) (by rfl)) (pe_slice (sl_tupK K) (pv 0) (po_some pe_int) po_none) (pe_slice (sl_tupK K) (pv 0) (po_some pe_int) po_none)))))), ?_⟩
  have key : ∃ a xs, v = .ref a ∧ H a = some (.tup (.str wd.str :: xs)) := by
    cases ti with
    | leaf _ h => exact ⟨_, _, rfl, h⟩
    | bind _ h _ => exact ⟨_, _, rfl, h⟩
    | call h _ _ => exact ⟨_, _, rfl, h⟩
    | bare _ h _ => exact ⟨_, _, rfl, h⟩
  obtain ⟨a, xs, rfl, ea⟩ := key
  refine ⟨_, rfl, a, _, _, _, rfl, rfl, SqT.of ea, at0, by show 2 ≤ sizeLine; decide, fun p1 hp1 => ?_⟩
  refine ⟨p1, _, rfl, .inr (SqT.of upd_same), rfl, rfl, _, rfl, ?_⟩
  have s1 := same_new hp1 (.tup [.str "num", .str "name"])
  generalize upd H p1 (.tup [.str "num", .str "name"]) = H1 at s1 ⊢
  have ea1 := s1 _ _ ea
  show if inV (.str wd.str) [.str "num", .str "name"] = true then _ else _
  rw [in_leaf]
  refine ite2 (fun c => ?_) (fun c => ?_)
  · have c1 : wd.lay = 0 := of_decide_eq_true c
    refine ⟨by show 0 ≤ sizeLine; decide, fun p hp => ?_⟩
    have hps : ps = [] := by
      cases ti with
      | leaf _ _ => rfl
      | bind l _ _ => rw [l] at c1; cases c1
      | call _ _ _ => cases c1
      | bare l _ _ => rw [l] at c1; cases c1
    subst hps
    exact q p _ [] (s1.trans (same_new hp _)) upd_same .nil
  have c0 : wd.lay ≠ 0 := fun z => c (decide_eq_true z)
  refine ⟨_, rfl, a, _, _, _, rfl, rfl, SqT.of ea1, at0, rfl, _, rfl, ?_⟩
  show if decide (V.str wd.str = V.str "call") = true then _ else _
  rw [eq_call]
  refine ite2 (fun c => ?_) (fun c => ?_)
  · have c1 : wd.lay = 2 := of_decide_eq_true c
    cases ti with
    | leaf l _ => rw [l] at c1; cases c1
    | bind l _ _ => rw [l] at c1; cases c1
    | bare l _ _ => rw [l] at c1; cases c1
    | @call _ b n ys ps h hb tis =>
      refine ⟨_, rfl, a, _, _, _, rfl, rfl, SqT.of (s1 _ _ h), rfl, ?_⟩
      exact q b _ ys s1 (s1 _ _ hb) (tis.mono (TK.of s1))
  have c2 : wd.lay ≠ 2 := fun z => c (decide_eq_true z)
  refine ⟨_, rfl, a, _, _, _, rfl, rfl, SqT.of ea1, at0, by show 3 ≤ sizeLine; decide, fun p2 hp2 => ?_⟩
  refine ⟨p2, _, rfl, .inr (SqT.of upd_same), rfl, rfl, _, rfl, ?_⟩
  have s2 := s1.trans (same_new hp2 (.tup [.str "let", .str "each", .str "where"]))
  generalize upd H1 p2 (.tup [.str "let", .str "each", .str "where"]) = H2 at s2 ⊢
  show if inV (.str wd.str) [.str "let", .str "each", .str "where"] = true then _ else _
  rw [in_bind]
  refine ite2 (fun c => ?_) (fun c => ?_)
  · have c1 : wd.lay = 1 := of_decide_eq_true c
    cases ti with
    | leaf l _ => rw [l] at c1; cases c1
    | call _ _ _ => cases c1
    | bare l _ _ => rw [l] at c1; cases c1
    | @bind _ _ n ys ps l h tis =>
      refine ⟨_, rfl, _, rfl, a, _, rfl, SqT.of (s2 _ _ h), not2 _ _ _, fun p hp => ?_⟩
      rw [cut2]
      exact q p _ ys (s2.trans (same_new hp _)) upd_same (tis.mono (TK.of (s2.trans (same_new hp _))))
  · have c1 : wd.lay ≠ 1 := fun z => c (decide_eq_true z)
    cases ti with
    | leaf l _ => exact absurd l c0
    | call _ _ _ => exact absurd rfl c2
    | bind l _ _ => exact absurd l c1
    | @bare _ _ ys ps l h tis =>
      refine ⟨_, rfl, _, rfl, a, _, rfl, SqT.of (s2 _ _ h), not1 _ _, fun p hp => ?_⟩
      rw [cut1]
      exact q p _ ys (s2.trans (same_new hp _)) upd_same (tis.mono (TK.of (s2.trans (same_new hp _))))
end
abbrev sLawSize : Stmt := top 72
theorem scsLawSize : FnScope ["_law_tree_here", "_law_part"] ["_law_tree_here"] (defScope sLawSize) := ⟨rfl, rfl, rfl, by decide +kernel, rfl, by decide +kernel, by decide +kernel⟩
section
variable {P : Program} {w : World} {K : PySem.W.Frag} {mg : Str → Option Value} {base : Heap} {f : Addr} {fd : FuncData}

theorem ok_size_step {n : Nat} (F : FnP K "_law_size" sLawSize f fd) (O_parts : Okf P w K mg base CX0 (n + 1) "_law_parts" ["_law_tree_here"] (spParts K))
    (O_size : Okf P w K mg base CX0 (n + 1) "_law_size" ["_law_tree_here"] (spSize K n)) (z_sum : mg "sum" = none) : FnOk P w K mg base CX0 (n + 2) f fd ["_law_tree_here"] (spSize K (n + 1)) := by
  have sc := scsLawSize
  refine F.ok sc (fun vs H Q E h => ?_) (fun cdv A outer s H vs Q E hr h => ?_)
  · obtain ⟨v, e, rfl, _⟩ := h
    rfl
  obtain ⟨v, e, rfl, ti, hh, hs, q⟩ := h
  obtain ⟨wd, nn, ps⟩ := e
  have hs' : ps.length ≤ 4 ∧ fews ps := hs
  have hh' : 1 + hgts ps ≤ n + 1 := hh
  refine ⟨_, (pss_one (ps_ret (pe_op op_add pe_int (pe_callB (cr_sumK K rfl) rfl z_sum (by decide +kernel) (pa_cons (pe_lc (own := [("_law_part", 1)]) (by rfl) sc.nd (pi_tupK K (pe_c O_parts hr rfl pass0 (pa_cons (pv 0) pa_nil))) (blkOk_by (own := [("_law_part", 1)]) (N := ["_law_tree_here", "_law_part"]) (sc := defScope sLawSize) (by decide +kernel)) (fun _ _ _ _ _ => (pg_name (i := 1) sc.nd rfl (.inl rfl))) (fun _ _ _ _ _ => pts_nil) (fun _ _ _ _ _ => (pe_c O_size hr rfl pass0 (pa_cons (pv 1) pa_nil)))) pa_nil))))), ?_⟩

  refine ⟨_, rfl, v, wd, nn, ps, rfl, ti, fun p H1 xs s1 ep tis => ⟨p, rfl, ⟨_, SqT.of ep⟩, fun D hD => ?_⟩⟩
  have tl := tis.len
  refine lc_tup (K := K) (a := p) (xs := xs) (fun i H' => ∃ ns : List Int, H' D = some (.lst (ns.map V.int)) ∧ Same H1 H' ∧ ns = (ps.take i).map (fun e => (e.size : Int))) ⟨[], upd_same, same_new hD _, rfl⟩ ?_ ?_ ?_
  · rintro i H' hi ⟨ns, e1, s2, e2⟩
    exact SqT.of (s2 _ _ ep)
  · rintro i x H' hx ⟨ns, e1, s2, e2⟩
    obtain ⟨e, he, ti2⟩ := tis.get i hx
    have hi := (List.getElem?_eq_some_iff.mp he).1
    have sm := size_mem he
    refine ⟨rfl, ?_⟩
    dsimp only [tYes, gName]
    rw [if_pos rfl]
    refine ⟨_, rfl, x, e, rfl, ti2.mono (TK.of s2), by omega, fews_mem hs'.2 he, fun H3 s3 => ?_⟩
    refine ⟨_, s3 _ _ e1, ?_, ns ++ [(e.size : Int)], ?_, same_put (s2.trans s3) hD, ?_⟩
    · have l1 := hs'.1
      rw [List.length_map, e2, List.length_map, List.length_take]
      exact small1000 (by omega)
    · rw [upd_same, List.map_append]
      rfl
    · rw [e2, List.take_succ, he, List.map_append]
      rfl
  · rintro H2 ⟨ns, e1, s2, e2⟩
    rw [tl, List.take_length] at e2
    refine ⟨D, ns, rfl, SqL.of e1, _, _, rfl, rfl, ?_⟩
    have e3 : (1 + ns.sum : Int) = ((Ex.node wd nn ps).size : Int) := by
      rw [e2, sum_sizes]
      simp only [Ex.size]
      omega
    show Q (.int (1 + ns.sum)) H2
    rw [e3]
    exact q _ (s1.trans s2)
end
abbrev sLawWithin : Stmt := top 73
theorem scsLawWithin : FnScope ["_law_tree_here", "_law_part"] ["_law_tree_here"] (defScope sLawWithin) := ⟨rfl, rfl, rfl, by decide +kernel, rfl, by decide +kernel, by decide +kernel⟩
section
variable {P : Program} {w : World} {K : PySem.W.Frag} {mg : Str → Option Value} {base : Heap} {f : Addr} {fd : FuncData}

theorem ok_within_step {n : Nat} (F : FnP K "_law_within" sLawWithin f fd) (O_parts : Okf P w K mg base CX0 (n + 1) "_law_parts" ["_law_tree_here"] (spParts K))
    (O_within : Okf P w K mg base CX0 (n + 1) "_law_within" ["_law_tree_here"] (spWithin K n)) (z_max : mg "max" = none) : FnOk P w K mg base CX0 (n + 2) f fd ["_law_tree_here"] (spWithin K (n + 1)) := by
  have sc := scsLawWithin
  refine F.ok sc (fun vs H Q E h => ?_) (fun cdv A outer s H vs Q E hr h => ?_)
  · obtain ⟨v, e, rfl, _⟩ := h
    rfl
  obtain ⟨v, e, rfl, ti, hh, hs, q⟩ := h
  obtain ⟨wd, nn, ps⟩ := e
  have hs' : ps.length ≤ 4 ∧ fews ps := hs
  have hh' : 1 + hgts ps ≤ n + 1 := hh
  refine ⟨_, (pss_one (ps_ret (pe_callB (cr_maxK K rfl) rfl z_max (by decide +kernel) (pa_cons (pe_op op_cat (pe_lst (pa_cons pe_int pa_nil)) (pe_lc (own := [("_law_part", 1)]) (by rfl) sc.nd (pi_tupK K (pe_c O_parts hr rfl pass0 (pa_cons (pv 0) pa_nil))) (blkOk_by (own := [("_law_part", 1)]) (N := ["_law_tree_here", "_law_part"]) (sc := defScope sLawWithin) (by decide +kernel)) (fun _ _ _ _ _ => (pg_name (i := 1) sc.nd rfl (.inl rfl))) (fun _ _ _ _ _ => pts_nil) (fun _ _ _ _ _ => (pe_op op_add pe_int (pe_c O_within hr rfl pass0 (pa_cons (pv 1) pa_nil)))))) pa_nil)))), ?_⟩

  refine ⟨by show 1 ≤ sizeLine; decide, fun p0 hp0 => ?_⟩
  have s0 := same_new hp0 (.lst [.int 0])
  have ep0 : upd H p0 (.lst [.int 0]) p0 = some (.lst [.int 0]) := upd_same
  generalize upd H p0 (.lst [.int 0]) = H0 at s0 ep0 ⊢
  refine ⟨_, rfl, v, wd, nn, ps, rfl, ti.mono (TK.of s0), fun p H1 xs s1 ep tis => ⟨p, rfl, ⟨_, SqT.of ep⟩, fun D hD => ?_⟩⟩
  have tl := tis.len
  refine lc_tup (K := K) (a := p) (xs := xs) (fun i H' => ∃ ns : List Int, H' D = some (.lst (ns.map V.int)) ∧ Same H1 H' ∧ ns = (ps.take i).map (fun e => (e.hgt : Int))) ⟨[], upd_same, same_new hD _, rfl⟩ ?_ ?_ ?_
  · rintro i H' hi ⟨ns, e1, s2, e2⟩
    exact SqT.of (s2 _ _ ep)
  · rintro i x H' hx ⟨ns, e1, s2, e2⟩
    obtain ⟨e, he, ti2⟩ := tis.get i hx
    have hi := (List.getElem?_eq_some_iff.mp he).1
    have sm := size_mem he
    have pos := e.hgt_pos
    refine ⟨rfl, ?_⟩
    dsimp only [tYes, gName]
    rw [if_pos rfl]
    refine ⟨_, rfl, x, e, rfl, ti2.mono (TK.of s2), by omega, fews_mem hs'.2 he, fun H3 s3 => ?_⟩
    refine ⟨_, _, rfl, rfl, _, s3 _ _ e1, ?_, ns ++ [(e.hgt : Int)], ?_, same_put (s2.trans s3) hD, ?_⟩
    · have l1 := hs'.1
      rw [List.length_map, e2, List.length_map, List.length_take]
      exact small1000 (by omega)
    · rw [upd_same, List.map_append]
      have e5 : (1 + ((e.hgt - 1 : Nat) : Int)) = (e.hgt : Int) := by omega
      show some (HO.lst (ns.map V.int ++ [V.int (1 + ((e.hgt - 1 : Nat) : Int))])) = _
      rw [e5]
      rfl
    · rw [e2, List.take_succ, he, List.map_append]
      rfl
  · rintro H2 ⟨ns, e1, s2, e2⟩
    rw [tl, List.take_length] at e2
    have l1 := hs'.1
    have nl : ns.length = ps.length := by rw [e2, List.length_map]
    refine ⟨p0, D, _, _, rfl, rfl, s2 _ _ (s1 _ _ ep0), e1, ?_, fun p3 hp3 => ?_⟩
    · rw [List.length_map, nl]
      refine le2 ?_
      show 1 + ps.length ≤ 1000
      omega
    have e6 : ([V.int 0] ++ ns.map V.int) = (0 :: ns).map V.int := rfl
    rw [e6]
    refine ⟨p3, 0 :: ns, rfl, SqL.of upd_same, by simp, fun m hm hmax => ?_⟩
    have e7 : m = ((hgts ps : Nat) : Int) := by
      rw [e2] at hm hmax
      exact max_hgts ps m hm hmax
    show Q (.int m) _
    rw [e7]
    have e8 : (Ex.node wd nn ps).hgt - 1 = hgts ps := by
      simp only [Ex.hgt]
      omega
    have := q (upd H2 p3 (.lst ((0 :: ns).map V.int))) (((s0.trans s1).trans s2).trans (same_new hp3 _))
    rw [e8] at this
    exact this
end
end NR
set_option maxHeartbeats 4000000
namespace NR
open PySem PySem.Spec PyProof.Rows L2

def spWords (n : Nat) : Sp := fun vs H Q _ => ∃ (v : V) (e : Ex), vs = [v] ∧ TIn H v e ∧ e.sh ∧ e.hgt ≤ n ∧ e.size ≤ 60 ∧ ∀ (H' : Hp) (l : Addr), Same H H' → H l = none → H' l = some (.lst (e.words.map V.str)) → Q (.ref l) H'
theorem log_small {n : Int} (h0 : 0 ≤ n) (h1 : n ≤ 10006) : n.natAbs.log2 < 1920 := by
  have h2 : n.natAbs ≤ 10006 := by omega
  by_cases z : n.natAbs = 0
  · rw [z]; decide
  · have := Nat.log2_lt (n := n.natAbs) (k := 1920) z
    rw [this]
    exact Nat.lt_of_le_of_lt h2 (Nat.lt_of_lt_of_le (by decide : 10006 < 2 ^ 14) (Nat.pow_le_pow_right (by decide) (by decide)))
/-- the words ahead of the parts -/
def hdW (x : W) (n : Int) : List Str := ("(" : Str) :: x.str :: (if x.numd = true then [iT n] else [])
theorem words_hd (x : W) (n : Int) (ps : List Ex) : (Ex.node x n ps).words = hdW x n ++ (wordss ps ++ [(")" : Str)]) := by
  simp only [Ex.words, hdW, List.cons_append]
theorem shs_get : ∀ {es : List Ex} {i : Nat} {e : Ex}, shsE es → es[i]? = some e → e.sh
  | [], i, _, _, h => by simp at h
  | a :: l, 0, _, k, h => by
    cases h
    exact k.1
  | a :: l, i + 1, e, k, h => shs_get (es := l) k.2 h
abbrev sLawWords : Stmt := top 82
theorem scsLawWords : FnScope ["_law_tree_here", "_law_found", "_law_part"] ["_law_tree_here"] (defScope sLawWords) := ⟨rfl, rfl, rfl, by decide +kernel, rfl, by decide +kernel, by decide +kernel⟩
section
variable {P : Program} {w : World} {K : PySem.W.Frag} {mg : Str → Option Value} {base : Heap} {f : Addr} {fd : FuncData}

theorem ok_lwords {k n : Nat} (F : FnP K "_law_words" sLawWords f fd) (O_words : Okf P w K mg base CX0 k "_law_words" ["_law_tree_here"] (spWords n)) (O_parts : Okf P w K mg base CX0 k "_law_parts" ["_law_tree_here"] (spParts K)) (z_str : mg "str" = none) : FnOk P w K mg base CX0 (k + 1) f fd ["_law_tree_here"] (spWords (n + 1)) := by
  have sc := scsLawWords
  refine F.ok sc (fun vs H Q E h => ?_) (fun cdv A outer s H vs Q E hr h => ?_)
  · obtain ⟨v, e, rfl, _⟩ := h
    rfl
  obtain ⟨v, e, rfl, ti, sh, hh, hz, q⟩ := h
  obtain ⟨x, n0, ps⟩ := e
  have hsz : (Ex.node x n0 ps).size = 1 + sizes ps := rfl
  have hht : (Ex.node x n0 ps).hgt = 1 + hgts ps := rfl
  have hnok := (Ex.node x n0 ps).sh_nok sh
  obtain ⟨ta, txs, rfl, th, tl, t1', t2', t3, t4⟩ := ti.hd sh.1.1
  have big : 100000 ≤ sizeLine := by decide
  refine ⟨_, PSs.nox (pss_cons (ps_set (i := 1) sc.nd rfl (.inl rfl) (pe_lst (pa_cons pe_str (pa_cons (pe_ix (ix_tupK K) (pv 0) pe_int (fun _ _ => rfl)) pa_nil))))
    (pss_cons (ps_if (pt_cmpR (op_inK K) (pe_ix (ix_tupK K) (pv 0) pe_int (fun _ _ => rfl)) (pe_tup (pa_cons pe_str (pa_cons pe_str (pa_cons pe_str (pa_cons pe_str (pa_cons pe_str (pa_cons pe_str pa_nil))))))) (by rfl)) (pss_one (ps_expr (pe_bm PySem.F.plainAttrs_list PySem.F.slot_list_append PySem.F.type_list_append mt_append (pv 1) (pa_cons (pe_callTy call_str_int rfl z_str (by decide +kernel) (pa_cons (pe_ix (ix_tupK K) (pv 0) pe_int (fun _ _ => rfl)) pa_nil)) pa_nil)))) pss_nil)
    (pss_cons (ps_for PassesOwn.never rfl (pi_tupK K (pe_c O_parts hr rfl pass0 (pa_cons (pv 0) pa_nil))) (pg_name (i := 2) sc.nd rfl (.inl rfl)) (pss_one (ps_set (i := 1) sc.nd rfl (.inl rfl) (pe_op op_cat (pv 1) (pe_c O_words hr rfl pass0 (pa_cons (pv 2) pa_nil))))))
    (pss_one (ps_ret (pe_op op_cat (pv 1) (pe_lst (pa_cons pe_str pa_nil)))))))), ?_⟩
  refine ⟨_, rfl, ta, _, _, .str x.str, rfl, rfl, SqT.of th, at0, by show 2 ≤ sizeLine; decide, fun l hl => ?_⟩
  have s1 := same_new hl (.lst [.str "(", .str x.str])
  have e1 : upd H l (.lst [.str "(", .str x.str]) l = some (.lst [.str "(", .str x.str]) := upd_same
  generalize upd H l (.lst [.str "(", .str x.str]) = H1 at s1 e1 ⊢
  dsimp only [gName]
  refine if_rest (fun H' => Same H H' ∧ H' l = some (.lst ((hdW x n0).map V.str))) (fun H2 e => ?_) (fun rest => ?_)
  · obtain ⟨s2, e2⟩ := e
    refine ⟨_, rfl, .ref ta, x, n0, ps, rfl, ti.mono (TK.of s2), fun pp H3 xs s3 hpp tis => ⟨pp, rfl, ⟨_, SqT.of hpp⟩, for_tup (K := K) (a := pp) (xs := xs) (fun i σ H' => ∃ (l : Addr) (x2 : Option V), σ = [some (.ref ta), some (.ref l), x2] ∧ Same H3 H' ∧ H l = none ∧ H' l = some (.lst ((hdW x n0 ++ wordss (ps.take i)).map V.str))) ⟨l, none, rfl, fun _ _ h => h, hl, by rw [List.take_zero]; simp only [wordss, List.append_nil]; exact s3 _ _ e2⟩ ?_ ?_ ?_⟩⟩
    · rintro i σ H' _ ⟨_, _, rfl, s4, _⟩
      exact SqT.of (s4 _ _ hpp)
    · rintro i v σ H4 hi ⟨l, x2, rfl, s4, hl, e4⟩
      obtain ⟨ei, hei, tei⟩ := tis.get i hi
      obtain ⟨z1, z2, z3⟩ := sizes_take ps i hei
      have hwl := wordss_len (ps.take i)
      have hwe := ei.words_len
      refine ⟨_, rfl, _, rfl, v, ei, rfl, tei.mono (TK.of s4), shs_get sh.2 hei, by omega, by omega, fun H5 l5 s5 n5 e5 => ?_⟩
      refine ⟨l, l5, _, _, rfl, rfl, s5 _ _ e4, e5, ?_, fun l6 h6 => ?_⟩
      · simp only [List.length_map, List.length_append, hdW, List.length_cons]
        split <;> simp only [List.length_cons, List.length_nil] <;> omega
      · refine ⟨l6, _, rfl, (s4.trans s5).trans (same_new h6 _), ((s2.trans s3).trans (s4.trans s5)).free h6, ?_⟩
        rw [upd_same, ← List.map_append, List.take_add_one, hei, wordss_append, List.append_assoc]
        simp [wordss]
    · rintro σ H4 ⟨l, x2, rfl, s4, hl, e4⟩
      have hwl := wordss_len ps
      rw [List.take_of_length_le (by rw [tis.len]; exact Nat.le_refl _)] at e4
      refine ⟨_, rfl, by show 1 ≤ sizeLine; decide, fun l5 h5 => ?_⟩
      have s5 := same_new h5 (.lst [.str ")"])
      refine ⟨l, l5, _, _, rfl, rfl, s5 _ _ e4, upd_same, ?_, fun l6 h6 => ?_⟩
      · simp only [List.length_map, List.length_append, hdW, List.length_cons, List.length_nil]
        split <;> simp only [List.length_cons, List.length_nil] <;> omega
      · have s06 := ((s2.trans s3).trans (s4.trans s5))
        refine q _ l6 (s06.trans (same_new h6 _)) (s06.free h6) ?_
        rw [upd_same, words_hd]
        simp [List.map_append]
  · refine ⟨_, rfl, ta, _, _, .str x.str, rfl, rfl, SqT.of (s1 _ _ th), at0, by show 6 ≤ sizeLine; decide, fun w0 hw0 => ⟨w0, _, rfl, .inr (SqT.of upd_same), rfl, rfl, _, rfl, ?_⟩⟩
    have s2 := same_new hw0 (.tup numW)
    have e2 : (if (false = true) then !inV (.str x.str) numW else inV (.str x.str) numW) = x.numd := inNum x
    refine ite2 (fun z => ?_) (fun z => ?_)
    · have hn : x.numd = true := e2.symm.trans z
      obtain ⟨ys, rfl⟩ := t1' hn
      have hb := hnok.1 hn
      refine ⟨_, rfl, .inl ⟨rfl, _, SqL.of (s2 _ _ e1)⟩, _, rfl, ta, _, _, _, rfl, rfl, SqT.of (s2 _ _ (s1 _ _ th)), at1, n0, rfl, log_small hb.1 hb.2, l, _, _, rfl, rfl, s2 _ _ e1, by show 2 < sizeLine; decide, rest _ ⟨fun b o hb => ?_, ?_⟩⟩
      · rw [upd_ne (ne_of_none hb hl)]
        exact s2 _ _ (s1 _ _ hb)
      · rw [upd_same, hdW, if_pos hn]
        rfl
    · have hn : ¬ x.numd = true := fun y => z (e2.trans y)
      refine rest _ ⟨s1.trans s2, ?_⟩
      rw [hdW, if_neg hn]
      exact s2 _ _ e1
end
end NR
set_option maxHeartbeats 4000000
namespace NR
open PySem PySem.Spec PyProof.Rows L2
abbrev sWordsOf : Stmt := top 52
theorem scsWordsOf : FnScope ["expression", "words", "part"] ["expression"] (defScope sWordsOf) := ⟨rfl, rfl, rfl, by decide +kernel, rfl, by decide +kernel, by decide +kernel⟩
section
variable {P : Program} {w : World} {K : PySem.W.Frag} {mg : Str → Option Value} {base : Heap} {f : Addr} {fd : FuncData}

theorem ok_wordsof {k n : Nat} {aN : Addr} (F : FnP K "words_of" sWordsOf f fd) (O_words_of : Okf P w K mg base CX0 k "words_of" ["expression"] (spWords n)) (O_parts_of : Okf P w K mg base CX0 k "parts_of" ["expression"] (spPartsOf K)) (m_NUMBERED : mg "NUMBERED" = some (.ref aN)) (hN : ∀ H, SqT K H aN numW) (z_str : mg "str" = none) : FnOk P w K mg base CX0 (k + 1) f fd ["expression"] (spWords (n + 1)) := by
  have sc := scsWordsOf
  refine F.ok sc (fun vs H Q E h => ?_) (fun cdv A outer s H vs Q E hr h => ?_)
  · obtain ⟨v, e, rfl, _⟩ := h
    rfl
  obtain ⟨v, e, rfl, ti, sh, hh, hz, q⟩ := h
  obtain ⟨x, n0, ps⟩ := e
  have hsz : (Ex.node x n0 ps).size = 1 + sizes ps := rfl
  have hht : (Ex.node x n0 ps).hgt = 1 + hgts ps := rfl
  have hnok := (Ex.node x n0 ps).sh_nok sh
  obtain ⟨ta, txs, rfl, th, tl, t1', t2', t3, t4⟩ := ti.hd sh.1.1
  have big : 100000 ≤ sizeLine := by decide
  refine ⟨_, PSs.nox (pss_cons (ps_set (i := 1) sc.nd rfl (.inl rfl) (pe_lst (pa_cons pe_str (pa_cons (pe_ix (ix_tupK K) (pv 0) pe_int (fun _ _ => rfl)) pa_nil))))
    (pss_cons (ps_if (pt_cmpR (op_inK K) (pe_ix (ix_tupK K) (pv 0) pe_int (fun _ _ => rfl)) (pe_gR rfl m_NUMBERED) (by rfl)) (pss_one (ps_expr (pe_bm PySem.F.plainAttrs_list PySem.F.slot_list_append PySem.F.type_list_append mt_append (pv 1) (pa_cons (pe_callTy call_str_int rfl z_str (by decide +kernel) (pa_cons (pe_ix (ix_tupK K) (pv 0) pe_int (fun _ _ => rfl)) pa_nil)) pa_nil)))) pss_nil)
    (pss_cons (ps_for PassesOwn.never rfl (pi_listK K (pe_c O_parts_of hr rfl pass0 (pa_cons (pv 0) pa_nil))) (pg_name (i := 2) sc.nd rfl (.inl rfl)) (pss_one (ps_expr (pe_bm PySem.F.plainAttrs_list PySem.F.slot_list_extend PySem.F.type_list_extend mt_extend (pv 1) (pa_cons (pe_c O_words_of hr rfl pass0 (pa_cons (pv 2) pa_nil)) pa_nil)))))
    (pss_cons (ps_expr (pe_bm PySem.F.plainAttrs_list PySem.F.slot_list_append PySem.F.type_list_append mt_append (pv 1) (pa_cons pe_str pa_nil)))
    (pss_one (ps_ret (pv 1))))))), ?_⟩
  refine ⟨_, rfl, ta, _, _, .str x.str, rfl, rfl, SqT.of th, at0, by show 2 ≤ sizeLine; decide, fun l hl => ?_⟩
  have s1 := same_new hl (.lst [.str "(", .str x.str])
  have e1 : upd H l (.lst [.str "(", .str x.str]) l = some (.lst [.str "(", .str x.str]) := upd_same
  generalize upd H l (.lst [.str "(", .str x.str]) = H1 at s1 e1 ⊢
  dsimp only [gName]
  refine if_rest (fun H' => Same H H' ∧ H' l = some (.lst ((hdW x n0).map V.str))) (fun H2 e => ?_) (fun rest => ?_)
  · obtain ⟨s2, e2⟩ := e
    refine ⟨_, rfl, .ref ta, x, n0, ps, rfl, ti.mono (TK.of s2), sh.1.1, fun H3 pp xs s3 hpp tis => ⟨pp, rfl, ⟨_, SqL.of hpp⟩, for_list (K := K) (a := pp) (xs := xs) (fun i σ H' => ∃ (x2 : Option V), σ = [some (.ref ta), some (.ref l), x2] ∧ SameX l H3 H' ∧ H' l = some (.lst ((hdW x n0 ++ wordss (ps.take i)).map V.str))) ⟨none, rfl, .refl _ _, by rw [List.take_zero]; simp only [wordss, List.append_nil]; exact s3 _ _ e2⟩ ?_ ?_ ?_⟩⟩
    all_goals have npl : pp ≠ l := fun z => by
                subst z
                have e9 := hpp.symm.trans (s3 _ _ e2)
                injection e9 with e9
                injection e9 with e9
                subst e9
                cases tis with
                | cons t _ => cases t
    · rintro i σ H' _ ⟨_, rfl, s4, _⟩
      exact SqL.of (s4 _ _ npl hpp)
    · rintro i v σ H4 hi ⟨x2, rfl, s4, e4⟩
      obtain ⟨ei, hei, tei⟩ := tis.get i hi
      obtain ⟨z1, z2, z3⟩ := sizes_take ps i hei
      have hwl := wordss_len (ps.take i)
      have hwe := ei.words_len
      have tk4 : TK H3 H4 := s4.tk (s3 _ _ e2)
      refine ⟨_, rfl, .inl ⟨rfl, _, SqL.of e4⟩, _, rfl, v, ei, rfl, tei.mono tk4, shs_get sh.2 hei, by omega, by omega, fun H5 l5 s5 n5 e5 => ?_⟩
      refine ⟨l, l5, _, _, rfl, rfl, s5 _ _ e4, e5, ?_, _, rfl, (s4.trans (Same.toX s5)).trans .upd, ?_⟩
      · simp only [List.length_map, List.length_append, hdW, List.length_cons]
        split <;> simp only [List.length_cons, List.length_nil] <;> omega
      · rw [upd_same, ← List.map_append, List.take_add_one, hei, wordss_append, List.append_assoc]
        simp [wordss]
    · rintro σ H4 ⟨x2, rfl, s4, e4⟩
      have hwl := wordss_len ps
      rw [List.take_of_length_le (by rw [tis.len]; exact Nat.le_refl _)] at e4
      refine ⟨_, rfl, .inl ⟨rfl, _, SqL.of e4⟩, l, _, _, rfl, rfl, e4, ?_, _, rfl, ?_⟩
      · simp only [List.length_map, List.length_append, hdW, List.length_cons, List.length_nil]
        split <;> simp only [List.length_cons, List.length_nil] <;> omega
      · refine q _ l (fun b o hb => ?_) hl ?_
        · have nb := ne_of_none hb hl
          rw [upd_ne nb]
          exact s4 _ _ nb (s3 _ _ (s2 _ _ hb))
        · rw [upd_same, words_hd]
          simp [List.map_append]
  · refine ⟨_, rfl, ta, _, _, .str x.str, rfl, rfl, SqT.of (s1 _ _ th), at0, aN, _, rfl, .inr (hN _), rfl, rfl, _, rfl, ?_⟩
    have e2 : (if (false = true) then !inV (.str x.str) numW else inV (.str x.str) numW) = x.numd := inNum x
    refine ite2 (fun z => ?_) (fun z => ?_)
    · have hn : x.numd = true := e2.symm.trans z
      obtain ⟨ys, rfl⟩ := t1' hn
      have hb := hnok.1 hn
      refine ⟨_, rfl, .inl ⟨rfl, _, SqL.of e1⟩, _, rfl, ta, _, _, _, rfl, rfl, SqT.of (s1 _ _ th), at1, n0, rfl, log_small hb.1 hb.2, l, _, _, rfl, rfl, e1, by show 2 < sizeLine; decide, rest _ ⟨fun b o hb => ?_, ?_⟩⟩
      · rw [upd_ne (ne_of_none hb hl)]
        exact s1 _ _ hb
      · rw [upd_same, hdW, if_pos hn]
        rfl
    · have hn : ¬ x.numd = true := fun y => z (e2.trans y)
      refine rest _ ⟨s1, ?_⟩
      rw [hdW, if_neg hn]
      exact e1
end
end NR
set_option maxHeartbeats 4000000
namespace NR
open PySem PySem.Spec PyProof.Rows L2

def spWF : Sp := fun vs H Q _ => ∃ (a : Addr) (pz bz : V) (f : Fn), vs = [.ref a] ∧ H a = some (.tup [pz, dV f.d, bz]) ∧ PtIn H pz f.ps ∧ TIn H bz f.e ∧ FnT f ∧ ∀ H', Same H H' → Q (.str f.row) H'
theorem join_small {ws : List Str} (h : ∀ s ∈ ws, WdOk s) (hl : ws.length ≤ 250) : (ws.map (·.length)).sum + ws.length * (" " : Str).length ≤ 16777216 := by
  have h1 := sumlen (m := 5) ws fun s hs => (h s hs).len
  have h2 : (" " : Str).length = 1 := by decide +kernel
  rw [h2]
  omega
abbrev sWrittenFunction : Stmt := top 53
theorem scsWrittenFunction : FnScope ["function", "params", "depth", "body", "words", "name", "param_depth"] ["function"] (defScope sWrittenFunction) := ⟨rfl, rfl, rfl, by decide +kernel, rfl, by decide +kernel, by decide +kernel⟩
section
variable {P : Program} {w : World} {K : PySem.W.Frag} {mg : Str → Option Value} {base : Heap} {f : Addr} {fd : FuncData}

theorem ok_wfun {k : Nat} (F : FnP K "written_function" sWrittenFunction f fd) (O_words_of : Okf P w K mg base CX0 k "words_of" ["expression"] (spWords 13)) (z_str : mg "str" = none) (z_len : mg "len" = none) : FnOk P w K mg base CX0 (k + 1) f fd ["function"] spWF := by
  have sc := scsWrittenFunction
  refine F.ok sc (fun vs H Q E h => ?_) (fun cdv A outer s H vs Q E hr h => ?_)
  · obtain ⟨a, pz, bz, f, rfl, _⟩ := h
    rfl
  obtain ⟨a, pz, bz, f0, rfl, ha, pti, tb, ft, q⟩ := h
  obtain ⟨pt, o, vs, rfl, p1, p2, p3⟩ := pti.ex
  have hpl := p3.len
  have fw := ft.fo.few
  have hd := ft.fo.hd
  have big : 100000 ≤ sizeLine := by decide
  refine ⟨_, PSs.nox (pss_cons (ps_asg (pv 0) (pg_tupK K (n := 3) rfl (pgs_cons (pg_name (i := 1) sc.nd rfl (.inl rfl)) (pgs_cons (pg_name (i := 2) sc.nd rfl (.inl rfl)) (pgs_cons (pg_name (i := 3) sc.nd rfl (.inl rfl)) pgs_nil)))))
    (pss_cons (ps_set (i := 4) sc.nd rfl (.inl rfl) (pe_lst (pa_cons (pe_callTy call_str_int rfl z_str (by decide +kernel) (pa_cons (pv 2) pa_nil)) (pa_cons (pe_callTy call_str_int rfl z_str (by decide +kernel) (pa_cons (pe_callB (call_lenK K) rfl z_len PySem.boot_len (pa_cons (pv 1) pa_nil)) pa_nil)) pa_nil))))
    (pss_cons (ps_for PassesOwn.never rfl (pi_tupK K (pv 1)) (pg_tupK K (n := 2) rfl (pgs_cons (pg_name (i := 5) sc.nd rfl (.inl rfl)) (pgs_cons (pg_name (i := 6) sc.nd rfl (.inl rfl)) pgs_nil))) (pss_one (ps_expr (pe_bm PySem.F.plainAttrs_list PySem.F.slot_list_extend PySem.F.type_list_extend mt_extend (pv 4) (pa_cons (pe_lst (pa_cons (pe_callTy call_str_int rfl z_str (by decide +kernel) (pa_cons (pv 5) pa_nil)) (pa_cons (pe_callTy call_str_int rfl z_str (by decide +kernel) (pa_cons (pv 6) pa_nil)) pa_nil))) pa_nil)))))
    (pss_cons (ps_expr (pe_bm PySem.F.plainAttrs_list PySem.F.slot_list_extend PySem.F.type_list_extend mt_extend (pv 4) (pa_cons (pe_c O_words_of hr rfl pass0 (pa_cons (pv 3) pa_nil)) pa_nil)))
    (pss_one (ps_ret (pe_join pe_str (pv 4)))))))), ?_⟩
  refine ⟨_, rfl, a, _, rfl, SqT.of ha, rfl, _, _, rfl, _, _, rfl, _, _, rfl, rfl, ?_⟩
  refine ⟨_, rfl, _, rfl, log_small (by omega) (by omega), _, rfl, pt, _, rfl, .inr (SqT.frz p1), _, rfl, ?_, by show 2 ≤ sizeLine; decide, fun l hl => ?_⟩
  · exact log_small (by omega) (by omega)
  have s1 := same_new hl (.lst [.str (iT (f0.d : Int)), .str (iT (vs.length : Int))])
  have e1 : upd H l (.lst [.str (iT (f0.d : Int)), .str (iT (vs.length : Int))]) l = some (.lst ([iT (f0.d : Int), iT (f0.ps.length : Int)].map V.str)) := by rw [upd_same, hpl]; rfl
  have s1' : Same H (upd H l (.lst [.str (Str.ofString (toString ((f0.d : Nat) : Int))), .str (Str.ofString (toString ((vs.length : Nat) : Int)))])) := s1
  have e1' : (upd H l (.lst [.str (Str.ofString (toString ((f0.d : Nat) : Int))), .str (Str.ofString (toString ((vs.length : Nat) : Int)))])) l = some (.lst ([iT (f0.d : Int), iT (f0.ps.length : Int)].map V.str)) := e1
  generalize upd H l (.lst [.str (Str.ofString (toString ((f0.d : Nat) : Int))), .str (Str.ofString (toString ((vs.length : Nat) : Int)))]) = H1 at s1' e1' ⊢
  refine ⟨_, rfl, pt, rfl, ⟨_, SqT.frz (s1' _ _ p1)⟩, for_tup (K := K) (a := pt) (xs := vs) (fun i σ H' => ∃ (x5 x6 : Option V), σ = [some (.ref a), some (.ref pt), some (dV f0.d), some bz, some (.ref l), x5, x6] ∧ Same H H' ∧ H' l = some (.lst (([iT (f0.d : Int), iT (f0.ps.length : Int)] ++ psWords (f0.ps.take i)).map V.str))) ⟨none, none, rfl, s1', by rw [List.take_zero]; simp only [psWords, List.append_nil]; exact e1'⟩ ?_ ?_ ?_⟩
  · rintro i σ H' _ ⟨_, _, rfl, s4, _⟩
    exact SqT.frz (s4 _ _ p1)
  · rintro i v σ H4 hi ⟨x5, x6, rfl, s4, e4⟩
    obtain ⟨ea, xx, dd, rfl, r1, r2⟩ := p3.get i hi
    have hlo := ft.fo.lo (xx, dd) (List.mem_of_getElem? r1)
    have hwl := psWords_len (f0.ps.take i)
    rw [List.length_take] at hwl
    refine ⟨ea, _, rfl, SqT.of (s4 _ _ r2), rfl, _, _, rfl, _, _, rfl, rfl, ?_⟩
    refine ⟨_, rfl, .inl ⟨rfl, _, SqL.of e4⟩, _, rfl, _, rfl, log_small hlo.1 (by omega), _, rfl, _, rfl, log_small (by omega) (by omega), by show 2 ≤ sizeLine; decide, fun m hm => ?_⟩
    have s5 := same_new hm (.lst [.str (iT xx), .str (iT (dd : Int))])
    refine ⟨l, m, _, _, rfl, rfl, s5 _ _ e4, upd_same, ?_, _, _, rfl, fun b o hb => ?_, ?_⟩
    · simp only [List.length_map, List.length_append, List.length_cons, List.length_nil]
      omega
    · rw [upd_ne (ne_of_none hb hl)]
      exact s5 _ _ (s4 _ _ hb)
    · rw [upd_same, List.take_add_one, r1, psWords_append, ← List.append_assoc, List.map_append (l₁ := _ ++ _)]
      rfl
  rintro σ H4 ⟨x5, x6, rfl, s4, e4⟩
  rw [List.take_of_length_le (by omega)] at e4
  have hwl := psWords_len f0.ps
  have hwe := f0.e.words_len
  have hsz := ft.sz
  refine ⟨_, rfl, .inl ⟨rfl, _, SqL.of e4⟩, _, rfl, bz, f0.e, rfl, tb.mono (TK.of s4), ft.sh, ft.hg, ft.sz, fun H5 l5 s5 n5 e5 => ?_⟩
  refine ⟨l, l5, _, _, rfl, rfl, s5 _ _ e4, e5, ?_, ?_⟩
  · simp only [List.length_map, List.length_append, List.length_cons, List.length_nil]
    omega
  have e6 : [iT (f0.d : Int), iT (f0.ps.length : Int)] ++ psWords f0.ps ++ f0.e.words = f0.words := rfl
  rw [← List.map_append, e6]
  refine ⟨⟨_, rfl⟩, _, rfl, _, l, f0.words, rfl, rfl, .inl (SqL.of upd_same), join_small (Fn.words_ok ft) (Fn.words_len ft), q _ fun b o hb => ?_⟩
  rw [upd_ne (ne_of_none hb hl)]
  exact s5 _ _ (s4 _ _ hb)
end
end NR
set_option maxHeartbeats 4000000
namespace NR
open PySem PySem.Spec PyProof.Rows L2

def spText : Sp := fun vs H Q _ => ∃ (a : Addr) (us : List V) (prog : List Fn), vs = [.ref a] ∧ H a = some (.tup us) ∧ PgIns H us prog ∧ prog.length ≤ 6 ∧ (∀ f ∈ prog, FnT f) ∧ ∀ H', Same H H' → Q (.str (progText prog)) H'
theorem rows_small {prog : List Fn} (h : ∀ f ∈ prog, FnT f) (hl : prog.length ≤ 6) : ((prog.map Fn.row).map (·.length)).sum + (prog.map Fn.row).length * ("\n" : Str).length ≤ 16777216 := by
  have h1 := sumlen (m := 1500) (prog.map Fn.row) fun s hs => by
    obtain ⟨f, hf, rfl⟩ := List.mem_map.mp hs
    exact Fn.row_len (h f hf)
  have h2 : ("\n" : Str).length = 1 := by decide +kernel
  rw [h2]
  rw [List.length_map] at h1 ⊢
  omega
abbrev sLawText : Stmt := top 83
theorem scsLawText : FnScope ["_law_program_here", "_law_rows", "_law_params", "_law_told", "_law_body_here", "_law_found", "_law_name", "_law_depth"] ["_law_program_here"] (defScope sLawText) := ⟨rfl, rfl, rfl, by decide +kernel, rfl, by decide +kernel, by decide +kernel⟩
section
variable {P : Program} {w : World} {K : PySem.W.Frag} {mg : Str → Option Value} {base : Heap} {f : Addr} {fd : FuncData}

theorem ok_text {k : Nat} (F : FnP K "_law_text" sLawText f fd) (O_words : Okf P w K mg base CX0 k "_law_words" ["_law_tree_here"] (spWords 13)) (z_str : mg "str" = none) (z_len : mg "len" = none) : FnOk P w K mg base CX0 (k + 1) f fd ["_law_program_here"] spText := by
  have sc := scsLawText
  refine F.ok sc (fun vs H Q E h => ?_) (fun cdv A outer s H vs Q E hr h => ?_)
  · obtain ⟨a, us, prog, rfl, _⟩ := h
    rfl
  obtain ⟨a, us, prog, rfl, ha, pg, h6, ft, q⟩ := h
  have hul := pg.len
  have big : 100000 ≤ sizeLine := by decide
  refine ⟨_, PSs.nox (pss_cons (ps_set (i := 1) sc.nd rfl (.inl rfl) (pe_lst pa_nil))
    (pss_cons (ps_for PassesOwn.never rfl (pi_tupK K (pv 0)) (pg_tupK K (n := 3) rfl (pgs_cons (pg_name (i := 2) sc.nd rfl (.inl rfl)) (pgs_cons (pg_name (i := 3) sc.nd rfl (.inl rfl)) (pgs_cons (pg_name (i := 4) sc.nd rfl (.inl rfl)) pgs_nil)))) (pss_cons (ps_set (i := 5) sc.nd rfl (.inl rfl) (pe_lst (pa_cons (pe_callTy call_str_int rfl z_str (by decide +kernel) (pa_cons (pv 3) pa_nil)) (pa_cons (pe_callTy call_str_int rfl z_str (by decide +kernel) (pa_cons (pe_callB (call_lenK K) rfl z_len PySem.boot_len (pa_cons (pv 2) pa_nil)) pa_nil)) pa_nil))))
    (pss_cons (ps_for PassesOwn.never rfl (pi_tupK K (pv 2)) (pg_tupK K (n := 2) rfl (pgs_cons (pg_name (i := 6) sc.nd rfl (.inl rfl)) (pgs_cons (pg_name (i := 7) sc.nd rfl (.inl rfl)) pgs_nil))) (pss_one (ps_set (i := 5) sc.nd rfl (.inl rfl) (pe_op op_cat (pv 5) (pe_lst (pa_cons (pe_callTy call_str_int rfl z_str (by decide +kernel) (pa_cons (pv 6) pa_nil)) (pa_cons (pe_callTy call_str_int rfl z_str (by decide +kernel) (pa_cons (pv 7) pa_nil)) pa_nil)))))))
    (pss_one (ps_expr (pe_bm PySem.F.plainAttrs_list PySem.F.slot_list_append PySem.F.type_list_append mt_append (pv 1) (pa_cons (pe_join pe_str (pe_op op_cat (pv 5) (pe_c O_words hr rfl pass0 (pa_cons (pv 4) pa_nil)))) pa_nil)))))))
    (pss_one (ps_ret (pe_join pe_str (pv 1)))))), ?_⟩
  refine ⟨by show 0 ≤ sizeLine; decide, fun rl hrl => ?_⟩
  have s0 := same_new hrl (.lst [])
  have e0 : upd H rl (.lst []) rl = some (.lst []) := upd_same
  generalize upd H rl (.lst []) = H0 at s0 e0 ⊢
  refine ⟨_, rfl, a, rfl, ⟨_, SqT.of (s0 _ _ ha)⟩, for_tup (K := K) (a := a) (xs := us) (fun i σ H' => ∃ (x2 x3 x4 x5 x6 x7 : Option V), σ = [some (.ref a), some (.ref rl), x2, x3, x4, x5, x6, x7] ∧ Same H H' ∧ H' rl = some (.lst (((prog.take i).map Fn.row).map V.str))) ⟨none, none, none, none, none, none, rfl, s0, e0⟩ ?_ ?_ ?_⟩
  · rintro i σ H' _ ⟨_, _, _, _, _, _, rfl, s4, _⟩
    exact SqT.of (s4 _ _ ha)
  · rintro i v σ H1 hi ⟨x2, x3, x4, x5, x6, x7, rfl, s1, e1⟩
    obtain ⟨fa, pz, bz, f0, rfl, hf0, g1, pti, tb⟩ := pg.get i hi
    obtain ⟨pt, o, vs, rfl, p1, p2, p3⟩ := pti.ex
    have ft0 := ft f0 (List.mem_of_getElem? hf0)
    have hpl := p3.len
    have fw := ft0.fo.few
    have hd := ft0.fo.hd
    refine ⟨fa, _, rfl, SqT.of (s1 _ _ g1), rfl, _, _, rfl, _, _, rfl, _, _, rfl, rfl, ?_⟩
    refine ⟨_, rfl, _, rfl, log_small (by omega) (by omega), _, rfl, pt, _, rfl, .inr (SqT.frz (s1 _ _ p1)), _, rfl, ?_, by show 2 ≤ sizeLine; decide, fun l hl => ?_⟩
    · exact log_small (by omega) (by omega)
    have s2 : Same H1 (upd H1 l (.lst [.str (Str.ofString (toString ((f0.d : Nat) : Int))), .str (Str.ofString (toString ((vs.length : Nat) : Int)))])) := same_new hl _
    have e2 : (upd H1 l (.lst [.str (Str.ofString (toString ((f0.d : Nat) : Int))), .str (Str.ofString (toString ((vs.length : Nat) : Int)))])) l = some (.lst ([iT (f0.d : Int), iT (f0.ps.length : Int)].map V.str)) := by rw [upd_same, hpl]; rfl
    generalize upd H1 l (.lst [.str (Str.ofString (toString ((f0.d : Nat) : Int))), .str (Str.ofString (toString ((vs.length : Nat) : Int)))]) = H2 at s2 e2 ⊢
    have s02 := s1.trans s2
    refine ⟨_, rfl, pt, rfl, ⟨_, SqT.frz (s02 _ _ p1)⟩, for_tup (K := K) (a := pt) (xs := vs) (fun j σ H' => ∃ (l : Addr) (x6 x7 : Option V), σ = [some (.ref a), some (.ref rl), some (.ref pt), some (dV f0.d), some bz, some (.ref l), x6, x7] ∧ Same H1 H' ∧ H' l = some (.lst (([iT (f0.d : Int), iT (f0.ps.length : Int)] ++ psWords (f0.ps.take j)).map V.str))) ⟨l, x6, x7, rfl, s2, by rw [List.take_zero]; simp only [psWords, List.append_nil]; exact e2⟩ ?_ ?_ ?_⟩
    · rintro j σ H' _ ⟨_, _, _, rfl, s4, _⟩
      exact SqT.frz (s4 _ _ (s1 _ _ p1))
    · rintro j v σ H4 hj ⟨l, x6, x7, rfl, s4, e4⟩
      obtain ⟨ea, xx, dd, rfl, r1, r2⟩ := p3.get j hj
      have hlo := ft0.fo.lo (xx, dd) (List.mem_of_getElem? r1)
      have hwl := psWords_len (f0.ps.take j)
      rw [List.length_take] at hwl
      have s14 := s1.trans s4
      refine ⟨ea, _, rfl, SqT.of (s14 _ _ r2), rfl, _, _, rfl, _, _, rfl, rfl, ?_⟩
      refine ⟨_, rfl, _, rfl, _, rfl, log_small hlo.1 (by omega), _, rfl, _, rfl, log_small (by omega) (by omega), by show 2 ≤ sizeLine; decide, fun m hm => ?_⟩
      have s5 := same_new hm (.lst [.str (iT xx), .str (iT (dd : Int))])
      refine ⟨l, m, _, _, rfl, rfl, s5 _ _ e4, upd_same, ?_, fun l6 h6 => ⟨l6, _, _, rfl, (s4.trans s5).trans (same_new h6 _), ?_⟩⟩
      · simp only [List.length_map, List.length_append, List.length_cons, List.length_nil]
        omega
      · rw [upd_same, List.take_add_one, r1, psWords_append, ← List.append_assoc, List.map_append (l₁ := _ ++ _)]
        rfl
    · rintro σ H4 ⟨l, x6, x7, rfl, s4, e4⟩
      rw [List.take_of_length_le (by omega)] at e4
      have hwl := psWords_len f0.ps
      have hwe := f0.e.words_len
      have hsz := ft0.sz
      have s14 := s1.trans s4
      have e1' := s4 _ _ e1
      refine ⟨_, rfl, .inl ⟨rfl, _, SqL.of e1'⟩, ⟨_, rfl⟩, _, rfl, _, rfl, bz, f0.e, rfl, tb.mono (TK.of s14), ft0.sh, ft0.hg, ft0.sz, fun H5 l5 s5 n5 e5 => ?_⟩
      refine ⟨l, l5, _, _, rfl, rfl, s5 _ _ e4, e5, ?_, fun l6 h6' => ?_⟩
      · simp only [List.length_map, List.length_append, List.length_cons, List.length_nil]
        omega
      have e6 : [iT (f0.d : Int), iT (f0.ps.length : Int)] ++ psWords f0.ps ++ f0.e.words = f0.words := rfl
      rw [← List.map_append, e6]
      have s6 := same_new h6' (.lst (f0.words.map V.str))
      have s16 := s14.trans (s5.trans s6)
      refine ⟨_, l6, f0.words, rfl, rfl, .inl (SqL.of upd_same), join_small (Fn.words_ok ft0) (Fn.words_len ft0), rl, _, _, rfl, rfl, s6 _ _ (s5 _ _ e1'), ?_, _, _, _, _, _, _, rfl, fun b o hb => ?_, ?_⟩
      · rw [List.length_map, List.length_map, List.length_take]
        exact small1000 (by omega)
      · rw [upd_ne (ne_of_none hb hrl)]
        exact s16 _ _ hb
      · rw [upd_same, List.take_add_one, hf0, List.map_append, List.map_append]
        rfl
  rintro σ H1 ⟨x2, x3, x4, x5, x6, x7, rfl, s1, e1⟩
  rw [List.take_of_length_le (by omega)] at e1
  exact ⟨⟨_, rfl⟩, _, rfl, _, rl, prog.map Fn.row, rfl, rfl, .inl (SqL.of e1), rows_small ft h6, q _ s1⟩
end
end NR
set_option maxHeartbeats 4000000
namespace NR
open PySem PySem.Spec PyProof.Rows L2

def spFcs : Sp := fun vs H Q _ => ∃ (a : Addr) (us : List V) (prog : List Fn), vs = [.ref a] ∧ H a = some (.tup us) ∧ PgIns H us prog ∧ Good prog ∧ 1 ≤ prog.length ∧ ∀ (H' : Hp) (v : V), Same H H' → Q v H'
abbrev sFaces : Stmt := top 49
theorem scsFaces : FnScope ["program", "told", "at", "function"] ["program"] (defScope sFaces) := ⟨rfl, rfl, rfl, by decide +kernel, rfl, by decide +kernel, by decide +kernel⟩
section
variable {P : Program} {w : World} {K : PySem.W.Frag} {mg : Str → Option Value} {base : Heap} {f : Addr} {fd : FuncData}

theorem ok_fcs {k : Nat} {CF CN : Addr} (F : FnP K "faces" sFaces f fd) (O_told_faces : Okf P w K mg base CX0 k "told_faces" ["program"] (spFaces K)) (O_form_of : Okf P w K mg base CX0 k "form_of" ["function", "at", "told"] (spFormOf K CF CN)) (z_enumerate : mg "enumerate" = none) : FnOk P w K mg base CX0 (k + 1) f fd ["program"] spFcs := by
  have sc := scsFaces
  refine F.ok sc (fun vs H Q E h => ?_) (fun cdv A outer s H vs Q E hr h => ?_)
  · obtain ⟨a, us, prog, rfl, _⟩ := h
    rfl
  obtain ⟨a, us, prog, rfl, ha, hp, good, h1, q⟩ := h
  obtain ⟨fm, nds⟩ := good.nds
  have hl := hp.len
  have few := good.few
  refine ⟨_, PSs.nox (pss_cons (ps_set (i := 1) sc.nd rfl (.inl rfl) (pe_c O_told_faces hr rfl pass0 (pa_cons (pv 0) pa_nil)))
    (pss_cons (ps_for PassesOwn.never rfl (pi_enumTK K rfl z_enumerate (pa_cons (pv 0) pa_nil)) (pg_tupK K (n := 2) rfl (pgs_cons (pg_name (i := 2) sc.nd rfl (.inl rfl)) (pgs_cons (pg_name (i := 3) sc.nd rfl (.inl rfl)) pgs_nil))) (pss_one (ps_expr (pe_c O_form_of hr rfl pass0 (pa_cons (pv 3) (pa_cons (pv 2) (pa_cons (pv 1) pa_nil)))))))
    (pss_one (ps_ret (pv 1))))), ?_⟩
  refine ⟨_, rfl, a, us, prog, rfl, ha, hp, good, h1, fun H1 l xs s1 g1 g2 => ?_⟩
  refine ⟨_, rfl, a, us, rfl, SqT.of (s1 _ _ ha), for_it (walk_enumT (K := K) (a := a) (xs := us)) (fun i σ H' => ∃ (x2 x3 : Option V), σ = [some (.ref a), some (.ref l), x2, x3] ∧ Same H1 H') ⟨none, none, rfl, fun _ _ h => h⟩ ?_ ?_ ?_⟩
  · rintro i σ H' _ ⟨_, _, rfl, s2⟩
    exact SqT.of (s2 _ _ (s1 _ _ ha))
  · rintro i x σ H2 H3 hi ⟨x2, x3, rfl, s2⟩ ⟨T, y, z, rfl, hT, rfl, c1, c2⟩
    cases c1
    obtain ⟨fa, pz, bz, f0, rfl, e3, e4, e5, e6⟩ := hp.get i c2
    obtain ⟨fo, ty, hs, hz, hh⟩ := good.fn i f0 e3
    obtain ⟨nd, m1, m2, m3⟩ := nds.at_ i f0 e3
    have sT := same_new hT (.tup [.int (i : Nat), .ref fa])
    have s3 := (s1.trans s2).trans sT
    refine ⟨T, _, rfl, SqT.of upd_same, rfl, _, _, rfl, _, _, rfl, rfl, ?_⟩
    refine ⟨_, rfl, _, rfl, _, rfl, fa, l, i, pz, bz, f0, xs, facesOf prog, nd, rfl, s3 _ _ e4, e5.mono (IK.of s3), e6.mono (TK.of s3), fo, sT _ _ (s2 _ _ g1), (g2.mono (TK.of s2)).mono (TK.of sT), m2, m3, hz, hh, hs, fun H4 v4 s4 f4 => ?_⟩
    exact ⟨_, _, rfl, s2.trans (sT.trans s4)⟩
  · rintro σ H' ⟨x2, x3, rfl, s2⟩
    exact ⟨_, rfl, q _ _ (s1.trans s2)⟩
end

def spWrit : Sp := fun vs H Q _ => ∃ (a : Addr) (us : List V) (prog : List Fn), vs = [.ref a] ∧ H a = some (.tup us) ∧ PgIns H us prog ∧ Good prog ∧ 1 ≤ prog.length ∧ ∀ H', Same H H' → Q (.str (progText prog)) H'
abbrev sWritten : Stmt := top 54
theorem scsWritten : FnScope ["program", "function"] ["program"] (defScope sWritten) := ⟨rfl, rfl, rfl, by decide +kernel, rfl, by decide +kernel, by decide +kernel⟩
section
variable {P : Program} {w : World} {K : PySem.W.Frag} {mg : Str → Option Value} {base : Heap} {f : Addr} {fd : FuncData}

theorem ok_written {k : Nat} (F : FnP K "written" sWritten f fd) (O_faces : Okf P w K mg base CX0 k "faces" ["program"] spFcs) (O_written_function : Okf P w K mg base CX0 k "written_function" ["function"] spWF) : FnOk P w K mg base CX0 (k + 1) f fd ["program"] spWrit := by
  have sc := scsWritten
  refine F.ok sc (fun vs H Q E h => ?_) (fun cdv A outer s H vs Q E hr h => ?_)
  · obtain ⟨a, us, prog, rfl, _⟩ := h
    rfl
  obtain ⟨a, us, prog, rfl, ha, hp, good, h1, q⟩ := h
  have hl := hp.len
  have few := good.few
  have ft := good.fnT
  refine ⟨_, (pss_cons (ps_expr (pe_c O_faces hr rfl pass0 (pa_cons (pv 0) pa_nil)))
    (pss_one (ps_ret (pe_join pe_str (pe_lc (own := [("function", 1)]) (by rfl) sc.nd (pi_tupK K (pv 0)) (blkOk_by (own := [("function", 1)]) (N := ["program", "function"]) (sc := defScope sWritten) (by decide +kernel)) (fun _ _ _ _ _ => (pg_name (i := 1) sc.nd rfl (.inl rfl))) (fun _ _ _ _ _ => pts_nil) (fun _ _ _ _ _ => (pe_c O_written_function hr rfl pass0 (pa_cons (pv 1) pa_nil)))))))), ?_⟩
  refine ⟨_, rfl, a, us, prog, rfl, ha, hp, good, h1, fun H1 v1 s1 => ?_⟩
  refine ⟨⟨_, rfl⟩, _, rfl, a, rfl, ⟨_, SqT.of (s1 _ _ ha)⟩, fun D hD => ?_⟩
  refine lc_tup (K := K) (a := a) (xs := us) (fun i H' => Same H1 H' ∧ H' D = some (.lst (((prog.take i).map Fn.row).map V.str))) ⟨same_new hD _, upd_same⟩ ?_ ?_ ?_
  · rintro i H' _ ⟨s2, _⟩
    exact SqT.of (s2 _ _ (s1 _ _ ha))
  · rintro i v H2 hi ⟨s2, e2⟩
    obtain ⟨fa, pz, bz, f0, rfl, e3, e4, e5, e6⟩ := hp.get i hi
    have s12 := s1.trans s2
    refine ⟨rfl, ?_⟩
    refine ⟨_, rfl, fa, pz, bz, f0, rfl, s12 _ _ e4, e5.mono (IK.of s12), e6.mono (TK.of s12), ft f0 (List.mem_of_getElem? e3), fun H3 s3 => ⟨_, s3 _ _ e2, ?_, fun b o hb => ?_, ?_⟩⟩
    · rw [List.length_map, List.length_map, List.length_take]
      exact small1000 (by omega)
    · rw [upd_ne (ne_of_none hb hD)]
      exact s3 _ _ (s2 _ _ hb)
    · rw [upd_same, List.take_add_one, e3, List.map_append, List.map_append]
      rfl
  rintro H2 ⟨s2, e2⟩
  rw [List.take_of_length_le (by omega)] at e2
  exact ⟨_, D, prog.map Fn.row, rfl, rfl, .inl (SqL.of e2), rows_small ft few, q _ (s1.trans s2)⟩
end
end NR
set_option maxHeartbeats 4000000
namespace NR
open PySem PySem.Spec PyProof.Rows L2

theorem DIn.str_inv {H : Hp} {v : V} {s : Str} (h : DIn H v (.str s)) : v = .str s := by cases h; rfl
theorem DIn.int_inv {H : Hp} {v : V} {n : Int} (h : DIn H v (.int n)) : v = .int n := by cases h; rfl
theorem DIn.n_inv {H : Hp} {v : V} {n : Nat} (h : DIn H v (nDa n)) : v = dV n := h.int_inv
theorem DIn.seq_inv {H : Hp} {v : V} {l : Bool} {ds : List Da} (h : DIn H v (.seq l ds)) : ∃ a vs, v = .ref a ∧ SeqA H l a vs ∧ DIns H vs ds := by
  cases h with
  | seq h1 _ h2 => exact ⟨_, _, rfl, h1, h2⟩
theorem DIns.cons_inv {H : Hp} {vs : List V} {d : Da} {ds : List Da} (h : DIns H vs (d :: ds)) : ∃ v vs', vs = v :: vs' ∧ DIn H v d ∧ DIns H vs' ds := by
  cases h with
  | cons h1 h2 => exact ⟨_, _, rfl, h1, h2⟩
theorem DIns.nil_inv {H : Hp} {vs : List V} (h : DIns H vs []) : vs = [] := by cases h; rfl
theorem DIns.ns_inv {H : Hp} : ∀ {as : List Nat} {vs : List V}, DIns H vs (as.map nDa) → vs = as.map dV
  | [], _, h => h.nil_inv
  | a :: as, _, h => by
    obtain ⟨v, vs', rfl, h1, h2⟩ := h.cons_inv
    rw [h1.n_inv, DIns.ns_inv h2]
    rfl
theorem DIns.app_inv {H : Hp} : ∀ {d1 d2 : List Da} {vs : List V}, DIns H vs (d1 ++ d2) → ∃ v1 v2, vs = v1 ++ v2 ∧ DIns H v1 d1 ∧ DIns H v2 d2
  | [], _, vs, h => ⟨[], vs, rfl, .nil, h⟩
  | d :: d1, _, _, h => by
    obtain ⟨v, vs', rfl, h1, h2⟩ := DIns.cons_inv h
    obtain ⟨v1, v2, rfl, h3, h4⟩ := DIns.app_inv h2
    exact ⟨v :: v1, v2, rfl, .cons h1 h3, h4⟩
theorem DIns.ns {H : Hp} : ∀ (as : List Nat), DIns H (as.map dV) (as.map nDa)
  | [] => .nil
  | a :: as => .cons .int (DIns.ns as)
theorem SeqA.t {K : PySem.W.Frag} {H : Hp} {a : Addr} {vs : List V} (h : SeqA H false a vs) : SqT K H a vs := by
  rcases h with ⟨e, _⟩ | ⟨_, h | ⟨o, h⟩⟩
  · cases e
  · exact SqT.of h
  · exact .inl (.inr ⟨o, h⟩)
theorem DIn.tup {H : Hp} {a : Addr} {vs : List V} {ds : List Da} (h : H a = some (.tup vs)) (hl : vs.length ≤ 1000) (hd : DIns H vs ds) : DIn H (.ref a) (.seq false ds) := .seq (.inr ⟨rfl, .inl h⟩) hl hd
/-! ### rows in the heap -/
theorem row_num {H : Hp} {v : V} {p r : Nat} {n : Int} (h : DIn H v (Row.num p r n).da) : ∃ a, v = .ref a ∧ SeqA H false a [.str "num", dV p, dV r, .int n] := by
  obtain ⟨a, vs, rfl, h1, h2⟩ := DIn.seq_inv h
  obtain ⟨v0, vs, rfl, e0, h2⟩ := h2.cons_inv
  obtain ⟨v1, vs, rfl, e1, h2⟩ := h2.cons_inv
  obtain ⟨v2, vs, rfl, e2, h2⟩ := h2.cons_inv
  obtain ⟨v3, vs, rfl, e3, h2⟩ := h2.cons_inv
  rw [h2.nil_inv, e0.str_inv, e1.n_inv, e2.n_inv, e3.int_inv] at h1
  exact ⟨a, rfl, h1⟩
theorem row_bare {H : Hp} {v : V} {w : W} {p r : Nat} {as : List Nat} {dd : Option Nat} (h : DIn H v (Row.bare w p r as dd).da) : ∃ a, v = .ref a ∧ SeqA H false a (.str w.str :: dV p :: dV r :: (as.map dV ++ dd.toList.map dV)) := by
  obtain ⟨a, vs, rfl, h1, h2⟩ := DIn.seq_inv h
  obtain ⟨v0, vs, rfl, e0, h2⟩ := h2.cons_inv
  obtain ⟨v1, vs, rfl, e1, h2⟩ := h2.cons_inv
  obtain ⟨v2, vs, rfl, e2, h2⟩ := h2.cons_inv
  obtain ⟨x1, x2, rfl, g1, g2⟩ := h2.app_inv
  have e4 : x2 = dd.toList.map dV := by
    cases dd with
    | none => exact DIns.nil_inv g2
    | some d =>
      obtain ⟨v3, vs, rfl, e3, g3⟩ := DIns.cons_inv g2
      rw [g3.nil_inv, e3.n_inv]
      rfl
  rw [e0.str_inv, e1.n_inv, e2.n_inv, g1.ns_inv, e4] at h1
  exact ⟨a, rfl, h1⟩
theorem row_call {H : Hp} {v : V} {p r : Nat} {k : Int} {as : List Nat} (h : DIn H v (Row.call p r k as).da) : ∃ a t, v = .ref a ∧ SeqA H false a [.str "call", dV p, dV r, .int k, t] ∧ DIn H t (.seq false (as.map nDa)) := by
  obtain ⟨a, vs, rfl, h1, h2⟩ := DIn.seq_inv h
  obtain ⟨v0, vs, rfl, e0, h2⟩ := h2.cons_inv
  obtain ⟨v1, vs, rfl, e1, h2⟩ := h2.cons_inv
  obtain ⟨v2, vs, rfl, e2, h2⟩ := h2.cons_inv
  obtain ⟨v3, vs, rfl, e3, h2⟩ := h2.cons_inv
  obtain ⟨v4, vs, rfl, e4, h2⟩ := h2.cons_inv
  rw [h2.nil_inv, e0.str_inv, e1.n_inv, e2.n_inv, e3.int_inv] at h1
  exact ⟨a, v4, rfl, h1, e4⟩
theorem row_ite {H : Hp} {v : V} {p r c : Nat} {tk : List Nat} {ra rb : List Row} {ta tb : Nat} (h : DIn H v (Row.ite p r c tk ra ta rb tb).da) : ∃ a t u1 u2, v = .ref a ∧ SeqA H false a [.str "if", dV p, dV r, dV c, t, u1, dV ta, u2, dV tb] ∧ DIn H t (.seq false (tk.map nDa)) := by
  obtain ⟨a, vs, rfl, h1, h2⟩ := DIn.seq_inv h
  obtain ⟨v0, vs, rfl, e0, h2⟩ := h2.cons_inv
  obtain ⟨v1, vs, rfl, e1, h2⟩ := h2.cons_inv
  obtain ⟨v2, vs, rfl, e2, h2⟩ := h2.cons_inv
  obtain ⟨v3, vs, rfl, e3, h2⟩ := h2.cons_inv
  obtain ⟨v4, vs, rfl, e4, h2⟩ := h2.cons_inv
  obtain ⟨v5, vs, rfl, e5, h2⟩ := h2.cons_inv
  obtain ⟨v6, vs, rfl, e6, h2⟩ := h2.cons_inv
  obtain ⟨v7, vs, rfl, e7, h2⟩ := h2.cons_inv
  obtain ⟨v8, vs, rfl, e8, h2⟩ := h2.cons_inv
  rw [h2.nil_inv, e0.str_inv, e1.n_inv, e2.n_inv, e3.n_inv, e6.n_inv, e8.n_inv] at h1
  exact ⟨a, v4, v5, v7, rfl, h1, e4⟩
theorem row_ea {H : Hp} {v : V} {w : W} {p r c dc it : Nat} {tk : List Nat} {rs : List Row} {t d : Nat} (h : DIn H v (Row.ea w p r c dc it tk rs t d).da) : ∃ a t' u, v = .ref a ∧ SeqA H false a [.str w.str, dV p, dV r, dV c, dV dc, dV it, t', u, dV t, dV d] ∧ DIn H t' (.seq false (tk.map nDa)) := by
  obtain ⟨a, vs, rfl, h1, h2⟩ := DIn.seq_inv h
  obtain ⟨v0, vs, rfl, e0, h2⟩ := h2.cons_inv
  obtain ⟨v1, vs, rfl, e1, h2⟩ := h2.cons_inv
  obtain ⟨v2, vs, rfl, e2, h2⟩ := h2.cons_inv
  obtain ⟨v3, vs, rfl, e3, h2⟩ := h2.cons_inv
  obtain ⟨v4, vs, rfl, e4, h2⟩ := h2.cons_inv
  obtain ⟨v5, vs, rfl, e5, h2⟩ := h2.cons_inv
  obtain ⟨v6, vs, rfl, e6, h2⟩ := h2.cons_inv
  obtain ⟨v7, vs, rfl, e7, h2⟩ := h2.cons_inv
  obtain ⟨v8, vs, rfl, e8, h2⟩ := h2.cons_inv
  obtain ⟨v9, vs, rfl, e9, h2⟩ := h2.cons_inv
  rw [h2.nil_inv, e0.str_inv, e1.n_inv, e2.n_inv, e3.n_inv, e4.n_inv, e5.n_inv, e8.n_inv, e9.n_inv] at h1
  exact ⟨a, v6, v7, rfl, h1, e6⟩
/-- the words of each kind of row -/
def Row.ok : Row → Prop
  | .num _ _ _ => True
  | .bare w _ _ as dd => w.lay = 3 ∧ w ≠ .ite ∧ as.length = w.ar ∧ (dd.isSome = w.wd)
  | .call _ _ _ _ => True
  | .ite _ _ _ _ _ _ _ _ => True
  | .ea w _ _ _ _ _ _ _ _ _ => w = .each ∨ w = .whr
def itW : List V := [.str "each", .str "where"]
def wdW : List V := [.str "pick", .str "put", .str "flat", .str "one"]
theorem inIt (x : W) : inV (.str x.str) itW = (decide (x = .each) || decide (x = .whr)) := by cases x <;> decide +kernel
theorem inWd (x : W) : inV (.str x.str) wdW = x.wd := by cases x <;> decide +kernel
/-- what the rows' words are looked up in -/
structure RwC (K : PySem.W.Frag) (mg : Str → Option Value) (aI aD : Addr) : Prop where
  mI : mg "ITEM_WORDS" = some (.ref aI)
  mD : mg "WITH_DEPTH" = some (.ref aD)
  hI : ∀ H, SqT K H aI itW
  hD : ∀ H, SqT K H aD wdW
abbrev sTakenBy : Stmt := top 61
theorem scsTakenBy : FnScope ["row"] ["row"] (defScope sTakenBy) := ⟨rfl, rfl, rfl, by decide +kernel, rfl, by decide +kernel, by decide +kernel⟩
section
variable {P : Program} {w : World} {K : PySem.W.Frag} {mg : Str → Option Value} {base : Heap} {f : Addr} {fd : FuncData}

def spTakenBy : Sp := fun vs H Q _ => ∃ (v t : V) (tk : List Nat), vs = [v] ∧ DIn H t (.seq false (tk.map nDa)) ∧ ((∃ a p r c u1 ta u2 tb, v = .ref a ∧ SeqA H false a [.str "if", p, r, c, t, u1, ta, u2, tb]) ∨ (∃ (a : Addr) (x : W) (p r c dc it u t' d : V), (x = .each ∨ x = .whr) ∧ v = .ref a ∧ SeqA H false a [.str x.str, p, r, c, dc, it, t, u, t', d])) ∧ Q t H
theorem ok_takenby {aI aD : Addr} (F : FnP K "taken_by" sTakenBy f fd) (R : RwC K mg aI aD) : FnOk P w K mg base CX0 1 f fd ["row"] spTakenBy := by
  have sc := scsTakenBy
  have m_ITEM_WORDS := R.mI
  refine F.ok sc (fun vs H Q E h => ?_) (fun cdv A outer s H vs Q E hr h => ?_)
  · obtain ⟨v, t, tk, rfl, _⟩ := h
    rfl
  obtain ⟨v, t, tk, rfl, ht, hv, q⟩ := h
  refine ⟨_, (pss_cons (ps_if (pt_cmpR op_eq (pe_ix (ix_tupK K) (pv 0) pe_int (fun _ _ => rfl)) pe_str (nomark _)) (pss_one (ps_ret (pe_ix (ix_tupK K) (pv 0) pe_int (fun _ _ => rfl)))) pss_nil)
    (pss_cons (ps_if (pt_cmpR (op_inK K) (pe_ix (ix_tupK K) (pv 0) pe_int (fun _ _ => rfl)) (pe_gR rfl m_ITEM_WORDS) (by rfl)) (pss_one (ps_ret (pe_ix (ix_tupK K) (pv 0) pe_int (fun _ _ => rfl)))) pss_nil)
    (pss_one (ps_ret (pe_tup pa_nil))))), ?_⟩
  rcases hv with ⟨a, p, r, c, u1, ta, u2, tb, rfl, ha⟩ | ⟨a, x, p, r, c, dc, it, u, t', d, hx, rfl, ha⟩
  · refine ⟨_, rfl, a, _, _, _, rfl, rfl, ha.t, rfl, rfl, _, rfl, ?_⟩
    refine ite2 (fun _ => ?_) (fun z => absurd rfl z)
    exact ⟨_, rfl, a, _, _, _, rfl, rfl, ha.t, rfl, q⟩
  · refine ⟨_, rfl, a, _, _, _, rfl, rfl, ha.t, rfl, rfl, _, rfl, ?_⟩
    refine ite2 (fun z => ?_) (fun _ => ?_)
    · rcases hx with rfl | rfl <;> exact absurd z (by decide +kernel)
    refine ⟨_, rfl, a, _, _, _, rfl, rfl, ha.t, rfl, aI, _, rfl, .inr (R.hI _), rfl, rfl, _, rfl, ?_⟩
    have e : (if (false = true) then !inV (.str x.str) itW else inV (.str x.str) itW) = true := (inIt x).trans (by rcases hx with rfl | rfl <;> rfl)
    refine ite2 (fun _ => ?_) (fun z => absurd e z)
    exact ⟨_, rfl, a, _, _, _, rfl, rfl, ha.t, rfl, q⟩
end
end NR
set_option maxHeartbeats 4000000
namespace NR
open PySem PySem.Spec PyProof.Rows L2

def spLooks : Sp := fun vs H Q _ => ∃ (v : V) (row : Row), vs = [v] ∧ DIn H v row.da ∧ row.ok ∧ row.reads.length ≤ 900 ∧ ∀ (H' : Hp) (u : V), Same H H' → DIn H' u (.seq false (row.reads.map nDa)) → Q u H'
theorem cut34 (a b c d : V) (xs : List V) : cutV (a :: b :: c :: d :: xs) (some 3) (some 4) = [d] := by
  have e1 : HT.sIx (a :: b :: c :: d :: xs).length 0 (some 3) = 3 := by
    rw [show (3 : Int) = ((3 : Nat) : Int) from rfl, HT.sIx_nat]
    simp only [List.length_cons]
    omega
  have e2 : HT.sIx (a :: b :: c :: d :: xs).length (a :: b :: c :: d :: xs).length (some 4) = 4 := by
    rw [show (4 : Int) = ((4 : Nat) : Int) from rfl, HT.sIx_nat]
    simp only [List.length_cons]
    omega
  unfold cutV
  rw [e1, e2]
  rfl
theorem cut3 (a b c : V) (xs : List V) : cutV (a :: b :: c :: xs) (some 3) none = xs := by
  have e1 : HT.sIx (a :: b :: c :: xs).length 0 (some 3) = 3 := by
    rw [show (3 : Int) = ((3 : Nat) : Int) from rfl, HT.sIx_nat]
    simp only [List.length_cons]
    omega
  unfold cutV
  rw [e1]
  show (xs.take _) = xs
  rw [HT.sIx_none]
  exact List.take_of_length_le (by simp only [List.length_cons]; omega)
theorem cut3m (a b c d : V) (xs : List V) : cutV (a :: b :: c :: (xs ++ [d])) (some 3) (some (-1)) = xs := by
  have e1 : HT.sIx (a :: b :: c :: (xs ++ [d])).length 0 (some 3) = 3 := by
    rw [show (3 : Int) = ((3 : Nat) : Int) from rfl, HT.sIx_nat]
    simp only [List.length_cons]
    omega
  have e2 : HT.sIx (a :: b :: c :: (xs ++ [d])).length (a :: b :: c :: (xs ++ [d])).length (some (-1)) = xs.length + 3 := by
    show (if (-1 : Int) < 0 then ((-1 : Int) + ((a :: b :: c :: (xs ++ [d])).length : Int)).toNat else min (-1 : Int).toNat (a :: b :: c :: (xs ++ [d])).length) = _
    rw [if_pos (by decide)]
    simp only [List.length_cons, List.length_append, List.length_nil]
    omega
  unfold cutV
  rw [e1, e2]
  show ((xs ++ [d]).take (xs.length + 3 - 3)) = xs
  rw [Nat.add_sub_cancel, List.take_left]
theorem notW {a b c : V} {xs : List V} {hi : Option Int} : ¬ (HT.sIx (a :: b :: c :: xs).length 0 (some 3) = 0 ∧ HT.sIx (a :: b :: c :: xs).length (a :: b :: c :: xs).length hi = (a :: b :: c :: xs).length) := fun z => by
  have e1 : HT.sIx (a :: b :: c :: xs).length 0 (some 3) = 3 := by
    rw [show (3 : Int) = ((3 : Nat) : Int) from rfl, HT.sIx_nat]
    simp only [List.length_cons]
    omega
  rw [e1] at z
  exact absurd z.1 (by decide)
theorem isNum (x : W) : decide (V.str x.str = V.str "num") = decide (x = .num) := by cases x <;> decide +kernel
theorem isIf (x : W) : decide (V.str x.str = V.str "if") = decide (x = .ite) := by cases x <;> decide +kernel
abbrev sLooksAt : Stmt := top 62
theorem scsLooksAt : FnScope ["row", "word"] ["row"] (defScope sLooksAt) := ⟨rfl, rfl, rfl, by decide +kernel, rfl, by decide +kernel, by decide +kernel⟩
section
variable {P : Program} {w : World} {K : PySem.W.Frag} {mg : Str → Option Value} {base : Heap} {f : Addr} {fd : FuncData}

theorem look_end {H : Hp} {Q : VK} {p0 : Addr} {t : V} {c : Nat} {tk : List Nat} (h0 : H p0 = some (.tup [dV c])) (ht : DIn H t (.seq false (tk.map nDa))) (hl : (c :: tk).length ≤ 900) (q : ∀ (H' : Hp) (u : V), Same H H' → DIn H' u (.seq false ((c :: tk).map nDa)) → Q u H') : rCatT K (.ref p0) t H Q := by
  obtain ⟨a, vs, rfl, h1, h2⟩ := ht.seq_inv
  have e := h2.ns_inv
  subst e
  have hl' : (tk.map dV).length + 1 ≤ 900 := by rw [List.length_map]; exact hl
  have big : 1000 ≤ sizeLine := by decide
  refine ⟨p0, a, [dV c], tk.map dV, rfl, rfl, SqT.of h0, h1.t, by simp, by simp only [List.length_cons, List.length_nil]; omega, fun z => ?_, fun z p1 hp1 => ?_⟩
  · have z' : tk = [] := List.map_eq_nil_iff.mp z
    subst z'
    exact q _ _ (fun _ _ h => h) (.tup h0 (by simp) (.cons .int .nil))
  · exact q _ _ (same_new hp1 _) (.tup upd_same (by simp only [List.length_append, List.length_cons, List.length_nil]; omega) (DIns.ns (c :: tk)))
theorem ok_looks {aI aD : Addr} (F : FnP K "looks_at" sLooksAt f fd) (R : RwC K mg aI aD) (O_taken_by : Okf P w K mg base CX0 1 "taken_by" ["row"] spTakenBy) : FnOk P w K mg base CX0 2 f fd ["row"] spLooks := by
  have sc := scsLooksAt
  have m_ITEM_WORDS := R.mI
  have m_WITH_DEPTH := R.mD
  refine F.ok sc (fun vs H Q E h => ?_) (fun cdv A outer s H vs Q E hr h => ?_)
  · obtain ⟨v, row, rfl, _⟩ := h
    rfl
  obtain ⟨v, row, rfl, hv, ok, hlen, q⟩ := h
  refine ⟨_, (pss_cons (ps_set (i := 1) sc.nd rfl (.inl rfl) (pe_ix (ix_tupK K) (pv 0) pe_int (fun _ _ => rfl)))
    (pss_cons (ps_if (pt_cmpR op_eq (pv 1) pe_str (nomark _)) (pss_one (ps_ret (pe_tup pa_nil))) pss_nil)
    (pss_cons (ps_if (pt_cmpR op_eq (pv 1) pe_str (nomark _)) (pss_one (ps_ret (pe_ix (ix_tupK K) (pv 0) pe_int (fun _ _ => rfl)))) pss_nil)
    (pss_cons (ps_if (PW.pt (pw_or (pt_cmpR op_eq (pv 1) pe_str (nomark _)) (pw_or1 (pt_cmpR (op_inK K) (pv 1) (pe_gR rfl m_ITEM_WORDS) (by rfl))))) (pss_one (ps_ret (pe_op (op_catTK K) (pe_slice (sl_tupK K) (pv 0) (po_some pe_int) (po_some pe_int)) (pe_c O_taken_by hr rfl pass0 (pa_cons (pv 0) pa_nil))))) pss_nil)
    (pss_cons (ps_if (pt_cmpR (op_inK K) (pv 1) (pe_gR rfl m_WITH_DEPTH) (by rfl)) (pss_one (ps_ret (pe_slice (sl_tupK K) (pv 0) (po_some pe_int) (po_some (pe_un un_neg pe_int))))) pss_nil)
    (pss_one (ps_ret (pe_slice (sl_tupK K) (pv 0) (po_some pe_int) po_none)))))))), ?_⟩
  cases row with
  | num p r n =>
    obtain ⟨a, rfl, ha⟩ := row_num hv
    refine ⟨_, rfl, a, _, _, _, rfl, rfl, ha.t, rfl, ?_⟩
    refine ⟨_, rfl, rfl, _, rfl, ite2 (fun _ => ?_) (fun z => absurd rfl z)⟩
    exact ⟨by show 0 ≤ sizeLine; decide, fun p hp => q _ _ (same_new hp _) (.tup upd_same (Nat.zero_le _) .nil)⟩
  | call p r k as =>
    obtain ⟨a, t, rfl, ha, ht⟩ := row_call hv
    refine ⟨_, rfl, a, _, _, _, rfl, rfl, ha.t, rfl, ?_⟩
    refine ⟨_, rfl, rfl, _, rfl, ite2 (fun z => absurd z (by decide +kernel)) (fun _ => ?_)⟩
    refine ⟨_, rfl, rfl, _, rfl, ite2 (fun _ => ?_) (fun z => absurd rfl z)⟩
    exact ⟨_, rfl, a, _, _, _, rfl, rfl, ha.t, rfl, q _ _ (fun _ _ h => h) ht⟩
  | bare x p r as dd =>
    obtain ⟨a, rfl, ha⟩ := row_bare hv
    obtain ⟨o1, o2, o3, o4⟩ := ok
    refine ⟨_, rfl, a, _, _, .str x.str, rfl, rfl, ha.t, at0, ?_⟩
    refine ⟨_, rfl, rfl, _, rfl, ?_⟩
    rw [isNum x]
    refine ite2 (fun z => ?_) (fun _ => ?_)
    · rw [of_decide_eq_true z] at o1
      cases o1
    refine ⟨_, rfl, rfl, _, rfl, ?_⟩
    rw [isCall2 x]
    refine ite2 (fun z => ?_) (fun _ => ?_)
    · rw [of_decide_eq_true z] at o1
      cases o1
    refine ⟨_, rfl, rfl, _, rfl, ?_⟩
    rw [isIf x]
    refine ite2 (fun z => absurd (of_decide_eq_true z) o2) (fun _ => ?_)
    refine ⟨_, rfl, aI, _, rfl, .inr (R.hI _), rfl, rfl, _, rfl, ?_⟩
    have e : (if (false = true) then !inV (.str x.str) itW else inV (.str x.str) itW) = false := (inIt x).trans (by revert o1; cases x <;> simp [W.lay])
    refine ite2 (fun z => absurd (e.symm.trans z) Bool.false_ne_true) (fun _ => ?_)
    refine ⟨_, rfl, aD, _, rfl, .inr (R.hD _), rfl, rfl, _, rfl, ?_⟩
    have e2 : (if (false = true) then !inV (.str x.str) wdW else inV (.str x.str) wdW) = x.wd := inWd x
    have hl2 : as.length ≤ 900 := hlen
    refine ite2 (fun z => ?_) (fun z => ?_)
    · cases dd with
      | none =>
        rw [e2.symm.trans z] at o4
        cases o4
      | some d =>
        refine ⟨_, rfl, 3, rfl, _, rfl, -1, rfl, a, _, rfl, ha.t, notW, fun p0 hp0 => ?_⟩
        rw [show (as.map dV ++ (some d).toList.map dV) = as.map dV ++ [dV d] from rfl, cut3m]
        exact q _ _ (same_new hp0 _) (.tup upd_same (by rw [List.length_map]; omega) (DIns.ns as))
    · cases dd with
      | some d => exact absurd (e2.trans o4.symm) z
      | none =>
        refine ⟨_, rfl, 3, rfl, a, _, rfl, ha.t, notW, fun p0 hp0 => ?_⟩
        rw [show (as.map dV ++ (none : Option Nat).toList.map dV) = as.map dV from List.append_nil _, cut3]
        exact q _ _ (same_new hp0 _) (.tup upd_same (by rw [List.length_map]; omega) (DIns.ns as))
  | ite p r c tk ra ta rb tb =>
    obtain ⟨a, t, u1, u2, rfl, ha, ht⟩ := row_ite hv
    refine ⟨_, rfl, a, _, _, _, rfl, rfl, ha.t, rfl, ?_⟩
    refine ⟨_, rfl, rfl, _, rfl, ite2 (fun z => absurd z (by decide +kernel)) (fun _ => ?_)⟩
    refine ⟨_, rfl, rfl, _, rfl, ite2 (fun z => absurd z (by decide +kernel)) (fun _ => ?_)⟩
    refine ⟨_, rfl, rfl, _, rfl, ite2 (fun _ => ?_) (fun z => absurd rfl z)⟩
    refine ite2 (fun _ => ?_) (fun z => absurd rfl z)
    refine ⟨_, rfl, 3, rfl, 4, rfl, a, _, rfl, ha.t, notW, fun p0 hp0 => ?_⟩
    rw [cut34]
    have s0 := same_new hp0 (.tup [dV c])
    refine ⟨_, rfl, .ref a, t, tk, rfl, ht.same s0, .inl ⟨a, _, _, _, _, _, _, _, rfl, ha.same s0⟩, ?_⟩
    exact look_end upd_same (ht.same s0) hlen fun H' u s1 => q _ _ (s0.trans s1)
  | ea x p r c dc it tk rs tt d =>
    obtain ⟨a, t, u, rfl, ha, ht⟩ := row_ea hv
    refine ⟨_, rfl, a, _, _, _, rfl, rfl, ha.t, rfl, ?_⟩
    have hx : x = .each ∨ x = .whr := ok
    refine ⟨_, rfl, rfl, _, rfl, ite2 (fun z => by rcases hx with rfl | rfl <;> exact absurd z (by decide +kernel)) (fun _ => ?_)⟩
    refine ⟨_, rfl, rfl, _, rfl, ite2 (fun z => by rcases hx with rfl | rfl <;> exact absurd z (by decide +kernel)) (fun _ => ?_)⟩
    refine ⟨_, rfl, rfl, _, rfl, ite2 (fun z => by rcases hx with rfl | rfl <;> exact absurd z (by decide +kernel)) (fun _ => ?_)⟩
    refine ⟨_, rfl, aI, _, rfl, .inr (R.hI _), rfl, rfl, _, rfl, ?_⟩
    have e : (if (false = true) then !inV (.str x.str) itW else inV (.str x.str) itW) = true := (inIt x).trans (by rcases hx with rfl | rfl <;> rfl)
    refine ite2 (fun _ => ?_) (fun z => absurd e z)
    refine ⟨_, rfl, 3, rfl, 4, rfl, a, _, rfl, ha.t, notW, fun p0 hp0 => ?_⟩
    rw [cut34]
    have s0 := same_new hp0 (.tup [dV c])
    refine ⟨_, rfl, .ref a, t, tk, rfl, ht.same s0, .inr ⟨a, x, _, _, _, _, _, _, _, _, hx, rfl, ha.same s0⟩, ?_⟩
    exact look_end upd_same (ht.same s0) hlen fun H' u s1 => q _ _ (s0.trans s1)
end
end NR
set_option maxHeartbeats 4000000
namespace NR
open PySem PySem.Spec PyProof.Rows L2

mutual
/-- data without lists -/
def Da.tp : Da → Prop
  | .int _ => True
  | .str _ => True
  | .seq l ds => l = false ∧ tps ds
def tps : List Da → Prop
  | [] => True
  | d :: ds => d.tp ∧ tps ds
end
mutual
theorem DIn.ik {H H' : Hp} (k : IK H H') : ∀ {v : V} {d : Da}, DIn H v d → d.tp → DIn H' v d
  | _, _, .int, _ => .int
  | _, _, .str, _ => .str
  | _, _, .seq h l r, t => .seq (by
      rcases h with ⟨e, _⟩ | ⟨e, h | ⟨o, h⟩⟩
      · rw [t.1] at e
        cases e
      · exact .inr ⟨e, .inl (k.t _ _ h)⟩
      · exact .inr ⟨e, .inr ⟨o, k.f _ _ _ h⟩⟩) l (DIns.ik k r t.2)
theorem DIns.ik {H H' : Hp} (k : IK H H') : ∀ {vs : List V} {ds : List Da}, DIns H vs ds → tps ds → DIns H' vs ds
  | _, _, .nil, _ => .nil
  | _, _, .cons h r, t => .cons (DIn.ik k h t.1) (DIns.ik k r t.2)
end
theorem tps_n : ∀ (l : List Nat), tps (l.map nDa)
  | [] => trivial
  | _ :: l => ⟨trivial, tps_n l⟩
theorem tps_app : ∀ {a b : List Da}, tps a → tps b → tps (a ++ b)
  | [], _, _, h => h
  | _ :: _, _, h, h' => ⟨h.1, tps_app h.2 h'⟩
theorem tps_o : ∀ (o : Option Nat), tps (oDa o)
  | none => trivial
  | some _ => ⟨trivial, trivial⟩
mutual
theorem Row.tp : ∀ (r : Row), r.da.tp
  | .num _ _ _ => ⟨rfl, trivial, trivial, trivial, trivial, trivial⟩
  | .bare _ _ _ as dd => ⟨rfl, trivial, trivial, trivial, tps_app (tps_n as) (tps_o dd)⟩
  | .call _ _ _ as => ⟨rfl, trivial, trivial, trivial, trivial, ⟨rfl, tps_n as⟩, trivial⟩
  | .ite _ _ _ tk ra _ rb _ => ⟨rfl, trivial, trivial, trivial, trivial, ⟨rfl, tps_n tk⟩, ⟨rfl, rows_tp ra⟩, trivial, ⟨rfl, rows_tp rb⟩, trivial, trivial⟩
  | .ea _ _ _ _ _ _ tk rs _ _ => ⟨rfl, trivial, trivial, trivial, trivial, trivial, trivial, ⟨rfl, tps_n tk⟩, ⟨rfl, rows_tp rs⟩, trivial, trivial, trivial⟩
theorem rows_tp : ∀ (rs : List Row), tps (rowsDa rs)
  | [] => trivial
  | r :: rs => ⟨Row.tp r, rows_tp rs⟩
end
inductive BIns (H : Hp) : List V → List (List Row × Nat) → Prop
  | nil : BIns H [] []
  | cons {v : V} {vs : List V} {b : List Row × Nat} {bs : List (List Row × Nat)} : DIn H v (.seq false [.seq false (rowsDa b.1), nDa b.2]) → BIns H vs bs → BIns H (v :: vs) (b :: bs)
theorem BIns.same {H H' : Hp} (s : Same H H') : ∀ {vs bs}, BIns H vs bs → BIns H' vs bs
  | _, _, .nil => .nil
  | _, _, .cons h r => .cons (h.same s) (r.same s)
theorem BIns.len {H : Hp} : ∀ {vs bs}, BIns H vs bs → vs.length = bs.length
  | _, _, .nil => rfl
  | _, _, .cons _ r => congrArg (· + 1) r.len
theorem BIns.get {H : Hp} : ∀ {vs bs} (_ : BIns H vs bs) (i : Nat) {v : V}, vs[i]? = some v → ∃ b, bs[i]? = some b ∧ DIn H v (.seq false [.seq false (rowsDa b.1), nDa b.2])
  | _, _, .nil, i, _, h => by simp at h
  | _, _, .cons h1 _, 0, _, h => by
    cases h
    exact ⟨_, rfl, h1⟩
  | _, _, .cons _ r, i + 1, v, h => r.get i h
def seenB (bs : List (List Row × Nat)) : List Nat := bs.flatMap fun b => seen1 b.1 b.2
theorem rowsDa_get : ∀ {rs : List Row} {j : Nat} {r : Row}, rs[j]? = some r → (rowsDa rs)[j]? = some r.da
  | [], j, _, h => by simp at h
  | r :: rs, 0, _, h => by
    cases h
    rfl
  | r :: rs, j + 1, _, h => rowsDa_get (rs := rs) h
def BOk (b : List Row × Nat) : Prop := b.1.length ≤ 100 ∧ ∀ r ∈ b.1, r.ok ∧ r.reads.length ≤ 100
def spTakenIn : Sp := fun vs H Q _ => ∃ (l : Addr) (us : List V) (f : Nat) (bs : List (List Row × Nat)), vs = [.ref l, .int (f : Int)] ∧ H l = some (.lst us) ∧ BIns H us bs ∧ bs.length ≤ 2 ∧ (∀ b ∈ bs, BOk b) ∧ below f (seenB bs) ≤ 63 ∧ ∀ (H' : Hp) (u : V), Same H H' → DIn H' u (.seq false ((tin (seenB bs) f).map nDa)) → Q u H'
theorem fm_len : ∀ (rs : List Row), (∀ r ∈ rs, r.reads.length ≤ 100) → (rs.flatMap Row.reads).length ≤ rs.length * 100
  | [], _ => Nat.le_refl _
  | r :: rs, h => by
    have h1 := h r (List.mem_cons_self ..)
    have h2 := fm_len rs fun x hx => h x (List.mem_cons_of_mem _ hx)
    rw [List.flatMap_cons, List.length_append, List.length_cons]
    omega
theorem seenB_len : ∀ (bs : List (List Row × Nat)), (∀ b ∈ bs, BOk b) → (seenB bs).length ≤ bs.length * 10001
  | [], _ => Nat.le_refl _
  | b :: bs, h => by
    obtain ⟨h1, h2⟩ := h b (List.mem_cons_self ..)
    have h3 := fm_len b.1 fun r hr => (h2 r hr).2
    have h4 := seenB_len bs fun x hx => h x (List.mem_cons_of_mem _ hx)
    have e : seenB (b :: bs) = seen1 b.1 b.2 ++ seenB bs := rfl
    rw [e, List.length_append, seen1, List.length_cons, List.length_cons]
    omega
/-- the numbers of L below f, as they come -/
def flt (L : List Nat) (f : Nat) : List Nat := L.filter fun k => decide (k < f)
theorem flt_len (L : List Nat) (f : Nat) : (flt L f).length = below f L := rfl
/-- tuple(sorted(set(ns))), ns the numbers below f -/
theorem tin_of {L : List Nat} {f : Nat} {ns : List Int} (h1 : ns.Pairwise (· < ·)) (h2 : ∀ k : Int, k ∈ ns ↔ decide (k ∈ (flt L f).map nI) = true) : ns.map V.int = (tin L f).map dV := by
  rw [tin_eq (L := L) (f := f) h1 fun k => ?_, List.map_map]
  · rfl
  · rw [h2, decide_eq_true_eq, List.mem_map]
    constructor
    · rintro ⟨n, hn, rfl⟩
      obtain ⟨a, b⟩ := List.mem_filter.mp hn
      exact ⟨n, rfl, a, of_decide_eq_true b⟩
    · rintro ⟨n, rfl, a, b⟩
      exact ⟨n, List.mem_filter.mpr ⟨a, decide_eq_true b⟩, rfl⟩
abbrev sTakenIn : Stmt := top 63
theorem scsTakenIn : FnScope ["blocks", "first", "seen", "rows", "told", "row", "at"] ["blocks", "first"] (defScope sTakenIn) := ⟨rfl, rfl, rfl, by decide +kernel, rfl, by decide +kernel, by decide +kernel⟩
section
variable {P : Program} {w : World} {K : PySem.W.Frag} {mg : Str → Option Value} {base : Heap} {f : Addr} {fd : FuncData}

theorem ok_takenin (F : FnP K "taken_in" sTakenIn f fd) (O_looks_at : Okf P w K mg base CX0 2 "looks_at" ["row"] spLooks) (z_sorted : mg "sorted" = none) (z_set : mg "set" = none) (z_tuple : mg "tuple" = none) : FnOk P w K mg base CX0 3 f fd ["blocks", "first"] spTakenIn := by
  have sc := scsTakenIn
  refine F.ok sc (fun vs H Q E h => ?_) (fun cdv A outer s H vs Q E hr h => ?_)
  · obtain ⟨l, us, f, bs, rfl, _⟩ := h
    rfl
  obtain ⟨l, us, f, bs, rfl, hl, hb, h2, hok, hbl, q⟩ := h
  have hul := hb.len
  refine ⟨_, PSs.nox (pss_cons (ps_set (i := 2) sc.nd rfl (.inl rfl) (pe_lst pa_nil))
    (pss_cons (ps_for PassesOwn.never rfl (pi_listK K (pv 0)) (pg_tupK K (n := 2) rfl (pgs_cons (pg_name (i := 3) sc.nd rfl (.inl rfl)) (pgs_cons (pg_name (i := 4) sc.nd rfl (.inl rfl)) pgs_nil))) (pss_cons (ps_expr (pe_bm PySem.F.plainAttrs_list PySem.F.slot_list_append PySem.F.type_list_append mt_append (pv 2) (pa_cons (pv 4) pa_nil)))
    (pss_one (ps_for PassesOwn.never rfl (pi_tupK K (pv 3)) (pg_name (i := 5) sc.nd rfl (.inl rfl)) (pss_one (ps_expr (pe_bm PySem.F.plainAttrs_list PySem.F.slot_list_extend PySem.F.type_list_extend (mt_extT K) (pv 2) (pa_cons (pe_c O_looks_at hr rfl pass0 (pa_cons (pv 5) pa_nil)) pa_nil))))))))
    (pss_one (ps_ret (pe_callTy (call_tupleK K) rfl z_tuple (by decide +kernel) (pa_cons (pe_callB (cr_sortedSetK w rfl) rfl z_sorted (by decide +kernel) (pa_cons (pe_callTy (cr_setL K w rfl) rfl z_set (by decide +kernel) (pa_cons (pe_lc (own := [("at", 6)]) (by rfl) sc.nd (pi_listK K (pv 2)) (blkOk_by (own := [("at", 6)]) (N := ["blocks", "first", "seen", "rows", "told", "row", "at"]) (sc := defScope sTakenIn) (by decide +kernel)) (fun _ _ _ _ _ => (pg_name (i := 6) sc.nd rfl (.inl rfl))) (fun _ _ _ _ _ => (pts_one (pt_cmpR op_lt (pv 6) (pv 1) (nomark _)))) (fun _ _ _ _ _ => (pv 6))) pa_nil)) pa_nil)) pa_nil)))))), ?_⟩
  refine ⟨by show 0 ≤ sizeLine; decide, fun sl hsl => ?_⟩
  have s0 := same_new hsl (.lst [])
  refine ⟨_, rfl, l, rfl, ⟨_, SqL.of (s0 _ _ hl)⟩, for_list (K := K) (a := l) (xs := us) (fun i σ H' => ∃ (x1 x2 x3 : Option V), σ = [some (.ref l), some (.int (f : Int)), some (.ref sl), x1, x2, x3, none] ∧ Same H H' ∧ H' sl = some (.lst ((seenB (bs.take i)).map dV))) ⟨none, none, none, rfl, s0, upd_same⟩ ?_ ?_ ?_⟩
  · rintro i σ H' _ ⟨x1, x2, x3, rfl, s1, _⟩
    exact SqL.of (s1 _ _ hl)
  · rintro i v σ H1 hi ⟨x1, x2, x3, rfl, s1, e1⟩
    obtain ⟨b, hbi, hd⟩ := hb.get i hi
    have hi' : i < bs.length := (List.getElem?_eq_some_iff.mp hbi).1
    obtain ⟨ok1, ok2⟩ := hok b (List.mem_of_getElem? hbi)
    obtain ⟨ba, bvs, rfl, g1, g2⟩ := (hd.same s1).seq_inv
    obtain ⟨rv, bvs, rfl, d1, g2⟩ := g2.cons_inv
    obtain ⟨tv, bvs, rfl, d2, g2⟩ := g2.cons_inv
    have e2 := g2.nil_inv
    have e3 := d2.n_inv
    subst e2 e3
    obtain ⟨ra, rvs, rfl, r1, r2⟩ := d1.seq_inv
    have hrl := r2.len
    rw [rowsDa_len] at hrl
    have hsl1 := seenB_len (bs.take i) fun b hb => hok b (List.mem_of_mem_take hb)
    have hti : (bs.take i).length ≤ 1 := by rw [List.length_take]; omega
    have big : 100000 ≤ sizeLine := by decide
    refine ⟨ba, _, rfl, g1.t, rfl, _, _, rfl, _, _, rfl, rfl, ?_⟩
    refine ⟨_, rfl, .inl ⟨rfl, _, SqL.of e1⟩, _, rfl, sl, _, _, rfl, rfl, e1, by rw [List.length_map]; omega, ?_⟩
    have s2 : Same H (upd H1 sl (.lst ((seenB (bs.take i)).map dV ++ [dV b.2]))) := fun b' o' hb' => by
      rw [upd_ne (ne_of_none hb' hsl)]
      exact s1 _ _ hb'
    have nra : ∀ {H2 : Hp}, Same H H2 → True := fun _ => trivial
    have kk := IK.lst (ys := (seenB (bs.take i)).map dV ++ [dV b.2]) e1
    have r1' : ∀ H2, IK H1 H2 → SqT K H2 ra rvs := fun H2 k => by
      rcases r1 with ⟨z, _⟩ | ⟨_, h | ⟨o, h⟩⟩
      · cases z
      · exact SqT.of (k.t _ _ h)
      · exact .inl (.inr ⟨o, k.f _ _ _ h⟩)
    refine ⟨_, rfl, ra, rfl, ⟨_, r1' _ kk⟩, for_tup (K := K) (a := ra) (xs := rvs) (fun j σ H' => ∃ (x3 : Option V), σ = [some (.ref l), some (.int (f : Int)), some (.ref sl), some (.ref ra), some (dV b.2), x3, none] ∧ Same H H' ∧ IK H1 H' ∧ H' sl = some (.lst ((seenB (bs.take i) ++ seen1 (b.1.take j) b.2).map dV))) ⟨x3, rfl, s2, kk, ?_⟩ ?_ ?_ ?_⟩
    · rw [upd_same, List.map_append]
      rfl
    · rintro j σ H' _ ⟨x3, rfl, _, k, _⟩
      exact r1' _ k
    · rintro j rv σ H2 hj ⟨x3, rfl, s3, k3, e4⟩
      have hj' : j < rvs.length := (List.getElem?_eq_some_iff.mp hj).1
      have hbj := List.getElem?_eq_getElem (show j < b.1.length by omega)
      obtain ⟨rv', q1, q2, _⟩ := r2.get j (rowsDa_get hbj)
      have q3 : rv' = rv := Option.some.inj (q1.symm.trans hj)
      subst q3
      obtain ⟨ro, rr⟩ := ok2 _ (List.mem_of_getElem? hbj)
      have hrd := fm_len (b.1.take j) fun r hr => (ok2 r (List.mem_of_mem_take hr)).2
      have hrt : (b.1.take j).length ≤ 100 := by rw [List.length_take]; omega
      refine ⟨_, rfl, .inl ⟨rfl, _, SqL.of e4⟩, _, rfl, rv', b.1[j], rfl, q2.ik k3 (Row.tp _), ro, by omega, fun H3 u s4 hu => ?_⟩
      obtain ⟨ua, uvs, rfl, u1, u2⟩ := hu.seq_inv
      have u3 := u2.ns_inv
      subst u3
      refine ⟨sl, ua, _, _, rfl, rfl, s4 _ _ e4, u1.t, ?_, _, rfl, ?_, ?_, ?_⟩
      · simp only [List.length_map, List.length_append, seen1, List.length_cons]
        omega
      · intro b' o' hb'
        rw [upd_ne (ne_of_none hb' hsl)]
        exact s4 _ _ (s3 _ _ hb')
      · exact (k3.trans (IK.of s4)).trans (IK.lst (s4 _ _ e4))
      · rw [upd_same, ← List.map_append, List.append_assoc]
        congr 3
        unfold seen1
        rw [List.take_add_one, hbj, List.cons_append, List.flatMap_append]
        simp
    · rintro σ H2 ⟨x3, rfl, s3, k3, e4⟩
      refine ⟨_, _, _, rfl, s3, ?_⟩
      rw [e4, hrl, List.take_length, List.take_add_one, hbi]
      unfold seenB
      rw [List.flatMap_append]
      simp
  · rintro σ H1 ⟨x1, x2, x3, rfl, s1, e1⟩
    rw [hul, List.take_length] at e1
    have hsl1 := seenB_len bs hok
    refine ⟨_, rfl, sl, rfl, ⟨_, SqL.of e1⟩, fun D hD => ?_⟩
    have nsD : sl ≠ D := ne_of_none e1 hD
    refine lc_list (K := K) (a := sl) (xs := (seenB bs).map dV) (fun i H' => H' = upd H1 D (.lst ((flt ((seenB bs).take i) f).map dV))) rfl ?_ ?_ ?_
    · rintro i H' _ rfl
      exact SqL.of (by rw [upd_ne nsD]; exact e1)
    · rintro i v H' hi rfl
      rw [List.getElem?_map] at hi
      obtain ⟨k, hk, rfl⟩ := Option.map_eq_some_iff.mp hi
      have hi' : i < (seenB bs).length := (List.getElem?_eq_some_iff.mp hk).1
      have e5 : flt ((seenB bs).take (i + 1)) f = flt ((seenB bs).take i) f ++ (if k < f then [k] else []) := by
        unfold flt
        rw [List.take_add_one, hk, List.filter_append]
        congr 1
        by_cases c : k < f
        · simp [c]
        · simp [c]
      refine ⟨rfl, ?_⟩
      refine ⟨_, rfl, _, rfl, _, _, rfl, rfl, _, rfl, ?_⟩
      refine ite2 (fun c => ?_) (fun c => ?_)
      · have c' : k < f := by have := of_decide_eq_true c; omega
        refine ⟨_, rfl, _, upd_same, ?_, ?_⟩
        · rw [List.length_map]
          have := List.length_filter_le (fun k => decide (k < f)) ((seenB bs).take i)
          rw [List.length_take] at this
          have big : 100000 ≤ sizeLine := by decide
          unfold flt
          omega
        · rw [upd_upd, e5, if_pos c', List.map_append]
          rfl
      · have c' : ¬ k < f := fun z => c (decide_eq_true (by omega))
        rw [e5, if_neg c', List.append_nil]
    rintro H' rfl
    rw [List.length_map, List.take_length]
    have sD := same_new hD (.lst ((flt (seenB bs) f).map dV))
    refine ⟨D, (flt (seenB bs) f).map nI, rfl, SqL.of (by rw [upd_same, mapdV]), by rw [List.length_map, flt_len]; omega, fun p c hp hc => ?_⟩
    rw [List.length_map, flt_len] at hc
    have sp := same_new hp (SetO w p (fun j => decide (j ∈ (flt (seenB bs) f).map nI)) c)
    refine ⟨p, _, c, rfl, upd_same, by omega, fun ns p2 g1 g2 g3 hp2 => ?_⟩
    have e6 := tin_of g1 g2
    have sp2 := same_new hp2 (.lst (ns.map V.int))
    refine ⟨p2, _, rfl, .inl ⟨SqL.of upd_same, fun p3 hp3 => ?_⟩⟩
    have sp3 := same_new hp3 (.tup (ns.map V.int))
    refine q _ _ (((s1.trans sD).trans sp).trans (sp2.trans sp3)) (.tup upd_same ?_ (by rw [e6]; exact DIns.ns _))
    rw [List.length_map]
    omega
end
end NR
set_option maxHeartbeats 4000000
namespace NR
open PySem PySem.Spec PyProof.Rows L2

/-! ### nodes as they must be; rows of such -/
mutual
def Nd.ok : Nd → Prop
  | .node w _ n ps _ => ((w.lay = 3 → ps.length = w.ar) ∧ (w.lay = 1 → 0 ≤ n ∧ n ≤ 19)) ∧ noks ps
def noks : List Nd → Prop
  | [] => True
  | e :: es => e.ok ∧ noks es
end
mutual
theorem An.nok {fs : List (List Nat × Nat)} : ∀ {ρ : Env1} {p : Nat} {e : Ex} {nd : Nd}, An fs ρ p e nd → nd.ok
  | _, _, _, _, .num _ _ => ⟨⟨fun z => (by cases z), fun z => (by cases z)⟩, trivial⟩
  | _, _, _, _, .name _ _ _ _ => ⟨⟨fun z => (by cases z), fun z => (by cases z)⟩, trivial⟩
  | _, _, _, _, .bind hw h0 h1 ha _ hb _ => ⟨⟨fun z => (by omega), fun _ => ⟨h0, h1⟩⟩, ha.nok, hb.nok, trivial⟩
  | _, _, _, _, .call _ _ hp _ => ⟨⟨fun z => (by cases z), fun z => (by cases z)⟩, hp.nok⟩
  | _, _, _, _, .bare hw hp hd => ⟨⟨fun z => (by have := hd.ar hw; rw [List.length_map] at this; exact this), fun z => (by omega)⟩, hp.nok⟩
theorem Ans.nok {fs : List (List Nat × Nat)} : ∀ {ρ : Env1} {p : Nat} {es : List Ex} {nds : List Nd}, Ans fs ρ p es nds → noks nds
  | _, _, _, _, .nil => trivial
  | _, _, _, _, .cons ha hr => ⟨ha.nok, hr.nok⟩
end
theorem wd3 {w : W} (h : w.wd = true) : 1 ≤ w.ar := by revert h; cases w <;> simp [W.wd, W.ar]
mutual
theorem Lay.rok : ∀ {nd : Nd} {ε : Env1} {r : Nat} {rs : List Row} {t r' : Nat}, Lay nd ε r rs t r' → nd.ok → ∀ row ∈ rs, row.ok
  | _, _, _, _, _, _, .num, _, row, h => by
    rw [List.mem_singleton.mp h]
    trivial
  | _, _, _, _, _, _, .name _, _, row, h => by cases h
  | _, _, _, _, _, _, .elet la lb, k, row, h => by
    rcases List.mem_append.mp h with h | h
    · exact la.rok k.2.1 row h
    · exact lb.rok k.2.2.1 row h
  | _, _, _, _, _, _, .ite lc _ _, k, row, h => by
    rcases List.mem_append.mp h with h | h
    · exact lc.rok k.2.1 row h
    · rw [List.mem_singleton.mp h]
      trivial
  | _, _, _, _, _, _, .ea hw la _, k, row, h => by
    rcases List.mem_append.mp h with h | h
    · exact la.rok k.2.1 row h
    · rw [List.mem_singleton.mp h]
      exact hw
  | _, _, _, _, _, _, .call l, k, row, h => by
    rcases List.mem_append.mp h with h | h
    · exact l.rok k.2 row h
    · rw [List.mem_singleton.mp h]
      trivial
  | _, _, _, _, _, _, .bare (w := w) (ps := ps) hw hi l, k, row, h => by
    rcases List.mem_append.mp h with h | h
    · exact l.rok k.2 row h
    · rw [List.mem_singleton.mp h]
      have hl := k.1.1 hw
      refine ⟨hw, hi, by rw [l.up.2.2]; exact hl, ?_⟩
      by_cases c : w.wd = true
      · rw [if_pos c, c]
        have := wd3 c
        cases ps with
        | nil =>
          simp only [List.length_nil] at hl
          omega
        | cons a ps => rfl
      · rw [if_neg c, Bool.eq_false_iff.mpr c]
        rfl
theorem Lays.rok : ∀ {nds : List Nd} {ε : Env1} {r : Nat} {rs : List Row} {ts : List Nat} {r' : Nat}, Lays nds ε r rs ts r' → noks nds → ∀ row ∈ rs, row.ok
  | _, _, _, _, _, _, .nil, _, row, h => by cases h
  | _, _, _, _, _, _, .cons la l, k, row, h => by
    rcases List.mem_append.mp h with h | h
    · exact la.rok k.1 row h
    · exact l.rok k.2 row h
end
/-- what stands in a row behind its register, and the registers then -/
inductive REnd : Nd → Env1 → List Nat → Nat → List Da → Nat → Prop
  | num {p : Nat} {n : Int} {d r : Nat} {ε : Env1} : REnd (.node .num p n [] d) ε [] r [.int n] r
  | call {p : Nat} {k : Int} {ps : List Nd} {d r : Nat} {ε : Env1} {ts : List Nat} : REnd (.node .call p k ps d) ε ts r [.int k, .seq false (ts.map nDa)] r
  | ite {p : Nat} {n : Int} {c a b : Nd} {d r r2 r3 tc ta tb : Nat} {ε : Env1} {ra rb : List Row} : Lay a ε r ra ta r2 → Lay b ε r2 rb tb r3 →
      REnd (.node .ite p n [c, a, b] d) ε [tc] r [nDa tc, .seq false ((tin (seen1 ra ta ++ seen1 rb tb) r).map nDa), .seq false (rowsDa ra), nDa ta, .seq false (rowsDa rb), nDa tb] r3
  | ea {p : Nat} {x : Int} {w : W} {a b : Nd} {d r r2 ta tb : Nat} {ε : Env1} {rb : List Row} : (w = .each ∨ w = .whr) → Lay b (ups ε x r) (r + 1) rb tb r2 →
      REnd (.node w p x [a, b] d) ε [ta] r [nDa ta, nDa a.d, nDa r, .seq false ((tin (seen1 rb tb) r).map nDa), .seq false (rowsDa rb), nDa tb, nDa d] r2
  | bare {w : W} {p : Nat} {n : Int} {ps : List Nd} {d r : Nat} {ε : Env1} {ts : List Nat} : w.lay = 3 → w ≠ .ite → ts.length = ps.length → REnd (.node w p n ps d) ε ts r (ts.map nDa ++ oDa (if w.wd = true then headD ps else none)) r
/-- an expression's rows: a name, a let, or its parts' rows and its own -/
theorem Lay.split {w : W} {p : Nat} {n : Int} {ps : List Nd} {d : Nat} {ε : Env1} {r : Nat} {rs : List Row} {t r' : Nat} (l : Lay (.node w p n ps d) ε r rs t r') :
    (w = .name ∧ rs = [] ∧ ε n = some t ∧ r' = r) ∨ (w = .elet ∧ ∃ a b ra ta r1 rb, ps = [a, b] ∧ rs = ra ++ rb ∧ Lay a ε r ra ta r1 ∧ Lay b (ups ε n ta) r1 rb t r') ∨
    (w ≠ .name ∧ w ≠ .elet ∧ ∃ rs0 ts r1 be row, Lays (aheadOf w ps) ε r rs0 ts r1 ∧ REnd (.node w p n ps d) ε ts r1 be t ∧ rs = rs0 ++ [row] ∧ row.da = .seq false (.str w.str :: nDa p :: nDa t :: be) ∧ r' = t + 1) := by
  cases l with
  | num => exact .inr (.inr ⟨by decide, by decide, [], [], r, _, _, .nil, .num, rfl, rfl, rfl⟩)
  | name h => exact .inl ⟨rfl, rfl, h, rfl⟩
  | elet la lb => exact .inr (.inl ⟨rfl, _, _, _, _, _, _, rfl, rfl, la, lb⟩)
  | @ite _ _ c a b _ _ r1 r2 r3 tc ta tb _ rc ra rb lc la lb => exact .inr (.inr ⟨by decide, by decide, rc, [tc], r1, _, _, by have := Lays.cons lc .nil; rw [List.append_nil] at this; exact this, .ite la lb, rfl, rfl, rfl⟩)
  | @ea _ _ _ a b _ _ r1 r2 ta tb _ ra rb hw la lb =>
    refine .inr (.inr ⟨by rcases hw with rfl | rfl <;> decide, by rcases hw with rfl | rfl <;> decide, ra, [ta], r1, _, _, ?_, .ea hw lb, rfl, rfl, rfl⟩)
    have := Lays.cons la .nil
    rw [List.append_nil] at this
    rcases hw with rfl | rfl <;> exact this
  | call l => exact .inr (.inr ⟨by decide, by decide, _, _, _, _, _, l, .call, rfl, rfl, rfl⟩)
  | bare hw hi l =>
    have hb : w.bl = false := by revert hw hi; cases w <;> simp [W.lay, W.bl]
    refine .inr (.inr ⟨fun z => (by rw [z] at hw; cases hw), fun z => (by rw [z] at hw; cases hw), _, _, _, _, _, ?_, .bare hw hi l.up.2.2, rfl, rfl, rfl⟩)
    rw [aheadOf, if_neg (by rw [hb]; exact Bool.false_ne_true)]
    exact l
/-- parts one after another -/
theorem Lays.seq {ε : Env1} : ∀ {nds : List Nd} {r : Nat} {rs : List Row} {ts : List Nat} {r' : Nat}, Lays nds ε r rs ts r' → ∃ (rg : Nat → Nat) (rw_ : Nat → List Row), rg 0 = r ∧ rw_ 0 = [] ∧ rg nds.length = r' ∧ rw_ nds.length = rs ∧
    ∀ (i : Nat) (nd : Nd), nds[i]? = some nd → ∃ ra t, ts[i]? = some t ∧ Lay nd ε (rg i) ra t (rg (i + 1)) ∧ rw_ (i + 1) = rw_ i ++ ra ∧ (rw_ i).length + nd.size ≤ nsizes nds
  | _, _, _, _, _, .nil => ⟨fun _ => _, fun _ => [], rfl, rfl, rfl, rfl, fun i nd h => by simp at h⟩
  | _, _, _, _, _, .cons (a := a) (l := l) (r := r) (ra := ra) (rl := rl) (t := t) la ls => by
    obtain ⟨rg, rw_, e1, e2, e3, e4, e5⟩ := Lays.seq ls
    refine ⟨fun i => match i with | 0 => r | j + 1 => rg j, fun i => match i with | 0 => [] | j + 1 => ra ++ rw_ j, rfl, rfl, e3, by show ra ++ rw_ l.length = _; rw [e4], fun i nd h => ?_⟩
    cases i with
    | zero =>
      cases h
      refine ⟨ra, t, rfl, ?_, ?_, ?_⟩
      · show Lay a ε r ra t (rg 0)
        rw [e1]
        exact la
      · show ra ++ rw_ 0 = [] ++ ra
        rw [e2, List.append_nil, List.nil_append]
      · show 0 + a.size ≤ a.size + nsizes l
        omega
    | succ i =>
      obtain ⟨ra', t', h1, h2, h3, h4⟩ := e5 i nd h
      refine ⟨ra', t', h1, h2, by show ra ++ rw_ (i + 1) = ra ++ rw_ i ++ ra'; rw [h3, List.append_assoc], ?_⟩
      show (ra ++ rw_ i).length + nd.size ≤ a.size + nsizes l
      have := la.up.2
      rw [List.length_append]
      omega
theorem noks_get : ∀ {nds : List Nd} {i : Nat} {nd : Nd}, noks nds → nds[i]? = some nd → nd.ok ∧ nd.size ≤ nsizes nds ∧ nd.hgt ≤ nhgts nds
  | [], i, _, _, h => by simp at h
  | a :: l, 0, _, k, h => by
    cases h
    simp only [nsizes, nhgts]
    exact ⟨k.1, by omega, by omega⟩
  | a :: l, i + 1, nd, k, h => by
    obtain ⟨h1, h2, h3⟩ := noks_get (nds := l) k.2 h
    simp only [nsizes, nhgts]
    exact ⟨h1, by omega, by omega⟩
theorem ahead_le (w : W) (ps : List Nd) (k : noks ps) : noks (aheadOf w ps) ∧ nsizes (aheadOf w ps) ≤ nsizes ps ∧ nhgts (aheadOf w ps) ≤ nhgts ps ∧ (aheadOf w ps).length ≤ ps.length := by
  unfold aheadOf
  split
  · cases ps with
    | nil => exact ⟨trivial, Nat.le_refl _, Nat.le_refl _, Nat.le_refl _⟩
    | cons a l =>
      simp only [List.take_succ_cons, List.take_zero, nsizes, nhgts, List.length_cons, List.length_nil]
      exact ⟨⟨k.1, trivial⟩, by omega, by omega, by omega⟩
  · exact ⟨k, Nat.le_refl _, Nat.le_refl _, Nat.le_refl _⟩
/-! ### the coder -/
def cdF (r : Nat) : List (Str × V) := [("registers", .int (r : Int))]
theorem cdF_reg {r} : (cdF r).lookup ("registers" : Str) = some (.int (r : Int)) := by rfl
theorem cdF_no {r} {m : Str} (h : (m == "registers") = false) : (cdF r).lookup m = none := by
  simp only [cdF, List.lookup_cons, h, List.lookup_nil]
structure CdC (K : PySem.W.Frag) (C : Addr) : Prop where
  cl : Cls K C
  reg : NoAttr K C "registers"
def spCoder (C : Addr) : Sp := fun vs H Q _ => ∃ (a dx : Addr) (r : Nat), vs = [.ref a, .int (r : Int)] ∧ H a = some (.ins C dx []) ∧ Q .non (upd H a (.ins C dx (cdF r)))
abbrev sCoderInit : Stmt := inClass (top 65) 0
theorem scsCoderInit : FnScope ["self", "registers"] ["self", "registers"] (defScope sCoderInit) := ⟨rfl, rfl, rfl, by decide +kernel, rfl, by decide +kernel, by decide +kernel⟩
section
variable {P : Program} {w : World} {K : PySem.W.Frag} {mg : Str → Option Value} {base : Heap} {f : Addr} {fd : FuncData}

theorem ok_coder {C : Addr} (F : FnM K "__init__" "Coder.__init__" sCoderInit f fd) (N : CdC K C) : FnOk P w K mg base CX0 1 f fd ["self", "registers"] (spCoder C) := by
  have sc := scsCoderInit
  refine F.ok sc (fun vs H Q E h => ?_) (fun cdv A outer s H vs Q E hr h => ?_)
  · obtain ⟨a, dx, r, rfl, _⟩ := h
    rfl
  obtain ⟨a, dx, r, rfl, ha, q⟩ := h
  refine ⟨_, (pss_one (ps_fldK K (pv 0) (pv 1) rfl)), ?_⟩
  exact ⟨_, rfl, _, rfl, a, C, dx, _, rfl, ha, N.cl, N.reg, by decide, q⟩
end

def spNewOne (C : Addr) : Sp := fun vs H Q _ => ∃ (a dx : Addr) (r : Nat), vs = [.ref a] ∧ H a = some (.ins C dx (cdF r)) ∧ Q (dV r) (upd H a (.ins C dx (cdF (r + 1))))
abbrev sCoderNewOne : Stmt := inClass (top 65) 1
theorem scsCoderNewOne : FnScope ["self"] ["self"] (defScope sCoderNewOne) := ⟨rfl, rfl, rfl, by decide +kernel, rfl, by decide +kernel, by decide +kernel⟩
section
variable {P : Program} {w : World} {K : PySem.W.Frag} {mg : Str → Option Value} {base : Heap} {f : Addr} {fd : FuncData}

theorem ok_newone {C : Addr} (F : FnM K "new_one" "Coder.new_one" sCoderNewOne f fd) (N : CdC K C) : FnOk P w K mg base CX0 1 f fd ["self"] (spNewOne C) := by
  have sc := scsCoderNewOne
  refine F.ok sc (fun vs H Q E h => ?_) (fun cdv A outer s H vs Q E hr h => ?_)
  · obtain ⟨a, dx, r, rfl, _⟩ := h
    rfl
  obtain ⟨a, dx, r, rfl, ha, q⟩ := h
  refine ⟨_, (pss_cons (ps_fldaug (pv 0) pe_int in_add)
    (pss_one (ps_ret (pe_op op_sub (pe_fldK K (pv 0) rfl) pe_int)))), ?_⟩
  refine ⟨_, rfl, a, C, dx, _, _, rfl, ha, N.cl, N.reg, cdF_reg, _, _, rfl, rfl, dx, _, ha, by show 1 < 1000; decide, ?_⟩
  refine ⟨_, rfl, a, C, dx, _, _, rfl, upd_same, N.cl, N.reg, rfl, _, _, rfl, rfl, ?_⟩
  have e : (((r : Int) + 1) - 1) = (r : Int) := by omega
  show Q (V.int (((r : Int) + 1) - 1)) _
  rw [e]
  exact q
end
end NR
set_option maxHeartbeats 4000000
namespace NR
open PySem PySem.Spec PyProof.Rows L2
open TL

def spNumeral : Sp := fun vs H Q _ => ∃ (n : Int), vs = [.str (iT n)] ∧ 0 ≤ n ∧ n ≤ 10006 ∧ Q (.bl true) H
abbrev sIsNumeral : Stmt := top 55
theorem scsIsNumeral : FnScope ["word"] ["word"] (defScope sIsNumeral) := ⟨rfl, rfl, rfl, by decide +kernel, rfl, by decide +kernel, by decide +kernel⟩
section
variable {P : Program} {w : World} {K : PySem.W.Frag} {mg : Str → Option Value} {base : Heap} {f : Addr} {fd : FuncData}

theorem ok_numeralw (F : FnP K "is_numeral" sIsNumeral f fd) {t0 : Tok} (m_MOST_FIGURES : mg "MOST_FIGURES" = some (.int 5 t0)) (z_len : mg "len" = none) : FnOk P w K mg base CX0 1 f fd ["word"] spNumeral := by
  have sc := scsIsNumeral
  refine F.ok sc (fun vs H Q E h => ?_) (fun cdv A outer s H vs Q E hr h => ?_)
  · obtain ⟨n, rfl, _⟩ := h
    rfl
  obtain ⟨n, rfl, h0, h1, q⟩ := h
  have hd := iT_digit h0
  have hl := iT_len h0 h1
  have big : 1000 ≤ sizeLine := by decide
  refine ⟨_, (pss_cons (ps_if (PW.pt (pw_or (pt_not (pt_val (L2.pe_m0 PySem.F.slot_str_isdigit PySem.F.type_str_isdigit mt_isdigit (pv 0)))) (pw_or1 (pt_cmpR op_gt (pe_callB call_len_str rfl z_len PySem.boot_len (pa_cons (pv 0) pa_nil)) (pe_gI rfl m_MOST_FIGURES) (nomark _))))) (pss_one (ps_ret pe_bl)) pss_nil)
    (pss_one (ps_ret (pe_or (pe_cmpR op_eq (pv 0) pe_str (nomark _)) (pe_one (pe_cmpR op_ne (pe_ix ix_str (pv 0) pe_int (fun _ _ => rfl)) pe_str (nomark _))))))), ?_⟩
  refine ⟨_, rfl, ⟨_, rfl⟩, _, rfl, rfl, trivial, ?_⟩
  rw [hd]
  refine ⟨_, rfl, ?_⟩
  refine ite2 (fun z => absurd z (by decide)) (fun _ => ?_)
  refine ⟨_, rfl, _, rfl, by omega, _, _, rfl, rfl, _, rfl, ?_⟩
  refine ite2 (fun z => absurd (of_decide_eq_true z) (by omega)) (fun _ => ?_)
  by_cases z : n = 0
  · subst z
    exact ⟨_, rfl, rfl, _, rfl, q⟩
  · obtain ⟨c, r, e1, e2⟩ := numL_head (n := n.toNat) (by omega)
    have e3 := iT_tl h0
    rw [e1] at e3
    have ne0 : iT n ≠ ("0" : Str) := fun h => by
      rw [h] at e3
      have e4 : TL.tl ("0" : Str) = [48] := by decide +kernel
      rw [e4] at e3
      injection e3 with e3 _
      exact e2 e3.symm
    have d0 : decide (V.str (iT n) = V.str "0") = false := decide_eq_false fun h => ne0 (by injection h)
    refine ⟨_, rfl, rfl, ?_⟩
    rw [d0]
    refine ⟨_, rfl, ?_⟩
    refine ⟨_, rfl, _, _, c, rfl, rfl, by omega, ?_, rfl, ?_⟩
    · show atI (TL.tl (iT n)) 0 = some c
      rw [e3]
      simp [atI, ixN]
    · have d1 : decide (V.str ⟨#[c]⟩ = V.str "0") = false := decide_eq_false fun h => by
        injection h with h
        have h2 := congrArg TL.tl h
        have e4 : TL.tl ("0" : Str) = [48] := by decide +kernel
        rw [e4] at h2
        have h3 : [c] = [48] := h2
        injection h3 with h3 _
        exact e2 h3
      rw [d1]
      exact q
end
end NR
set_option maxHeartbeats 4000000
namespace NR
open PySem PySem.Spec PyProof.Rows L2

def rdF (row : Int) (wl : Addr) (p : Nat) : List (Str × V) := [("row", .int row), ("words", .ref wl), ("place", .int (p : Int))]
theorem rdF_words {row wl p} : (rdF row wl p).lookup ("words" : Str) = some (.ref wl) := by rfl
theorem rdF_place {row wl p} : (rdF row wl p).lookup ("place" : Str) = some (.int (p : Int)) := by rfl
theorem rdF_no {row wl p} {m : Str} (h : (m == "row") = false) (h1 : (m == "words") = false) (h2 : (m == "place") = false) : (rdF row wl p).lookup m = none := by
  simp only [rdF, List.lookup_cons, h, h1, h2, List.lookup_nil]
structure RrC (K : PySem.W.Frag) (C : Addr) : Prop where
  cl : Cls K C
  row : NoAttr K C "row"
  words : NoAttr K C "words"
  place : NoAttr K C "place"
/-- a reader in the heap, its words, its place -/
structure RdIn (H : Hp) (C a dx wl : Addr) (row : Int) (p : Nat) (ws : List Str) : Prop where
  ha : H a = some (.ins C dx (rdF row wl p))
  hw : H wl = some (.lst (ws.map V.str))
theorem RdIn.same {H H' : Hp} {C a dx wl : Addr} {row : Int} {p : Nat} {ws : List Str} (h : RdIn H C a dx wl row p ws) (s : Same H H') : RdIn H' C a dx wl row p ws := ⟨s _ _ h.ha, s _ _ h.hw⟩
/-- behind a step of the reader -/
structure RdTo (H H' : Hp) (C a dx wl : Addr) (row : Int) (p : Nat) (ws : List Str) : Prop where
  s : SameX a H H'
  r : RdIn H' C a dx wl row p ws
def spRd (C : Addr) : Sp := fun vs H Q _ => ∃ (a dx : Addr) (row : Int) (f : Fn), vs = [.ref a, .int row, .str f.row] ∧ H a = some (.ins C dx []) ∧ FnT f ∧ ∀ (wl : Addr) (H' : Hp), H wl = none → RdTo H H' C a dx wl row 0 f.words → Q .non H'
def spUpc (C : Addr) : Sp := fun vs H Q _ => ∃ (a dx wl : Addr) (row : Int) (p : Nat) (ws : List Str) (x : Str), vs = [.ref a] ∧ RdIn H C a dx wl row p ws ∧ ws[p]? = some x ∧ Q (.str x) H
def spNext (C : Addr) : Sp := fun vs H Q _ => ∃ (a dx wl : Addr) (row : Int) (p : Nat) (ws : List Str) (x : Str), vs = [.ref a, .bl true] ∧ RdIn H C a dx wl row p ws ∧ ws[p]? = some x ∧ ∀ H', RdTo H H' C a dx wl row (p + 1) ws → Q (.str x) H'
def spNml (C : Addr) : Sp := fun vs H Q _ => ∃ (a dx wl : Addr) (row : Int) (p : Nat) (ws : List Str) (n : Int), vs = [.ref a] ∧ RdIn H C a dx wl row p ws ∧ ws[p]? = some (iT n) ∧ 0 ≤ n ∧ n ≤ 10006 ∧ ∀ H', RdTo H H' C a dx wl row (p + 1) ws → Q (.int n) H'
def spSign (C : Addr) : Sp := fun vs H Q _ => ∃ (a dx wl : Addr) (row : Int) (p : Nat) (ws : List Str) (x : Str), vs = [.ref a, .str x] ∧ RdIn H C a dx wl row p ws ∧ ws[p]? = some x ∧ ∀ H', RdTo H H' C a dx wl row (p + 1) ws → Q .non H'
theorem RdIn.upd {H : Hp} {C a dx wl : Addr} {row : Int} {p : Nat} {ws : List Str} (h : RdIn H C a dx wl row p ws) (q : Nat) : RdTo H (L2.upd H a (.ins C dx (rdF row wl q))) C a dx wl row q ws :=
  ⟨.upd, upd_same, by rw [upd_ne (ne_of h.hw h.ha (by intro z; cases z))]; exact h.hw⟩
abbrev sRowReaderInit : Stmt := inClass (top 56) 0
theorem scsRowReaderInit : FnScope ["self", "row", "text"] ["self", "row", "text"] (defScope sRowReaderInit) := ⟨rfl, rfl, rfl, by decide +kernel, rfl, by decide +kernel, by decide +kernel⟩
section
variable {P : Program} {w : World} {K : PySem.W.Frag} {mg : Str → Option Value} {base : Heap} {f : Addr} {fd : FuncData}

theorem ok_rdinit {C : Addr} (F : FnM K "__init__" "RowReader.__init__" sRowReaderInit f fd) (N : RrC K C) : FnOk P w K mg base CX0 1 f fd ["self", "row", "text"] (spRd C) := by
  have sc := scsRowReaderInit
  refine F.ok sc (fun vs H Q E h => ?_) (fun cdv A outer s H vs Q E hr h => ?_)
  · obtain ⟨a, dx, row, f, rfl, _⟩ := h
    rfl
  obtain ⟨a, dx, row, f0, rfl, ha, ft, q⟩ := h
  have hl := Fn.row_len ft
  have big : 100000 ≤ sizeLine := by decide
  refine ⟨_, (pss_cons (ps_fldK K (pv 0) (pv 1) rfl)
    (pss_cons (ps_fldK K (pv 0) (pe_split (pv 2) pe_str) rfl)
    (pss_one (ps_fldK K (pv 0) pe_int rfl)))), ?_⟩
  refine ⟨_, rfl, _, rfl, a, C, dx, _, rfl, ha, N.cl, N.row, by decide, ?_⟩
  refine ⟨_, rfl, ⟨_, rfl⟩, _, _, rfl, rfl, by decide +kernel, by omega, fun wl hwl => ?_⟩
  rw [Fn.row_split ft]
  have hwa : wl ≠ a := fun z => by rw [z, upd_same] at hwl; cases hwl
  have hw0 : H wl = none := by rw [upd_ne hwa] at hwl; exact hwl
  refine ⟨_, rfl, a, C, dx, _, rfl, by rw [upd_ne hwa.symm]; exact upd_same, N.cl, N.words, by show 1 < 1000; decide, ?_⟩
  refine ⟨_, rfl, a, C, dx, _, rfl, upd_same, N.cl, N.place, by show 2 < 1000; decide, ?_⟩
  refine q wl _ hw0 ⟨fun b o nb hb => ?_, upd_same, ?_⟩
  · rw [upd_ne nb, upd_ne nb, upd_ne (ne_of_none hb hw0), upd_ne nb]
    exact hb
  · rw [upd_ne hwa, upd_ne hwa]
    exact upd_same
end
abbrev sRowReaderUpcoming : Stmt := inClass (top 56) 1
theorem scsRowReaderUpcoming : FnScope ["self"] ["self"] (defScope sRowReaderUpcoming) := ⟨rfl, rfl, rfl, by decide +kernel, rfl, by decide +kernel, by decide +kernel⟩
section
variable {P : Program} {w : World} {K : PySem.W.Frag} {mg : Str → Option Value} {base : Heap} {f : Addr} {fd : FuncData}

theorem ok_upc {C : Addr} (F : FnM K "upcoming" "RowReader.upcoming" sRowReaderUpcoming f fd) (N : RrC K C) (z_len : mg "len" = none) : FnOk P w K mg base CX0 1 f fd ["self"] (spUpc C) := by
  have sc := scsRowReaderUpcoming
  refine F.ok sc (fun vs H Q E h => ?_) (fun cdv A outer s H vs Q E hr h => ?_)
  · obtain ⟨a, dx, wl, row, p, ws, x, rfl, _⟩ := h
    rfl
  obtain ⟨a, dx, wl, row, p, ws, x, rfl, r, hx, q⟩ := h
  have hp := (List.getElem?_eq_some_iff.mp hx).1
  refine ⟨_, (pss_cons (ps_if (pt_cmpR op_eq (pe_fldK K (pv 0) rfl) (pe_callB (call_lenK K) rfl z_len PySem.boot_len (pa_cons (pe_fldK K (pv 0) rfl) pa_nil)) (nomark _)) (pss_one (ps_ret pe_str)) pss_nil)
    (pss_one (ps_ret (pe_ix (ix_listK K) (pe_fldK K (pv 0) rfl) (pe_fldK K (pv 0) rfl) (fun _ _ => rfl))))), ?_⟩
  refine ⟨_, rfl, a, C, dx, _, _, rfl, r.ha, N.cl, N.place, rdF_place, _, rfl, a, C, dx, _, _, rfl, r.ha, N.cl, N.words, rdF_words, wl, _, rfl, .inl (SqL.of r.hw), rfl, _, rfl, ?_⟩
  rw [List.length_map]
  refine ite2 (fun z => ?_) (fun _ => ?_)
  · have := of_decide_eq_true z
    injection this with this
    omega
  refine ⟨_, rfl, a, C, dx, _, _, rfl, r.ha, N.cl, N.words, rdF_words, _, rfl, a, C, dx, _, _, rfl, r.ha, N.cl, N.place, rdF_place, wl, _, _, .str x, rfl, rfl, SqL.of r.hw, atI_nat (by rw [List.getElem?_map, hx]; rfl), q⟩
end
abbrev sRowReaderNextWord : Stmt := inClass (top 56) 2
theorem scsRowReaderNextWord : FnScope ["self", "can_stand"] ["self", "can_stand"] (defScope sRowReaderNextWord) := ⟨rfl, rfl, rfl, by decide +kernel, rfl, by decide +kernel, by decide +kernel⟩
section
variable {P : Program} {w : World} {K : PySem.W.Frag} {mg : Str → Option Value} {base : Heap} {f : Addr} {fd : FuncData}

theorem ok_next {C : Addr} (F : FnM K "next_word" "RowReader.next_word" sRowReaderNextWord f fd) (N : RrC K C) : FnOk P w K mg base CX0 1 f fd ["self", "can_stand"] (spNext C) := by
  have sc := scsRowReaderNextWord
  refine F.ok sc (fun vs H Q E h => ?_) (fun cdv A outer s H vs Q E hr h => ?_)
  · obtain ⟨a, dx, wl, row, p, ws, x, rfl, _⟩ := h
    rfl
  obtain ⟨a, dx, wl, row, p, ws, x, rfl, r, hx, q⟩ := h
  refine ⟨_, (pss_cons (ps_if (pt_not (pt_val (pv 1))) (pss_one ps_never) pss_nil)
    (pss_cons (ps_fldaug (pv 0) pe_int in_add)
    (pss_one (ps_ret (pe_ix (ix_listK K) (pe_fldK K (pv 0) rfl) (pe_op op_sub (pe_fldK K (pv 0) rfl) pe_int) (fun _ _ => rfl)))))), ?_⟩
  refine ⟨_, rfl, _, rfl, ite2 (fun z => absurd z (by decide)) (fun _ => ?_)⟩
  refine ⟨_, rfl, a, C, dx, _, _, rfl, r.ha, N.cl, N.place, rdF_place, _, _, rfl, rfl, dx, _, r.ha, by show 3 < 1000; decide, ?_⟩
  have r2 := r.upd (p + 1)
  have e : (((p + 1 : Nat) : Int) - 1) = (p : Int) := by omega
  refine ⟨_, rfl, a, C, dx, _, _, rfl, r2.r.ha, N.cl, N.words, rdF_words, _, rfl, a, C, dx, _, _, rfl, r2.r.ha, N.cl, N.place, rdF_place, _, _, rfl, rfl, wl, _, _, .str x, rfl, rfl, SqL.of r2.r.hw, ?_, q _ r2⟩
  rw [e]
  exact atI_nat (by rw [List.getElem?_map, hx]; rfl)
end
abbrev sRowReaderNumeral : Stmt := inClass (top 56) 3
theorem scsRowReaderNumeral : FnScope ["self"] ["self"] (defScope sRowReaderNumeral) := ⟨rfl, rfl, rfl, by decide +kernel, rfl, by decide +kernel, by decide +kernel⟩
section
variable {P : Program} {w : World} {K : PySem.W.Frag} {mg : Str → Option Value} {base : Heap} {f : Addr} {fd : FuncData}

theorem ok_nml {C : Addr} (F : FnM K "numeral" "RowReader.numeral" sRowReaderNumeral f fd) (M_upcoming : Okm P w K mg base CX0 1 C "upcoming" ["self"] (spUpc C)) (M_next_word : Okm P w K mg base CX0 1 C "next_word" ["self", "can_stand"] (spNext C)) (O_is_numeral : Okf P w K mg base CX0 1 "is_numeral" ["word"] spNumeral) (z_int : mg "int" = none) : FnOk P w K mg base CX0 2 f fd ["self"] (spNml C) := by
  have sc := scsRowReaderNumeral
  refine F.ok sc (fun vs H Q E h => ?_) (fun cdv A outer s H vs Q E hr h => ?_)
  · obtain ⟨a, dx, wl, row, p, ws, n, rfl, _⟩ := h
    rfl
  obtain ⟨a, dx, wl, row, p, ws, n, rfl, r, hx, h0, h1, q⟩ := h
  have hl := iT_len h0 h1
  refine ⟨_, (pss_one (ps_ret (pe_callTy call_int_str rfl z_int (by decide +kernel) (pa_cons (pe_m M_next_word (pv 0) hr pass0 (pa_cons (pe_c O_is_numeral hr rfl pass0 (pa_cons (pe_m0 M_upcoming (pv 0) hr pass0) pa_nil)) pa_nil)) pa_nil)))), ?_⟩
  refine ⟨_, rfl, a, dx, _, rfl, r.ha, rdF_no (by decide +kernel) (by decide +kernel) (by decide +kernel), _, rfl, a, dx, _, rfl, r.ha, rdF_no (by decide +kernel) (by decide +kernel) (by decide +kernel), a, dx, wl, row, p, ws, iT n, rfl, r, hx, n, rfl, h0, h1, a, dx, wl, row, p, ws, iT n, rfl, r, hx, fun H' r' => ⟨_, n, rfl, iT_int h0 h1, by omega, q _ r'⟩⟩
end
abbrev sRowReaderSign : Stmt := inClass (top 56) 4
theorem scsRowReaderSign : FnScope ["self", "wanted"] ["self", "wanted"] (defScope sRowReaderSign) := ⟨rfl, rfl, rfl, by decide +kernel, rfl, by decide +kernel, by decide +kernel⟩
section
variable {P : Program} {w : World} {K : PySem.W.Frag} {mg : Str → Option Value} {base : Heap} {f : Addr} {fd : FuncData}

theorem ok_sign {C : Addr} (F : FnM K "sign" "RowReader.sign" sRowReaderSign f fd) (M_upcoming : Okm P w K mg base CX0 1 C "upcoming" ["self"] (spUpc C)) (M_next_word : Okm P w K mg base CX0 1 C "next_word" ["self", "can_stand"] (spNext C)) : FnOk P w K mg base CX0 2 f fd ["self", "wanted"] (spSign C) := by
  have sc := scsRowReaderSign
  refine F.ok sc (fun vs H Q E h => ?_) (fun cdv A outer s H vs Q E hr h => ?_)
  · obtain ⟨a, dx, wl, row, p, ws, x, rfl, _⟩ := h
    rfl
  obtain ⟨a, dx, wl, row, p, ws, x, rfl, r, hx, q⟩ := h
  have d1 : decide (V.str x = V.str x) = true := decide_eq_true rfl
  refine ⟨_, (pss_one (ps_expr (pe_m M_next_word (pv 0) hr pass0 (pa_cons (pe_cmpR op_eq (pe_m0 M_upcoming (pv 0) hr pass0) (pv 1) (nomark _)) pa_nil)))), ?_⟩
  refine ⟨_, rfl, a, dx, _, rfl, r.ha, rdF_no (by decide +kernel) (by decide +kernel) (by decide +kernel), _, rfl, a, dx, _, rfl, r.ha, rdF_no (by decide +kernel) (by decide +kernel) (by decide +kernel), a, dx, wl, row, p, ws, x, rfl, r, hx, _, rfl, rfl, ?_⟩
  rw [d1]
  exact ⟨a, dx, wl, row, p, ws, x, rfl, r, hx, fun H' r' => q _ r'⟩
end
end NR
set_option maxHeartbeats 4000000
namespace NR
open PySem PySem.Spec PyProof.Rows L2

def spExpr (C : Addr) (n : Nat) : Sp := fun vs H Q _ => ∃ (a dx wl : Addr) (row : Int) (p : Nat) (ws : List Str) (e : Ex) (rest : List Str), vs = [.ref a] ∧ RdIn H C a dx wl row p ws ∧ ws.drop p = e.words ++ rest ∧ e.sh ∧ e.hgt ≤ n ∧ e.size ≤ 60 ∧ ∀ (H' : Hp) (v : V), RdTo H H' C a dx wl row (p + e.words.length) ws → TIn H' v e → Q v H'
theorem drop_of {α : Type} {ws A B : List α} {p : Nat} (h : ws.drop p = A ++ B) : ws.drop (p + A.length) = B := by
  have e : ws.drop (p + A.length) = (ws.drop p).drop A.length := by rw [List.drop_drop]
  rw [e, h, List.drop_left]
theorem get_of {α : Type} {ws B : List α} {x : α} {p : Nat} (h : ws.drop p = x :: B) : ws[p]? = some x := by
  have e : (ws.drop p)[0]? = ws[p + 0]? := List.getElem?_drop ..
  rw [h] at e
  exact e.symm
theorem Ex.words_open (e : Ex) : ∃ r, e.words = ("(" : Str) :: r := by
  obtain ⟨w, n, ps⟩ := e
  exact ⟨_, rfl⟩
theorem RdTo.trans {H H1 H2 : Hp} {C a dx wl : Addr} {row : Int} {p q : Nat} {ws : List Str} (x : RdTo H H1 C a dx wl row p ws) (y : RdTo H1 H2 C a dx wl row q ws) : RdTo H H2 C a dx wl row q ws := ⟨x.s.trans y.s, y.r⟩
theorem RdTo.same {H H1 H2 : Hp} {C a dx wl : Addr} {row : Int} {p : Nat} {ws : List Str} (x : RdTo H H1 C a dx wl row p ws) (y : Same H1 H2) : RdTo H H2 C a dx wl row p ws := ⟨x.s.trans (Same.toX y), x.r.same y⟩
theorem seq_restS {t u : TS} {D : Ends} {σ : L2.St} {H : Hp} (R : L2.St → Hp → Prop) (h2 : ∀ σ' H', R σ' H' → u D σ' H') (h1 : (∀ σ' H', R σ' H' → u D σ' H') → t { D with nx := u D } σ H) : tSeq t u D σ H := h1 h2
theorem cat_ne {K : PySem.W.Frag} {H : Hp} {Q : VK} {t0 u : Addr} {xs ys : List V} (h0 : SqT K H t0 xs) (hx : xs ≠ []) (h1 : SqT K H u ys) (hy : ys ≠ []) (hl : xs.length + ys.length ≤ 900) (q : ∀ p, H p = none → Q (.ref p) (L2.upd H p (.tup (xs ++ ys)))) : rCatT K (.ref t0) (.ref u) H Q :=
  ⟨t0, u, xs, ys, rfl, rfl, h0, h1, hx, by have big : 1000 ≤ sizeLine := by decide
                                           omega, fun z => absurd z hy, fun _ p hp => q p hp⟩
def ExI (H : Hp) (C a dx wl st pl : Addr) (row : Int) (p : Nat) (ws : List Str) (x : W) (n0 : Int) (ps : List Ex) (m : Nat) (σ : L2.St) (H' : Hp) : Prop :=
  ∃ (j : Nat) (vs : List V), m = ps.length - j ∧ j ≤ ps.length ∧ σ = [some (.ref a), some (.str x.str), some (.ref st), some (.ref pl)] ∧ RdTo H H' C a dx wl row (p + (hdW x n0 ++ wordss (ps.take j)).length) ws ∧ H' st = some (.tup (if x.numd = true then [.str x.str, .int n0] else [.str x.str])) ∧ H' pl = some (.lst vs) ∧ TIns H' vs (ps.take j)
def stV (x : W) (n : Int) : List V := if x.numd = true then [.str x.str, .int n] else [.str x.str]
abbrev sRowReaderExpression : Stmt := inClass (top 56) 6
theorem scsRowReaderExpression : FnScope ["self", "word", "start", "parts"] ["self"] (defScope sRowReaderExpression) := ⟨rfl, rfl, rfl, by decide +kernel, rfl, by decide +kernel, by decide +kernel⟩
section
variable {P : Program} {w : World} {K : PySem.W.Frag} {mg : Str → Option Value} {base : Heap} {f : Addr} {fd : FuncData}

theorem ok_expr {k n : Nat} {C aN aL : Addr} (F : FnM K "expression" "RowReader.expression" sRowReaderExpression f fd) (N : RrC K C) (M_upcoming : Okm P w K mg base CX0 k C "upcoming" ["self"] (spUpc C)) (M_next_word : Okm P w K mg base CX0 k C "next_word" ["self", "can_stand"] (spNext C)) (M_numeral : Okm P w K mg base CX0 k C "numeral" ["self"] (spNml C)) (M_sign : Okm P w K mg base CX0 k C "sign" ["self", "wanted"] (spSign C)) (M_expression : Okm P w K mg base CX0 k C "expression" ["self"] (spExpr C n))
    (m_NUMBERED : mg "NUMBERED" = some (.ref aN)) (hN : ∀ H, SqT K H aN numW) (m_LENGTHS : mg "LENGTHS" = some (.ref aL)) (T_LENGTHS : Tbl K w aL gLen) (z_tuple : mg "tuple" = none) : FnOk P w K mg base CX0 (k + 1) f fd ["self"] (spExpr C (n + 1)) := by
  have sc := scsRowReaderExpression
  refine F.ok sc (fun vs H Q E h => ?_) (fun cdv A outer s H vs Q E hr h => ?_)
  · obtain ⟨a, dx, wl, row, p, ws, e, rest, rfl, _⟩ := h
    rfl
  obtain ⟨a, dx, wl, row, p, ws, e, rest, rfl, r, hws, sh, hh, hz, q⟩ := h
  obtain ⟨x, n0, ps⟩ := e
  have hsz : (Ex.node x n0 ps).size = 1 + sizes ps := rfl
  have hht : (Ex.node x n0 ps).hgt = 1 + hgts ps := rfl
  have hnok := (Ex.node x n0 ps).sh_nok sh
  have no3 : ∀ {m : Str} {row wl p}, (m == "row") = false → (m == "words") = false → (m == "place") = false → (rdF row wl p).lookup m = none := fun a b c => rdF_no a b c
  have big : 100000 ≤ sizeLine := by decide
  rw [words_hd, List.append_assoc, List.append_assoc] at hws
  have w0 : ws.drop p = [("(" : Str)] ++ ([x.str] ++ ((if x.numd = true then [iT n0] else []) ++ (wordss ps ++ ([(")" : Str)] ++ rest)))) := by rw [hws]; rfl
  have w1 := drop_of w0
  have w2 := drop_of w1
  refine ⟨_, PSs.nox (pss_cons (ps_expr (pe_m M_sign (pv 0) hr pass0 (pa_cons pe_str pa_nil)))
    (pss_cons (ps_set (i := 1) sc.nd rfl (.inl rfl) (pe_m M_next_word (pv 0) hr pass0 (pa_cons (pe_cmpR (op_inTbl T_LENGTHS) (pe_m0 M_upcoming (pv 0) hr pass0) (pe_gR rfl m_LENGTHS) (by rfl)) pa_nil)))
    (pss_cons (ps_set (i := 2) sc.nd rfl (.inl rfl) (pe_ifExp (pt_cmpR (op_inK K) (pv 1) (pe_gR rfl m_NUMBERED) (by rfl)) (pe_tup (pa_cons (pv 1) (pa_cons (pe_m0 M_numeral (pv 0) hr pass0) pa_nil))) (pe_tup (pa_cons (pv 1) pa_nil))))
    (pss_cons (ps_set (i := 3) sc.nd rfl (.inl rfl) (pe_lst pa_nil))
    (pss_cons (ps_while PassesOwn.never (pt_cmpR op_eq (pe_m0 M_upcoming (pv 0) hr pass0) pe_str (nomark _)) (pss_one (ps_expr (pe_bm PySem.F.plainAttrs_list PySem.F.slot_list_append PySem.F.type_list_append mt_append (pv 3) (pa_cons (pe_m0 M_expression (pv 0) hr pass0) pa_nil)))))
    (pss_cons (ps_expr (pe_m M_sign (pv 0) hr pass0 (pa_cons pe_str pa_nil)))
    (pss_cons (ps_if (pt_cmpR op_eq (pv 1) pe_str (nomark _)) (pss_one (ps_ret (pe_op (op_catTK K) (pv 2) (pe_tup (pa_cons (pe_callTy (call_tupleK K) rfl z_tuple (by decide +kernel) (pa_cons (pv 3) pa_nil)) pa_nil))))) pss_nil)
    (pss_one (ps_ret (pe_op (op_catTK K) (pv 2) (pe_callTy (call_tupleK K) rfl z_tuple (by decide +kernel) (pa_cons (pv 3) pa_nil)))))))))))), ?_⟩
  refine ⟨_, rfl, a, dx, _, rfl, r.ha, rdF_no (by decide +kernel) (by decide +kernel) (by decide +kernel), a, dx, wl, row, p, ws, "(", rfl, r, get_of w0, fun H1 r1 => ?_⟩
  refine ⟨_, rfl, a, dx, _, rfl, r1.r.ha, rdF_no (by decide +kernel) (by decide +kernel) (by decide +kernel), _, rfl, a, dx, _, rfl, r1.r.ha, rdF_no (by decide +kernel) (by decide +kernel) (by decide +kernel), a, dx, wl, row, p + 1, ws, x.str, rfl, r1.r, get_of w1, ?_⟩
  refine ⟨x, _, rfl, rfl, rfl, a, dx, wl, row, p + 1, ws, x.str, rfl, r1.r, get_of w1, fun H2 r2 => ?_⟩
  have r02 := r1.trans r2
  have w3 : ws.drop (p + (hdW x n0).length) = wordss ps ++ ([(")" : Str)] ++ rest) := drop_of hws
  dsimp only [gName]
  refine seq_restS (fun σ' H' => ∃ st, σ' = [some (.ref a), some (.str x.str), some (.ref st), none] ∧ RdTo H H' C a dx wl row (p + (hdW x n0).length) ws ∧ H' st = some (.tup (stV x n0))) (fun σ' H3 e => ?_) (fun go => ?_)
  · obtain ⟨st, rfl, r3, est⟩ := e
    refine ⟨by show 0 ≤ sizeLine; decide, fun pl hpl => ?_⟩
    have s4 := same_new hpl (.lst [])
    have e4 : upd H3 pl (.lst []) pl = some (.lst []) := upd_same
    have npl : pl ≠ a := (ne_of_none r3.r.ha hpl).symm
    have npw : pl ≠ wl := (ne_of_none r3.r.hw hpl).symm
    generalize upd H3 pl (.lst []) = H4 at s4 e4 ⊢
    have r4 := r3.same s4
    have est4 := s4 _ _ est
    refine ⟨ExI H C a dx wl st pl row p ws x n0 ps, ⟨ps.length, 0, [], rfl, Nat.zero_le _, rfl, by simp only [List.take_zero, wordss, List.append_nil]; exact r4, est4, e4, .nil⟩, ?_⟩
    rintro m σ H5 ⟨j, vs, rfl, hj, rfl, r5, est5, epl, tis⟩
    have hvl := tis.len
    rw [List.length_take] at hvl
    have hps : ps.length ≤ sizes ps := by
      have : ∀ l : List Ex, l.length ≤ sizes l := by
        intro l
        induction l with
        | nil => exact Nat.le_refl _
        | cons e l ih =>
          obtain ⟨a1, a2, a3⟩ := e
          simp only [List.length_cons, sizes, Ex.size]
          omega
      exact this ps
    have w5 : ws.drop (p + (hdW x n0 ++ wordss (ps.take j)).length) = wordss (ps.drop j) ++ ([(")" : Str)] ++ rest) := by
      refine drop_of (B := wordss (ps.drop j) ++ ([(")" : Str)] ++ rest)) ?_
      rw [hws, List.append_assoc, ← List.append_assoc (wordss (ps.take j)), ← wordss_append, List.take_append_drop]
    by_cases c : j < ps.length
    · obtain ⟨ej, hej⟩ : ∃ y, ps[j]? = some y := ⟨_, List.getElem?_eq_getElem c⟩
      have hdr : ps.drop j = ej :: ps.drop (j + 1) := by
        rw [List.drop_eq_getElem_cons c]
        have := (List.getElem?_eq_some_iff.mp hej).2
        rw [this]
      rw [hdr] at w5
      simp only [wordss, List.append_assoc] at w5
      obtain ⟨wr, hwr⟩ := ej.words_open
      have w6 := w5
      rw [hwr] at w6
      obtain ⟨z1, z2, z3⟩ := sizes_take ps j hej
      refine ⟨_, rfl, a, dx, _, rfl, r5.r.ha, rdF_no (by decide +kernel) (by decide +kernel) (by decide +kernel), a, dx, wl, row, _, ws, "(", rfl, r5.r, get_of w6, rfl, _, rfl, ite2 (fun _ => ?_) (fun z => absurd (by decide +kernel) z)⟩
      refine ⟨ExI H C a dx wl st pl row p ws x n0 ps (ps.length - (j + 1)), fun σ' H' h => ⟨_, by omega, h⟩, ?_⟩
      refine ⟨_, rfl, .inl ⟨rfl, _, SqL.of epl⟩, _, rfl, a, dx, _, rfl, r5.r.ha, rdF_no (by decide +kernel) (by decide +kernel) (by decide +kernel), a, dx, wl, row, _, ws, ej, _, rfl, r5.r, w5, shs_get sh.2 hej, by omega, by omega, fun H6 v r6 tv => ?_⟩
      have epl6 := r6.s _ _ npl epl
      have tk6 := r6.s.tkI r5.r.ha
      have tkL := TK.lst (ys := vs ++ [v]) epl6
      refine ⟨pl, _, _, rfl, rfl, epl6, small1000 (by omega), j + 1, vs ++ [v], rfl, c, rfl, ⟨fun b o nb hb => ?_, ?_, ?_⟩, ?_, upd_same, ?_⟩
      · have nbp : b ≠ pl := fun z => by
          rw [z] at hb
          have := r3.s _ _ npl hb
          rw [hpl] at this
          cases this
        rw [upd_ne nbp]
        exact r6.s _ _ nb (r5.s _ _ nb hb)
      · rw [upd_ne npl.symm]
        have e9 : p + (hdW x n0 ++ wordss (ps.take (j + 1))).length = p + (hdW x n0 ++ wordss (ps.take j)).length + ej.words.length := by
          rw [List.take_add_one, hej, wordss_append]
          simp only [Option.toList, wordss, List.append_nil, List.length_append]
          omega
        rw [e9]
        exact r6.r.ha
      · rw [upd_ne npw.symm]
        exact r6.r.hw
      · have nsp : st ≠ pl := ne_of est5 epl (by intro z; cases z)
        have nsa : st ≠ a := ne_of est5 r5.r.ha (by intro z; cases z)
        rw [upd_ne nsp]
        exact r6.s _ _ nsa est5
      · rw [List.take_add_one, hej]
        exact TIns.snoc (((tis.mono tk6).mono tkL)) (tv.mono tkL)
    · have ej : j = ps.length := by omega
      subst ej
      rw [List.drop_length] at w5
      rw [List.take_length] at tis
      have w6 : ws.drop (p + (hdW x n0 ++ wordss (ps.take ps.length)).length) = (")" : Str) :: rest := w5
      refine ⟨_, rfl, a, dx, _, rfl, r5.r.ha, rdF_no (by decide +kernel) (by decide +kernel) (by decide +kernel), a, dx, wl, row, _, ws, ")", rfl, r5.r, get_of w6, rfl, _, rfl, ite2 (fun z => absurd z (by decide +kernel)) (fun _ => ?_)⟩
      refine ⟨_, rfl, a, dx, _, rfl, r5.r.ha, rdF_no (by decide +kernel) (by decide +kernel) (by decide +kernel), a, dx, wl, row, _, ws, ")", rfl, r5.r, get_of w6, fun H6 r6 => ?_⟩
      have nsa : st ≠ a := ne_of est5 r5.r.ha (by intro z; cases z)
      have est6 := r6.s _ _ nsa est5
      have epl6 := r6.s _ _ npl epl
      have tis6 := tis.mono (r6.s.tkI r5.r.ha)
      have r06 := r5.trans r6
      have e9 : p + (hdW x n0 ++ wordss (ps.take ps.length)).length + 1 = p + (Ex.node x n0 ps).words.length := by
        rw [words_hd, List.take_length]
        simp only [List.length_append, List.length_cons, List.length_nil]
        omega
      rw [e9] at r06
      refine ⟨_, rfl, rfl, _, rfl, ?_⟩
      rw [isCall2 x]
      have hx3 : (if x.numd = true then [V.str x.str, V.int n0] else [V.str x.str]) ≠ [] := by split <;> simp
      have hx4 : (if x.numd = true then [V.str x.str, V.int n0] else [V.str x.str]).length ≤ 2 := by split <;> simp
      have hvl' : vs.length ≤ 60 := by omega
      refine ite2 (fun z => ?_) (fun z => ?_)
      · have z' := of_decide_eq_true z
        subst z'
        refine ⟨_, rfl, _, rfl, pl, _, rfl, .inl ⟨SqL.of epl6, fun t1 ht1 => ?_⟩⟩
        have s7 := same_new ht1 (.tup vs)
        refine ⟨by show 1 ≤ sizeLine; decide, fun t2 ht2 => ?_⟩
        have s8 := s7.trans (same_new ht2 (.tup [.ref t1]))
        have et1 : upd (upd H6 t1 (.tup vs)) t2 (.tup [.ref t1]) t1 = some (.tup vs) := same_new ht2 _ _ _ upd_same
        refine cat_ne (SqT.of (s8 _ _ est6)) hx3 (SqT.of upd_same) (by simp) (by simp only [List.length_cons, List.length_nil]; omega) fun t3 ht3 => ?_
        have s9 := s8.trans (same_new ht3 (.tup ((if W.call.numd = true then [V.str W.call.str, V.int n0] else [V.str W.call.str]) ++ [.ref t1])))
        exact q _ _ (r06.same s9) (.call upd_same (same_new ht3 _ _ _ et1) (tis6.mono (TK.of s9)))
      · have c2 : x ≠ .call := fun y => z (decide_eq_true y)
        refine ⟨_, rfl, _, rfl, pl, _, rfl, .inl ⟨SqL.of epl6, fun t1 ht1 => ?_⟩⟩
        have s7 := same_new ht1 (.tup vs)
        have et1 : upd H6 t1 (.tup vs) t1 = some (.tup vs) := upd_same
        generalize upd H6 t1 (.tup vs) = H7 at s7 et1 ⊢
        have est7 := s7 _ _ est6
        have tis7 := tis6.mono (TK.of s7)
        have hlay : x.lay = 0 ∨ x.lay = 1 ∨ x.lay = 3 := by revert c2; cases x <;> simp [W.lay]
        refine ⟨st, t1, _, vs, rfl, rfl, SqT.of est7, SqT.of et1, hx3, by omega, fun hz0 => ?_, fun hz0 t3 ht3 => ?_⟩
        · subst hz0
          have hps0 : ps = [] := by cases tis7; rfl
          refine q _ _ (r06.same s7) ?_
          subst hps0
          rcases hlay with hl | hl | hl
          · have hn : x.numd = true := by rw [W.numd, hl]; rfl
            rw [if_pos hn] at est7
            exact .leaf hl est7
          · have := sh.1.1.k1 hl
            cases this
          · have := sh.1.1.k3 hl
            exfalso
            revert this hl
            cases x <;> simp [W.lay, W.ar]
        · have s8 := s7.trans (same_new ht3 (.tup ((if x.numd = true then [V.str x.str, V.int n0] else [V.str x.str]) ++ vs)))
          refine q _ _ (r06.same s8) ?_
          have tis8 := tis6.mono (TK.of s8)
          rcases hlay with hl | hl | hl
          · have hp0 := sh.1.2.2 hl
            subst hp0
            exact absurd (by cases tis6; rfl) hz0
          · have hn : x.numd = true := by rw [W.numd, hl]; rfl
            refine .bind hl ?_ tis8
            rw [upd_same, if_pos hn]
            rfl
          · have hn : ¬ x.numd = true := by rw [W.numd, hl]; exact Bool.false_ne_true
            have hm := sh.1.2.1 hl
            subst hm
            refine .bare hl ?_ tis8
            rw [upd_same, if_neg hn]
            rfl
  · refine ⟨_, rfl, aN, _, rfl, .inr (hN _), rfl, rfl, _, rfl, ?_⟩
    have e2 : (if (false = true) then !inV (.str x.str) numW else inV (.str x.str) numW) = x.numd := inNum x
    refine ite2 (fun z => ?_) (fun z => ?_)
    · have hn : x.numd = true := e2.symm.trans z
      have hb := hnok.1 hn
      rw [if_pos hn] at w2
      refine ⟨_, rfl, _, rfl, a, dx, _, rfl, r2.r.ha, rdF_no (by decide +kernel) (by decide +kernel) (by decide +kernel), a, dx, wl, row, p + 1 + 1, ws, n0, rfl, r2.r, get_of w2, hb.1, hb.2, fun H3 r3 => ⟨by show 2 ≤ sizeLine; decide, fun st hst => go _ _ ⟨st, rfl, ?_, ?_⟩⟩⟩
      · have e3 : p + (hdW x n0).length = p + 1 + 1 + 1 := by rw [hdW, if_pos hn]; rfl
        rw [e3]
        exact (r02.trans r3).same (same_new hst _)
      · rw [upd_same, stV, if_pos hn]
    · have hn : ¬ x.numd = true := fun y => z (e2.trans y)
      refine ⟨_, rfl, by show 1 ≤ sizeLine; decide, fun st hst => go _ _ ⟨st, rfl, ?_, ?_⟩⟩
      · have e3 : p + (hdW x n0).length = p + 1 + 1 := by rw [hdW, if_neg hn]; rfl
        rw [e3]
        exact r02.same (same_new hst _)
      · rw [upd_same, stV, if_neg hn]
end
end NR
set_option maxHeartbeats 4000000
namespace NR
open PySem PySem.Spec PyProof.Rows L2

def spFT (C : Addr) : Sp := fun vs H Q _ => ∃ (a dx wl : Addr) (row : Int) (f : Fn), vs = [.ref a] ∧ RdIn H C a dx wl row 0 f.words ∧ FnT f ∧ ∀ (H' : Hp) (t : Addr) (pz bz : V), SameX a H H' → H' t = some (.tup [pz, dV f.d, bz]) → PtIn H' pz f.ps → TIn H' bz f.e → Q (.ref t) H'
theorem psWords_drop (ps : List (Int × Nat)) (j : Nat) : psWords ps = psWords (ps.take j) ++ psWords (ps.drop j) := by
  rw [← psWords_append, List.take_append_drop]
def FtI (H : Hp) (C a dx wl pl : Addr) (row : Int) (f : Fn) (m : Nat) (σ : L2.St) (H' : Hp) : Prop :=
  ∃ (j : Nat) (vs : List V) (x4 : Option V), m = f.ps.length - j ∧ j ≤ f.ps.length ∧ σ = [some (.ref a), some (dV f.d), some (.int (f.ps.length : Int)), some (.ref pl), x4, none] ∧ RdTo H H' C a dx wl row (2 + (psWords (f.ps.take j)).length) f.words ∧ H' pl = some (.lst vs) ∧ PIns H' vs (f.ps.take j)
abbrev sRowReaderFunctionTold : Stmt := inClass (top 56) 5
theorem scsRowReaderFunctionTold : FnScope ["self", "depth", "many", "params", "name", "body"] ["self"] (defScope sRowReaderFunctionTold) := ⟨rfl, rfl, rfl, by decide +kernel, rfl, by decide +kernel, by decide +kernel⟩
section
variable {P : Program} {w : World} {K : PySem.W.Frag} {mg : Str → Option Value} {base : Heap} {f : Addr} {fd : FuncData}

theorem ok_ft {k : Nat} {C : Addr} (F : FnM K "function_told" "RowReader.function_told" sRowReaderFunctionTold f fd) (N : RrC K C) (M_numeral : Okm P w K mg base CX0 k C "numeral" ["self"] (spNml C)) (M_expression : Okm P w K mg base CX0 k C "expression" ["self"] (spExpr C 13)) (z_len : mg "len" = none) (z_tuple : mg "tuple" = none) : FnOk P w K mg base CX0 (k + 1) f fd ["self"] (spFT C) := by
  have sc := scsRowReaderFunctionTold
  refine F.ok sc (fun vs H Q E h => ?_) (fun cdv A outer s H vs Q E hr h => ?_)
  · obtain ⟨a, dx, wl, row, f, rfl, _⟩ := h
    rfl
  obtain ⟨a, dx, wl, row, f0, rfl, r, ft, q⟩ := h
  have fw := ft.fo.few
  have hd := ft.fo.hd
  have big : 100000 ≤ sizeLine := by decide
  have w0 : f0.words.drop 0 = [iT (f0.d : Int)] ++ ([iT (f0.ps.length : Int)] ++ (psWords f0.ps ++ f0.e.words)) := rfl
  have w1 : f0.words.drop 1 = [iT (f0.ps.length : Int)] ++ (psWords f0.ps ++ f0.e.words) := rfl
  have w2 : f0.words.drop 2 = psWords f0.ps ++ f0.e.words := rfl
  refine ⟨_, PSs.nox (pss_cons (ps_set (i := 1) sc.nd rfl (.inl rfl) (pe_m0 M_numeral (pv 0) hr pass0))
    (pss_cons (ps_set (i := 2) sc.nd rfl (.inl rfl) (pe_m0 M_numeral (pv 0) hr pass0))
    (pss_cons (ps_set (i := 3) sc.nd rfl (.inl rfl) (pe_lst pa_nil))
    (pss_cons (ps_while PassesOwn.never (pt_cmpR op_lt (pe_callB (call_lenK K) rfl z_len PySem.boot_len (pa_cons (pv 3) pa_nil)) (pv 2) (nomark _)) (pss_cons (ps_set (i := 4) sc.nd rfl (.inl rfl) (pe_m0 M_numeral (pv 0) hr pass0))
    (pss_one (ps_expr (pe_bm PySem.F.plainAttrs_list PySem.F.slot_list_append PySem.F.type_list_append mt_append (pv 3) (pa_cons (pe_tup (pa_cons (pv 4) (pa_cons (pe_m0 M_numeral (pv 0) hr pass0) pa_nil))) pa_nil))))))
    (pss_cons (ps_set (i := 5) sc.nd rfl (.inl rfl) (pe_m0 M_expression (pv 0) hr pass0))
    (pss_cons (ps_if (pt_cmpR op_lt (pe_fldK K (pv 0) rfl) (pe_callB (call_lenK K) rfl z_len PySem.boot_len (pa_cons (pe_fldK K (pv 0) rfl) pa_nil)) (nomark _)) (pss_one ps_never) pss_nil)
    (pss_one (ps_ret (pe_tup (pa_cons (pe_callTy (call_tupleF K) rfl z_tuple (by decide +kernel) (pa_cons (pv 3) pa_nil)) (pa_cons (pv 1) (pa_cons (pv 5) pa_nil)))))))))))), ?_⟩
  refine ⟨_, rfl, a, dx, _, rfl, r.ha, rdF_no (by decide +kernel) (by decide +kernel) (by decide +kernel), a, dx, wl, row, 0, _, (f0.d : Int), rfl, r, get_of w0, by omega, by omega, fun H1 r1 => ?_⟩
  refine ⟨_, rfl, a, dx, _, rfl, r1.r.ha, rdF_no (by decide +kernel) (by decide +kernel) (by decide +kernel), a, dx, wl, row, 1, _, (f0.ps.length : Int), rfl, r1.r, get_of w1, by omega, by omega, fun H2 r2 => ?_⟩
  have r02 := r1.trans r2
  refine ⟨by show 0 ≤ sizeLine; decide, fun pl hpl => ?_⟩
  have s4 := same_new hpl (.lst [])
  have e4 : upd H2 pl (.lst []) pl = some (.lst []) := upd_same
  have npl : pl ≠ a := (ne_of_none r02.r.ha hpl).symm
  have npw : pl ≠ wl := (ne_of_none r02.r.hw hpl).symm
  generalize upd H2 pl (.lst []) = H4 at s4 e4 ⊢
  have nbp : ∀ b o, H b = some o → b ≠ a → b ≠ pl := fun b o hb nb z => by
    rw [z] at hb nb
    have := r02.s _ _ nb hb
    rw [hpl] at this
    cases this
  refine ⟨FtI H C a dx wl pl row f0, ⟨f0.ps.length, 0, [], none, rfl, Nat.zero_le _, rfl, r02.same s4, e4, .nil⟩, ?_⟩
  rintro m σ H5 ⟨j, vs, x4, rfl, hj, rfl, r5, epl, pi⟩
  have hvl := pi.len
  rw [List.length_take] at hvl
  have hpl2 := psWords_len (f0.ps.take j)
  have w5 : f0.words.drop (2 + (psWords (f0.ps.take j)).length) = psWords (f0.ps.drop j) ++ f0.e.words := by
    refine drop_of ?_
    rw [w2, psWords_drop f0.ps j, List.append_assoc]
  refine ⟨_, rfl, pl, _, rfl, .inl (SqL.of epl), _, rfl, _, _, rfl, rfl, _, rfl, ?_⟩
  by_cases c : j < f0.ps.length
  · refine ite2 (fun _ => ?_) (fun z => absurd (decide_eq_true (by omega)) z)
    obtain ⟨⟨px, pd⟩, hpj⟩ : ∃ y, f0.ps[j]? = some y := ⟨_, List.getElem?_eq_getElem c⟩
    have hlo := ft.fo.lo (px, pd) (List.mem_of_getElem? hpj)
    have hdr : f0.ps.drop j = (px, pd) :: f0.ps.drop (j + 1) := by
      rw [List.drop_eq_getElem_cons c]
      have := (List.getElem?_eq_some_iff.mp hpj).2
      rw [this]
    rw [hdr] at w5
    have w6 : f0.words.drop (2 + (psWords (f0.ps.take j)).length) = [iT px] ++ (iT pd :: (psWords (f0.ps.drop (j + 1)) ++ f0.e.words)) := w5
    have w7 := drop_of w6
    refine ⟨FtI H C a dx wl pl row f0 (f0.ps.length - (j + 1)), fun σ' H' h => ⟨_, by omega, h⟩, ?_⟩
    refine ⟨_, rfl, a, dx, _, rfl, r5.r.ha, rdF_no (by decide +kernel) (by decide +kernel) (by decide +kernel), a, dx, wl, row, _, _, px, rfl, r5.r, get_of w6, hlo.1, by omega, fun H6 r6 => ?_⟩
    have epl6 := r6.s _ _ npl epl
    refine ⟨_, rfl, .inl ⟨rfl, _, SqL.of epl6⟩, _, rfl, _, rfl, a, dx, _, rfl, r6.r.ha, rdF_no (by decide +kernel) (by decide +kernel) (by decide +kernel), a, dx, wl, row, _, _, (pd : Int), rfl, r6.r, get_of w7, by omega, by omega, fun H7 r7 => ⟨by show 2 ≤ sizeLine; decide, fun tp htp => ?_⟩⟩
    have epl7 := r7.s _ _ npl epl6
    have s8 := same_new htp (.tup [.int px, dV pd])
    have r58 := (r6.trans r7).same s8
    have tk8 : TK H5 (upd H7 tp (.tup [.int px, dV pd])) := r58.s.tkI r5.r.ha
    have tkL := TK.lst (ys := vs ++ [.ref tp]) (s8 _ _ epl7)
    refine ⟨pl, _, _, rfl, rfl, s8 _ _ epl7, small1000 (by omega), j + 1, vs ++ [.ref tp], _, rfl, c, rfl, ⟨fun b o nb hb => ?_, ?_, ?_⟩, upd_same, ?_⟩
    · rw [upd_ne (nbp b o hb nb)]
      exact r58.s _ _ nb (r5.s _ _ nb hb)
    · rw [upd_ne npl.symm]
      have e9 : 2 + (psWords (f0.ps.take (j + 1))).length = 2 + (psWords (f0.ps.take j)).length + [iT px].length + 1 := by
        rw [psWords_len, psWords_len, List.length_take, List.length_take]
        simp only [List.length_cons, List.length_nil]
        omega
      rw [e9]
      exact r58.r.ha
    · rw [upd_ne npw.symm]
      exact r58.r.hw
    · rw [List.take_add_one, hpj]
      exact PIns.snoc (tkL _ _ upd_same) ((pi.mono tk8).mono tkL)
  · refine ite2 (fun z => absurd (of_decide_eq_true z) (by omega)) (fun _ => ?_)
    have ej : j = f0.ps.length := by omega
    subst ej
    rw [List.drop_length] at w5
    rw [List.take_length] at pi
    have w6 : f0.words.drop (2 + (psWords (f0.ps.take f0.ps.length)).length) = f0.e.words ++ [] := by rw [List.append_nil]; exact w5
    refine ⟨_, rfl, a, dx, _, rfl, r5.r.ha, rdF_no (by decide +kernel) (by decide +kernel) (by decide +kernel), a, dx, wl, row, _, _, f0.e, [], rfl, r5.r, w6, ft.sh, ft.hg, ft.sz, fun H6 v r6 tv => ?_⟩
    have epl6 := r6.s _ _ npl epl
    have pi6 := pi.mono (r6.s.tkI r5.r.ha)
    have r06 := r5.trans r6
    have e9 : 2 + (psWords (f0.ps.take f0.ps.length)).length + f0.e.words.length = f0.words.length := by
      rw [List.take_length]
      simp only [Fn.words, List.length_cons, List.length_append]
      omega
    refine ⟨_, rfl, a, C, dx, _, _, rfl, r06.r.ha, N.cl, N.place, rdF_place, _, rfl, a, C, dx, _, _, rfl, r06.r.ha, N.cl, N.words, rdF_words, wl, _, rfl, .inl (SqL.of r06.r.hw), _, _, rfl, rfl, _, rfl, ?_⟩
    rw [List.length_map]
    refine ite2 (fun z => absurd (of_decide_eq_true z) (by omega)) (fun _ => ?_)
    refine ⟨_, rfl, pl, _, rfl, SqL.of epl6, fun t1 o ht1 ho => ?_⟩
    have s7 := same_new ht1 (.frz o (.tup vs))
    refine ⟨_, rfl, _, rfl, by show 3 ≤ sizeLine; decide, fun t2 ht2 => ?_⟩
    have s8 := s7.trans (same_new ht2 (.tup [.ref t1, dV f0.d, v]))
    refine q _ t2 (.ref t1) v (r06.s.trans (Same.toX s8)) upd_same ⟨t1, o, vs, rfl, same_new ht2 _ _ _ upd_same, ho, pi6.mono (TK.of s8)⟩ (tv.mono (TK.of s8))
end
end NR
set_option maxHeartbeats 4000000
namespace NR
open PySem PySem.Spec PyProof.Rows L2
section
variable {X : Cx}
/-- y = {k: v for .. in ..} -/
theorem ps_setDc {i : Nat} {y : Str} {py : Pos} {kx vx tg iter : Expr} {ifs : List Expr} {scope : Scope} {own : List (Str × Nat)} {pos spos : Pos} {wi : TI} {g : TG} {tt : TT} {tk tv : TE} (hc : X.calm = true) (hN : X.N.Nodup) (hy : X.N[i]? = some y) (hyl : X.env.scope.names.lookup y = some .local)
    (hsw : swapsWith (.DictComp kx vx [⟨tg, iter, ifs, 0⟩] scope pos) (some (.Name y py)) spos.line X.env = pure true) (hi : PI X tg iter wi) (ok : BlkOk X.N X.env.scope scope own)
    (hg : ∀ (s : Shared) (H : Hp) (C : Addr) (cl : List (Str × Addr)) (fp : List Addr), PG (X.blk s H scope (compEnvC scope cl C X.env) fp) tg g) (ht : ∀ (s : Shared) (H : Hp) (C : Addr) (cl : List (Str × Addr)) (fp : List Addr), PTs (X.blk s H scope (compEnvC scope cl C X.env) fp) ifs tt)
    (hk : ∀ (s : Shared) (H : Hp) (C : Addr) (cl : List (Str × Addr)) (fp : List Addr), PE (X.blk s H scope (compEnvC scope cl C X.env) fp) kx tk)
    (he : ∀ (s : Shared) (H : Hp) (C : Addr) (cl : List (Str × Addr)) (fp : List Addr), PE (X.blk s H scope (compEnvC scope cl C X.env) fp) vx tv) (hs : ∀ x, foldedSetIterable iter X.env x = pure x := by intro _; rfl) :
    PS X (.Assign [.Name y py] (.DictComp kx vx [⟨tg, iter, ifs, 0⟩] scope pos) spos) (tAsg (tDc wi g tt tk tv (own.map (·.2))) (gName i)) := by
  refine ⟨fun pins s σ H D I h => ?_⟩
  rw [exec_Assign_Name_used _ _ _ _ hsw]
  refine wpAny_bind (wpAny_standAt (wpAny_bind ?_))
  show wpAny _ X.A (do let _ ← comprehension (.DictComp kx vx [⟨tg, iter, ifs, 0⟩] scope pos) scope X.env (firstIterPos [⟨tg, iter, ifs, 0⟩] pos) newDict false (eval iter X.env) (some (assign (.Name y py) X.env))) _ _ s
  have h' : tDc wi g tt tk tv (own.map (·.2)) σ H (fun x H1 => gName i x σ H1 D.nx) := h
  refine wpAny_bind (thn (dc_core (Qf := fun _ s' => SP X pins D .next s') hc hN I hi ok hg ht hk he hs h' fun L C s' m H' I' q hn f => ?_) fun _ s' hq => wpAny_pure (wpAny_pure hq))
  refine wpAny_assign_Name (store_ok2 (v := V.ref L) I' hN hy (.inl hyl) rfl (fun s2 I2 ⟨a, sb, ha⟩ => ?_) (.inr hyl))
  obtain ⟨f0, f1, f2, f3, f4, f5⟩ := f
  have haC : C ≠ a := by
    rcases ha with z | z
    · rw [z]; exact f1
    · exact fun e => f4 y a z e.symm
  exact ⟨m, hn.sameBut sb haC, fun h3 sb3 => ⟨_, H', I2.turned (t' := s2.toks) (fun b o hb e => (sb3.2 b hb).trans e) f0 f1 f3 f4 f5, q⟩⟩
theorem swD_true {kx vx : Expr} {gs : List Comprehension} {scope : Scope} {pos py : Pos} {y : Str} {l : Nat} {env : Env} (hk : env.scope.kind = .function) (hy : env.scope.names.lookup y = some .local) (hl : (py.line == pos.line) = true)
    (ha : (scope.names.any fun (n, k) => n == y && (k == .local || k == .cell)) = false) : swapsWith (.DictComp kx vx gs scope pos) (some (.Name y py)) l env = pure true := by
  have ky : env.kindOf y = some .local := hy
  have hb : env.blockKind = .function := by unfold Env.blockKind; rw [hk]; rfl
  unfold swapsWith
  simp only [hb, ky, ha, Expr.pos, hl]
  rfl
/-- a dict comprehension over any walk -/
theorem dc_it {J : It} {n : Nat} {G : Hp → Prop} {Y : Nat → Hp → V → Hp → Prop} (w : Walk J n G Y) {g : TG} {tt : TT} {tk tv : TE} {vs : List Nat} {σ : L2.St} {H1 : Hp} {D : Addr} {Qd : Hp → Prop} (Pv : Nat → Hp → Prop) (h0 : Pv 0 (upd H1 D (.dK []))) (hG : ∀ i H, i ≤ n → Pv i H → G H)
    (hs : ∀ i x H H', i < n → Pv i H → Y i H x H' → g x (wipe σ vs) H' fun σ2 H2 => wipe σ2 vs = wipe σ vs ∧ tt σ2 H2 fun b H3 => if b = true then tk σ2 H3 fun y H4 => tv σ2 H4 fun z H5 => ∃ kvs k, y = kV k ∧ H5 D = some (.dK kvs) ∧ kvs.length < sizeLine ∧ Pv (i + 1) (upd H5 D (.dK (putK kvs k z))) else Pv (i + 1) H3) (hd : ∀ H, Pv n H → Qd H) :
    ∃ W : Nat → Nat → Hp → Prop, (∃ m, W 0 m (upd H1 D (.dK []))) ∧ ∀ i m H, W i m H →
      (J.stop i H ∧ Qd H) ∨ (J.go i H ∧ ∃ Nx : Hp → Prop, (∀ H', Nx H' → ∃ m', m' < m ∧ W (i + 1) m' H') ∧ ∀ x H', J.yld i H x H' → g x (wipe σ vs) H' fun σ2 H2 => wipe σ2 vs = wipe σ vs ∧ tt σ2 H2 fun b H3 =>
        if b = true then tk σ2 H3 fun y H4 => tv σ2 H4 fun z H5 => ∃ kvs k, y = kV k ∧ H5 D = some (.dK kvs) ∧ kvs.length < sizeLine ∧ Nx (upd H5 D (.dK (putK kvs k z))) else Nx H3) := by
  refine ⟨fun i m H => m = n - i ∧ i ≤ n ∧ Pv i H, ⟨n, by simp, Nat.zero_le _, h0⟩, ?_⟩
  rintro i m H ⟨rfl, hi, p⟩
  have q := hG i H hi p
  by_cases hlt : i < n
  · exact .inr ⟨w.goes i H hlt q, Pv (i + 1), fun H' p' => ⟨n - (i + 1), by omega, rfl, hlt, p'⟩, fun x H' y => hs i x H H' hlt p (w.yields i H x H' hlt q y)⟩
  · obtain rfl : i = n := by omega
    exact .inl ⟨w.stops H q, hd H p⟩
end
end NR
set_option maxHeartbeats 4000000
namespace NR
open PySem PySem.Spec PyProof.Rows L2

structure CdIn (H : Hp) (CC a dx : Addr) (r : Nat) (G : Addr → Prop) : Prop where
  ha : H a = some (.ins CC dx (cdF r))
  na : ¬ G a
  hG : ∀ b, G b → ∃ o, H b = some o
theorem CdIn.keep {H H' : Hp} {CC a dx : Addr} {r r' : Nat} {G : Addr → Prop} (c : CdIn H CC a dx r G) (s : SameX a H H') (h : H' a = some (.ins CC dx (cdF r'))) : CdIn H' CC a dx r' G :=
  ⟨h, c.na, fun b g => by
    obtain ⟨o, ho⟩ := c.hG b g
    exact ⟨o, s _ _ (fun z => c.na (by rw [← z]; exact g)) ho⟩⟩
theorem CdIn.same {H H' : Hp} {CC a dx : Addr} {r : Nat} {G : Addr → Prop} (c : CdIn H CC a dx r G) (s : Same H H') : CdIn H' CC a dx r G := c.keep (Same.toX s) (s _ _ c.ha)
theorem CdIn.new {H : Hp} {CC a dx : Addr} {r : Nat} {G : Addr → Prop} (c : CdIn H CC a dx r G) {p : Addr} (h : H p = none) : ¬ G p := fun g => by
  obtain ⟨o, ho⟩ := c.hG p g
  rw [ho] at h
  cases h
theorem CdIn.nd {H H' : Hp} {CC a dx CN : Addr} {r : Nat} {G : Addr → Prop} {fn : Int} {v : V} {nd : Nd} (c : CdIn H CC a dx r G) (s : SameX a H H') (h : NdIn H G CN fn v nd) : NdIn H' G CN fn v nd := h.keep (fun _ g => g) fun b o g q => s _ _ (fun z => c.na (by rw [← z]; exact g)) q
theorem SameX.ikI {a : Addr} {H H' : Hp} {C dx : Addr} {fs : List (Str × V)} (s : SameX a H H') (h : H a = some (.ins C dx fs)) : IK H H' := ⟨s.tkI h, fun b o xs q => s b _ (ne_of q h (by intro z; cases z)) q⟩
def spAdd (CC CN : Addr) (n : Nat) : Sp := fun vs H Q _ => ∃ (a dx nm rl : Addr) (G : Addr → Prop) (v : V) (fn : Int) (nd : Nd) (ε : Env1) (r : Nat) (rs : List Row) (t r' : Nat) (us : List V), vs = [.ref a, v, .ref nm, .ref rl] ∧ CdIn H CC a dx r G ∧ NdIn H G CN fn v nd ∧ Nm H nm ε ∧ H rl = some (.lst us) ∧ ¬ G rl ∧ Lay nd ε r rs t r' ∧ nd.ok ∧ nd.hgt ≤ n ∧ nd.size ≤ 60 ∧ us.length + nd.size ≤ 200 ∧
  ∀ (H' : Hp) (xs : List V), (∀ b o, b ≠ a → b ≠ rl → H b = some o → H' b = some o) → H' a = some (.ins CC dx (cdF r')) → H' rl = some (.lst (us ++ xs)) → DIns H' xs (rowsDa rs) → Q (dV t) H'
def spBlock (CC CN : Addr) (n : Nat) : Sp := fun vs H Q _ => ∃ (a dx nm : Addr) (G : Addr → Prop) (v : V) (fn : Int) (nd : Nd) (ε : Env1) (r : Nat) (rs : List Row) (t r' : Nat), vs = [.ref a, v, .ref nm] ∧ CdIn H CC a dx r G ∧ NdIn H G CN fn v nd ∧ Nm H nm ε ∧ Lay nd ε r rs t r' ∧ nd.ok ∧ nd.hgt ≤ n ∧ nd.size ≤ 60 ∧
  ∀ (H' : Hp) (u : V), SameX a H H' → H' a = some (.ins CC dx (cdF r')) → DIn H' u (.seq false [.seq false (rowsDa rs), nDa t]) → Q u H'
abbrev sCoderBlockOf : Stmt := inClass (top 65) 2
theorem scsCoderBlockOf : FnScope ["self", "node", "names", "rows", "told"] ["self", "node", "names"] (defScope sCoderBlockOf) := ⟨rfl, rfl, rfl, by decide +kernel, rfl, by decide +kernel, by decide +kernel⟩
section
variable {P : Program} {w : World} {K : PySem.W.Frag} {mg : Str → Option Value} {base : Heap} {f : Addr} {fd : FuncData}

theorem ok_block {k n : Nat} {CC CN : Addr} (F : FnM K "block_of" "Coder.block_of" sCoderBlockOf f fd) (M_add_rows : Okm P w K mg base CX0 k CC "add_rows" ["self", "node", "names", "rows"] (spAdd CC CN n)) (z_tuple : mg "tuple" = none) : FnOk P w K mg base CX0 (k + 1) f fd ["self", "node", "names"] (spBlock CC CN n) := by
  have sc := scsCoderBlockOf
  refine F.ok sc (fun vs H Q E h => ?_) (fun cdv A outer s H vs Q E hr h => ?_)
  · obtain ⟨a, dx, nm, G, v, fn, nd, ε, r, rs, t, r', rfl, _⟩ := h
    rfl
  obtain ⟨a, dx, nm, G, v, fn, nd, ε, r, rs, t, r', rfl, c, hn, hm, lay, ok, hh, hz, q⟩ := h
  refine ⟨_, (pss_cons (ps_set (i := 3) sc.nd rfl (.inl rfl) (pe_lst pa_nil))
    (pss_cons (ps_set (i := 4) sc.nd rfl (.inl rfl) (pe_m M_add_rows (pv 0) hr pass0 (pa_cons (pv 1) (pa_cons (pv 2) (pa_cons (pv 3) pa_nil)))))
    (pss_one (ps_ret (pe_tup (pa_cons (pe_callTy (call_tupleK K) rfl z_tuple (by decide +kernel) (pa_cons (pv 3) pa_nil)) (pa_cons (pv 4) pa_nil))))))), ?_⟩
  refine ⟨by show 0 ≤ sizeLine; decide, fun rl hrl => ?_⟩
  have s0 := same_new hrl (.lst [])
  have nra : rl ≠ a := (ne_of_none c.ha hrl).symm
  refine ⟨_, rfl, a, dx, _, rfl, s0 _ _ c.ha, cdF_no (by decide +kernel), _, rfl, _, rfl, _, rfl, a, dx, nm, rl, G, v, fn, nd, ε, r, rs, t, r', [], rfl, c.same s0, hn.same s0, hm.same s0, upd_same, c.new hrl, lay, ok, hh, hz, by simp only [List.length_nil]; omega, fun H1 xs k1 g1 e1 d1 => ?_⟩
  rw [List.nil_append] at e1
  refine ⟨_, rfl, rl, _, rfl, .inl ⟨SqL.of e1, fun t1 ht1 => ?_⟩⟩
  have s1 := same_new ht1 (.tup xs)
  refine ⟨_, rfl, by show 2 ≤ sizeLine; decide, fun t2 ht2 => ?_⟩
  have s2 := same_new ht2 (.tup [.ref t1, dV t])
  have hxl := d1.len
  rw [rowsDa_len] at hxl
  have := lay.up.2
  have sN : SameX a H H1 := fun b o nb hb => k1 _ _ nb (ne_of_none hb hrl) (s0 _ _ hb)
  refine q _ _ (sN.trans (Same.toX (s1.trans s2))) (s2 _ _ (s1 _ _ g1)) (.tup upd_same (by show 2 ≤ 1000; decide) (.cons (.tup (s2 _ _ upd_same) (by omega) ((d1.same s1).same s2)) (.cons .int .nil)))
end

def spIfEnd (CC CN : Addr) (n : Nat) : Sp := fun vs H Q _ => ∃ (a dx nm : Addr) (G : Addr → Prop) (v : V) (fn : Int) (nd : Nd) (ε : Env1) (r tc : Nat) (be : List Da) (r' : Nat) (p : Nat) (k : Int) (ps : List Nd) (d : Nat), vs = [.ref a, v, .ref nm, dV tc] ∧ CdIn H CC a dx r G ∧ nd = .node .ite p k ps d ∧ NdIn H G CN fn v nd ∧ Nm H nm ε ∧ REnd nd ε [tc] r be r' ∧ nd.ok ∧ nhgts ps ≤ n ∧ nd.size ≤ 60 ∧
  ∀ (H' : Hp) (u : Addr) (xs : List V), SameX a H H' → H' a = some (.ins CC dx (cdF r')) → H' u = some (.tup xs) → DIns H' xs be → Q (.ref u) H'
theorem BOk.of {nd : Nd} {ε : Env1} {r : Nat} {rs : List Row} {t r' : Nat} (l : Lay nd ε r rs t r') (ok : nd.ok) (hz : nd.size ≤ 60) : BOk (rs, t) := ⟨by have := l.up.2; show rs.length ≤ 100; omega, fun row h => ⟨l.rok ok row h, by have := l.rd row h; omega⟩⟩
abbrev sCoderIfEnd : Stmt := inClass (top 65) 5
theorem scsCoderIfEnd : FnScope ["self", "node", "names", "chosen", "first", "yes", "no"] ["self", "node", "names", "chosen"] (defScope sCoderIfEnd) := ⟨rfl, rfl, rfl, by decide +kernel, rfl, by decide +kernel, by decide +kernel⟩
section
variable {P : Program} {w : World} {K : PySem.W.Frag} {mg : Str → Option Value} {base : Heap} {f : Addr} {fd : FuncData}

theorem ok_ifend {k n : Nat} {CC CN : Addr} (F : FnM K "if_end" "Coder.if_end" sCoderIfEnd f fd) (N : CdC K CC) (ND : NdC K CN) (M_block_of : Okm P w K mg base CX0 k CC "block_of" ["self", "node", "names"] (spBlock CC CN n)) (O_taken_in : Okf P w K mg base CX0 k "taken_in" ["blocks", "first"] spTakenIn) : FnOk P w K mg base CX0 (k + 1) f fd ["self", "node", "names", "chosen"] (spIfEnd CC CN n) := by
  have sc := scsCoderIfEnd
  refine F.ok sc (fun vs H Q E h => ?_) (fun cdv A outer s H vs Q E hr h => ?_)
  · obtain ⟨a, dx, nm, G, v, fn, nd, ε, r, tc, be, r', p, kk, ps, d, rfl, _⟩ := h
    rfl
  obtain ⟨a, dx, nm, G, v, fn, nd, ε, r, tc, be, r', p, kk, ps, d, rfl, c, rfl, hn, hm, re, ok, hh, hz, q⟩ := h
  cases re with
  | bare _ h _ => exact absurd rfl h
  | ea h _ => rcases h with h | h <;> cases h
  | @ite _ _ nc na nb _ _ r2 r3 _ ta tb _ ra rb la lb =>
  have hsz : (Nd.node W.ite p kk [nc, na, nb] d).size = 1 + (nc.size + (na.size + (nb.size + 0))) := rfl
  have hhg : nhgts [nc, na, nb] = max nc.hgt (max na.hgt (max nb.hgt 0)) := rfl
  obtain ⟨_, ok0, ok1, ok2, _⟩ := ok
  cases hn with
  | @mk va vdx vl _ _ _ _ _ vs g1 g2 h1 h2 h3 =>
  obtain ⟨vc, _, rfl, _⟩ : ∃ x y, vs = x :: y ∧ True := by cases h3; exact ⟨_, _, rfl, trivial⟩
  cases h3 with
  | cons n0 r0 =>
  cases r0 with
  | @cons v1 _ _ _ n1 r1 =>
  cases r1 with
  | @cons v2 _ _ _ n2 r2' =>
  cases r2'
  refine ⟨_, (pss_cons (ps_set (i := 4) sc.nd rfl (.inl rfl) (pe_fldK K (pv 0) rfl))
    (pss_cons (ps_set (i := 5) sc.nd rfl (.inl rfl) (pe_m M_block_of (pv 0) hr pass0 (pa_cons (pe_ix (ix_listK K) (pe_fldK K (pv 1) rfl) pe_int (fun _ _ => rfl)) (pa_cons (pv 2) pa_nil))))
    (pss_cons (ps_set (i := 6) sc.nd rfl (.inl rfl) (pe_m M_block_of (pv 0) hr pass0 (pa_cons (pe_ix (ix_listK K) (pe_fldK K (pv 1) rfl) pe_int (fun _ _ => rfl)) (pa_cons (pv 2) pa_nil))))
    (pss_one (ps_ret (pe_tup (pa_cons (pv 3) (pa_cons (pe_c O_taken_in hr rfl pass0 (pa_cons (pe_lst (pa_cons (pv 5) (pa_cons (pv 6) pa_nil))) (pa_cons (pv 4) pa_nil))) (pa_starK K (pv 5) (pa_starK K (pv 6) pa_nil)))))))))), ?_⟩
  refine ⟨_, rfl, a, CC, dx, _, _, rfl, c.ha, N.cl, N.reg, cdF_reg, ?_⟩
  refine ⟨_, rfl, a, dx, _, rfl, c.ha, cdF_no (by decide +kernel), _, rfl, va, CN, vdx, _, _, rfl, h1, ND.cl, ND.parts, ndF_parts, vl, _, _, _, rfl, rfl, SqL.of h2, rfl, _, rfl, a, dx, nm, G, v1, fn, na, ε, r, ra, ta, r2, rfl, c, n1, hm, la, ok1, by omega, by omega, fun H1 u1 s1 e1 d1 => ?_⟩
  have c1 := c.keep s1 e1
  have nG : ∀ b, G b → b ≠ a := fun b g z => c.na (by rw [← z]; exact g)
  refine ⟨_, rfl, a, dx, _, rfl, e1, cdF_no (by decide +kernel), _, rfl, va, CN, vdx, _, _, rfl, s1 _ _ (nG _ g1) h1, ND.cl, ND.parts, ndF_parts, vl, _, _, _, rfl, rfl, SqL.of (s1 _ _ (nG _ g2) h2), rfl, _, rfl, a, dx, nm, G, v2, fn, nb, ε, r2, rb, tb, r', rfl, c1, c.nd s1 n2, hm.sameX s1 c.ha, lb, ok2, by omega, by omega, fun H2 u2 s2 e2 d2 => ?_⟩
  have ik2 := s2.ikI e1
  have d1' : DIn H2 u1 (.seq false [.seq false (rowsDa ra), nDa ta]) := d1.ik ik2 ⟨rfl, ⟨rfl, rows_tp _⟩, trivial, trivial⟩
  refine ⟨_, rfl, _, rfl, _, rfl, by show 2 ≤ sizeLine; decide, fun l hl => ?_⟩
  have s3 := same_new hl (.lst [u1, u2])
  have hcnt : below r (seenB [(ra, ta), (rb, tb)]) ≤ 63 := by
    have z1 := la.cnt r (Nat.le_refl _)
    have z2 := lb.cnt r la.up.1
    have e9 : seenB [(ra, ta), (rb, tb)] = seen1 ra ta ++ (seen1 rb tb ++ []) := rfl
    rw [e9, List.append_nil, below_append]
    omega
  refine ⟨_, rfl, l, [u1, u2], r, [(ra, ta), (rb, tb)], rfl, upd_same, .cons (d1'.same s3) (.cons (d2.same s3) .nil), by show 2 ≤ 2; decide, fun b hb => ?_, hcnt, fun H3 u3 s4 d3 => ?_⟩
  · rcases List.mem_cons.mp hb with rfl | hb
    · exact BOk.of la ok1 (by omega)
    · rcases List.mem_cons.mp hb with rfl | hb
      · exact BOk.of lb ok2 (by omega)
      · cases hb
  have s34 := s3.trans s4
  obtain ⟨y, yvs, rfl, y1, y2⟩ := (d1'.same s34).seq_inv
  obtain ⟨z, zvs, rfl, z1, z2⟩ := (d2.same s34).seq_inv
  have ly := y2.len
  have lz := z2.len
  simp only [List.length_cons, List.length_nil] at ly lz
  have big : 1000 ≤ sizeLine := by decide
  refine ⟨_, rfl, y, yvs, rfl, .inl y1.t, _, rfl, z, zvs, rfl, .inl z1.t, ?_, fun p3 hp3 => ?_⟩
  · simp only [List.length_cons, List.length_append, List.length_nil]
    omega
  have s5 := same_new hp3 (.tup (dV tc :: u3 :: (yvs ++ (zvs ++ []))))
  refine q _ _ _ (s1.trans (s2.trans (Same.toX (s34.trans s5)))) (s5 _ _ (s34 _ _ e2)) upd_same ?_
  have e8 : seenB [(ra, ta), (rb, tb)] = seen1 ra ta ++ seen1 rb tb := by
    show seen1 ra ta ++ (seen1 rb tb ++ []) = _
    rw [List.append_nil]
  rw [e8] at d3
  obtain ⟨y0, yr, rfl, w1, w2⟩ := y2.cons_inv
  obtain ⟨y3, yr, rfl, w3, w4⟩ := w2.cons_inv
  obtain ⟨z0, zr, rfl, w5, w6⟩ := z2.cons_inv
  obtain ⟨z3, zr, rfl, w7, w8⟩ := w6.cons_inv
  have ey := w4.nil_inv
  have ez := w8.nil_inv
  subst ey ez
  exact .cons .int (.cons (d3.same s5) (.cons (w1.same s5) (.cons (w3.same s5) (.cons (w5.same s5) (.cons (w7.same s5) .nil)))))
end

def spItEnd (CC CN : Addr) (n : Nat) : Sp := fun vs H Q _ => ∃ (a dx nm : Addr) (G : Addr → Prop) (v : V) (fn : Int) (nd : Nd) (ε : Env1) (r tc : Nat) (be : List Da) (r' : Nat) (x : W) (p : Nat) (k : Int) (ps : List Nd) (d : Nat), vs = [.ref a, v, .ref nm, dV tc] ∧ CdIn H CC a dx r G ∧ nd = .node x p k ps d ∧ (x = .each ∨ x = .whr) ∧ 0 ≤ k ∧ k ≤ 19 ∧ NdIn H G CN fn v nd ∧ Nm H nm ε ∧ REnd nd ε [tc] r be r' ∧ nd.ok ∧ nhgts ps ≤ n ∧ nd.size ≤ 60 ∧
  ∀ (H' : Hp) (u : Addr) (xs : List V), SameX a H H' → H' a = some (.ins CC dx (cdF r')) → H' u = some (.tup xs) → DIns H' xs be → Q (.ref u) H'
abbrev sCoderItemsEnd : Stmt := inClass (top 65) 6
theorem scsCoderItemsEnd : FnScope ["self", "node", "names", "row", "item", "body"] ["self", "node", "names", "row"] (defScope sCoderItemsEnd) := ⟨rfl, rfl, rfl, by decide +kernel, rfl, by decide +kernel, by decide +kernel⟩
section
variable {P : Program} {w : World} {K : PySem.W.Frag} {mg : Str → Option Value} {base : Heap} {f : Addr} {fd : FuncData}

theorem ok_itend {k n : Nat} {CC CN : Addr} (F : FnM K "items_end" "Coder.items_end" sCoderItemsEnd f fd) (N : CdC K CC) (ND : NdC K CN) (M_block_of : Okm P w K mg base CX0 k CC "block_of" ["self", "node", "names"] (spBlock CC CN n)) (M_new_one : Okm P w K mg base CX0 k CC "new_one" ["self"] (spNewOne CC)) (O_taken_in : Okf P w K mg base CX0 k "taken_in" ["blocks", "first"] spTakenIn) : FnOk P w K mg base CX0 (k + 1) f fd ["self", "node", "names", "row"] (spItEnd CC CN n) := by
  have sc := scsCoderItemsEnd
  refine F.ok sc (fun vs H Q E h => ?_) (fun cdv A outer s H vs Q E hr h => ?_)
  · obtain ⟨a, dx, nm, G, v, fn, nd, ε, r, tc, be, r', x, p, kk, ps, d, rfl, _⟩ := h
    rfl
  have hu := hu_of hr
  obtain ⟨a, dx, nm, G, v, fn, nd, ε, r, tc, be, r', x, p, kk, ps, d, rfl, c, rfl, hx, k0, k1, hn, hm, re, ok, hh, hz, q⟩ := h
  cases re with
  | call => rcases hx with h | h <;> cases h
  | ite _ _ => rcases hx with h | h <;> cases h
  | bare h _ _ => rcases hx with rfl | rfl <;> cases h
  | @ea _ _ _ na nb _ _ r2 _ tb _ rb _ lb =>
  have hsz : (Nd.node x p kk [na, nb] d).size = 1 + (na.size + (nb.size + 0)) := rfl
  have hhg : nhgts [na, nb] = max na.hgt (max nb.hgt 0) := rfl
  obtain ⟨_, ok0, ok1, _⟩ := ok
  cases hn with
  | @mk va vdx vl _ _ _ _ _ vs g1 g2 h1 h2 h3 =>
  cases h3 with
  | @cons v0 _ _ _ n0 r0 =>
  cases r0 with
  | @cons v1 _ _ _ n1 r1 =>
  cases r1
  have nG : ∀ b, G b → b ≠ a := fun b g z => c.na (by rw [← z]; exact g)
  obtain ⟨ea, edx, efs, rfl, ge, i1, i2⟩ : ∃ ea edx efs, v0 = .ref ea ∧ G ea ∧ H ea = some (.ins CN edx efs) ∧ efs.lookup ("depth" : Str) = some (.int (na.d : Int)) := by
    cases n0 with
    | mk ga _ i1 i2 i3 => exact ⟨_, _, _, rfl, ga, i1, ndF_depth⟩
  refine ⟨_, (pss_cons (ps_set (i := 4) sc.nd rfl (.inl rfl) (pe_m0 M_new_one (pv 0) hr pass0))
    (pss_cons (ps_set (i := 5) sc.nd rfl (.inl rfl) (pe_m M_block_of (pv 0) hr pass0 (pa_cons (pe_ix (ix_listK K) (pe_fldK K (pv 1) rfl) pe_int (fun _ _ => rfl)) (pa_cons (pe_dstar (pv 2) (pe_fldK K (pv 1) rfl) (pv 4)) pa_nil))))
    (pss_one (ps_ret (pe_tup (pa_cons (pv 3) (pa_cons (pe_fldK K (pe_ix (ix_listK K) (pe_fldK K (pv 1) rfl) pe_int (fun _ _ => rfl)) rfl) (pa_cons (pv 4) (pa_cons (pe_c O_taken_in hr rfl pass0 (pa_cons (pe_lst (pa_cons (pv 5) pa_nil)) (pa_cons (pv 4) pa_nil))) (pa_starK K (pv 5) (pa_cons (pe_fldK K (pv 1) rfl) pa_nil))))))))))), ?_⟩
  refine ⟨_, rfl, a, dx, _, rfl, c.ha, cdF_no (by decide +kernel), a, dx, r, rfl, c.ha, ?_⟩
  have s1 : SameX a H (upd H a (.ins CC dx (cdF (r + 1)))) := .upd
  have e1 : upd H a (.ins CC dx (cdF (r + 1))) a = some (.ins CC dx (cdF (r + 1))) := upd_same
  generalize upd H a (.ins CC dx (cdF (r + 1))) = H1 at s1 e1 ⊢
  have c1 := c.keep s1 e1
  have hm1 := hm.sameX s1 c.ha
  refine ⟨_, rfl, a, dx, _, rfl, e1, cdF_no (by decide +kernel), _, rfl, va, CN, vdx, _, _, rfl, s1 _ _ (nG _ g1) h1, ND.cl, ND.parts, ndF_parts, vl, _, _, _, rfl, rfl, SqL.of (s1 _ _ (nG _ g2) h2), rfl, fun p0 hp0 => ?_⟩
  obtain ⟨kl, j1, j2, j3, j4⟩ := hm1.ex
  have npm : nm ≠ p0 := ne_of_none j1 hp0
  have hf20 := few20 j2 j3
  refine ⟨_, rfl, nm, _, rfl, npm, by rw [upd_ne npm]; exact j1, upd_same, by rw [List.length_map]; omega, fun q0 hq0 => ?_⟩
  rw [upd_upd] at hq0 ⊢
  have npq : p0 ≠ q0 := fun z => by rw [z, upd_same] at hq0; cases hq0
  have hq1 : H1 q0 = none := by rw [upd_ne npq.symm] at hq0; exact hq0
  have npv : va ≠ p0 := ne_of_none (s1 _ _ (nG _ g1) h1) hp0
  have nqv : va ≠ q0 := ne_of_none (s1 _ _ (nG _ g1) h1) hq1
  obtain ⟨kl', m1, m2, m3, m4⟩ := put_nm (d := r) j2 j3 j4 k0 k1
  refine ⟨_, rfl, va, CN, vdx, _, _, rfl, by rw [upd_ne nqv, upd_ne npv]; exact s1 _ _ (nG _ g1) h1, ND.cl, ND.number, ndF_number, _, rfl, by rw [upd_ne npq, upd_same], upd_same, npq, Sum.inl kk, rfl, ?_⟩
  rw [show putK (kl.map kvOf) (Sum.inl kk) (dV r) = kl'.map kvOf from m1]
  generalize eH2 : upd (upd (upd (upd H1 p0 (.dK (kl.map kvOf))) q0 (.dK [])) q0 (.dK [(Sum.inl kk, dV r)])) p0 (.dK (kl'.map kvOf)) = H2
  have s2 : Same H1 H2 := fun b o hb => by
    have n1 := ne_of_none hb hp0
    have n2 := ne_of_none hb hq1
    rw [← eH2, upd_ne n1, upd_ne n2, upd_ne n2, upd_ne n1]
    exact hb
  have eq2 : H2 p0 = some (.dK (kl'.map kvOf)) := by rw [← eH2, upd_same]
  have c2 := c1.same s2
  have s12 := s1.trans (Same.toX s2)
  refine ⟨a, dx, p0, G, v1, fn, nb, ups ε kk r, r + 1, rb, tb, r', rfl, c2, c.nd s12 n1, ⟨kl', eq2, m2, m3, m4⟩, lb, ok1, by omega, by omega, fun H3 u3 s3 e3 d3 => ?_⟩
  have s13 := s12.trans s3
  refine ⟨_, rfl, _, rfl, va, CN, vdx, _, _, rfl, s13 _ _ (nG _ g1) h1, ND.cl, ND.parts, ndF_parts, vl, _, _, _, rfl, rfl, SqL.of (s13 _ _ (nG _ g2) h2), rfl, ea, CN, edx, _, _, rfl, s13 _ _ (nG _ ge) i1, ND.cl, ND.depth, i2, _, rfl, _, rfl, by show 1 ≤ sizeLine; decide, fun l hl => ?_⟩
  have s4 := same_new hl (.lst [u3])
  have hcnt : below r (seenB [(rb, tb)]) ≤ 63 := by
    have z2 := lb.cnt r (Nat.le_succ _)
    have e9 : seenB [(rb, tb)] = seen1 rb tb ++ [] := rfl
    rw [e9, List.append_nil]
    omega
  refine ⟨_, rfl, l, [u3], r, [(rb, tb)], rfl, upd_same, .cons (d3.same s4) .nil, by show 1 ≤ 2; decide, fun b hb => ?_, hcnt, fun H4 u4 s5 d4 => ?_⟩
  · rw [List.mem_singleton.mp hb]
    exact BOk.of lb ok1 (by omega)
  have s45 := s4.trans s5
  obtain ⟨y, yvs, rfl, y1, y2⟩ := (d3.same s45).seq_inv
  have ly := y2.len
  simp only [List.length_cons, List.length_nil] at ly
  have big : 1000 ≤ sizeLine := by decide
  have s15 := s13.trans (Same.toX s45)
  refine ⟨_, rfl, y, yvs, rfl, .inl y1.t, _, rfl, va, CN, vdx, _, _, rfl, s15 _ _ (nG _ g1) h1, ND.cl, ND.depth, ndF_depth, ?_, fun p3 hp3 => ?_⟩
  · simp only [List.length_cons, List.length_append, List.length_nil]
    omega
  have s6 := same_new hp3 (.tup (dV tc :: .int (na.d : Int) :: dV r :: u4 :: (yvs ++ [.int (d : Int)])))
  refine q _ _ _ (s15.trans (Same.toX s6)) (s6 _ _ (s45 _ _ e3)) upd_same ?_
  have e8 : seenB [(rb, tb)] = seen1 rb tb := by
    show seen1 rb tb ++ [] = _
    rw [List.append_nil]
  rw [e8] at d4
  obtain ⟨y0, yr, rfl, w1, w2⟩ := y2.cons_inv
  obtain ⟨y3, yr, rfl, w3, w4⟩ := w2.cons_inv
  have ey := w4.nil_inv
  subst ey
  exact .cons .int (.cons .int (.cons .int (.cons (d4.same s6) (.cons (w1.same s6) (.cons (w3.same s6) (.cons .int .nil))))))
end
end NR
set_option maxHeartbeats 4000000
namespace NR
open PySem PySem.Spec PyProof.Rows L2

theorem DIns.app {H : Hp} : ∀ {v1 v2 : List V} {d1 d2 : List Da}, DIns H v1 d1 → DIns H v2 d2 → DIns H (v1 ++ v2) (d1 ++ d2)
  | _, _, _, _, .nil, h => h
  | _, _, _, _, .cons h r, h' => .cons h (DIns.app r h')
def spRowEnd (CC CN : Addr) (n : Nat) : Sp := fun vs H Q _ => ∃ (a dx nm pl : Addr) (G : Addr → Prop) (v : V) (fn : Int) (nd : Nd) (ε : Env1) (r : Nat) (ts : List Nat) (be : List Da) (r' : Nat) (x : W) (p : Nat) (k : Int) (ps : List Nd) (d : Nat), vs = [.ref a, v, .ref nm, .ref pl] ∧ CdIn H CC a dx r G ∧ nd = .node x p k ps d ∧ (x.lay = 1 → 0 ≤ k ∧ k ≤ 19) ∧ NdIn H G CN fn v nd ∧ Nm H nm ε ∧ H pl = some (.lst (ts.map dV)) ∧ ts.length ≤ 100 ∧ REnd nd ε ts r be r' ∧ nd.ok ∧ nhgts ps ≤ n ∧ nd.size ≤ 60 ∧
  ∀ (H' : Hp) (u : Addr) (xs : List V), SameX a H H' → H' a = some (.ins CC dx (cdF r')) → H' u = some (.tup xs) → xs.length ≤ 200 → DIns H' xs be → Q (.ref u) H'
abbrev sCoderRowEnd : Stmt := inClass (top 65) 4
theorem scsCoderRowEnd : FnScope ["self", "node", "names", "parts"] ["self", "node", "names", "parts"] (defScope sCoderRowEnd) := ⟨rfl, rfl, rfl, by decide +kernel, rfl, by decide +kernel, by decide +kernel⟩
section
variable {P : Program} {w : World} {K : PySem.W.Frag} {mg : Str → Option Value} {base : Heap} {f : Addr} {fd : FuncData}

theorem ok_rowend {k n : Nat} {CC CN aI aD : Addr} (F : FnM K "row_end" "Coder.row_end" sCoderRowEnd f fd) (R : RwC K mg aI aD) (ND : NdC K CN) (M_if_end : Okm P w K mg base CX0 k CC "if_end" ["self", "node", "names", "chosen"] (spIfEnd CC CN n)) (M_items_end : Okm P w K mg base CX0 k CC "items_end" ["self", "node", "names", "row"] (spItEnd CC CN n)) (z_tuple : mg "tuple" = none) : FnOk P w K mg base CX0 (k + 1) f fd ["self", "node", "names", "parts"] (spRowEnd CC CN n) := by
  have sc := scsCoderRowEnd
  have m_ITEM_WORDS := R.mI
  have m_WITH_DEPTH := R.mD
  refine F.ok sc (fun vs H Q E h => ?_) (fun cdv A outer s H vs Q E hr h => ?_)
  · obtain ⟨a, dx, nm, pl, G, v, fn, nd, ε, r, ts, be, r', x, p, kk, ps, d, rfl, _⟩ := h
    rfl
  obtain ⟨a, dx, nm, pl, G, v, fn, nd, ε, r, ts, be, r', x, p, kk, ps, d, rfl, c, rfl, hk, hn, hm, hp, htl, re, ok, hh, hz, q⟩ := h
  have hn' := hn
  cases hn' with
  | @mk va vdx vl _ _ _ _ _ vs g1 g2 h1 h2 h3 =>
  have big : 1000 ≤ sizeLine := by decide
  refine ⟨_, (pss_cons (ps_if (pt_cmpR op_eq (pe_fldK K (pv 1) rfl) pe_str (nomark _)) (pss_one (ps_ret (pe_tup (pa_cons (pe_fldK K (pv 1) rfl) pa_nil)))) pss_nil)
    (pss_cons (ps_if (pt_cmpR op_eq (pe_fldK K (pv 1) rfl) pe_str (nomark _)) (pss_one (ps_ret (pe_tup (pa_cons (pe_fldK K (pv 1) rfl) (pa_cons (pe_callTy (call_tupleK K) rfl z_tuple (by decide +kernel) (pa_cons (pv 3) pa_nil)) pa_nil))))) pss_nil)
    (pss_cons (ps_if (pt_cmpR op_eq (pe_fldK K (pv 1) rfl) pe_str (nomark _)) (pss_one (ps_ret (pe_m M_if_end (pv 0) hr pass0 (pa_cons (pv 1) (pa_cons (pv 2) (pa_cons (pe_ix (ix_listK K) (pv 3) pe_int (fun _ _ => rfl)) pa_nil)))))) pss_nil)
    (pss_cons (ps_if (pt_cmpR (op_inK K) (pe_fldK K (pv 1) rfl) (pe_gR rfl m_ITEM_WORDS) (by rfl)) (pss_one (ps_ret (pe_m M_items_end (pv 0) hr pass0 (pa_cons (pv 1) (pa_cons (pv 2) (pa_cons (pe_ix (ix_listK K) (pv 3) pe_int (fun _ _ => rfl)) pa_nil)))))) pss_nil)
    (pss_cons (ps_if (pt_cmpR (op_inK K) (pe_fldK K (pv 1) rfl) (pe_gR rfl m_WITH_DEPTH) (by rfl)) (pss_one (ps_ret (pe_tup (pa_starK K (pv 3) (pa_cons (pe_fldK K (pe_ix (ix_listK K) (pe_fldK K (pv 1) rfl) pe_int (fun _ _ => rfl)) rfl) pa_nil))))) pss_nil)
    (pss_one (ps_ret (pe_callTy (call_tupleK K) rfl z_tuple (by decide +kernel) (pa_cons (pv 3) pa_nil))))))))), ?_⟩
  refine ⟨_, rfl, va, CN, vdx, _, _, rfl, h1, ND.cl, ND.word, ndF_word, rfl, _, rfl, ?_⟩
  rw [isNum x]
  refine ite2 (fun z => ?_) (fun z1 => ?_)
  · have z' := of_decide_eq_true z
    subst z'
    cases re with
    | num => exact ⟨_, rfl, va, CN, vdx, _, _, rfl, h1, ND.cl, ND.number, ndF_number, by show 1 ≤ sizeLine; decide, fun u hu => q _ _ _ (Same.toX (same_new hu _)) (same_new hu _ _ _ c.ha) upd_same (by show 1 ≤ 200; decide) (.cons .int .nil)⟩
    | ea h _ => rcases h with h | h <;> cases h
    | bare h _ _ => cases h
  refine ⟨_, rfl, va, CN, vdx, _, _, rfl, h1, ND.cl, ND.word, ndF_word, rfl, _, rfl, ?_⟩
  rw [isCall2 x]
  refine ite2 (fun z => ?_) (fun z2 => ?_)
  · have z' := of_decide_eq_true z
    subst z'
    cases re with
    | call =>
      refine ⟨_, rfl, va, CN, vdx, _, _, rfl, h1, ND.cl, ND.number, ndF_number, _, rfl, pl, _, rfl, .inl ⟨SqL.of hp, fun u1 hu1 => ?_⟩⟩
      have s1 := same_new hu1 (.tup (ts.map dV))
      refine ⟨by show 2 ≤ sizeLine; decide, fun u2 hu2 => ?_⟩
      have s2 := s1.trans (same_new hu2 (.tup [.int kk, .ref u1]))
      exact q _ _ _ (Same.toX s2) (s2 _ _ c.ha) upd_same (by show 2 ≤ 200; decide) (.cons .int (.cons (.tup (same_new hu2 _ _ _ upd_same) (by rw [List.length_map]; omega) (DIns.ns ts)) .nil))
    | ea h _ => rcases h with h | h <;> cases h
    | bare h _ _ => cases h
  refine ⟨_, rfl, va, CN, vdx, _, _, rfl, h1, ND.cl, ND.word, ndF_word, rfl, _, rfl, ?_⟩
  rw [isIf x]
  refine ite2 (fun z => ?_) (fun z3 => ?_)
  · have z' := of_decide_eq_true z
    subst z'
    have e1 : ∃ tc, ts = [tc] := by
      cases re with
      | ite _ _ => exact ⟨_, rfl⟩
      | ea h _ => rcases h with h | h <;> cases h
      | bare _ h _ => exact absurd rfl h
    obtain ⟨tc, rfl⟩ := e1
    refine ⟨_, rfl, a, dx, _, rfl, c.ha, cdF_no (by decide +kernel), _, rfl, _, rfl, _, rfl, pl, _, _, _, rfl, rfl, SqL.of hp, rfl, a, dx, nm, G, .ref va, fn, _, ε, r, tc, be, r', p, kk, ps, d, rfl, c, rfl, hn, hm, re, ok, hh, hz, fun H' u xs s1 e1 e2 e3 => q _ _ _ s1 e1 e2 ?_ e3⟩
    have l1 := e3.len
    cases re with
    | ite _ _ =>
      simp only [List.length_cons, List.length_nil] at l1
      omega
    | ea h _ => rcases h with h | h <;> cases h
    | bare _ h _ => exact absurd rfl h
  refine ⟨_, rfl, va, CN, vdx, _, _, rfl, h1, ND.cl, ND.word, ndF_word, aI, _, rfl, .inr (R.hI _), rfl, rfl, _, rfl, ?_⟩
  have e : (if (false = true) then !inV (.str x.str) itW else inV (.str x.str) itW) = (decide (x = .each) || decide (x = .whr)) := inIt x
  refine ite2 (fun z => ?_) (fun z4 => ?_)
  · have hx : x = .each ∨ x = .whr := by
      have := e.symm.trans z
      rcases Bool.or_eq_true_iff.mp this with h | h
      · exact .inl (of_decide_eq_true h)
      · exact .inr (of_decide_eq_true h)
    have e1 : ∃ tc, ts = [tc] := by
      cases re with
      | ea _ _ => exact ⟨_, rfl⟩
      | num => rcases hx with h | h <;> cases h
      | call => rcases hx with h | h <;> cases h
      | ite _ _ => rcases hx with h | h <;> cases h
      | bare h _ _ => rcases hx with rfl | rfl <;> cases h
    obtain ⟨tc, rfl⟩ := e1
    obtain ⟨k0, k1⟩ := hk (by rcases hx with rfl | rfl <;> rfl)
    refine ⟨_, rfl, a, dx, _, rfl, c.ha, cdF_no (by decide +kernel), _, rfl, _, rfl, _, rfl, pl, _, _, _, rfl, rfl, SqL.of hp, rfl, a, dx, nm, G, .ref va, fn, _, ε, r, tc, be, r', x, p, kk, ps, d, rfl, c, rfl, hx, k0, k1, hn, hm, re, ok, hh, hz, fun H' u xs s1 e1 e2 e3 => q _ _ _ s1 e1 e2 ?_ e3⟩
    have l1 := e3.len
    cases re with
    | ea _ _ =>
      simp only [List.length_cons, List.length_nil] at l1
      omega
    | call => rcases hx with h | h <;> cases h
    | ite _ _ => rcases hx with h | h <;> cases h
    | bare h _ _ => rcases hx with rfl | rfl <;> cases h
  have c1 : x ≠ .num := fun z => z1 (decide_eq_true z)
  have c2 : x ≠ .call := fun z => z2 (decide_eq_true z)
  have c3 : x ≠ .ite := fun z => z3 (decide_eq_true z)
  have c4 : ¬ (x = .each ∨ x = .whr) := fun h => z4 (e.trans (by rcases h with rfl | rfl <;> rfl))
  cases re with
  | num => exact absurd rfl c1
  | call => exact absurd rfl c2
  | ite _ _ => exact absurd rfl c3
  | ea h _ => exact absurd h c4
  | bare h0 _ hl =>
  refine ⟨_, rfl, va, CN, vdx, _, _, rfl, h1, ND.cl, ND.word, ndF_word, aD, _, rfl, .inr (R.hD _), rfl, rfl, _, rfl, ?_⟩
  have e2 : (if (false = true) then !inV (.str x.str) wdW else inV (.str x.str) wdW) = x.wd := inWd x
  refine ite2 (fun z => ?_) (fun z => ?_)
  · have hw : x.wd = true := e2.symm.trans z
    have hps := ok.1.1 h0
    have := wd3 hw
    cases ps with
    | nil =>
      simp only [List.length_nil] at hps
      omega
    | cons n0 ps =>
    cases h3 with
    | @cons v0 _ _ _ i0 r0 =>
    cases i0 with
    | @mk ea edx el _ _ _ _ _ evs _ _ k1 k2 k3 =>
    refine ⟨_, rfl, pl, _, rfl, .inr (SqL.of hp), _, rfl, va, CN, vdx, _, _, rfl, h1, ND.cl, ND.parts, ndF_parts, vl, _, _, _, rfl, rfl, SqL.of h2, at0, ea, CN, edx, _, _, rfl, k1, ND.cl, ND.depth, ndF_depth, ?_, fun u hu => ?_⟩
    · simp only [List.length_append, List.length_map, List.length_cons, List.length_nil]
      omega
    · refine q _ _ _ (Same.toX (same_new hu _)) (same_new hu _ _ _ c.ha) upd_same ?_ ?_
      · simp only [List.length_append, List.length_map, List.length_cons, List.length_nil]
        omega
      · rw [if_pos hw]
        exact DIns.app (DIns.ns ts) (.cons .int .nil)
  · have hw : ¬ x.wd = true := fun y => z (e2.trans y)
    refine ⟨_, rfl, pl, _, rfl, .inl ⟨SqL.of hp, fun u1 hu1 => ?_⟩⟩
    rw [if_neg hw, show oDa none = [] from rfl, List.append_nil] at q
    exact q _ _ _ (Same.toX (same_new hu1 _)) (same_new hu1 _ _ _ c.ha) upd_same (by rw [List.length_map]; omega) (DIns.ns ts)
end
end NR
set_option maxHeartbeats 4000000
namespace NR
open PySem PySem.Spec PyProof.Rows L2

/-- all but a and rl stays -/
def Same2 (a rl : Addr) (H H' : Hp) : Prop := ∀ b o, b ≠ a → b ≠ rl → H b = some o → H' b = some o
theorem Same2.trans {a rl : Addr} {H H1 H2 : Hp} (x : Same2 a rl H H1) (y : Same2 a rl H1 H2) : Same2 a rl H H2 := fun b o n m h => y b o n m (x b o n m h)
theorem SameX.two {a rl : Addr} {H H' : Hp} (s : SameX a H H') : Same2 a rl H H' := fun b o n _ h => s b o n h
theorem Same2.ik {a rl : Addr} {H H' : Hp} {C dx : Addr} {fs : List (Str × V)} {us : List V} (s : Same2 a rl H H') (h : H a = some (.ins C dx fs)) (h' : H rl = some (.lst us)) : IK H H' :=
  ⟨fun b xs q => s b _ (ne_of q h (by intro z; cases z)) (ne_of q h' (by intro z; cases z)) q, fun b o xs q => s b _ (ne_of q h (by intro z; cases z)) (ne_of q h' (by intro z; cases z)) q⟩
theorem Same2.nm {a rl m : Addr} {H H' : Hp} {C dx : Addr} {fs : List (Str × V)} {us : List V} {ρ : Env1} (s : Same2 a rl H H') (h : H a = some (.ins C dx fs)) (h' : H rl = some (.lst us)) (n : Nm H m ρ) : Nm H' m ρ := by
  obtain ⟨kn, h1, r⟩ := n.ex
  exact ⟨kn, s _ _ (ne_of h1 h (by intro z; cases z)) (ne_of h1 h' (by intro z; cases z)) h1, r⟩
theorem CdIn.keep2 {H H' : Hp} {CC a dx rl : Addr} {r r' : Nat} {G : Addr → Prop} (c : CdIn H CC a dx r G) (nr : ¬ G rl) (s : Same2 a rl H H') (h : H' a = some (.ins CC dx (cdF r'))) : CdIn H' CC a dx r' G :=
  ⟨h, c.na, fun b g => by
    obtain ⟨o, ho⟩ := c.hG b g
    exact ⟨o, s _ _ (fun z => c.na (by rw [← z]; exact g)) (fun z => nr (by rw [← z]; exact g)) ho⟩⟩
theorem CdIn.nd2 {H H' : Hp} {CC a dx CN rl : Addr} {r : Nat} {G : Addr → Prop} {fn : Int} {v : V} {nd : Nd} (c : CdIn H CC a dx r G) (nr : ¬ G rl) (s : Same2 a rl H H') (h : NdIn H G CN fn v nd) : NdIn H' G CN fn v nd := h.keep (fun _ g => g) fun b o g q => s _ _ (fun z => c.na (by rw [← z]; exact g)) (fun z => nr (by rw [← z]; exact g)) q
theorem CdIn.nds2 {H H' : Hp} {CC a dx CN rl : Addr} {r : Nat} {G : Addr → Prop} {fn : Int} {v : List V} {nd : List Nd} (c : CdIn H CC a dx r G) (nr : ¬ G rl) (s : Same2 a rl H H') (h : NdIns H G CN fn v nd) : NdIns H' G CN fn v nd := h.keep (fun _ g => g) fun b o g q => s _ _ (fun z => c.na (by rw [← z]; exact g)) (fun z => nr (by rw [← z]; exact g)) q
theorem isLet (x : W) : decide (V.str x.str = V.str "let") = decide (x = .elet) := by cases x <;> decide +kernel
theorem cat_end {K : PySem.W.Frag} {H : Hp} {Q : VK} {t0 u : Addr} {xs ys : List V} {d0 be : List Da} (h0 : H t0 = some (.tup xs)) (hx : xs ≠ []) (h1 : SqT K H u ys) (hl : xs.length + ys.length ≤ 900) (dx : DIns H xs d0) (dy : DIns H ys be) (q : ∀ (H' : Hp) (v : V), Same H H' → DIn H' v (.seq false (d0 ++ be)) → Q v H') : rCatT K (.ref t0) (.ref u) H Q := by
  have big : 1000 ≤ sizeLine := by decide
  refine ⟨t0, u, xs, ys, rfl, rfl, SqT.of h0, h1, hx, by omega, fun z => ?_, fun z p1 hp1 => ?_⟩
  · subst z
    cases dy
    rw [List.append_nil] at q
    exact q _ _ (fun _ _ h => h) (.tup h0 (by omega) dx)
  · exact q _ _ (same_new hp1 _) (.tup upd_same (by rw [List.length_append]; omega) (DIns.app (dx.same (same_new hp1 _)) (dy.same (same_new hp1 _))))
abbrev sCoderAddRows : Stmt := inClass (top 65) 3
theorem scsCoderAddRows : FnScope ["self", "node", "names", "rows", "named", "parts", "behind", "into", "part"] ["self", "node", "names", "rows"] (defScope sCoderAddRows) := ⟨rfl, rfl, rfl, by decide +kernel, rfl, by decide +kernel, by decide +kernel⟩
section
variable {P : Program} {w : World} {K : PySem.W.Frag} {mg : Str → Option Value} {base : Heap} {f : Addr} {fd : FuncData}

theorem ok_add {k n : Nat} {CC CN : Addr} (F : FnM K "add_rows" "Coder.add_rows" sCoderAddRows f fd) (ND : NdC K CN) (M_add_rows : Okm P w K mg base CX0 k CC "add_rows" ["self", "node", "names", "rows"] (spAdd CC CN n)) (M_row_end : Okm P w K mg base CX0 k CC "row_end" ["self", "node", "names", "parts"] (spRowEnd CC CN n)) (M_new_one : Okm P w K mg base CX0 k CC "new_one" ["self"] (spNewOne CC)) (O_parts_ahead : Okf P w K mg base CX0 k "parts_ahead" ["node"] (spAhead CN)) : FnOk P w K mg base CX0 (k + 1) f fd ["self", "node", "names", "rows"] (spAdd CC CN (n + 1)) := by
  have sc := scsCoderAddRows
  refine F.ok sc (fun vs H Q E h => ?_) (fun cdv A outer s H vs Q E hr h => ?_)
  · obtain ⟨a, dx, nm, rl, G, v, fn, nd, ε, r, rs, t, r', us, rfl, _⟩ := h
    rfl
  have hu := hu_of hr
  obtain ⟨a, dx, nm, rl, G, v, fn, nd, ε, r, rs, t, r', us, rfl, c, hn, hm, hrl, nrl, lay, ok, hh, hz, hul, q⟩ := h
  obtain ⟨x, p, kk, ps, d⟩ := nd
  have hn' := hn
  cases hn' with
  | @mk va vdx vl _ _ _ _ _ vs g1 g2 h1 h2 h3 =>
  have nra : rl ≠ a := ne_of hrl c.ha (by intro z; cases z)
  have hsz : (Nd.node x p kk ps d).size = 1 + nsizes ps := rfl
  have hhg : (Nd.node x p kk ps d).hgt = 1 + nhgts ps := rfl
  refine ⟨_, (pss_cons (ps_if (pt_cmpR op_eq (pe_fldK K (pv 1) rfl) pe_str (nomark _)) (pss_one (ps_ret (pe_dget hu (pv 2) (pe_fldK K (pv 1) rfl) (fun _ _ => rfl)))) pss_nil)
    (pss_cons (ps_if (pt_cmpR op_eq (pe_fldK K (pv 1) rfl) pe_str (nomark _)) (pss_cons (ps_set (i := 4) sc.nd rfl (.inl rfl) (pe_m M_add_rows (pv 0) hr pass0 (pa_cons (pe_ix (ix_listK K) (pe_fldK K (pv 1) rfl) pe_int (fun _ _ => rfl)) (pa_cons (pv 2) (pa_cons (pv 3) pa_nil)))))
    (pss_one (ps_ret (pe_m M_add_rows (pv 0) hr pass0 (pa_cons (pe_ix (ix_listK K) (pe_fldK K (pv 1) rfl) pe_int (fun _ _ => rfl)) (pa_cons (pe_dstar (pv 2) (pe_fldK K (pv 1) rfl) (pv 4)) (pa_cons (pv 3) pa_nil))))))) pss_nil)
    (pss_cons (ps_setLc (i := 5) (own := [("part", 8)]) (by rfl) sc.nd rfl rfl (sw_true rfl rfl rfl (by decide +kernel)) (pi_listK K (pe_c O_parts_ahead hr rfl pass0 (pa_cons (pv 1) pa_nil))) (blkOk_by (own := [("part", 8)]) (N := ["self", "node", "names", "rows", "named", "parts", "behind", "into", "part"]) (sc := defScope sCoderAddRows) (by decide +kernel)) (fun _ _ _ _ _ => (pg_name (i := 8) sc.nd rfl (.inl rfl))) (fun _ _ _ _ _ => pts_nil) (fun _ _ _ _ _ => (pe_m M_add_rows (pv 0) hr pass0 (pa_cons (pv 8) (pa_cons (pv 2) (pa_cons (pv 3) pa_nil))))))
    (pss_cons (ps_set (i := 6) sc.nd rfl (.inl rfl) (pe_m M_row_end (pv 0) hr pass0 (pa_cons (pv 1) (pa_cons (pv 2) (pa_cons (pv 5) pa_nil)))))
    (pss_cons (ps_set (i := 7) sc.nd rfl (.inl rfl) (pe_m0 M_new_one (pv 0) hr pass0))
    (pss_cons (ps_expr (pe_bm PySem.F.plainAttrs_list PySem.F.slot_list_append PySem.F.type_list_append mt_append (pv 3) (pa_cons (pe_op (op_catTK K) (pe_tup (pa_cons (pe_fldK K (pv 1) rfl) (pa_cons (pe_fldK K (pv 1) rfl) (pa_cons (pv 7) pa_nil)))) (pv 6)) pa_nil)))
    (pss_one (ps_ret (pv 7))))))))), ?_⟩
  refine ⟨_, rfl, va, CN, vdx, _, _, rfl, h1, ND.cl, ND.word, ndF_word, rfl, _, rfl, ?_⟩
  rw [isName x]
  refine ite2 (fun z => ?_) (fun z => ?_)
  · have z' := of_decide_eq_true z
    subst z'
    rcases lay.split with ⟨_, rfl, l2, rfl⟩ | ⟨h, _⟩ | ⟨h, _⟩
    · obtain ⟨kl, j1, j2, j3, j4⟩ := hm.ex
      exact ⟨_, rfl, _, rfl, va, CN, vdx, _, _, rfl, h1, ND.cl, ND.number, ndF_number, nm, _, rfl, dget j1 (k := Sum.inl kk) (valV_kn j2 (j4 _ _ l2)), q _ [] (fun _ _ _ _ h => h) c.ha (by rw [List.append_nil]; exact hrl) .nil⟩
    · cases h
    · exact absurd rfl h
  have c1 : x ≠ .name := fun y => z (decide_eq_true y)
  refine ⟨_, rfl, va, CN, vdx, _, _, rfl, h1, ND.cl, ND.word, ndF_word, rfl, _, rfl, ?_⟩
  rw [isLet x]
  refine ite2 (fun z => ?_) (fun z => ?_)
  · have z' := of_decide_eq_true z
    subst z'
    rcases lay.split with ⟨h, _⟩ | ⟨_, na, nb, ra, ta, r1, rb, rfl, rfl, la, lb⟩ | ⟨_, h, _⟩
    · cases h
    · obtain ⟨k0, k1⟩ := ok.1.2 rfl
      obtain ⟨_, ok0, ok1, _⟩ := ok
      have hs2 : nsizes [na, nb] = na.size + (nb.size + 0) := rfl
      have hg2 : nhgts [na, nb] = max na.hgt (max nb.hgt 0) := rfl
      cases h3 with
      | @cons v0 _ _ _ n0 r0 =>
      cases r0 with
      | @cons v1 _ _ _ n1 r1' =>
      cases r1'
      have nG : ∀ b, G b → b ≠ a := fun b g z => c.na (by rw [← z]; exact g)
      have nR : ∀ b, G b → b ≠ rl := fun b g z => nrl (by rw [← z]; exact g)
      refine ⟨_, rfl, a, dx, _, rfl, c.ha, cdF_no (by decide +kernel), _, rfl, va, CN, vdx, _, _, rfl, h1, ND.cl, ND.parts, ndF_parts, vl, _, _, _, rfl, rfl, SqL.of h2, rfl, _, rfl, _, rfl, a, dx, nm, rl, G, v0, fn, na, ε, r, ra, ta, r1, us, rfl, c, n0, hm, hrl, nrl, la, ok0, by omega, by omega, by omega, fun H1 xs s1 e1 e2 d1 => ?_⟩
      have s1' : Same2 a rl H H1 := s1
      have c1' := c.keep2 nrl s1' e1
      have hm1 := s1'.nm c.ha hrl hm
      have hva := s1 _ _ (nG _ g1) (nR _ g1) h1
      refine ⟨_, rfl, a, dx, _, rfl, e1, cdF_no (by decide +kernel), _, rfl, va, CN, vdx, _, _, rfl, hva, ND.cl, ND.parts, ndF_parts, vl, _, _, _, rfl, rfl, SqL.of (s1 _ _ (nG _ g2) (nR _ g2) h2), rfl, fun p0 hp0 => ?_⟩
      obtain ⟨kl, j1, j2, j3, j4⟩ := hm1.ex
      have npm : nm ≠ p0 := ne_of_none j1 hp0
      have hf20 := few20 j2 j3
      refine ⟨_, rfl, nm, _, rfl, npm, by rw [upd_ne npm]; exact j1, upd_same, by rw [List.length_map]; omega, fun q0 hq0 => ?_⟩
      rw [upd_upd] at hq0 ⊢
      have npq : p0 ≠ q0 := fun z => by rw [z, upd_same] at hq0; cases hq0
      have hq1 : H1 q0 = none := by rw [upd_ne npq.symm] at hq0; exact hq0
      have npv : va ≠ p0 := ne_of_none hva hp0
      have nqv : va ≠ q0 := ne_of_none hva hq1
      obtain ⟨kl', m1, m2, m3, m4⟩ := put_nm (d := ta) j2 j3 j4 k0 k1
      refine ⟨_, rfl, va, CN, vdx, _, _, rfl, by rw [upd_ne nqv, upd_ne npv]; exact hva, ND.cl, ND.number, ndF_number, _, rfl, by rw [upd_ne npq, upd_same], upd_same, npq, Sum.inl kk, rfl, ?_⟩
      rw [show putK (kl.map kvOf) (Sum.inl kk) (dV ta) = kl'.map kvOf from m1]
      generalize eH2 : upd (upd (upd (upd H1 p0 (.dK (kl.map kvOf))) q0 (.dK [])) q0 (.dK [(Sum.inl kk, dV ta)])) p0 (.dK (kl'.map kvOf)) = H2
      have s2 : Same H1 H2 := fun b o hb => by
        have n1 := ne_of_none hb hp0
        have n2 := ne_of_none hb hq1
        rw [← eH2, upd_ne n1, upd_ne n2, upd_ne n2, upd_ne n1]
        exact hb
      have eq2 : H2 p0 = some (.dK (kl'.map kvOf)) := by rw [← eH2, upd_same]
      have hxl := d1.len
      rw [rowsDa_len] at hxl
      have hup := la.up.2
      refine ⟨_, rfl, a, dx, p0, rl, G, v1, fn, nb, ups ε kk ta, r1, rb, t, r', us ++ xs, rfl, c1'.same s2, (c.nd2 nrl s1' n1).same s2, ⟨kl', eq2, m2, m3, m4⟩, s2 _ _ e2, nrl, lb, ok1, by omega, by omega, by rw [List.length_append]; omega, fun H3 ys s3 e3 e4 d3 => ?_⟩
      have s3' : Same2 a rl H2 H3 := s3
      have ik3 : IK H1 H3 := (IK.of s2).trans (s3'.ik (s2 _ _ e1) (s2 _ _ e2))
      refine q _ (xs ++ ys) ((s1'.trans (Same.toX s2).two).trans s3') e3 (by rw [e4, List.append_assoc]) ?_
      rw [rowsDa_append]
      exact DIns.app (d1.ik ik3 (rows_tp _)) d3
    · exact absurd rfl h
  have c2 : x ≠ .elet := fun y => z (decide_eq_true y)
  rcases lay.split with ⟨h, _⟩ | ⟨h, _⟩ | ⟨_, _, rs0, ts, r1, be, row, ls, re, rfl, hda, rfl⟩
  · exact absurd h c1
  · exact absurd h c2
  obtain ⟨rg, rw_, q1, q2, q3, q4, q5⟩ := ls.seq
  obtain ⟨ak, az, ah, al⟩ := ahead_le x ps ok.2
  have hnl := nsizes_len ps
  have htl := ls.up.2.2
  have nG : ∀ b, G b → b ≠ a := fun b g z => c.na (by rw [← z]; exact g)
  have nR : ∀ b, G b → b ≠ rl := fun b g z => nrl (by rw [← z]; exact g)
  refine ⟨_, rfl, G, .ref va, fn, x, p, kk, ps, d, rfl, hn, fun H1 l xs s1 hl gl hn1 => ⟨l, rfl, ⟨_, SqL.of hl⟩, fun D hD => ?_⟩⟩
  have c1' := c.same s1
  have nla : l ≠ a := ne_of hl c1'.ha (by intro z; cases z)
  have nlr : l ≠ rl := by
    rcases gl with g | g
    · exact nR _ g
    · exact fun z => by rw [z, hrl] at g; cases g
  have hrl1 := s1 _ _ hrl
  have naD : a ≠ D := ne_of_none c1'.ha hD
  have nDr : rl ≠ D := ne_of_none hrl1 hD
  have nDl : l ≠ D := ne_of_none hl hD
  have hxl := hn1.len
  have hm1 := hm.same s1
  have sD := same_new hD (.lst [])
  refine lc_list (K := K) (a := l) (xs := xs) (fun i H' => ∃ ys, H' D = some (.lst ((ts.take i).map dV)) ∧ (∀ b o, b ≠ a → b ≠ rl → H1 b = some o → H' b = some o) ∧ H' a = some (.ins CC dx (cdF (rg i))) ∧ H' rl = some (.lst (us ++ ys)) ∧ DIns H' ys (rowsDa (rw_ i))) ⟨[], upd_same, fun b o _ _ hb => sD _ _ hb, by rw [upd_ne naD, q1]; exact c1'.ha, by rw [upd_ne nDr, List.append_nil]; exact hrl1, by rw [q2]; exact .nil⟩ ?_ ?_ ?_
  · rintro i H' _ ⟨ys, _, k1, _⟩
    exact SqL.of (k1 _ _ nla nlr hl)
  · rintro i v H' hi ⟨ys, e1, k1, e2, e3, d1⟩
    obtain ⟨ni, hni, hnin⟩ := hn1.get i hi
    obtain ⟨ra, ti, w1, w2, w3, w4⟩ := q5 i ni hni
    obtain ⟨oki, szi, hgi⟩ := noks_get ak hni
    have k1' : Same2 a rl H1 H' := k1
    have hyl := d1.len
    rw [rowsDa_len] at hyl
    refine ⟨rfl, ?_⟩
    refine ⟨_, rfl, a, dx, _, rfl, e2, cdF_no (by decide +kernel), _, rfl, _, rfl, _, rfl, a, dx, nm, rl, G, v, fn, ni, ε, rg i, ra, ti, rg (i + 1), us ++ ys, rfl, c1'.keep2 nrl k1' e2, c1'.nd2 nrl k1' hnin, k1'.nm c1'.ha hrl1 hm1, e3, nrl, w2, oki, by omega, by omega, by rw [List.length_append]; omega, fun H2 zs s2 e4 e5 d2 => ?_⟩
    have s2' : Same2 a rl H' H2 := s2
    have eD : H2 D = some (.lst ((ts.take i).map dV)) := s2 _ _ naD.symm nDr.symm e1
    have ik2 := (s2'.ik e2 e3).trans (IK.lst (ys := (ts.take i).map dV ++ [dV ti]) eD)
    refine ⟨_, eD, ?_, ys ++ zs, ?_, ?_, ?_, ?_, ?_⟩
    · rw [List.length_map, List.length_take]
      have hi' : i < xs.length := (List.getElem?_eq_some_iff.mp hi).1
      exact small1000 (by omega)
    · rw [upd_same, List.take_add_one, w1, List.map_append]
      rfl
    · intro b o n1 n2 hb
      rw [upd_ne (ne_of_none hb hD)]
      exact s2 _ _ n1 n2 (k1 _ _ n1 n2 hb)
    · rw [upd_ne naD, e4]
    · rw [upd_ne nDr, e5, List.append_assoc]
    · rw [w3, rowsDa_append]
      exact DIns.app (d1.ik ik2 (rows_tp _)) (d2.ik (IK.lst eD) (rows_tp _))
  rintro H2 ⟨ys, e1, k1, e2, e3, d1⟩
  have k1' : Same2 a rl H1 H2 := k1
  have hlt : ts.length ≤ xs.length := by omega
  rw [List.take_of_length_le hlt] at e1
  rw [hxl, q3] at e2
  rw [hxl, q4] at d1
  have c2' := c1'.keep2 nrl k1' e2
  have hn2 := c1'.nd2 nrl k1' (hn.same s1)
  have hm2 := k1'.nm c1'.ha hrl1 hm1
  have hyl := d1.len
  rw [rowsDa_len] at hyl
  have hup := ls.up.2.1
  refine ⟨_, rfl, a, dx, _, rfl, e2, cdF_no (by decide +kernel), _, rfl, _, rfl, _, rfl, a, dx, nm, D, G, .ref va, fn, _, ε, r1, ts, be, t, x, p, kk, ps, d, rfl, c2', rfl, ok.1.2, hn2, hm2, e1, by omega, re, ok, by omega, hz, fun H3 u zs s3 e4 e5 lz d3 => ?_⟩
  refine ⟨_, rfl, a, dx, _, rfl, e4, cdF_no (by decide +kernel), a, dx, t, rfl, e4, ?_⟩
  have s4 : SameX a H3 (upd H3 a (.ins CC dx (cdF (t + 1)))) := .upd
  have e6 : upd H3 a (.ins CC dx (cdF (t + 1))) a = some (.ins CC dx (cdF (t + 1))) := upd_same
  have ik4 := s4.ikI e4
  generalize upd H3 a (.ins CC dx (cdF (t + 1))) = H4 at s4 e6 ik4 ⊢
  have s24 := s3.trans s4
  have ik24 := s24.ikI e2
  have hrl4 : H4 rl = some (.lst (us ++ ys)) := s24 _ _ nra e3
  have hva4 := s24 _ _ (nG _ g1) (k1 _ _ (nG _ g1) (nR _ g1) (s1 _ _ h1))
  refine ⟨_, rfl, .inl ⟨rfl, _, SqL.of hrl4⟩, _, rfl, va, CN, vdx, _, _, rfl, hva4, ND.cl, ND.word, ndF_word, _, rfl, va, CN, vdx, _, _, rfl, hva4, ND.cl, ND.place, ndF_place, _, rfl, by show 3 ≤ sizeLine; decide, fun t0 ht0 => ?_⟩
  have s5 := same_new ht0 (.tup [.str x.str, .int (p : Int), dV t])
  refine ⟨_, rfl, cat_end (d0 := [.str x.str, nDa p, nDa t]) (be := be) upd_same (by simp) (SqT.of (s5 _ _ (s4 _ _ ?_ e5))) (by simp only [List.length_cons, List.length_nil]; omega) (.cons .str (.cons .int (.cons .int .nil))) ((d3.ik ik4 ?_).same s5) fun H5 rv s6 dr => ?_⟩
  · exact fun z => by rw [z, e4] at e5; cases e5
  · have := Row.tp row
    rw [hda] at this
    exact this.2.2.2.2
  have s56 := s5.trans s6
  have hrl5 := s56 _ _ hrl4
  refine ⟨rl, us ++ ys, rv, rfl, rfl, hrl5, small1000 (by rw [List.length_append]; omega), ?_⟩
  refine ⟨_, rfl, q _ (ys ++ [rv]) ?_ ?_ ?_ ?_⟩
  · intro b o n1 n2 hb
    rw [upd_ne n2]
    exact s56 _ _ (s24 _ _ n1 (k1 _ _ n1 n2 (s1 _ _ hb)))
  · rw [upd_ne nra.symm]
    exact s56 _ _ e6
  · rw [upd_same, List.append_assoc]
  · rw [rowsDa_append]
    refine DIns.app (d1.ik ((ik24.trans (IK.of s56)).trans (IK.lst hrl5)) (rows_tp _)) (.cons ?_ .nil)
    have dr' : DIn H5 rv row.da := by rw [hda]; exact dr
    exact dr'.ik (IK.lst hrl5) (Row.tp _)
end
end NR
set_option maxHeartbeats 4000000
namespace NR
open PySem PySem.Spec PyProof.Rows L2

/-- the params' registers -/
def ix (ps : List (Int × Nat)) : List (Int × Nat) := (ps.map (·.1)).zipIdx
theorem ix_fst (ps : List (Int × Nat)) : (ix ps).map (·.1) = ps.map (·.1) := by
  unfold ix
  exact List.zipIdx_map_fst ..
theorem ix_len (ps : List (Int × Nat)) : (ix ps).length = ps.length := by
  unfold ix
  rw [List.length_zipIdx, List.length_map]
theorem ix_get {ps : List (Int × Nat)} {i : Nat} {x : Int} {d : Nat} (h : ps[i]? = some (x, d)) : (ix ps)[i]? = some (x, i) := by
  unfold ix
  rw [List.getElem?_zipIdx, List.getElem?_map, h]
  simp
theorem put_new {acc : List (Int × Nat)} {x : Int} {d : Nat} (hn : ∀ p ∈ acc, p.1 ≠ x) : putK (acc.map kvOf) (Sum.inl x) (dV d) = (acc ++ [(x, d)]).map kvOf := by
  unfold putK
  rw [if_neg, List.map_append]
  · rfl
  · intro h
    obtain ⟨kv, h1, h2⟩ := List.any_eq_true.mp h
    obtain ⟨p, hp, rfl⟩ := List.mem_map.mp h1
    have h3 : (Sum.inl p.1 : Key) = Sum.inl x := of_decide_eq_true h2
    injection h3 with h3
    exact hn p hp h3
theorem take_ne {l : List (Int × Nat)} {i : Nat} {x : Int} {d : Nat} (nd : (l.map (·.1)).Nodup) (h : l[i]? = some (x, d)) : ∀ p ∈ l.take i, p.1 ≠ x := fun p hp e => by
  obtain ⟨j, hj, rfl⟩ := List.mem_iff_getElem.mp hp
  rw [List.length_take] at hj
  have hj1 : j < i := by omega
  have hi : i < l.length := (List.getElem?_eq_some_iff.mp h).1
  have hx : l[i] = (x, d) := (List.getElem?_eq_some_iff.mp h).2
  rw [List.getElem_take] at e
  have := List.pairwise_iff_getElem.mp nd j i (by rw [List.length_map]; omega) (by rw [List.length_map]; omega) hj1
  rw [List.getElem_map, List.getElem_map, hx] at this
  exact this e
mutual
theorem NdIn.live {H : Hp} {G : Addr → Prop} {C : Addr} {fn : Int} : ∀ {v : V} {e : Nd}, NdIn H G C fn v e → NdIn H (fun b => ∃ o, H b = some o) C fn v e
  | _, _, .mk _ _ h1 h2 r => .mk ⟨_, h1⟩ ⟨_, h2⟩ h1 h2 (NdIns.live r)
theorem NdIns.live {H : Hp} {G : Addr → Prop} {C : Addr} {fn : Int} : ∀ {vs : List V} {es : List Nd}, NdIns H G C fn vs es → NdIns H (fun b => ∃ o, H b = some o) C fn vs es
  | _, _, .nil => .nil
  | _, _, .cons h r => .cons (NdIn.live h) (NdIns.live r)
end
def cdDa (c : List Row × Nat) : Da := .seq false [.seq false (rowsDa c.1), nDa c.2]
def spCode (CF CN : Addr) : Sp := fun vs H Q _ => ∃ (v : V) (fn : Int) (ps : List (Int × Nat)) (dd : Nat) (nd : Nd) (rs : List Row) (t r' : Nat), vs = [v] ∧ FmIn H NT CF CN fn v ps nd ∧ FaceOk ps dd ∧ Lay nd (envOf (ix ps)) ps.length rs t r' ∧ nd.ok ∧ nd.hgt ≤ 13 ∧ nd.size ≤ 60 ∧ ∀ (H' : Hp) (u : V), Same H H' → DIn H' u (cdDa (rs, t)) → Q u H'
abbrev sCodeOf : Stmt := top 66
theorem scsCodeOf : FnScope ["form", "names", "coder", "at", "name"] ["form"] (defScope sCodeOf) := ⟨rfl, rfl, rfl, by decide +kernel, rfl, by decide +kernel, by decide +kernel⟩
section
variable {P : Program} {w : World} {K : PySem.W.Frag} {mg : Str → Option Value} {base : Heap} {f : Addr} {fd : FuncData}

theorem ok_code {k : Nat} {CC CF CN : Addr} (F : FnP K "code_of" sCodeOf f fd) (NF : FmC K CF) (C_Coder : Okc P w K mg base CX0 k "Coder" CC ["self", "registers"] (spCoder CC)) (M_block_of : Okm P w K mg base CX0 (k + 1) CC "block_of" ["self", "node", "names"] (spBlock CC CN 13)) (z_len : mg "len" = none) (z_enumerate : mg "enumerate" = none) : FnOk P w K mg base CX0 (k + 2) f fd ["form"] (spCode CF CN) := by
  have sc := scsCodeOf
  refine F.ok sc (fun vs H Q E h => ?_) (fun cdv A outer s H vs Q E hr h => ?_)
  · obtain ⟨v, fn, ps, dd, nd, rs, t, r', rfl, _⟩ := h
    rfl
  obtain ⟨v, fn, ps, dd, nd, rs, t, r', rfl, fm, fo, lay, ok, hh, hz, q⟩ := h
  obtain ⟨a, dx, nl, dl, b, rfl, _, _, _, h1, h2, h3, h4⟩ := fm.ex
  have fw := fo.few
  refine ⟨_, (pss_cons (ps_setDc (i := 1) (own := [("at", 3), ("name", 4)]) (by rfl) sc.nd rfl rfl (swD_true rfl rfl rfl (by decide +kernel)) (pi_enumK K rfl z_enumerate (pa_cons (pe_fldK K (pv 0) rfl) pa_nil)) (blkOk_by (own := [("at", 3), ("name", 4)]) (N := ["form", "names", "coder", "at", "name"]) (sc := defScope sCodeOf) (by decide +kernel)) (fun _ _ _ _ _ => (pg_tupK K (n := 2) rfl (pgs_cons (pg_name (i := 3) sc.nd rfl (.inl rfl)) (pgs_cons (pg_name (i := 4) sc.nd rfl (.inl rfl)) pgs_nil)))) (fun _ _ _ _ _ => pts_nil) (fun _ _ _ _ _ => (pv 4)) (fun _ _ _ _ _ => (pv 3)))
    (pss_cons (ps_set (i := 2) sc.nd rfl (.inl rfl) (pe_mk C_Coder hr rfl pass0 (pa_cons (pe_callB (call_lenK K) rfl z_len PySem.boot_len (pa_cons (pe_fldK K (pv 0) rfl) pa_nil)) pa_nil)))
    (pss_one (ps_ret (pe_m M_block_of (pv 2) hr pass0 (pa_cons (pe_fldK K (pv 0) rfl) (pa_cons (pv 1) pa_nil))))))), ?_⟩
  refine ⟨_, rfl, a, CF, dx, _, _, rfl, h1, NF.cl, NF.names, fmF_names, nl, _, rfl, SqL.of h2, fun D hD => ?_⟩
  have nD : nl ≠ D := ne_of_none h2 hD
  refine dc_it (walk_enum (K := K) (a := nl) (xs := ps.map fun p => .int p.1)) (fun i H' => Same H H' ∧ H' D = some (.dK (((ix ps).take i).map kvOf))) ⟨same_new hD _, upd_same⟩ ?_ ?_ ?_
  · rintro i H' _ ⟨s1, _⟩
    exact SqL.of (s1 _ _ h2)
  · rintro i x H1 H2 hi ⟨s1, e1⟩ ⟨T, y, z, rfl, hT, rfl, c1, c2⟩
    cases c1
    have c2 : (ps.map fun p => V.int p.1)[i]? = some z := c2
    rw [List.getElem?_map] at c2
    obtain ⟨⟨px, pd⟩, hp, rfl⟩ := Option.map_eq_some_iff.mp c2
    have sT := same_new hT (.tup [.int (i : Nat), .int px])
    have hix := ix_get hp
    refine ⟨T, _, rfl, SqT.of upd_same, rfl, _, _, rfl, _, _, rfl, rfl, rfl, ?_⟩
    refine ⟨_, rfl, _, rfl, _, Sum.inl px, rfl, sT _ _ e1, ?_, ?_, ?_⟩
    · rw [List.length_map, List.length_take, ix_len]
      exact small1000 (by omega)
    · intro b o hb
      rw [upd_ne (ne_of_none hb hD)]
      exact sT _ _ (s1 _ _ hb)
    · rw [upd_same, List.take_add_one, hix]
      exact congrArg (fun z => some (HO.dK z)) (put_new (d := i) (take_ne (by rw [ix_fst]; exact fo.nd) hix))
  rintro H1 ⟨s1, e1⟩
  rw [List.length_map, ← ix_len ps, List.take_length] at e1
  refine ⟨_, rfl, a, CF, dx, _, _, rfl, s1 _ _ h1, NF.cl, NF.names, fmF_names, nl, _, rfl, .inl (SqL.of (s1 _ _ h2)), fun co cdx nco ncdx nne => ?_⟩
  rw [List.length_map]
  refine ⟨co, cdx, ps.length, rfl, upd_same, rfl, ?_⟩
  rw [upd_upd]
  generalize eH2 : upd (upd H1 cdx (.own co)) co (.ins CC cdx (cdF ps.length)) = H2
  have s2 : Same H1 H2 := fun b' o' hb => by
    rw [← eH2, upd_ne (ne_of_none hb nco), upd_ne (ne_of_none hb ncdx)]
    exact hb
  have g2 : H2 co = some (.ins CC cdx (cdF ps.length)) := by rw [← eH2, upd_same]
  have s12 := s1.trans s2
  have nG : ¬ (fun b => ∃ o, H1 b = some o) co := fun ⟨o, ho⟩ => by rw [ho] at nco; cases nco
  have hnG : ∀ {v : V} {e : Nd}, NdIn H NT CN fn v e → NdIn H (fun b => ∃ o, H b = some o) CN fn v e := fun h => NdIn.live h
  refine ⟨_, rfl, co, cdx, _, rfl, g2, cdF_no (by decide +kernel), _, rfl, a, CF, dx, _, _, rfl, s12 _ _ h1, NF.cl, NF.body, fmF_body, _, rfl, co, cdx, D, (fun b => ∃ o, H b = some o), b, fn, nd, envOf (ix ps), ps.length, rs, t, r', rfl, ⟨g2, fun ⟨o, ho⟩ => nG ⟨o, s1 _ _ ho⟩, fun b' ⟨o, ho⟩ => ⟨o, s12 _ _ ho⟩⟩, (hnG h4).same s12, ⟨ix ps, s2 _ _ e1, by rw [ix_fst]; exact fo.nd, fun p hp => ?_, fun x d h => envOf_some h⟩, lay, ok, hh, hz, fun H3 u s3 e3 d3 => ?_⟩
  · have : p.1 ∈ ps.map (·.1) := by rw [← ix_fst]; exact List.mem_map.mpr ⟨p, hp, rfl⟩
    obtain ⟨q', hq', eq⟩ := List.mem_map.mp this
    have := fo.lo q' hq'
    rw [← eq]
    exact ⟨this.1, this.2.1⟩
  · exact q _ _ (fun b' o' hb => s3 _ _ (ne_of_none (s1 _ _ hb) nco) (s12 _ _ hb)) d3
end

/-- the flat code of all functions -/
structure Cds (prog : List Fn) (fm : List (List (Int × Nat) × Nd)) (cds : List (List Row × Nat)) : Prop where
  len : cds.length = prog.length
  at_ : ∀ (i : Nat) (f : Fn) (nd : Nd), prog[i]? = some f → fm[i]? = some (f.ps, nd) → ∃ rs t r', cds[i]? = some (rs, t) ∧ Lay nd (envOf (ix f.ps)) f.ps.length rs t r'
def spFlat (K : PySem.W.Frag) : Sp := fun vs H Q _ => ∃ (a : Addr) (us : List V) (prog : List Fn) (fm : List (List (Int × Nat) × Nd)) (cds : List (List Row × Nat)), vs = [.ref a] ∧ H a = some (.tup us) ∧ PgIns H us prog ∧ Good prog ∧ 1 ≤ prog.length ∧ Nds prog fm ∧ Cds prog fm cds ∧ ∀ (H' : Hp) (l : Addr) (xs : List V), Same H H' → H l = none → H' l = some (.lst xs) → DIns H' xs (cds.map cdDa) → Q (.ref l) H'
theorem cd_tp (c : List Row × Nat) : (cdDa c).tp := ⟨rfl, ⟨rfl, rows_tp _⟩, trivial, trivial⟩
theorem cds_tp : ∀ (l : List (List Row × Nat)), tps (l.map cdDa)
  | [] => trivial
  | c :: l => ⟨cd_tp c, cds_tp l⟩
abbrev sFlat : Stmt := top 67
theorem scsFlat : FnScope ["program", "form"] ["program"] (defScope sFlat) := ⟨rfl, rfl, rfl, by decide +kernel, rfl, by decide +kernel, by decide +kernel⟩
section
variable {P : Program} {w : World} {K : PySem.W.Frag} {mg : Str → Option Value} {base : Heap} {f : Addr} {fd : FuncData}

theorem ok_flat {k : Nat} {CF CN : Addr} (F : FnP K "flat" sFlat f fd) (O_forms_of : Okf P w K mg base CX0 k "forms_of" ["program"] (spForms K CF CN)) (O_code_of : Okf P w K mg base CX0 k "code_of" ["form"] (spCode CF CN)) : FnOk P w K mg base CX0 (k + 1) f fd ["program"] (spFlat K) := by
  have sc := scsFlat
  refine F.ok sc (fun vs H Q E h => ?_) (fun cdv A outer s H vs Q E hr h => ?_)
  · obtain ⟨a, us, prog, fm, cds, rfl, _⟩ := h
    rfl
  obtain ⟨a, us, prog, fm, cds, rfl, ha, hp, good, h1, nds, cc, q⟩ := h
  have few := good.few
  refine ⟨_, (pss_one (ps_ret (pe_lc (own := [("form", 1)]) (by rfl) sc.nd (pi_listK K (pe_c O_forms_of hr rfl pass0 (pa_cons (pv 0) pa_nil))) (blkOk_by (own := [("form", 1)]) (N := ["program", "form"]) (sc := defScope sFlat) (by decide +kernel)) (fun _ _ _ _ _ => (pg_name (i := 1) sc.nd rfl (.inl rfl))) (fun _ _ _ _ _ => pts_nil) (fun _ _ _ _ _ => (pe_c O_code_of hr rfl pass0 (pa_cons (pv 1) pa_nil)))))), ?_⟩
  refine ⟨_, rfl, a, us, prog, fm, rfl, ha, hp, good, h1, nds, fun H1 l xs s1 hl fi => ⟨l, rfl, ⟨_, SqL.of hl⟩, fun D hD => ?_⟩⟩
  have hxl := fi.len
  have hfl := nds.len
  have sD := same_new hD (.lst [])
  have nlD : l ≠ D := ne_of_none hl hD
  refine lc_list (K := K) (a := l) (xs := xs) (fun i H' => ∃ acc, Same H1 H' ∧ H' D = some (.lst acc) ∧ DIns H' acc ((cds.take i).map cdDa)) ⟨[], sD, upd_same, .nil⟩ ?_ ?_ ?_
  · rintro i H' _ ⟨acc, s2, _, _⟩
    exact SqL.of (s2 _ _ hl)
  · rintro i v H2 hi ⟨acc, s2, e1, d1⟩
    obtain ⟨fe, hfe, hfm⟩ := fi.get i hi
    have hi' : i < prog.length := by
      have := (List.getElem?_eq_some_iff.mp hi).1
      omega
    have hpi := List.getElem?_eq_getElem hi'
    obtain ⟨nd, m1, m2, m3⟩ := nds.at_ i _ hpi
    have em : fe = (prog[i].ps, nd) := Option.some.inj (hfe.symm.trans m1)
    subst em
    obtain ⟨rs, t, r', k1, k2⟩ := cc.at_ i _ nd hpi m1
    obtain ⟨fo, ty, hs, hz, hh⟩ := good.fn i _ hpi
    have sz := m2.sz
    have hal := d1.len
    rw [List.length_map, List.length_take] at hal
    refine ⟨rfl, ?_⟩
    refine ⟨_, rfl, v, _, prog[i].ps, prog[i].d, nd, rs, t, r', rfl, (hfm.keep (fun _ h => h) fun b o _ hb => s2 _ _ hb), fo, k2, m2.nok, by omega, by omega, fun H3 u s3 du => ?_⟩
    have eD := s3 _ _ e1
    refine ⟨acc, eD, small1000 (by omega), acc ++ [u], fun b o hb => ?_, upd_same, ?_⟩
    · rw [upd_ne (ne_of_none hb hD)]
      exact s3 _ _ (s2 _ _ hb)
    · rw [List.take_add_one, k1, List.map_append]
      have ik := IK.lst (ys := acc ++ [u]) eD
      exact DIns.app ((d1.same s3).ik ik (cds_tp _)) (.cons (du.ik ik (cd_tp _)) .nil)
  · rintro H2 ⟨acc, s2, e1, d1⟩
    rw [List.take_of_length_le (by rw [cc.len]; omega)] at d1
    exact q _ _ _ (s1.trans s2) (Same.new s1 hD) e1 d1
end
end NR
set_option maxHeartbeats 4000000
namespace NR
open PySem PySem.Spec PyProof.Rows L2

def spRead : Sp := fun vs H Q _ => ∃ (prog : List Fn), vs = [.str (progText prog)] ∧ Good prog ∧ 1 ≤ prog.length ∧ ∀ (H' : Hp) (t : Addr) (us : List V), Same H H' → H' t = some (.tup us) → PgIns H' us prog → Q (.ref t) H'
/-- readers in the heap, from the i-th function on -/
structure Rdrs (H0 H : Hp) (C D : Addr) (as : List Addr) (prog : List Fn) (i : Nat) : Prop where
  at_ : ∀ (j : Nat) (a : Addr) (f : Fn), i ≤ j → as[j]? = some a → prog[j]? = some f → ∃ (dx wl : Addr) (row : Int), RdIn H C a dx wl row 0 f.words ∧ wl ≠ D
  nd : as.Nodup
  new : ∀ a ∈ as, H0 a = none
abbrev sRead : Stmt := top 57
theorem scsRead : FnScope ["text", "lines", "readers", "program", "at", "line", "reader"] ["text"] (defScope sRead) := ⟨rfl, rfl, rfl, by decide +kernel, rfl, by decide +kernel, by decide +kernel⟩
section
variable {P : Program} {w : World} {K : PySem.W.Frag} {mg : Str → Option Value} {base : Heap} {f : Addr} {fd : FuncData}

theorem ok_read {k : Nat} {C : Addr} (F : FnP K "read" sRead f fd) (C_RowReader : Okc P w K mg base CX0 k "RowReader" C ["self", "row", "text"] (spRd C)) (M_function_told : Okm P w K mg base CX0 (k + 1) C "function_told" ["self"] (spFT C)) (O_faces : Okf P w K mg base CX0 (k + 1) "faces" ["program"] spFcs) (z_enumerate : mg "enumerate" = none) (z_tuple : mg "tuple" = none) : FnOk P w K mg base CX0 (k + 2) f fd ["text"] spRead := by
  have sc := scsRead
  refine F.ok sc (fun vs H Q E h => ?_) (fun cdv A outer s H vs Q E hr h => ?_)
  · obtain ⟨prog, rfl, _⟩ := h
    rfl
  obtain ⟨prog, rfl, good, h1, q⟩ := h
  have ft := good.fnT
  have few := good.few
  have hne : prog ≠ [] := fun z => by rw [z] at h1; simp at h1
  have hpl := prog_len ft few
  have big : 100000 ≤ sizeLine := by decide
  refine ⟨_, (pss_cons (ps_set (i := 1) sc.nd rfl (.inl rfl) (pe_split (pv 0) pe_str))
    (pss_cons (ps_setLc (i := 2) (own := [("at", 4), ("line", 5)]) (by rfl) sc.nd rfl rfl (sw_true rfl rfl rfl (by decide +kernel)) (pi_enumK K rfl z_enumerate (pa_cons (pv 1) pa_nil)) (blkOk_by (own := [("at", 4), ("line", 5)]) (N := ["text", "lines", "readers", "program", "at", "line", "reader"]) (sc := defScope sRead) (by decide +kernel)) (fun _ _ _ _ _ => (pg_tupK K (n := 2) rfl (pgs_cons (pg_name (i := 4) sc.nd rfl (.inl rfl)) (pgs_cons (pg_name (i := 5) sc.nd rfl (.inl rfl)) pgs_nil)))) (fun _ _ _ _ _ => pts_nil) (fun _ _ _ _ _ => (pe_mk C_RowReader hr rfl pass0 (pa_cons (pv 4) (pa_cons (pv 5) pa_nil)))))
    (pss_cons (ps_set (i := 3) sc.nd rfl (.inl rfl) (pe_callTy (call_tupleK K) rfl z_tuple (by decide +kernel) (pa_cons (pe_lc (own := [("reader", 6)]) (by rfl) sc.nd (pi_listK K (pv 2)) (blkOk_by (own := [("reader", 6)]) (N := ["text", "lines", "readers", "program", "at", "line", "reader"]) (sc := defScope sRead) (by decide +kernel)) (fun _ _ _ _ _ => (pg_name (i := 6) sc.nd rfl (.inl rfl))) (fun _ _ _ _ _ => pts_nil) (fun _ _ _ _ _ => (pe_m0 M_function_told (pv 6) hr pass0))) pa_nil)))
    (pss_cons (ps_expr (pe_c O_faces hr rfl pass0 (pa_cons (pv 3) pa_nil)))
    (pss_one (ps_ret (pv 3))))))), ?_⟩
  refine ⟨_, rfl, ⟨_, rfl⟩, _, _, rfl, rfl, by decide +kernel, by omega, fun ll hll => ?_⟩
  rw [prog_split ft hne]
  have s1 := same_new hll (.lst ((prog.map Fn.row).map V.str))
  have e1 : upd H ll (.lst ((prog.map Fn.row).map V.str)) ll = some (.lst ((prog.map Fn.row).map V.str)) := upd_same
  generalize upd H ll (.lst ((prog.map Fn.row).map V.str)) = H1 at s1 e1 ⊢
  refine ⟨_, rfl, ll, _, rfl, SqL.of e1, fun D hD => ?_⟩
  have sD := same_new hD (.lst [])
  refine lc_it (walk_enum (K := K) (a := ll) (xs := (prog.map Fn.row).map V.str)) (fun i H' => ∃ as : List Addr, Same H1 H' ∧ H' D = some (.lst (as.map V.ref)) ∧ as.length = i ∧ i ≤ prog.length ∧ Rdrs H1 H' C D as prog 0) ⟨[], sD, upd_same, rfl, Nat.zero_le _, ⟨fun j a f _ h => by simp at h, List.nodup_nil, fun a h => by cases h⟩⟩ ?_ ?_ ?_
  · rintro i H' _ ⟨as, s2, _⟩
    exact SqL.of (s2 _ _ e1)
  · rintro i x H2 H3 hi ⟨as, s2, eD, hal, hai, rd⟩ ⟨T, y, z, rfl, hT, rfl, c1, c2⟩
    cases c1
    have c2 : ((prog.map Fn.row).map V.str)[i]? = some z := c2
    rw [List.getElem?_map, List.getElem?_map] at c2
    obtain ⟨s0, hs0, rfl⟩ := Option.map_eq_some_iff.mp c2
    obtain ⟨f0, hf0, rfl⟩ := Option.map_eq_some_iff.mp hs0
    have hip : i < prog.length := (List.getElem?_eq_some_iff.mp hf0).1
    have ft0 := ft f0 (List.mem_of_getElem? hf0)
    have sT := same_new hT (.tup [.int (i : Nat), .str f0.row])
    refine ⟨T, _, rfl, SqT.of upd_same, rfl, _, _, rfl, _, _, rfl, rfl, rfl, ?_⟩
    refine ⟨_, rfl, _, rfl, fun co cdx nco ncdx nne => ?_⟩
    have eDT := sT _ _ eD
    have nDco : D ≠ co := ne_of_none eDT nco
    have nDcx : D ≠ cdx := ne_of_none eDT ncdx
    refine ⟨co, cdx, (i : Int), f0, rfl, upd_same, ft0, fun wl H4 hwl r4 => ?_⟩
    have s4 : Same (upd H2 T (.tup [.int (i : Nat), .str f0.row])) H4 := fun b o hb => by
      refine r4.s _ _ (ne_of_none hb nco) ?_
      rw [upd_ne (ne_of_none hb nco), upd_ne (ne_of_none hb ncdx)]
      exact hb
    have s24 := sT.trans s4
    have eD4 := s4 _ _ eDT
    have nwD : wl ≠ D := fun z => by
      rw [z, upd_ne nDco, upd_ne nDcx] at hwl
      rw [eDT] at hwl
      cases hwl
    have hco1 : H1 co = none := (s2.trans sT).free nco
    refine ⟨rfl, _, eD4, ?_, as ++ [co], fun b o hb => ?_, ?_, by rw [List.length_append, hal]; rfl, hip, ⟨fun j a' f' _ ha' hf' => ?_, ?_, ?_⟩⟩
    · rw [List.length_map, hal]
      exact small1000 (by omega)
    · rw [upd_ne (ne_of_none hb hD)]
      exact s24 _ _ (s2 _ _ hb)
    · rw [upd_same, List.map_append]
      rfl
    · by_cases c : j < as.length
      · rw [List.getElem?_append_left c] at ha'
        obtain ⟨dx', wl', row', r', nw'⟩ := rd.at_ j a' f' (Nat.zero_le _) ha' hf'
        have r'' := r'.same s24
        have na' : a' ≠ D := ne_of r''.ha eD4 (by intro z; cases z)
        exact ⟨dx', wl', row', ⟨by rw [upd_ne na']; exact r''.ha, by rw [upd_ne nw']; exact r''.hw⟩, nw'⟩
      · have hj : j = i := by
          have := (List.getElem?_eq_some_iff.mp ha').1
          rw [List.length_append, List.length_cons, List.length_nil] at this
          omega
        subst hj
        rw [List.getElem?_append_right (by omega), hal, Nat.sub_self] at ha'
        cases ha'
        rw [hf0] at hf'
        cases hf'
        exact ⟨cdx, wl, _, ⟨by rw [upd_ne nDco.symm]; exact r4.r.ha, by rw [upd_ne nwD]; exact r4.r.hw⟩, nwD⟩
    · refine List.nodup_append.mpr ⟨rd.nd, by simp, fun a' ha' b' hb' => ?_⟩
      rw [List.mem_singleton.mp hb']
      intro z
      obtain ⟨j, hj, ej⟩ := List.mem_iff_getElem.mp ha'
      have hjp : j < prog.length := by omega
      obtain ⟨dx', wl', row', r', _⟩ := rd.at_ j a' _ (Nat.zero_le _) (by rw [List.getElem?_eq_getElem hj, ej]) (List.getElem?_eq_getElem hjp)
      have := sT _ _ r'.ha
      rw [z, nco] at this
      cases this
    · intro a' ha'
      rcases List.mem_append.mp ha' with h | h
      · exact rd.new a' h
      · rw [List.mem_singleton.mp h]
        exact hco1
  rintro H2 ⟨as, s2, eD, hal, hai, rd⟩
  rw [List.length_map, List.length_map] at hal
  refine ⟨_, rfl, D, rfl, ⟨_, SqL.of eD⟩, fun D2 hD2 => ?_⟩
  have sD2 := same_new hD2 (.lst [])
  have h1D2 : H1 D2 = none := s2.free hD2
  refine lc_list (K := K) (a := D) (xs := as.map V.ref) (fun i H' => ∃ us, Same H1 H' ∧ H' D = some (.lst (as.map V.ref)) ∧ H' D2 = some (.lst us) ∧ PgIns H' us (prog.take i) ∧ Rdrs H1 H' C D2 as prog i) ⟨[], s2.trans sD2, sD2 _ _ eD, upd_same, .nil, ⟨fun j a' f' _ ha' hf' => ?_, rd.nd, rd.new⟩⟩ ?_ ?_ ?_
  · obtain ⟨dx', wl', row', r', _⟩ := rd.at_ j a' f' (Nat.zero_le _) ha' hf'
    exact ⟨dx', wl', row', r'.same sD2, ne_of_none r'.hw hD2⟩
  · rintro i H' _ ⟨us, _, e, _⟩
    exact SqL.of e
  · rintro i v H3 hi ⟨us, s3, eD3, eD23, pg, rd3⟩
    rw [List.getElem?_map] at hi
    obtain ⟨a, hai', rfl⟩ := Option.map_eq_some_iff.mp hi
    have hip : i < prog.length := by
      have := (List.getElem?_eq_some_iff.mp hai').1
      omega
    have hf0 := List.getElem?_eq_getElem hip
    have ft0 := ft _ (List.mem_of_getElem? hf0)
    obtain ⟨dx, wl, row, r, nwD⟩ := rd3.at_ i a _ (Nat.le_refl _) hai' hf0
    have hpgl := pg.len
    rw [List.length_take] at hpgl
    refine ⟨rfl, ?_⟩
    refine ⟨_, rfl, a, dx, _, rfl, r.ha, rdF_no (by decide +kernel) (by decide +kernel) (by decide +kernel), a, dx, wl, row, _, rfl, r, ft0, fun H4 t pz bz s4 e4 p4 t4 => ?_⟩
    have ik4 := s4.ikI r.ha
    have naD : D ≠ a := ne_of eD3 r.ha (by intro z; cases z)
    have naD2 : D2 ≠ a := ne_of eD23 r.ha (by intro z; cases z)
    have eD24 := s4 _ _ naD2 eD23
    have ikL := IK.lst (ys := us ++ [.ref t]) eD24
    have nDD : D ≠ D2 := ne_of_none eD hD2
    refine ⟨us, eD24, small1000 (by omega), us ++ [.ref t], fun b o hb => ?_, ?_, upd_same, ?_, ⟨fun j a' f' hj ha' hf' => ?_, rd.nd, rd.new⟩⟩
    · have nba : b ≠ a := ne_of_none hb (rd.new a (List.mem_of_getElem? hai'))
      rw [upd_ne (ne_of_none hb h1D2)]
      exact s4 _ _ nba (s3 _ _ hb)
    · rw [upd_ne nDD]
      exact s4 _ _ naD eD3
    · rw [List.take_add_one, hf0]
      exact PgIns.snoc (ikL.t _ _ e4) (p4.mono ikL) (t4.mono ikL.t) ((pg.mono ik4).mono ikL)
    · obtain ⟨dx', wl', row', r', nw'⟩ := rd3.at_ j a' f' (by omega) ha' hf'
      have naa : a' ≠ a := fun z => by
        rw [z] at ha'
        have h1' := List.getElem?_eq_some_iff.mp ha'
        have h2' := List.getElem?_eq_some_iff.mp hai'
        exact List.pairwise_iff_getElem.mp rd.nd i j h2'.1 h1'.1 (by omega) (h2'.2.trans h1'.2.symm)
      have nwa : wl' ≠ a := ne_of r'.hw r.ha (by intro z; cases z)
      have na2 : a' ≠ D2 := ne_of r'.ha eD23 (by intro z; cases z)
      exact ⟨dx', wl', row', ⟨by rw [upd_ne na2]; exact s4 _ _ naa r'.ha, by rw [upd_ne nw']; exact s4 _ _ nwa r'.hw⟩, nw'⟩
  rintro H3 ⟨us, s3, eD3, eD23, pg, rd3⟩
  rw [List.length_map, hal, List.take_length] at pg
  refine ⟨D2, _, rfl, .inl ⟨SqL.of eD23, fun t ht => ?_⟩⟩
  have s4 := same_new ht (.tup us)
  have e4 : upd H3 t (.tup us) t = some (.tup us) := upd_same
  generalize upd H3 t (.tup us) = H4 at s4 e4 ⊢
  have pg4 := pg.mono (IK.of s4)
  refine ⟨_, rfl, t, us, prog, rfl, e4, pg4, good, h1, fun H5 v5 s5 => ?_⟩
  exact ⟨_, rfl, q _ t us (s1.trans (s3.trans (s4.trans s5))) (s5 _ _ e4) (pg4.mono (IK.of s5))⟩
end
end NR
set_option maxHeartbeats 4000000
namespace NR
open PySem PySem.Spec PyProof.Rows L2
abbrev sLawAlike : Stmt := top 70
theorem scsLawAlike : FnScope ["_law_found", "_law_due", "_law_k"] ["_law_found", "_law_due"] (defScope sLawAlike) := ⟨rfl, rfl, rfl, by decide +kernel, rfl, by decide +kernel, by decide +kernel⟩
section
variable {P : Program} {w : World} {K : PySem.W.Frag} {mg : Str → Option Value} {base : Heap} {f : Addr} {fd : FuncData}

theorem ok_alike_step {n : Nat} (F : FnP K "_law_alike" sLawAlike f fd) (O_alike : Okf P w K mg base CX0 (n + 1) "_law_alike" ["_law_found", "_law_due"] (spAlike K n)) (z_isinstance : mg "isinstance" = none) (z_tuple : mg "tuple" = none) (z_list : mg "list" = none) (z_len : mg "len" = none)
    (z_range : mg "range" = none) (z_bool : mg "bool" = none) (z_str : mg "str" = none) (z_int : mg "int" = none) : FnOk P w K mg base CX0 (n + 2) f fd ["_law_found", "_law_due"] (spAlike K (n + 1)) := by
  have sc := scsLawAlike
  refine F.ok sc (fun vs H Q E h => ?_) (fun cdv A outer s H vs Q E hr h => ?_)
  · obtain ⟨u, v, d, rfl, _⟩ := h
    rfl
  obtain ⟨u, v, d, rfl, du, dv, hh, q⟩ := h
  refine ⟨_, PSs.nox (pss_cons (ps_if (PW.pt (pw_or (pt_val (pe_callB (call_isiK K) rfl z_isinstance (by decide +kernel) (pa_cons (pv 1) (pa_cons (pe_bltn (v := .ty "tuple") rfl z_tuple (by decide +kernel) rfl) pa_nil)))) (pw_or1 (pt_val (pe_callB (call_isiK K) rfl z_isinstance (by decide +kernel) (pa_cons (pv 1) (pa_cons (pe_bltn (v := .ty "list") rfl z_list (by decide +kernel) rfl) pa_nil))))))) (pss_cons (ps_if (PW.pt (pw_or (pt_cmpR op_ne (pe_callB (call_isiK K) rfl z_isinstance (by decide +kernel) (pa_cons (pv 0) (pa_cons (pe_bltn (v := .ty "tuple") rfl z_tuple (by decide +kernel) rfl) pa_nil))) (pe_callB (call_isiK K) rfl z_isinstance (by decide +kernel) (pa_cons (pv 1) (pa_cons (pe_bltn (v := .ty "tuple") rfl z_tuple (by decide +kernel) rfl) pa_nil))) (nomark _)) (pw_or1 (pt_not (pt_val (pe_callB (call_isiTK K) rfl z_isinstance (by decide +kernel) (pa_cons (pv 0) (pa_cons (pe_tup (pa_cons (pe_bltn (v := .ty "tuple") rfl z_tuple (by decide +kernel) rfl) (pa_cons (pe_bltn (v := .ty "list") rfl z_list (by decide +kernel) rfl) pa_nil))) pa_nil)))))))) (pss_one (ps_ret pe_bl)) pss_nil)
    (pss_cons (ps_if (pt_cmpR op_ne (pe_callB (call_lenK K) rfl z_len PySem.boot_len (pa_cons (pv 0) pa_nil)) (pe_callB (call_lenK K) rfl z_len PySem.boot_len (pa_cons (pv 1) pa_nil)) (nomark _)) (pss_one (ps_ret pe_bl)) pss_nil)
    (pss_one (ps_ret (pe_cmpR (op_eqDK K hr.units) (pe_lc (own := [("_law_k", 2)]) (by rfl) sc.nd (pi_range1 rfl z_range (pa_cons (pe_callB (call_lenK K) rfl z_len PySem.boot_len (pa_cons (pv 1) pa_nil)) pa_nil)) (blkOk_by (own := [("_law_k", 2)]) (N := ["_law_found", "_law_due", "_law_k"]) (sc := defScope sLawAlike) (by decide +kernel)) (fun _ _ _ _ _ => (pg_name (i := 2) sc.nd rfl (.inl rfl))) (fun _ _ _ _ _ => (pts_one (pt_not (pt_val (pe_c O_alike hr rfl pass0 (pa_cons (pe_ix (ix_seqK K) (pv 0) (pv 2) (fun _ _ => rfl)) (pa_cons (pe_ix (ix_seqK K) (pv 1) (pv 2) (fun _ _ => rfl)) pa_nil))))))) (fun _ _ _ _ _ => (pv 2))) (pe_lst pa_nil) (nomark _)))))) pss_nil)
    (pss_cons (ps_if (PW.pt (pw_or (pt_cmpR op_isN (pv 1) pe_non (nomark _)) (pw_or1 (pt_cmpR op_isN (pv 0) pe_non (nomark _))))) (pss_one (ps_ret (pe_and (pe_cmpR op_isN (pv 1) pe_non (nomark _)) (pe_one (pe_cmpR op_isN (pv 0) pe_non (nomark _)))))) pss_nil)
    (pss_cons (ps_if (PW.pt (pw_or (pt_val (pe_callB (call_isiK K) rfl z_isinstance (by decide +kernel) (pa_cons (pv 1) (pa_cons (pe_bltn (v := .ty "bool") rfl z_bool (by decide +kernel) rfl) pa_nil)))) (pw_or1 (pt_val (pe_callB (call_isiK K) rfl z_isinstance (by decide +kernel) (pa_cons (pv 0) (pa_cons (pe_bltn (v := .ty "bool") rfl z_bool (by decide +kernel) rfl) pa_nil))))))) (pss_one (ps_ret (pe_and (pe_callB (call_isiK K) rfl z_isinstance (by decide +kernel) (pa_cons (pv 1) (pa_cons (pe_bltn (v := .ty "bool") rfl z_bool (by decide +kernel) rfl) pa_nil))) (pe_and (pe_callB (call_isiK K) rfl z_isinstance (by decide +kernel) (pa_cons (pv 0) (pa_cons (pe_bltn (v := .ty "bool") rfl z_bool (by decide +kernel) rfl) pa_nil))) (pe_one (pe_cmpR op_eq (pv 0) (pv 1) (nomark _))))))) pss_nil)
    (pss_cons (ps_if (pt_val (pe_callB (call_isiK K) rfl z_isinstance (by decide +kernel) (pa_cons (pv 1) (pa_cons (pe_bltn (v := .ty "str") rfl z_str (by decide +kernel) rfl) pa_nil)))) (pss_one (ps_ret (pe_and (pe_callB (call_isiK K) rfl z_isinstance (by decide +kernel) (pa_cons (pv 0) (pa_cons (pe_bltn (v := .ty "str") rfl z_str (by decide +kernel) rfl) pa_nil))) (pe_one (pe_cmpR op_eq (pv 0) (pv 1) (nomark _)))))) pss_nil)
    (pss_one (ps_ret (pe_and (pe_callB (call_isiK K) rfl z_isinstance (by decide +kernel) (pa_cons (pv 0) (pa_cons (pe_bltn (v := .ty "int") rfl z_int (by decide +kernel) rfl) pa_nil))) (pe_one (pe_cmpR op_eq (pv 0) (pv 1) (nomark _)))))))))), ?_⟩
  cases dv with
  | int =>
    cases du
    rename_i i
    refine ⟨_, rfl, _, _, _, _, _, rfl, .ty _, .base (.int _), kit_ty (r := false) (by decide +kernel), _, rfl, ite2 (fun z => nomatch z) (fun _ => ?_)⟩
    refine ⟨_, rfl, _, _, _, _, _, rfl, .ty _, .base (.int _), kit_ty (r := false) (by decide +kernel), _, rfl, ite2 (fun z => nomatch z) (fun _ => ?_)⟩
    refine ⟨_, rfl, rfl, _, rfl, ite2 (fun z => nomatch z) (fun _ => ?_)⟩
    refine ⟨_, rfl, rfl, _, rfl, ite2 (fun z => nomatch z) (fun _ => ?_)⟩
    refine ⟨_, rfl, _, _, _, _, _, rfl, .ty _, .base (.int _), kit_ty (r := false) (by decide +kernel), _, rfl, ite2 (fun z => nomatch z) (fun _ => ?_)⟩
    refine ⟨_, rfl, _, _, _, _, _, rfl, .ty _, .base (.int _), kit_ty (r := false) (by decide +kernel), _, rfl, ite2 (fun z => nomatch z) (fun _ => ?_)⟩
    refine ⟨_, rfl, _, _, _, _, _, rfl, .ty _, .base (.int _), kit_ty (r := false) (by decide +kernel), _, rfl, ite2 (fun z => nomatch z) (fun _ => ?_)⟩
    refine ⟨_, rfl, _, _, _, _, _, rfl, .ty _, .base (.int _), kit_ty (r := true) (by decide +kernel), _, rfl, ite2 (fun _ => ?_) (fun z => absurd rfl z)⟩
    refine ⟨_, rfl, _, rfl, rfl, ?_⟩
    have e : decide (V.int i = V.int i) = true := decide_eq_true rfl
    show Q (.bl (decide (V.int i = V.int i))) H
    rw [e]
    exact q H (.refl H)
  | str =>
    cases du
    rename_i i
    refine ⟨_, rfl, _, _, _, _, _, rfl, .ty _, .base (.str _), kit_ty (r := false) (by decide +kernel), _, rfl, ite2 (fun z => nomatch z) (fun _ => ?_)⟩
    refine ⟨_, rfl, _, _, _, _, _, rfl, .ty _, .base (.str _), kit_ty (r := false) (by decide +kernel), _, rfl, ite2 (fun z => nomatch z) (fun _ => ?_)⟩
    refine ⟨_, rfl, rfl, _, rfl, ite2 (fun z => nomatch z) (fun _ => ?_)⟩
    refine ⟨_, rfl, rfl, _, rfl, ite2 (fun z => nomatch z) (fun _ => ?_)⟩
    refine ⟨_, rfl, _, _, _, _, _, rfl, .ty _, .base (.str _), kit_ty (r := false) (by decide +kernel), _, rfl, ite2 (fun z => nomatch z) (fun _ => ?_)⟩
    refine ⟨_, rfl, _, _, _, _, _, rfl, .ty _, .base (.str _), kit_ty (r := false) (by decide +kernel), _, rfl, ite2 (fun z => nomatch z) (fun _ => ?_)⟩
    refine ⟨_, rfl, _, _, _, _, _, rfl, .ty _, .base (.str _), kit_ty (r := true) (by decide +kernel), _, rfl, ite2 (fun _ => ?_) (fun z => absurd rfl z)⟩
    refine ⟨_, rfl, _, _, _, _, _, rfl, .ty _, .base (.str _), kit_ty (r := true) (by decide +kernel), _, rfl, ite2 (fun _ => ?_) (fun z => absurd rfl z)⟩
    refine ⟨_, rfl, _, rfl, rfl, ?_⟩
    have e : decide (V.str i = V.str i) = true := decide_eq_true rfl
    show Q (.bl (decide (V.str i = V.str i))) H
    rw [e]
    exact q H (.refl H)
  | @seq l a vs ds sv lv iv =>
    cases du with
    | @seq _ b us _ su lu iu =>
    have tu := su.ty (K := K)
    have tv := sv.ty (K := K)
    have elen : us.length = vs.length := by rw [iu.len, iv.len]
    have hh' : 1 + dhgts ds ≤ n + 1 := hh
    cases l with
    | false =>
      refine ⟨_, rfl, _, _, _, _, _, rfl, .ty _, tv, kit_ty (r := true) (by decide +kernel), _, rfl, ite2 (fun _ => ?_) (fun z => absurd rfl z)⟩
      refine ite2 (fun _ => ?_) (fun z => absurd rfl z)
      refine ⟨_, rfl, _, _, _, _, _, rfl, .ty _, tu, kit_ty (r := true) (by decide +kernel), _, rfl, _, _, _, _, _, rfl, .ty _, tv, kit_ty (r := true) (by decide +kernel), rfl, _, rfl, ite2 (fun z => absurd z (by decide)) (fun _ => ?_)⟩
      refine ⟨_, rfl, by show 2 ≤ sizeLine; decide, fun p hp => ?_⟩
      have s1 := same_new hp (.tup [.ty "tuple", .ty "list"])
      refine ⟨_, p, _, _, _, true, rfl, upd_same, .cons (.ty _) (.cons (.ty _) .nil), (su.same s1).ty, kitAny_cons (kit_ty (r := true) (by decide +kernel)) (fun z => nomatch z) (fun _ => rfl), _, rfl, ite2 (fun z => nomatch z) (fun _ => ?_)⟩
      generalize upd H p (.tup [.ty "tuple", .ty "list"]) = H1 at s1 ⊢
      have su1 := su.same s1
      have sv1 := sv.same s1
      refine ⟨_, rfl, b, _, rfl, su1.sq, _, rfl, a, _, rfl, sv1.sq, rfl, _, rfl, ite2 (fun z => ?_) (fun _ => ?_)⟩
      · rw [elen] at z
        have : decide (V.int ((vs.length : Nat) : Int) = V.int ((vs.length : Nat) : Int)) = true := decide_eq_true rfl
        rw [this] at z
        cases z
      refine ⟨_, rfl, a, _, rfl, sv1.sq, _, rfl, by omega, by omega, fun D hD => ?_⟩
      refine lc_range (lo := 0) (n := vs.length) (fun i H' => H' D = some (.lst []) ∧ Same H1 H') ⟨upd_same, same_new hD _⟩ ?_ ?_
      · rintro i H2 hi ⟨eD, s2⟩
        obtain ⟨d, hd⟩ : ∃ d, ds[i]? = some d := ⟨ds[i]'(by rw [← iv.len]; exact hi), List.getElem?_eq_getElem _⟩
        obtain ⟨x, hx, dx, hx3⟩ := iu.get i hd
        obtain ⟨y, hy, dy, _⟩ := iv.get i hd
        have s02 := s1.trans s2
        refine ⟨rfl, ?_⟩
        rw [Int.zero_add]
        refine ⟨_, rfl, _, rfl, SeqA.at (su.same s02) hx ⟨_, rfl, _, rfl, SeqA.at (sv.same s02) hy ⟨x, y, d, rfl, dx.same s02, dy.same s02, by omega, fun H3 s3 => ⟨_, rfl, ?_⟩⟩⟩⟩
        exact ite2 (fun z => nomatch z) (fun _ => ⟨s3 _ _ eD, s2.trans s3⟩)
      · rintro H2 ⟨eD, s2⟩
        refine ⟨by show 0 ≤ sizeLine; decide, fun e0 he0 => ⟨.list [], .list [], .lst (SqL.of (same_new he0 _ _ _ eD)) .nil, .lst (SqL.of upd_same) .nil, rfl, rfl, ?_⟩⟩
        exact q _ ((s1.trans s2).trans (same_new he0 _))
    | true =>
      refine ⟨_, rfl, _, _, _, _, _, rfl, .ty _, tv, kit_ty (r := false) (by decide +kernel), _, rfl, ite2 (fun z => nomatch z) (fun _ => ?_)⟩
      refine ⟨_, rfl, _, _, _, _, _, rfl, .ty _, tv, kit_ty (r := true) (by decide +kernel), _, rfl, ?_⟩
      refine ite2 (fun _ => ?_) (fun z => absurd rfl z)
      refine ⟨_, rfl, _, _, _, _, _, rfl, .ty _, tu, kit_ty (r := false) (by decide +kernel), _, rfl, _, _, _, _, _, rfl, .ty _, tv, kit_ty (r := false) (by decide +kernel), rfl, _, rfl, ite2 (fun z => absurd z (by decide)) (fun _ => ?_)⟩
      refine ⟨_, rfl, by show 2 ≤ sizeLine; decide, fun p hp => ?_⟩
      have s1 := same_new hp (.tup [.ty "tuple", .ty "list"])
      refine ⟨_, p, _, _, _, true, rfl, upd_same, .cons (.ty _) (.cons (.ty _) .nil), (su.same s1).ty, kitAny_cons (kit_ty (r := false) (by decide +kernel)) (fun _ => kitAny_cons (kit_ty (r := true) (by decide +kernel)) (fun z => nomatch z) (fun _ => rfl)) (fun z => nomatch z), _, rfl, ite2 (fun z => nomatch z) (fun _ => ?_)⟩
      generalize upd H p (.tup [.ty "tuple", .ty "list"]) = H1 at s1 ⊢
      have su1 := su.same s1
      have sv1 := sv.same s1
      refine ⟨_, rfl, b, _, rfl, su1.sq, _, rfl, a, _, rfl, sv1.sq, rfl, _, rfl, ite2 (fun z => ?_) (fun _ => ?_)⟩
      · rw [elen] at z
        have : decide (V.int ((vs.length : Nat) : Int) = V.int ((vs.length : Nat) : Int)) = true := decide_eq_true rfl
        rw [this] at z
        cases z
      refine ⟨_, rfl, a, _, rfl, sv1.sq, _, rfl, by omega, by omega, fun D hD => ?_⟩
      refine lc_range (lo := 0) (n := vs.length) (fun i H' => H' D = some (.lst []) ∧ Same H1 H') ⟨upd_same, same_new hD _⟩ ?_ ?_
      · rintro i H2 hi ⟨eD, s2⟩
        obtain ⟨d, hd⟩ : ∃ d, ds[i]? = some d := ⟨ds[i]'(by rw [← iv.len]; exact hi), List.getElem?_eq_getElem _⟩
        obtain ⟨x, hx, dx, hx3⟩ := iu.get i hd
        obtain ⟨y, hy, dy, _⟩ := iv.get i hd
        have s02 := s1.trans s2
        refine ⟨rfl, ?_⟩
        rw [Int.zero_add]
        refine ⟨_, rfl, _, rfl, SeqA.at (su.same s02) hx ⟨_, rfl, _, rfl, SeqA.at (sv.same s02) hy ⟨x, y, d, rfl, dx.same s02, dy.same s02, by omega, fun H3 s3 => ⟨_, rfl, ?_⟩⟩⟩⟩
        exact ite2 (fun z => nomatch z) (fun _ => ⟨s3 _ _ eD, s2.trans s3⟩)
      · rintro H2 ⟨eD, s2⟩
        refine ⟨by show 0 ≤ sizeLine; decide, fun e0 he0 => ⟨.list [], .list [], .lst (SqL.of (same_new he0 _ _ _ eD)) .nil, .lst (SqL.of upd_same) .nil, rfl, rfl, ?_⟩⟩
        exact q _ ((s1.trans s2).trans (same_new he0 _))
end
end NR
set_option maxHeartbeats 4000000
namespace NR
open PySem PySem.Spec PyProof.Rows L2
/-! ### programs as data -/
mutual
def Ex.da : Ex → Da
  | .node w n ps => match w.lay with
    | 0 => .seq false [.str w.str, .int n]
    | 1 => .seq false (.str w.str :: .int n :: dasE ps)
    | 2 => .seq false [.str w.str, .int n, .seq false (dasE ps)]
    | _ => .seq false (.str w.str :: dasE ps)
def dasE : List Ex → List Da
  | [] => []
  | e :: es => e.da :: dasE es
end
mutual
theorem TIn.din {H : Hp} : ∀ {v : V} {e : Ex}, TIn H v e → e.size ≤ 900 → DIn H v e.da
  | _, _, .leaf (w := w) hl h, _ => by
    rw [Ex.da, hl]
    exact .tup h (by show 2 ≤ 1000; decide) (.cons .str (.cons .int .nil))
  | _, _, .bind (w := w) (ps := ps) hl h r, hs => by
    have h1 : 1 + sizes ps ≤ 900 := hs
    obtain ⟨r1, r2⟩ := r.dins (by omega)
    rw [Ex.da, hl]
    exact .tup h (by simp only [List.length_cons]; omega) (.cons .str (.cons .int r1))
  | _, _, .call (ps := ps) h h2 r, hs => by
    have h1 : 1 + sizes ps ≤ 900 := hs
    obtain ⟨r1, r2⟩ := r.dins (by omega)
    exact .tup h (by show 3 ≤ 1000; decide) (.cons .str (.cons .int (.cons (.tup h2 (by omega) r1) .nil)))
  | _, _, .bare (w := w) (ps := ps) hl h r, hs => by
    have h1 : 1 + sizes ps ≤ 900 := hs
    obtain ⟨r1, r2⟩ := r.dins (by omega)
    rw [Ex.da, hl]
    exact .tup h (by simp only [List.length_cons]; omega) (.cons .str r1)
theorem TIns.dins {H : Hp} : ∀ {vs : List V} {es : List Ex}, TIns H vs es → sizes es ≤ 900 → DIns H vs (dasE es) ∧ vs.length ≤ sizes es
  | _, _, .nil, _ => ⟨.nil, Nat.zero_le _⟩
  | _, _, .cons (e := e) (es := es) h r, hs => by
    have h1 : e.size + sizes es ≤ 900 := hs
    obtain ⟨r1, r2⟩ := r.dins (by omega)
    refine ⟨.cons (h.din (by omega)) r1, ?_⟩
    have : 1 ≤ e.size := by
      obtain ⟨a, b, c⟩ := e
      simp only [Ex.size]
      omega
    simp only [List.length_cons, sizes]
    omega
end
mutual
theorem Ex.da_hgt : ∀ (e : Ex), e.da.hgt ≤ 2 * e.hgt + 1
  | .node w n ps => by
    have := dasE_hgt ps
    unfold Ex.da
    split <;> simp only [Da.hgt, dhgts, Ex.hgt] <;> omega
theorem dasE_hgt : ∀ (es : List Ex), dhgts (dasE es) ≤ 2 * hgts es + 1
  | [] => Nat.zero_le _
  | e :: es => by
    have h1 := e.da_hgt
    have h2 := dasE_hgt es
    simp only [dasE, dhgts, hgts]
    omega
end
def psDa (ps : List (Int × Nat)) : List Da := ps.map fun p => .seq false [.int p.1, nDa p.2]
def fnDa (f : Fn) : Da := .seq false [.seq false (psDa f.ps), nDa f.d, f.e.da]
theorem PIns.dins {H : Hp} : ∀ {vs ps}, PIns H vs ps → DIns H vs (psDa ps)
  | _, _, .nil => .nil
  | _, _, .cons h r => .cons (.tup h (by show 2 ≤ 1000; decide) (.cons .int (.cons .int .nil))) r.dins
theorem psDa_hgt : ∀ (ps : List (Int × Nat)), dhgts (psDa ps) ≤ 2
  | [] => Nat.zero_le _
  | p :: ps => by
    have := psDa_hgt ps
    show max (Da.hgt (.seq false [.int p.1, nDa p.2])) (dhgts (psDa ps)) ≤ 2
    simp only [Da.hgt, dhgts, nDa]
    omega
theorem PgIns.dins {H : Hp} : ∀ {us prog}, PgIns H us prog → (∀ f ∈ prog, FnT f) → DIns H us (prog.map fnDa)
  | _, _, .nil, _ => .nil
  | _, _, .cons (f := f) h p t r, hf => by
    have ft := hf f (List.mem_cons_self ..)
    have h1 := ft.sz
    have h2 := ft.fo.few
    obtain ⟨pt, o, vs, rfl, p1, p2, p3⟩ := p.ex
    have hl := p3.len
    refine .cons (.tup h (by show 3 ≤ 1000; decide) (.cons (.seq (.inr ⟨rfl, .inr ⟨o, p1⟩⟩) (by omega) p3.dins) (.cons .int (.cons (t.din (by omega)) .nil)))) (r.dins fun g hg => hf g (List.mem_cons_of_mem _ hg))
theorem dhgts_le {n : Nat} : ∀ (l : List Da), (∀ d ∈ l, d.hgt ≤ n) → dhgts l ≤ n
  | [], _ => Nat.zero_le _
  | d :: l, h => by
    have h1 := h d (List.mem_cons_self ..)
    have h2 := dhgts_le l fun x hx => h x (List.mem_cons_of_mem _ hx)
    simp only [dhgts]
    omega
theorem prog_hgt {prog : List Fn} (h : ∀ f ∈ prog, FnT f) : (Da.seq false (prog.map fnDa)).hgt ≤ 30 := by
  have := dhgts_le (n := 29) (prog.map fnDa) fun d hd => by
    obtain ⟨f, hf, rfl⟩ := List.mem_map.mp hd
    have h1 := (h f hf).hg
    have h2 := f.e.da_hgt
    have h3 := psDa_hgt f.ps
    simp only [fnDa, Da.hgt, dhgts, nDa]
    omega
  simp only [Da.hgt]
  omega
/-! ### data as the comparison takes it -/
mutual
def Da.py : Da → PyData
  | .int n => .int n
  | .str s => .str s
  | .seq l ds => if l = true then .list (pys ds) else .tuple (pys ds)
def pys : List Da → List PyData
  | [] => []
  | d :: ds => d.py :: pys ds
end
mutual
def Da.sok : Da → Prop
  | .int _ => True
  | .str s => PyData.strOk s = true
  | .seq _ ds => soks ds
def soks : List Da → Prop
  | [] => True
  | d :: ds => d.sok ∧ soks ds
end
mutual
theorem Da.can : ∀ (d : Da), d.sok → d.py.canLay0 = true
  | .int _, _ => rfl
  | .str _, h => h
  | .seq l ds, h => by
    have := cans ds h
    unfold Da.py
    split <;> exact this
theorem cans : ∀ (ds : List Da), soks ds → PyData.canLayAll0 (pys ds) = true
  | [], _ => rfl
  | d :: ds, h => by
    simp only [pys, PyData.canLayAll0, d.can h.1, cans ds h.2, Bool.and_self]
end
mutual
theorem Da.dep : ∀ (d : Da), d.py.depth ≤ d.hgt
  | .int _ => Nat.zero_le _
  | .str _ => Nat.zero_le _
  | .seq l ds => by
    have := deps ds
    unfold Da.py
    split <;> simp only [PyData.depth, Da.hgt] <;> omega
theorem deps : ∀ (ds : List Da), PyData.depthAll (pys ds) ≤ dhgts ds
  | [] => Nat.zero_le _
  | d :: ds => by
    have h1 := d.dep
    have h2 := deps ds
    simp only [pys, PyData.depthAll, dhgts]
    omega
end
mutual
theorem DIn.dp {K : PySem.W.Frag} {H : Hp} : ∀ {v : V} {d : Da}, DIn H v d → Dp K H v d.py
  | _, _, .int => .int _
  | _, _, .str => .str _
  | _, _, .seq (l := l) h _ r => by
    have r' := r.dps (K := K)
    rcases h with ⟨rfl, h⟩ | ⟨rfl, h⟩
    · exact .lst (SqL.of h) r'
    · exact .tup (SeqA.t (.inr ⟨rfl, h⟩)) r'
theorem DIns.dps {K : PySem.W.Frag} {H : Hp} : ∀ {vs : List V} {ds : List Da}, DIns H vs ds → DpAll K H vs (pys ds)
  | _, _, .nil => .nil
  | _, _, .cons h r => .cons h.dp r.dps
end
theorem W.str_sok (w : W) : PyData.strOk w.str = true := by cases w <;> decide +kernel
theorem ns_sok : ∀ (l : List Nat), soks (l.map nDa)
  | [] => trivial
  | _ :: l => ⟨trivial, ns_sok l⟩
theorem soks_append : ∀ {a b : List Da}, soks a → soks b → soks (a ++ b)
  | [], _, _, h => h
  | _ :: _, _, h, h' => ⟨h.1, soks_append h.2 h'⟩
theorem oDa_sok (o : Option Nat) : soks (oDa o) := by cases o <;> simp [oDa, soks, nDa, Da.sok]
mutual
theorem Row.sok : ∀ (r : Row), r.da.sok
  | .num _ _ _ => ⟨by show PyData.strOk _ = true; decide +kernel, trivial, trivial, trivial, trivial⟩
  | .bare w _ _ as dd => ⟨w.str_sok, trivial, trivial, soks_append (ns_sok as) (oDa_sok dd)⟩
  | .call _ _ _ as => ⟨by show PyData.strOk _ = true; decide +kernel, trivial, trivial, trivial, ns_sok as, trivial⟩
  | .ite _ _ _ tk ra _ rb _ => ⟨by show PyData.strOk _ = true; decide +kernel, trivial, trivial, trivial, ns_sok tk, rows_sok ra, trivial, rows_sok rb, trivial, trivial⟩
  | .ea w _ _ _ _ _ tk rs _ _ => ⟨w.str_sok, trivial, trivial, trivial, trivial, trivial, ns_sok tk, rows_sok rs, trivial, trivial, trivial⟩
theorem rows_sok : ∀ (rs : List Row), soks (rowsDa rs)
  | [] => trivial
  | r :: rs => ⟨r.sok, rows_sok rs⟩
end
theorem cds_sok : ∀ (l : List (List Row × Nat)), soks (l.map cdDa)
  | [] => trivial
  | c :: l => ⟨⟨rows_sok _, trivial, trivial⟩, cds_sok l⟩
theorem Da.shp {d : Da} (h : d.sok) (hh : d.hgt ≤ 30) : SeqAt.shaped d.py = true := by
  unfold SeqAt.shaped
  rw [Bool.and_eq_true_iff]
  exact ⟨d.can h, decide_eq_true (by have := d.dep; omega)⟩
end NR
set_option maxHeartbeats 4000000
namespace NR
open PySem PySem.Spec PyProof.Rows L2

theorem FnOk.ex {P : Program} {w : World} {K : PySem.W.Frag} {mg : Str → Option Value} {base : Heap} {CX : CXT} {k : Nat} {f : Addr} {fd : FuncData} {ps : List Str} {ι : Type} {sp : ι → Sp} (h : ∀ i, FnOk P w K mg base CX k f fd ps (sp i)) : FnOk P w K mg base CX k f fd ps (fun vs H Q E => ∃ i, sp i vs H Q E) :=
  ⟨fun vs H Q E ⟨i, z⟩ => (h i).len vs H Q E z, fun A outer s H args us vs Q E hr he hb hv ⟨i, z⟩ => (h i).run A outer s H args us vs Q E hr he hb hv z⟩
def spBodyE (K : PySem.W.Frag) : Sp := fun vs H Q E => ∃ i : List (List Nat × Nat) × Nat, spBody K i.1 i.2 vs H Q E
def spLeafE (K : PySem.W.Frag) : Sp := fun vs H Q E => ∃ i : List (List Nat × Nat), spLeaf K i 4 vs H Q E
def forB : Stmt → List Stmt
  | .For _ _ b _ _ => b
  | _ => []
theorem put_own {a b c v : V} : putK ([(Sum.inr "faces", a), (Sum.inr "own", b), (Sum.inr "left", c)] : List (Key × V)) (Sum.inr "own") v = ([(Sum.inr "faces", a), (Sum.inr "own", v), (Sum.inr "left", c)] : List (Key × V)) := by rfl
def PI (K : PySem.W.Frag) (r : RD) (H : Hp) (most : Int) (i : Nat) (σ : L2.St) (H' : Hp) : Prop := ∃ (m fl fo : Addr) (xs vs : List V) (ow : V) (prog : List Fn) (x4 x5 x6 : Option V), σ = [some (.ref r.r), some (.int most), some (.ref m), some (.ref fo), x4, x5, x6, none, none] ∧
  Drawn K r H H' ∧ H m = none ∧ H fl = none ∧ H fo = none ∧ fl ≠ fo ∧ H' m = some (.dK [(Sum.inr "faces", .ref fl), (Sum.inr "own", ow), (Sum.inr "left", .int 0)]) ∧ H' fl = some (.lst xs) ∧ H' fo = some (.lst vs) ∧ FIns H' xs (facesOf prog) ∧ PgIns H' vs prog ∧ Good prog ∧ prog.length = i
abbrev sLawProgram : Stmt := top 81
theorem scsLawProgram : FnScope ["_law_row", "_law_most", "_law_m", "_law_found", "_law_which", "_law_face_here", "_law_body_here", "_law_name", "_law_depth"] ["_law_row", "_law_most"] (defScope sLawProgram) := ⟨rfl, rfl, rfl, by decide +kernel, rfl, by decide +kernel, by decide +kernel⟩
section
variable {P : Program} {w : World} {K : PySem.W.Frag} {mg : Str → Option Value} {base : Heap} {f : Addr} {k : Nat} {cdv : Value} {A : Around} {outer : List Env} {s : Shared} {H : Hp} {E : XK} {Q : VK} {r : RD} {most : Int}
abbrev XP (P : Program) (w : World) (K : PySem.W.Frag) (mg : Str → Option Value) (base : Heap) (f : Addr) (cdv : Value) (A : Around) (outer : List Env) (s : Shared) (H : Hp) (E : XK) : Cx := (cxOf CX0 P w K mg base ["_law_row", "_law_most", "_law_m", "_law_found", "_law_which", "_law_face_here", "_law_body_here", "_law_name", "_law_depth"] "_law_program" (defScope sLawProgram) f cdv A outer s H E).nox
theorem prog_turn (hr : Room k (XP P w K mg base f cdv A outer s H E).A) (O_taken : Okf P w K mg base CX0 k "_law_taken" ["_law_row", "_law_many"] (spTaken K)) (O_face : Okf P w K mg base CX0 k "_law_face" ["_law_row"] (spFace K))
    (O_body : Okf P w K mg base CX0 k "_law_body" ["_law_row", "_law_m", "_law_face_here", "_law_itself"] (spBodyE K)) (O_size : Okf P w K mg base CX0 k "_law_size" ["_law_tree_here"] (spSize K 12)) (O_within : Okf P w K mg base CX0 k "_law_within" ["_law_tree_here"] (spWithin K 12))
    (O_leaf : Okf P w K mg base CX0 k "_law_leaf" ["_law_row", "_law_depth", "_law_known"] (spLeafE K)) (z_dict : mg "dict" = none) (z_range : mg "range" = none) (z_tuple : mg "tuple" = none) (dr : Draw K r H) :
    ∃ tb, PSs (XP P w K mg base f cdv A outer s H E) (forB ((defBody sLawProgram).getD 2 (.Pass ⟨0, 0, 0, 0⟩))) tb ∧ ∀ (D : Ends) (i : Nat) (σ : L2.St) (H' : Hp), i ≤ 5 → PI K r H most i σ H' → (∀ σ' H'', PI K r H most (i + 1) σ' H'' → D.nx σ' H'') → tb D (σ.set 4 (some (.int (i : Int)))) H' := by
  have sc := scsLawProgram
  have hu := hu_of hr
  refine ⟨_, (pss_cons (ps_set (i := 5) sc.nd rfl (.inl rfl) (pe_c O_face hr rfl pass0 (pa_cons (pv 0) pa_nil)))
    (pss_cons (ps_dput hu (pv 2) pe_str (pv 4) rfl)
    (pss_cons (ps_expr (pe_bm PySem.F.plainAttrs_list PySem.F.slot_list_append PySem.F.type_list_append mt_append (pe_dget hu (pv 2) pe_str (fun _ _ => rfl)) (pa_cons (pe_tup (pa_cons (pe_callTy (call_tupleK K) rfl z_tuple (by decide +kernel) (pa_cons (pe_lc (own := [("_law_name", 7), ("_law_depth", 8)]) (by rfl) sc.nd (pi_tupK K (pe_ix (ix_tupK K) (pv 5) pe_int (fun _ _ => rfl))) (blkOk_by (own := [("_law_name", 7), ("_law_depth", 8)]) (N := ["_law_row", "_law_most", "_law_m", "_law_found", "_law_which", "_law_face_here", "_law_body_here", "_law_name", "_law_depth"]) (sc := defScope sLawProgram) (by decide +kernel)) (fun _ _ _ _ _ => (pg_tupK K (n := 2) rfl (pgs_cons (pg_name (i := 7) sc.nd rfl (.inl rfl)) (pgs_cons (pg_name (i := 8) sc.nd rfl (.inl rfl)) pgs_nil)))) (fun _ _ _ _ _ => pts_nil) (fun _ _ _ _ _ => (pv 8))) pa_nil)) (pa_cons (pe_ix (ix_tupK K) (pv 5) pe_int (fun _ _ => rfl)) pa_nil))) pa_nil)))
    (pss_cons (ps_set (i := 6) sc.nd rfl (.inl rfl) (pe_c O_body hr rfl pass0 (pa_cons (pv 0) (pa_cons (pv 2) (pa_cons (pv 5) (pa_cons (pe_cmpR op_eq (pe_c O_taken hr rfl pass0 (pa_cons (pv 0) (pa_cons pe_int pa_nil))) pe_int (nomark _)) pa_nil))))))
    (pss_cons (ps_if (PW.pt (pw_or (pt_cmpR op_gt (pe_c O_size hr rfl pass0 (pa_cons (pv 6) pa_nil)) pe_int (nomark _)) (pw_or1 (pt_cmpR op_gt (pe_c O_within hr rfl pass0 (pa_cons (pv 6) pa_nil)) pe_int (nomark _))))) (pss_one (ps_set (i := 6) sc.nd rfl (.inl rfl) (pe_c O_leaf hr rfl pass0 (pa_cons (pv 0) (pa_cons (pe_ix (ix_tupK K) (pv 5) pe_int (fun _ _ => rfl)) (pa_cons (pe_callTy (call_dictT K rfl) rfl z_dict (by decide +kernel) (pa_cons (pe_ix (ix_tupK K) (pv 5) pe_int (fun _ _ => rfl)) pa_nil)) pa_nil)))))) pss_nil)
    (pss_one (ps_expr (pe_bm PySem.F.plainAttrs_list PySem.F.slot_list_append PySem.F.type_list_append mt_append (pv 3) (pa_cons (pe_tup (pa_cons (pe_ix (ix_tupK K) (pv 5) pe_int (fun _ _ => rfl)) (pa_cons (pe_ix (ix_tupK K) (pv 5) pe_int (fun _ _ => rfl)) (pa_cons (pv 6) pa_nil)))) pa_nil))))))))), ?_⟩
  rintro D i σ H0 hi ⟨m, fl, fo, xs, vs, ow, prog, x4, x5, x6, rfl, g0, hm, hfl, hfo, nff, em, efl, efo, fi, pg, good, plen⟩ nx
  have nm : m ≠ r.r := Drawn.ne dr hm
  have nfl : fl ≠ r.r := Drawn.ne dr hfl
  have nfo : fo ≠ r.r := Drawn.ne dr hfo
  refine ⟨_, rfl, r, rfl, g0.d, fun fv H1 ps d g1 FI FO => ?_⟩
  have em1 := g1.s _ _ nm em
  have efl1 := g1.s _ _ nfl efl
  have efo1 := g1.s _ _ nfo efo
  have ik1 := g1.ik g0.d
  have g01 := g0.trans g1
  obtain ⟨ft, pt, o, pvs, rfl, eft, ept, hdn, pin⟩ := FI.ex
  refine ⟨_, rfl, _, rfl, m, _, rfl, DPut.k (k := Sum.inr "own") em1 (by show 3 < sizeLine; decide), ?_⟩
  rw [put_own]
  have ik2 := ik1.trans (IK.dict (b := [(Sum.inr "faces", .ref fl), (Sum.inr "own", .int (i : Int)), (Sum.inr "left", .int 0)]) em1)
  have ik12 := IK.dict (b := [(Sum.inr "faces", .ref fl), (Sum.inr "own", .int (i : Int)), (Sum.inr "left", .int 0)]) em1
  have g02 := g01.put (o := .dK [(Sum.inr "faces", .ref fl), (Sum.inr "own", .int (i : Int)), (Sum.inr "left", .int 0)]) dr hm
  have em2 : upd H1 m (.dK [(Sum.inr "faces", .ref fl), (Sum.inr "own", .int (i : Int)), (Sum.inr "left", .int 0)]) m = some (.dK [(Sum.inr "faces", .ref fl), (Sum.inr "own", .int (i : Int)), (Sum.inr "left", .int 0)]) := upd_same
  have efl2 := (upd_ne (o := .dK [(Sum.inr "faces", .ref fl), (Sum.inr "own", .int (i : Int)), (Sum.inr "left", .int 0)]) (ne_of efl1 em1 (by intro z; cases z))).trans efl1
  have efo2 := (upd_ne (o := .dK [(Sum.inr "faces", .ref fl), (Sum.inr "own", .int (i : Int)), (Sum.inr "left", .int 0)]) (ne_of efo1 em1 (by intro z; cases z))).trans efo1
  have eft2 := ik12.t _ _ eft
  have ept2 := ik12.f _ _ _ ept
  have pin2 := pin.mono ik12.t
  have fi2 := fi.mono ik2.t
  have pg2 := pg.mono ik2
  generalize upd H1 m (.dK [(Sum.inr "faces", .ref fl), (Sum.inr "own", .int (i : Int)), (Sum.inr "left", .int 0)]) = H2 at ik2 ik12 g02 em2 efl2 efo2 eft2 ept2 pin2 fi2 pg2 ⊢
  clear em1 efl1 efo1 ik1 g01 eft ept pin g1 em efl efo fi pg g0 ik2 ik12 FI
  refine ⟨_, rfl, m, _, rfl, dget em2 val_faces, .inl ⟨rfl, _, SqL.of efl2⟩, ?_⟩
  refine ⟨_, rfl, ft, _, _, _, rfl, rfl, SqT.of eft2, at0, pt, rfl, ⟨_, SqT.fr ept2⟩, fun D1 hD1 => ?_⟩
  have nD1 : D1 ≠ r.r := Drawn.ne g02.d hD1
  have fewp : ps.length ≤ 4 := FO.few
  refine lc_tup (K := K) (a := pt) (xs := pvs) (fun j H' => ∃ ds : List Nat, H' = upd H2 D1 (.lst (ds.map dV)) ∧ ds = (ps.map (·.2)).take j) ⟨[], rfl, rfl⟩ ?_ ?_ ?_
  · rintro j H' hj ⟨ds, rfl, _⟩
    exact SqT.fr ((upd_ne (ne_of_none ept2 hD1)).trans ept2)
  · rintro j x H' hx ⟨ds, rfl, e2⟩
    obtain ⟨pa, px, pd, rfl, hpx, hpa⟩ := pin2.get j hx
    have hj : j < ps.length := (List.getElem?_eq_some_iff.mp hpx).1
    refine ⟨pa, _, rfl, SqT.of ((upd_ne (ne_of_none hpa hD1)).trans hpa), rfl, _, _, rfl, _, _, rfl, rfl, rfl, ?_⟩
    dsimp only [tYes, gName]
    rw [if_pos rfl]
    refine ⟨_, rfl, _, upd_same, ?_, ds ++ [pd], ?_, ?_⟩
    · rw [List.length_map, e2, List.length_take, List.length_map]
      exact small1000 (by omega)
    · rw [upd_upd, List.map_append]
      rfl
    · rw [e2, List.take_succ, List.getElem?_map, hpx]
      rfl
  rintro H3 ⟨ds, rfl, e2⟩
  have plen2 := pin2.len
  rw [plen2, List.take_of_length_le (by rw [List.length_map]; exact Nat.le_refl _)] at e2
  subst e2
  have g3 := Drawn.new (o := .lst ((ps.map (·.2)).map dV)) g02.d hD1
  have ik3 := g3.ik g02.d
  refine ⟨D1, _, rfl, .inl ⟨SqL.of upd_same, fun q1 hq1 => ?_⟩⟩
  have g4 := Drawn.new (o := .tup ((ps.map (·.2)).map dV)) g3.d hq1
  refine ⟨_, rfl, ft, _, _, _, rfl, rfl, SqT.of ((g4.ik g3.d).t _ _ (ik3.t _ _ eft2)), at1, by show 2 ≤ sizeLine; decide, fun q2 hq2 => ?_⟩
  have g5 := Drawn.new (o := .tup [.ref q1, dV d]) g4.d hq2
  have ik5 := ik3.trans ((g4.ik g3.d).trans (g5.ik g4.d))
  have g25 := g3.trans (g4.trans g5)
  have efl5 := g25.s _ _ nfl efl2
  have lenx : xs.length = i := by rw [fi2.len, facesOf, List.length_map, plen]
  refine ⟨fl, _, _, rfl, rfl, efl5, small1000 (by omega), ?_⟩
  have eq1 : (upd (upd (upd H2 D1 (.lst ((ps.map (·.2)).map dV))) q1 (.tup ((ps.map (·.2)).map dV))) q2 (.tup [.ref q1, dV d])) q1 = some (.tup ((ps.map (·.2)).map dV)) := (g5.ik g4.d).t _ _ upd_same
  have eq2 : (upd (upd (upd H2 D1 (.lst ((ps.map (·.2)).map dV))) q1 (.tup ((ps.map (·.2)).map dV))) q2 (.tup [.ref q1, dV d])) q2 = some (.tup [.ref q1, dV d]) := upd_same
  have em5 := g25.s _ _ nm em2
  have efo5 := g25.s _ _ nfo efo2
  have g05 := (g02.trans g25).put (o := .lst (xs ++ [.ref q2])) dr hfl
  generalize upd (upd (upd H2 D1 (.lst ((ps.map (·.2)).map dV))) q1 (.tup ((ps.map (·.2)).map dV))) q2 (.tup [.ref q1, dV d]) = H5 at g5 ik5 g25 efl5 eq1 eq2 em5 efo5 g05 ⊢
  have ik56 := ik5.trans (IK.lst (ys := xs ++ [.ref q2]) efl5)
  have ik6 := IK.lst (ys := xs ++ [.ref q2]) efl5
  have em6 := (upd_ne (o := .lst (xs ++ [.ref q2])) (ne_of em5 efl5 (by intro z; cases z))).trans em5
  have efo6 := (upd_ne (o := .lst (xs ++ [.ref q2])) nff.symm).trans efo5
  have efl6 : upd H5 fl (.lst (xs ++ [.ref q2])) fl = some (.lst (xs ++ [.ref q2])) := upd_same
  have fi6 : FIns (upd H5 fl (.lst (xs ++ [.ref q2]))) (xs ++ [.ref q2]) (facesOf prog ++ [(ps.map (·.2), d)]) := (fi2.mono ik56.t).snoc (ik6.t _ _ eq2) (ik6.t _ _ eq1)
  have pg6 := pg2.mono ik56
  have FI6 : FaceIn (upd H5 fl (.lst (xs ++ [.ref q2]))) (.ref ft) ps d := ⟨ft, pt, o, pvs, rfl, ik56.t _ _ eft2, ik56.f _ _ _ ept2, hdn, pin2.mono ik56.t⟩
  generalize upd H5 fl (.lst (xs ++ [.ref q2])) = H6 at g05 ik56 ik6 em6 efo6 efl6 fi6 pg6 FI6 ⊢
  clear g5 ik5 g25 efl5 eq1 eq2 em5 efo5 ik56 ik6 g3 g4 ik3 em2 efl2 efo2 eft2 ept2 pin2 fi2 pg2 g02 hq2 hq1 hD1
  refine ⟨_, rfl, _, rfl, _, rfl, _, rfl, r, 3, rfl, g05.d, by decide, by decide, fun k2 H7 k2a k2b g7 => ⟨rfl, ?_⟩⟩
  have d6 := g05.d
  have em7 := g7.s _ _ nm em6
  have efl7 := g7.s _ _ nfl efl6
  have efo7 := g7.s _ _ nfo efo6
  have fi7 := fi6.mono (g7.tk d6)
  have pg7 := pg6.mono (g7.ik d6)
  have FI7 := FI6.drawn g7 d6
  have g07 := g05.trans g7
  have lo7 : ∀ p ∈ facesOf prog ++ [(ps.map (·.2), d)], p.2 ≤ 3 ∧ p.1.length ≤ 4 ∧ ∀ c ∈ p.1, c ≤ 3 := fun p hp => by
    rcases List.mem_append.mp hp with hp | hp
    · exact good.lo p hp
    · rw [List.mem_singleton.mp hp]
      refine ⟨FO.hd, by rw [List.length_map]; exact fewp, fun c hc => ?_⟩
      obtain ⟨z, hz, rfl⟩ := List.mem_map.mp hc
      exact (FO.lo z hz).2.2
  have lfs : (facesOf prog).length = i := by rw [facesOf, List.length_map, plen]
  have G7 : Gen H7 r m (facesOf prog ++ [(ps.map (·.2), d)]) i := ⟨⟨fl, _, em7, efl7, fi7, nfl⟩, by rw [List.length_append, lfs]; rfl, hi, lo7⟩
  refine ⟨(facesOf prog ++ [(ps.map (·.2), d)], i), r, m, .ref ft, _, ps, d, rfl, g07.d, G7, FI7, FO, ?_, fun bv H8 e g8 ti ty se hh => ?_⟩
  · show (facesOf prog ++ [(ps.map (·.2), d)])[i]? = _
    rw [List.getElem?_append_right (by omega), lfs, Nat.sub_self]
    rfl
  have few8 := ty.few (fun p hp => (lo7 p hp).2.1)
  have em8 := g8.s _ _ nm em7
  have efl8 := g8.s _ _ nfl efl7
  have efo8 := g8.s _ _ nfo efo7
  have fi8 := fi7.mono (g8.tk g07.d)
  have pg8 := pg7.mono (g8.ik g07.d)
  have FI8 := FI7.drawn g8 g07.d
  have g08 := g07.trans g8
  clear em7 efl7 efo7 fi7 pg7 FI7 G7 em6 efl6 efo6 fi6 pg6 FI6 g7 g05 d6
  dsimp only [gName]
  refine if_restS (fun σ' H' => ∃ bv' e', σ' = [some (.ref r.r), some (.int most), some (.ref m), some (.ref fo), some (.int (i : Int)), some (.ref ft), some bv', none, none] ∧ Drawn K r H8 H' ∧ TIn H' bv' e' ∧ Ty (facesOf prog ++ [(ps.map (·.2), d)]) (envOf ps) e' d ∧ e'.selfs (i : Int) ≤ 1 ∧ e'.size ≤ 60 ∧ e'.hgt ≤ 13) ?_ ?_
  · rintro σ' H9 ⟨bv', e', rfl, g9, ti9, ty9, se9, sz9, hh9⟩
    obtain ⟨ft9, pt9, o9, pvs9, eq9, eft9, ept9, hdn9, pin9⟩ := (FI8.drawn g9 g08.d).ex
    cases eq9
    have ik9 := g9.ik g08.d
    have efo9 := g9.s _ _ nfo efo8
    have pg9 := pg8.mono ik9
    have lenv : vs.length = i := by rw [pg9.len, plen]
    refine ⟨_, rfl, .inl ⟨rfl, _, SqL.of efo9⟩, _, rfl, ft, _, _, _, rfl, rfl, SqT.of eft9, at0, _, rfl, ft, _, _, _, rfl, rfl, SqT.of eft9, at1, _, rfl, by show 3 ≤ sizeLine; decide, fun q3 hq3 => ?_⟩
    have g10 := Drawn.new (o := .tup [.ref pt9, dV d, bv']) g9.d hq3
    have ik10 := g10.ik g9.d
    have efo10 := g10.s _ _ nfo efo9
    refine ⟨fo, _, _, rfl, rfl, efo10, small1000 (by omega), ?_⟩
    have ikz := IK.lst (ys := vs ++ [.ref q3]) efo10
    have efoz : upd (upd H9 q3 (.tup [.ref pt9, dV d, bv'])) fo (.lst (vs ++ [.ref q3])) fl = some (.lst (xs ++ [.ref q2])) := (upd_ne nff).trans (g10.s _ _ nfl (g9.s _ _ nfl efl8))
    refine nx _ _ ⟨m, fl, fo, _, _, _, prog ++ [⟨ps, d, e'⟩], _, _, _, rfl, ((g08.trans g9).trans g10).put dr hfo, hm, hfl, hfo, nff, (upd_ne (ne_of (g10.s _ _ nm (g9.s _ _ nm em8)) efo10 (by intro z; cases z))).trans (g10.s _ _ nm (g9.s _ _ nm em8)), efoz, upd_same, ?_, ?_, ?_, ?_⟩
    · rw [facesOf, List.map_append]
      exact fi8.mono (((g9.tk g08.d).trans (g10.tk g9.d)).trans ikz.t)
    · exact ((pg9.mono ik10).mono ikz).snoc (ikz.t _ _ upd_same) ⟨pt9, o9, pvs9, rfl, ikz.f _ _ _ (ik10.f _ _ _ ept9), hdn9, (pin9.mono ik10.t).mono ikz.t⟩ ((ti9.mono ik10.t).mono ikz.t)
    · refine good.snoc (by omega) ⟨FO, ?_, by rw [plen]; exact se9, sz9, hh9⟩
      rw [facesOf, List.map_append]
      exact ty9
    · rw [List.length_append, plen]
      rfl
  · intro rest
    refine ⟨_, rfl, bv, e, rfl, ti, hh, few8, fun H9 s9 => ⟨_, _, rfl, rfl, _, rfl, ite2 (fun c => ?_) (fun c => ?_)⟩⟩
    · refine ite2 (fun _ => ?_) (fun z => absurd rfl z)
      obtain ⟨ft9, pt9, o9, pvs9, eq9, eft9, ept9, hdn9, pin9⟩ := (FI8.drawn (g08.d.drawn s9) g08.d).ex
      cases eq9
      obtain ⟨as, eas, prd⟩ := pin9.paired (K := K)
      refine ⟨_, rfl, _, rfl, ft, _, _, _, rfl, rfl, SqT.of eft9, at1, _, rfl, ft, _, _, _, rfl, rfl, SqT.of eft9, at0, pt9, o9, as, _, rfl, by rw [← eas]; exact ept9, hdn9, prd, fun kn hkn => ?_⟩
      have em0 : mergeK [] (ps.map kvOf) = ps.map kvOf := mergeK_kn (acc := []) FO.nd
      rw [em0]
      have gk := Drawn.new (o := .dK (ps.map kvOf)) ((g08.d.drawn s9)).d hkn
      refine ⟨facesOf prog ++ [(ps.map (·.2), d)] |>.take i, r, kn, d, envOf ps, rfl, gk.d, ⟨ps, upd_same, FO.kn⟩, by have := FO.hd; omega, FO.hd, fun lv HL le gL tL tyL hL zL => ?_⟩
      have hd3 := FO.hd
      refine rest _ HL ⟨lv, le, rfl, ((g08.d.drawn s9)).trans (gk.trans gL), tL, tyL.weak take_get fun _ _ z => z, ?_, by omega, by omega⟩
      rw [tyL.noself (by rw [List.length_take]; omega)]
      omega
    · have sz : e.size ≤ 60 := by
        have : ¬ (60 : Int) < (e.size : Int) := fun z => c (decide_eq_true z)
        omega
      have hp := e.hgt_pos
      refine ⟨_, rfl, bv, e, rfl, ti.mono (TK.of s9), hh, few8, fun H10 s10 => ⟨_, _, rfl, rfl, _, rfl, ite2 (fun c => ?_) (fun c => ?_)⟩⟩
      · have : (12 : Int) < ((e.hgt - 1 : Nat) : Int) := of_decide_eq_true c
        omega
      · exact rest _ H10 ⟨bv, e, rfl, g08.d.drawn (s9.trans s10), ti.mono (TK.of (s9.trans s10)), ty, se, sz, by omega⟩
end
section
variable {P : Program} {w : World} {K : PySem.W.Frag} {mg : Str → Option Value} {base : Heap} {f : Addr} {fd : FuncData} {k : Nat}
theorem ok_program (F : FnP K "_law_program" sLawProgram f fd) (O_taken : Okf P w K mg base CX0 k "_law_taken" ["_law_row", "_law_many"] (spTaken K)) (O_face : Okf P w K mg base CX0 k "_law_face" ["_law_row"] (spFace K))
    (O_body : Okf P w K mg base CX0 k "_law_body" ["_law_row", "_law_m", "_law_face_here", "_law_itself"] (spBodyE K)) (O_size : Okf P w K mg base CX0 k "_law_size" ["_law_tree_here"] (spSize K 12)) (O_within : Okf P w K mg base CX0 k "_law_within" ["_law_tree_here"] (spWithin K 12))
    (O_leaf : Okf P w K mg base CX0 k "_law_leaf" ["_law_row", "_law_depth", "_law_known"] (spLeafE K)) (z_dict : mg "dict" = none) (z_range : mg "range" = none) (z_tuple : mg "tuple" = none) : FnOk P w K mg base CX0 (k + 1) f fd ["_law_row", "_law_most"] (spProgram K) := by
  have sc := scsLawProgram
  refine F.ok sc (fun vs H Q E h => ?_) (fun cdv A outer s H vs Q E hr h => ?_)
  · obtain ⟨r, most, rfl, _⟩ := h
    rfl
  have hu := hu_of hr
  obtain ⟨r, most, rfl, dr, m1, m6, q⟩ := h
  obtain ⟨tb, pb, turn⟩ := prog_turn (cdv := cdv) (A := A) (outer := outer) (s := s) (H := H) (E := E) (f := f) (most := most) hr O_taken O_face O_body O_size O_within O_leaf z_dict z_range z_tuple dr
  refine ⟨_, PSs.nox (pss_cons (ps_set (i := 2) sc.nd rfl (.inl rfl) (pe_disp (pps_cons pe_str (pe_lst pa_nil) (pps_cons pe_str pe_int (pps_cons pe_str pe_int pps_nil))) (by rfl) (by rfl) (fun z => by cases z) (by decide)))
    (pss_cons (ps_set (i := 3) sc.nd rfl (.inl rfl) (pe_lst pa_nil))
    (pss_cons (ps_for PassesOwn.never rfl (pi_range1 rfl z_range (pa_cons (pe_op op_add pe_int (pe_c O_taken hr rfl pass0 (pa_cons (pv 0) (pa_cons (pv 1) pa_nil)))) pa_nil)) (pg_name (i := 4) sc.nd rfl (.inl rfl)) pb)
    (pss_one (ps_ret (pe_callTy (call_tupleK K) rfl z_tuple (by decide +kernel) (pa_cons (pv 3) pa_nil))))))), ?_⟩
  intro p hp
  refine ⟨by show 0 ≤ sizeLine; decide, fun fl hfl => ?_⟩
  have nfp : fl ≠ p := fun z => by
    rw [z, upd_same] at hfl
    cases hfl
  have hfl0 : H fl = none := by
    rw [upd_ne nfp] at hfl
    exact hfl
  refine ⟨(upd_ne nfp.symm).trans upd_same, [(Sum.inr "faces", .ref fl), (Sum.inr "own", .int 0), (Sum.inr "left", .int 0)], rfl, by show 3 ≤ 15; decide, ?_⟩
  have emg : mergeK [] ([(Sum.inr "faces", .ref fl), (Sum.inr "own", .int 0), (Sum.inr "left", .int 0)] : List (Key × V)) = ([(Sum.inr "faces", .ref fl), (Sum.inr "own", .int 0), (Sum.inr "left", .int 0)] : List (Key × V)) := by rfl
  rw [emg]
  have g1 : Drawn K r H (upd (upd (upd H p (.dK [])) fl (.lst [])) p (.dK [(Sum.inr "faces", .ref fl), (Sum.inr "own", .int 0), (Sum.inr "left", .int 0)])) := ((Drawn.new dr hp).put dr hfl0).put dr hp
  have em1 : upd (upd (upd H p (.dK [])) fl (.lst [])) p (.dK [(Sum.inr "faces", .ref fl), (Sum.inr "own", .int 0), (Sum.inr "left", .int 0)]) p = some (.dK [(Sum.inr "faces", .ref fl), (Sum.inr "own", .int 0), (Sum.inr "left", .int 0)]) := upd_same
  have efl1 : upd (upd (upd H p (.dK [])) fl (.lst [])) p (.dK [(Sum.inr "faces", .ref fl), (Sum.inr "own", .int 0), (Sum.inr "left", .int 0)]) fl = some (.lst []) := (upd_ne nfp).trans upd_same
  generalize upd (upd (upd H p (.dK [])) fl (.lst [])) p (.dK [(Sum.inr "faces", .ref fl), (Sum.inr "own", .int 0), (Sum.inr "left", .int 0)]) = H1 at g1 em1 efl1 ⊢
  refine ⟨by show 0 ≤ sizeLine; decide, fun fo hfo => ?_⟩
  have g2 := Drawn.new (o := .lst []) g1.d hfo
  have hfo0 : H fo = none := by
    cases e : H fo with
    | none => rfl
    | some u =>
      have := g1.s _ _ (Drawn.ne g1.d hfo) e
      rw [hfo] at this
      cases this
  refine ⟨_, rfl, _, rfl, r, most, rfl, g2.d, by omega, by omega, fun k0 H3 k0a k0b g3 => ⟨_, _, rfl, rfl, _, rfl, by omega, by omega, ?_⟩⟩
  have nm : p ≠ r.r := Drawn.ne dr hp
  have nfl : fl ≠ r.r := Drawn.ne dr hfl0
  have nfo : fo ≠ r.r := Drawn.ne dr hfo0
  have g23 := g2.trans g3
  refine for_range (lo := 0) (n := (1 + k0).toNat) (fun i σ H' => PI K r H most i σ H') ⟨p, fl, fo, [], [], .int 0, [], none, none, none, rfl, g1.trans g23, hp, hfl0, hfo0, ne_of_none efl1 hfo, g23.s _ _ nm em1, g23.s _ _ nfl efl1, g3.s _ _ nfo upd_same, .nil, .nil, ⟨Nat.zero_le _, fun i f hf => by simp at hf⟩, rfl⟩ ?_ ?_
  · intro i σ H4 hi pi
    have e0 : (0 : Int) + (i : Int) = (i : Int) := Int.zero_add _
    dsimp only [gName]
    rw [e0]
    exact turn _ i σ H4 (by omega) pi fun σ' H'' z => z
  · rintro σ H4 ⟨m, fl', fo', xs, vs, ow, prog, x4, x5, x6, rfl, g4, _, _, hfo4, _, _, _, efo, fi, pg, good, plen⟩
    refine ⟨_, rfl, fo', _, rfl, .inl ⟨SqL.of efo, fun l hl => ?_⟩⟩
    have g5 := Drawn.new (o := .tup vs) g4.d hl
    exact q l _ vs prog (g4.trans g5) upd_same (pg.mono (g5.ik g4.d)) good (by omega) (by omega)
end
end NR
set_option maxHeartbeats 4000000
namespace NR
open PySem PySem.Spec PyProof.Rows L2

theorem cov_ix {ps : List (Int × Nat)} (nd : (ps.map (·.1)).Nodup) : Cov (envOf ps) (envOf (ix ps)) := fun x d h => by
  obtain ⟨i, hi, e⟩ := List.mem_iff_getElem.mp (envOf_some h)
  have hg : ps[i]? = some (x, d) := by rw [List.getElem?_eq_getElem hi, e]
  exact ⟨i, envOf_mem (by rw [ix_fst]; exact nd) (List.mem_of_getElem? (ix_get hg))⟩
theorem Good.cds {prog : List Fn} (g : Good prog) {fm : List (List (Int × Nat) × Nd)} (n : Nds prog fm) : ∃ cds, Cds prog fm cds := by
  have key : ∀ i : Nat, ∃ c : List Row × Nat, ∀ (f : Fn) (nd : Nd), prog[i]? = some f → fm[i]? = some (f.ps, nd) → ∃ r', Lay nd (envOf (ix f.ps)) f.ps.length c.1 c.2 r' := fun i => by
    cases hf : prog[i]? with
    | none => exact ⟨([], 0), fun f nd h => by cases h⟩
    | some f =>
      obtain ⟨nd, h1, h2, _⟩ := n.at_ i f hf
      obtain ⟨rs, t, r', l⟩ := h2.lay (envOf (ix f.ps)) (cov_ix (g.fn i f hf).1.nd) f.ps.length
      refine ⟨(rs, t), fun f' nd' h h' => ?_⟩
      cases h
      rw [h1] at h'
      cases h'
      exact ⟨r', l⟩
  obtain ⟨c, hc⟩ := Classical.axiomOfChoice key
  refine ⟨(List.range prog.length).map c, by simp, fun i f nd hf hn => ?_⟩
  obtain ⟨r', l⟩ := hc i f nd hf hn
  have hi : i < prog.length := (List.getElem?_eq_some_iff.mp hf).1
  exact ⟨(c i).1, (c i).2, r', by rw [List.getElem?_map, List.getElem?_range hi]; rfl, l⟩
theorem Cds.dh {prog : List Fn} {fm : List (List (Int × Nat) × Nd)} {cds : List (List Row × Nat)} (g : Good prog) (n : Nds prog fm) (c : Cds prog fm cds) : (Da.seq true (cds.map cdDa)).hgt ≤ 30 := by
  show 1 + dhgts (cds.map cdDa) ≤ 30
  have := dhgts_le (n := 29) (cds.map cdDa) fun d hd => by
    obtain ⟨x, hx, rfl⟩ := List.mem_map.mp hd
    obtain ⟨i, hi, rfl⟩ := List.mem_iff_getElem.mp hx
    have hip : i < prog.length := by rw [← c.len]; exact hi
    have hf := List.getElem?_eq_getElem hip
    obtain ⟨nd, h1, h2, _⟩ := n.at_ i _ hf
    obtain ⟨rs, t, r', e, l⟩ := c.at_ i _ nd hf h1
    rw [List.getElem?_eq_getElem hi] at e
    have e := Option.some.inj e
    rw [e]
    have hd := l.dh
    have hs := h2.sz
    have := (g.fn i _ hf).2.2.2.2
    simp only [cdDa, Da.hgt, dhgts, nDa]
    omega
  omega
def spLaw (K : PySem.W.Frag) : Sp := fun vs H Q _ => ∃ (a : Addr) (ns : List Int), vs = [.ref a] ∧ SqL K H a (ns.map V.int) ∧ ∀ H', Q (.bl true) H'
abbrev sLaw : Stmt := top 84
theorem scsLaw : FnScope ["_law_script", "_law_row", "_law_turn", "_law_program_here", "_law_text_here", "_law_found"] ["_law_script"] (defScope sLaw) := ⟨rfl, rfl, rfl, by decide +kernel, rfl, by decide +kernel, by decide +kernel⟩
section
variable {P : Program} {w : World} {K : PySem.W.Frag} {mg : Str → Option Value} {base : Heap} {f : Addr} {fd : FuncData}

theorem ok_law {k : Nat} (F : FnP K "law" sLaw f fd) (O_program : Okf P w K mg base CX0 k "_law_program" ["_law_row", "_law_most"] (spProgram K)) (O_text : Okf P w K mg base CX0 k "_law_text" ["_law_program_here"] spText) (O_read : Okf P w K mg base CX0 k "read" ["text"] spRead) (O_written : Okf P w K mg base CX0 k "written" ["program"] spWrit) (O_flat : Okf P w K mg base CX0 k "flat" ["program"] (spFlat K)) (O_alike : Okf P w K mg base CX0 k "_law_alike" ["_law_found", "_law_due"] (spAlike K 30)) (z_range : mg "range" = none) : FnOk P w K mg base CX0 (k + 1) f fd ["_law_script"] (spLaw K) := by
  have sc := scsLaw
  refine F.ok sc (fun vs H Q E h => ?_) (fun cdv A outer s H vs Q E hr h => ?_)
  · obtain ⟨a, ns, rfl, _⟩ := h
    rfl
  have hu := hu_of hr
  obtain ⟨a, ns, rfl, ha, q⟩ := h
  have big : 1000 ≤ sizeLine := by decide
  refine ⟨_, PSs.nox (pss_cons (ps_set (i := 1) sc.nd rfl (.inl rfl) (pe_lst (pa_cons (pv 0) (pa_cons pe_int (pa_cons pe_int (pa_cons pe_int pa_nil))))))
    (pss_cons (ps_for PassesOwn.never rfl (pi_range1 rfl z_range (pa_cons pe_int pa_nil)) (pg_name (i := 2) sc.nd rfl (.inl rfl)) (pss_cons (ps_set (i := 3) sc.nd rfl (.inl rfl) (pe_c O_program hr rfl pass0 (pa_cons (pv 1) (pa_cons pe_int pa_nil))))
    (pss_cons (ps_set (i := 4) sc.nd rfl (.inl rfl) (pe_c O_text hr rfl pass0 (pa_cons (pv 3) pa_nil)))
    (pss_cons (ps_set (i := 5) sc.nd rfl (.inl rfl) (pe_c O_read hr rfl pass0 (pa_cons (pv 4) pa_nil)))
    (pss_cons (ps_if (PW.pt (pw_or (pt_not (pt_val (pe_c O_alike hr rfl pass0 (pa_cons (pe_c O_written hr rfl pass0 (pa_cons (pv 3) pa_nil)) (pa_cons (pv 4) pa_nil))))) (pw_or1 (pt_not (pt_val (pe_c O_alike hr rfl pass0 (pa_cons (pv 5) (pa_cons (pv 3) pa_nil)))))))) (pss_one (ps_ret pe_bl)) pss_nil)
    (pss_one (ps_if (PW.pt (pw_or (pt_cmpR op_ne (pe_c O_written hr rfl pass0 (pa_cons (pv 5) pa_nil)) (pv 4) (nomark _)) (pw_or1 (pt_cmpR (op_neDK K hr.units) (pe_c O_flat hr rfl pass0 (pa_cons (pv 5) pa_nil)) (pe_c O_flat hr rfl pass0 (pa_cons (pv 3) pa_nil)) (nomark _))))) (pss_one (ps_ret pe_bl)) pss_nil)))))))
    (pss_one (ps_ret pe_bl)))), ?_⟩
  refine ⟨_, rfl, by show 4 ≤ sizeLine; decide, fun rw_ hrw => ?_⟩
  have apt : Apt K ⟨rw_, a, ns⟩ := by
    rcases ha with (h | ⟨o, h⟩) | h
    · exact .inl (ne_of_none h hrw)
    · exact .inl (ne_of_none h hrw)
    · exact .inr fun H => .inr h
  have d0 : Draw K ⟨rw_, a, ns⟩ (upd H rw_ (.lst [.ref a, .int 0, .int 0, .int 0])) := ⟨0, 0, 0, upd_same, (same_new hrw _).seq ha, apt, by decide, by decide, by decide⟩
  generalize upd H rw_ (.lst [.ref a, .int 0, .int 0, .int 0]) = H0 at d0 ⊢
  refine ⟨_, rfl, by decide, by decide, for_range (lo := 0) (n := 5) (fun i σ H' => ∃ x2 x3 x4 x5 : Option V, σ = [some (.ref a), some (.ref rw_), x2, x3, x4, x5] ∧ Draw K ⟨rw_, a, ns⟩ H') ⟨none, none, none, none, rfl, d0⟩ ?_ ?_⟩
  · rintro i σ H1 hi ⟨x2, x3, x4, x5, rfl, d1⟩
    refine ⟨_, rfl, ⟨rw_, a, ns⟩, 6, rfl, d1, by decide, by decide, fun pa H2 us prog dn hpa pg good l1 l6 => ?_⟩
    obtain ⟨fm, nds⟩ := good.nds
    obtain ⟨cds, cs⟩ := good.cds nds
    have hdh := cs.dh good nds
    have ft := good.fnT
    have hph := prog_hgt ft
    have hul := pg.len
    have hcl := cs.len
    have few := good.few
    refine ⟨_, rfl, pa, us, prog, rfl, hpa, pg, few, ft, fun H3 s3 => ?_⟩
    refine ⟨_, rfl, prog, rfl, good, l1, fun H4 pb us' s4 hpb pg' => ?_⟩
    have s24 := s3.trans s4
    have hul' := pg'.len
    have hpa4 := s24 _ _ hpa
    have pg4 := pg.mono (IK.of s24)
    refine ⟨_, rfl, pa, us, prog, rfl, hpa4, pg4, good, l1, fun H5 s5 => ?_⟩
    refine ⟨_, rfl, .str (progText prog), .str (progText prog), .str (progText prog), rfl, .str, .str, by show 1 ≤ 30; decide, fun H6 s6 => ?_⟩
    refine ⟨_, rfl, ite2 (fun z => absurd z (by decide)) (fun _ => ?_)⟩
    have s46 := s5.trans s6
    have dA : DIn H4 (.ref pa) (.seq false (prog.map fnDa)) := .tup hpa4 (by omega) (pg4.dins ft)
    have dB : DIn H4 (.ref pb) (.seq false (prog.map fnDa)) := .tup hpb (by omega) (pg'.dins ft)
    refine ⟨_, rfl, _, rfl, .ref pb, .ref pa, .seq false (prog.map fnDa), rfl, dB.same s46, dA.same s46, hph, fun H7 s7 => ?_⟩
    refine ⟨_, rfl, ite2 (fun z => absurd z (by decide)) (fun _ => ?_)⟩
    have s47 := s46.trans s7
    refine ⟨_, rfl, pb, us', prog, rfl, s47 _ _ hpb, pg'.mono (IK.of s47), good, l1, fun H8 s8 => ?_⟩
    have s48 := s47.trans s8
    have dT : decide (V.str (progText prog) = V.str (progText prog)) = true := decide_eq_true rfl
    refine ⟨_, rfl, rfl, ?_⟩
    rw [dT]
    refine ⟨_, rfl, ite2 (fun z => absurd z (by decide)) (fun _ => ?_)⟩
    refine ⟨_, rfl, pb, us', prog, fm, cds, rfl, s48 _ _ hpb, pg'.mono (IK.of s48), good, l1, nds, cs, fun H9 la ys s9 hla ela dya => ?_⟩
    have s49 := s48.trans s9
    refine ⟨_, rfl, pa, us, prog, fm, cds, rfl, s49 _ _ hpa4, pg4.mono (IK.of s49), good, l1, nds, cs, fun H10 lb zs s10 hlb elb dyb => ?_⟩
    have hyl := dya.len
    have hzl := dyb.len
    rw [List.length_map] at hyl hzl
    have dL : DIn H10 (.ref la) (.seq true (cds.map cdDa)) := DIn.same s10 (.seq (.inl ⟨rfl, ela⟩) (by omega) dya)
    have dR : DIn H10 (.ref lb) (.seq true (cds.map cdDa)) := .seq (.inl ⟨rfl, elb⟩) (by omega) dyb
    have hs : (Da.seq true (cds.map cdDa)).sok := cds_sok cds
    have hsh := Da.shp hs hdh
    refine ⟨_, _, dL.dp, dR.dp, hsh, hsh, ?_⟩
    rw [PySem.SeqAt.eqv_refl _ (Da.can _ hs)]
    refine ⟨_, rfl, ite2 (fun z => absurd z (by decide)) (fun _ => ?_)⟩
    exact ⟨_, _, _, _, rfl, Draw.same dn.d (s24.trans (s49.trans s10))⟩
  · rintro σ H1 ⟨x2, x3, x4, x5, rfl, d1⟩
    exact q _
end
end NR
set_option maxHeartbeats 4000000
namespace NR
open PySem PySem.Spec PyProof.Rows L2
abbrev sLawLeaf : Stmt := top 74
theorem scsLawLeaf : FnScope ["_law_row", "_law_depth", "_law_known", "_law_some", "_law_name"] ["_law_row", "_law_depth", "_law_known"] (defScope sLawLeaf) := ⟨rfl, rfl, rfl, by decide +kernel, rfl, by decide +kernel, by decide +kernel⟩
section
variable {P : Program} {w : World} {K : PySem.W.Frag} {mg : Str → Option Value} {base : Heap} {f : Addr} {fd : FuncData}

theorem ok_leaf_step {n : Nat} {fs : List (List Nat × Nat)} (F : FnP K "_law_leaf" sLawLeaf f fd) (O_taken : Okf P w K mg base CX0 (n + 1) "_law_taken" ["_law_row", "_law_many"] (spTaken K))
    (O_leaf : Okf P w K mg base CX0 (n + 1) "_law_leaf" ["_law_row", "_law_depth", "_law_known"] (spLeaf K fs n)) (z_len : mg "len" = none) (z_sorted : mg "sorted" = none) :
    FnOk P w K mg base CX0 (n + 2) f fd ["_law_row", "_law_depth", "_law_known"] (spLeaf K fs (n + 1)) := by
  have sc := scsLawLeaf
  refine F.ok sc (fun vs H Q E h => ?_) (fun cdv A outer s H vs Q E hr h => ?_)
  · obtain ⟨r, a, d, ρ, rfl, _⟩ := h
    rfl
  have hu := hu_of hr
  obtain ⟨r, kn, d, ρ, rfl, dr, kw, hd, h3, q⟩ := h
  obtain ⟨l, ekn, ok⟩ := kw
  refine ⟨_, (pss_cons (ps_set (i := 3) sc.nd rfl (.inl rfl) (pe_callB (cr_sortedK K) rfl z_sorted (by decide +kernel) (pa_cons (pe_lock (pe_lc (own := [("_law_name", 4)]) (by rfl) sc.nd (pi_keys (pv 2)) (blkOk_by (own := [("_law_name", 4)]) (N := ["_law_row", "_law_depth", "_law_known", "_law_some", "_law_name"]) (sc := defScope sLawLeaf) (by decide +kernel)) (fun _ _ _ _ _ => (pg_name (i := 4) sc.nd rfl (.inl rfl))) (fun _ _ _ _ _ => (pts_one (pt_cmpR op_eq (pe_dget hu (pv 2) (pv 4) (fun _ _ => rfl)) (pv 1) (nomark _)))) (fun _ _ _ _ _ => (pv 4)))) pa_nil)))
    (pss_cons (ps_if (PW.pt (pw_and (pt_cmpR (op_neDK K hr.units) (pv 3) (pe_lst pa_nil) (nomark _)) (pw_and1 (pt_cmpR op_gt (pe_c O_taken hr rfl pass0 (pa_cons (pv 0) (pa_cons pe_int pa_nil))) pe_int (nomark _))))) (pss_one (ps_ret (pe_tup (pa_cons pe_str (pa_cons (pe_ix (ix_listK K) (pv 3) (pe_c O_taken hr rfl pass0 (pa_cons (pv 0) (pa_cons (pe_callB (call_lenK K) rfl z_len PySem.boot_len (pa_cons (pv 3) pa_nil)) pa_nil))) (fun _ _ => rfl)) pa_nil))))) pss_nil)
    (pss_cons (ps_if (pt_cmpR op_eq (pv 1) pe_int (nomark _)) (pss_one (ps_ret (pe_tup (pa_cons pe_str (pa_cons (pe_ix (ix_listK K) (pe_lst (pa_cons (pe_c O_taken hr rfl pass0 (pa_cons (pv 0) (pa_cons pe_int pa_nil))) (pa_cons (pe_c O_taken hr rfl pass0 (pa_cons (pv 0) (pa_cons pe_int pa_nil))) (pa_cons (pe_c O_taken hr rfl pass0 (pa_cons (pv 0) (pa_cons pe_int pa_nil))) pa_nil)))) (pe_c O_taken hr rfl pass0 (pa_cons (pv 0) (pa_cons pe_int pa_nil))) (fun _ _ => rfl)) pa_nil))))) pss_nil)
    (pss_cons (ps_if (PW.pt (pw_and (pt_cmpR op_eq (pv 1) pe_int (nomark _)) (pw_and1 (pt_cmpR op_eq (pe_c O_taken hr rfl pass0 (pa_cons (pv 0) (pa_cons pe_int pa_nil))) pe_int (nomark _))))) (pss_one (ps_ret (pe_tup (pa_cons pe_str (pa_cons (pe_tup (pa_cons pe_str (pa_cons (pe_c O_taken hr rfl pass0 (pa_cons (pv 0) (pa_cons pe_int pa_nil))) pa_nil))) pa_nil))))) pss_nil)
    (pss_one (ps_ret (pe_tup (pa_cons pe_str (pa_cons (pe_c O_leaf hr rfl pass0 (pa_cons (pv 0) (pa_cons (pe_op op_sub (pv 1) pe_int) (pa_cons (pv 2) pa_nil)))) pa_nil))))))))), ?_⟩
  refine ⟨kn, _, ekn, trivial, fun od => ⟨_, rfl, kn, od, rfl, .inl ⟨_, upd_same, fun D hD => ?_⟩⟩⟩
  have hDk : D ≠ kn := fun z => by
    rw [z, upd_same] at hD
    cases hD
  have hD0 : H D = none := by
    rw [upd_ne hDk] at hD
    exact hD
  refine lc_it walk_keys (fun i H' => ∃ ns : List Int, H' = upd (upd H kn (.frz od (.dK (l.map kvOf)))) D (.lst (ns.map V.int)) ∧ ns.length ≤ i ∧ ∀ x ∈ ns, (x, d) ∈ l) ⟨[], rfl, Nat.le_refl _, fun x hx => by cases hx⟩ ?_ ?_ ?_
  · rintro i H' hi ⟨ns, rfl, _⟩
    rw [upd_ne hDk.symm, upd_same]
  · rintro i x H1 H2 hi ⟨ns, rfl, hl, hns⟩ ⟨rfl, k, v, hk, rfl⟩
    rw [List.length_map] at hi
    rw [List.getElem?_map, List.getElem?_eq_getElem hi] at hk
    have hk2 : kvOf l[i] = (k, v) := Option.some.inj hk
    have hm : l[i] ∈ l := List.getElem_mem hi
    cases hk2
    refine ⟨rfl, ?_⟩
    refine ⟨_, rfl, _, rfl, kn, _, rfl, .inl ⟨_, Sum.inl l[i].1, .inr ⟨od, by rw [upd_ne hDk.symm, upd_same]⟩, rfl, (valV_kn (d := l[i].2) ok.nd hm).symm⟩, _, rfl, rfl, _, rfl, ?_⟩
    refine ite2 (fun c => ?_) (fun c => ?_)
    · have c1 : V.int (l[i].2 : Int) = V.int (d : Int) := of_decide_eq_true c
      have c2 : l[i].2 = d := by
        injection c1 with c1
        omega
      refine ⟨_, rfl, _, upd_same, ?_, ns ++ [l[i].1], ?_, ?_, ?_⟩
      · rw [List.length_map]
        have := ok.few
        exact small1000 (by omega)
      · rw [upd_upd, List.map_append]
        rfl
      · rw [List.length_append]
        exact Nat.succ_le_succ hl
      · intro x hx
        rcases List.mem_append.mp hx with hx | hx
        · exact hns x hx
        · rw [List.mem_singleton.mp hx, ← c2]
          exact hm
    · exact ⟨ns, rfl, Nat.le_succ_of_le hl, hns⟩
  rintro H1 ⟨ns, rfl, hl, hns⟩
  rw [List.length_map] at hl
  refine ⟨by rw [upd_ne hDk.symm, upd_same], ?_⟩
  have hf := ok.few
  generalize eH1 : upd (upd (upd H kn (.frz od (.dK (l.map kvOf)))) D (.lst (ns.map V.int))) kn (.dK (l.map kvOf)) = H1
  have s1 : Same H H1 := fun b o hb => by
    rw [← eH1]
    by_cases e : b = kn
    · rw [e, upd_same, ← ekn, ← e]
      exact hb
    · rw [upd_ne e, upd_ne (ne_of_none hb hD0), upd_ne e]
      exact hb
  have eD : H1 D = some (.lst (ns.map V.int)) := by
    rw [← eH1, upd_ne hDk, upd_same]
  refine ⟨D, ns, rfl, SqL.of eD, by omega, fun ns' p pm _ hp => ?_⟩
  have s2 : Same H (upd H1 p (.lst (ns'.map V.int))) := s1.trans (same_new hp _)
  have hmem : ∀ x ∈ ns', (x, d) ∈ l := fun x hx => hns x (pm.mem_iff.mp hx)
  have hlen : ns'.length ≤ 20 := by
    rw [pm.length_eq]
    omega
  have kn2 : Known (upd H1 p (.lst (ns'.map V.int))) kn ρ := ⟨l, s2 _ _ ekn, ok⟩
  have ep : upd H1 p (.lst (ns'.map V.int)) p = some (.lst (ns'.map V.int)) := upd_same
  generalize upd H1 p (.lst (ns'.map V.int)) = H2 at s2 kn2 ep ⊢
  have d2 : Draw K r H2 := dr.same s2
  have g2 : Drawn K r H H2 := dr.drawn s2
  dsimp only [gName]
  refine if_rest (fun H3 => Drawn K r H2 H3) (fun H3 g3 => ?_) (fun rest => ?_)
  · have d3 := g3.d
    have kn3 := g3.known d2 kn2
    have g3' := g2.trans g3
    refine ⟨_, rfl, rfl, _, rfl, ?_⟩
    refine ite2 (fun c => ?_) (fun c => ?_)
    · have c1 : V.int (d : Int) = V.int 0 := of_decide_eq_true c
      have c2 : d = 0 := by
        injection c1 with c1
        omega
      subst c2
      refine ⟨_, rfl, r, 4, rfl, d3, by decide, by decide, fun k1 H4 a1 b1 g4 => ⟨_, rfl, r, 4, rfl, g4.d, by decide, by decide, fun k2 H5 a2 b2 g5 => ⟨_, rfl, r, 10007, rfl, g5.d, by decide, by decide, fun k3 H6 a3 b3 g6 => ?_⟩⟩⟩
      refine ⟨by show 3 ≤ sizeLine; decide, fun t ht => ⟨_, rfl, r, 3, rfl, (Drawn.new g6.d ht).d, by decide, by decide, fun k4 H7 a4 b4 g7 => ?_⟩⟩
      have gt := Drawn.new (o := .lst [.int k1, .int k2, .int k3]) g6.d ht
      have et : H7 t = some (.lst [.int k1, .int k2, .int k3]) := by
        obtain ⟨o, ho⟩ := g6.d.ref
        exact g7.s _ _ (fun z => by
          rw [z, ho] at ht
          cases ht) upd_same
      have hv : ∃ n : Int, atI [V.int k1, V.int k2, V.int k3] k4 = some (.int n) ∧ 0 ≤ n ∧ n ≤ 10006 := by
        have hk : k4 = 0 ∨ k4 = 1 ∨ k4 = 2 := by omega
        rcases hk with rfl | rfl | rfl
        · exact ⟨k1, rfl, a1, by omega⟩
        · exact ⟨k2, rfl, a2, by omega⟩
        · exact ⟨k3, rfl, a3, by omega⟩
      obtain ⟨n, hn, n0, n1⟩ := hv
      refine ⟨t, _, _, _, rfl, rfl, SqL.of et, hn, by show 2 ≤ sizeLine; decide, fun p2 hp2 => ?_⟩
      refine q _ _ (.node .num n []) (((((g3'.trans g4).trans g5).trans g6).trans (gt.trans g7)).trans (Drawn.new g7.d hp2)) (.leaf rfl upd_same) (.num n0 n1) ?_ ?_
      · simp [Ex.hgt, hgts]
      · simp [Ex.size, sizes]
    · have c2 : d ≠ 0 := fun z => c (decide_eq_true (by rw [z]; rfl))
      obtain ⟨e, rfl⟩ : ∃ e, d = e + 1 := ⟨d - 1, by omega⟩
      dsimp only [tNext]
      refine if_rest (fun H4 => Drawn K r H3 H4) (fun H4 g4 => ?_) (fun rest2 => ?_)
      · refine ⟨_, rfl, _, rfl, _, _, rfl, rfl, _, rfl, r, kn, e, ρ, by show [V.ref r, V.int (((e + 1 : Nat) : Int) - 1), V.ref kn] = _; rw [show (((e + 1 : Nat) : Int) - 1) = (e : Int) by omega], g4.d, g4.known d3 kn3, by omega, by omega, fun v H5 x g5 ti ty hh hz => ?_⟩
        refine ⟨by show 2 ≤ sizeLine; decide, fun p2 hp2 => ?_⟩
        refine q _ _ (.node .one (-1) [x]) (((g3'.trans g4).trans g5).trans (Drawn.new g5.d hp2)) (.bare rfl upd_same (.cons (ti.mono (TK.of (same_new hp2 _))) .nil)) (.one ty (by omega)) ?_ ?_
        · simp only [Ex.hgt, hgts]
          omega
        · simp only [Ex.size, sizes]
          omega
      · refine ⟨_, rfl, rfl, _, rfl, ?_⟩
        refine ite2 (fun c => ?_) (fun c => ?_)
        · have c1 : V.int ((e + 1 : Nat) : Int) = V.int 1 := of_decide_eq_true c
          have c2 : e = 0 := by
            injection c1 with c1
            omega
          subst c2
          refine ⟨_, rfl, r, 2, rfl, d3, by decide, by decide, fun k1 H4 a1 b1 g4 => ⟨rfl, _, rfl, ?_⟩⟩
          refine ite2 (fun c => ?_) (fun c => rest2 H4 g4)
          refine ⟨_, rfl, r, 5, rfl, g4.d, by decide, by decide, fun k2 H5 a2 b2 g5 => ⟨by show 2 ≤ sizeLine; decide, fun p2 hp2 => ⟨by show 2 ≤ sizeLine; decide, fun p3 hp3 => ?_⟩⟩⟩
          have g6 := Drawn.new (o := .tup [.str "num", .int k2]) g5.d hp2
          refine q _ _ (.node .upto (-1) [.node .num k2 []]) ((((g3'.trans g4).trans g5).trans g6).trans (Drawn.new g6.d hp3)) (.bare rfl upd_same (.cons (.leaf rfl ((same_new hp3 _) _ _ upd_same)) .nil)) (.upto (.num a2 (by omega))) ?_ ?_
          · simp [Ex.hgt, hgts]
          · simp [Ex.size, sizes]
        · exact ite2 (fun z => nomatch z) (fun _ => rest2 H3 (.refl d3))
  · refine ⟨_, rfl, by show 0 ≤ sizeLine; decide, fun e0 he0 => ⟨.list (ns'.map PyData.int), .list [], .lst (SqL.of (same_new he0 _ _ _ ep)) (dpInts ns'), .lst (SqL.of upd_same) .nil, ?_, rfl, _, rfl, ?_⟩⟩
    · exact shapedInts ns'
    cases ns' with
    | nil =>
      refine ite2 (fun c => ?_) (fun c => ?_)
      · exact absurd c (by decide)
      · exact ite2 (fun z => nomatch z) (fun _ => rest _ (Drawn.new d2 he0))
    | cons y ys =>
      have g3 := Drawn.new (o := .lst []) d2 he0
      refine ite2 (fun c => ?_) (fun c => ?_)
      · refine ⟨_, rfl, r, 5, rfl, g3.d, by decide, by decide, fun k1 H4 a1 b1 g4 => ⟨_, _, rfl, rfl, _, rfl, ?_⟩⟩
        refine ite2 (fun c => ?_) (fun c => rest H4 (g3.trans g4))
        obtain ⟨rp, rx, rl, rr, _⟩ := d2.ex
        have np : p ≠ r.r := ne_of ep rr (by intro z; cases z)
        have ep4 : H4 p = some (.lst ((y :: ys).map V.int)) := g4.s _ _ np (g3.s _ _ np ep)
        have hl0 : ((y :: ys).map V.int).length = ys.length + 1 := by simp
        refine ⟨_, rfl, _, rfl, _, rfl, p, _, rfl, .inl (SqL.of ep4), r, _, rfl, g4.d, by rw [hl0]; omega, by rw [hl0]; simp only [List.length_cons] at hlen; omega, fun k2 H5 a2 b2 g5 => ?_⟩
        rw [hl0] at b2
        have ep5 : H5 p = some (.lst ((y :: ys).map V.int)) := g5.s _ _ np ep4
        have hk : k2.toNat < (y :: ys).length := by
          simp only [List.length_cons]
          omega
        have ev : atI ((y :: ys).map V.int) k2 = some (.int (y :: ys)[k2.toNat]) := by
          have ek : k2 = ((k2.toNat : Nat) : Int) := by omega
          have := atI_nat (xs := (y :: ys).map V.int) (j := k2.toNat) (v := .int (y :: ys)[k2.toNat]) (by rw [List.getElem?_map, List.getElem?_eq_getElem hk]; rfl)
          rw [← ek] at this
          exact this
        have hm : ((y :: ys)[k2.toNat], d) ∈ l := hmem _ (List.getElem_mem hk)
        have lo := ok.lo _ hm
        refine ⟨p, _, _, _, rfl, rfl, SqL.of ep5, ev, by show 2 ≤ sizeLine; decide, fun p2 hp2 => ?_⟩
        refine q _ _ (.node .name (y :: ys)[k2.toNat] []) (((g2.trans g3).trans g4).trans (g5.trans (Drawn.new g5.d hp2))) (.leaf rfl upd_same) (.name lo.1 lo.2.1 (ok.ok _ hm) h3) ?_ ?_
        · simp only [Ex.hgt, hgts]
          omega
        · simp only [Ex.size, sizes]
          omega
      · exact ite2 (fun z => nomatch z) (fun _ => rest _ g3)
end
end NR
set_option maxHeartbeats 4000000
namespace NR
open PySem PySem.Spec PyProof.Rows L2
abbrev sLawNumber : Stmt := top 75
theorem scsLawNumber : FnScope ["_law_row", "_law_m", "_law_deep", "_law_known", "_law_way", "_law_word"] ["_law_row", "_law_m", "_law_deep", "_law_known"] (defScope sLawNumber) := ⟨rfl, rfl, rfl, by decide +kernel, rfl, by decide +kernel, by decide +kernel⟩
section
variable {P : Program} {w : World} {K : PySem.W.Frag} {mg : Str → Option Value} {base : Heap} {f : Addr} {fd : FuncData}

theorem ok_number {n k : Nat} {fs : List (List Nat × Nat)} {own : Nat} (F : FnP K "_law_number" sLawNumber f fd) (O_taken : Okf P w K mg base CX0 k "_law_taken" ["_law_row", "_law_many"] (spTaken K))
    (O_tree : Okf P w K mg base CX0 k "_law_tree" ["_law_row", "_law_m", "_law_depth", "_law_deep", "_law_known"] (spTree K fs own n))
    (O_any : Okf P w K mg base CX0 k "_law_any" ["_law_row", "_law_m", "_law_depth", "_law_deep", "_law_known"] (spAny K fs own (n + 1))) :
    FnOk P w K mg base CX0 (k + 1) f fd ["_law_row", "_law_m", "_law_deep", "_law_known"] (spNumber K fs own (n + 1)) := by
  have sc := scsLawNumber
  refine F.ok sc (fun vs H Q E h => ?_) (fun cdv A outer s H vs Q E hr h => ?_)
  · obtain ⟨r, m, a, deep, ρ, rfl, _⟩ := h
    rfl
  obtain ⟨r, m, a, deep, ρ, rfl, dr, G, kw, h1, h2, q⟩ := h
  refine ⟨_, (pss_cons (ps_set (i := 4) sc.nd rfl (.inl rfl) (pe_c O_taken hr rfl pass0 (pa_cons (pv 0) (pa_cons pe_int pa_nil))))
    (pss_cons (ps_if (pt_cmpR op_lt (pv 4) pe_int (nomark _)) (pss_cons (ps_set (i := 5) sc.nd rfl (.inl rfl) (pe_ix (ix_listK K) (pe_lst (pa_cons pe_str (pa_cons pe_str (pa_cons pe_str (pa_cons pe_str (pa_cons pe_str pa_nil)))))) (pv 4) (fun _ _ => rfl)))
    (pss_one (ps_ret (pe_tup (pa_cons (pv 5) (pa_cons (pe_c O_tree hr rfl pass0 (pa_cons (pv 0) (pa_cons (pv 1) (pa_cons pe_int (pa_cons (pe_op op_sub (pv 2) pe_int) (pa_cons (pv 3) pa_nil)))))) (pa_cons (pe_c O_tree hr rfl pass0 (pa_cons (pv 0) (pa_cons (pv 1) (pa_cons pe_int (pa_cons (pe_op op_sub (pv 2) pe_int) (pa_cons (pv 3) pa_nil)))))) pa_nil))))))) pss_nil)
    (pss_cons (ps_if (pt_cmpR op_lt (pv 4) pe_int (nomark _)) (pss_one (ps_ret (pe_tup (pa_cons pe_str (pa_cons (pe_c O_tree hr rfl pass0 (pa_cons (pv 0) (pa_cons (pv 1) (pa_cons (pe_op op_add pe_int (pe_c O_taken hr rfl pass0 (pa_cons (pv 0) (pa_cons pe_int pa_nil)))) (pa_cons (pe_op op_sub (pv 2) pe_int) (pa_cons (pv 3) pa_nil)))))) pa_nil))))) pss_nil)
    (pss_cons (ps_if (pt_cmpR op_lt (pv 4) pe_int (nomark _)) (pss_one (ps_ret (pe_tup (pa_cons pe_str (pa_cons (pe_c O_tree hr rfl pass0 (pa_cons (pv 0) (pa_cons (pv 1) (pa_cons pe_int (pa_cons (pe_op op_sub (pv 2) pe_int) (pa_cons (pv 3) pa_nil)))))) pa_nil))))) pss_nil)
    (pss_one (ps_ret (pe_c O_any hr rfl pass0 (pa_cons (pv 0) (pa_cons (pv 1) (pa_cons pe_int (pa_cons (pv 2) (pa_cons (pv 3) pa_nil)))))))))))), ?_⟩
  refine ⟨_, rfl, r, 12, rfl, dr, by decide, by decide, fun k0 H1 k0a k0b g1 => ?_⟩
  have d1 := g1.d
  have G1 := g1.gen dr G
  have kw1 := g1.known dr kw
  refine ⟨_, rfl, _, _, rfl, rfl, _, rfl, ite2 (fun c => ?_) (fun c => ?_)⟩
  · have c1 : k0 < 5 := of_decide_eq_true c
    refine ⟨by show 5 ≤ sizeLine; decide, fun p hp => ?_⟩
    have g2 := Drawn.new (o := .lst [.str "plus", .str "minus", .str "times", .str "less", .str "same"]) d1 hp
    have G2 := g2.gen d1 G1
    have kw2 := g2.known d1 kw1
    obtain ⟨wd, hw, hat⟩ : ∃ wd : W, (wd = .plus ∨ wd = .minus ∨ wd = .times ∨ wd = .less ∨ wd = .same) ∧ atI [V.str "plus", V.str "minus", V.str "times", V.str "less", V.str "same"] k0 = some (.str wd.str) := by
      have hk : k0 = 0 ∨ k0 = 1 ∨ k0 = 2 ∨ k0 = 3 ∨ k0 = 4 := by omega
      rcases hk with rfl | rfl | rfl | rfl | rfl
      · exact ⟨.plus, by simp, rfl⟩
      · exact ⟨.minus, by simp, rfl⟩
      · exact ⟨.times, by simp, rfl⟩
      · exact ⟨.less, by simp, rfl⟩
      · exact ⟨.same, by simp, rfl⟩
    have hl3 : wd.lay = 3 := by
      rcases hw with rfl | rfl | rfl | rfl | rfl <;> rfl
    refine ⟨_, rfl, p, _, _, _, rfl, rfl, SqL.of upd_same, hat, ?_⟩
    refine ⟨_, rfl, _, rfl, _, rfl, _, rfl, _, _, rfl, rfl, _, rfl, r, m, a, 0, deep - 1, ρ, rfl, g2.d, G2, kw2, by omega, by omega, fun v1 H3 e1 g3 ti1 ty1 hh1 => ?_⟩
    have G3 := g3.gen g2.d G2
    have kw3 := g3.known g2.d kw2
    refine ⟨_, rfl, _, rfl, _, rfl, _, _, rfl, rfl, _, rfl, r, m, a, 0, deep - 1, ρ, rfl, g3.d, G3, kw3, by omega, by omega, fun v2 H4 e2 g4 ti2 ty2 hh2 => ?_⟩
    refine ⟨by show 3 ≤ sizeLine; decide, fun p2 hp2 => ?_⟩
    have t5 := TK.of (same_new hp2 (.tup [.str wd.str, v1, v2]))
    have t4 := (g4.tk g3.d).trans t5
    exact q _ _ (.node wd (-1) [e1, e2]) ((g1.trans g2).trans ((g3.trans g4).trans (Drawn.new g4.d hp2))) (.bare hl3 upd_same (.cons (ti1.mono t4) (.cons (ti2.mono t5) .nil))) (.two hw ty1 ty2) (hgt2 hh1 hh2)
  refine ⟨_, rfl, _, _, rfl, rfl, _, rfl, ite2 (fun c => ?_) (fun c => ?_)⟩
  · refine ⟨_, rfl, _, rfl, _, rfl, r, 3, rfl, d1, by decide, by decide, fun k1 H2 k1a k1b g2 => ?_⟩
    obtain ⟨c1, rfl⟩ : ∃ c1 : Nat, k1 = (c1 : Int) := ⟨k1.toNat, by omega⟩
    refine ⟨_, _, rfl, rfl, _, rfl, _, _, rfl, rfl, _, rfl, r, m, a, c1 + 1, deep - 1, ρ, by show [V.ref r.r, V.ref m, V.int (1 + (c1 : Int)), V.int (deep - 1), V.ref a] = _; rw [show (1 : Int) + (c1 : Int) = ((c1 + 1 : Nat) : Int) by omega], g2.d, g2.gen d1 G1, g2.known d1 kw1, by omega, by omega, fun v1 H3 e1 g3 ti1 ty1 hh1 => ?_⟩
    refine ⟨by show 2 ≤ sizeLine; decide, fun p2 hp2 => ?_⟩
    exact q _ _ (.node .len (-1) [e1]) ((g1.trans g2).trans (g3.trans (Drawn.new g3.d hp2))) (.bare rfl upd_same (.cons (ti1.mono (TK.of (same_new hp2 _))) .nil)) (.len ty1) (hgt1 hh1)
  refine ⟨_, rfl, _, _, rfl, rfl, _, rfl, ite2 (fun c => ?_) (fun c => ?_)⟩
  · refine ⟨_, rfl, _, rfl, _, rfl, _, _, rfl, rfl, _, rfl, r, m, a, 1, deep - 1, ρ, rfl, d1, G1, kw1, by omega, by omega, fun v1 H3 e1 g3 ti1 ty1 hh1 => ?_⟩
    refine ⟨by show 2 ≤ sizeLine; decide, fun p2 hp2 => ?_⟩
    exact q _ _ (.node .sum (-1) [e1]) (g1.trans (g3.trans (Drawn.new g3.d hp2))) (.bare rfl upd_same (.cons (ti1.mono (TK.of (same_new hp2 _))) .nil)) (.sum ty1) (hgt1 hh1)
  refine ⟨_, rfl, _, rfl, _, rfl, _, rfl, r, m, a, 0, deep, ρ, rfl, d1, G1, kw1, by omega, h1, h2, fun v H3 e g3 ti ty hh => ?_⟩
  exact q _ _ e (g1.trans g3) ti ty hh
end
end NR
set_option maxHeartbeats 4000000
namespace NR
open PySem PySem.Spec PyProof.Rows L2
abbrev sLawBound : Stmt := top 76
theorem scsLawBound : FnScope ["_law_row", "_law_m", "_law_word", "_law_depth", "_law_deep", "_law_known", "_law_told", "_law_first", "_law_name", "_law_inner"] ["_law_row", "_law_m", "_law_word", "_law_depth", "_law_deep", "_law_known", "_law_told"] (defScope sLawBound) := ⟨rfl, rfl, rfl, by decide +kernel, rfl, by decide +kernel, by decide +kernel⟩
section
variable {P : Program} {w : World} {K : PySem.W.Frag} {mg : Str → Option Value} {base : Heap} {f : Addr} {fd : FuncData}

theorem ok_bound {n k : Nat} {fs : List (List Nat × Nat)} {own : Nat} (F : FnP K "_law_bound" sLawBound f fd) (hk : 1 ≤ k) (O_taken : Okf P w K mg base CX0 k "_law_taken" ["_law_row", "_law_many"] (spTaken K))
    (O_tree : Okf P w K mg base CX0 k "_law_tree" ["_law_row", "_law_m", "_law_depth", "_law_deep", "_law_known"] (spTree K fs own n)) (z_dict : mg "dict" = none) (z_int : mg "int" = none) :
    FnOk P w K mg base CX0 (k + 1) f fd ["_law_row", "_law_m", "_law_word", "_law_depth", "_law_deep", "_law_known", "_law_told"] (spBound K fs own (n + 1)) := by
  have sc := scsLawBound
  refine F.ok sc (fun vs H Q E h => ?_) (fun cdv A outer s H vs Q E hr h => ?_)
  · obtain ⟨r, m, a, w, d, t, deep, ρ, rfl, _⟩ := h
    rfl
  have hu := hu_of hr
  obtain ⟨r, m, a, wd, d, t, deep, ρ, rfl, hw, dr, G, kw, hd, ht, ho, h1, h2, q⟩ := h
  refine ⟨_, (pss_cons (ps_set (i := 7) sc.nd rfl (.inl rfl) (pe_c O_tree hr rfl pass0 (pa_cons (pv 0) (pa_cons (pv 1) (pa_cons (pv 3) (pa_cons (pe_op op_sub (pv 4) pe_int) (pa_cons (pv 5) pa_nil)))))))
    (pss_cons (ps_set (i := 8) sc.nd rfl (.inl rfl) (pe_c O_taken hr rfl pass0 (pa_cons (pv 0) (pa_cons pe_int pa_nil))))
    (pss_cons (ps_set (i := 9) sc.nd rfl (.inl rfl) (pe_callTy call_dictD rfl z_dict (by decide +kernel) (pa_cons (pv 5) pa_nil)))
    (pss_cons (ps_dput hu (pv 9) (pv 8) (pe_op op_sub (pv 3) (pe_callTy call_int1 rfl z_int (by decide +kernel) (pa_cons (pe_cmpR op_ne (pv 2) pe_str (nomark _)) pa_nil))) rfl)
    (pss_one (ps_ret (pe_tup (pa_cons (pv 2) (pa_cons (pv 8) (pa_cons (pv 7) (pa_cons (pe_c O_tree hr rfl pass0 (pa_cons (pv 0) (pa_cons (pv 1) (pa_cons (pv 6) (pa_cons (pe_op op_sub (pv 4) pe_int) (pa_cons (pv 9) pa_nil)))))) pa_nil))))))))))), ?_⟩
  refine ⟨_, rfl, _, rfl, _, rfl, _, rfl, _, _, rfl, rfl, _, rfl, r, m, a, d, deep - 1, ρ, rfl, dr, G, kw, hd, by omega, fun v1 H1 e1 g1 ti1 ty1 hh1 => ?_⟩
  have kw1 := g1.known dr kw
  have G1 := g1.gen dr G
  refine ⟨_, rfl, r, 20, rfl, g1.d, by decide, by decide, fun x H2 x0 x1 g2 => ?_⟩
  obtain ⟨l, el, ok⟩ := g2.known g1.d kw1
  refine ⟨_, rfl, a, _, rfl, .inl el, fun p hp => ?_⟩
  have g3 := Drawn.new (o := .dK (l.map kvOf)) g2.d hp
  obtain ⟨l', el', ok'⟩ := putK_kn (x := x) (d := d - wd.off) ok x0 (by omega) (by omega)
  have hv : ((d : Int) - (if (!decide (V.str wd.str = V.str "let")) = true then 1 else 0)) = ((d - wd.off : Nat) : Int) := by
    have hx : (if (!decide (V.str wd.str = V.str "let")) = true then (1 : Int) else 0) = (wd.off : Int) := by
      revert hw
      cases wd <;> intro hw <;> first | (cases hw; done) | rfl | decide
    rw [hx]
    omega
  refine ⟨_, rfl, _, rfl, rfl, .inr ⟨_, rfl, _, _, rfl, rfl, _, rfl, _, rfl, p, _, rfl, DPut.k (k := Sum.inl x) upd_same ?_, ?_⟩⟩
  · rw [List.length_map]
    have := ok.few
    exact small1000 (by omega)
  rw [upd_upd]
  have e1' : putK (l.map kvOf) (Sum.inl x) (V.int ((d : Int) - (if (!decide (V.str wd.str = V.str "let")) = true then 1 else 0))) = l'.map kvOf := by
    rw [hv]
    exact el'
  dsimp only
  rw [e1']
  have g4 := Drawn.new (o := .dK (l'.map kvOf)) g2.d hp
  have kw4 : Known (upd H2 p (.dK (l'.map kvOf))) p (ups ρ x (d - wd.off)) := ⟨l', upd_same, ok'⟩
  have G4 := g4.gen g2.d (g2.gen g1.d G1)
  refine ⟨_, rfl, _, rfl, _, rfl, _, rfl, _, rfl, _, rfl, _, rfl, _, _, rfl, rfl, _, rfl, r, m, p, t, deep - 1, _, rfl, g4.d, G4, kw4, ht, by omega, fun v2 H5 e2 g5 ti2 ty2 hh2 => ?_⟩
  refine ⟨by show 4 ≤ sizeLine; decide, fun p2 hp2 => ?_⟩
  have tk1 := (g2.tk g1.d).trans ((g4.tk g2.d).trans ((g5.tk g4.d).trans (TK.of (same_new hp2 (.tup [.str wd.str, .int x, v1, v2])))))
  exact q _ _ x e1 e2 ((g1.trans g2).trans ((g4.trans g5).trans (Drawn.new g5.d hp2))) (.bind hw upd_same (.cons (ti1.mono tk1) (.cons (ti2.mono (TK.of (same_new hp2 _))) .nil))) x0 (by omega) ty1 ty2 (hgt2 hh1 hh2)
end
end NR
set_option maxHeartbeats 4000000
namespace NR
open PySem PySem.Spec PyProof.Rows L2
abbrev sLawAny : Stmt := top 77
theorem scsLawAny : FnScope ["_law_row", "_law_m", "_law_depth", "_law_deep", "_law_known", "_law_way", "_law_first", "_law_calls", "_law_which", "_law_k", "_law_one"] ["_law_row", "_law_m", "_law_depth", "_law_deep", "_law_known"] (defScope sLawAny) := ⟨rfl, rfl, rfl, by decide +kernel, rfl, by decide +kernel, by decide +kernel⟩
section
variable {P : Program} {w : World} {K : PySem.W.Frag} {mg : Str → Option Value} {base : Heap} {f : Addr} {fd : FuncData}

theorem ok_any {n k : Nat} {fs : List (List Nat × Nat)} {own : Nat} (F : FnP K "_law_any" sLawAny f fd) (O_taken : Okf P w K mg base CX0 k "_law_taken" ["_law_row", "_law_many"] (spTaken K))
    (O_tree : Okf P w K mg base CX0 k "_law_tree" ["_law_row", "_law_m", "_law_depth", "_law_deep", "_law_known"] (spTree K fs own n))
    (O_bound : Okf P w K mg base CX0 k "_law_bound" ["_law_row", "_law_m", "_law_word", "_law_depth", "_law_deep", "_law_known", "_law_told"] (spBound K fs own (n + 1)))
    (O_leaf : Okf P w K mg base CX0 k "_law_leaf" ["_law_row", "_law_depth", "_law_known"] (spLeaf K (fs.take own) 4))
    (z_len : mg "len" = none) (z_range : mg "range" = none) (z_tuple : mg "tuple" = none) :
    FnOk P w K mg base CX0 (k + 1) f fd ["_law_row", "_law_m", "_law_depth", "_law_deep", "_law_known"] (spAny K fs own (n + 1)) := by
  have sc := scsLawAny
  refine F.ok sc (fun vs H Q E h => ?_) (fun cdv A outer s H vs Q E hr h => ?_)
  · obtain ⟨r, m, a, d, deep, ρ, rfl, _⟩ := h
    rfl
  have hu := hu_of hr
  obtain ⟨r, m, a, d, deep, ρ, rfl, dr, G, kw, hd, h1, h2, q⟩ := h
  refine ⟨_, (pss_cons (ps_set (i := 5) sc.nd rfl (.inl rfl) (pe_c O_taken hr rfl pass0 (pa_cons (pv 0) (pa_cons pe_int pa_nil))))
    (pss_cons (ps_if (pt_cmpR op_lt (pv 5) pe_int (nomark _)) (pss_cons (ps_set (i := 6) sc.nd rfl (.inl rfl) (pe_c O_tree hr rfl pass0 (pa_cons (pv 0) (pa_cons (pv 1) (pa_cons pe_int (pa_cons (pe_op op_sub (pv 3) pe_int) (pa_cons (pv 4) pa_nil)))))))
    (pss_one (ps_ret (pe_tup (pa_cons pe_str (pa_cons (pv 6) (pa_cons (pe_c O_tree hr rfl pass0 (pa_cons (pv 0) (pa_cons (pv 1) (pa_cons (pv 2) (pa_cons (pe_op op_sub (pv 3) pe_int) (pa_cons (pv 4) pa_nil)))))) (pa_cons (pe_c O_tree hr rfl pass0 (pa_cons (pv 0) (pa_cons (pv 1) (pa_cons (pv 2) (pa_cons (pe_op op_sub (pv 3) pe_int) (pa_cons (pv 4) pa_nil)))))) pa_nil)))))))) pss_nil)
    (pss_cons (ps_if (pt_cmpR op_lt (pv 5) pe_int (nomark _)) (pss_one (ps_ret (pe_c O_bound hr rfl pass0 (pa_cons (pv 0) (pa_cons (pv 1) (pa_cons pe_str (pa_cons (pe_c O_taken hr rfl pass0 (pa_cons (pv 0) (pa_cons pe_int pa_nil))) (pa_cons (pv 3) (pa_cons (pv 4) (pa_cons (pv 2) pa_nil)))))))))) pss_nil)
    (pss_cons (ps_if (PW.pt (pw_and (pt_cmpR op_lt (pv 5) pe_int (nomark _)) (pw_and1 (pt_cmpR op_lt (pv 2) pe_int (nomark _))))) (pss_cons (ps_set (i := 6) sc.nd rfl (.inl rfl) (pe_c O_tree hr rfl pass0 (pa_cons (pv 0) (pa_cons (pv 1) (pa_cons (pe_op op_add (pv 2) pe_int) (pa_cons (pe_op op_sub (pv 3) pe_int) (pa_cons (pv 4) pa_nil)))))))
    (pss_one (ps_ret (pe_tup (pa_cons pe_str (pa_cons (pv 6) (pa_cons (pe_c O_tree hr rfl pass0 (pa_cons (pv 0) (pa_cons (pv 1) (pa_cons pe_int (pa_cons (pe_op op_sub (pv 3) pe_int) (pa_cons (pv 4) pa_nil)))))) pa_nil))))))) pss_nil)
    (pss_cons (ps_setLc (i := 7) (own := [("_law_k", 9)]) (by rfl) sc.nd rfl rfl (sw_true rfl rfl rfl (by decide +kernel)) (pi_range1 rfl z_range (pa_cons (pe_callB (call_lenK K) rfl z_len PySem.boot_len (pa_cons (pe_dget hu (pv 1) pe_str (fun _ _ => rfl)) pa_nil)) pa_nil)) (blkOk_by (own := [("_law_k", 9)]) (N := ["_law_row", "_law_m", "_law_depth", "_law_deep", "_law_known", "_law_way", "_law_first", "_law_calls", "_law_which", "_law_k", "_law_one"]) (sc := defScope sLawAny) (by decide +kernel)) (fun _ _ _ _ _ => (pg_name (i := 9) sc.nd rfl (.inl rfl))) (fun _ _ _ _ _ => (pts_one (PW.pt (pw_and (pt_cmpR op_eq (pe_ix (ix_tupK K) (pe_ix (ix_listK K) (pe_dget hu (pv 1) pe_str (fun _ _ => rfl)) (pv 9) (fun _ _ => rfl)) pe_int (fun _ _ => rfl)) (pv 2) (nomark _)) (pw_and1 (PW.pt (pw_or (pt_cmpR op_ne (pv 9) (pe_dget hu (pv 1) pe_str (fun _ _ => rfl)) (nomark _)) (pw_or1 (pt_cmpR op_gt (pe_dget hu (pv 1) pe_str (fun _ _ => rfl)) pe_int (nomark _)))))))))) (fun _ _ _ _ _ => (pv 9)))
    (pss_cons (ps_if (pt_cmpR (op_eqDK K hr.units) (pv 7) (pe_lst pa_nil) (nomark _)) (pss_one (ps_ret (pe_c O_leaf hr rfl pass0 (pa_cons (pv 0) (pa_cons (pv 2) (pa_cons (pv 4) pa_nil)))))) pss_nil)
    (pss_cons (ps_set (i := 8) sc.nd rfl (.inl rfl) (pe_ix (ix_listK K) (pv 7) (pe_c O_taken hr rfl pass0 (pa_cons (pv 0) (pa_cons (pe_callB (call_lenK K) rfl z_len PySem.boot_len (pa_cons (pv 7) pa_nil)) pa_nil))) (fun _ _ => rfl)))
    (pss_cons (ps_if (pt_cmpR op_eq (pv 8) (pe_dget hu (pv 1) pe_str (fun _ _ => rfl)) (nomark _)) (pss_one (ps_dput hu (pv 1) pe_str pe_int rfl)) pss_nil)
    (pss_one (ps_ret (pe_tup (pa_cons pe_str (pa_cons (pv 8) (pa_cons (pe_callTy (call_tupleK K) rfl z_tuple (by decide +kernel) (pa_cons (pe_lc (own := [("_law_one", 10)]) (by rfl) sc.nd (pi_tupK K (pe_ix (ix_tupK K) (pe_ix (ix_listK K) (pe_dget hu (pv 1) pe_str (fun _ _ => rfl)) (pv 8) (fun _ _ => rfl)) pe_int (fun _ _ => rfl))) (blkOk_by (own := [("_law_one", 10)]) (N := ["_law_row", "_law_m", "_law_depth", "_law_deep", "_law_known", "_law_way", "_law_first", "_law_calls", "_law_which", "_law_k", "_law_one"]) (sc := defScope sLawAny) (by decide +kernel)) (fun _ _ _ _ _ => (pg_name (i := 10) sc.nd rfl (.inl rfl))) (fun _ _ _ _ _ => pts_nil) (fun _ _ _ _ _ => (pe_c O_tree hr rfl pass0 (pa_cons (pv 0) (pa_cons (pv 1) (pa_cons (pv 10) (pa_cons (pe_op op_sub (pv 3) pe_int) (pa_cons (pv 4) pa_nil)))))))) pa_nil)) pa_nil)))))))))))))), ?_⟩
  refine ⟨_, rfl, r, 8, rfl, dr, by decide, by decide, fun k0 H1 k0a k0b g1 => ?_⟩
  have d1 := g1.d
  have G1 := g1.gen dr G
  have kw1 := g1.known dr kw
  refine ⟨_, rfl, _, _, rfl, rfl, _, rfl, ite2 (fun c => ?_) (fun c => ?_)⟩
  · -- if
    refine ⟨_, rfl, _, rfl, _, rfl, _, _, rfl, rfl, _, rfl, r, m, a, 0, deep - 1, ρ, rfl, d1, G1, kw1, by omega, by omega, fun v1 H2 e1 g2 ti1 ty1 hh1 => ?_⟩
    have G2 := g2.gen d1 G1
    have kw2 := g2.known d1 kw1
    refine ⟨_, rfl, _, rfl, _, rfl, _, rfl, _, rfl, _, _, rfl, rfl, _, rfl, r, m, a, d, deep - 1, ρ, rfl, g2.d, G2, kw2, hd, by omega, fun v2 H3 e2 g3 ti2 ty2 hh2 => ?_⟩
    have G3 := g3.gen g2.d G2
    have kw3 := g3.known g2.d kw2
    refine ⟨_, rfl, _, rfl, _, rfl, _, rfl, _, _, rfl, rfl, _, rfl, r, m, a, d, deep - 1, ρ, rfl, g3.d, G3, kw3, hd, by omega, fun v3 H4 e3 g4 ti3 ty3 hh3 => ?_⟩
    refine ⟨by show 4 ≤ sizeLine; decide, fun p2 hp2 => ?_⟩
    have t5 := TK.of (same_new hp2 (.tup [.str "if", v1, v2, v3]))
    have t4 := (g4.tk g3.d).trans t5
    have t3 := (g3.tk g2.d).trans t4
    exact q _ _ (.node .ite (-1) [e1, e2, e3]) ((g1.trans g2).trans ((g3.trans g4).trans (Drawn.new g4.d hp2))) (.bare rfl upd_same (.cons (ti1.mono t3) (.cons (ti2.mono t4) (.cons (ti3.mono t5) .nil)))) (.ite ty1 ty2 ty3) (hgt3 hh1 hh2 hh3)
  refine ⟨_, rfl, _, _, rfl, rfl, _, rfl, ite2 (fun c => ?_) (fun c => ?_)⟩
  · -- let
    refine ⟨_, rfl, _, rfl, _, rfl, r, 4, rfl, d1, by decide, by decide, fun k1 H2 k1a k1b g2 => ?_⟩
    obtain ⟨c1, rfl⟩ : ∃ c1 : Nat, k1 = (c1 : Int) := ⟨k1.toNat, by omega⟩
    refine ⟨_, rfl, _, rfl, _, rfl, r, m, a, .elet, c1, d, deep, ρ, rfl, rfl, g2.d, g2.gen d1 G1, g2.known d1 kw1, by omega, hd, Nat.zero_le _, h1, h2, fun v H3 x e1 e2 g3 ti x0 x1 ty1 ty2 hh => ?_⟩
    exact q _ _ _ ((g1.trans g2).trans g3) ti (.elet x0 x1 ty1 ty2) hh
  dsimp only [tNext]
  refine if_rest (fun H2 => H2 = H1) (fun H2 e2 => ?_) (fun rest => ?_)
  · subst e2
    obtain ⟨fl, xs, em, efl, fi, nfl⟩ := G1.ex
    have lenx : xs.length = own + 1 := by rw [fi.len, G1.len]
    have hf5 := G1.few
    refine ⟨_, rfl, m, _, rfl, dget em val_faces, fl, xs, rfl, .inl (SqL.of efl), _, rfl, by omega, by omega, fun D hD => ?_⟩
    have hDm : D ≠ m := (ne_of_none em hD).symm
    have hDf : D ≠ fl := (ne_of_none efl hD).symm
    refine lc_range (lo := 0) (n := xs.length) (fun i H' => ∃ ks : List Nat, H' = upd H2 D (.lst (ks.map dV)) ∧ ks.length ≤ i ∧ ∀ k ∈ ks, k < own ∧ ∃ ds, fs[k]? = some (ds, d)) ⟨[], rfl, Nat.le_refl _, fun x hx => by cases hx⟩ ?_ ?_
    · rintro i H' hi ⟨ks, rfl, hl, hks⟩
      obtain ⟨⟨ds, d'⟩, hfs⟩ : ∃ p, fs[i]? = some p := ⟨fs[i]'(by rw [← fi.len]; exact hi), List.getElem?_eq_getElem _⟩
      obtain ⟨fa, fb, hx, ea, eb⟩ := fi.get i hfs
      have em' : upd H2 D (.lst (ks.map dV)) m = some _ := (upd_ne hDm.symm).trans em
      have efl' : upd H2 D (.lst (ks.map dV)) fl = some _ := (upd_ne hDf.symm).trans efl
      have ea' : upd H2 D (.lst (ks.map dV)) fa = some _ := (upd_ne (ne_of_none ea hD)).trans ea
      have hat : atI xs (0 + (i : Int)) = some (.ref fa) := by
        rw [Int.zero_add]
        exact atI_nat hx
      refine ⟨rfl, ?_⟩
      refine ⟨_, rfl, m, _, rfl, dget em' val_faces, _, rfl, fl, xs, _, _, rfl, rfl, SqL.of efl', hat, fa, _, _, _, rfl, rfl, SqT.of ea', rfl, _, rfl, rfl, _, rfl, ?_⟩
      refine ite2 (fun c => ?_) (fun c => ?_)
      · have c1 : V.int (d' : Int) = V.int (d : Int) := of_decide_eq_true c
        have c2 : d' = d := by
          injection c1 with c1
          omega
        subst c2
        refine ⟨_, rfl, _, rfl, m, _, rfl, dget em' val_own, rfl, _, rfl, ?_⟩
        refine ite2 (fun c => ?_) (fun c => ?_)
        · have c4 : ¬ (V.int (0 + (i : Int)) = V.int (own : Int)) := by simpa using c
          have c5 : i < own := by
            have : i ≠ own := fun z => c4 (by rw [z, Int.zero_add])
            omega
          refine ite2 (fun _ => ?_) (fun z => absurd rfl z)
          refine ⟨_, rfl, _, upd_same, ?_, ks ++ [i], ?_, ?_, ?_⟩
          · rw [List.length_map]
            exact small1000 (by omega)
          · rw [upd_upd, List.map_append, Int.zero_add]
            rfl
          · rw [List.length_append]
            exact Nat.succ_le_succ hl
          · intro x hx
            rcases List.mem_append.mp hx with hx | hx
            · exact hks x hx
            · rw [List.mem_singleton.mp hx]
              exact ⟨c5, ds, hfs⟩
        · refine ⟨_, rfl, m, _, rfl, dget em' val_left, _, _, rfl, rfl, _, rfl, ?_⟩
          exact ite2 (fun z => absurd z (by decide)) (fun _ => ⟨ks, rfl, Nat.le_succ_of_le hl, hks⟩)
      · exact ite2 (fun z => nomatch z) (fun _ => ⟨ks, rfl, Nat.le_succ_of_le hl, hks⟩)
    rintro H3 ⟨ks, rfl, hl, hks⟩
    have s3 : Same H2 (upd H2 D (.lst (ks.map dV))) := same_new hD _
    have eD : upd H2 D (.lst (ks.map dV)) D = some (.lst (ks.map dV)) := upd_same
    generalize upd H2 D (.lst (ks.map dV)) = H3 at s3 eD ⊢
    have g3 : Drawn K r H2 H3 := d1.drawn s3
    have G3 := g3.gen d1 G1
    have kw3 := g3.known d1 kw1
    refine ⟨_, rfl, by show 0 ≤ sizeLine; decide, fun e0 he0 => ⟨.list ((ks.map fun (k : Nat) => (k : Int)).map PyData.int), .list [], .lst (SqL.of (same_new he0 _ _ _ eD)) ?_, .lst (SqL.of upd_same) .nil, shapedInts _, rfl, _, rfl, ?_⟩⟩
    · have e : ks.map dV = (ks.map fun (k : Nat) => (k : Int)).map V.int := by
        rw [List.map_map]
        rfl
      rw [e]
      exact dpInts _
    have g4 := Drawn.new (o := .lst []) g3.d he0
    have G4 := g4.gen g3.d G3
    have kw4 := g4.known g3.d kw3
    have nDr : D ≠ r.r := by
      obtain ⟨o, ho⟩ := d1.ref
      exact (ne_of_none ho hD).symm
    have eD4 := g4.s _ _ nDr eD
    generalize upd H3 e0 (.lst []) = H4 at g4 G4 kw4 eD4 ⊢
    cases ks with
    | nil =>
      refine ite2 (fun _ => ?_) (fun c => absurd rfl c)
      refine ⟨_, rfl, _, rfl, _, rfl, r, a, d, ρ, rfl, g4.d, kw4, by omega, hd, fun v H5 e g5 ti ty hh _ => ?_⟩
      exact q _ _ e (((g1.trans g3).trans g4).trans g5) ti ty (by omega)
    | cons y ys =>
      refine ite2 (fun c => Bool.noConfusion (show false = true from c)) (fun _ => ?_)
      have hlen : ((y :: ys).map dV).length = ys.length + 1 := by simp
      have hl2 : ys.length + 1 ≤ 6 := by
        have := hl
        simp only [List.length_cons] at this
        omega
      refine ⟨_, rfl, _, rfl, _, rfl, D, _, rfl, .inl (SqL.of eD4), r, _, rfl, g4.d, by rw [hlen]; omega, by rw [hlen]; omega, fun k2 H5 a2 b2 g5 => ?_⟩
      rw [hlen] at b2
      have eD5 := g5.s _ _ nDr eD4
      have hk : k2.toNat < (y :: ys).length := by
        simp only [List.length_cons]
        omega
      have ev : atI ((y :: ys).map dV) k2 = some (dV (y :: ys)[k2.toNat]) := by
        have ek : k2 = ((k2.toNat : Nat) : Int) := by omega
        have := atI_nat (xs := (y :: ys).map dV) (j := k2.toNat) (v := dV (y :: ys)[k2.toNat]) (by rw [List.getElem?_map, List.getElem?_eq_getElem hk]; rfl)
        rw [← ek] at this
        exact this
      obtain ⟨hk1, ds, hfs⟩ := hks _ (List.getElem_mem hk)
      generalize (y :: ys)[k2.toNat] = kk at ev hk1 hfs
      have G5 := g5.gen g4.d G4
      have kw5 := g5.known g4.d kw4
      have g25 : Drawn K r H H5 := ((g1.trans g3).trans g4).trans g5
      obtain ⟨fl5, xs5, em5, efl5, fi5, nfl5⟩ := G5.ex
      obtain ⟨fa, fb, hx, ea, eb⟩ := fi5.get kk hfs
      have lo := G5.lo _ (List.mem_of_getElem? hfs)
      refine ⟨D, _, _, _, rfl, rfl, SqL.of eD5, ev, ?_⟩
      refine ⟨_, rfl, _, rfl, m, _, rfl, dget em5 val_own, rfl, _, rfl, ?_⟩
      refine ite2 (fun c => ?_) (fun _ => ?_)
      · have c1 : V.int (kk : Int) = V.int (own : Int) := of_decide_eq_true c
        injection c1 with c1
        omega
      refine ⟨_, rfl, _, rfl, m, _, rfl, dget em5 val_faces, _, rfl, fl5, xs5, _, _, rfl, rfl, SqL.of efl5, atI_nat hx, fa, _, _, _, rfl, rfl, SqT.of ea, rfl, fb, rfl, ⟨_, SqT.of eb⟩, fun D2 hD2 => ?_⟩
      have nD2r : D2 ≠ r.r := by
        obtain ⟨o, ho⟩ := g5.d.ref
        exact (ne_of_none ho hD2).symm
      refine lc_tup (K := K) (a := fb) (xs := ds.map dV) (fun i H' => ∃ vs es, H' D2 = some (.lst vs) ∧ vs.length = i ∧ Drawn K r H5 H' ∧ TIns H' vs es ∧ Tys (fs.take own) ρ es (ds.take i) ∧ hgts es ≤ n + 4) ⟨[], [], upd_same, rfl, Drawn.new g5.d hD2, .nil, .nil, Nat.zero_le _⟩ ?_ ?_ ?_
      · rintro i H' hi ⟨vs, es, e1, e2, g6, _⟩
        exact SqT.of (g6.tk g5.d _ _ eb)
      · rintro i x H' hx2 ⟨vs, es, e1, e2, g6, ti, ty, hh⟩
        have hi : i < ds.length := by
          have := (List.getElem?_eq_some_iff.mp hx2).1
          rw [List.length_map] at this
          exact this
        rw [List.getElem?_map, List.getElem?_eq_getElem hi] at hx2
        have hx3 : x = dV ds[i] := (Option.some.inj hx2).symm
        subst hx3
        refine ⟨rfl, ?_⟩
        dsimp only [tYes, gName]
        rw [if_pos rfl]
        refine ⟨_, rfl, _, rfl, _, rfl, _, rfl, _, _, rfl, rfl, _, rfl, r, m, a, ds[i], deep - 2, ρ, rfl, g6.d, g6.gen g5.d G5, g6.known g5.d kw5, lo.2.2 _ (List.getElem_mem hi), by omega, fun v H7 e g7 ti2 ty2 hh2 => ?_⟩
        have eD7 := g7.s _ _ nD2r e1
        have tk8 : TK H7 (upd H7 D2 (.lst (vs ++ [v]))) := TK.lst eD7
        refine ⟨vs, eD7, ?_, vs ++ [v], es ++ [e], upd_same, ?_, ?_, ?_, ?_, ?_⟩
        · rw [e2]
          have lo4 : ds.length ≤ 4 := lo.2.1
          exact small1000 (by omega)
        · rw [List.length_append, e2]
          rfl
        · exact (g6.trans g7).put g5.d hD2
        · exact (ti.mono ((g7.tk g6.d).trans tk8)).snoc (ti2.mono tk8)
        · rw [List.take_succ, List.getElem?_eq_getElem hi]
          exact ty.snoc ty2
        · exact hgts_snoc hh hh2
      · rintro H6 ⟨vs, es, e1, e2, g6, ti, ty, hh⟩
        rw [List.length_map] at e2 ty
        rw [List.take_length] at ty
        refine ⟨D2, _, rfl, .inl ⟨SqL.of e1, fun l hl => ⟨by show 3 ≤ sizeLine; decide, fun p2 hp2 => ?_⟩⟩⟩
        have g7 := Drawn.new (o := .tup vs) g6.d hl
        have g8 := Drawn.new (o := .tup [.str "call", dV kk, .ref l]) g7.d hp2
        have t8 := (g7.tk g6.d).trans (g8.tk g7.d)
        refine q _ _ (.node .call (kk : Int) es) ((g25.trans g6).trans (g7.trans g8)) (.call upd_same ((same_new hp2 _) _ _ upd_same) (ti.mono t8)) (.call (by omega) ?_ ty) ?_
        · rw [List.getElem?_take, if_pos hk1]
          exact hfs
        · simp only [Ex.hgt]
          omega
  · refine ⟨_, rfl, _, _, rfl, rfl, _, rfl, ?_⟩
    refine ite2 (fun c => ?_) (fun c => ?_)
    · refine ⟨_, rfl, _, _, rfl, rfl, _, rfl, ?_⟩
      refine ite2 (fun c => ?_) (fun c => rest H1 rfl)
      have c1 : (d : Int) < 3 := of_decide_eq_true c
      refine ⟨_, rfl, _, rfl, _, rfl, _, _, rfl, rfl, _, rfl, _, _, rfl, rfl, _, rfl, r, m, a, d + 1, deep - 1, ρ, rfl, d1, G1, kw1, by omega, by omega, fun v1 H2 e1 g2 ti1 ty1 hh1 => ?_⟩
      have G2 := g2.gen d1 G1
      have kw2 := g2.known d1 kw1
      refine ⟨_, rfl, _, rfl, _, rfl, _, rfl, _, _, rfl, rfl, _, rfl, r, m, a, 0, deep - 1, ρ, rfl, g2.d, G2, kw2, by omega, by omega, fun v2 H3 e2 g3 ti2 ty2 hh2 => ?_⟩
      refine ⟨by show 3 ≤ sizeLine; decide, fun p2 hp2 => ?_⟩
      have t4 := TK.of (same_new hp2 (.tup [.str "pick", v1, v2]))
      have t3 := (g3.tk g2.d).trans t4
      exact q _ _ (.node .pick (-1) [e1, e2]) ((g1.trans g2).trans (g3.trans (Drawn.new g3.d hp2))) (.bare rfl upd_same (.cons (ti1.mono t3) (.cons (ti2.mono t4) .nil))) (.pick ty1 ty2) (hgt2 hh1 hh2)
    · exact ite2 (fun z => nomatch z) (fun _ => rest H1 rfl)
end
end NR
set_option maxHeartbeats 4000000
namespace NR
open PySem PySem.Spec PyProof.Rows L2
abbrev sLawTree : Stmt := top 78
theorem scsLawTree : FnScope ["_law_row", "_law_m", "_law_depth", "_law_deep", "_law_known", "_law_way", "_law_word"] ["_law_row", "_law_m", "_law_depth", "_law_deep", "_law_known"] (defScope sLawTree) := ⟨rfl, rfl, rfl, by decide +kernel, rfl, by decide +kernel, by decide +kernel⟩
section
variable {P : Program} {w : World} {K : PySem.W.Frag} {mg : Str → Option Value} {base : Heap} {f : Addr} {fd : FuncData}

theorem ok_tree {n k : Nat} {spT : Sp} {fs : List (List Nat × Nat)} {own : Nat} (F : FnP K "_law_tree" sLawTree f fd) (O_taken : Okf P w K mg base CX0 k "_law_taken" ["_law_row", "_law_many"] (spTaken K))
    (hT : 1 ≤ n → spT = spTree K fs own (n - 1)) (O_tree : Okf P w K mg base CX0 k "_law_tree" ["_law_row", "_law_m", "_law_depth", "_law_deep", "_law_known"] spT)
    (O_any : Okf P w K mg base CX0 k "_law_any" ["_law_row", "_law_m", "_law_depth", "_law_deep", "_law_known"] (spAny K fs own n))
    (O_number : Okf P w K mg base CX0 k "_law_number" ["_law_row", "_law_m", "_law_deep", "_law_known"] (spNumber K fs own n))
    (O_bound : Okf P w K mg base CX0 k "_law_bound" ["_law_row", "_law_m", "_law_word", "_law_depth", "_law_deep", "_law_known", "_law_told"] (spBound K fs own n))
    (O_leaf : Okf P w K mg base CX0 k "_law_leaf" ["_law_row", "_law_depth", "_law_known"] (spLeaf K (fs.take own) 4)) (z_int : mg "int" = none) :
    FnOk P w K mg base CX0 (k + 1) f fd ["_law_row", "_law_m", "_law_depth", "_law_deep", "_law_known"] (spTree K fs own n) := by
  have sc := scsLawTree
  refine F.ok sc (fun vs H Q E h => ?_) (fun cdv A outer s H vs Q E hr h => ?_)
  · obtain ⟨r, m, a, d, deep, ρ, rfl, _⟩ := h
    rfl
  obtain ⟨r, m, a, d, deep, ρ, rfl, dr, G, kw, hd, h2, q⟩ := h
  refine ⟨_, (pss_cons (ps_if (pt_cmpR op_lt (pv 3) pe_int (nomark _)) (pss_one (ps_ret (pe_c O_leaf hr rfl pass0 (pa_cons (pv 0) (pa_cons (pv 2) (pa_cons (pv 4) pa_nil)))))) pss_nil)
    (pss_cons (ps_if (pt_cmpR op_eq (pv 2) pe_int (nomark _)) (pss_one (ps_ret (pe_c O_number hr rfl pass0 (pa_cons (pv 0) (pa_cons (pv 1) (pa_cons (pv 3) (pa_cons (pv 4) pa_nil))))))) pss_nil)
    (pss_cons (ps_set (i := 5) sc.nd rfl (.inl rfl) (pe_c O_taken hr rfl pass0 (pa_cons (pv 0) (pa_cons pe_int pa_nil))))
    (pss_cons (ps_if (pt_cmpR op_lt (pv 5) pe_int (nomark _)) (pss_one (ps_ret (pe_c O_bound hr rfl pass0 (pa_cons (pv 0) (pa_cons (pv 1) (pa_cons pe_str (pa_cons (pe_op op_add pe_int (pe_c O_taken hr rfl pass0 (pa_cons (pv 0) (pa_cons pe_int pa_nil)))) (pa_cons (pv 3) (pa_cons (pv 4) (pa_cons (pe_op op_sub (pv 2) pe_int) pa_nil)))))))))) pss_nil)
    (pss_cons (ps_if (pt_cmpR op_eq (pv 5) pe_int (nomark _)) (pss_one (ps_ret (pe_c O_bound hr rfl pass0 (pa_cons (pv 0) (pa_cons (pv 1) (pa_cons pe_str (pa_cons (pv 2) (pa_cons (pv 3) (pa_cons (pv 4) (pa_cons pe_int pa_nil)))))))))) pss_nil)
    (pss_cons (ps_if (pt_cmpR op_eq (pv 5) pe_int (nomark _)) (pss_one (ps_ret (pe_tup (pa_cons pe_str (pa_cons (pe_c O_tree hr rfl pass0 (pa_cons (pv 0) (pa_cons (pv 1) (pa_cons (pv 2) (pa_cons (pe_op op_sub (pv 3) pe_int) (pa_cons (pv 4) pa_nil)))))) (pa_cons (pe_c O_tree hr rfl pass0 (pa_cons (pv 0) (pa_cons (pv 1) (pa_cons (pv 2) (pa_cons (pe_op op_sub (pv 3) pe_int) (pa_cons (pv 4) pa_nil)))))) pa_nil)))))) pss_nil)
    (pss_cons (ps_if (PW.pt (pw_and (pt_cmpR op_eq (pv 5) pe_int (nomark _)) (pw_and1 (pt_cmpR op_lt (pv 2) pe_int (nomark _))))) (pss_one (ps_ret (pe_tup (pa_cons pe_str (pa_cons (pe_c O_tree hr rfl pass0 (pa_cons (pv 0) (pa_cons (pv 1) (pa_cons (pe_op op_add (pv 2) pe_int) (pa_cons (pe_op op_sub (pv 3) pe_int) (pa_cons (pv 4) pa_nil)))))) pa_nil))))) pss_nil)
    (pss_cons (ps_if (pt_cmpR op_eq (pv 5) pe_int (nomark _)) (pss_one (ps_ret (pe_tup (pa_cons pe_str (pa_cons (pe_c O_tree hr rfl pass0 (pa_cons (pv 0) (pa_cons (pv 1) (pa_cons (pe_op op_sub (pv 2) pe_int) (pa_cons (pe_op op_sub (pv 3) pe_int) (pa_cons (pv 4) pa_nil)))))) pa_nil))))) pss_nil)
    (pss_cons (ps_if (PW.pt (pw_and (pt_cmpR op_lt (pv 5) pe_int (nomark _)) (pw_and1 (pt_cmpR op_eq (pv 2) pe_int (nomark _))))) (pss_cons (ps_set (i := 6) sc.nd rfl (.inl rfl) (pe_ix (ix_listK K) (pe_lst (pa_cons pe_str (pa_cons pe_str pa_nil))) (pe_op op_sub (pv 5) pe_int) (fun _ _ => rfl)))
    (pss_one (ps_ret (pe_tup (pa_cons (pv 6) (pa_cons (pe_c O_tree hr rfl pass0 (pa_cons (pv 0) (pa_cons (pv 1) (pa_cons (pe_ix (ix_listK K) (pe_lst (pa_cons pe_int (pa_cons pe_int pa_nil))) (pe_callTy call_int1 rfl z_int (by decide +kernel) (pa_cons (pe_cmpR op_eq (pv 6) pe_str (nomark _)) pa_nil)) (fun _ _ => rfl)) (pa_cons (pe_op op_sub (pv 3) pe_int) (pa_cons (pv 4) pa_nil)))))) pa_nil)))))) pss_nil)
    (pss_one (ps_ret (pe_c O_any hr rfl pass0 (pa_cons (pv 0) (pa_cons (pv 1) (pa_cons (pv 2) (pa_cons (pv 3) (pa_cons (pv 4) pa_nil))))))))))))))))), ?_⟩
  refine ⟨_, rfl, _, _, rfl, rfl, _, rfl, ite2 (fun c => ?_) (fun c => ?_)⟩
  · refine ⟨_, rfl, _, rfl, _, rfl, r, a, d, ρ, rfl, dr, kw, by omega, hd, fun v H5 e g5 ti ty hh _ => ?_⟩
    exact q _ _ e g5 ti ty (by omega)
  have h1 : 1 ≤ deep := by
    have : ¬ deep < 1 := fun z => c (decide_eq_true z)
    omega
  obtain ⟨n, rfl⟩ : ∃ n', n = n' + 1 := ⟨n - 1, by omega⟩
  have hT1 := hT (by omega)
  subst hT1
  refine ⟨_, rfl, rfl, _, rfl, ite2 (fun c => ?_) (fun c => ?_)⟩
  · have c1 : V.int (d : Int) = V.int 0 := of_decide_eq_true c
    have c2 : d = 0 := by
      injection c1 with c1
      omega
    subst c2
    refine ⟨_, rfl, _, rfl, _, rfl, _, rfl, r, m, a, deep, ρ, rfl, dr, G, kw, h1, h2, fun v H3 e g3 ti ty hh => ?_⟩
    exact q _ _ e g3 ti ty hh
  have d0 : d ≠ 0 := fun z => c (decide_eq_true (by rw [z]; rfl))
  obtain ⟨d, rfl⟩ : ∃ d', d = d' + 1 := ⟨d - 1, by omega⟩
  refine ⟨_, rfl, r, 13, rfl, dr, by decide, by decide, fun k0 H1 k0a k0b g1 => ?_⟩
  have d1 := g1.d
  have G1 := g1.gen dr G
  have kw1 := g1.known dr kw
  have eqk : ∀ {j : Int}, decide (V.int k0 = V.int j) = true → k0 = j := fun z => by
    have z1 := of_decide_eq_true z
    injection z1
  refine ⟨_, rfl, _, _, rfl, rfl, _, rfl, ite2 (fun c => ?_) (fun c5 => ?_)⟩
  · refine ⟨_, rfl, _, rfl, _, rfl, r, 3, rfl, d1, by decide, by decide, fun k1 H2 k1a k1b g2 => ?_⟩
    obtain ⟨c1, rfl⟩ : ∃ c1 : Nat, k1 = (c1 : Int) := ⟨k1.toNat, by omega⟩
    refine ⟨_, _, rfl, rfl, _, rfl, _, rfl, _, rfl, _, _, rfl, rfl, r, m, a, .each, c1 + 1, d, deep, ρ, ?_, rfl, g2.d, g2.gen d1 G1, g2.known d1 kw1, by omega, by omega, by show 1 ≤ c1 + 1; omega, h1, h2, fun v H3 x e1 e2 g3 ti x0 x1 ty1 ty2 hh => ?_⟩
    · show [V.ref r.r, V.ref m, V.str "each", V.int (1 + (c1 : Int)), V.int deep, V.ref a, V.int (((d + 1 : Nat) : Int) - 1)] = _
      rw [show (1 : Int) + (c1 : Int) = ((c1 + 1 : Nat) : Int) by omega, show (((d + 1 : Nat) : Int) - 1) = (d : Int) by omega]
      rfl
    exact q _ _ _ ((g1.trans g2).trans g3) ti (.each x0 x1 ty1 ty2 (by omega)) hh
  refine ⟨_, rfl, rfl, _, rfl, ite2 (fun c => ?_) (fun c6 => ?_)⟩
  · refine ⟨_, rfl, _, rfl, _, rfl, _, rfl, _, rfl, r, m, a, .whr, d + 1, 0, deep, ρ, rfl, rfl, d1, G1, kw1, by omega, by omega, by show 1 ≤ d + 1; omega, h1, h2, fun v H3 x e1 e2 g3 ti x0 x1 ty1 ty2 hh => ?_⟩
    exact q _ _ _ (g1.trans g3) ti (.whr x0 x1 ty1 ty2) hh
  refine ⟨_, rfl, rfl, _, rfl, ite2 (fun c => ?_) (fun c7 => ?_)⟩
  · refine ⟨_, rfl, _, rfl, _, rfl, _, rfl, _, _, rfl, rfl, _, rfl, r, m, a, d + 1, deep - 1, ρ, rfl, d1, G1, kw1, hd, by omega, fun v1 H3 e1 g3 ti1 ty1 hh1 => ?_⟩
    have G3 := g3.gen d1 G1
    have kw3 := g3.known d1 kw1
    refine ⟨_, rfl, _, rfl, _, rfl, _, rfl, _, _, rfl, rfl, _, rfl, r, m, a, d + 1, deep - 1, ρ, rfl, g3.d, G3, kw3, hd, by omega, fun v2 H4 e2 g4 ti2 ty2 hh2 => ?_⟩
    refine ⟨by show 3 ≤ sizeLine; decide, fun p2 hp2 => ?_⟩
    have t5 := TK.of (same_new hp2 (.tup [.str "put", v1, v2]))
    have t4 := (g4.tk g3.d).trans t5
    exact q _ _ (.node .put (-1) [e1, e2]) (g1.trans ((g3.trans g4).trans (Drawn.new g4.d hp2))) (.bare rfl upd_same (.cons (ti1.mono t4) (.cons (ti2.mono t5) .nil))) (.put ty1 ty2) (hgt2 hh1 hh2)
  dsimp only [tNext]
  refine if_rest (fun H2 => H2 = H1 ∧ (k0 = 7 → 2 ≤ d)) (fun H2 e2 => ?_) (fun rest => ?_)
  · obtain ⟨e2, e7⟩ := e2
    subst e2
    refine ⟨_, rfl, rfl, _, rfl, ite2 (fun c => ?_) (fun c8 => ?_)⟩
    · refine ⟨_, rfl, _, rfl, _, rfl, _, _, rfl, rfl, _, rfl, _, _, rfl, rfl, _, rfl, r, m, a, d, deep - 1, ρ, ?_, d1, G1, kw1, by omega, by omega, fun v1 H3 e1 g3 ti1 ty1 hh1 => ?_⟩
      · show [V.ref r.r, V.ref m, V.int (((d + 1 : Nat) : Int) - 1), V.int (deep - 1), V.ref a] = _
        rw [show (((d + 1 : Nat) : Int) - 1) = (d : Int) by omega]
      refine ⟨by show 2 ≤ sizeLine; decide, fun p2 hp2 => ?_⟩
      exact q _ _ (.node .one (-1) [e1]) (g1.trans (g3.trans (Drawn.new g3.d hp2))) (.bare rfl upd_same (.cons (ti1.mono (TK.of (same_new hp2 _))) .nil)) (.one ty1 (by omega)) (hgt1 hh1)
    dsimp only [tNext]
    refine if_rest (fun H3 => H3 = H2) (fun H3 e3 => ?_) (fun rest => ?_)
    · subst e3
      refine ⟨_, rfl, _, rfl, _, rfl, _, rfl, _, rfl, r, m, a, d + 1, deep, ρ, rfl, d1, G1, kw1, hd, h1, h2, fun v H3 e g3 ti ty hh => ?_⟩
      exact q _ _ e (g1.trans g3) ti ty hh
    · refine ⟨_, rfl, _, _, rfl, rfl, _, rfl, ite2 (fun c => ?_) (fun c => ?_)⟩
      · have c11 : k0 < 11 := of_decide_eq_true c
        refine ⟨_, rfl, rfl, _, rfl, ite2 (fun c => ?_) (fun c => rest H2 rfl)⟩
        have cd : d = 0 := by
          have z1 : V.int ((d + 1 : Nat) : Int) = V.int 1 := of_decide_eq_true c
          injection z1 with z1
          omega
        subst cd
        have k9 : k0 = 9 ∨ k0 = 10 := by
          have n5 : ¬ k0 < 5 := fun z => c5 (decide_eq_true z)
          have n1 : k0 ≠ 5 := fun z => c6 (decide_eq_true (congrArg V.int z))
          have n2 : k0 ≠ 6 := fun z => c7 (decide_eq_true (congrArg V.int z))
          have n3 : k0 ≠ 8 := fun z => c8 (decide_eq_true (congrArg V.int z))
          have n4 : k0 ≠ 7 := fun z => by
            have := e7 z
            omega
          omega
        refine ⟨by show 2 ≤ sizeLine; decide, fun p hp => ?_⟩
        have g2 := Drawn.new (o := .lst [.str "upto", .str "sums"]) d1 hp
        have G2 := g2.gen d1 G1
        have kw2 := g2.known d1 kw1
        rcases k9 with rfl | rfl
        · refine ⟨_, rfl, _, _, rfl, rfl, p, _, _, _, rfl, rfl, SqL.of upd_same, rfl, ?_⟩
          refine ⟨_, rfl, _, rfl, _, rfl, by show 2 ≤ sizeLine; decide, fun p3 hp3 => ?_⟩
          have g3 := Drawn.new (o := .lst [.int 0, .int 1]) g2.d hp3
          refine ⟨_, rfl, rfl, .inr ⟨_, rfl, p3, _, _, _, rfl, rfl, SqL.of upd_same, rfl, _, rfl, _, _, rfl, rfl, _, rfl, r, m, a, 0, deep - 1, ρ, rfl, g3.d, g3.gen g2.d G2, g3.known g2.d kw2, by omega, by omega, fun v1 H4 e1 g4 ti1 ty1 hh1 => ?_⟩⟩
          refine ⟨by show 2 ≤ sizeLine; decide, fun p2 hp2 => ?_⟩
          exact q _ _ (.node .upto (-1) [e1]) ((g1.trans g2).trans ((g3.trans g4).trans (Drawn.new g4.d hp2))) (.bare rfl upd_same (.cons (ti1.mono (TK.of (same_new hp2 _))) .nil)) (.upto ty1) (hgt1 hh1)
        · refine ⟨_, rfl, _, _, rfl, rfl, p, _, _, _, rfl, rfl, SqL.of upd_same, rfl, ?_⟩
          refine ⟨_, rfl, _, rfl, _, rfl, by show 2 ≤ sizeLine; decide, fun p3 hp3 => ?_⟩
          have g3 := Drawn.new (o := .lst [.int 0, .int 1]) g2.d hp3
          refine ⟨_, rfl, rfl, .inr ⟨_, rfl, p3, _, _, _, rfl, rfl, SqL.of upd_same, rfl, _, rfl, _, _, rfl, rfl, _, rfl, r, m, a, 1, deep - 1, ρ, rfl, g3.d, g3.gen g2.d G2, g3.known g2.d kw2, by omega, by omega, fun v1 H4 e1 g4 ti1 ty1 hh1 => ?_⟩⟩
          refine ⟨by show 2 ≤ sizeLine; decide, fun p2 hp2 => ?_⟩
          exact q _ _ (.node .sums (-1) [e1]) ((g1.trans g2).trans ((g3.trans g4).trans (Drawn.new g4.d hp2))) (.bare rfl upd_same (.cons (ti1.mono (TK.of (same_new hp2 _))) .nil)) (.sums ty1) (hgt1 hh1)
      · exact ite2 (fun z => nomatch z) (fun _ => rest H2 rfl)
  · refine ⟨_, rfl, rfl, _, rfl, ite2 (fun c => ?_) (fun c => ?_)⟩
    · have k7 := eqk c
      refine ⟨_, rfl, _, _, rfl, rfl, _, rfl, ite2 (fun c => ?_) (fun c => rest H1 ⟨rfl, fun _ => ?_⟩)⟩
      rotate_left
      · have : ¬ ((d + 1 : Nat) : Int) < 3 := fun z => c (decide_eq_true z)
        omega
      have c3 : ((d + 1 : Nat) : Int) < 3 := of_decide_eq_true c
      refine ⟨_, rfl, _, rfl, _, rfl, _, _, rfl, rfl, _, rfl, _, _, rfl, rfl, _, rfl, r, m, a, d + 2, deep - 1, ρ, rfl, d1, G1, kw1, by omega, by omega, fun v1 H3 e1 g3 ti1 ty1 hh1 => ?_⟩
      refine ⟨by show 2 ≤ sizeLine; decide, fun p2 hp2 => ?_⟩
      exact q _ _ (.node .flat (-1) [e1]) (g1.trans (g3.trans (Drawn.new g3.d hp2))) (.bare rfl upd_same (.cons (ti1.mono (TK.of (same_new hp2 _))) .nil)) (.flat ty1) (hgt1 hh1)
    · exact ite2 (fun z => nomatch z) (fun _ => rest H1 ⟨rfl, fun z => absurd (decide_eq_true (congrArg V.int z)) c⟩)
end
end NR
set_option maxHeartbeats 4000000
namespace NR
open PySem PySem.Spec PyProof.Rows L2
abbrev sLawFace : Stmt := top 79
theorem scsLawFace : FnScope ["_law_row", "_law_names", "_law_k", "_law_name", "_law_params"] ["_law_row"] (defScope sLawFace) := ⟨rfl, rfl, rfl, by decide +kernel, rfl, by decide +kernel, by decide +kernel⟩
section
variable {P : Program} {w : World} {K : PySem.W.Frag} {mg : Str → Option Value} {base : Heap} {f : Addr} {fd : FuncData}

theorem ok_face {k : Nat} (F : FnP K "_law_face" sLawFace f fd) (O_taken : Okf P w K mg base CX0 k "_law_taken" ["_law_row", "_law_many"] (spTaken K))
    (z_len : mg "len" = none) (z_range : mg "range" = none) (z_tuple : mg "tuple" = none) (z_int : mg "int" = none) : FnOk P w K mg base CX0 (k + 1) f fd ["_law_row"] (spFace K) := by
  have sc := scsLawFace
  refine F.ok sc (fun vs H Q E h => ?_) (fun cdv A outer s H vs Q E hr h => ?_)
  · obtain ⟨r, rfl, _⟩ := h
    rfl
  obtain ⟨r, rfl, dr, q⟩ := h
  refine ⟨_, PSs.nox (pss_cons (ps_set (i := 1) sc.nd rfl (.inr rfl) (pe_lst (pa_cons (pe_c O_taken hr rfl pass0 (pa_cons (pv 0) (pa_cons pe_int pa_nil))) pa_nil)))
    (pss_cons (ps_for PassesOwn.never rfl (pi_range1 rfl z_range (pa_cons (pe_c O_taken hr rfl pass0 (pa_cons (pv 0) (pa_cons pe_int pa_nil))) pa_nil)) (pg_name (i := 2) sc.nd rfl (.inl rfl)) (pss_cons (ps_set (i := 3) sc.nd rfl (.inl rfl) (pe_c O_taken hr rfl pass0 (pa_cons (pv 0) (pa_cons pe_int pa_nil))))
    (pss_one (ps_set (i := 1) sc.nd rfl (.inr rfl) (pe_op op_cat (pv 1) (pe_op op_rep (pe_lst (pa_cons (pv 3) pa_nil)) (pe_callTy call_int1 rfl z_int (by decide +kernel) (pa_cons (pe_cmpR (op_notInK K) (pv 3) (pv 1) (by rfl)) pa_nil))))))))
    (pss_cons (ps_setLc (i := 4) (own := [("_law_k", 2)]) (by rfl) sc.nd rfl rfl (sw_true rfl rfl rfl (by decide +kernel)) (pi_range1 rfl z_range (pa_cons (pe_callB (call_lenK K) rfl z_len PySem.boot_len (pa_cons (pv 1) pa_nil)) pa_nil)) (blkOk_by (own := [("_law_k", 2)]) (N := ["_law_row", "_law_names", "_law_k", "_law_name", "_law_params"]) (sc := defScope sLawFace) (by decide +kernel)) (fun _ _ _ _ _ => (pg_name (i := 2) sc.nd rfl (.inl rfl))) (fun _ _ _ _ _ => pts_nil) (fun _ _ _ _ _ => (pe_tup (pa_cons (pe_ix (ix_listK K) (pv 1) (pv 2) (fun _ _ => rfl)) (pa_cons (pe_ix (ix_listK K) (pe_lst (pa_cons pe_int (pa_cons (pe_c O_taken hr rfl pass0 (pa_cons (pv 0) (pa_cons pe_int pa_nil))) pa_nil))) (pe_callTy call_int1 rfl z_int (by decide +kernel) (pa_cons (pe_cmpR op_gt (pv 2) pe_int (nomark _)) pa_nil)) (fun _ _ => rfl)) pa_nil)))))
    (pss_one (ps_ret (pe_tup (pa_cons (pe_callTy (call_tupleF K) rfl z_tuple (by decide +kernel) (pa_cons (pv 4) pa_nil)) (pa_cons (pe_c O_taken hr rfl pass0 (pa_cons (pv 0) (pa_cons pe_int pa_nil))) pa_nil)))))))), ?_⟩
  refine ⟨_, rfl, r, 20, rfl, dr, by decide, by decide, fun k0 H1 k0a k0b g1 => ⟨by show 1 ≤ sizeLine; decide, fun l0 hl0 => ?_⟩⟩
  have g2 := Drawn.new (o := .lst [.int k0]) g1.d hl0
  refine ⟨_, rfl, r, 4, rfl, g2.d, by decide, by decide, fun m H3 ma mb g3 => ⟨_, rfl, by omega, by omega, ?_⟩⟩
  have nl0 : l0 ≠ r.r := by
    obtain ⟨o, ho⟩ := g1.d.ref
    exact (ne_of_none ho hl0).symm
  have g13 : Drawn K r H H3 := (g1.trans g2).trans g3
  have e0 : H3 l0 = some (.lst ([k0].map V.int)) := g3.s _ _ nl0 upd_same
  refine for_range (lo := 0) (n := m.toNat) (fun i σ H' => ∃ (l : Addr) (ns : List Int) (x2 x3 : Option V), σ = [some (.ref r.r), some (.ref l), x2, x3, none] ∧ Drawn K r H H' ∧ H' l = some (.lst (ns.map V.int)) ∧ l ≠ r.r ∧ ns.Nodup ∧ 0 < ns.length ∧ ns.length ≤ i + 1 ∧ ∀ x ∈ ns, 0 ≤ x ∧ x ≤ 19)
    ⟨l0, [k0], none, none, rfl, g13, e0, nl0, by simp, by simp, by simp, fun x hx => by rw [List.mem_singleton.mp hx]; omega⟩ ?_ ?_
  · rintro i σ H4 hi ⟨l, ns, x2, x3, rfl, g4, el, nl, nd, np, nle, nb⟩
    refine ⟨_, rfl, r, 20, rfl, g4.d, by decide, by decide, fun x H5 xa xb g5 => ?_⟩
    have el5 := g5.s _ _ nl el
    refine ⟨_, rfl, _, rfl, by show 1 ≤ sizeLine; decide, fun l1 hl1 => ?_⟩
    have g6 := Drawn.new (o := .lst [.int x]) g5.d hl1
    have nl1 : l1 ≠ r.r := by
      obtain ⟨o, ho⟩ := g5.d.ref
      exact (ne_of_none ho hl1).symm
    have el6 := g6.s _ _ nl el5
    refine ⟨_, rfl, _, rfl, l, _, rfl, .inl (SqL.of el6), rfl, allFlat_int ns, .inr ⟨_, rfl, ?_⟩⟩
    have hin : (if true = true then !inV (V.int x) (ns.map V.int) else inV (V.int x) (ns.map V.int)) = !decide (x ∈ ns) := by
      rw [if_pos rfl, inV_int]
    rw [hin]
    refine ⟨l1, _, _, rfl, rfl, upd_same, ?_, ?_, ?_, fun l2 hl2 => ?_⟩
    · split <;> decide
    · split <;> decide
    · split
      · show 1 * 1 ≤ sizeLine
        decide
      · show 1 * 0 ≤ sizeLine
        decide
    have g7 := Drawn.new (o := .lst (List.replicate (if (!decide (x ∈ ns)) = true then (1 : Int) else 0).toNat [V.int x]).flatten) g6.d hl2
    have nl2 : l2 ≠ r.r := by
      obtain ⟨o, ho⟩ := g6.d.ref
      exact (ne_of_none ho hl2).symm
    refine ⟨l, l2, _, _, rfl, rfl, g7.s _ _ nl el6, upd_same, ?_, fun l3 hl3 => ?_⟩
    · refine le2 ?_
      rw [List.length_map]
      split
      · show ns.length + 1 ≤ 1000
        omega
      · show ns.length + 0 ≤ 1000
        omega
    have g8 := Drawn.new (o := .lst (ns.map V.int ++ (List.replicate (if (!decide (x ∈ ns)) = true then (1 : Int) else 0).toNat [V.int x]).flatten)) g7.d hl3
    have nl3 : l3 ≠ r.r := by
      obtain ⟨o, ho⟩ := g7.d.ref
      exact (ne_of_none ho hl3).symm
    by_cases c : x ∈ ns
    · refine ⟨l3, ns, _, _, rfl, (g4.trans g5).trans (g6.trans (g7.trans g8)), ?_, nl3, nd, np, by omega, nb⟩
      rw [upd_same]
      simp [c]
    · refine ⟨l3, ns ++ [x], _, _, rfl, (g4.trans g5).trans (g6.trans (g7.trans g8)), ?_, nl3, ?_, by simp, ?_, ?_⟩
      · rw [upd_same]
        simp [c]
      · refine List.nodup_append.mpr ⟨nd, by simp, fun a ha b hb => ?_⟩
        rw [List.mem_singleton.mp hb]
        exact fun z => c (z ▸ ha)
      · rw [List.length_append]
        exact Nat.succ_le_succ nle
      · intro y hy
        rcases List.mem_append.mp hy with hy | hy
        · exact nb y hy
        · rw [List.mem_singleton.mp hy]
          omega
  rintro σ H4 ⟨l, ns, x2, x3, rfl, g4, el, nl, nd, np, nle, nb⟩
  have len4 : ns.length ≤ 4 := by omega
  refine ⟨_, rfl, l, _, rfl, .inl (SqL.of el), _, rfl, by omega, ?_, fun D hD => ?_⟩
  · rw [List.length_map]
    omega
  have nD : D ≠ r.r := by
    obtain ⟨o, ho⟩ := g4.d.ref
    exact (ne_of_none ho hD).symm
  have hlen : (ns.map V.int).length = ns.length := List.length_map _
  refine lc_range (lo := 0) (n := (ns.map V.int).length) (fun i H' => ∃ vs qs, H' D = some (.lst vs) ∧ vs.length = i ∧ Drawn K r H4 H' ∧ PIns H' vs qs ∧ qs.map (·.1) = ns.take i ∧ (∀ p ∈ qs, p.2 ≤ 3) ∧ (∀ p, qs[0]? = some p → p.2 = 0))
    ⟨[], [], upd_same, rfl, Drawn.new g4.d hD, .nil, rfl, fun p hp => by (cases hp), fun p hp => by simp at hp⟩ ?_ ?_
  · rintro i H5 hi ⟨vs, qs, eD, ev, g5, pi, en, h3, h0⟩
    rw [hlen] at hi
    refine ⟨rfl, ?_⟩
    dsimp only [tYes, gName]
    rw [if_pos rfl]
    have hat : atI (ns.map V.int) (0 + (i : Int)) = some (.int ns[i]) := by
      rw [Int.zero_add]
      exact atI_nat (by rw [List.getElem?_map, List.getElem?_eq_getElem hi]; rfl)
    refine ⟨_, rfl, _, rfl, l, _, _, _, rfl, rfl, SqL.of (g5.s _ _ nl el), hat, ?_⟩
    refine ⟨_, rfl, r, 4, rfl, g5.d, by decide, by decide, fun kd H6 ka kb g6 => ⟨by show 2 ≤ sizeLine; decide, fun l5 hl5 => ?_⟩⟩
    obtain ⟨kd, rfl⟩ : ∃ c1 : Nat, kd = (c1 : Int) := ⟨kd.toNat, by omega⟩
    have g7 := Drawn.new (o := .lst [.int 0, .int (kd : Int)]) g6.d hl5
    refine ⟨_, rfl, _, _, rfl, rfl, .inr ⟨_, rfl, l5, _, _, dV (if i = 0 then 0 else kd), rfl, rfl, SqL.of upd_same, ?_, by show 2 ≤ sizeLine; decide, fun l6 hl6 => ?_⟩⟩
    · by_cases c : i = 0
      · subst c
        rfl
      · have c2 : (0 : Int) < 0 + (i : Int) := by omega
        rw [if_neg c, decide_eq_true c2]
        rfl
    have g8 := Drawn.new (o := .tup [.int ns[i], dV (if i = 0 then 0 else kd)]) g7.d hl6
    have g58 : Drawn K r H5 (upd (upd H6 l5 (.lst [.int 0, .int (kd : Int)])) l6 (.tup [.int ns[i], dV (if i = 0 then 0 else kd)])) := g6.trans (g7.trans g8)
    have tk9 := TK.lst (ys := vs ++ [.ref l6]) (g58.s _ _ nD eD)
    refine ⟨vs, g58.s _ _ nD eD, ?_, vs ++ [.ref l6], qs ++ [(ns[i], if i = 0 then 0 else kd)], upd_same, ?_, ?_, ?_, ?_, ?_, ?_⟩
    · rw [ev]
      exact small1000 (by omega)
    · rw [List.length_append, ev]
      rfl
    · exact (g5.trans g58).put g4.d hD
    · exact (pi.mono ((g58.tk g5.d).trans tk9)).snoc (tk9 _ _ upd_same)
    · rw [List.map_append, en, List.take_succ, List.getElem?_eq_getElem hi]
      rfl
    · intro p hp
      rcases List.mem_append.mp hp with hp | hp
      · exact h3 p hp
      · rw [List.mem_singleton.mp hp]
        show (if i = 0 then 0 else kd) ≤ 3
        split <;> omega
    · intro p hp
      cases qs with
      | nil =>
        have l0 : i = 0 := by
          have := pi.len
          rw [ev] at this
          exact this
        have e9 : p = (ns[i], if i = 0 then 0 else kd) := (Option.some.inj hp).symm
        rw [e9]
        show (if i = 0 then 0 else kd) = 0
        rw [if_pos l0]
      | cons z zs => exact h0 p (by simpa using hp)
  · rintro H5 ⟨vs, qs, eD, ev, g5, pi, en, h3, h0⟩
    rw [hlen, List.take_length] at en
    refine ⟨_, rfl, D, _, rfl, SqL.of eD, fun pt o hpt hdn => ?_⟩
    have g6 := Drawn.new (o := .frz o (.tup vs)) g5.d hpt
    refine ⟨_, rfl, r, 4, rfl, g6.d, by decide, by decide, fun d H7 da db g7 => ⟨by show 2 ≤ sizeLine; decide, fun t ht => ?_⟩⟩
    obtain ⟨d, rfl⟩ : ∃ c1 : Nat, d = (c1 : Int) := ⟨d.toNat, by omega⟩
    have g8 := Drawn.new (o := .tup [.ref pt, dV d]) g7.d ht
    have npt : pt ≠ r.r := by
      obtain ⟨o', ho⟩ := g5.d.ref
      exact (ne_of_none ho hpt).symm
    have tk := (g6.tk g5.d).trans ((g7.tk g6.d).trans (g8.tk g7.d))
    refine q _ _ qs d ((g4.trans g5).trans (g6.trans (g7.trans g8))) ⟨t, pt, o, vs, rfl, upd_same, g8.s _ _ npt (g7.s _ _ npt upd_same), hdn, pi.mono tk⟩ ⟨by rw [en]; exact nd, fun p hp => ?_, ?_, by omega, ?_⟩
    · have hm : p.1 ∈ ns := by
        rw [← en]
        exact List.mem_map.mpr ⟨p, hp, rfl⟩
      have := nb _ hm
      exact ⟨this.1, this.2, h3 p hp⟩
    · have : (qs.map (·.1)).length = ns.length := by rw [en]
      rw [List.length_map] at this
      omega
    · cases qs with
      | nil =>
        have : ([] : List Int) = ns := en
        rw [← this] at np
        cases np
      | cons z zs =>
        obtain ⟨z1, z2⟩ := z
        have : z2 = 0 := h0 (z1, z2) rfl
        exact ⟨z1, zs, by rw [this]⟩
end
end NR
set_option maxHeartbeats 4000000
namespace NR
open PySem PySem.Spec PyProof.Rows L2

structure BI (K : PySem.W.Frag) (r : RD) (H0 H : Hp) (m : Addr) (fs : List (List Nat × Nat)) (own : Nat) (kn : Addr) (ps : List (Int × Nat)) (pt : Addr) (o : Obj) (pvs : List V) : Prop where
  g : Drawn K r H0 H
  G : Gen H r m fs own
  kn : H kn = some (.dK (ps.map kvOf))
  fr : H pt = some (.frz o (.tup pvs))
  pin : PIns H pvs ps
theorem BI.step {K : PySem.W.Frag} {r : RD} {H0 H H' : Hp} {m : Addr} {fs : List (List Nat × Nat)} {own : Nat} {kn : Addr} {ps : List (Int × Nat)} {pt : Addr} {o : Obj} {pvs : List V} (B : BI K r H0 H m fs own kn ps pt o pvs) (g : Drawn K r H H') : BI K r H0 H' m fs own kn ps pt o pvs := by
  obtain ⟨p, x, l, h, _⟩ := B.g.d.ex
  exact ⟨B.g.trans g, g.gen B.g.d B.G, g.s _ _ (ne_of B.kn h (by intro z; cases z)) B.kn, g.s _ _ (ne_of B.fr h (by intro z; cases z)) B.fr, B.pin.mono (g.tk B.g.d)⟩
theorem put_left {a b : V} : putK ([(Sum.inr "faces", a), (Sum.inr "own", b), (Sum.inr "left", .int 0)] : List (Key × V)) (Sum.inr "left") (.int 0) = ([(Sum.inr "faces", a), (Sum.inr "own", b), (Sum.inr "left", .int 0)] : List (Key × V)) := by rfl
abbrev sLawBody : Stmt := top 80
theorem scsLawBody : FnScope ["_law_row", "_law_m", "_law_face_here", "_law_itself", "_law_params", "_law_told", "_law_known", "_law_deep", "_law_first", "_law_some", "_law_call", "_law_free", "_law_inner", "_law_rest", "_law_body_here", "_law_row_up", "_law_name", "_law_depth"] ["_law_row", "_law_m", "_law_face_here", "_law_itself"] (defScope sLawBody) := ⟨rfl, rfl, rfl, by decide +kernel, rfl, by decide +kernel, by decide +kernel⟩
section
variable {P : Program} {w : World} {K : PySem.W.Frag} {mg : Str → Option Value} {base : Heap} {f : Addr} {k : Nat} {fs : List (List Nat × Nat)} {own : Nat} {cdv : Value} {A : Around} {outer : List Env} {s : Shared} {H : Hp} {E : XK} {Q : VK}
  {r : RD} {m kn pt t a0 : Addr} {o : Obj} {vrest : List V} {x0 : Int} {prest : List (Int × Nat)} {d : Nat} {k1 : Int}
abbrev XB (P : Program) (w : World) (K : PySem.W.Frag) (mg : Str → Option Value) (base : Heap) (f : Addr) (cdv : Value) (A : Around) (outer : List Env) (s : Shared) (H : Hp) (E : XK) : Cx := (cxOf CX0 P w K mg base ["_law_row", "_law_m", "_law_face_here", "_law_itself", "_law_params", "_law_told", "_law_known", "_law_deep", "_law_first", "_law_some", "_law_call", "_law_free", "_law_inner", "_law_rest", "_law_body_here", "_law_row_up", "_law_name", "_law_depth"] "_law_body" (defScope sLawBody) f cdv A outer s H E).nox
def RD14 (K : PySem.W.Frag) (r : RD) (H : Hp) (m pt t a0 : Addr) (o : Obj) (vrest : List V) (x0 : Int) (prest : List (Int × Nat)) (d : Nat) (fs : List (List Nat × Nat)) (own : Nat) (σ' : L2.St) (H' : Hp) : Prop := ∃ (kn : Addr) (k1 : Int) (p1 p6 p7 inn : Addr) (y : Int) (rv : V) (re : Ex) (x14 x15 : Option V), σ' = [some (.ref r.r), some (.ref m), some (.ref t), some (.bl true), some (.ref pt), some (dV d), some (.ref kn), some (.int (2 + k1)), some (.ref p1), some (.ref p6), some (.ref p7), some (.int y), some (.ref inn), some rv, x14, x15, none, none] ∧ 0 ≤ k1 ∧ k1 < 3 ∧
    BI K r H H' m fs own kn ((x0, 0) :: prest) pt o (.ref a0 :: vrest) ∧ TIn H' (.ref p1) (.node .name x0 []) ∧ TIn H' rv re ∧ Ty fs (envOf ((x0, 0) :: prest)) re d ∧ re.selfs (own : Int) ≤ 1 ∧ re.hgt ≤ 11
theorem body_d (hr : Room k (XB P w K mg base f cdv A outer s H E).A) (O_taken : Okf P w K mg base CX0 k "_law_taken" ["_law_row", "_law_many"] (spTaken K))
    (O_tree : Okf P w K mg base CX0 k "_law_tree" ["_law_row", "_law_m", "_law_depth", "_law_deep", "_law_known"] (spTree K fs own 4))
    (z_dict : mg "dict" = none) (z_range : mg "range" = none) (z_tuple : mg "tuple" = none) (FO : FaceOk ((x0, 0) :: prest) d) (few : own ≤ 5) (hfs : fs[own]? = some (((x0, 0) :: prest).map (·.2), d))
    (q : ∀ (v : V) (H' : Hp) (e : Ex), Drawn K r H H' → TIn H' v e → Ty fs (envOf ((x0, 0) :: prest)) e d → e.selfs (own : Int) ≤ 1 → e.hgt ≤ 12 → Q v H') :
    ∃ t14, PSs (XB P w K mg base f cdv A outer s H E) ((defBody sLawBody).drop 14) t14 ∧ ∀ σ' H', RD14 K r H m pt t a0 o vrest x0 prest d fs own σ' H' → t14 { nx := fun _ H' => Q .non H', rt := Q } σ' H' := by
  have sc := scsLawBody
  have hu := hu_of hr
  have lenown : (fs.take own).length ≤ own := by
    rw [List.length_take]
    omega
  have lo0 := FO.lo (x0, 0) (List.mem_cons_self ..)
  refine ⟨_, pss_one (ps_ret (pe_tup (pa_cons pe_str (pa_cons (pe_tup (pa_cons pe_str (pa_cons (pe_tup (pa_cons pe_str (pa_cons pe_int pa_nil))) (pa_cons (pv 8) pa_nil)))) (pa_cons (pv 13) (pa_cons (pe_c O_tree hr rfl pass0 (pa_cons (pv 0) (pa_cons (pv 1) (pa_cons (pv 5) (pa_cons (pe_op op_sub (pv 7) pe_int) (pa_cons (pv 6) pa_nil)))))) pa_nil)))))), ?_⟩
  rintro σ' Hz ⟨kn, k1, p1, p6, p7, inn, y, rv, re, x14, x15, rfl, k1a, k1b, Bz, tfz, trz, tyz, sz, hz⟩
  refine ⟨by show 2 ≤ sizeLine; decide, fun q1 hq1 => ⟨_, rfl, by show 3 ≤ sizeLine; decide, fun q2 hq2 => ?_⟩⟩
  have z1 := Drawn.new (o := .tup [.str "num", .int 0]) Bz.g.d hq1
  have C1 := Bz.step z1
  have z2 := Drawn.new (o := .tup [.str "less", .ref q1, .ref p1]) C1.g.d hq2
  have C2 := C1.step z2
  have tless : TIn (upd (upd Hz q1 (.tup [.str "num", .int 0])) q2 (.tup [.str "less", .ref q1, .ref p1])) (.ref q2) (.node .less (-1) [.node .num 0 [], .node .name x0 []]) := .bare rfl upd_same (.cons (.leaf rfl (z2.tk C1.g.d _ _ upd_same)) (.cons (tfz.mono ((z1.tk Bz.g.d).trans (z2.tk C1.g.d))) .nil))
  have trz2 := trz.mono ((z1.tk Bz.g.d).trans (z2.tk C1.g.d))
  generalize upd (upd Hz q1 (.tup [.str "num", .int 0])) q2 (.tup [.str "less", .ref q1, .ref p1]) = Hy at z2 C2 tless trz2 ⊢
  refine ⟨_, rfl, _, rfl, _, rfl, _, rfl, _, rfl, _, _, rfl, rfl, _, rfl, r, m, kn, d, 2 + k1 - 1, _, rfl, C2.g.d, C2.G, ⟨_, C2.kn, FO.kn⟩, FO.hd, by omega, fun v H15 e15 g15 ti15 ty15 hh15 => ⟨by show 4 ≤ sizeLine; decide, fun q3 hq3 => ?_⟩⟩
  have C3 := C2.step g15
  have z3 := Drawn.new (o := .tup [.str "if", .ref q2, rv, v]) C3.g.d hq3
  have tk3 := (g15.tk C2.g.d).trans (z3.tk C3.g.d)
  refine q _ _ (.node .ite (-1) [.node .less (-1) [.node .num 0 [], .node .name x0 []], re, e15]) (C3.g.trans z3) (.bare rfl upd_same (.cons (tless.mono tk3) (.cons (trz2.mono tk3) (.cons (ti15.mono (z3.tk C3.g.d)) .nil)))) ?_ ?_ ?_
  · exact .ite (.two (by simp) (.num (by decide) (by decide)) (.name lo0.1 lo0.2.1 (FO.kn.ok _ (List.mem_cons_self ..)) (by omega))) tyz (ty15.weak take_get fun _ _ z => z)
  · rw [selfs_eq, selfss_cons, selfss_cons, selfss_cons, selfss_nil, ty15.noself lenown, if_neg (by rintro ⟨z, _⟩; cases z)]
    have : (Ex.node .less (-1) [.node .num 0 [], .node .name x0 []]).selfs (own : Int) = 0 := rfl
    omega
  · refine hgt3 (k := 11) ?_ hz (by omega)
    show 2 ≤ 11
    omega

def RD13 (K : PySem.W.Frag) (r : RD) (H : Hp) (m pt t a0 : Addr) (o : Obj) (vrest : List V) (x0 : Int) (prest : List (Int × Nat)) (d : Nat) (fs : List (List Nat × Nat)) (own : Nat) (σ' : L2.St) (H14 : Hp) : Prop := ∃ (kn : Addr) (k1 : Int) (p1 p3 p6 p7 p8 inn : Addr) (y : Int) (v13 : V) (vs : List V) (args : List Ex) (e13 : Ex) (l' : List (Int × Nat)) (H11 : Hp), σ' = [some (.ref r.r), some (.ref m), some (.ref t), some (.bl true), some (.ref pt), some (dV d), some (.ref kn), some (.int (2 + k1)), some (.ref p1), some (.ref p6), some (.ref p7), some (.int y), some (.ref inn), some (.ref p8), none, none, none, none] ∧ 0 ≤ k1 ∧ k1 < 3 ∧
    (BI K r H H11 m fs own kn ((x0, 0) :: prest) pt o (.ref a0 :: vrest) ∧ H11 inn = none ∧ Drawn K r H11 H14 ∧ H14 inn = some (.dK (l'.map kvOf)) ∧ l'.length ≤ 20) ∧
    BI K r H H14 m fs own kn ((x0, 0) :: prest) pt o (.ref a0 :: vrest) ∧ TIn H14 (.ref p1) (.node .name x0 []) ∧ TIn H14 (.ref p8) (.node .elet y [.node .call (own : Int) args, e13]) ∧ H14 p8 = some (.tup [.str "let", .int y, .ref p7, v13]) ∧
    TIns H14 ([.ref p3] ++ vs) args ∧ H14 p6 = some (.lst ([.ref p3] ++ vs)) ∧ p6 ≠ r.r ∧ inn ≠ r.r ∧ vs.length = (prest.map (·.2)).length ∧
    Ty fs (envOf ((x0, 0) :: prest)) (.node .elet y [.node .call (own : Int) args, e13]) d ∧ (Ex.node .elet y [.node .call (own : Int) args, e13]).selfs (own : Int) ≤ 1 ∧ (Ex.node .elet y [.node .call (own : Int) args, e13]).hgt ≤ 10 ∧
    Ty fs (envOf ((x0, 0) :: prest)) (.node .call (own : Int) args) d ∧ (Ex.node .call (own : Int) args).selfs (own : Int) = 1 ∧ (Ex.node .call (own : Int) args).hgt ≤ 9 ∧ envOf ((x0, 0) :: prest) y = none ∧ 0 ≤ y ∧ y ≤ 19
theorem body_c (hr : Room k (XB P w K mg base f cdv A outer s H E).A) (O_taken : Okf P w K mg base CX0 k "_law_taken" ["_law_row", "_law_many"] (spTaken K))
    (O_tree : Okf P w K mg base CX0 k "_law_tree" ["_law_row", "_law_m", "_law_depth", "_law_deep", "_law_known"] (spTree K fs own 4))
    (z_dict : mg "dict" = none) (z_range : mg "range" = none) (z_tuple : mg "tuple" = none) (FO : FaceOk ((x0, 0) :: prest) d) (few : own ≤ 5) (hfs : fs[own]? = some (((x0, 0) :: prest).map (·.2), d))
    (q : ∀ (v : V) (H' : Hp) (e : Ex), Drawn K r H H' → TIn H' v e → Ty fs (envOf ((x0, 0) :: prest)) e d → e.selfs (own : Int) ≤ 1 → e.hgt ≤ 12 → Q v H') :
    ∃ t13, PSs (XB P w K mg base f cdv A outer s H E) ((defBody sLawBody).drop 13) t13 ∧ ∀ σ' H', RD13 K r H m pt t a0 o vrest x0 prest d fs own σ' H' → t13 { nx := fun _ H' => Q .non H', rt := Q } σ' H' := by
  obtain ⟨t14, p14, rest⟩ := body_d hr O_taken O_tree z_dict z_range z_tuple FO few hfs q (m := m) (pt := pt) (t := t) (a0 := a0) (o := o) (vrest := vrest)
  have sc := scsLawBody
  have hu := hu_of hr
  have lenown : (fs.take own).length ≤ own := by
    rw [List.length_take]
    omega
  have lo0 := FO.lo (x0, 0) (List.mem_cons_self ..)
  have fewp : prest.length ≤ 3 := by
    have := FO.few
    simp only [List.length_cons] at this
    omega
  refine ⟨_, (pss_cons (ps_if (PW.pt (pw_and (pt_cmpR op_gt (pv 5) pe_int (nomark _)) (pw_and1 (pt_cmpR op_eq (pe_c O_taken hr rfl pass0 (pa_cons (pv 0) (pa_cons pe_int pa_nil))) pe_int (nomark _))))) (pss_cons (ps_dput hu (pv 12) (pv 11) pe_int rfl)
    (pss_cons (ps_set (i := 14) sc.nd rfl (.inl rfl) (pe_tup (pa_cons pe_str (pa_cons (pe_dget hu (pv 1) pe_str (fun _ _ => rfl)) (pa_cons (pe_callTy (call_tupleK K) rfl z_tuple (by decide +kernel) (pa_cons (pe_op op_cat (pe_slice (sl_listK K) (pv 9) po_none (po_some pe_int)) (pe_slice (sl_listK K) (pv 9) (po_some pe_int) po_none)) pa_nil)) pa_nil)))))
    (pss_cons (ps_set (i := 15) sc.nd rfl (.inl rfl) (pe_tup (pa_cons pe_str (pa_cons (pe_tup (pa_cons pe_str (pa_cons (pe_op op_add pe_int (pe_c O_taken hr rfl pass0 (pa_cons (pv 0) (pa_cons pe_int pa_nil)))) pa_nil))) pa_nil))))
    (pss_cons (ps_set (i := 13) sc.nd rfl (.inl rfl) (pe_ifExp (pt_cmpR op_lt (pv 5) pe_int (nomark _)) (pe_tup (pa_cons pe_str (pa_cons (pv 11) (pa_cons (pv 15) (pa_cons (pv 14) pa_nil))))) (pv 13)))
    (pss_one (ps_set (i := 13) sc.nd rfl (.inl rfl) (pe_ifExp (pt_cmpR op_eq (pe_ix (ix_tupK K) (pv 13) pe_int (fun _ _ => rfl)) pe_str (nomark _)) (pe_tup (pa_cons pe_str (pa_cons (pv 13) pa_nil))) (pv 13)))))))) pss_nil)
    p14), ?_⟩
  rintro σ' H14 ⟨kn, k1, p1, p3, p6, p7, p8, inn, y, v13, vs, args, e13, l', H11, rfl, k1a, k1b, ⟨Bc, hinn, gcf, eif, few'⟩, Bf, tff, trest, erest, targsf, e6f, np6, nin, ev, tyrest, srest, hrest, tycall, scall, hcall, hρ, y0, y1⟩
  have nox : ∀ (H' : Hp), Drawn K r H14 H' → _ := fun H' g' => rest _ H' ⟨kn, k1, p1, p6, p7, inn, y, .ref p8, _, none, none, rfl, k1a, k1b, Bf.step g', tff.mono (g'.tk Bf.g.d), trest.mono (g'.tk Bf.g.d), tyrest, srest, by omega⟩
  refine ⟨_, rfl, _, _, rfl, rfl, _, rfl, ?_⟩
  refine ite2 (fun c => ?_) (fun c => ite2 (fun z => nomatch z) (fun _ => nox H14 (.refl Bf.g.d)))
  have d0 : 0 < d := by
    have : (0 : Int) < (d : Int) := of_decide_eq_true c
    omega
  obtain ⟨d, rfl⟩ : ∃ d', d = d' + 1 := ⟨d - 1, by omega⟩
  refine ⟨_, rfl, r, 2, rfl, Bf.g.d, by decide, by decide, fun k2 H15 k2a k2b g15 => ⟨rfl, _, rfl, ?_⟩⟩
  refine ite2 (fun c => ?_) (fun c => nox H15 g15)
  have ei15 := g15.s _ _ nin eif
  refine ⟨_, rfl, _, rfl, inn, _, rfl, DPut.k (k := Sum.inl y) ei15 ?_, ?_⟩
  · rw [List.length_map]
    have := few'
    exact small1000 (by omega)
  have B16 := Bc.step ((gcf.trans g15).put (o := .dK (putK (l'.map kvOf) (Sum.inl y) (.int 0))) Bc.g.d hinn)
  have tk16 := (g15.tk Bf.g.d).trans (TK.dict (b := putK (l'.map kvOf) (Sum.inl y) (.int 0)) ei15)
  have tf16 := tff.mono tk16
  have trest16 := trest.mono tk16
  have erest16 := tk16 _ _ erest
  have targs16 := targsf.mono tk16
  have e616 : upd H15 inn (.dK (putK (l'.map kvOf) (Sum.inl y) (.int 0))) p6 = some (.lst ([.ref p3] ++ vs)) := (upd_ne (ne_of e6f eif (by intro z; cases z))).trans (g15.s _ _ np6 e6f)
  generalize upd H15 inn (.dK (putK (l'.map kvOf) (Sum.inl y) (.int 0))) = H16 at B16 tk16 tf16 trest16 erest16 targs16 e616 ⊢
  clear g15 tk16 tff trest erest targsf e6f eif ei15 gcf nox Bf
  obtain ⟨fl9, xs9, em9, efl9, fi9, nfl9⟩ := B16.G.ex
  refine ⟨_, rfl, m, _, rfl, dget em9 val_own, _, rfl, _, rfl, p6, _, rfl, SqL.of e616, fun s1 hs1 => ⟨_, rfl, _, rfl, p6, _, rfl, SqL.of (same_new hs1 _ _ _ e616), fun s2 hs2 => ?_⟩⟩
  clear em9 efl9 fi9 nfl9
  have ec1 : cutV ([.ref p3] ++ vs) none (some 1) = [.ref p3] := cut01 _ _
  have ec2 : cutV ([.ref p3] ++ vs) (some 1) none = vs := cut1 _ _
  rw [ec1] at hs2
  rw [ec1, ec2]
  have w1 := Drawn.new (o := .lst [.ref p3]) B16.g.d hs1
  have C1 := B16.step w1
  have w2 := Drawn.new (o := .lst vs) C1.g.d hs2
  have C2 := C1.step w2
  refine ⟨s1, s2, _, _, rfl, rfl, w2.s _ _ (Drawn.ne B16.g.d hs1) upd_same, upd_same, ?_, fun s3 hs3 => ⟨s3, _, rfl, .inl ⟨SqL.of upd_same, fun s4 hs4 => ⟨by show 3 ≤ sizeLine; decide, fun s5 hs5 => ?_⟩⟩⟩⟩
  · refine le2 ?_
    rw [ev, List.length_map]
    show 1 + prest.length ≤ 1000
    omega
  have w3 := Drawn.new (o := .lst ([.ref p3] ++ vs)) C2.g.d hs3
  have C3 := C2.step w3
  have w4 := Drawn.new (o := .tup ([.ref p3] ++ vs)) C3.g.d hs4
  have C4 := C3.step w4
  have w5 := Drawn.new (o := .tup [.str "call", .int (own : Int), .ref s4]) C4.g.d hs5
  have C5 := C4.step w5
  have tk5 := ((w1.tk B16.g.d).trans (w2.tk C1.g.d)).trans ((w3.tk C2.g.d).trans ((w4.tk C3.g.d).trans (w5.tk C4.g.d)))
  have tf17 := tf16.mono tk5
  have trest17 := trest16.mono tk5
  have erest17 := tk5 _ _ erest16
  have tb17 : TIn (upd (upd (upd (upd (upd H16 s1 (.lst [.ref p3])) s2 (.lst vs)) s3 (.lst ([.ref p3] ++ vs))) s4 (.tup ([.ref p3] ++ vs))) s5 (.tup [.str "call", .int (own : Int), .ref s4])) (.ref s5) (.node .call (own : Int) args) := .call upd_same (w5.tk C4.g.d _ _ upd_same) (targs16.mono tk5)
  generalize upd (upd (upd (upd (upd H16 s1 (.lst [.ref p3])) s2 (.lst vs)) s3 (.lst ([.ref p3] ++ vs))) s4 (.tup ([.ref p3] ++ vs))) s5 (.tup [.str "call", .int (own : Int), .ref s4]) = H17 at w5 C5 tk5 tf17 trest17 erest17 tb17 ⊢
  clear w1 w2 w3 w4 C1 C2 C3 C4 tf16 trest16 erest16 targs16 e616 B16 hs2 hs3 hs4
  refine ⟨_, rfl, r, 2, rfl, C5.g.d, by decide, by decide, fun k3 H18 k3a k3b g18 => ⟨_, _, rfl, rfl, by show 2 ≤ sizeLine; decide, fun u1 hu1 => ⟨by show 2 ≤ sizeLine; decide, fun u2 hu2 => ?_⟩⟩⟩
  have C6 := C5.step g18
  have w6 := Drawn.new (o := .tup [.str "num", .int (1 + k3)]) C6.g.d hu1
  have C7 := C6.step w6
  have w7 := Drawn.new (o := .tup [.str "upto", .ref u1]) C7.g.d hu2
  have C8 := C7.step w7
  have tk8 := (g18.tk C5.g.d).trans ((w6.tk C6.g.d).trans (w7.tk C7.g.d))
  have tf19 := tf17.mono tk8
  have trest19 := trest17.mono tk8
  have erest19 := tk8 _ _ erest17
  have tb19 := tb17.mono tk8
  have tu19 : TIn (upd (upd H18 u1 (.tup [.str "num", .int (1 + k3)])) u2 (.tup [.str "upto", .ref u1])) (.ref u2) (.node .upto (-1) [.node .num (1 + k3) []]) := .bare rfl upd_same (.cons (.leaf rfl (w7.tk C7.g.d _ _ upd_same)) .nil)
  generalize upd (upd H18 u1 (.tup [.str "num", .int (1 + k3)])) u2 (.tup [.str "upto", .ref u1]) = H19 at w7 C8 tk8 tf19 trest19 erest19 tb19 tu19 ⊢
  clear w6 C6 C7 tf17 trest17 erest17 tb17 g18 C5
  refine ⟨_, rfl, _, _, rfl, rfl, _, rfl, ite2 (fun c => ?_) (fun c => ?_)⟩
  · have d2 : ((d + 1 : Nat) : Int) < 3 := of_decide_eq_true c
    refine ⟨_, rfl, _, rfl, _, rfl, by show 4 ≤ sizeLine; decide, fun x1 hx1 => ?_⟩
    have w8 := Drawn.new (o := .tup [.str "each", .int y, .ref u2, .ref s5]) C8.g.d hx1
    have C9 := C8.step w8
    refine ⟨_, rfl, x1, _, _, _, rfl, rfl, SqT.of upd_same, at0, rfl, _, rfl, ite2 (fun c => ?_) (fun c => absurd rfl c)⟩
    refine ⟨_, rfl, by show 2 ≤ sizeLine; decide, fun x2 hx2 => ?_⟩
    have w9 := Drawn.new (o := .tup [.str "flat", .ref x1]) C9.g.d hx2
    have tk10 := (w8.tk C8.g.d).trans (w9.tk C9.g.d)
    have tyb : Ty fs (ups (envOf ((x0, 0) :: prest)) y 0) (.node .call (own : Int) args) (d + 1) := tycall.weak (fun _ _ z => z) fun z c hz => by
      unfold ups
      by_cases e : z = y
      · rw [e, hρ] at hz
        cases hz
      · rw [if_neg e]
        exact hz
    refine rest _ _ ⟨kn, k1, p1, p6, p7, inn, y, .ref x2, .node .flat (-1) [.node .each y [.node .upto (-1) [.node .num (1 + k3) []], .node .call (own : Int) args]], _, _, rfl, k1a, k1b, C9.step w9, tf19.mono tk10, ?_, ?_, ?_, ?_⟩
    · exact .bare rfl upd_same (.cons (.bind rfl (w9.tk C9.g.d _ _ upd_same) (.cons (tu19.mono tk10) (.cons (tb19.mono tk10) .nil))) .nil)
    · exact .flat (.each (d1 := 0) y0 y1 (.upto (.num (by omega) (by omega))) tyb (by omega))
    · rw [selfs_eq, selfss_cons, selfss_nil, selfs_eq, selfss_cons, selfss_cons, selfss_nil, scall]
      have : (Ex.node .upto (-1) [.node .num (1 + k3) []]).selfs (own : Int) = 0 := rfl
      rw [this, if_neg (by rintro ⟨z, _⟩; cases z), if_neg (by rintro ⟨z, _⟩; cases z)]
      omega
    · refine hgt1 (k := 10) (hgt2 (k := 9) ?_ hcall)
      show 2 ≤ 9
      omega
  · refine ⟨_, rfl, _, rfl, p8, _, _, _, rfl, rfl, SqT.of erest19, at0, rfl, _, rfl, ite2 (fun c => absurd c (by decide)) (fun c => ?_)⟩
    exact ⟨_, rfl, rest _ _ ⟨kn, k1, p1, p6, p7, inn, y, .ref p8, _, _, _, rfl, k1a, k1b, C8, tf19, trest19, tyrest, srest, by omega⟩⟩

def RD8 (K : PySem.W.Frag) (r : RD) (H : Hp) (m pt t a0 : Addr) (o : Obj) (vrest : List V) (x0 : Int) (prest : List (Int × Nat)) (d : Nat) (fs : List (List Nat × Nat)) (own : Nat) (σ' : L2.St) (H9 : Hp) : Prop := ∃ (kn : Addr) (k1 : Int) (p1 p3 p6 : Addr) (vs : List V) (args : List Ex), σ' = [some (.ref r.r), some (.ref m), some (.ref t), some (.bl true), some (.ref pt), some (dV d), some (.ref kn), some (.int (2 + k1)), some (.ref p1), some (.ref p6), none, none, none, none, none, none, none, none] ∧ 0 ≤ k1 ∧ k1 < 3 ∧
    BI K r H H9 m fs own kn ((x0, 0) :: prest) pt o (.ref a0 :: vrest) ∧ TIn H9 (.ref p1) (.node .name x0 []) ∧ TIns H9 ([.ref p3] ++ vs) args ∧ H9 p6 = some (.lst ([.ref p3] ++ vs)) ∧ p6 ≠ r.r ∧ vs.length = (prest.map (·.2)).length ∧
    Tys fs (envOf ((x0, 0) :: prest)) args (((x0, 0) :: prest).map (·.2)) ∧ selfss (own : Int) args = 0 ∧ hgts args ≤ 8
theorem body_b (hr : Room k (XB P w K mg base f cdv A outer s H E).A) (O_taken : Okf P w K mg base CX0 k "_law_taken" ["_law_row", "_law_many"] (spTaken K))
    (O_tree : Okf P w K mg base CX0 k "_law_tree" ["_law_row", "_law_m", "_law_depth", "_law_deep", "_law_known"] (spTree K fs own 4))
    (z_dict : mg "dict" = none) (z_range : mg "range" = none) (z_tuple : mg "tuple" = none) (FO : FaceOk ((x0, 0) :: prest) d) (few : own ≤ 5) (hfs : fs[own]? = some (((x0, 0) :: prest).map (·.2), d))
    (q : ∀ (v : V) (H' : Hp) (e : Ex), Drawn K r H H' → TIn H' v e → Ty fs (envOf ((x0, 0) :: prest)) e d → e.selfs (own : Int) ≤ 1 → e.hgt ≤ 12 → Q v H') :
    ∃ t8, PSs (XB P w K mg base f cdv A outer s H E) ((defBody sLawBody).drop 8) t8 ∧ ∀ σ' H', RD8 K r H m pt t a0 o vrest x0 prest d fs own σ' H' → t8 { nx := fun _ H' => Q .non H', rt := Q } σ' H' := by
  obtain ⟨t13, p13, rest⟩ := body_c hr O_taken O_tree z_dict z_range z_tuple FO few hfs q (m := m) (pt := pt) (t := t) (a0 := a0) (o := o) (vrest := vrest)
  have sc := scsLawBody
  have hu := hu_of hr
  have lenown : (fs.take own).length ≤ own := by
    rw [List.length_take]
    omega
  have lo0 := FO.lo (x0, 0) (List.mem_cons_self ..)
  refine ⟨_, (pss_cons (ps_set (i := 10) sc.nd rfl (.inl rfl) (pe_tup (pa_cons pe_str (pa_cons (pe_dget hu (pv 1) pe_str (fun _ _ => rfl)) (pa_cons (pe_callTy (call_tupleK K) rfl z_tuple (by decide +kernel) (pa_cons (pv 9) pa_nil)) pa_nil)))))
    (pss_cons (ps_set (i := 11) sc.nd rfl (.inl rfl) (pe_ix (ix_listK K) (pe_lc (own := [("_law_name", 16)]) (by rfl) sc.nd (pi_range1 rfl z_range (pa_cons pe_int pa_nil)) (blkOk_by (own := [("_law_name", 16)]) (N := ["_law_row", "_law_m", "_law_face_here", "_law_itself", "_law_params", "_law_told", "_law_known", "_law_deep", "_law_first", "_law_some", "_law_call", "_law_free", "_law_inner", "_law_rest", "_law_body_here", "_law_row_up", "_law_name", "_law_depth"]) (sc := defScope sLawBody) (by decide +kernel)) (fun _ _ _ _ _ => (pg_name (i := 16) sc.nd rfl (.inl rfl))) (fun _ _ _ _ _ => (pts_one (pt_cmp (pc_dnotin hu (pv 16) (pv 6))))) (fun _ _ _ _ _ => (pv 16))) pe_int (fun _ _ => rfl)))
    (pss_cons (ps_set (i := 12) sc.nd rfl (.inl rfl) (pe_callTy call_dictD rfl z_dict (by decide +kernel) (pa_cons (pv 6) pa_nil)))
    (pss_cons (ps_dput hu (pv 12) (pv 11) (pv 5) rfl)
    (pss_cons (ps_set (i := 13) sc.nd rfl (.inl rfl) (pe_tup (pa_cons pe_str (pa_cons (pv 11) (pa_cons (pv 10) (pa_cons (pe_c O_tree hr rfl pass0 (pa_cons (pv 0) (pa_cons (pv 1) (pa_cons (pv 5) (pa_cons (pe_op op_sub (pv 7) pe_int) (pa_cons (pv 12) pa_nil)))))) pa_nil))))))
    p13))))), ?_⟩
  rintro σ' H9 ⟨kn, k1, p1, p3, p6, vs, args, rfl, k1a, k1b, B9, tf9, targs9, e69, np6, ev, tyargs, sargs, hargs⟩
  obtain ⟨fl9, xs9, em9, efl9, fi9, nfl9⟩ := B9.G.ex
  refine ⟨_, rfl, m, _, rfl, dget em9 val_own, _, rfl, p6, _, rfl, .inl ⟨SqL.of e69, fun l1 hl1 => ⟨by show 3 ≤ sizeLine; decide, fun p7 hp7 => ?_⟩⟩⟩
  clear em9 efl9 fi9 nfl9
  have ga := Drawn.new (o := .tup ([.ref p3] ++ vs)) B9.g.d hl1
  have Ba := B9.step ga
  have gb := Drawn.new (o := .tup [.str "call", .int (own : Int), .ref l1]) Ba.g.d hp7
  have Bb := Ba.step gb
  have tkb := (ga.tk B9.g.d).trans (gb.tk Ba.g.d)
  have tfb := tf9.mono tkb
  have tcall : TIn (upd (upd H9 l1 (.tup ([.ref p3] ++ vs))) p7 (.tup [.str "call", .int (own : Int), .ref l1])) (.ref p7) (.node .call (own : Int) args) := .call upd_same (gb.tk Ba.g.d _ _ upd_same) (targs9.mono tkb)
  have e6b := (ga.trans gb).s _ _ np6 e69
  generalize upd (upd H9 l1 (.tup ([.ref p3] ++ vs))) p7 (.tup [.str "call", .int (own : Int), .ref l1]) = H10 at gb Bb tkb tfb tcall e6b ⊢
  have targsb := targs9.mono tkb
  clear ga Ba B9 tf9 e69 targs9
  have hcall : (Ex.node .call (own : Int) args).hgt ≤ 9 := by
    simp only [Ex.hgt]
    omega
  have tycall : Ty fs (envOf ((x0, 0) :: prest)) (.node .call (own : Int) args) d := .call (by omega) hfs tyargs
  have scall : (Ex.node .call (own : Int) args).selfs (own : Int) = 1 := by
    rw [selfs_eq, sargs, if_pos ⟨rfl, rfl⟩]
  -- a free name
  refine ⟨20, rfl, by decide, by decide, fun D2 hD2 => ?_⟩
  have nD2 : D2 ≠ r.r := Drawn.ne Bb.g.d hD2
  refine lc_range (lo := 0) (n := 20) (fun i H' => ∃ ns : List Int, H' = upd H10 D2 (.lst (ns.map V.int)) ∧ ns.length ≤ i ∧ (∀ x ∈ ns, 0 ≤ x ∧ x ≤ 19 ∧ ∀ p ∈ (x0, 0) :: prest, p.1 ≠ x) ∧ ∀ j : Nat, j < i → (j : Int) ∈ ns ∨ ∃ p ∈ (x0, 0) :: prest, p.1 = (j : Int))
    ⟨[], rfl, Nat.le_refl _, fun x hx => by (cases hx), fun j hj => absurd hj (Nat.not_lt_zero _)⟩ ?_ ?_
  · rintro i H' hi ⟨ns, rfl, hl, hb, hj⟩
    have ekn : upd H10 D2 (.lst (ns.map V.int)) kn = some (.dK (((x0, 0) :: prest).map kvOf)) := (upd_ne (ne_of_none Bb.kn hD2)).trans Bb.kn
    refine ⟨rfl, ?_⟩
    refine ⟨_, rfl, _, rfl, kn, _, rfl, DGet.k (k := Sum.inl (0 + (i : Int))) ekn, _, rfl, ?_⟩
    rw [valV_some, Int.zero_add]
    refine ite2 (fun c => ?_) (fun c => ?_)
    · have c1 : ∀ p ∈ (x0, 0) :: prest, p.1 ≠ (i : Int) := fun p hp e => by
        have : ((x0, 0) :: prest).any (fun p => decide (p.1 = (i : Int))) = true := List.any_eq_true.mpr ⟨p, hp, decide_eq_true e⟩
        rw [this] at c
        cases c
      refine ⟨_, rfl, _, upd_same, ?_, ns ++ [(i : Int)], ?_, ?_, ?_, ?_⟩
      · rw [List.length_map]
        exact small1000 (by omega)
      · rw [upd_upd, List.map_append]
        rfl
      · rw [List.length_append]
        exact Nat.succ_le_succ hl
      · intro x hx
        rcases List.mem_append.mp hx with hx | hx
        · exact hb x hx
        · rw [List.mem_singleton.mp hx]
          exact ⟨by omega, by omega, c1⟩
      · intro j hj2
        by_cases e : j = i
        · exact .inl (List.mem_append.mpr (.inr (by rw [e]; exact List.mem_singleton.mpr rfl)))
        · rcases hj j (by omega) with h | h
          · exact .inl (List.mem_append.mpr (.inl h))
          · exact .inr h
    · refine ⟨ns, rfl, Nat.le_succ_of_le hl, hb, fun j hj2 => ?_⟩
      by_cases e : j = i
      · right
        have c2 : ((x0, 0) :: prest).any (fun p => decide (p.1 = (i : Int))) = true := by
          cases e2 : ((x0, 0) :: prest).any (fun p => decide (p.1 = (i : Int))) with
          | true => rfl
          | false =>
            rw [e2] at c
            exact absurd rfl c
        obtain ⟨p, hp, hp2⟩ := List.any_eq_true.mp c2
        exact ⟨p, hp, by rw [e]; exact of_decide_eq_true hp2⟩
      · exact hj j (by omega)
  rintro H11 ⟨ns, rfl, hl, hb, hj⟩
  have hne : ns ≠ [] := fun z => by
    have h1 := sub_len (l1 := (List.range 20).map fun (j : Nat) => (j : Int)) (l2 := ((x0, 0) :: prest).map (·.1)) (range_map_nodup 20) fun x hx => by
      obtain ⟨j, hj1, rfl⟩ := List.mem_map.mp hx
      rcases hj j (List.mem_range.mp hj1) with h | ⟨p, hp, h⟩
      · rw [z] at h
        cases h
      · exact List.mem_map.mpr ⟨p, hp, h⟩
    rw [List.length_map, List.length_map, List.length_range] at h1
    have := FO.few
    omega
  obtain ⟨y, ys, ens⟩ : ∃ y ys, ns = y :: ys := by
    cases ns with
    | nil => exact absurd rfl hne
    | cons y ys => exact ⟨y, ys, rfl⟩
  subst ens
  obtain ⟨y0, y1, yn⟩ := hb y (List.mem_cons_self ..)
  have gc := Drawn.new (o := .lst ((y :: ys).map V.int)) Bb.g.d hD2
  have Bc := Bb.step gc
  have tfc := tfb.mono (gc.tk Bb.g.d)
  have tcallc := tcall.mono (gc.tk Bb.g.d)
  have targsc := targsb.mono (gc.tk Bb.g.d)
  have e6c := gc.s _ _ np6 e6b
  refine ⟨D2, _, _, _, rfl, rfl, SqL.of upd_same, at0, ?_⟩
  generalize upd H10 D2 (.lst ((y :: ys).map V.int)) = H11 at gc Bc tfc tcallc targsc e6c ⊢
  clear tfb tcall targsb e6b gb tkb
  have hρ : envOf ((x0, 0) :: prest) y = none := envOf_none yn
  -- one name more
  refine ⟨_, rfl, kn, _, rfl, .inl Bc.kn, fun inn hinn => ?_⟩
  obtain ⟨l', el', ok'⟩ := putK_kn (x := y) (d := d) FO.kn y0 y1 FO.hd
  refine ⟨_, rfl, _, rfl, _, rfl, inn, _, rfl, DPut.k (k := Sum.inl y) upd_same ?_, ?_⟩
  · rw [List.length_map]
    have := FO.few
    exact small1000 (by omega)
  rw [upd_upd]
  have el2 : putK (((x0, 0) :: prest).map kvOf) (Sum.inl y) (dV d) = l'.map kvOf := el'
  rw [el2]
  have gd := Drawn.new (o := .dK (l'.map kvOf)) Bc.g.d hinn
  have Bd := Bc.step gd
  have eid : upd H11 inn (.dK (l'.map kvOf)) inn = some (.dK (l'.map kvOf)) := upd_same
  have nin : inn ≠ r.r := Drawn.ne Bc.g.d hinn
  have tfd := tfc.mono (gd.tk Bc.g.d)
  have tcalld := tcallc.mono (gd.tk Bc.g.d)
  have targsd := targsc.mono (gd.tk Bc.g.d)
  have e6d := gd.s _ _ np6 e6c
  generalize upd H11 inn (.dK (l'.map kvOf)) = H12 at gd Bd eid tfd tcalld targsd e6d ⊢
  refine ⟨_, rfl, _, rfl, _, rfl, _, rfl, _, rfl, _, rfl, _, _, rfl, rfl, _, rfl, r, m, inn, d, 2 + k1 - 1, _, rfl, Bd.g.d, Bd.G, ⟨l', eid, ok'⟩, FO.hd, by omega, fun v13 H13 e13 ge ti13 ty13 hh13 => ⟨by show 4 ≤ sizeLine; decide, fun p8 hp8 => ?_⟩⟩
  have Be := Bd.step ge
  have gf := Drawn.new (o := .tup [.str "let", .int y, .ref p7, v13]) Be.g.d hp8
  have Bf := Be.step gf
  have tkf := (ge.tk Bd.g.d).trans (gf.tk Be.g.d)
  have tff := tfd.mono tkf
  have trest : TIn (upd H13 p8 (.tup [.str "let", .int y, .ref p7, v13])) (.ref p8) (.node .elet y [.node .call (own : Int) args, e13]) := .bind rfl upd_same (.cons (tcalld.mono tkf) (.cons (ti13.mono (gf.tk Be.g.d)) .nil))
  have erest : upd H13 p8 (.tup [.str "let", .int y, .ref p7, v13]) p8 = some (.tup [.str "let", .int y, .ref p7, v13]) := upd_same
  have targsf := targsd.mono tkf
  have e6f := (ge.trans gf).s _ _ np6 e6d
  have eif := (ge.trans gf).s _ _ nin eid
  have gcf := gd.trans (ge.trans gf)
  generalize upd H13 p8 (.tup [.str "let", .int y, .ref p7, v13]) = H14 at gf Bf tkf tff trest erest targsf e6f eif gcf ⊢
  clear tfd tcalld targsd e6d eid ge Be tfc tcallc targsc e6c
  have tyrest : Ty fs (envOf ((x0, 0) :: prest)) (.node .elet y [.node .call (own : Int) args, e13]) d := .elet y0 y1 tycall (ty13.weak take_get fun _ _ z => z)
  have srest : (Ex.node .elet y [.node .call (own : Int) args, e13]).selfs (own : Int) ≤ 1 := by
    rw [selfs_eq, selfss_cons, selfss_cons, selfss_nil, scall, ty13.noself lenown, if_neg (by rintro ⟨z, _⟩; cases z)]
    omega
  have hrest : (Ex.node .elet y [.node .call (own : Int) args, e13]).hgt ≤ 10 := hgt2 hcall (by omega)
  exact rest _ _ ⟨kn, k1, p1, p3, p6, p7, p8, inn, y, v13, vs, args, e13, l', H11, rfl, k1a, k1b, ⟨Bc, hinn, gcf, eif, ok'.few⟩, Bf, tff, trest, erest, targsf, e6f, np6, nin, ev, tyrest, srest, hrest, tycall, scall, hcall, hρ, y0, y1⟩
end
section
variable {P : Program} {w : World} {K : PySem.W.Frag} {mg : Str → Option Value} {base : Heap} {f : Addr} {fd : FuncData}

theorem ok_body {k : Nat} {fs : List (List Nat × Nat)} {own : Nat} (F : FnP K "_law_body" sLawBody f fd) (O_taken : Okf P w K mg base CX0 k "_law_taken" ["_law_row", "_law_many"] (spTaken K))
    (O_tree : Okf P w K mg base CX0 k "_law_tree" ["_law_row", "_law_m", "_law_depth", "_law_deep", "_law_known"] (spTree K fs own 4))
    (z_dict : mg "dict" = none) (z_range : mg "range" = none) (z_tuple : mg "tuple" = none) : FnOk P w K mg base CX0 (k + 1) f fd ["_law_row", "_law_m", "_law_face_here", "_law_itself"] (spBody K fs own) := by
  have sc := scsLawBody
  refine F.ok sc (fun vs H Q E h => ?_) (fun cdv A outer s H vs Q E hr h => ?_)
  · obtain ⟨r, m, fv, b, ps, d, rfl, _⟩ := h
    rfl
  have hu := hu_of hr
  obtain ⟨r, m, fv, b, ps, d, rfl, dr, G, FI, FO, hfs, q⟩ := h
  obtain ⟨t, pt, o, pvs, rfl, et, ept, hdn, pin⟩ := FI.ex
  obtain ⟨as, eas, prd⟩ := pin.paired (K := K)
  have lenown : (fs.take own).length ≤ own := by
    rw [List.length_take]
    omega
  have few := G.few
  obtain ⟨x0, prest, eps⟩ := FO.first
  subst eps
  have key : ∃ a0 vrest, pvs = .ref a0 :: vrest := by
    cases pin with
    | cons h r => exact ⟨_, _, rfl⟩
  obtain ⟨a0, vrest, epv⟩ := key
  subst epv
  obtain ⟨t8, p8, rest⟩ := body_b (cdv := cdv) (A := A) (outer := outer) (s := s) (H := H) (E := E) (f := f) hr O_taken O_tree z_dict z_range z_tuple FO few hfs q (m := m) (pt := pt) (t := t) (a0 := a0) (o := o) (vrest := vrest)
  refine ⟨_, PSs.nox (pss_cons (ps_asg (pv 2) (pg_tupK K (n := 2) rfl (pgs_cons (pg_name (i := 4) sc.nd rfl (.inl rfl)) (pgs_cons (pg_name (i := 5) sc.nd rfl (.inl rfl)) pgs_nil))))
    (pss_cons (ps_set (i := 6) sc.nd rfl (.inr rfl) (pe_callTy (call_dictT K rfl) rfl z_dict (by decide +kernel) (pa_cons (pv 4) pa_nil)))
    (pss_cons (ps_set (i := 7) sc.nd rfl (.inl rfl) (pe_op op_add pe_int (pe_c O_taken hr rfl pass0 (pa_cons (pv 0) (pa_cons pe_int pa_nil)))))
    (pss_cons (ps_dput hu (pv 1) pe_str pe_int rfl)
    (pss_cons (ps_if (pt_not (pt_val (pv 3))) (pss_one (ps_ret (pe_c O_tree hr rfl pass0 (pa_cons (pv 0) (pa_cons (pv 1) (pa_cons (pv 5) (pa_cons (pv 7) (pa_cons (pv 6) pa_nil)))))))) pss_nil)
    (pss_cons (ps_set (i := 8) sc.nd rfl (.inl rfl) (pe_tup (pa_cons pe_str (pa_cons (pe_ix (ix_tupK K) (pe_ix (ix_tupK K) (pv 4) pe_int (fun _ _ => rfl)) pe_int (fun _ _ => rfl)) pa_nil))))
    (pss_cons (ps_set (i := 9) sc.nd rfl (.inl rfl) (pe_lst (pa_cons (pe_tup (pa_cons pe_str (pa_cons (pv 8) (pa_cons (pe_tup (pa_cons pe_str (pa_cons pe_int pa_nil))) pa_nil)))) pa_nil)))
    (pss_cons (ps_set (i := 9) sc.nd rfl (.inl rfl) (pe_op op_cat (pv 9) (pe_lc (own := [("_law_name", 16), ("_law_depth", 17)]) (by rfl) sc.nd (pi_tupK K (pe_slice (sl_tupK K) (pv 4) (po_some pe_int) po_none)) (blkOk_by (own := [("_law_name", 16), ("_law_depth", 17)]) (N := ["_law_row", "_law_m", "_law_face_here", "_law_itself", "_law_params", "_law_told", "_law_known", "_law_deep", "_law_first", "_law_some", "_law_call", "_law_free", "_law_inner", "_law_rest", "_law_body_here", "_law_row_up", "_law_name", "_law_depth"]) (sc := defScope sLawBody) (by decide +kernel)) (fun _ _ _ _ _ => (pg_tupK K (n := 2) rfl (pgs_cons (pg_name (i := 16) sc.nd rfl (.inl rfl)) (pgs_cons (pg_name (i := 17) sc.nd rfl (.inl rfl)) pgs_nil)))) (fun _ _ _ _ _ => pts_nil) (fun _ _ _ _ _ => (pe_c O_tree hr rfl pass0 (pa_cons (pv 0) (pa_cons (pv 1) (pa_cons (pv 17) (pa_cons pe_int (pa_cons (pv 6) pa_nil))))))))))
    p8)))))))), ?_⟩
  refine ⟨_, rfl, t, _, rfl, SqT.of et, rfl, _, _, rfl, _, _, rfl, rfl, ?_⟩
  refine ⟨_, rfl, pt, o, as, _, rfl, by rw [← eas]; exact ept, hdn, prd, fun kn hkn => ?_⟩
  have em0 : mergeK [] (((x0, 0) :: prest).map kvOf) = ((x0, 0) :: prest).map kvOf := mergeK_kn (acc := []) FO.nd
  rw [em0]
  have npt : pt ≠ kn := ne_of_none ept hkn
  have gk := Drawn.new (o := .dK (((x0, 0) :: prest).map kvOf)) dr hkn
  have B1 : BI K r H (upd H kn (.dK (((x0, 0) :: prest).map kvOf))) m fs own kn ((x0, 0) :: prest) pt o (.ref a0 :: vrest) := ⟨gk, gk.gen dr G, upd_same, (upd_ne npt).trans ept, pin.mono (gk.tk dr)⟩
  generalize upd H kn (.dK (((x0, 0) :: prest).map kvOf)) = H1 at B1 ⊢
  refine ⟨_, rfl, r, 3, rfl, B1.g.d, by decide, by decide, fun k1 H2 k1a k1b g2 => ⟨_, _, rfl, rfl, ?_⟩⟩
  have B2 := B1.step g2
  obtain ⟨fl, xs, em, efl, fi, nfl⟩ := B2.G.ex
  refine ⟨_, rfl, m, _, rfl, DPut.k (k := Sum.inr "left") em (by show 3 < sizeLine; decide), ?_⟩
  rw [put_left, upd_id em]
  clear em efl fi nfl fl xs
  refine ⟨_, rfl, b, rfl, ?_⟩
  cases b with
  | false =>
    refine ite2 (fun _ => ?_) (fun c => absurd rfl c)
    refine ⟨_, rfl, _, rfl, _, rfl, _, rfl, _, rfl, r, m, kn, d, 2 + k1, envOf ((x0, 0) :: prest), rfl, B2.g.d, B2.G, ⟨_, B2.kn, FO.kn⟩, FO.hd, by omega, fun v H3 e g3 ti ty hh => ?_⟩
    exact q v H3 e (B2.g.trans g3) ti (ty.weak take_get fun _ _ z => z) (by rw [ty.noself lenown]; omega) (by omega)
  | true =>
  refine ite2 (fun c => nomatch c) (fun _ => ?_)
  have ea2 : H2 a0 = some (.tup [.int x0, dV 0]) ∧ PIns H2 vrest prest := by
    cases B2.pin with
    | cons h r => exact ⟨h, r⟩
  have lo0 := FO.lo (x0, 0) (List.mem_cons_self ..)
  refine ⟨_, rfl, pt, _, _, _, rfl, rfl, SqT.fr B2.fr, at0, a0, _, _, _, rfl, rfl, SqT.of ea2.1, rfl, by show 2 ≤ sizeLine; decide, fun p1 hp1 => ?_⟩
  have g3 := Drawn.new (o := .tup [.str "name", .int x0]) B2.g.d hp1
  have B3 := B2.step g3
  have tf3 : TIn (upd H2 p1 (.tup [.str "name", .int x0])) (.ref p1) (.node .name x0 []) := .leaf rfl upd_same
  generalize upd H2 p1 (.tup [.str "name", .int x0]) = H3 at g3 B3 tf3 ⊢
  refine ⟨_, rfl, by show 2 ≤ sizeLine; decide, fun p2 hp2 => ⟨by show 3 ≤ sizeLine; decide, fun p3 hp3 => ⟨by show 1 ≤ sizeLine; decide, fun p4 hp4 => ?_⟩⟩⟩
  have g4 := Drawn.new (o := .tup [.str "num", .int 1]) B3.g.d hp2
  have B4 := B3.step g4
  have g5 := Drawn.new (o := .tup [.str "minus", .ref p1, .ref p2]) B4.g.d hp3
  have B5 := B4.step g5
  have g6 := Drawn.new (o := .lst [.ref p3]) B5.g.d hp4
  have B6 := B5.step g6
  have tk56 := (g5.tk B4.g.d).trans (g6.tk B5.g.d)
  have tf6 := tf3.mono ((g4.tk B3.g.d).trans tk56)
  have tm6 : TIn (upd (upd (upd H3 p2 (.tup [.str "num", .int 1])) p3 (.tup [.str "minus", .ref p1, .ref p2])) p4 (.lst [.ref p3])) (.ref p3) (.node .minus (-1) [.node .name x0 [], .node .num 1 []]) :=
    .bare rfl (g6.tk B5.g.d _ _ upd_same) (.cons tf6 (.cons (.leaf rfl (tk56 _ _ upd_same)) .nil))
  have ep4 : (upd (upd (upd H3 p2 (.tup [.str "num", .int 1])) p3 (.tup [.str "minus", .ref p1, .ref p2])) p4 (.lst [.ref p3])) p4 = some (.lst [.ref p3]) := upd_same
  have np4 : p4 ≠ r.r := Drawn.ne B5.g.d hp4
  generalize upd (upd (upd H3 p2 (.tup [.str "num", .int 1])) p3 (.tup [.str "minus", .ref p1, .ref p2])) p4 (.lst [.ref p3]) = H6 at g6 B6 tf6 tm6 ep4 ⊢
  clear g4 g5 tk56 B3 B4 B5 tf3
  -- the other arguments
  refine ⟨_, rfl, _, rfl, _, rfl, pt, _, rfl, SqT.fr B6.fr, not1 _ _, fun p5 hp5 => ?_⟩
  rw [cut1]
  have g7 := Drawn.new (o := .tup vrest) B6.g.d hp5
  have B7 := B6.step g7
  have e57 : upd H6 p5 (.tup vrest) p5 = some (.tup vrest) := upd_same
  have tk7 := g7.tk B6.g.d
  have ep4' := g7.s _ _ np4 ep4
  generalize upd H6 p5 (.tup vrest) = H7 at g7 B7 e57 tk7 ep4' ⊢
  refine ⟨p5, rfl, ⟨_, SqT.of e57⟩, fun D hD => ?_⟩
  have nD : D ≠ r.r := Drawn.ne B7.g.d hD
  have pr7 : PIns H7 vrest prest := by
    cases B7.pin with
    | cons h r => exact r
  refine lc_tup (K := K) (a := p5) (xs := vrest) (fun i H' => ∃ vs es, H' D = some (.lst vs) ∧ vs.length = i ∧ Drawn K r H7 H' ∧ TIns H' vs es ∧ Tys (fs.take own) (envOf ((x0, 0) :: prest)) es ((prest.map (·.2)).take i) ∧ hgts es ≤ 8) ⟨[], [], upd_same, rfl, Drawn.new B7.g.d hD, .nil, .nil, Nat.zero_le _⟩ ?_ ?_ ?_
  · rintro i H' hi ⟨vs, es, e1, e2, g8, _⟩
    exact SqT.of (g8.tk B7.g.d _ _ e57)
  · rintro i x H' hx2 ⟨vs, es, e1, e2, g8, ti, ty, hh⟩
    obtain ⟨pa, px, pd, rfl, hpx, hpa⟩ := pr7.get i hx2
    have hpm := List.mem_of_getElem? hpx
    have plo := FO.lo _ (List.mem_cons_of_mem _ hpm)
    have hi : i < prest.length := (List.getElem?_eq_some_iff.mp hpx).1
    have fewp : prest.length ≤ 3 := by
      have := FO.few
      simp only [List.length_cons] at this
      omega
    have B8 := B7.step g8
    refine ⟨pa, _, rfl, SqT.of (g8.tk B7.g.d _ _ hpa), rfl, _, _, rfl, _, _, rfl, rfl, rfl, ?_⟩
    dsimp only [tYes, gName]
    rw [if_pos rfl]
    refine ⟨_, rfl, _, rfl, _, rfl, _, rfl, r, m, kn, pd, 1, _, rfl, g8.d, B8.G, ⟨_, B8.kn, FO.kn⟩, plo.2.2, by decide, fun v H9 e g9 ti2 ty2 hh2 => ?_⟩
    have eD9 := g9.s _ _ nD e1
    have tk10 : TK H9 (upd H9 D (.lst (vs ++ [v]))) := TK.lst eD9
    refine ⟨vs, eD9, ?_, vs ++ [v], es ++ [e], upd_same, ?_, (g8.trans g9).put B7.g.d hD, ?_, ?_, hgts_snoc hh hh2⟩
    · rw [e2]
      exact small1000 (by omega)
    · rw [List.length_append, e2]
      rfl
    · exact (ti.mono ((g9.tk g8.d).trans tk10)).snoc (ti2.mono tk10)
    · rw [List.take_succ, List.getElem?_map, hpx]
      exact ty.snoc ty2
  rintro H8 ⟨vs, es, eD, ev, g8, tis, tys, hhs⟩
  have B8 := B7.step g8
  have lenr : vrest.length = (prest.map (·.2)).length := by rw [pr7.len, List.length_map]
  rw [lenr] at ev
  rw [lenr, List.take_length] at tys
  have fewp : prest.length ≤ 3 := by
    have := FO.few
    simp only [List.length_cons] at this
    omega
  have ep8 : H8 p4 = some (.lst [.ref p3]) := g8.s _ _ np4 ep4'
  refine ⟨p4, D, _, _, rfl, rfl, ep8, eD, ?_, fun p6 hp6 => ?_⟩
  · refine le2 ?_
    rw [ev, List.length_map]
    show 1 + prest.length ≤ 1000
    omega
  have g9 := Drawn.new (o := .lst ([.ref p3] ++ vs)) B8.g.d hp6
  have B9 := B8.step g9
  have tk9 := g9.tk B8.g.d
  have np6 : p6 ≠ r.r := Drawn.ne B8.g.d hp6
  have e69 : upd H8 p6 (.lst ([.ref p3] ++ vs)) p6 = some (.lst ([.ref p3] ++ vs)) := upd_same
  have tk69 := (tk7.trans (g8.tk B7.g.d)).trans tk9
  have tf9 := tf6.mono tk69
  have targs9 : TIns (upd H8 p6 (.lst ([.ref p3] ++ vs))) ([.ref p3] ++ vs) (.node .minus (-1) [.node .name x0 [], .node .num 1 []] :: es) := .cons (tm6.mono tk69) (tis.mono tk9)
  generalize upd H8 p6 (.lst ([.ref p3] ++ vs)) = H9 at g9 B9 tk9 e69 tk69 tf9 targs9 ⊢
  clear tf6 tm6 ep4 ep4' ep8 g6 g7 tk7 e57
  have tyargs : Tys fs (envOf ((x0, 0) :: prest)) (.node .minus (-1) [.node .name x0 [], .node .num 1 []] :: es) (((x0, 0) :: prest).map (·.2)) :=
    .cons (.two (by simp) (.name lo0.1 lo0.2.1 (FO.kn.ok _ (List.mem_cons_self ..)) (by omega)) (.num (by decide) (by decide))) (tys.weak take_get fun _ _ z => z)
  have sargs : selfss (own : Int) (.node .minus (-1) [.node .name x0 [], .node .num 1 []] :: es) = 0 := by
    rw [selfss_cons, tys.noself lenown]
    rfl
  have hargs : hgts (.node .minus (-1) [.node .name x0 [], .node .num 1 []] :: es) ≤ 8 := by
    rw [hgts_cons]
    have : (Ex.node .minus (-1) [.node .name x0 [], .node .num 1 []]).hgt = 2 := rfl
    omega
  exact rest _ _ ⟨kn, k1, p1, p3, p6, vs, _, rfl, k1a, k1b, B9, tf9, targs9, e69, np6, ev, tyargs, sargs, hargs⟩
end
end NR
set_option maxHeartbeats 4000000
namespace NR
open PySem PySem.Spec PyProof.Rows L2
structure Cz (w : World) (K : PySem.W.Frag) (h : Heap) (mg : Str → Option Value) : Prop where
  X : K.In h
  G : h.Ns mainGlobals mg
  c : He.SaysX NH.fa NH.fn NH.tsT [] NH.exB w h K
section
variable {P : Program} {w : World} {K : PySem.W.Frag} {mg : Str → Option Value} {base h : Heap}

theorem Cz.z_len (Z : Cz w K h mg) : mg "len" = none := He.free_ok Z.X Z.G (Z.c.t.d.fact 0 (f := .free "len") rfl)
theorem Cz.z_range (Z : Cz w K h mg) : mg "range" = none := He.free_ok Z.X Z.G (Z.c.t.d.fact 1 (f := .free "range") rfl)
theorem Cz.z_tuple (Z : Cz w K h mg) : mg "tuple" = none := He.free_ok Z.X Z.G (Z.c.t.d.fact 2 (f := .free "tuple") rfl)
theorem Cz.z_list (Z : Cz w K h mg) : mg "list" = none := He.free_ok Z.X Z.G (Z.c.t.d.fact 3 (f := .free "list") rfl)
theorem Cz.z_dict (Z : Cz w K h mg) : mg "dict" = none := He.free_ok Z.X Z.G (Z.c.t.d.fact 4 (f := .free "dict") rfl)
theorem Cz.z_int (Z : Cz w K h mg) : mg "int" = none := He.free_ok Z.X Z.G (Z.c.t.d.fact 5 (f := .free "int") rfl)
theorem Cz.z_sorted (Z : Cz w K h mg) : mg "sorted" = none := He.free_ok Z.X Z.G (Z.c.t.d.fact 6 (f := .free "sorted") rfl)
theorem Cz.z_sum (Z : Cz w K h mg) : mg "sum" = none := He.free_ok Z.X Z.G (Z.c.t.d.fact 7 (f := .free "sum") rfl)
theorem Cz.z_max (Z : Cz w K h mg) : mg "max" = none := He.free_ok Z.X Z.G (Z.c.t.d.fact 8 (f := .free "max") rfl)
theorem Cz.z_min (Z : Cz w K h mg) : mg "min" = none := He.free_ok Z.X Z.G (Z.c.t.d.fact 9 (f := .free "min") rfl)
theorem Cz.z_isinstance (Z : Cz w K h mg) : mg "isinstance" = none := He.free_ok Z.X Z.G (Z.c.t.d.fact 10 (f := .free "isinstance") rfl)
theorem Cz.z_str (Z : Cz w K h mg) : mg "str" = none := He.free_ok Z.X Z.G (Z.c.t.d.fact 11 (f := .free "str") rfl)
theorem Cz.z_bool (Z : Cz w K h mg) : mg "bool" = none := He.free_ok Z.X Z.G (Z.c.t.d.fact 12 (f := .free "bool") rfl)
theorem Cz.z_set (Z : Cz w K h mg) : mg "set" = none := He.free_ok Z.X Z.G (Z.c.t.d.fact 13 (f := .free "set") rfl)
theorem Cz.z_all (Z : Cz w K h mg) : mg "all" = none := He.free_ok Z.X Z.G (Z.c.t.d.fact 14 (f := .free "all") rfl)
theorem Cz.z_enumerate (Z : Cz w K h mg) : mg "enumerate" = none := He.free_ok Z.X Z.G (Z.c.t.d.fact 15 (f := .free "enumerate") rfl)
theorem Cz.i_LAST_NUMBER (Z : Cz w K h mg) : ∃ t, mg "LAST_NUMBER" = some (.int (10006) t) := He.int_ok Z.X Z.G (Z.c.t.d.fact 79 (f := .int "LAST_NUMBER" (10006)) rfl)
theorem Cz.i_MOST_FUNCTIONS (Z : Cz w K h mg) : ∃ t, mg "MOST_FUNCTIONS" = some (.int (6) t) := He.int_ok Z.X Z.G (Z.c.t.d.fact 80 (f := .int "MOST_FUNCTIONS" (6)) rfl)
theorem Cz.i_LAST_NAME (Z : Cz w K h mg) : ∃ t, mg "LAST_NAME" = some (.int (19) t) := He.int_ok Z.X Z.G (Z.c.t.d.fact 81 (f := .int "LAST_NAME" (19)) rfl)
theorem Cz.i_MOST_DEPTH (Z : Cz w K h mg) : ∃ t, mg "MOST_DEPTH" = some (.int (3) t) := He.int_ok Z.X Z.G (Z.c.t.d.fact 82 (f := .int "MOST_DEPTH" (3)) rfl)
theorem Cz.i_MOST_PARAMS (Z : Cz w K h mg) : ∃ t, mg "MOST_PARAMS" = some (.int (4) t) := He.int_ok Z.X Z.G (Z.c.t.d.fact 83 (f := .int "MOST_PARAMS" (4)) rfl)
theorem Cz.i_LAST_PLACE (Z : Cz w K h mg) : ∃ t, mg "LAST_PLACE" = some (.int (59) t) := He.int_ok Z.X Z.G (Z.c.t.d.fact 84 (f := .int "LAST_PLACE" (59)) rfl)
theorem Cz.i_MOST_WITHIN (Z : Cz w K h mg) : ∃ t, mg "MOST_WITHIN" = some (.int (12) t) := He.int_ok Z.X Z.G (Z.c.t.d.fact 85 (f := .int "MOST_WITHIN" (12)) rfl)
theorem Cz.i_NO_DEPTH (Z : Cz w K h mg) : ∃ t, mg "NO_DEPTH" = some (.int (-1) t) := He.int_ok Z.X Z.G (Z.c.t.d.fact 86 (f := .int "NO_DEPTH" (-1)) rfl)
theorem Cz.i_MOST_FIGURES (Z : Cz w K h mg) : ∃ t, mg "MOST_FIGURES" = some (.int (5) t) := He.int_ok Z.X Z.G (Z.c.t.d.fact 87 (f := .int "MOST_FIGURES" (5)) rfl)
theorem Cz.g_is_number (Z : Cz w K h mg) : mg "is_number" = some (.ref (He.ga K "is_number")) := He.glo_ok Z.X Z.G (Z.c.t.d.fact 16 (f := .glo "is_number") rfl)
theorem Cz.g_of_num (Z : Cz w K h mg) : mg "of_num" = some (.ref (He.ga K "of_num")) := He.glo_ok Z.X Z.G (Z.c.t.d.fact 17 (f := .glo "of_num") rfl)
theorem Cz.g_of_two_numbers (Z : Cz w K h mg) : mg "of_two_numbers" = some (.ref (He.ga K "of_two_numbers")) := He.glo_ok Z.X Z.G (Z.c.t.d.fact 18 (f := .glo "of_two_numbers") rfl)
theorem Cz.g_of_if (Z : Cz w K h mg) : mg "of_if" = some (.ref (He.ga K "of_if")) := He.glo_ok Z.X Z.G (Z.c.t.d.fact 19 (f := .glo "of_if") rfl)
theorem Cz.g_of_let (Z : Cz w K h mg) : mg "of_let" = some (.ref (He.ga K "of_let")) := He.glo_ok Z.X Z.G (Z.c.t.d.fact 20 (f := .glo "of_let") rfl)
theorem Cz.g_of_upto (Z : Cz w K h mg) : mg "of_upto" = some (.ref (He.ga K "of_upto")) := He.glo_ok Z.X Z.G (Z.c.t.d.fact 21 (f := .glo "of_upto") rfl)
theorem Cz.g_of_len (Z : Cz w K h mg) : mg "of_len" = some (.ref (He.ga K "of_len")) := He.glo_ok Z.X Z.G (Z.c.t.d.fact 22 (f := .glo "of_len") rfl)
theorem Cz.g_of_sum (Z : Cz w K h mg) : mg "of_sum" = some (.ref (He.ga K "of_sum")) := He.glo_ok Z.X Z.G (Z.c.t.d.fact 23 (f := .glo "of_sum") rfl)
theorem Cz.g_of_sums (Z : Cz w K h mg) : mg "of_sums" = some (.ref (He.ga K "of_sums")) := He.glo_ok Z.X Z.G (Z.c.t.d.fact 24 (f := .glo "of_sums") rfl)
theorem Cz.g_of_one (Z : Cz w K h mg) : mg "of_one" = some (.ref (He.ga K "of_one")) := He.glo_ok Z.X Z.G (Z.c.t.d.fact 25 (f := .glo "of_one") rfl)
theorem Cz.g_of_pick (Z : Cz w K h mg) : mg "of_pick" = some (.ref (He.ga K "of_pick")) := He.glo_ok Z.X Z.G (Z.c.t.d.fact 26 (f := .glo "of_pick") rfl)
theorem Cz.g_of_put (Z : Cz w K h mg) : mg "of_put" = some (.ref (He.ga K "of_put")) := He.glo_ok Z.X Z.G (Z.c.t.d.fact 27 (f := .glo "of_put") rfl)
theorem Cz.g_of_flat (Z : Cz w K h mg) : mg "of_flat" = some (.ref (He.ga K "of_flat")) := He.glo_ok Z.X Z.G (Z.c.t.d.fact 28 (f := .glo "of_flat") rfl)
theorem Cz.g_of_each (Z : Cz w K h mg) : mg "of_each" = some (.ref (He.ga K "of_each")) := He.glo_ok Z.X Z.G (Z.c.t.d.fact 29 (f := .glo "of_each") rfl)
theorem Cz.g_of_where (Z : Cz w K h mg) : mg "of_where" = some (.ref (He.ga K "of_where")) := He.glo_ok Z.X Z.G (Z.c.t.d.fact 30 (f := .glo "of_where") rfl)
theorem Cz.g_depth_of (Z : Cz w K h mg) : mg "depth_of" = some (.ref (He.ga K "depth_of")) := He.glo_ok Z.X Z.G (Z.c.t.d.fact 31 (f := .glo "depth_of") rfl)
theorem Cz.g_last_number (Z : Cz w K h mg) : mg "last_number" = some (.ref (He.ga K "last_number")) := He.glo_ok Z.X Z.G (Z.c.t.d.fact 32 (f := .glo "last_number") rfl)
theorem Cz.g_has_shape (Z : Cz w K h mg) : mg "has_shape" = some (.ref (He.ga K "has_shape")) := He.glo_ok Z.X Z.G (Z.c.t.d.fact 33 (f := .glo "has_shape") rfl)
theorem Cz.g_number_of (Z : Cz w K h mg) : mg "number_of" = some (.ref (He.ga K "number_of")) := He.glo_ok Z.X Z.G (Z.c.t.d.fact 34 (f := .glo "number_of") rfl)
theorem Cz.g_parts_of (Z : Cz w K h mg) : mg "parts_of" = some (.ref (He.ga K "parts_of")) := He.glo_ok Z.X Z.G (Z.c.t.d.fact 35 (f := .glo "parts_of") rfl)
theorem Cz.g_parts_ahead (Z : Cz w K h mg) : mg "parts_ahead" = some (.ref (He.ga K "parts_ahead")) := He.glo_ok Z.X Z.G (Z.c.t.d.fact 36 (f := .glo "parts_ahead") rfl)
theorem Cz.g_has_face (Z : Cz w K h mg) : mg "has_face" = some (.ref (He.ga K "has_face")) := He.glo_ok Z.X Z.G (Z.c.t.d.fact 37 (f := .glo "has_face") rfl)
theorem Cz.g_is_param (Z : Cz w K h mg) : mg "is_param" = some (.ref (He.ga K "is_param")) := He.glo_ok Z.X Z.G (Z.c.t.d.fact 38 (f := .glo "is_param") rfl)
theorem Cz.g_told_faces (Z : Cz w K h mg) : mg "told_faces" = some (.ref (He.ga K "told_faces")) := He.glo_ok Z.X Z.G (Z.c.t.d.fact 39 (f := .glo "told_faces") rfl)
theorem Cz.g_form_of (Z : Cz w K h mg) : mg "form_of" = some (.ref (He.ga K "form_of")) := He.glo_ok Z.X Z.G (Z.c.t.d.fact 40 (f := .glo "form_of") rfl)
theorem Cz.g_forms_of (Z : Cz w K h mg) : mg "forms_of" = some (.ref (He.ga K "forms_of")) := He.glo_ok Z.X Z.G (Z.c.t.d.fact 41 (f := .glo "forms_of") rfl)
theorem Cz.g_faces (Z : Cz w K h mg) : mg "faces" = some (.ref (He.ga K "faces")) := He.glo_ok Z.X Z.G (Z.c.t.d.fact 42 (f := .glo "faces") rfl)
theorem Cz.g_words_of (Z : Cz w K h mg) : mg "words_of" = some (.ref (He.ga K "words_of")) := He.glo_ok Z.X Z.G (Z.c.t.d.fact 43 (f := .glo "words_of") rfl)
theorem Cz.g_written_function (Z : Cz w K h mg) : mg "written_function" = some (.ref (He.ga K "written_function")) := He.glo_ok Z.X Z.G (Z.c.t.d.fact 44 (f := .glo "written_function") rfl)
theorem Cz.g_written (Z : Cz w K h mg) : mg "written" = some (.ref (He.ga K "written")) := He.glo_ok Z.X Z.G (Z.c.t.d.fact 45 (f := .glo "written") rfl)
theorem Cz.g_is_numeral (Z : Cz w K h mg) : mg "is_numeral" = some (.ref (He.ga K "is_numeral")) := He.glo_ok Z.X Z.G (Z.c.t.d.fact 46 (f := .glo "is_numeral") rfl)
theorem Cz.g_read (Z : Cz w K h mg) : mg "read" = some (.ref (He.ga K "read")) := He.glo_ok Z.X Z.G (Z.c.t.d.fact 47 (f := .glo "read") rfl)
theorem Cz.g_taken_by (Z : Cz w K h mg) : mg "taken_by" = some (.ref (He.ga K "taken_by")) := He.glo_ok Z.X Z.G (Z.c.t.d.fact 48 (f := .glo "taken_by") rfl)
theorem Cz.g_looks_at (Z : Cz w K h mg) : mg "looks_at" = some (.ref (He.ga K "looks_at")) := He.glo_ok Z.X Z.G (Z.c.t.d.fact 49 (f := .glo "looks_at") rfl)
theorem Cz.g_taken_in (Z : Cz w K h mg) : mg "taken_in" = some (.ref (He.ga K "taken_in")) := He.glo_ok Z.X Z.G (Z.c.t.d.fact 50 (f := .glo "taken_in") rfl)
theorem Cz.g_code_of (Z : Cz w K h mg) : mg "code_of" = some (.ref (He.ga K "code_of")) := He.glo_ok Z.X Z.G (Z.c.t.d.fact 51 (f := .glo "code_of") rfl)
theorem Cz.g_flat (Z : Cz w K h mg) : mg "flat" = some (.ref (He.ga K "flat")) := He.glo_ok Z.X Z.G (Z.c.t.d.fact 52 (f := .glo "flat") rfl)
theorem Cz.g__law_taken (Z : Cz w K h mg) : mg "_law_taken" = some (.ref (He.ga K "_law_taken")) := He.glo_ok Z.X Z.G (Z.c.t.d.fact 53 (f := .glo "_law_taken") rfl)
theorem Cz.g__law_alike (Z : Cz w K h mg) : mg "_law_alike" = some (.ref (He.ga K "_law_alike")) := He.glo_ok Z.X Z.G (Z.c.t.d.fact 54 (f := .glo "_law_alike") rfl)
theorem Cz.g__law_parts (Z : Cz w K h mg) : mg "_law_parts" = some (.ref (He.ga K "_law_parts")) := He.glo_ok Z.X Z.G (Z.c.t.d.fact 55 (f := .glo "_law_parts") rfl)
theorem Cz.g__law_size (Z : Cz w K h mg) : mg "_law_size" = some (.ref (He.ga K "_law_size")) := He.glo_ok Z.X Z.G (Z.c.t.d.fact 56 (f := .glo "_law_size") rfl)
theorem Cz.g__law_within (Z : Cz w K h mg) : mg "_law_within" = some (.ref (He.ga K "_law_within")) := He.glo_ok Z.X Z.G (Z.c.t.d.fact 57 (f := .glo "_law_within") rfl)
theorem Cz.g__law_leaf (Z : Cz w K h mg) : mg "_law_leaf" = some (.ref (He.ga K "_law_leaf")) := He.glo_ok Z.X Z.G (Z.c.t.d.fact 58 (f := .glo "_law_leaf") rfl)
theorem Cz.g__law_number (Z : Cz w K h mg) : mg "_law_number" = some (.ref (He.ga K "_law_number")) := He.glo_ok Z.X Z.G (Z.c.t.d.fact 59 (f := .glo "_law_number") rfl)
theorem Cz.g__law_bound (Z : Cz w K h mg) : mg "_law_bound" = some (.ref (He.ga K "_law_bound")) := He.glo_ok Z.X Z.G (Z.c.t.d.fact 60 (f := .glo "_law_bound") rfl)
theorem Cz.g__law_any (Z : Cz w K h mg) : mg "_law_any" = some (.ref (He.ga K "_law_any")) := He.glo_ok Z.X Z.G (Z.c.t.d.fact 61 (f := .glo "_law_any") rfl)
theorem Cz.g__law_tree (Z : Cz w K h mg) : mg "_law_tree" = some (.ref (He.ga K "_law_tree")) := He.glo_ok Z.X Z.G (Z.c.t.d.fact 62 (f := .glo "_law_tree") rfl)
theorem Cz.g__law_face (Z : Cz w K h mg) : mg "_law_face" = some (.ref (He.ga K "_law_face")) := He.glo_ok Z.X Z.G (Z.c.t.d.fact 63 (f := .glo "_law_face") rfl)
theorem Cz.g__law_body (Z : Cz w K h mg) : mg "_law_body" = some (.ref (He.ga K "_law_body")) := He.glo_ok Z.X Z.G (Z.c.t.d.fact 64 (f := .glo "_law_body") rfl)
theorem Cz.g__law_program (Z : Cz w K h mg) : mg "_law_program" = some (.ref (He.ga K "_law_program")) := He.glo_ok Z.X Z.G (Z.c.t.d.fact 65 (f := .glo "_law_program") rfl)
theorem Cz.g__law_words (Z : Cz w K h mg) : mg "_law_words" = some (.ref (He.ga K "_law_words")) := He.glo_ok Z.X Z.G (Z.c.t.d.fact 66 (f := .glo "_law_words") rfl)
theorem Cz.g__law_text (Z : Cz w K h mg) : mg "_law_text" = some (.ref (He.ga K "_law_text")) := He.glo_ok Z.X Z.G (Z.c.t.d.fact 67 (f := .glo "_law_text") rfl)
theorem Cz.g_law (Z : Cz w K h mg) : mg "law" = some (.ref (He.ga K "law")) := He.glo_ok Z.X Z.G (Z.c.t.d.fact 68 (f := .glo "law") rfl)
theorem Cz.g_Node (Z : Cz w K h mg) : mg "Node" = some (.ref (He.ga K "Node")) := He.glo_ok Z.X Z.G (Z.c.t.d.fact 69 (f := .glo "Node") rfl)
theorem Cz.g_Form (Z : Cz w K h mg) : mg "Form" = some (.ref (He.ga K "Form")) := He.glo_ok Z.X Z.G (Z.c.t.d.fact 70 (f := .glo "Form") rfl)
theorem Cz.g_Look (Z : Cz w K h mg) : mg "Look" = some (.ref (He.ga K "Look")) := He.glo_ok Z.X Z.G (Z.c.t.d.fact 71 (f := .glo "Look") rfl)
theorem Cz.g_Coder (Z : Cz w K h mg) : mg "Coder" = some (.ref (He.ga K "Coder")) := He.glo_ok Z.X Z.G (Z.c.t.d.fact 72 (f := .glo "Coder") rfl)
theorem Cz.g_RowReader (Z : Cz w K h mg) : mg "RowReader" = some (.ref (He.ga K "RowReader")) := He.glo_ok Z.X Z.G (Z.c.t.d.fact 73 (f := .glo "RowReader") rfl)
theorem Cz.g_RULES (Z : Cz w K h mg) : mg "RULES" = some (.ref (He.ga K "RULES")) := He.glo_ok Z.X Z.G (Z.c.t.d.fact 74 (f := .glo "RULES") rfl)
theorem Cz.g_LENGTHS (Z : Cz w K h mg) : mg "LENGTHS" = some (.ref (He.ga K "LENGTHS")) := He.glo_ok Z.X Z.G (Z.c.t.d.fact 75 (f := .glo "LENGTHS") rfl)
theorem Cz.g_NUMBERED (Z : Cz w K h mg) : mg "NUMBERED" = some (.ref (He.ga K "NUMBERED")) := He.glo_ok Z.X Z.G (Z.c.t.d.fact 76 (f := .glo "NUMBERED") rfl)
theorem Cz.g_ITEM_WORDS (Z : Cz w K h mg) : mg "ITEM_WORDS" = some (.ref (He.ga K "ITEM_WORDS")) := He.glo_ok Z.X Z.G (Z.c.t.d.fact 77 (f := .glo "ITEM_WORDS") rfl)
theorem Cz.g_WITH_DEPTH (Z : Cz w K h mg) : mg "WITH_DEPTH" = some (.ref (He.ga K "WITH_DEPTH")) := He.glo_ok Z.X Z.G (Z.c.t.d.fact 78 (f := .glo "WITH_DEPTH") rfl)
theorem Cz.f_is_number (Z : Cz w K h mg) : ∃ fd, FnP K "is_number" sIsNumber (He.ga K "is_number") fd := Z.c.t.d.def_ 0 (d := NH.dOf "is_number" 13) rfl
theorem Cz.f_of_num (Z : Cz w K h mg) : ∃ fd, FnP K "of_num" sOfNum (He.ga K "of_num") fd := Z.c.t.d.def_ 1 (d := NH.dOf "of_num" 16) rfl
theorem Cz.f_of_two_numbers (Z : Cz w K h mg) : ∃ fd, FnP K "of_two_numbers" sOfTwoNumbers (He.ga K "of_two_numbers") fd := Z.c.t.d.def_ 2 (d := NH.dOf "of_two_numbers" 17) rfl
theorem Cz.f_of_if (Z : Cz w K h mg) : ∃ fd, FnP K "of_if" sOfIf (He.ga K "of_if") fd := Z.c.t.d.def_ 3 (d := NH.dOf "of_if" 18) rfl
theorem Cz.f_of_let (Z : Cz w K h mg) : ∃ fd, FnP K "of_let" sOfLet (He.ga K "of_let") fd := Z.c.t.d.def_ 4 (d := NH.dOf "of_let" 19) rfl
theorem Cz.f_of_upto (Z : Cz w K h mg) : ∃ fd, FnP K "of_upto" sOfUpto (He.ga K "of_upto") fd := Z.c.t.d.def_ 5 (d := NH.dOf "of_upto" 20) rfl
theorem Cz.f_of_len (Z : Cz w K h mg) : ∃ fd, FnP K "of_len" sOfLen (He.ga K "of_len") fd := Z.c.t.d.def_ 6 (d := NH.dOf "of_len" 21) rfl
theorem Cz.f_of_sum (Z : Cz w K h mg) : ∃ fd, FnP K "of_sum" sOfSum (He.ga K "of_sum") fd := Z.c.t.d.def_ 7 (d := NH.dOf "of_sum" 22) rfl
theorem Cz.f_of_sums (Z : Cz w K h mg) : ∃ fd, FnP K "of_sums" sOfSums (He.ga K "of_sums") fd := Z.c.t.d.def_ 8 (d := NH.dOf "of_sums" 23) rfl
theorem Cz.f_of_one (Z : Cz w K h mg) : ∃ fd, FnP K "of_one" sOfOne (He.ga K "of_one") fd := Z.c.t.d.def_ 9 (d := NH.dOf "of_one" 24) rfl
theorem Cz.f_of_pick (Z : Cz w K h mg) : ∃ fd, FnP K "of_pick" sOfPick (He.ga K "of_pick") fd := Z.c.t.d.def_ 10 (d := NH.dOf "of_pick" 25) rfl
theorem Cz.f_of_put (Z : Cz w K h mg) : ∃ fd, FnP K "of_put" sOfPut (He.ga K "of_put") fd := Z.c.t.d.def_ 11 (d := NH.dOf "of_put" 26) rfl
theorem Cz.f_of_flat (Z : Cz w K h mg) : ∃ fd, FnP K "of_flat" sOfFlat (He.ga K "of_flat") fd := Z.c.t.d.def_ 12 (d := NH.dOf "of_flat" 27) rfl
theorem Cz.f_of_each (Z : Cz w K h mg) : ∃ fd, FnP K "of_each" sOfEach (He.ga K "of_each") fd := Z.c.t.d.def_ 13 (d := NH.dOf "of_each" 28) rfl
theorem Cz.f_of_where (Z : Cz w K h mg) : ∃ fd, FnP K "of_where" sOfWhere (He.ga K "of_where") fd := Z.c.t.d.def_ 14 (d := NH.dOf "of_where" 29) rfl
theorem Cz.f_depth_of (Z : Cz w K h mg) : ∃ fd, FnP K "depth_of" sDepthOf (He.ga K "depth_of") fd := Z.c.t.d.def_ 15 (d := NH.dOf "depth_of" 31) rfl
theorem Cz.f_last_number (Z : Cz w K h mg) : ∃ fd, FnP K "last_number" sLastNumber (He.ga K "last_number") fd := Z.c.t.d.def_ 16 (d := NH.dOf "last_number" 35) rfl
theorem Cz.f_has_shape (Z : Cz w K h mg) : ∃ fd, FnP K "has_shape" sHasShape (He.ga K "has_shape") fd := Z.c.t.d.def_ 17 (d := NH.dOf "has_shape" 36) rfl
theorem Cz.f_number_of (Z : Cz w K h mg) : ∃ fd, FnP K "number_of" sNumberOf (He.ga K "number_of") fd := Z.c.t.d.def_ 18 (d := NH.dOf "number_of" 37) rfl
theorem Cz.f_parts_of (Z : Cz w K h mg) : ∃ fd, FnP K "parts_of" sPartsOf (He.ga K "parts_of") fd := Z.c.t.d.def_ 19 (d := NH.dOf "parts_of" 38) rfl
theorem Cz.f_parts_ahead (Z : Cz w K h mg) : ∃ fd, FnP K "parts_ahead" sPartsAhead (He.ga K "parts_ahead") fd := Z.c.t.d.def_ 20 (d := NH.dOf "parts_ahead" 41) rfl
theorem Cz.f_has_face (Z : Cz w K h mg) : ∃ fd, FnP K "has_face" sHasFace (He.ga K "has_face") fd := Z.c.t.d.def_ 21 (d := NH.dOf "has_face" 44) rfl
theorem Cz.f_is_param (Z : Cz w K h mg) : ∃ fd, FnP K "is_param" sIsParam (He.ga K "is_param") fd := Z.c.t.d.def_ 22 (d := NH.dOf "is_param" 45) rfl
theorem Cz.f_told_faces (Z : Cz w K h mg) : ∃ fd, FnP K "told_faces" sToldFaces (He.ga K "told_faces") fd := Z.c.t.d.def_ 23 (d := NH.dOf "told_faces" 46) rfl
theorem Cz.f_form_of (Z : Cz w K h mg) : ∃ fd, FnP K "form_of" sFormOf (He.ga K "form_of") fd := Z.c.t.d.def_ 24 (d := NH.dOf "form_of" 47) rfl
theorem Cz.f_forms_of (Z : Cz w K h mg) : ∃ fd, FnP K "forms_of" sFormsOf (He.ga K "forms_of") fd := Z.c.t.d.def_ 25 (d := NH.dOf "forms_of" 48) rfl
theorem Cz.f_faces (Z : Cz w K h mg) : ∃ fd, FnP K "faces" sFaces (He.ga K "faces") fd := Z.c.t.d.def_ 26 (d := NH.dOf "faces" 49) rfl
theorem Cz.f_words_of (Z : Cz w K h mg) : ∃ fd, FnP K "words_of" sWordsOf (He.ga K "words_of") fd := Z.c.t.d.def_ 27 (d := NH.dOf "words_of" 52) rfl
theorem Cz.f_written_function (Z : Cz w K h mg) : ∃ fd, FnP K "written_function" sWrittenFunction (He.ga K "written_function") fd := Z.c.t.d.def_ 28 (d := NH.dOf "written_function" 53) rfl
theorem Cz.f_written (Z : Cz w K h mg) : ∃ fd, FnP K "written" sWritten (He.ga K "written") fd := Z.c.t.d.def_ 29 (d := NH.dOf "written" 54) rfl
theorem Cz.f_is_numeral (Z : Cz w K h mg) : ∃ fd, FnP K "is_numeral" sIsNumeral (He.ga K "is_numeral") fd := Z.c.t.d.def_ 30 (d := NH.dOf "is_numeral" 55) rfl
theorem Cz.f_read (Z : Cz w K h mg) : ∃ fd, FnP K "read" sRead (He.ga K "read") fd := Z.c.t.d.def_ 31 (d := NH.dOf "read" 57) rfl
theorem Cz.f_taken_by (Z : Cz w K h mg) : ∃ fd, FnP K "taken_by" sTakenBy (He.ga K "taken_by") fd := Z.c.t.d.def_ 32 (d := NH.dOf "taken_by" 61) rfl
theorem Cz.f_looks_at (Z : Cz w K h mg) : ∃ fd, FnP K "looks_at" sLooksAt (He.ga K "looks_at") fd := Z.c.t.d.def_ 33 (d := NH.dOf "looks_at" 62) rfl
theorem Cz.f_taken_in (Z : Cz w K h mg) : ∃ fd, FnP K "taken_in" sTakenIn (He.ga K "taken_in") fd := Z.c.t.d.def_ 34 (d := NH.dOf "taken_in" 63) rfl
theorem Cz.f_code_of (Z : Cz w K h mg) : ∃ fd, FnP K "code_of" sCodeOf (He.ga K "code_of") fd := Z.c.t.d.def_ 35 (d := NH.dOf "code_of" 66) rfl
theorem Cz.f_flat (Z : Cz w K h mg) : ∃ fd, FnP K "flat" sFlat (He.ga K "flat") fd := Z.c.t.d.def_ 36 (d := NH.dOf "flat" 67) rfl
theorem Cz.f__law_taken (Z : Cz w K h mg) : ∃ fd, FnP K "_law_taken" sLawTaken (He.ga K "_law_taken") fd := Z.c.t.d.def_ 37 (d := NH.dOf "_law_taken" 69) rfl
theorem Cz.f__law_alike (Z : Cz w K h mg) : ∃ fd, FnP K "_law_alike" sLawAlike (He.ga K "_law_alike") fd := Z.c.t.d.def_ 38 (d := NH.dOf "_law_alike" 70) rfl
theorem Cz.f__law_parts (Z : Cz w K h mg) : ∃ fd, FnP K "_law_parts" sLawParts (He.ga K "_law_parts") fd := Z.c.t.d.def_ 39 (d := NH.dOf "_law_parts" 71) rfl
theorem Cz.f__law_size (Z : Cz w K h mg) : ∃ fd, FnP K "_law_size" sLawSize (He.ga K "_law_size") fd := Z.c.t.d.def_ 40 (d := NH.dOf "_law_size" 72) rfl
theorem Cz.f__law_within (Z : Cz w K h mg) : ∃ fd, FnP K "_law_within" sLawWithin (He.ga K "_law_within") fd := Z.c.t.d.def_ 41 (d := NH.dOf "_law_within" 73) rfl
theorem Cz.f__law_leaf (Z : Cz w K h mg) : ∃ fd, FnP K "_law_leaf" sLawLeaf (He.ga K "_law_leaf") fd := Z.c.t.d.def_ 42 (d := NH.dOf "_law_leaf" 74) rfl
theorem Cz.f__law_number (Z : Cz w K h mg) : ∃ fd, FnP K "_law_number" sLawNumber (He.ga K "_law_number") fd := Z.c.t.d.def_ 43 (d := NH.dOf "_law_number" 75) rfl
theorem Cz.f__law_bound (Z : Cz w K h mg) : ∃ fd, FnP K "_law_bound" sLawBound (He.ga K "_law_bound") fd := Z.c.t.d.def_ 44 (d := NH.dOf "_law_bound" 76) rfl
theorem Cz.f__law_any (Z : Cz w K h mg) : ∃ fd, FnP K "_law_any" sLawAny (He.ga K "_law_any") fd := Z.c.t.d.def_ 45 (d := NH.dOf "_law_any" 77) rfl
theorem Cz.f__law_tree (Z : Cz w K h mg) : ∃ fd, FnP K "_law_tree" sLawTree (He.ga K "_law_tree") fd := Z.c.t.d.def_ 46 (d := NH.dOf "_law_tree" 78) rfl
theorem Cz.f__law_face (Z : Cz w K h mg) : ∃ fd, FnP K "_law_face" sLawFace (He.ga K "_law_face") fd := Z.c.t.d.def_ 47 (d := NH.dOf "_law_face" 79) rfl
theorem Cz.f__law_body (Z : Cz w K h mg) : ∃ fd, FnP K "_law_body" sLawBody (He.ga K "_law_body") fd := Z.c.t.d.def_ 48 (d := NH.dOf "_law_body" 80) rfl
theorem Cz.f__law_program (Z : Cz w K h mg) : ∃ fd, FnP K "_law_program" sLawProgram (He.ga K "_law_program") fd := Z.c.t.d.def_ 49 (d := NH.dOf "_law_program" 81) rfl
theorem Cz.f__law_words (Z : Cz w K h mg) : ∃ fd, FnP K "_law_words" sLawWords (He.ga K "_law_words") fd := Z.c.t.d.def_ 50 (d := NH.dOf "_law_words" 82) rfl
theorem Cz.f__law_text (Z : Cz w K h mg) : ∃ fd, FnP K "_law_text" sLawText (He.ga K "_law_text") fd := Z.c.t.d.def_ 51 (d := NH.dOf "_law_text" 83) rfl
theorem Cz.f_law (Z : Cz w K h mg) : ∃ fd, FnP K "law" sLaw (He.ga K "law") fd := Z.c.t.d.def_ 52 (d := NH.dOf "law" 84) rfl
theorem Cz.f_Nodeinit (Z : Cz w K h mg) : ∃ fd, FnM K "__init__" "Node.__init__" sNodeInit (He.ma K (He.ga K "Node") "__init__") fd := Z.c.t.d.def_ 53 (d := NH.mOf "Node" "__init__" "Node.__init__" 40 0) rfl
theorem Cz.m_Nodeinit (Z : Cz w K h mg) : Mk K (He.ga K "Node") (He.ma K (He.ga K "Node") "__init__") := He.mkr_ok (Z.c.t.d.fact 89 (f := .mkr "Node") rfl)
theorem Cz.f_Forminit (Z : Cz w K h mg) : ∃ fd, FnM K "__init__" "Form.__init__" sFormInit (He.ma K (He.ga K "Form") "__init__") fd := Z.c.t.d.def_ 54 (d := NH.mOf "Form" "__init__" "Form.__init__" 42 0) rfl
theorem Cz.m_Forminit (Z : Cz w K h mg) : Mk K (He.ga K "Form") (He.ma K (He.ga K "Form") "__init__") := He.mkr_ok (Z.c.t.d.fact 97 (f := .mkr "Form") rfl)
theorem Cz.f_Lookinit (Z : Cz w K h mg) : ∃ fd, FnM K "__init__" "Look.__init__" sLookInit (He.ma K (He.ga K "Look") "__init__") fd := Z.c.t.d.def_ 55 (d := NH.mOf "Look" "__init__" "Look.__init__" 43 0) rfl
theorem Cz.m_Lookinit (Z : Cz w K h mg) : Mk K (He.ga K "Look") (He.ma K (He.ga K "Look") "__init__") := He.mkr_ok (Z.c.t.d.fact 102 (f := .mkr "Look") rfl)
theorem Cz.f_Lookrefuse_if (Z : Cz w K h mg) : ∃ fd, FnM K "refuse_if" "Look.refuse_if" sLookRefuseIf (He.ma K (He.ga K "Look") "refuse_if") fd := Z.c.t.d.def_ 56 (d := NH.mOf "Look" "refuse_if" "Look.refuse_if" 43 1) rfl
theorem Cz.m_Lookrefuse_if (Z : Cz w K h mg) : Meth K (He.ga K "Look") "refuse_if" (He.ma K (He.ga K "Look") "refuse_if") := He.meth_ok (Z.c.t.d.fact 107 (f := .meth "Look" "refuse_if") rfl)
theorem Cz.f_Looknode_of (Z : Cz w K h mg) : ∃ fd, FnM K "node_of" "Look.node_of" sLookNodeOf (He.ma K (He.ga K "Look") "node_of") fd := Z.c.t.d.def_ 57 (d := NH.mOf "Look" "node_of" "Look.node_of" 43 2) rfl
theorem Cz.m_Looknode_of (Z : Cz w K h mg) : Meth K (He.ga K "Look") "node_of" (He.ma K (He.ga K "Look") "node_of") := He.meth_ok (Z.c.t.d.fact 108 (f := .meth "Look" "node_of") rfl)
theorem Cz.f_Lookmay_call (Z : Cz w K h mg) : ∃ fd, FnM K "may_call" "Look.may_call" sLookMayCall (He.ma K (He.ga K "Look") "may_call") fd := Z.c.t.d.def_ 58 (d := NH.mOf "Look" "may_call" "Look.may_call" 43 3) rfl
theorem Cz.m_Lookmay_call (Z : Cz w K h mg) : Meth K (He.ga K "Look") "may_call" (He.ma K (He.ga K "Look") "may_call") := He.meth_ok (Z.c.t.d.fact 109 (f := .meth "Look" "may_call") rfl)
theorem Cz.f_Lookparts_that_name (Z : Cz w K h mg) : ∃ fd, FnM K "parts_that_name" "Look.parts_that_name" sLookPartsThatName (He.ma K (He.ga K "Look") "parts_that_name") fd := Z.c.t.d.def_ 59 (d := NH.mOf "Look" "parts_that_name" "Look.parts_that_name" 43 4) rfl
theorem Cz.m_Lookparts_that_name (Z : Cz w K h mg) : Meth K (He.ga K "Look") "parts_that_name" (He.ma K (He.ga K "Look") "parts_that_name") := He.meth_ok (Z.c.t.d.fact 110 (f := .meth "Look" "parts_that_name") rfl)
theorem Cz.f_Lookdepth_told (Z : Cz w K h mg) : ∃ fd, FnM K "depth_told" "Look.depth_told" sLookDepthTold (He.ma K (He.ga K "Look") "depth_told") fd := Z.c.t.d.def_ 60 (d := NH.mOf "Look" "depth_told" "Look.depth_told" 43 5) rfl
theorem Cz.m_Lookdepth_told (Z : Cz w K h mg) : Meth K (He.ga K "Look") "depth_told" (He.ma K (He.ga K "Look") "depth_told") := He.meth_ok (Z.c.t.d.fact 111 (f := .meth "Look" "depth_told") rfl)
theorem Cz.f_Coderinit (Z : Cz w K h mg) : ∃ fd, FnM K "__init__" "Coder.__init__" sCoderInit (He.ma K (He.ga K "Coder") "__init__") fd := Z.c.t.d.def_ 61 (d := NH.mOf "Coder" "__init__" "Coder.__init__" 65 0) rfl
theorem Cz.m_Coderinit (Z : Cz w K h mg) : Mk K (He.ga K "Coder") (He.ma K (He.ga K "Coder") "__init__") := He.mkr_ok (Z.c.t.d.fact 113 (f := .mkr "Coder") rfl)
theorem Cz.f_Codernew_one (Z : Cz w K h mg) : ∃ fd, FnM K "new_one" "Coder.new_one" sCoderNewOne (He.ma K (He.ga K "Coder") "new_one") fd := Z.c.t.d.def_ 62 (d := NH.mOf "Coder" "new_one" "Coder.new_one" 65 1) rfl
theorem Cz.m_Codernew_one (Z : Cz w K h mg) : Meth K (He.ga K "Coder") "new_one" (He.ma K (He.ga K "Coder") "new_one") := He.meth_ok (Z.c.t.d.fact 115 (f := .meth "Coder" "new_one") rfl)
theorem Cz.f_Coderblock_of (Z : Cz w K h mg) : ∃ fd, FnM K "block_of" "Coder.block_of" sCoderBlockOf (He.ma K (He.ga K "Coder") "block_of") fd := Z.c.t.d.def_ 63 (d := NH.mOf "Coder" "block_of" "Coder.block_of" 65 2) rfl
theorem Cz.m_Coderblock_of (Z : Cz w K h mg) : Meth K (He.ga K "Coder") "block_of" (He.ma K (He.ga K "Coder") "block_of") := He.meth_ok (Z.c.t.d.fact 116 (f := .meth "Coder" "block_of") rfl)
theorem Cz.f_Coderadd_rows (Z : Cz w K h mg) : ∃ fd, FnM K "add_rows" "Coder.add_rows" sCoderAddRows (He.ma K (He.ga K "Coder") "add_rows") fd := Z.c.t.d.def_ 64 (d := NH.mOf "Coder" "add_rows" "Coder.add_rows" 65 3) rfl
theorem Cz.m_Coderadd_rows (Z : Cz w K h mg) : Meth K (He.ga K "Coder") "add_rows" (He.ma K (He.ga K "Coder") "add_rows") := He.meth_ok (Z.c.t.d.fact 117 (f := .meth "Coder" "add_rows") rfl)
theorem Cz.f_Coderrow_end (Z : Cz w K h mg) : ∃ fd, FnM K "row_end" "Coder.row_end" sCoderRowEnd (He.ma K (He.ga K "Coder") "row_end") fd := Z.c.t.d.def_ 65 (d := NH.mOf "Coder" "row_end" "Coder.row_end" 65 4) rfl
theorem Cz.m_Coderrow_end (Z : Cz w K h mg) : Meth K (He.ga K "Coder") "row_end" (He.ma K (He.ga K "Coder") "row_end") := He.meth_ok (Z.c.t.d.fact 118 (f := .meth "Coder" "row_end") rfl)
theorem Cz.f_Coderif_end (Z : Cz w K h mg) : ∃ fd, FnM K "if_end" "Coder.if_end" sCoderIfEnd (He.ma K (He.ga K "Coder") "if_end") fd := Z.c.t.d.def_ 66 (d := NH.mOf "Coder" "if_end" "Coder.if_end" 65 5) rfl
theorem Cz.m_Coderif_end (Z : Cz w K h mg) : Meth K (He.ga K "Coder") "if_end" (He.ma K (He.ga K "Coder") "if_end") := He.meth_ok (Z.c.t.d.fact 119 (f := .meth "Coder" "if_end") rfl)
theorem Cz.f_Coderitems_end (Z : Cz w K h mg) : ∃ fd, FnM K "items_end" "Coder.items_end" sCoderItemsEnd (He.ma K (He.ga K "Coder") "items_end") fd := Z.c.t.d.def_ 67 (d := NH.mOf "Coder" "items_end" "Coder.items_end" 65 6) rfl
theorem Cz.m_Coderitems_end (Z : Cz w K h mg) : Meth K (He.ga K "Coder") "items_end" (He.ma K (He.ga K "Coder") "items_end") := He.meth_ok (Z.c.t.d.fact 120 (f := .meth "Coder" "items_end") rfl)
theorem Cz.f_RowReaderinit (Z : Cz w K h mg) : ∃ fd, FnM K "__init__" "RowReader.__init__" sRowReaderInit (He.ma K (He.ga K "RowReader") "__init__") fd := Z.c.t.d.def_ 68 (d := NH.mOf "RowReader" "__init__" "RowReader.__init__" 56 0) rfl
theorem Cz.m_RowReaderinit (Z : Cz w K h mg) : Mk K (He.ga K "RowReader") (He.ma K (He.ga K "RowReader") "__init__") := He.mkr_ok (Z.c.t.d.fact 122 (f := .mkr "RowReader") rfl)
theorem Cz.f_RowReaderupcoming (Z : Cz w K h mg) : ∃ fd, FnM K "upcoming" "RowReader.upcoming" sRowReaderUpcoming (He.ma K (He.ga K "RowReader") "upcoming") fd := Z.c.t.d.def_ 69 (d := NH.mOf "RowReader" "upcoming" "RowReader.upcoming" 56 1) rfl
theorem Cz.m_RowReaderupcoming (Z : Cz w K h mg) : Meth K (He.ga K "RowReader") "upcoming" (He.ma K (He.ga K "RowReader") "upcoming") := He.meth_ok (Z.c.t.d.fact 126 (f := .meth "RowReader" "upcoming") rfl)
theorem Cz.f_RowReadernext_word (Z : Cz w K h mg) : ∃ fd, FnM K "next_word" "RowReader.next_word" sRowReaderNextWord (He.ma K (He.ga K "RowReader") "next_word") fd := Z.c.t.d.def_ 70 (d := NH.mOf "RowReader" "next_word" "RowReader.next_word" 56 2) rfl
theorem Cz.m_RowReadernext_word (Z : Cz w K h mg) : Meth K (He.ga K "RowReader") "next_word" (He.ma K (He.ga K "RowReader") "next_word") := He.meth_ok (Z.c.t.d.fact 127 (f := .meth "RowReader" "next_word") rfl)
theorem Cz.f_RowReadernumeral (Z : Cz w K h mg) : ∃ fd, FnM K "numeral" "RowReader.numeral" sRowReaderNumeral (He.ma K (He.ga K "RowReader") "numeral") fd := Z.c.t.d.def_ 71 (d := NH.mOf "RowReader" "numeral" "RowReader.numeral" 56 3) rfl
theorem Cz.m_RowReadernumeral (Z : Cz w K h mg) : Meth K (He.ga K "RowReader") "numeral" (He.ma K (He.ga K "RowReader") "numeral") := He.meth_ok (Z.c.t.d.fact 128 (f := .meth "RowReader" "numeral") rfl)
theorem Cz.f_RowReadersign (Z : Cz w K h mg) : ∃ fd, FnM K "sign" "RowReader.sign" sRowReaderSign (He.ma K (He.ga K "RowReader") "sign") fd := Z.c.t.d.def_ 72 (d := NH.mOf "RowReader" "sign" "RowReader.sign" 56 4) rfl
theorem Cz.m_RowReadersign (Z : Cz w K h mg) : Meth K (He.ga K "RowReader") "sign" (He.ma K (He.ga K "RowReader") "sign") := He.meth_ok (Z.c.t.d.fact 129 (f := .meth "RowReader" "sign") rfl)
theorem Cz.f_RowReaderfunction_told (Z : Cz w K h mg) : ∃ fd, FnM K "function_told" "RowReader.function_told" sRowReaderFunctionTold (He.ma K (He.ga K "RowReader") "function_told") fd := Z.c.t.d.def_ 73 (d := NH.mOf "RowReader" "function_told" "RowReader.function_told" 56 5) rfl
theorem Cz.m_RowReaderfunction_told (Z : Cz w K h mg) : Meth K (He.ga K "RowReader") "function_told" (He.ma K (He.ga K "RowReader") "function_told") := He.meth_ok (Z.c.t.d.fact 130 (f := .meth "RowReader" "function_told") rfl)
theorem Cz.f_RowReaderexpression (Z : Cz w K h mg) : ∃ fd, FnM K "expression" "RowReader.expression" sRowReaderExpression (He.ma K (He.ga K "RowReader") "expression") fd := Z.c.t.d.def_ 74 (d := NH.mOf "RowReader" "expression" "RowReader.expression" 56 6) rfl
theorem Cz.m_RowReaderexpression (Z : Cz w K h mg) : Meth K (He.ga K "RowReader") "expression" (He.ma K (He.ga K "RowReader") "expression") := He.meth_ok (Z.c.t.d.fact 131 (f := .meth "RowReader" "expression") rfl)
theorem Cz.c_Node (Z : Cz w K h mg) : NdC K (He.ga K "Node") := ⟨He.cls_ok (Z.c.t.d.fact 88 (f := .cls "Node") rfl), He.noat_ok (Z.c.t.d.fact 90 (f := .noat "Node" "word") rfl), He.noat_ok (Z.c.t.d.fact 91 (f := .noat "Node" "function") rfl), He.noat_ok (Z.c.t.d.fact 92 (f := .noat "Node" "place") rfl), He.noat_ok (Z.c.t.d.fact 93 (f := .noat "Node" "number") rfl), He.noat_ok (Z.c.t.d.fact 94 (f := .noat "Node" "parts") rfl), He.noat_ok (Z.c.t.d.fact 95 (f := .noat "Node" "depth") rfl)⟩
theorem Cz.c_Form (Z : Cz w K h mg) : FmC K (He.ga K "Form") := ⟨He.cls_ok (Z.c.t.d.fact 96 (f := .cls "Form") rfl), He.noat_ok (Z.c.t.d.fact 98 (f := .noat "Form" "names") rfl), He.noat_ok (Z.c.t.d.fact 99 (f := .noat "Form" "depths") rfl), He.noat_ok (Z.c.t.d.fact 100 (f := .noat "Form" "body") rfl)⟩
theorem Cz.c_Look (Z : Cz w K h mg) : LkC K (He.ga K "Look") := ⟨He.cls_ok (Z.c.t.d.fact 101 (f := .cls "Look") rfl), He.noat_ok (Z.c.t.d.fact 103 (f := .noat "Look" "known") rfl), He.noat_ok (Z.c.t.d.fact 104 (f := .noat "Look" "function") rfl), He.noat_ok (Z.c.t.d.fact 105 (f := .noat "Look" "looked_at") rfl), He.noat_ok (Z.c.t.d.fact 106 (f := .noat "Look" "calls_itself") rfl)⟩
theorem Cz.c_Coder (Z : Cz w K h mg) : CdC K (He.ga K "Coder") := ⟨He.cls_ok (Z.c.t.d.fact 112 (f := .cls "Coder") rfl), He.noat_ok (Z.c.t.d.fact 114 (f := .noat "Coder" "registers") rfl)⟩
theorem Cz.c_RowReader (Z : Cz w K h mg) : RrC K (He.ga K "RowReader") := ⟨He.cls_ok (Z.c.t.d.fact 121 (f := .cls "RowReader") rfl), He.noat_ok (Z.c.t.d.fact 123 (f := .noat "RowReader" "row") rfl), He.noat_ok (Z.c.t.d.fact 124 (f := .noat "RowReader" "words") rfl), He.noat_ok (Z.c.t.d.fact 125 (f := .noat "RowReader" "place") rfl)⟩
theorem Cz.ex (Z : Cz w K h mg) : He.tupB K "NUMBERED" NH.numD = true ∧ He.tupB K "ITEM_WORDS" NH.itD = true ∧ He.tupB K "WITH_DEPTH" NH.wdD = true ∧ He.valsB K (He.ga K "LENGTHS") NH.lenT = true ∧ He.valsB K (He.ga K "RULES") NH.rulT = true := by
  obtain ⟨h1, h2⟩ := He.ba Z.c.more
  obtain ⟨h2, h3⟩ := He.ba h2
  obtain ⟨h3, h4⟩ := He.ba h3
  obtain ⟨h4, h5⟩ := He.ba h4
  exact ⟨h1, h2, h3, h4, h5⟩
theorem Cz.numT (Z : Cz w K h mg) (H : Hp) : SqT K H (He.ga K "NUMBERED") numW := He.tupB_ok Z.ex.1 H
theorem Cz.itT (Z : Cz w K h mg) (H : Hp) : SqT K H (He.ga K "ITEM_WORDS") itW := He.tupB_ok Z.ex.2.1 H
theorem Cz.wdT (Z : Cz w K h mg) (H : Hp) : SqT K H (He.ga K "WITH_DEPTH") wdW := He.tupB_ok Z.ex.2.2.1 H
theorem Cz.lenTb (Z : Cz w K h mg) : Tbl K w (He.ga K "LENGTHS") gLen := by
  refine ⟨Z.c.t.tab 0, fun x v hv => ?_⟩
  cases hv
  cases x with
  | num => exact He.valsB_ok Z.ex.2.2.2.1 (q := ("num", .int 2)) (List.mem_of_getElem? (i := 0) rfl)
  | name => exact He.valsB_ok Z.ex.2.2.2.1 (q := ("name", .int 2)) (List.mem_of_getElem? (i := 1) rfl)
  | plus => exact He.valsB_ok Z.ex.2.2.2.1 (q := ("plus", .int 3)) (List.mem_of_getElem? (i := 2) rfl)
  | minus => exact He.valsB_ok Z.ex.2.2.2.1 (q := ("minus", .int 3)) (List.mem_of_getElem? (i := 3) rfl)
  | times => exact He.valsB_ok Z.ex.2.2.2.1 (q := ("times", .int 3)) (List.mem_of_getElem? (i := 4) rfl)
  | less => exact He.valsB_ok Z.ex.2.2.2.1 (q := ("less", .int 3)) (List.mem_of_getElem? (i := 5) rfl)
  | same => exact He.valsB_ok Z.ex.2.2.2.1 (q := ("same", .int 3)) (List.mem_of_getElem? (i := 6) rfl)
  | ite => exact He.valsB_ok Z.ex.2.2.2.1 (q := ("if", .int 4)) (List.mem_of_getElem? (i := 7) rfl)
  | elet => exact He.valsB_ok Z.ex.2.2.2.1 (q := ("let", .int 4)) (List.mem_of_getElem? (i := 8) rfl)
  | upto => exact He.valsB_ok Z.ex.2.2.2.1 (q := ("upto", .int 2)) (List.mem_of_getElem? (i := 9) rfl)
  | len => exact He.valsB_ok Z.ex.2.2.2.1 (q := ("len", .int 2)) (List.mem_of_getElem? (i := 10) rfl)
  | sum => exact He.valsB_ok Z.ex.2.2.2.1 (q := ("sum", .int 2)) (List.mem_of_getElem? (i := 11) rfl)
  | sums => exact He.valsB_ok Z.ex.2.2.2.1 (q := ("sums", .int 2)) (List.mem_of_getElem? (i := 12) rfl)
  | one => exact He.valsB_ok Z.ex.2.2.2.1 (q := ("one", .int 2)) (List.mem_of_getElem? (i := 13) rfl)
  | pick => exact He.valsB_ok Z.ex.2.2.2.1 (q := ("pick", .int 3)) (List.mem_of_getElem? (i := 14) rfl)
  | put => exact He.valsB_ok Z.ex.2.2.2.1 (q := ("put", .int 3)) (List.mem_of_getElem? (i := 15) rfl)
  | flat => exact He.valsB_ok Z.ex.2.2.2.1 (q := ("flat", .int 2)) (List.mem_of_getElem? (i := 16) rfl)
  | each => exact He.valsB_ok Z.ex.2.2.2.1 (q := ("each", .int 4)) (List.mem_of_getElem? (i := 17) rfl)
  | whr => exact He.valsB_ok Z.ex.2.2.2.1 (q := ("where", .int 4)) (List.mem_of_getElem? (i := 18) rfl)
  | call => exact He.valsB_ok Z.ex.2.2.2.1 (q := ("call", .int 3)) (List.mem_of_getElem? (i := 19) rfl)
def gRul (K : PySem.W.Frag) : W → Option V
  | .num => some (.ref (He.ga K "of_num"))
  | .plus => some (.ref (He.ga K "of_two_numbers"))
  | .minus => some (.ref (He.ga K "of_two_numbers"))
  | .times => some (.ref (He.ga K "of_two_numbers"))
  | .less => some (.ref (He.ga K "of_two_numbers"))
  | .same => some (.ref (He.ga K "of_two_numbers"))
  | .ite => some (.ref (He.ga K "of_if"))
  | .elet => some (.ref (He.ga K "of_let"))
  | .upto => some (.ref (He.ga K "of_upto"))
  | .len => some (.ref (He.ga K "of_len"))
  | .sum => some (.ref (He.ga K "of_sum"))
  | .sums => some (.ref (He.ga K "of_sums"))
  | .one => some (.ref (He.ga K "of_one"))
  | .pick => some (.ref (He.ga K "of_pick"))
  | .put => some (.ref (He.ga K "of_put"))
  | .flat => some (.ref (He.ga K "of_flat"))
  | .each => some (.ref (He.ga K "of_each"))
  | .whr => some (.ref (He.ga K "of_where"))
  | _ => none
theorem Cz.rulTb (Z : Cz w K h mg) : Tbl K w (He.ga K "RULES") (gRul K) := by
  refine ⟨Z.c.t.tab 1, fun x v hv => ?_⟩
  cases x with
  | num =>
    cases hv
    exact He.valsB_ok Z.ex.2.2.2.2 (q := ("num", .glo "of_num")) (List.mem_of_getElem? (i := 0) rfl)
  | plus =>
    cases hv
    exact He.valsB_ok Z.ex.2.2.2.2 (q := ("plus", .glo "of_two_numbers")) (List.mem_of_getElem? (i := 1) rfl)
  | minus =>
    cases hv
    exact He.valsB_ok Z.ex.2.2.2.2 (q := ("minus", .glo "of_two_numbers")) (List.mem_of_getElem? (i := 2) rfl)
  | times =>
    cases hv
    exact He.valsB_ok Z.ex.2.2.2.2 (q := ("times", .glo "of_two_numbers")) (List.mem_of_getElem? (i := 3) rfl)
  | less =>
    cases hv
    exact He.valsB_ok Z.ex.2.2.2.2 (q := ("less", .glo "of_two_numbers")) (List.mem_of_getElem? (i := 4) rfl)
  | same =>
    cases hv
    exact He.valsB_ok Z.ex.2.2.2.2 (q := ("same", .glo "of_two_numbers")) (List.mem_of_getElem? (i := 5) rfl)
  | ite =>
    cases hv
    exact He.valsB_ok Z.ex.2.2.2.2 (q := ("if", .glo "of_if")) (List.mem_of_getElem? (i := 6) rfl)
  | elet =>
    cases hv
    exact He.valsB_ok Z.ex.2.2.2.2 (q := ("let", .glo "of_let")) (List.mem_of_getElem? (i := 7) rfl)
  | upto =>
    cases hv
    exact He.valsB_ok Z.ex.2.2.2.2 (q := ("upto", .glo "of_upto")) (List.mem_of_getElem? (i := 8) rfl)
  | len =>
    cases hv
    exact He.valsB_ok Z.ex.2.2.2.2 (q := ("len", .glo "of_len")) (List.mem_of_getElem? (i := 9) rfl)
  | sum =>
    cases hv
    exact He.valsB_ok Z.ex.2.2.2.2 (q := ("sum", .glo "of_sum")) (List.mem_of_getElem? (i := 10) rfl)
  | sums =>
    cases hv
    exact He.valsB_ok Z.ex.2.2.2.2 (q := ("sums", .glo "of_sums")) (List.mem_of_getElem? (i := 11) rfl)
  | one =>
    cases hv
    exact He.valsB_ok Z.ex.2.2.2.2 (q := ("one", .glo "of_one")) (List.mem_of_getElem? (i := 12) rfl)
  | pick =>
    cases hv
    exact He.valsB_ok Z.ex.2.2.2.2 (q := ("pick", .glo "of_pick")) (List.mem_of_getElem? (i := 13) rfl)
  | put =>
    cases hv
    exact He.valsB_ok Z.ex.2.2.2.2 (q := ("put", .glo "of_put")) (List.mem_of_getElem? (i := 14) rfl)
  | flat =>
    cases hv
    exact He.valsB_ok Z.ex.2.2.2.2 (q := ("flat", .glo "of_flat")) (List.mem_of_getElem? (i := 15) rfl)
  | each =>
    cases hv
    exact He.valsB_ok Z.ex.2.2.2.2 (q := ("each", .glo "of_each")) (List.mem_of_getElem? (i := 16) rfl)
  | whr =>
    cases hv
    exact He.valsB_ok Z.ex.2.2.2.2 (q := ("where", .glo "of_where")) (List.mem_of_getElem? (i := 17) rfl)
  | name => cases hv
  | call => cases hv
theorem Cz.r_of_num (Z : Cz w K h mg) {x : W} (hg : gRul K x = some (.ref (He.ga K "of_num"))) (hS : ((· = .num) : W → Prop) x) : ∃ (fa : Addr) (fd : FuncData) (S : W → Prop), gRul K x = some (.ref fa) ∧ FnOk P w K mg base CX0 1 fa fd ["depths"] (spOf S) ∧ S x ∧ PySem.W.keepIn K (.ref fa) = true ∧ Binds K fd ["depths"] [] := by
  obtain ⟨fd, F⟩ := Z.f_of_num
  obtain ⟨t0, h0⟩ := Z.i_NO_DEPTH
  obtain ⟨t1, h1⟩ := Z.i_MOST_DEPTH
  exact ⟨_, fd, _, hg, ok_of_num F h0 h1, hS, F.kp, F.bindsN fun _ _ _ _ _ _ us hl => match us, hl with | [_], _ => rfl⟩
theorem Cz.r_of_two_numbers (Z : Cz w K h mg) {x : W} (hg : gRul K x = some (.ref (He.ga K "of_two_numbers"))) (hS : (isTwo : W → Prop) x) : ∃ (fa : Addr) (fd : FuncData) (S : W → Prop), gRul K x = some (.ref fa) ∧ FnOk P w K mg base CX0 1 fa fd ["depths"] (spOf S) ∧ S x ∧ PySem.W.keepIn K (.ref fa) = true ∧ Binds K fd ["depths"] [] := by
  obtain ⟨fd, F⟩ := Z.f_of_two_numbers
  obtain ⟨t0, h0⟩ := Z.i_NO_DEPTH
  obtain ⟨t1, h1⟩ := Z.i_MOST_DEPTH
  exact ⟨_, fd, _, hg, ok_of_two_numbers F h0 h1, hS, F.kp, F.bindsN fun _ _ _ _ _ _ us hl => match us, hl with | [_], _ => rfl⟩
theorem Cz.r_of_if (Z : Cz w K h mg) {x : W} (hg : gRul K x = some (.ref (He.ga K "of_if"))) (hS : ((· = .ite) : W → Prop) x) : ∃ (fa : Addr) (fd : FuncData) (S : W → Prop), gRul K x = some (.ref fa) ∧ FnOk P w K mg base CX0 1 fa fd ["depths"] (spOf S) ∧ S x ∧ PySem.W.keepIn K (.ref fa) = true ∧ Binds K fd ["depths"] [] := by
  obtain ⟨fd, F⟩ := Z.f_of_if
  obtain ⟨t0, h0⟩ := Z.i_NO_DEPTH
  obtain ⟨t1, h1⟩ := Z.i_MOST_DEPTH
  exact ⟨_, fd, _, hg, ok_of_if F h0 h1, hS, F.kp, F.bindsN fun _ _ _ _ _ _ us hl => match us, hl with | [_], _ => rfl⟩
theorem Cz.r_of_let (Z : Cz w K h mg) {x : W} (hg : gRul K x = some (.ref (He.ga K "of_let"))) (hS : ((· = .elet) : W → Prop) x) : ∃ (fa : Addr) (fd : FuncData) (S : W → Prop), gRul K x = some (.ref fa) ∧ FnOk P w K mg base CX0 1 fa fd ["depths"] (spOf S) ∧ S x ∧ PySem.W.keepIn K (.ref fa) = true ∧ Binds K fd ["depths"] [] := by
  obtain ⟨fd, F⟩ := Z.f_of_let
  obtain ⟨t0, h0⟩ := Z.i_NO_DEPTH
  obtain ⟨t1, h1⟩ := Z.i_MOST_DEPTH
  exact ⟨_, fd, _, hg, ok_of_let F h0 h1, hS, F.kp, F.bindsN fun _ _ _ _ _ _ us hl => match us, hl with | [_], _ => rfl⟩
theorem Cz.r_of_upto (Z : Cz w K h mg) {x : W} (hg : gRul K x = some (.ref (He.ga K "of_upto"))) (hS : ((· = .upto) : W → Prop) x) : ∃ (fa : Addr) (fd : FuncData) (S : W → Prop), gRul K x = some (.ref fa) ∧ FnOk P w K mg base CX0 1 fa fd ["depths"] (spOf S) ∧ S x ∧ PySem.W.keepIn K (.ref fa) = true ∧ Binds K fd ["depths"] [] := by
  obtain ⟨fd, F⟩ := Z.f_of_upto
  obtain ⟨t0, h0⟩ := Z.i_NO_DEPTH
  obtain ⟨t1, h1⟩ := Z.i_MOST_DEPTH
  exact ⟨_, fd, _, hg, ok_of_upto F h0 h1, hS, F.kp, F.bindsN fun _ _ _ _ _ _ us hl => match us, hl with | [_], _ => rfl⟩
theorem Cz.r_of_len (Z : Cz w K h mg) {x : W} (hg : gRul K x = some (.ref (He.ga K "of_len"))) (hS : ((· = .len) : W → Prop) x) : ∃ (fa : Addr) (fd : FuncData) (S : W → Prop), gRul K x = some (.ref fa) ∧ FnOk P w K mg base CX0 1 fa fd ["depths"] (spOf S) ∧ S x ∧ PySem.W.keepIn K (.ref fa) = true ∧ Binds K fd ["depths"] [] := by
  obtain ⟨fd, F⟩ := Z.f_of_len
  obtain ⟨t0, h0⟩ := Z.i_NO_DEPTH
  obtain ⟨t1, h1⟩ := Z.i_MOST_DEPTH
  exact ⟨_, fd, _, hg, ok_of_len F h0 h1, hS, F.kp, F.bindsN fun _ _ _ _ _ _ us hl => match us, hl with | [_], _ => rfl⟩
theorem Cz.r_of_sum (Z : Cz w K h mg) {x : W} (hg : gRul K x = some (.ref (He.ga K "of_sum"))) (hS : ((· = .sum) : W → Prop) x) : ∃ (fa : Addr) (fd : FuncData) (S : W → Prop), gRul K x = some (.ref fa) ∧ FnOk P w K mg base CX0 1 fa fd ["depths"] (spOf S) ∧ S x ∧ PySem.W.keepIn K (.ref fa) = true ∧ Binds K fd ["depths"] [] := by
  obtain ⟨fd, F⟩ := Z.f_of_sum
  obtain ⟨t0, h0⟩ := Z.i_NO_DEPTH
  obtain ⟨t1, h1⟩ := Z.i_MOST_DEPTH
  exact ⟨_, fd, _, hg, ok_of_sum F h0 h1, hS, F.kp, F.bindsN fun _ _ _ _ _ _ us hl => match us, hl with | [_], _ => rfl⟩
theorem Cz.r_of_sums (Z : Cz w K h mg) {x : W} (hg : gRul K x = some (.ref (He.ga K "of_sums"))) (hS : ((· = .sums) : W → Prop) x) : ∃ (fa : Addr) (fd : FuncData) (S : W → Prop), gRul K x = some (.ref fa) ∧ FnOk P w K mg base CX0 1 fa fd ["depths"] (spOf S) ∧ S x ∧ PySem.W.keepIn K (.ref fa) = true ∧ Binds K fd ["depths"] [] := by
  obtain ⟨fd, F⟩ := Z.f_of_sums
  obtain ⟨t0, h0⟩ := Z.i_NO_DEPTH
  obtain ⟨t1, h1⟩ := Z.i_MOST_DEPTH
  exact ⟨_, fd, _, hg, ok_of_sums F h0 h1, hS, F.kp, F.bindsN fun _ _ _ _ _ _ us hl => match us, hl with | [_], _ => rfl⟩
theorem Cz.r_of_one (Z : Cz w K h mg) {x : W} (hg : gRul K x = some (.ref (He.ga K "of_one"))) (hS : ((· = .one) : W → Prop) x) : ∃ (fa : Addr) (fd : FuncData) (S : W → Prop), gRul K x = some (.ref fa) ∧ FnOk P w K mg base CX0 1 fa fd ["depths"] (spOf S) ∧ S x ∧ PySem.W.keepIn K (.ref fa) = true ∧ Binds K fd ["depths"] [] := by
  obtain ⟨fd, F⟩ := Z.f_of_one
  obtain ⟨t0, h0⟩ := Z.i_NO_DEPTH
  obtain ⟨t1, h1⟩ := Z.i_MOST_DEPTH
  exact ⟨_, fd, _, hg, ok_of_one F h0 h1, hS, F.kp, F.bindsN fun _ _ _ _ _ _ us hl => match us, hl with | [_], _ => rfl⟩
theorem Cz.r_of_pick (Z : Cz w K h mg) {x : W} (hg : gRul K x = some (.ref (He.ga K "of_pick"))) (hS : ((· = .pick) : W → Prop) x) : ∃ (fa : Addr) (fd : FuncData) (S : W → Prop), gRul K x = some (.ref fa) ∧ FnOk P w K mg base CX0 1 fa fd ["depths"] (spOf S) ∧ S x ∧ PySem.W.keepIn K (.ref fa) = true ∧ Binds K fd ["depths"] [] := by
  obtain ⟨fd, F⟩ := Z.f_of_pick
  obtain ⟨t0, h0⟩ := Z.i_NO_DEPTH
  obtain ⟨t1, h1⟩ := Z.i_MOST_DEPTH
  exact ⟨_, fd, _, hg, ok_of_pick F h0 h1, hS, F.kp, F.bindsN fun _ _ _ _ _ _ us hl => match us, hl with | [_], _ => rfl⟩
theorem Cz.r_of_put (Z : Cz w K h mg) {x : W} (hg : gRul K x = some (.ref (He.ga K "of_put"))) (hS : ((· = .put) : W → Prop) x) : ∃ (fa : Addr) (fd : FuncData) (S : W → Prop), gRul K x = some (.ref fa) ∧ FnOk P w K mg base CX0 1 fa fd ["depths"] (spOf S) ∧ S x ∧ PySem.W.keepIn K (.ref fa) = true ∧ Binds K fd ["depths"] [] := by
  obtain ⟨fd, F⟩ := Z.f_of_put
  obtain ⟨t0, h0⟩ := Z.i_NO_DEPTH
  obtain ⟨t1, h1⟩ := Z.i_MOST_DEPTH
  exact ⟨_, fd, _, hg, ok_of_put F h0 h1, hS, F.kp, F.bindsN fun _ _ _ _ _ _ us hl => match us, hl with | [_], _ => rfl⟩
theorem Cz.r_of_flat (Z : Cz w K h mg) {x : W} (hg : gRul K x = some (.ref (He.ga K "of_flat"))) (hS : ((· = .flat) : W → Prop) x) : ∃ (fa : Addr) (fd : FuncData) (S : W → Prop), gRul K x = some (.ref fa) ∧ FnOk P w K mg base CX0 1 fa fd ["depths"] (spOf S) ∧ S x ∧ PySem.W.keepIn K (.ref fa) = true ∧ Binds K fd ["depths"] [] := by
  obtain ⟨fd, F⟩ := Z.f_of_flat
  obtain ⟨t0, h0⟩ := Z.i_NO_DEPTH
  obtain ⟨t1, h1⟩ := Z.i_MOST_DEPTH
  exact ⟨_, fd, _, hg, ok_of_flat F h0 h1, hS, F.kp, F.bindsN fun _ _ _ _ _ _ us hl => match us, hl with | [_], _ => rfl⟩
theorem Cz.r_of_each (Z : Cz w K h mg) {x : W} (hg : gRul K x = some (.ref (He.ga K "of_each"))) (hS : ((· = .each) : W → Prop) x) : ∃ (fa : Addr) (fd : FuncData) (S : W → Prop), gRul K x = some (.ref fa) ∧ FnOk P w K mg base CX0 1 fa fd ["depths"] (spOf S) ∧ S x ∧ PySem.W.keepIn K (.ref fa) = true ∧ Binds K fd ["depths"] [] := by
  obtain ⟨fd, F⟩ := Z.f_of_each
  obtain ⟨t0, h0⟩ := Z.i_NO_DEPTH
  obtain ⟨t1, h1⟩ := Z.i_MOST_DEPTH
  exact ⟨_, fd, _, hg, ok_of_each F h0 h1, hS, F.kp, F.bindsN fun _ _ _ _ _ _ us hl => match us, hl with | [_], _ => rfl⟩
theorem Cz.r_of_where (Z : Cz w K h mg) {x : W} (hg : gRul K x = some (.ref (He.ga K "of_where"))) (hS : ((· = .whr) : W → Prop) x) : ∃ (fa : Addr) (fd : FuncData) (S : W → Prop), gRul K x = some (.ref fa) ∧ FnOk P w K mg base CX0 1 fa fd ["depths"] (spOf S) ∧ S x ∧ PySem.W.keepIn K (.ref fa) = true ∧ Binds K fd ["depths"] [] := by
  obtain ⟨fd, F⟩ := Z.f_of_where
  obtain ⟨t0, h0⟩ := Z.i_NO_DEPTH
  obtain ⟨t1, h1⟩ := Z.i_MOST_DEPTH
  exact ⟨_, fd, _, hg, ok_of_where F h0 h1, hS, F.kp, F.bindsN fun _ _ _ _ _ _ us hl => match us, hl with | [_], _ => rfl⟩
theorem Cz.rls (Z : Cz w K h mg) : Rls P w K mg base 1 (gRul K) := fun x ds d hd => by
  cases x with
  | num => exact Z.r_of_num rfl rfl
  | plus => exact Z.r_of_two_numbers rfl (by unfold isTwo; simp)
  | minus => exact Z.r_of_two_numbers rfl (by unfold isTwo; simp)
  | times => exact Z.r_of_two_numbers rfl (by unfold isTwo; simp)
  | less => exact Z.r_of_two_numbers rfl (by unfold isTwo; simp)
  | same => exact Z.r_of_two_numbers rfl (by unfold isTwo; simp)
  | ite => exact Z.r_of_if rfl rfl
  | elet => exact Z.r_of_let rfl rfl
  | upto => exact Z.r_of_upto rfl rfl
  | len => exact Z.r_of_len rfl rfl
  | sum => exact Z.r_of_sum rfl rfl
  | sums => exact Z.r_of_sums rfl rfl
  | one => exact Z.r_of_one rfl rfl
  | pick => exact Z.r_of_pick rfl rfl
  | put => exact Z.r_of_put rfl rfl
  | flat => exact Z.r_of_flat rfl rfl
  | each => exact Z.r_of_each rfl rfl
  | whr => exact Z.r_of_where rfl rfl
  | name => cases hd with
    | two h => simp at h
  | call => cases hd with
    | two h => simp at h
end
end NR
set_option maxHeartbeats 4000000
namespace NR
open PySem PySem.Spec PyProof.Rows L2
def Std (K : PySem.W.Frag) (mg : Str → Option Value) (x : Str) (st : Stmt) : Prop := ∃ f fd, FnP K x st f fd ∧ mg x = some (.ref f)
/-- the law's own defs stand as the text says -/
structure GenFacts (K : PySem.W.Frag) (mg : Str → Option Value) : Prop where
  taken : Std K mg "_law_taken" sLawTaken
  parts : Std K mg "_law_parts" sLawParts
  size : Std K mg "_law_size" sLawSize
  within : Std K mg "_law_within" sLawWithin
  leaf : Std K mg "_law_leaf" sLawLeaf
  number : Std K mg "_law_number" sLawNumber
  bound : Std K mg "_law_bound" sLawBound
  any : Std K mg "_law_any" sLawAny
  tree : Std K mg "_law_tree" sLawTree
  face : Std K mg "_law_face" sLawFace
  body : Std K mg "_law_body" sLawBody
  program : Std K mg "_law_program" sLawProgram
  z_len : mg "len" = none
  z_range : mg "range" = none
  z_tuple : mg "tuple" = none
  z_dict : mg "dict" = none
  z_int : mg "int" = none
  z_sorted : mg "sorted" = none
  z_sum : mg "sum" = none
  z_max : mg "max" = none
section
variable {P : Program} {w : World} {K : PySem.W.Frag} {mg : Str → Option Value} {base : Heap}
abbrev Ok (P : Program) (w : World) (K : PySem.W.Frag) (mg : Str → Option Value) (base : Heap) := Okf P w K mg base CX0
theorem okTaken (L : GenFacts K mg) : Ok P w K mg base 1 "_law_taken" ["_law_row", "_law_many"] (spTaken K) := by
  obtain ⟨f, fd, F, m⟩ := L.taken
  exact ⟨f, fd, ok_taken F L.z_len, m, F.kp, F.bindsN fun _ _ _ _ _ _ us hl => match us, hl with | [_, _], _ => rfl⟩
theorem okLeaf (L : GenFacts K mg) (fs : List (List Nat × Nat)) : ∀ n, Ok P w K mg base (n + 1) "_law_leaf" ["_law_row", "_law_depth", "_law_known"] (spLeaf K fs n) := by
  obtain ⟨f, fd, F, m⟩ := L.leaf
  have b := F.bindsN (ps := ["_law_row", "_law_depth", "_law_known"]) fun _ _ _ _ _ _ us hl => match us, hl with | [_, _, _], _ => rfl
  intro n
  induction n with
  | zero => exact ⟨f, fd, ok_never (fun vs H Q E h => by
      obtain ⟨r, a, d, ρ, _, _, _, h, _⟩ := h
      omega), m, F.kp, b⟩
  | succ n ih => exact ⟨f, fd, ok_leaf_step F ((okTaken L).mono (by omega)) ih L.z_len L.z_sorted, m, F.kp, b⟩
theorem okParts (L : GenFacts K mg) : Ok P w K mg base 1 "_law_parts" ["_law_tree_here"] (spParts K) := by
  obtain ⟨f, fd, F, m⟩ := L.parts
  exact ⟨f, fd, ok_parts F, m, F.kp, F.bindsN fun _ _ _ _ _ _ us hl => match us, hl with | [_], _ => rfl⟩
theorem okSize (L : GenFacts K mg) : ∀ n, Ok P w K mg base (n + 1) "_law_size" ["_law_tree_here"] (spSize K n) := by
  obtain ⟨f, fd, F, m⟩ := L.size
  have b := F.bindsN (ps := ["_law_tree_here"]) fun _ _ _ _ _ _ us hl => match us, hl with | [_], _ => rfl
  intro n
  induction n with
  | zero => exact ⟨f, fd, ok_never (fun vs H Q E h => by
      obtain ⟨v, e, _, _, h, _⟩ := h
      have := e.hgt_pos
      omega), m, F.kp, b⟩
  | succ n ih => exact ⟨f, fd, ok_size_step F ((okParts L).mono (by omega)) ih L.z_sum, m, F.kp, b⟩
theorem okWithin (L : GenFacts K mg) : ∀ n, Ok P w K mg base (n + 1) "_law_within" ["_law_tree_here"] (spWithin K n) := by
  obtain ⟨f, fd, F, m⟩ := L.within
  have b := F.bindsN (ps := ["_law_tree_here"]) fun _ _ _ _ _ _ us hl => match us, hl with | [_], _ => rfl
  intro n
  induction n with
  | zero => exact ⟨f, fd, ok_never (fun vs H Q E h => by
      obtain ⟨v, e, _, _, h, _⟩ := h
      have := e.hgt_pos
      omega), m, F.kp, b⟩
  | succ n ih => exact ⟨f, fd, ok_within_step F ((okParts L).mono (by omega)) ih L.z_max, m, F.kp, b⟩
abbrev psTree : List Str := ["_law_row", "_law_m", "_law_depth", "_law_deep", "_law_known"]
abbrev psBound : List Str := ["_law_row", "_law_m", "_law_word", "_law_depth", "_law_deep", "_law_known", "_law_told"]
theorem okTree (L : GenFacts K mg) (fs : List (List Nat × Nat)) (own : Nat) : ∀ n, Ok P w K mg base (6 + 4 * n) "_law_tree" psTree (spTree K fs own n) := by
  obtain ⟨ft, fdt, Ft, mt⟩ := L.tree
  obtain ⟨fn, fdn, Fn, mn⟩ := L.number
  obtain ⟨fb, fdb, Fb, mb⟩ := L.bound
  obtain ⟨fy, fdy, Fy, my⟩ := L.any
  have bt := Ft.bindsN (ps := psTree) fun _ _ _ _ _ _ us hl => match us, hl with | [_, _, _, _, _], _ => rfl
  have bn := Fn.bindsN (ps := ["_law_row", "_law_m", "_law_deep", "_law_known"]) fun _ _ _ _ _ _ us hl => match us, hl with | [_, _, _, _], _ => rfl
  have bb := Fb.bindsN (ps := psBound) fun _ _ _ _ _ _ us hl => match us, hl with | [_, _, _, _, _, _, _], _ => rfl
  have bY := Fy.bindsN (ps := psTree) fun _ _ _ _ _ _ us hl => match us, hl with | [_, _, _, _, _], _ => rfl
  intro n
  induction n with
  | zero =>
    refine ⟨ft, fdt, ok_tree (n := 0) (spT := fun _ _ _ _ => False) Ft ((okTaken L).mono (by omega)) (fun h => absurd h (by omega)) ⟨ft, fdt, ok_never (fun vs H Q E h => h), mt, Ft.kp, bt⟩
      ⟨fy, fdy, ok_never (fun vs H Q E h => by
        obtain ⟨r, m, a, d, deep, ρ, _, _, _, _, _, h1, h2, _⟩ := h
        omega), my, Fy.kp, bY⟩
      ⟨fn, fdn, ok_never (fun vs H Q E h => by
        obtain ⟨r, m, a, deep, ρ, _, _, _, _, h1, h2, _⟩ := h
        omega), mn, Fn.kp, bn⟩
      ⟨fb, fdb, ok_never (fun vs H Q E h => by
        obtain ⟨r, m, a, w, d, t, deep, ρ, _, _, _, _, _, _, _, _, h1, h2, _⟩ := h
        omega), mb, Fb.kp, bb⟩
      (okLeaf L _ 4) L.z_int, mt, Ft.kp, bt⟩
  | succ n ih =>
    have OB : Ok P w K mg base (7 + 4 * n) "_law_bound" psBound (spBound K fs own (n + 1)) := ⟨fb, fdb, (ok_bound Fb (by omega) ((okTaken L).mono (by omega)) ih L.z_dict L.z_int).mono (by omega), mb, Fb.kp, bb⟩
    have OY : Ok P w K mg base (8 + 4 * n) "_law_any" psTree (spAny K fs own (n + 1)) := ⟨fy, fdy, (ok_any (k := 7 + 4 * n) Fy ((okTaken L).mono (by omega)) (ih.mono (by omega)) OB ((okLeaf L _ 4).mono (by omega)) L.z_len L.z_range L.z_tuple).mono (by omega), my, Fy.kp, bY⟩
    have ON : Ok P w K mg base (9 + 4 * n) "_law_number" ["_law_row", "_law_m", "_law_deep", "_law_known"] (spNumber K fs own (n + 1)) := ⟨fn, fdn, (ok_number (k := 8 + 4 * n) Fn ((okTaken L).mono (by omega)) (ih.mono (by omega)) OY).mono (by omega), mn, Fn.kp, bn⟩
    exact ⟨ft, fdt, (ok_tree (k := 9 + 4 * n) (n := n + 1) Ft ((okTaken L).mono (by omega)) (fun _ => rfl) (ih.mono (by omega)) (OY.mono (by omega)) ON (OB.mono (by omega)) ((okLeaf L _ 4).mono (by omega)) L.z_int).mono (by omega), mt, Ft.kp, bt⟩
theorem okProgram (L : GenFacts K mg) : Ok P w K mg base 24 "_law_program" ["_law_row", "_law_most"] (spProgram K) := by
  obtain ⟨f, fd, F, m⟩ := L.program
  obtain ⟨fb, fdb, Fb, mb⟩ := L.body
  obtain ⟨fc, fdc, Fc, mc⟩ := L.face
  obtain ⟨fl, fdl, Fl, ml⟩ := L.leaf
  have bl := Fl.bindsN (ps := ["_law_row", "_law_depth", "_law_known"]) fun _ _ _ _ _ _ us hl => match us, hl with | [_, _, _], _ => rfl
  have bb := Fb.bindsN (ps := ["_law_row", "_law_m", "_law_face_here", "_law_itself"]) fun _ _ _ _ _ _ us hl => match us, hl with | [_, _, _, _], _ => rfl
  have bc := Fc.bindsN (ps := ["_law_row"]) fun _ _ _ _ _ _ us hl => match us, hl with | [_], _ => rfl
  have b := F.bindsN (ps := ["_law_row", "_law_most"]) fun _ _ _ _ _ _ us hl => match us, hl with | [_, _], _ => rfl
  have OB : Ok P w K mg base 23 "_law_body" ["_law_row", "_law_m", "_law_face_here", "_law_itself"] (spBodyE K) := ⟨fb, fdb, FnOk.ex fun i => ok_body (k := 22) Fb ((okTaken L).mono (by omega)) (okTree L i.1 i.2 4) L.z_dict L.z_range L.z_tuple, mb, Fb.kp, bb⟩
  have OC : Ok P w K mg base 23 "_law_face" ["_law_row"] (spFace K) := ⟨fc, fdc, ok_face (k := 22) Fc ((okTaken L).mono (by omega)) L.z_len L.z_range L.z_tuple L.z_int, mc, Fc.kp, bc⟩
  have OL : Ok P w K mg base 23 "_law_leaf" ["_law_row", "_law_depth", "_law_known"] (spLeafE K) := by
    refine ⟨fl, fdl, FnOk.ex fun i => ?_, ml, Fl.kp, bl⟩
    exact (ok_leaf_step (n := 3) Fl ((okTaken L).mono (by omega)) (okLeaf L i 3) L.z_len L.z_sorted).mono (by omega)
  exact ⟨f, fd, ok_program (k := 23) F ((okTaken L).mono (by omega)) OC OB ((okSize L 12).mono (by omega)) ((okWithin L 12).mono (by omega)) OL L.z_dict L.z_range L.z_tuple, m, F.kp, b⟩
end
end NR
set_option maxHeartbeats 4000000
namespace NR
open PySem PySem.Spec PyProof.Rows L2
section
variable {P : Program} {w : World} {K : PySem.W.Frag} {mg : Str → Option Value} {base h : Heap}
theorem FnOk.or2 {CX : CXT} {k : Nat} {f : Addr} {fd : FuncData} {ps : List Str} {sp sp1 sp2 : Sp} (h1 : FnOk P w K mg base CX k f fd ps sp1) (h2 : FnOk P w K mg base CX k f fd ps sp2) (hs : ∀ vs H Q E, sp vs H Q E → sp1 vs H Q E ∨ sp2 vs H Q E) : FnOk P w K mg base CX k f fd ps sp :=
  ⟨fun vs H Q E z => (hs vs H Q E z).elim (h1.len vs H Q E) (h2.len vs H Q E), fun A outer s H args us vs Q E hr he hb hv z => (hs vs H Q E z).elim (h1.run A outer s H args us vs Q E hr he hb hv) (h2.run A outer s H args us vs Q E hr he hb hv)⟩
theorem Cz.rw (Z : Cz w K h mg) : RwC K mg (He.ga K "ITEM_WORDS") (He.ga K "WITH_DEPTH") := ⟨Z.g_ITEM_WORDS, Z.g_WITH_DEPTH, Z.itT, Z.wdT⟩
theorem Cz.o_isnum (Z : Cz w K h mg) : Okf P w K mg base CX0 1 "is_number" ["value", "last"] spIsNum := by
  obtain ⟨fd, F⟩ := Z.f_is_number
  exact ⟨_, fd, ok_isnum F Z.z_isinstance Z.z_int Z.z_bool, Z.g_is_number, F.kp, F.bindsN fun _ _ _ _ _ _ us hl => match us, hl with | [_, _], _ => rfl⟩
theorem Cz.o_last (Z : Cz w K h mg) : Okf P w K mg base CX0 1 "last_number" ["word"] spLast := by
  obtain ⟨fd, F⟩ := Z.f_last_number
  obtain ⟨t0, h0⟩ := Z.i_LAST_NUMBER
  obtain ⟨t1, h1⟩ := Z.i_MOST_FUNCTIONS
  obtain ⟨t2, h2⟩ := Z.i_LAST_NAME
  exact ⟨_, fd, ok_last F h0 h1 h2, Z.g_last_number, F.kp, F.bindsN fun _ _ _ _ _ _ us hl => match us, hl with | [_], _ => rfl⟩
theorem Cz.o_numof (Z : Cz w K h mg) : Okf P w K mg base CX0 1 "number_of" ["expression"] (spNumOf K) := by
  obtain ⟨fd, F⟩ := Z.f_number_of
  exact ⟨_, fd, ok_numof F Z.g_NUMBERED Z.numT, Z.g_number_of, F.kp, F.bindsN fun _ _ _ _ _ _ us hl => match us, hl with | [_], _ => rfl⟩
theorem Cz.o_partsof (Z : Cz w K h mg) : Okf P w K mg base CX0 1 "parts_of" ["expression"] (spPartsOf K) := by
  obtain ⟨fd, F⟩ := Z.f_parts_of
  exact ⟨_, fd, ok_partsof F Z.g_NUMBERED Z.numT Z.z_list, Z.g_parts_of, F.kp, F.bindsN fun _ _ _ _ _ _ us hl => match us, hl with | [_], _ => rfl⟩
theorem Cz.o_depth (Z : Cz w K h mg) : Okf P w K mg base CX0 2 "depth_of" ["word", "depths"] spDepth := by
  obtain ⟨fd, F⟩ := Z.f_depth_of
  exact ⟨_, fd, ok_depth F Z.g_RULES Z.rulTb Z.rls, Z.g_depth_of, F.kp, F.bindsN fun _ _ _ _ _ _ us hl => match us, hl with | [_, _], _ => rfl⟩
theorem Cz.o_shape (Z : Cz w K h mg) : Okf P w K mg base CX0 2 "has_shape" ["expression"] (spShape K) := by
  obtain ⟨fd, F⟩ := Z.f_has_shape
  exact ⟨_, fd, ok_shape F Z.g_NUMBERED Z.numT Z.g_LENGTHS Z.lenTb Z.o_isnum Z.o_last Z.z_isinstance Z.z_tuple Z.z_len Z.z_str, Z.g_has_shape, F.kp, F.bindsN fun _ _ _ _ _ _ us hl => match us, hl with | [_], _ => rfl⟩
theorem Cz.o_ahead (Z : Cz w K h mg) : Okf P w K mg base CX0 1 "parts_ahead" ["node"] (spAhead (He.ga K "Node")) := by
  obtain ⟨fd, F⟩ := Z.f_parts_ahead
  exact ⟨_, fd, ok_ahead F Z.c_Node, Z.g_parts_ahead, F.kp, F.bindsN fun _ _ _ _ _ _ us hl => match us, hl with | [_], _ => rfl⟩
theorem Cz.o_Node (Z : Cz w K h mg) : Okc P w K mg base CX0 1 "Node" (He.ga K "Node") ["self", "word", "function", "place", "number", "parts", "depth"] (spNode (He.ga K "Node")) := by
  obtain ⟨fd, F⟩ := Z.f_Nodeinit
  exact ⟨_, fd, ok_node F Z.c_Node, Z.m_Nodeinit, F.bindsN fun _ _ _ _ _ _ us hl => match us, hl with | [_, _, _, _, _, _, _], _ => rfl, Z.g_Node⟩
theorem Cz.o_Look (Z : Cz w K h mg) : Okc P w K mg base CX0 1 "Look" (He.ga K "Look") ["self", "known", "function"] (spLook (He.ga K "Look")) := by
  obtain ⟨fd, F⟩ := Z.f_Lookinit
  exact ⟨_, fd, ok_look F Z.c_Look, Z.m_Lookinit, F.bindsN fun _ _ _ _ _ _ us hl => match us, hl with | [_, _, _], _ => rfl, Z.g_Look⟩
theorem Cz.o_Form (Z : Cz w K h mg) : Okc P w K mg base CX0 1 "Form" (He.ga K "Form") ["self", "names", "depths", "body"] (spForm (He.ga K "Form")) := by
  obtain ⟨fd, F⟩ := Z.f_Forminit
  exact ⟨_, fd, ok_form F Z.c_Form, Z.m_Forminit, F.bindsN fun _ _ _ _ _ _ us hl => match us, hl with | [_, _, _, _], _ => rfl, Z.g_Form⟩
theorem Cz.o_Coder (Z : Cz w K h mg) : Okc P w K mg base CX0 1 "Coder" (He.ga K "Coder") ["self", "registers"] (spCoder (He.ga K "Coder")) := by
  obtain ⟨fd, F⟩ := Z.f_Coderinit
  exact ⟨_, fd, ok_coder F Z.c_Coder, Z.m_Coderinit, F.bindsN fun _ _ _ _ _ _ us hl => match us, hl with | [_, _], _ => rfl, Z.g_Coder⟩
theorem Cz.o_refuse (Z : Cz w K h mg) : Okm P w K mg base CX0 1 (He.ga K "Look") "refuse_if" ["self", "wrong", "place", "word"] spRefuse := by
  obtain ⟨fd, F⟩ := Z.f_Lookrefuse_if
  exact ⟨_, fd, ok_refuse F, Z.m_Lookrefuse_if, F.bindsN fun _ _ _ _ _ _ us hl => match us, hl with | [_, _, _, _], _ => rfl, Z.c_Look.cl⟩
theorem Cz.o_may (Z : Cz w K h mg) : Okm P w K mg base CX0 1 (He.ga K "Look") "may_call" ["self", "called", "many"] (spMay K (He.ga K "Look")) := by
  obtain ⟨fd, F⟩ := Z.f_Lookmay_call
  exact ⟨_, fd, ok_may F Z.c_Look Z.z_len, Z.m_Lookmay_call, F.bindsN fun _ _ _ _ _ _ us hl => match us, hl with | [_, _, _], _ => rfl, Z.c_Look.cl⟩
theorem Cz.o_told (Z : Cz w K h mg) : Okm P w K mg base CX0 3 (He.ga K "Look") "depth_told" ["self", "word", "number", "parts", "names"] (spTold K (He.ga K "Look") (He.ga K "Node")) := by
  obtain ⟨fd, F⟩ := Z.f_Lookdepth_told
  obtain ⟨t0, h0⟩ := Z.i_NO_DEPTH
  exact ⟨_, fd, ok_told F Z.c_Look Z.c_Node Z.o_depth h0 Z.z_list, Z.m_Lookdepth_told, F.bindsN fun _ _ _ _ _ _ us hl => match us, hl with | [_, _, _, _, _], _ => rfl, Z.c_Look.cl⟩
theorem Cz.o_nodeof (Z : Cz w K h mg) : ∀ n, Okm P w K mg base CX0 (3 + 2 * n) (He.ga K "Look") "node_of" ["self", "expression", "names", "within"] (spNodeOf (He.ga K "Look") (He.ga K "Node") n) := by
  obtain ⟨fd, F⟩ := Z.f_Looknode_of
  obtain ⟨fd2, F2⟩ := Z.f_Lookparts_that_name
  obtain ⟨t0, h0⟩ := Z.i_LAST_PLACE
  obtain ⟨t1, h1⟩ := Z.i_MOST_WITHIN
  obtain ⟨t2, h2⟩ := Z.i_NO_DEPTH
  have b : Binds K fd ["self", "expression", "names", "within"] [] := F.bindsN fun _ _ _ _ _ _ us hl => match us, hl with | [_, _, _, _], _ => rfl
  have b2 : Binds K fd2 ["self", "expression", "place", "names", "within"] [] := F2.bindsN fun _ _ _ _ _ _ us hl => match us, hl with | [_, _, _, _, _], _ => rfl
  intro n
  induction n with
  | zero =>
    refine ⟨_, fd, ok_never (fun vs H Q E h => ?_), Z.m_Looknode_of, b, Z.c_Look.cl⟩
    obtain ⟨a, dx, kn, nm, v, fn, p, b, wi, fs, ρ, e, nd, _, _, _, _, _, h, _⟩ := h
    have := e.hgt_pos
    omega
  | succ n ih =>
    have OT : Okm P w K mg base CX0 (3 + 2 * n + 1) (He.ga K "Look") "parts_that_name" ["self", "expression", "place", "names", "within"] (spThat (He.ga K "Look") (He.ga K "Node") n) := ⟨_, fd2, ok_that F2 Z.c_Node (Z.o_refuse.mono (by omega)) ih, Z.m_Lookparts_that_name, b2, Z.c_Look.cl⟩
    refine ⟨_, fd, FnOk.mono (ok_nodeof (k := 3 + 2 * n) F Z.c_Look Z.c_Node (by omega) (Z.o_refuse.mono (by omega)) (Z.o_may.mono (by omega)) (ih.mono (by omega)) OT (Z.o_told.mono (by omega)) (Z.o_Node.mono (by omega)) (Z.o_shape.mono (by omega)) (Z.o_numof.mono (by omega)) (Z.o_partsof.mono (by omega)) h0 h1 h2 Z.z_len) (by omega), Z.m_Looknode_of, b, Z.c_Look.cl⟩
theorem Cz.o_param (Z : Cz w K h mg) : Okf P w K mg base CX0 2 "is_param" ["param"] spParam := by
  obtain ⟨fd, F⟩ := Z.f_is_param
  obtain ⟨t0, h0⟩ := Z.i_LAST_NAME
  obtain ⟨t1, h1⟩ := Z.i_MOST_DEPTH
  exact ⟨_, fd, ok_param F Z.o_isnum h0 h1 Z.z_isinstance Z.z_tuple Z.z_len, Z.g_is_param, F.kp, F.bindsN fun _ _ _ _ _ _ us hl => match us, hl with | [_], _ => rfl⟩
theorem Cz.o_hasface (Z : Cz w K h mg) : Okf P w K mg base CX0 3 "has_face" ["function"] (spHasFace K) := by
  obtain ⟨fd, F⟩ := Z.f_has_face
  obtain ⟨t0, h0⟩ := Z.i_MOST_PARAMS
  obtain ⟨t1, h1⟩ := Z.i_MOST_DEPTH
  exact ⟨_, fd, ok_hasface F (Z.o_isnum.mono (by omega)) Z.o_param h0 h1 Z.z_isinstance Z.z_tuple Z.z_len Z.z_all Z.z_set, Z.g_has_face, F.kp, F.bindsN fun _ _ _ _ _ _ us hl => match us, hl with | [_], _ => rfl⟩
theorem Cz.o_faces (Z : Cz w K h mg) : Okf P w K mg base CX0 4 "told_faces" ["program"] (spFaces K) := by
  obtain ⟨fd, F⟩ := Z.f_told_faces
  obtain ⟨t0, h0⟩ := Z.i_MOST_FUNCTIONS
  exact ⟨_, fd, ok_faces F Z.o_hasface h0 Z.z_len Z.z_enumerate Z.z_tuple, Z.g_told_faces, F.kp, F.bindsN fun _ _ _ _ _ _ us hl => match us, hl with | [_], _ => rfl⟩
theorem Cz.o_formof (Z : Cz w K h mg) : Okf P w K mg base CX0 30 "form_of" ["function", "at", "told"] (spFormOf K (He.ga K "Form") (He.ga K "Node")) := by
  obtain ⟨fd, F⟩ := Z.f_form_of
  exact ⟨_, fd, ok_formof (k := 28) F Z.c_Look Z.c_Form Z.c_Node (Z.o_Look.mono (by omega)) (Z.o_Form.mono (by omega)) (Z.o_nodeof 13) (Z.o_refuse.mono (by omega)) Z.z_dict, Z.g_form_of, F.kp, F.bindsN fun _ _ _ _ _ _ us hl => match us, hl with | [_, _, _], _ => rfl⟩
theorem Cz.o_forms (Z : Cz w K h mg) : Okf P w K mg base CX0 31 "forms_of" ["program"] (spForms K (He.ga K "Form") (He.ga K "Node")) := by
  obtain ⟨fd, F⟩ := Z.f_forms_of
  exact ⟨_, fd, ok_forms (k := 30) F (Z.o_faces.mono (by omega)) Z.o_formof Z.z_enumerate, Z.g_forms_of, F.kp, F.bindsN fun _ _ _ _ _ _ us hl => match us, hl with | [_], _ => rfl⟩
theorem Cz.o_takenby (Z : Cz w K h mg) : Okf P w K mg base CX0 1 "taken_by" ["row"] spTakenBy := by
  obtain ⟨fd, F⟩ := Z.f_taken_by
  exact ⟨_, fd, ok_takenby F Z.rw, Z.g_taken_by, F.kp, F.bindsN fun _ _ _ _ _ _ us hl => match us, hl with | [_], _ => rfl⟩
theorem Cz.o_looks (Z : Cz w K h mg) : Okf P w K mg base CX0 2 "looks_at" ["row"] spLooks := by
  obtain ⟨fd, F⟩ := Z.f_looks_at
  exact ⟨_, fd, ok_looks F Z.rw Z.o_takenby, Z.g_looks_at, F.kp, F.bindsN fun _ _ _ _ _ _ us hl => match us, hl with | [_], _ => rfl⟩
theorem Cz.o_takenin (Z : Cz w K h mg) : Okf P w K mg base CX0 3 "taken_in" ["blocks", "first"] spTakenIn := by
  obtain ⟨fd, F⟩ := Z.f_taken_in
  exact ⟨_, fd, ok_takenin F Z.o_looks Z.z_sorted Z.z_set Z.z_tuple, Z.g_taken_in, F.kp, F.bindsN fun _ _ _ _ _ _ us hl => match us, hl with | [_, _], _ => rfl⟩
theorem Cz.o_newone (Z : Cz w K h mg) : Okm P w K mg base CX0 1 (He.ga K "Coder") "new_one" ["self"] (spNewOne (He.ga K "Coder")) := by
  obtain ⟨fd, F⟩ := Z.f_Codernew_one
  exact ⟨_, fd, ok_newone F Z.c_Coder, Z.m_Codernew_one, F.bindsN fun _ _ _ _ _ _ us hl => match us, hl with | [_], _ => rfl, Z.c_Coder.cl⟩
theorem Cz.o_add (Z : Cz w K h mg) : ∀ n, Okm P w K mg base CX0 (3 + 4 * n) (He.ga K "Coder") "add_rows" ["self", "node", "names", "rows"] (spAdd (He.ga K "Coder") (He.ga K "Node") n) ∧ Okm P w K mg base CX0 (4 + 4 * n) (He.ga K "Coder") "block_of" ["self", "node", "names"] (spBlock (He.ga K "Coder") (He.ga K "Node") n) := by
  obtain ⟨fa, Fa⟩ := Z.f_Coderadd_rows
  obtain ⟨fb, Fb⟩ := Z.f_Coderblock_of
  obtain ⟨fi, Fi⟩ := Z.f_Coderif_end
  obtain ⟨ft, Ft⟩ := Z.f_Coderitems_end
  obtain ⟨fr, Fr⟩ := Z.f_Coderrow_end
  have ba : Binds K fa ["self", "node", "names", "rows"] [] := Fa.bindsN fun _ _ _ _ _ _ us hl => match us, hl with | [_, _, _, _], _ => rfl
  have bb : Binds K fb ["self", "node", "names"] [] := Fb.bindsN fun _ _ _ _ _ _ us hl => match us, hl with | [_, _, _], _ => rfl
  have bi : Binds K fi ["self", "node", "names", "chosen"] [] := Fi.bindsN fun _ _ _ _ _ _ us hl => match us, hl with | [_, _, _, _], _ => rfl
  have bt : Binds K ft ["self", "node", "names", "row"] [] := Ft.bindsN fun _ _ _ _ _ _ us hl => match us, hl with | [_, _, _, _], _ => rfl
  have br : Binds K fr ["self", "node", "names", "parts"] [] := Fr.bindsN fun _ _ _ _ _ _ us hl => match us, hl with | [_, _, _, _], _ => rfl
  have blk : ∀ n, Okm P w K mg base CX0 (3 + 4 * n) (He.ga K "Coder") "add_rows" ["self", "node", "names", "rows"] (spAdd (He.ga K "Coder") (He.ga K "Node") n) → Okm P w K mg base CX0 (4 + 4 * n) (He.ga K "Coder") "block_of" ["self", "node", "names"] (spBlock (He.ga K "Coder") (He.ga K "Node") n) := fun n ih => ⟨_, fb, FnOk.mono (ok_block Fb ih Z.z_tuple) (by omega), Z.m_Coderblock_of, bb, Z.c_Coder.cl⟩
  intro n
  induction n with
  | zero =>
    have z : Okm P w K mg base CX0 (3 + 4 * 0) (He.ga K "Coder") "add_rows" ["self", "node", "names", "rows"] (spAdd (He.ga K "Coder") (He.ga K "Node") 0) := by
      refine ⟨_, fa, ok_never (fun vs H Q E h => ?_), Z.m_Coderadd_rows, ba, Z.c_Coder.cl⟩
      obtain ⟨a, dx, nm, rl, G, v, fn, nd, ε, r, rs, t, r', us, _, _, _, _, _, _, _, _, h, _⟩ := h
      have := nd.hgt_pos
      omega
    exact ⟨z, blk 0 z⟩
  | succ n ih =>
    obtain ⟨ih, OB⟩ := ih
    have OI : Okm P w K mg base CX0 (5 + 4 * n) (He.ga K "Coder") "if_end" ["self", "node", "names", "chosen"] (spIfEnd (He.ga K "Coder") (He.ga K "Node") n) := ⟨_, fi, FnOk.mono (ok_ifend Fi Z.c_Coder Z.c_Node OB (Z.o_takenin.mono (by omega))) (by omega), Z.m_Coderif_end, bi, Z.c_Coder.cl⟩
    have OT : Okm P w K mg base CX0 (5 + 4 * n) (He.ga K "Coder") "items_end" ["self", "node", "names", "row"] (spItEnd (He.ga K "Coder") (He.ga K "Node") n) := ⟨_, ft, FnOk.mono (ok_itend Ft Z.c_Coder Z.c_Node OB (Z.o_newone.mono (by omega)) (Z.o_takenin.mono (by omega))) (by omega), Z.m_Coderitems_end, bt, Z.c_Coder.cl⟩
    have OR : Okm P w K mg base CX0 (6 + 4 * n) (He.ga K "Coder") "row_end" ["self", "node", "names", "parts"] (spRowEnd (He.ga K "Coder") (He.ga K "Node") n) := ⟨_, fr, FnOk.mono (ok_rowend Fr Z.rw Z.c_Node OI OT Z.z_tuple) (by omega), Z.m_Coderrow_end, br, Z.c_Coder.cl⟩
    have z : Okm P w K mg base CX0 (3 + 4 * (n + 1)) (He.ga K "Coder") "add_rows" ["self", "node", "names", "rows"] (spAdd (He.ga K "Coder") (He.ga K "Node") (n + 1)) := ⟨_, fa, FnOk.mono (ok_add Fa Z.c_Node (ih.mono (by omega)) OR (Z.o_newone.mono (by omega)) (Z.o_ahead.mono (by omega))) (by omega), Z.m_Coderadd_rows, ba, Z.c_Coder.cl⟩
    exact ⟨z, blk (n + 1) z⟩
theorem Cz.o_code (Z : Cz w K h mg) : Okf P w K mg base CX0 57 "code_of" ["form"] (spCode (He.ga K "Form") (He.ga K "Node")) := by
  obtain ⟨fd, F⟩ := Z.f_code_of
  exact ⟨_, fd, ok_code (k := 55) F Z.c_Form (Z.o_Coder.mono (by omega)) (Z.o_add 13).2 Z.z_len Z.z_enumerate, Z.g_code_of, F.kp, F.bindsN fun _ _ _ _ _ _ us hl => match us, hl with | [_], _ => rfl⟩
theorem Cz.o_flat (Z : Cz w K h mg) : Okf P w K mg base CX0 58 "flat" ["program"] (spFlat K) := by
  obtain ⟨fd, F⟩ := Z.f_flat
  exact ⟨_, fd, ok_flat (k := 57) F (Z.o_forms.mono (by omega)) Z.o_code, Z.g_flat, F.kp, F.bindsN fun _ _ _ _ _ _ us hl => match us, hl with | [_], _ => rfl⟩
theorem Cz.o_parts (Z : Cz w K h mg) : Okf P w K mg base CX0 1 "_law_parts" ["_law_tree_here"] (spParts K) := by
  obtain ⟨fd, F⟩ := Z.f__law_parts
  exact ⟨_, fd, ok_parts F, Z.g__law_parts, F.kp, F.bindsN fun _ _ _ _ _ _ us hl => match us, hl with | [_], _ => rfl⟩
theorem Cz.o_lwords (Z : Cz w K h mg) : ∀ n, Okf P w K mg base CX0 (1 + n) "_law_words" ["_law_tree_here"] (spWords n) := by
  obtain ⟨fd, F⟩ := Z.f__law_words
  have b : Binds K fd ["_law_tree_here"] [] := F.bindsN fun _ _ _ _ _ _ us hl => match us, hl with | [_], _ => rfl
  intro n
  induction n with
  | zero =>
    refine ⟨_, fd, ok_never (fun vs H Q E h => ?_), Z.g__law_words, F.kp, b⟩
    obtain ⟨v, e, _, _, _, h, _⟩ := h
    have := e.hgt_pos
    omega
  | succ n ih => exact ⟨_, fd, FnOk.mono (ok_lwords F ih (Z.o_parts.mono (by omega)) Z.z_str) (by omega), Z.g__law_words, F.kp, b⟩
theorem Cz.o_wordsof (Z : Cz w K h mg) : ∀ n, Okf P w K mg base CX0 (1 + n) "words_of" ["expression"] (spWords n) := by
  obtain ⟨fd, F⟩ := Z.f_words_of
  have b : Binds K fd ["expression"] [] := F.bindsN fun _ _ _ _ _ _ us hl => match us, hl with | [_], _ => rfl
  intro n
  induction n with
  | zero =>
    refine ⟨_, fd, ok_never (fun vs H Q E h => ?_), Z.g_words_of, F.kp, b⟩
    obtain ⟨v, e, _, _, _, h, _⟩ := h
    have := e.hgt_pos
    omega
  | succ n ih => exact ⟨_, fd, FnOk.mono (ok_wordsof F ih (Z.o_partsof.mono (by omega)) Z.g_NUMBERED Z.numT Z.z_str) (by omega), Z.g_words_of, F.kp, b⟩
theorem Cz.o_text (Z : Cz w K h mg) : Okf P w K mg base CX0 15 "_law_text" ["_law_program_here"] spText := by
  obtain ⟨fd, F⟩ := Z.f__law_text
  exact ⟨_, fd, ok_text (k := 14) F (Z.o_lwords 13) Z.z_str Z.z_len, Z.g__law_text, F.kp, F.bindsN fun _ _ _ _ _ _ us hl => match us, hl with | [_], _ => rfl⟩
theorem Cz.o_wfun (Z : Cz w K h mg) : Okf P w K mg base CX0 15 "written_function" ["function"] spWF := by
  obtain ⟨fd, F⟩ := Z.f_written_function
  exact ⟨_, fd, ok_wfun (k := 14) F (Z.o_wordsof 13) Z.z_str Z.z_len, Z.g_written_function, F.kp, F.bindsN fun _ _ _ _ _ _ us hl => match us, hl with | [_], _ => rfl⟩
theorem Cz.o_fcs (Z : Cz w K h mg) : Okf P w K mg base CX0 31 "faces" ["program"] spFcs := by
  obtain ⟨fd, F⟩ := Z.f_faces
  exact ⟨_, fd, ok_fcs (k := 30) F (Z.o_faces.mono (by omega)) Z.o_formof Z.z_enumerate, Z.g_faces, F.kp, F.bindsN fun _ _ _ _ _ _ us hl => match us, hl with | [_], _ => rfl⟩
theorem Cz.o_written (Z : Cz w K h mg) : Okf P w K mg base CX0 32 "written" ["program"] spWrit := by
  obtain ⟨fd, F⟩ := Z.f_written
  exact ⟨_, fd, ok_written (k := 31) F Z.o_fcs (Z.o_wfun.mono (by omega)), Z.g_written, F.kp, F.bindsN fun _ _ _ _ _ _ us hl => match us, hl with | [_], _ => rfl⟩
theorem Cz.o_numeralw (Z : Cz w K h mg) : Okf P w K mg base CX0 1 "is_numeral" ["word"] spNumeral := by
  obtain ⟨fd, F⟩ := Z.f_is_numeral
  obtain ⟨t0, h0⟩ := Z.i_MOST_FIGURES
  exact ⟨_, fd, ok_numeralw F h0 Z.z_len, Z.g_is_numeral, F.kp, F.bindsN fun _ _ _ _ _ _ us hl => match us, hl with | [_], _ => rfl⟩
theorem Cz.o_RowReader (Z : Cz w K h mg) : Okc P w K mg base CX0 1 "RowReader" (He.ga K "RowReader") ["self", "row", "text"] (spRd (He.ga K "RowReader")) := by
  obtain ⟨fd, F⟩ := Z.f_RowReaderinit
  exact ⟨_, fd, ok_rdinit F Z.c_RowReader, Z.m_RowReaderinit, F.bindsN fun _ _ _ _ _ _ us hl => match us, hl with | [_, _, _], _ => rfl, Z.g_RowReader⟩
theorem Cz.o_upc (Z : Cz w K h mg) : Okm P w K mg base CX0 1 (He.ga K "RowReader") "upcoming" ["self"] (spUpc (He.ga K "RowReader")) := by
  obtain ⟨fd, F⟩ := Z.f_RowReaderupcoming
  exact ⟨_, fd, ok_upc F Z.c_RowReader Z.z_len, Z.m_RowReaderupcoming, F.bindsN fun _ _ _ _ _ _ us hl => match us, hl with | [_], _ => rfl, Z.c_RowReader.cl⟩
theorem Cz.o_next (Z : Cz w K h mg) : Okm P w K mg base CX0 1 (He.ga K "RowReader") "next_word" ["self", "can_stand"] (spNext (He.ga K "RowReader")) := by
  obtain ⟨fd, F⟩ := Z.f_RowReadernext_word
  exact ⟨_, fd, ok_next F Z.c_RowReader, Z.m_RowReadernext_word, F.bindsN fun _ _ _ _ _ _ us hl => match us, hl with | [_, _], _ => rfl, Z.c_RowReader.cl⟩
theorem Cz.o_nml (Z : Cz w K h mg) : Okm P w K mg base CX0 2 (He.ga K "RowReader") "numeral" ["self"] (spNml (He.ga K "RowReader")) := by
  obtain ⟨fd, F⟩ := Z.f_RowReadernumeral
  exact ⟨_, fd, ok_nml F Z.o_upc Z.o_next Z.o_numeralw Z.z_int, Z.m_RowReadernumeral, F.bindsN fun _ _ _ _ _ _ us hl => match us, hl with | [_], _ => rfl, Z.c_RowReader.cl⟩
theorem Cz.o_sign (Z : Cz w K h mg) : Okm P w K mg base CX0 2 (He.ga K "RowReader") "sign" ["self", "wanted"] (spSign (He.ga K "RowReader")) := by
  obtain ⟨fd, F⟩ := Z.f_RowReadersign
  exact ⟨_, fd, ok_sign F Z.o_upc Z.o_next, Z.m_RowReadersign, F.bindsN fun _ _ _ _ _ _ us hl => match us, hl with | [_, _], _ => rfl, Z.c_RowReader.cl⟩
theorem Cz.o_expr (Z : Cz w K h mg) : ∀ n, Okm P w K mg base CX0 (2 + n) (He.ga K "RowReader") "expression" ["self"] (spExpr (He.ga K "RowReader") n) := by
  obtain ⟨fd, F⟩ := Z.f_RowReaderexpression
  have b : Binds K fd ["self"] [] := F.bindsN fun _ _ _ _ _ _ us hl => match us, hl with | [_], _ => rfl
  intro n
  induction n with
  | zero =>
    refine ⟨_, fd, ok_never (fun vs H Q E h => ?_), Z.m_RowReaderexpression, b, Z.c_RowReader.cl⟩
    obtain ⟨a, dx, wl, row, p, ws, e, rest, _, _, _, _, h, _⟩ := h
    have := e.hgt_pos
    omega
  | succ n ih => exact ⟨_, fd, FnOk.mono (ok_expr F Z.c_RowReader (Z.o_upc.mono (by omega)) (Z.o_next.mono (by omega)) (Z.o_nml.mono (by omega)) (Z.o_sign.mono (by omega)) ih Z.g_NUMBERED Z.numT Z.g_LENGTHS Z.lenTb Z.z_tuple) (by omega), Z.m_RowReaderexpression, b, Z.c_RowReader.cl⟩
theorem Cz.o_ft (Z : Cz w K h mg) : Okm P w K mg base CX0 16 (He.ga K "RowReader") "function_told" ["self"] (spFT (He.ga K "RowReader")) := by
  obtain ⟨fd, F⟩ := Z.f_RowReaderfunction_told
  exact ⟨_, fd, ok_ft (k := 15) F Z.c_RowReader (Z.o_nml.mono (by omega)) (Z.o_expr 13) Z.z_len Z.z_tuple, Z.m_RowReaderfunction_told, F.bindsN fun _ _ _ _ _ _ us hl => match us, hl with | [_], _ => rfl, Z.c_RowReader.cl⟩
theorem Cz.o_read (Z : Cz w K h mg) : Okf P w K mg base CX0 32 "read" ["text"] spRead := by
  obtain ⟨fd, F⟩ := Z.f_read
  exact ⟨_, fd, ok_read (k := 30) F (Z.o_RowReader.mono (by omega)) (Z.o_ft.mono (by omega)) Z.o_fcs Z.z_enumerate Z.z_tuple, Z.g_read, F.kp, F.bindsN fun _ _ _ _ _ _ us hl => match us, hl with | [_], _ => rfl⟩
theorem Cz.o_alike (Z : Cz w K h mg) : ∀ n, Okf P w K mg base CX0 (n + 1) "_law_alike" ["_law_found", "_law_due"] (spAlike K n) := by
  obtain ⟨fd, F⟩ := Z.f__law_alike
  have b : Binds K fd ["_law_found", "_law_due"] [] := F.bindsN fun _ _ _ _ _ _ us hl => match us, hl with | [_, _], _ => rfl
  intro n
  induction n with
  | zero =>
    refine ⟨_, fd, ok_never (fun vs H Q E h => ?_), Z.g__law_alike, F.kp, b⟩
    obtain ⟨u, v, d, _, _, _, h, _⟩ := h
    have := d.hgt_pos
    omega
  | succ n ih => exact ⟨_, fd, ok_alike_step F ih Z.z_isinstance Z.z_tuple Z.z_list Z.z_len Z.z_range Z.z_bool Z.z_str Z.z_int, Z.g__law_alike, F.kp, b⟩
theorem Cz.std {x : Str} {st : Stmt} (e : ∃ fd, FnP K x st (He.ga K x) fd) (m : mg x = some (.ref (He.ga K x))) : Std K mg x st := by
  obtain ⟨fd, F⟩ := e
  exact ⟨_, fd, F, m⟩
theorem Cz.gen (Z : Cz w K h mg) : GenFacts K mg := ⟨Cz.std Z.f__law_taken Z.g__law_taken, Cz.std Z.f__law_parts Z.g__law_parts, Cz.std Z.f__law_size Z.g__law_size, Cz.std Z.f__law_within Z.g__law_within, Cz.std Z.f__law_leaf Z.g__law_leaf, Cz.std Z.f__law_number Z.g__law_number, Cz.std Z.f__law_bound Z.g__law_bound, Cz.std Z.f__law_any Z.g__law_any, Cz.std Z.f__law_tree Z.g__law_tree, Cz.std Z.f__law_face Z.g__law_face, Cz.std Z.f__law_body Z.g__law_body, Cz.std Z.f__law_program Z.g__law_program, Z.z_len, Z.z_range, Z.z_tuple, Z.z_dict, Z.z_int, Z.z_sorted, Z.z_sum, Z.z_max⟩
theorem Cz.o_law (Z : Cz w K h mg) : Okf P w K mg base CX0 59 "law" ["_law_script"] (spLaw K) := by
  obtain ⟨fd, F⟩ := Z.f_law
  exact ⟨_, fd, ok_law (k := 58) F ((okProgram Z.gen).mono (by omega)) (Z.o_text.mono (by omega)) (Z.o_read.mono (by omega)) (Z.o_written.mono (by omega)) Z.o_flat ((Z.o_alike 30).mono (by omega)) Z.z_range, Z.g_law, F.kp, F.bindsN fun _ _ _ _ _ _ us hl => match us, hl with | [_], _ => rfl⟩
end
end NR
set_option maxHeartbeats 0
namespace NR
open PySem PySem.Spec PyProof.Rows L2
theorem Cz.law_ok {P : Program} {w : World} {K : PySem.W.Frag} {mg : Str → Option Value} {h : Heap} (Z : Cz w K h mg) : ∃ fd : FuncData, (∀ (s : Shared) (v : Value), BindsTo s fd ⟨[v], []⟩ [("_law_script", v)]) ∧ ∀ base : Heap, FnOk P w K mg base CX0 59 (He.ga K "law") fd ["_law_script"] (spLaw K) := by
  obtain ⟨fd, F⟩ := Z.f_law
  have b := FunD.bindsA (ps := ["_law_script"]) F fun _ _ _ _ _ _ us hl => match us, hl with | [_], _ => rfl
  exact ⟨fd, fun s v => b s [v] rfl, fun base => ok_law (k := 58) F ((okProgram Z.gen).mono (by omega)) (Z.o_text.mono (by omega)) (Z.o_read.mono (by omega)) (Z.o_written.mono (by omega)) Z.o_flat ((Z.o_alike 30).mono (by omega)) Z.z_range⟩
end NR
open PySem PySem.W PySem.Calls PyProof.Rows
theorem PySem.Challenge.cw_nestrows_k13_written_and_read_holds : PySem.Challenge.rw_nestrows_k13_written_and_read.Holds := by
  w_on; o_law
  refine HandSHeadRun.head_any (r := OpenLaw.row PySem.Challenge.rw_nestrows_k13_written_and_read) (q := view (OpenLaw.row PySem.Challenge.rw_nestrows_k13_written_and_read).prog [84]) (H := NH.hk) (ob := NH.ob) (M := 12000) (loose := NH.names) (d := HandSHeadRun.topDef (OpenLaw.row PySem.Challenge.rw_nestrows_k13_written_and_read).prog 84) (kwd := []) NH.ob_eq
    (by kernel_rfl) (fun s => by kernel_rfl) NH.run (by kernel_rfl) (by kernel_rfl) (by kernel_rfl) (by rfl) (by first | assumption | decide +kernel) (by decide +kernel) ⟨rfl, rfl, rfl, rfl, rfl, by decide +kernel⟩ ?hw ?hc
  case hw => w_witness2
  case hc =>
    refine L2.walk_ofE (l := PySem.Challenge.rw_nestrows_k13_written_and_read) (n := 63) (k := 59) (x := "_law_script") (CX := L2.CX0) rfl (by decide) (by kernel_rfl) ⟨rfl, by decide, by decide⟩ ?F (fun _ _ _ _ z => z)
    intro w mg fa h Y G hmg0
    obtain ⟨K, KX, c⟩ := Y
    have Z : NR.Cz w K h mg := ⟨KX, G, c⟩
    have hmg : mg ("law" : PySem.Str) = some (.ref fa) := by
      have e : (HandSHeadRun.topDef (OpenLaw.row PySem.Challenge.rw_nestrows_k13_written_and_read).prog 84).name = ("law" : PySem.Str) := by kernel_rfl
      rw [← e]
      exact hmg0
    have e := hmg.symm.trans Z.g_law
    cases e
    obtain ⟨fd, hb, hF⟩ := Z.law_ok (P := (PySem.Challenge.rw_nestrows_k13_written_and_read).prog)
    exact ⟨K, fd, NR.spLaw K, KX, hb, fun H a ns hl _ hS => ⟨a, ns, rfl, hS, fun _ => rfl⟩, fun base _ _ => hF base⟩
