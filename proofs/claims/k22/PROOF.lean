import PyProof.Rows.All
import Wide.All
import OpenK.AllK
import Wide.FinOn
import KE.KStateDown
import HandS.Base
import HandS.Call
import HandS.Ends
import HandS.More
import HandS.Words
import HandS.WordsExc
import HandS.Defaults
import HandS.Head0
import HandS.Head1
import HandS.Head2
import HandS.HeadEnd
import HandS.HeadHook1
import HandS.HeadHook2
import HandS.HeadHook3
import HandS.HeadHook4
import HandS.ExcField
import HandS.ExcIs
import Lean
import HandS.ForMost
import HandS.Sort
import HandS.SortInts
import HandS.IsInst
import HandS.Walk
import KE.KDictPairs
import HandS.SetFor
import HandS.Strs
import KE.GoesMore
import HandS.Star
import HandS.DictComp
import HandS.CallLocal
import HandS.TupAny
import HandS.TryOnly
import HandS.Zip
import HandS.Text
import HandS.Nested
import HandS.ExcInit
import HandS.FStr
import KE.KExcSuper
import KE.KSuper
import HandS.Exc
import HandS.Lambda
import KE.KExcIs
import HandS.TupMul
import HandS.HeadWalk
import PySem.Challenge.RW_nestrows_k22_corners_told_by_hand
set_option Elab.async false
set_option linter.all false
set_option maxRecDepth 100000
set_option maxHeartbeats 4000000
namespace NH
open PySem PySem.Spec PyProof.Rows L2 He
/-! ### own errors whose __init__ is a def with the cell of its class -/
abbrev FnC : Type := Option (Str × Str × Arguments × FuncBody × Scope × Addr × Value × Value × Option Addr × Addr)
def fnC (K : PySem.W.Frag) (p : Str × Option Str) : FnC := match K.lookup (fAd K p) with
  | some ⟨_, _, .func fd, _⟩ => some (fd.name, fd.qualname, fd.params, fd.body, fd.scope, fd.globals, fd.defaults, fd.kwdefaults, fd.annotations, fd.builtins)
  | _ => none
def valC (d : FnD) : FnC := some (d.name, d.qual, d.params, .stmts d.body, d.scope, mainGlobals, .none, .none, none, builtinsNs)
def cellOf (K : PySem.W.Frag) (p : Str × Option Str) : Addr := match K.lookup (fAd K p) with
  | some ⟨_, _, .func fd, _⟩ => (match fd.closure with
    | [(_, cc)] => cc
    | _ => 0)
  | _ => 0
/-- the class over ValueError -/
def oclB (K : PySem.W.Frag) (C : Addr) : Bool := match K.lookup C with
  | some ⟨.type t, _, .cls cd, sl⟩ => decide (t = "type") && (match cd.mro, sl.toList with
    | .ref C' :: bm, [_, _, _, _, some (.builtin n), _] => decide (C' = C) && (decide (n = "ValueError.__new__") && (!cd.hasDel && (cd.hasDict && (PySem.HandSPX.refsVE bm && eqO (PySem.W.alongIn K "__init__" bm) (some (some (.builtin "ValueError.__init__")))))))
    | _, _ => false)
  | _ => false
/-- the def with the cell -/
def cellB (K : PySem.W.Frag) (p : Str × Option Str) (q file : Str) (C : Addr) : Bool := match K.lookup (fAd K p) with
  | some ⟨.type t, _, .func fd, _⟩ => decide (t = "function") && ((match fd.closure with
    | [(y, cc)] => decide (y = "__class__") && (match K.lookup cc with
      | some ⟨_, _, .cell (some (.ref C')), _⟩ => decide (C' = C)
      | _ => false)
    | _ => false) && (PySem.W.codeIn K fd.code q && (match fd.code with
      | .ref c => (match K.lookup c with
        | some ⟨_, _, .fields vs, _⟩ => (match (vs[2]? : Option Value) with
          | some (.str z _) => file == z
          | _ => false)
        | _ => false)
      | _ => false)))
  | _ => false
def errB (K : PySem.W.Frag) (x q file : Str) : Bool := oclB K (ga K x) && (cellB K (x, some "__init__") q file (ga K x) && (eqO (PySem.W.findIn K (.ref (ga K x)) "__setattr__") (some (some (.builtin "object.__setattr__"))) &&
  (decide (PySem.W.typeIn K (.ref (ga K x)) = some (.type "type")) && (PySem.W.keepIn K (.ref (ga K x)) && (L2.xfB K (ga K x) && (eqO (PySem.W.findIn K (.ref (ga K x)) "__class__") (some (some (.builtin "object.__class__"))) &&
  (eqO (PySem.W.specialIn K (.builtin "object.__class__") "__get__") (some (some (.builtin "getset_descriptor.__get__"))) && (decide (PySem.W.takesIn K (.builtin "object.__class__") = some true) && (decide (PySem.W.mroIn K (ga K x) (.type "object") = some true) &&
  (decide (PySem.W.mroIn K (ga K x) (.ref (ga K x)) = some true) && (decide (PySem.W.mroIn K (ga K x) (.type "ValueError") = some true) && (eqO (PySem.W.findIn K (.ref (ga K x)) "__init__") (some (some (.ref (fAd K (x, some "__init__"))))) &&
  (decide (PySem.W.typeIn K (.ref (fAd K (x, some "__init__"))) = some (.type "function")) && eqO (PySem.W.nsIn K cStatics "thirdparty.any") (some none))))))))))))))
/-! ### a Hook over a written list of places, with the defs' tables of code objects and such defs -/
section
variable (as : List Addr) (fa : List Fa) (fn : List DefD) (ts : List Tab) (tf : List Defn) (ex : PySem.W.Frag → Bool) (nf : List FnD)
abbrev AlY : Type := AlX × List FnC
def obsL (g : Addr → Option Obj) : AlY := ((obsT fa fn ts (frT g as), ex (frT g as) && tabsB g tf (frT g as)), nf.map fun d => fnC (frT g as) d.at_)
structure SaysY (w : World) (h : Heap) (K : PySem.W.Frag) : Prop where
  x : SaysX fa fn ts tf ex w h K
  c : nf.map (fun d => fnC K d.at_) = nf.map valC
theorem saysL {w : World} {h : Heap} (e : obsL as fa fn ts tf ex nf h.get? = (valX fn ts w, nf.map valC)) : SaysY fa fn ts tf ex nf w h (frT h.get? as) := by
  have e0 : (obsT fa fn ts (frT h.get? as), ex (frT h.get? as) && tabsB h.get? tf (frT h.get? as)) = valX fn ts w := congrArg (fun z : AlY => z.1) e
  have e1 : obsT fa fn ts (frT h.get? as) = valT fn ts w := congrArg (fun z : AlX => z.1) e0
  have e2 : (ex (frT h.get? as) && tabsB h.get? tf (frT h.get? as)) = true := congrArg (fun z : AlX => z.2) e0
  obtain ⟨h1, h2⟩ := ba e2
  have key : ∀ p ∈ tf, PySem.W.codeHdIn (frT h.get? as) (cT (frT h.get? as) p).1 (cT (frT h.get? as) p).2 = true ∧ ∃ o, h.get? (cT (frT h.get? as) p).2 = some o ∧ emptyTab o = true := fun p hp => by
    obtain ⟨h3, h4⟩ := ba (List.all_eq_true.mp h2 p hp)
    refine ⟨h3, ?_⟩
    cases q : h.get? (cT (frT h.get? as) p).2 with
    | none =>
      rw [q] at h4
      cases h4
    | some o =>
      rw [q] at h4
      exact ⟨o, rfl, h4⟩
  exact ⟨⟨e1, h1, fun p hp => (key p hp).1, fun p hp => by
    obtain ⟨_, o, q, z⟩ := key p hp
    exact frT_none q z, fun p hp => by
    obtain ⟨_, o, q, z⟩ := key p hp
    rw [q, emptyTab_eq z]⟩, congrArg (fun z : AlY => z.2) e⟩
def hookL : PySem.W.Hook where
  α := AlY
  obs := fun s => obsL as fa fn ts tf ex nf s.heap.get?
  val := fun w => (valX fn ts w, nf.map valC)
  says := fun w h => ∃ K : PySem.W.Frag, K.In h ∧ SaysY fa fn ts tf ex nf w h K
  of := fun _ _ e => ⟨_, frT_in, saysL as fa fn ts tf ex nf e⟩
  keeps := by
    rintro w h h' ⟨K, hK, c⟩ k
    exact ⟨K, PySem.W.Frag.In.keeps hK k, ⟨c.x.t, c.x.more, c.x.hd, c.x.out, fun p hp => k _ _ (c.x.empty p hp)⟩, c.c⟩
end
end NH
set_option maxHeartbeats 0
namespace NH
open PySem PySem.Spec PyProof.Rows L2

def top (i : Nat) : Stmt := PySem.Challenge.pw_nestrows_k22_corners_told_by_hand.main.body.getD i (.Pass ⟨0, 0, 0, 0⟩)
def dOf (x : Str) (i : Nat) : He.DefD := ⟨(x, none), x, x, defArgs (top i), defBody (top i), defScope (top i), [], []⟩
def dAs (y x : Str) (i : Nat) : He.DefD := ⟨(y, none), x, x, defArgs (top i), defBody (top i), defScope (top i), [], []⟩
def mOf (c m q : Str) (i j : Nat) : He.DefD := ⟨(c, some m), m, q, defArgs (inClass (top i) j), defBody (inClass (top i) j), defScope (inClass (top i) j), [], []⟩
def fnP0 : List He.DefD := [dOf "is_number" 9, dOf "of_num" 12, dOf "of_two_numbers" 13, dOf "of_if" 14, dOf "of_let" 15, dOf "of_upto" 16, dOf "of_len" 17, dOf "of_sum" 18]
def fnP1 : List He.DefD := [dOf "of_sums" 19, dOf "of_one" 20, dOf "of_pick" 21, dOf "of_put" 22, dOf "of_flat" 23, dOf "of_each" 24, dOf "of_where" 25, dOf "depth_of" 27]
def fnP2 : List He.DefD := [dOf "last_number" 35, dOf "has_shape" 36, dOf "number_of" 37, dOf "parts_of" 38, dOf "has_face" 43, dOf "is_param" 44, dOf "told_faces" 45, dOf "form_of" 46]
def fnP3 : List He.DefD := [dOf "faces" 47, dOf "is_numeral" 50, dOf "read" 52, dOf "_law_taken" 54, dOf "_law_kind" 55, dOf "_law_calls" 56, dOf "_law_names" 57, dOf "law" 58]
def fnP4 : List He.DefD := [mOf "Node" "__init__" "Node.__init__" 40 0, mOf "Form" "__init__" "Form.__init__" 41 0, mOf "Look" "__init__" "Look.__init__" 42 0, mOf "Look" "refuse_if" "Look.refuse_if" 42 1, mOf "Look" "node_of" "Look.node_of" 42 2, mOf "Look" "may_call" "Look.may_call" 42 3, mOf "Look" "parts_that_name" "Look.parts_that_name" 42 4, mOf "Look" "depth_told" "Look.depth_told" 42 5]
def fnP5 : List He.DefD := [mOf "RowReader" "__init__" "RowReader.__init__" 51 0, mOf "RowReader" "upcoming" "RowReader.upcoming" 51 1, mOf "RowReader" "next_word" "RowReader.next_word" 51 2, mOf "RowReader" "numeral" "RowReader.numeral" 51 3, mOf "RowReader" "sign" "RowReader.sign" 51 4, mOf "RowReader" "function_told" "RowReader.function_told" 51 5, mOf "RowReader" "expression" "RowReader.expression" 51 6]
def fn : List He.DefD := fnP0 ++ fnP1 ++ fnP2 ++ fnP3 ++ fnP4 ++ fnP5
def faP0 : List He.Fa := [.free "len", .free "range", .free "tuple", .free "list", .free "dict", .free "int", .free "isinstance", .free "str", .free "bool", .free "set"]
def faP1 : List He.Fa := [.free "all", .free "enumerate", .glo "is_number", .glo "of_num", .glo "of_two_numbers", .glo "of_if", .glo "of_let", .glo "of_upto", .glo "of_len", .glo "of_sum"]
def faP2 : List He.Fa := [.glo "of_sums", .glo "of_one", .glo "of_pick", .glo "of_put", .glo "of_flat", .glo "of_each", .glo "of_where", .glo "depth_of", .glo "last_number", .glo "has_shape"]
def faP3 : List He.Fa := [.glo "number_of", .glo "parts_of", .glo "has_face", .glo "is_param", .glo "told_faces", .glo "form_of", .glo "faces", .glo "is_numeral", .glo "read", .glo "_law_taken"]
def faP4 : List He.Fa := [.glo "_law_kind", .glo "_law_calls", .glo "_law_names", .glo "law", .glo "Node", .glo "Form", .glo "Look", .glo "RowReader", .glo "RULES", .glo "LENGTHS"]
def faP5 : List He.Fa := [.glo "NUMBERED", .int "LAST_NUMBER" (10006), .int "MOST_DEPTH" (3), .int "MOST_FUNCTIONS" (6), .int "MOST_PARAMS" (4), .int "LAST_NAME" (19), .int "LAST_PLACE" (59), .int "MOST_WITHIN" (12), .int "NO_DEPTH" (-1), .int "MOST_FIGURES" (5)]
def faP6 : List He.Fa := [.cls "Node", .mkr "Node", .noat "Node" "word", .noat "Node" "function", .noat "Node" "place", .noat "Node" "number", .noat "Node" "parts", .noat "Node" "depth", .cls "Form", .mkr "Form"]
def faP7 : List He.Fa := [.noat "Form" "names", .noat "Form" "depths", .noat "Form" "body", .cls "Look", .mkr "Look", .noat "Look" "known", .noat "Look" "function", .noat "Look" "looked_at", .noat "Look" "calls_itself", .meth "Look" "refuse_if"]
def faP8 : List He.Fa := [.meth "Look" "node_of", .meth "Look" "may_call", .meth "Look" "parts_that_name", .meth "Look" "depth_told", .cls "RowReader", .mkr "RowReader", .noat "RowReader" "row", .noat "RowReader" "words", .noat "RowReader" "place", .meth "RowReader" "upcoming"]
def faP9 : List He.Fa := [.meth "RowReader" "next_word", .meth "RowReader" "numeral", .meth "RowReader" "sign", .meth "RowReader" "function_told", .meth "RowReader" "expression", .glo "BadProgram", .noat "BadProgram" "function", .noat "BadProgram" "place", .noat "BadProgram" "word", .glo "BadText"]
def faP10 : List He.Fa := [.noat "BadText" "row", .noat "BadText" "place", .free "super", .glo "NestError", .exm "BadProgram" "NestError" true, .exm "BadText" "NestError" true]
def fa : List He.Fa := faP0 ++ faP1 ++ faP2 ++ faP3 ++ faP4 ++ faP5 ++ faP6 ++ faP7 ++ faP8 ++ faP9 ++ faP10
def nmP0 : List PySem.Str := ["DIVISOR", "LAST_NUMBER", "MOST_DEPTH", "MOST_FUNCTIONS", "MOST_PARAMS", "LAST_NAME", "LAST_PLACE", "MOST_WITHIN", "is_number", "NO_DEPTH", "of_num", "of_two_numbers"]
def nmP1 : List PySem.Str := ["of_if", "of_let", "of_upto", "of_len", "of_sum", "of_sums", "of_one", "of_pick", "of_put", "of_flat", "of_each", "of_where"]
def nmP2 : List PySem.Str := ["RULES", "depth_of", "NestError", "BadProgram", "BadText", "LENGTHS", "NUMBERED", "last_number", "has_shape", "number_of", "parts_of", "Node"]
def nmP3 : List PySem.Str := ["Form", "Look", "has_face", "is_param", "told_faces", "form_of", "faces", "MOST_FIGURES", "is_numeral", "RowReader", "read", "_law_taken"]
def nmP4 : List PySem.Str := ["_law_kind", "_law_calls", "_law_names"]
def names : List PySem.Str := nmP0 ++ nmP1 ++ nmP2 ++ nmP3 ++ nmP4
def tRules : List (Str × He.Dv) := [("num", .glo "of_num"), ("plus", .glo "of_two_numbers"), ("minus", .glo "of_two_numbers"), ("times", .glo "of_two_numbers"), ("less", .glo "of_two_numbers"), ("same", .glo "of_two_numbers"), ("if", .glo "of_if"), ("let", .glo "of_let"), ("upto", .glo "of_upto"), ("len", .glo "of_len"), ("sum", .glo "of_sum"), ("sums", .glo "of_sums"), ("one", .glo "of_one"), ("pick", .glo "of_pick"), ("put", .glo "of_put"), ("flat", .glo "of_flat"), ("each", .glo "of_each"), ("where", .glo "of_where")]
def kRules : List Str := ["num", "plus", "minus", "times", "less", "same", "if", "let", "upto", "len", "sum", "sums", "one", "pick", "put", "flat", "each", "where"]
def tLengths : List (Str × He.Dv) := [("num", .int 2), ("name", .int 2), ("plus", .int 3), ("minus", .int 3), ("times", .int 3), ("less", .int 3), ("same", .int 3), ("if", .int 4), ("let", .int 4), ("upto", .int 2), ("len", .int 2), ("sum", .int 2), ("sums", .int 2), ("one", .int 2), ("pick", .int 3), ("put", .int 3), ("flat", .int 2), ("each", .int 4), ("where", .int 4), ("call", .int 3)]
def kLengths : List Str := ["num", "name", "plus", "minus", "times", "less", "same", "if", "let", "upto", "len", "sum", "sums", "one", "pick", "put", "flat", "each", "where", "call"]
def uNumbered : List He.Dv := [.str "num", .str "name", .str "let", .str "each", .str "where", .str "call"]
def tsT : List He.Tab := [(fun K => He.ga K "RULES", kRules), (fun K => He.ga K "LENGTHS", kLengths)]
def exB (K : PySem.W.Frag) : Bool := errB K "BadProgram" "BadProgram.__init__" PySem.Challenge.pw_nestrows_k22_corners_told_by_hand.main.file && (errB K "BadText" "BadText.__init__" PySem.Challenge.pw_nestrows_k22_corners_told_by_hand.main.file && (decide (PySem.W.kitOne K (.ref (He.ga K "BadProgram")) (.ref (He.ga K "BadProgram")) = some true) && (decide (PySem.W.kitOne K (.ref (He.ga K "BadText")) (.ref (He.ga K "BadProgram")) = some false) && (decide (PySem.W.kitOne K (.ref (He.ga K "BadText")) (.ref (He.ga K "BadText")) = some true) && (decide ((He.cT K ("_law_names", none)).2 ≠ (He.cT K ("_law_calls", none)).2) && (decide ((He.cT K ("law", none)).2 ≠ (He.cT K ("_law_calls", none)).2) && (decide ((He.cT K ("law", none)).2 ≠ (He.cT K ("_law_names", none)).2) && (He.valsB K (He.ga K "RULES") tRules && (He.valsB K (He.ga K "LENGTHS") tLengths && (He.tupB K "NUMBERED" uNumbered))))))))))
def tfT : List He.Defn := [("_law_calls", none), ("_law_names", none), ("law", none)]
def nfT : List He.FnD := [⟨("BadProgram", some "__init__"), "__init__", "BadProgram.__init__", defArgs (inClass (top 30) 0), defBody (inClass (top 30) 0), defScope (inClass (top 30) 0)⟩, ⟨("BadText", some "__init__"), "__init__", "BadText.__init__", defArgs (inClass (top 31) 0), defBody (inClass (top 31) 0), defScope (inClass (top 31) 0)⟩]
def asP0 : List Addr := [3, 21, 28, 35, 42, 49, 56, 63, 70, 77, 84, 91, 98, 105, 112, 119, 120, 128, 138, 160, 181, 184, 186, 193, 200, 207, 214, 231, 252, 304, 313, 320, 325, 330, 337, 344, 403, 412, 419, 426]
def asP1 : List Addr := [431, 438, 445, 20, 27, 34, 41, 48, 55, 62, 69, 76, 83, 90, 97, 104, 111, 118, 127, 137, 159, 180, 192, 199, 206, 213, 230, 251, 303, 312, 319, 324, 329, 336, 343, 402, 411, 418, 425, 430]
def asP2 : List Addr := [437, 444, 157, 178, 228, 249, 270, 277, 282, 289, 296, 301, 358, 365, 372, 379, 386, 393, 400, 156, 145, 177, 166, 227, 248, 269, 276, 281, 288, 295, 300, 357, 364, 371, 378, 385, 392, 399, 2]
def as : List Addr := asP0 ++ asP1 ++ asP2
abbrev R : PySem.W.OpenRow := PySem.W.OpenLaw.row PySem.Challenge.rw_nestrows_k22_corners_told_by_hand
abbrev hk : PySem.W.Hook := hookL as fa fn tsT tfT exB nfT
def ob (s : PySem.W.SharedT) : AlY := obsL as fa fn tsT tfT exB nfT (HandSHeadRun.getT s)
theorem ob_eq (s : PySem.W.SharedT) : ob s = hk.obs s.abs := by
  show obsL as fa fn tsT tfT exB nfT (HandSHeadRun.getT s) = obsL as fa fn tsT tfT exB nfT s.abs.heap.get?
  rw [show HandSHeadRun.getT s = s.abs.heap.get? from funext (HandSHeadRun.getT_eq s)]
end NH
set_option maxHeartbeats 0
namespace NH
open PySem PySem.Spec PyProof.Rows L2
theorem runF (w : World) : HandSHeadRun.RunEq R (PySem.W.view R.prog [58]) hk ob 12000 names (w.withFollow "special-get-raises" false) := by
  intro os
  kernel_rfl
theorem runT (w : World) : HandSHeadRun.RunEq R (PySem.W.view R.prog [58]) hk ob 12000 names (w.withFollow "special-get-raises" true) := by
  intro os
  kernel_rfl
theorem run (w : World) : HandSHeadRun.RunEq R (PySem.W.view R.prog [58]) hk ob 12000 names w := PySem.W.byRow2 "special-get-raises" (P := fun w => HandSHeadRun.RunEq R (PySem.W.view R.prog [58]) hk ob 12000 names w) runF runT w
end NH
set_option maxHeartbeats 4000000
namespace NR
open PySem PySem.Spec PyProof.Rows L2
abbrev FnP (K : PySem.W.Frag) (x : Str) (st : Stmt) (f : Addr) (fd : FuncData) : Prop := FunD K x x (defArgs st) (defBody st) (defScope st) [] [] f fd
/-- an own def by its name: it keeps its promise -/
structure Okf (P : Program) (w : World) (K : PySem.W.Frag) (mg : Str → Option Value) (base : Heap) (CX : CXT) (k : Nat) (x : Str) (ps : List Str) (sp : Sp) : Prop where
  ex : ∃ f fd, FnOk P w K mg base CX k f fd ps sp ∧ mg x = some (.ref f) ∧ PySem.W.keepIn K (.ref f) = true ∧ Binds K fd ps []
theorem Okf.mono {P w K mg base CX j k x ps sp} (O : Okf P w K mg base CX j x ps sp) (h : j ≤ k) : Okf P w K mg base CX k x ps sp := by
  obtain ⟨f, fd, F, r⟩ := O.ex
  exact ⟨f, fd, F.mono h, r⟩
section
variable {X : Cx} {CX : CXT} {k : Nat} {x : Str} {ps : List Str} {sp : Sp} {E : XK} {e : Expr} {es : List Expr} {t : TA} {p pos : Pos}
theorem pe_c (O : Okf X.prog X.w X.K X.mg X.base CX k x ps sp) (hr : Room k X.A) (hg : Gl X x) (hx : Passes CX X E)
    (ha : PA X (e :: es) t) (hdb : (x == ("__debug__" : Str)) = false := by decide) (he : starEach (e :: es) X.env = (false, eval e X.env) :: starEach es X.env := by rfl) (hpl : (backTo pos (starEach es X.env)).any (·.1) = false := by rfl) :
    PE X (.Call (.Name x p) (e :: es) [] pos) (tCall sp [] E t) := by
  obtain ⟨f, fd, F, hm, hk, hb⟩ := O.ex
  exact pe_call F hr hg hm hk hb .nil hx ha hdb he hpl
end
/-! ### the rules with the written part told -/
section
variable {X : Cx} (K : PySem.W.Frag)
theorem ix_listK (h : X.K = K := by rfl) : IxR X (rIxL K) := h ▸ ix_list
theorem ix_tupK (h : X.K = K := by rfl) : IxR X (rIxT K) := h ▸ ix_tup
theorem sl_listK (h : X.K = K := by rfl) : SlR X (rSlL K) := h ▸ sl_list
theorem sl_tupK (h : X.K = K := by rfl) : SlR X (rSlT K) := h ▸ sl_tup
def rLen (K : PySem.W.Frag) : List V → Hp → VK → Prop := fun xs H Q => ∃ p ys, xs = [.ref p] ∧ (SqL K H p ys ∨ SqT K H p ys) ∧ Q (.int ys.length) H
theorem call_lenK (h : X.K = K := by rfl) : CallR X (.builtin "len") (rLen K) := h ▸ call_len_seq
def rListOf (K : PySem.W.Frag) : List V → Hp → VK → Prop := fun xs H Q => ∃ p ys, xs = [.ref p] ∧ (SqL K H p ys ∨ SqT K H p ys) ∧ ∀ l, H l = none → Q (.ref l) (upd H l (.lst ys))
theorem call_listK (h : X.K = K := by rfl) : CallR X (.type "list") (rListOf K) := h ▸ call_list_of
def rTupleOf (K : PySem.W.Frag) : List V → Hp → VK → Prop := fun xs H Q => ∃ p ys, xs = [.ref p] ∧ ((SqL K H p ys ∧ ∀ l, H l = none → Q (.ref l) (upd H l (.tup ys))) ∨ (SqT K H p ys ∧ Q (.ref p) H))
theorem call_tupleK (h : X.K = K := by rfl) : CallR X (.type "tuple") (rTupleOf K) := h ▸ call_tuple_of
theorem op_inK (h : X.K = K := by rfl) : OpR X (compareOp .In) (rIn K false) := h ▸ op_in_seq
theorem op_notInK (h : X.K = K := by rfl) : OpR X (compareOp .NotIn) (rIn K true) := h ▸ op_notIn_seq
theorem op_eqDK (hu : X.A.units + 64 < cLine) (h : X.K = K := by rfl) : OpR X (compareOp .Eq) (rEqD K) := h ▸ op_eqD hu
theorem op_neDK (hu : X.A.units + 64 < cLine) (h : X.K = K := by rfl) : OpR X (compareOp .NotEq) (rNeD K) := h ▸ op_neD hu
theorem op_catTK (h : X.K = K := by rfl) : OpR X (binaryOp .Add) (rCatT K) := h ▸ op_catT
theorem cr_sortedK (h : X.K = K := by rfl) : CallR X (.builtin "sorted") (rSorted K) := h ▸ cr_sorted
theorem pi_listK {tg l : Expr} {tl : TE} (hl : PE X l tl) (h : X.K = K := by rfl) : PI X tg l (iList K tl) := h ▸ pi_list hl
theorem pi_tupK {tg l : Expr} {tl : TE} (hl : PE X l tl) (h : X.K = K := by rfl) : PI X tg l (iTup K tl) := h ▸ pi_tup hl
theorem pe_fldK {e : Expr} {ta : TE} {f : Str} {pos : Pos} (he : PE X e ta) (hb : attributeBase e f X.env (eval e X.env) = eval e X.env) (h : X.K = K := by rfl) : PE X (.Attribute e f pos) (tFld K ta f) := h ▸ pe_fld he hb
end
/-- all but what stands at r stays -/
def SameX (r : Addr) (H H' : Hp) : Prop := ∀ b o, b ≠ r → H b = some o → H' b = some o
theorem SameX.refl (r : Addr) (H : Hp) : SameX r H H := fun _ _ _ h => h
theorem SameX.trans {r : Addr} {H H1 H2 : Hp} (a : SameX r H H1) (b : SameX r H1 H2) : SameX r H H2 := fun c o n h => b c o n (a c o n h)
theorem SameX.upd {r : Addr} {H : Hp} {o : HO} : SameX r H (upd H r o) := fun b u n h => by rw [upd_ne n]; exact h
theorem SameX.new {r p : Addr} {H : Hp} {o : HO} (h : H p = none) : SameX r H (L2.upd H p o) := fun b u n q => by rw [upd_ne (ne_of_none q h)]; exact q
theorem Same.toX {r : Addr} {H H' : Hp} (h : Same H H') : SameX r H H' := fun b o _ q => h b o q
theorem same_new {H : Hp} {p : Addr} (h : H p = none) (o : HO) : Same H (upd H p o) := fun b u q => by rw [upd_ne (ne_of_none q h)]; exact q
/-- where the drawing's list stands, where the script does, the script -/
structure RD where
  r : Addr
  a : Addr
  ns : List Int
instance : CoeOut RD Addr := ⟨RD.r⟩
/-- the script lies apart from the row (or in the written part, where nothing changes) -/
def Apt (K : PySem.W.Frag) (r : RD) : Prop := r.a ≠ r.r ∨ ∀ H, SqL K H r.a (r.ns.map V.int)
/-- the state of the drawing: a list of the script, how many cells are taken, what is mixed, what is left -/
structure Draw (K : PySem.W.Frag) (r : RD) (H : Hp) : Prop where
  ex : ∃ (p x l : Int), H r.r = some (.lst [.ref r.a, .int p, .int x, .int l]) ∧ SqL K H r.a (r.ns.map V.int) ∧ Apt K r ∧ 0 ≤ p ∧ 0 ≤ x ∧ 0 ≤ l
theorem sqL_X {K : PySem.W.Frag} {r a : Addr} {H H' : Hp} {xs : List V} (e : SameX r H H') (n : a ≠ r) (h : SqL K H a xs) : SqL K H' a xs := by
  rcases h with (h | ⟨o, h⟩) | h
  · exact .inl (.inl (e _ _ n h))
  · exact .inl (.inr ⟨o, e _ _ n h⟩)
  · exact .inr h
theorem Apt.sq {K : PySem.W.Frag} {r : RD} {H H' : Hp} (n : Apt K r) (e : SameX r.r H H') (S : SqL K H r.a (r.ns.map V.int)) : SqL K H' r.a (r.ns.map V.int) := by
  rcases n with n | n
  · exact sqL_X e n S
  · exact n H'
/-- behind drawing -/
structure Drawn (K : PySem.W.Frag) (r : RD) (H H' : Hp) : Prop where
  d : Draw K r H'
  s : SameX r.r H H'
section
variable {K : PySem.W.Frag} {r : RD} {H H1 H2 H' : Hp}
theorem Drawn.trans (a : Drawn K r H H1) (b : Drawn K r H1 H2) : Drawn K r H H2 := ⟨b.d, a.s.trans b.s⟩
theorem Drawn.refl (d : Draw K r H) : Drawn K r H H := ⟨d, .refl _ _⟩
theorem Draw.ref (d : Draw K r H) : ∃ o, H r.r = some o := by
  obtain ⟨p, x, l, h, _⟩ := d.ex
  exact ⟨_, h⟩
theorem Drawn.new {q : Addr} {o : HO} (d : Draw K r H) (h : H q = none) : Drawn K r H (upd H q o) := by
  obtain ⟨p, x, l, e, S, rest⟩ := d.ex
  exact ⟨⟨p, x, l, by rw [upd_ne (ne_of_none e h)]; exact e, (same_new h o).seq S, rest⟩, .new h⟩
/-- a state that any list of the right sort is -/
theorem Draw.put {p x l : Int} (S : SqL K H r.a (r.ns.map V.int)) (n : Apt K r) (e : SameX r.r H H') (h : H' r.r = some (.lst [.ref r.a, .int p, .int x, .int l])) (hp : 0 ≤ p) (hx : 0 ≤ x) (hl : 0 ≤ l) : Drawn K r H H' :=
  ⟨⟨p, x, l, h, n.sq e S, n, hp, hx, hl⟩, e⟩
/-- what was made since may change -/
theorem Drawn.put {D : Addr} {o : HO} (g : Drawn K r H H') (d : Draw K r H) (h : H D = none) : Drawn K r H (upd H' D o) := by
  obtain ⟨p0, x0, l0, e0, S0, n0, _⟩ := d.ex
  obtain ⟨p, x, l, e, S, n, rest⟩ := g.d.ex
  have nr : r.r ≠ D := ne_of_none e0 h
  refine ⟨⟨p, x, l, by rw [upd_ne nr]; exact e, ?_, n, rest⟩, fun b u nb hb => ?_⟩
  · rcases n with n | n
    · rcases S0 with (q | ⟨o, q⟩) | q
      · exact .inl (.inl ((upd_ne (ne_of_none q h)).trans (g.s _ _ n q)))
      · exact .inl (.inr ⟨o, (upd_ne (ne_of_none q h)).trans (g.s _ _ n q)⟩)
      · exact .inr q
    · exact n _
  · rw [upd_ne (ne_of_none hb h)]
    exact g.s b u nb hb
end
def spTaken (K : PySem.W.Frag) : Sp := fun vs H Q _ => ∃ (r : RD) (m : Int), vs = [.ref r.r, .int m] ∧ Draw K r H ∧ 0 < m ∧ m < 1073741824 ∧
  ∀ (k : Int) (H' : Hp), 0 ≤ k → k < m → Drawn K r H H' → Q (.int k) H'
end NR
set_option maxHeartbeats 4000000
namespace NR
open PySem PySem.Spec PyProof.Rows L2
def top (i : Nat) : Stmt := PySem.Challenge.pw_nestrows_k22_corners_told_by_hand.main.body.getD i (.Pass ⟨0, 0, 0, 0⟩)
abbrev sLawTaken : Stmt := top 54
theorem scTaken : FnScope ["_law_row", "_law_many", "_law_found", "_law_cell"] ["_law_row", "_law_many"] (defScope sLawTaken) := ⟨rfl, rfl, rfl, by decide +kernel, rfl, by decide +kernel, by decide +kernel⟩
section
variable {P : Program} {w : World} {K : PySem.W.Frag} {mg : Str → Option Value} {base : Heap} {f : Addr} {fd : FuncData}
theorem ok_taken (F : FnP K "_law_taken" sLawTaken f fd) (z_len : mg "len" = none) : FnOk P w K mg base CX0 1 f fd ["_law_row", "_law_many"] (spTaken K) := by
  have sc := scTaken
  refine F.ok sc (fun vs H Q E h => ?_) (fun cdv A outer s H vs Q E hr h => ?_)
  · obtain ⟨r, m, rfl, _⟩ := h
    rfl
  obtain ⟨r, m, rfl, d, m0, m1, q⟩ := h
  refine ⟨_, (pss_cons (ps_if (pt_cmpR op_gt (pe_ix ix_list (pv 0) pe_int (fun _ _ => rfl)) pe_int (nomark _)) (pss_cons (ps_set (i := 2) sc.nd rfl (.inl rfl) (pe_op op_mod (pe_ix ix_list (pv 0) pe_int (fun _ _ => rfl)) (pv 1)))
    (pss_cons (ps_asg (pe_op op_fdiv (pe_ix ix_list (pv 0) pe_int (fun _ _ => rfl)) (pv 1)) (pg_sub (pv 0) pe_int set_list))
    (pss_one (ps_ret (pv 2))))) pss_nil)
    (pss_cons (ps_asg (pe_op op_add (pe_ix ix_list (pv 0) pe_int (fun _ _ => rfl)) pe_int) (pg_sub (pv 0) pe_int set_list))
    (pss_cons (ps_if (pt_cmpR op_gt (pe_ix ix_list (pv 0) pe_int (fun _ _ => rfl)) (pe_callB call_len_seq rfl z_len PySem.boot_len (pa_cons (pe_ix ix_list (pv 0) pe_int (fun _ _ => rfl)) pa_nil)) (nomark _)) (pss_cons (ps_asg (pe_op op_mod (pe_op op_add (pe_op op_mul (pe_ix ix_list (pv 0) pe_int (fun _ _ => rfl)) pe_int) pe_int) pe_int) (pg_sub (pv 0) pe_int set_list))
    (pss_one (ps_ret (pe_op op_mod (pe_op op_fdiv (pe_ix ix_list (pv 0) pe_int (fun _ _ => rfl)) pe_int) (pv 1))))) pss_nil)
    (pss_cons (ps_set (i := 3) sc.nd rfl (.inl rfl) (pe_ix ix_list (pe_ix ix_list (pv 0) pe_int (fun _ _ => rfl)) (pe_op op_sub (pe_ix ix_list (pv 0) pe_int (fun _ _ => rfl)) pe_int) (fun _ _ => rfl)))
    (pss_cons (ps_asg (pe_op op_mod (pe_op op_add (pe_op op_add (pe_op op_mul (pe_ix ix_list (pv 0) pe_int (fun _ _ => rfl)) pe_int) (pv 3)) pe_int) pe_int) (pg_sub (pv 0) pe_int set_list))
    (pss_cons (ps_asg (pe_ifExp (pt_cmpR op_ge (pv 3) (pe_op op_pow pe_int pe_int) (nomark _)) (pe_op op_fdiv (pv 3) (pv 1)) pe_int) (pg_sub (pv 0) pe_int set_list))
    (pss_one (ps_ret (pe_op op_mod (pv 3) (pv 1)))))))))), ?_⟩
  obtain ⟨p, x, l, er, S, nr, hp, hx, hl⟩ := d.ex
  obtain ⟨r, a, ns⟩ := r
  change H r = _ at er
  change Apt K ⟨r, a, ns⟩ at nr
  change SqL K H a (ns.map V.int) at S
  refine ⟨_, rfl, _, _, _, _, rfl, rfl, SqL.of er, rfl, _, _, rfl, rfl, _, rfl, ?_⟩
  refine ite2 (fun c => ?_) (fun c => ?_)
  · have c' : 0 < l := of_decide_eq_true c
    refine ⟨_, rfl, _, _, _, _, rfl, rfl, SqL.of er, rfl, _, rfl, _, _, rfl, rfl, m0, ?_⟩
    refine ⟨_, rfl, _, _, _, _, rfl, rfl, SqL.of er, rfl, _, rfl, _, _, rfl, rfl, ⟨m0, m1⟩, _, rfl, _, _, _, _, rfl, rfl, er, rfl, ?_⟩
    refine ⟨_, rfl, ?_⟩
    exact q _ _ (Int.emod_nonneg _ (by omega)) (Int.emod_lt_of_pos _ m0) (Draw.put S nr .upd upd_same hp hx (Int.ediv_nonneg hl (by omega)))
  · have c' : ¬ 0 < l := fun z => c (decide_eq_true z)
    refine ⟨_, rfl, _, _, _, _, rfl, rfl, SqL.of er, rfl, _, _, rfl, rfl, _, rfl, _, _, _, _, rfl, rfl, er, rfl, ?_⟩
    have S1 : SqL K (upd H r (.lst [.ref a, .int (p + 1), .int x, .int l])) a (ns.map V.int) := nr.sq (r := ⟨r, a, ns⟩) (H := H) .upd S
    have hl' : (ns.map V.int).length = ns.length := List.length_map _
    refine ⟨_, rfl, _, _, _, _, rfl, rfl, SqL.of upd_same, rfl, _, rfl, _, _, _, _, rfl, rfl, SqL.of upd_same, rfl, a, _, rfl, .inl S1, _, _, rfl, rfl, _, rfl, ?_⟩
    rw [hl']
    refine ite2 (fun c => ?_) (fun c => ?_)
    · refine ⟨_, rfl, _, _, _, _, rfl, rfl, SqL.of upd_same, rfl, _, _, rfl, rfl, .inr ⟨by decide, by decide⟩, _, _, rfl, rfl, _, _, rfl, rfl, (show (0 : Int) < 2147483647 by decide), _, rfl, _, _, _, _, rfl, rfl, upd_same, rfl, ?_⟩
      rw [upd_upd]
      refine ⟨_, rfl, _, _, _, _, rfl, rfl, SqL.of upd_same, rfl, _, _, rfl, rfl, ⟨by decide, by decide⟩, _, rfl, _, _, rfl, rfl, m0, ?_⟩
      exact q _ _ (Int.emod_nonneg _ (by omega)) (Int.emod_lt_of_pos _ m0) (Draw.put S nr .upd upd_same (by omega) (Int.emod_nonneg _ (by decide)) hl)
    · have c2 : ¬ ((ns.length : Int) < p + 1) := fun z => c (decide_eq_true z)
      have hk : p.toNat < ns.length := by omega
      have ek : p + 1 - 1 = ((p.toNat : Nat) : Int) := by omega
      have ev : atI (ns.map V.int) (p + 1 - 1) = some (.int ns[p.toNat]) := by
        rw [ek]
        exact atI_nat (by rw [List.getElem?_map, List.getElem?_eq_getElem hk]; rfl)
      refine ⟨_, rfl, _, _, _, _, rfl, rfl, SqL.of upd_same, rfl, _, rfl, _, _, _, _, rfl, rfl, SqL.of upd_same, rfl, _, _, rfl, rfl, _, _, _, _, rfl, rfl, S1, ev, ?_⟩
      refine ⟨_, rfl, _, _, _, _, rfl, rfl, SqL.of upd_same, rfl, _, _, rfl, rfl, .inr ⟨by decide, by decide⟩, _, rfl, _, _, rfl, rfl, _, _, rfl, rfl, _, _, rfl, rfl, (show (0 : Int) < 2147483647 by decide), _, rfl, _, _, _, _, rfl, rfl, upd_same, rfl, ?_⟩
      rw [upd_upd]
      refine ⟨_, rfl, _, _, rfl, rfl, ⟨by decide, by decide, by decide⟩, _, _, rfl, rfl, _, rfl, ?_⟩
      refine ite2 (fun c => ?_) (fun c => ?_)
      · have c3 : (10 : Int) ^ (18 : Int).toNat ≤ ns[p.toNat] := of_decide_eq_true c
        have c4 : (0 : Int) ≤ ns[p.toNat] := Int.le_trans (by decide) c3
        refine ⟨_, rfl, _, rfl, _, _, rfl, rfl, ⟨m0, m1⟩, _, rfl, _, _, _, _, rfl, rfl, upd_same, rfl, ?_⟩
        rw [upd_upd]
        refine ⟨_, rfl, _, rfl, _, _, rfl, rfl, m0, ?_⟩
        exact q _ _ (Int.emod_nonneg _ (by omega)) (Int.emod_lt_of_pos _ m0) (Draw.put S nr .upd upd_same (by omega) (Int.emod_nonneg _ (by decide)) (Int.ediv_nonneg c4 (by omega)))
      · refine ⟨_, rfl, _, _, _, _, rfl, rfl, upd_same, rfl, ?_⟩
        rw [upd_upd]
        refine ⟨_, rfl, _, rfl, _, _, rfl, rfl, m0, ?_⟩
        exact q _ _ (Int.emod_nonneg _ (by omega)) (Int.emod_lt_of_pos _ m0) (Draw.put S nr .upd upd_same (by omega) (Int.emod_nonneg _ (by decide)) (Int.le_refl 0))
end
end NR
set_option maxHeartbeats 4000000
namespace NR
open PySem PySem.Spec PyProof.Rows L2
/-! ### expressions -/
inductive W where
  | num | name | plus | minus | times | less | same | ite | elet | upto | len | sum | sums | one | pick | put | flat | each | whr | call
  deriving DecidableEq
def W.str : W → Str
  | .num => "num" | .name => "name" | .plus => "plus" | .minus => "minus" | .times => "times" | .less => "less" | .same => "same"
  | .ite => "if" | .elet => "let" | .upto => "upto" | .len => "len" | .sum => "sum" | .sums => "sums" | .one => "one"
  | .pick => "pick" | .put => "put" | .flat => "flat" | .each => "each" | .whr => "where" | .call => "call"
/-- 0: a number; 1: a number, parts; 2: a number, a tuple of parts; 3: parts -/
def W.lay : W → Nat
  | .num | .name => 0
  | .elet | .each | .whr => 1
  | .call => 2
  | _ => 3
inductive Ex where
  | node (w : W) (n : Int) (ps : List Ex)
mutual
def Ex.size : Ex → Nat
  | .node _ _ ps => 1 + sizes ps
def sizes : List Ex → Nat
  | [] => 0
  | e :: es => e.size + sizes es
end
mutual
def Ex.hgt : Ex → Nat
  | .node _ _ ps => 1 + hgts ps
def hgts : List Ex → Nat
  | [] => 0
  | e :: es => max e.hgt (hgts es)
end
theorem Ex.hgt_pos (e : Ex) : 0 < e.hgt := by
  cases e
  unfold Ex.hgt
  omega
/-! ### an expression in the heap -/
mutual
inductive TIn (H : Hp) : V → Ex → Prop
  | leaf {a : Addr} {w : W} {n : Int} : w.lay = 0 → H a = some (.tup [.str w.str, .int n]) → TIn H (.ref a) (.node w n [])
  | bind {a : Addr} {w : W} {n : Int} {xs : List V} {ps : List Ex} : w.lay = 1 → H a = some (.tup (.str w.str :: .int n :: xs)) → TIns H xs ps → TIn H (.ref a) (.node w n ps)
  | call {a b : Addr} {n : Int} {xs : List V} {ps : List Ex} : H a = some (.tup [.str W.call.str, .int n, .ref b]) → H b = some (.tup xs) → TIns H xs ps → TIn H (.ref a) (.node .call n ps)
  | bare {a : Addr} {w : W} {xs : List V} {ps : List Ex} : w.lay = 3 → H a = some (.tup (.str w.str :: xs)) → TIns H xs ps → TIn H (.ref a) (.node w (-1) ps)
inductive TIns (H : Hp) : List V → List Ex → Prop
  | nil : TIns H [] []
  | cons {v : V} {vs : List V} {e : Ex} {es : List Ex} : TIn H v e → TIns H vs es → TIns H (v :: vs) (e :: es)
end
/-- tuples stay -/
def TK (H H' : Hp) : Prop := ∀ b xs, H b = some (.tup xs) → H' b = some (.tup xs)
theorem TK.refl (H : Hp) : TK H H := fun _ _ h => h
theorem TK.trans {H H1 H2 : Hp} (a : TK H H1) (b : TK H1 H2) : TK H H2 := fun c xs h => b c xs (a c xs h)
theorem TK.of {H H' : Hp} (h : Same H H') : TK H H' := fun b xs q => h b _ q
mutual
theorem TIn.mono {H H' : Hp} (k : TK H H') : ∀ {v : V} {e : Ex}, TIn H v e → TIn H' v e
  | _, _, .leaf l h => .leaf l (k _ _ h)
  | _, _, .bind l h p => .bind l (k _ _ h) (TIns.mono k p)
  | _, _, .call h h' p => .call (k _ _ h) (k _ _ h') (TIns.mono k p)
  | _, _, .bare l h p => .bare l (k _ _ h) (TIns.mono k p)
theorem TIns.mono {H H' : Hp} (k : TK H H') : ∀ {vs : List V} {es : List Ex}, TIns H vs es → TIns H' vs es
  | _, _, .nil => .nil
  | _, _, .cons h p => .cons (TIn.mono k h) (TIns.mono k p)
end
theorem SameX.tk {r : Addr} {H H' : Hp} {xs : List V} (s : SameX r H H') (h : H r = some (.lst xs)) : TK H H' := fun b ys q => s b _ (ne_of q h (by intro z; cases z)) q
theorem Drawn.tk {K : PySem.W.Frag} {r : RD} {H H' : Hp} (g : Drawn K r H H') (d : Draw K r H) : TK H H' := by
  obtain ⟨p, x, l, h, _⟩ := d.ex
  exact g.s.tk h
/-! ### its depth -/
abbrev Env1 := Int → Option Nat
def ups (ρ : Env1) (x : Int) (d : Nat) : Env1 := fun y => if y = x then some d else ρ y
mutual
inductive Ty (fs : List (List Nat × Nat)) : Env1 → Ex → Nat → Prop
  | num {ρ : Env1} {n : Int} : 0 ≤ n → n ≤ 10006 → Ty fs ρ (.node .num n []) 0
  | name {ρ : Env1} {x : Int} {d : Nat} : 0 ≤ x → x ≤ 19 → ρ x = some d → d ≤ 3 → Ty fs ρ (.node .name x []) d
  | two {ρ : Env1} {w : W} {a b : Ex} : (w = .plus ∨ w = .minus ∨ w = .times ∨ w = .less ∨ w = .same) → Ty fs ρ a 0 → Ty fs ρ b 0 → Ty fs ρ (.node w (-1) [a, b]) 0
  | ite {ρ : Env1} {c a b : Ex} {d : Nat} : Ty fs ρ c 0 → Ty fs ρ a d → Ty fs ρ b d → Ty fs ρ (.node .ite (-1) [c, a, b]) d
  | elet {ρ : Env1} {x : Int} {a b : Ex} {d1 d : Nat} : 0 ≤ x → x ≤ 19 → Ty fs ρ a d1 → Ty fs (ups ρ x d1) b d → Ty fs ρ (.node .elet x [a, b]) d
  | upto {ρ : Env1} {a : Ex} : Ty fs ρ a 0 → Ty fs ρ (.node .upto (-1) [a]) 1
  | len {ρ : Env1} {a : Ex} {d : Nat} : Ty fs ρ a (d + 1) → Ty fs ρ (.node .len (-1) [a]) 0
  | sum {ρ : Env1} {a : Ex} : Ty fs ρ a 1 → Ty fs ρ (.node .sum (-1) [a]) 0
  | sums {ρ : Env1} {a : Ex} : Ty fs ρ a 1 → Ty fs ρ (.node .sums (-1) [a]) 1
  | one {ρ : Env1} {a : Ex} {d : Nat} : Ty fs ρ a d → d < 3 → Ty fs ρ (.node .one (-1) [a]) (d + 1)
  | pick {ρ : Env1} {a b : Ex} {d : Nat} : Ty fs ρ a (d + 1) → Ty fs ρ b 0 → Ty fs ρ (.node .pick (-1) [a, b]) d
  | put {ρ : Env1} {a b : Ex} {d : Nat} : Ty fs ρ a (d + 1) → Ty fs ρ b (d + 1) → Ty fs ρ (.node .put (-1) [a, b]) (d + 1)
  | flat {ρ : Env1} {a : Ex} {d : Nat} : Ty fs ρ a (d + 2) → Ty fs ρ (.node .flat (-1) [a]) (d + 1)
  | each {ρ : Env1} {x : Int} {a b : Ex} {d1 d : Nat} : 0 ≤ x → x ≤ 19 → Ty fs ρ a (d1 + 1) → Ty fs (ups ρ x d1) b d → d < 3 → Ty fs ρ (.node .each x [a, b]) (d + 1)
  | whr {ρ : Env1} {x : Int} {a b : Ex} {d1 : Nat} : 0 ≤ x → x ≤ 19 → Ty fs ρ a (d1 + 1) → Ty fs (ups ρ x d1) b 0 → Ty fs ρ (.node .whr x [a, b]) (d1 + 1)
  | call {ρ : Env1} {k : Nat} {ps : List Ex} {ds : List Nat} {d : Nat} : k ≤ 5 → fs[k]? = some (ds, d) → Tys fs ρ ps ds → Ty fs ρ (.node .call (k : Int) ps) d
inductive Tys (fs : List (List Nat × Nat)) : Env1 → List Ex → List Nat → Prop
  | nil {ρ : Env1} : Tys fs ρ [] []
  | cons {ρ : Env1} {e : Ex} {es : List Ex} {d : Nat} {ds : List Nat} : Ty fs ρ e d → Tys fs ρ es ds → Tys fs ρ (e :: es) (d :: ds)
end
/-! ### the names that are known -/
def kvOf (p : Int × Nat) : Key × V := (Sum.inl p.1, .int (p.2 : Int))
structure KnOk (kn : List (Int × Nat)) (ρ : Env1) : Prop where
  nd : (kn.map (·.1)).Nodup
  lo : ∀ p ∈ kn, 0 ≤ p.1 ∧ p.1 ≤ 19 ∧ p.2 ≤ 3
  ok : ∀ p ∈ kn, ρ p.1 = some p.2
def Known (H : Hp) (a : Addr) (ρ : Env1) : Prop := ∃ kn : List (Int × Nat), H a = some (.dK (kn.map kvOf)) ∧ KnOk kn ρ
theorem Known.of {r a : Addr} {H H' : Hp} {xs : List V} {ρ : Env1} (k : Known H a ρ) (s : SameX r H H') (h : H r = some (.lst xs)) : Known H' a ρ := by
  obtain ⟨kn, e, o⟩ := k
  exact ⟨kn, s _ _ (ne_of e h (by intro z; cases z)) e, o⟩
theorem Drawn.known {K : PySem.W.Frag} {r : RD} {a : Addr} {H H' : Hp} {ρ : Env1} (g : Drawn K r H H') (d : Draw K r H) (k : Known H a ρ) : Known H' a ρ := by
  obtain ⟨p, x, l, h, _⟩ := d.ex
  exact k.of g.s h
theorem few : ∀ (n : Nat) (l : List Int), l.Nodup → (∀ x ∈ l, 0 ≤ x ∧ x < (n : Int)) → l.length ≤ n
  | 0, [], _, _ => Nat.le_refl _
  | 0, x :: l, _, h => by
    have := h x (List.mem_cons_self ..)
    omega
  | n + 1, l, nd, h => by
    have h1 : (l.filter fun x => decide (x ≠ (n : Int))).length ≤ n := by
      refine few n _ (nd.filter _) fun x hx => ?_
      obtain ⟨h2, h3⟩ := List.mem_filter.mp hx
      have h4 := h x h2
      have h5 : x ≠ (n : Int) := of_decide_eq_true h3
      omega
    have h2 : l.length ≤ (l.filter fun x => decide (x ≠ (n : Int))).length + 1 := by
      clear h1 h
      induction l with
      | nil => simp
      | cons x l ih =>
        obtain ⟨h3, h4⟩ := List.nodup_cons.mp nd
        by_cases e : x = (n : Int)
        · have h5 : (l.filter fun x => decide (x ≠ (n : Int))) = l := by
            refine List.filter_eq_self.mpr fun y hy => ?_
            refine decide_eq_true fun e2 => ?_
            rw [e2, ← e] at hy
            exact h3 hy
          rw [List.filter_cons, if_neg (by simp [e]), h5]
          simp
        · rw [List.filter_cons, if_pos (by simp [e])]
          have := ih h4
          simp only [List.length_cons]
          omega
    omega
theorem KnOk.few {kn : List (Int × Nat)} {ρ : Env1} (k : KnOk kn ρ) : kn.length ≤ 20 := by
  have := NR.few 20 (kn.map (·.1)) k.nd fun x hx => by
    obtain ⟨p, hp, rfl⟩ := List.mem_map.mp hx
    have := k.lo p hp
    omega
  rw [List.length_map] at this
  exact this
end NR
namespace NR
open PySem PySem.Spec PyProof.Rows L2
theorem seq_rest {t u : TS} {D : Ends} {σ : L2.St} {H : Hp} (R : Hp → Prop) (h2 : ∀ H', R H' → u D σ H') (h1 : (∀ H', R H' → u D σ H') → t { D with nx := u D } σ H) : tSeq t u D σ H := h1 h2
theorem if_rest {c : TT} {a b u : TS} {D : Ends} {σ : L2.St} {H : Hp} (R : Hp → Prop) (h2 : ∀ H', R H' → u D σ H') (h1 : (∀ H', R H' → u D σ H') → c σ H fun k H1 => if k = true then a { D with nx := u D } σ H1 else b { D with nx := u D } σ H1) : tSeq (tIfS c a b) u D σ H := h1 h2
theorem valV_kn {x : Int} {d : Nat} : ∀ {l : List (Int × Nat)}, (l.map (·.1)).Nodup → (x, d) ∈ l → valV (l.map kvOf) (Sum.inl x) = some (.int (d : Int))
  | [], _, h => by cases h
  | (y, c) :: l, nd, h => by
    obtain ⟨n1, n2⟩ := List.nodup_cons.mp (show (y :: l.map (·.1)).Nodup from nd)
    show ((((Sum.inl y : Key), V.int (c : Int)) :: l.map kvOf).find? fun kv => decide (kv.1 = Sum.inl x)).map (·.2) = _
    by_cases e : y = x
    · rw [List.find?_cons_of_pos (by simp [e])]
      rcases List.mem_cons.mp h with h | h
      · cases h
        rfl
      · exact absurd (List.mem_map.mpr ⟨(x, d), h, rfl⟩) (by rw [← e]; exact n1)
    · rw [List.find?_cons_of_neg (by simp [e])]
      rcases List.mem_cons.mp h with h | h
      · cases h
        exact absurd rfl e
      · exact valV_kn n2 h
theorem Draw.same {K : PySem.W.Frag} {r : RD} {H H' : Hp} (d : Draw K r H) (s : Same H H') : Draw K r H' := by
  obtain ⟨p, x, l, e, S, rest⟩ := d.ex
  exact ⟨p, x, l, s _ _ e, s.seq S, rest⟩
theorem Draw.drawn {K : PySem.W.Frag} {r : RD} {H H' : Hp} (d : Draw K r H) (s : Same H H') : Drawn K r H H' := ⟨d.same s, fun b o _ h => s b o h⟩
theorem dpInts {K : PySem.W.Frag} {H : Hp} : ∀ ns : List Int, DpAll K H (ns.map V.int) (ns.map PyData.int)
  | [] => .nil
  | n :: ns => .cons (.int n) (dpInts ns)
theorem canInts : ∀ ns : List Int, PyData.canLayAll0 (ns.map PyData.int) = true
  | [] => rfl
  | _ :: ns => canInts ns
theorem depInts : ∀ ns : List Int, PyData.depthAll (ns.map PyData.int) = 0
  | [] => rfl
  | _ :: ns => by
    show max 0 (PyData.depthAll (ns.map PyData.int)) = 0
    rw [depInts ns]
    rfl
theorem shapedInts (ns : List Int) : SeqAt.shaped (.list (ns.map PyData.int)) = true := by
  show (PyData.canLayAll0 (ns.map PyData.int) && decide (PyData.depthAll (ns.map PyData.int) + 1 ≤ 64)) = true
  rw [canInts, depInts]
  rfl
theorem le2 {n : Nat} (h : n ≤ 1000) : n ≤ sizeLine := Nat.le_of_lt (small1000 h)
def spLeaf (K : PySem.W.Frag) (fs : List (List Nat × Nat)) (n : Nat) : Sp := fun vs H Q _ => ∃ (r : RD) (a : Addr) (d : Nat) (ρ : Env1), vs = [.ref r.r, .int (d : Int), .ref a] ∧ Draw K r H ∧ Known H a ρ ∧ d < n ∧ d ≤ 3 ∧
  ∀ (v : V) (H' : Hp) (e : Ex), Drawn K r H H' → TIn H' v e → Ty fs ρ e d → e.hgt ≤ d + 1 → e.size ≤ d + 1 → Q v H'
end NR
set_option maxHeartbeats 4000000
namespace NR
open PySem PySem.Spec PyProof.Rows L2
theorem ok_never {P : Program} {w : World} {K : PySem.W.Frag} {mg : Str → Option Value} {base : Heap} {CX : CXT} {k : Nat} {f : Addr} {fd : FuncData} {ps : List Str} {sp : Sp} (no : ∀ vs H Q E, ¬ sp vs H Q E) : FnOk P w K mg base CX k f fd ps sp :=
  ⟨fun vs H Q E h => absurd h (no vs H Q E), fun A outer s H args us vs Q E _ _ _ _ h => absurd h (no vs H Q E)⟩
/-! ### faces in the heap -/
def dV (d : Nat) : V := .int (d : Int)
inductive FIns (H : Hp) : List V → List (List Nat × Nat) → Prop
  | nil : FIns H [] []
  | cons {a b : Addr} {ds : List Nat} {d : Nat} {vs : List V} {fs : List (List Nat × Nat)} : H a = some (.tup [.ref b, dV d]) → H b = some (.tup (ds.map dV)) → FIns H vs fs → FIns H (.ref a :: vs) ((ds, d) :: fs)
theorem FIns.mono {H H' : Hp} (k : TK H H') : ∀ {vs fs}, FIns H vs fs → FIns H' vs fs
  | _, _, .nil => .nil
  | _, _, .cons h1 h2 r => .cons (k _ _ h1) (k _ _ h2) (r.mono k)
theorem FIns.len {H : Hp} : ∀ {vs fs}, FIns H vs fs → vs.length = fs.length
  | _, _, .nil => rfl
  | _, _, .cons _ _ r => congrArg (· + 1) r.len
theorem FIns.get {H : Hp} : ∀ {vs fs} (_ : FIns H vs fs) (i : Nat) {ds : List Nat} {d : Nat}, fs[i]? = some (ds, d) → ∃ a b, vs[i]? = some (.ref a) ∧ H a = some (.tup [.ref b, dV d]) ∧ H b = some (.tup (ds.map dV))
  | _, _, .nil, i, _, _, h => by simp at h
  | _, _, .cons h1 h2 _, 0, _, _, h => by
    cases h
    exact ⟨_, _, rfl, h1, h2⟩
  | _, _, .cons _ _ r, i + 1, ds, d, h => r.get i h
theorem FIns.snoc {H : Hp} {a b : Addr} {ds : List Nat} {d : Nat} (h1 : H a = some (.tup [.ref b, dV d])) (h2 : H b = some (.tup (ds.map dV))) : ∀ {vs fs}, FIns H vs fs → FIns H (vs ++ [.ref a]) (fs ++ [(ds, d)])
  | _, _, .nil => .cons h1 h2 .nil
  | _, _, .cons x y r => .cons x y (r.snoc h1 h2)
/-- what the making of expressions knows of the program so far -/
structure Gen (H : Hp) (r : RD) (m : Addr) (fs : List (List Nat × Nat)) (own : Nat) : Prop where
  ex : ∃ (fl : Addr) (xs : List V), H m = some (.dK [(Sum.inr "faces", .ref fl), (Sum.inr "own", .int (own : Int)), (Sum.inr "left", .int 0)]) ∧ H fl = some (.lst xs) ∧ FIns H xs fs ∧ fl ≠ r.r
  len : fs.length = own + 1
  few : own ≤ 5
  lo : ∀ p ∈ fs, p.2 ≤ 3 ∧ p.1.length ≤ 4 ∧ ∀ d ∈ p.1, d ≤ 3
theorem Drawn.gen {K : PySem.W.Frag} {r : RD} {m : Addr} {H H' : Hp} {fs : List (List Nat × Nat)} {own : Nat} (g : Drawn K r H H') (d : Draw K r H) (G : Gen H r m fs own) : Gen H' r m fs own := by
  obtain ⟨fl, xs, h1, h2, h3, h4⟩ := G.ex
  obtain ⟨p, x, l, h, _⟩ := d.ex
  exact ⟨⟨fl, xs, g.s _ _ (ne_of h1 h (by intro z; cases z)) h1, g.s _ _ h4 h2, h3.mono (g.tk d), h4⟩, G.len, G.few, G.lo⟩
/-! ### one name more -/
theorem putK_kn {l : List (Int × Nat)} {ρ : Env1} {x : Int} {d : Nat} (o : KnOk l ρ) (x0 : 0 ≤ x) (x1 : x ≤ 19) (d3 : d ≤ 3) : ∃ l', putK (l.map kvOf) (Sum.inl x) (dV d) = l'.map kvOf ∧ KnOk l' (ups ρ x d) := by
  unfold putK
  by_cases h : ((l.map kvOf).any fun kv => decide (kv.1 = Sum.inl x)) = true
  · rw [if_pos h]
    refine ⟨l.map fun p => if p.1 = x then (p.1, d) else p, ?_, ?_, ?_, ?_⟩
    · rw [List.map_map, List.map_map]
      refine List.map_congr_left fun p _ => ?_
      show (if (Sum.inl p.1 : Key) = Sum.inl x then ((Sum.inl p.1 : Key), dV d) else (Sum.inl p.1, V.int (p.2 : Int))) = kvOf (if p.1 = x then (p.1, d) else p)
      by_cases e : p.1 = x
      · rw [if_pos (by rw [e]), if_pos e]
        rfl
      · rw [if_neg (by simpa using e), if_neg e]
        rfl
    · have e : ((l.map fun p => if p.1 = x then (p.1, d) else p).map (·.1)) = l.map (·.1) := by
        rw [List.map_map]
        refine List.map_congr_left fun p _ => ?_
        show (if p.1 = x then (p.1, d) else p).1 = p.1
        split <;> rfl
      rw [e]
      exact o.nd
    · intro p hp
      obtain ⟨q, hq, rfl⟩ := List.mem_map.mp hp
      have := o.lo q hq
      split
      · exact ⟨this.1, this.2.1, d3⟩
      · exact this
    · intro p hp
      obtain ⟨q, hq, rfl⟩ := List.mem_map.mp hp
      have := o.ok q hq
      split
      · rename_i e
        unfold ups
        rw [if_pos e]
      · rename_i e
        unfold ups
        rw [if_neg e]
        exact this
  · rw [if_neg h]
    have hn : ∀ p ∈ l, p.1 ≠ x := fun p hp e => h (List.any_eq_true.mpr ⟨kvOf p, List.mem_map.mpr ⟨p, hp, rfl⟩, by
      show decide ((Sum.inl p.1 : Key) = Sum.inl x) = true
      rw [e]
      simp⟩)
    refine ⟨l ++ [(x, d)], by rw [List.map_append]; rfl, ?_, ?_, ?_⟩
    · rw [List.map_append]
      refine List.nodup_append.mpr ⟨o.nd, by simp, fun a ha b hb => ?_⟩
      obtain ⟨p, hp, rfl⟩ := List.mem_map.mp ha
      simp only [List.map_cons, List.map_nil, List.mem_singleton] at hb
      rw [hb]
      exact hn p hp
    · intro p hp
      rcases List.mem_append.mp hp with hp | hp
      · exact o.lo p hp
      · rw [List.mem_singleton.mp hp]
        exact ⟨x0, x1, d3⟩
    · intro p hp
      unfold ups
      rcases List.mem_append.mp hp with hp | hp
      · rw [if_neg (hn p hp)]
        exact o.ok p hp
      · rw [List.mem_singleton.mp hp]
        simp
/-! ### promises -/
def spTree (K : PySem.W.Frag) (fs : List (List Nat × Nat)) (own n : Nat) : Sp := fun vs H Q _ => ∃ (r : RD) (m a : Addr) (d : Nat) (deep : Int) (ρ : Env1), vs = [.ref r.r, .ref m, .int (d : Int), .int deep, .ref a] ∧ Draw K r H ∧ Gen H r m fs own ∧ Known H a ρ ∧ d ≤ 3 ∧ deep ≤ (n : Int) ∧
  ∀ (v : V) (H' : Hp) (e : Ex), Drawn K r H H' → TIn H' v e → Ty (fs.take own) ρ e d → e.hgt ≤ n + 4 → Q v H'
def spAny (K : PySem.W.Frag) (fs : List (List Nat × Nat)) (own n : Nat) : Sp := fun vs H Q _ => ∃ (r : RD) (m a : Addr) (d : Nat) (deep : Int) (ρ : Env1), vs = [.ref r.r, .ref m, .int (d : Int), .int deep, .ref a] ∧ Draw K r H ∧ Gen H r m fs own ∧ Known H a ρ ∧ d ≤ 3 ∧ 1 ≤ deep ∧ deep ≤ (n : Int) ∧
  ∀ (v : V) (H' : Hp) (e : Ex), Drawn K r H H' → TIn H' v e → Ty (fs.take own) ρ e d → e.hgt ≤ n + 4 → Q v H'
def spNumber (K : PySem.W.Frag) (fs : List (List Nat × Nat)) (own n : Nat) : Sp := fun vs H Q _ => ∃ (r : RD) (m a : Addr) (deep : Int) (ρ : Env1), vs = [.ref r.r, .ref m, .int deep, .ref a] ∧ Draw K r H ∧ Gen H r m fs own ∧ Known H a ρ ∧ 1 ≤ deep ∧ deep ≤ (n : Int) ∧
  ∀ (v : V) (H' : Hp) (e : Ex), Drawn K r H H' → TIn H' v e → Ty (fs.take own) ρ e 0 → e.hgt ≤ n + 4 → Q v H'
/-- how much less deep an item is -/
def W.off : W → Nat
  | .elet => 0
  | _ => 1
def spBound (K : PySem.W.Frag) (fs : List (List Nat × Nat)) (own n : Nat) : Sp := fun vs H Q _ => ∃ (r : RD) (m a : Addr) (w : W) (d t : Nat) (deep : Int) (ρ : Env1), vs = [.ref r.r, .ref m, .str w.str, .int (d : Int), .int deep, .ref a, .int (t : Int)] ∧ w.lay = 1 ∧ Draw K r H ∧ Gen H r m fs own ∧ Known H a ρ ∧ d ≤ 3 ∧ t ≤ 3 ∧ w.off ≤ d ∧ 1 ≤ deep ∧ deep ≤ (n : Int) ∧
  ∀ (v : V) (H' : Hp) (x : Int) (e1 e2 : Ex), Drawn K r H H' → TIn H' v (.node w x [e1, e2]) → 0 ≤ x → x ≤ 19 → Ty (fs.take own) ρ e1 d → Ty (fs.take own) (ups ρ x (d - w.off)) e2 t → (Ex.node w x [e1, e2]).hgt ≤ n + 4 → Q v H'
theorem hgt1 {w : W} {n : Int} {a : Ex} {k : Nat} (h : a.hgt ≤ k) : (Ex.node w n [a]).hgt ≤ k + 1 := by
  simp only [Ex.hgt, hgts]
  omega
theorem hgt2 {w : W} {n : Int} {a b : Ex} {k : Nat} (h : a.hgt ≤ k) (h' : b.hgt ≤ k) : (Ex.node w n [a, b]).hgt ≤ k + 1 := by
  simp only [Ex.hgt, hgts]
  omega
theorem hgt3 {w : W} {n : Int} {a b c : Ex} {k : Nat} (h : a.hgt ≤ k) (h' : b.hgt ≤ k) (h'' : c.hgt ≤ k) : (Ex.node w n [a, b, c]).hgt ≤ k + 1 := by
  simp only [Ex.hgt, hgts]
  omega
end NR
namespace NR
open PySem PySem.Spec PyProof.Rows L2
theorem Tys.snoc {fs : List (List Nat × Nat)} {ρ : Env1} {e : Ex} {d : Nat} : ∀ {es : List Ex} {ds : List Nat}, Tys fs ρ es ds → Ty fs ρ e d → Tys fs ρ (es ++ [e]) (ds ++ [d])
  | _, _, .nil, h => .cons h .nil
  | _, _, .cons h r, h' => .cons h (r.snoc h')
theorem TIns.snoc {H : Hp} {v : V} {e : Ex} : ∀ {vs : List V} {es : List Ex}, TIns H vs es → TIn H v e → TIns H (vs ++ [v]) (es ++ [e])
  | _, _, .nil, h => .cons h .nil
  | _, _, .cons h r, h' => .cons h (r.snoc h')
theorem TIns.len {H : Hp} : ∀ {vs : List V} {es : List Ex}, TIns H vs es → vs.length = es.length
  | _, _, .nil => rfl
  | _, _, .cons _ r => congrArg (· + 1) r.len
theorem hgts_snoc {k : Nat} {e : Ex} : ∀ {es : List Ex}, hgts es ≤ k → e.hgt ≤ k → hgts (es ++ [e]) ≤ k
  | [], _, h => by
    show max e.hgt 0 ≤ k
    omega
  | x :: es, h, h' => by
    have h1 : max x.hgt (hgts es) ≤ k := h
    have := hgts_snoc (es := es) (by omega) h'
    show max x.hgt (hgts (es ++ [e])) ≤ k
    omega
/-- a list that changes leaves tuples as they are -/
theorem TK.lst {H : Hp} {D : Addr} {xs ys : List V} (h : H D = some (.lst xs)) : TK H (upd H D (.lst ys)) := fun b zs q => by
  rw [upd_ne (ne_of q h (by intro z; cases z))]
  exact q
theorem val_faces {a b c : V} : valV ([(Sum.inr "faces", a), (Sum.inr "own", b), (Sum.inr "left", c)] : List (Key × V)) (Sum.inr "faces") = some a := by rfl
theorem val_own {a b c : V} : valV ([(Sum.inr "faces", a), (Sum.inr "own", b), (Sum.inr "left", c)] : List (Key × V)) (Sum.inr "own") = some b := by rfl
theorem val_left {a b c : V} : valV ([(Sum.inr "faces", a), (Sum.inr "own", b), (Sum.inr "left", c)] : List (Key × V)) (Sum.inr "left") = some c := by rfl
theorem dget {H : Hp} {a : Addr} {kvs : List (Key × V)} {k : Key} {v : V} (e : H a = some (.dK kvs)) (h : valV kvs k = some v) : DGet H a (kV k) (some v) := by
  rw [← h]
  exact DGet.k e
end NR
set_option maxHeartbeats 4000000
namespace NR
open PySem PySem.Spec PyProof.Rows L2
theorem cut1 (x : V) (xs : List V) : cutV (x :: xs) (some 1) none = xs := by
  unfold cutV HT.sIx
  simp
theorem cut2 (x y : V) (xs : List V) : cutV (x :: y :: xs) (some 2) none = xs := by
  unfold cutV HT.sIx
  simp
theorem not1 (x : V) (xs : List V) : ¬ (HT.sIx (x :: xs).length 0 (some 1) = 0 ∧ HT.sIx (x :: xs).length (x :: xs).length none = (x :: xs).length) := by
  unfold HT.sIx
  simp
theorem not2 (x y : V) (xs : List V) : ¬ (HT.sIx (x :: y :: xs).length 0 (some 2) = 0 ∧ HT.sIx (x :: y :: xs).length (x :: y :: xs).length none = (x :: y :: xs).length) := by
  unfold HT.sIx
  simp
theorem in_leaf (w : W) : inV (.str w.str) [.str "num", .str "name"] = decide (w.lay = 0) := by cases w <;> decide
theorem in_bind (w : W) : inV (.str w.str) [.str "let", .str "each", .str "where"] = decide (w.lay = 1) := by cases w <;> decide
theorem eq_call (w : W) : decide (V.str w.str = V.str "call") = decide (w.lay = 2) := by cases w <;> decide
mutual
/-- no expression has more than four parts -/
def Ex.few : Ex → Prop
  | .node _ _ ps => ps.length ≤ 4 ∧ fews ps
def fews : List Ex → Prop
  | [] => True
  | e :: es => e.few ∧ fews es
end
theorem fews_mem : ∀ {es : List Ex} {i : Nat} {e : Ex}, fews es → es[i]? = some e → e.few
  | [], i, e, _, h => by simp at h
  | x :: es, 0, e, f, h => by
    cases h
    exact f.1
  | x :: es, i + 1, e, f, h => fews_mem (es := es) (i := i) f.2 h
def spParts (K : PySem.W.Frag) : Sp := fun vs H Q _ => ∃ (v : V) (w : W) (n : Int) (ps : List Ex), vs = [v] ∧ TIn H v (.node w n ps) ∧
  ∀ (p : Addr) (H' : Hp) (xs : List V), Same H H' → H' p = some (.tup xs) → TIns H' xs ps → Q (.ref p) H'
def spSize (K : PySem.W.Frag) (n : Nat) : Sp := fun vs H Q _ => ∃ (v : V) (e : Ex), vs = [v] ∧ TIn H v e ∧ e.hgt ≤ n ∧ e.few ∧
  ∀ (H' : Hp), Same H H' → Q (.int (e.size : Int)) H'
def spWithin (K : PySem.W.Frag) (n : Nat) : Sp := fun vs H Q _ => ∃ (v : V) (e : Ex), vs = [v] ∧ TIn H v e ∧ e.hgt ≤ n ∧ e.few ∧
  ∀ (H' : Hp), Same H H' → Q (.int ((e.hgt - 1 : Nat) : Int)) H'
section
variable {X : Cx} (K : PySem.W.Frag)
theorem cr_sumK (hc : X.calm = true) (h : X.K = K := by rfl) : CallR X (.builtin "sum") (rSum K) := h ▸ cr_sum hc
theorem cr_maxK (hc : X.calm = true) (h : X.K = K := by rfl) : CallR X (.builtin "max") (rMax K) := h ▸ cr_max hc
end
theorem TIns.get {H : Hp} : ∀ {vs : List V} {es : List Ex} (_ : TIns H vs es) (i : Nat) {v : V}, vs[i]? = some v → ∃ e, es[i]? = some e ∧ TIn H v e
  | _, _, .nil, i, _, h => by simp at h
  | _, _, .cons h1 _, 0, _, h => by
    cases h
    exact ⟨_, rfl, h1⟩
  | _, _, .cons _ r, i + 1, v, h => r.get i h
theorem sizes_cons (e : Ex) (es : List Ex) : sizes (e :: es) = e.size + sizes es := rfl
theorem hgts_cons (e : Ex) (es : List Ex) : hgts (e :: es) = max e.hgt (hgts es) := rfl
theorem at0 {x : V} {xs : List V} : atI (x :: xs) 0 = some x := atI_nat (j := 0) rfl
theorem at1 {x y : V} {xs : List V} : atI (x :: y :: xs) 1 = some y := atI_nat (j := 1) rfl
theorem at2 {x y z : V} {xs : List V} : atI (x :: y :: z :: xs) 2 = some z := atI_nat (j := 2) rfl
theorem size_mem : ∀ {es : List Ex} {i : Nat} {e : Ex}, es[i]? = some e → e.size ≤ sizes es ∧ e.hgt ≤ hgts es
  | [], i, e, h => by simp at h
  | x :: es, 0, e, h => by
    cases h
    rw [sizes_cons, hgts_cons]
    omega
  | x :: es, i + 1, e, h => by
    have := size_mem (es := es) (i := i) h
    rw [sizes_cons, hgts_cons]
    omega
theorem len_sizes : ∀ es : List Ex, es.length ≤ sizes es
  | [] => Nat.le_refl _
  | .node w n ps :: es => by
    have := len_sizes es
    simp only [sizes, Ex.size, List.length_cons]
    omega
theorem sum_sizes : ∀ es : List Ex, ((es.map fun e => (e.size : Int))).sum = (sizes es : Int)
  | [] => rfl
  | e :: es => by
    rw [List.map_cons, List.sum_cons, sum_sizes es, sizes_cons]
    omega
theorem max_hgts : ∀ (es : List Ex) (m : Int), m ∈ (0 :: es.map fun e => (e.hgt : Int)) → (∀ y ∈ (0 :: es.map fun e => (e.hgt : Int)), y ≤ m) → m = (hgts es : Int)
  | [], m, h, _ => by
    simp only [List.map_nil, List.mem_singleton] at h
    rw [h]
    rfl
  | e :: es, m, h, h' => by
    have h0 : ∀ y ∈ (0 :: es.map fun e => (e.hgt : Int)), y ≤ m := fun y hy => by
      rcases List.mem_cons.mp hy with hy | hy
      · exact h' y (by rw [hy]; exact List.mem_cons_self ..)
      · exact h' y (List.mem_cons_of_mem _ (List.mem_cons_of_mem _ hy))
    have he : (e.hgt : Int) ≤ m := h' _ (List.mem_cons_of_mem _ (List.mem_cons_self ..))
    have hb : (hgts es : Int) ≤ m := by
      clear h h' he
      induction es with
      | nil => exact h0 0 (List.mem_cons_self ..)
      | cons x xs ih =>
        have h1 := h0 (x.hgt : Int) (List.mem_cons_of_mem _ (List.mem_cons_self ..))
        have h2 := ih fun y hy => by
          rcases List.mem_cons.mp hy with hy | hy
          · exact h0 y (by rw [hy]; exact List.mem_cons_self ..)
          · exact h0 y (List.mem_cons_of_mem _ (List.mem_cons_of_mem _ hy))
        rw [hgts_cons]
        omega
    rw [hgts_cons]
    simp only [List.map_cons, List.mem_cons] at h
    rcases h with h | h | h
    · omega
    · omega
    · obtain ⟨x, hx, hx2⟩ := List.mem_map.mp h
      obtain ⟨i, hi, rfl⟩ := List.mem_iff_getElem.mp hx
      have := (size_mem (List.getElem?_eq_getElem hi)).2
      omega
theorem same_put {H H' : Hp} {p : Addr} {o : HO} (h : Same H H') (n : H p = none) : Same H (upd H' p o) := fun b u q => by
  rw [upd_ne (ne_of_none q n)]
  exact h b u q
end NR
set_option maxHeartbeats 4000000
namespace NR
open PySem PySem.Spec PyProof.Rows L2
/-! ### tuples known to the object: dict(tuple of pairs) -/
section
variable {X : Cx} (K : PySem.W.Frag)
def rTupleF (K : PySem.W.Frag) : List V → Hp → VK → Prop := fun xs H Q => ∃ p ys, xs = [.ref p] ∧ SqL K H p ys ∧ ∀ l o, H l = none → o.dict = none → Q (.ref l) (upd H l (.frz o (.tup ys)))
theorem call_tupleF (h : X.K = K := by rfl) : CallR X (.type "tuple") (rTupleF K) := by
  subst h
  rintro pins s σ H xs us Q I rel ⟨p, ys, rfl, sq, want⟩
  have eu : us = [.ref p] := Vals.ref1 rel
  subst eu
  obtain ⟨its, rv, pl, hz⟩ := I.list sq
  have lens := rv.length
  have sz : its.toArray.size ≤ sizeLine := by
    rw [List.size_toArray]
    omega
  refine call_tuple_list pl.isList ?_ sz
  intro hp kept
  have J : L2.Inv X pins σ H { s with heap := hp } := I.kept (t' := s.toks) kept
  have okT : ObjOk X.prog X.w (upd H hp.objs.size (.frz { cls := .type "tuple", data := .seq its.toArray } (.tup ys))) (hp.push { cls := .type "tuple", data := .seq its.toArray }) hp.objs.size (.frz { cls := .type "tuple", data := .seq its.toArray } (.tup ys)) :=
    ⟨Heap.get?_push_size _ rfl, hz, its, rv, IsTup.new _ _⟩
  refine ⟨.ref hp.objs.size, _, J.laid (t' := s.toks) (fun _ _ z => Heap.get?_push_of_some _ z) (Nat.le_refl _) okT, rfl, ?_⟩
  exact want _ _ (J.hok.fresh (Nat.le_refl _)) rfl
/-- a written tuple, known to the object -/
def tTupF (t : TA) : TE := fun σ H Q => t σ H fun xs H1 => xs.length ≤ sizeLine ∧ ∀ p o, H1 p = none → o.dict = none → Q (.ref p) (upd H1 p (.frz o (.tup xs)))
theorem pe_tupF {es : List Expr} {t : TA} {x1 : Nat} {pos : Pos} (h : PA X es t) : PE X (.Tuple es x1 pos) (tTupF t) := by
  constructor
  intro pins s σ H Q I want
  apply wpAny_Tuple_spliced
  apply thn (h.run pos pins s σ H _ I want)
  rintro us s1 ⟨xs, G, J, rel, hz, nxt⟩
  have hz' : us.length ≤ sizeLine := by
    rw [← rel.length]
    exact hz
  refine ⟨hz', ?_⟩
  have okT : ObjOk X.prog X.w (upd G s1.heap.objs.size (.frz { cls := .type "tuple", data := .seq us.toArray } (.tup xs))) (s1.heap.push { cls := .type "tuple", data := .seq us.toArray }) s1.heap.objs.size (.frz { cls := .type "tuple", data := .seq us.toArray } (.tup xs)) :=
    ⟨Heap.get?_push_size _ rfl, hz, us, rel, IsTup.new _ _⟩
  exact ⟨.ref s1.heap.objs.size, _, J.laid (t' := s1.toks) (fun _ _ z => Heap.get?_push_of_some _ z) (Nat.le_refl _) okT, rfl, nxt _ _ (J.hok.fresh (Nat.le_refl _)) rfl⟩
theorem pairs_of2 {pins : List (Addr × Obj)} {σ : L2.St} {H : Hp} {s : Shared} (I : Inv X pins σ H s) : ∀ {ps : List Addr} {kvs : List (Key × V)}, Paired (fun p kv => SqT X.K H p [kV kv.1, kv.2]) ps kvs →
    ∃ (pv : List (Value × Value)) (prs : List (Key × Value)), KV kvs prs ∧ prs.length = ps.length ∧ pv.length = ps.length ∧ ∀ (j : Nat) (k v : Value), pv[j]? = some (k, v) → ∃ b, ps[j]? = some b ∧ IsTup s.heap b #[k, v] ∧ ∃ q, prs[j]? = some (q, v) ∧ keyIs q k = true
  | _, _, .nil => ⟨[], [], .nil, rfl, rfl, fun j k v e => by simp at e⟩
  | p :: ps, kv :: kvs, .cons pair tail => by
    obtain ⟨pv, prs, kvr, l1, l2, each⟩ := pairs_of2 I tail
    obtain ⟨its, two, isT, _⟩ := I.tuple pair
    obtain ⟨k0, v0, eits, rk, rw0⟩ := vals2 two
    subst eits
    have k1 := kV_is (P := X.prog) (w := X.w) rk
    refine ⟨(k0, v0) :: pv, (kv.1, v0) :: prs, .cons ⟨rfl, rw0⟩ kvr, congrArg (· + 1) l1, congrArg (· + 1) l2, ?_⟩
    rintro (_ | j) k v e
    · cases e
      exact ⟨p, rfl, isT, kv.1, rfl, k1⟩
    · exact each j k v e
def rDictT (K : PySem.W.Frag) : List V → Hp → VK → Prop := fun xs H Q => ∃ (a : Addr) (o : Obj) (ps : List Addr) (kvs : List (Key × V)), xs = [.ref a] ∧ H a = some (.frz o (.tup (ps.map V.ref))) ∧ o.dict = none ∧ Paired (fun p kv => SqT K H p [kV kv.1, kv.2]) ps kvs ∧
    ∀ p, H p = none → Q (.ref p) (upd H p (.dK (mergeK [] kvs)))
theorem call_dictT (hcalm : X.calm = true) (h : X.K = K := by rfl) : CallR X (.type "dict") (rDictT K) := by
  subst h
  rintro pins s σ H xs us Q I rel ⟨a, o, ps, kvs, rfl, at_, nod, prd, want⟩
  have eu : us = [.ref a] := Vals.ref1 rel
  subst eu
  obtain ⟨ho, hz, its, rv, o2, ho2, hc, n, hdat⟩ := (show ObjOk X.prog X.w H s.heap a (.frz o (.tup (ps.map V.ref))) from I.hok a _ at_)
  have eo : o = o2 := Option.some.inj (ho.symm.trans ho2)
  subst eo
  have ei : its = ps.map Value.ref := refs_at rv
  subst ei
  rw [List.length_map] at hz
  obtain ⟨pv, prs, kvr, l1, l2, each⟩ := pairs_of2 I prd
  have items : PairItems s.heap (ps.map Value.ref).toArray (fun j => ps.getD j 0) pv := by
    refine ⟨by simp [l2], fun j k v e => ?_⟩
    obtain ⟨b, e1, e2, _⟩ := each j k v e
    have eb : ps.getD j 0 = b := by
      rw [List.getD_eq_getElem?_getD, e1]
      rfl
    dsimp only
    rw [eb]
    exact ⟨by simp [e1], .inl e2⟩
  have have_ : PairsHave (mixKind X.prog X.w) pv.length (PairRel pv) prs := by
    refine ⟨l1.trans l2.symm, fun i key v e => ?_⟩
    obtain ⟨_, _, _, qk, e3, e4⟩ := each i key v e
    exact ⟨qk, e3, e4⟩
  apply PySem.call_dict_pairs (PairArg.tuple a (ps.map Value.ref).toArray (fun j => ps.getD j 0) pv) (I.ok.hd hcalm) ⟨⟨o, n, ho, hc, nod, hdat⟩, items⟩ have_ (by omega)
  intro hp tk isD kept
  have small : (mergeK [] kvs).length ≤ sizeLine := by
    have z := length_mergeK kvs []
    have z2 := kvr.length
    simp only [List.length_nil] at z
    omega
  have nosys : (s.heap.objs.size == sysModules) = false := beq_false_of_ne (Nat.ne_of_gt I.big)
  have okD : ObjOk X.prog X.w (upd H s.heap.objs.size (.dK (mergeK [] kvs))) hp s.heap.objs.size (.dK (mergeK [] kvs)) := ⟨small, nosys, _, KV.merge kvr .nil, isD⟩
  exact ⟨.ref s.heap.objs.size, _, I.laid (t' := tk) (fun b o z => kept b o (by simp) z) (Nat.le_refl _) okD, rfl, want _ (I.hok.fresh (Nat.le_refl _))⟩
end
end NR
set_option maxHeartbeats 4000000
namespace NR
open PySem PySem.Spec PyProof.Rows L2
/-! ### params in the heap -/
inductive PIns (H : Hp) : List V → List (Int × Nat) → Prop
  | nil : PIns H [] []
  | cons {a : Addr} {x : Int} {d : Nat} {vs : List V} {ps : List (Int × Nat)} : H a = some (.tup [.int x, dV d]) → PIns H vs ps → PIns H (.ref a :: vs) ((x, d) :: ps)
theorem PIns.mono {H H' : Hp} (k : TK H H') : ∀ {vs ps}, PIns H vs ps → PIns H' vs ps
  | _, _, .nil => .nil
  | _, _, .cons h r => .cons (k _ _ h) (r.mono k)
theorem PIns.len {H : Hp} : ∀ {vs ps}, PIns H vs ps → vs.length = ps.length
  | _, _, .nil => rfl
  | _, _, .cons _ r => congrArg (· + 1) r.len
theorem PIns.snoc {H : Hp} {a : Addr} {x : Int} {d : Nat} (h1 : H a = some (.tup [.int x, dV d])) : ∀ {vs ps}, PIns H vs ps → PIns H (vs ++ [.ref a]) (ps ++ [(x, d)])
  | _, _, .nil => .cons h1 .nil
  | _, _, .cons h r => .cons h (r.snoc h1)
theorem PIns.get {H : Hp} : ∀ {vs ps} (_ : PIns H vs ps) (i : Nat) {v : V}, vs[i]? = some v → ∃ a x d, v = .ref a ∧ ps[i]? = some (x, d) ∧ H a = some (.tup [.int x, dV d])
  | _, _, .nil, i, _, h => by simp at h
  | _, _, .cons h1 _, 0, _, h => by
    cases h
    exact ⟨_, _, _, rfl, rfl, h1⟩
  | _, _, .cons _ r, i + 1, v, h => r.get i h
/-- a face that can be -/
structure FaceOk (ps : List (Int × Nat)) (d : Nat) : Prop where
  nd : (ps.map (·.1)).Nodup
  lo : ∀ p ∈ ps, 0 ≤ p.1 ∧ p.1 ≤ 19 ∧ p.2 ≤ 3
  few : ps.length ≤ 4
  hd : d ≤ 3
structure FaceIn (H : Hp) (v : V) (ps : List (Int × Nat)) (d : Nat) : Prop where
  ex : ∃ (t pt : Addr) (o : Obj) (vs : List V), v = .ref t ∧ H t = some (.tup [.ref pt, dV d]) ∧ H pt = some (.frz o (.tup vs)) ∧ o.dict = none ∧ PIns H vs ps
theorem FaceIn.same {H H' : Hp} {v : V} {ps : List (Int × Nat)} {d : Nat} (F : FaceIn H v ps d) (s : Same H H') : FaceIn H' v ps d := by
  obtain ⟨t, pt, o, vs, e1, e2, e3, e4, e5⟩ := F.ex
  exact ⟨t, pt, o, vs, e1, s _ _ e2, s _ _ e3, e4, e5.mono (TK.of s)⟩
theorem FaceIn.drawn {K : PySem.W.Frag} {r : RD} {H H' : Hp} {v : V} {ps : List (Int × Nat)} {d : Nat} (F : FaceIn H v ps d) (g : Drawn K r H H') (dr : Draw K r H) : FaceIn H' v ps d := by
  obtain ⟨t, pt, o, vs, e1, e2, e3, e4, e5⟩ := F.ex
  obtain ⟨p, x, l, h, _⟩ := dr.ex
  exact ⟨t, pt, o, vs, e1, g.tk dr _ _ e2, g.s _ _ (ne_of e3 h (by intro z; cases z)) e3, e4, e5.mono (g.tk dr)⟩
def spFace (K : PySem.W.Frag) : Sp := fun vs H Q _ => ∃ (r : RD), vs = [.ref r.r] ∧ Draw K r H ∧
  ∀ (v : V) (H' : Hp) (ps : List (Int × Nat)) (d : Nat), Drawn K r H H' → FaceIn H' v ps d → FaceOk ps d → Q v H'
theorem inV_int {x : Int} : ∀ {ns : List Int}, inV (.int x) (ns.map V.int) = decide (x ∈ ns)
  | [] => by simp [inV]
  | n :: ns => by
    have ih := inV_int (x := x) (ns := ns)
    show (eqV (.int n) (.int x) || inV (.int x) (ns.map V.int)) = _
    rw [ih]
    show ((n == x) || decide (x ∈ ns)) = _
    by_cases e : n = x
    · simp [e]
    · have e' : x ≠ n := fun z => e z.symm
      simp [e, e']
theorem allFlat_int : ∀ (ns : List Int), (ns.map V.int).all flatV = true
  | [] => rfl
  | _ :: ns => allFlat_int ns
end NR
set_option maxHeartbeats 4000000
namespace NR
open PySem PySem.Spec PyProof.Rows L2
section
variable {X : Cx} (K : PySem.W.Frag)
theorem pg_tupK {es : List Expr} {k : Nat} {t : TGs} {n : Nat} {pos : Pos} (hc : X.calm = true) (h : PGs X es t)
    (hn : (assignEach es X.env).length = n := by rfl) (hst : (assignEach es X.env).findIdx? (·.1) = none := by rfl) (hK : X.K = K := by rfl) : PG X (.Tuple es k pos) (gTup K n t) := hK ▸ pg_tup hc h hn hst
end
mutual
def Ex.selfs (k : Int) : Ex → Nat
  | .node w n ps => (if w = .call ∧ n = k then 1 else 0) + selfss k ps
def selfss (k : Int) : List Ex → Nat
  | [] => 0
  | e :: es => e.selfs k + selfss k es
end
theorem selfs_eq (k : Int) (w : W) (n : Int) (ps : List Ex) : (Ex.node w n ps).selfs k = (if w = .call ∧ n = k then 1 else 0) + selfss k ps := rfl
theorem selfss_cons (k : Int) (e : Ex) (es : List Ex) : selfss k (e :: es) = e.selfs k + selfss k es := rfl
theorem selfss_nil (k : Int) : selfss k [] = 0 := rfl
/-! ### more names, more functions -/
theorem ups_weak {ρ ρ' : Env1} {x : Int} {d : Nat} (h : ∀ y c, ρ y = some c → ρ' y = some c) : ∀ y c, ups ρ x d y = some c → ups ρ' x d y = some c := fun y c e => by
  unfold ups at e ⊢
  split
  · rename_i q
    rw [if_pos q] at e
    exact e
  · rename_i q
    rw [if_neg q] at e
    exact h y c e
mutual
theorem Ty.weak {fs fs' : List (List Nat × Nat)} (hf : ∀ (k : Nat) p, fs[k]? = some p → fs'[k]? = some p) : ∀ {ρ ρ' : Env1} {e : Ex} {d : Nat}, Ty fs ρ e d → (∀ y c, ρ y = some c → ρ' y = some c) → Ty fs' ρ' e d
  | _, _, _, _, .num a b, _ => .num a b
  | _, _, _, _, .name a b c d, h => .name a b (h _ _ c) d
  | _, _, _, _, .two w a b, h => .two w (a.weak hf h) (b.weak hf h)
  | _, _, _, _, .ite c a b, h => .ite (c.weak hf h) (a.weak hf h) (b.weak hf h)
  | _, _, _, _, .elet x y a b, h => .elet x y (a.weak hf h) (b.weak hf (ups_weak h))
  | _, _, _, _, .upto a, h => .upto (a.weak hf h)
  | _, _, _, _, .len a, h => .len (a.weak hf h)
  | _, _, _, _, .sum a, h => .sum (a.weak hf h)
  | _, _, _, _, .sums a, h => .sums (a.weak hf h)
  | _, _, _, _, .one a c, h => .one (a.weak hf h) c
  | _, _, _, _, .pick a b, h => .pick (a.weak hf h) (b.weak hf h)
  | _, _, _, _, .put a b, h => .put (a.weak hf h) (b.weak hf h)
  | _, _, _, _, .flat a, h => .flat (a.weak hf h)
  | _, _, _, _, .each x y a b c, h => .each x y (a.weak hf h) (b.weak hf (ups_weak h)) c
  | _, _, _, _, .whr x y a b, h => .whr x y (a.weak hf h) (b.weak hf (ups_weak h))
  | _, _, _, _, .call k f ps, h => .call k (hf _ _ f) (ps.weak hf h)
theorem Tys.weak {fs fs' : List (List Nat × Nat)} (hf : ∀ (k : Nat) p, fs[k]? = some p → fs'[k]? = some p) : ∀ {ρ ρ' : Env1} {es : List Ex} {ds : List Nat}, Tys fs ρ es ds → (∀ y c, ρ y = some c → ρ' y = some c) → Tys fs' ρ' es ds
  | _, _, _, _, .nil, _ => .nil
  | _, _, _, _, .cons a r, h => .cons (a.weak hf h) (r.weak hf h)
end
theorem take_get {fs : List (List Nat × Nat)} {own : Nat} (k : Nat) (p : List Nat × Nat) (h : (fs.take own)[k]? = some p) : fs[k]? = some p := by
  rw [List.getElem?_take] at h
  split at h
  · exact h
  · cases h
mutual
theorem Ty.noself {fs : List (List Nat × Nat)} {own : Nat} (hl : fs.length ≤ own) : ∀ {ρ : Env1} {e : Ex} {d : Nat}, Ty fs ρ e d → e.selfs (own : Int) = 0
  | _, _, _, .num a b => rfl
  | _, _, _, .name a b c d => rfl
  | _, _, _, .two w a b => by
    rw [selfs_eq, selfss_cons, selfss_cons, selfss_nil, a.noself hl, b.noself hl, if_neg (by rintro ⟨z, _⟩; rcases w with w | w | w | w | w <;> (rw [w] at z; cases z))]
  | _, _, _, .ite c a b => by
    rw [selfs_eq, selfss_cons, selfss_cons, selfss_cons, selfss_nil, a.noself hl, b.noself hl, c.noself hl]
    rfl
  | _, _, _, .elet x y a b => by
    rw [selfs_eq, selfss_cons, selfss_cons, selfss_nil, a.noself hl, b.noself hl, if_neg (by rintro ⟨z, _⟩; cases z)]
  | _, _, _, .upto a => by
    rw [selfs_eq, selfss_cons, selfss_nil, a.noself hl]
    rfl
  | _, _, _, .len a => by
    rw [selfs_eq, selfss_cons, selfss_nil, a.noself hl]
    rfl
  | _, _, _, .sum a => by
    rw [selfs_eq, selfss_cons, selfss_nil, a.noself hl]
    rfl
  | _, _, _, .sums a => by
    rw [selfs_eq, selfss_cons, selfss_nil, a.noself hl]
    rfl
  | _, _, _, .one a c => by
    rw [selfs_eq, selfss_cons, selfss_nil, a.noself hl]
    rfl
  | _, _, _, .pick a b => by
    rw [selfs_eq, selfss_cons, selfss_cons, selfss_nil, a.noself hl, b.noself hl]
    rfl
  | _, _, _, .put a b => by
    rw [selfs_eq, selfss_cons, selfss_cons, selfss_nil, a.noself hl, b.noself hl]
    rfl
  | _, _, _, .flat a => by
    rw [selfs_eq, selfss_cons, selfss_nil, a.noself hl]
    rfl
  | _, _, _, .each x y a b c => by
    rw [selfs_eq, selfss_cons, selfss_cons, selfss_nil, a.noself hl, b.noself hl, if_neg (by rintro ⟨z, _⟩; cases z)]
  | _, _, _, .whr x y a b => by
    rw [selfs_eq, selfss_cons, selfss_cons, selfss_nil, a.noself hl, b.noself hl, if_neg (by rintro ⟨z, _⟩; cases z)]
  | _, _, _, .call k f ps => by
    have h1 := (List.getElem?_eq_some_iff.mp f).1
    rw [selfs_eq, ps.noself hl, if_neg (by rintro ⟨_, z⟩; omega)]
theorem Tys.noself {fs : List (List Nat × Nat)} {own : Nat} (hl : fs.length ≤ own) : ∀ {ρ : Env1} {es : List Ex} {ds : List Nat}, Tys fs ρ es ds → selfss (own : Int) es = 0
  | _, _, _, .nil => rfl
  | _, _, _, .cons a r => by
    rw [selfss_cons, a.noself hl, r.noself hl]
end
/-! ### the names of params -/
def envOf (ps : List (Int × Nat)) : Env1 := fun x => (ps.find? fun p => decide (p.1 = x)).map (·.2)
theorem envOf_mem : ∀ {ps : List (Int × Nat)} {x : Int} {d : Nat}, (ps.map (·.1)).Nodup → (x, d) ∈ ps → envOf ps x = some d
  | [], _, _, _, h => by cases h
  | (y, c) :: l, x, d, nd, h => by
    obtain ⟨n1, n2⟩ := List.nodup_cons.mp (show (y :: l.map (·.1)).Nodup from nd)
    unfold envOf
    by_cases e : y = x
    · rw [List.find?_cons_of_pos (by simp [e])]
      rcases List.mem_cons.mp h with h | h
      · cases h
        rfl
      · exact absurd (List.mem_map.mpr ⟨(x, d), h, rfl⟩) (by rw [← e]; exact n1)
    · rw [List.find?_cons_of_neg (by simp [e])]
      rcases List.mem_cons.mp h with h | h
      · cases h
        exact absurd rfl e
      · exact envOf_mem n2 h
theorem envOf_none {ps : List (Int × Nat)} {x : Int} (h : ∀ p ∈ ps, p.1 ≠ x) : envOf ps x = none := by
  unfold envOf
  rw [List.find?_eq_none.mpr fun p hp => by simpa using h p hp]
  rfl
theorem FaceOk.kn {ps : List (Int × Nat)} {d : Nat} (F : FaceOk ps d) : KnOk ps (envOf ps) := ⟨F.nd, F.lo, fun p hp => envOf_mem F.nd hp⟩
theorem mergeK_kn : ∀ {ps acc : List (Int × Nat)}, ((acc ++ ps).map (·.1)).Nodup → mergeK (acc.map kvOf) (ps.map kvOf) = (acc ++ ps).map kvOf
  | [], acc, _ => by
    rw [List.append_nil]
    rfl
  | (x, d) :: ps, acc, nd => by
    have hn : ∀ p ∈ acc, p.1 ≠ x := fun p hp e => by
      rw [List.map_append] at nd
      exact (List.nodup_append.mp nd).2.2 p.1 (List.mem_map.mpr ⟨p, hp, rfl⟩) x (List.mem_map.mpr ⟨(x, d), List.mem_cons_self .., rfl⟩) e
    have e1 : putK (acc.map kvOf) (Sum.inl x) (.int (d : Int)) = (acc ++ [(x, d)]).map kvOf := by
      unfold putK
      rw [if_neg, List.map_append]
      · rfl
      · intro h
        obtain ⟨kv, h1, h2⟩ := List.any_eq_true.mp h
        obtain ⟨p, hp, rfl⟩ := List.mem_map.mp h1
        have h3 : (Sum.inl p.1 : Key) = Sum.inl x := of_decide_eq_true h2
        injection h3 with h3
        exact hn p hp h3
    show mergeK (putK (acc.map kvOf) (Sum.inl x) (.int (d : Int))) (ps.map kvOf) = _
    rw [e1, mergeK_kn (ps := ps) (acc := acc ++ [(x, d)]) (by rw [List.append_assoc]; exact nd), List.append_assoc]
    rfl
theorem PIns.paired {K : PySem.W.Frag} {H : Hp} : ∀ {vs ps}, PIns H vs ps → ∃ as : List Addr, vs = as.map V.ref ∧ Paired (fun p (kv : Key × V) => SqT K H p [kV kv.1, kv.2]) as (ps.map kvOf)
  | _, _, .nil => ⟨[], rfl, .nil⟩
  | _, _, .cons (a := a) h r => by
    obtain ⟨as, e, p⟩ := r.paired (K := K)
    exact ⟨a :: as, by rw [e]; rfl, .cons (SqT.of h) p⟩
theorem upd_id {H : Hp} {a : Addr} {o : HO} (h : H a = some o) : upd H a o = H := by
  funext b
  unfold upd
  split
  · rename_i e
    rw [e, h]
  · rfl
theorem sub_len : ∀ {l1 l2 : List Int}, l1.Nodup → (∀ x ∈ l1, x ∈ l2) → l1.length ≤ l2.length
  | [], _, _, _ => Nat.zero_le _
  | x :: l1, l2, nd, h => by
    obtain ⟨n1, n2⟩ := List.nodup_cons.mp nd
    have hx : x ∈ l2 := h x (List.mem_cons_self ..)
    have h2 := sub_len (l2 := l2.erase x) n2 fun y hy => (List.mem_erase_of_ne (fun (z : y = x) => n1 (z ▸ hy))).mpr (h y (List.mem_cons_of_mem _ hy))
    rw [List.length_erase_of_mem hx] at h2
    have : 0 < l2.length := List.length_pos_of_mem hx
    simp only [List.length_cons]
    omega
theorem valV_some {x : Int} : ∀ (l : List (Int × Nat)), (valV (l.map kvOf) (Sum.inl x)).isSome = l.any fun p => decide (p.1 = x)
  | [] => rfl
  | (y, c) :: l => by
    have ih := valV_some (x := x) l
    unfold valV at ih ⊢
    rw [List.map_cons]
    by_cases e : y = x
    · rw [List.find?_cons_of_pos (by simp [kvOf, e])]
      simp [e]
    · rw [List.find?_cons_of_neg (by simp [kvOf, e]), ih]
      simp [e]
theorem TK.dict {H : Hp} {D : Addr} {a b : List (Key × V)} (h : H D = some (.dK a)) : TK H (upd H D (.dK b)) := fun c zs q => by
  rw [upd_ne (ne_of q h (by intro z; cases z))]
  exact q
theorem range_map_nodup (n : Nat) : ((List.range n).map fun (j : Nat) => (j : Int)).Nodup := by
  induction n with
  | zero => simp
  | succ n ih =>
    rw [List.range_succ, List.map_append]
    refine List.nodup_append.mpr ⟨ih, by simp, fun a ha b hb => ?_⟩
    obtain ⟨j, hj, rfl⟩ := List.mem_map.mp ha
    have := List.mem_range.mp hj
    simp only [List.map_cons, List.map_nil, List.mem_singleton] at hb
    omega
theorem cut01 (x : V) (xs : List V) : cutV (x :: xs) none (some 1) = [x] := by
  unfold cutV HT.sIx
  simp
theorem if_restS {c : TT} {a b u : TS} {D : Ends} {σ : L2.St} {H : Hp} (R : L2.St → Hp → Prop) (h2 : ∀ σ' H', R σ' H' → u D σ' H') (h1 : (∀ σ' H', R σ' H' → u D σ' H') → c σ H fun k H1 => if k = true then a { D with nx := u D } σ H1 else b { D with nx := u D } σ H1) : tSeq (tIfS c a b) u D σ H := h1 h2
theorem SqT.fr {K : PySem.W.Frag} {H : Hp} {a : Addr} {o : Obj} {xs : List V} (h : H a = some (.frz o (.tup xs))) : SqT K H a xs := .inl (.inr ⟨o, h⟩)
theorem Drawn.ne {K : PySem.W.Frag} {r : RD} {H : Hp} {D : Addr} (d : Draw K r H) (h : H D = none) : D ≠ r.r := by
  obtain ⟨o, ho⟩ := d.ref
  exact (ne_of_none ho h).symm
def spBody (K : PySem.W.Frag) (fs : List (List Nat × Nat)) (own : Nat) : Sp := fun vs H Q _ => ∃ (r : RD) (m : Addr) (fv : V) (b : Bool) (ps : List (Int × Nat)) (d : Nat), vs = [.ref r.r, .ref m, fv, .bl b] ∧ Draw K r H ∧ Gen H r m fs own ∧ FaceIn H fv ps d ∧ FaceOk ps d ∧ fs[own]? = some (ps.map (·.2), d) ∧
  ∀ (v : V) (H' : Hp) (e : Ex), Drawn K r H H' → TIn H' v e → Ty fs (envOf ps) e d → e.selfs (own : Int) ≤ 1 → e.hgt ≤ 12 → Q v H'
end NR
set_option maxHeartbeats 4000000
namespace NR
open PySem PySem.Spec PyProof.Rows L2
/-! ### what never changes stays -/
structure IK (H H' : Hp) : Prop where
  t : TK H H'
  f : ∀ b o xs, H b = some (.frz o (.tup xs)) → H' b = some (.frz o (.tup xs))
theorem IK.refl (H : Hp) : IK H H := ⟨.refl H, fun _ _ _ h => h⟩
theorem IK.trans {H H1 H2 : Hp} (a : IK H H1) (b : IK H1 H2) : IK H H2 := ⟨a.t.trans b.t, fun c o xs h => b.f c o xs (a.f c o xs h)⟩
theorem IK.of {H H' : Hp} (s : Same H H') : IK H H' := ⟨TK.of s, fun b o xs h => s b _ h⟩
theorem IK.lst {H : Hp} {D : Addr} {xs ys : List V} (h : H D = some (.lst xs)) : IK H (upd H D (.lst ys)) := ⟨TK.lst h, fun b o zs q => by
  rw [upd_ne (ne_of q h (by intro z; cases z))]
  exact q⟩
theorem IK.dict {H : Hp} {D : Addr} {a b : List (Key × V)} (h : H D = some (.dK a)) : IK H (upd H D (.dK b)) := ⟨TK.dict h, fun b o zs q => by
  rw [upd_ne (ne_of q h (by intro z; cases z))]
  exact q⟩
theorem Drawn.ik {K : PySem.W.Frag} {r : RD} {H H' : Hp} (g : Drawn K r H H') (d : Draw K r H) : IK H H' := by
  obtain ⟨p, x, l, h, _⟩ := d.ex
  exact ⟨g.tk d, fun b o xs q => g.s _ _ (ne_of q h (by intro z; cases z)) q⟩
/-! ### programs -/
structure Fn where
  ps : List (Int × Nat)
  d : Nat
  e : Ex
def Fn.face (f : Fn) : List Nat × Nat := (f.ps.map (·.2), f.d)
def facesOf (prog : List Fn) : List (List Nat × Nat) := prog.map Fn.face
/-- params in the heap, as a tuple that dict() takes -/
structure PtIn (H : Hp) (v : V) (ps : List (Int × Nat)) : Prop where
  ex : ∃ (pt : Addr) (o : Obj) (vs : List V), v = .ref pt ∧ H pt = some (.frz o (.tup vs)) ∧ o.dict = none ∧ PIns H vs ps
theorem PtIn.mono {H H' : Hp} {v : V} {ps : List (Int × Nat)} (p : PtIn H v ps) (k : IK H H') : PtIn H' v ps := by
  obtain ⟨pt, o, vs, e1, e2, e3, e4⟩ := p.ex
  exact ⟨pt, o, vs, e1, k.f _ _ _ e2, e3, e4.mono k.t⟩
inductive PgIns (H : Hp) : List V → List Fn → Prop
  | nil : PgIns H [] []
  | cons {a : Addr} {pv bv : V} {f : Fn} {vs : List V} {fs : List Fn} : H a = some (.tup [pv, dV f.d, bv]) → PtIn H pv f.ps → TIn H bv f.e → PgIns H vs fs → PgIns H (.ref a :: vs) (f :: fs)
theorem PgIns.mono {H H' : Hp} (k : IK H H') : ∀ {vs fs}, PgIns H vs fs → PgIns H' vs fs
  | _, _, .nil => .nil
  | _, _, .cons h p t r => .cons (k.t _ _ h) (p.mono k) (t.mono k.t) (r.mono k)
theorem PgIns.len {H : Hp} : ∀ {vs fs}, PgIns H vs fs → vs.length = fs.length
  | _, _, .nil => rfl
  | _, _, .cons _ _ _ r => congrArg (· + 1) r.len
theorem PgIns.snoc {H : Hp} {a : Addr} {pv bv : V} {f : Fn} (h1 : H a = some (.tup [pv, dV f.d, bv])) (h2 : PtIn H pv f.ps) (h3 : TIn H bv f.e) : ∀ {vs fs}, PgIns H vs fs → PgIns H (vs ++ [.ref a]) (fs ++ [f])
  | _, _, .nil => .cons h1 h2 h3 .nil
  | _, _, .cons x y z r => .cons x y z (r.snoc h1 h2 h3)
/-- a program that can be -/
structure Good (prog : List Fn) : Prop where
  few : prog.length ≤ 6
  fn : ∀ (i : Nat) (f : Fn), prog[i]? = some f → FaceOk f.ps f.d ∧ Ty (facesOf (prog.take (i + 1))) (envOf f.ps) f.e f.d ∧ f.e.selfs (i : Int) ≤ 1 ∧ f.e.size ≤ 60 ∧ f.e.hgt ≤ 13
theorem Good.snoc {prog : List Fn} {f : Fn} (g : Good prog) (hl : prog.length ≤ 5) (h : FaceOk f.ps f.d ∧ Ty (facesOf (prog ++ [f])) (envOf f.ps) f.e f.d ∧ f.e.selfs (prog.length : Int) ≤ 1 ∧ f.e.size ≤ 60 ∧ f.e.hgt ≤ 13) : Good (prog ++ [f]) := by
  refine ⟨by rw [List.length_append]; exact Nat.succ_le_succ hl, fun i f' hf => ?_⟩
  by_cases c : i < prog.length
  · rw [List.getElem?_append_left c] at hf
    rw [List.take_append_of_le_length (by omega)]
    exact g.fn i f' hf
  · have hi : i = prog.length := by
      have := (List.getElem?_eq_some_iff.mp hf).1
      rw [List.length_append] at this
      simp only [List.length_cons, List.length_nil] at this
      omega
    subst hi
    rw [List.getElem?_append_right (Nat.le_refl _), Nat.sub_self] at hf
    cases hf
    rw [List.take_of_length_le (by rw [List.length_append]; exact Nat.le_refl _)]
    exact h
theorem Good.lo {prog : List Fn} (g : Good prog) : ∀ p ∈ facesOf prog, p.2 ≤ 3 ∧ p.1.length ≤ 4 ∧ ∀ d ∈ p.1, d ≤ 3 := fun p hp => by
  obtain ⟨f, hf, rfl⟩ := List.mem_map.mp hp
  obtain ⟨i, hi, rfl⟩ := List.mem_iff_getElem.mp hf
  obtain ⟨h, _⟩ := g.fn i _ (List.getElem?_eq_getElem hi)
  refine ⟨h.hd, by rw [show (Fn.face prog[i]).1 = prog[i].ps.map (·.2) from rfl, List.length_map]; exact h.few, fun d hd => ?_⟩
  obtain ⟨q, hq, rfl⟩ := List.mem_map.mp hd
  exact (h.lo q hq).2.2
/-! ### few parts -/
mutual
theorem Ty.few {fs : List (List Nat × Nat)} (hf : ∀ p ∈ fs, p.1.length ≤ 4) : ∀ {ρ : Env1} {e : Ex} {d : Nat}, Ty fs ρ e d → e.few
  | _, _, _, .num _ _ => ⟨Nat.zero_le _, trivial⟩
  | _, _, _, .name _ _ _ _ => ⟨Nat.zero_le _, trivial⟩
  | _, _, _, .two _ a b => ⟨by show 2 ≤ 4; omega, a.few hf, b.few hf, trivial⟩
  | _, _, _, .ite c a b => ⟨by show 3 ≤ 4; omega, c.few hf, a.few hf, b.few hf, trivial⟩
  | _, _, _, .elet _ _ a b => ⟨by show 2 ≤ 4; omega, a.few hf, b.few hf, trivial⟩
  | _, _, _, .upto a => ⟨by show 1 ≤ 4; omega, a.few hf, trivial⟩
  | _, _, _, .len a => ⟨by show 1 ≤ 4; omega, a.few hf, trivial⟩
  | _, _, _, .sum a => ⟨by show 1 ≤ 4; omega, a.few hf, trivial⟩
  | _, _, _, .sums a => ⟨by show 1 ≤ 4; omega, a.few hf, trivial⟩
  | _, _, _, .one a _ => ⟨by show 1 ≤ 4; omega, a.few hf, trivial⟩
  | _, _, _, .pick a b => ⟨by show 2 ≤ 4; omega, a.few hf, b.few hf, trivial⟩
  | _, _, _, .put a b => ⟨by show 2 ≤ 4; omega, a.few hf, b.few hf, trivial⟩
  | _, _, _, .flat a => ⟨by show 1 ≤ 4; omega, a.few hf, trivial⟩
  | _, _, _, .each _ _ a b _ => ⟨by show 2 ≤ 4; omega, a.few hf, b.few hf, trivial⟩
  | _, _, _, .whr _ _ a b => ⟨by show 2 ≤ 4; omega, a.few hf, b.few hf, trivial⟩
  | _, _, _, .call _ f ps => by
    have h := ps.few hf
    exact ⟨by rw [h.1]; exact hf _ (List.mem_of_getElem? f), h.2⟩
theorem Tys.few {fs : List (List Nat × Nat)} (hf : ∀ p ∈ fs, p.1.length ≤ 4) : ∀ {ρ : Env1} {es : List Ex} {ds : List Nat}, Tys fs ρ es ds → es.length = ds.length ∧ fews es
  | _, _, _, .nil => ⟨rfl, trivial⟩
  | _, _, _, .cons a r => by
    have h := r.few hf
    exact ⟨congrArg (· + 1) h.1, a.few hf, h.2⟩
end
mutual
/-- without more than one part each, an expression is as large as it is high -/
theorem size_leaf : ∀ (n : Nat) (e : Ex), e.few → e.hgt ≤ n → e.size ≤ 5 ^ n
  | 0, e, _, h => by
    have := e.hgt_pos
    omega
  | n + 1, .node w k ps, f, h => by
    have h1 : 1 + hgts ps ≤ n + 1 := h
    have h2 := sizes_leaf n ps f.2 (by omega)
    have h3 : ps.length ≤ 4 := f.1
    have h4 : ps.length * 5 ^ n ≤ 4 * 5 ^ n := Nat.mul_le_mul_right _ h3
    have h5 : 1 ≤ 5 ^ n := Nat.one_le_pow _ _ (by omega)
    show 1 + sizes ps ≤ 5 ^ (n + 1)
    rw [Nat.pow_succ]
    omega
theorem sizes_leaf : ∀ (n : Nat) (es : List Ex), fews es → hgts es ≤ n → sizes es ≤ es.length * 5 ^ n
  | n, [], _, _ => Nat.zero_le _
  | n, e :: es, f, h => by
    have h1 : max e.hgt (hgts es) ≤ n := h
    have h2 := size_leaf n e f.1 (by omega)
    have h3 := sizes_leaf n es f.2 (by omega)
    show e.size + sizes es ≤ (es.length + 1) * 5 ^ n
    rw [Nat.add_mul]
    omega
end
def spProgram (K : PySem.W.Frag) : Sp := fun vs H Q _ => ∃ (r : RD) (most : Int), vs = [.ref r.r, .int most] ∧ Draw K r H ∧ 1 ≤ most ∧ most ≤ 6 ∧
  ∀ (a : Addr) (H' : Hp) (vs : List V) (prog : List Fn), Drawn K r H H' → H' a = some (.tup vs) → PgIns H' vs prog → Good prog → 1 ≤ prog.length → (prog.length : Int) ≤ most → Q (.ref a) H'
end NR
set_option maxHeartbeats 4000000
namespace NR
open PySem PySem.Spec PyProof.Rows L2
section
variable {X : Cx} (K : PySem.W.Frag)
theorem call_isiK (h : X.K = K := by rfl) : CallR X (.builtin "isinstance") (rIsi K) := h ▸ call_isi
theorem call_isiTK (h : X.K = K := by rfl) : CallR X (.builtin "isinstance") (rIsiT K) := h ▸ call_isiT
theorem ix_seqK (h : X.K = K := by rfl) : IxR X (rIx K) := h ▸ ix_seq
end
/-! ### data: whole numbers, texts, tuples and lists of these -/
inductive Da where
  | int (n : Int)
  | str (s : Str)
  | seq (l : Bool) (ds : List Da)
mutual
def Da.hgt : Da → Nat
  | .int _ => 1
  | .str _ => 1
  | .seq _ ds => 1 + dhgts ds
def dhgts : List Da → Nat
  | [] => 0
  | d :: ds => max d.hgt (dhgts ds)
end
theorem Da.hgt_pos (d : Da) : 0 < d.hgt := by
  cases d <;> simp only [Da.hgt] <;> omega
/-- the object at a is a list, a tuple of these -/
def SeqA (H : Hp) (l : Bool) (a : Addr) (vs : List V) : Prop := (l = true ∧ H a = some (.lst vs)) ∨ (l = false ∧ (H a = some (.tup vs) ∨ ∃ o, H a = some (.frz o (.tup vs))))
mutual
inductive DIn (H : Hp) : V → Da → Prop
  | int {n : Int} : DIn H (.int n) (.int n)
  | str {s : Str} : DIn H (.str s) (.str s)
  | seq {l : Bool} {a : Addr} {vs : List V} {ds : List Da} : SeqA H l a vs → vs.length ≤ 1000 → DIns H vs ds → DIn H (.ref a) (.seq l ds)
inductive DIns (H : Hp) : List V → List Da → Prop
  | nil : DIns H [] []
  | cons {v : V} {vs : List V} {d : Da} {ds : List Da} : DIn H v d → DIns H vs ds → DIns H (v :: vs) (d :: ds)
end
theorem SeqA.same {H H' : Hp} {l : Bool} {a : Addr} {vs : List V} (h : SeqA H l a vs) (s : Same H H') : SeqA H' l a vs := by
  rcases h with ⟨e, h⟩ | ⟨e, h | ⟨o, h⟩⟩
  · exact .inl ⟨e, s _ _ h⟩
  · exact .inr ⟨e, .inl (s _ _ h)⟩
  · exact .inr ⟨e, .inr ⟨o, s _ _ h⟩⟩
theorem SeqA.sq {K : PySem.W.Frag} {H : Hp} {l : Bool} {a : Addr} {vs : List V} (h : SeqA H l a vs) : SqL K H a vs ∨ SqT K H a vs := by
  rcases h with ⟨_, h⟩ | ⟨_, h | ⟨o, h⟩⟩
  · exact .inl (SqL.of h)
  · exact .inr (SqT.of h)
  · exact .inr (.inl (.inr ⟨o, h⟩))
theorem SeqA.ty {K : PySem.W.Frag} {H : Hp} {l : Bool} {a : Addr} {vs : List V} (h : SeqA H l a vs) : TyX K H (.ref a) (.type (if l = true then "list" else "tuple")) := by
  rcases h with ⟨rfl, h⟩ | ⟨rfl, h | ⟨o, h⟩⟩
  · exact .base (.lst h)
  · exact .base (.tup h)
  · exact .fTuple h
theorem SeqA.at {K : PySem.W.Frag} {H : Hp} {l : Bool} {a : Addr} {vs : List V} (h : SeqA H l a vs) {i : Nat} {v : V} (hv : vs[i]? = some v) {Q : VK} (q : Q v H) : rIx K (.ref a) (.int (i : Int)) H Q := by
  rcases h.sq (K := K) with h | h
  · exact .inl ⟨a, vs, _, v, rfl, rfl, h, atI_nat hv, q⟩
  · exact .inr (.inl ⟨a, vs, _, v, rfl, rfl, h, atI_nat hv, q⟩)
mutual
theorem DIn.same {H H' : Hp} (s : Same H H') : ∀ {v : V} {d : Da}, DIn H v d → DIn H' v d
  | _, _, .int => .int
  | _, _, .str => .str
  | _, _, .seq h l r => .seq (h.same s) l (r.same s)
theorem DIns.same {H H' : Hp} (s : Same H H') : ∀ {vs : List V} {ds : List Da}, DIns H vs ds → DIns H' vs ds
  | _, _, .nil => .nil
  | _, _, .cons h r => .cons (h.same s) (r.same s)
end
theorem DIns.len {H : Hp} : ∀ {vs : List V} {ds : List Da}, DIns H vs ds → vs.length = ds.length
  | _, _, .nil => rfl
  | _, _, .cons _ r => congrArg (· + 1) r.len
theorem DIns.get {H : Hp} : ∀ {vs : List V} {ds : List Da} (_ : DIns H vs ds) (i : Nat) {d : Da}, ds[i]? = some d → ∃ v, vs[i]? = some v ∧ DIn H v d ∧ d.hgt ≤ dhgts ds
  | _, _, .nil, i, _, h => by simp at h
  | _, _, .cons (ds := ds) h1 _, 0, d, h => by
    cases h
    exact ⟨_, rfl, h1, by simp only [dhgts]; omega⟩
  | _, _, .cons (d := d0) (ds := ds) _ r, i + 1, d, h => by
    obtain ⟨v, e1, e2, e3⟩ := r.get i h
    exact ⟨v, e1, e2, by simp only [dhgts]; omega⟩
def spAlike (K : PySem.W.Frag) (n : Nat) : Sp := fun vs H Q _ => ∃ (u v : V) (d : Da), vs = [u, v] ∧ DIn H u d ∧ DIn H v d ∧ d.hgt ≤ n ∧ ∀ H', Same H H' → Q (.bl true) H'
end NR
set_option maxHeartbeats 4000000
namespace NR
open PySem PySem.Spec PyProof.Rows L2
/-! ### expressions with their places and depths -/
inductive Nd where
  | node (w : W) (p : Nat) (n : Int) (ps : List Nd) (d : Nat)
def Nd.d : Nd → Nat
  | .node _ _ _ _ d => d
mutual
def Nd.size : Nd → Nat
  | .node _ _ _ ps _ => 1 + nsizes ps
def nsizes : List Nd → Nat
  | [] => 0
  | e :: es => e.size + nsizes es
end
mutual
def Nd.hgt : Nd → Nat
  | .node _ _ _ ps _ => 1 + nhgts ps
def nhgts : List Nd → Nat
  | [] => 0
  | e :: es => max e.hgt (nhgts es)
end
theorem Nd.hgt_pos (e : Nd) : 0 < e.hgt := by
  cases e
  unfold Nd.hgt
  omega
theorem Nd.size_pos (e : Nd) : 0 < e.size := by
  cases e
  unfold Nd.size
  omega
theorem nsizes_len : ∀ (l : List Nd), l.length ≤ nsizes l
  | [] => Nat.le_refl _
  | e :: l => by
    have := nsizes_len l
    have := e.size_pos
    show l.length + 1 ≤ e.size + nsizes l
    omega
/-- the depth that comes of the parts' depths -/
inductive Dep : W → List Nat → Nat → Prop
  | num : Dep .num [] 0
  | two {w : W} : (w = .plus ∨ w = .minus ∨ w = .times ∨ w = .less ∨ w = .same) → Dep w [0, 0] 0
  | ite {d : Nat} : Dep .ite [0, d, d] d
  | elet {c d : Nat} : Dep .elet [c, d] d
  | upto : Dep .upto [0] 1
  | len {d : Nat} : Dep .len [d + 1] 0
  | sum : Dep .sum [1] 0
  | sums : Dep .sums [1] 1
  | one {d : Nat} : d < 3 → Dep .one [d] (d + 1)
  | pick {d : Nat} : Dep .pick [d + 1, 0] d
  | put {d : Nat} : Dep .put [d + 1, d + 1] (d + 1)
  | flat {d : Nat} : Dep .flat [d + 2] (d + 1)
  | each {c d : Nat} : d < 3 → Dep .each [c + 1, d] (d + 1)
  | whr {c : Nat} : Dep .whr [c + 1, 0] (c + 1)
theorem Dep.ite3 {ds : List Nat} {d : Nat} : Dep .ite ds d → ds.length = 3
  | .ite => rfl
  | .two h => by simp at h
mutual
inductive An (fs : List (List Nat × Nat)) : Env1 → Nat → Ex → Nd → Prop
  | num {ρ : Env1} {p : Nat} {n : Int} : 0 ≤ n → n ≤ 10006 → An fs ρ p (.node .num n []) (.node .num p n [] 0)
  | name {ρ : Env1} {p : Nat} {x : Int} {d : Nat} : 0 ≤ x → x ≤ 19 → ρ x = some d → d ≤ 3 → An fs ρ p (.node .name x []) (.node .name p x [] d)
  | bind {ρ : Env1} {p : Nat} {w : W} {x : Int} {a b : Ex} {na nb : Nd} {d : Nat} : w.lay = 1 → 0 ≤ x → x ≤ 19 → An fs ρ (p + 1) a na → w.off ≤ na.d → An fs (ups ρ x (na.d - w.off)) (p + 1 + a.size) b nb → Dep w [na.d, nb.d] d → An fs ρ p (.node w x [a, b]) (.node w p x [na, nb] d)
  | call {ρ : Env1} {p k : Nat} {ps : List Ex} {nps : List Nd} {ds : List Nat} {d : Nat} : k ≤ 5 → fs[k]? = some (ds, d) → Ans fs ρ (p + 1) ps nps → nps.map Nd.d = ds → An fs ρ p (.node .call (k : Int) ps) (.node .call p (k : Int) nps d)
  | bare {ρ : Env1} {p : Nat} {w : W} {ps : List Ex} {nps : List Nd} {d : Nat} : w.lay = 3 → Ans fs ρ (p + 1) ps nps → Dep w (nps.map Nd.d) d → An fs ρ p (.node w (-1) ps) (.node w p (-1) nps d)
inductive Ans (fs : List (List Nat × Nat)) : Env1 → Nat → List Ex → List Nd → Prop
  | nil {ρ : Env1} {p : Nat} : Ans fs ρ p [] []
  | cons {ρ : Env1} {p : Nat} {e : Ex} {es : List Ex} {nd : Nd} {nds : List Nd} : An fs ρ p e nd → Ans fs ρ (p + e.size) es nds → Ans fs ρ p (e :: es) (nd :: nds)
end
theorem ans1 {fs : List (List Nat × Nat)} {ρ : Env1} {p : Nat} {a : Ex} {na : Nd} (h : An fs ρ p a na) : Ans fs ρ p [a] [na] := .cons h .nil
theorem ans2 {fs : List (List Nat × Nat)} {ρ : Env1} {p : Nat} {a b : Ex} {na nb : Nd} (h : An fs ρ p a na) (h' : An fs ρ (p + a.size) b nb) : Ans fs ρ p [a, b] [na, nb] := .cons h (.cons h' .nil)
mutual
theorem Ty.an {fs : List (List Nat × Nat)} : ∀ {ρ : Env1} {e : Ex} {d : Nat}, Ty fs ρ e d → ∀ p, ∃ nd, An fs ρ p e nd ∧ nd.d = d
  | _, _, _, .num h h', p => ⟨_, .num h h', rfl⟩
  | _, _, _, .name h h' h1 h2, p => ⟨_, .name h h' h1 h2, rfl⟩
  | _, _, _, .two (a := a) hw ha hb, p => by
    obtain ⟨na, h1, e1⟩ := ha.an (p + 1)
    obtain ⟨nb, h2, e2⟩ := hb.an (p + 1 + a.size)
    exact ⟨_, .bare (by rcases hw with rfl | rfl | rfl | rfl | rfl <;> rfl) (ans2 h1 h2) (by simp only [List.map_cons, List.map_nil, e1, e2]; exact .two hw), rfl⟩
  | _, _, _, .ite (c := c) (a := a) hc ha hb, p => by
    obtain ⟨nc, h0, e0⟩ := hc.an (p + 1)
    obtain ⟨na, h1, e1⟩ := ha.an (p + 1 + c.size)
    obtain ⟨nb, h2, e2⟩ := hb.an (p + 1 + c.size + a.size)
    exact ⟨_, .bare rfl (.cons h0 (ans2 h1 h2)) (by simp only [List.map_cons, List.map_nil, e0, e1, e2]; exact .ite), rfl⟩
  | _, _, _, .elet (a := a) h0 h1 ha hb, p => by
    obtain ⟨na, h2, e1⟩ := ha.an (p + 1)
    obtain ⟨nb, h3, e2⟩ := hb.an (p + 1 + a.size)
    exact ⟨_, .bind rfl h0 h1 h2 (Nat.zero_le _) (by rw [e1]; exact h3) (by rw [e2]; exact .elet), rfl⟩
  | _, _, _, .upto ha, p => by
    obtain ⟨na, h1, e1⟩ := ha.an (p + 1)
    exact ⟨_, .bare rfl (ans1 h1) (by simp only [List.map_cons, List.map_nil, e1]; exact .upto), rfl⟩
  | _, _, _, .len ha, p => by
    obtain ⟨na, h1, e1⟩ := ha.an (p + 1)
    exact ⟨_, .bare rfl (ans1 h1) (by simp only [List.map_cons, List.map_nil, e1]; exact .len), rfl⟩
  | _, _, _, .sum ha, p => by
    obtain ⟨na, h1, e1⟩ := ha.an (p + 1)
    exact ⟨_, .bare rfl (ans1 h1) (by simp only [List.map_cons, List.map_nil, e1]; exact .sum), rfl⟩
  | _, _, _, .sums ha, p => by
    obtain ⟨na, h1, e1⟩ := ha.an (p + 1)
    exact ⟨_, .bare rfl (ans1 h1) (by simp only [List.map_cons, List.map_nil, e1]; exact .sums), rfl⟩
  | _, _, _, .one ha hd, p => by
    obtain ⟨na, h1, e1⟩ := ha.an (p + 1)
    exact ⟨_, .bare rfl (ans1 h1) (by simp only [List.map_cons, List.map_nil, e1]; exact .one hd), rfl⟩
  | _, _, _, .pick (a := a) ha hb, p => by
    obtain ⟨na, h1, e1⟩ := ha.an (p + 1)
    obtain ⟨nb, h2, e2⟩ := hb.an (p + 1 + a.size)
    exact ⟨_, .bare rfl (ans2 h1 h2) (by simp only [List.map_cons, List.map_nil, e1, e2]; exact .pick), rfl⟩
  | _, _, _, .put (a := a) ha hb, p => by
    obtain ⟨na, h1, e1⟩ := ha.an (p + 1)
    obtain ⟨nb, h2, e2⟩ := hb.an (p + 1 + a.size)
    exact ⟨_, .bare rfl (ans2 h1 h2) (by simp only [List.map_cons, List.map_nil, e1, e2]; exact .put), rfl⟩
  | _, _, _, .flat ha, p => by
    obtain ⟨na, h1, e1⟩ := ha.an (p + 1)
    exact ⟨_, .bare rfl (ans1 h1) (by simp only [List.map_cons, List.map_nil, e1]; exact .flat), rfl⟩
  | _, _, _, .each (a := a) h0 h1 ha hb hd, p => by
    obtain ⟨na, h2, e1⟩ := ha.an (p + 1)
    obtain ⟨nb, h3, e2⟩ := hb.an (p + 1 + a.size)
    exact ⟨_, .bind rfl h0 h1 h2 (by rw [e1]; exact Nat.succ_le_succ (Nat.zero_le _)) (by rw [e1]; exact h3) (by rw [e1, e2]; exact .each hd), rfl⟩
  | _, _, _, .whr (a := a) h0 h1 ha hb, p => by
    obtain ⟨na, h2, e1⟩ := ha.an (p + 1)
    obtain ⟨nb, h3, e2⟩ := hb.an (p + 1 + a.size)
    exact ⟨_, .bind rfl h0 h1 h2 (by rw [e1]; exact Nat.succ_le_succ (Nat.zero_le _)) (by rw [e1]; exact h3) (by rw [e1, e2]; exact .whr), rfl⟩
  | _, _, _, .call hk hf hp, p => by
    obtain ⟨nps, h1, e1⟩ := hp.an (p + 1)
    exact ⟨_, .call hk hf h1 e1, rfl⟩
theorem Tys.an {fs : List (List Nat × Nat)} : ∀ {ρ : Env1} {es : List Ex} {ds : List Nat}, Tys fs ρ es ds → ∀ p, ∃ nds, Ans fs ρ p es nds ∧ nds.map Nd.d = ds
  | _, _, _, .nil, p => ⟨[], .nil, rfl⟩
  | _, _, _, .cons (e := e) ha hr, p => by
    obtain ⟨na, h1, e1⟩ := ha.an p
    obtain ⟨nds, h2, e2⟩ := hr.an (p + e.size)
    exact ⟨_, .cons h1 h2, by rw [List.map_cons, e1, e2]⟩
end
mutual
theorem An.sz {fs : List (List Nat × Nat)} : ∀ {ρ : Env1} {p : Nat} {e : Ex} {nd : Nd}, An fs ρ p e nd → nd.size = e.size ∧ nd.hgt = e.hgt
  | _, _, _, _, .num _ _ => ⟨rfl, rfl⟩
  | _, _, _, _, .name _ _ _ _ => ⟨rfl, rfl⟩
  | _, _, _, _, .bind _ _ _ ha _ hb _ => by
    have h1 := ha.sz
    have h2 := hb.sz
    simp only [Nd.size, nsizes, Ex.size, sizes, Nd.hgt, nhgts, Ex.hgt, hgts, h1, h2, and_self]
  | _, _, _, _, .call _ _ hp _ => by
    have h1 := hp.sz
    simp only [Nd.size, Ex.size, Nd.hgt, Ex.hgt, h1, and_self]
  | _, _, _, _, .bare _ hp _ => by
    have h1 := hp.sz
    simp only [Nd.size, Ex.size, Nd.hgt, Ex.hgt, h1, and_self]
theorem Ans.sz {fs : List (List Nat × Nat)} : ∀ {ρ : Env1} {p : Nat} {es : List Ex} {nds : List Nd}, Ans fs ρ p es nds → nsizes nds = sizes es ∧ nhgts nds = hgts es
  | _, _, _, _, .nil => ⟨rfl, rfl⟩
  | _, _, _, _, .cons ha hr => by
    have h1 := ha.sz
    have h2 := hr.sz
    simp only [nsizes, sizes, nhgts, hgts, h1, h2, and_self]
end
/-! ### rows of flat code -/
inductive Row where
  | num (p r : Nat) (n : Int)
  | bare (w : W) (p r : Nat) (as : List Nat) (dd : Option Nat)
  | call (p r : Nat) (k : Int) (as : List Nat)
  | ite (p r c : Nat) (tk : List Nat) (ra : List Row) (ta : Nat) (rb : List Row) (tb : Nat)
  | ea (w : W) (p r a da it : Nat) (tk : List Nat) (rs : List Row) (t d : Nat)
def nDa (n : Nat) : Da := .int (n : Int)
def oDa : Option Nat → List Da
  | some d => [nDa d]
  | none => []
mutual
def Row.da : Row → Da
  | .num p r n => .seq false [.str "num", nDa p, nDa r, .int n]
  | .bare w p r as dd => .seq false (.str w.str :: nDa p :: nDa r :: (as.map nDa ++ oDa dd))
  | .call p r k as => .seq false [.str "call", nDa p, nDa r, .int k, .seq false (as.map nDa)]
  | .ite p r c tk ra ta rb tb => .seq false [.str "if", nDa p, nDa r, nDa c, .seq false (tk.map nDa), .seq false (rowsDa ra), nDa ta, .seq false (rowsDa rb), nDa tb]
  | .ea w p r a da it tk rs t d => .seq false [.str w.str, nDa p, nDa r, nDa a, nDa da, nDa it, .seq false (tk.map nDa), .seq false (rowsDa rs), nDa t, nDa d]
def rowsDa : List Row → List Da
  | [] => []
  | r :: rs => r.da :: rowsDa rs
end
theorem rowsDa_append : ∀ (a b : List Row), rowsDa (a ++ b) = rowsDa a ++ rowsDa b
  | [], _ => rfl
  | r :: a, b => congrArg (r.da :: ·) (rowsDa_append a b)
theorem rowsDa_len : ∀ (a : List Row), (rowsDa a).length = a.length
  | [] => rfl
  | r :: a => congrArg (· + 1) (rowsDa_len a)
def Row.reads : Row → List Nat
  | .num _ _ _ => []
  | .bare _ _ _ as _ => as
  | .call _ _ _ as => as
  | .ite _ _ c tk _ _ _ _ => c :: tk
  | .ea _ _ _ a _ _ tk _ _ _ => a :: tk
/-- the registers below f among L, rising -/
def tin (L : List Nat) (f : Nat) : List Nat := (List.range f).filter fun k => decide (k ∈ L)
def seen1 (rs : List Row) (t : Nat) : List Nat := t :: rs.flatMap Row.reads
/-- words whose rows tell the depth of the first part -/
def W.wd : W → Bool
  | .pick | .put | .flat | .one => true
  | _ => false
def headD : List Nd → Option Nat
  | [] => none
  | a :: _ => some a.d
mutual
inductive Lay : Nd → Env1 → Nat → List Row → Nat → Nat → Prop
  | num {p : Nat} {n : Int} {d r : Nat} {ε : Env1} : Lay (.node .num p n [] d) ε r [.num p r n] r (r + 1)
  | name {p : Nat} {x : Int} {d r t : Nat} {ε : Env1} : ε x = some t → Lay (.node .name p x [] d) ε r [] t r
  | elet {p : Nat} {x : Int} {a b : Nd} {d r r1 r2 ta tb : Nat} {ε : Env1} {ra rb : List Row} : Lay a ε r ra ta r1 → Lay b (ups ε x ta) r1 rb tb r2 → Lay (.node .elet p x [a, b] d) ε r (ra ++ rb) tb r2
  | ite {p : Nat} {n : Int} {c a b : Nd} {d r r1 r2 r3 tc ta tb : Nat} {ε : Env1} {rc ra rb : List Row} : Lay c ε r rc tc r1 → Lay a ε r1 ra ta r2 → Lay b ε r2 rb tb r3 →
      Lay (.node .ite p n [c, a, b] d) ε r (rc ++ [.ite p r3 tc (tin (seen1 ra ta ++ seen1 rb tb) r1) ra ta rb tb]) r3 (r3 + 1)
  | ea {p : Nat} {x : Int} {w : W} {a b : Nd} {d r r1 r2 ta tb : Nat} {ε : Env1} {ra rb : List Row} : (w = .each ∨ w = .whr) → Lay a ε r ra ta r1 → Lay b (ups ε x r1) (r1 + 1) rb tb r2 →
      Lay (.node w p x [a, b] d) ε r (ra ++ [.ea w p r2 ta a.d r1 (tin (seen1 rb tb) r1) rb tb d]) r2 (r2 + 1)
  | call {p : Nat} {k : Int} {ps : List Nd} {d r r1 : Nat} {ε : Env1} {rs : List Row} {ts : List Nat} : Lays ps ε r rs ts r1 → Lay (.node .call p k ps d) ε r (rs ++ [.call p r1 k ts]) r1 (r1 + 1)
  | bare {w : W} {p : Nat} {n : Int} {ps : List Nd} {d r r1 : Nat} {ε : Env1} {rs : List Row} {ts : List Nat} : w.lay = 3 → w ≠ .ite → Lays ps ε r rs ts r1 →
      Lay (.node w p n ps d) ε r (rs ++ [.bare w p r1 ts (if w.wd = true then headD ps else none)]) r1 (r1 + 1)
inductive Lays : List Nd → Env1 → Nat → List Row → List Nat → Nat → Prop
  | nil {r : Nat} {ε : Env1} : Lays [] ε r [] [] r
  | cons {a : Nd} {l : List Nd} {r r1 r2 t : Nat} {ε : Env1} {ra rl : List Row} {ts : List Nat} : Lay a ε r ra t r1 → Lays l ε r1 rl ts r2 → Lays (a :: l) ε r (ra ++ rl) (t :: ts) r2
end
theorem lay3 {p : Nat} {n : Int} {d r r1 : Nat} {ε : Env1} {rs : List Row} {ts : List Nat} {nps : List Nd} (l : Lays nps ε r rs ts r1) (h : nps.length = 3) : ∃ rs t r', Lay (.node .ite p n nps d) ε r rs t r' := by
  obtain _ | ⟨l0, l⟩ := l
  · simp at h
  obtain _ | ⟨l1, l⟩ := l
  · simp at h
  obtain _ | ⟨l2, l⟩ := l
  · simp at h
  obtain _ | ⟨l3, l⟩ := l
  · exact ⟨_, _, _, .ite l0 l1 l2⟩
  · simp at h
/-- a name that has a depth has a register -/
def Cov (ρ ε : Env1) : Prop := ∀ x d, ρ x = some d → ∃ t, ε x = some t
theorem Cov.ups {ρ ε : Env1} (c : Cov ρ ε) (x : Int) (d t : Nat) : Cov (ups ρ x d) (NR.ups ε x t) := fun y e h => by
  unfold NR.ups at h ⊢
  by_cases q : y = x
  · exact ⟨t, if_pos q⟩
  · rw [if_neg q] at h ⊢
    exact c y e h
mutual
theorem An.lay {fs : List (List Nat × Nat)} : ∀ {ρ : Env1} {p : Nat} {e : Ex} {nd : Nd}, An fs ρ p e nd → ∀ (ε : Env1), Cov ρ ε → ∀ r, ∃ rs t r', Lay nd ε r rs t r'
  | _, _, _, _, .num _ _, ε, c, r => ⟨_, _, _, .num⟩
  | _, _, _, _, .name _ _ h _, ε, c, r => by
    obtain ⟨t, ht⟩ := c _ _ h
    exact ⟨_, _, _, .name ht⟩
  | _, _, _, _, .bind (w := w) (x := x) (na := na) hw _ _ ha ho hb hd, ε, c, r => by
    obtain ⟨ra, ta, r1, la⟩ := ha.lay ε c r
    have hw' : w = .elet ∨ w = .each ∨ w = .whr := by revert hw; cases w <;> simp [W.lay]
    rcases hw' with rfl | h
    · obtain ⟨rb, tb, r2, lb⟩ := hb.lay (ups ε x ta) (c.ups _ _ _) r1
      exact ⟨_, _, _, .elet la lb⟩
    · obtain ⟨rb, tb, r2, lb⟩ := hb.lay (ups ε x r1) (c.ups _ _ _) (r1 + 1)
      exact ⟨_, _, _, .ea h la lb⟩
  | _, _, _, _, .call _ _ hp _, ε, c, r => by
    obtain ⟨rs, ts, r1, l⟩ := hp.lay ε c r
    exact ⟨_, _, _, .call l⟩
  | _, _, _, _, .bare (w := w) hw hp hd, ε, c, r => by
    obtain ⟨rs, ts, r1, l⟩ := hp.lay ε c r
    by_cases q : w = .ite
    · subst q
      have hl := hd.ite3
      rw [List.length_map] at hl
      exact lay3 l hl
    · exact ⟨_, _, _, .bare hw q l⟩
theorem Ans.lay {fs : List (List Nat × Nat)} : ∀ {ρ : Env1} {p : Nat} {es : List Ex} {nds : List Nd}, Ans fs ρ p es nds → ∀ (ε : Env1), Cov ρ ε → ∀ r, ∃ rs ts r', Lays nds ε r rs ts r'
  | _, _, _, _, .nil, ε, c, r => ⟨_, _, _, .nil⟩
  | _, _, _, _, .cons ha hr, ε, c, r => by
    obtain ⟨ra, ta, r1, la⟩ := ha.lay ε c r
    obtain ⟨rs, ts, r2, l⟩ := hr.lay ε c r1
    exact ⟨_, _, _, .cons la l⟩
end
end NR
set_option maxHeartbeats 4000000
namespace NR
open PySem PySem.Spec PyProof.Rows L2
/-- how many of L lie below b -/
def below (b : Nat) (L : List Nat) : Nat := (L.filter fun k => decide (k < b)).length
theorem below_append (b : Nat) (L M : List Nat) : below b (L ++ M) = below b L + below b M := by
  unfold below
  rw [List.filter_append, List.length_append]
theorem below_nil (b : Nat) : below b [] = 0 := rfl
theorem below_cons (b x : Nat) (L : List Nat) : below b (x :: L) = below b [x] + below b L := below_append b [x] L
theorem below_le (b : Nat) (L : List Nat) : below b L ≤ L.length := List.length_filter_le _ _
theorem below_ge {b x : Nat} (h : b ≤ x) : below b [x] = 0 := by
  unfold below
  rw [List.filter_cons, if_neg (by simpa using h)]
  rfl
theorem tin_nodup (L : List Nat) (f : Nat) : (tin L f).Nodup := List.nodup_range.filter _
theorem tin_mem {L : List Nat} {f k : Nat} : k ∈ tin L f ↔ k ∈ L ∧ k < f := by
  unfold tin
  rw [List.mem_filter, List.mem_range, decide_eq_true_eq]
  exact And.comm
theorem sub_lenN {A : List Nat} : ∀ {B : List Nat}, A.Nodup → (∀ x ∈ A, x ∈ B) → A.length ≤ B.length := by
  induction A with
  | nil => intro B _ _; exact Nat.zero_le _
  | cons a A ih =>
    intro B nd h
    obtain ⟨n1, n2⟩ := List.nodup_cons.mp nd
    have ha : a ∈ B := h a (List.mem_cons_self ..)
    have h2 := ih (B := B.erase a) n2 fun x hx => (List.mem_erase_of_ne (fun z => n1 (by rw [← z]; exact hx))).mpr (h x (List.mem_cons_of_mem _ hx))
    rw [List.length_erase_of_mem ha] at h2
    have := List.length_pos_of_mem ha
    simp only [List.length_cons]
    omega
theorem below_tin (b : Nat) (L : List Nat) (f : Nat) : below b (tin L f) ≤ below b L := by
  unfold below
  refine sub_lenN ((tin_nodup L f).filter _) fun x hx => ?_
  obtain ⟨h1, h2⟩ := List.mem_filter.mp hx
  exact List.mem_filter.mpr ⟨(tin_mem.mp h1).1, h2⟩
theorem tin_len (L : List Nat) (f : Nat) : (tin L f).length ≤ below f L := by
  refine sub_lenN (tin_nodup L f) fun x hx => ?_
  obtain ⟨h1, h2⟩ := tin_mem.mp hx
  exact List.mem_filter.mpr ⟨h1, decide_eq_true h2⟩
mutual
theorem Lay.up : ∀ {nd : Nd} {ε : Env1} {r : Nat} {rs : List Row} {t r' : Nat}, Lay nd ε r rs t r' → r ≤ r' ∧ rs.length ≤ nd.size
  | _, _, _, _, _, _, .num => ⟨Nat.le_succ _, Nat.le_refl _⟩
  | _, _, _, _, _, _, .name _ => ⟨Nat.le_refl _, Nat.zero_le _⟩
  | _, _, _, _, _, _, .elet la lb => by
    have h1 := la.up
    have h2 := lb.up
    simp only [Nd.size, nsizes, List.length_append]
    omega
  | _, _, _, _, _, _, .ite lc la lb => by
    have h0 := lc.up
    have h1 := la.up
    have h2 := lb.up
    simp only [Nd.size, nsizes, List.length_append, List.length_cons, List.length_nil]
    omega
  | _, _, _, _, _, _, .ea _ la lb => by
    have h1 := la.up
    have h2 := lb.up
    simp only [Nd.size, nsizes, List.length_append, List.length_cons, List.length_nil]
    omega
  | _, _, _, _, _, _, .call l => by
    have h := l.up
    simp only [Nd.size, nsizes, List.length_append, List.length_cons, List.length_nil]
    omega
  | _, _, _, _, _, _, .bare _ _ l => by
    have h := l.up
    simp only [Nd.size, nsizes, List.length_append, List.length_cons, List.length_nil]
    omega
theorem Lays.up : ∀ {nds : List Nd} {ε : Env1} {r : Nat} {rs : List Row} {ts : List Nat} {r' : Nat}, Lays nds ε r rs ts r' → r ≤ r' ∧ rs.length ≤ nsizes nds ∧ ts.length = nds.length
  | _, _, _, _, _, _, .nil => ⟨Nat.le_refl _, Nat.le_refl _, rfl⟩
  | _, _, _, _, _, _, .cons la l => by
    have h1 := la.up
    have h2 := l.up
    simp only [nsizes, List.length_append, List.length_cons]
    omega
end
theorem fm_append (a b : List Row) : (a ++ b).flatMap Row.reads = a.flatMap Row.reads ++ b.flatMap Row.reads := List.flatMap_append
theorem fm_one (a : Row) : [a].flatMap Row.reads = a.reads := by simp
mutual
theorem Lay.cnt : ∀ {nd : Nd} {ε : Env1} {r : Nat} {rs : List Row} {t r' : Nat}, Lay nd ε r rs t r' → ∀ b, b ≤ r → below b (seen1 rs t) ≤ nd.size
  | _, _, _, _, _, _, .num, b, hb => by
    simp only [seen1, fm_one, Row.reads]
    exact Nat.le_trans (below_le _ _) (Nat.le_refl _)
  | _, _, _, _, _, _, .name _, b, hb => Nat.le_trans (below_le _ _) (Nat.le_refl _)
  | _, _, _, _, _, _, .elet (ra := ra) la lb, b, hb => by
    have h1 := la.cnt b hb
    have h2 := lb.cnt b (Nat.le_trans hb la.up.1)
    simp only [seen1] at h1 h2 ⊢
    rw [below_cons] at h1 h2 ⊢
    rw [fm_append, below_append]
    simp only [Nd.size, nsizes]
    omega
  | _, _, _, _, _, _, .ite (r1 := r1) (r3 := r3) (tc := tc) (ra := ra) (rb := rb) (ta := ta) (tb := tb) lc la lb, b, hb => by
    have u0 := lc.up
    have u1 := la.up
    have u2 := lb.up
    have h0 := lc.cnt b hb
    have h1 := la.cnt b (by omega)
    have h2 := lb.cnt b (by omega)
    have h3 := below_tin b (seen1 ra ta ++ seen1 rb tb) r1
    rw [below_append] at h3
    have h4 := below_ge (b := b) (x := r3) (by omega)
    generalize hL : seen1 ra ta ++ seen1 rb tb = L at h3 ⊢
    simp only [seen1] at h0 ⊢
    rw [below_cons] at h0 ⊢
    rw [fm_append, fm_one, below_append]
    simp only [Row.reads]
    rw [below_cons b tc]
    simp only [Nd.size, nsizes]
    omega
  | _, _, _, _, _, _, .ea (r1 := r1) (r2 := r2) (ta := ta) (rb := rb) (tb := tb) _ la lb, b, hb => by
    have u0 := la.up
    have u1 := lb.up
    have h0 := la.cnt b hb
    have h1 := lb.cnt b (by omega)
    have h3 := below_tin b (seen1 rb tb) r1
    have h4 := below_ge (b := b) (x := r2) (by omega)
    generalize hL : seen1 rb tb = L at h1 h3 ⊢
    simp only [seen1] at h0 ⊢
    rw [below_cons] at h0 ⊢
    rw [fm_append, fm_one, below_append]
    simp only [Row.reads]
    rw [below_cons b ta]
    simp only [Nd.size, nsizes]
    omega
  | _, _, _, _, _, _, .call (r1 := r1) l, b, hb => by
    have h1 := l.cnt b hb
    have h4 := below_ge (b := b) (x := r1) (by have := l.up; omega)
    simp only [seen1]
    rw [below_cons, fm_append, fm_one, below_append]
    simp only [Nd.size, Row.reads]
    omega
  | _, _, _, _, _, _, .bare (r1 := r1) _ _ l, b, hb => by
    have h1 := l.cnt b hb
    have h4 := below_ge (b := b) (x := r1) (by have := l.up; omega)
    simp only [seen1]
    rw [below_cons, fm_append, fm_one, below_append]
    simp only [Nd.size, Row.reads]
    omega
theorem Lays.cnt : ∀ {nds : List Nd} {ε : Env1} {r : Nat} {rs : List Row} {ts : List Nat} {r' : Nat}, Lays nds ε r rs ts r' → ∀ b, b ≤ r → below b (rs.flatMap Row.reads) + below b ts ≤ nsizes nds
  | _, _, _, _, _, _, .nil, b, hb => Nat.le_refl _
  | _, _, _, _, _, _, .cons (t := t) la l, b, hb => by
    have h1 := la.cnt b hb
    have h2 := l.cnt b (Nat.le_trans hb la.up.1)
    simp only [seen1] at h1
    rw [below_cons] at h1
    rw [below_cons b t, fm_append, below_append]
    simp only [nsizes]
    omega
end
/-! ### no row reads much -/
mutual
theorem Lay.rd : ∀ {nd : Nd} {ε : Env1} {r : Nat} {rs : List Row} {t r' : Nat}, Lay nd ε r rs t r' → ∀ row ∈ rs, row.reads.length ≤ nd.size
  | _, _, _, _, _, _, .num, row, h => by
    rw [List.mem_singleton.mp h]
    exact Nat.zero_le _
  | _, _, _, _, _, _, .name _, row, h => by cases h
  | _, _, _, _, _, _, .elet la lb, row, h => by
    simp only [Nd.size, nsizes]
    rcases List.mem_append.mp h with h | h
    · have := la.rd row h; omega
    · have := lb.rd row h; omega
  | _, _, _, _, _, _, .ite (r1 := r1) (ra := ra) (rb := rb) (ta := ta) (tb := tb) lc la lb, row, h => by
    simp only [Nd.size, nsizes]
    rcases List.mem_append.mp h with h | h
    · have := lc.rd row h; omega
    · rw [List.mem_singleton.mp h]
      have h1 := la.cnt r1 (Nat.le_refl _)
      have h2 := lb.cnt r1 la.up.1
      have h3 := tin_len (seen1 ra ta ++ seen1 rb tb) r1
      rw [below_append] at h3
      simp only [Row.reads, List.length_cons]
      omega
  | _, _, _, _, _, _, .ea (r1 := r1) (rb := rb) (tb := tb) _ la lb, row, h => by
    simp only [Nd.size, nsizes]
    rcases List.mem_append.mp h with h | h
    · have := la.rd row h; omega
    · rw [List.mem_singleton.mp h]
      have h1 := lb.cnt r1 (Nat.le_succ _)
      have h3 := tin_len (seen1 rb tb) r1
      simp only [Row.reads, List.length_cons]
      omega
  | _, _, _, _, _, _, .call (ps := ps) l, row, h => by
    simp only [Nd.size]
    rcases List.mem_append.mp h with h | h
    · have := l.rd row h; omega
    · rw [List.mem_singleton.mp h]
      have h1 := l.up
      have h2 := nsizes_len ps
      simp only [Row.reads]
      omega
  | _, _, _, _, _, _, .bare (ps := ps) _ _ l, row, h => by
    simp only [Nd.size]
    rcases List.mem_append.mp h with h | h
    · have := l.rd row h; omega
    · rw [List.mem_singleton.mp h]
      have h1 := l.up
      have h2 := nsizes_len ps
      simp only [Row.reads]
      omega
theorem Lays.rd : ∀ {nds : List Nd} {ε : Env1} {r : Nat} {rs : List Row} {ts : List Nat} {r' : Nat}, Lays nds ε r rs ts r' → ∀ row ∈ rs, row.reads.length ≤ nsizes nds
  | _, _, _, _, _, _, .nil, row, h => by cases h
  | _, _, _, _, _, _, .cons la l, row, h => by
    simp only [nsizes]
    rcases List.mem_append.mp h with h | h
    · have := la.rd row h; omega
    · have := l.rd row h; omega
end
/-! ### two rising lists of the same numbers -/
theorem rise_eq : ∀ {a b : List Int}, a.Pairwise (· < ·) → b.Pairwise (· < ·) → (∀ k, k ∈ a ↔ k ∈ b) → a = b
  | [], [], _, _, _ => rfl
  | [], y :: b, _, _, h => by simpa using (h y).mpr (List.mem_cons_self ..)
  | x :: a, [], _, _, h => by simpa using (h x).mp (List.mem_cons_self ..)
  | x :: a, y :: b, ha, hb, h => by
    obtain ⟨a1, a2⟩ := List.pairwise_cons.mp ha
    obtain ⟨b1, b2⟩ := List.pairwise_cons.mp hb
    have e : x = y := by
      rcases List.mem_cons.mp ((h x).mp (List.mem_cons_self ..)) with e | e
      · exact e
      · rcases List.mem_cons.mp ((h y).mpr (List.mem_cons_self ..)) with e2 | e2
        · exact e2.symm
        · have := b1 x e; have := a1 y e2; omega
    subst e
    refine congrArg (x :: ·) (rise_eq a2 b2 fun k => ⟨fun hk => ?_, fun hk => ?_⟩)
    · rcases List.mem_cons.mp ((h k).mp (List.mem_cons_of_mem _ hk)) with e | e
      · have := a1 k hk; omega
      · exact e
    · rcases List.mem_cons.mp ((h k).mpr (List.mem_cons_of_mem _ hk)) with e | e
      · have := b1 k hk; omega
      · exact e
def nI (n : Nat) : Int := (n : Int)
theorem tin_eq {L : List Nat} {f : Nat} {ns : List Int} (h1 : ns.Pairwise (· < ·)) (h2 : ∀ k : Int, k ∈ ns ↔ ∃ n : Nat, k = (n : Int) ∧ n ∈ L ∧ n < f) : ns = (tin L f).map nI := by
  refine rise_eq h1 ?_ fun k => ?_
  · refine List.pairwise_map.mpr ((List.pairwise_lt_range.filter _).imp fun h => ?_)
    unfold nI
    omega
  · rw [h2, List.mem_map]
    constructor
    · rintro ⟨n, rfl, a, b⟩
      exact ⟨n, tin_mem.mpr ⟨a, b⟩, rfl⟩
    · rintro ⟨n, a, rfl⟩
      exact ⟨n, rfl, (tin_mem.mp a).1, (tin_mem.mp a).2⟩
/-! ### how deep the rows are, as data -/
theorem dhgts_append : ∀ (a b : List Da), dhgts (a ++ b) = max (dhgts a) (dhgts b)
  | [], b => by simp [dhgts]
  | x :: a, b => by
    have := dhgts_append a b
    simp only [List.cons_append, dhgts]
    omega
theorem dhgts_n : ∀ (l : List Nat), dhgts (l.map nDa) ≤ 1
  | [] => Nat.zero_le _
  | x :: l => by
    have := dhgts_n l
    simp only [List.map_cons, dhgts, nDa, Da.hgt]
    omega
theorem dhgts_o : ∀ (o : Option Nat), dhgts (oDa o) ≤ 1
  | none => Nat.zero_le _
  | some d => by simp [oDa, nDa, dhgts, Da.hgt]
mutual
theorem Lay.dh : ∀ {nd : Nd} {ε : Env1} {r : Nat} {rs : List Row} {t r' : Nat}, Lay nd ε r rs t r' → dhgts (rowsDa rs) ≤ 2 * nd.hgt + 1
  | _, _, _, _, _, _, .num => by simp [rowsDa, Row.da, dhgts, Da.hgt, nDa, Nd.hgt, nhgts]
  | _, _, _, _, _, _, .name _ => Nat.zero_le _
  | _, _, _, _, _, _, .elet la lb => by
    have h1 := la.dh
    have h2 := lb.dh
    rw [rowsDa_append, dhgts_append]
    simp only [Nd.hgt, nhgts]
    omega
  | _, _, _, _, _, _, .ite (r1 := r1) (ra := ra) (rb := rb) (ta := ta) (tb := tb) lc la lb => by
    have h0 := lc.dh
    have h1 := la.dh
    have h2 := lb.dh
    have h3 := dhgts_n (tin (seen1 ra ta ++ seen1 rb tb) r1)
    rw [rowsDa_append, dhgts_append]
    simp only [Nd.hgt, nhgts, rowsDa, Row.da, dhgts, Da.hgt, nDa] at *
    omega
  | _, _, _, _, _, _, .ea (r1 := r1) (rb := rb) (tb := tb) _ la lb => by
    have h1 := la.dh
    have h2 := lb.dh
    have h3 := dhgts_n (tin (seen1 rb tb) r1)
    rw [rowsDa_append, dhgts_append]
    simp only [Nd.hgt, nhgts, rowsDa, Row.da, dhgts, Da.hgt, nDa] at *
    omega
  | _, _, _, _, _, _, .call (ts := ts) l => by
    have h := l.dh
    have h3 := dhgts_n ts
    rw [rowsDa_append, dhgts_append]
    simp only [Nd.hgt, rowsDa, Row.da, dhgts, Da.hgt, nDa] at *
    omega
  | _, _, _, _, _, _, .bare (w := w) (ps := ps) (ts := ts) _ _ l => by
    have h := l.dh
    have h3 := dhgts_n ts
    have h4 := dhgts_o (if w.wd = true then headD ps else none)
    rw [rowsDa_append, dhgts_append]
    simp only [Nd.hgt, rowsDa, Row.da, dhgts, Da.hgt, dhgts_append, nDa] at *
    omega
theorem Lays.dh : ∀ {nds : List Nd} {ε : Env1} {r : Nat} {rs : List Row} {ts : List Nat} {r' : Nat}, Lays nds ε r rs ts r' → dhgts (rowsDa rs) ≤ 2 * nhgts nds + 1
  | _, _, _, _, _, _, .nil => Nat.zero_le _
  | _, _, _, _, _, _, .cons la l => by
    have h1 := la.dh
    have h2 := l.dh
    rw [rowsDa_append, dhgts_append]
    simp only [nhgts]
    omega
end
end NR
set_option maxHeartbeats 4000000
namespace NR
open PySem PySem.Spec PyProof.Rows L2
/-- an empty set, as set() lays it -/
abbrev set00 (w : World) : Obj := { cls := .type "set", dict := none, data := .set #[] 0 (.fresh 0 0 (!w.params.followText "set-order")) }
section
variable {P : Program} {w : World} {A : Around} {E : Value → Shared → Prop} {s : Shared}
theorem call_set_lst {l : Addr} {items : Array Value} (ns : List Int) {Q : Value → Shared → Prop} (hh : A.handled = none) (hl : s.heap.IsList l items) (hit : IntsAre items.toList ns) (hb : ns.length + 1 < scanBound)
    (want : ∀ (h' : Heap) (tk c : Nat), SetR w h' s.heap.objs.size (fun j => decide (j ∈ ns)) c → c ≤ ns.length → (∀ b o, s.heap.get? b = some o → h'.get? b = some o) → Q (.ref s.heap.objs.size) { s with heap := h', toks := tk }) :
    wpAny (model P w) A (call (.type "set") [.ref l]) Q E s := by
  have hisz : items.size = ns.length := by have q := IntsAre.length hit; rwa [Array.length_toList] at q
  obtain ⟨c, tl, hmro⟩ := F.called_set.mro
  have hmade := F.called_set.made; have hsub := F.called_set.sub
  refine wpAny_call (codeAny_of_tree (show wpAny _ _ (callAny (.type "set") _) _ _ _ from wpAny_pure ⟨Code.quiet_builtin _ (by decide +kernel), codeAny_builtin F.entry_type_call ?_⟩))
  rw [Around.under_plain (weight_type_call_type "set" [.ref l] []) rfl]
  have h1 := F.called_set.notType; have h2 := F.called_set.canCreate; have hct := F.typeCall_set_1 (.ref l)
  repeat (any_goals (first | assumption | wp_step))
  refine codeAny_mono (code_set_led1 (.ref l) (E := E) (Q₁ := fun obj s₁ => obj = .ref s.heap.objs.size ∧ s₁ = { s with heap := s.heap.push (set00 w) }) ⟨rfl, rfl⟩) fun r s₁ hr => ?_
  cases r with
  | error e => exact hr
  | ok fl =>
    cases fl with
    | ret obj =>
      obtain ⟨rfl, rfl⟩ := hr
      have hS : (s.heap.push (set00 w)).get? s.heap.objs.size = some (set00 w) := Heap.get?_push_size _ rfl
      have hT : Shared.TypeIs { s with heap := s.heap.push (set00 w) } (.ref s.heap.objs.size) "set" := ⟨_, hS, rfl⟩
      have hli := F.called_set.init.lookup; have hbi := F.called_set.init.bind (.ref s.heap.objs.size)
      repeat (any_goals (first | assumption | wp_step))
      refine codeAny_mono (codeAny_call_builtin (R := wants (fun r s₂ => r = .none ∧ ∃ h' tk c, s₂ = { s with heap := h', toks := tk } ∧ SetR w h' s.heap.objs.size (fun j => decide (j ∈ ns)) c ∧ c ≤ ns.length ∧ (∀ b o, s.heap.get? b = some o → h'.get? b = some o)) E) F.called_set.init.plain F.entry_set_init (check_set_init_1 hT ?_)) fun r₂ s₂ hr₂ => ?_
      · obtain ⟨⟨ocls, odict, odata, oslots⟩, hol, hcl, nl, hdl⟩ := hl
        simp only at hcl hdl
        subst hcl hdl
        have hol' : (s.heap.push (set00 w)).get? l = some { cls := .type "list", dict := odict, data := .seq items nl, slots := oslots } := Heap.get?_push_of_some _ hol
        have hsls := F.sub_list_set; have hslf := F.sub_list_frozenset
        have hne : (Value.type "list" == Value.type "dict") = false := by decide
        have hl1 : (s.heap.push (set00 w)).IsList l items := ⟨_, hol', rfl, nl, rfl⟩
        unfold Builtin.«set.__init__» noKeywords Builtin.Frozenset.updateFrom
        generalize hPI : pyIter = PI
        wp_walk
        subst hPI
        refine wpAny_pyIter_list hl1 (wpAny_bind (wpAny_runValue ?_))
        have hlS : l < s.heap.objs.size := Heap.lt_size hol
        have hh3 : A.in1.in1.in1.handled = none := by simp [hh]
        have hz1 : (s.heap.push (set00 w)).objs.size = s.heap.objs.size + 1 := Heap.size_push ..
        have hneI : l ≠ (s.heap.push (set00 w)).objs.size := by rw [hz1]; exact Nat.ne_of_lt (Nat.lt_succ_of_lt hlS)
        have hSf : s.heap.objs.size ∉ [(s.heap.push (set00 w)).objs.size, l] := by
          rw [hz1]; intro z; rcases List.mem_cons.mp z with z | z
          · exact absurd z (Nat.ne_of_lt (Nat.lt_succ_self _))
          · rcases List.mem_cons.mp z with z | z
            · exact absurd z (Nat.ne_of_gt hlS)
            · cases z
        have hval : ∀ (i : Nat) (v : Value), items[i]? = some v → ∃ k t, ns[i]? = some k ∧ v = .int k t := fun i v hv => by
          have hi : i < ns.length := by rw [← hisz]; exact (Array.getElem?_eq_some_iff.mp hv).1
          obtain ⟨t, e⟩ := PyProof.Rows.IntsAre.int_at hit i v (by rw [Array.getElem?_toList]; exact hv)
          exact ⟨ns[i], t, List.getElem?_eq_getElem hi, by rw [e, List.getD_eq_getElem?_getD, List.getElem?_eq_getElem hi] <;> rfl⟩
        refine set_update_ints ((Walks.list hh3 _ l hneI items).toS) s.heap.objs.size hSf ns hisz hb hval (items.size - 0) 0 _ (by omega) (Nat.zero_le _) ⟨⟨_, Heap.get?_push_size _ rfl, rfl, rfl⟩, (hl1.push _)⟩ ⟨0, Nat.le_refl 0, setR_new_at (Heap.get?_push_of_some _ hS)⟩ ?hR
        intro s' c' hm hc' hS'
        obtain ⟨h', g2, d', tk', os'⟩ := s'
        have eg : g2 = s.gens := hm.gens
        have ed : d' = s.drawn := hm.drawn
        have eo : os' = s.os := hm.os
        subst eg ed eo
        rw [hisz] at hc'
        refine wpAny_pure (show wpAny _ _ (ret Value.none) _ _ _ from wpAny_pure ⟨rfl, h', tk', c', rfl, hS', hc', fun b o e => ?_⟩)
        have hb0 : b < s.heap.objs.size := Heap.lt_size e
        refine hm.heap b o (fun z => ?_) (Heap.get?_push_of_some _ (Heap.get?_push_of_some _ e))
        rcases List.mem_cons.mp z with z | z
        · exact absurd z (Nat.ne_of_lt hb0)
        · rcases List.mem_cons.mp z with z | z
          · exact absurd (z.trans hz1) (Nat.ne_of_lt (Nat.lt_succ_of_lt hb0))
          · cases z
      · cases r₂ with
        | error e => exact hr₂
        | ok fl₂ =>
          cases fl₂ with
          | ret r =>
            obtain ⟨rfl, h', tk, c', rfl, hS', hc', hk'⟩ := hr₂
            repeat (any_goals (first | assumption | wp_step))
            exact want _ _ _ hS' hc' hk'
          | _ => exact hr₂.elim
    | _ => exact hr.elim
end
section
variable {X : Cx} (K : PySem.W.Frag) (w : World)
/-- set(xs), xs a list of whole numbers -/
def rSetL (K : PySem.W.Frag) (w : World) : List V → Hp → VK → Prop := fun xs H Q => ∃ (l : Addr) (ns : List Int), xs = [.ref l] ∧ SqL K H l (ns.map V.int) ∧ ns.length ≤ 4000 ∧ ∀ (p : Addr) (c : Nat), H p = none → c ≤ ns.length → Q (.ref p) (upd H p (SetO w p (fun j => decide (j ∈ ns)) c))
theorem cr_setL (hc : X.calm = true) (h : X.K = K := by rfl) (hw : X.w = w := by rfl) : CallR X (.type "set") (rSetL K w) := by
  subst h hw
  rintro pins s σ H xs us Q I r ⟨l, ns, rfl, sq, hn, want⟩
  rw [Vals.ref1 r]
  obtain ⟨its, rv, pl, hz⟩ := I.list sq
  refine call_set_lst ns (I.ok.hd hc) pl.isList (ints_of_vals rv) (by unfold scanBound; omega) fun h' tk c R1 hcn k => ?_
  exact ⟨.ref _, upd H s.heap.objs.size (SetO X.w s.heap.objs.size (fun j => decide (j ∈ ns)) c), I.laid (t' := tk) k (Nat.le_refl _) (setO_new R1), rfl, want _ _ (I.hok.fresh (Nat.le_refl _)) hcn⟩
theorem cr_sortedSetK (hc : X.calm = true) (hw : X.w = w := by rfl) : CallR X (.builtin "sorted") (rSortedSet w) := hw ▸ cr_sortedSet hc
end
end NR
set_option maxHeartbeats 4000000
namespace NR
open PySem PySem.Spec PyProof.Rows L2
section
variable {prog : Program} {w : World} {K : Type} [DecidableEq K] {knd : KeyKind prog w K} {A : Around} {E : Value → Shared → Prop} {s : Shared}
theorem put_pairs {d : Addr} {kvs : List (K × Value)} {k : K} {key v : Value} {Q : Unit → Shared → Prop} (hkey : knd.is k key = true) (hm : s.heap.DictOf knd d kvs) (hsz : kvs.length ≤ sizeLine)
    (want : ∀ h', h'.DictOf knd d (stored kvs k v) → Heap.SameBut d s.heap h' → Q () { s with heap := h' }) : wpAny (model prog w) A (dictPut d (knd.hash k) key v) Q E s := by
  obtain ⟨o, es, ep, ho, hc, hd, hk, hp, hn⟩ := hm
  have hes : es.size ≤ sizeLine := by
    have e1 := hp.length
    rw [Array.length_toList] at e1
    omega
  unfold dictPut
  refine wpAny_bind (wpAny_dictFind_of hkey ho hd hk ?_)
  have hidx : (es.findIdx? fun e => knd.is k e.key) = kvs.findIdx? fun kv => decide (kv.1 = k) := by
    rw [← hp.findIdx k]; cases es; simp
  cases hi : es.findIdx? fun e => knd.is k e.key with
  | some i =>
    refine wpAny_updateDict ho hd (want _ ⟨_, _, ep, Heap.get?_update_self _ ho (Obj.isFreed_of_dict (Obj.data_mapDict hd _)), hc.mapDict _, Obj.data_mapDict hd _, hk.modify _ _, ?_, ?_⟩ (Heap.SameBut.update ..))
    · have hl : (es.toList.findIdx? fun e => knd.is k e.key) = some i := by rw [← hi]; cases es; simp
      have q := hp.modify hn hl v
      rw [stored, if_pos (any_of_findIdx_some (hidx ▸ hi))]
      cases es; simpa using q
    · rw [stored, if_pos (any_of_findIdx_some (hidx ▸ hi)), keys_map_store]; exact hn
  | none =>
    have hnot : k ∉ kvs.map (·.1) := not_mem_of_findIdx_none (hidx ▸ hi)
    have hany : ¬ (kvs.any fun kv => decide (kv.1 = k)) = true := fun z => by
      obtain ⟨kv, h1, h2⟩ := List.any_eq_true.mp z
      exact hnot (List.mem_map.mpr ⟨kv, h1, of_decide_eq_true h2⟩)
    refine wpAny_updateDictKeys (hz := hes) ho hd (want _ ⟨_, _, ep + 1, Heap.get?_update_self _ ho (Obj.isFreed_of_dict (Obj.data_mapDictKeys hd _)), hc.mapDictKeys _, Obj.data_mapDictKeys hd _, hk.push hkey _, ?_, ?_⟩ (Heap.SameBut.update ..))
    · have q := hp.append hkey (knd.hash k) v
      rw [stored, if_neg hany]
      cases es; simpa using q
    · rw [stored, if_neg hany, List.map_append]
      refine List.nodup_append.mpr ⟨hn, by simp, fun a ha b hb z => ?_⟩
      have e : b = k := by simpa using hb
      exact hnot (by rw [← e, ← z]; exact ha)
theorem merge_mapping {d o : Addr} {kvs more : List (K × Value)} {Q : Unit → Shared → Prop} (hdo : d ≠ o) (hoS : (o == sysModules) = false) (hnr : ∀ k a, knd.is k (.ref a) = false)
    (hd : s.heap.DictOf knd d kvs) (ho : s.heap.DictOf knd o more) (hsz : kvs.length + more.length ≤ sizeLine)
    (want : ∀ h', h'.DictOf knd d (merged kvs more) → Heap.SameBut d s.heap h' → Q () { s with heap := h' }) :
    wpAny (model prog w) A (mergeMapping d (.ref o) false) Q E s := by
  obtain ⟨od, esd, epd, hod, hcd, hdd, hkd, hpd, hnd⟩ := id hd
  obtain ⟨oo, eso, epo, hoo, hco, hdo', hko, hpo, hno⟩ := id ho
  have hlen : more.length = eso.size := by rw [← hpo.length, Array.length_toList]
  unfold mergeMapping
  refine wpAny_bind (wpAny_isInstance (b := true) ho.typeIs (by rw [isSubtype_type]; kernel_rfl) ?_)
  dsimp only
  rw [if_pos rfl]
  refine wpAny_bind (wpAny_specialOf ho.typeIs F.slot_dict_iter.lookup (wpAny_bind (wpAny_pure ?_)))
  have e1 : (some (Value.builtin "dict.__iter__") == some (Value.builtin "dict.__iter__")) = true := by decide
  rw [e1]
  dsimp only
  rw [if_neg (by rw [hoS]; exact Bool.false_ne_true)]
  have loop : wpAny (model prog w) A (do
      let l ← dictEntries o
      have size : Nat := l.size
      let epoch ← dictEpoch o
      forIn (List.range size) PUnit.unit fun i (_ : PUnit) => (do
        let l' ← dictEntries o
        match l'[i]? with
          | some e => do
            holding [e.key, e.val] (dictPut d e.hash e.key e.val)
            let ep' ← dictEpoch o
            if (ep' != epoch) = true then do
                (unsupported "dict.changed-during-merge" : Sem PUnit)
                pure (ForInStep.yield PUnit.unit)
              else pure (ForInStep.yield PUnit.unit)
          | _ => do
            (unsupported "dict.changed-during-merge" : Sem PUnit)
            pure (ForInStep.yield PUnit.unit) : Sem (ForInStep PUnit))
      pure ()) Q E s := by
    refine wpAny_bind (wpAny_dictEntries hoo hdo' (wpAny_bind (wpAny_dictEpoch hoo hdo' (wpAny_bind ?_))))
    rw [List.range_eq_range']
    refine wpAny_forIn_list _ (fun rest _ s' => ∃ h' i, s' = { s with heap := h' } ∧ rest = List.range' i (eso.size - i) ∧ i ≤ eso.size ∧ h'.DictOf knd d (merged kvs (more.take i)) ∧ h'.get? o = some oo ∧ Heap.SameBut d s.heap h') _ ?_ ?_ _ _ ⟨s.heap, 0, rfl, by simp, Nat.zero_le _, by simpa [merged] using hd, hoo, Heap.SameBut.refl _ _⟩
    · rintro x rest b s' ⟨h', i, rfl, hr, hi, hd', hoo', hs'⟩
      have hlt : i < eso.size := Nat.lt_of_not_le fun z => by rw [Nat.sub_eq_zero_of_le z] at hr; simp at hr
      obtain ⟨rfl, hrest⟩ : x = i ∧ rest = List.range' (i + 1) (eso.size - (i + 1)) := by
        rw [show eso.size - i = (eso.size - (i + 1)) + 1 by omega, List.range'_succ] at hr
        injection hr with h1 h2
        exact ⟨h1, h2⟩
      refine wpAny_bind (wpAny_dictEntries hoo' hdo' ?_)
      rw [Array.getElem?_eq_getElem hlt]
      obtain ⟨⟨k, v⟩, hkv⟩ : ∃ kv, more[x]? = some kv := ⟨more[x]'(by rw [hlen]; exact hlt), List.getElem?_eq_getElem _⟩
      obtain ⟨hkey, hval⟩ := hpo.get? (e := eso[x]) (by simp [hlt]) hkv
      obtain ⟨k', hkey', hhash⟩ := hko eso[x] (Array.getElem_mem hlt)
      obtain rfl : k' = k := knd.inj _ _ _ hkey' hkey
      dsimp only
      rw [hhash, hval]
      have hmx : (merged kvs (more.take x)).length ≤ sizeLine := by
        have q1 := merged_length_le kvs (more.take x)
        have q2 : (more.take x).length ≤ more.length := by rw [List.length_take]; omega
        omega
      refine wpAny_bind (wpAny_holding (put_pairs hkey hd' hmx fun h'' hd'' hs'' => ?_))
      have hoo'' : h''.get? o = some oo := (hs''.2 o (Ne.symm hdo)).trans hoo'
      refine wpAny_bind (wpAny_dictEpoch hoo'' hdo' ?_)
      rw [if_neg (by simp)]
      exact wpAny_pure ⟨h'', x + 1, rfl, hrest, hlt, by rw [merged_take_succ kvs more x (k', v) hkv]; exact hd'', hoo'', hs'.trans hs''⟩
    · rintro b s' ⟨h', i, rfl, hr, hi, hd', hoo', hs'⟩
      have hin : i = eso.size := Nat.le_antisymm hi (Nat.le_of_not_lt fun z => by
        rw [show eso.size - i = (eso.size - (i + 1)) + 1 by omega, List.range'_succ] at hr; exact nomatch hr)
      refine wpAny_pure (want h' ?_ hs')
      rw [hin, ← hlen, List.take_length] at hd'; exact hd'
  refine wpAny_bind (wpAny_dictEntries hod hdd ?_)
  split
  · refine wpAny_bind (wpAny_dictEntries hoo hdo' (wpAny_bind ?_))
    rw [← Array.forIn_toList]
    refine wpAny_forIn_list _ (fun rest _ s' => s' = s ∧ ∀ e ∈ rest, e ∈ eso) _ ?_ ?_ _ _ ⟨rfl, fun e he => by simpa using he⟩
    · rintro x rest b s' ⟨rfl, hin⟩
      obtain ⟨k, hk1, _⟩ := hko x (hin x (List.mem_cons_self ..))
      have hne : ∀ a, x.key ≠ .ref a := fun a z => by rw [z, hnr] at hk1; cases hk1
      split
      · rename_i a ea
        exact absurd ea (hne a)
      · exact wpAny_pure ⟨rfl, fun e he => hin e (List.mem_cons_of_mem _ he)⟩
    · rintro b s' ⟨rfl, _⟩
      exact loop
  · exact loop
end
theorem mix_noref {P : Program} {w : World} (k : Key) (a : Addr) : (mixKind P w).is k (.ref a) = false := by
  cases h : (mixKind P w).is k (.ref a) with
  | false => rfl
  | true => rcases keyIs_shape h with ⟨i, t, _, e⟩ | ⟨x, t, _, e⟩ <;> cases e
theorem merged_nil {κ : Type} [DecidableEq κ] (l : List (κ × Value)) (hn : (l.map (·.1)).Nodup) : merged [] l = l := merged_nil_of_nodup l hn
/-- {**d, k: v}: the new dict holds what stands in d, then k -/
def tDStar (td tk tv : TE) : TE := fun σ H Q => ∀ p, H p = none → td σ (upd H p (.dK [])) fun x H1 => ∃ (a : Addr) (kvs : List (Key × V)), x = .ref a ∧ a ≠ p ∧ H1 a = some (.dK kvs) ∧ H1 p = some (.dK []) ∧ kvs.length ≤ 1000 ∧
  ∀ q, upd H1 p (.dK kvs) q = none → tk σ (upd (upd H1 p (.dK kvs)) q (.dK [])) fun y H2 => tv σ H2 fun z H3 => H3 p = some (.dK kvs) ∧ H3 q = some (.dK []) ∧ p ≠ q ∧ ∃ k : Key, y = kV k ∧ Q (.ref p) (upd (upd H3 q (.dK [(k, z)])) p (.dK (putK kvs k z)))
theorem pe_dstar {X : Cx} {ed ek ev : Expr} {td tk tv : TE} {pos : Pos} (hd : PE X ed td) (hk : PE X ek tk) (hv : PE X ev tv) : PE X (.Dict [none, some ek] [ed, ev] pos) (tDStar td tk tv) := by
  refine ⟨fun pins s σ H Q I want => ?_⟩
  rw [arm_eval_Dict]
  refine wpAny_bind (wpAny_standAt ?_)
  show wpAny _ _ (dictDisplay [(none, (do let x ← eval ed X.env; standAt pos; pure x)), (some (eval ek X.env), (do let x ← eval ev X.env; standAt pos; pure x))]) _ _ s
  unfold dictDisplay
  dsimp only
  refine wpAny_bind ?_
  rw [List.forIn_cons]
  dsimp only
  refine wpAny_bind (wpAny_bind ?_)
  rw [if_pos (show ([] : List (Sem Value × Sem Value)).isEmpty = true from rfl)]
  refine wpAny_pure (wpAny_bind (wpAny_alloc (wpAny_bind (wpAny_holding (wpAny_bind ?_)))))
  have I1 := I.laid (a := s.heap.objs.size) (o := .dK []) (h' := s.heap.push { cls := .type "dict", data := .dict #[] }) (t' := s.toks) (fun _ _ q => Heap.get?_push_of_some _ q) (Nat.le_refl _) (dk_empty s.heap I.big)
  refine thn (hd.run pins _ σ _ _ I1 (want _ (I.hok.fresh (Nat.le_refl _)))) ?_
  rintro u s1 ⟨x, H1, J1, r1, a, kvs, rfl, hne, ha, hp, hlen, w1⟩
  cases r1
  refine wpAny_bind (wpAny_standAt (wpAny_pure ?_))
  generalize s.heap.objs.size = p at hne hp w1
  obtain ⟨z0, hd0, vs0, rel0, dd0⟩ := dk_of J1.hok hp
  obtain ⟨za, hda, vsa, rela, dda⟩ := dk_of J1.hok ha
  cases rel0
  have la := rela.length
  have nda : (vsa.map (·.1)).Nodup := by obtain ⟨_, _, _, _, _, _, _, _, n⟩ := dda; exact n
  have big : (1000 : Nat) + 1000 ≤ sizeLine := by decide
  refine wpAny_bind (wpAny_onRaise (wpAny_tryCatch (wpAny_onRaise (wpAny_holding (merge_mapping (Ne.symm hne) hda mix_noref dd0 dda (by simp only [List.length_nil]; omega) fun h1 m1 sb1 => ?_)))))
  rw [merged_nil _ nda] at m1
  have J2 : Inv X pins σ (upd H1 p (.dK kvs)) { s1 with heap := h1 } := d_write (t' := s1.toks) J1 (by rw [hp]; exact True.intro) sb1 (let ⟨q, _, _, hq, _⟩ := m1; ⟨q, hq⟩) (dk_new za hd0 rela m1)
  refine wpAny_pure ?_
  dsimp only
  rw [List.forIn_cons]
  dsimp only
  refine wpAny_bind ?_
  rw [if_neg (by simp)]
  refine wpAny_pure ?_
  dsimp only
  rw [List.forIn_nil]
  refine wpAny_pure ?_
  dsimp only
  refine wpAny_bind ?_
  rw [if_neg (by simp)]
  refine wpAny_bind (wpAny_holding (wpAny_subDict (knd := mixKind X.prog X.w) (by simp) ?_))
  have I3 := J2.laid (a := h1.objs.size) (o := .dK []) (h' := h1.push { cls := .type "dict", data := .dict #[] }) (t' := s1.toks) (fun _ _ q => Heap.get?_push_of_some _ q) (Nat.le_refl _) (dk_empty h1 J2.big)
  have w2 := w1 _ (J2.hok.fresh (Nat.le_refl _))
  refine evalPairs_cons ?_
  refine thn (hk.run pins _ σ _ _ I3 w2) ?_
  rintro yk s2 ⟨y, H2, J3, r2, w3⟩
  refine wpAny_bind (thn (hv.run pins _ σ _ _ J3 w3) ?_)
  rintro zk s3 ⟨z, H3, J4, r3, hp3, hq3, npq, k, rfl, w4⟩
  refine wpAny_bind (wpAny_standAt (wpAny_pure (evalPairs_nil ?_)))
  obtain ⟨zq, hdq, vsq, relq, ddq⟩ := dk_of J4.hok hq3
  cases relq
  refine ⟨[(k, zk)], ⟨kV_is r2, rfl, trivial⟩, ddq, fun h2 m2 sb2 => ?_⟩
  have e1 : merged [] [(k, zk)] = [(k, zk)] := rfl
  rw [e1] at m2
  have J5 : Inv X pins σ (upd H3 h1.objs.size (.dK [(k, z)])) { s3 with heap := h2, toks := s3.toks + 1 } := d_write (t' := s3.toks + 1) J4 (by rw [hq3]; exact True.intro) sb2 (let ⟨q, _, _, hq, _⟩ := m2; ⟨q, hq⟩) (dk_new (by show 1 ≤ sizeLine; decide) hdq (.cons ⟨rfl, r3⟩ .nil) m2)
  have hp5 : upd H3 h1.objs.size (.dK [(k, z)]) p = some (.dK kvs) := (upd_ne npq).trans hp3
  obtain ⟨zp, hdp, vsp, relp, ddp⟩ := dk_of J5.hok hp5
  have lp := relp.length
  refine wpAny_bind (wpAny_onRaise (wpAny_holding (merge_mapping (s := { s3 with heap := h2, toks := s3.toks + 1 }) npq hdq mix_noref ddp m2 (by simp only [List.length_cons, List.length_nil]; omega) fun h3 m3 sb3 => ?_)))
  refine wpAny_pure (wpAny_pure ?_)
  have zl : (putK kvs k z).length ≤ sizeLine := by
    have q := length_mergeK [(k, z)] kvs
    have q2 : mergeK kvs [(k, z)] = putK kvs k z := rfl
    rw [q2] at q
    simp only [List.length_cons, List.length_nil] at q
    omega
  exact ⟨.ref p, _, d_write (t' := s3.toks + 1) J5 (by rw [hp5]; exact True.intro) sb3 (let ⟨q, _, _, hq, _⟩ := m3; ⟨q, hq⟩) (dk_new zl hdp (show KV (putK kvs k z) (merged vsp [(k, zk)]) from KV.merge (more := [(k, z)]) (rs := [(k, zk)]) (.cons ⟨rfl, r3⟩ .nil) relp) m3), rfl, w4⟩
end NR
set_option maxHeartbeats 4000000
namespace NR
open PySem PySem.Spec PyProof.Rows L2
open AutoSeq1 (wpAny_loadPart')
/-! ### enumerate(tuple) -/
theorem meets_enum_tup (l : Addr) (items : Array Value) (n : Nat) (dct : Option Addr) (sl : Array (Option Value)) :
    Meets (Builtin.«enumerate.__new__» ⟨[.type "enumerate", .ref l], []⟩) (fun _ R s => s.heap.get? l = some { cls := .type "tuple", dict := dct, data := .seq items n, slots := sl } ∧
      R (.ok (.ret (.ref (s.heap.push { cls := .type "tuple_iterator", data := .fields #[.ref l, .int 0 0] }).objs.size)))
        { s with heap := (s.heap.push { cls := .type "tuple_iterator", data := .fields #[.ref l, .int 0 0] }).push { cls := .type "enumerate", data := .fields #[.none, .bool false, .ref s.heap.objs.size, rawInt 0, .none, .none] } }) :=
  .of_wp fun prog w A R s h => by
    obtain ⟨hp, g, d, tk, os⟩ := s; obtain ⟨hl, h⟩ := h
    have hsub := sub_enumerate
    have hL : Heap.IsTuple (Shared.heap ⟨hp, g, d, tk, os⟩) l items := ⟨_, hl, rfl, n, rfl⟩
    wp_walk using wpAny_loadPart' hl
    refine wpAny_stack_any fun st => wpAny_pure ?_
    split
    · rename_i c _ _ _ _ _
      cases (c == Value.type "enumerate") <;> (wp_walk using wpAny_loadPart' hl, wpAny_pyIter_tuple hL; exact ⟨_, rfl, h⟩)
    · wp_walk using wpAny_loadPart' hl, wpAny_pyIter_tuple hL; exact ⟨_, rfl, h⟩
section
variable {prog : Program} {w : World} {A : Around} {E : Value → Shared → Prop} {s : Shared}
theorem call_enum_tup {l : Addr} {items : Array Value} {Q : Value → Shared → Prop} (hL : s.heap.IsTuple l items)
    (want : ∀ h', IsEnum h' (s.heap.objs.size + 1) s.heap.objs.size 0 .none → h'.IsTupleIter s.heap.objs.size l 0 → (∀ b o, s.heap.get? b = some o → h'.get? b = some o) → Q (.ref (s.heap.objs.size + 1)) { s with heap := h' }) :
    wpAny (model prog w) A (call (.type "enumerate") [.ref l]) Q E s := by
  obtain ⟨⟨c, dct, dt, sl⟩, hl, hc, n, hd⟩ := hL
  cases (show c = .type "tuple" from hc)
  cases (show dt = .seq items n from hd)
  refine callType_new F.called_enumerate (by decide) (F.typeCall_enumerate_1 _) (F.newCall_enumerate_1 _) (fun obj => F.args_object_init_2 obj _) F.entry_enumerate_new (meets_enum_tup l items n dct sl) ⟨hl, ?_⟩
  have hz : (s.heap.push { cls := .type "tuple_iterator", data := .fields #[.ref l, .int 0 0] }).objs.size = s.heap.objs.size + 1 := Heap.size_push ..
  show _ ∧ _
  rw [hz]
  have he : IsEnum ((s.heap.push { cls := .type "tuple_iterator", data := .fields #[.ref l, .int 0 0] }).push { cls := .type "enumerate", data := .fields #[.none, .bool false, .ref s.heap.objs.size, rawInt 0, .none, .none] }) (s.heap.objs.size + 1) s.heap.objs.size 0 .none := by
    have q := Heap.get?_push_size (s.heap.push { cls := .type "tuple_iterator", data := .fields #[.ref l, .int 0 0] }) (o := { cls := .type "enumerate", data := .fields #[.none, .bool false, .ref s.heap.objs.size, rawInt 0, .none, .none] }) rfl
    rw [hz] at q; exact q
  exact ⟨⟨_, he, rfl⟩, want _ he ⟨_, Heap.get?_push_of_some _ (Heap.get?_push_size _ rfl), rfl, rfl⟩ fun b o x => Heap.get?_push_of_some _ (Heap.get?_push_of_some _ x)⟩
end
/-- the tuple at a, each item in a new pair -/
def IteT (K : PySem.W.Frag) (a : Addr) : It :=
  ⟨fun i H => ∃ (xs : List V) (x : V), SqT K H a xs ∧ xs[i]? = some x, fun i H v H' => ∃ T x, v = .ref T ∧ H T = none ∧ H' = upd H T (.tup [.int (i : Nat), x]) ∧ ∀ xs, SqT K H a xs → xs[i]? = some x, fun i H => ∃ xs : List V, SqT K H a xs ∧ xs.length = i⟩
theorem turn_enumT {P : Program} {w : World} {K : PySem.W.Frag} {elts : List Expr} {kk : Nat} {tpos : Pos} (a e it : Addr) :
    Turn P w K (.Tuple elts kk tpos) (IteT K a) [e, it] e (fun i h => (∃ old, IsEnum h e it ((i : Nat) : Int) old) ∧ h.IsTupleIter it a i ∧ e ≠ it ∧ a ≠ it ∧ a ≠ e) where
  mem := by simp
  obj := fun i h st b hb => by
    obtain ⟨⟨old, he⟩, ⟨o, ho, hc, hd⟩, _⟩ := st
    rcases (by simpa using hb : b = e ∨ b = it) with z | z
    · rw [z]; exact ⟨_, he, fun v q => nomatch q⟩
    · rw [z]; exact ⟨o, ho, fun v q => by rw [hd] at q; cases q⟩
  keep := fun i h h' st k => let ⟨⟨old, he⟩, hi, hne⟩ := st; ⟨⟨old, k e (by simp) _ he⟩, hi.at fun o q => k it (by simp) o q, hne⟩
  item := by
    intro X hP hw hK hc i pins s σ H E I hf st hg
    subst hP hw hK
    obtain ⟨⟨old, he⟩, hit, hne, hai, hae⟩ := st
    obtain ⟨xs, x, hq, hx⟩ := hg
    obtain ⟨its, rv, p, hz⟩ := I.tuple hq
    obtain ⟨u, hu, ru⟩ := rv.get hx
    have hel : e < s.heap.objs.size := Heap.lt_size he
    have hil : it < s.heap.objs.size := by obtain ⟨_, q, _⟩ := hit; exact Heap.lt_size q
    have hd := I.ok.hd hc
    have hu' : its.toArray[i]? = some u := by simpa using hu
    have hlt : i < its.toArray.size := (Array.getElem?_eq_some_iff.mp hu').1
    refine wpAny_pyNext_enum_itemD (Draws.tuple (by rw [← hd]) it a hai its.toArray) he ⟨hit, p⟩ hlt hne (by simp; exact ⟨hne, fun z => hae z.symm⟩) fun x' h' tk hx' ho hst' hT hsz hk => ?_
    have ex : x' = u := Option.some.inj (hx'.symm.trans hu')
    subst ex
    refine ⟨_, rfl, wpAny_letOwnedTupleGo_enum (s := { s with heap := h', toks := tk + 1 }) ho fun h'' he' sb => ?_⟩
    have hT2 : h''.get? s.heap.objs.size = some { cls := .type "tuple", data := .seq #[.int i tk, x'] } := (sb.2 _ (Nat.ne_of_gt hel)).trans hT
    have new : ObjOk X.prog X.w (upd H s.heap.objs.size (.tup [.int (i : Nat), x])) h'' s.heap.objs.size (.tup [.int (i : Nat), x]) :=
      ⟨by show 2 ≤ sizeLine; decide, [.int i tk, x'], .cons ⟨_, rfl⟩ (.cons ru .nil), ⟨_, hT2, rfl, _, rfl⟩⟩
    have I1 : Inv X pins σ (upd H s.heap.objs.size (.tup [.int (i : Nat), x])) { s with heap := h'', toks := tk + 1 } :=
      I.turnedNew (ch := [e, it]) (fun b ob hb q => (sb.2 b (fun z => hb (by simp [z]))).trans (hk b ob (fun z => hb (by simp [z])) (fun z => hb (by simp [z])) q)) hf (Nat.le_refl _) new
    refine ⟨.ref s.heap.objs.size, _, I1, rfl, ⟨_, x, rfl, I.hok.fresh (Nat.le_refl _), rfl, fun ys hy => by rw [I.tuple_inj hy hq]; exact hx⟩, ⟨⟨x', ?_⟩, hst'.1.at fun o q => (sb.2 it (Ne.symm hne)).trans q, hne, hai, hae⟩, fun b hb => ?_⟩
    · rw [show ((i + 1 : Nat) : Int) = (i : Int) + 1 by omega]; exact he'
    · have hb' : b < s.heap.objs.size := by
        rcases (by simpa using hb : b = e ∨ b = it) with z | z
        · rw [z]; exact hel
        · rw [z]; exact hil
      rw [upd_ne (Nat.ne_of_lt hb')]
      exact (hf b hb).1
  done := by
    intro X hP hw hK hc i pins s σ H E I hf st hg
    subst hP hw hK
    obtain ⟨⟨old, he⟩, hit, hne, hai, hae⟩ := st
    obtain ⟨xs, hq, hx⟩ := hg
    obtain ⟨its, rv, p, hz⟩ := I.tuple hq
    obtain ⟨f0, f1, f2, f3, f4, f5⟩ := hf it (by simp)
    have hl := rv.length
    subst hx
    have e : xs.length = its.toArray.size := by rw [List.size_toArray]; omega
    have hd := I.ok.hd hc
    refine wpAny_pyNext_enum_endD (Draws.tuple (by rw [← hd]) it a hai its.toArray) he ⟨by rw [← e]; exact hit, p⟩ fun h' eb => ⟨rfl, I.turned (t' := s.toks) (fun b o hb q => eb b o hb q) f0 f1 f3 f4 f5⟩
  self := fun A i s Q E st h => let ⟨⟨_, he⟩, _⟩ := st; wpAny_pyIter_enum he h
def iEnumT (K : PySem.W.Frag) (ta : TA) : TI := fun σ H R => ta σ H fun vs H1 => ∃ a xs, vs = [.ref a] ∧ SqT K H1 a xs ∧ R (IteT K a) H1
theorem pi_enumT {X : Cx} {e : Expr} {ta : TA} {p pos tpos : Pos} {elts : List Expr} {kk : Nat} (hg : Gl X "enumerate") (hm : X.mg "enumerate" = none) (ha : PA X [e] ta) (hs : starEach [e] X.env = [(false, eval e X.env)] := by rfl) :
    PI X (.Tuple elts kk tpos) (.Call (.Name "enumerate" p) [e] [] pos) (iEnumT X.K ta) := by
  refine ⟨fun pins s σ H R I h => ?_⟩
  refine Call_ (ld_blt I hg hm boot_enumerate (PyProof.Rows.callWith_type1 (thn (ha.run pos pins s σ H _ I h) fun us s1 ⟨vs, H1, I1, r1, a, xs, ex, hq, q⟩ => ?_) hs rfl))
  subst ex
  rw [Vals.ref1 r1]
  obtain ⟨its, rv, pt, hz⟩ := I1.tuple hq
  have hlt : a < s1.heap.objs.size := by obtain ⟨o, ho, _⟩ := pt; exact Heap.lt_size ho
  refine call_enum_tup pt fun h' he hit hk => wpAny_pyIter_enum he ?_
  have I2 : Inv X pins σ H1 { s1 with heap := h' } := I1.kept (t' := s1.toks) hk
  refine ⟨s1.heap.objs.size + 1, [s1.heap.objs.size + 1, s1.heap.objs.size], _, _, H1, rfl, I2, turn_enumT a (s1.heap.objs.size + 1) s1.heap.objs.size, ⟨⟨.none, he⟩, hit, Nat.succ_ne_self _, Nat.ne_of_lt hlt, Nat.ne_of_lt (Nat.lt_succ_of_lt hlt)⟩, fun b hb => ?_, q⟩
  have hle : s1.heap.objs.size ≤ b := by
    rcases (by simpa using hb : b = s1.heap.objs.size + 1 ∨ b = s1.heap.objs.size) with z | z
    · rw [z]; exact Nat.le_add_right _ _
    · rw [z]; exact Nat.le_refl _
  exact I1.fpOk hle (I1.hok.fresh hle)
theorem walk_enumT {K : PySem.W.Frag} {a : Addr} {xs : List V} : Walk (IteT K a) xs.length (fun H => SqT K H a xs) (YPair (fun i => some (.int (i : Nat))) (fun i => xs[i]?)) := by
  refine ⟨fun i _ hi q => ⟨xs, xs[i], q, by simp [hi]⟩, fun _ q => ⟨xs, q, rfl⟩, fun i H v H' _ q y => ?_⟩
  obtain ⟨T, x, h1, h2, h3, h4⟩ := y
  exact ⟨T, .int (i : Nat), x, h1, h2, h3, rfl, h4 xs q⟩
section
variable {X : Cx} (K : PySem.W.Frag)
theorem pi_enumTK {e : Expr} {ta : TA} {p pos tpos : Pos} {elts : List Expr} {kk : Nat} (hg : Gl X "enumerate") (hm : X.mg "enumerate" = none) (ha : PA X [e] ta) (hs : starEach [e] X.env = [(false, eval e X.env)] := by rfl) (h : X.K = K := by rfl) :
    PI X (.Tuple elts kk tpos) (.Call (.Name "enumerate" p) [e] [] pos) (iEnumT K ta) := h ▸ pi_enumT hg hm ha hs
end
/-! ### list.extend(tuple) -/
theorem meets_extend_tup (l : Addr) (items : Array Value) (n : Nat) (b : Addr) (items2 : Array Value) (n2 : Nat) (dct : Option Addr) (sl : Array (Option Value)) (h0 : ¬(!items.isEmpty && Builtin.List.listTooLong (items.size + items2.size)) = true) (h1 : items.size ≤ sizeLine) (h2 : items.size + items2.size ≤ sizeLine + 1) :
    Meets (Builtin.«list.extend» ⟨[.ref l, .ref b], []⟩) (fun _ R s => s.heap.get? l = some { cls := .type "list", dict := none, data := .seq items n, slots := #[] } ∧ s.heap.get? b = some { cls := .type "tuple", dict := dct, data := .seq items2 n2, slots := sl } ∧ R (.ok (.ret Value.none)) { s with heap := s.heap.update l (Obj.mapSeq fun x => x ++ items2), toks := s.toks }) :=
  .of_wp fun prog w A R s h => by
    obtain ⟨hp, g, d, tk, os⟩ := s; obtain ⟨hl, hb, h⟩ := h
    have f1 := AutoSeq1.idx_int; have f2 := AutoSeq1.sub_tuple_tuple; have f3 := AutoSeq1.sub_list_list; have f4 := AutoSeq1.sub_tuple_list; have f5 := AutoSeq1.sub_list_tuple
    have hz' : (items ++ items2).size ≤ sizeLine + 1 := by rw [Array.size_append]; exact h2
    wp_walk using (wpAny_updateSeq hl rfl (hz := h1) (_hz' := hz')), wpAny_loadPart' hl, wpAny_loadPart' hb; exact ⟨_, rfl, h⟩
def rExtT (K : PySem.W.Frag) : V → List V → Hp → VK → Prop := fun x vs H Q => ∃ l b xs zs, x = .ref l ∧ vs = [.ref b] ∧ H l = some (.lst xs) ∧ SqT K H b zs ∧ xs.length + zs.length ≤ 100000 ∧ Q .non (upd H l (.lst (xs ++ zs)))
theorem mt_extT {X : Cx} (K : PySem.W.Frag) (h : X.K = K := by rfl) : MtM X "list.extend" (rExtT K) := by
  subst h
  rintro pins s σ H x vs v us Q I rx rv ⟨l, b, xs, zs, rfl, rfl, hH, hB, hz, q⟩
  cases rx
  rw [Vals.ref1 rv]
  obtain ⟨z, its, n, r, hl, e⟩ := I.lstM hH
  obtain ⟨its2, r2, ⟨⟨c2, d2, t2, sl2⟩, e2, ec, n2, ed⟩, hl2⟩ := I.tuple hB
  cases (show c2 = .type "tuple" from ec)
  cases (show t2 = .seq its2.toArray n2 from ed)
  have l1 := r.length
  have l2 := r2.length
  have big : 100000 ≤ sizeLine := by decide
  have hsz : its.toArray.size + its2.toArray.size ≤ sizeLine := by rw [List.size_toArray, List.size_toArray]; omega
  refine call_meets F.slot_list_extend ⟨_, e, rfl⟩ F.entry_list_extend (F.args_list_extend_2 _ _) (meets_extend_tup l its.toArray n b its2.toArray n2 d2 sl2 (extend_door hsz) (by rw [List.size_toArray] at *; omega) (by omega)) ⟨e, e2, ?_⟩
  refine ⟨.non, _, I.lset (its' := its ++ its2) hH e (by simp) (r.append r2) ?_, rfl, q⟩
  rw [List.length_append]
  omega
end NR
set_option maxHeartbeats 4000000
namespace NR
open PySem PySem.Spec PyProof.Rows L2
abbrev FnM (K : PySem.W.Frag) (x qual : Str) (st : Stmt) (f : Addr) (fd : FuncData) : Prop := FunD K x qual (defArgs st) (defBody st) (defScope st) [] [] f fd
/-- a method of the class at C keeps its promise -/
structure Okm (P : Program) (w : World) (K : PySem.W.Frag) (mg : Str → Option Value) (base : Heap) (CX : CXT) (k : Nat) (C : Addr) (m : Str) (ps : List Str) (sp : Sp) : Prop where
  ex : ∃ f fd, FnOk P w K mg base CX k f fd ps sp ∧ Meth K C m f ∧ Binds K fd ps [] ∧ Cls K C
theorem Okm.mono {P w K mg base CX j k C m ps sp} (O : Okm P w K mg base CX j C m ps sp) (h : j ≤ k) : Okm P w K mg base CX k C m ps sp := by
  obtain ⟨f, fd, F, r⟩ := O.ex
  exact ⟨f, fd, F.mono h, r⟩
/-- a class by its name: its making keeps the promise of __init__ -/
structure Okc (P : Program) (w : World) (K : PySem.W.Frag) (mg : Str → Option Value) (base : Heap) (CX : CXT) (k : Nat) (x : Str) (C : Addr) (ps : List Str) (sp : Sp) : Prop where
  ex : ∃ f fd, FnOk P w K mg base CX k f fd ps sp ∧ Mk K C f ∧ Binds K fd ps [] ∧ mg x = some (.ref C)
theorem Okc.mono {P w K mg base CX j k x C ps sp} (O : Okc P w K mg base CX j x C ps sp) (h : j ≤ k) : Okc P w K mg base CX k x C ps sp := by
  obtain ⟨f, fd, F, r⟩ := O.ex
  exact ⟨f, fd, F.mono h, r⟩
section
variable {X : Cx} {CX : CXT} {k : Nat} {x m : Str} {C : Addr} {ps : List Str} {sp : Sp} {E : XK} {o e : Expr} {es : List Expr} {t : TA} {ta : TE} {p pos apos : Pos}
theorem pe_m {pl : Sem Bool} (O : Okm X.prog X.w X.K X.mg X.base CX k C m ps sp) (he : PE X o ta) (hr : Room k X.A) (hx : Passes CX X E) (ha : PA X (e :: es) t)
    (hst : starEach (e :: es) X.env = (false, eval e X.env) :: starEach es X.env := by rfl) (hpl : (backTo pos (starEach es X.env)).any (·.1) = false := by rfl)
    (ht : eval (.Call (.Attribute o m apos) (e :: es) [] pos) X.env = (do let ov ← eval o X.env; standAt apos.atName; let (f, first) ← holding [ov] (getMethod ov m pl); callWith pos f first (backTo pos (starEach (e :: es) X.env)) (backToKw pos (keywordEach [] X.env))) := by rfl) :
    PE X (.Call (.Attribute o m apos) (e :: es) [] pos) (tMeth C m sp [] E ta t) := by
  obtain ⟨f, fd, F, hm, hb, c⟩ := O.ex
  exact pe_meth he c hm F hr hb .nil hx ha hst hpl ht
theorem pe_m0 {pl : Sem Bool} (O : Okm X.prog X.w X.K X.mg X.base CX k C m ps sp) (he : PE X o ta) (hr : Room k X.A) (hx : Passes CX X E)
    (ht : eval (.Call (.Attribute o m apos) [] [] pos) X.env = (do let ov ← eval o X.env; standAt apos.atName; let (f, first) ← holding [ov] (getMethod ov m pl); callWith pos f first (backTo pos (starEach [] X.env)) (backToKw pos (keywordEach [] X.env))) := by rfl) :
    PE X (.Call (.Attribute o m apos) [] [] pos) (tMeth C m sp [] E ta tNil) := by
  obtain ⟨f, fd, F, hm, hb, c⟩ := O.ex
  exact pe_meth0 he c hm F hr hb .nil hx ht
theorem pe_mk (O : Okc X.prog X.w X.K X.mg X.base CX k x C ps sp) (hr : Room (k + 1) X.A) (hg : Gl X x) (hx : Passes CX X E) (ha : PA X (e :: es) t) (hdb : (x == ("__debug__" : Str)) = false := by decide)
    (he : starEach (e :: es) X.env = (false, eval e X.env) :: starEach es X.env := by rfl) (hpl : (backTo pos (starEach es X.env)).any (·.1) = false := by rfl) : PE X (.Call (.Name x p) (e :: es) [] pos) (tMake C sp [] E t) := by
  obtain ⟨f, fd, F, M, hb, hm⟩ := O.ex
  exact pe_make M F hr hg hm hb .nil hx ha hdb he hpl
end
section
variable {X : Cx} (K : PySem.W.Frag)
theorem pa_starK {e : Expr} {es : List Expr} {te : TE} {t : TA} {p : Pos} (he : PE X e te) (hr : PA X es t) (hs : starEach (.Starred e p :: es) X.env = (true, eval e X.env) :: starEach es X.env := by rfl) (h : X.K = K := by rfl) : PA X (.Starred e p :: es) (StX.tStar K te t) := h ▸ StX.pa_star he hr hs
theorem sl_tupAK (h : X.K = K := by rfl) : SlR X (rSlA K) := h ▸ sl_tupA
theorem op_catAK (h : X.K = K := by rfl) : OpR X (binaryOp .Add) (rCatA K) := h ▸ op_catA
theorem pg_lstK {es : List Expr} {k : Nat} {t : TGs} {n : Nat} {pos : Pos} (hc : X.calm = true) (h : PGs X es t) (hn : (assignEach es X.env).length = n := by rfl) (hst : (assignEach es X.env).findIdx? (·.1) = none := by rfl) (hk : X.K = K := by rfl) : PG X (.Tuple es k pos) (gLst K n t) := hk ▸ pg_lst hc h hn hst
theorem cr_allK (hc : X.calm = true) (h : X.K = K := by rfl) : CallR X (.builtin "all") (rAll K) := h ▸ cr_all hc
theorem pi_enumK {e : Expr} {ta : TA} {p pos tpos : Pos} {elts : List Expr} {kk : Nat} (hg : Gl X "enumerate") (hm : X.mg "enumerate" = none) (ha : PA X [e] ta) (hs : starEach [e] X.env = [(false, eval e X.env)] := by rfl) (h : X.K = K := by rfl) : PI X (.Tuple elts kk tpos) (.Call (.Name "enumerate" p) [e] [] pos) (iEnum K ta) := h ▸ pi_enum hg hm ha hs
theorem ps_fldK {o value : Expr} {f : Str} {pos pos' : Pos} {ta tv : TE} (ha : PE X o ta) (hv : PE X value tv) (hs : swapsWith value (some (.Attribute o f pos')) pos.line X.env = pure false) (h : X.K = K := by rfl) : PS X (.Assign [.Attribute o f pos'] value pos) (sFld K ta tv f) := h ▸ ps_fld ha hv hs
end
theorem pe_gI {X : Cx} {x : Str} {i : Int} {t : Tok} {pos : Pos} (hg : Gl X x) (hm : X.mg x = some (.int i t)) (hdb : (x == ("__debug__" : Str)) = false := by decide) : PE X (.Name x pos) (fun _ H Q => Q (.int i) H) := pe_glob (v := .int i) hg hm ⟨_, rfl⟩ hdb
theorem pe_gR {X : Cx} {x : Str} {a : Addr} {pos : Pos} (hg : Gl X x) (hm : X.mg x = some (.ref a)) (hdb : (x == ("__debug__" : Str)) = false := by decide) : PE X (.Name x pos) (fun _ H Q => Q (.ref a) H) := pe_glob (v := .ref a) hg hm rfl hdb
/-! ### tables with text keys in the top -/
/-- at d a table of values by words -/
structure Tbl (K : PySem.W.Frag) (w : World) (d : Addr) (g : W → Option V) : Prop where
  kd : ∃ es n, KDict K w d es n
  at_ : ∀ (x : W) (v : V), g x = some v → ∃ u, PySem.W.nsIn K d x.str = some (some u) ∧ RelV v u
section
variable {X : Cx} (K : PySem.W.Frag) {w : World} {d : Addr} {g : W → Option V}
def rInTbl (d : Addr) (g : W → Option V) (neg : Bool) : R2 := fun x y H Q => ∃ (z : W) (v : V), x = .str z.str ∧ y = .ref d ∧ g z = some v ∧ Q (.bl (!neg)) H
theorem op_inTbl (T : Tbl X.K X.w d g) : OpR X (compareOp .In) (rInTbl d g false) := by
  rintro pins s σ H x y v u Q I rx ry ⟨z, v0, rfl, rfl, hg, q⟩
  obtain ⟨es, n, D⟩ := T.kd
  obtain ⟨u0, h1, h2⟩ := T.at_ z v0 hg
  exact op_in_kd D pins s σ H _ _ v u Q I rx ry ⟨z.str, some u0, rfl, rfl, h1, q⟩
theorem op_notInTbl (T : Tbl X.K X.w d g) : OpR X (compareOp .NotIn) (rInTbl d g true) := by
  rintro pins s σ H x y v u Q I rx ry ⟨z, v0, rfl, rfl, hg, q⟩
  obtain ⟨es, n, D⟩ := T.kd
  obtain ⟨u0, h1, h2⟩ := T.at_ z v0 hg
  exact op_notIn_kd D pins s σ H _ _ v u Q I rx ry ⟨z.str, some u0, rfl, rfl, h1, q⟩
def rIxTbl (d : Addr) (g : W → Option V) : R2 := fun x y H Q => ∃ (z : W) (v : V), x = .ref d ∧ y = .str z.str ∧ g z = some v ∧ Q v H
theorem ix_tbl (T : Tbl X.K X.w d g) : IxR X (rIxTbl d g) := by
  rintro value slice pins s σ H x y v u Q I rx ry ⟨z, v0, rfl, rfl, hg, q⟩ hs
  obtain ⟨es, n, D⟩ := T.kd
  obtain ⟨u0, h1, h2⟩ := T.at_ z v0 hg
  exact ix_kdict value slice pins s σ H _ _ v u Q I rx ry ⟨d, z.str, v0, rfl, rfl, ⟨es, n, u0, D.at_, D.lit, h1, h2⟩, q⟩ hs
end
/-! ### nodes in the heap -/
def ndF (w : W) (fn : Int) (p : Nat) (n : Int) (l : Addr) (d : Nat) : List (Str × V) := [("word", .str w.str), ("function", .int fn), ("place", .int (p : Int)), ("number", .int n), ("parts", .ref l), ("depth", .int (d : Int))]
def NT : Addr → Prop := fun _ => True
def New (H : Hp) : Addr → Prop := fun b => H b = none
mutual
/-- a node in the heap, all of whose objects lie in G -/
inductive NdIn (H : Hp) (G : Addr → Prop) (C : Addr) (fn : Int) : V → Nd → Prop
  | mk {a dx l : Addr} {w : W} {p : Nat} {n : Int} {ps : List Nd} {d : Nat} {vs : List V} : G a → G l → H a = some (.ins C dx (ndF w fn p n l d)) → H l = some (.lst vs) → NdIns H G C fn vs ps → NdIn H G C fn (.ref a) (.node w p n ps d)
inductive NdIns (H : Hp) (G : Addr → Prop) (C : Addr) (fn : Int) : List V → List Nd → Prop
  | nil : NdIns H G C fn [] []
  | cons {v : V} {vs : List V} {e : Nd} {es : List Nd} : NdIn H G C fn v e → NdIns H G C fn vs es → NdIns H G C fn (v :: vs) (e :: es)
end
section
variable {H H' : Hp} {G G' : Addr → Prop} {C : Addr} {fn : Int}
mutual
theorem NdIn.keep (g : ∀ b, G b → G' b) (s : ∀ b o, G b → H b = some o → H' b = some o) : ∀ {v : V} {e : Nd}, NdIn H G C fn v e → NdIn H' G' C fn v e
  | _, _, .mk i1 i2 h1 h2 r => .mk (g _ i1) (g _ i2) (s _ _ i1 h1) (s _ _ i2 h2) (NdIns.keep g s r)
theorem NdIns.keep (g : ∀ b, G b → G' b) (s : ∀ b o, G b → H b = some o → H' b = some o) : ∀ {vs : List V} {es : List Nd}, NdIns H G C fn vs es → NdIns H' G' C fn vs es
  | _, _, .nil => .nil
  | _, _, .cons h r => .cons (NdIn.keep g s h) (NdIns.keep g s r)
end
theorem NdIn.same (s : Same H H') {v : V} {e : Nd} (h : NdIn H G C fn v e) : NdIn H' G C fn v e := h.keep (fun _ g => g) fun b o _ q => s b o q
theorem NdIns.same (s : Same H H') {vs : List V} {es : List Nd} (h : NdIns H G C fn vs es) : NdIns H' G C fn vs es := h.keep (fun _ g => g) fun b o _ q => s b o q
theorem NdIn.any {v : V} {e : Nd} (h : NdIn H G C fn v e) : NdIn H NT C fn v e := h.keep (fun _ _ => trivial) fun b o _ q => q
theorem NdIns.any {vs : List V} {es : List Nd} (h : NdIns H G C fn vs es) : NdIns H NT C fn vs es := h.keep (fun _ _ => trivial) fun b o _ q => q
theorem NdIn.len : ∀ {vs : List V} {es : List Nd}, NdIns H G C fn vs es → vs.length = es.length
  | _, _, .nil => rfl
  | _, _, .cons _ r => congrArg (· + 1) (NdIn.len r)
theorem NdIns.len {vs : List V} {es : List Nd} (h : NdIns H G C fn vs es) : vs.length = es.length := NdIn.len h
theorem NdIns.snoc {v : V} {e : Nd} : ∀ {vs : List V} {es : List Nd}, NdIns H G C fn vs es → NdIn H G C fn v e → NdIns H G C fn (vs ++ [v]) (es ++ [e])
  | _, _, .nil, h => .cons h .nil
  | _, _, .cons h r, h' => .cons h (NdIns.snoc r h')
end
theorem ndF_word {w fn p n l d} : (ndF w fn p n l d).lookup ("word" : Str) = some (.str w.str) := by rfl
theorem ndF_function {w fn p n l d} : (ndF w fn p n l d).lookup ("function" : Str) = some (.int fn) := by rfl
theorem ndF_place {w fn p n l d} : (ndF w fn p n l d).lookup ("place" : Str) = some (.int (p : Int)) := by rfl
theorem ndF_number {w fn p n l d} : (ndF w fn p n l d).lookup ("number" : Str) = some (.int n) := by rfl
theorem ndF_parts {w fn p n l d} : (ndF w fn p n l d).lookup ("parts" : Str) = some (.ref l) := by rfl
theorem ndF_depth {w fn p n l d} : (ndF w fn p n l d).lookup ("depth" : Str) = some (.int (d : Int)) := by rfl
end NR
set_option maxHeartbeats 4000000
namespace NR
open PySem PySem.Spec PyProof.Rows L2

def lastOf : W → Int
  | .num => 10006
  | .call => 5
  | _ => 19
/-- how many parts, of words without a number -/
def W.ar : W → Nat
  | .plus | .minus | .times | .less | .same | .pick | .put => 2
  | .ite => 3
  | _ => 1
def lenOf (w : W) : Nat := match w.lay with
  | 0 => 2
  | 1 => 4
  | 2 => 3
  | _ => 1 + w.ar
def numW : List V := [.str "num", .str "name", .str "let", .str "each", .str "where", .str "call"]
def W.numd (w : W) : Bool := match w.lay with
  | 3 => false
  | _ => true
theorem inNum (w : W) : inV (.str w.str) numW = w.numd := by cases w <;> decide +kernel
theorem flatNum : numW.all flatV = true := rfl
def gLen : W → Option V := fun w => some (.int (lenOf w : Int))
/-- numbers and parts as they must be -/
structure ShOk (w : W) (n : Int) (k : Nat) : Prop where
  n0 : w.numd = true → 0 ≤ n ∧ n ≤ lastOf w
  k1 : w.lay = 1 → k = 2
  k3 : w.lay = 3 → k = w.ar
theorem TIn.hd {H : Hp} {v : V} {w : W} {n : Int} {ps : List Ex} (t : TIn H v (.node w n ps)) (s : ShOk w n ps.length) : ∃ a xs, v = .ref a ∧ H a = some (.tup (.str w.str :: xs)) ∧ xs.length + 1 = lenOf w ∧ (w.numd = true → ∃ ys, xs = .int n :: ys) ∧ (w.numd = false → n = -1 ∧ TIns H xs ps) ∧
    (w.lay = 2 → ∃ b zs, xs = [.int n, .ref b] ∧ H b = some (.tup zs) ∧ TIns H zs ps) ∧ (w.lay < 2 → ∃ ys, xs = .int n :: ys ∧ TIns H ys ps) := by
  cases t with
  | leaf h0 h1 => exact ⟨_, _, rfl, h1, by rw [lenOf, h0]; rfl, fun _ => ⟨_, rfl⟩, fun z => (by rw [W.numd, h0] at z; cases z), fun z => (by omega), fun _ => ⟨_, rfl, .nil⟩⟩
  | bind h0 h1 h2 =>
    have hl := h2.len
    have := s.k1 h0
    exact ⟨_, _, rfl, h1, by rw [lenOf, h0, List.length_cons]; show _ = 4; omega, fun _ => ⟨_, rfl⟩, fun z => (by rw [W.numd, h0] at z; cases z), fun z => (by omega), fun _ => ⟨_, rfl, h2⟩⟩
  | call h1 h2 h3 => exact ⟨_, _, rfl, h1, rfl, fun _ => ⟨_, rfl⟩, fun z => (by cases z), fun _ => ⟨_, _, rfl, h2, h3⟩, fun z => by simp [W.lay] at z⟩
  | bare h0 h1 h2 =>
    have hl := h2.len
    have := s.k3 h0
    exact ⟨_, _, rfl, h1, by rw [lenOf, h0]; show _ = 1 + w.ar; omega, fun z => (by rw [W.numd, h0] at z; cases z), fun _ => ⟨rfl, h2⟩, fun z => (by omega), fun z => by omega⟩
def spLast : Sp := fun vs H Q _ => ∃ (x : W), vs = [.str x.str] ∧ x.numd = true ∧ Q (.int (lastOf x)) H
theorem wne {x : W} {z : Str} (h : decide (x.str = z) = false) : decide (V.str x.str = V.str z) = false := by
  rw [decide_eq_false_iff_not] at h ⊢
  exact fun e => h (by injection e)
abbrev sLastNumber : Stmt := top 35
theorem scsLastNumber : FnScope ["word"] ["word"] (defScope sLastNumber) := ⟨rfl, rfl, rfl, by decide +kernel, rfl, by decide +kernel, by decide +kernel⟩
section
variable {P : Program} {w : World} {K : PySem.W.Frag} {mg : Str → Option Value} {base : Heap} {f : Addr} {fd : FuncData}

theorem ok_last (F : FnP K "last_number" sLastNumber f fd) {t0 t1 t2 : Tok} (m_LAST_NUMBER : mg "LAST_NUMBER" = some (.int 10006 t0)) (m_MOST_FUNCTIONS : mg "MOST_FUNCTIONS" = some (.int 6 t1)) (m_LAST_NAME : mg "LAST_NAME" = some (.int 19 t2)) : FnOk P w K mg base CX0 1 f fd ["word"] spLast := by
  have sc := scsLastNumber
  refine F.ok sc (fun vs H Q E h => ?_) (fun cdv A outer s H vs Q E hr h => ?_)
  · obtain ⟨x, rfl, _⟩ := h
    rfl
  obtain ⟨x, rfl, hx, q⟩ := h
  refine ⟨_, (pss_cons (ps_if (pt_cmpR op_eq (pv 0) pe_str (nomark _)) (pss_one (ps_ret (pe_gI rfl m_LAST_NUMBER))) pss_nil)
    (pss_cons (ps_if (pt_cmpR op_eq (pv 0) pe_str (nomark _)) (pss_one (ps_ret (pe_op op_sub (pe_gI rfl m_MOST_FUNCTIONS) pe_int))) pss_nil)
    (pss_one (ps_ret (pe_gI rfl m_LAST_NAME))))), ?_⟩
  refine ⟨_, rfl, rfl, _, rfl, ?_⟩
  refine ite2 (fun c => ?_) (fun c => ⟨_, rfl, rfl, _, rfl, ite2 (fun c2 => ?_) (fun c2 => ?_)⟩)
  · have e : x = .num := by revert c hx; cases x <;> decide +kernel
    subst e
    exact q
  · have e : x = .call := by revert c2 hx; cases x <;> decide +kernel
    subst e
    exact ⟨_, _, rfl, rfl, q⟩
  · have e : lastOf x = 19 := by revert c c2 hx; cases x <;> decide +kernel
    rw [e] at q
    exact q
end

def spNumOf (K : PySem.W.Frag) : Sp := fun vs H Q _ => ∃ (v : V) (x : W) (n : Int) (ps : List Ex), vs = [v] ∧ TIn H v (.node x n ps) ∧ ShOk x n ps.length ∧ Q (.int n) H
abbrev sNumberOf : Stmt := top 37
theorem scsNumberOf : FnScope ["expression"] ["expression"] (defScope sNumberOf) := ⟨rfl, rfl, rfl, by decide +kernel, rfl, by decide +kernel, by decide +kernel⟩
section
variable {P : Program} {w : World} {K : PySem.W.Frag} {mg : Str → Option Value} {base : Heap} {f : Addr} {fd : FuncData}

theorem ok_numof (F : FnP K "number_of" sNumberOf f fd) {aN : Addr} (m_NUMBERED : mg "NUMBERED" = some (.ref aN)) (hN : ∀ H, SqT K H aN numW) : FnOk P w K mg base CX0 1 f fd ["expression"] (spNumOf K) := by
  have sc := scsNumberOf
  refine F.ok sc (fun vs H Q E h => ?_) (fun cdv A outer s H vs Q E hr h => ?_)
  · obtain ⟨v, x, n, ps, rfl, _⟩ := h
    rfl
  obtain ⟨v, x, n, ps, rfl, ti, sh, q⟩ := h
  obtain ⟨a, xs, rfl, ha, hl, h1, h2, h3, h4⟩ := ti.hd sh
  refine ⟨_, (pss_cons (ps_if (pt_cmpR (op_inK K) (pe_ix (ix_tupK K) (pv 0) pe_int (fun _ _ => rfl)) (pe_gR rfl m_NUMBERED) (by rfl)) (pss_one (ps_ret (pe_ix (ix_tupK K) (pv 0) pe_int (fun _ _ => rfl)))) pss_nil)
    (pss_one (ps_ret (pe_un un_neg pe_int)))), ?_⟩
  refine ⟨_, rfl, a, _, _, .str x.str, rfl, rfl, SqT.of ha, at0, aN, _, rfl, .inr (hN _), rfl, flatNum, _, rfl, ?_⟩
  rw [show inV (.str x.str) numW = x.numd from inNum x]
  refine ite2 (fun c => ?_) (fun c => ?_)
  · obtain ⟨ys, rfl⟩ := h1 c
    exact ⟨_, rfl, a, _, _, _, rfl, rfl, SqT.of ha, at1, q⟩
  · obtain ⟨rfl, _⟩ := h2 (Bool.eq_false_iff.mpr c)
    exact ⟨_, rfl, q⟩
end

def spPartsOf (K : PySem.W.Frag) : Sp := fun vs H Q _ => ∃ (v : V) (x : W) (n : Int) (ps : List Ex), vs = [v] ∧ TIn H v (.node x n ps) ∧ ShOk x n ps.length ∧ ∀ (H' : Hp) (l : Addr) (xs : List V), Same H H' → H' l = some (.lst xs) → TIns H' xs ps → Q (.ref l) H'
theorem isCall (x : W) : decide (V.str x.str = V.str "call") = decide (x.lay = 2) := by cases x <;> decide +kernel
abbrev sPartsOf : Stmt := top 38
theorem scsPartsOf : FnScope ["expression"] ["expression"] (defScope sPartsOf) := ⟨rfl, rfl, rfl, by decide +kernel, rfl, by decide +kernel, by decide +kernel⟩
section
variable {P : Program} {w : World} {K : PySem.W.Frag} {mg : Str → Option Value} {base : Heap} {f : Addr} {fd : FuncData}

theorem ok_partsof (F : FnP K "parts_of" sPartsOf f fd) {aN : Addr} (m_NUMBERED : mg "NUMBERED" = some (.ref aN)) (hN : ∀ H, SqT K H aN numW) (z_list : mg "list" = none) : FnOk P w K mg base CX0 1 f fd ["expression"] (spPartsOf K) := by
  have sc := scsPartsOf
  refine F.ok sc (fun vs H Q E h => ?_) (fun cdv A outer s H vs Q E hr h => ?_)
  · obtain ⟨v, x, n, ps, rfl, _⟩ := h
    rfl
  obtain ⟨v, x, n, ps, rfl, ti, sh, q⟩ := h
  obtain ⟨a, xs, rfl, ha, hl, h1, h2, h3, h4⟩ := ti.hd sh
  refine ⟨_, (pss_cons (ps_if (pt_cmpR op_eq (pe_ix (ix_tupK K) (pv 0) pe_int (fun _ _ => rfl)) pe_str (nomark _)) (pss_one (ps_ret (pe_callTy (call_listK K) rfl z_list (by decide +kernel) (pa_cons (pe_ix (ix_tupK K) (pv 0) pe_int (fun _ _ => rfl)) pa_nil)))) pss_nil)
    (pss_cons (ps_if (pt_cmpR (op_inK K) (pe_ix (ix_tupK K) (pv 0) pe_int (fun _ _ => rfl)) (pe_gR rfl m_NUMBERED) (by rfl)) (pss_one (ps_ret (pe_callTy (call_listK K) rfl z_list (by decide +kernel) (pa_cons (pe_slice (sl_tupK K) (pv 0) (po_some pe_int) po_none) pa_nil)))) pss_nil)
    (pss_one (ps_ret (pe_callTy (call_listK K) rfl z_list (by decide +kernel) (pa_cons (pe_slice (sl_tupK K) (pv 0) (po_some pe_int) po_none) pa_nil)))))), ?_⟩
  refine ⟨_, rfl, a, _, _, .str x.str, rfl, rfl, SqT.of ha, at0, rfl, _, rfl, ?_⟩
  rw [isCall x]
  refine ite2 (fun c => ?_) (fun c => ?_)
  · obtain ⟨b, zs, rfl, hb, hz⟩ := h3 (of_decide_eq_true c)
    refine ⟨_, rfl, a, _, _, _, rfl, rfl, SqT.of ha, rfl, b, zs, rfl, .inr (SqT.of hb), fun l hl => ?_⟩
    exact q _ l zs (same_new hl _) upd_same (hz.mono (TK.of (same_new hl _)))
  · have c' : x.lay ≠ 2 := fun z => c (decide_eq_true z)
    refine ⟨_, rfl, a, _, _, .str x.str, rfl, rfl, SqT.of ha, at0, aN, _, rfl, .inr (hN _), rfl, flatNum, _, rfl, ?_⟩
    rw [show inV (.str x.str) numW = x.numd from inNum x]
    refine ite2 (fun c => ?_) (fun c => ?_)
    · obtain ⟨ys, rfl, hy⟩ := h4 (by revert c c'; cases x <;> decide +kernel)
      refine ⟨_, rfl, 2, rfl, a, _, rfl, SqT.of ha, fun z => ?_, fun p hp => ?_⟩
      · exact absurd z.1 (by simp [HT.sIx])
      have s1 := same_new hp (.tup (cutV (.str x.str :: .int n :: ys) (some 2) none))
      refine ⟨p, _, rfl, .inr (SqT.of upd_same), fun l hl => ?_⟩
      have e : cutV (.str x.str :: .int n :: ys) (some 2) none = ys := by simp [cutV, HT.sIx]
      have s2 := s1.trans (same_new hl (.lst (cutV (.str x.str :: .int n :: ys) (some 2) none)))
      exact q _ l ys s2 (by rw [upd_same, e]) (hy.mono (TK.of s2))
    · obtain ⟨rfl, hy⟩ := h2 (Bool.eq_false_iff.mpr c)
      refine ⟨_, rfl, 1, rfl, a, _, rfl, SqT.of ha, fun z => ?_, fun p hp => ?_⟩
      · exact absurd z.1 (by simp [HT.sIx])
      have s1 := same_new hp (.tup (cutV (.str x.str :: xs) (some 1) none))
      refine ⟨p, _, rfl, .inr (SqT.of upd_same), fun l hl => ?_⟩
      have e : cutV (.str x.str :: xs) (some 1) none = xs := by simp [cutV, HT.sIx]
      have s2 := s1.trans (same_new hl (.lst (cutV (.str x.str :: xs) (some 1) none)))
      exact q _ l xs s2 (by rw [upd_same, e]) (hy.mono (TK.of s2))
end
end NR
set_option maxHeartbeats 4000000
namespace NR
open PySem PySem.Spec PyProof.Rows L2

def spIsNum : Sp := fun vs H Q _ => ∃ (n k : Int), vs = [.int n, .int k] ∧ Q (.bl (decide (0 ≤ n) && decide (n ≤ k))) H
abbrev sIsNumber : Stmt := top 9
theorem scsIsNumber : FnScope ["value", "last"] ["value", "last"] (defScope sIsNumber) := ⟨rfl, rfl, rfl, by decide +kernel, rfl, by decide +kernel, by decide +kernel⟩
section
variable {P : Program} {w : World} {K : PySem.W.Frag} {mg : Str → Option Value} {base : Heap} {f : Addr} {fd : FuncData}

theorem ok_isnum (F : FnP K "is_number" sIsNumber f fd) (z_isinstance : mg "isinstance" = none) (z_int : mg "int" = none) (z_bool : mg "bool" = none) : FnOk P w K mg base CX0 1 f fd ["value", "last"] spIsNum := by
  have sc := scsIsNumber
  refine F.ok sc (fun vs H Q E h => ?_) (fun cdv A outer s H vs Q E hr h => ?_)
  · obtain ⟨n, k, rfl, _⟩ := h
    rfl
  obtain ⟨n, k, rfl, q⟩ := h
  refine ⟨_, (pss_cons (ps_if (PW.pt (pw_or (pt_not (pt_val (pe_callB (call_isiK K) rfl z_isinstance (by decide +kernel) (pa_cons (pv 0) (pa_cons (pe_bltn (v := .ty "int") rfl z_int (by decide +kernel) rfl) pa_nil))))) (pw_or1 (pt_val (pe_callB (call_isiK K) rfl z_isinstance (by decide +kernel) (pa_cons (pv 0) (pa_cons (pe_bltn (v := .ty "bool") rfl z_bool (by decide +kernel) rfl) pa_nil))))))) (pss_one (ps_ret pe_bl)) pss_nil)
    (pss_one (ps_ret (pe_chain op_le op_le pe_int (pv 0) (pv 1))))), ?_⟩
  refine ⟨_, rfl, _, _, _, _, _, rfl, .ty _, .base (.int n), kit_ty (r := true) (by decide +kernel), _, rfl, ?_⟩
  refine ite2 (fun z => nomatch z) (fun _ => ?_)
  refine ⟨_, rfl, _, _, _, _, _, rfl, .ty _, .base (.int n), kit_ty (r := false) (by decide +kernel), _, rfl, ?_⟩
  refine ite2 (fun z => nomatch z) (fun _ => ?_)
  refine ⟨_, rfl, _, _, rfl, rfl, _, rfl, ?_⟩
  refine ite2 (fun c => ?_) (fun c => ?_)
  · refine ⟨_, rfl, _, _, rfl, rfl, ?_⟩
    rw [c] at q
    exact q
  · rw [Bool.eq_false_iff.mpr c] at q
    exact q
end
end NR
set_option maxHeartbeats 4000000
namespace NR
open PySem PySem.Spec PyProof.Rows L2

theorem Dep.inum {ds d} : Dep .num ds d → ds = [] ∧ d = 0 := by intro h; cases h with | num => exact ⟨rfl, rfl⟩ | two h => simp at h
theorem Dep.itwo {w : W} {ds d} (hw : w = .plus ∨ w = .minus ∨ w = .times ∨ w = .less ∨ w = .same) : Dep w ds d → ds = [0, 0] ∧ d = 0 := by
  intro h; rcases hw with rfl | rfl | rfl | rfl | rfl <;> cases h <;> exact ⟨rfl, rfl⟩
theorem Dep.iite {ds d} : Dep .ite ds d → ds = [0, d, d] := by intro h; cases h with | ite => rfl | two h => simp at h
theorem Dep.ielet {ds d} : Dep .elet ds d → ∃ c, ds = [c, d] := by intro h; cases h with | elet => exact ⟨_, rfl⟩ | two h => simp at h
theorem Dep.iupto {ds d} : Dep .upto ds d → ds = [0] ∧ d = 1 := by intro h; cases h with | upto => exact ⟨rfl, rfl⟩ | two h => simp at h
theorem Dep.ilen {ds d} : Dep .len ds d → ∃ c, ds = [c + 1] ∧ d = 0 := by intro h; cases h with | len => exact ⟨_, rfl, rfl⟩ | two h => simp at h
theorem Dep.isum {ds d} : Dep .sum ds d → ds = [1] ∧ d = 0 := by intro h; cases h with | sum => exact ⟨rfl, rfl⟩ | two h => simp at h
theorem Dep.isums {ds d} : Dep .sums ds d → ds = [1] ∧ d = 1 := by intro h; cases h with | sums => exact ⟨rfl, rfl⟩ | two h => simp at h
theorem Dep.ione {ds d} : Dep .one ds d → ∃ c, ds = [c] ∧ d = c + 1 ∧ c < 3 := by intro h; cases h with | one h => exact ⟨_, rfl, rfl, h⟩ | two h => simp at h
theorem Dep.ipick {ds d} : Dep .pick ds d → ds = [d + 1, 0] := by intro h; cases h with | pick => rfl | two h => simp at h
theorem Dep.iput {ds d} : Dep .put ds d → ∃ c, ds = [c + 1, c + 1] ∧ d = c + 1 := by intro h; cases h with | put => exact ⟨_, rfl, rfl⟩ | two h => simp at h
theorem Dep.iflat {ds d} : Dep .flat ds d → ∃ c, ds = [c + 2] ∧ d = c + 1 := by intro h; cases h with | flat => exact ⟨_, rfl, rfl⟩ | two h => simp at h
theorem Dep.ieach {ds d} : Dep .each ds d → ∃ b c, ds = [b + 1, c] ∧ d = c + 1 ∧ c < 3 := by intro h; cases h with | each h => exact ⟨_, _, rfl, rfl, h⟩ | two h => simp at h
theorem Dep.iwhr {ds d} : Dep .whr ds d → ∃ b, ds = [b + 1, 0] ∧ d = b + 1 := by intro h; cases h with | whr => exact ⟨_, rfl, rfl⟩ | two h => simp at h
def spOf (S : W → Prop) : Sp := fun vs H Q _ => ∃ (l : Addr) (ds : List Nat) (d : Nat) (x : W), vs = [.ref l] ∧ H l = some (.lst (ds.map dV)) ∧ S x ∧ Dep x ds d ∧ ∀ H', Same H H' → Q (dV d) H'
theorem q0 {Q : VK} {v : V} {H : Hp} (q : ∀ H', Same H H' → Q v H') : Q v H := q H (fun _ _ h => h)
theorem eqT {α : Sort _} {a b : α} (c : Bool) (h : c = true) : (if c = true then a else b) = a := if_pos h
def isTwo (w : W) : Prop := w = .plus ∨ w = .minus ∨ w = .times ∨ w = .less ∨ w = .same
abbrev sOfNum : Stmt := top 12
theorem scsOfNum : FnScope ["depths"] ["depths"] (defScope sOfNum) := ⟨rfl, rfl, rfl, by decide +kernel, rfl, by decide +kernel, by decide +kernel⟩
section
variable {P : Program} {w : World} {K : PySem.W.Frag} {mg : Str → Option Value} {base : Heap} {f : Addr} {fd : FuncData}

theorem ok_of_num (F : FnP K "of_num" sOfNum f fd) {t0 t1 : Tok} (m_NO_DEPTH : mg "NO_DEPTH" = some (.int (-1) t0)) (m_MOST_DEPTH : mg "MOST_DEPTH" = some (.int 3 t1)) : FnOk P w K mg base CX0 1 f fd ["depths"] (spOf (· = .num)) := by
  have sc := scsOfNum
  refine F.ok sc (fun vs H Q E h => ?_) (fun cdv A outer s H vs Q E hr h => ?_)
  · obtain ⟨l, ds, d, x, rfl, _⟩ := h
    rfl
  obtain ⟨l, ds, d, x, rfl, hl, hx, hD, q⟩ := h
  refine ⟨_, (pss_one (ps_ret pe_int)), ?_⟩
  subst hx
  obtain ⟨rfl, rfl⟩ := hD.inum
  exact q0 q
end
abbrev sOfTwoNumbers : Stmt := top 13
theorem scsOfTwoNumbers : FnScope ["depths"] ["depths"] (defScope sOfTwoNumbers) := ⟨rfl, rfl, rfl, by decide +kernel, rfl, by decide +kernel, by decide +kernel⟩
section
variable {P : Program} {w : World} {K : PySem.W.Frag} {mg : Str → Option Value} {base : Heap} {f : Addr} {fd : FuncData}

theorem ok_of_two_numbers (F : FnP K "of_two_numbers" sOfTwoNumbers f fd) {t0 t1 : Tok} (m_NO_DEPTH : mg "NO_DEPTH" = some (.int (-1) t0)) (m_MOST_DEPTH : mg "MOST_DEPTH" = some (.int 3 t1)) : FnOk P w K mg base CX0 1 f fd ["depths"] (spOf isTwo) := by
  have sc := scsOfTwoNumbers
  refine F.ok sc (fun vs H Q E h => ?_) (fun cdv A outer s H vs Q E hr h => ?_)
  · obtain ⟨l, ds, d, x, rfl, _⟩ := h
    rfl
  obtain ⟨l, ds, d, x, rfl, hl, hx, hD, q⟩ := h
  refine ⟨_, (pss_one (ps_ret (pe_ifExp (pt_cmpR (op_eqDK K hr.units) (pv 0) (pe_lst (pa_cons pe_int (pa_cons pe_int pa_nil))) (nomark _)) pe_int (pe_gI rfl m_NO_DEPTH)))), ?_⟩
  obtain ⟨rfl, rfl⟩ := hD.itwo hx
  refine ⟨_, rfl, by show 2 ≤ sizeLine; decide, fun p hp => ?_⟩
  refine ⟨.list [.int 0, .int 0], .list [.int 0, .int 0], .lst (SqL.of (same_new hp _ _ _ hl)) (.cons (.int _) (.cons (.int _) .nil)), .lst (SqL.of upd_same) (.cons (.int _) (.cons (.int _) .nil)), by rfl, by rfl, _, rfl, ?_⟩
  refine ite2 (fun _ => ?_) (fun z => absurd rfl z)
  exact q _ (same_new hp _)
end
abbrev sOfIf : Stmt := top 14
theorem scsOfIf : FnScope ["depths", "chosen", "yes", "no"] ["depths"] (defScope sOfIf) := ⟨rfl, rfl, rfl, by decide +kernel, rfl, by decide +kernel, by decide +kernel⟩
section
variable {P : Program} {w : World} {K : PySem.W.Frag} {mg : Str → Option Value} {base : Heap} {f : Addr} {fd : FuncData}

theorem ok_of_if (F : FnP K "of_if" sOfIf f fd) {t0 t1 : Tok} (m_NO_DEPTH : mg "NO_DEPTH" = some (.int (-1) t0)) (m_MOST_DEPTH : mg "MOST_DEPTH" = some (.int 3 t1)) : FnOk P w K mg base CX0 1 f fd ["depths"] (spOf (· = .ite)) := by
  have sc := scsOfIf
  refine F.ok sc (fun vs H Q E h => ?_) (fun cdv A outer s H vs Q E hr h => ?_)
  · obtain ⟨l, ds, d, x, rfl, _⟩ := h
    rfl
  obtain ⟨l, ds, d, x, rfl, hl, hx, hD, q⟩ := h
  refine ⟨_, (pss_cons (ps_asg (pv 0) (pg_lstK K (n := 3) rfl (pgs_cons (pg_name (i := 1) sc.nd rfl (.inl rfl)) (pgs_cons (pg_name (i := 2) sc.nd rfl (.inl rfl)) (pgs_cons (pg_name (i := 3) sc.nd rfl (.inl rfl)) pgs_nil)))))
    (pss_one (ps_ret (pe_ifExp (PW.pt (pw_and (pt_cmpR op_eq (pv 1) pe_int (nomark _)) (pw_and1 (pt_cmpR op_eq (pv 2) (pv 3) (nomark _))))) (pv 2) (pe_gI rfl m_NO_DEPTH))))), ?_⟩
  subst hx
  obtain rfl := hD.iite
  refine ⟨_, rfl, l, _, rfl, SqL.of hl, rfl, _, _, rfl, _, _, rfl, _, _, rfl, rfl, ?_⟩
  refine ⟨_, rfl, rfl, _, rfl, ?_⟩
  refine ite2 (fun _ => ?_) (fun z => absurd rfl z)
  refine ⟨_, rfl, _, rfl, rfl, _, rfl, ?_⟩
  refine ite2 (fun _ => ?_) (fun z => absurd (decide_eq_true rfl) z)
  exact ⟨_, rfl, q0 q⟩
end
abbrev sOfLet : Stmt := top 15
theorem scsOfLet : FnScope ["depths"] ["depths"] (defScope sOfLet) := ⟨rfl, rfl, rfl, by decide +kernel, rfl, by decide +kernel, by decide +kernel⟩
section
variable {P : Program} {w : World} {K : PySem.W.Frag} {mg : Str → Option Value} {base : Heap} {f : Addr} {fd : FuncData}

theorem ok_of_let (F : FnP K "of_let" sOfLet f fd) {t0 t1 : Tok} (m_NO_DEPTH : mg "NO_DEPTH" = some (.int (-1) t0)) (m_MOST_DEPTH : mg "MOST_DEPTH" = some (.int 3 t1)) : FnOk P w K mg base CX0 1 f fd ["depths"] (spOf (· = .elet)) := by
  have sc := scsOfLet
  refine F.ok sc (fun vs H Q E h => ?_) (fun cdv A outer s H vs Q E hr h => ?_)
  · obtain ⟨l, ds, d, x, rfl, _⟩ := h
    rfl
  obtain ⟨l, ds, d, x, rfl, hl, hx, hD, q⟩ := h
  refine ⟨_, (pss_one (ps_ret (pe_ix (ix_listK K) (pv 0) pe_int (fun _ _ => rfl)))), ?_⟩
  subst hx
  obtain ⟨c, rfl⟩ := hD.ielet
  exact ⟨_, rfl, l, _, _, _, rfl, rfl, SqL.of hl, rfl, q0 q⟩
end
abbrev sOfUpto : Stmt := top 16
theorem scsOfUpto : FnScope ["depths"] ["depths"] (defScope sOfUpto) := ⟨rfl, rfl, rfl, by decide +kernel, rfl, by decide +kernel, by decide +kernel⟩
section
variable {P : Program} {w : World} {K : PySem.W.Frag} {mg : Str → Option Value} {base : Heap} {f : Addr} {fd : FuncData}

theorem ok_of_upto (F : FnP K "of_upto" sOfUpto f fd) {t0 t1 : Tok} (m_NO_DEPTH : mg "NO_DEPTH" = some (.int (-1) t0)) (m_MOST_DEPTH : mg "MOST_DEPTH" = some (.int 3 t1)) : FnOk P w K mg base CX0 1 f fd ["depths"] (spOf (· = .upto)) := by
  have sc := scsOfUpto
  refine F.ok sc (fun vs H Q E h => ?_) (fun cdv A outer s H vs Q E hr h => ?_)
  · obtain ⟨l, ds, d, x, rfl, _⟩ := h
    rfl
  obtain ⟨l, ds, d, x, rfl, hl, hx, hD, q⟩ := h
  refine ⟨_, (pss_one (ps_ret (pe_ifExp (pt_cmpR (op_eqDK K hr.units) (pv 0) (pe_lst (pa_cons pe_int pa_nil)) (nomark _)) pe_int (pe_gI rfl m_NO_DEPTH)))), ?_⟩
  subst hx
  obtain ⟨rfl, rfl⟩ := hD.iupto
  refine ⟨_, rfl, by show 1 ≤ sizeLine; decide, fun p hp => ?_⟩
  refine ⟨.list [.int 0], .list [.int 0], .lst (SqL.of (same_new hp _ _ _ hl)) (.cons (.int _) .nil), .lst (SqL.of upd_same) (.cons (.int _) .nil), by rfl, by rfl, _, rfl, ?_⟩
  refine ite2 (fun _ => ?_) (fun z => absurd rfl z)
  exact q _ (same_new hp _)
end
abbrev sOfLen : Stmt := top 17
theorem scsOfLen : FnScope ["depths"] ["depths"] (defScope sOfLen) := ⟨rfl, rfl, rfl, by decide +kernel, rfl, by decide +kernel, by decide +kernel⟩
section
variable {P : Program} {w : World} {K : PySem.W.Frag} {mg : Str → Option Value} {base : Heap} {f : Addr} {fd : FuncData}

theorem ok_of_len (F : FnP K "of_len" sOfLen f fd) {t0 t1 : Tok} (m_NO_DEPTH : mg "NO_DEPTH" = some (.int (-1) t0)) (m_MOST_DEPTH : mg "MOST_DEPTH" = some (.int 3 t1)) : FnOk P w K mg base CX0 1 f fd ["depths"] (spOf (· = .len)) := by
  have sc := scsOfLen
  refine F.ok sc (fun vs H Q E h => ?_) (fun cdv A outer s H vs Q E hr h => ?_)
  · obtain ⟨l, ds, d, x, rfl, _⟩ := h
    rfl
  obtain ⟨l, ds, d, x, rfl, hl, hx, hD, q⟩ := h
  refine ⟨_, (pss_one (ps_ret (pe_ifExp (pt_cmpR op_ge (pe_ix (ix_listK K) (pv 0) pe_int (fun _ _ => rfl)) pe_int (nomark _)) pe_int (pe_gI rfl m_NO_DEPTH)))), ?_⟩
  subst hx
  obtain ⟨c, rfl, rfl⟩ := hD.ilen
  refine ⟨_, rfl, l, _, _, _, rfl, rfl, SqL.of hl, rfl, _, _, rfl, rfl, _, rfl, ?_⟩
  refine ite2 (fun _ => ?_) (fun z => absurd (decide_eq_true (by omega)) z)
  exact q0 q
end
abbrev sOfSum : Stmt := top 18
theorem scsOfSum : FnScope ["depths"] ["depths"] (defScope sOfSum) := ⟨rfl, rfl, rfl, by decide +kernel, rfl, by decide +kernel, by decide +kernel⟩
section
variable {P : Program} {w : World} {K : PySem.W.Frag} {mg : Str → Option Value} {base : Heap} {f : Addr} {fd : FuncData}

theorem ok_of_sum (F : FnP K "of_sum" sOfSum f fd) {t0 t1 : Tok} (m_NO_DEPTH : mg "NO_DEPTH" = some (.int (-1) t0)) (m_MOST_DEPTH : mg "MOST_DEPTH" = some (.int 3 t1)) : FnOk P w K mg base CX0 1 f fd ["depths"] (spOf (· = .sum)) := by
  have sc := scsOfSum
  refine F.ok sc (fun vs H Q E h => ?_) (fun cdv A outer s H vs Q E hr h => ?_)
  · obtain ⟨l, ds, d, x, rfl, _⟩ := h
    rfl
  obtain ⟨l, ds, d, x, rfl, hl, hx, hD, q⟩ := h
  refine ⟨_, (pss_one (ps_ret (pe_ifExp (pt_cmpR (op_eqDK K hr.units) (pv 0) (pe_lst (pa_cons pe_int pa_nil)) (nomark _)) pe_int (pe_gI rfl m_NO_DEPTH)))), ?_⟩
  subst hx
  obtain ⟨rfl, rfl⟩ := hD.isum
  refine ⟨_, rfl, by show 1 ≤ sizeLine; decide, fun p hp => ?_⟩
  refine ⟨.list [.int 1], .list [.int 1], .lst (SqL.of (same_new hp _ _ _ hl)) (.cons (.int _) .nil), .lst (SqL.of upd_same) (.cons (.int _) .nil), by rfl, by rfl, _, rfl, ?_⟩
  refine ite2 (fun _ => ?_) (fun z => absurd rfl z)
  exact q _ (same_new hp _)
end
abbrev sOfSums : Stmt := top 19
theorem scsOfSums : FnScope ["depths"] ["depths"] (defScope sOfSums) := ⟨rfl, rfl, rfl, by decide +kernel, rfl, by decide +kernel, by decide +kernel⟩
section
variable {P : Program} {w : World} {K : PySem.W.Frag} {mg : Str → Option Value} {base : Heap} {f : Addr} {fd : FuncData}

theorem ok_of_sums (F : FnP K "of_sums" sOfSums f fd) {t0 t1 : Tok} (m_NO_DEPTH : mg "NO_DEPTH" = some (.int (-1) t0)) (m_MOST_DEPTH : mg "MOST_DEPTH" = some (.int 3 t1)) : FnOk P w K mg base CX0 1 f fd ["depths"] (spOf (· = .sums)) := by
  have sc := scsOfSums
  refine F.ok sc (fun vs H Q E h => ?_) (fun cdv A outer s H vs Q E hr h => ?_)
  · obtain ⟨l, ds, d, x, rfl, _⟩ := h
    rfl
  obtain ⟨l, ds, d, x, rfl, hl, hx, hD, q⟩ := h
  refine ⟨_, (pss_one (ps_ret (pe_ifExp (pt_cmpR (op_eqDK K hr.units) (pv 0) (pe_lst (pa_cons pe_int pa_nil)) (nomark _)) pe_int (pe_gI rfl m_NO_DEPTH)))), ?_⟩
  subst hx
  obtain ⟨rfl, rfl⟩ := hD.isums
  refine ⟨_, rfl, by show 1 ≤ sizeLine; decide, fun p hp => ?_⟩
  refine ⟨.list [.int 1], .list [.int 1], .lst (SqL.of (same_new hp _ _ _ hl)) (.cons (.int _) .nil), .lst (SqL.of upd_same) (.cons (.int _) .nil), by rfl, by rfl, _, rfl, ?_⟩
  refine ite2 (fun _ => ?_) (fun z => absurd rfl z)
  exact q _ (same_new hp _)
end
abbrev sOfOne : Stmt := top 20
theorem scsOfOne : FnScope ["depths"] ["depths"] (defScope sOfOne) := ⟨rfl, rfl, rfl, by decide +kernel, rfl, by decide +kernel, by decide +kernel⟩
section
variable {P : Program} {w : World} {K : PySem.W.Frag} {mg : Str → Option Value} {base : Heap} {f : Addr} {fd : FuncData}

theorem ok_of_one (F : FnP K "of_one" sOfOne f fd) {t0 t1 : Tok} (m_NO_DEPTH : mg "NO_DEPTH" = some (.int (-1) t0)) (m_MOST_DEPTH : mg "MOST_DEPTH" = some (.int 3 t1)) : FnOk P w K mg base CX0 1 f fd ["depths"] (spOf (· = .one)) := by
  have sc := scsOfOne
  refine F.ok sc (fun vs H Q E h => ?_) (fun cdv A outer s H vs Q E hr h => ?_)
  · obtain ⟨l, ds, d, x, rfl, _⟩ := h
    rfl
  obtain ⟨l, ds, d, x, rfl, hl, hx, hD, q⟩ := h
  refine ⟨_, (pss_one (ps_ret (pe_ifExp (pt_cmpR op_lt (pe_ix (ix_listK K) (pv 0) pe_int (fun _ _ => rfl)) (pe_gI rfl m_MOST_DEPTH) (nomark _)) (pe_op op_add (pe_ix (ix_listK K) (pv 0) pe_int (fun _ _ => rfl)) pe_int) (pe_gI rfl m_NO_DEPTH)))), ?_⟩
  subst hx
  obtain ⟨c, rfl, rfl, hc⟩ := hD.ione
  refine ⟨_, rfl, l, _, _, _, rfl, rfl, SqL.of hl, rfl, _, _, rfl, rfl, _, rfl, ?_⟩
  refine ite2 (fun _ => ?_) (fun z => absurd (decide_eq_true (by omega)) z)
  refine ⟨_, rfl, l, _, _, _, rfl, rfl, SqL.of hl, rfl, _, _, rfl, rfl, ?_⟩
  exact q0 q
end
abbrev sOfPick : Stmt := top 21
theorem scsOfPick : FnScope ["depths", "row", "number"] ["depths"] (defScope sOfPick) := ⟨rfl, rfl, rfl, by decide +kernel, rfl, by decide +kernel, by decide +kernel⟩
section
variable {P : Program} {w : World} {K : PySem.W.Frag} {mg : Str → Option Value} {base : Heap} {f : Addr} {fd : FuncData}

theorem ok_of_pick (F : FnP K "of_pick" sOfPick f fd) {t0 t1 : Tok} (m_NO_DEPTH : mg "NO_DEPTH" = some (.int (-1) t0)) (m_MOST_DEPTH : mg "MOST_DEPTH" = some (.int 3 t1)) : FnOk P w K mg base CX0 1 f fd ["depths"] (spOf (· = .pick)) := by
  have sc := scsOfPick
  refine F.ok sc (fun vs H Q E h => ?_) (fun cdv A outer s H vs Q E hr h => ?_)
  · obtain ⟨l, ds, d, x, rfl, _⟩ := h
    rfl
  obtain ⟨l, ds, d, x, rfl, hl, hx, hD, q⟩ := h
  refine ⟨_, (pss_cons (ps_asg (pv 0) (pg_lstK K (n := 2) rfl (pgs_cons (pg_name (i := 1) sc.nd rfl (.inl rfl)) (pgs_cons (pg_name (i := 2) sc.nd rfl (.inl rfl)) pgs_nil))))
    (pss_one (ps_ret (pe_ifExp (PW.pt (pw_and (pt_cmpR op_ge (pv 1) pe_int (nomark _)) (pw_and1 (pt_cmpR op_eq (pv 2) pe_int (nomark _))))) (pe_op op_sub (pv 1) pe_int) (pe_gI rfl m_NO_DEPTH))))), ?_⟩
  subst hx
  obtain rfl := hD.ipick
  refine ⟨_, rfl, l, _, rfl, SqL.of hl, rfl, _, _, rfl, _, _, rfl, rfl, ?_⟩
  refine ⟨_, rfl, _, _, rfl, rfl, _, rfl, ?_⟩
  refine ite2 (fun _ => ?_) (fun z => absurd (decide_eq_true (by omega)) z)
  refine ⟨_, rfl, rfl, _, rfl, ?_⟩
  refine ite2 (fun _ => ?_) (fun z => absurd rfl z)
  refine ⟨_, rfl, _, _, rfl, rfl, ?_⟩
  have e : (((d + 1 : Nat) : Int) - 1) = (d : Int) := by omega
  show Q (V.int (((d + 1 : Nat) : Int) - 1)) _
  rw [e]
  exact q0 q
end
abbrev sOfPut : Stmt := top 22
theorem scsOfPut : FnScope ["depths", "first", "second"] ["depths"] (defScope sOfPut) := ⟨rfl, rfl, rfl, by decide +kernel, rfl, by decide +kernel, by decide +kernel⟩
section
variable {P : Program} {w : World} {K : PySem.W.Frag} {mg : Str → Option Value} {base : Heap} {f : Addr} {fd : FuncData}

theorem ok_of_put (F : FnP K "of_put" sOfPut f fd) {t0 t1 : Tok} (m_NO_DEPTH : mg "NO_DEPTH" = some (.int (-1) t0)) (m_MOST_DEPTH : mg "MOST_DEPTH" = some (.int 3 t1)) : FnOk P w K mg base CX0 1 f fd ["depths"] (spOf (· = .put)) := by
  have sc := scsOfPut
  refine F.ok sc (fun vs H Q E h => ?_) (fun cdv A outer s H vs Q E hr h => ?_)
  · obtain ⟨l, ds, d, x, rfl, _⟩ := h
    rfl
  obtain ⟨l, ds, d, x, rfl, hl, hx, hD, q⟩ := h
  refine ⟨_, (pss_cons (ps_asg (pv 0) (pg_lstK K (n := 2) rfl (pgs_cons (pg_name (i := 1) sc.nd rfl (.inl rfl)) (pgs_cons (pg_name (i := 2) sc.nd rfl (.inl rfl)) pgs_nil))))
    (pss_one (ps_ret (pe_ifExp (PW.pt (pw_and (pt_cmpR op_ge (pv 1) pe_int (nomark _)) (pw_and1 (pt_cmpR op_eq (pv 1) (pv 2) (nomark _))))) (pv 1) (pe_gI rfl m_NO_DEPTH))))), ?_⟩
  subst hx
  obtain ⟨c, rfl, rfl⟩ := hD.iput
  refine ⟨_, rfl, l, _, rfl, SqL.of hl, rfl, _, _, rfl, _, _, rfl, rfl, ?_⟩
  refine ⟨_, rfl, _, _, rfl, rfl, _, rfl, ?_⟩
  refine ite2 (fun _ => ?_) (fun z => absurd (decide_eq_true (by omega)) z)
  refine ⟨_, rfl, _, rfl, rfl, _, rfl, ?_⟩
  refine ite2 (fun _ => ?_) (fun z => absurd (decide_eq_true rfl) z)
  exact ⟨_, rfl, q0 q⟩
end
abbrev sOfFlat : Stmt := top 23
theorem scsOfFlat : FnScope ["depths"] ["depths"] (defScope sOfFlat) := ⟨rfl, rfl, rfl, by decide +kernel, rfl, by decide +kernel, by decide +kernel⟩
section
variable {P : Program} {w : World} {K : PySem.W.Frag} {mg : Str → Option Value} {base : Heap} {f : Addr} {fd : FuncData}

theorem ok_of_flat (F : FnP K "of_flat" sOfFlat f fd) {t0 t1 : Tok} (m_NO_DEPTH : mg "NO_DEPTH" = some (.int (-1) t0)) (m_MOST_DEPTH : mg "MOST_DEPTH" = some (.int 3 t1)) : FnOk P w K mg base CX0 1 f fd ["depths"] (spOf (· = .flat)) := by
  have sc := scsOfFlat
  refine F.ok sc (fun vs H Q E h => ?_) (fun cdv A outer s H vs Q E hr h => ?_)
  · obtain ⟨l, ds, d, x, rfl, _⟩ := h
    rfl
  obtain ⟨l, ds, d, x, rfl, hl, hx, hD, q⟩ := h
  refine ⟨_, (pss_one (ps_ret (pe_ifExp (pt_cmpR op_ge (pe_ix (ix_listK K) (pv 0) pe_int (fun _ _ => rfl)) pe_int (nomark _)) (pe_op op_sub (pe_ix (ix_listK K) (pv 0) pe_int (fun _ _ => rfl)) pe_int) (pe_gI rfl m_NO_DEPTH)))), ?_⟩
  subst hx
  obtain ⟨c, rfl, rfl⟩ := hD.iflat
  refine ⟨_, rfl, l, _, _, _, rfl, rfl, SqL.of hl, rfl, _, _, rfl, rfl, _, rfl, ?_⟩
  refine ite2 (fun _ => ?_) (fun z => absurd (decide_eq_true (by omega)) z)
  refine ⟨_, rfl, l, _, _, _, rfl, rfl, SqL.of hl, rfl, _, _, rfl, rfl, ?_⟩
  have e : (((c + 2 : Nat) : Int) - 1) = ((c + 1 : Nat) : Int) := by omega
  show Q (V.int (((c + 2 : Nat) : Int) - 1)) _
  rw [e]
  exact q0 q
end
abbrev sOfEach : Stmt := top 24
theorem scsOfEach : FnScope ["depths"] ["depths"] (defScope sOfEach) := ⟨rfl, rfl, rfl, by decide +kernel, rfl, by decide +kernel, by decide +kernel⟩
section
variable {P : Program} {w : World} {K : PySem.W.Frag} {mg : Str → Option Value} {base : Heap} {f : Addr} {fd : FuncData}

theorem ok_of_each (F : FnP K "of_each" sOfEach f fd) {t0 t1 : Tok} (m_NO_DEPTH : mg "NO_DEPTH" = some (.int (-1) t0)) (m_MOST_DEPTH : mg "MOST_DEPTH" = some (.int 3 t1)) : FnOk P w K mg base CX0 1 f fd ["depths"] (spOf (· = .each)) := by
  have sc := scsOfEach
  refine F.ok sc (fun vs H Q E h => ?_) (fun cdv A outer s H vs Q E hr h => ?_)
  · obtain ⟨l, ds, d, x, rfl, _⟩ := h
    rfl
  obtain ⟨l, ds, d, x, rfl, hl, hx, hD, q⟩ := h
  refine ⟨_, (pss_one (ps_ret (pe_ifExp (pt_cmpR op_lt (pe_ix (ix_listK K) (pv 0) pe_int (fun _ _ => rfl)) (pe_gI rfl m_MOST_DEPTH) (nomark _)) (pe_op op_add (pe_ix (ix_listK K) (pv 0) pe_int (fun _ _ => rfl)) pe_int) (pe_gI rfl m_NO_DEPTH)))), ?_⟩
  subst hx
  obtain ⟨b, c, rfl, rfl, hc⟩ := hD.ieach
  refine ⟨_, rfl, l, _, _, _, rfl, rfl, SqL.of hl, rfl, _, _, rfl, rfl, _, rfl, ?_⟩
  refine ite2 (fun _ => ?_) (fun z => absurd (decide_eq_true (by omega)) z)
  refine ⟨_, rfl, l, _, _, _, rfl, rfl, SqL.of hl, rfl, _, _, rfl, rfl, ?_⟩
  exact q0 q
end
abbrev sOfWhere : Stmt := top 25
theorem scsOfWhere : FnScope ["depths"] ["depths"] (defScope sOfWhere) := ⟨rfl, rfl, rfl, by decide +kernel, rfl, by decide +kernel, by decide +kernel⟩
section
variable {P : Program} {w : World} {K : PySem.W.Frag} {mg : Str → Option Value} {base : Heap} {f : Addr} {fd : FuncData}

theorem ok_of_where (F : FnP K "of_where" sOfWhere f fd) {t0 t1 : Tok} (m_NO_DEPTH : mg "NO_DEPTH" = some (.int (-1) t0)) (m_MOST_DEPTH : mg "MOST_DEPTH" = some (.int 3 t1)) : FnOk P w K mg base CX0 1 f fd ["depths"] (spOf (· = .whr)) := by
  have sc := scsOfWhere
  refine F.ok sc (fun vs H Q E h => ?_) (fun cdv A outer s H vs Q E hr h => ?_)
  · obtain ⟨l, ds, d, x, rfl, _⟩ := h
    rfl
  obtain ⟨l, ds, d, x, rfl, hl, hx, hD, q⟩ := h
  refine ⟨_, (pss_one (ps_ret (pe_ifExp (pt_cmpR op_eq (pe_ix (ix_listK K) (pv 0) pe_int (fun _ _ => rfl)) pe_int (nomark _)) (pe_ix (ix_listK K) (pv 0) pe_int (fun _ _ => rfl)) (pe_gI rfl m_NO_DEPTH)))), ?_⟩
  subst hx
  obtain ⟨b, rfl, rfl⟩ := hD.iwhr
  refine ⟨_, rfl, l, _, _, _, rfl, rfl, SqL.of hl, rfl, rfl, _, rfl, ?_⟩
  refine ite2 (fun _ => ?_) (fun z => absurd rfl z)
  exact ⟨_, rfl, l, _, _, _, rfl, rfl, SqL.of hl, rfl, q0 q⟩
end
end NR
set_option maxHeartbeats 4000000
namespace NR
open PySem PySem.Spec PyProof.Rows L2

def spShape (K : PySem.W.Frag) : Sp := fun vs H Q _ => ∃ (v : V) (x : W) (n : Int) (ps : List Ex), vs = [v] ∧ TIn H v (.node x n ps) ∧ ShOk x n ps.length ∧ Q (.bl true) H
theorem isCallN (x : W) : (!decide (V.str x.str = V.str "call")) = !decide (x.lay = 2) := by rw [isCall]
abbrev sHasShape : Stmt := top 36
theorem scsHasShape : FnScope ["expression", "word"] ["expression"] (defScope sHasShape) := ⟨rfl, rfl, rfl, by decide +kernel, rfl, by decide +kernel, by decide +kernel⟩
section
variable {P : Program} {w : World} {K : PySem.W.Frag} {mg : Str → Option Value} {base : Heap} {f : Addr} {fd : FuncData}

theorem ok_shape (F : FnP K "has_shape" sHasShape f fd) {aN aL : Addr} (m_NUMBERED : mg "NUMBERED" = some (.ref aN)) (hN : ∀ H, SqT K H aN numW) (m_LENGTHS : mg "LENGTHS" = some (.ref aL)) (T_LENGTHS : Tbl K w aL gLen)
    (O_is_number : Okf P w K mg base CX0 1 "is_number" ["value", "last"] spIsNum) (O_last_number : Okf P w K mg base CX0 1 "last_number" ["word"] spLast)
    (z_isinstance : mg "isinstance" = none) (z_tuple : mg "tuple" = none) (z_len : mg "len" = none) (z_str : mg "str" = none) : FnOk P w K mg base CX0 2 f fd ["expression"] (spShape K) := by
  have sc := scsHasShape
  refine F.ok sc (fun vs H Q E h => ?_) (fun cdv A outer s H vs Q E hr h => ?_)
  · obtain ⟨v, x, n, ps, rfl, _⟩ := h
    rfl
  obtain ⟨v, x, n, ps, rfl, ti, sh, q⟩ := h
  obtain ⟨a, xs, rfl, ha, hl, h1, h2, h3, h4⟩ := ti.hd sh
  refine ⟨_, (pss_cons (ps_if (PW.pt (pw_or (pt_not (pt_val (pe_callB (call_isiK K) rfl z_isinstance (by decide +kernel) (pa_cons (pv 0) (pa_cons (pe_bltn (v := .ty "tuple") rfl z_tuple (by decide +kernel) rfl) pa_nil))))) (pw_or1 (pt_cmpR op_eq (pe_callB (call_lenK K) rfl z_len PySem.boot_len (pa_cons (pv 0) pa_nil)) pe_int (nomark _))))) (pss_one (ps_ret pe_bl)) pss_nil)
    (pss_cons (ps_set (i := 1) sc.nd rfl (.inl rfl) (pe_ix (ix_tupK K) (pv 0) pe_int (fun _ _ => rfl)))
    (pss_cons (ps_if (PW.pt (pw_or (pt_not (pt_val (pe_callB (call_isiK K) rfl z_isinstance (by decide +kernel) (pa_cons (pv 1) (pa_cons (pe_bltn (v := .ty "str") rfl z_str (by decide +kernel) rfl) pa_nil))))) (pw_or (pt_cmpR (op_notInTbl T_LENGTHS) (pv 1) (pe_gR rfl m_LENGTHS) (by rfl)) (pw_or1 (pt_cmpR op_ne (pe_callB (call_lenK K) rfl z_len PySem.boot_len (pa_cons (pv 0) pa_nil)) (pe_ix (ix_tbl T_LENGTHS) (pe_gR rfl m_LENGTHS) (pv 1) (fun _ _ => rfl)) (nomark _)))))) (pss_one (ps_ret pe_bl)) pss_nil)
    (pss_cons (ps_if (PW.pt (pw_and (pt_cmpR (op_inK K) (pv 1) (pe_gR rfl m_NUMBERED) (by rfl)) (pw_and1 (pt_not (pt_val (pe_c O_is_number hr rfl pass0 (pa_cons (pe_ix (ix_tupK K) (pv 0) pe_int (fun _ _ => rfl)) (pa_cons (pe_c O_last_number hr rfl pass0 (pa_cons (pv 1) pa_nil)) pa_nil)))))))) (pss_one (ps_ret pe_bl)) pss_nil)
    (pss_one (ps_ret (pe_or (pe_cmpR op_ne (pv 1) pe_str (nomark _)) (pe_one (pe_callB (call_isiK K) rfl z_isinstance (by decide +kernel) (pa_cons (pe_ix (ix_tupK K) (pv 0) pe_int (fun _ _ => rfl)) (pa_cons (pe_bltn (v := .ty "tuple") rfl z_tuple (by decide +kernel) rfl) pa_nil))))))))))), ?_⟩
  refine ⟨_, rfl, _, _, _, _, _, rfl, .ty _, .base (.tup ha), kit_ty (r := true) (by decide +kernel), _, rfl, ?_⟩
  refine ite2 (fun z => nomatch z) (fun _ => ?_)
  refine ⟨_, rfl, a, _, rfl, .inr (SqT.of ha), rfl, _, rfl, ?_⟩
  refine ite2 (fun z => ?_) (fun _ => ?_)
  · have z1 : V.int ((V.str x.str :: xs).length : Int) = V.int 0 := of_decide_eq_true z
    injection z1 with z1
    rw [List.length_cons] at z1
    omega
  refine ⟨_, rfl, a, _, _, .str x.str, rfl, rfl, SqT.of ha, at0, ?_⟩
  refine ⟨_, rfl, _, _, _, _, _, rfl, .ty _, .base (.str _), kit_ty (r := true) (by decide +kernel), _, rfl, ?_⟩
  refine ite2 (fun z => nomatch z) (fun _ => ?_)
  refine ⟨_, rfl, x, _, rfl, rfl, rfl, _, rfl, ?_⟩
  refine ite2 (fun z => nomatch z) (fun _ => ?_)
  refine ⟨_, rfl, a, _, rfl, .inr (SqT.of ha), _, rfl, x, _, rfl, rfl, rfl, rfl, _, rfl, ?_⟩
  have e0 : decide (V.int ((V.str x.str :: xs).length : Int) = V.int (lenOf x : Int)) = true := decide_eq_true (by rw [List.length_cons, hl])
  refine ite2 (fun z => ?_) (fun _ => ?_)
  · rw [e0] at z
    cases z
  dsimp only [tNext]
  refine if_rest (fun H' => H' = H) (fun H' e => ?_) (fun rest => ?_)
  · subst e
    refine ⟨_, rfl, rfl, _, rfl, ?_⟩
    rw [isCallN x]
    refine ite2 (fun c => ?_) (fun c => ?_)
    · exact q
    · have c2 : x.lay = 2 := by
        cases h : decide (x.lay = 2) with
        | true => exact of_decide_eq_true h
        | false => rw [h] at c; exact absurd rfl c
      obtain ⟨b, zs, rfl, hb, hz⟩ := h3 c2
      exact ⟨_, rfl, a, _, _, _, rfl, rfl, SqT.of ha, rfl, _, _, _, _, _, rfl, .ty _, .base (.tup hb), kit_ty (r := true) (by decide +kernel), q⟩
  · refine ⟨_, rfl, aN, _, rfl, .inr (hN _), rfl, flatNum, _, rfl, ?_⟩
    rw [show inV (.str x.str) numW = x.numd from inNum x]
    refine ite2 (fun c => ?_) (fun c => ?_)
    · obtain ⟨ys, rfl⟩ := h1 c
      obtain ⟨n0, n1⟩ := sh.n0 c
      refine ⟨_, rfl, a, _, _, _, rfl, rfl, SqT.of ha, at1, _, rfl, x, rfl, c, n, lastOf x, rfl, _, rfl, ?_⟩
      rw [decide_eq_true n0, decide_eq_true n1]
      exact ite2 (fun z => nomatch z) (fun _ => rest H rfl)
    · exact ite2 (fun z => nomatch z) (fun _ => rest H rfl)
end

/-- the rule of each word keeps its promise -/
def Rls (P : Program) (w : World) (K : PySem.W.Frag) (mg : Str → Option Value) (base : Heap) (k : Nat) (g : W → Option V) : Prop := ∀ (x : W) (ds : List Nat) (d : Nat), Dep x ds d → ∃ (fa : Addr) (fd : FuncData) (S : W → Prop), g x = some (.ref fa) ∧ FnOk P w K mg base CX0 k fa fd ["depths"] (spOf S) ∧ S x ∧ PySem.W.keepIn K (.ref fa) = true ∧ Binds K fd ["depths"] []
def spDepth : Sp := fun vs H Q _ => ∃ (l : Addr) (ds : List Nat) (d : Nat) (x : W), vs = [.str x.str, .ref l] ∧ H l = some (.lst (ds.map dV)) ∧ Dep x ds d ∧ ∀ H', Same H H' → Q (dV d) H'
abbrev sDepthOf : Stmt := top 27
theorem scsDepthOf : FnScope ["word", "depths", "rule"] ["word", "depths"] (defScope sDepthOf) := ⟨rfl, rfl, rfl, by decide +kernel, rfl, by decide +kernel, by decide +kernel⟩
section
variable {P : Program} {w : World} {K : PySem.W.Frag} {mg : Str → Option Value} {base : Heap} {f : Addr} {fd : FuncData}

theorem ok_depth (F : FnP K "depth_of" sDepthOf f fd) {aR : Addr} {g : W → Option V} (m_RULES : mg "RULES" = some (.ref aR)) (T_RULES : Tbl K w aR g) (rl : Rls P w K mg base 1 g) : FnOk P w K mg base CX0 2 f fd ["word", "depths"] spDepth := by
  have sc := scsDepthOf
  refine F.ok sc (fun vs H Q E h => ?_) (fun cdv A outer s H vs Q E hr h => ?_)
  · obtain ⟨l, ds, d, x, rfl, _⟩ := h
    rfl
  obtain ⟨l, ds, d, x, rfl, hl, hD, q⟩ := h
  obtain ⟨fa, fd', S, hg, Fr, hS, kr, br⟩ := rl x ds d hD
  refine ⟨_, (pss_cons (ps_set (i := 2) sc.nd rfl (.inl rfl) (pe_ix (ix_tbl T_RULES) (pe_gR rfl m_RULES) (pv 0) (fun _ _ => rfl)))
    (pss_one (ps_ret (pe_callL (i := 2) Fr hr rfl (.inl rfl) kr br .nil pass0 (pa_cons (pv 1) pa_nil))))), ?_⟩
  exact ⟨_, rfl, x, _, rfl, rfl, hg, rfl, _, rfl, l, ds, d, x, rfl, hl, hS, hD, q⟩
end

/-- let, if, each, where: the first part alone is done ahead -/
def W.bl : W → Bool
  | .ite | .elet | .each | .whr => true
  | _ => false
def aheadOf (x : W) (ps : List Nd) : List Nd := if x.bl = true then ps.take 1 else ps
def blW : List V := [.str "if", .str "let", .str "each", .str "where"]
theorem inBl (x : W) : inV (.str x.str) blW = x.bl := by cases x <;> decide +kernel
def spAhead (C : Addr) : Sp := fun vs H Q _ => ∃ (G : Addr → Prop) (v : V) (fn : Int) (x : W) (p : Nat) (n : Int) (ps : List Nd) (d : Nat), vs = [v] ∧ NdIn H G C fn v (.node x p n ps d) ∧ ∀ (H' : Hp) (l : Addr) (xs : List V), Same H H' → H' l = some (.lst xs) → (G l ∨ H l = none) → NdIns H' G C fn xs (aheadOf x ps) → Q (.ref l) H'
theorem NdIns.take1 {H : Hp} {G : Addr → Prop} {C : Addr} {fn : Int} : ∀ {vs : List V} {es : List Nd}, NdIns H G C fn vs es → NdIns H G C fn (vs.take 1) (es.take 1)
  | _, _, .nil => .nil
  | _, _, .cons h r => by simp only [List.take_succ_cons, List.take_zero]; exact .cons h .nil
/-- what of the class Node must be known -/
structure NdC (K : PySem.W.Frag) (C : Addr) : Prop where
  cl : Cls K C
  word : NoAttr K C "word"
  function : NoAttr K C "function"
  place : NoAttr K C "place"
  number : NoAttr K C "number"
  parts : NoAttr K C "parts"
  depth : NoAttr K C "depth"
theorem cutTo1 (xs : List V) : cutV xs none (some 1) = xs.take 1 := by
  cases xs with
  | nil => rfl
  | cons a t => simp [cutV, HT.sIx]

def spNode (C : Addr) : Sp := fun vs H Q _ => ∃ (a dx l : Addr) (fn : Int) (x : W) (p : Nat) (n : Int) (d : Nat), vs = [.ref a, .str x.str, .int fn, .int (p : Int), .int n, .ref l, .int (d : Int)] ∧ H a = some (.ins C dx []) ∧ Q .non (upd H a (.ins C dx (ndF x fn p n l d)))
abbrev sNodeInit : Stmt := inClass (top 40) 0
theorem scsNodeInit : FnScope ["self", "word", "function", "place", "number", "parts", "depth"] ["self", "word", "function", "place", "number", "parts", "depth"] (defScope sNodeInit) := ⟨rfl, rfl, rfl, by decide +kernel, rfl, by decide +kernel, by decide +kernel⟩
section
variable {P : Program} {w : World} {K : PySem.W.Frag} {mg : Str → Option Value} {base : Heap} {f : Addr} {fd : FuncData}

theorem ok_node {C : Addr} (F : FnM K "__init__" "Node.__init__" sNodeInit f fd) (N : NdC K C) : FnOk P w K mg base CX0 1 f fd ["self", "word", "function", "place", "number", "parts", "depth"] (spNode C) := by
  have sc := scsNodeInit
  refine F.ok sc (fun vs H Q E h => ?_) (fun cdv A outer s H vs Q E hr h => ?_)
  · obtain ⟨a, dx, l, fn, x, p, n, d, rfl, _⟩ := h
    rfl
  obtain ⟨a, dx, l, fn, x, p, n, d, rfl, ha, q⟩ := h
  refine ⟨_, (pss_cons (ps_fldK K (pv 0) (pv 1) rfl)
    (pss_cons (ps_fldK K (pv 0) (pv 2) rfl)
    (pss_cons (ps_fldK K (pv 0) (pv 3) rfl)
    (pss_cons (ps_fldK K (pv 0) (pv 4) rfl)
    (pss_cons (ps_fldK K (pv 0) (pv 5) rfl)
    (pss_one (ps_fldK K (pv 0) (pv 6) rfl))))))), ?_⟩
  refine ⟨_, rfl, _, rfl, a, C, dx, _, rfl, ha, N.cl, N.word, by decide, ?_⟩
  refine ⟨_, rfl, _, rfl, a, C, dx, _, rfl, upd_same, N.cl, N.function, by show 1 < 1000; decide, ?_⟩
  rw [upd_upd]
  refine ⟨_, rfl, _, rfl, a, C, dx, _, rfl, upd_same, N.cl, N.place, by show 2 < 1000; decide, ?_⟩
  rw [upd_upd]
  refine ⟨_, rfl, _, rfl, a, C, dx, _, rfl, upd_same, N.cl, N.number, by show 3 < 1000; decide, ?_⟩
  rw [upd_upd]
  refine ⟨_, rfl, _, rfl, a, C, dx, _, rfl, upd_same, N.cl, N.parts, by show 4 < 1000; decide, ?_⟩
  rw [upd_upd]
  refine ⟨_, rfl, _, rfl, a, C, dx, _, rfl, upd_same, N.cl, N.depth, by show 5 < 1000; decide, ?_⟩
  rw [upd_upd]
  exact q
end
end NR
set_option maxHeartbeats 4000000
namespace NR
open PySem PySem.Spec PyProof.Rows L2

/-! ### names in the heap -/
structure Nm (H : Hp) (a : Addr) (ρ : Env1) : Prop where
  ex : ∃ kn : List (Int × Nat), H a = some (.dK (kn.map kvOf)) ∧ (kn.map (·.1)).Nodup ∧ (∀ p ∈ kn, 0 ≤ p.1 ∧ p.1 ≤ 19) ∧ ∀ x d, ρ x = some d → (x, d) ∈ kn
theorem Nm.keep {H H' : Hp} {a : Addr} {ρ : Env1} (n : Nm H a ρ) (k : ∀ o, H a = some o → H' a = some o) : Nm H' a ρ := by
  obtain ⟨kn, h, r⟩ := n.ex
  exact ⟨kn, k _ h, r⟩
theorem few20 {kn : List (Int × Nat)} (nd : (kn.map (·.1)).Nodup) (lo : ∀ p ∈ kn, 0 ≤ p.1 ∧ p.1 ≤ 19) : kn.length ≤ 20 := by
  have := NR.few 20 (kn.map (·.1)) nd fun x hx => by
    obtain ⟨p, hp, rfl⟩ := List.mem_map.mp hx
    have := lo p hp
    omega
  rw [List.length_map] at this
  exact this
theorem put_nm {l : List (Int × Nat)} {ρ : Env1} {x : Int} {d : Nat} (nd : (l.map (·.1)).Nodup) (lo : ∀ p ∈ l, 0 ≤ p.1 ∧ p.1 ≤ 19) (ok : ∀ x d, ρ x = some d → (x, d) ∈ l) (x0 : 0 ≤ x) (x1 : x ≤ 19) :
    ∃ l' : List (Int × Nat), putK (l.map kvOf) (Sum.inl x) (dV d) = l'.map kvOf ∧ (l'.map (·.1)).Nodup ∧ (∀ p ∈ l', 0 ≤ p.1 ∧ p.1 ≤ 19) ∧ ∀ y e, ups ρ x d y = some e → (y, e) ∈ l' := by
  unfold putK
  by_cases h : ((l.map kvOf).any fun kv => decide (kv.1 = Sum.inl x)) = true
  · rw [if_pos h]
    have hx : ∃ p ∈ l, p.1 = x := by
      obtain ⟨kv, h1, h2⟩ := List.any_eq_true.mp h
      obtain ⟨p, hp, rfl⟩ := List.mem_map.mp h1
      exact ⟨p, hp, by simpa [kvOf] using h2⟩
    refine ⟨l.map fun p => if p.1 = x then (p.1, d) else p, ?_, ?_, ?_, ?_⟩
    · rw [List.map_map, List.map_map]
      refine List.map_congr_left fun p _ => ?_
      show (if (Sum.inl p.1 : Key) = Sum.inl x then ((Sum.inl p.1 : Key), dV d) else (Sum.inl p.1, V.int (p.2 : Int))) = kvOf (if p.1 = x then (p.1, d) else p)
      by_cases e : p.1 = x
      · rw [if_pos (by rw [e]), if_pos e]
        rfl
      · rw [if_neg (by simpa using e), if_neg e]
        rfl
    · have e : ((l.map fun p => if p.1 = x then (p.1, d) else p).map (·.1)) = l.map (·.1) := by
        rw [List.map_map]
        refine List.map_congr_left fun p _ => ?_
        show (if p.1 = x then (p.1, d) else p).1 = p.1
        split <;> rfl
      rw [e]
      exact nd
    · intro p hp
      obtain ⟨q, hq, rfl⟩ := List.mem_map.mp hp
      have := lo q hq
      split <;> exact this
    · intro y e hy
      unfold ups at hy
      by_cases c : y = x
      · rw [if_pos c] at hy
        cases hy
        obtain ⟨p, hp, e⟩ := hx
        exact List.mem_map.mpr ⟨p, hp, by rw [if_pos e, e, c]⟩
      · rw [if_neg c] at hy
        exact List.mem_map.mpr ⟨(y, e), ok y e hy, if_neg c⟩
  · rw [if_neg h]
    have hn : ∀ p ∈ l, p.1 ≠ x := fun p hp e => h (List.any_eq_true.mpr ⟨kvOf p, List.mem_map.mpr ⟨p, hp, rfl⟩, by
      show decide ((Sum.inl p.1 : Key) = Sum.inl x) = true
      rw [e]
      simp⟩)
    refine ⟨l ++ [(x, d)], by rw [List.map_append]; rfl, ?_, ?_, ?_⟩
    · rw [List.map_append]
      refine List.nodup_append.mpr ⟨nd, by simp, fun a ha b hb => ?_⟩
      obtain ⟨p, hp, rfl⟩ := List.mem_map.mp ha
      simp only [List.map_cons, List.map_nil, List.mem_singleton] at hb
      rw [hb]
      exact hn p hp
    · intro p hp
      rcases List.mem_append.mp hp with hp | hp
      · exact lo p hp
      · rw [List.mem_singleton.mp hp]
        exact ⟨x0, x1⟩
    · intro y e hy
      unfold ups at hy
      by_cases c : y = x
      · rw [if_pos c] at hy
        cases hy
        rw [c]
        exact List.mem_append_right _ (List.mem_cons_self ..)
      · rw [if_neg c] at hy
        exact List.mem_append_left _ (ok y e hy)
/-! ### the look -/
def lkF (kn : Addr) (fn : Int) (p : Nat) (b : Bool) : List (Str × V) := [("known", .ref kn), ("function", .int fn), ("looked_at", .int (p : Int)), ("calls_itself", .bl b)]
theorem lkF_known {kn fn p b} : (lkF kn fn p b).lookup ("known" : Str) = some (.ref kn) := by rfl
theorem lkF_function {kn fn p b} : (lkF kn fn p b).lookup ("function" : Str) = some (.int fn) := by rfl
theorem lkF_at {kn fn p b} : (lkF kn fn p b).lookup ("looked_at" : Str) = some (.int (p : Int)) := by rfl
theorem lkF_self {kn fn p b} : (lkF kn fn p b).lookup ("calls_itself" : Str) = some (.bl b) := by rfl
theorem lkF_no {kn fn p b} {m : Str} (h : (m == "known") = false ∧ (m == "function") = false ∧ (m == "looked_at") = false ∧ (m == "calls_itself") = false) : (lkF kn fn p b).lookup m = none := by
  obtain ⟨h1, h2, h3, h4⟩ := h
  simp only [lkF, List.lookup_cons, h1, h2, h3, h4, List.lookup_nil]
structure LkC (K : PySem.W.Frag) (C : Addr) : Prop where
  cl : Cls K C
  known : NoAttr K C "known"
  function : NoAttr K C "function"
  looked : NoAttr K C "looked_at"
  self : NoAttr K C "calls_itself"
def spLook (C : Addr) : Sp := fun vs H Q _ => ∃ (a dx kn : Addr) (fn : Int), vs = [.ref a, .ref kn, .int fn] ∧ H a = some (.ins C dx []) ∧ Q .non (upd H a (.ins C dx (lkF kn fn 0 false)))
abbrev sLookInit : Stmt := inClass (top 42) 0
theorem scsLookInit : FnScope ["self", "known", "function"] ["self", "known", "function"] (defScope sLookInit) := ⟨rfl, rfl, rfl, by decide +kernel, rfl, by decide +kernel, by decide +kernel⟩
section
variable {P : Program} {w : World} {K : PySem.W.Frag} {mg : Str → Option Value} {base : Heap} {f : Addr} {fd : FuncData}

theorem ok_look {C : Addr} (F : FnM K "__init__" "Look.__init__" sLookInit f fd) (N : LkC K C) : FnOk P w K mg base CX0 1 f fd ["self", "known", "function"] (spLook C) := by
  have sc := scsLookInit
  refine F.ok sc (fun vs H Q E h => ?_) (fun cdv A outer s H vs Q E hr h => ?_)
  · obtain ⟨a, dx, kn, fn, rfl, _⟩ := h
    rfl
  obtain ⟨a, dx, kn, fn, rfl, ha, q⟩ := h
  refine ⟨_, (pss_cons (ps_fldK K (pv 0) (pv 1) rfl)
    (pss_cons (ps_fldK K (pv 0) (pv 2) rfl)
    (pss_cons (ps_fldK K (pv 0) pe_int rfl)
    (pss_one (ps_fldK K (pv 0) pe_bl rfl))))), ?_⟩
  refine ⟨_, rfl, _, rfl, a, C, dx, _, rfl, ha, N.cl, N.known, by decide, ?_⟩
  refine ⟨_, rfl, _, rfl, a, C, dx, _, rfl, upd_same, N.cl, N.function, by show 1 < 1000; decide, ?_⟩
  rw [upd_upd]
  refine ⟨_, rfl, a, C, dx, _, rfl, upd_same, N.cl, N.looked, by show 2 < 1000; decide, ?_⟩
  rw [upd_upd]
  refine ⟨_, rfl, a, C, dx, _, rfl, upd_same, N.cl, N.self, by show 3 < 1000; decide, ?_⟩
  rw [upd_upd]
  exact q
end

def spRefuse : Sp := fun vs H Q _ => ∃ (a u v : V), vs = [a, .bl false, u, v] ∧ Q .non H
abbrev sLookRefuseIf : Stmt := inClass (top 42) 1
theorem scsLookRefuseIf : FnScope ["self", "wrong", "place", "word"] ["self", "wrong", "place", "word"] (defScope sLookRefuseIf) := ⟨rfl, rfl, rfl, by decide +kernel, rfl, by decide +kernel, by decide +kernel⟩
section
variable {P : Program} {w : World} {K : PySem.W.Frag} {mg : Str → Option Value} {base : Heap} {f : Addr} {fd : FuncData}

theorem ok_refuse (F : FnM K "refuse_if" "Look.refuse_if" sLookRefuseIf f fd) : FnOk P w K mg base CX0 1 f fd ["self", "wrong", "place", "word"] spRefuse := by
  have sc := scsLookRefuseIf
  refine F.ok sc (fun vs H Q E h => ?_) (fun cdv A outer s H vs Q E hr h => ?_)
  · obtain ⟨a, u, v, rfl, _⟩ := h
    rfl
  obtain ⟨a, u, v, rfl, q⟩ := h
  refine ⟨_, (pss_one (ps_if (pt_val (pv 1)) (pss_one ps_never) pss_nil)), ?_⟩
  exact ⟨_, rfl, _, rfl, ite2 (fun z => nomatch z) (fun _ => q)⟩
end

def spMay (K : PySem.W.Frag) (C : Addr) : Sp := fun vs H Q _ => ∃ (a dx kn : Addr) (fn k p : Nat) (b : Bool) (xs : List V) (fs : List (List Nat × Nat)) (ds : List Nat) (d : Nat), vs = [.ref a, .int (k : Int), .int (ds.length : Int)] ∧ H a = some (.ins C dx (lkF kn fn p b)) ∧ H kn = some (.lst xs) ∧ FIns H xs fs ∧ fs[k]? = some (ds, d) ∧ k ≤ fn ∧ (k = fn → b = false) ∧
  ∀ H', SameX a H H' → H' a = some (.ins C dx (lkF kn fn p (b || decide (k = fn)))) → Q (.bl true) H'
abbrev sLookMayCall : Stmt := inClass (top 42) 3
theorem scsLookMayCall : FnScope ["self", "called", "many"] ["self", "called", "many"] (defScope sLookMayCall) := ⟨rfl, rfl, rfl, by decide +kernel, rfl, by decide +kernel, by decide +kernel⟩
section
variable {P : Program} {w : World} {K : PySem.W.Frag} {mg : Str → Option Value} {base : Heap} {f : Addr} {fd : FuncData}

theorem ok_may {C : Addr} (F : FnM K "may_call" "Look.may_call" sLookMayCall f fd) (N : LkC K C) (z_len : mg "len" = none) : FnOk P w K mg base CX0 1 f fd ["self", "called", "many"] (spMay K C) := by
  have sc := scsLookMayCall
  refine F.ok sc (fun vs H Q E h => ?_) (fun cdv A outer s H vs Q E hr h => ?_)
  · obtain ⟨a, dx, kn, fn, k, p, b, xs, fs, ds, d, rfl, _⟩ := h
    rfl
  obtain ⟨a, dx, kn, fn, k, p, b, xs, fs, ds, d, rfl, ha, hk, hf, hfk, hle, hb, q⟩ := h
  refine ⟨_, (pss_cons (ps_if (pt_cmpR op_gt (pv 1) (pe_fldK K (pv 0) rfl) (nomark _)) (pss_one (ps_ret pe_bl)) pss_nil)
    (pss_cons (ps_if (PW.pt (pw_and (pt_cmpR op_eq (pv 1) (pe_fldK K (pv 0) rfl) (nomark _)) (pw_and1 (pt_val (pe_fldK K (pv 0) rfl))))) (pss_one (ps_ret pe_bl)) pss_nil)
    (pss_cons (ps_if (pt_cmpR op_eq (pv 1) (pe_fldK K (pv 0) rfl) (nomark _)) (pss_one (ps_fldK K (pv 0) pe_bl rfl)) pss_nil)
    (pss_one (ps_ret (pe_cmpR op_eq (pv 2) (pe_callB (call_lenK K) rfl z_len PySem.boot_len (pa_cons (pe_ix (ix_tupK K) (pe_ix (ix_listK K) (pe_fldK K (pv 0) rfl) (pv 1) (fun _ _ => rfl)) pe_int (fun _ _ => rfl)) pa_nil)) (nomark _))))))), ?_⟩
  have fin : ∀ H', SameX a H H' → H' a = some (.ins C dx (lkF kn fn p (b || decide (k = fn)))) → ∃ v, (L2.start ["self", "called", "many"] [V.ref a, .int (k : Int), .int (ds.length : Int)])[2]? = some (some v) ∧ ∃ u, (L2.start ["self", "called", "many"] [V.ref a, .int (k : Int), .int (ds.length : Int)])[0]? = some (some u) ∧ True := fun _ _ _ => ⟨_, rfl, _, rfl, trivial⟩
  refine ⟨_, rfl, _, rfl, a, C, dx, _, _, rfl, ha, N.cl, N.function, lkF_function, _, _, rfl, rfl, _, rfl, ?_⟩
  refine ite2 (fun z => absurd (of_decide_eq_true z) (by omega)) (fun _ => ?_)
  dsimp only [tNext]
  refine if_rest (fun H' => H' = H) (fun H1 e => ?_) (fun rest => ?_)
  · subst e
    refine if_rest (fun H' => SameX a H1 H' ∧ H' a = some (.ins C dx (lkF kn fn p (b || decide (k = fn))))) (fun H' e => ?_) (fun rest => ?_)
    · obtain ⟨s1, h1⟩ := e
      have nk : kn ≠ a := ne_of hk ha (by intro z; cases z)
      obtain ⟨t, bb, g1, g2, g3⟩ := hf.get k hfk
      have tk : TK H1 H' := fun y zs hy => s1 _ _ (ne_of hy ha (by intro z; cases z)) hy
      refine ⟨_, rfl, _, rfl, a, C, dx, _, _, rfl, h1, N.cl, N.known, lkF_known, _, rfl, kn, xs, _, _, rfl, rfl, SqL.of (s1 _ _ nk hk), atI_nat g1, t, _, _, _, rfl, rfl, SqT.of (tk _ _ g2), rfl, bb, _, rfl, .inr (SqT.of (tk _ _ g3)), rfl, ?_⟩
      have e2 : decide (V.int (ds.length : Int) = V.int ((ds.map dV).length : Int)) = true := decide_eq_true (by rw [List.length_map])
      show Q (.bl (decide (V.int (ds.length : Int) = V.int ((ds.map dV).length : Int)))) H'
      rw [e2]
      exact q _ s1 h1
    · refine ⟨_, rfl, _, rfl, a, C, dx, _, _, rfl, ha, N.cl, N.function, lkF_function, rfl, _, rfl, ?_⟩
      refine ite2 (fun z => ?_) (fun z => ?_)
      · have z1 : k = fn := by
          have := of_decide_eq_true z
          injection this with this
          omega
        refine ⟨_, rfl, a, C, dx, _, rfl, ha, N.cl, N.self, by show 4 < 1000; decide, rest _ ⟨.upd, ?_⟩⟩
        rw [upd_same, decide_eq_true z1, Bool.or_true]
        rfl
      · have z1 : ¬ k = fn := fun e => z (decide_eq_true (by rw [e]))
        refine rest _ ⟨.refl _ _, ?_⟩
        rw [decide_eq_false z1, Bool.or_false]
        exact ha
  · refine ⟨_, rfl, _, rfl, a, C, dx, _, _, rfl, ha, N.cl, N.function, lkF_function, rfl, _, rfl, ?_⟩
    refine ite2 (fun z => ?_) (fun z => ite2 (fun y => nomatch y) (fun _ => rest _ rfl))
    have z1 : k = fn := by
      have := of_decide_eq_true z
      injection this with this
      omega
    refine ⟨_, rfl, a, C, dx, _, _, rfl, ha, N.cl, N.self, lkF_self, _, rfl, ?_⟩
    rw [hb z1]
    exact ite2 (fun y => nomatch y) (fun _ => rest _ rfl)
end
end NR
set_option maxHeartbeats 4000000
namespace NR
open PySem PySem.Spec PyProof.Rows L2

theorem NdIns.get {H : Hp} {G : Addr → Prop} {C : Addr} {fn : Int} : ∀ {vs : List V} {es : List Nd} (_ : NdIns H G C fn vs es) (i : Nat) {v : V}, vs[i]? = some v → ∃ e, es[i]? = some e ∧ NdIn H G C fn v e
  | _, _, .nil, i, _, h => by simp at h
  | _, _, .cons h1 _, 0, _, h => by
    cases h
    exact ⟨_, rfl, h1⟩
  | _, _, .cons _ r, i + 1, v, h => r.get i h
theorem mapdV (ds : List Nat) : ds.map dV = (ds.map nI).map V.int := by
  rw [List.map_map]
  rfl
inductive DT (fs : List (List Nat × Nat)) (ρ : Env1) : W → Int → List Nd → Nat → Prop
  | name {x : Int} {d : Nat} : ρ x = some d → DT fs ρ .name x [] d
  | call {k : Nat} {nps : List Nd} {ds : List Nat} {d : Nat} : fs[k]? = some (ds, d) → nps.map Nd.d = ds → DT fs ρ .call (k : Int) nps d
  | dep {x : W} {n : Int} {nps : List Nd} {d : Nat} : x ≠ .name → x ≠ .call → Dep x (nps.map Nd.d) d → DT fs ρ x n nps d
def spTold (K : PySem.W.Frag) (C CN : Addr) : Sp := fun vs H Q _ => ∃ (a dx kn nm l : Addr) (fn : Int) (p : Nat) (b : Bool) (xs us : List V) (fs : List (List Nat × Nat)) (ρ : Env1) (x : W) (n : Int) (nps : List Nd) (d : Nat), vs = [.ref a, .str x.str, .int n, .ref l, .ref nm] ∧ H a = some (.ins C dx (lkF kn fn p b)) ∧ H kn = some (.lst xs) ∧ FIns H xs fs ∧ H l = some (.lst us) ∧ NdIns H NT CN fn us nps ∧ us.length ≤ 100 ∧ Nm H nm ρ ∧ DT fs ρ x n nps d ∧ ∀ H', Same H H' → Q (dV d) H'
theorem isName (x : W) : decide (V.str x.str = V.str "name") = decide (x = .name) := by cases x <;> decide +kernel
theorem isCall2 (x : W) : decide (V.str x.str = V.str "call") = decide (x = .call) := by cases x <;> decide +kernel
abbrev sLookDepthTold : Stmt := inClass (top 42) 5
theorem scsLookDepthTold : FnScope ["self", "word", "number", "parts", "names", "depths", "wanted", "depth", "part"] ["self", "word", "number", "parts", "names"] (defScope sLookDepthTold) := ⟨rfl, rfl, rfl, by decide +kernel, rfl, by decide +kernel, by decide +kernel⟩
section
variable {P : Program} {w : World} {K : PySem.W.Frag} {mg : Str → Option Value} {base : Heap} {f : Addr} {fd : FuncData}

theorem ok_told {C CN : Addr} (F : FnM K "depth_told" "Look.depth_told" sLookDepthTold f fd) (N : LkC K C) (ND : NdC K CN) (O_depth_of : Okf P w K mg base CX0 2 "depth_of" ["word", "depths"] spDepth) {t0 : Tok} (m_NO_DEPTH : mg "NO_DEPTH" = some (.int (-1) t0)) (z_list : mg "list" = none) : FnOk P w K mg base CX0 3 f fd ["self", "word", "number", "parts", "names"] (spTold K C CN) := by
  have sc := scsLookDepthTold
  refine F.ok sc (fun vs H Q E h => ?_) (fun cdv A outer s H vs Q E hr h => ?_)
  · obtain ⟨a, dx, kn, nm, l, fn, p, b, xs, us, fs, ρ, x, n, nps, d, rfl, _⟩ := h
    rfl
  have hu := hu_of hr
  obtain ⟨a, dx, kn, nm, l, fn, p, b, xs, us, fs, ρ, x, n, nps, d, rfl, ha, hk, hf, hl, hn, hlen, hm, dt, q⟩ := h
  refine ⟨_, (pss_cons (ps_setLc (i := 5) (own := [("part", 8)]) (by rfl) sc.nd rfl rfl (sw_true rfl rfl rfl (by decide +kernel)) (pi_listK K (pv 3)) (blkOk_by (own := [("part", 8)]) (N := ["self", "word", "number", "parts", "names", "depths", "wanted", "depth", "part"]) (sc := defScope sLookDepthTold) (by decide +kernel)) (fun _ _ _ _ _ => (pg_name (i := 8) sc.nd rfl (.inl rfl))) (fun _ _ _ _ _ => pts_nil) (fun _ _ _ _ _ => (pe_fldK K (pv 8) rfl)))
    (pss_cons (ps_if (pt_cmpR op_eq (pv 1) pe_str (nomark _)) (pss_one (ps_ret (pe_dget hu (pv 4) (pv 2) (fun _ _ => rfl)))) pss_nil)
    (pss_cons (ps_if (pt_cmpR op_eq (pv 1) pe_str (nomark _)) (pss_cons (ps_asg (pe_ix (ix_listK K) (pe_fldK K (pv 0) rfl) (pv 2) (fun _ _ => rfl)) (pg_tupK K (n := 2) rfl (pgs_cons (pg_name (i := 6) sc.nd rfl (.inl rfl)) (pgs_cons (pg_name (i := 7) sc.nd rfl (.inl rfl)) pgs_nil))))
    (pss_one (ps_ret (pe_ifExp (pt_cmpR (op_eqDK K hr.units) (pv 5) (pe_callTy (call_listK K) rfl z_list (by decide +kernel) (pa_cons (pv 6) pa_nil)) (nomark _)) (pv 7) (pe_gI rfl m_NO_DEPTH))))) pss_nil)
    (pss_one (ps_ret (pe_c O_depth_of hr rfl pass0 (pa_cons (pv 1) (pa_cons (pv 5) pa_nil)))))))), ?_⟩
  refine ⟨_, rfl, l, rfl, ⟨_, SqL.of hl⟩, fun D hD => ?_⟩
  have hul := hn.len
  refine lc_list (K := K) (a := l) (xs := us) (fun i H' => H' = upd H D (.lst ((nps.take i).map fun e => dV e.d))) rfl ?_ ?_ ?_
  · rintro i H' _ rfl
    exact (same_new hD _).seq (SqL.of hl)
  · rintro i v H' hi rfl
    obtain ⟨e, he, hin⟩ := hn.get i hi
    cases hin with
    | @mk ea edx el ew ep en eps ed evs _ _ h1 h2 h3 =>
    refine ⟨rfl, ?_⟩
    have hlt : i < nps.length := (List.getElem?_eq_some_iff.mp he).1
    refine ⟨_, rfl, ea, CN, edx, _, _, rfl, same_new hD _ _ _ h1, ND.cl, ND.depth, ndF_depth, _, upd_same, ?_, ?_⟩
    · rw [List.length_map, List.length_take]
      exact small1000 (by omega)
    · rw [upd_upd, List.take_add_one, he, List.map_append]
      rfl
  rintro H' rfl
  have e0 : (nps.take us.length).map (fun e => dV e.d) = (nps.map Nd.d).map dV := by rw [hul, List.take_length, List.map_map]; rfl
  rw [e0]
  have s1 := same_new hD (.lst ((nps.map Nd.d).map dV))
  have eD : upd H D (.lst ((nps.map Nd.d).map dV)) D = some (.lst ((nps.map Nd.d).map dV)) := upd_same
  generalize upd H D (.lst ((nps.map Nd.d).map dV)) = H1 at s1 eD ⊢
  dsimp only [gName]
  refine ⟨_, rfl, rfl, _, rfl, ?_⟩
  rw [isName x]
  refine ite2 (fun c => ?_) (fun c => ?_)
  · have c' : x = .name := of_decide_eq_true c
    subst c'
    cases dt with
    | name h =>
      obtain ⟨kl, g1, g2, g3, g4⟩ := hm.ex
      exact ⟨_, rfl, _, rfl, nm, _, rfl, dget (s1 _ _ g1) (k := Sum.inl n) (valV_kn g2 (g4 _ _ h)), q _ s1⟩
    | dep h _ _ => exact absurd rfl h
  · have c' : x ≠ .name := fun z => c (decide_eq_true z)
    dsimp only [tNext]
    refine ⟨_, rfl, rfl, _, rfl, ?_⟩
    rw [isCall2 x]
    refine ite2 (fun c => ?_) (fun c => ?_)
    · have c2 : x = .call := of_decide_eq_true c
      subst c2
      cases dt with
      | @call k _ ds _ h h' =>
        obtain ⟨t, bb, g1, g2, g3⟩ := hf.get k h
        refine ⟨_, rfl, a, C, dx, _, _, rfl, s1 _ _ ha, N.cl, N.known, lkF_known, _, rfl, kn, xs, _, _, rfl, rfl, SqL.of (s1 _ _ hk), atI_nat g1, t, _, rfl, SqT.of (s1 _ _ g2), rfl, _, _, rfl, _, _, rfl, rfl, ?_⟩
        refine ⟨_, rfl, _, rfl, bb, _, rfl, .inr (SqT.of (s1 _ _ g3)), fun p0 hp0 => ?_⟩
        have s2 := same_new hp0 (.lst (ds.map dV))
        have e2 : (nps.map Nd.d).map dV = (ds.map nI).map V.int := by rw [h', mapdV]
        have e3 : ds.map dV = (ds.map nI).map V.int := mapdV ds
        refine ⟨.list ((ds.map nI).map PyData.int), .list ((ds.map nI).map PyData.int), .lst (SqL.of (s2 _ _ eD)) (by rw [e2]; exact dpInts _), .lst (SqL.of upd_same) (by rw [e3]; exact dpInts _), shapedInts _, shapedInts _, _, rfl, ?_⟩
        rw [SeqAt.eqv_refl (.list ((ds.map nI).map PyData.int)) (show PyData.canLayAll0 _ = true from canInts _)]
        refine ite2 (fun _ => ?_) (fun z => absurd rfl z)
        exact ⟨_, rfl, q _ (s1.trans s2)⟩
      | dep _ h _ => exact absurd rfl h
    · have c2 : x ≠ .call := fun z => c (decide_eq_true z)
      cases dt with
      | name _ => exact absurd rfl c'
      | call _ _ => exact absurd rfl c2
      | dep _ _ h => exact ⟨_, rfl, _, rfl, D, _, d, x, rfl, eD, h, fun H2 s2 => q _ (s1.trans s2)⟩
end
end NR
set_option maxHeartbeats 4000000
namespace NR
open PySem PySem.Spec PyProof.Rows L2

/-- what stands around a look -/
structure LkIn (H : Hp) (C a dx kn : Addr) (fn : Nat) (p : Nat) (b : Bool) (fs : List (List Nat × Nat)) : Prop where
  ha : H a = some (.ins C dx (lkF kn fn p b))
  ex : ∃ xs, H kn = some (.lst xs) ∧ FIns H xs fs
theorem SameX.tkI {a : Addr} {H H' : Hp} {C dx : Addr} {fs : List (Str × V)} (s : SameX a H H') (h : H a = some (.ins C dx fs)) : TK H H' := fun b xs q => s b _ (ne_of q h (by intro z; cases z)) q
theorem LkIn.keep {H H' : Hp} {C a dx kn : Addr} {fn p p' : Nat} {b b' : Bool} {fs : List (List Nat × Nat)} (L : LkIn H C a dx kn fn p b fs) (s : SameX a H H') (h : H' a = some (.ins C dx (lkF kn fn p' b'))) : LkIn H' C a dx kn fn p' b' fs := by
  obtain ⟨xs, h1, h2⟩ := L.ex
  exact ⟨h, xs, s _ _ (ne_of h1 L.ha (by intro z; cases z)) h1, h2.mono (s.tkI L.ha)⟩
theorem LkIn.same {H H' : Hp} {C a dx kn : Addr} {fn p : Nat} {b : Bool} {fs : List (List Nat × Nat)} (L : LkIn H C a dx kn fn p b fs) (s : Same H H') : LkIn H' C a dx kn fn p b fs := L.keep (Same.toX s) (s _ _ L.ha)
theorem Nm.sameX {a m : Addr} {H H' : Hp} {C dx : Addr} {fs : List (Str × V)} {ρ : Env1} (n : Nm H m ρ) (s : SameX a H H') (h : H a = some (.ins C dx fs)) : Nm H' m ρ := by
  obtain ⟨kn, h1, r⟩ := n.ex
  exact ⟨kn, s _ _ (ne_of h1 h (by intro z; cases z)) h1, r⟩
theorem Nm.same {m : Addr} {H H' : Hp} {ρ : Env1} (n : Nm H m ρ) (s : Same H H') : Nm H' m ρ := n.keep fun o h => s _ _ h
theorem New.ne {H : Hp} {a b : Addr} {o : HO} (h : New H b) (ha : H a = some o) : b ≠ a := fun z => by
  rw [New, z, ha] at h
  cases h
theorem Same.new {H H' : Hp} (s : Same H H') {b : Addr} (h : New H' b) : New H b := s.free h
theorem SameX.new' {a : Addr} {H H' : Hp} {o : HO} (s : SameX a H H') (ha : H a = some o) (ha' : ∃ o', H' a = some o') {b : Addr} (h : New H' b) : New H b := by
  cases e : H b with
  | none => exact e
  | some u =>
    by_cases c : b = a
    · obtain ⟨o', h'⟩ := ha'
      rw [New, c, h'] at h
      cases h
    · have := s b u c e
      rw [New, this] at h
      cases h
def spNodeOf (C CN : Addr) (n : Nat) : Sp := fun vs H Q _ => ∃ (a dx kn nm : Addr) (v : V) (fn p : Nat) (b : Bool) (wi : Nat) (fs : List (List Nat × Nat)) (ρ : Env1) (e : Ex) (nd : Nd),
  vs = [.ref a, v, .ref nm, .int (wi : Int)] ∧ LkIn H C a dx kn fn p b fs ∧ TIn H v e ∧ Nm H nm ρ ∧ An (fs.take (fn + 1)) ρ p e nd ∧ e.hgt ≤ n ∧ p + e.size ≤ 60 ∧ wi + e.hgt ≤ 13 ∧ e.selfs fn + b.toNat ≤ 1 ∧
  ∀ (H' : Hp) (v' : V), SameX a H H' → H' a = some (.ins C dx (lkF kn fn (p + e.size) (b || decide (0 < e.selfs fn)))) → NdIn H' (New H) CN fn v' nd → Q v' H'
def spThat (C CN : Addr) (n : Nat) : Sp := fun vs H Q _ => ∃ (a dx kn nm : Addr) (v pz : V) (fn p : Nat) (b : Bool) (wi : Nat) (fs : List (List Nat × Nat)) (ρ : Env1) (x : W) (k : Int) (e1 e2 : Ex) (n1 n2 : Nd),
  vs = [.ref a, v, pz, .ref nm, .int (wi : Int)] ∧ LkIn H C a dx kn fn (p + 1) b fs ∧ TIn H v (.node x k [e1, e2]) ∧ Nm H nm ρ ∧ x.lay = 1 ∧ 0 ≤ k ∧ k ≤ 19 ∧ An (fs.take (fn + 1)) ρ (p + 1) e1 n1 ∧ x.off ≤ n1.d ∧ An (fs.take (fn + 1)) (ups ρ k (n1.d - x.off)) (p + 1 + e1.size) e2 n2 ∧
  e1.hgt ≤ n ∧ e2.hgt ≤ n ∧ p + 1 + e1.size + e2.size ≤ 60 ∧ wi + 1 + e1.hgt ≤ 13 ∧ wi + 1 + e2.hgt ≤ 13 ∧ e1.selfs fn + e2.selfs fn + b.toNat ≤ 1 ∧
  ∀ (H' : Hp) (l : Addr) (vs' : List V), SameX a H H' → H' a = some (.ins C dx (lkF kn fn (p + 1 + e1.size + e2.size) (b || decide (0 < e1.selfs fn + e2.selfs fn)))) → H' l = some (.lst vs') → New H l → NdIns H' (New H) CN fn vs' [n1, n2] → Q (.ref l) H'
theorem orN (b : Bool) (k : Nat) : (b || decide (0 < k)).toNat ≤ b.toNat + k := by
  cases b
  · by_cases h : 0 < k
    · simp [h]; omega
    · simp [h]
  · simp
theorem orOr (b : Bool) (j k : Nat) : ((b || decide (0 < j)) || decide (0 < k)) = (b || decide (0 < j + k)) := by
  cases b
  · by_cases h : 0 < j
    · simp [h]; omega
    · have e : j = 0 := by omega
      simp [e]
  · simp
theorem isLetN {x : W} (h : x.lay = 1) : (!decide (V.str x.str = V.str "let")) = decide (x.off = 1) := by revert h; cases x <;> simp [W.lay] <;> decide +kernel
theorem offOr {x : W} (h : x.lay = 1) : x.off = 0 ∨ x.off = 1 := by cases x <;> simp [W.off]
abbrev sLookPartsThatName : Stmt := inClass (top 42) 4
theorem scsLookPartsThatName : FnScope ["self", "expression", "place", "names", "within", "word", "name", "named", "body", "first", "depth", "second"] ["self", "expression", "place", "names", "within"] (defScope sLookPartsThatName) := ⟨rfl, rfl, rfl, by decide +kernel, rfl, by decide +kernel, by decide +kernel⟩
section
variable {P : Program} {w : World} {K : PySem.W.Frag} {mg : Str → Option Value} {base : Heap} {f : Addr} {fd : FuncData}

theorem ok_that {n k : Nat} {C CN : Addr} (F : FnM K "parts_that_name" "Look.parts_that_name" sLookPartsThatName f fd) (ND : NdC K CN) (M_refuse_if : Okm P w K mg base CX0 k C "refuse_if" ["self", "wrong", "place", "word"] spRefuse)
    (M_node_of : Okm P w K mg base CX0 k C "node_of" ["self", "expression", "names", "within"] (spNodeOf C CN n)) : FnOk P w K mg base CX0 (k + 1) f fd ["self", "expression", "place", "names", "within"] (spThat C CN n) := by
  have sc := scsLookPartsThatName
  refine F.ok sc (fun vs H Q E h => ?_) (fun cdv A outer s H vs Q E hr h => ?_)
  · obtain ⟨a, dx, kn, nm, v, pz, fn, p, b, wi, fs, ρ, x, k, e1, e2, n1, n2, rfl, _⟩ := h
    rfl
  have hu := hu_of hr
  obtain ⟨a, dx, kn, nm, v, pz, fn, p, b, wi, fs, ρ, x, kk, e1, e2, n1, n2, rfl, L, ti, hm, hx, k0, k1, a1, ho, a2, hh1, hh2, hz, hw1, hw2, hs, q⟩ := h
  cases ti with
  | call _ _ _ => cases hx
  | bare h0 _ _ => rw [hx] at h0; cases h0
  | @bind ta _ _ txs _ _ h1 h2 =>
  cases h2 with
  | @cons v1 _ _ _ t1 r1 =>
  cases r1 with
  | @cons v2 _ _ _ t2 r2 =>
  cases r2
  refine ⟨_, (pss_cons (ps_asg (pv 1) (pg_tupK K (n := 4) rfl (pgs_cons (pg_name (i := 5) sc.nd rfl (.inl rfl)) (pgs_cons (pg_name (i := 6) sc.nd rfl (.inl rfl)) (pgs_cons (pg_name (i := 7) sc.nd rfl (.inl rfl)) (pgs_cons (pg_name (i := 8) sc.nd rfl (.inl rfl)) pgs_nil))))))
    (pss_cons (ps_set (i := 9) sc.nd rfl (.inl rfl) (pe_m M_node_of (pv 0) hr pass0 (pa_cons (pv 7) (pa_cons (pv 3) (pa_cons (pe_op op_add (pv 4) pe_int) pa_nil)))))
    (pss_cons (ps_set (i := 10) sc.nd rfl (.inl rfl) (pe_fldK K (pv 9) rfl))
    (pss_cons (ps_if (pt_cmpR op_ne (pv 5) pe_str (nomark _)) (pss_cons (ps_expr (pe_m M_refuse_if (pv 0) hr pass0 (pa_cons (pe_cmpR op_eq (pv 10) pe_int (nomark _)) (pa_cons (pv 2) (pa_cons pe_str pa_nil)))))
    (pss_one (ps_aug (i := 10) sc.nd rfl (.inl rfl) pe_int ip_sub))) pss_nil)
    (pss_cons (ps_set (i := 11) sc.nd rfl (.inl rfl) (pe_m M_node_of (pv 0) hr pass0 (pa_cons (pv 8) (pa_cons (pe_dstar (pv 3) (pv 6) (pv 10)) (pa_cons (pe_op op_add (pv 4) pe_int) pa_nil)))))
    (pss_one (ps_ret (pe_lst (pa_cons (pv 9) (pa_cons (pv 11) pa_nil)))))))))), ?_⟩
  refine ⟨_, rfl, ta, _, rfl, SqT.of h1, rfl, _, _, rfl, _, _, rfl, _, _, rfl, _, _, rfl, rfl, ?_⟩
  refine ⟨_, rfl, a, dx, _, rfl, L.ha, lkF_no (by decide +kernel), _, rfl, _, rfl, _, rfl, _, _, rfl, rfl, a, dx, kn, nm, v1, fn, p + 1, b, wi + 1, fs, ρ, e1, n1, rfl, L, t1, hm, a1, hh1, by omega, by omega, by omega, fun H1 u1 s1 g1 nd1 => ?_⟩
  have tk1 : TK H H1 := s1.tkI L.ha
  have L1 := L.keep s1 g1
  have hm1 := hm.sameX s1 L.ha
  have hd1 : ∃ ea edx efs, u1 = .ref ea ∧ H1 ea = some (.ins CN edx efs) ∧ efs.lookup ("depth" : Str) = some (.int (n1.d : Int)) := by
    cases nd1 with
    | mk _ _ i1 i2 i3 => exact ⟨_, _, _, rfl, i1, ndF_depth⟩
  obtain ⟨ea, edx, efs, rfl, i1, i2⟩ := hd1
  refine ⟨_, rfl, ea, CN, edx, _, _, rfl, i1, ND.cl, ND.depth, i2, ?_⟩
  dsimp only [gName]
  refine if_restS (fun σ' H' => ∃ pz', σ' = [some (.ref a), some (.ref ta), some pz, some (.ref nm), some (.int (wi : Int)), some (.str x.str), some (.int kk), some v1, some v2, some (.ref ea), some (.int ((n1.d - x.off : Nat) : Int)), pz'] ∧ H' = H1) (fun σ' H' e => ?_) (fun rest => ?_)
  · obtain ⟨pz', rfl, rfl⟩ := e
    refine ⟨_, rfl, a, dx, _, rfl, g1, lkF_no (by decide +kernel), _, rfl, fun p0 hp0 => ?_⟩
    obtain ⟨kl, j1, j2, j3, j4⟩ := hm1.ex
    have npm : nm ≠ p0 := ne_of_none j1 hp0
    have hf20 := few20 j2 j3
    refine ⟨_, rfl, nm, _, rfl, npm, by rw [upd_ne npm]; exact j1, upd_same, by rw [List.length_map]; omega, fun q0 hq0 => ?_⟩
    rw [upd_upd] at hq0 ⊢
    have npq : p0 ≠ q0 := fun z => by rw [z, upd_same] at hq0; cases hq0
    have hq1 : H' q0 = none := by rw [upd_ne npq.symm] at hq0; exact hq0
    obtain ⟨kl', m1, m2, m3, m4⟩ := put_nm (d := n1.d - x.off) j2 j3 j4 k0 k1
    refine ⟨_, rfl, _, rfl, by rw [upd_ne npq, upd_same], upd_same, npq, Sum.inl kk, rfl, ?_⟩
    rw [show putK (kl.map kvOf) (Sum.inl kk) (V.int ((n1.d - x.off : Nat) : Int)) = kl'.map kvOf from m1]
    generalize eH2 : upd (upd (upd (upd H' p0 (.dK (kl.map kvOf))) q0 (.dK [])) q0 (.dK [(Sum.inl kk, V.int ((n1.d - x.off : Nat) : Int))])) p0 (.dK (kl'.map kvOf)) = H2
    have s2 : Same H' H2 := fun b o hb => by
      have n1 := ne_of_none hb hp0
      have n2 := ne_of_none hb hq1
      rw [← eH2, upd_ne n1, upd_ne n2, upd_ne n2, upd_ne n1]
      exact hb
    have eq2 : H2 p0 = some (.dK (kl'.map kvOf)) := by rw [← eH2, upd_same]
    refine ⟨_, rfl, _, _, rfl, rfl, a, dx, kn, p0, v2, fn, p + 1 + e1.size, b || decide (0 < e1.selfs fn), wi + 1, fs, _, e2, n2, rfl, L1.same s2, (t2.mono tk1).mono (TK.of s2), ⟨kl', eq2, m2, m3, m4⟩, a2, hh2, by omega, by omega, by have := orN b (e1.selfs fn); omega, fun H3 u2 s3 g3 nd2 => ?_⟩
    refine ⟨_, rfl, _, rfl, by show 2 ≤ sizeLine; decide, fun l hl => ?_⟩
    have s4 := same_new hl (.lst [.ref ea, u2])
    have nn : ∀ b, New H2 b → New H b := fun b h => s1.new' L.ha ⟨_, g1⟩ (Same.new s2 h)
    have nd1' : NdIn H3 (New H) CN fn (.ref ea) n1 := (nd1.same s2).keep (fun _ h => h) fun b' o' g' hb => s3 _ _ (g'.ne L.ha) hb
    have nd2' : NdIn H3 (New H) CN fn u2 n2 := nd2.keep nn fun _ _ _ h => h
    have nl : New H l := by
      have h2 : New H2 l := s3.new' (s2 _ _ g1) ⟨_, g3⟩ hl
      exact nn _ h2
    refine q _ l _ ((s1.trans (Same.toX s2)).trans (s3.trans (Same.toX s4))) (s4 _ _ ?_) upd_same nl (.cons (nd1'.same s4) (.cons (nd2'.same s4) .nil))
    rw [g3, orOr]
  · refine ⟨_, rfl, rfl, _, rfl, ?_⟩
    rw [isLetN hx]
    refine ite2 (fun c => ?_) (fun c => ?_)
    · have c1 : x.off = 1 := of_decide_eq_true c
      have e0 : decide (V.int (n1.d : Int) = V.int 0) = false := decide_eq_false fun z => by
        injection z with z
        omega
      refine ⟨_, rfl, a, dx, _, rfl, g1, lkF_no (by decide +kernel), _, rfl, rfl, _, rfl, .ref a, pz, .str "depth", by rw [e0]; rfl, ?_⟩
      refine ⟨_, rfl, _, _, rfl, rfl, rest _ _ ⟨none, ?_, rfl⟩⟩
      rw [show ((n1.d - x.off : Nat) : Int) = (n1.d : Int) - 1 by omega]
      rfl
    · have c1 : x.off = 0 := by
        rcases offOr hx with h | h
        · exact h
        · exact absurd (decide_eq_true h) c
      refine rest _ _ ⟨none, ?_, rfl⟩
      rw [c1]
      rfl
end
end NR
set_option maxHeartbeats 4000000
namespace NR
open PySem PySem.Spec PyProof.Rows L2

theorem Dep.ar {x : W} {ds : List Nat} {d : Nat} (h : Dep x ds d) (hx : x.lay = 3) : ds.length = x.ar := by
  cases h with
  | two h => rcases h with rfl | rfl | rfl | rfl | rfl <;> rfl
  | num => cases hx
  | elet => cases hx
  | each _ => cases hx
  | whr => cases hx
  | _ => rfl
theorem Ans.len {fs : List (List Nat × Nat)} : ∀ {ρ : Env1} {p : Nat} {es : List Ex} {nds : List Nd}, Ans fs ρ p es nds → es.length = nds.length
  | _, _, _, _, .nil => rfl
  | _, _, _, _, .cons _ r => congrArg (· + 1) r.len
/-- what an annotated expression tells of its own word -/
structure AnI (fs : List (List Nat × Nat)) (ρ : Env1) (p : Nat) (x : W) (k : Int) (ps : List Ex) (nps : List Nd) (d : Nat) : Prop where
  sh : ShOk x k ps.length
  dt : DT fs ρ x k nps d
  nm : x = .name → ∃ d, ρ k = some d
  cl : x = .call → ∃ (j : Nat) (ds : List Nat) (d : Nat), k = (j : Int) ∧ fs[j]? = some (ds, d) ∧ ps.length = ds.length
  pt : (x.lay = 1 ∧ ∃ a b na nb, ps = [a, b] ∧ nps = [na, nb] ∧ 0 ≤ k ∧ k ≤ 19 ∧ An fs ρ (p + 1) a na ∧ x.off ≤ na.d ∧ An fs (ups ρ k (na.d - x.off)) (p + 1 + a.size) b nb) ∨ (x.lay ≠ 1 ∧ Ans fs ρ (p + 1) ps nps)
theorem An.inv {fs : List (List Nat × Nat)} {ρ : Env1} {p : Nat} {e : Ex} {nd : Nd} (h : An fs ρ p e nd) : ∃ x k ps nps d, e = .node x k ps ∧ nd = .node x p k nps d ∧ AnI fs ρ p x k ps nps d := by
  cases h with
  | num h0 h1 => exact ⟨_, _, _, _, _, rfl, rfl, ⟨fun _ => ⟨h0, h1⟩, fun z => (by cases z), fun z => (by cases z)⟩, .dep (by decide) (by decide) .num, fun z => (by cases z), fun z => (by cases z), .inr ⟨by decide, .nil⟩⟩
  | name h0 h1 h2 h3 => exact ⟨_, _, _, _, _, rfl, rfl, ⟨fun _ => ⟨h0, h1⟩, fun z => (by cases z), fun z => (by cases z)⟩, .name h2, fun _ => ⟨_, h2⟩, fun z => (by cases z), .inr ⟨by decide, .nil⟩⟩
  | @bind _ _ w x a b na nb d hw h0 h1 ha ho hb hd =>
    have hl : lastOf w = 19 := by revert hw; cases w <;> simp [W.lay] <;> rfl
    refine ⟨_, _, _, _, _, rfl, rfl, ⟨fun _ => ⟨h0, by rw [hl]; exact h1⟩, fun _ => rfl, fun z => (by omega)⟩, .dep (fun z => (by rw [z] at hw; cases hw)) (fun z => (by rw [z] at hw; cases hw)) hd, fun z => (by rw [z] at hw; cases hw), fun z => (by rw [z] at hw; cases hw), .inl ⟨hw, a, b, na, nb, rfl, rfl, h0, h1, ha, ho, hb⟩⟩
  | @call _ _ k ps nps ds d hk hf hp hd =>
    refine ⟨_, _, _, _, _, rfl, rfl, ⟨fun _ => ⟨by omega, by show (k : Int) ≤ 5; omega⟩, fun z => (by cases z), fun z => (by cases z)⟩, .call hf hd, fun z => (by cases z), fun _ => ⟨k, ds, d, rfl, hf, ?_⟩, .inr ⟨by decide, hp⟩⟩
    rw [hp.len, ← hd, List.length_map]
  | @bare _ _ w ps nps d hw hp hd =>
    refine ⟨_, _, _, _, _, rfl, rfl, ⟨fun z => ?_, fun z => (by omega), fun z => ?_⟩, .dep (fun z => (by rw [z] at hw; cases hw)) (fun z => (by rw [z] at hw; cases hw)) hd, fun z => (by rw [z] at hw; cases hw), fun z => (by rw [z] at hw; cases hw), .inr ⟨by omega, hp⟩⟩
    · unfold W.numd at z
      rw [hw] at z
      cases z
    · have := hd.ar hw
      rw [List.length_map] at this
      rw [hp.len, this]
theorem Ans.get {fs : List (List Nat × Nat)} : ∀ {ρ : Env1} {p : Nat} {es : List Ex} {nds : List Nd} (_ : Ans fs ρ p es nds) (i : Nat) {e : Ex}, es[i]? = some e → ∃ nd, nds[i]? = some nd ∧ An fs ρ (p + sizes (es.take i)) e nd
  | _, _, _, _, .nil, i, _, h => by simp at h
  | _, p, _, _, .cons (e := e0) ha _, 0, _, h => by
    cases h
    exact ⟨_, rfl, ha⟩
  | _, p, _, _, .cons (e := e0) ha r, i + 1, e, h => by
    obtain ⟨nd, h1, h2⟩ := r.get i h
    refine ⟨nd, h1, ?_⟩
    rw [List.take_succ_cons, show sizes (e0 :: List.take i _) = e0.size + sizes (List.take i _) from rfl, ← Nat.add_assoc]
    exact h2
theorem sizes_take : ∀ (es : List Ex) (i : Nat) {e : Ex}, es[i]? = some e → sizes (es.take (i + 1)) = sizes (es.take i) + e.size ∧ sizes (es.take (i + 1)) ≤ sizes es ∧ e.hgt ≤ hgts es
  | [], i, _, h => by simp at h
  | a :: es, 0, _, h => by
    cases h
    simp only [List.take_succ_cons, List.take_zero, sizes, hgts]
    omega
  | a :: es, i + 1, e, h => by
    obtain ⟨h1, h2, h3⟩ := sizes_take es i h
    rw [List.take_succ_cons, List.take_succ_cons]
    simp only [sizes, hgts]
    omega
theorem selfss_take (k : Int) : ∀ (es : List Ex) (i : Nat) {e : Ex}, es[i]? = some e → selfss k (es.take (i + 1)) = selfss k (es.take i) + e.selfs k ∧ selfss k (es.take (i + 1)) ≤ selfss k es
  | [], i, _, h => by simp at h
  | a :: es, 0, _, h => by
    cases h
    simp only [List.take_succ_cons, List.take_zero, selfss]
    omega
  | a :: es, i + 1, e, h => by
    obtain ⟨h1, h2⟩ := selfss_take k es i h
    rw [List.take_succ_cons, List.take_succ_cons]
    simp only [selfss]
    omega
def thatW : List V := [.str "let", .str "each", .str "where"]
theorem inThat (x : W) : inV (.str x.str) thatW = decide (x.lay = 1) := by cases x <;> decide +kernel
theorem andF {c d : Bool} (h : c = true → d = false) : (if c = true then d else false) = false := by
  cases c
  · rfl
  · exact h rfl
abbrev sLookNodeOf : Stmt := inClass (top 42) 2
theorem scsLookNodeOf : FnScope ["self", "expression", "names", "within", "place", "word", "number", "parts", "depth", "part"] ["self", "expression", "names", "within"] (defScope sLookNodeOf) := ⟨rfl, rfl, rfl, by decide +kernel, rfl, by decide +kernel, by decide +kernel⟩
section
variable {P : Program} {w : World} {K : PySem.W.Frag} {mg : Str → Option Value} {base : Heap} {f : Addr} {fd : FuncData}

theorem ok_nodeof {n k : Nat} {C CN : Addr} (F : FnM K "node_of" "Look.node_of" sLookNodeOf f fd) (N : LkC K C) (ND : NdC K CN) (hk : 3 ≤ k) (M_refuse_if : Okm P w K mg base CX0 (k + 1) C "refuse_if" ["self", "wrong", "place", "word"] spRefuse)
    (M_may_call : Okm P w K mg base CX0 (k + 1) C "may_call" ["self", "called", "many"] (spMay K C)) (M_node_of : Okm P w K mg base CX0 (k + 1) C "node_of" ["self", "expression", "names", "within"] (spNodeOf C CN n))
    (M_parts_that_name : Okm P w K mg base CX0 (k + 1) C "parts_that_name" ["self", "expression", "place", "names", "within"] (spThat C CN n)) (M_depth_told : Okm P w K mg base CX0 (k + 1) C "depth_told" ["self", "word", "number", "parts", "names"] (spTold K C CN))
    (C_Node : Okc P w K mg base CX0 k "Node" CN ["self", "word", "function", "place", "number", "parts", "depth"] (spNode CN)) (O_has_shape : Okf P w K mg base CX0 (k + 1) "has_shape" ["expression"] (spShape K)) (O_number_of : Okf P w K mg base CX0 (k + 1) "number_of" ["expression"] (spNumOf K)) (O_parts_of : Okf P w K mg base CX0 (k + 1) "parts_of" ["expression"] (spPartsOf K))
    {t0 t1 t2 : Tok} (m_LAST_PLACE : mg "LAST_PLACE" = some (.int 59 t0)) (m_MOST_WITHIN : mg "MOST_WITHIN" = some (.int 12 t1)) (m_NO_DEPTH : mg "NO_DEPTH" = some (.int (-1) t2)) (z_len : mg "len" = none) : FnOk P w K mg base CX0 (k + 2) f fd ["self", "expression", "names", "within"] (spNodeOf C CN (n + 1)) := by
  have sc := scsLookNodeOf
  refine F.ok sc (fun vs H Q E h => ?_) (fun cdv A outer s H vs Q E hr h => ?_)
  · obtain ⟨a, dx, kn, nm, v, fn, p, b, wi, fs, ρ, e, nd, rfl, _⟩ := h
    rfl
  have hu := hu_of hr
  obtain ⟨a, dx, kn, nm, v, fn, p, b, wi, fs, ρ, e, nd, rfl, L, ti, hm, an, hh, hz, hw, hs, q⟩ := h
  obtain ⟨x, kk, ps, nps, d, rfl, rfl, I⟩ := an.inv
  have hsz : (Ex.node x kk ps).size = 1 + sizes ps := rfl
  have hht : (Ex.node x kk ps).hgt = 1 + hgts ps := rfl
  have hss : (Ex.node x kk ps).selfs fn = (if x = .call ∧ kk = fn then 1 else 0) + selfss fn ps := rfl
  obtain ⟨ta, txs, rfl, th, tl, t1', t2', t3, t4⟩ := ti.hd I.sh
  refine ⟨_, (pss_cons (ps_set (i := 4) sc.nd rfl (.inl rfl) (pe_fldK K (pv 0) rfl))
    (pss_cons (ps_fldaug (pv 0) pe_int in_add)
    (pss_cons (ps_expr (pe_m M_refuse_if (pv 0) hr pass0 (pa_cons (pe_or (pe_cmpR op_gt (pv 4) (pe_gI rfl m_LAST_PLACE) (nomark _)) (pe_one (pe_cmpR op_gt (pv 3) (pe_gI rfl m_MOST_WITHIN) (nomark _)))) (pa_cons (pv 4) (pa_cons pe_str pa_nil)))))
    (pss_cons (ps_expr (pe_m M_refuse_if (pv 0) hr pass0 (pa_cons (pe_not (pe_c O_has_shape hr rfl pass0 (pa_cons (pv 1) pa_nil))) (pa_cons (pv 4) (pa_cons pe_str pa_nil)))))
    (pss_cons (ps_par (by rfl) sc.nd (i := 5) (j := 6) rfl rfl (by decide) rfl rfl (pa_cons (pe_ix (ix_tupK K) (pv 1) pe_int (fun _ _ => rfl)) (pa_cons (pe_c O_number_of hr rfl pass0 (pa_cons (pv 1) pa_nil)) pa_nil)) (by rfl))
    (pss_cons (ps_expr (pe_m M_refuse_if (pv 0) hr pass0 (pa_cons (pe_and (pe_cmpR op_eq (pv 5) pe_str (nomark _)) (pe_one (pe_cmp (pc_dnotin hu (pv 6) (pv 2))))) (pa_cons (pv 4) (pa_cons pe_str pa_nil)))))
    (pss_cons (ps_expr (pe_m M_refuse_if (pv 0) hr pass0 (pa_cons (pe_and (pe_cmpR op_eq (pv 5) pe_str (nomark _)) (pe_one (pe_not (pe_m M_may_call (pv 0) hr pass0 (pa_cons (pv 6) (pa_cons (pe_callB (call_lenK K) rfl z_len PySem.boot_len (pa_cons (pe_ix (ix_tupK K) (pv 1) pe_int (fun _ _ => rfl)) pa_nil)) pa_nil)))))) (pa_cons (pv 4) (pa_cons pe_str pa_nil)))))
    (pss_cons (ps_if (pt_cmpR (op_inK K) (pv 5) (pe_tup (pa_cons pe_str (pa_cons pe_str (pa_cons pe_str pa_nil)))) (by rfl)) (pss_one (ps_set (i := 7) sc.nd rfl (.inl rfl) (pe_m M_parts_that_name (pv 0) hr pass0 (pa_cons (pv 1) (pa_cons (pv 4) (pa_cons (pv 2) (pa_cons (pv 3) pa_nil))))))) (pss_one (ps_setLc (i := 7) (own := [("part", 9)]) (by rfl) sc.nd rfl rfl (sw_true rfl rfl rfl (by decide +kernel)) (pi_listK K (pe_c O_parts_of hr rfl pass0 (pa_cons (pv 1) pa_nil))) (blkOk_by (own := [("part", 9)]) (N := ["self", "expression", "names", "within", "place", "word", "number", "parts", "depth", "part"]) (sc := defScope sLookNodeOf) (by decide +kernel)) (fun _ _ _ _ _ => (pg_name (i := 9) sc.nd rfl (.inl rfl))) (fun _ _ _ _ _ => pts_nil) (fun _ _ _ _ _ => (pe_m M_node_of (pv 0) hr pass0 (pa_cons (pv 9) (pa_cons (pv 2) (pa_cons (pe_op op_add (pv 3) pe_int) pa_nil))))))))
    (pss_cons (ps_set (i := 8) sc.nd rfl (.inl rfl) (pe_m M_depth_told (pv 0) hr pass0 (pa_cons (pv 5) (pa_cons (pv 6) (pa_cons (pv 7) (pa_cons (pv 2) pa_nil))))))
    (pss_cons (ps_expr (pe_m M_refuse_if (pv 0) hr pass0 (pa_cons (pe_cmpR op_eq (pv 8) (pe_gI rfl m_NO_DEPTH) (nomark _)) (pa_cons (pv 4) (pa_cons pe_str pa_nil)))))
    (pss_one (ps_ret (pe_mk C_Node hr rfl pass0 (pa_cons (pv 5) (pa_cons (pe_fldK K (pv 0) rfl) (pa_cons (pv 4) (pa_cons (pv 6) (pa_cons (pv 7) (pa_cons (pv 8) pa_nil))))))))))))))))))), ?_⟩
  refine ⟨_, rfl, a, C, dx, _, _, rfl, L.ha, N.cl, N.looked, lkF_at, ?_⟩
  refine ⟨_, rfl, a, C, dx, _, _, rfl, L.ha, N.cl, N.looked, lkF_at, _, _, rfl, rfl, dx, _, L.ha, by show 4 < 1000; decide, ?_⟩
  have e1 : putF "looked_at" (V.int ((p : Int) + 1)) (lkF kn fn p b) = lkF kn fn (p + 1) b := rfl
  rw [e1]
  have s1 : SameX a H (upd H a (.ins C dx (lkF kn fn (p + 1) b))) := .upd
  have g1 : upd H a (.ins C dx (lkF kn fn (p + 1) b)) a = some (.ins C dx (lkF kn fn (p + 1) b)) := upd_same
  generalize upd H a (.ins C dx (lkF kn fn (p + 1) b)) = H1 at s1 g1 ⊢
  have L1 := L.keep s1 g1
  have tk1 := s1.tkI L.ha
  have ti1 := ti.mono tk1
  have hm1 := hm.sameX s1 L.ha
  have th1 := tk1 _ _ th
  have c1 : decide ((59 : Int) < (p : Int)) = false := decide_eq_false (by omega)
  have c2 : decide ((12 : Int) < (wi : Int)) = false := decide_eq_false (by omega)
  refine ⟨_, rfl, a, dx, _, rfl, g1, lkF_no (by decide +kernel), _, rfl, _, _, rfl, rfl, _, rfl, ?_⟩
  refine ite2 (fun z => absurd (of_decide_eq_true z) (by omega)) (fun _ => ?_)
  refine ⟨_, rfl, _, _, rfl, rfl, _, rfl, .ref a, .int (p : Int), .str "size", by dsimp only; rw [c2]; rfl, ?_⟩
  -- form
  refine ⟨_, rfl, a, dx, _, rfl, g1, lkF_no (by decide +kernel), _, rfl, .ref ta, x, kk, ps, rfl, ti1, I.sh, _, rfl, _, rfl, .ref a, .int (p : Int), .str "form", rfl, ?_⟩
  -- word, number
  refine ⟨_, rfl, ta, _, _, .str x.str, rfl, rfl, SqT.of th1, at0, _, rfl, .ref ta, x, kk, ps, rfl, ti1, I.sh, _, _, rfl, ?_⟩
  -- name
  dsimp only
  refine seq_rest (fun H' => H' = H1) (fun H1' e => ?_) (fun rest => ?_)
  · subst e
    -- call
    refine seq_rest (fun H' => SameX a H1' H' ∧ H' a = some (.ins C dx (lkF kn fn (p + 1) (b || decide (x = .call ∧ kk = fn))))) (fun H2 e => ?_) (fun rest => ?_)
    · obtain ⟨s2, g2⟩ := e
      have L2 := L1.keep s2 g2
      have tk2 := s2.tkI g1
      have ti2 := ti1.mono tk2
      have hm2 := hm1.sameX s2 g1
      have th2 := tk2 _ _ th1
      generalize eb : (b || decide (x = .call ∧ kk = (fn : Int))) = b2 at g2 L2
      have hb2 : selfss fn ps + b2.toNat ≤ 1 := by
        rw [hss] at hs
        rw [← eb]
        by_cases c : x = .call ∧ kk = (fn : Int)
        · rw [if_pos c] at hs
          rw [decide_eq_true c, Bool.or_true, Bool.toNat_true]
          omega
        · rw [if_neg c] at hs
          rw [decide_eq_false c, Bool.or_false]
          omega
      have hb3 : (b2 || decide (0 < selfss fn ps)) = (b || decide (0 < (Ex.node x kk ps).selfs fn)) := by
        rw [hss, ← eb]
        by_cases c : x = .call ∧ kk = (fn : Int)
        · rw [if_pos c, decide_eq_true c, decide_eq_true (show 0 < 1 + selfss fn ps by omega), Bool.or_true, Bool.true_or]
        · rw [if_neg c, decide_eq_false c, Bool.or_false, Nat.zero_add]
      refine if_restS (fun σ' H' => ∃ (l : Addr) (us : List V), σ' = [some (.ref a), some (.ref ta), some (.ref nm), some (.int (wi : Int)), some (.int (p : Int)), some (.str x.str), some (.int kk), some (.ref l), none, none] ∧ SameX a H2 H' ∧ H' a = some (.ins C dx (lkF kn fn (p + 1 + sizes ps) (b2 || decide (0 < selfss fn ps)))) ∧ H' l = some (.lst us) ∧ New H2 l ∧ NdIns H' (New H2) CN fn us nps) (fun σ' H3 e => ?_) (fun rest => ?_)
      · obtain ⟨l, us, rfl, s3, g3, hl, nl, hn⟩ := e
        have nn : ∀ b, New H2 b → New H b := fun b h => s1.new' L.ha ⟨_, g1⟩ (s2.new' g1 ⟨_, g2⟩ h)
        have L3 := L2.keep s3 g3
        have hm3 := hm2.sameX s3 g2
        obtain ⟨xs, k1, k2⟩ := L3.ex
        have hul : us.length ≤ 100 := by
          have h1 := hn.len
          have h2 := an.sz
          have h3 := nsizes_len nps
          have h4 : (Nd.node x p kk nps d).size = 1 + nsizes nps := rfl
          omega
        have dt' : DT fs ρ x kk nps d := by
          cases I.dt with
          | name h => exact .name h
          | call h h' => exact .call (by rw [List.getElem?_take] at h; split at h; exact h; cases h) h'
          | dep h1 h2 h3 => exact .dep h1 h2 h3
        refine ⟨_, rfl, a, dx, _, rfl, g3, lkF_no (by decide +kernel), _, rfl, _, rfl, _, rfl, _, rfl, a, dx, kn, nm, l, fn, _, _, xs, us, fs, ρ, x, kk, nps, d, rfl, g3, k1, k2, hl, hn.any, hul, hm3, dt', fun H4 s4 => ?_⟩
        have g4 := s4 _ _ g3
        have c5 : decide (V.int (d : Int) = V.int (-1)) = false := decide_eq_false fun z => by
          injection z with z
          omega
        refine ⟨_, rfl, a, dx, _, rfl, g4, lkF_no (by decide +kernel), _, rfl, rfl, _, rfl, .ref a, .int (p : Int), .str "depth", by rw [show decide (dV d = V.int (-1)) = false from c5]; rfl, ?_⟩
        refine ⟨_, rfl, _, rfl, a, C, dx, _, _, rfl, g4, N.cl, N.function, lkF_function, _, rfl, _, rfl, _, rfl, _, rfl, fun o odx no nodx nox => ?_⟩
        refine ⟨o, odx, l, fn, x, p, kk, d, rfl, upd_same, rfl, ?_⟩
        rw [upd_upd]
        generalize eH5 : upd (upd H4 odx (.own o)) o (.ins CN odx (ndF x fn p kk l d)) = H5
        have s5 : Same H4 H5 := fun b' o' hb => by
          rw [← eH5, upd_ne (ne_of_none hb no), upd_ne (ne_of_none hb nodx)]
          exact hb
        refine q _ _ (s1.trans (s2.trans (s3.trans (Same.toX (s4.trans s5))))) (s5 _ _ ?_) (.mk (dx := odx) (l := l) (nn _ (s3.new' g2 ⟨_, g3⟩ (Same.new s4 no))) (nn _ nl) (by rw [← eH5, upd_same]) (s5 _ _ (s4 _ _ hl)) (((hn.keep nn fun _ _ _ h => h).same s4).same s5))
        rw [g4, hb3, hsz, Nat.add_assoc]
      · refine ⟨_, rfl, by show 3 ≤ sizeLine; decide, fun p0 hp0 => ?_⟩
        have sp := same_new hp0 (.tup thatW)
        refine ⟨p0, _, rfl, .inr (SqT.of upd_same), rfl, rfl, _, rfl, ?_⟩
        have ew : (if (false = true) then !inV (.str x.str) thatW else inV (.str x.str) thatW) = decide (x.lay = 1) := inThat x
        have gp := sp _ _ g2
        refine ite2 (fun c => ?_) (fun c => ?_)
        · rcases I.pt with ⟨h1, ea, eb', na, nb, rfl, rfl, k0, k1, a1, ho, a2⟩ | ⟨h1, _⟩
          · have hs2 : selfss (fn : Int) [ea, eb'] = ea.selfs fn + eb'.selfs fn := by simp only [selfss, Nat.add_zero]
            have hz2 : sizes [ea, eb'] = ea.size + eb'.size := by simp only [sizes, Nat.add_zero]
            have hg2 : hgts [ea, eb'] = max ea.hgt eb'.hgt := by simp only [hgts, Nat.max_zero]
            rw [hs2] at hb2
            refine ⟨_, rfl, a, dx, _, rfl, gp, lkF_no (by decide +kernel), _, rfl, _, rfl, _, rfl, _, rfl, a, dx, kn, nm, .ref ta, .int (p : Int), fn, p, b2, wi, fs, ρ, x, kk, ea, eb', na, nb, rfl, L2.same sp, ti2.mono (TK.of sp), hm2.same sp, h1, k0, k1, a1, ho, a2, by omega, by omega, by omega, by omega, by omega, hb2, fun H3 l vs' s3 g3 hl nl hn => ?_⟩
            refine rest _ _ ⟨l, vs', rfl, (Same.toX sp).trans s3, ?_, hl, Same.new sp nl, hn.keep (fun _ h => Same.new sp h) fun _ _ _ h => h⟩
            rw [g3, hs2, hz2, Nat.add_assoc]
          · exact absurd (of_decide_eq_true (ew.symm.trans c)) h1
        · have c' : x.lay ≠ 1 := fun z => c (ew.trans (decide_eq_true z))
          rcases I.pt with ⟨h1, _⟩ | ⟨_, as⟩
          · exact absurd h1 c'
          refine ⟨_, rfl, .ref ta, x, kk, ps, rfl, ti2.mono (TK.of sp), I.sh, fun H3 l xs s3 hl tis => ⟨l, rfl, ⟨_, SqL.of hl⟩, fun D hD => ?_⟩⟩
          have g3 := s3 _ _ gp
          have nDa : a ≠ D := ne_of_none g3 hD
          have nDl : l ≠ D := ne_of_none hl hD
          have nla : l ≠ a := ne_of hl g3 (by intro z; cases z)
          have L3 := (L2.same sp).same s3
          have hm3 := (hm2.same sp).same s3
          have sD := same_new hD (.lst [])
          have hxl := tis.len
          have hasl := as.len
          have hps : ps.length ≤ 100 := by
            have h2 := an.sz
            have h3 := nsizes_len nps
            have h4 : (Nd.node x p kk nps d).size = 1 + nsizes nps := rfl
            omega
          refine lc_list (K := K) (a := l) (xs := xs) (fun i H' => ∃ acc, H' D = some (.lst acc) ∧ NdIns H' (fun b => New H3 b ∧ b ≠ D) CN fn acc (nps.take i) ∧ H' a = some (.ins C dx (lkF kn fn (p + 1 + sizes (ps.take i)) (b2 || decide (0 < selfss fn (ps.take i))))) ∧ ∀ b' o', b' ≠ a → H3 b' = some o' → H' b' = some o') ⟨[], upd_same, .nil, ?_, fun b' o' _ hb => sD _ _ hb⟩ ?_ ?_ ?_
          · rw [upd_ne nDa, g3, List.take_zero, show sizes [] = 0 from rfl, show selfss (fn : Int) [] = 0 from rfl]
            simp
          · rintro i H' _ ⟨acc, _, _, _, k⟩
            exact SqL.of (k _ _ nla hl)
          · rintro i v H' hi ⟨acc, e1, e2, e3, k⟩
            obtain ⟨e, he, te⟩ := tis.get i hi
            obtain ⟨nd, hnd, ane⟩ := as.get i he
            obtain ⟨z1, z2, z3⟩ := sizes_take ps i he
            obtain ⟨y1, y2⟩ := selfss_take fn ps i he
            have sX : SameX a H3 H' := fun b' o' n' hb => k _ _ n' hb
            have tk : TK H3 H' := sX.tkI g3
            have hlen : acc.length ≤ 100 := by
              have h1 := e2.len
              rw [List.length_take] at h1
              omega
            refine ⟨rfl, ?_⟩
            refine ⟨_, rfl, a, dx, _, rfl, e3, lkF_no (by decide +kernel), _, rfl, _, rfl, _, rfl, _, _, rfl, rfl, a, dx, kn, nm, v, fn, p + 1 + sizes (ps.take i), b2 || decide (0 < selfss fn (ps.take i)), wi + 1, fs, ρ, e, nd, rfl, L3.keep sX e3, te.mono tk, hm3.sameX sX g3, ane, by omega, by omega, by omega, by have := orN b2 (selfss fn (ps.take i)); omega, fun H4 u s4 g4 hu4 => ?_⟩
            have eD4 : H4 D = some (.lst acc) := s4 _ _ nDa.symm e1
            refine ⟨acc, eD4, small1000 (by omega), acc ++ [u], upd_same, ?_, ?_, fun b' o' n' hb => ?_⟩
            · have ki : ∀ b', New H' b' → New H3 b' ∧ b' ≠ D := fun b' h => by
                refine ⟨?_, h.ne e1⟩
                cases e : H3 b' with
                | none => exact e
                | some o' =>
                  have na : b' ≠ a := h.ne e3
                  have hq := k _ _ na e
                  rw [New, hq] at h
                  cases h
              have nds : NdIns H4 (fun b => New H3 b ∧ b ≠ D) CN fn acc (nps.take i) := e2.keep (fun _ h => h) fun b' o' g' hb => s4 _ _ (g'.1.ne g3) hb
              have nu : NdIn H4 (fun b => New H3 b ∧ b ≠ D) CN fn u nd := hu4.keep ki fun _ _ _ h => h
              rw [List.take_add_one, hnd]
              exact (nds.snoc nu).keep (fun _ h => h) fun b' o' g' hb => by rw [upd_ne g'.2]; exact hb
            · rw [upd_ne nDa, g4, orOr, y1, z1, Nat.add_assoc]
            · rw [upd_ne (ne_of_none hb hD)]
              exact s4 _ _ n' (k _ _ n' hb)
          · rintro H' ⟨acc, e1, e2, e3, k⟩
            rw [List.take_of_length_le (by omega)] at e2
            rw [List.take_of_length_le (by omega)] at e3
            have n32 : ∀ b', New H3 b' → New H2 b' := fun b' h => Same.new sp (Same.new s3 h)
            exact rest _ _ ⟨D, acc, rfl, fun b' o' n' hb => k _ _ n' (s3 _ _ (sp _ _ hb)), e3, e1, n32 _ hD, e2.keep (fun _ h => n32 _ h.1) fun _ _ _ h => h⟩
    · refine ⟨_, rfl, a, dx, _, rfl, g1, lkF_no (by decide +kernel), _, rfl, rfl, _, rfl, ?_⟩
      rw [isCall2 x]
      refine ite2 (fun z => ?_) (fun z => ?_)
      · have z1 : x = .call := of_decide_eq_true z
        obtain ⟨j, ds, dd, rfl, hj, hl⟩ := I.cl z1
        subst z1
        obtain ⟨tb, zs, rfl, hb, hz'⟩ := t3 rfl
        have hjf : j ≤ fn ∧ fs[j]? = some (ds, dd) := by
          rw [List.getElem?_take] at hj
          split at hj
          · exact ⟨by omega, hj⟩
          · cases hj
        obtain ⟨xs, k1, k2⟩ := L1.ex
        refine ⟨_, rfl, a, dx, _, rfl, g1, lkF_no (by decide +kernel), _, rfl, _, rfl, ta, _, _, _, rfl, rfl, SqT.of th1, rfl, tb, _, rfl, .inr (SqT.of (tk1 _ _ hb)), a, dx, kn, fn, j, p + 1, b, xs, fs, ds, dd, ?_, g1, k1, k2, hjf.2, hjf.1, fun ej => ?_, fun H2 s2 g2 => ?_⟩
        · rw [hz'.len, hl]
          rfl
        · cases b with
          | false => rfl
          | true =>
            rw [hss, if_pos ⟨rfl, by rw [ej]⟩] at hs
            simp at hs
        · refine ⟨_, rfl, _, rfl, .ref a, .int (p : Int), .str "call", rfl, rest _ ⟨s2, ?_⟩⟩
          rw [g2]
          have e9 : decide (j = fn) = decide (W.call = W.call ∧ (j : Int) = (fn : Int)) := by
            by_cases h9 : j = fn
            · simp [h9]
            · have : ¬ (j : Int) = (fn : Int) := by omega
              simp [h9, this]
          rw [e9]
      · have z1 : ¬ (x = .call ∧ kk = fn) := fun y => z (decide_eq_true y.1)
        refine ⟨_, rfl, .ref a, .int (p : Int), .str "call", rfl, rest _ ⟨.refl _ _, ?_⟩⟩
        rw [decide_eq_false z1, Bool.or_false]
        exact g1
  · refine ⟨_, rfl, a, dx, _, rfl, g1, lkF_no (by decide +kernel), _, rfl, rfl, _, rfl, ?_⟩
    rw [isName x]
    refine ite2 (fun z => ?_) (fun z => ⟨_, rfl, .ref a, .int (p : Int), .str "name", rfl, rest _ rfl⟩)
    obtain ⟨dd, hd⟩ := I.nm (of_decide_eq_true z)
    obtain ⟨kl, j1, j2, j3, j4⟩ := hm1.ex
    exact ⟨_, rfl, _, rfl, nm, _, rfl, dget j1 (k := Sum.inl kk) (valV_kn j2 (j4 _ _ hd)), _, rfl, .ref a, .int (p : Int), .str "name", rfl, rest _ rfl⟩
end
end NR
set_option maxHeartbeats 4000000
namespace NR
open PySem PySem.Spec PyProof.Rows L2

def spParam : Sp := fun vs H Q _ => ∃ (a : Addr) (x : Int) (d : Nat), vs = [.ref a] ∧ H a = some (.tup [.int x, dV d]) ∧ 0 ≤ x ∧ x ≤ 19 ∧ d ≤ 3 ∧ Q (.bl true) H
abbrev sIsParam : Stmt := top 44
theorem scsIsParam : FnScope ["param"] ["param"] (defScope sIsParam) := ⟨rfl, rfl, rfl, by decide +kernel, rfl, by decide +kernel, by decide +kernel⟩
section
variable {P : Program} {w : World} {K : PySem.W.Frag} {mg : Str → Option Value} {base : Heap} {f : Addr} {fd : FuncData}

theorem ok_param (F : FnP K "is_param" sIsParam f fd) (O_is_number : Okf P w K mg base CX0 1 "is_number" ["value", "last"] spIsNum) {t0 t1 : Tok} (m_LAST_NAME : mg "LAST_NAME" = some (.int 19 t0)) (m_MOST_DEPTH : mg "MOST_DEPTH" = some (.int 3 t1)) (z_isinstance : mg "isinstance" = none) (z_tuple : mg "tuple" = none) (z_len : mg "len" = none) : FnOk P w K mg base CX0 2 f fd ["param"] spParam := by
  have sc := scsIsParam
  refine F.ok sc (fun vs H Q E h => ?_) (fun cdv A outer s H vs Q E hr h => ?_)
  · obtain ⟨a, x, d, rfl, _⟩ := h
    rfl
  obtain ⟨a, x, d, rfl, ha, x0, x1, hd, q⟩ := h
  refine ⟨_, (pss_cons (ps_if (PW.pt (pw_or (pt_not (pt_val (pe_callB (call_isiK K) rfl z_isinstance (by decide +kernel) (pa_cons (pv 0) (pa_cons (pe_bltn (v := .ty "tuple") rfl z_tuple (by decide +kernel) rfl) pa_nil))))) (pw_or1 (pt_cmpR op_ne (pe_callB (call_lenK K) rfl z_len PySem.boot_len (pa_cons (pv 0) pa_nil)) pe_int (nomark _))))) (pss_one (ps_ret pe_bl)) pss_nil)
    (pss_one (ps_ret (pe_and (pe_c O_is_number hr rfl pass0 (pa_cons (pe_ix (ix_tupK K) (pv 0) pe_int (fun _ _ => rfl)) (pa_cons (pe_gI rfl m_LAST_NAME) pa_nil))) (pe_one (pe_c O_is_number hr rfl pass0 (pa_cons (pe_ix (ix_tupK K) (pv 0) pe_int (fun _ _ => rfl)) (pa_cons (pe_gI rfl m_MOST_DEPTH) pa_nil)))))))), ?_⟩
  refine ⟨_, rfl, _, _, _, _, _, rfl, .ty _, .base (.tup ha), kit_ty (r := true) (by decide +kernel), _, rfl, ?_⟩
  refine ite2 (fun z => nomatch z) (fun _ => ?_)
  refine ⟨_, rfl, a, _, rfl, .inr (SqT.of ha), rfl, _, rfl, ?_⟩
  refine ite2 (fun z => absurd (show false = true from z) Bool.false_ne_true) (fun _ => ?_)
  refine ⟨_, rfl, a, _, _, _, rfl, rfl, SqT.of ha, rfl, x, 19, rfl, _, rfl, ?_⟩
  rw [decide_eq_true x0, decide_eq_true x1]
  refine ite2 (fun _ => ?_) (fun z => absurd rfl z)
  refine ⟨_, rfl, a, _, _, _, rfl, rfl, SqT.of ha, rfl, (d : Int), 3, rfl, ?_⟩
  rw [decide_eq_true (show (0 : Int) ≤ (d : Int) by omega), decide_eq_true (show (d : Int) ≤ 3 by omega)]
  exact q
end

def spHasFace (K : PySem.W.Frag) : Sp := fun vs H Q _ => ∃ (a : Addr) (pz bz : V) (ps : List (Int × Nat)) (d : Nat), vs = [.ref a] ∧ H a = some (.tup [pz, dV d, bz]) ∧ PtIn H pz ps ∧ FaceOk ps d ∧ ∀ H', Same H H' → Q (.bl true) H'
theorem SqT.frz {K : PySem.W.Frag} {H : Hp} {a : Addr} {o : Obj} {xs : List V} (h : H a = some (.frz o (.tup xs))) : SqT K H a xs := .inl (.inr ⟨o, h⟩)
theorem allTrue (n : Nat) : (List.replicate n true).all id = true := by simp
abbrev sHasFace : Stmt := top 43
theorem scsHasFace : FnScope ["function", "params", "depth", "param"] ["function"] (defScope sHasFace) := ⟨rfl, rfl, rfl, by decide +kernel, rfl, by decide +kernel, by decide +kernel⟩
section
variable {P : Program} {w : World} {K : PySem.W.Frag} {mg : Str → Option Value} {base : Heap} {f : Addr} {fd : FuncData}

theorem ok_hasface (F : FnP K "has_face" sHasFace f fd) (O_is_number : Okf P w K mg base CX0 2 "is_number" ["value", "last"] spIsNum) (O_is_param : Okf P w K mg base CX0 2 "is_param" ["param"] spParam) {t0 t1 : Tok} (m_MOST_PARAMS : mg "MOST_PARAMS" = some (.int 4 t0)) (m_MOST_DEPTH : mg "MOST_DEPTH" = some (.int 3 t1))
    (z_isinstance : mg "isinstance" = none) (z_tuple : mg "tuple" = none) (z_len : mg "len" = none) (z_all : mg "all" = none) (z_set : mg "set" = none) : FnOk P w K mg base CX0 3 f fd ["function"] (spHasFace K) := by
  have sc := scsHasFace
  refine F.ok sc (fun vs H Q E h => ?_) (fun cdv A outer s H vs Q E hr h => ?_)
  · obtain ⟨a, pz, bz, ps, d, rfl, _⟩ := h
    rfl
  obtain ⟨a, pz, bz, ps, d, rfl, ha, hp, fo, q⟩ := h
  obtain ⟨pt, o, vs, rfl, h1, h2, h3⟩ := hp.ex
  have hl := h3.len
  have fw := fo.few
  have fd3 := fo.hd
  refine ⟨_, (pss_cons (ps_if (PW.pt (pw_or (pt_not (pt_val (pe_callB (call_isiK K) rfl z_isinstance (by decide +kernel) (pa_cons (pv 0) (pa_cons (pe_bltn (v := .ty "tuple") rfl z_tuple (by decide +kernel) rfl) pa_nil))))) (pw_or1 (pt_cmpR op_ne (pe_callB (call_lenK K) rfl z_len PySem.boot_len (pa_cons (pv 0) pa_nil)) pe_int (nomark _))))) (pss_one (ps_ret pe_bl)) pss_nil)
    (pss_cons (ps_par (by rfl) sc.nd (i := 1) (j := 2) rfl rfl (by decide) rfl rfl (pa_cons (pe_ix (ix_tupK K) (pv 0) pe_int (fun _ _ => rfl)) (pa_cons (pe_ix (ix_tupK K) (pv 0) pe_int (fun _ _ => rfl)) pa_nil)) (by rfl))
    (pss_cons (ps_if (PW.pt (pw_or (pt_not (pt_val (pe_callB (call_isiK K) rfl z_isinstance (by decide +kernel) (pa_cons (pv 1) (pa_cons (pe_bltn (v := .ty "tuple") rfl z_tuple (by decide +kernel) rfl) pa_nil))))) (pw_or (pt_cmpR op_gt (pe_callB (call_lenK K) rfl z_len PySem.boot_len (pa_cons (pv 1) pa_nil)) (pe_gI rfl m_MOST_PARAMS) (nomark _)) (pw_or1 (pt_not (pt_val (pe_c O_is_number hr rfl pass0 (pa_cons (pv 2) (pa_cons (pe_gI rfl m_MOST_DEPTH) pa_nil))))))))) (pss_one (ps_ret pe_bl)) pss_nil)
    (pss_cons (ps_if (pt_not (pt_val (pe_callB (cr_allK K rfl) rfl z_all (by decide +kernel) (pa_cons (pe_lc (own := [("param", 3)]) (by rfl) sc.nd (pi_tupK K (pv 1)) (blkOk_by (own := [("param", 3)]) (N := ["function", "params", "depth", "param"]) (sc := defScope sHasFace) (by decide +kernel)) (fun _ _ _ _ _ => (pg_name (i := 3) sc.nd rfl (.inl rfl))) (fun _ _ _ _ _ => pts_nil) (fun _ _ _ _ _ => (pe_c O_is_param hr rfl pass0 (pa_cons (pv 3) pa_nil)))) pa_nil)))) (pss_one (ps_ret pe_bl)) pss_nil)
    (pss_one (ps_ret (pe_cmpR op_eq (RZ.pe_lenSetI rfl z_len rfl z_set (pe_lc (own := [("param", 3)]) (by rfl) sc.nd (pi_tupK K (pv 1)) (blkOk_by (own := [("param", 3)]) (N := ["function", "params", "depth", "param"]) (sc := defScope sHasFace) (by decide +kernel)) (fun _ _ _ _ _ => (pg_name (i := 3) sc.nd rfl (.inl rfl))) (fun _ _ _ _ _ => pts_nil) (fun _ _ _ _ _ => (pe_ix (ix_tupK K) (pv 3) pe_int (fun _ _ => rfl))))) (pe_callB (call_lenK K) rfl z_len PySem.boot_len (pa_cons (pv 1) pa_nil)) (nomark _)))))))), ?_⟩
  refine ⟨_, rfl, _, _, _, _, _, rfl, .ty _, .base (.tup ha), kit_ty (r := true) (by decide +kernel), _, rfl, ?_⟩
  refine ite2 (fun z => nomatch z) (fun _ => ?_)
  refine ⟨_, rfl, a, _, rfl, .inr (SqT.of ha), rfl, _, rfl, ?_⟩
  refine ite2 (fun z => absurd (show false = true from z) Bool.false_ne_true) (fun _ => ?_)
  refine ⟨_, rfl, a, _, _, _, rfl, rfl, SqT.of ha, rfl, _, rfl, a, _, _, _, rfl, rfl, SqT.of ha, rfl, _, _, rfl, ?_⟩
  refine ⟨_, rfl, _, _, _, _, _, rfl, .ty _, .fTuple h1, kit_ty (r := true) (by decide +kernel), _, rfl, ?_⟩
  refine ite2 (fun z => nomatch z) (fun _ => ?_)
  refine ⟨_, rfl, pt, _, rfl, .inr (SqT.frz h1), _, _, rfl, rfl, _, rfl, ?_⟩
  refine ite2 (fun z => absurd (of_decide_eq_true z) (by omega)) (fun _ => ?_)
  refine ⟨_, rfl, (d : Int), 3, rfl, _, rfl, ?_⟩
  rw [decide_eq_true (show (0 : Int) ≤ (d : Int) by omega), decide_eq_true (show (d : Int) ≤ 3 by omega)]
  refine ite2 (fun z => nomatch z) (fun _ => ?_)
  -- all
  refine ⟨_, rfl, pt, rfl, ⟨_, SqT.frz h1⟩, fun D hD => ?_⟩
  have sD := same_new hD (.lst [])
  refine lc_tup (K := K) (a := pt) (xs := vs) (fun i H' => H' = upd H D (.lst ((List.replicate i true).map V.bl))) rfl ?_ ?_ ?_
  · rintro i H' _ rfl
    exact SqT.frz (same_new hD _ _ _ h1)
  · rintro i v H' hi rfl
    obtain ⟨ea, x, dd, rfl, e1, e2⟩ := h3.get i hi
    have lo := fo.lo _ (List.mem_of_getElem? e1)
    have hi' : i < vs.length := (List.getElem?_eq_some_iff.mp hi).1
    refine ⟨rfl, ?_⟩
    refine ⟨_, rfl, ea, x, dd, rfl, same_new hD _ _ _ e2, lo.1, lo.2.1, lo.2.2, _, upd_same, ?_, ?_⟩
    · rw [List.length_map, List.length_replicate]
      exact small1000 (by omega)
    · rw [upd_upd, List.replicate_succ', List.map_append]
      rfl
  rintro H' rfl
  have s1 := same_new hD (.lst ((List.replicate vs.length true).map V.bl))
  refine ⟨D, _, rfl, SqL.of upd_same, _, rfl, ?_⟩
  rw [allTrue]
  refine ite2 (fun z => nomatch z) (fun _ => ?_)
  generalize upd H D (.lst ((List.replicate vs.length true).map V.bl)) = H1 at s1 ⊢
  have h1' := s1 _ _ h1
  have h3' := h3.mono (TK.of s1)
  refine ⟨_, rfl, pt, rfl, ⟨_, SqT.frz h1'⟩, fun D2 hD2 => ?_⟩
  refine lc_tup (K := K) (a := pt) (xs := vs) (fun i H' => H' = upd H1 D2 (.lst (((ps.take i).map (·.1)).map V.int))) rfl ?_ ?_ ?_
  · rintro i H' _ rfl
    exact SqT.frz (same_new hD2 _ _ _ h1')
  · rintro i v H' hi rfl
    obtain ⟨ea, x, dd, rfl, e1, e2⟩ := h3'.get i hi
    have hi' : i < vs.length := (List.getElem?_eq_some_iff.mp hi).1
    refine ⟨rfl, ?_⟩
    refine ⟨_, rfl, ea, _, _, _, rfl, rfl, SqT.of (same_new hD2 _ _ _ e2), rfl, _, upd_same, ?_, ?_⟩
    · rw [List.length_map, List.length_map, List.length_take]
      exact small1000 (by omega)
    · rw [upd_upd, List.take_add_one, e1, List.map_append, List.map_append]
      rfl
  rintro H' rfl
  rw [hl, List.take_length]
  have s2 := same_new hD2 (.lst ((ps.map (·.1)).map V.int))
  refine ⟨D2, _, rfl, SqL.of upd_same, fo.nd, by rw [List.length_map]; omega, _, rfl, pt, _, rfl, .inr (SqT.frz (s2 _ _ h1')), rfl, ?_⟩
  have e9 : decide (V.int (((ps.map (·.1)).length : Nat) : Int) = V.int ((vs.length : Nat) : Int)) = true := decide_eq_true (by rw [List.length_map, hl])
  show Q (.bl (decide (V.int (((ps.map (·.1)).length : Nat) : Int) = V.int ((vs.length : Nat) : Int)))) _
  rw [e9]
  exact q _ (s1.trans s2)
end
end NR
set_option maxHeartbeats 4000000
namespace NR
open PySem PySem.Spec PyProof.Rows L2

theorem PgIns.get {H : Hp} : ∀ {vs fs} (_ : PgIns H vs fs) (i : Nat) {v : V}, vs[i]? = some v → ∃ (a : Addr) (pz bz : V) (f : Fn), v = .ref a ∧ fs[i]? = some f ∧ H a = some (.tup [pz, dV f.d, bz]) ∧ PtIn H pz f.ps ∧ TIn H bz f.e
  | _, _, .nil, i, _, h => by simp at h
  | _, _, .cons h1 h2 h3 _, 0, _, h => by
    cases h
    exact ⟨_, _, _, _, rfl, rfl, h1, h2, h3⟩
  | _, _, .cons _ _ _ r, i + 1, v, h => r.get i h
def spFaces (K : PySem.W.Frag) : Sp := fun vs H Q _ => ∃ (a : Addr) (us : List V) (prog : List Fn), vs = [.ref a] ∧ H a = some (.tup us) ∧ PgIns H us prog ∧ Good prog ∧ 1 ≤ prog.length ∧ ∀ (H' : Hp) (l : Addr) (xs : List V), Same H H' → H' l = some (.lst xs) → FIns H' xs (facesOf prog) → Q (.ref l) H'
abbrev sToldFaces : Stmt := top 45
theorem scsToldFaces : FnScope ["program", "told", "at", "function", "param"] ["program"] (defScope sToldFaces) := ⟨rfl, rfl, rfl, by decide +kernel, rfl, by decide +kernel, by decide +kernel⟩
section
variable {P : Program} {w : World} {K : PySem.W.Frag} {mg : Str → Option Value} {base : Heap} {f : Addr} {fd : FuncData}

theorem ok_faces (F : FnP K "told_faces" sToldFaces f fd) (O_has_face : Okf P w K mg base CX0 3 "has_face" ["function"] (spHasFace K)) {t0 : Tok} (m_MOST_FUNCTIONS : mg "MOST_FUNCTIONS" = some (.int 6 t0)) (z_len : mg "len" = none) (z_enumerate : mg "enumerate" = none) (z_tuple : mg "tuple" = none) : FnOk P w K mg base CX0 4 f fd ["program"] (spFaces K) := by
  have sc := scsToldFaces
  refine F.ok sc (fun vs H Q E h => ?_) (fun cdv A outer s H vs Q E hr h => ?_)
  · obtain ⟨a, us, prog, rfl, _⟩ := h
    rfl
  obtain ⟨a, us, prog, rfl, ha, hp, good, h1, q⟩ := h
  have hl := hp.len
  have few := good.few
  refine ⟨_, PSs.nox (pss_cons (ps_if (pt_cmpR op_eq (pe_callB (call_lenK K) rfl z_len PySem.boot_len (pa_cons (pv 0) pa_nil)) pe_int (nomark _)) (pss_one ps_never) pss_nil)
    (pss_cons (ps_set (i := 1) sc.nd rfl (.inl rfl) (pe_lst pa_nil))
    (pss_cons (ps_for PassesOwn.never rfl (pi_enumTK K rfl z_enumerate (pa_cons (pv 0) pa_nil)) (pg_tupK K (n := 2) rfl (pgs_cons (pg_name (i := 2) sc.nd rfl (.inl rfl)) (pgs_cons (pg_name (i := 3) sc.nd rfl (.inl rfl)) pgs_nil))) (pss_cons (ps_if (pt_cmpR op_ge (pv 2) (pe_gI rfl m_MOST_FUNCTIONS) (nomark _)) (pss_one ps_never) pss_nil)
    (pss_cons (ps_if (pt_not (pt_val (pe_c O_has_face hr rfl pass0 (pa_cons (pv 3) pa_nil)))) (pss_one ps_never) pss_nil)
    (pss_one (ps_expr (pe_bm PySem.F.plainAttrs_list PySem.F.slot_list_append PySem.F.type_list_append mt_append (pv 1) (pa_cons (pe_tup (pa_cons (pe_callTy (call_tupleK K) rfl z_tuple (by decide +kernel) (pa_cons (pe_lc (own := [("param", 4)]) (by rfl) sc.nd (pi_tupK K (pe_ix (ix_tupK K) (pv 3) pe_int (fun _ _ => rfl))) (blkOk_by (own := [("param", 4)]) (N := ["program", "told", "at", "function", "param"]) (sc := defScope sToldFaces) (by decide +kernel)) (fun _ _ _ _ _ => (pg_name (i := 4) sc.nd rfl (.inl rfl))) (fun _ _ _ _ _ => pts_nil) (fun _ _ _ _ _ => (pe_ix (ix_tupK K) (pv 4) pe_int (fun _ _ => rfl)))) pa_nil)) (pa_cons (pe_ix (ix_tupK K) (pv 3) pe_int (fun _ _ => rfl)) pa_nil))) pa_nil)))))))
    (pss_one (ps_ret (pv 1)))))), ?_⟩
  refine ⟨_, rfl, a, _, rfl, .inr (SqT.of ha), rfl, _, rfl, ?_⟩
  refine ite2 (fun z => ?_) (fun _ => ?_)
  · have z1 : V.int (us.length : Int) = V.int 0 := of_decide_eq_true z
    injection z1 with z1
    omega
  refine ⟨by show 0 ≤ sizeLine; decide, fun l hl0 => ?_⟩
  have s0 := same_new hl0 (.lst [])
  refine ⟨_, rfl, a, us, rfl, SqT.of (s0 _ _ ha), for_it (walk_enumT (K := K) (a := a) (xs := us)) (fun i σ H' => ∃ (xs : List V) (x1 x2 x3 : Option V), σ = [some (.ref a), some (.ref l), x1, x2, x3] ∧ Same H H' ∧ H' l = some (.lst xs) ∧ FIns H' xs (facesOf (prog.take i))) ⟨[], none, none, none, rfl, s0, upd_same, .nil⟩ ?_ ?_ ?_⟩
  · rintro i σ H' _ ⟨xs, x1, x2, x3, rfl, s1, _, _⟩
    exact SqT.of (s1 _ _ ha)
  · rintro i x σ H1 H2 hi ⟨xs, x1, x2, x3, rfl, s1, g1, g2⟩ ⟨T, y, z, rfl, hT, rfl, e1, e2⟩
    cases e1
    obtain ⟨fa, pz, bz, f0, rfl, e3, e4, e5, e6⟩ := hp.get i e2
    have sT := same_new hT (.tup [.int (i : Nat), .ref fa])
    have s2 := s1.trans sT
    obtain ⟨fo, _⟩ := good.fn i f0 e3
    have hxl := g2.len
    have hip : i < prog.length := by omega
    refine ⟨T, _, rfl, SqT.of upd_same, rfl, _, _, rfl, _, _, rfl, rfl, ?_⟩
    refine ⟨_, rfl, _, _, rfl, rfl, _, rfl, ?_⟩
    refine ite2 (fun z => absurd (of_decide_eq_true z) (by omega)) (fun _ => ?_)
    refine ⟨_, rfl, fa, pz, bz, f0.ps, f0.d, rfl, s2 _ _ e4, e5.mono (IK.of s2), fo, fun H3 s3 => ⟨_, rfl, ?_⟩⟩
    refine ite2 (fun z => nomatch z) (fun _ => ?_)
    have s4 := s2.trans s3
    obtain ⟨pt, o, vs, rfl, p1, p2, p3⟩ := (e5.mono (IK.of s4)).ex
    have hpl := p3.len
    have fw := fo.few
    have gl := s3 _ _ (sT _ _ g1)
    refine ⟨_, rfl, .inl ⟨rfl, _, SqL.of gl⟩, _, rfl, fa, _, _, _, rfl, rfl, SqT.of (s4 _ _ e4), rfl, pt, rfl, ⟨_, SqT.frz p1⟩, fun D hD => ?_⟩
    refine lc_tup (K := K) (a := pt) (xs := vs) (fun i H' => H' = upd H3 D (.lst ((f0.ps.take i).map fun p => dV p.2))) rfl ?_ ?_ ?_
    · rintro i H' _ rfl
      exact SqT.frz (same_new hD _ _ _ p1)
    · rintro j v H' hj rfl
      obtain ⟨ea, xx, dd, rfl, r1, r2⟩ := p3.get j hj
      have hj' : j < vs.length := (List.getElem?_eq_some_iff.mp hj).1
      refine ⟨rfl, ?_⟩
      refine ⟨_, rfl, ea, _, _, _, rfl, rfl, SqT.of (same_new hD _ _ _ r2), rfl, _, upd_same, ?_, ?_⟩
      · rw [List.length_map, List.length_take]
        exact small1000 (by omega)
      · rw [upd_upd, List.take_add_one, r1, List.map_append]
        rfl
    rintro H' rfl
    rw [hpl, List.take_length]
    have sD := same_new hD (.lst (f0.ps.map fun p => dV p.2))
    refine ⟨D, _, rfl, .inl ⟨SqL.of upd_same, fun t1 ht1 => ?_⟩⟩
    have s5 := same_new ht1 (.tup (f0.ps.map fun p => dV p.2))
    have s6 := s4.trans (sD.trans s5)
    refine ⟨_, rfl, fa, _, _, _, rfl, rfl, SqT.of (s6 _ _ e4), rfl, by show 2 ≤ sizeLine; decide, fun t2 ht2 => ?_⟩
    have s7 := same_new ht2 (.tup [.ref t1, dV f0.d])
    have s8 := (sD.trans s5).trans s7
    have gl8 := s8 _ _ gl
    have hxs : xs.length ≤ 6 := by
      rw [hxl]
      unfold facesOf
      rw [List.length_map, List.length_take]
      omega
    refine ⟨l, xs, _, rfl, rfl, gl8, small1000 (by omega), xs ++ [.ref t2], _, _, _, rfl, ?_, upd_same, ?_⟩
    · intro b o hb
      rw [upd_ne (ne_of_none hb hl0)]
      exact s8 _ _ (s4 _ _ hb)
    · have kk := TK.lst (ys := xs ++ [.ref t2]) gl8
      have e9 : facesOf (prog.take (i + 1)) = facesOf (prog.take i) ++ [(f0.ps.map (·.2), f0.d)] := by
        unfold facesOf
        rw [List.take_add_one, e3, List.map_append]
        rfl
      rw [e9]
      refine FIns.snoc (kk _ _ upd_same) (kk _ _ ?_) (((g2.mono (TK.of sT)).mono (TK.of s3)).mono ((TK.of s8).trans kk))
      rw [List.map_map]
      exact s7 _ _ upd_same
  · rintro σ H' ⟨xs, x1, x2, x3, rfl, s1, g1, g2⟩
    rw [List.take_of_length_le (by omega)] at g2
    exact ⟨_, rfl, q _ _ _ s1 g1 g2⟩
end
end NR
set_option maxHeartbeats 4000000
namespace NR
open PySem PySem.Spec PyProof.Rows L2

def fmF (nl dl : Addr) (b : V) : List (Str × V) := [("names", .ref nl), ("depths", .ref dl), ("body", b)]
theorem fmF_names {nl dl b} : (fmF nl dl b).lookup ("names" : Str) = some (.ref nl) := by rfl
theorem fmF_depths {nl dl b} : (fmF nl dl b).lookup ("depths" : Str) = some (.ref dl) := by rfl
theorem fmF_body {nl dl b} : (fmF nl dl b).lookup ("body" : Str) = some b := by rfl
structure FmC (K : PySem.W.Frag) (C : Addr) : Prop where
  cl : Cls K C
  names : NoAttr K C "names"
  depths : NoAttr K C "depths"
  body : NoAttr K C "body"
def spForm (C : Addr) : Sp := fun vs H Q _ => ∃ (a dx nl dl : Addr) (b : V), vs = [.ref a, .ref nl, .ref dl, b] ∧ H a = some (.ins C dx []) ∧ Q .non (upd H a (.ins C dx (fmF nl dl b)))
/-- a form in the heap -/
structure FmIn (H : Hp) (G : Addr → Prop) (CF CN : Addr) (fn : Int) (v : V) (ps : List (Int × Nat)) (nd : Nd) : Prop where
  ex : ∃ (a dx nl dl : Addr) (b : V), v = .ref a ∧ G a ∧ G nl ∧ G dl ∧ H a = some (.ins CF dx (fmF nl dl b)) ∧ H nl = some (.lst (ps.map fun p => .int p.1)) ∧ H dl = some (.lst (ps.map fun p => dV p.2)) ∧ NdIn H G CN fn b nd
theorem FmIn.keep {H H' : Hp} {G G' : Addr → Prop} {CF CN : Addr} {fn : Int} {v : V} {ps : List (Int × Nat)} {nd : Nd} (h : FmIn H G CF CN fn v ps nd) (g : ∀ b, G b → G' b) (s : ∀ b o, G b → H b = some o → H' b = some o) : FmIn H' G' CF CN fn v ps nd := by
  obtain ⟨a, dx, nl, dl, b, e, g1, g2, g3, h1, h2, h3, h4⟩ := h.ex
  exact ⟨a, dx, nl, dl, b, e, g _ g1, g _ g2, g _ g3, s _ _ g1 h1, s _ _ g2 h2, s _ _ g3 h3, h4.keep g s⟩
abbrev sFormInit : Stmt := inClass (top 41) 0
theorem scsFormInit : FnScope ["self", "names", "depths", "body"] ["self", "names", "depths", "body"] (defScope sFormInit) := ⟨rfl, rfl, rfl, by decide +kernel, rfl, by decide +kernel, by decide +kernel⟩
section
variable {P : Program} {w : World} {K : PySem.W.Frag} {mg : Str → Option Value} {base : Heap} {f : Addr} {fd : FuncData}

theorem ok_form {C : Addr} (F : FnM K "__init__" "Form.__init__" sFormInit f fd) (N : FmC K C) : FnOk P w K mg base CX0 1 f fd ["self", "names", "depths", "body"] (spForm C) := by
  have sc := scsFormInit
  refine F.ok sc (fun vs H Q E h => ?_) (fun cdv A outer s H vs Q E hr h => ?_)
  · obtain ⟨a, dx, nl, dl, b, rfl, _⟩ := h
    rfl
  obtain ⟨a, dx, nl, dl, b, rfl, ha, q⟩ := h
  refine ⟨_, (pss_cons (ps_fldK K (pv 0) (pv 1) rfl)
    (pss_cons (ps_fldK K (pv 0) (pv 2) rfl)
    (pss_one (ps_fldK K (pv 0) (pv 3) rfl)))), ?_⟩
  refine ⟨_, rfl, _, rfl, a, C, dx, _, rfl, ha, N.cl, N.names, by decide, ?_⟩
  refine ⟨_, rfl, _, rfl, a, C, dx, _, rfl, upd_same, N.cl, N.depths, by show 1 < 1000; decide, ?_⟩
  rw [upd_upd]
  refine ⟨_, rfl, _, rfl, a, C, dx, _, rfl, upd_same, N.cl, N.body, by show 2 < 1000; decide, ?_⟩
  rw [upd_upd]
  exact q
end

def spFormOf (K : PySem.W.Frag) (CF CN : Addr) : Sp := fun vs H Q _ => ∃ (a l : Addr) (i : Nat) (pz bz : V) (f : Fn) (xs : List V) (fs : List (List Nat × Nat)) (nd : Nd), vs = [.ref a, .int (i : Int), .ref l] ∧ H a = some (.tup [pz, dV f.d, bz]) ∧ PtIn H pz f.ps ∧ TIn H bz f.e ∧ FaceOk f.ps f.d ∧ H l = some (.lst xs) ∧ FIns H xs fs ∧
  An (fs.take (i + 1)) (envOf f.ps) 0 f.e nd ∧ nd.d = f.d ∧ f.e.size ≤ 60 ∧ f.e.hgt ≤ 13 ∧ f.e.selfs i ≤ 1 ∧ ∀ (H' : Hp) (v : V), Same H H' → FmIn H' (New H) CF CN i v f.ps nd → Q v H'
theorem envOf_some {ps : List (Int × Nat)} {x : Int} {d : Nat} (h : envOf ps x = some d) : (x, d) ∈ ps := by
  unfold envOf at h
  cases e : ps.find? fun p => decide (p.1 = x) with
  | none =>
    rw [e] at h
    cases h
  | some p =>
    rw [e] at h
    cases h
    have h1 := List.mem_of_find?_eq_some e
    have h2 : p.1 = x := by simpa using List.find?_some e
    rw [← h2]
    exact h1
abbrev sFormOf : Stmt := top 46
theorem scsFormOf : FnScope ["function", "at", "told", "params", "depth", "body", "look", "node", "param"] ["function", "at", "told"] (defScope sFormOf) := ⟨rfl, rfl, rfl, by decide +kernel, rfl, by decide +kernel, by decide +kernel⟩
section
variable {P : Program} {w : World} {K : PySem.W.Frag} {mg : Str → Option Value} {base : Heap} {f : Addr} {fd : FuncData}

theorem ok_formof {k : Nat} {CL CF CN : Addr} (F : FnP K "form_of" sFormOf f fd) (NL : LkC K CL) (NF : FmC K CF) (ND : NdC K CN) (C_Look : Okc P w K mg base CX0 k "Look" CL ["self", "known", "function"] (spLook CL)) (C_Form : Okc P w K mg base CX0 k "Form" CF ["self", "names", "depths", "body"] (spForm CF))
    (M_node_of : Okm P w K mg base CX0 (k + 1) CL "node_of" ["self", "expression", "names", "within"] (spNodeOf CL CN 13)) (M_refuse_if : Okm P w K mg base CX0 (k + 1) CL "refuse_if" ["self", "wrong", "place", "word"] spRefuse) (z_dict : mg "dict" = none) : FnOk P w K mg base CX0 (k + 2) f fd ["function", "at", "told"] (spFormOf K CF CN) := by
  have sc := scsFormOf
  refine F.ok sc (fun vs H Q E h => ?_) (fun cdv A outer s H vs Q E hr h => ?_)
  · obtain ⟨a, l, i, pz, bz, f0, xs, fs, nd, rfl, _⟩ := h
    rfl
  have hu := hu_of hr
  obtain ⟨a, l, i, pz, bz, f0, xs, fs, nd, rfl, ha, hp, ti, fo, hl, hf, an, hd, hz, hh, hs, q⟩ := h
  obtain ⟨pt, o, vs, rfl, p1, p2, p3⟩ := hp.ex
  have fw := fo.few
  have hpl := p3.len
  refine ⟨_, (pss_cons (ps_asg (pv 0) (pg_tupK K (n := 3) rfl (pgs_cons (pg_name (i := 3) sc.nd rfl (.inl rfl)) (pgs_cons (pg_name (i := 4) sc.nd rfl (.inl rfl)) (pgs_cons (pg_name (i := 5) sc.nd rfl (.inl rfl)) pgs_nil)))))
    (pss_cons (ps_set (i := 6) sc.nd rfl (.inl rfl) (pe_mk C_Look hr rfl pass0 (pa_cons (pv 2) (pa_cons (pv 1) pa_nil))))
    (pss_cons (ps_set (i := 7) sc.nd rfl (.inl rfl) (pe_m M_node_of (pv 6) hr pass0 (pa_cons (pv 5) (pa_cons (pe_callTy (call_dictT K rfl) rfl z_dict (by decide +kernel) (pa_cons (pv 3) pa_nil)) (pa_cons pe_int pa_nil)))))
    (pss_cons (ps_expr (pe_m M_refuse_if (pv 6) hr pass0 (pa_cons (pe_cmpR op_ne (pe_fldK K (pv 7) rfl) (pv 4) (nomark _)) (pa_cons pe_int (pa_cons pe_str pa_nil)))))
    (pss_one (ps_ret (pe_mk C_Form hr rfl pass0 (pa_cons (pe_lc (own := [("param", 8)]) (by rfl) sc.nd (pi_tupK K (pv 3)) (blkOk_by (own := [("param", 8)]) (N := ["function", "at", "told", "params", "depth", "body", "look", "node", "param"]) (sc := defScope sFormOf) (by decide +kernel)) (fun _ _ _ _ _ => (pg_name (i := 8) sc.nd rfl (.inl rfl))) (fun _ _ _ _ _ => pts_nil) (fun _ _ _ _ _ => (pe_ix (ix_tupK K) (pv 8) pe_int (fun _ _ => rfl)))) (pa_cons (pe_lc (own := [("param", 8)]) (by rfl) sc.nd (pi_tupK K (pv 3)) (blkOk_by (own := [("param", 8)]) (N := ["function", "at", "told", "params", "depth", "body", "look", "node", "param"]) (sc := defScope sFormOf) (by decide +kernel)) (fun _ _ _ _ _ => (pg_name (i := 8) sc.nd rfl (.inl rfl))) (fun _ _ _ _ _ => pts_nil) (fun _ _ _ _ _ => (pe_ix (ix_tupK K) (pv 8) pe_int (fun _ _ => rfl)))) (pa_cons (pv 7) pa_nil)))))))))), ?_⟩
  refine ⟨_, rfl, a, _, rfl, SqT.of ha, rfl, _, _, rfl, _, _, rfl, _, _, rfl, rfl, ?_⟩
  refine ⟨_, rfl, _, rfl, fun lo ldx nlo nldx nne => ⟨lo, ldx, l, i, rfl, upd_same, rfl, ?_⟩⟩
  rw [upd_upd]
  generalize eH1 : upd (upd H ldx (.own lo)) lo (.ins CL ldx (lkF l i 0 false)) = H1
  have s1 : Same H H1 := fun b' o' hb => by
    rw [← eH1, upd_ne (ne_of_none hb nlo), upd_ne (ne_of_none hb nldx)]
    exact hb
  have g1 : H1 lo = some (.ins CL ldx (lkF l i 0 false)) := by rw [← eH1, upd_same]
  have L1 : LkIn H1 CL lo ldx l i 0 false fs := ⟨g1, xs, s1 _ _ hl, hf.mono (TK.of s1)⟩
  obtain ⟨as, eas, prd⟩ := (p3.mono (TK.of s1)).paired (K := K)
  refine ⟨_, rfl, lo, ldx, _, rfl, g1, lkF_no (by decide +kernel), _, rfl, _, rfl, pt, o, as, _, rfl, by rw [← eas]; exact s1 _ _ p1, p2, prd, fun m hm => ?_⟩
  rw [show mergeK [] (f0.ps.map kvOf) = f0.ps.map kvOf from mergeK_kn (acc := []) fo.nd]
  have s2 := same_new hm (.dK (f0.ps.map kvOf))
  have em : upd H1 m (.dK (f0.ps.map kvOf)) m = some (.dK (f0.ps.map kvOf)) := upd_same
  generalize upd H1 m (.dK (f0.ps.map kvOf)) = H2 at s2 em ⊢
  have hnm : Nm H2 m (envOf f0.ps) := ⟨f0.ps, em, fo.nd, fun p hp => ⟨(fo.lo p hp).1, (fo.lo p hp).2.1⟩, fun x d h => envOf_some h⟩
  refine ⟨lo, ldx, l, m, bz, i, 0, false, 0, fs, envOf f0.ps, f0.e, nd, rfl, L1.same s2, (ti.mono (TK.of s1)).mono (TK.of s2), hnm, an, hh, by omega, by omega, by simpa using hs, fun H3 v3 s3 g3 nd3 => ?_⟩
  have s12 := s1.trans s2
  have n20 : ∀ b, New H2 b → New H b := fun b h => Same.new s12 h
  have sN : Same H H3 := fun b' o' hb => s3 _ _ (ne_of_none hb nlo) (s12 _ _ hb)
  obtain ⟨na, nadx, nafs, rfl, i1, i2⟩ : ∃ ea edx efs, v3 = .ref ea ∧ H3 ea = some (.ins CN edx efs) ∧ efs.lookup ("depth" : Str) = some (.int (nd.d : Int)) := by
    cases nd3 with
    | mk _ _ i1 i2 i3 => exact ⟨_, _, _, rfl, i1, ndF_depth⟩
  have c5 : (!decide (V.int (nd.d : Int) = dV f0.d)) = false := by rw [hd, show decide (V.int (f0.d : Int) = dV f0.d) = true from decide_eq_true rfl]; rfl
  refine ⟨_, rfl, lo, ldx, _, rfl, g3, lkF_no (by decide +kernel), _, rfl, na, CN, nadx, _, _, rfl, i1, ND.cl, ND.depth, i2, _, rfl, rfl, .ref lo, .int 0, .str "depth", by rw [c5]; rfl, ?_⟩
  -- names
  have p1' := sN _ _ p1
  have p3' := p3.mono (TK.of sN)
  refine ⟨_, rfl, pt, rfl, ⟨_, SqT.frz p1'⟩, fun D hD => ?_⟩
  refine lc_tup (K := K) (a := pt) (xs := vs) (fun i H' => H' = upd H3 D (.lst ((f0.ps.take i).map fun p => .int p.1))) rfl ?_ ?_ ?_
  · rintro i H' _ rfl
    exact SqT.frz (same_new hD _ _ _ p1')
  · rintro j v H' hj rfl
    obtain ⟨ea, xx, dd, rfl, r1, r2⟩ := p3'.get j hj
    have hj' : j < vs.length := (List.getElem?_eq_some_iff.mp hj).1
    refine ⟨rfl, ?_⟩
    refine ⟨_, rfl, ea, _, _, _, rfl, rfl, SqT.of (same_new hD _ _ _ r2), rfl, _, upd_same, ?_, ?_⟩
    · rw [List.length_map, List.length_take]
      exact small1000 (by omega)
    · rw [upd_upd, List.take_add_one, r1, List.map_append]
      rfl
  rintro H' rfl
  rw [hpl, List.take_length]
  have sD := same_new hD (.lst (f0.ps.map fun p => .int p.1))
  have eD : upd H3 D (.lst (f0.ps.map fun p => .int p.1)) D = some (.lst (f0.ps.map fun p => .int p.1)) := upd_same
  generalize upd H3 D (.lst (f0.ps.map fun p => .int p.1)) = H4 at sD eD ⊢
  have p1'' := sD _ _ p1'
  have p3'' := p3'.mono (TK.of sD)
  refine ⟨_, rfl, pt, rfl, ⟨_, SqT.frz p1''⟩, fun D2 hD2 => ?_⟩
  refine lc_tup (K := K) (a := pt) (xs := vs) (fun i H' => H' = upd H4 D2 (.lst ((f0.ps.take i).map fun p => dV p.2))) rfl ?_ ?_ ?_
  · rintro i H' _ rfl
    exact SqT.frz (same_new hD2 _ _ _ p1'')
  · rintro j v H' hj rfl
    obtain ⟨ea, xx, dd, rfl, r1, r2⟩ := p3''.get j hj
    have hj' : j < vs.length := (List.getElem?_eq_some_iff.mp hj).1
    refine ⟨rfl, ?_⟩
    refine ⟨_, rfl, ea, _, _, _, rfl, rfl, SqT.of (same_new hD2 _ _ _ r2), rfl, _, upd_same, ?_, ?_⟩
    · rw [List.length_map, List.length_take]
      exact small1000 (by omega)
    · rw [upd_upd, List.take_add_one, r1, List.map_append]
      rfl
  rintro H' rfl
  rw [hpl, List.take_length]
  have sD2 := same_new hD2 (.lst (f0.ps.map fun p => dV p.2))
  have eD2 : upd H4 D2 (.lst (f0.ps.map fun p => dV p.2)) D2 = some (.lst (f0.ps.map fun p => dV p.2)) := upd_same
  generalize upd H4 D2 (.lst (f0.ps.map fun p => dV p.2)) = H5 at sD2 eD2 ⊢
  refine ⟨_, rfl, fun fo' fdx nfo nfdx nfe => ⟨fo', fdx, D, D2, .ref na, rfl, upd_same, rfl, ?_⟩⟩
  rw [upd_upd]
  generalize eH6 : upd (upd H5 fdx (.own fo')) fo' (.ins CF fdx (fmF D D2 (.ref na))) = H6
  have s6 : Same H5 H6 := fun b' o' hb => by
    rw [← eH6, upd_ne (ne_of_none hb nfo), upd_ne (ne_of_none hb nfdx)]
    exact hb
  have s36 := (sD.trans sD2).trans s6
  have n30 : ∀ b, New H3 b → New H b := fun b h => Same.new sN h
  refine q _ _ (sN.trans s36) ⟨fo', fdx, D, D2, .ref na, rfl, n30 _ (Same.new (sD.trans sD2) nfo), n30 _ hD, n30 _ (Same.new sD hD2), by rw [← eH6, upd_same], s6 _ _ (sD2 _ _ eD), s6 _ _ eD2, (nd3.keep n20 fun _ _ _ h => h).same s36⟩
end
end NR
set_option maxHeartbeats 4000000
namespace NR
open PySem PySem.Spec PyProof.Rows L2 TL
/-! ### programs as texts -/
def iT (n : Int) : Str := Str.ofString (toString n)
mutual
def Ex.words : Ex → List Str
  | .node w n ps => ("(" : Str) :: w.str :: ((if w.numd = true then [iT n] else []) ++ (wordss ps ++ [(")" : Str)]))
def wordss : List Ex → List Str
  | [] => []
  | e :: es => e.words ++ wordss es
end
def psWords : List (Int × Nat) → List Str
  | [] => []
  | p :: ps => iT p.1 :: iT p.2 :: psWords ps
def Fn.words (f : Fn) : List Str := iT f.d :: iT f.ps.length :: (psWords f.ps ++ f.e.words)
def Fn.row (f : Fn) : Str := Txt.join (" " : Str) f.words
def progText (prog : List Fn) : Str := Txt.join ("\n" : Str) (prog.map Fn.row)
theorem wordss_append : ∀ (a b : List Ex), wordss (a ++ b) = wordss a ++ wordss b
  | [], _ => rfl
  | e :: a, b => by
    simp only [List.cons_append, wordss, wordss_append a b, List.append_assoc]
theorem psWords_append : ∀ (a b : List (Int × Nat)), psWords (a ++ b) = psWords a ++ psWords b
  | [], _ => rfl
  | p :: a, b => by
    simp only [List.cons_append, psWords, psWords_append a b]
theorem psWords_len : ∀ (a : List (Int × Nat)), (psWords a).length = 2 * a.length
  | [] => rfl
  | p :: a => by
    simp only [psWords, List.length_cons, psWords_len a]
    omega
mutual
theorem Ex.words_len : ∀ (e : Ex), e.words.length ≤ 4 * e.size
  | .node w n ps => by
    have := wordss_len ps
    simp only [Ex.words, Ex.size, List.length_cons, List.length_append, List.length_nil]
    split <;> simp only [List.length_cons, List.length_nil] <;> omega
theorem wordss_len : ∀ (es : List Ex), (wordss es).length ≤ 4 * sizes es
  | [] => Nat.le_refl _
  | e :: es => by
    have h1 := e.words_len
    have h2 := wordss_len es
    simp only [wordss, sizes, List.length_append]
    omega
end
/-- a word as it may stand: short, without blanks -/
structure WdOk (s : Str) : Prop where
  len : s.length ≤ 5
  nb : 32 ∉ tl s
  nl : 10 ∉ tl s
theorem len_tl' (s : Str) : s.length = (tl s).length := len_tl s
/-- a number as it may stand -/
theorem iT_tl {n : Int} (h : 0 ≤ n) : tl (iT n) = numL n.toNat := by
  obtain ⟨m, rfl⟩ := Int.eq_ofNat_of_zero_le h
  exact tl_num m
theorem iT_len {n : Int} (h : 0 ≤ n) (h1 : n ≤ 10006) : (iT n).length ≤ 5 := by
  rw [len_tl', iT_tl h]
  exact numL_len (by decide) (by have : (10 : Nat) ^ 5 = 100000 := by decide
                                 omega)
theorem iT_ok {n : Int} (h : 0 ≤ n) (h1 : n ≤ 10006) : WdOk (iT n) :=
  ⟨iT_len h h1, by rw [iT_tl h]; exact numL_free (.inl (by decide)), by rw [iT_tl h]; exact numL_free (.inl (by decide))⟩
theorem iT_int {n : Int} (h : 0 ≤ n) (h1 : n ≤ 10006) : intText? (iT n) = some n := by
  obtain ⟨m, rfl⟩ := Int.eq_ofNat_of_zero_le h
  exact int_num (by have := numL_len (n := m) (k := 5) (by decide) (by have : (10 : Nat) ^ 5 = 100000 := by decide
                                                                       omega)
                    omega)
theorem digit_ok : ∀ c, 48 ≤ c → c ≤ 57 → Unicode.isDigit c = true := by
  intro c h1 h2
  have : c = 48 ∨ c = 49 ∨ c = 50 ∨ c = 51 ∨ c = 52 ∨ c = 53 ∨ c = 54 ∨ c = 55 ∨ c = 56 ∨ c = 57 := by omega
  rcases this with rfl | rfl | rfl | rfl | rfl | rfl | rfl | rfl | rfl | rfl <;> decide +kernel
theorem iT_digit {n : Int} (h : 0 ≤ n) : Txt.isdigit (iT n) = true := by
  unfold Txt.isdigit
  rw [Bool.and_eq_true_iff]
  have e := iT_tl h
  refine ⟨decide_eq_true ?_, ?_⟩
  · rw [len_tl', e]
    exact List.length_pos_iff.mpr (numL_ne _)
  · rw [Array.all_eq_true']
    intro c hc
    have hc' : c ∈ numL n.toNat := by
      rw [← e]
      exact Array.mem_toList_iff.mpr hc
    have := numL_digits _ c hc'
    exact digit_ok c this.1 this.2
theorem numL_head {n : Nat} (h : 0 < n) : ∃ c r, numL n = c :: r ∧ c ≠ 48 := by
  induction n using Nat.strongRecOn with
  | _ n ih =>
    by_cases q : n < 10
    · exact ⟨48 + n, [], numL_lt q, by omega⟩
    · obtain ⟨c, r, e, hc⟩ := ih (n / 10) (by omega) (by omega)
      exact ⟨c, r ++ [48 + n % 10], by rw [numL_step (by omega), e]; rfl, hc⟩
theorem W.str_ok (w : W) : WdOk w.str := by
  have : ∀ w : W, decide (w.str.length ≤ 5) = true ∧ (tl w.str).contains 32 = false ∧ (tl w.str).contains 10 = false := by
    intro w
    cases w <;> decide +kernel
  obtain ⟨h1, h2, h3⟩ := this w
  exact ⟨of_decide_eq_true h1, fun h => (by rw [List.contains_iff_mem.mpr h] at h2; cases h2), fun h => (by rw [List.contains_iff_mem.mpr h] at h3; cases h3)⟩
mutual
def Ex.nok : Ex → Prop
  | .node w n ps => (w.numd = true → 0 ≤ n ∧ n ≤ 10006) ∧ noksE ps
def noksE : List Ex → Prop
  | [] => True
  | e :: es => e.nok ∧ noksE es
end
mutual
def Ex.sh : Ex → Prop
  | .node w n ps => (ShOk w n ps.length ∧ (w.lay = 3 → n = -1) ∧ (w.lay = 0 → ps = [])) ∧ shsE ps
def shsE : List Ex → Prop
  | [] => True
  | e :: es => e.sh ∧ shsE es
end
theorem last_le (w : W) : lastOf w ≤ 10006 := by cases w <;> decide
mutual
theorem Ex.sh_nok : ∀ (e : Ex), e.sh → e.nok
  | .node w n ps, h => ⟨fun q => ⟨(h.1.1.n0 q).1, Int.le_trans (h.1.1.n0 q).2 (last_le w)⟩, shs_nok ps h.2⟩
theorem shs_nok : ∀ (es : List Ex), shsE es → noksE es
  | [], _ => trivial
  | e :: es, h => ⟨e.sh_nok h.1, shs_nok es h.2⟩
end
theorem par_ok (b : Bool) : WdOk (if b = true then ("(" : Str) else (")" : Str)) := by
  cases b
  · exact ⟨by decide, by decide +kernel, by decide +kernel⟩
  · exact ⟨by decide, by decide +kernel, by decide +kernel⟩
mutual
theorem Ex.words_ok : ∀ (e : Ex), e.nok → ∀ s ∈ e.words, WdOk s
  | .node w n ps, h, s, hs => by
    simp only [Ex.words] at hs
    rcases List.mem_cons.mp hs with rfl | hs
    · exact par_ok true
    rcases List.mem_cons.mp hs with rfl | hs
    · exact w.str_ok
    rcases List.mem_append.mp hs with hs | hs
    · split at hs
      · rename_i q
        rw [List.mem_singleton.mp hs]
        exact iT_ok (h.1 q).1 (h.1 q).2
      · cases hs
    rcases List.mem_append.mp hs with hs | hs
    · exact wordss_ok ps h.2 s hs
    · rw [List.mem_singleton.mp hs]
      exact par_ok false
theorem wordss_ok : ∀ (es : List Ex), noksE es → ∀ s ∈ wordss es, WdOk s
  | [], _, s, hs => by cases hs
  | e :: es, h, s, hs => by
    rcases List.mem_append.mp hs with hs | hs
    · exact e.words_ok h.1 s hs
    · exact wordss_ok es h.2 s hs
end
theorem An.shI {fs : List (List Nat × Nat)} {ρ : Env1} {p : Nat} {w : W} {n : Int} {ps : List Ex} {nd : Nd} (h : An fs ρ p (.node w n ps) nd) : ShOk w n ps.length ∧ (w.lay = 3 → n = -1) ∧ (w.lay = 0 → ps = []) := by
  obtain ⟨x, k, qs, nps, d, e, _, I⟩ := h.inv
  cases e
  refine ⟨I.sh, ?_, ?_⟩
  · cases h with
    | num _ _ => intro z; cases z
    | name _ _ _ _ => intro z; cases z
    | bind hw _ _ _ _ _ _ => intro z; rw [hw] at z; cases z
    | call _ _ _ _ => intro z; cases z
    | bare _ _ _ => intro _; rfl
  · cases h with
    | num _ _ => intro _; rfl
    | name _ _ _ _ => intro _; rfl
    | bind hw _ _ _ _ _ _ => intro z; rw [hw] at z; cases z
    | call _ _ _ _ => intro z; cases z
    | bare hw _ _ => intro z; rw [hw] at z; cases z
mutual
theorem An.sh {fs : List (List Nat × Nat)} : ∀ {ρ : Env1} {p : Nat} {e : Ex} {nd : Nd}, An fs ρ p e nd → e.sh
  | _, _, _, _, h@(.num _ _) => ⟨(An.shI h), trivial⟩
  | _, _, _, _, h@(.name _ _ _ _) => ⟨(An.shI h), trivial⟩
  | _, _, _, _, h@(.bind _ _ _ ha _ hb _) => ⟨(An.shI h), ha.sh, hb.sh, trivial⟩
  | _, _, _, _, h@(.call _ _ hp _) => ⟨(An.shI h), hp.sh⟩
  | _, _, _, _, h@(.bare _ hp _) => ⟨(An.shI h), hp.sh⟩
theorem Ans.sh {fs : List (List Nat × Nat)} : ∀ {ρ : Env1} {p : Nat} {es : List Ex} {nds : List Nd}, Ans fs ρ p es nds → shsE es
  | _, _, _, _, .nil => trivial
  | _, _, _, _, .cons ha hr => ⟨ha.sh, hr.sh⟩
end
theorem psWords_ok : ∀ (ps : List (Int × Nat)), (∀ p ∈ ps, 0 ≤ p.1 ∧ p.1 ≤ 19 ∧ p.2 ≤ 3) → ∀ s ∈ psWords ps, WdOk s
  | [], _, s, hs => by cases hs
  | p :: ps, h, s, hs => by
    have h0 := h p (List.mem_cons_self ..)
    rcases List.mem_cons.mp hs with rfl | hs
    · exact iT_ok h0.1 (by omega)
    rcases List.mem_cons.mp hs with rfl | hs
    · exact iT_ok (by omega) (by omega)
    · exact psWords_ok ps (fun p hp => h p (List.mem_cons_of_mem _ hp)) s hs
/-- a function that may be written -/
structure FnT (f : Fn) : Prop where
  fo : FaceOk f.ps f.d
  sh : f.e.sh
  sz : f.e.size ≤ 60
  hg : f.e.hgt ≤ 13
theorem Fn.words_ok {f : Fn} (h : FnT f) : ∀ s ∈ f.words, WdOk s := by
  intro s hs
  have h1 := h.fo.hd
  have h2 := h.fo.few
  unfold Fn.words at hs
  rcases List.mem_cons.mp hs with rfl | hs
  · exact iT_ok (by omega) (by omega)
  rcases List.mem_cons.mp hs with rfl | hs
  · exact iT_ok (by omega) (by omega)
  rcases List.mem_append.mp hs with hs | hs
  · exact psWords_ok _ h.fo.lo s hs
  · exact Ex.words_ok _ (f.e.sh_nok h.sh) s hs
theorem Fn.words_len {f : Fn} (h : FnT f) : f.words.length ≤ 250 := by
  have h1 := psWords_len f.ps
  have h2 := f.e.words_len
  have h3 := h.sz
  have h4 := h.fo.few
  simp only [Fn.words, List.length_cons, List.length_append]
  omega
theorem joinL_mem {s c : Nat} : ∀ {ps : List (List Nat)}, c ∈ joinL [s] ps → c = s ∨ ∃ p ∈ ps, c ∈ p
  | [], h => by cases h
  | [p], h => .inr ⟨p, List.mem_singleton.mpr rfl, h⟩
  | p :: q :: r, h => by
    have h' : c ∈ p ++ ([s] ++ joinL [s] (q :: r)) := h
    rcases List.mem_append.mp h' with h | h
    · exact .inr ⟨p, List.mem_cons_self .., h⟩
    rcases List.mem_append.mp h with h | h
    · exact .inl (List.mem_singleton.mp h)
    · rcases joinL_mem h with h | ⟨x, hx, h⟩
      · exact .inl h
      · exact .inr ⟨x, List.mem_cons_of_mem _ hx, h⟩
theorem joinL_len {s m : Nat} : ∀ {ps : List (List Nat)}, (∀ p ∈ ps, p.length ≤ m) → (joinL [s] ps).length ≤ ps.length * (m + 1)
  | [], h => Nat.zero_le _
  | [p], h => by
    have := h p (List.mem_singleton.mpr rfl)
    show p.length ≤ 1 * (m + 1)
    omega
  | p :: q :: r, h => by
    have h1 := h p (List.mem_cons_self ..)
    have h2 := joinL_len (s := s) (ps := q :: r) fun x hx => h x (List.mem_cons_of_mem _ hx)
    show (p ++ ([s] ++ joinL [s] (q :: r))).length ≤ _
    rw [List.length_append, List.length_append, List.length_cons, List.length_nil, List.length_cons (a := p), Nat.add_mul]
    omega
theorem tl_blank : tl (" " : Str) = [32] := by decide +kernel
theorem tl_nl : tl ("\n" : Str) = [10] := by decide +kernel
theorem Fn.row_tl (f : Fn) : tl f.row = joinL [32] (f.words.map tl) := by
  unfold Fn.row
  rw [join_eq, tl_join, tl_blank]
theorem Fn.row_len {f : Fn} (h : FnT f) : f.row.length ≤ 1500 := by
  rw [len_tl', Fn.row_tl]
  have h1 := joinL_len (s := 32) (m := 5) (ps := f.words.map tl) fun p hp => by
    obtain ⟨s, hs, rfl⟩ := List.mem_map.mp hp
    rw [← len_tl']
    exact (Fn.words_ok h s hs).len
  have h2 := Fn.words_len h
  rw [List.length_map] at h1
  omega
theorem Fn.row_nl {f : Fn} (h : FnT f) : 10 ∉ tl f.row := by
  rw [Fn.row_tl]
  intro hm
  rcases joinL_mem hm with h0 | ⟨p, hp, h0⟩
  · cases h0
  · obtain ⟨s, hs, rfl⟩ := List.mem_map.mp hp
    exact (Fn.words_ok h s hs).nl h0
/-- a row's words come back -/
theorem Fn.row_split {f : Fn} (h : FnT f) : Txt.split f.row (" " : Str) = f.words :=
  split_join tl_blank (by decide +kernel) (by unfold Fn.words; simp) fun p hp => (Fn.words_ok h p hp).nb
theorem prog_split {prog : List Fn} (h : ∀ f ∈ prog, FnT f) (hne : prog ≠ []) : Txt.split (progText prog) ("\n" : Str) = prog.map Fn.row :=
  split_join tl_nl (by decide +kernel) (fun e => hne (List.map_eq_nil_iff.mp e)) fun p hp => by
    obtain ⟨f, hf, rfl⟩ := List.mem_map.mp hp
    exact Fn.row_nl (h f hf)
theorem prog_len {prog : List Fn} (h : ∀ f ∈ prog, FnT f) (h6 : prog.length ≤ 6) : (progText prog).length ≤ 10000 := by
  unfold progText
  rw [len_tl', join_eq, tl_join, tl_nl]
  have h1 := joinL_len (s := 10) (m := 1500) (ps := (prog.map Fn.row).map tl) fun p hp => by
    obtain ⟨s, hs, rfl⟩ := List.mem_map.mp hp
    obtain ⟨f, hf, rfl⟩ := List.mem_map.mp hs
    rw [← len_tl']
    exact Fn.row_len (h f hf)
  rw [List.length_map, List.length_map] at h1
  omega
theorem Good.fnT {prog : List Fn} (g : Good prog) : ∀ f ∈ prog, FnT f := fun f hf => by
  obtain ⟨i, hi, e⟩ := List.mem_iff_getElem.mp hf
  have hfi : prog[i]? = some f := by rw [List.getElem?_eq_getElem hi, e]
  obtain ⟨h1, h2, h3, h4, h5⟩ := g.fn i f hfi
  obtain ⟨nd, an, _⟩ := h2.an 0
  exact ⟨h1, an.sh, h4, h5⟩
theorem sumlen {m : Nat} : ∀ (l : List Str), (∀ s ∈ l, s.length ≤ m) → (l.map (·.length)).sum ≤ l.length * m
  | [], _ => Nat.zero_le _
  | s :: l, h => by
    have h1 := h s (List.mem_cons_self ..)
    have h2 := sumlen l fun x hx => h x (List.mem_cons_of_mem _ hx)
    simp only [List.map_cons, List.sum_cons, List.length_cons, Nat.add_mul]
    omega
end NR
set_option maxHeartbeats 4000000
namespace NR
open PySem PySem.Spec PyProof.Rows L2
open TL

def spNumeral : Sp := fun vs H Q _ => ∃ (n : Int), vs = [.str (iT n)] ∧ 0 ≤ n ∧ n ≤ 10006 ∧ Q (.bl true) H
abbrev sIsNumeral : Stmt := top 50
theorem scsIsNumeral : FnScope ["word"] ["word"] (defScope sIsNumeral) := ⟨rfl, rfl, rfl, by decide +kernel, rfl, by decide +kernel, by decide +kernel⟩
section
variable {P : Program} {w : World} {K : PySem.W.Frag} {mg : Str → Option Value} {base : Heap} {f : Addr} {fd : FuncData}

theorem ok_numeralw (F : FnP K "is_numeral" sIsNumeral f fd) {t0 : Tok} (m_MOST_FIGURES : mg "MOST_FIGURES" = some (.int 5 t0)) (z_len : mg "len" = none) : FnOk P w K mg base CX0 1 f fd ["word"] spNumeral := by
  have sc := scsIsNumeral
  refine F.ok sc (fun vs H Q E h => ?_) (fun cdv A outer s H vs Q E hr h => ?_)
  · obtain ⟨n, rfl, _⟩ := h
    rfl
  obtain ⟨n, rfl, h0, h1, q⟩ := h
  have hd := iT_digit h0
  have hl := iT_len h0 h1
  have big : 1000 ≤ sizeLine := by decide
  refine ⟨_, (pss_cons (ps_if (PW.pt (pw_or (pt_not (pt_val (L2.pe_m0 PySem.F.slot_str_isdigit PySem.F.type_str_isdigit mt_isdigit (pv 0)))) (pw_or1 (pt_cmpR op_gt (pe_callB call_len_str rfl z_len PySem.boot_len (pa_cons (pv 0) pa_nil)) (pe_gI rfl m_MOST_FIGURES) (nomark _))))) (pss_one (ps_ret pe_bl)) pss_nil)
    (pss_one (ps_ret (pe_or (pe_cmpR op_eq (pv 0) pe_str (nomark _)) (pe_one (pe_cmpR op_ne (pe_ix ix_str (pv 0) pe_int (fun _ _ => rfl)) pe_str (nomark _))))))), ?_⟩
  refine ⟨_, rfl, ⟨_, rfl⟩, _, rfl, rfl, trivial, ?_⟩
  rw [hd]
  refine ⟨_, rfl, ?_⟩
  refine ite2 (fun z => absurd z (by decide)) (fun _ => ?_)
  refine ⟨_, rfl, _, rfl, by omega, _, _, rfl, rfl, _, rfl, ?_⟩
  refine ite2 (fun z => absurd (of_decide_eq_true z) (by omega)) (fun _ => ?_)
  by_cases z : n = 0
  · subst z
    exact ⟨_, rfl, rfl, _, rfl, q⟩
  · obtain ⟨c, r, e1, e2⟩ := numL_head (n := n.toNat) (by omega)
    have e3 := iT_tl h0
    rw [e1] at e3
    have ne0 : iT n ≠ ("0" : Str) := fun h => by
      rw [h] at e3
      have e4 : TL.tl ("0" : Str) = [48] := by decide +kernel
      rw [e4] at e3
      injection e3 with e3 _
      exact e2 e3.symm
    have d0 : decide (V.str (iT n) = V.str "0") = false := decide_eq_false fun h => ne0 (by injection h)
    refine ⟨_, rfl, rfl, ?_⟩
    rw [d0]
    refine ⟨_, rfl, ?_⟩
    refine ⟨_, rfl, _, _, c, rfl, rfl, by omega, ?_, rfl, ?_⟩
    · show atI (TL.tl (iT n)) 0 = some c
      rw [e3]
      simp [atI, ixN]
    · have d1 : decide (V.str ⟨#[c]⟩ = V.str "0") = false := decide_eq_false fun h => by
        injection h with h
        have h2 := congrArg TL.tl h
        have e4 : TL.tl ("0" : Str) = [48] := by decide +kernel
        rw [e4] at h2
        have h3 : [c] = [48] := h2
        injection h3 with h3 _
        exact e2 h3
      rw [d1]
      exact q
end
end NR
set_option maxHeartbeats 4000000
namespace NR
open PySem PySem.Spec PyProof.Rows L2

def rdF (row : Int) (wl : Addr) (p : Nat) : List (Str × V) := [("row", .int row), ("words", .ref wl), ("place", .int (p : Int))]
theorem rdF_words {row wl p} : (rdF row wl p).lookup ("words" : Str) = some (.ref wl) := by rfl
theorem rdF_place {row wl p} : (rdF row wl p).lookup ("place" : Str) = some (.int (p : Int)) := by rfl
theorem rdF_no {row wl p} {m : Str} (h : (m == "row") = false) (h1 : (m == "words") = false) (h2 : (m == "place") = false) : (rdF row wl p).lookup m = none := by
  simp only [rdF, List.lookup_cons, h, h1, h2, List.lookup_nil]
structure RrC (K : PySem.W.Frag) (C : Addr) : Prop where
  cl : Cls K C
  row : NoAttr K C "row"
  words : NoAttr K C "words"
  place : NoAttr K C "place"
/-- a reader in the heap, its words, its place -/
structure RdIn (H : Hp) (C a dx wl : Addr) (row : Int) (p : Nat) (ws : List Str) : Prop where
  ha : H a = some (.ins C dx (rdF row wl p))
  hw : H wl = some (.lst (ws.map V.str))
theorem RdIn.same {H H' : Hp} {C a dx wl : Addr} {row : Int} {p : Nat} {ws : List Str} (h : RdIn H C a dx wl row p ws) (s : Same H H') : RdIn H' C a dx wl row p ws := ⟨s _ _ h.ha, s _ _ h.hw⟩
/-- behind a step of the reader -/
structure RdTo (H H' : Hp) (C a dx wl : Addr) (row : Int) (p : Nat) (ws : List Str) : Prop where
  s : SameX a H H'
  r : RdIn H' C a dx wl row p ws
def spRd (C : Addr) : Sp := fun vs H Q _ => ∃ (a dx : Addr) (row : Int) (f : Fn), vs = [.ref a, .int row, .str f.row] ∧ H a = some (.ins C dx []) ∧ FnT f ∧ ∀ (wl : Addr) (H' : Hp), H wl = none → RdTo H H' C a dx wl row 0 f.words → Q .non H'
def spUpc (C : Addr) : Sp := fun vs H Q _ => ∃ (a dx wl : Addr) (row : Int) (p : Nat) (ws : List Str) (x : Str), vs = [.ref a] ∧ RdIn H C a dx wl row p ws ∧ ws[p]? = some x ∧ Q (.str x) H
def spNext (C : Addr) : Sp := fun vs H Q _ => ∃ (a dx wl : Addr) (row : Int) (p : Nat) (ws : List Str) (x : Str), vs = [.ref a, .bl true] ∧ RdIn H C a dx wl row p ws ∧ ws[p]? = some x ∧ ∀ H', RdTo H H' C a dx wl row (p + 1) ws → Q (.str x) H'
def spNml (C : Addr) : Sp := fun vs H Q _ => ∃ (a dx wl : Addr) (row : Int) (p : Nat) (ws : List Str) (n : Int), vs = [.ref a] ∧ RdIn H C a dx wl row p ws ∧ ws[p]? = some (iT n) ∧ 0 ≤ n ∧ n ≤ 10006 ∧ ∀ H', RdTo H H' C a dx wl row (p + 1) ws → Q (.int n) H'
def spSign (C : Addr) : Sp := fun vs H Q _ => ∃ (a dx wl : Addr) (row : Int) (p : Nat) (ws : List Str) (x : Str), vs = [.ref a, .str x] ∧ RdIn H C a dx wl row p ws ∧ ws[p]? = some x ∧ ∀ H', RdTo H H' C a dx wl row (p + 1) ws → Q .non H'
theorem RdIn.upd {H : Hp} {C a dx wl : Addr} {row : Int} {p : Nat} {ws : List Str} (h : RdIn H C a dx wl row p ws) (q : Nat) : RdTo H (L2.upd H a (.ins C dx (rdF row wl q))) C a dx wl row q ws :=
  ⟨.upd, upd_same, by rw [upd_ne (ne_of h.hw h.ha (by intro z; cases z))]; exact h.hw⟩
abbrev sRowReaderInit : Stmt := inClass (top 51) 0
theorem scsRowReaderInit : FnScope ["self", "row", "text"] ["self", "row", "text"] (defScope sRowReaderInit) := ⟨rfl, rfl, rfl, by decide +kernel, rfl, by decide +kernel, by decide +kernel⟩
section
variable {P : Program} {w : World} {K : PySem.W.Frag} {mg : Str → Option Value} {base : Heap} {f : Addr} {fd : FuncData}

theorem ok_rdinit {C : Addr} (F : FnM K "__init__" "RowReader.__init__" sRowReaderInit f fd) (N : RrC K C) : FnOk P w K mg base CX0 1 f fd ["self", "row", "text"] (spRd C) := by
  have sc := scsRowReaderInit
  refine F.ok sc (fun vs H Q E h => ?_) (fun cdv A outer s H vs Q E hr h => ?_)
  · obtain ⟨a, dx, row, f, rfl, _⟩ := h
    rfl
  obtain ⟨a, dx, row, f0, rfl, ha, ft, q⟩ := h
  have hl := Fn.row_len ft
  have big : 100000 ≤ sizeLine := by decide
  refine ⟨_, (pss_cons (ps_fldK K (pv 0) (pv 1) rfl)
    (pss_cons (ps_fldK K (pv 0) (pe_split (pv 2) pe_str) rfl)
    (pss_one (ps_fldK K (pv 0) pe_int rfl)))), ?_⟩
  refine ⟨_, rfl, _, rfl, a, C, dx, _, rfl, ha, N.cl, N.row, by decide, ?_⟩
  refine ⟨_, rfl, ⟨_, rfl⟩, _, _, rfl, rfl, by decide +kernel, by omega, fun wl hwl => ?_⟩
  rw [Fn.row_split ft]
  have hwa : wl ≠ a := fun z => by rw [z, upd_same] at hwl; cases hwl
  have hw0 : H wl = none := by rw [upd_ne hwa] at hwl; exact hwl
  refine ⟨_, rfl, a, C, dx, _, rfl, by rw [upd_ne hwa.symm]; exact upd_same, N.cl, N.words, by show 1 < 1000; decide, ?_⟩
  refine ⟨_, rfl, a, C, dx, _, rfl, upd_same, N.cl, N.place, by show 2 < 1000; decide, ?_⟩
  refine q wl _ hw0 ⟨fun b o nb hb => ?_, upd_same, ?_⟩
  · rw [upd_ne nb, upd_ne nb, upd_ne (ne_of_none hb hw0), upd_ne nb]
    exact hb
  · rw [upd_ne hwa, upd_ne hwa]
    exact upd_same
end
abbrev sRowReaderUpcoming : Stmt := inClass (top 51) 1
theorem scsRowReaderUpcoming : FnScope ["self"] ["self"] (defScope sRowReaderUpcoming) := ⟨rfl, rfl, rfl, by decide +kernel, rfl, by decide +kernel, by decide +kernel⟩
section
variable {P : Program} {w : World} {K : PySem.W.Frag} {mg : Str → Option Value} {base : Heap} {f : Addr} {fd : FuncData}

theorem ok_upc {C : Addr} (F : FnM K "upcoming" "RowReader.upcoming" sRowReaderUpcoming f fd) (N : RrC K C) (z_len : mg "len" = none) : FnOk P w K mg base CX0 1 f fd ["self"] (spUpc C) := by
  have sc := scsRowReaderUpcoming
  refine F.ok sc (fun vs H Q E h => ?_) (fun cdv A outer s H vs Q E hr h => ?_)
  · obtain ⟨a, dx, wl, row, p, ws, x, rfl, _⟩ := h
    rfl
  obtain ⟨a, dx, wl, row, p, ws, x, rfl, r, hx, q⟩ := h
  have hp := (List.getElem?_eq_some_iff.mp hx).1
  refine ⟨_, (pss_cons (ps_if (pt_cmpR op_eq (pe_fldK K (pv 0) rfl) (pe_callB (call_lenK K) rfl z_len PySem.boot_len (pa_cons (pe_fldK K (pv 0) rfl) pa_nil)) (nomark _)) (pss_one (ps_ret pe_str)) pss_nil)
    (pss_one (ps_ret (pe_ix (ix_listK K) (pe_fldK K (pv 0) rfl) (pe_fldK K (pv 0) rfl) (fun _ _ => rfl))))), ?_⟩
  refine ⟨_, rfl, a, C, dx, _, _, rfl, r.ha, N.cl, N.place, rdF_place, _, rfl, a, C, dx, _, _, rfl, r.ha, N.cl, N.words, rdF_words, wl, _, rfl, .inl (SqL.of r.hw), rfl, _, rfl, ?_⟩
  rw [List.length_map]
  refine ite2 (fun z => ?_) (fun _ => ?_)
  · have := of_decide_eq_true z
    injection this with this
    omega
  refine ⟨_, rfl, a, C, dx, _, _, rfl, r.ha, N.cl, N.words, rdF_words, _, rfl, a, C, dx, _, _, rfl, r.ha, N.cl, N.place, rdF_place, wl, _, _, .str x, rfl, rfl, SqL.of r.hw, atI_nat (by rw [List.getElem?_map, hx]; rfl), q⟩
end
abbrev sRowReaderNextWord : Stmt := inClass (top 51) 2
theorem scsRowReaderNextWord : FnScope ["self", "can_stand"] ["self", "can_stand"] (defScope sRowReaderNextWord) := ⟨rfl, rfl, rfl, by decide +kernel, rfl, by decide +kernel, by decide +kernel⟩
section
variable {P : Program} {w : World} {K : PySem.W.Frag} {mg : Str → Option Value} {base : Heap} {f : Addr} {fd : FuncData}

theorem ok_next {C : Addr} (F : FnM K "next_word" "RowReader.next_word" sRowReaderNextWord f fd) (N : RrC K C) : FnOk P w K mg base CX0 1 f fd ["self", "can_stand"] (spNext C) := by
  have sc := scsRowReaderNextWord
  refine F.ok sc (fun vs H Q E h => ?_) (fun cdv A outer s H vs Q E hr h => ?_)
  · obtain ⟨a, dx, wl, row, p, ws, x, rfl, _⟩ := h
    rfl
  obtain ⟨a, dx, wl, row, p, ws, x, rfl, r, hx, q⟩ := h
  refine ⟨_, (pss_cons (ps_if (pt_not (pt_val (pv 1))) (pss_one ps_never) pss_nil)
    (pss_cons (ps_fldaug (pv 0) pe_int in_add)
    (pss_one (ps_ret (pe_ix (ix_listK K) (pe_fldK K (pv 0) rfl) (pe_op op_sub (pe_fldK K (pv 0) rfl) pe_int) (fun _ _ => rfl)))))), ?_⟩
  refine ⟨_, rfl, _, rfl, ite2 (fun z => absurd z (by decide)) (fun _ => ?_)⟩
  refine ⟨_, rfl, a, C, dx, _, _, rfl, r.ha, N.cl, N.place, rdF_place, _, _, rfl, rfl, dx, _, r.ha, by show 3 < 1000; decide, ?_⟩
  have r2 := r.upd (p + 1)
  have e : (((p + 1 : Nat) : Int) - 1) = (p : Int) := by omega
  refine ⟨_, rfl, a, C, dx, _, _, rfl, r2.r.ha, N.cl, N.words, rdF_words, _, rfl, a, C, dx, _, _, rfl, r2.r.ha, N.cl, N.place, rdF_place, _, _, rfl, rfl, wl, _, _, .str x, rfl, rfl, SqL.of r2.r.hw, ?_, q _ r2⟩
  rw [e]
  exact atI_nat (by rw [List.getElem?_map, hx]; rfl)
end
abbrev sRowReaderNumeral : Stmt := inClass (top 51) 3
theorem scsRowReaderNumeral : FnScope ["self"] ["self"] (defScope sRowReaderNumeral) := ⟨rfl, rfl, rfl, by decide +kernel, rfl, by decide +kernel, by decide +kernel⟩
section
variable {P : Program} {w : World} {K : PySem.W.Frag} {mg : Str → Option Value} {base : Heap} {f : Addr} {fd : FuncData}

theorem ok_nml {C : Addr} (F : FnM K "numeral" "RowReader.numeral" sRowReaderNumeral f fd) (M_upcoming : Okm P w K mg base CX0 1 C "upcoming" ["self"] (spUpc C)) (M_next_word : Okm P w K mg base CX0 1 C "next_word" ["self", "can_stand"] (spNext C)) (O_is_numeral : Okf P w K mg base CX0 1 "is_numeral" ["word"] spNumeral) (z_int : mg "int" = none) : FnOk P w K mg base CX0 2 f fd ["self"] (spNml C) := by
  have sc := scsRowReaderNumeral
  refine F.ok sc (fun vs H Q E h => ?_) (fun cdv A outer s H vs Q E hr h => ?_)
  · obtain ⟨a, dx, wl, row, p, ws, n, rfl, _⟩ := h
    rfl
  obtain ⟨a, dx, wl, row, p, ws, n, rfl, r, hx, h0, h1, q⟩ := h
  have hl := iT_len h0 h1
  refine ⟨_, (pss_one (ps_ret (pe_callTy call_int_str rfl z_int (by decide +kernel) (pa_cons (pe_m M_next_word (pv 0) hr pass0 (pa_cons (pe_c O_is_numeral hr rfl pass0 (pa_cons (pe_m0 M_upcoming (pv 0) hr pass0) pa_nil)) pa_nil)) pa_nil)))), ?_⟩
  refine ⟨_, rfl, a, dx, _, rfl, r.ha, rdF_no (by decide +kernel) (by decide +kernel) (by decide +kernel), _, rfl, a, dx, _, rfl, r.ha, rdF_no (by decide +kernel) (by decide +kernel) (by decide +kernel), a, dx, wl, row, p, ws, iT n, rfl, r, hx, n, rfl, h0, h1, a, dx, wl, row, p, ws, iT n, rfl, r, hx, fun H' r' => ⟨_, n, rfl, iT_int h0 h1, by omega, q _ r'⟩⟩
end
abbrev sRowReaderSign : Stmt := inClass (top 51) 4
theorem scsRowReaderSign : FnScope ["self", "wanted"] ["self", "wanted"] (defScope sRowReaderSign) := ⟨rfl, rfl, rfl, by decide +kernel, rfl, by decide +kernel, by decide +kernel⟩
section
variable {P : Program} {w : World} {K : PySem.W.Frag} {mg : Str → Option Value} {base : Heap} {f : Addr} {fd : FuncData}

theorem ok_sign {C : Addr} (F : FnM K "sign" "RowReader.sign" sRowReaderSign f fd) (M_upcoming : Okm P w K mg base CX0 1 C "upcoming" ["self"] (spUpc C)) (M_next_word : Okm P w K mg base CX0 1 C "next_word" ["self", "can_stand"] (spNext C)) : FnOk P w K mg base CX0 2 f fd ["self", "wanted"] (spSign C) := by
  have sc := scsRowReaderSign
  refine F.ok sc (fun vs H Q E h => ?_) (fun cdv A outer s H vs Q E hr h => ?_)
  · obtain ⟨a, dx, wl, row, p, ws, x, rfl, _⟩ := h
    rfl
  obtain ⟨a, dx, wl, row, p, ws, x, rfl, r, hx, q⟩ := h
  have d1 : decide (V.str x = V.str x) = true := decide_eq_true rfl
  refine ⟨_, (pss_one (ps_expr (pe_m M_next_word (pv 0) hr pass0 (pa_cons (pe_cmpR op_eq (pe_m0 M_upcoming (pv 0) hr pass0) (pv 1) (nomark _)) pa_nil)))), ?_⟩
  refine ⟨_, rfl, a, dx, _, rfl, r.ha, rdF_no (by decide +kernel) (by decide +kernel) (by decide +kernel), _, rfl, a, dx, _, rfl, r.ha, rdF_no (by decide +kernel) (by decide +kernel) (by decide +kernel), a, dx, wl, row, p, ws, x, rfl, r, hx, _, rfl, rfl, ?_⟩
  rw [d1]
  exact ⟨a, dx, wl, row, p, ws, x, rfl, r, hx, fun H' r' => q _ r'⟩
end
end NR
set_option maxHeartbeats 4000000
namespace NR
open PySem PySem.Spec PyProof.Rows L2
theorem log_small {n : Int} (h0 : 0 ≤ n) (h1 : n ≤ 10006) : n.natAbs.log2 < 1920 := by
  have h2 : n.natAbs ≤ 10006 := by omega
  by_cases z : n.natAbs = 0
  · rw [z]; decide
  · have := Nat.log2_lt (n := n.natAbs) (k := 1920) z
    rw [this]
    exact Nat.lt_of_le_of_lt h2 (Nat.lt_of_lt_of_le (by decide : 10006 < 2 ^ 14) (Nat.pow_le_pow_right (by decide) (by decide)))
/-- the words ahead of the parts -/
def hdW (x : W) (n : Int) : List Str := ("(" : Str) :: x.str :: (if x.numd = true then [iT n] else [])
theorem words_hd (x : W) (n : Int) (ps : List Ex) : (Ex.node x n ps).words = hdW x n ++ (wordss ps ++ [(")" : Str)]) := by
  simp only [Ex.words, hdW, List.cons_append]
theorem shs_get : ∀ {es : List Ex} {i : Nat} {e : Ex}, shsE es → es[i]? = some e → e.sh
  | [], i, _, _, h => by simp at h
  | a :: l, 0, _, k, h => by
    cases h
    exact k.1
  | a :: l, i + 1, e, k, h => shs_get (es := l) k.2 h
end NR
set_option maxHeartbeats 4000000
namespace NR
open PySem PySem.Spec PyProof.Rows L2

def spExpr (C : Addr) (n : Nat) : Sp := fun vs H Q _ => ∃ (a dx wl : Addr) (row : Int) (p : Nat) (ws : List Str) (e : Ex) (rest : List Str), vs = [.ref a] ∧ RdIn H C a dx wl row p ws ∧ ws.drop p = e.words ++ rest ∧ e.sh ∧ e.hgt ≤ n ∧ e.size ≤ 60 ∧ ∀ (H' : Hp) (v : V), RdTo H H' C a dx wl row (p + e.words.length) ws → TIn H' v e → Q v H'
theorem drop_of {α : Type} {ws A B : List α} {p : Nat} (h : ws.drop p = A ++ B) : ws.drop (p + A.length) = B := by
  have e : ws.drop (p + A.length) = (ws.drop p).drop A.length := by rw [List.drop_drop]
  rw [e, h, List.drop_left]
theorem get_of {α : Type} {ws B : List α} {x : α} {p : Nat} (h : ws.drop p = x :: B) : ws[p]? = some x := by
  have e : (ws.drop p)[0]? = ws[p + 0]? := List.getElem?_drop ..
  rw [h] at e
  exact e.symm
theorem Ex.words_open (e : Ex) : ∃ r, e.words = ("(" : Str) :: r := by
  obtain ⟨w, n, ps⟩ := e
  exact ⟨_, rfl⟩
theorem RdTo.trans {H H1 H2 : Hp} {C a dx wl : Addr} {row : Int} {p q : Nat} {ws : List Str} (x : RdTo H H1 C a dx wl row p ws) (y : RdTo H1 H2 C a dx wl row q ws) : RdTo H H2 C a dx wl row q ws := ⟨x.s.trans y.s, y.r⟩
theorem RdTo.same {H H1 H2 : Hp} {C a dx wl : Addr} {row : Int} {p : Nat} {ws : List Str} (x : RdTo H H1 C a dx wl row p ws) (y : Same H1 H2) : RdTo H H2 C a dx wl row p ws := ⟨x.s.trans (Same.toX y), x.r.same y⟩
theorem seq_restS {t u : TS} {D : Ends} {σ : L2.St} {H : Hp} (R : L2.St → Hp → Prop) (h2 : ∀ σ' H', R σ' H' → u D σ' H') (h1 : (∀ σ' H', R σ' H' → u D σ' H') → t { D with nx := u D } σ H) : tSeq t u D σ H := h1 h2
theorem cat_ne {K : PySem.W.Frag} {H : Hp} {Q : VK} {t0 u : Addr} {xs ys : List V} (h0 : SqT K H t0 xs) (hx : xs ≠ []) (h1 : SqT K H u ys) (hy : ys ≠ []) (hl : xs.length + ys.length ≤ 900) (q : ∀ p, H p = none → Q (.ref p) (L2.upd H p (.tup (xs ++ ys)))) : rCatT K (.ref t0) (.ref u) H Q :=
  ⟨t0, u, xs, ys, rfl, rfl, h0, h1, hx, by have big : 1000 ≤ sizeLine := by decide
                                           omega, fun z => absurd z hy, fun _ p hp => q p hp⟩
def ExI (H : Hp) (C a dx wl st pl : Addr) (row : Int) (p : Nat) (ws : List Str) (x : W) (n0 : Int) (ps : List Ex) (m : Nat) (σ : L2.St) (H' : Hp) : Prop :=
  ∃ (j : Nat) (vs : List V), m = ps.length - j ∧ j ≤ ps.length ∧ σ = [some (.ref a), some (.str x.str), some (.ref st), some (.ref pl)] ∧ RdTo H H' C a dx wl row (p + (hdW x n0 ++ wordss (ps.take j)).length) ws ∧ H' st = some (.tup (if x.numd = true then [.str x.str, .int n0] else [.str x.str])) ∧ H' pl = some (.lst vs) ∧ TIns H' vs (ps.take j)
def stV (x : W) (n : Int) : List V := if x.numd = true then [.str x.str, .int n] else [.str x.str]
abbrev sRowReaderExpression : Stmt := inClass (top 51) 6
theorem scsRowReaderExpression : FnScope ["self", "word", "start", "parts"] ["self"] (defScope sRowReaderExpression) := ⟨rfl, rfl, rfl, by decide +kernel, rfl, by decide +kernel, by decide +kernel⟩
section
variable {P : Program} {w : World} {K : PySem.W.Frag} {mg : Str → Option Value} {base : Heap} {f : Addr} {fd : FuncData}

theorem ok_expr {k n : Nat} {C aN aL : Addr} (F : FnM K "expression" "RowReader.expression" sRowReaderExpression f fd) (N : RrC K C) (M_upcoming : Okm P w K mg base CX0 k C "upcoming" ["self"] (spUpc C)) (M_next_word : Okm P w K mg base CX0 k C "next_word" ["self", "can_stand"] (spNext C)) (M_numeral : Okm P w K mg base CX0 k C "numeral" ["self"] (spNml C)) (M_sign : Okm P w K mg base CX0 k C "sign" ["self", "wanted"] (spSign C)) (M_expression : Okm P w K mg base CX0 k C "expression" ["self"] (spExpr C n))
    (m_NUMBERED : mg "NUMBERED" = some (.ref aN)) (hN : ∀ H, SqT K H aN numW) (m_LENGTHS : mg "LENGTHS" = some (.ref aL)) (T_LENGTHS : Tbl K w aL gLen) (z_tuple : mg "tuple" = none) : FnOk P w K mg base CX0 (k + 1) f fd ["self"] (spExpr C (n + 1)) := by
  have sc := scsRowReaderExpression
  refine F.ok sc (fun vs H Q E h => ?_) (fun cdv A outer s H vs Q E hr h => ?_)
  · obtain ⟨a, dx, wl, row, p, ws, e, rest, rfl, _⟩ := h
    rfl
  obtain ⟨a, dx, wl, row, p, ws, e, rest, rfl, r, hws, sh, hh, hz, q⟩ := h
  obtain ⟨x, n0, ps⟩ := e
  have hsz : (Ex.node x n0 ps).size = 1 + sizes ps := rfl
  have hht : (Ex.node x n0 ps).hgt = 1 + hgts ps := rfl
  have hnok := (Ex.node x n0 ps).sh_nok sh
  have no3 : ∀ {m : Str} {row wl p}, (m == "row") = false → (m == "words") = false → (m == "place") = false → (rdF row wl p).lookup m = none := fun a b c => rdF_no a b c
  have big : 100000 ≤ sizeLine := by decide
  rw [words_hd, List.append_assoc, List.append_assoc] at hws
  have w0 : ws.drop p = [("(" : Str)] ++ ([x.str] ++ ((if x.numd = true then [iT n0] else []) ++ (wordss ps ++ ([(")" : Str)] ++ rest)))) := by rw [hws]; rfl
  have w1 := drop_of w0
  have w2 := drop_of w1
  refine ⟨_, PSs.nox (pss_cons (ps_expr (pe_m M_sign (pv 0) hr pass0 (pa_cons pe_str pa_nil)))
    (pss_cons (ps_set (i := 1) sc.nd rfl (.inl rfl) (pe_m M_next_word (pv 0) hr pass0 (pa_cons (pe_cmpR (op_inTbl T_LENGTHS) (pe_m0 M_upcoming (pv 0) hr pass0) (pe_gR rfl m_LENGTHS) (by rfl)) pa_nil)))
    (pss_cons (ps_set (i := 2) sc.nd rfl (.inl rfl) (pe_ifExp (pt_cmpR (op_inK K) (pv 1) (pe_gR rfl m_NUMBERED) (by rfl)) (pe_tup (pa_cons (pv 1) (pa_cons (pe_m0 M_numeral (pv 0) hr pass0) pa_nil))) (pe_tup (pa_cons (pv 1) pa_nil))))
    (pss_cons (ps_set (i := 3) sc.nd rfl (.inl rfl) (pe_lst pa_nil))
    (pss_cons (ps_while PassesOwn.never (pt_cmpR op_eq (pe_m0 M_upcoming (pv 0) hr pass0) pe_str (nomark _)) (pss_one (ps_expr (pe_bm PySem.F.plainAttrs_list PySem.F.slot_list_append PySem.F.type_list_append mt_append (pv 3) (pa_cons (pe_m0 M_expression (pv 0) hr pass0) pa_nil)))))
    (pss_cons (ps_expr (pe_m M_sign (pv 0) hr pass0 (pa_cons pe_str pa_nil)))
    (pss_cons (ps_if (pt_cmpR op_eq (pv 1) pe_str (nomark _)) (pss_one (ps_ret (pe_op (op_catTK K) (pv 2) (pe_tup (pa_cons (pe_callTy (call_tupleK K) rfl z_tuple (by decide +kernel) (pa_cons (pv 3) pa_nil)) pa_nil))))) pss_nil)
    (pss_one (ps_ret (pe_op (op_catTK K) (pv 2) (pe_callTy (call_tupleK K) rfl z_tuple (by decide +kernel) (pa_cons (pv 3) pa_nil)))))))))))), ?_⟩
  refine ⟨_, rfl, a, dx, _, rfl, r.ha, rdF_no (by decide +kernel) (by decide +kernel) (by decide +kernel), a, dx, wl, row, p, ws, "(", rfl, r, get_of w0, fun H1 r1 => ?_⟩
  refine ⟨_, rfl, a, dx, _, rfl, r1.r.ha, rdF_no (by decide +kernel) (by decide +kernel) (by decide +kernel), _, rfl, a, dx, _, rfl, r1.r.ha, rdF_no (by decide +kernel) (by decide +kernel) (by decide +kernel), a, dx, wl, row, p + 1, ws, x.str, rfl, r1.r, get_of w1, ?_⟩
  refine ⟨x, _, rfl, rfl, rfl, a, dx, wl, row, p + 1, ws, x.str, rfl, r1.r, get_of w1, fun H2 r2 => ?_⟩
  have r02 := r1.trans r2
  have w3 : ws.drop (p + (hdW x n0).length) = wordss ps ++ ([(")" : Str)] ++ rest) := drop_of hws
  dsimp only [gName]
  refine seq_restS (fun σ' H' => ∃ st, σ' = [some (.ref a), some (.str x.str), some (.ref st), none] ∧ RdTo H H' C a dx wl row (p + (hdW x n0).length) ws ∧ H' st = some (.tup (stV x n0))) (fun σ' H3 e => ?_) (fun go => ?_)
  · obtain ⟨st, rfl, r3, est⟩ := e
    refine ⟨by show 0 ≤ sizeLine; decide, fun pl hpl => ?_⟩
    have s4 := same_new hpl (.lst [])
    have e4 : upd H3 pl (.lst []) pl = some (.lst []) := upd_same
    have npl : pl ≠ a := (ne_of_none r3.r.ha hpl).symm
    have npw : pl ≠ wl := (ne_of_none r3.r.hw hpl).symm
    generalize upd H3 pl (.lst []) = H4 at s4 e4 ⊢
    have r4 := r3.same s4
    have est4 := s4 _ _ est
    refine ⟨ExI H C a dx wl st pl row p ws x n0 ps, ⟨ps.length, 0, [], rfl, Nat.zero_le _, rfl, by simp only [List.take_zero, wordss, List.append_nil]; exact r4, est4, e4, .nil⟩, ?_⟩
    rintro m σ H5 ⟨j, vs, rfl, hj, rfl, r5, est5, epl, tis⟩
    have hvl := tis.len
    rw [List.length_take] at hvl
    have hps : ps.length ≤ sizes ps := by
      have : ∀ l : List Ex, l.length ≤ sizes l := by
        intro l
        induction l with
        | nil => exact Nat.le_refl _
        | cons e l ih =>
          obtain ⟨a1, a2, a3⟩ := e
          simp only [List.length_cons, sizes, Ex.size]
          omega
      exact this ps
    have w5 : ws.drop (p + (hdW x n0 ++ wordss (ps.take j)).length) = wordss (ps.drop j) ++ ([(")" : Str)] ++ rest) := by
      refine drop_of (B := wordss (ps.drop j) ++ ([(")" : Str)] ++ rest)) ?_
      rw [hws, List.append_assoc, ← List.append_assoc (wordss (ps.take j)), ← wordss_append, List.take_append_drop]
    by_cases c : j < ps.length
    · obtain ⟨ej, hej⟩ : ∃ y, ps[j]? = some y := ⟨_, List.getElem?_eq_getElem c⟩
      have hdr : ps.drop j = ej :: ps.drop (j + 1) := by
        rw [List.drop_eq_getElem_cons c]
        have := (List.getElem?_eq_some_iff.mp hej).2
        rw [this]
      rw [hdr] at w5
      simp only [wordss, List.append_assoc] at w5
      obtain ⟨wr, hwr⟩ := ej.words_open
      have w6 := w5
      rw [hwr] at w6
      obtain ⟨z1, z2, z3⟩ := sizes_take ps j hej
      refine ⟨_, rfl, a, dx, _, rfl, r5.r.ha, rdF_no (by decide +kernel) (by decide +kernel) (by decide +kernel), a, dx, wl, row, _, ws, "(", rfl, r5.r, get_of w6, rfl, _, rfl, ite2 (fun _ => ?_) (fun z => absurd (by decide +kernel) z)⟩
      refine ⟨ExI H C a dx wl st pl row p ws x n0 ps (ps.length - (j + 1)), fun σ' H' h => ⟨_, by omega, h⟩, ?_⟩
      refine ⟨_, rfl, .inl ⟨rfl, _, SqL.of epl⟩, _, rfl, a, dx, _, rfl, r5.r.ha, rdF_no (by decide +kernel) (by decide +kernel) (by decide +kernel), a, dx, wl, row, _, ws, ej, _, rfl, r5.r, w5, shs_get sh.2 hej, by omega, by omega, fun H6 v r6 tv => ?_⟩
      have epl6 := r6.s _ _ npl epl
      have tk6 := r6.s.tkI r5.r.ha
      have tkL := TK.lst (ys := vs ++ [v]) epl6
      refine ⟨pl, _, _, rfl, rfl, epl6, small1000 (by omega), j + 1, vs ++ [v], rfl, c, rfl, ⟨fun b o nb hb => ?_, ?_, ?_⟩, ?_, upd_same, ?_⟩
      · have nbp : b ≠ pl := fun z => by
          rw [z] at hb
          have := r3.s _ _ npl hb
          rw [hpl] at this
          cases this
        rw [upd_ne nbp]
        exact r6.s _ _ nb (r5.s _ _ nb hb)
      · rw [upd_ne npl.symm]
        have e9 : p + (hdW x n0 ++ wordss (ps.take (j + 1))).length = p + (hdW x n0 ++ wordss (ps.take j)).length + ej.words.length := by
          rw [List.take_add_one, hej, wordss_append]
          simp only [Option.toList, wordss, List.append_nil, List.length_append]
          omega
        rw [e9]
        exact r6.r.ha
      · rw [upd_ne npw.symm]
        exact r6.r.hw
      · have nsp : st ≠ pl := ne_of est5 epl (by intro z; cases z)
        have nsa : st ≠ a := ne_of est5 r5.r.ha (by intro z; cases z)
        rw [upd_ne nsp]
        exact r6.s _ _ nsa est5
      · rw [List.take_add_one, hej]
        exact TIns.snoc (((tis.mono tk6).mono tkL)) (tv.mono tkL)
    · have ej : j = ps.length := by omega
      subst ej
      rw [List.drop_length] at w5
      rw [List.take_length] at tis
      have w6 : ws.drop (p + (hdW x n0 ++ wordss (ps.take ps.length)).length) = (")" : Str) :: rest := w5
      refine ⟨_, rfl, a, dx, _, rfl, r5.r.ha, rdF_no (by decide +kernel) (by decide +kernel) (by decide +kernel), a, dx, wl, row, _, ws, ")", rfl, r5.r, get_of w6, rfl, _, rfl, ite2 (fun z => absurd z (by decide +kernel)) (fun _ => ?_)⟩
      refine ⟨_, rfl, a, dx, _, rfl, r5.r.ha, rdF_no (by decide +kernel) (by decide +kernel) (by decide +kernel), a, dx, wl, row, _, ws, ")", rfl, r5.r, get_of w6, fun H6 r6 => ?_⟩
      have nsa : st ≠ a := ne_of est5 r5.r.ha (by intro z; cases z)
      have est6 := r6.s _ _ nsa est5
      have epl6 := r6.s _ _ npl epl
      have tis6 := tis.mono (r6.s.tkI r5.r.ha)
      have r06 := r5.trans r6
      have e9 : p + (hdW x n0 ++ wordss (ps.take ps.length)).length + 1 = p + (Ex.node x n0 ps).words.length := by
        rw [words_hd, List.take_length]
        simp only [List.length_append, List.length_cons, List.length_nil]
        omega
      rw [e9] at r06
      refine ⟨_, rfl, rfl, _, rfl, ?_⟩
      rw [isCall2 x]
      have hx3 : (if x.numd = true then [V.str x.str, V.int n0] else [V.str x.str]) ≠ [] := by split <;> simp
      have hx4 : (if x.numd = true then [V.str x.str, V.int n0] else [V.str x.str]).length ≤ 2 := by split <;> simp
      have hvl' : vs.length ≤ 60 := by omega
      refine ite2 (fun z => ?_) (fun z => ?_)
      · have z' := of_decide_eq_true z
        subst z'
        refine ⟨_, rfl, _, rfl, pl, _, rfl, .inl ⟨SqL.of epl6, fun t1 ht1 => ?_⟩⟩
        have s7 := same_new ht1 (.tup vs)
        refine ⟨by show 1 ≤ sizeLine; decide, fun t2 ht2 => ?_⟩
        have s8 := s7.trans (same_new ht2 (.tup [.ref t1]))
        have et1 : upd (upd H6 t1 (.tup vs)) t2 (.tup [.ref t1]) t1 = some (.tup vs) := same_new ht2 _ _ _ upd_same
        refine cat_ne (SqT.of (s8 _ _ est6)) hx3 (SqT.of upd_same) (by simp) (by simp only [List.length_cons, List.length_nil]; omega) fun t3 ht3 => ?_
        have s9 := s8.trans (same_new ht3 (.tup ((if W.call.numd = true then [V.str W.call.str, V.int n0] else [V.str W.call.str]) ++ [.ref t1])))
        exact q _ _ (r06.same s9) (.call upd_same (same_new ht3 _ _ _ et1) (tis6.mono (TK.of s9)))
      · have c2 : x ≠ .call := fun y => z (decide_eq_true y)
        refine ⟨_, rfl, _, rfl, pl, _, rfl, .inl ⟨SqL.of epl6, fun t1 ht1 => ?_⟩⟩
        have s7 := same_new ht1 (.tup vs)
        have et1 : upd H6 t1 (.tup vs) t1 = some (.tup vs) := upd_same
        generalize upd H6 t1 (.tup vs) = H7 at s7 et1 ⊢
        have est7 := s7 _ _ est6
        have tis7 := tis6.mono (TK.of s7)
        have hlay : x.lay = 0 ∨ x.lay = 1 ∨ x.lay = 3 := by revert c2; cases x <;> simp [W.lay]
        refine ⟨st, t1, _, vs, rfl, rfl, SqT.of est7, SqT.of et1, hx3, by omega, fun hz0 => ?_, fun hz0 t3 ht3 => ?_⟩
        · subst hz0
          have hps0 : ps = [] := by cases tis7; rfl
          refine q _ _ (r06.same s7) ?_
          subst hps0
          rcases hlay with hl | hl | hl
          · have hn : x.numd = true := by rw [W.numd, hl]; rfl
            rw [if_pos hn] at est7
            exact .leaf hl est7
          · have := sh.1.1.k1 hl
            cases this
          · have := sh.1.1.k3 hl
            exfalso
            revert this hl
            cases x <;> simp [W.lay, W.ar]
        · have s8 := s7.trans (same_new ht3 (.tup ((if x.numd = true then [V.str x.str, V.int n0] else [V.str x.str]) ++ vs)))
          refine q _ _ (r06.same s8) ?_
          have tis8 := tis6.mono (TK.of s8)
          rcases hlay with hl | hl | hl
          · have hp0 := sh.1.2.2 hl
            subst hp0
            exact absurd (by cases tis6; rfl) hz0
          · have hn : x.numd = true := by rw [W.numd, hl]; rfl
            refine .bind hl ?_ tis8
            rw [upd_same, if_pos hn]
            rfl
          · have hn : ¬ x.numd = true := by rw [W.numd, hl]; exact Bool.false_ne_true
            have hm := sh.1.2.1 hl
            subst hm
            refine .bare hl ?_ tis8
            rw [upd_same, if_neg hn]
            rfl
  · refine ⟨_, rfl, aN, _, rfl, .inr (hN _), rfl, rfl, _, rfl, ?_⟩
    have e2 : (if (false = true) then !inV (.str x.str) numW else inV (.str x.str) numW) = x.numd := inNum x
    refine ite2 (fun z => ?_) (fun z => ?_)
    · have hn : x.numd = true := e2.symm.trans z
      have hb := hnok.1 hn
      rw [if_pos hn] at w2
      refine ⟨_, rfl, _, rfl, a, dx, _, rfl, r2.r.ha, rdF_no (by decide +kernel) (by decide +kernel) (by decide +kernel), a, dx, wl, row, p + 1 + 1, ws, n0, rfl, r2.r, get_of w2, hb.1, hb.2, fun H3 r3 => ⟨by show 2 ≤ sizeLine; decide, fun st hst => go _ _ ⟨st, rfl, ?_, ?_⟩⟩⟩
      · have e3 : p + (hdW x n0).length = p + 1 + 1 + 1 := by rw [hdW, if_pos hn]; rfl
        rw [e3]
        exact (r02.trans r3).same (same_new hst _)
      · rw [upd_same, stV, if_pos hn]
    · have hn : ¬ x.numd = true := fun y => z (e2.trans y)
      refine ⟨_, rfl, by show 1 ≤ sizeLine; decide, fun st hst => go _ _ ⟨st, rfl, ?_, ?_⟩⟩
      · have e3 : p + (hdW x n0).length = p + 1 + 1 := by rw [hdW, if_neg hn]; rfl
        rw [e3]
        exact r02.same (same_new hst _)
      · rw [upd_same, stV, if_neg hn]
end
end NR
set_option maxHeartbeats 4000000
namespace NR
open PySem PySem.Spec PyProof.Rows L2

def spFT (C : Addr) : Sp := fun vs H Q _ => ∃ (a dx wl : Addr) (row : Int) (f : Fn), vs = [.ref a] ∧ RdIn H C a dx wl row 0 f.words ∧ FnT f ∧ ∀ (H' : Hp) (t : Addr) (pz bz : V), SameX a H H' → H' t = some (.tup [pz, dV f.d, bz]) → PtIn H' pz f.ps → TIn H' bz f.e → Q (.ref t) H'
theorem psWords_drop (ps : List (Int × Nat)) (j : Nat) : psWords ps = psWords (ps.take j) ++ psWords (ps.drop j) := by
  rw [← psWords_append, List.take_append_drop]
def FtI (H : Hp) (C a dx wl pl : Addr) (row : Int) (f : Fn) (m : Nat) (σ : L2.St) (H' : Hp) : Prop :=
  ∃ (j : Nat) (vs : List V) (x4 : Option V), m = f.ps.length - j ∧ j ≤ f.ps.length ∧ σ = [some (.ref a), some (dV f.d), some (.int (f.ps.length : Int)), some (.ref pl), x4, none] ∧ RdTo H H' C a dx wl row (2 + (psWords (f.ps.take j)).length) f.words ∧ H' pl = some (.lst vs) ∧ PIns H' vs (f.ps.take j)
abbrev sRowReaderFunctionTold : Stmt := inClass (top 51) 5
theorem scsRowReaderFunctionTold : FnScope ["self", "depth", "many", "params", "name", "body"] ["self"] (defScope sRowReaderFunctionTold) := ⟨rfl, rfl, rfl, by decide +kernel, rfl, by decide +kernel, by decide +kernel⟩
section
variable {P : Program} {w : World} {K : PySem.W.Frag} {mg : Str → Option Value} {base : Heap} {f : Addr} {fd : FuncData}

theorem ok_ft {k : Nat} {C : Addr} (F : FnM K "function_told" "RowReader.function_told" sRowReaderFunctionTold f fd) (N : RrC K C) (M_numeral : Okm P w K mg base CX0 k C "numeral" ["self"] (spNml C)) (M_expression : Okm P w K mg base CX0 k C "expression" ["self"] (spExpr C 13)) (z_len : mg "len" = none) (z_tuple : mg "tuple" = none) : FnOk P w K mg base CX0 (k + 1) f fd ["self"] (spFT C) := by
  have sc := scsRowReaderFunctionTold
  refine F.ok sc (fun vs H Q E h => ?_) (fun cdv A outer s H vs Q E hr h => ?_)
  · obtain ⟨a, dx, wl, row, f, rfl, _⟩ := h
    rfl
  obtain ⟨a, dx, wl, row, f0, rfl, r, ft, q⟩ := h
  have fw := ft.fo.few
  have hd := ft.fo.hd
  have big : 100000 ≤ sizeLine := by decide
  have w0 : f0.words.drop 0 = [iT (f0.d : Int)] ++ ([iT (f0.ps.length : Int)] ++ (psWords f0.ps ++ f0.e.words)) := rfl
  have w1 : f0.words.drop 1 = [iT (f0.ps.length : Int)] ++ (psWords f0.ps ++ f0.e.words) := rfl
  have w2 : f0.words.drop 2 = psWords f0.ps ++ f0.e.words := rfl
  refine ⟨_, PSs.nox (pss_cons (ps_set (i := 1) sc.nd rfl (.inl rfl) (pe_m0 M_numeral (pv 0) hr pass0))
    (pss_cons (ps_set (i := 2) sc.nd rfl (.inl rfl) (pe_m0 M_numeral (pv 0) hr pass0))
    (pss_cons (ps_set (i := 3) sc.nd rfl (.inl rfl) (pe_lst pa_nil))
    (pss_cons (ps_while PassesOwn.never (pt_cmpR op_lt (pe_callB (call_lenK K) rfl z_len PySem.boot_len (pa_cons (pv 3) pa_nil)) (pv 2) (nomark _)) (pss_cons (ps_set (i := 4) sc.nd rfl (.inl rfl) (pe_m0 M_numeral (pv 0) hr pass0))
    (pss_one (ps_expr (pe_bm PySem.F.plainAttrs_list PySem.F.slot_list_append PySem.F.type_list_append mt_append (pv 3) (pa_cons (pe_tup (pa_cons (pv 4) (pa_cons (pe_m0 M_numeral (pv 0) hr pass0) pa_nil))) pa_nil))))))
    (pss_cons (ps_set (i := 5) sc.nd rfl (.inl rfl) (pe_m0 M_expression (pv 0) hr pass0))
    (pss_cons (ps_if (pt_cmpR op_lt (pe_fldK K (pv 0) rfl) (pe_callB (call_lenK K) rfl z_len PySem.boot_len (pa_cons (pe_fldK K (pv 0) rfl) pa_nil)) (nomark _)) (pss_one ps_never) pss_nil)
    (pss_one (ps_ret (pe_tup (pa_cons (pe_callTy (call_tupleF K) rfl z_tuple (by decide +kernel) (pa_cons (pv 3) pa_nil)) (pa_cons (pv 1) (pa_cons (pv 5) pa_nil)))))))))))), ?_⟩
  refine ⟨_, rfl, a, dx, _, rfl, r.ha, rdF_no (by decide +kernel) (by decide +kernel) (by decide +kernel), a, dx, wl, row, 0, _, (f0.d : Int), rfl, r, get_of w0, by omega, by omega, fun H1 r1 => ?_⟩
  refine ⟨_, rfl, a, dx, _, rfl, r1.r.ha, rdF_no (by decide +kernel) (by decide +kernel) (by decide +kernel), a, dx, wl, row, 1, _, (f0.ps.length : Int), rfl, r1.r, get_of w1, by omega, by omega, fun H2 r2 => ?_⟩
  have r02 := r1.trans r2
  refine ⟨by show 0 ≤ sizeLine; decide, fun pl hpl => ?_⟩
  have s4 := same_new hpl (.lst [])
  have e4 : upd H2 pl (.lst []) pl = some (.lst []) := upd_same
  have npl : pl ≠ a := (ne_of_none r02.r.ha hpl).symm
  have npw : pl ≠ wl := (ne_of_none r02.r.hw hpl).symm
  generalize upd H2 pl (.lst []) = H4 at s4 e4 ⊢
  have nbp : ∀ b o, H b = some o → b ≠ a → b ≠ pl := fun b o hb nb z => by
    rw [z] at hb nb
    have := r02.s _ _ nb hb
    rw [hpl] at this
    cases this
  refine ⟨FtI H C a dx wl pl row f0, ⟨f0.ps.length, 0, [], none, rfl, Nat.zero_le _, rfl, r02.same s4, e4, .nil⟩, ?_⟩
  rintro m σ H5 ⟨j, vs, x4, rfl, hj, rfl, r5, epl, pi⟩
  have hvl := pi.len
  rw [List.length_take] at hvl
  have hpl2 := psWords_len (f0.ps.take j)
  have w5 : f0.words.drop (2 + (psWords (f0.ps.take j)).length) = psWords (f0.ps.drop j) ++ f0.e.words := by
    refine drop_of ?_
    rw [w2, psWords_drop f0.ps j, List.append_assoc]
  refine ⟨_, rfl, pl, _, rfl, .inl (SqL.of epl), _, rfl, _, _, rfl, rfl, _, rfl, ?_⟩
  by_cases c : j < f0.ps.length
  · refine ite2 (fun _ => ?_) (fun z => absurd (decide_eq_true (by omega)) z)
    obtain ⟨⟨px, pd⟩, hpj⟩ : ∃ y, f0.ps[j]? = some y := ⟨_, List.getElem?_eq_getElem c⟩
    have hlo := ft.fo.lo (px, pd) (List.mem_of_getElem? hpj)
    have hdr : f0.ps.drop j = (px, pd) :: f0.ps.drop (j + 1) := by
      rw [List.drop_eq_getElem_cons c]
      have := (List.getElem?_eq_some_iff.mp hpj).2
      rw [this]
    rw [hdr] at w5
    have w6 : f0.words.drop (2 + (psWords (f0.ps.take j)).length) = [iT px] ++ (iT pd :: (psWords (f0.ps.drop (j + 1)) ++ f0.e.words)) := w5
    have w7 := drop_of w6
    refine ⟨FtI H C a dx wl pl row f0 (f0.ps.length - (j + 1)), fun σ' H' h => ⟨_, by omega, h⟩, ?_⟩
    refine ⟨_, rfl, a, dx, _, rfl, r5.r.ha, rdF_no (by decide +kernel) (by decide +kernel) (by decide +kernel), a, dx, wl, row, _, _, px, rfl, r5.r, get_of w6, hlo.1, by omega, fun H6 r6 => ?_⟩
    have epl6 := r6.s _ _ npl epl
    refine ⟨_, rfl, .inl ⟨rfl, _, SqL.of epl6⟩, _, rfl, _, rfl, a, dx, _, rfl, r6.r.ha, rdF_no (by decide +kernel) (by decide +kernel) (by decide +kernel), a, dx, wl, row, _, _, (pd : Int), rfl, r6.r, get_of w7, by omega, by omega, fun H7 r7 => ⟨by show 2 ≤ sizeLine; decide, fun tp htp => ?_⟩⟩
    have epl7 := r7.s _ _ npl epl6
    have s8 := same_new htp (.tup [.int px, dV pd])
    have r58 := (r6.trans r7).same s8
    have tk8 : TK H5 (upd H7 tp (.tup [.int px, dV pd])) := r58.s.tkI r5.r.ha
    have tkL := TK.lst (ys := vs ++ [.ref tp]) (s8 _ _ epl7)
    refine ⟨pl, _, _, rfl, rfl, s8 _ _ epl7, small1000 (by omega), j + 1, vs ++ [.ref tp], _, rfl, c, rfl, ⟨fun b o nb hb => ?_, ?_, ?_⟩, upd_same, ?_⟩
    · rw [upd_ne (nbp b o hb nb)]
      exact r58.s _ _ nb (r5.s _ _ nb hb)
    · rw [upd_ne npl.symm]
      have e9 : 2 + (psWords (f0.ps.take (j + 1))).length = 2 + (psWords (f0.ps.take j)).length + [iT px].length + 1 := by
        rw [psWords_len, psWords_len, List.length_take, List.length_take]
        simp only [List.length_cons, List.length_nil]
        omega
      rw [e9]
      exact r58.r.ha
    · rw [upd_ne npw.symm]
      exact r58.r.hw
    · rw [List.take_add_one, hpj]
      exact PIns.snoc (tkL _ _ upd_same) ((pi.mono tk8).mono tkL)
  · refine ite2 (fun z => absurd (of_decide_eq_true z) (by omega)) (fun _ => ?_)
    have ej : j = f0.ps.length := by omega
    subst ej
    rw [List.drop_length] at w5
    rw [List.take_length] at pi
    have w6 : f0.words.drop (2 + (psWords (f0.ps.take f0.ps.length)).length) = f0.e.words ++ [] := by rw [List.append_nil]; exact w5
    refine ⟨_, rfl, a, dx, _, rfl, r5.r.ha, rdF_no (by decide +kernel) (by decide +kernel) (by decide +kernel), a, dx, wl, row, _, _, f0.e, [], rfl, r5.r, w6, ft.sh, ft.hg, ft.sz, fun H6 v r6 tv => ?_⟩
    have epl6 := r6.s _ _ npl epl
    have pi6 := pi.mono (r6.s.tkI r5.r.ha)
    have r06 := r5.trans r6
    have e9 : 2 + (psWords (f0.ps.take f0.ps.length)).length + f0.e.words.length = f0.words.length := by
      rw [List.take_length]
      simp only [Fn.words, List.length_cons, List.length_append]
      omega
    refine ⟨_, rfl, a, C, dx, _, _, rfl, r06.r.ha, N.cl, N.place, rdF_place, _, rfl, a, C, dx, _, _, rfl, r06.r.ha, N.cl, N.words, rdF_words, wl, _, rfl, .inl (SqL.of r06.r.hw), _, _, rfl, rfl, _, rfl, ?_⟩
    rw [List.length_map]
    refine ite2 (fun z => absurd (of_decide_eq_true z) (by omega)) (fun _ => ?_)
    refine ⟨_, rfl, pl, _, rfl, SqL.of epl6, fun t1 o ht1 ho => ?_⟩
    have s7 := same_new ht1 (.frz o (.tup vs))
    refine ⟨_, rfl, _, rfl, by show 3 ≤ sizeLine; decide, fun t2 ht2 => ?_⟩
    have s8 := s7.trans (same_new ht2 (.tup [.ref t1, dV f0.d, v]))
    refine q _ t2 (.ref t1) v (r06.s.trans (Same.toX s8)) upd_same ⟨t1, o, vs, rfl, same_new ht2 _ _ _ upd_same, ho, pi6.mono (TK.of s8)⟩ (tv.mono (TK.of s8))
end
end NR
set_option maxHeartbeats 4000000
namespace NR
open PySem PySem.Spec PyProof.Rows L2 LamX NdefX
/-! ### a method of the written part with the cell of its class, whose first statement is super().__init__(e) -/
structure SupF (K : PySem.W.Frag) (P : Program) (mg : Str → Option Value) (f : Addr) (F : NF) (C cc : Addr) (fd : FuncData) : Prop where
  fn : ∃ (od : Option Addr) (sl : Array (Option Value)) (doc pm ctv : Value), fd = F.fd doc pm ctv ∧ K.lookup f = some ⟨.type "function", od, .func fd, sl⟩
  code : PySem.W.codeIn K (.ref F.c) F.qual = true
  file : ∃ (cl : Value) (d : Option Addr) (sl : Array (Option Value)) (vs : Array Value) (z : Str) (t : Tok), K.lookup F.c = some ⟨cl, d, .fields vs, sl⟩ ∧ vs[2]? = some (.str z t) ∧ ((P.main.file : Str) == z) = true
  cl : F.cl = [(("__class__" : Str), cc)]
  cell : ∃ (cl : Value) (d : Option Addr) (sl : Array (Option Value)), K.lookup cc = some ⟨cl, d, .cell (some (.ref C)), sl⟩
  ex : ∃ nm q N bs bm sn sub ab col dd k0 k1 k2 k3 k5, K.lookup C = some (excClassObj nm q C N bs bm true sn sub ab col dd k0 k1 k2 k3 k5 "ValueError.__new__") ∧ PySem.W.alongIn K "__init__" bm = some (some (.builtin "ValueError.__init__"))
  sub : PySem.W.mroIn K C (.ref C) = some true
  ve : PySem.W.mroIn K C (.type "ValueError") = some true
  third : PySem.W.nsIn K cStatics "thirdparty.any" = some none
  sup : mg "super" = none
  top : (P.main.scope.names.lookup ("super" : Str)).isSome = false
section
variable {P : Program} {w : World} {K : PySem.W.Frag} {mg : Str → Option Value} {base : Heap} {f C cc : Addr} {F : NF} {fd : FuncData} {CX : CXT} {N ps : List Str} {k : Nat} {sp : Sp}
theorem SupF.cells (M : SupF K P mg f F C cc fd) {A : Around} {outer : List Env} {s : Shared} {H : Hp} (e0 : Env0 P w K mg base A outer s H) : CellsAt F.cl ["__class__"] [some (.ref C)] s.heap H := by
  obtain ⟨cl, d, sl, hc⟩ := M.cell
  have hb := e0.bs _ _ (e0.mod.kin _ _ hc)
  have one : ∀ {y : Str} {c : Addr}, F.cl.lookup y = some c → y = "__class__" ∧ c = cc := fun {y c} h => by
    rw [M.cl] at h
    by_cases e : y = "__class__"
    · subst e
      simp at h
      exact ⟨rfl, h.symm⟩
    · have e' : (y == ("__class__" : Str)) = false := by simpa using e
      simp [List.lookup, e'] at h
  refine ⟨rfl, fun y c h => ?_, fun x y c hx hy => (one hx).1.trans (one hy).1.symm, fun i y hi => ?_⟩
  · obtain ⟨_, rfl⟩ := one h
    exact ⟨hb.2, some (.ref C), ⟨_, hb.1, rfl⟩⟩
  · match i, hi with
    | 0, hi =>
      cases hi
      refine ⟨cc, by rw [M.cl]; simp, fun v hv => ?_⟩
      cases hv
      exact ⟨.ref C, rfl, ⟨_, hb.1, rfl⟩⟩
    | i + 1, hi => simp at hi

/-- the bound __init__ of ValueError called: the error's own texts change, no more -/
theorem mw_call {X : Cx} {pins : List (Addr × Obj)} {σ : L2.St} {H : Hp} {s : Shared} {a C u : Addr} {us : List Value} {A : Around} {E : Value → Shared → Prop} {Q : Value → Shared → Prop} {nm q : Str} {N : Addr} {bs bm : List Value} {sn : List Str} {sub : List Value} {ab : Bool} {col : Option Bool} {dd : Option Addr} {k0 k1 k2 k3 k5 : Option Value}
    (hC : X.K.lookup C = some (excClassObj nm q C N bs bm true sn sub ab col dd k0 k1 k2 k3 k5 "ValueError.__new__")) (I : Inv X pins σ H s) (ea : H a = some (exo a C none)) (hu : s.heap.get? u = some (PySem.W.kxs_mw "ValueError.__init__" a)) (hl : us.length ≤ sizeLine) (h : ∀ s', Inv X pins σ H s' → Q .none s') :
    wpAny (model X.prog X.w) A (call (.ref u) us) Q E s := by
  obtain ⟨t1, ho⟩ := exo_at I.hok ea
  have KX := I.kIn
  obtain ⟨hp, g, d, t, os⟩ := s
  have key : ∀ h', (∀ b o, b ≠ a → hp.get? b = some o → h'.get? b = some o) → h'.get? a = some (PySem.W.excRec (.ref C) hp.objs.size none .none .none (.bool false)) → h'.get? hp.objs.size = some (PySem.W.excTup us) → Q .none ⟨h', g, d, t, os⟩ := fun h' k hx _ => by
    have J := I.write (t' := t) (x := a) (e := a) (o := exo a C none) (by rw [ea]; exact True.intro) (.inl rfl) k ⟨_, hx⟩ (exo_ok hx)
    have eu : upd H a (exo a C none) = H := by
      funext b
      by_cases hb : b = a
      · rw [hb, upd_same, ea]
      · rw [upd_ne hb]
    rw [eu] at J
    exact h _ J
  have FB := F.excBase_ValueError
  refine wpAny_call (codeAny_of_tree ?_)
  change wpAny _ A.in1 (callAny (.ref u) ⟨us, []⟩) _ _ _
  unfold callAny
  refine wpAny_bind (wpAny_load hu ?_)
  dsimp only [PySem.W.kxs_mw]
  rw [if_pos (by decide)]
  refine wpAny_bind (PySem.W.check_bound_init FB.toExcCallFacts (KX _ _ hC) ho rfl ?_)
  refine wpAny_bind (wpAny_pure (wpAny_pure ?_))
  exact ⟨Code.quiet_builtin _ (by decide +kernel), codeAny_builtin FB.initEntry (PySem.W.exc_init_tree (cls := .ref C) (t0 := t1) (dv := none) (c2 := .none) (c3 := .none) (b4 := .bool false) ho hl key)⟩
/-- THE RULE: such a method by its argument and the rest of its body -/
theorem sup_fn (M : SupF K P mg f F C cc fd) (S : NScope N ps ["__class__"] F.scope) {e : Expr} {rest : List Stmt} {p0 p1 p2 p3 p4 : Pos} {ar : Arg} {pl : Sem Bool}
    (hbd : F.body = .Expr (.Call (.Attribute (.Call (.Name "super" p0) [] [] p1) "__init__" p2) [e] [] p3) p4 :: rest) (har : (F.params.posonlyargs ++ F.params.args).head? = some ar) (hp0 : ps[0]? = some ar.arg)
    (hks : F.scope.names.lookup ("super" : Str) = some .globalImplicit)
    (hev : ∀ env : Env, eval (.Call (.Attribute (.Call (.Name "super" p0) [] [] p1) "__init__" p2) [e] [] p3) env = (do
      let ov ← attributeBase (.Call (.Name "super" p0) [] [] p1) "__init__" env (eval (.Call (.Name "super" p0) [] [] p1) env)
      standAt p2.atName
      let (g, first) ← holding [ov] (getMethod ov "__init__" pl)
      callWith p3 g first (backTo p3 (starEach [e] env)) []))
    (hsw : ∀ env : Env, swapsWith (.Call (.Attribute (.Call (.Name "super" p0) [] [] p1) "__init__" p2) [e] [] p3) none p4.line env = pure false)
    (hst : ∀ env : Env, starEach [e] env = [(false, eval e env)])
    (len : ∀ vs H Q E, sp vs H Q E → vs.length = ps.length)
    (hbody : ∀ (A : Around) (outer : List Env) (s : Shared) (H : Hp) (vs : List V) (Q : VK) (E : XK), Room k (A.deeper (envF F f s.heap.objs.size)) → sp vs H Q E →
      ∃ (te : TE) (t : TS) (a : Addr) (vr : List V), PE (ncx CX P w K mg base N F f A outer s H E) e te ∧ PSs (ncx CX P w K mg base N F f A outer s H E) rest t ∧ vs = .ref a :: vr ∧ H a = some (exo a C none) ∧
        te (startF N vs [some (.ref C)]) H fun v H1 => H1 a = some (exo a C none) ∧ ([v] : List V).length ≤ 1 ∧ t { nx := fun _ H' => Q .non H', rt := Q } (startF N vs [some (.ref C)]) H1) :
    FnOk P w K mg base CX (k + 1) f fd ps sp := by
  refine ⟨len, fun A outer s H args us vs Q E hr e0 hb r hsp => ?_⟩
  have hl := len _ _ _ _ hsp
  have KX : K.In s.heap := e0.mod.kin.keeps fun b o h => (e0.bs b o h).1
  have lim : s.heap.NoLimit := e0.mod.nolimit.keeps fun b o h => (e0.bs b o h).1
  have CA := M.cells e0
  obtain ⟨od, sl, doc, pm, ctv, rfl, lk⟩ := M.fn
  obtain ⟨te, t, a, vr, he, ht, rfl, ha, hq⟩ := hbody A outer s H vs Q E (hr.deeper _) hsp
  refine PySem.ks_codeAny_call_defAt (body := F.body) (binds := ps.zip us) hr.depth (KX _ _ lk) rfl lim (PySem.W.codeRec_of KX M.code) rfl hb S.nocell (fun ⟨n, v⟩ hy => S.par n (List.of_mem_zip hy).1) (fun h1 hns kp => ?_) S.co S.gen S.kind
  have I : Inv (ncx CX P w K mg base N F f A outer s H E) [] (startF N (.ref a :: vr) [some (.ref C)]) H { s with heap := h1, toks := s.toks + (ps.zip us).length } := inv_startN S hr.hd e0 hl r CA hns kp
  have hexo := exo_at I.hok ha
  obtain ⟨nm, q, Nn, bs, bm, sn, sub, ab, col, dd, k0, k1, k2, k3, k5, hC, hal⟩ := M.ex
  have hcl : PySem.W.clsIn K C = some { name := nm, bases := bs, mro := .ref C :: bm, ns := Nn, qualname := q, hasDict := true, slotNames := sn, subclasses := sub, abstract := ab, collection := col, hasDel := false } := by
    unfold PySem.W.clsIn
    rw [hC]
    try rfl
  obtain ⟨fcl, fd0, fsl, fvs, z, tz, lkc, hz, hfile⟩ := M.file
  obtain ⟨ccl, ccd, ccs, lkcell⟩ := M.cell
  obtain ⟨t1, hx⟩ := hexo
  have KX1 := I.kIn
  show _root_.PySem.wpAt _ _ _ (execs F.body (envF F f s.heap.objs.size)) _ _ _
  rw [hbd]
  refine ks_wpAt_execs_cons ?_
  have hint : interactive (envF F f s.heap.objs.size) = false := by
    unfold interactive
    simp [S.kind]
  refine ks_wpAt_Expr_any ?_ hint (hsw _)
  refine ks_wpAt_MethodCall ?_ (hev _)
  refine ks_wpAt_super_base (env := envF F f s.heap.objs.size) (ar := ar) hks (S.frk _ (List.mem_cons_self ..)) (by decide) rfl (kp _ _ (KX _ _ lk)) rfl har rfl (kp _ _ (KX _ _ lkc)) rfl hz hfile M.top ?_
  obtain ⟨mb, b1, b2⟩ := I.mod.blt
  refine PySem.W.ks_loadName_global S.kind hks (Calls.loadGlobal_builtin (I.mod.glob.keeps I.bk) M.sup (b1.keeps I.bk) ((b2 _ (by decide)).trans (show bootBuiltins "super" = some (.type "super") by decide +kernel)) ⟨rfl, ?_⟩)
  refine wpAny_loadName_free (c := cc) S.kind (S.frk _ (List.mem_cons_self ..)) (by show F.cl.lookup _ = _; rw [M.cl]; simp) ⟨_, KX1 _ _ lkcell, rfl⟩ ?_
  have hus : us[0]? = some (.ref a) := by
    cases r with
    | @cons _ u0 _ ur ra rr =>
      obtain rfl : u0 = Value.ref a := ra
      rfl
  have ndP : ps.Nodup := by
    have y := S.nd.sublist (List.take_sublist (ps.length + 1) N)
    rw [show ps.length + 1 = ps.length + (["__class__"] : List Str).length from rfl, S.pre] at y
    exact (List.nodup_append.mp y).1
  refine wpAny_loadName_local S.kind (S.par _ (List.mem_of_getElem? hp0)) hns (zip_look ndP hp0 hus) ?_
  refine ks_wpAny_isType_cls (KX1 _ _ hC) rfl ⟨rfl, ?_⟩
  have IA : PySem.W.InstAt h1 a { cls := .ref C, dict := none, data := .fields #[.ref t1, .none, .none, .none, .bool false, .none] } C none := ⟨hx, rfl, rfl, trivial⟩
  refine ks_wpAny_call_super (KX1 _ _ hC) rfl hx rfl (fun c z => by cases z) (PySem.W.looks_mroIn KX1 M.sub) (fun h2 hso k2 => ?_)
  have KX2 : K.In h2 := KX1.keeps k2
  have IA2 : PySem.W.InstAt h2 a { cls := .ref C, dict := none, data := .fields #[.ref t1, .none, .none, .none, .bool false, .none] } C none := ⟨k2 _ _ hx, rfl, rfl, trivial⟩
  refine PySem.W.kxs_getMethod PySem.W.kxs_ValueError (l := bm) hso (PySem.W.looks_opaque KX2 M.third) ((PySem.W.looks_clsIn KX2 hcl).andThen .now) (by simp [List.dropWhile_cons]) KX2 hal (IA2.type.andThen (PySem.W.looks_mroIn KX2 M.ve)) (PySem.W.ks_ne KX2 IA2 hcl) (by decide) ?_
  have lt1 : s.heap.objs.size < h1.objs.size := hns.lt
  have lt2 : h1.objs.size < h2.objs.size := Heap.lt_size hso
  have k3 : ∀ b o, h1.get? b = some o → (h2.push (PySem.W.kxs_mw "ValueError.__init__" a)).get? b = some o := fun b o z => Heap.get?_push_of_some _ (k2 _ _ z)
  have hu : (h2.push (PySem.W.kxs_mw "ValueError.__init__" a)).get? h2.objs.size = some (PySem.W.kxs_mw "ValueError.__init__" a) := Heap.get?_push_at rfl rfl
  have I2 := (I.kept (h' := h2.push (PySem.W.kxs_mw "ValueError.__init__" a)) (t' := s.toks + (ps.zip us).length + 1) k3).pins_of (pins' := [(h2.objs.size, PySem.W.kxs_mw "ValueError.__init__" a)]) fun p hp => by
    obtain rfl : p = (h2.objs.size, PySem.W.kxs_mw "ValueError.__init__" a) := by simpa using hp
    exact ⟨hu, I.hok.fresh (by show h1.objs.size ≤ _; omega), (by show h2.objs.size ≠ s.heap.objs.size; omega), I.nofs (by show h1.objs.size ≤ _; omega), fun v z => by cases z⟩
  refine PySem.W.kxs_callWith (i := "ValueError.__init__") (x := a) (by rw [hst]; rfl) ?_
  rw [hst]
  refine Calls.evalArgs_plain ?_
  have hpa : PA (ncx CX P w K mg base N F f A outer s H E) [e] (tCons te tNil) := pa_cons he pa_nil (hst _)
  have hrun := hpa.run p3 _ _ _ H (fun vs H1 => H1 a = some (exo a C none) ∧ vs.length ≤ 1 ∧ t { nx := fun _ H' => Q .non H', rt := Q } (startF N (.ref a :: vr) [some (.ref C)]) H1) I2 ?_
  · rw [show starEach [e] (ncx CX P w K mg base N F f A outer s H E).env = [(false, eval e (ncx CX P w K mg base N F f A outer s H E).env)] from hst _] at hrun
    refine thn hrun fun uv s3 ⟨vs, H3, I3, r3, a3, l3, q3⟩ => ⟨(I3.pin _ (List.mem_append_right _ (List.mem_cons_self ..))).1, ?_⟩
    refine mw_call (X := ncx CX P w K mg base N F f A outer s H E) hC I3 a3 (I3.pin _ (List.mem_append_right _ (List.mem_cons_self ..))).1 (by rw [List.nil_append, ← r3.length, sizeLine_eq]; omega) fun s4 I4 => ?_
    have I5 := I4.pins_of (pins' := []) fun p hp => nomatch hp
    refine wpAt_of_wpAny (wpAny_mono (ht.run [] s4 _ H3 _ I5 q3) (fun fl s' hs => ?_) fun e s' hs => hs)
    have fin : ∀ {σ' : L2.St} {H' : Hp} {v : V} {u : Value}, Inv (ncx CX P w K mg base N F f A outer s H E) [] σ' H' s' → L2.RelV v u → Q v H' → CE outer P w H s Q u s' := fun {σ' H' v u} J rv q => ⟨v, H', J.os, J.bare, J.base, J.hok, rv, q⟩
    cases fl with
    | ret u =>
      obtain ⟨v, σ', H', J, rv, q⟩ := hs
      exact fin J rv q
    | next =>
      obtain ⟨σ', H', J, q⟩ := hs
      exact fin (v := V.non) (u := Value.none) J rfl q
    | brk =>
      obtain ⟨_, _, _, q⟩ := hs
      exact False.elim q
    | cont =>
      obtain ⟨_, _, _, q⟩ := hs
      exact False.elim q
  · exact hq
end
end NR
set_option maxHeartbeats 4000000
namespace NR
open PySem PySem.Spec PyProof.Rows L2
open LamX NdefX
/-- what may stand in an error's text -/
def Sm (v : V) : Prop := (∃ i : Int, v = .int i ∧ i.natAbs < 10 ^ 6) ∨ ∃ z : Str, v = .str z ∧ z.length ≤ 100
theorem Sm.rd {v : V} (h : Sm v) {i : Nat} {σ : L2.St} {H : Hp} {Q : VK} (hs : σ[i]? = some (some v)) (q : ∀ y : Str, y.length ≤ 100 → Q (.str y) H) : tFmt (tVar i) σ H Q := by
  refine ⟨v, hs, ?_⟩
  rcases h with ⟨i, rfl, hi⟩ | ⟨z, rfl, hz⟩
  · refine .inr ⟨i, rfl, ?_, q _ ?_⟩
    · by_cases h0 : i.natAbs = 0
      · rw [h0]
        decide
      · refine (Nat.log2_lt h0).mpr (Nat.lt_of_lt_of_le hi ?_)
        exact Nat.le_trans (show 10 ^ 6 ≤ 2 ^ 20 by decide) (Nat.pow_le_pow_right (by decide) (by decide))
    · have h1 := int_text_length_le10 (a := i) (k := 6) (by decide) hi
      have h2 : (Str.ofString (toString i)).length = (toString i).length := PySem.ofString_length _
      omega
  · exact .inl ⟨z, rfl, le2 (by omega), q z hz⟩
theorem str_grow {a y : Str} {n : Nat} (h : a.length ≤ n) (h2 : y.length ≤ 100) : (a ++ y).length ≤ n + 100 := by
  rw [Str.length_append]
  omega
abbrev sBpInit : Stmt := inClass (top 30) 0
abbrev nfBp (c cc : Addr) : NF := ⟨"__init__", "BadProgram.__init__", defArgs sBpInit, defBody sBpInit, defScope sBpInit, [("__class__", cc)], c⟩
theorem scBp : NScope ["self", "function", "place", "word", "__class__"] ["self", "function", "place", "word"] ["__class__"] (defScope sBpInit) := nscope_by (by decide +kernel)
abbrev fsBp (v1 v2 v3 : V) : List (Str × V) := [("word", v3), ("place", v2), ("function", v1)]
def spBp (C : Addr) : Sp := fun vs H Q _ => ∃ (a : Addr) (v1 v2 v3 : V), vs = [.ref a, v1, v2, v3] ∧ Sm v1 ∧ Sm v2 ∧ Sm v3 ∧ H a = some (exo a C none) ∧
  ∀ (H' : Hp) (d : Addr), H d = none → d ≠ a → H' a = some (exo a C (some d)) → H' d = some (exd d (fsBp v1 v2 v3)) → (∀ b, b ≠ a → b ≠ d → H' b = H b) → Q .non H'
section
variable {P : Program} {w : World} {K : PySem.W.Frag} {mg : Str → Option Value} {base : Heap} {f c cc C : Addr} {fd : FuncData} {CX : CXT}
theorem ok_bpinit (M : SupF K P mg f (nfBp c cc) C cc fd) (T : OexC K C) (n1 : PySem.W.findIn K (.ref C) "function" = some none) (n2 : PySem.W.findIn K (.ref C) "place" = some none) (n3 : PySem.W.findIn K (.ref C) "word" = some none) : FnOk P w K mg base CX 1 f fd ["self", "function", "place", "word"] (spBp C) := by
  refine sup_fn (k := 0) M scBp rfl rfl rfl rfl (fun _ => rfl) (fun _ => rfl) (fun _ => rfl) (fun vs H Q E h => ?_) (fun A outer s H vs Q E hr h => ?_)
  · obtain ⟨a, v1, v2, v3, rfl, _⟩ := h
    rfl
  obtain ⟨a, v1, v2, v3, rfl, m1, m2, m3, ha, q⟩ := h
  refine ⟨_, _, a, _, pe_joined (.cons pe_str (.cons (pe_fmt (pv 1)) (.cons pe_str (.cons (pe_fmt (pv 2)) (.cons pe_str (.cons (pe_fmt (pv 3)) (.nil))))))), (pss_cons (ps_ost (pv 0) (pv 1)) (pss_cons (ps_ost (pv 0) (pv 2)) (pss_one (ps_ost (pv 0) (pv 3))))), rfl, ha, ?_⟩
  have g0 : Str.empty.length ≤ 0 := Nat.le_refl _
  have g1 := str_grow g0 (y := "function ") (by decide)
  refine ⟨_, rfl, le2 (Nat.le_trans g1 (by decide)), ?_⟩
  refine m1.rd rfl fun y1 z1 => ?_
  have g2 := str_grow g1 z1
  refine ⟨_, rfl, le2 (Nat.le_trans g2 (by decide)), ?_⟩
  have g3 := str_grow g2 (y := ", place ") (by decide)
  refine ⟨_, rfl, le2 (Nat.le_trans g3 (by decide)), ?_⟩
  refine m2.rd rfl fun y2 z2 => ?_
  have g4 := str_grow g3 z2
  refine ⟨_, rfl, le2 (Nat.le_trans g4 (by decide)), ?_⟩
  have g5 := str_grow g4 (y := ": ") (by decide)
  refine ⟨_, rfl, le2 (Nat.le_trans g5 (by decide)), ?_⟩
  refine m3.rd rfl fun y3 z3 => ?_
  have g6 := str_grow g5 z3
  refine ⟨_, rfl, le2 (Nat.le_trans g6 (by decide)), ?_⟩
  refine ⟨ha, by show 1 ≤ 1; decide, ?_⟩
  refine ⟨_, rfl, _, rfl, a, C, rfl, T, n1, .inl ⟨ha, fun d hd nd => ?_⟩⟩
  have ea : upd (upd H d (exd d [("function", v1)])) a (exo a C (some d)) a = some (exo a C (some d)) := upd_same
  have ed : upd (upd H d (exd d [("function", v1)])) a (exo a C (some d)) d = some (exd d [("function", v1)]) := by rw [upd_ne nd, upd_same]
  have eo : ∀ b, b ≠ a → b ≠ d → upd (upd H d (exd d [("function", v1)])) a (exo a C (some d)) b = H b := fun b h1 h2 => by rw [upd_ne h1, upd_ne h2]
  generalize upd (upd H d (exd d [("function", v1)])) a (exo a C (some d)) = H1 at ea ed eo ⊢
  refine ⟨_, rfl, _, rfl, a, C, rfl, T, n2, .inr ⟨d, _, ea, ed, by show 1 ≤ 900; decide, ?_⟩⟩
  replace eo : ∀ b, b ≠ a → b ≠ d → upd H1 d (exd d [("place", v2), ("function", v1)]) b = H b := fun b h1 h2 => by rw [upd_ne h2]; exact eo b h1 h2
  replace ea : upd H1 d (exd d [("place", v2), ("function", v1)]) a = some (exo a C (some d)) := by rw [upd_ne nd.symm]; exact ea
  replace ed : upd H1 d (exd d [("place", v2), ("function", v1)]) d = some (exd d [("place", v2), ("function", v1)]) := upd_same
  generalize upd H1 d (exd d [("place", v2), ("function", v1)]) = H2 at ea ed eo ⊢
  refine ⟨_, rfl, _, rfl, a, C, rfl, T, n3, .inr ⟨d, _, ea, ed, by show 2 ≤ 900; decide, ?_⟩⟩
  replace eo : ∀ b, b ≠ a → b ≠ d → upd H2 d (exd d [("word", v3), ("place", v2), ("function", v1)]) b = H b := fun b h1 h2 => by rw [upd_ne h2]; exact eo b h1 h2
  replace ea : upd H2 d (exd d [("word", v3), ("place", v2), ("function", v1)]) a = some (exo a C (some d)) := by rw [upd_ne nd.symm]; exact ea
  replace ed : upd H2 d (exd d [("word", v3), ("place", v2), ("function", v1)]) d = some (exd d [("word", v3), ("place", v2), ("function", v1)]) := upd_same
  generalize upd H2 d (exd d [("word", v3), ("place", v2), ("function", v1)]) = H3 at ea ed eo ⊢
  exact q _ d hd nd ea ed eo
end
abbrev sBtInit : Stmt := inClass (top 31) 0
abbrev nfBt (c cc : Addr) : NF := ⟨"__init__", "BadText.__init__", defArgs sBtInit, defBody sBtInit, defScope sBtInit, [("__class__", cc)], c⟩
theorem scBt : NScope ["self", "row", "place", "__class__"] ["self", "row", "place"] ["__class__"] (defScope sBtInit) := nscope_by (by decide +kernel)
abbrev fsBt (v1 v2 : V) : List (Str × V) := [("place", v2), ("row", v1)]
def spBt (C : Addr) : Sp := fun vs H Q _ => ∃ (a : Addr) (v1 v2 : V), vs = [.ref a, v1, v2] ∧ Sm v1 ∧ Sm v2 ∧ H a = some (exo a C none) ∧
  ∀ (H' : Hp) (d : Addr), H d = none → d ≠ a → H' a = some (exo a C (some d)) → H' d = some (exd d (fsBt v1 v2)) → (∀ b, b ≠ a → b ≠ d → H' b = H b) → Q .non H'
section
variable {P : Program} {w : World} {K : PySem.W.Frag} {mg : Str → Option Value} {base : Heap} {f c cc C : Addr} {fd : FuncData} {CX : CXT}
theorem ok_btinit (M : SupF K P mg f (nfBt c cc) C cc fd) (T : OexC K C) (n1 : PySem.W.findIn K (.ref C) "row" = some none) (n2 : PySem.W.findIn K (.ref C) "place" = some none) : FnOk P w K mg base CX 1 f fd ["self", "row", "place"] (spBt C) := by
  refine sup_fn (k := 0) M scBt rfl rfl rfl rfl (fun _ => rfl) (fun _ => rfl) (fun _ => rfl) (fun vs H Q E h => ?_) (fun A outer s H vs Q E hr h => ?_)
  · obtain ⟨a, v1, v2, rfl, _⟩ := h
    rfl
  obtain ⟨a, v1, v2, rfl, m1, m2, ha, q⟩ := h
  refine ⟨_, _, a, _, pe_joined (.cons pe_str (.cons (pe_fmt (pv 1)) (.cons pe_str (.cons (pe_fmt (pv 2)) (.nil))))), (pss_cons (ps_ost (pv 0) (pv 1)) (pss_one (ps_ost (pv 0) (pv 2)))), rfl, ha, ?_⟩
  have g0 : Str.empty.length ≤ 0 := Nat.le_refl _
  have g1 := str_grow g0 (y := "row ") (by decide)
  refine ⟨_, rfl, le2 (Nat.le_trans g1 (by decide)), ?_⟩
  refine m1.rd rfl fun y1 z1 => ?_
  have g2 := str_grow g1 z1
  refine ⟨_, rfl, le2 (Nat.le_trans g2 (by decide)), ?_⟩
  have g3 := str_grow g2 (y := ", place ") (by decide)
  refine ⟨_, rfl, le2 (Nat.le_trans g3 (by decide)), ?_⟩
  refine m2.rd rfl fun y2 z2 => ?_
  have g4 := str_grow g3 z2
  refine ⟨_, rfl, le2 (Nat.le_trans g4 (by decide)), ?_⟩
  refine ⟨ha, by show 1 ≤ 1; decide, ?_⟩
  refine ⟨_, rfl, _, rfl, a, C, rfl, T, n1, .inl ⟨ha, fun d hd nd => ?_⟩⟩
  have ea : upd (upd H d (exd d [("row", v1)])) a (exo a C (some d)) a = some (exo a C (some d)) := upd_same
  have ed : upd (upd H d (exd d [("row", v1)])) a (exo a C (some d)) d = some (exd d [("row", v1)]) := by rw [upd_ne nd, upd_same]
  have eo : ∀ b, b ≠ a → b ≠ d → upd (upd H d (exd d [("row", v1)])) a (exo a C (some d)) b = H b := fun b h1 h2 => by rw [upd_ne h1, upd_ne h2]
  generalize upd (upd H d (exd d [("row", v1)])) a (exo a C (some d)) = H1 at ea ed eo ⊢
  refine ⟨_, rfl, _, rfl, a, C, rfl, T, n2, .inr ⟨d, _, ea, ed, by show 1 ≤ 900; decide, ?_⟩⟩
  replace eo : ∀ b, b ≠ a → b ≠ d → upd H1 d (exd d [("place", v2), ("row", v1)]) b = H b := fun b h1 h2 => by rw [upd_ne h2]; exact eo b h1 h2
  replace ea : upd H1 d (exd d [("place", v2), ("row", v1)]) a = some (exo a C (some d)) := by rw [upd_ne nd.symm]; exact ea
  replace ed : upd H1 d (exd d [("place", v2), ("row", v1)]) d = some (exd d [("place", v2), ("row", v1)]) := upd_same
  generalize upd H1 d (exd d [("place", v2), ("row", v1)]) = H2 at ea ed eo ⊢
  exact q _ d hd nd ea ed eo
end
end NR
set_option maxHeartbeats 4000000
namespace NR
open PySem PySem.Spec PyProof.Rows L2
open LamX NdefX
/-- an own error by its name: its __init__ keeps its promise -/
structure Oke (P : Program) (w : World) (K : PySem.W.Frag) (mg : Str → Option Value) (base : Heap) (k : Nat) (x : Str) (C : Addr) (ps : List Str) (sp : Sp) : Prop where
  T : OexC K C
  ex : ∃ fI fd, PySem.W.findIn K (.ref C) "__init__" = some (some (.ref fI)) ∧ PySem.W.typeIn K (.ref fI) = some (.type "function") ∧ FnOk P w K mg base CX0 k fI fd ps sp ∧ Binds K fd ps []
  m : mg x = some (.ref C)
section
variable {X : Cx} {k : Nat} {x : Str} {C : Addr} {ps : List Str} {sp : Sp} {e : Expr} {es : List Expr} {ta : TA} {p pos : Pos}
theorem pmk_e (O : Oke X.prog X.w X.K X.mg X.base k x C ps sp) (hr : Room (k + 1) X.A) (hg : Gl X x) (ha : PA X (e :: es) ta) (hdb : (x == ("__debug__" : Str)) = false := by decide) (he : starEach (e :: es) X.env = (false, eval e X.env) :: starEach es X.env := by rfl) (hpl : (backTo pos (starEach es X.env)).any (·.1) = false := by rfl) :
    PMk X (.Call (.Name x p) (e :: es) [] pos) (tMkO C sp [] ta) := by
  obtain ⟨fI, fd, h1, h2, F, hb⟩ := O.ex
  exact pmk_oex O.T h1 h2 F hr hb .nil pass0 hg O.m ha hdb he hpl
end
/-- what is raised: a new error with these values, all else as it was -/
theorem mk_bp {H : Hp} {C : Addr} {Q : XK} {v1 v2 v3 : V} (m1 : Sm v1) (m2 : Sm v2) (m3 : Sm v3) (q : ∀ d, H d = none → Q (.ref C) (some d) (upd H d (.xd (fsBp v1 v2 v3)))) :
    ([v1, v2, v3] : List V).length ≤ 1000 ∧ ∀ a, H a = none → spBp C (.ref a :: ([v1, v2, v3] ++ [])) (upd H a (exo a C none)) (fun v H2 => v = .non ∧ ∃ (d : Addr) (fs : List (Str × V)), H2 a = some (exo a C (some d)) ∧ H2 d = some (exd d fs) ∧ H d = none ∧ Q (.ref C) (some d) (upd (del H2 a) d (.xd fs))) (fun _ _ _ => False) := by
  refine ⟨by show 3 ≤ 1000; decide, fun a ha => ⟨a, v1, v2, v3, rfl, m1, m2, m3, upd_same, fun H2 d hd nd e1 e2 e3 => ⟨rfl, d, _, e1, e2, ?_, ?_⟩⟩⟩
  · rw [upd_ne nd] at hd
    exact hd
  · have hd' : H d = none := by
      rw [upd_ne nd] at hd
      exact hd
    have e : upd (del H2 a) d (.xd (fsBp v1 v2 v3)) = upd H d (.xd (fsBp v1 v2 v3)) := by
      funext b
      by_cases h1 : b = d
      · rw [h1, upd_same, upd_same]
      · rw [upd_ne h1, upd_ne h1]
        by_cases h2 : b = a
        · rw [h2, del_same, ha]
        · rw [del_ne h2, e3 b h2 h1, upd_ne h2]
    rw [e]
    exact q d hd'
theorem mk_bt {H : Hp} {C : Addr} {Q : XK} {v1 v2 : V} (m1 : Sm v1) (m2 : Sm v2) (q : ∀ d, H d = none → Q (.ref C) (some d) (upd H d (.xd (fsBt v1 v2)))) :
    ([v1, v2] : List V).length ≤ 1000 ∧ ∀ a, H a = none → spBt C (.ref a :: ([v1, v2] ++ [])) (upd H a (exo a C none)) (fun v H2 => v = .non ∧ ∃ (d : Addr) (fs : List (Str × V)), H2 a = some (exo a C (some d)) ∧ H2 d = some (exd d fs) ∧ H d = none ∧ Q (.ref C) (some d) (upd (del H2 a) d (.xd fs))) (fun _ _ _ => False) := by
  refine ⟨by show 2 ≤ 1000; decide, fun a ha => ⟨a, v1, v2, rfl, m1, m2, upd_same, fun H2 d hd nd e1 e2 e3 => ⟨rfl, d, _, e1, e2, ?_, ?_⟩⟩⟩
  · rw [upd_ne nd] at hd
    exact hd
  · have hd' : H d = none := by
      rw [upd_ne nd] at hd
      exact hd
    have e : upd (del H2 a) d (.xd (fsBt v1 v2)) = upd H d (.xd (fsBt v1 v2)) := by
      funext b
      by_cases h1 : b = d
      · rw [h1, upd_same, upd_same]
      · rw [upd_ne h1, upd_ne h1]
        by_cases h2 : b = a
        · rw [h2, del_same, ha]
        · rw [del_ne h2, e3 b h2 h1, upd_ne h2]
    rw [e]
    exact q d hd'
/-- a refusal: an error of class C with these values, all that was stays -/
def Ref (C : Addr) (fs : List (Str × V)) (H : Hp) (E : XK) : Prop := ∀ (H' : Hp) (d : Addr), Same H H' → H d = none → H' d = some (.xd fs) → E (.ref C) (some d) H'
theorem Ref.of {C : Addr} {fs : List (Str × V)} {H : Hp} {E : XK} (r : Ref C fs H E) {d : Addr} (hd : H d = none) : E (.ref C) (some d) (upd H d (.xd fs)) := r _ d (same_new hd _) hd upd_same
theorem Ref.same {C : Addr} {fs : List (Str × V)} {H H1 : Hp} {E : XK} (r : Ref C fs H E) (s : Same H H1) : Ref C fs H1 E := fun H' d s' hd e => r H' d (s.trans s') (s.free hd) e
def spRefX (C CB : Addr) : Sp := fun vs H Q E => ∃ (a dx kn : Addr) (fn : Int) (at_ : Nat) (sf b : Bool) (p : Nat) (z : Str), vs = [.ref a, .bl b, .int (p : Int), .str z] ∧ H a = some (.ins C dx (lkF kn fn at_ sf)) ∧ 0 ≤ fn ∧ fn ≤ 1000 ∧ p ≤ 1000 ∧ z.length ≤ 100 ∧ (b = false → Q .non H) ∧ (b = true → Ref CB (fsBp (.int fn) (.int (p : Int)) (.str z)) H E)
section
variable {P : Program} {w : World} {K : PySem.W.Frag} {mg : Str → Option Value} {base : Heap} {f : Addr} {fd : FuncData}

theorem ok_refuseX {C CB : Addr} {k : Nat} (F : FnM K "refuse_if" "Look.refuse_if" sLookRefuseIf f fd) (N : LkC K C) (X_BadProgram : Oke P w K mg base k "BadProgram" CB ["self", "function", "place", "word"] (spBp CB)) : FnOk P w K mg base (CX P w) (k + 2) f fd ["self", "wrong", "place", "word"] (spRefX C CB) := by
  have sc := scsLookRefuseIf
  refine F.ok sc (fun vs H Q E h => ?_) (fun cdv A outer s H vs Q E hr h => ?_)
  · obtain ⟨a, dx, kn, fn, at_, sf, b, p, z, rfl, _⟩ := h
    rfl
  obtain ⟨a, dx, kn, fn, at_, sf, b, p, z, rfl, ha, f0, f1, p1, z1, q0, q1⟩ := h
  refine ⟨_, pss_one (ps_if (pt_val (pv 1)) (pss_one (ps_raise rfl (takes_of rfl rfl rfl rfl) (pmk_e X_BadProgram hr rfl (pa_cons (pe_fldK K (pv 0) rfl) (pa_cons (pv 2) (pa_cons (pv 3) pa_nil)))))) pss_nil), ?_⟩
  refine ⟨_, rfl, _, rfl, ite2 (fun c => ?_) (fun c => ?_)⟩
  · subst c
    refine ⟨_, rfl, a, C, dx, _, _, rfl, ha, N.cl, N.function, lkF_function, _, rfl, _, rfl, ?_⟩
    refine mk_bp (.inl ⟨fn, rfl, by omega⟩) (.inl ⟨p, rfl, by omega⟩) (.inr ⟨z, rfl, z1⟩) fun d hd => (q1 rfl).of hd
  · exact q0 (by cases b <;> simp_all)
end
end NR
set_option maxHeartbeats 4000000
namespace NR
open PySem PySem.Spec PyProof.Rows L2

/-- a number with a needless 0 ahead -/
def NoN (x : Str) : Prop := ∃ (c : Nat) (r : List Nat), TL.tl x = 48 :: c :: r ∧ x.length ≤ 20
def spNumeralNo : Sp := fun vs H Q _ => ∃ (x : Str), vs = [.str x] ∧ NoN x ∧ Q (.bl false) H
section
variable {P : Program} {w : World} {K : PySem.W.Frag} {mg : Str → Option Value} {base : Heap} {f : Addr} {fd : FuncData}
theorem ok_numeralno (F : FnP K "is_numeral" sIsNumeral f fd) {t0 : Tok} (m_MOST_FIGURES : mg "MOST_FIGURES" = some (.int 5 t0)) (z_len : mg "len" = none) : FnOk P w K mg base CX0 1 f fd ["word"] spNumeralNo := by
  have sc := scsIsNumeral
  refine F.ok sc (fun vs H Q E h => ?_) (fun cdv A outer s H vs Q E hr h => ?_)
  · obtain ⟨x, rfl, _⟩ := h
    rfl
  obtain ⟨x, rfl, ⟨c, r, e3, hl⟩, q⟩ := h
  have big : 1000 ≤ sizeLine := by decide
  refine ⟨_, (pss_cons (ps_if (PW.pt (pw_or (pt_not (pt_val (L2.pe_m0 PySem.F.slot_str_isdigit PySem.F.type_str_isdigit mt_isdigit (pv 0)))) (pw_or1 (pt_cmpR op_gt (pe_callB call_len_str rfl z_len PySem.boot_len (pa_cons (pv 0) pa_nil)) (pe_gI rfl m_MOST_FIGURES) (nomark _))))) (pss_one (ps_ret pe_bl)) pss_nil)
    (pss_one (ps_ret (pe_or (pe_cmpR op_eq (pv 0) pe_str (nomark _)) (pe_one (pe_cmpR op_ne (pe_ix ix_str (pv 0) pe_int (fun _ _ => rfl)) pe_str (nomark _))))))), ?_⟩
  refine ⟨_, rfl, ⟨_, rfl⟩, _, rfl, rfl, trivial, ?_⟩
  have ne0 : x ≠ ("0" : Str) := fun h => by
    rw [h] at e3
    have e4 : TL.tl ("0" : Str) = [48] := by decide +kernel
    rw [e4] at e3
    injection e3 with _ e3
    cases e3
  by_cases hd : Txt.isdigit x = true
  · rw [hd]
    refine ⟨_, rfl, ite2 (fun z => absurd z (by decide)) (fun _ => ?_)⟩
    refine ⟨_, rfl, _, rfl, by omega, _, _, rfl, rfl, _, rfl, ite2 (fun _ => q) (fun _ => ?_)⟩
    have d0 : decide (V.str x = V.str "0") = false := decide_eq_false fun h => ne0 (by injection h)
    refine ⟨_, rfl, rfl, ?_⟩
    rw [d0]
    refine ⟨_, rfl, ?_⟩
    refine ⟨_, rfl, _, _, 48, rfl, rfl, by omega, ?_, rfl, ?_⟩
    · show atI (TL.tl x) 0 = some 48
      rw [e3]
      simp only [atI, ixN, List.length_cons]
      rw [if_pos (by decide), if_pos (by omega)]
      rfl
    · have d1 : decide (V.str ⟨#[48]⟩ = V.str "0") = true := by decide +kernel
      rw [d1]
      exact q
  · rw [Bool.not_eq_true] at hd
    rw [hd]
    exact ⟨_, rfl, ite2 (fun _ => q) (fun z => absurd rfl z)⟩
end

theorem rdF_row {row wl p} : (rdF row wl p).lookup ("row" : Str) = some (.int row) := by rfl
def spNextX (C CT : Addr) : Sp := fun vs H Q E => ∃ (a dx wl : Addr) (row : Int) (p : Nat) (ws : List Str), vs = [.ref a, .bl false] ∧ RdIn H C a dx wl row p ws ∧ 0 ≤ row ∧ row ≤ 1000 ∧ p ≤ 5000 ∧ Ref CT (fsBt (.int row) (.int (p : Int))) H E
def spNmlX (C CT : Addr) : Sp := fun vs H Q E => ∃ (a dx wl : Addr) (row : Int) (p : Nat) (ws : List Str) (x : Str), vs = [.ref a] ∧ RdIn H C a dx wl row p ws ∧ ws[p]? = some x ∧ NoN x ∧ 0 ≤ row ∧ row ≤ 1000 ∧ p ≤ 5000 ∧ Ref CT (fsBt (.int row) (.int (p : Int))) H E
def spExprX (C CT : Addr) : Sp := fun vs H Q E => ∃ (a dx wl : Addr) (row : Int) (p : Nat) (ws : List Str) (x : W) (y : Str) (rest : List Str), vs = [.ref a] ∧ RdIn H C a dx wl row p ws ∧ ws.drop p = [("(" : Str)] ++ ([x.str] ++ ([y] ++ rest)) ∧ x.numd = true ∧ NoN y ∧ 0 ≤ row ∧ row ≤ 1000 ∧ p ≤ 4000 ∧ ∀ H1, SameX a H H1 → Ref CT (fsBt (.int row) (.int ((p + 2 : Nat) : Int))) H1 E
section
variable {P : Program} {w : World} {K : PySem.W.Frag} {mg : Str → Option Value} {base : Heap} {f : Addr} {fd : FuncData}

theorem ok_nextx {k : Nat} {C CT : Addr} (F : FnM K "next_word" "RowReader.next_word" sRowReaderNextWord f fd) (N : RrC K C) (X_BadText : Oke P w K mg base k "BadText" CT ["self", "row", "place"] (spBt CT)) : FnOk P w K mg base (CX P w) (k + 2) f fd ["self", "can_stand"] (spNextX C CT) := by
  have sc := scsRowReaderNextWord
  refine F.ok sc (fun vs H Q E h => ?_) (fun cdv A outer s H vs Q E hr h => ?_)
  · obtain ⟨a, dx, wl, row, p, ws, rfl, _⟩ := h
    rfl
  obtain ⟨a, dx, wl, row, p, ws, rfl, r, h0, h1, h2, q⟩ := h
  refine ⟨_, (pss_cons (ps_if (pt_not (pt_val (pv 1))) (pss_one (ps_raise rfl (takes_of rfl rfl rfl rfl) (pmk_e X_BadText hr rfl (pa_cons (pe_fldK K (pv 0) rfl) (pa_cons (pe_fldK K (pv 0) rfl) pa_nil))))) pss_nil)
    (pss_cons (ps_fldaug (pv 0) pe_int in_add)
    (pss_one (ps_ret (pe_ix (ix_listK K) (pe_fldK K (pv 0) rfl) (pe_op op_sub (pe_fldK K (pv 0) rfl) pe_int) (fun _ _ => rfl)))))), ?_⟩
  refine ⟨_, rfl, _, rfl, ite2 (fun _ => ?_) (fun z => absurd rfl z)⟩
  refine ⟨_, rfl, a, C, dx, _, _, rfl, r.ha, N.cl, N.row, rdF_row, _, rfl, a, C, dx, _, _, rfl, r.ha, N.cl, N.place, rdF_place, ?_⟩
  exact mk_bt (.inl ⟨row, rfl, by omega⟩) (.inl ⟨p, rfl, by omega⟩) fun d hd => q.of hd
theorem ok_nmlx {k : Nat} {C CT : Addr} (F : FnM K "numeral" "RowReader.numeral" sRowReaderNumeral f fd) (hk : 1 ≤ k) (M_upcoming : Okm P w K mg base CX0 k C "upcoming" ["self"] (spUpc C)) (M_next_word : Okm P w K mg base (CX P w) k C "next_word" ["self", "can_stand"] (spNextX C CT)) (O_is_numeral : Okf P w K mg base CX0 k "is_numeral" ["word"] spNumeralNo) (z_int : mg "int" = none) : FnOk P w K mg base (CX P w) (k + 1) f fd ["self"] (spNmlX C CT) := by
  have sc := scsRowReaderNumeral
  refine F.ok sc (fun vs H Q E h => ?_) (fun cdv A outer s H vs Q E hr h => ?_)
  · obtain ⟨a, dx, wl, row, p, ws, x, rfl, _⟩ := h
    rfl
  obtain ⟨a, dx, wl, row, p, ws, x, rfl, r, hx, nn, h0, h1, h2, q⟩ := h
  refine ⟨_, (pss_one (ps_ret (pe_callTy call_int_str rfl z_int (by decide +kernel) (pa_cons (pe_m M_next_word (pv 0) hr (passes_call (takes_of rfl rfl rfl rfl) (fun _ _ _ _ h => h)) (pa_cons (pe_c O_is_numeral hr rfl pass0 (pa_cons (pe_m0 M_upcoming (pv 0) hr pass0) pa_nil)) pa_nil)) pa_nil)))), ?_⟩
  exact ⟨_, rfl, a, dx, _, rfl, r.ha, rdF_no (by decide +kernel) (by decide +kernel) (by decide +kernel), _, rfl, a, dx, _, rfl, r.ha, rdF_no (by decide +kernel) (by decide +kernel) (by decide +kernel), a, dx, wl, row, p, ws, x, rfl, r, hx, x, rfl, nn, a, dx, wl, row, p, ws, rfl, r, h0, h1, h2, q⟩
theorem ok_exprx {k n : Nat} {C CT aN aL : Addr} (F : FnM K "expression" "RowReader.expression" sRowReaderExpression f fd) (N : RrC K C) (M_upcoming : Okm P w K mg base CX0 k C "upcoming" ["self"] (spUpc C)) (M_next_word : Okm P w K mg base CX0 k C "next_word" ["self", "can_stand"] (spNext C)) (M_numeral : Okm P w K mg base (CX P w) k C "numeral" ["self"] (spNmlX C CT)) (M_sign : Okm P w K mg base CX0 k C "sign" ["self", "wanted"] (spSign C)) (M_expression : Okm P w K mg base CX0 k C "expression" ["self"] (spExpr C n))
    (m_NUMBERED : mg "NUMBERED" = some (.ref aN)) (hN : ∀ H, SqT K H aN numW) (m_LENGTHS : mg "LENGTHS" = some (.ref aL)) (T_LENGTHS : Tbl K w aL gLen) (z_tuple : mg "tuple" = none) : FnOk P w K mg base (CX P w) (k + 1) f fd ["self"] (spExprX C CT) := by
  have sc := scsRowReaderExpression
  refine F.ok sc (fun vs H Q E h => ?_) (fun cdv A outer s H vs Q E hr h => ?_)
  · obtain ⟨a, dx, wl, row, p, ws, x, y, rest, rfl, _⟩ := h
    rfl
  obtain ⟨a, dx, wl, row, p, ws, x, y, rest, rfl, r, w0, hx, nn, h0, h1, h2, q⟩ := h
  have w1 := drop_of w0
  have w2 := drop_of w1
  refine ⟨_, (pss_cons (ps_expr (pe_m M_sign (pv 0) hr pass0 (pa_cons pe_str pa_nil)))
    (pss_cons (ps_set (i := 1) sc.nd rfl (.inl rfl) (pe_m M_next_word (pv 0) hr pass0 (pa_cons (pe_cmpR (op_inTbl T_LENGTHS) (pe_m0 M_upcoming (pv 0) hr pass0) (pe_gR rfl m_LENGTHS) (by rfl)) pa_nil)))
    (pss_cons (ps_set (i := 2) sc.nd rfl (.inl rfl) (pe_ifExp (pt_cmpR (op_inK K) (pv 1) (pe_gR rfl m_NUMBERED) (by rfl)) (pe_tup (pa_cons (pv 1) (pa_cons (pe_m0 M_numeral (pv 0) hr (passes_call (takes_of rfl rfl rfl rfl) (fun _ _ _ _ h => h))) pa_nil))) (pe_tup (pa_cons (pv 1) pa_nil))))
    (pss_cons (ps_set (i := 3) sc.nd rfl (.inl rfl) (pe_lst pa_nil))
    (pss_cons (ps_while (passes_of rfl) (pt_cmpR op_eq (pe_m0 M_upcoming (pv 0) hr pass0) pe_str (nomark _)) (pss_one (ps_expr (pe_bm PySem.F.plainAttrs_list PySem.F.slot_list_append PySem.F.type_list_append mt_append (pv 3) (pa_cons (pe_m0 M_expression (pv 0) hr pass0) pa_nil)))))
    (pss_cons (ps_expr (pe_m M_sign (pv 0) hr pass0 (pa_cons pe_str pa_nil)))
    (pss_cons (ps_if (pt_cmpR op_eq (pv 1) pe_str (nomark _)) (pss_one (ps_ret (pe_op (op_catTK K) (pv 2) (pe_tup (pa_cons (pe_callTy (call_tupleK K) rfl z_tuple (by decide +kernel) (pa_cons (pv 3) pa_nil)) pa_nil))))) pss_nil)
    (pss_one (ps_ret (pe_op (op_catTK K) (pv 2) (pe_callTy (call_tupleK K) rfl z_tuple (by decide +kernel) (pa_cons (pv 3) pa_nil)))))))))))), ?_⟩
  refine ⟨_, rfl, a, dx, _, rfl, r.ha, rdF_no (by decide +kernel) (by decide +kernel) (by decide +kernel), a, dx, wl, row, p, ws, "(", rfl, r, get_of w0, fun H1 r1 => ?_⟩
  refine ⟨_, rfl, a, dx, _, rfl, r1.r.ha, rdF_no (by decide +kernel) (by decide +kernel) (by decide +kernel), _, rfl, a, dx, _, rfl, r1.r.ha, rdF_no (by decide +kernel) (by decide +kernel) (by decide +kernel), a, dx, wl, row, p + 1, ws, x.str, rfl, r1.r, get_of w1, ?_⟩
  refine ⟨x, _, rfl, rfl, rfl, a, dx, wl, row, p + 1, ws, x.str, rfl, r1.r, get_of w1, fun H2 r2 => ?_⟩
  have r02 := r1.trans r2
  dsimp only [gName]
  refine ⟨_, rfl, aN, _, rfl, .inr (hN _), rfl, rfl, _, rfl, ?_⟩
  have e2 : (if (false = true) then !inV (.str x.str) numW else inV (.str x.str) numW) = x.numd := inNum x
  refine ite2 (fun _ => ?_) (fun z => absurd (e2.trans hx) z)
  exact ⟨_, rfl, _, rfl, a, dx, _, rfl, r2.r.ha, rdF_no (by decide +kernel) (by decide +kernel) (by decide +kernel), a, dx, wl, row, p + 1 + 1, ws, y, rfl, r2.r, get_of w2, nn, h0, h1, by omega, q _ r02.s⟩
end
/-- rows that are refused: by the number of their body, or by the name of their first param -/
inductive BdRow : List Str → Nat → Prop
  | body {d : Int} {x : W} {y : Str} {rest : List Str} : 0 ≤ d → d ≤ 10006 → x.numd = true → NoN y → BdRow (iT d :: iT 0 :: ("(" : Str) :: x.str :: y :: rest) 4
  | name {d m : Int} {y : Str} {rest : List Str} : 0 ≤ d → d ≤ 10006 → 1 ≤ m → m ≤ 10006 → NoN y → BdRow (iT d :: iT m :: y :: rest) 2
def spNmlB (C CT : Addr) : Sp := fun vs H Q E => spNml C vs H Q E ∨ spNmlX C CT vs H Q E
def spFTX (C CT : Addr) : Sp := fun vs H Q E => ∃ (a dx wl : Addr) (row : Int) (ws : List Str) (pl : Nat), vs = [.ref a] ∧ RdIn H C a dx wl row 0 ws ∧ BdRow ws pl ∧ 0 ≤ row ∧ row ≤ 1000 ∧ ∀ H1, SameX a H H1 → Ref CT (fsBt (.int row) (.int (pl : Int))) H1 E
section
variable {P : Program} {w : World} {K : PySem.W.Frag} {mg : Str → Option Value} {base : Heap} {f : Addr} {fd : FuncData}

theorem ok_ftx {k : Nat} {C CT : Addr} (F : FnM K "function_told" "RowReader.function_told" sRowReaderFunctionTold f fd) (N : RrC K C) (M_numeral : Okm P w K mg base (CX P w) (k + 1) C "numeral" ["self"] (spNmlB C CT)) (M_expression : Okm P w K mg base (CX P w) (k + 1) C "expression" ["self"] (spExprX C CT)) (X_BadText : Oke P w K mg base k "BadText" CT ["self", "row", "place"] (spBt CT)) (z_len : mg "len" = none) (z_tuple : mg "tuple" = none) : FnOk P w K mg base (CX P w) (k + 2) f fd ["self"] (spFTX C CT) := by
  have sc := scsRowReaderFunctionTold
  refine F.ok sc (fun vs H Q E h => ?_) (fun cdv A outer s H vs Q E hr h => ?_)
  · obtain ⟨a, dx, wl, row, ws, pl, rfl, _⟩ := h
    rfl
  obtain ⟨a, dx, wl, row, ws, plc, rfl, r, bd, h0, h1, q⟩ := h
  have big : 100000 ≤ sizeLine := by decide
  obtain ⟨d, m, ws2, rfl, d0, d1, m0, m1, cs⟩ : ∃ (d m : Int) (ws2 : List Str), ws = iT d :: iT m :: ws2 ∧ 0 ≤ d ∧ d ≤ 10006 ∧ 0 ≤ m ∧ m ≤ 10006 ∧ ((m = 0 ∧ plc = 4 ∧ ∃ x y rest, ws2 = ("(" : Str) :: W.str x :: y :: rest ∧ x.numd = true ∧ NoN y) ∨ (1 ≤ m ∧ plc = 2 ∧ ∃ y rest, ws2 = y :: rest ∧ NoN y)) := by
    cases bd with
    | body a b c e => exact ⟨_, _, _, rfl, a, b, by decide, by decide, .inl ⟨rfl, rfl, _, _, _, rfl, c, e⟩⟩
    | name a b c e g => exact ⟨_, _, _, rfl, a, b, by omega, e, .inr ⟨c, rfl, _, _, rfl, g⟩⟩
  refine ⟨_, (pss_cons (ps_set (i := 1) sc.nd rfl (.inl rfl) (pe_m0 M_numeral (pv 0) hr (passes_call (takes_of rfl rfl rfl rfl) (fun _ _ _ _ h => h))))
    (pss_cons (ps_set (i := 2) sc.nd rfl (.inl rfl) (pe_m0 M_numeral (pv 0) hr (passes_call (takes_of rfl rfl rfl rfl) (fun _ _ _ _ h => h))))
    (pss_cons (ps_set (i := 3) sc.nd rfl (.inl rfl) (pe_lst pa_nil))
    (pss_cons (ps_while (passes_of rfl) (pt_cmpR op_lt (pe_callB (call_lenK K) rfl z_len PySem.boot_len (pa_cons (pv 3) pa_nil)) (pv 2) (nomark _)) (pss_cons (ps_set (i := 4) sc.nd rfl (.inl rfl) (pe_m0 M_numeral (pv 0) hr (passes_call (takes_of rfl rfl rfl rfl) (fun _ _ _ _ h => h))))
    (pss_one (ps_expr (pe_bm PySem.F.plainAttrs_list PySem.F.slot_list_append PySem.F.type_list_append mt_append (pv 3) (pa_cons (pe_tup (pa_cons (pv 4) (pa_cons (pe_m0 M_numeral (pv 0) hr (passes_call (takes_of rfl rfl rfl rfl) (fun _ _ _ _ h => h))) pa_nil))) pa_nil))))))
    (pss_cons (ps_set (i := 5) sc.nd rfl (.inl rfl) (pe_m0 M_expression (pv 0) hr (passes_call (takes_of rfl rfl rfl rfl) (fun _ _ _ _ h => h))))
    (pss_cons (ps_if (pt_cmpR op_lt (pe_fldK K (pv 0) rfl) (pe_callB (call_lenK K) rfl z_len PySem.boot_len (pa_cons (pe_fldK K (pv 0) rfl) pa_nil)) (nomark _)) (pss_one (ps_raise rfl (takes_of rfl rfl rfl rfl) (pmk_e X_BadText hr rfl (pa_cons (pe_fldK K (pv 0) rfl) (pa_cons (pe_fldK K (pv 0) rfl) pa_nil))))) pss_nil)
    (pss_one (ps_ret (pe_tup (pa_cons (pe_callTy (call_tupleF K) rfl z_tuple (by decide +kernel) (pa_cons (pv 3) pa_nil)) (pa_cons (pv 1) (pa_cons (pv 5) pa_nil)))))))))))), ?_⟩
  refine ⟨_, rfl, a, dx, _, rfl, r.ha, rdF_no (by decide +kernel) (by decide +kernel) (by decide +kernel), .inl ⟨a, dx, wl, row, 0, _, d, rfl, r, rfl, d0, d1, fun H1 r1 => ?_⟩⟩
  refine ⟨_, rfl, a, dx, _, rfl, r1.r.ha, rdF_no (by decide +kernel) (by decide +kernel) (by decide +kernel), .inl ⟨a, dx, wl, row, 1, _, m, rfl, r1.r, rfl, m0, m1, fun H2 r2 => ?_⟩⟩
  have r02 := r1.trans r2
  refine ⟨by show 0 ≤ sizeLine; decide, fun pl hpl => ?_⟩
  have s4 := same_new hpl (.lst [])
  have e4 : upd H2 pl (.lst []) pl = some (.lst []) := upd_same
  generalize upd H2 pl (.lst []) = H4 at s4 e4 ⊢
  have r04 := r02.same s4
  refine ⟨fun m' σ H' => m' = 0 ∧ σ = [some (.ref a), some (.int d), some (.int m), some (.ref pl), none, none] ∧ H' = H4, ⟨0, rfl, rfl, rfl⟩, ?_⟩
  rintro m' σ H5 ⟨rfl, rfl, rfl⟩
  refine ⟨_, rfl, pl, _, rfl, .inl (SqL.of e4), _, rfl, _, _, rfl, rfl, _, rfl, ?_⟩
  rcases cs with ⟨rfl, rfl, x, y, rest, rfl, hx, nn⟩ | ⟨hm, rfl, y, rest, rfl, nn⟩
  · refine ite2 (fun z => absurd (of_decide_eq_true z) (by decide)) (fun _ => ?_)
    exact ⟨_, rfl, a, dx, _, rfl, r04.r.ha, rdF_no (by decide +kernel) (by decide +kernel) (by decide +kernel), a, dx, wl, row, 2, _, x, y, rest, rfl, r04.r, rfl, hx, nn, h0, h1, by decide, fun H6 s6 => q _ (r04.s.trans s6)⟩
  · refine ite2 (fun _ => ?_) (fun z => absurd (decide_eq_true (show (0 : Int) < m by omega)) z)
    exact ⟨fun _ _ => False, fun _ _ h => h.elim, _, rfl, a, dx, _, rfl, r04.r.ha, rdF_no (by decide +kernel) (by decide +kernel) (by decide +kernel), .inr ⟨a, dx, wl, row, 2, _, y, rfl, r04.r, rfl, nn, h0, h1, by decide, q _ r04.s⟩⟩
end
end NR
set_option maxHeartbeats 4000000
namespace NR
open PySem PySem.Spec PyProof.Rows L2

/-- expressions without a good shape (of words that there are) -/
inductive ShNo (H : Hp) : V → Prop
  | nil {a : Addr} : H a = some (.tup []) → ShNo H (.ref a)
  | len {a : Addr} {x : W} {xs : List V} : H a = some (.tup (.str x.str :: xs)) → xs.length + 1 ≠ lenOf x → ShNo H (.ref a)
  | num {a : Addr} {x : W} {n : Int} {xs : List V} : H a = some (.tup (.str x.str :: .int n :: xs)) → xs.length + 2 = lenOf x → x.numd = true → ¬ (0 ≤ n ∧ n ≤ lastOf x) → ShNo H (.ref a)
theorem ShNo.same {H H' : Hp} (s : TK H H') {v : V} (h : ShNo H v) : ShNo H' v := by
  cases h with
  | nil a => exact .nil (s _ _ a)
  | len a b => exact .len (s _ _ a) b
  | num a b c d => exact .num (s _ _ a) b c d
def spShNo : Sp := fun vs H Q _ => ∃ v : V, vs = [v] ∧ ShNo H v ∧ Q (.bl false) H
section
variable {P : Program} {w : World} {K : PySem.W.Frag} {mg : Str → Option Value} {base : Heap} {f : Addr} {fd : FuncData}

theorem ok_shno (F : FnP K "has_shape" sHasShape f fd) {aN aL : Addr} (m_NUMBERED : mg "NUMBERED" = some (.ref aN)) (hN : ∀ H, SqT K H aN numW) (m_LENGTHS : mg "LENGTHS" = some (.ref aL)) (T_LENGTHS : Tbl K w aL gLen)
    (O_is_number : Okf P w K mg base CX0 1 "is_number" ["value", "last"] spIsNum) (O_last_number : Okf P w K mg base CX0 1 "last_number" ["word"] spLast)
    (z_isinstance : mg "isinstance" = none) (z_tuple : mg "tuple" = none) (z_len : mg "len" = none) (z_str : mg "str" = none) : FnOk P w K mg base CX0 2 f fd ["expression"] spShNo := by
  have sc := scsHasShape
  refine F.ok sc (fun vs H Q E h => ?_) (fun cdv A outer s H vs Q E hr h => ?_)
  · obtain ⟨v, rfl, _⟩ := h
    rfl
  obtain ⟨v, rfl, no, q⟩ := h
  refine ⟨_, (pss_cons (ps_if (PW.pt (pw_or (pt_not (pt_val (pe_callB (call_isiK K) rfl z_isinstance (by decide +kernel) (pa_cons (pv 0) (pa_cons (pe_bltn (v := .ty "tuple") rfl z_tuple (by decide +kernel) rfl) pa_nil))))) (pw_or1 (pt_cmpR op_eq (pe_callB (call_lenK K) rfl z_len PySem.boot_len (pa_cons (pv 0) pa_nil)) pe_int (nomark _))))) (pss_one (ps_ret pe_bl)) pss_nil)
    (pss_cons (ps_set (i := 1) sc.nd rfl (.inl rfl) (pe_ix (ix_tupK K) (pv 0) pe_int (fun _ _ => rfl)))
    (pss_cons (ps_if (PW.pt (pw_or (pt_not (pt_val (pe_callB (call_isiK K) rfl z_isinstance (by decide +kernel) (pa_cons (pv 1) (pa_cons (pe_bltn (v := .ty "str") rfl z_str (by decide +kernel) rfl) pa_nil))))) (pw_or (pt_cmpR (op_notInTbl T_LENGTHS) (pv 1) (pe_gR rfl m_LENGTHS) (by rfl)) (pw_or1 (pt_cmpR op_ne (pe_callB (call_lenK K) rfl z_len PySem.boot_len (pa_cons (pv 0) pa_nil)) (pe_ix (ix_tbl T_LENGTHS) (pe_gR rfl m_LENGTHS) (pv 1) (fun _ _ => rfl)) (nomark _)))))) (pss_one (ps_ret pe_bl)) pss_nil)
    (pss_cons (ps_if (PW.pt (pw_and (pt_cmpR (op_inK K) (pv 1) (pe_gR rfl m_NUMBERED) (by rfl)) (pw_and1 (pt_not (pt_val (pe_c O_is_number hr rfl pass0 (pa_cons (pe_ix (ix_tupK K) (pv 0) pe_int (fun _ _ => rfl)) (pa_cons (pe_c O_last_number hr rfl pass0 (pa_cons (pv 1) pa_nil)) pa_nil)))))))) (pss_one (ps_ret pe_bl)) pss_nil)
    (pss_one (ps_ret (pe_or (pe_cmpR op_ne (pv 1) pe_str (nomark _)) (pe_one (pe_callB (call_isiK K) rfl z_isinstance (by decide +kernel) (pa_cons (pe_ix (ix_tupK K) (pv 0) pe_int (fun _ _ => rfl)) (pa_cons (pe_bltn (v := .ty "tuple") rfl z_tuple (by decide +kernel) rfl) pa_nil))))))))))), ?_⟩
  cases no with
  | @nil a ha =>
    refine ⟨_, rfl, _, _, _, _, _, rfl, .ty _, .base (.tup ha), kit_ty (r := true) (by decide +kernel), _, rfl, ?_⟩
    refine ite2 (fun z => nomatch z) (fun _ => ?_)
    refine ⟨_, rfl, a, _, rfl, .inr (SqT.of ha), rfl, _, rfl, ?_⟩
    exact ite2 (fun _ => q) (fun z => absurd rfl z)
  | @len a x xs ha hl =>
    refine ⟨_, rfl, _, _, _, _, _, rfl, .ty _, .base (.tup ha), kit_ty (r := true) (by decide +kernel), _, rfl, ?_⟩
    refine ite2 (fun z => nomatch z) (fun _ => ?_)
    refine ⟨_, rfl, a, _, rfl, .inr (SqT.of ha), rfl, _, rfl, ?_⟩
    refine ite2 (fun _ => q) (fun _ => ?_)
    refine ⟨_, rfl, a, _, _, .str x.str, rfl, rfl, SqT.of ha, at0, ?_⟩
    refine ⟨_, rfl, _, _, _, _, _, rfl, .ty _, .base (.str _), kit_ty (r := true) (by decide +kernel), _, rfl, ?_⟩
    refine ite2 (fun z => nomatch z) (fun _ => ?_)
    refine ⟨_, rfl, x, _, rfl, rfl, rfl, _, rfl, ?_⟩
    refine ite2 (fun z => nomatch z) (fun _ => ?_)
    refine ⟨_, rfl, a, _, rfl, .inr (SqT.of ha), _, rfl, x, _, rfl, rfl, rfl, rfl, _, rfl, ?_⟩
    have e0 : decide (V.int ((V.str x.str :: xs).length : Int) = V.int (lenOf x : Int)) = false := decide_eq_false fun z => by
      injection z with z
      rw [List.length_cons] at z
      omega
    refine ite2 (fun _ => q) (fun z => ?_)
    rw [e0] at z
    exact absurd rfl z
  | @num a x n xs ha hl hx hn =>
    refine ⟨_, rfl, _, _, _, _, _, rfl, .ty _, .base (.tup ha), kit_ty (r := true) (by decide +kernel), _, rfl, ?_⟩
    refine ite2 (fun z => nomatch z) (fun _ => ?_)
    refine ⟨_, rfl, a, _, rfl, .inr (SqT.of ha), rfl, _, rfl, ?_⟩
    refine ite2 (fun _ => q) (fun _ => ?_)
    refine ⟨_, rfl, a, _, _, .str x.str, rfl, rfl, SqT.of ha, at0, ?_⟩
    refine ⟨_, rfl, _, _, _, _, _, rfl, .ty _, .base (.str _), kit_ty (r := true) (by decide +kernel), _, rfl, ?_⟩
    refine ite2 (fun z => nomatch z) (fun _ => ?_)
    refine ⟨_, rfl, x, _, rfl, rfl, rfl, _, rfl, ?_⟩
    refine ite2 (fun z => nomatch z) (fun _ => ?_)
    refine ⟨_, rfl, a, _, rfl, .inr (SqT.of ha), _, rfl, x, _, rfl, rfl, rfl, rfl, _, rfl, ?_⟩
    refine ite2 (fun _ => q) (fun _ => ?_)
    dsimp only [tNext]
    refine ⟨_, rfl, aN, _, rfl, .inr (hN _), rfl, flatNum, _, rfl, ?_⟩
    rw [show inV (.str x.str) numW = x.numd from inNum x]
    refine ite2 (fun c => ?_) (fun c => absurd hx c)
    refine ⟨_, rfl, a, _, _, _, rfl, rfl, SqT.of ha, at1, _, rfl, x, rfl, c, n, lastOf x, rfl, _, rfl, ?_⟩
    have e1 : (decide (0 ≤ n) && decide (n ≤ lastOf x)) = false := by
      cases z : (decide (0 ≤ n) && decide (n ≤ lastOf x)) with
      | false => rfl
      | true =>
        rw [Bool.and_eq_true] at z
        exact absurd ⟨of_decide_eq_true z.1, of_decide_eq_true z.2⟩ hn
    rw [e1]
    exact ite2 (fun _ => q) (fun z => absurd rfl z)
end
end NR
set_option maxHeartbeats 4000000
namespace NR
open PySem PySem.Spec PyProof.Rows L2

def spMayNo (C : Addr) : Sp := fun vs H Q _ => ∃ (a dx kn : Addr) (fn k p m : Nat) (b : Bool) (xs : List V) (fs : List (List Nat × Nat)), vs = [.ref a, .int (k : Int), .int (m : Int)] ∧ H a = some (.ins C dx (lkF kn fn p b)) ∧ H kn = some (.lst xs) ∧ FIns H xs fs ∧
  (fn < k ∨ (k = fn ∧ b = true) ∨ (k ≤ fn ∧ (k = fn → b = false) ∧ ∃ ds d, fs[k]? = some (ds, d) ∧ m ≠ ds.length)) ∧ ∀ H' b', SameX a H H' → H' a = some (.ins C dx (lkF kn fn p b')) → Q (.bl false) H'
section
variable {P : Program} {w : World} {K : PySem.W.Frag} {mg : Str → Option Value} {base : Heap} {f : Addr} {fd : FuncData}

theorem ok_mayno {C : Addr} (F : FnM K "may_call" "Look.may_call" sLookMayCall f fd) (N : LkC K C) (z_len : mg "len" = none) : FnOk P w K mg base CX0 1 f fd ["self", "called", "many"] (spMayNo C) := by
  have sc := scsLookMayCall
  refine F.ok sc (fun vs H Q E h => ?_) (fun cdv A outer s H vs Q E hr h => ?_)
  · obtain ⟨a, dx, kn, fn, k, p, m, b, xs, fs, rfl, _⟩ := h
    rfl
  obtain ⟨a, dx, kn, fn, k, p, m, b, xs, fs, rfl, ha, hk, hf, no, q⟩ := h
  refine ⟨_, (pss_cons (ps_if (pt_cmpR op_gt (pv 1) (pe_fldK K (pv 0) rfl) (nomark _)) (pss_one (ps_ret pe_bl)) pss_nil)
    (pss_cons (ps_if (PW.pt (pw_and (pt_cmpR op_eq (pv 1) (pe_fldK K (pv 0) rfl) (nomark _)) (pw_and1 (pt_val (pe_fldK K (pv 0) rfl))))) (pss_one (ps_ret pe_bl)) pss_nil)
    (pss_cons (ps_if (pt_cmpR op_eq (pv 1) (pe_fldK K (pv 0) rfl) (nomark _)) (pss_one (ps_fldK K (pv 0) pe_bl rfl)) pss_nil)
    (pss_one (ps_ret (pe_cmpR op_eq (pv 2) (pe_callB (call_lenK K) rfl z_len PySem.boot_len (pa_cons (pe_ix (ix_tupK K) (pe_ix (ix_listK K) (pe_fldK K (pv 0) rfl) (pv 1) (fun _ _ => rfl)) pe_int (fun _ _ => rfl)) pa_nil)) (nomark _))))))), ?_⟩
  refine ⟨_, rfl, _, rfl, a, C, dx, _, _, rfl, ha, N.cl, N.function, lkF_function, _, _, rfl, rfl, _, rfl, ?_⟩
  refine ite2 (fun _ => q H b (.refl _ _) ha) (fun z => ?_)
  have z1 : ¬ (fn : Int) < (k : Int) := fun y => z (decide_eq_true y)
  have hkf : k ≤ fn := by omega
  dsimp only [tNext]
  refine if_rest (fun H' => H' = H ∧ (k = fn → b = false)) (fun H1 e => ?_) (fun rest => ?_)
  · obtain ⟨rfl, hb⟩ := e
    have no' : ∃ ds d, fs[k]? = some (ds, d) ∧ m ≠ ds.length := by
      rcases no with h | ⟨h, h'⟩ | ⟨_, _, h⟩
      · omega
      · rw [hb h] at h'
        cases h'
      · exact h
    obtain ⟨ds, d, hfk, hm⟩ := no'
    refine if_rest (fun H' => SameX a H1 H' ∧ ∃ b', H' a = some (.ins C dx (lkF kn fn p b'))) (fun H' e => ?_) (fun rest => ?_)
    · obtain ⟨s1, b', h1⟩ := e
      have nk : kn ≠ a := ne_of hk ha (by intro z; cases z)
      obtain ⟨t, bb, g1, g2, g3⟩ := hf.get k hfk
      have tk : TK H1 H' := fun y zs hy => s1 _ _ (ne_of hy ha (by intro z; cases z)) hy
      refine ⟨_, rfl, _, rfl, a, C, dx, _, _, rfl, h1, N.cl, N.known, lkF_known, _, rfl, kn, xs, _, _, rfl, rfl, SqL.of (s1 _ _ nk hk), atI_nat g1, t, _, _, _, rfl, rfl, SqT.of (tk _ _ g2), rfl, bb, _, rfl, .inr (SqT.of (tk _ _ g3)), rfl, ?_⟩
      have e2 : decide (V.int (m : Int) = V.int ((ds.map dV).length : Int)) = false := decide_eq_false fun z => by
        rw [List.length_map] at z
        injection z with z
        omega
      show Q (.bl (decide (V.int (m : Int) = V.int ((ds.map dV).length : Int)))) H'
      rw [e2]
      exact q _ _ s1 h1
    · refine ⟨_, rfl, _, rfl, a, C, dx, _, _, rfl, ha, N.cl, N.function, lkF_function, rfl, _, rfl, ?_⟩
      refine ite2 (fun z => ?_) (fun z => rest _ ⟨.refl _ _, b, ha⟩)
      refine ⟨_, rfl, a, C, dx, _, rfl, ha, N.cl, N.self, by show 4 < 1000; decide, rest _ ⟨.upd, true, ?_⟩⟩
      rw [upd_same]
      rfl
  · refine ⟨_, rfl, _, rfl, a, C, dx, _, _, rfl, ha, N.cl, N.function, lkF_function, rfl, _, rfl, ?_⟩
    refine ite2 (fun z => ?_) (fun z => ite2 (fun y => nomatch y) (fun _ => rest _ ⟨rfl, fun e => absurd (decide_eq_true (by rw [e])) z⟩))
    refine ⟨_, rfl, a, C, dx, _, _, rfl, ha, N.cl, N.self, lkF_self, _, rfl, ?_⟩
    cases b with
    | true => exact ite2 (fun _ => q H true (.refl _ _) ha) (fun y => absurd rfl y)
    | false => exact ite2 (fun y => nomatch y) (fun _ => rest _ ⟨rfl, fun _ => rfl⟩)
end
end NR
set_option maxHeartbeats 4000000
namespace NR
open PySem PySem.Spec PyProof.Rows L2

theorem eqvInts : ∀ (as bs : List Int), PyData.eqvAll (as.map PyData.int) (bs.map PyData.int) = decide (as = bs)
  | [], [] => by simp [PyData.eqvAll]
  | [], _ :: _ => by simp [PyData.eqvAll]
  | _ :: _, [] => by simp [PyData.eqvAll]
  | a :: as, b :: bs => by
    have ih := eqvInts as bs
    rw [List.map_cons, List.map_cons, PyData.eqvAll, ih]
    by_cases h : a = b
    · subst h
      simp [PyData.eqv]
    · simp [PyData.eqv, h]
theorem eqvIntL (as bs : List Int) : PyData.eqv (.list (as.map PyData.int)) (.list (bs.map PyData.int)) = decide (as = bs) := by
  rw [← eqvInts]
  simp [PyData.eqv]
def spToldNo (C CN : Addr) : Sp := fun vs H Q _ => ∃ (a dx kn nm l : Addr) (fn : Int) (p k : Nat) (b : Bool) (xs us : List V) (fs : List (List Nat × Nat)) (nps : List Nd) (ds : List Nat) (d0 : Nat), vs = [.ref a, .str W.call.str, .int (k : Int), .ref l, .ref nm] ∧ H a = some (.ins C dx (lkF kn fn p b)) ∧ H kn = some (.lst xs) ∧ FIns H xs fs ∧ H l = some (.lst us) ∧ NdIns H NT CN fn us nps ∧ us.length ≤ 100 ∧ fs[k]? = some (ds, d0) ∧ nps.map Nd.d ≠ ds ∧ ∀ H', Same H H' → Q (.int (-1)) H'
theorem mapnI : ∀ {as bs : List Nat}, as.map nI = bs.map nI → as = bs
  | [], [], _ => rfl
  | [], _ :: _, h => by simp at h
  | _ :: _, [], h => by simp at h
  | a :: as, b :: bs, h => by
    rw [List.map_cons, List.map_cons] at h
    injection h with h1 h2
    have e1 : a = b := by
      unfold nI at h1
      omega
    rw [e1, mapnI h2]
section
variable {P : Program} {w : World} {K : PySem.W.Frag} {mg : Str → Option Value} {base : Heap} {f : Addr} {fd : FuncData}
theorem ok_toldno {C CN : Addr} (F : FnM K "depth_told" "Look.depth_told" sLookDepthTold f fd) (N : LkC K C) (ND : NdC K CN) (O_depth_of : Okf P w K mg base CX0 2 "depth_of" ["word", "depths"] spDepth) {t0 : Tok} (m_NO_DEPTH : mg "NO_DEPTH" = some (.int (-1) t0)) (z_list : mg "list" = none) : FnOk P w K mg base CX0 3 f fd ["self", "word", "number", "parts", "names"] (spToldNo C CN) := by
  have sc := scsLookDepthTold
  refine F.ok sc (fun vs H Q E h => ?_) (fun cdv A outer s H vs Q E hr h => ?_)
  · obtain ⟨a, dx, kn, nm, l, fn, p, k, b, xs, us, fs, nps, ds, d0, rfl, _⟩ := h
    rfl
  have hu := hu_of hr
  obtain ⟨a, dx, kn, nm, l, fn, p, k, b, xs, us, fs, nps, ds, d0, rfl, ha, hk, hf, hl, hn, hlen, h, h', q⟩ := h
  refine ⟨_, (pss_cons (ps_setLc (i := 5) (own := [("part", 8)]) (by rfl) sc.nd rfl rfl (sw_true rfl rfl rfl (by decide +kernel)) (pi_listK K (pv 3)) (blkOk_by (own := [("part", 8)]) (N := ["self", "word", "number", "parts", "names", "depths", "wanted", "depth", "part"]) (sc := defScope sLookDepthTold) (by decide +kernel)) (fun _ _ _ _ _ => (pg_name (i := 8) sc.nd rfl (.inl rfl))) (fun _ _ _ _ _ => pts_nil) (fun _ _ _ _ _ => (pe_fldK K (pv 8) rfl)))
    (pss_cons (ps_if (pt_cmpR op_eq (pv 1) pe_str (nomark _)) (pss_one (ps_ret (pe_dget hu (pv 4) (pv 2) (fun _ _ => rfl)))) pss_nil)
    (pss_cons (ps_if (pt_cmpR op_eq (pv 1) pe_str (nomark _)) (pss_cons (ps_asg (pe_ix (ix_listK K) (pe_fldK K (pv 0) rfl) (pv 2) (fun _ _ => rfl)) (pg_tupK K (n := 2) rfl (pgs_cons (pg_name (i := 6) sc.nd rfl (.inl rfl)) (pgs_cons (pg_name (i := 7) sc.nd rfl (.inl rfl)) pgs_nil))))
    (pss_one (ps_ret (pe_ifExp (pt_cmpR (op_eqDK K hr.units) (pv 5) (pe_callTy (call_listK K) rfl z_list (by decide +kernel) (pa_cons (pv 6) pa_nil)) (nomark _)) (pv 7) (pe_gI rfl m_NO_DEPTH))))) pss_nil)
    (pss_one (ps_ret (pe_c O_depth_of hr rfl pass0 (pa_cons (pv 1) (pa_cons (pv 5) pa_nil)))))))), ?_⟩
  refine ⟨_, rfl, l, rfl, ⟨_, SqL.of hl⟩, fun D hD => ?_⟩
  have hul := hn.len
  refine lc_list (K := K) (a := l) (xs := us) (fun i H' => H' = upd H D (.lst ((nps.take i).map fun e => dV e.d))) rfl ?_ ?_ ?_
  · rintro i H' _ rfl
    exact (same_new hD _).seq (SqL.of hl)
  · rintro i v H' hi rfl
    obtain ⟨e, he, hin⟩ := hn.get i hi
    cases hin with
    | @mk ea edx el ew ep en eps ed evs _ _ h1 h2 h3 =>
    refine ⟨rfl, ?_⟩
    have hlt : i < nps.length := (List.getElem?_eq_some_iff.mp he).1
    refine ⟨_, rfl, ea, CN, edx, _, _, rfl, same_new hD _ _ _ h1, ND.cl, ND.depth, ndF_depth, _, upd_same, ?_, ?_⟩
    · rw [List.length_map, List.length_take]
      exact small1000 (by omega)
    · rw [upd_upd, List.take_add_one, he, List.map_append]
      rfl
  rintro H' rfl
  have e0 : (nps.take us.length).map (fun e => dV e.d) = (nps.map Nd.d).map dV := by rw [hul, List.take_length, List.map_map]; rfl
  rw [e0]
  have s1 := same_new hD (.lst ((nps.map Nd.d).map dV))
  have eD : upd H D (.lst ((nps.map Nd.d).map dV)) D = some (.lst ((nps.map Nd.d).map dV)) := upd_same
  generalize upd H D (.lst ((nps.map Nd.d).map dV)) = H1 at s1 eD ⊢
  dsimp only [gName]
  refine ⟨_, rfl, rfl, _, rfl, ?_⟩
  refine ite2 (fun c => ?_) (fun c => ?_)
  · exact absurd c (by decide +kernel)
  dsimp only [tNext]
  refine ⟨_, rfl, rfl, _, rfl, ?_⟩
  refine ite2 (fun c => ?_) (fun c => absurd (by decide +kernel) c)
  obtain ⟨t, bb, g1, g2, g3⟩ := hf.get k h
  refine ⟨_, rfl, a, C, dx, _, _, rfl, s1 _ _ ha, N.cl, N.known, lkF_known, _, rfl, kn, xs, _, _, rfl, rfl, SqL.of (s1 _ _ hk), atI_nat g1, t, _, rfl, SqT.of (s1 _ _ g2), rfl, _, _, rfl, _, _, rfl, rfl, ?_⟩
  refine ⟨_, rfl, _, rfl, bb, _, rfl, .inr (SqT.of (s1 _ _ g3)), fun p0 hp0 => ?_⟩
  have s2 := same_new hp0 (.lst (ds.map dV))
  have e2 : (nps.map Nd.d).map dV = ((nps.map Nd.d).map nI).map V.int := mapdV _
  have e3 : ds.map dV = (ds.map nI).map V.int := mapdV ds
  refine ⟨.list (((nps.map Nd.d).map nI).map PyData.int), .list ((ds.map nI).map PyData.int), .lst (SqL.of (s2 _ _ eD)) (by rw [e2]; exact dpInts _), .lst (SqL.of upd_same) (by rw [e3]; exact dpInts _), shapedInts _, shapedInts _, _, rfl, ?_⟩
  have ne : (nps.map Nd.d).map nI ≠ ds.map nI := fun z => h' (mapnI z)
  rw [eqvIntL, decide_eq_false ne]
  refine ite2 (fun z => nomatch z) (fun _ => ?_)
  exact q _ (s1.trans s2)
end
end NR
set_option maxHeartbeats 4000000
namespace NR
open PySem PySem.Spec PyProof.Rows L2

def spShB (K : PySem.W.Frag) : Sp := fun vs H Q E => spShape K vs H Q E ∨ spShNo vs H Q E
def spMayB (K : PySem.W.Frag) (C : Addr) : Sp := fun vs H Q E => spMay K C vs H Q E ∨ spMayNo C vs H Q E

/-- what is refused at its own place -/
inductive Bd (H : Hp) (fs : List (List Nat × Nat)) (ρ : Env1) (fn p : Nat) (b : Bool) : V → Str → Prop
  | form {v : V} : ShNo H v → Bd H fs ρ fn p b v "form"
  | call {t c : Addr} {k : Nat} {xs : List V} {es : List Ex} : H t = some (.tup [.str W.call.str, .int (k : Int), .ref c]) → H c = some (.tup xs) → TIns H xs es → k ≤ 5 → (fn < k ∨ (k = fn ∧ b = true) ∨ (k ≤ fn ∧ (k = fn → b = false) ∧ ∃ ds d, fs[k]? = some (ds, d) ∧ xs.length ≠ ds.length)) → Bd H fs ρ fn p b (.ref t) "call"
  | depth {t c : Addr} {k : Nat} {xs : List V} {es : List Ex} {nds : List Nd} {ds : List Nat} {d0 : Nat} : H t = some (.tup [.str W.call.str, .int (k : Int), .ref c]) → H c = some (.tup xs) → TIns H xs es → k ≤ 5 → k ≤ fn → (k = fn → b = false) → fs[k]? = some (ds, d0) → es.length = ds.length → Ans (fs.take (fn + 1)) ρ (p + 1) es nds → nds.map Nd.d ≠ ds → hgts es ≤ 12 → p + 1 + sizes es ≤ 60 → selfss fn es + (b || decide (k = fn)).toNat ≤ 1 → Bd H fs ρ fn p b (.ref t) "depth"
def spNodeX (C CN CB : Addr) : Sp := fun vs H Q E => ∃ (a dx kn nm : Addr) (v : V) (fn p : Nat) (b : Bool) (wi : Nat) (fs : List (List Nat × Nat)) (ρ : Env1) (z : Str),
  vs = [.ref a, v, .ref nm, .int (wi : Int)] ∧ LkIn H C a dx kn fn p b fs ∧ Nm H nm ρ ∧ p ≤ 59 ∧ wi = 0 ∧ fn ≤ 5 ∧ Bd H fs ρ fn p b v z ∧ ∀ H1, SameX a H H1 → Ref CB (fsBp (.int (fn : Int)) (.int (p : Int)) (.str z)) H1 E
section
variable {P : Program} {w : World} {K : PySem.W.Frag} {mg : Str → Option Value} {base : Heap} {f : Addr} {fd : FuncData}
theorem ok_nodex {k : Nat} {C CN CB : Addr} (F : FnM K "node_of" "Look.node_of" sLookNodeOf f fd) (N : LkC K C) (ND : NdC K CN) (hk : 3 ≤ k) (M_refuse_if : Okm P w K mg base (CX P w) (k + 1) C "refuse_if" ["self", "wrong", "place", "word"] (spRefX C CB))
    (M_may_call : Okm P w K mg base CX0 (k + 1) C "may_call" ["self", "called", "many"] (spMayB K C)) (M_node_of : Okm P w K mg base CX0 (k + 1) C "node_of" ["self", "expression", "names", "within"] (spNodeOf C CN 12))
    (M_parts_that_name : Okm P w K mg base CX0 (k + 1) C "parts_that_name" ["self", "expression", "place", "names", "within"] (spThat C CN 12)) (M_depth_told : Okm P w K mg base CX0 (k + 1) C "depth_told" ["self", "word", "number", "parts", "names"] (spToldNo C CN))
    (C_Node : Okc P w K mg base CX0 k "Node" CN ["self", "word", "function", "place", "number", "parts", "depth"] (spNode CN)) (O_has_shape : Okf P w K mg base CX0 (k + 1) "has_shape" ["expression"] (spShB K)) (O_number_of : Okf P w K mg base CX0 (k + 1) "number_of" ["expression"] (spNumOf K)) (O_parts_of : Okf P w K mg base CX0 (k + 1) "parts_of" ["expression"] (spPartsOf K))
    {t0 t1 t2 : Tok} (m_LAST_PLACE : mg "LAST_PLACE" = some (.int 59 t0)) (m_MOST_WITHIN : mg "MOST_WITHIN" = some (.int 12 t1)) (m_NO_DEPTH : mg "NO_DEPTH" = some (.int (-1) t2)) (z_len : mg "len" = none) : FnOk P w K mg base (CX P w) (k + 2) f fd ["self", "expression", "names", "within"] (spNodeX C CN CB) := by
  have sc := scsLookNodeOf
  refine F.ok sc (fun vs H Q E h => ?_) (fun cdv A outer s H vs Q E hr h => ?_)
  · obtain ⟨a, dx, kn, nm, v, fn, p, b, wi, fs, ρ, z, rfl, _⟩ := h
    rfl
  have hu := hu_of hr
  obtain ⟨a, dx, kn, nm, v, fn, p, b, wi, fs, ρ, z, rfl, L, hm, hp, rfl, hfn, bd, q⟩ := h
  refine ⟨_, (pss_cons (ps_set (i := 4) sc.nd rfl (.inl rfl) (pe_fldK K (pv 0) rfl))
    (pss_cons (ps_fldaug (pv 0) pe_int in_add)
    (pss_cons (ps_expr (pe_m M_refuse_if (pv 0) hr (passes_call (takes_of rfl rfl rfl rfl) (fun _ _ _ _ h => h)) (pa_cons (pe_or (pe_cmpR op_gt (pv 4) (pe_gI rfl m_LAST_PLACE) (nomark _)) (pe_one (pe_cmpR op_gt (pv 3) (pe_gI rfl m_MOST_WITHIN) (nomark _)))) (pa_cons (pv 4) (pa_cons pe_str pa_nil)))))
    (pss_cons (ps_expr (pe_m M_refuse_if (pv 0) hr (passes_call (takes_of rfl rfl rfl rfl) (fun _ _ _ _ h => h)) (pa_cons (pe_not (pe_c O_has_shape hr rfl pass0 (pa_cons (pv 1) pa_nil))) (pa_cons (pv 4) (pa_cons pe_str pa_nil)))))
    (pss_cons (ps_par (by rfl) sc.nd (i := 5) (j := 6) rfl rfl (by decide) rfl rfl (pa_cons (pe_ix (ix_tupK K) (pv 1) pe_int (fun _ _ => rfl)) (pa_cons (pe_c O_number_of hr rfl pass0 (pa_cons (pv 1) pa_nil)) pa_nil)) (by rfl))
    (pss_cons (ps_expr (pe_m M_refuse_if (pv 0) hr (passes_call (takes_of rfl rfl rfl rfl) (fun _ _ _ _ h => h)) (pa_cons (pe_and (pe_cmpR op_eq (pv 5) pe_str (nomark _)) (pe_one (pe_cmp (pc_dnotin hu (pv 6) (pv 2))))) (pa_cons (pv 4) (pa_cons pe_str pa_nil)))))
    (pss_cons (ps_expr (pe_m M_refuse_if (pv 0) hr (passes_call (takes_of rfl rfl rfl rfl) (fun _ _ _ _ h => h)) (pa_cons (pe_and (pe_cmpR op_eq (pv 5) pe_str (nomark _)) (pe_one (pe_not (pe_m M_may_call (pv 0) hr pass0 (pa_cons (pv 6) (pa_cons (pe_callB (call_lenK K) rfl z_len PySem.boot_len (pa_cons (pe_ix (ix_tupK K) (pv 1) pe_int (fun _ _ => rfl)) pa_nil)) pa_nil)))))) (pa_cons (pv 4) (pa_cons pe_str pa_nil)))))
    (pss_cons (ps_if (pt_cmpR (op_inK K) (pv 5) (pe_tup (pa_cons pe_str (pa_cons pe_str (pa_cons pe_str pa_nil)))) (by rfl)) (pss_one (ps_set (i := 7) sc.nd rfl (.inl rfl) (pe_m M_parts_that_name (pv 0) hr pass0 (pa_cons (pv 1) (pa_cons (pv 4) (pa_cons (pv 2) (pa_cons (pv 3) pa_nil))))))) (pss_one (ps_setLc (i := 7) (own := [("part", 9)]) (by rfl) sc.nd rfl rfl (sw_true rfl rfl rfl (by decide +kernel)) (pi_listK K (pe_c O_parts_of hr rfl pass0 (pa_cons (pv 1) pa_nil))) (blkOk_by (own := [("part", 9)]) (N := ["self", "expression", "names", "within", "place", "word", "number", "parts", "depth", "part"]) (sc := defScope sLookNodeOf) (by decide +kernel)) (fun _ _ _ _ _ => (pg_name (i := 9) sc.nd rfl (.inl rfl))) (fun _ _ _ _ _ => pts_nil) (fun _ _ _ _ _ => (pe_m M_node_of (pv 0) hr pass0 (pa_cons (pv 9) (pa_cons (pv 2) (pa_cons (pe_op op_add (pv 3) pe_int) pa_nil))))))))
    (pss_cons (ps_set (i := 8) sc.nd rfl (.inl rfl) (pe_m M_depth_told (pv 0) hr pass0 (pa_cons (pv 5) (pa_cons (pv 6) (pa_cons (pv 7) (pa_cons (pv 2) pa_nil))))))
    (pss_cons (ps_expr (pe_m M_refuse_if (pv 0) hr (passes_call (takes_of rfl rfl rfl rfl) (fun _ _ _ _ h => h)) (pa_cons (pe_cmpR op_eq (pv 8) (pe_gI rfl m_NO_DEPTH) (nomark _)) (pa_cons (pv 4) (pa_cons pe_str pa_nil)))))
    (pss_one (ps_ret (pe_mk C_Node hr rfl pass0 (pa_cons (pv 5) (pa_cons (pe_fldK K (pv 0) rfl) (pa_cons (pv 4) (pa_cons (pv 6) (pa_cons (pv 7) (pa_cons (pv 8) pa_nil))))))))))))))))))), ?_⟩
  refine ⟨_, rfl, a, C, dx, _, _, rfl, L.ha, N.cl, N.looked, lkF_at, ?_⟩
  refine ⟨_, rfl, a, C, dx, _, _, rfl, L.ha, N.cl, N.looked, lkF_at, _, _, rfl, rfl, dx, _, L.ha, by show 4 < 1000; decide, ?_⟩
  have e1 : putF "looked_at" (V.int ((p : Int) + 1)) (lkF kn fn p b) = lkF kn fn (p + 1) b := rfl
  rw [e1]
  have s1 : SameX a H (upd H a (.ins C dx (lkF kn fn (p + 1) b))) := .upd
  have g1 : upd H a (.ins C dx (lkF kn fn (p + 1) b)) a = some (.ins C dx (lkF kn fn (p + 1) b)) := upd_same
  generalize upd H a (.ins C dx (lkF kn fn (p + 1) b)) = H1 at s1 g1 ⊢
  have L1 := L.keep s1 g1
  have tk1 := s1.tkI L.ha
  have hm1 := hm.sameX s1 L.ha
  refine ⟨_, rfl, a, dx, _, rfl, g1, lkF_no (by decide +kernel), _, rfl, _, _, rfl, rfl, _, rfl, ?_⟩
  refine ite2 (fun z => absurd (of_decide_eq_true z) (by omega)) (fun _ => ?_)
  refine ⟨_, rfl, _, _, rfl, rfl, _, rfl, a, dx, kn, (fn : Int), p + 1, b, false, p, "size", rfl, g1, by omega, by omega, by omega, by decide, fun _ => ?_, (fun z => nomatch z)⟩
  cases bd with
  | form no =>
    exact ⟨_, rfl, a, dx, _, rfl, g1, lkF_no (by decide +kernel), _, rfl, .inr ⟨v, rfl, no.same tk1, _, rfl, _, rfl, a, dx, kn, (fn : Int), _, _, true, p, "form", rfl, g1, by omega, by omega, by omega, by decide, (fun z => nomatch z), fun _ => q _ s1⟩⟩
  | @call t c kk xs es h1 h2 h3 k5 no =>
    have ti1 : TIn H1 (.ref t) (.node .call (kk : Int) es) := (TIn.call h1 h2 h3).mono tk1
    have sh : ShOk .call (kk : Int) es.length := ⟨fun _ => ⟨by omega, by show (kk : Int) ≤ 5; omega⟩, fun z => (by cases z), fun z => (by cases z)⟩
    refine ⟨_, rfl, a, dx, _, rfl, g1, lkF_no (by decide +kernel), _, rfl, .inl ⟨.ref t, .call, (kk : Int), es, rfl, ti1, sh, _, rfl, _, rfl, a, dx, kn, (fn : Int), _, _, false, p, "form", rfl, g1, by omega, by omega, by omega, by decide, fun _ => ?_, (fun z => nomatch z)⟩⟩
    refine ⟨_, rfl, t, _, _, .str W.call.str, rfl, rfl, SqT.of (tk1 _ _ h1), at0, _, rfl, .ref t, .call, (kk : Int), es, rfl, ti1, sh, _, _, rfl, ?_⟩
    dsimp only
    refine ⟨_, rfl, a, dx, _, rfl, g1, lkF_no (by decide +kernel), _, rfl, rfl, _, rfl, ?_⟩
    refine ite2 (fun z => absurd z (by decide +kernel)) (fun _ => ⟨_, rfl, a, dx, kn, (fn : Int), _, _, false, p, "name", rfl, g1, by omega, by omega, by omega, by decide, fun _ => ?_, (fun z => nomatch z)⟩)
    refine ⟨_, rfl, a, dx, _, rfl, g1, lkF_no (by decide +kernel), _, rfl, rfl, _, rfl, ?_⟩
    refine ite2 (fun _ => ?_) (fun z => absurd (by decide +kernel) z)
    obtain ⟨ys, k1, k2⟩ := L1.ex
    refine ⟨_, rfl, a, dx, _, rfl, g1, lkF_no (by decide +kernel), _, rfl, _, rfl, t, _, _, _, rfl, rfl, SqT.of (tk1 _ _ h1), rfl, c, _, rfl, .inr (SqT.of (tk1 _ _ h2)), .inr ⟨a, dx, kn, fn, kk, p + 1, xs.length, b, ys, fs, rfl, g1, k1, k2, no, fun H2 b2 s2 g2 => ?_⟩⟩
    exact ⟨_, rfl, _, rfl, a, dx, kn, (fn : Int), _, _, true, p, "call", rfl, g2, by omega, by omega, by omega, by decide, (fun z => nomatch z), fun _ => q _ (s1.trans s2)⟩
  | @depth t c kk xs es nds ds d0 h1 h2 h3 k5 kf kb hf he as nd hg hz hss =>
    have ti1 : TIn H1 (.ref t) (.node .call (kk : Int) es) := (TIn.call h1 h2 h3).mono tk1
    have sh : ShOk .call (kk : Int) es.length := ⟨fun _ => ⟨by omega, by show (kk : Int) ≤ 5; omega⟩, fun z => (by cases z), fun z => (by cases z)⟩
    refine ⟨_, rfl, a, dx, _, rfl, g1, lkF_no (by decide +kernel), _, rfl, .inl ⟨.ref t, .call, (kk : Int), es, rfl, ti1, sh, _, rfl, _, rfl, a, dx, kn, (fn : Int), _, _, false, p, "form", rfl, g1, by omega, by omega, by omega, by decide, fun _ => ?_, (fun z => nomatch z)⟩⟩
    refine ⟨_, rfl, t, _, _, .str W.call.str, rfl, rfl, SqT.of (tk1 _ _ h1), at0, _, rfl, .ref t, .call, (kk : Int), es, rfl, ti1, sh, _, _, rfl, ?_⟩
    dsimp only
    refine ⟨_, rfl, a, dx, _, rfl, g1, lkF_no (by decide +kernel), _, rfl, rfl, _, rfl, ?_⟩
    refine ite2 (fun z => absurd z (by decide +kernel)) (fun _ => ⟨_, rfl, a, dx, kn, (fn : Int), _, _, false, p, "name", rfl, g1, by omega, by omega, by omega, by decide, fun _ => ?_, (fun z => nomatch z)⟩)
    refine ⟨_, rfl, a, dx, _, rfl, g1, lkF_no (by decide +kernel), _, rfl, rfl, _, rfl, ?_⟩
    refine ite2 (fun _ => ?_) (fun z => absurd (by decide +kernel) z)
    obtain ⟨ys, k1, k2⟩ := L1.ex
    have hxl := h3.len
    refine ⟨_, rfl, a, dx, _, rfl, g1, lkF_no (by decide +kernel), _, rfl, _, rfl, t, _, _, _, rfl, rfl, SqT.of (tk1 _ _ h1), rfl, c, _, rfl, .inr (SqT.of (tk1 _ _ h2)), .inl ⟨a, dx, kn, fn, kk, p + 1, b, ys, fs, ds, d0, by rw [hxl, he]; rfl, g1, k1, k2, hf, kf, kb, fun H2 s2 g2 => ?_⟩⟩
    refine ⟨_, rfl, _, rfl, a, dx, kn, (fn : Int), _, _, false, p, "call", rfl, g2, by omega, by omega, by omega, by decide, fun _ => ?_, (fun z => nomatch z)⟩
    have L2 := L1.keep s2 g2
    have tk2 := s2.tkI g1
    have ti2 := ti1.mono tk2
    have hm2 := hm1.sameX s2 g1
    generalize (b || decide (kk = fn)) = b2 at g2 L2 hss
    refine ⟨_, rfl, by show 3 ≤ sizeLine; decide, fun p0 hp0 => ?_⟩
    have sp := same_new hp0 (.tup thatW)
    have gp := sp _ _ g2
    refine ⟨p0, _, rfl, .inr (SqT.of upd_same), rfl, rfl, _, rfl, ?_⟩
    refine ite2 (fun z => absurd z (by decide +kernel)) (fun _ => ?_)
    refine ⟨_, rfl, .ref t, .call, (kk : Int), es, rfl, ti2.mono (TK.of sp), sh, fun H3 l zs s3 hl tis => ⟨l, rfl, ⟨_, SqL.of hl⟩, fun D hD => ?_⟩⟩
    have g3 := s3 _ _ gp
    have nDa : a ≠ D := ne_of_none g3 hD
    have nla : l ≠ a := ne_of hl g3 (by intro z; cases z)
    have L3 := (L2.same sp).same s3
    have hm3 := (hm2.same sp).same s3
    have sD := same_new hD (.lst [])
    have hzl := tis.len
    have hasl := as.len
    have hps : es.length ≤ 100 := by
      have h3 := len_sizes es
      omega
    refine lc_list (K := K) (a := l) (xs := zs) (fun i H' => ∃ acc, H' D = some (.lst acc) ∧ NdIns H' (fun b => New H3 b ∧ b ≠ D) CN fn acc (nds.take i) ∧ H' a = some (.ins C dx (lkF kn fn (p + 1 + sizes (es.take i)) (b2 || decide (0 < selfss fn (es.take i))))) ∧ ∀ b' o', b' ≠ a → H3 b' = some o' → H' b' = some o') ⟨[], upd_same, .nil, ?_, fun b' o' _ hb => sD _ _ hb⟩ ?_ ?_ ?_
    · rw [upd_ne nDa, g3, List.take_zero, show sizes [] = 0 from rfl, show selfss (fn : Int) [] = 0 from rfl]
      simp
    · rintro i H' _ ⟨acc, _, _, _, k⟩
      exact SqL.of (k _ _ nla hl)
    · rintro i v H' hi ⟨acc, e1, e2, e3, k⟩
      obtain ⟨e, he', te⟩ := tis.get i hi
      obtain ⟨nd', hnd, ane⟩ := as.get i he'
      obtain ⟨z1, z2, z3⟩ := sizes_take es i he'
      obtain ⟨y1, y2⟩ := selfss_take fn es i he'
      have sX : SameX a H3 H' := fun b' o' n' hb => k _ _ n' hb
      have tk : TK H3 H' := sX.tkI g3
      have hlen : acc.length ≤ 100 := by
        have h1 := e2.len
        rw [List.length_take] at h1
        omega
      refine ⟨rfl, ?_⟩
      refine ⟨_, rfl, a, dx, _, rfl, e3, lkF_no (by decide +kernel), _, rfl, _, rfl, _, rfl, _, _, rfl, rfl, a, dx, kn, nm, v, fn, p + 1 + sizes (es.take i), b2 || decide (0 < selfss fn (es.take i)), 0 + 1, fs, ρ, e, nd', rfl, L3.keep sX e3, te.mono tk, hm3.sameX sX g3, ane, by omega, by omega, by omega, by have := orN b2 (selfss fn (es.take i)); omega, fun H4 u s4 g4 hu4 => ?_⟩
      have eD4 : H4 D = some (.lst acc) := s4 _ _ nDa.symm e1
      refine ⟨acc, eD4, small1000 (by omega), acc ++ [u], upd_same, ?_, ?_, fun b' o' n' hb => ?_⟩
      · have ki : ∀ b', New H' b' → New H3 b' ∧ b' ≠ D := fun b' h => by
          refine ⟨?_, h.ne e1⟩
          cases e : H3 b' with
          | none => exact e
          | some o' =>
            have na : b' ≠ a := h.ne e3
            have hq := k _ _ na e
            rw [New, hq] at h
            cases h
        have nds' : NdIns H4 (fun b => New H3 b ∧ b ≠ D) CN fn acc (nds.take i) := e2.keep (fun _ h => h) fun b' o' g' hb => s4 _ _ (g'.1.ne g3) hb
        have nu : NdIn H4 (fun b => New H3 b ∧ b ≠ D) CN fn u nd' := hu4.keep ki fun _ _ _ h => h
        rw [List.take_add_one, hnd]
        exact (nds'.snoc nu).keep (fun _ h => h) fun b' o' g' hb => by rw [upd_ne g'.2]; exact hb
      · rw [upd_ne nDa, g4, orOr, y1, z1, Nat.add_assoc]
      · rw [upd_ne (ne_of_none hb hD)]
        exact s4 _ _ n' (k _ _ n' hb)
    · rintro H' ⟨acc, e1, e2, e3, k⟩
      rw [List.take_of_length_le (by omega)] at e2
      rw [List.take_of_length_le (by omega)] at e3
      have sX : SameX a H3 H' := fun b' o' n' hb => k _ _ n' hb
      have L4 := L3.keep sX e3
      obtain ⟨ys4, k3, k4⟩ := L4.ex
      have hul := e2.len
      dsimp only [gName]
      refine ⟨_, rfl, a, dx, _, rfl, e3, lkF_no (by decide +kernel), _, rfl, _, rfl, _, rfl, _, rfl, a, dx, kn, nm, D, (fn : Int), _, kk, _, ys4, acc, fs, nds, ds, d0, rfl, e3, k3, k4, e1, e2.any, by omega, hf, nd, fun H5 s5 => ?_⟩
      have g5 := s5 _ _ e3
      exact ⟨_, rfl, a, dx, _, rfl, g5, lkF_no (by decide +kernel), _, rfl, rfl, _, rfl, a, dx, kn, (fn : Int), _, _, true, p, "depth", rfl, g5, by omega, by omega, by omega, by decide, (fun z => nomatch z), fun _ => q _ (s1.trans (s2.trans ((Same.toX (sp.trans s3)).trans (sX.trans (Same.toX s5)))))⟩
end
end NR
set_option maxHeartbeats 4000000
namespace NR
open PySem PySem.Spec PyProof.Rows L2

theorem Bd.mono {H H' : Hp} {fs : List (List Nat × Nat)} {ρ : Env1} {fn p : Nat} {b : Bool} (s : TK H H') {v : V} {z : Str} (h : Bd H fs ρ fn p b v z) : Bd H' fs ρ fn p b v z := by
  cases h with
  | form a => exact .form (a.same s)
  | call a b c d e => exact .call (s _ _ a) (s _ _ b) (c.mono s) d e
  | depth a b c d e f g h i j k l m => exact .depth (s _ _ a) (s _ _ b) (c.mono s) d e f g h i j k l m
def spFormX (CB : Addr) : Sp := fun vs H Q E => ∃ (a l : Addr) (i : Nat) (pz bz : V) (ps : List (Int × Nat)) (d : Nat) (xs : List V) (fs : List (List Nat × Nat)) (z : Str), vs = [.ref a, .int (i : Int), .ref l] ∧ H a = some (.tup [pz, dV d, bz]) ∧ PtIn H pz ps ∧ FaceOk ps d ∧ H l = some (.lst xs) ∧ FIns H xs fs ∧ i ≤ 5 ∧ Bd H fs (envOf ps) i 0 false bz z ∧ Ref CB (fsBp (.int (i : Int)) (.int 0) (.str z)) H E
theorem Ref.sameN {C : Addr} {fs : List (Str × V)} {H H1 : Hp} {E : XK} (r : Ref C fs H E) (s : ∀ b o, H b = some o → H1 b = some o) : Ref C fs H1 E := r.same s
section
variable {P : Program} {w : World} {K : PySem.W.Frag} {mg : Str → Option Value} {base : Heap} {f : Addr} {fd : FuncData}
theorem ok_formx {k : Nat} {CL CF CN CB : Addr} (F : FnP K "form_of" sFormOf f fd) (NL : LkC K CL) (NF : FmC K CF) (ND : NdC K CN) (C_Look : Okc P w K mg base CX0 k "Look" CL ["self", "known", "function"] (spLook CL)) (C_Form : Okc P w K mg base CX0 k "Form" CF ["self", "names", "depths", "body"] (spForm CF))
    (M_node_of : Okm P w K mg base (CX P w) (k + 1) CL "node_of" ["self", "expression", "names", "within"] (spNodeX CL CN CB)) (M_refuse_if : Okm P w K mg base (CX P w) (k + 1) CL "refuse_if" ["self", "wrong", "place", "word"] (spRefX CL CB)) (z_dict : mg "dict" = none) : FnOk P w K mg base (CX P w) (k + 2) f fd ["function", "at", "told"] (spFormX CB) := by
  have sc := scsFormOf
  refine F.ok sc (fun vs H Q E h => ?_) (fun cdv A outer s H vs Q E hr h => ?_)
  · obtain ⟨a, l, i, pz, bz, ps, d, xs, fs, z, rfl, _⟩ := h
    rfl
  have hu := hu_of hr
  obtain ⟨a, l, i, pz, bz, ps, d, xs, fs, z, rfl, ha, hp, fo, hl, hf, i5, bd, q⟩ := h
  obtain ⟨pt, o, vs, rfl, p1, p2, p3⟩ := hp.ex
  have fw := fo.few
  have hpl := p3.len
  refine ⟨_, (pss_cons (ps_asg (pv 0) (pg_tupK K (n := 3) rfl (pgs_cons (pg_name (i := 3) sc.nd rfl (.inl rfl)) (pgs_cons (pg_name (i := 4) sc.nd rfl (.inl rfl)) (pgs_cons (pg_name (i := 5) sc.nd rfl (.inl rfl)) pgs_nil)))))
    (pss_cons (ps_set (i := 6) sc.nd rfl (.inl rfl) (pe_mk C_Look hr rfl pass0 (pa_cons (pv 2) (pa_cons (pv 1) pa_nil))))
    (pss_cons (ps_set (i := 7) sc.nd rfl (.inl rfl) (pe_m M_node_of (pv 6) hr (passes_call (takes_of rfl rfl rfl rfl) (fun _ _ _ _ h => h)) (pa_cons (pv 5) (pa_cons (pe_callTy (call_dictT K rfl) rfl z_dict (by decide +kernel) (pa_cons (pv 3) pa_nil)) (pa_cons pe_int pa_nil)))))
    (pss_cons (ps_expr (pe_m M_refuse_if (pv 6) hr (passes_call (takes_of rfl rfl rfl rfl) (fun _ _ _ _ h => h)) (pa_cons (pe_cmpR op_ne (pe_fldK K (pv 7) rfl) (pv 4) (nomark _)) (pa_cons pe_int (pa_cons pe_str pa_nil)))))
    (pss_one (ps_ret (pe_mk C_Form hr rfl pass0 (pa_cons (pe_lc (own := [("param", 8)]) (by rfl) sc.nd (pi_tupK K (pv 3)) (blkOk_by (own := [("param", 8)]) (N := ["function", "at", "told", "params", "depth", "body", "look", "node", "param"]) (sc := defScope sFormOf) (by decide +kernel)) (fun _ _ _ _ _ => (pg_name (i := 8) sc.nd rfl (.inl rfl))) (fun _ _ _ _ _ => pts_nil) (fun _ _ _ _ _ => (pe_ix (ix_tupK K) (pv 8) pe_int (fun _ _ => rfl)))) (pa_cons (pe_lc (own := [("param", 8)]) (by rfl) sc.nd (pi_tupK K (pv 3)) (blkOk_by (own := [("param", 8)]) (N := ["function", "at", "told", "params", "depth", "body", "look", "node", "param"]) (sc := defScope sFormOf) (by decide +kernel)) (fun _ _ _ _ _ => (pg_name (i := 8) sc.nd rfl (.inl rfl))) (fun _ _ _ _ _ => pts_nil) (fun _ _ _ _ _ => (pe_ix (ix_tupK K) (pv 8) pe_int (fun _ _ => rfl)))) (pa_cons (pv 7) pa_nil)))))))))), ?_⟩
  refine ⟨_, rfl, a, _, rfl, SqT.of ha, rfl, _, _, rfl, _, _, rfl, _, _, rfl, rfl, ?_⟩
  refine ⟨_, rfl, _, rfl, fun lo ldx nlo nldx nne => ⟨lo, ldx, l, i, rfl, upd_same, rfl, ?_⟩⟩
  rw [upd_upd]
  generalize eH1 : upd (upd H ldx (.own lo)) lo (.ins CL ldx (lkF l i 0 false)) = H1
  have s1 : Same H H1 := fun b' o' hb => by
    rw [← eH1, upd_ne (ne_of_none hb nlo), upd_ne (ne_of_none hb nldx)]
    exact hb
  have g1 : H1 lo = some (.ins CL ldx (lkF l i 0 false)) := by rw [← eH1, upd_same]
  have L1 : LkIn H1 CL lo ldx l i 0 false fs := ⟨g1, xs, s1 _ _ hl, hf.mono (TK.of s1)⟩
  obtain ⟨as, eas, prd⟩ := (p3.mono (TK.of s1)).paired (K := K)
  refine ⟨_, rfl, lo, ldx, _, rfl, g1, lkF_no (by decide +kernel), _, rfl, _, rfl, pt, o, as, _, rfl, by rw [← eas]; exact s1 _ _ p1, p2, prd, fun m hm => ?_⟩
  rw [show mergeK [] (ps.map kvOf) = ps.map kvOf from mergeK_kn (acc := []) fo.nd]
  have s2 := same_new hm (.dK (ps.map kvOf))
  have em : upd H1 m (.dK (ps.map kvOf)) m = some (.dK (ps.map kvOf)) := upd_same
  generalize upd H1 m (.dK (ps.map kvOf)) = H2 at s2 em ⊢
  have hnm : Nm H2 m (envOf ps) := ⟨ps, em, fo.nd, fun p hp => ⟨(fo.lo p hp).1, (fo.lo p hp).2.1⟩, fun x d h => envOf_some h⟩
  refine ⟨lo, ldx, l, m, bz, i, 0, false, 0, fs, envOf ps, z, rfl, L1.same s2, hnm, by omega, rfl, i5, (bd.mono (TK.of s1)).mono (TK.of s2), fun H3 s3 => q.sameN fun b o hb => s3 _ _ (ne_of_none hb nlo) (s2 _ _ (s1 _ _ hb))⟩
end
end NR
set_option maxHeartbeats 4000000
namespace NR
open PySem PySem.Spec PyProof.Rows L2

section
variable {X : Cx} (K : PySem.W.Frag) (w : World)
def rSetN (K : PySem.W.Frag) (w : World) : List V → Hp → VK → Prop := fun xs H Q => ∃ (l : Addr) (ns : List Int), xs = [.ref l] ∧ SqL K H l (ns.map V.int) ∧ ns.length ≤ 4000 ∧ ∀ (p : Addr) (ks : List Int), H p = none → ks.Nodup → (∀ k, k ∈ ks ↔ k ∈ ns) → Q (.ref p) (upd H p (SetO w p (fun j => decide (j ∈ ns)) ks.length))
theorem cr_setN (hc : X.calm = true) (h : X.K = K := by rfl) (hw : X.w = w := by rfl) : CallR X (.type "set") (rSetN K w) := by
  subst h hw
  rintro pins s σ H xs us Q I r ⟨l, ns, rfl, sq, hn, want⟩
  rw [Vals.ref1 r]
  obtain ⟨its, rv, pl, hz⟩ := I.list sq
  refine call_set_lst ns (I.ok.hd hc) pl.isList (ints_of_vals rv) (by unfold scanBound; omega) fun h' tk c R1 hcn k => ?_
  obtain ⟨o, es, ep, t, q1, q2, q3, q4, q5, q6, q7, q8, q9, q10⟩ := id R1
  have hl : (es.toList.map keyOf).length = c := by rw [List.length_map, Array.length_toList, q9]
  refine ⟨.ref _, upd H s.heap.objs.size (SetO X.w s.heap.objs.size (fun j => decide (j ∈ ns)) (es.toList.map keyOf).length), ?_, rfl, want _ _ (I.hok.fresh (Nat.le_refl _)) q5 fun k => ?_⟩
  · rw [hl]
    exact I.laid (t' := tk) k (Nat.le_refl _) (setO_new R1)
  · rw [← q6 k]
    exact decide_eq_true_iff
end
theorem dup_sub : ∀ {ns : List Int}, ¬ ns.Nodup → ∃ ms : List Int, (∀ k ∈ ns, k ∈ ms) ∧ ms.length < ns.length
  | [], h => absurd List.nodup_nil h
  | a :: t, h => by
    by_cases z : a ∈ t
    · exact ⟨t, fun k hk => by
        rcases List.mem_cons.mp hk with rfl | hk
        · exact z
        · exact hk, Nat.lt_succ_self _⟩
    · have h2 : ¬ t.Nodup := fun n => h (List.nodup_cons.mpr ⟨z, n⟩)
      obtain ⟨ms, m1, m2⟩ := dup_sub h2
      exact ⟨a :: ms, fun k hk => by
        rcases List.mem_cons.mp hk with rfl | hk
        · exact List.mem_cons_self
        · exact List.mem_cons_of_mem _ (m1 k hk), by simp only [List.length_cons]; omega⟩
theorem dup_lt {ks ns : List Int} (nd : ks.Nodup) (h : ∀ k, k ∈ ks ↔ k ∈ ns) (dup : ¬ ns.Nodup) : ks.length < ns.length := by
  obtain ⟨ms, m1, m2⟩ := dup_sub dup
  exact Nat.lt_of_le_of_lt (sub_len nd fun x hx => m1 x ((h x).mp hx)) m2
def tLenSetN (K : PySem.W.Frag) (ta : TE) : TE := fun σ H Q => ta σ H fun x H1 => ∃ (l : Addr) (ns : List Int), x = .ref l ∧ SqL K H1 l (ns.map V.int) ∧ ns.length ≤ 4000 ∧ ∀ ks : List Int, ks.Nodup → (∀ k, k ∈ ks ↔ k ∈ ns) → Q (.int (ks.length : Nat)) H1
theorem pe_lenSetN {X : Cx} {a : Expr} {ta : TE} {p p2 q pos : Pos} (hg : Gl X "len") (hm : X.mg "len" = none) (hg2 : Gl X "set") (hm2 : X.mg "set" = none) (ha : PE X a ta) (hc : X.calm = true := by rfl)
    (na : starEach [a] X.env = (false, eval a X.env) :: starEach [] X.env := by rfl) : PE X (.Call (.Name "len" p) [.Call (.Name "set" p2) [a] [] q] [] pos) (tLenSetN X.K ta) := by
  refine ⟨fun pins s σ H Q I h => ?_⟩
  refine Call_ (ld_blt I hg hm boot_len ?_)
  refine PyProof.Rows.callWith_builtin1 (PyProof.Rows.args_cons ?_ rfl) rfl rfl
  refine Call_ (ld_blt I hg2 hm2 boot_set ?_)
  refine PyProof.Rows.callWith_type1 (PyProof.Rows.args_cons (thn (ha.run pins s σ H _ I h) fun v s1 ⟨x, H1, I1, r1, q1⟩ => PyProof.Rows.args_nil ?_) na) na rfl
  obtain ⟨l, ns, rfl, hq, hl, q1⟩ := q1
  cases r1
  obtain ⟨its, r, pl, hz⟩ := I1.list hq
  refine call_set_lst ns (I1.ok.hd hc) pl.isList (ints_of_vals r) (by unfold scanBound; omega) fun h' tk c R1 hcn hk => ?_
  refine PyProof.Rows.args_nil ?_
  obtain ⟨o, es, ep, t, w1, w2, w3, w4, w5, w6, w7, w8, w9, w10⟩ := R1
  have hle : (es.toList.map keyOf).length = es.size := by rw [List.length_map, Array.length_toList]
  have I2 : Inv X pins σ H1 { s1 with heap := h', toks := tk } := I1.kept fun b o e => hk b o e
  exact call_len_set w1 w2 w3 w8 (by rw [w9]; omega) ⟨.int es.size, H1, I2.tok _, ⟨_, rfl⟩, hle ▸ q1 (es.toList.map keyOf) w5 fun k => by rw [← w6 k]; exact decide_eq_true_iff⟩
end NR
set_option maxHeartbeats 4000000
namespace NR
open PySem PySem.Spec PyProof.Rows L2

/-- a face that is good but for a name that stands twice -/
structure FaceTw (ps : List (Int × Nat)) (d : Nat) : Prop where
  nnd : ¬ (ps.map (·.1)).Nodup
  lo : ∀ p ∈ ps, 0 ≤ p.1 ∧ p.1 ≤ 19 ∧ p.2 ≤ 3
  few : ps.length ≤ 4
  hd : d ≤ 3
def spHasFaceNo : Sp := fun vs H Q _ => ∃ (a : Addr) (pz bz : V) (ps : List (Int × Nat)) (d : Nat), vs = [.ref a] ∧ H a = some (.tup [pz, dV d, bz]) ∧ PtIn H pz ps ∧ FaceTw ps d ∧ ∀ H', Same H H' → Q (.bl false) H'
section
variable {P : Program} {w : World} {K : PySem.W.Frag} {mg : Str → Option Value} {base : Heap} {f : Addr} {fd : FuncData}

theorem ok_hasfaceno (F : FnP K "has_face" sHasFace f fd) (O_is_number : Okf P w K mg base CX0 2 "is_number" ["value", "last"] spIsNum) (O_is_param : Okf P w K mg base CX0 2 "is_param" ["param"] spParam) {t0 t1 : Tok} (m_MOST_PARAMS : mg "MOST_PARAMS" = some (.int 4 t0)) (m_MOST_DEPTH : mg "MOST_DEPTH" = some (.int 3 t1))
    (z_isinstance : mg "isinstance" = none) (z_tuple : mg "tuple" = none) (z_len : mg "len" = none) (z_all : mg "all" = none) (z_set : mg "set" = none) : FnOk P w K mg base CX0 3 f fd ["function"] (spHasFaceNo) := by
  have sc := scsHasFace
  refine F.ok sc (fun vs H Q E h => ?_) (fun cdv A outer s H vs Q E hr h => ?_)
  · obtain ⟨a, pz, bz, ps, d, rfl, _⟩ := h
    rfl
  obtain ⟨a, pz, bz, ps, d, rfl, ha, hp, fo, q⟩ := h
  obtain ⟨pt, o, vs, rfl, h1, h2, h3⟩ := hp.ex
  have hl := h3.len
  have fw := fo.few
  have fd3 := fo.hd
  refine ⟨_, (pss_cons (ps_if (PW.pt (pw_or (pt_not (pt_val (pe_callB (call_isiK K) rfl z_isinstance (by decide +kernel) (pa_cons (pv 0) (pa_cons (pe_bltn (v := .ty "tuple") rfl z_tuple (by decide +kernel) rfl) pa_nil))))) (pw_or1 (pt_cmpR op_ne (pe_callB (call_lenK K) rfl z_len PySem.boot_len (pa_cons (pv 0) pa_nil)) pe_int (nomark _))))) (pss_one (ps_ret pe_bl)) pss_nil)
    (pss_cons (ps_par (by rfl) sc.nd (i := 1) (j := 2) rfl rfl (by decide) rfl rfl (pa_cons (pe_ix (ix_tupK K) (pv 0) pe_int (fun _ _ => rfl)) (pa_cons (pe_ix (ix_tupK K) (pv 0) pe_int (fun _ _ => rfl)) pa_nil)) (by rfl))
    (pss_cons (ps_if (PW.pt (pw_or (pt_not (pt_val (pe_callB (call_isiK K) rfl z_isinstance (by decide +kernel) (pa_cons (pv 1) (pa_cons (pe_bltn (v := .ty "tuple") rfl z_tuple (by decide +kernel) rfl) pa_nil))))) (pw_or (pt_cmpR op_gt (pe_callB (call_lenK K) rfl z_len PySem.boot_len (pa_cons (pv 1) pa_nil)) (pe_gI rfl m_MOST_PARAMS) (nomark _)) (pw_or1 (pt_not (pt_val (pe_c O_is_number hr rfl pass0 (pa_cons (pv 2) (pa_cons (pe_gI rfl m_MOST_DEPTH) pa_nil))))))))) (pss_one (ps_ret pe_bl)) pss_nil)
    (pss_cons (ps_if (pt_not (pt_val (pe_callB (cr_allK K rfl) rfl z_all (by decide +kernel) (pa_cons (pe_lc (own := [("param", 3)]) (by rfl) sc.nd (pi_tupK K (pv 1)) (blkOk_by (own := [("param", 3)]) (N := ["function", "params", "depth", "param"]) (sc := defScope sHasFace) (by decide +kernel)) (fun _ _ _ _ _ => (pg_name (i := 3) sc.nd rfl (.inl rfl))) (fun _ _ _ _ _ => pts_nil) (fun _ _ _ _ _ => (pe_c O_is_param hr rfl pass0 (pa_cons (pv 3) pa_nil)))) pa_nil)))) (pss_one (ps_ret pe_bl)) pss_nil)
    (pss_one (ps_ret (pe_cmpR op_eq (pe_lenSetN rfl z_len rfl z_set (pe_lc (own := [("param", 3)]) (by rfl) sc.nd (pi_tupK K (pv 1)) (blkOk_by (own := [("param", 3)]) (N := ["function", "params", "depth", "param"]) (sc := defScope sHasFace) (by decide +kernel)) (fun _ _ _ _ _ => (pg_name (i := 3) sc.nd rfl (.inl rfl))) (fun _ _ _ _ _ => pts_nil) (fun _ _ _ _ _ => (pe_ix (ix_tupK K) (pv 3) pe_int (fun _ _ => rfl))))) (pe_callB (call_lenK K) rfl z_len PySem.boot_len (pa_cons (pv 1) pa_nil)) (nomark _)))))))), ?_⟩
  refine ⟨_, rfl, _, _, _, _, _, rfl, .ty _, .base (.tup ha), kit_ty (r := true) (by decide +kernel), _, rfl, ?_⟩
  refine ite2 (fun z => nomatch z) (fun _ => ?_)
  refine ⟨_, rfl, a, _, rfl, .inr (SqT.of ha), rfl, _, rfl, ?_⟩
  refine ite2 (fun z => absurd (show false = true from z) Bool.false_ne_true) (fun _ => ?_)
  refine ⟨_, rfl, a, _, _, _, rfl, rfl, SqT.of ha, rfl, _, rfl, a, _, _, _, rfl, rfl, SqT.of ha, rfl, _, _, rfl, ?_⟩
  refine ⟨_, rfl, _, _, _, _, _, rfl, .ty _, .fTuple h1, kit_ty (r := true) (by decide +kernel), _, rfl, ?_⟩
  refine ite2 (fun z => nomatch z) (fun _ => ?_)
  refine ⟨_, rfl, pt, _, rfl, .inr (SqT.frz h1), _, _, rfl, rfl, _, rfl, ?_⟩
  refine ite2 (fun z => absurd (of_decide_eq_true z) (by omega)) (fun _ => ?_)
  refine ⟨_, rfl, (d : Int), 3, rfl, _, rfl, ?_⟩
  rw [decide_eq_true (show (0 : Int) ≤ (d : Int) by omega), decide_eq_true (show (d : Int) ≤ 3 by omega)]
  refine ite2 (fun z => nomatch z) (fun _ => ?_)
  -- all
  refine ⟨_, rfl, pt, rfl, ⟨_, SqT.frz h1⟩, fun D hD => ?_⟩
  have sD := same_new hD (.lst [])
  refine lc_tup (K := K) (a := pt) (xs := vs) (fun i H' => H' = upd H D (.lst ((List.replicate i true).map V.bl))) rfl ?_ ?_ ?_
  · rintro i H' _ rfl
    exact SqT.frz (same_new hD _ _ _ h1)
  · rintro i v H' hi rfl
    obtain ⟨ea, x, dd, rfl, e1, e2⟩ := h3.get i hi
    have lo := fo.lo _ (List.mem_of_getElem? e1)
    have hi' : i < vs.length := (List.getElem?_eq_some_iff.mp hi).1
    refine ⟨rfl, ?_⟩
    refine ⟨_, rfl, ea, x, dd, rfl, same_new hD _ _ _ e2, lo.1, lo.2.1, lo.2.2, _, upd_same, ?_, ?_⟩
    · rw [List.length_map, List.length_replicate]
      exact small1000 (by omega)
    · rw [upd_upd, List.replicate_succ', List.map_append]
      rfl
  rintro H' rfl
  have s1 := same_new hD (.lst ((List.replicate vs.length true).map V.bl))
  refine ⟨D, _, rfl, SqL.of upd_same, _, rfl, ?_⟩
  rw [allTrue]
  refine ite2 (fun z => nomatch z) (fun _ => ?_)
  generalize upd H D (.lst ((List.replicate vs.length true).map V.bl)) = H1 at s1 ⊢
  have h1' := s1 _ _ h1
  have h3' := h3.mono (TK.of s1)
  refine ⟨_, rfl, pt, rfl, ⟨_, SqT.frz h1'⟩, fun D2 hD2 => ?_⟩
  refine lc_tup (K := K) (a := pt) (xs := vs) (fun i H' => H' = upd H1 D2 (.lst (((ps.take i).map (·.1)).map V.int))) rfl ?_ ?_ ?_
  · rintro i H' _ rfl
    exact SqT.frz (same_new hD2 _ _ _ h1')
  · rintro i v H' hi rfl
    obtain ⟨ea, x, dd, rfl, e1, e2⟩ := h3'.get i hi
    have hi' : i < vs.length := (List.getElem?_eq_some_iff.mp hi).1
    refine ⟨rfl, ?_⟩
    refine ⟨_, rfl, ea, _, _, _, rfl, rfl, SqT.of (same_new hD2 _ _ _ e2), rfl, _, upd_same, ?_, ?_⟩
    · rw [List.length_map, List.length_map, List.length_take]
      exact small1000 (by omega)
    · rw [upd_upd, List.take_add_one, e1, List.map_append, List.map_append]
      rfl
  rintro H' rfl
  rw [hl, List.take_length]
  have s2 := same_new hD2 (.lst ((ps.map (·.1)).map V.int))
  refine ⟨D2, _, rfl, SqL.of upd_same, by rw [List.length_map]; omega, fun ks n1 n2 => ?_⟩
  refine ⟨_, rfl, pt, _, rfl, .inr (SqT.frz (s2 _ _ h1')), rfl, ?_⟩
  have n3 := dup_lt n1 n2 fo.nnd
  rw [List.length_map] at n3
  have e9 : decide (V.int ((ks.length : Nat) : Int) = V.int ((vs.length : Nat) : Int)) = false := decide_eq_false (fun z => by
    injection z with z
    omega)
  show Q (.bl (decide (V.int ((ks.length : Nat) : Int) = V.int ((vs.length : Nat) : Int)))) _
  rw [e9]
  exact q _ (s1.trans s2)
end
def spHasFaceB (K : PySem.W.Frag) : Sp := fun vs H Q E => spHasFace K vs H Q E ∨ spHasFaceNo vs H Q E
/-- functions by their faces alone -/
inductive PfIns (H : Hp) : List V → List (List (Int × Nat) × Nat) → Prop
  | nil : PfIns H [] []
  | cons {a : Addr} {pv bv : V} {f : List (Int × Nat) × Nat} {vs : List V} {fs : List (List (Int × Nat) × Nat)} : H a = some (.tup [pv, dV f.2, bv]) → PtIn H pv f.1 → PfIns H vs fs → PfIns H (.ref a :: vs) (f :: fs)
theorem PfIns.mono {H H' : Hp} (k : IK H H') : ∀ {vs fs}, PfIns H vs fs → PfIns H' vs fs
  | _, _, .nil => .nil
  | _, _, .cons h p r => .cons (k.t _ _ h) (p.mono k) (r.mono k)
theorem PfIns.len {H : Hp} : ∀ {vs fs}, PfIns H vs fs → vs.length = fs.length
  | _, _, .nil => rfl
  | _, _, .cons _ _ r => congrArg (· + 1) r.len
theorem PfIns.get {H : Hp} : ∀ {vs fs} (_ : PfIns H vs fs) (i : Nat) {v : V}, vs[i]? = some v → ∃ (a : Addr) (pz bz : V) (f : List (Int × Nat) × Nat), v = .ref a ∧ fs[i]? = some f ∧ H a = some (.tup [pz, dV f.2, bz]) ∧ PtIn H pz f.1
  | _, _, .nil, i, _, h => by simp at h
  | _, _, .cons h1 h2 _, 0, _, h => by
    cases h
    exact ⟨_, _, _, _, rfl, rfl, h1, h2⟩
  | _, _, .cons _ _ r, i + 1, v, h => r.get i h
theorem PgIns.pf {H : Hp} : ∀ {vs fs}, PgIns H vs fs → PfIns H vs (fs.map fun f => (f.ps, f.d))
  | _, _, .nil => .nil
  | _, _, .cons h p _ r => .cons h p r.pf
def fcs (fs : List (List (Int × Nat) × Nat)) : List (List Nat × Nat) := fs.map fun f => (f.1.map (·.2), f.2)
def spFacesX (CB : Addr) : Sp := fun vs H Q E => ∃ (a : Addr) (us : List V) (fs : List (List (Int × Nat) × Nat)), vs = [.ref a] ∧ H a = some (.tup us) ∧ PfIns H us fs ∧ 1 ≤ fs.length ∧ fs.length ≤ 6 ∧ (∀ (i : Nat) f, fs[i]? = some f → FaceOk f.1 f.2 ∨ FaceTw f.1 f.2) ∧
  ((∀ (i : Nat) f, fs[i]? = some f → FaceOk f.1 f.2) → ∀ (H' : Hp) (l : Addr) (xs : List V), Same H H' → H' l = some (.lst xs) → FIns H' xs (fcs fs) → Q (.ref l) H') ∧
  (∀ (i : Nat) f, fs[i]? = some f → FaceTw f.1 f.2 → (∀ (j : Nat) g, j < i → fs[j]? = some g → FaceOk g.1 g.2) → Ref CB (fsBp (.int (i : Int)) (.int (-1)) (.str "face")) H E)
section
variable {P : Program} {w : World} {K : PySem.W.Frag} {mg : Str → Option Value} {base : Heap} {f : Addr} {fd : FuncData}
theorem ok_facesX {CB : Addr} (F : FnP K "told_faces" sToldFaces f fd) (O_has_face : Okf P w K mg base CX0 3 "has_face" ["function"] (spHasFaceB K)) (X_BadProgram : Oke P w K mg base 2 "BadProgram" CB ["self", "function", "place", "word"] (spBp CB)) {t0 : Tok} (m_MOST_FUNCTIONS : mg "MOST_FUNCTIONS" = some (.int 6 t0)) (z_len : mg "len" = none) (z_enumerate : mg "enumerate" = none) (z_tuple : mg "tuple" = none) : FnOk P w K mg base (CX P w) 4 f fd ["program"] (spFacesX CB) := by
  have sc := scsToldFaces
  refine F.ok sc (fun vs H Q E h => ?_) (fun cdv A outer s H vs Q E hr h => ?_)
  · obtain ⟨a, us, fs, rfl, _⟩ := h
    rfl
  obtain ⟨a, us, fs, rfl, ha, hp, h1, few, ok, q, qx⟩ := h
  have hl := hp.len
  refine ⟨_, (pss_cons (ps_if (pt_cmpR op_eq (pe_callB (call_lenK K) rfl z_len PySem.boot_len (pa_cons (pv 0) pa_nil)) pe_int (nomark _)) (pss_one (ps_raise rfl (takes_of rfl rfl rfl rfl) (pmk_e X_BadProgram hr rfl (pa_cons pe_int (pa_cons (pe_un un_neg pe_int) (pa_cons pe_str pa_nil)))))) pss_nil)
    (pss_cons (ps_set (i := 1) sc.nd rfl (.inl rfl) (pe_lst pa_nil))
    (pss_cons (ps_for (passes_of rfl) rfl (pi_enumTK K rfl z_enumerate (pa_cons (pv 0) pa_nil)) (pg_tupK K (n := 2) rfl (pgs_cons (pg_name (i := 2) sc.nd rfl (.inl rfl)) (pgs_cons (pg_name (i := 3) sc.nd rfl (.inl rfl)) pgs_nil))) (pss_cons (ps_if (pt_cmpR op_ge (pv 2) (pe_gI rfl m_MOST_FUNCTIONS) (nomark _)) (pss_one (ps_raise rfl (takes_of rfl rfl rfl rfl) (pmk_e X_BadProgram hr rfl (pa_cons (pv 2) (pa_cons (pe_un un_neg pe_int) (pa_cons pe_str pa_nil)))))) pss_nil)
    (pss_cons (ps_if (pt_not (pt_val (pe_c O_has_face hr rfl pass0 (pa_cons (pv 3) pa_nil)))) (pss_one (ps_raise rfl (takes_of rfl rfl rfl rfl) (pmk_e X_BadProgram hr rfl (pa_cons (pv 2) (pa_cons (pe_un un_neg pe_int) (pa_cons pe_str pa_nil)))))) pss_nil)
    (pss_one (ps_expr (pe_bm PySem.F.plainAttrs_list PySem.F.slot_list_append PySem.F.type_list_append mt_append (pv 1) (pa_cons (pe_tup (pa_cons (pe_callTy (call_tupleK K) rfl z_tuple (by decide +kernel) (pa_cons (pe_lc (own := [("param", 4)]) (by rfl) sc.nd (pi_tupK K (pe_ix (ix_tupK K) (pv 3) pe_int (fun _ _ => rfl))) (blkOk_by (own := [("param", 4)]) (N := ["program", "told", "at", "function", "param"]) (sc := defScope sToldFaces) (by decide +kernel)) (fun _ _ _ _ _ => (pg_name (i := 4) sc.nd rfl (.inl rfl))) (fun _ _ _ _ _ => pts_nil) (fun _ _ _ _ _ => (pe_ix (ix_tupK K) (pv 4) pe_int (fun _ _ => rfl)))) pa_nil)) (pa_cons (pe_ix (ix_tupK K) (pv 3) pe_int (fun _ _ => rfl)) pa_nil))) pa_nil)))))))
    (pss_one (ps_ret (pv 1)))))), ?_⟩
  refine ⟨_, rfl, a, _, rfl, .inr (SqT.of ha), rfl, _, rfl, ?_⟩
  refine ite2 (fun z => ?_) (fun _ => ?_)
  · have z1 : V.int (us.length : Int) = V.int 0 := of_decide_eq_true z
    injection z1 with z1
    omega
  refine ⟨by show 0 ≤ sizeLine; decide, fun l hl0 => ?_⟩
  have s0 := same_new hl0 (.lst [])
  refine ⟨_, rfl, a, us, rfl, SqT.of (s0 _ _ ha), for_it (walk_enumT (K := K) (a := a) (xs := us)) (fun i σ H' => ∃ (xs : List V) (x1 x2 x3 : Option V), σ = [some (.ref a), some (.ref l), x1, x2, x3] ∧ Same H H' ∧ H' l = some (.lst xs) ∧ FIns H' xs (fcs (fs.take i)) ∧ ∀ (j : Nat) g, j < i → fs[j]? = some g → FaceOk g.1 g.2) ⟨[], none, none, none, rfl, s0, upd_same, .nil, fun j g hj => absurd hj (Nat.not_lt_zero _)⟩ ?_ ?_ ?_⟩
  · rintro i σ H' _ ⟨xs, x1, x2, x3, rfl, s1, _, _, _⟩
    exact SqT.of (s1 _ _ ha)
  · rintro i x σ H1 H2 hi ⟨xs, x1, x2, x3, rfl, s1, g1, g2, g3⟩ ⟨T, y, z, rfl, hT, rfl, e1, e2⟩
    cases e1
    obtain ⟨fa, pz, bz, f0, rfl, e3, e4, e5⟩ := hp.get i e2
    have sT := same_new hT (.tup [.int (i : Nat), .ref fa])
    have s2 := s1.trans sT
    have hxl := g2.len
    have hip : i < fs.length := by omega
    refine ⟨T, _, rfl, SqT.of upd_same, rfl, _, _, rfl, _, _, rfl, rfl, ?_⟩
    refine ⟨_, rfl, _, _, rfl, rfl, _, rfl, ?_⟩
    refine ite2 (fun z => absurd (of_decide_eq_true z) (by omega)) (fun _ => ?_)
    refine ⟨_, rfl, ?_⟩
    rcases ok i f0 e3 with fo | ft
    case inr =>
      refine .inr ⟨fa, pz, bz, f0.1, f0.2, rfl, s2 _ _ e4, e5.mono (IK.of s2), ft, fun H3 s3 => ⟨_, rfl, ?_⟩⟩
      refine ite2 (fun _ => ?_) (fun z => absurd rfl z)
      have s4 := s2.trans s3
      refine ⟨_, rfl, _, rfl, ?_⟩
      exact mk_bp (.inl ⟨(i : Int), rfl, by omega⟩) (.inl ⟨-1, rfl, by decide⟩) (.inr ⟨"face", rfl, by decide⟩) fun d hd => ((qx i f0 e3 ft g3).same s4).of hd
    refine .inl ⟨fa, pz, bz, f0.1, f0.2, rfl, s2 _ _ e4, e5.mono (IK.of s2), fo, fun H3 s3 => ⟨_, rfl, ?_⟩⟩
    refine ite2 (fun z => nomatch z) (fun _ => ?_)
    have s4 := s2.trans s3
    obtain ⟨pt, o, vs, rfl, p1, p2, p3⟩ := (e5.mono (IK.of s4)).ex
    have hpl := p3.len
    have fw := fo.few
    have gl := s3 _ _ (sT _ _ g1)
    refine ⟨_, rfl, .inl ⟨rfl, _, SqL.of gl⟩, _, rfl, fa, _, _, _, rfl, rfl, SqT.of (s4 _ _ e4), rfl, pt, rfl, ⟨_, SqT.frz p1⟩, fun D hD => ?_⟩
    refine lc_tup (K := K) (a := pt) (xs := vs) (fun i H' => H' = upd H3 D (.lst ((f0.1.take i).map fun p => dV p.2))) rfl ?_ ?_ ?_
    · rintro i H' _ rfl
      exact SqT.frz (same_new hD _ _ _ p1)
    · rintro j v H' hj rfl
      obtain ⟨ea, xx, dd, rfl, r1, r2⟩ := p3.get j hj
      have hj' : j < vs.length := (List.getElem?_eq_some_iff.mp hj).1
      refine ⟨rfl, ?_⟩
      refine ⟨_, rfl, ea, _, _, _, rfl, rfl, SqT.of (same_new hD _ _ _ r2), rfl, _, upd_same, ?_, ?_⟩
      · rw [List.length_map, List.length_take]
        exact small1000 (by omega)
      · rw [upd_upd, List.take_add_one, r1, List.map_append]
        rfl
    rintro H' rfl
    rw [hpl, List.take_length]
    have sD := same_new hD (.lst (f0.1.map fun p => dV p.2))
    refine ⟨D, _, rfl, .inl ⟨SqL.of upd_same, fun t1 ht1 => ?_⟩⟩
    have s5 := same_new ht1 (.tup (f0.1.map fun p => dV p.2))
    have s6 := s4.trans (sD.trans s5)
    refine ⟨_, rfl, fa, _, _, _, rfl, rfl, SqT.of (s6 _ _ e4), rfl, by show 2 ≤ sizeLine; decide, fun t2 ht2 => ?_⟩
    have s7 := same_new ht2 (.tup [.ref t1, dV f0.2])
    have s8 := (sD.trans s5).trans s7
    have gl8 := s8 _ _ gl
    have hxs : xs.length ≤ 6 := by
      rw [hxl]
      unfold fcs
      rw [List.length_map, List.length_take]
      omega
    refine ⟨l, xs, _, rfl, rfl, gl8, small1000 (by omega), xs ++ [.ref t2], _, _, _, rfl, ?_, upd_same, ?_, ?_⟩
    · intro b o hb
      rw [upd_ne (ne_of_none hb hl0)]
      exact s8 _ _ (s4 _ _ hb)
    · have kk := TK.lst (ys := xs ++ [.ref t2]) gl8
      have e9 : fcs (fs.take (i + 1)) = fcs (fs.take i) ++ [(f0.1.map (·.2), f0.2)] := by
        unfold fcs
        rw [List.take_add_one, e3, List.map_append]
        rfl
      rw [e9]
      refine FIns.snoc (kk _ _ upd_same) (kk _ _ ?_) (((g2.mono (TK.of sT)).mono (TK.of s3)).mono ((TK.of s8).trans kk))
      rw [List.map_map]
      exact s7 _ _ upd_same
    · intro j g hj hg
      rcases Nat.lt_succ_iff_lt_or_eq.mp hj with z | z
      · exact g3 j g z hg
      · subst z
        rw [e3] at hg
        cases hg
        exact fo
  · rintro σ H' ⟨xs, x1, x2, x3, rfl, s1, g1, g2, g3⟩
    rw [List.take_of_length_le (by omega)] at g2
    exact ⟨_, rfl, q (fun i f hf => g3 i f (by rw [hl]; exact (List.getElem?_eq_some_iff.mp hf).1) hf) _ _ _ s1 g1 g2⟩
end
end NR
set_option maxHeartbeats 4000000
namespace NR
open PySem PySem.Spec PyProof.Rows L2

/-- a body that can be -/
def Gb (H : Hp) (fs : List (List Nat × Nat)) (i : Nat) (f : List (Int × Nat) × Nat) (bz : V) : Prop := ∃ (e : Ex) (nd : Nd), TIn H bz e ∧ An (fs.take (i + 1)) (envOf f.1) 0 e nd ∧ nd.d = f.2 ∧ e.size ≤ 60 ∧ e.hgt ≤ 13 ∧ e.selfs i ≤ 1
def spFormB (K : PySem.W.Frag) (CF CN CB : Addr) : Sp := fun vs H Q E => spFormOf K CF CN vs H Q E ∨ spFormX CB vs H Q E
/-- the body of a function that lies there -/
def Body (H : Hp) (us : List V) (i : Nat) (d : Nat) (bz : V) : Prop := ∃ (fa : Addr) (pz : V), us[i]? = some (.ref fa) ∧ H fa = some (.tup [pz, dV d, bz])
def spFcsX (CB : Addr) : Sp := fun vs H Q E => ∃ (a : Addr) (us : List V) (fs : List (List (Int × Nat) × Nat)), vs = [.ref a] ∧ H a = some (.tup us) ∧ PfIns H us fs ∧ 1 ≤ fs.length ∧ fs.length ≤ 6 ∧
  ((∃ (i : Nat) (f : List (Int × Nat) × Nat), fs[i]? = some f ∧ FaceTw f.1 f.2 ∧ (∀ (j : Nat) g, j < i → fs[j]? = some g → FaceOk g.1 g.2) ∧ (∀ (j : Nat) g, fs[j]? = some g → FaceOk g.1 g.2 ∨ FaceTw g.1 g.2) ∧ Ref CB (fsBp (.int (i : Int)) (.int (-1)) (.str "face")) H E) ∨
   ((∀ (i : Nat) f, fs[i]? = some f → FaceOk f.1 f.2) ∧ ∃ n, n ≤ fs.length ∧ (∀ (i : Nat) f bz, i < n → fs[i]? = some f → Body H us i f.2 bz → Gb H (fcs fs) i f bz) ∧
     (n = fs.length → ∀ (H' : Hp) (l : Addr) (xs : List V), Same H H' → H' l = some (.lst xs) → FIns H' xs (fcs fs) → Q (.ref l) H') ∧
     (n < fs.length → ∃ z, (∀ f bz, fs[n]? = some f → Body H us n f.2 bz → Bd H (fcs fs) (envOf f.1) n 0 false bz z) ∧ Ref CB (fsBp (.int (n : Int)) (.int 0) (.str z)) H E)))
theorem FaceTw.no {ps : List (Int × Nat)} {d : Nat} (h : FaceTw ps d) : ¬ FaceOk ps d := fun o => h.nnd o.nd
abbrev sFaces : Stmt := top 47
theorem scsFaces : FnScope ["program", "told", "at", "function"] ["program"] (defScope sFaces) := ⟨rfl, rfl, rfl, by decide +kernel, rfl, by decide +kernel, by decide +kernel⟩
section
variable {P : Program} {w : World} {K : PySem.W.Frag} {mg : Str → Option Value} {base : Heap} {f : Addr} {fd : FuncData}

theorem ok_fcsx {k : Nat} {CF CN CB : Addr} (F : FnP K "faces" sFaces f fd) (O_told_faces : Okf P w K mg base (CX P w) k "told_faces" ["program"] (spFacesX CB)) (O_form_of : Okf P w K mg base (CX P w) k "form_of" ["function", "at", "told"] (spFormB K CF CN CB)) (z_enumerate : mg "enumerate" = none) : FnOk P w K mg base (CX P w) (k + 1) f fd ["program"] (spFcsX CB) := by
  have sc := scsFaces
  refine F.ok sc (fun vs H Q E h => ?_) (fun cdv A outer s H vs Q E hr h => ?_)
  · obtain ⟨a, us, fs, rfl, _⟩ := h
    rfl
  obtain ⟨a, us, fs, rfl, ha, hp, h1, few, h⟩ := h
  have hl := hp.len
  refine ⟨_, (pss_cons (ps_set (i := 1) sc.nd rfl (.inl rfl) (pe_c O_told_faces hr rfl (passes_call (takes_of rfl rfl rfl rfl) (fun _ _ _ _ h => h)) (pa_cons (pv 0) pa_nil)))
    (pss_cons (ps_for (passes_of rfl) rfl (pi_enumTK K rfl z_enumerate (pa_cons (pv 0) pa_nil)) (pg_tupK K (n := 2) rfl (pgs_cons (pg_name (i := 2) sc.nd rfl (.inl rfl)) (pgs_cons (pg_name (i := 3) sc.nd rfl (.inl rfl)) pgs_nil))) (pss_one (ps_expr (pe_c O_form_of hr rfl (passes_call (takes_of rfl rfl rfl rfl) (fun _ _ _ _ h => h)) (pa_cons (pv 3) (pa_cons (pv 2) (pa_cons (pv 1) pa_nil)))))))
    (pss_one (ps_ret (pv 1))))), ?_⟩
  rcases h with ⟨i0, f0, i1, i2, i3, i4, i5⟩ | ⟨ok, n, hn, gb, qg, qb⟩
  · refine ⟨_, rfl, a, us, fs, rfl, ha, hp, h1, few, i4, fun z => absurd (z i0 f0 i1) i2.no, fun i g hg tw lt => ?_⟩
    have e : i = i0 := by
      rcases Nat.lt_trichotomy i i0 with z | z | z
      · exact absurd (i3 i g z hg) tw.no
      · exact z
      · exact absurd (lt i0 f0 z i1) i2.no
    subst e
    exact i5
  refine ⟨_, rfl, a, us, fs, rfl, ha, hp, h1, few, fun i g hg => .inl (ok i g hg), fun _ H1 l xs s1 g1 g2 => ?_, fun i g hg tw _ => absurd (ok i g hg) tw.no⟩
  refine ⟨_, rfl, a, us, rfl, SqT.of (s1 _ _ ha), for_it (walk_enumT (K := K) (a := a) (xs := us)) (fun i σ H' => ∃ (x2 x3 : Option V), σ = [some (.ref a), some (.ref l), x2, x3] ∧ Same H1 H' ∧ i ≤ n) ⟨none, none, rfl, fun _ _ h => h, Nat.zero_le _⟩ ?_ ?_ ?_⟩
  · rintro i σ H' _ ⟨_, _, rfl, s2, _⟩
    exact SqT.of (s2 _ _ (s1 _ _ ha))
  · rintro i x σ H2 H3 hi ⟨x2, x3, rfl, s2, le⟩ ⟨T, y, z, rfl, hT, rfl, c1, c2⟩
    cases c1
    obtain ⟨fa, pz, bz, f0, rfl, e3, e4, e5⟩ := hp.get i c2
    have fo := ok i f0 e3
    have sT := same_new hT (.tup [.int (i : Nat), .ref fa])
    have s3 := (s1.trans s2).trans sT
    refine ⟨T, _, rfl, SqT.of upd_same, rfl, _, _, rfl, _, _, rfl, rfl, ?_⟩
    refine ⟨_, rfl, _, rfl, _, rfl, ?_⟩
    rcases Nat.lt_or_eq_of_le le with c | c
    · obtain ⟨e, nd, m1, m2, m3, m4, m5, m6⟩ := gb i f0 bz c e3 ⟨fa, pz, c2, e4⟩
      exact .inl ⟨fa, l, i, pz, bz, ⟨f0.1, f0.2, e⟩, xs, fcs fs, nd, rfl, s3 _ _ e4, e5.mono (IK.of s3), m1.mono (TK.of s3), fo, sT _ _ (s2 _ _ g1), (g2.mono (TK.of s2)).mono (TK.of sT), m2, m3, m4, m5, m6, fun H4 v4 s4 f4 => ⟨_, _, rfl, s2.trans (sT.trans s4), c⟩⟩
    · subst c
      have hi' : i < fs.length := by omega
      obtain ⟨zz, b1, b2⟩ := qb hi'
      exact .inr ⟨fa, l, i, pz, bz, f0.1, f0.2, xs, fcs fs, zz, rfl, s3 _ _ e4, e5.mono (IK.of s3), fo, sT _ _ (s2 _ _ g1), (g2.mono (TK.of s2)).mono (TK.of sT), by omega, (b1 f0 bz e3 ⟨fa, pz, c2, e4⟩).mono (TK.of s3), b2.same s3⟩
  · rintro σ H' ⟨x2, x3, rfl, s2, le⟩
    exact ⟨_, rfl, qg (by omega) _ _ _ (s1.trans s2) (s2 _ _ g1) (g2.mono (TK.of s2))⟩
end
end NR
set_option maxHeartbeats 4000000
namespace NR
open PySem PySem.Spec PyProof.Rows L2
/-! ### an error that leaves from inside a list comprehension -/
section
variable {M : Model} {A : Around} {E : Value → Shared → Prop} {s : Shared} {G : Heap} {env : Env} {outer : List Env} {L a : Addr} {Z : Obj → Prop} {fl : Value}
/-- whatever frame was noted last: it leaves this one -/
theorem leave_any {Q : Unit → Shared → Prop} (hZ : HandSPX.Steady Z) (hfr : A.frames = some (env :: outer)) (hf : env.frame = some L) (st : G.StaysIn s.heap) (ng : G.get? a = none) (ff : s.heap.FunFrames G (env :: outer)) (tr : HandSPX.TracedZ s.heap G a Z fl)
    (q : ∀ h', HandSPX.FlyingZ G outer a Z h' → s.heap.UpToSlots h' → Q () { s with heap := h' }) : wpAny M A (leaving env (.ref a)) Q E s := by
  by_cases c : fl = rawInt L
  · subst c
    exact HandSPX.leaves_heldZ hf ⟨st, ng, ff, tr⟩ q
  obtain ⟨oe, vs, T, oT, ts, he, hz, hd, h1, nT, neT, hT, dT, h3⟩ := tr
  have rec_ne : ∀ b o, s.heap.get? b = some o → (∀ vs, o.data ≠ .fields vs) → b ≠ T := fun b o hb no z => by
    subst z
    rw [hT] at hb
    cases hb
    exact no ts dT
  have off : ∀ b, b ≠ T → (s.heap.update T (Obj.mapFields (·.setIfInBounds 3 Value.none))).get? b = s.heap.get? b := fun b hb => Heap.get?_update_other _ _ hb.symm
  unfold leaving noteFrame
  simp only [hf]
  refine wpAny_bind (wpAny_bind (wpAny_field he hd h1 ?_))
  rw [if_pos (by simp)]
  refine wpAny_bind (wpAny_field hT dT h3 ?_)
  have c' : (fl == rawInt L) = false := by simpa using c
  rw [if_neg (by rw [c']; exact Bool.false_ne_true)]
  refine wpAny_bind (wpAny_setField hT dT (Array.getElem?_eq_some_iff.mp h3).1 ?_)
  have ff2 : (s.heap.update T (Obj.mapFields (·.setIfInBounds 3 Value.none))).FunFrames G (env :: outer) := ff.of_keeps fun b o hb no => ⟨o, (off b (rec_ne b o hb no)).trans hb, rfl⟩
  have st2 : G.StaysIn (s.heap.update T (Obj.mapFields (·.setIfInBounds 3 Value.none))) := fun b o hb => (off b fun z => by rw [z, nT] at hb; cases hb).trans (st b o hb)
  refine HandSPX.wpAny_entryZ hZ hfr ff2 hf ((off a neT.symm).trans he) st2 ng hd (Array.getElem?_eq_some_iff.mp h1).1 hz fun h' n => ?_
  obtain ⟨n1, n2, n3, n4⟩ := n
  refine HandSPX.landsZ (s := { s with heap := h' }) ⟨n1, ng, n2, n3⟩ fun h2 f2 up2 => q h2 ⟨f2.1, f2.2.1, f2.2.2.1.2.2, f2.2.2.2⟩ fun b o hb no => ?_
  obtain ⟨sl, e1⟩ := n4 b o ((off b (rec_ne b o hb no)).trans hb) no
  obtain ⟨sl2, e2⟩ := up2 b _ e1 no
  exact ⟨sl2, e2⟩
end
theorem ff_but {h h' B G : Heap} {C : Addr} (hG : ∀ b, B.get? b = none → G.get? b = none) (k : ∀ b, b ≠ C → h'.get? b = h.get? b) : ∀ {l : List Env}, h.FunFrames B l → (∀ b ∈ frs l, b ≠ C) → h'.FunFrames G l
  | [], _, _ => trivial
  | env :: rest, ⟨kd, ⟨L, o, hf, hb, ho, no⟩, r⟩, ne => by
    have nL : L ≠ C := ne L (by unfold frs; rw [List.filterMap_cons, hf]; exact List.mem_cons_self ..)
    refine ⟨kd, ⟨L, o, hf, hG L hb, (k L nL).trans ho, no⟩, ff_but hG k r fun b hm => ne b ?_⟩
    unfold frs at hm ⊢
    rw [List.filterMap_cons, hf]
    exact List.mem_cons_of_mem _ hm
section
variable {X : Cx} {E : XK} {E₁ : Value → Shared → Prop}
/-- what an error out of a block's turn comes to: it leaves the def -/
theorem lc_passes (hs : X.stack = X.env :: X.outer) (hf : X.env.frame = some X.env.locals) (hex : X.ex = []) (hx : X.xe = fun e s' => wpAny (model X.prog X.w) X.A (leaving X.env e) (fun _ s'' => CX X.prog X.w X.outer X.H_0 X.s_0 E e s'') E₁ s')
    {pins : List (Addr × Obj)} {σ : L2.St} {H3 : Hp} {s3 : Shared} {scope : Scope} {ce : Env} {fp : List Addr} {use : Option (Value → Sem Unit)} {Qf : Value → Shared → Prop} {acc : Value} (I3 : Inv X pins σ H3 s3) (f3 : ∀ b ∈ fp, FpOk X pins H3 b) (cL : ce.locals = s3.heap.objs.size) (cf : ce.frame = X.env.frame) :
    Passes (CX X.prog X.w) ((X.blk s3 H3 scope ce fp).wish (notedBy (model X.prog X.w) X.A ce fun e s' => compPost (model X.prog X.w) X.A X.xe use Qf acc s3.heap.objs.size (.error e) s')) E := by
  intro pY σY H s u s' IY c
  obtain ⟨a, B, H', cls, d, rfl, fl, hok, ub, na, os, ag, hE⟩ := c
  have fl : HandSPX.FlyingZ B X.stack a (Zc cls d) s'.heap := fl
  have ub : UB (frs X.stack) H H' s.heap B s'.heap := ub
  have uY : Un (frs X.stack) fp H3 H s3.heap s.heap := IY.base
  have hfr : X.A.frames = some (X.env :: X.outer) := by rw [I3.ok.frames, hs]
  have note : ∀ x, noteFrame x ce = noteFrame x X.env := fun x => by
    unfold noteFrame PySem.frameOf
    rw [cf]
  -- the block's own names
  have nC : H s3.heap.objs.size = none := by
    have z : H ce.locals = none := IY.free
    rw [cL] at z
    exact z
  have fC : s3.heap.objs.size ∉ frs X.stack := fun hb => by
    obtain ⟨_, o, ho, _⟩ := I3.stack.mem hb
    exact absurd (Heap.lt_size ho) (Nat.lt_irrefl _)
  obtain ⟨m, hn, _⟩ := IY.loc
  have hn : s.heap.Ns ce.locals m := hn
  rw [cL] at hn
  obtain ⟨oC, es, ep, hC, rC⟩ := hn
  have bC : B.get? s3.heap.objs.size = some oC := ub.keep _ _ hC nC fC
  show wpAny _ X.A (noteFrame (.ref a) ce) _ _ s'
  rw [note]
  rw [hs] at fl
  refine HandSPX.looks_onZ Zc.steady hfr hf fl fun h1 held up1 => ?_
  refine ⟨m, ⟨oC, es, ep, held.1 _ _ bC, rC⟩, fun h2 sb cenv _ => ?_⟩
  obtain ⟨G, g1, g2⟩ := restrict B fun b => !decide (b = s3.heap.objs.size)
  have gB : ∀ b, b ≠ s3.heap.objs.size → G.get? b = B.get? b := fun b hb => g1 b (by simp [hb])
  have gC : G.get? s3.heap.objs.size = none := g2 _ (by simp)
  have k2 : ∀ b, b ≠ s3.heap.objs.size → h2.get? b = h1.get? b := sb.2
  obtain ⟨st1, ng1, ff1, oe, vs, T, oT, ts, he, hz, hd, e1, nT, neT, hT, dT, e3⟩ := held
  have aC : a ≠ s3.heap.objs.size := fun z => by rw [z, bC] at ng1; cases ng1
  have tC : T ≠ s3.heap.objs.size := fun z => by rw [z, bC] at nT; cases nT
  have sub : ∀ {b : Addr} {o : Obj}, G.get? b = some o → b ≠ s3.heap.objs.size ∧ B.get? b = some o := fun {b o} hb => by
    by_cases z : b = s3.heap.objs.size
    · rw [z, gC] at hb
      cases hb
    · exact ⟨z, (gB b z) ▸ hb⟩
  have stG : G.StaysIn h2 := fun b o hb => (k2 b (sub hb).1).trans (st1 b o (sub hb).2)
  have noG : ∀ {b : Addr}, B.get? b = none → G.get? b = none := fun {b} hb => by
    by_cases z : b = s3.heap.objs.size
    · rw [z]
      exact gC
    · rw [gB b z]
      exact hb
  have frC : ∀ b ∈ frs (X.env :: X.outer), b ≠ s3.heap.objs.size := fun b hb z => fC (by rw [hs, ← z]; exact hb)
  have ffG : h2.FunFrames G (X.env :: X.outer) := ff_but (fun _ => noG) k2 ff1 frC
  have trG : HandSPX.TracedZ h2 G a (Zc cls d) (rawInt X.env.locals) := ⟨oe, vs, T, oT, ts, (k2 a aC).trans he, hz, hd, e1, noG nT, neT, (k2 T tC).trans hT, dT, e3⟩
  unfold PySem.passOn
  refine wpAny_bind (wpAny_field ((k2 a aC).trans he) hd e1 ?_)
  rw [if_neg (by simp)]
  refine wpAny_bind (HandSPX.setFlight_anyZ (s := { s' with heap := h2 }) stG ffG trG fun h3 st3 ff3 tr3 up3 => ?_)
  refine wpAny_throw ?_
  rw [hx]
  refine leave_any Zc.steady hfr hf st3 (noG ng1) ff3 tr3 fun h4 fl4 up4 => ?_
  -- back to where the def was entered
  have sz3 := I3.sz
  have nex : ∀ b, b ∉ X.ex := fun b z => by rw [hex] at z; cases z
  have nfp : ∀ {b : Addr} {o : Obj}, X.s_0.heap.get? b = some o → b ∉ fp := fun {b o} hb z => by
    rcases (f3 b z).2.2.2.1 with y | y
    · exact nex b y
    · exact absurd (Nat.lt_of_lt_of_le (Heap.lt_size hb) y) (Nat.lt_irrefl _)
  have nst : ∀ {b : Addr} {o : Obj}, X.s_0.heap.get? b = some o → b ∉ frs X.outer → b ∉ frs X.stack := fun {b o} hb n z => by
    rcases List.mem_cons.mp (I3.stkSub b z) with y | y
    · exact absurd (Nat.lt_of_lt_of_le (Heap.lt_size hb) (by rw [y]; exact I3.ok.above)) (Nat.lt_irrefl _)
    · exact n y
  have n0 : ∀ {b : Addr} {o : Obj}, X.s_0.heap.get? b = some o → b ≠ s3.heap.objs.size := fun {b o} hb => Nat.ne_of_lt (Nat.lt_of_lt_of_le (Heap.lt_size hb) sz3)
  have hC' : H' s3.heap.objs.size = none := ub.free _ _ hC nC
  refine ⟨a, G, H', cls, d, rfl, fl4, fun b o hb => ?_, ⟨fun b o e n nb => ?_, fun b o e hb => ?_, fun b o e n => ?_, fun b o e nb => ?_, fun b xs e => ub.tups _ _ (uY.tups _ _ (I3.base.tups _ _ e)), fun b o xs e => ub.frzs _ _ _ (uY.frzs _ _ _ (I3.base.frzs _ _ _ e)), fun b ps e => ?_⟩, na, os.trans ?_, ag, hE⟩
  · refine (hok b o hb).stay (fun c v hc z => ?_) (fun _ z => z) fun _ _ z => z
    rw [gB c ?_]
    · exact z
    · rintro rfl
      rcases hc with y | y
      · rw [← y, hC'] at hb
        cases hb
      · rw [hC'] at y
        cases y
  · have a1 := I3.base.keep b o e n nb (nex b)
    have a2 := I3.base.free b o e n (nex b)
    have a3 := uY.keep b o a1 a2 (nst e nb) (nfp e)
    have a4 := uY.free b o a1 a2 (nfp e)
    rw [gB b (n0 e)]
    exact ub.keep b o a3 a4 (nst e nb)
  · obtain ⟨_, o0, e0, hnf⟩ := I3.ok.funs.mem hb
    rw [e] at e0
    cases e0
    have hb' : b ∈ frs X.stack := by
      rw [hs]
      unfold frs
      rw [List.filterMap_cons, hf]
      exact List.mem_cons_of_mem _ hb
    obtain ⟨l1, a1⟩ := I3.base.slot b o e (I3.ok.frf b hb) hb (nex b)
    have a2 := I3.base.free b o e (I3.ok.frf b hb) (nex b)
    obtain ⟨l2, a3⟩ := uY.slot b _ a1 a2 hb' (nfp e)
    obtain ⟨l3, a4⟩ := ub.slot b _ a3 hb'
    obtain ⟨l4, a5⟩ := up1 b _ a4 hnf
    have a6 := (k2 b (n0 e)).trans a5
    obtain ⟨l7, a7⟩ := up3 b _ a6 hnf
    obtain ⟨l8, a8⟩ := up4 b _ a7 hnf
    exact ⟨l8, a8⟩
  · have a1 := I3.base.free b o e n (nex b)
    obtain ⟨o1, b1⟩ := I3.base.there b o e (nex b)
    have a2 := uY.free b o1 b1 a1 (nfp e)
    obtain ⟨o2, b2⟩ := uY.there b o1 b1 (nfp e)
    exact ub.free b o2 b2 a2
  · obtain ⟨o1, b1⟩ := I3.base.there b o e (nex b)
    obtain ⟨o2, b2⟩ := uY.there b o1 b1 (nfp e)
    obtain ⟨o3, b3⟩ := ub.there b o2 b2 (nst e nb)
    exact ⟨o3, by rw [gB b (n0 e)]; exact b3⟩
  · obtain ⟨m1, q1⟩ := I3.base.tbls b ps e
    obtain ⟨m2, q2⟩ := uY.tbls b _ q1
    obtain ⟨m3, q3⟩ := ub.tbls b _ q2
    exact ⟨m1 ++ m2 ++ m3, by rw [q3]; simp [Array.append_assoc]⟩
  · exact IY.os.trans I3.os
/-- THE RULE: [elt for target in iter if ..] in a def's body, whose elements may raise out of the def -/
theorem pe_lcX {elt tg iter : Expr} {ifs : List Expr} {scope : Scope} {own : List (Str × Nat)} {pos : Pos} {wi : TI} {g : TG} {tt : TT} {te : TE} (hc : X.calm = true) (hN : X.N.Nodup)
    (hs : X.stack = X.env :: X.outer) (hf : X.env.frame = some X.env.locals) (hex : X.ex = []) (hx : X.xe = fun e s' => wpAny (model X.prog X.w) X.A (leaving X.env e) (fun _ s'' => CX X.prog X.w X.outer X.H_0 X.s_0 E e s'') E₁ s')
    (hi : PI X tg iter wi) (ok : BlkOk X.N X.env.scope scope own)
    (hg : ∀ (s : Shared) (H : Hp) (C : Addr) (cl : List (Str × Addr)) (fp : List Addr) (Z : Value → Shared → Prop), PG ((X.blk s H scope (compEnvC scope cl C X.env) fp).wish Z) tg g)
    (ht : ∀ (s : Shared) (H : Hp) (C : Addr) (cl : List (Str × Addr)) (fp : List Addr) (Z : Value → Shared → Prop), PTs ((X.blk s H scope (compEnvC scope cl C X.env) fp).wish Z) ifs tt)
    (he : ∀ (s : Shared) (H : Hp) (C : Addr) (cl : List (Str × Addr)) (fp : List Addr) (Z : Value → Shared → Prop), Passes (CX X.prog X.w) ((X.blk s H scope (compEnvC scope cl C X.env) fp).wish Z) E → PE ((X.blk s H scope (compEnvC scope cl C X.env) fp).wish Z) elt te)
    (hfo : ∀ x, foldedSetIterable iter X.env x = pure x := by intro _; rfl) : PE X (.ListComp elt [⟨tg, iter, ifs, 0⟩] scope pos) (tLc wi g tt te (own.map (·.2))) := by
  refine ⟨fun pins s σ H Q I h => ?_⟩
  rw [eval_ListComp]
  have cap : ∀ y ∈ scope.names, y.2 = .free → ∃ c, X.env.cells.lookup y.1 = some c := fun y hy z => (ok.free y hy z).elim (fun k => I.ok.has _ (.inl k)) fun k => I.ok.has _ (.inr k)
  refine wpAny_comprehension_free (use := none) rfl hfo (closure_ok cap) ok.kind (fun y hy z => by rw [ok.uniq y hy, z]) ?_
  refine thn (hi.run pins s σ H _ I h) fun _ s1 i1 => thn i1 fun _ s2 i2 => ?_
  obtain ⟨it, fp, tn, J, H2, rfl, I2, T, t2, f2, q⟩ := i2
  refine wpAny_newObj_type (newEnv_comp ?_) (by show 0 ≤ sizeLine; decide)
  obtain ⟨D, hD⟩ : ∃ D, D = s2.heap.objs.size := ⟨_, rfl⟩
  rw [← hD]
  have nD : H2 D = none := I2.hok.fresh (Nat.le_of_eq hD.symm)
  obtain ⟨W, ⟨m0, w0⟩, turn⟩ := q D nD
  obtain ⟨s3, e3⟩ : ∃ s3 : Shared, s3 = { s2 with heap := s2.heap.push { cls := .type "list", data := .seq ([] : List Value).toArray } } := ⟨_, rfl⟩
  rw [← e3]
  have h3 : s3.heap = s2.heap.push { cls := .type "list", data := .seq ([] : List Value).toArray } := congrArg Shared.heap e3
  have I3 : Inv X pins σ (upd H2 D (.lst [])) s3 := by
    rw [e3]
    exact I2.laid (t' := s2.toks) (fun b o z => Heap.get?_push_of_some _ z) (Nat.le_of_eq hD.symm) ⟨Nat.zero_le _, [], 0, .nil, by rw [hD]; exact Heap.get?_push_size _ rfl⟩
  have small : ∀ b ∈ fp, b < s2.heap.objs.size := fun b hb => (T.obj _ _ t2 b hb).elim fun o z => Heap.lt_size z.1
  have f3 : ∀ b ∈ fp, FpOk X pins (upd H2 D (.lst [])) b ∧ b < s3.heap.objs.size := fun b hb => by
    have lt := small b hb
    refine ⟨⟨?_, (f2 b hb).2⟩, by rw [h3, Heap.size_push]; exact Nat.lt_succ_of_lt lt⟩
    rw [upd_ne (by rw [hD]; exact Nat.ne_of_lt lt)]
    exact (f2 b hb).1
  have t3 : tn 0 s3.heap := T.keep _ _ _ t2 fun b _ o z => by rw [h3]; exact Heap.get?_push_of_some _ z
  have I4 := block_start I3 ok hN f3
  have nf3 : ∀ b ∈ fp, (upd H2 D (.lst [])) b = none := fun b hb => (f3 b hb).1.1
  obtain ⟨cl, hcl⟩ : ∃ cl, cl = cellsFrom (s3.heap.objs.size + 1) scope.names (cloFrom X.env.cells scope.names []) := ⟨_, rfl⟩
  obtain ⟨s4, hs4⟩ : ∃ s4 : Shared, s4 = { s3 with heap := pushCells (s3.heap.push { cls := .type "dict", data := .dict #[] }) scope.names } := ⟨_, rfl⟩
  rw [← hcl, ← hs4] at I4
  show codeAny _ _ (.compStart (.ListComp elt [⟨tg, iter, ifs, 0⟩] scope pos) 0 (.ref it) (.ref D) (compEnvC scope (cellsFrom (s3.heap.objs.size + 1) scope.names (cloFrom X.env.cells scope.names [])) s3.heap.objs.size X.env)) (compPost (model X.prog X.w) X.A X.xe none (EP X pins σ Q) (.ref D) s3.heap.objs.size) { s3 with heap := pushCells (s3.heap.push { cls := .type "dict", data := .dict #[] }) scope.names }
  rw [← hcl, ← hs4]
  have t4 : tn 0 s4.heap := T.keep _ _ _ t3 fun b _ o z => by
    rw [hs4]
    exact pushCells_keeps _ _ _ _ (Heap.get?_push_of_some _ z)
  obtain ⟨H3, eH3⟩ : ∃ H3, H3 = upd H2 D (.lst []) := ⟨_, rfl⟩
  rw [← eH3] at I3 I4 w0 nf3 f3
  obtain ⟨ce, hce⟩ : ∃ ce, ce = compEnvC scope cl s3.heap.objs.size X.env := ⟨_, rfl⟩
  have pas := lc_passes (E := E) hs hf hex hx (scope := scope) (ce := ce) (fp := fp) (use := none) (Qf := EP X pins σ Q) (acc := .ref D) I3 (fun b hb => (f3 b hb).1) (by rw [hce]; rfl) (by rw [hce]; rfl)
  obtain ⟨Z, hZ⟩ : ∃ Z, Z = notedBy (model X.prog X.w) X.A ce fun e s' => compPost (model X.prog X.w) X.A X.xe none (EP X pins σ Q) (.ref D) s3.heap.objs.size (.error e) s' := ⟨_, rfl⟩
  rw [← hZ] at pas
  have pg := hg s3 H3 s3.heap.objs.size cl fp Z
  have pt := ht s3 H3 s3.heap.objs.size cl fp Z
  have pe := he s3 H3 s3.heap.objs.size cl fp Z
  rw [← hce] at I4 pg pt pe ⊢
  have pe := pe pas
  have cL : ce.locals = s3.heap.objs.size := by rw [hce]; rfl
  have I4 : Inv ((X.blk s3 H3 scope ce fp).wish Z) [] (wipe σ (own.map (·.2))) H3 s4 := Inv.unwish (X := (X.blk s3 H3 scope ce fp).wish Z) (E := fun _ _ => False) I4
  have stay : ∀ {σ' : L2.St} {H' : Hp} {s' : Shared}, Inv ((X.blk s3 H3 scope ce fp).wish Z) [] σ' H' s' → (∀ b ∈ fp, H' b = none) → ∀ b ∈ fp, FpOk ((X.blk s3 H3 scope ce fp).wish Z) [] H' b := fun {σ' H' s'} J hn b hb =>
    ⟨hn b hb, (J.ok.exf b hb).1, J.ok.exfs b hb, .inl hb, fun x c z => (J.ok.exf b hb).2 x c z, fun p hp => absurd (show p ∈ ([] : List (Addr × Obj)) ++ [] from hp) (by simp)⟩
  have loop : codeAny (model X.prog X.w) X.A (.compLoop (.ListComp elt [⟨tg, iter, ifs, 0⟩] scope pos) 0 (.ref it) (.ref D) ce) (compPost (model X.prog X.w) X.A X.xe none (EP X pins σ Q) (.ref D) s3.heap.objs.size) s4 := by
    refine compLoop_any (fun n s' => ∃ i H', Inv ((X.blk s3 H3 scope ce fp).wish Z) [] (wipe σ (own.map (·.2))) H' s' ∧ tn i s'.heap ∧ (∀ b ∈ fp, H' b = none) ∧ W i n H') ?_ m0 ⟨0, H3, I4, t4, nf3, w0⟩
    rintro n s5 ⟨i, H5, I5, t5, n5, w5⟩
    rcases turn i n H5 w5 with ⟨stop, qq⟩ | ⟨go, Nx, hNx, step⟩
    · refine thnF (T.done ((X.blk s3 H3 scope ce fp).wish Z) rfl rfl rfl hc i [] s5 _ H5 (fun _ _ => False) I5 (stay I5 n5) t5 stop) fun r s6 ⟨hr, I6⟩ => ?_
      subst hr
      have I7 : Inv X pins σ H5 s6 := I3.call' (ch := fp) I6.os I6.base I6.hok I6.bare fun b hb => ⟨(f3 b hb).1.2.2.2.1, (f3 b hb).1.2.1, (f3 b hb).1.2.2.2.2.1, (f3 b hb).1.2.2.2.2.2⟩
      have nC : H5 s3.heap.objs.size = none := cL ▸ I6.free
      obtain ⟨m, hn, _⟩ := I6.loc
      have hn : s6.heap.Ns ce.locals m := hn
      rw [cL] at hn
      obtain ⟨g0, g1, g2, g3, g4, g5⟩ := I3.fpOk (Nat.le_refl _) nC
      exact ⟨m, hn, fun h7 sb => ⟨.ref D, H5, I7.turned (t' := s6.toks) (fun b o hb z => (sb.2 b hb).trans z) g0 g1 g3 g4 g5, rfl, qq⟩⟩
    · refine thnF (T.item ((X.blk s3 H3 scope ce fp).wish Z) rfl rfl rfl hc i [] s5 _ H5 (fun _ _ => False) I5 (stay I5 n5) t5 go) fun r s6 ⟨u, hr, k6⟩ => ?_
      subst hr
      refine thnF k6 fun _ s7 ⟨x, H7, I7, r7, y7, t7, n7⟩ => ?_
      have P7 := I7.pinned (stay I7 n7) (T.obj _ _ t7)
      subst hZ
      refine thn (pg.run _ s7 _ H7 x u _ P7 r7 (step x H7 y7)) fun _ s8 ⟨σ8, H8, I8, w8, q8⟩ => ?_
      refine thn (pt.run _ s8 σ8 H8 _ I8 q8) fun b s9 ⟨H9, I9, q9⟩ => ?_
      have back : ∀ {s' : Shared} {H' : Hp}, Inv ((X.blk s3 H3 scope ce fp).wish (notedBy (model X.prog X.w) X.A ce fun e s' => compPost (model X.prog X.w) X.A X.xe none (EP X pins σ Q) (.ref D) s3.heap.objs.size (.error e) s')) ([] ++ pinsAt fp s7.heap) σ8 H' s' → Nx H' → ∃ m, m < n ∧ ∃ i H', Inv ((X.blk s3 H3 scope ce fp).wish (notedBy (model X.prog X.w) X.A ce fun e s' => compPost (model X.prog X.w) X.A X.xe none (EP X pins σ Q) (.ref D) s3.heap.objs.size (.error e) s')) [] (wipe σ (own.map (·.2))) H' s' ∧ tn i s'.heap ∧ (∀ b ∈ fp, H' b = none) ∧ W i m H' := fun {s' H'} J nx => by
        obtain ⟨m', lt, w'⟩ := hNx H' nx
        have held : ∀ b ∈ fp, ∀ o, s7.heap.get? b = some o → s'.heap.get? b = some o ∧ H' b = none := fun b hb o z => by
          have y := J.pin (b, o) (List.mem_append_right _ (List.mem_append_right _ (mem_pinsAt hb z)))
          exact ⟨y.1, y.2.1⟩
        have len : (wipe σ (own.map (·.2))).length = σ8.length := by rw [← w8, wipe_length]
        refine ⟨m', lt, i + 1, H', (J.unpinned (pins := [])).weak len (fun j v z => (wipe_some (w8 ▸ z)).1), T.keep _ _ _ t7 fun b hb o z => (held b hb o z).1, fun b hb => ?_, w'⟩
        obtain ⟨o, z, _⟩ := T.obj _ _ t7 b hb
        exact (held b hb o z).2
      cases b with
      | false =>
        simp only [Bool.false_eq_true, if_false] at q9 ⊢
        exact back I9 q9
      | true =>
        simp only [if_true] at q9 ⊢
        refine thn (pe.run _ s9 σ8 H9 _ I9 q9) fun _ s10 ⟨yv, H10, I10, r10, acc, d10, z10, nx⟩ => ?_
        exact app_ok (X := (X.blk s3 H3 scope ce fp).wish (notedBy (model X.prog X.w) X.A ce fun e s' => compPost (model X.prog X.w) X.A X.xe none (EP X pins σ Q) (.ref D) s3.heap.objs.size (.error e) s')) I10 d10 z10 r10 fun s11 I11 => back I11 nx
  exact codeAny_compStart_list loop (T.self X.A 0 _ _ _ t4 loop)
end
end NR
set_option maxHeartbeats 4000000
namespace NR
open PySem PySem.Spec PyProof.Rows L2

theorem SameX.ikI {a : Addr} {H H' : Hp} {C dx : Addr} {fs : List (Str × V)} (s : SameX a H H') (h : H a = some (.ins C dx fs)) : IK H H' := ⟨s.tkI h, fun b o xs q => s b _ (ne_of q h (by intro z; cases z)) q⟩
def spRdG (C : Addr) : Sp := fun vs H Q _ => ∃ (a dx : Addr) (row : Int) (z : Str) (ws : List Str), vs = [.ref a, .int row, .str z] ∧ H a = some (.ins C dx []) ∧ Txt.split z (" " : Str) = ws ∧ z.length ≤ 10000 ∧ ∀ (wl : Addr) (H' : Hp), H wl = none → RdTo H H' C a dx wl row 0 ws → Q .non H'
section
variable {P : Program} {w : World} {K : PySem.W.Frag} {mg : Str → Option Value} {base : Heap} {f : Addr} {fd : FuncData}
theorem ok_rdinitg {C : Addr} (F : FnM K "__init__" "RowReader.__init__" sRowReaderInit f fd) (N : RrC K C) : FnOk P w K mg base CX0 1 f fd ["self", "row", "text"] (spRdG C) := by
  have sc := scsRowReaderInit
  refine F.ok sc (fun vs H Q E h => ?_) (fun cdv A outer s H vs Q E hr h => ?_)
  · obtain ⟨a, dx, row, z, ws, rfl, _⟩ := h
    rfl
  obtain ⟨a, dx, row, z0, ws, rfl, ha, hws, hl, q⟩ := h
  have big : 100000 ≤ sizeLine := by decide
  refine ⟨_, (pss_cons (ps_fldK K (pv 0) (pv 1) rfl)
    (pss_cons (ps_fldK K (pv 0) (pe_split (pv 2) pe_str) rfl)
    (pss_one (ps_fldK K (pv 0) pe_int rfl)))), ?_⟩
  refine ⟨_, rfl, _, rfl, a, C, dx, _, rfl, ha, N.cl, N.row, by decide, ?_⟩
  refine ⟨_, rfl, ⟨_, rfl⟩, _, _, rfl, rfl, by decide +kernel, by omega, fun wl hwl => ?_⟩
  rw [hws]
  have hwa : wl ≠ a := fun z => by rw [z, upd_same] at hwl; cases hwl
  have hw0 : H wl = none := by rw [upd_ne hwa] at hwl; exact hwl
  refine ⟨_, rfl, a, C, dx, _, rfl, by rw [upd_ne hwa.symm]; exact upd_same, N.cl, N.words, by show 1 < 1000; decide, ?_⟩
  refine ⟨_, rfl, a, C, dx, _, rfl, upd_same, N.cl, N.place, by show 2 < 1000; decide, ?_⟩
  refine q wl _ hw0 ⟨fun b o nb hb => ?_, upd_same, ?_⟩
  · rw [upd_ne nb, upd_ne nb, upd_ne (ne_of_none hb hw0), upd_ne nb]
    exact hb
  · rw [upd_ne hwa, upd_ne hwa]
    exact upd_same
end
def spFTB (C CT : Addr) : Sp := fun vs H Q E => spFT C vs H Q E ∨ spFTX C CT vs H Q E
/-- readers of rows in the heap, from the i-th row on -/
structure RdrG (H0 H : Hp) (C D : Addr) (as : List Addr) (rows : List (Str × List Str)) (i : Nat) : Prop where
  at_ : ∀ (j : Nat) (a : Addr) (z : Str) (ws : List Str), i ≤ j → as[j]? = some a → rows[j]? = some (z, ws) → ∃ (dx wl : Addr), RdIn H C a dx wl (j : Int) 0 ws ∧ wl ≠ D
  nd : as.Nodup
  new : ∀ a ∈ as, H0 a = none
/-- a text by its rows: the first ones tell functions; then all of them do, or the next is refused -/
def spReadX (CT : Addr) : Sp := fun vs H Q E => ∃ (T : Str) (rows : List (Str × List Str)) (prog : List Fn), vs = [.str T] ∧ Txt.split T ("\n" : Str) = rows.map (·.1) ∧ T.length ≤ 10000 ∧ rows.length ≤ 6 ∧ (∀ r ∈ rows, Txt.split r.1 (" " : Str) = r.2 ∧ r.1.length ≤ 10000) ∧ (∀ (i : Nat) f, prog[i]? = some f → FnT f ∧ ∃ z, rows[i]? = some (z, f.words)) ∧ prog.length ≤ rows.length ∧
  (prog.length = rows.length → 1 ≤ prog.length ∧ Good prog ∧ ∀ (H' : Hp) (t : Addr) (us : List V), Same H H' → H' t = some (.tup us) → PgIns H' us prog → Q (.ref t) H') ∧
  (prog.length < rows.length → ∃ (z : Str) (ws : List Str) (pl : Nat), rows[prog.length]? = some (z, ws) ∧ BdRow ws pl ∧ Ref CT (fsBt (.int (prog.length : Int)) (.int (pl : Int))) H E)
/-- faces of a program that can be -/
theorem good_fcs {CB : Addr} {H : Hp} {Q : VK} {E : XK} {t : Addr} {us : List V} {prog : List Fn} (e : H t = some (.tup us)) (pg : PgIns H us prog) (good : Good prog) (h1 : 1 ≤ prog.length) (q : ∀ (H' : Hp) (l : Addr) (xs : List V), Same H H' → Q (.ref l) H') : spFcsX CB [.ref t] H Q E := by
  have ef : fcs (prog.map fun f => (f.ps, f.d)) = facesOf prog := by
    unfold fcs facesOf
    rw [List.map_map]
    rfl
  refine ⟨t, us, _, rfl, e, pg.pf, by rw [List.length_map]; exact h1, by rw [List.length_map]; exact good.few, .inr ⟨fun i f hf => ?_, prog.length, by rw [List.length_map]; exact Nat.le_refl _, fun i f bz hi hf hb => ?_, fun _ H' l xs s _ _ => q H' l xs s, fun h => absurd h (by rw [List.length_map]; exact Nat.lt_irrefl _)⟩⟩
  · rw [List.getElem?_map] at hf
    obtain ⟨f0, hf0, rfl⟩ := Option.map_eq_some_iff.mp hf
    exact (good.fn i f0 hf0).1
  · rw [List.getElem?_map] at hf
    obtain ⟨f0, hf0, rfl⟩ := Option.map_eq_some_iff.mp hf
    obtain ⟨fo, ty, hs, hz, hh⟩ := good.fn i f0 hf0
    obtain ⟨nd, an, nd2⟩ := ty.an 0
    obtain ⟨fa, pz, u1, u2⟩ := hb
    obtain ⟨fa', pz', bz', f1, u3, u4, u5, u6, u7⟩ := pg.get i u1
    cases u3
    rw [hf0] at u4
    cases u4
    rw [u2] at u5
    cases u5
    refine ⟨f0.e, nd, u7, ?_, nd2, hz, hh, hs⟩
    rw [ef]
    unfold facesOf at an ⊢
    rw [List.map_take] at an
    exact an
abbrev sRead : Stmt := top 52
theorem scsRead : FnScope ["text", "lines", "readers", "program", "at", "line", "reader"] ["text"] (defScope sRead) := ⟨rfl, rfl, rfl, by decide +kernel, rfl, by decide +kernel, by decide +kernel⟩
section
variable {P : Program} {w : World} {K : PySem.W.Frag} {mg : Str → Option Value} {base : Heap} {f : Addr} {fd : FuncData}
theorem ok_readx {k : Nat} {C CT CB : Addr} (F : FnP K "read" sRead f fd) (C_RowReader : Okc P w K mg base CX0 k "RowReader" C ["self", "row", "text"] (spRdG C)) (M_function_told : Okm P w K mg base (CX P w) (k + 1) C "function_told" ["self"] (spFTB C CT)) (O_faces : Okf P w K mg base (CX P w) (k + 1) "faces" ["program"] (spFcsX CB)) (z_enumerate : mg "enumerate" = none) (z_tuple : mg "tuple" = none) : FnOk P w K mg base (CX P w) (k + 2) f fd ["text"] (spReadX CT) := by
  have sc := scsRead
  refine F.ok sc (fun vs H Q E h => ?_) (fun cdv A outer s H vs Q E hr h => ?_)
  · obtain ⟨T0, rows, prog, rfl, _⟩ := h
    rfl
  obtain ⟨T0, rows, prog, rfl, hT0, hlT, h6, hrow, hprog, hle, qg, qb⟩ := h
  have big : 100000 ≤ sizeLine := by decide
  refine ⟨_, (pss_cons (ps_set (i := 1) sc.nd rfl (.inl rfl) (pe_split (pv 0) pe_str))
    (pss_cons (ps_setLc (i := 2) (own := [("at", 4), ("line", 5)]) (by rfl) sc.nd rfl rfl (sw_true rfl rfl rfl (by decide +kernel)) (pi_enumK K rfl z_enumerate (pa_cons (pv 1) pa_nil)) (blkOk_by (own := [("at", 4), ("line", 5)]) (N := ["text", "lines", "readers", "program", "at", "line", "reader"]) (sc := defScope sRead) (by decide +kernel)) (fun _ _ _ _ _ => (pg_tupK K (n := 2) rfl (pgs_cons (pg_name (i := 4) sc.nd rfl (.inl rfl)) (pgs_cons (pg_name (i := 5) sc.nd rfl (.inl rfl)) pgs_nil)))) (fun _ _ _ _ _ => pts_nil) (fun _ _ _ _ _ => (pe_mk C_RowReader hr rfl pass0 (pa_cons (pv 4) (pa_cons (pv 5) pa_nil)))))
    (pss_cons (ps_set (i := 3) sc.nd rfl (.inl rfl) (pe_callTy (call_tupleK K) rfl z_tuple (by decide +kernel) (pa_cons (pe_lcX (own := [("reader", 6)]) rfl sc.nd rfl rfl rfl rfl (pi_listK K (pv 2)) (blkOk_by (own := [("reader", 6)]) (N := ["text", "lines", "readers", "program", "at", "line", "reader"]) (sc := defScope sRead) (by decide +kernel)) (fun _ _ _ _ _ _ => (pg_name (i := 6) sc.nd rfl (.inl rfl))) (fun _ _ _ _ _ _ => pts_nil) (fun _ _ _ _ _ _ hp => (pe_m0 M_function_told (pv 6) hr hp))) pa_nil)))
    (pss_cons (ps_expr (pe_c O_faces hr rfl (passes_call (takes_of rfl rfl rfl rfl) (fun _ _ _ _ h => h)) (pa_cons (pv 3) pa_nil)))
    (pss_one (ps_ret (pv 3))))))), ?_⟩
  refine ⟨_, rfl, ⟨_, rfl⟩, _, _, rfl, rfl, by decide +kernel, by omega, fun ll hll => ?_⟩
  rw [hT0]
  have s1 := same_new hll (.lst ((rows.map (·.1)).map V.str))
  have e1 : upd H ll (.lst ((rows.map (·.1)).map V.str)) ll = some (.lst ((rows.map (·.1)).map V.str)) := upd_same
  generalize upd H ll (.lst ((rows.map (·.1)).map V.str)) = H1 at s1 e1 ⊢
  refine ⟨_, rfl, ll, _, rfl, SqL.of e1, fun D hD => ?_⟩
  have sD := same_new hD (.lst [])
  refine lc_it (walk_enum (K := K) (a := ll) (xs := (rows.map (·.1)).map V.str)) (fun i H' => ∃ as : List Addr, Same H1 H' ∧ H' D = some (.lst (as.map V.ref)) ∧ as.length = i ∧ i ≤ rows.length ∧ RdrG H1 H' C D as rows 0) ⟨[], sD, upd_same, rfl, Nat.zero_le _, ⟨fun j a z ws _ h => by simp at h, List.nodup_nil, fun a h => by cases h⟩⟩ ?_ ?_ ?_
  · rintro i H' _ ⟨as, s2, _⟩
    exact SqL.of (s2 _ _ e1)
  · rintro i x H2 H3 hi ⟨as, s2, eD, hal, hai, rd⟩ ⟨T, y, z, rfl, hT, rfl, c1, c2⟩
    cases c1
    have c2 : ((rows.map (·.1)).map V.str)[i]? = some z := c2
    rw [List.getElem?_map, List.getElem?_map] at c2
    obtain ⟨s0, hs0, rfl⟩ := Option.map_eq_some_iff.mp c2
    obtain ⟨⟨z0, ws0⟩, hf0, rfl⟩ := Option.map_eq_some_iff.mp hs0
    have hip : i < rows.length := (List.getElem?_eq_some_iff.mp hf0).1
    obtain ⟨hz0, hz1⟩ := hrow _ (List.mem_of_getElem? hf0)
    have sT := same_new hT (.tup [.int (i : Nat), .str z0])
    refine ⟨T, _, rfl, SqT.of upd_same, rfl, _, _, rfl, _, _, rfl, rfl, rfl, ?_⟩
    refine ⟨_, rfl, _, rfl, fun co cdx nco ncdx nne => ?_⟩
    have eDT := sT _ _ eD
    have nDco : D ≠ co := ne_of_none eDT nco
    have nDcx : D ≠ cdx := ne_of_none eDT ncdx
    refine ⟨co, cdx, (i : Int), z0, ws0, rfl, upd_same, hz0, hz1, fun wl H4 hwl r4 => ?_⟩
    have s4 : Same (upd H2 T (.tup [.int (i : Nat), .str z0])) H4 := fun b o hb => by
      refine r4.s _ _ (ne_of_none hb nco) ?_
      rw [upd_ne (ne_of_none hb nco), upd_ne (ne_of_none hb ncdx)]
      exact hb
    have s24 := sT.trans s4
    have eD4 := s4 _ _ eDT
    have nwD : wl ≠ D := fun z => by
      rw [z, upd_ne nDco, upd_ne nDcx] at hwl
      rw [eDT] at hwl
      cases hwl
    have hco1 : H1 co = none := (s2.trans sT).free nco
    refine ⟨rfl, _, eD4, ?_, as ++ [co], fun b o hb => ?_, ?_, by rw [List.length_append, hal]; rfl, hip, ⟨fun j a' z' ws' _ ha' hf' => ?_, ?_, ?_⟩⟩
    · rw [List.length_map, hal]
      exact small1000 (by omega)
    · rw [upd_ne (ne_of_none hb hD)]
      exact s24 _ _ (s2 _ _ hb)
    · rw [upd_same, List.map_append]
      rfl
    · by_cases c : j < as.length
      · rw [List.getElem?_append_left c] at ha'
        obtain ⟨dx', wl', r', nw'⟩ := rd.at_ j a' z' ws' (Nat.zero_le _) ha' hf'
        have r'' := r'.same s24
        have na' : a' ≠ D := ne_of r''.ha eD4 (by intro z; cases z)
        exact ⟨dx', wl', ⟨by rw [upd_ne na']; exact r''.ha, by rw [upd_ne nw']; exact r''.hw⟩, nw'⟩
      · have hj : j = i := by
          have := (List.getElem?_eq_some_iff.mp ha').1
          rw [List.length_append, List.length_cons, List.length_nil] at this
          omega
        subst hj
        rw [List.getElem?_append_right (by omega), hal, Nat.sub_self] at ha'
        cases ha'
        rw [hf0] at hf'
        cases hf'
        exact ⟨cdx, wl, ⟨by rw [upd_ne nDco.symm]; exact r4.r.ha, by rw [upd_ne nwD]; exact r4.r.hw⟩, nwD⟩
    · refine List.nodup_append.mpr ⟨rd.nd, by simp, fun a' ha' b' hb' => ?_⟩
      rw [List.mem_singleton.mp hb']
      intro z
      obtain ⟨j, hj, ej⟩ := List.mem_iff_getElem.mp ha'
      have hjp : j < rows.length := by omega
      obtain ⟨dx', wl', r', _⟩ := rd.at_ j a' _ _ (Nat.zero_le _) (by rw [List.getElem?_eq_getElem hj, ej]) (List.getElem?_eq_getElem hjp)
      have := sT _ _ r'.ha
      rw [z, nco] at this
      cases this
    · intro a' ha'
      rcases List.mem_append.mp ha' with h | h
      · exact rd.new a' h
      · rw [List.mem_singleton.mp h]
        exact hco1
  rintro H2 ⟨as, s2, eD, hal, hai, rd⟩
  rw [List.length_map, List.length_map] at hal
  refine ⟨_, rfl, D, rfl, ⟨_, SqL.of eD⟩, fun D2 hD2 => ?_⟩
  have sD2 := same_new hD2 (.lst [])
  have h1D2 : H1 D2 = none := s2.free hD2
  refine lc_list (K := K) (a := D) (xs := as.map V.ref) (fun i H' => ∃ us, Same H1 H' ∧ H' D = some (.lst (as.map V.ref)) ∧ H' D2 = some (.lst us) ∧ PgIns H' us (prog.take i) ∧ i ≤ prog.length ∧ RdrG H1 H' C D2 as rows i) ⟨[], s2.trans sD2, sD2 _ _ eD, upd_same, .nil, Nat.zero_le _, ⟨fun j a' z' ws' _ ha' hf' => ?_, rd.nd, rd.new⟩⟩ ?_ ?_ ?_
  · obtain ⟨dx', wl', r', _⟩ := rd.at_ j a' z' ws' (Nat.zero_le _) ha' hf'
    exact ⟨dx', wl', r'.same sD2, ne_of_none r'.hw hD2⟩
  · rintro i H' _ ⟨us, _, e, _⟩
    exact SqL.of e
  · rintro i v H3 hi ⟨us, s3, eD3, eD23, pg, hin, rd3⟩
    rw [List.getElem?_map] at hi
    obtain ⟨a, hai', rfl⟩ := Option.map_eq_some_iff.mp hi
    have hir : i < rows.length := by
      have := (List.getElem?_eq_some_iff.mp hai').1
      omega
    have hpgl := pg.len
    rw [List.length_take] at hpgl
    refine ⟨rfl, ?_⟩
    rcases Nat.lt_or_eq_of_le hin with hip | hip
    case inr =>
      have hbn : prog.length < rows.length := by omega
      obtain ⟨zb, wb, pb, b1, b2, b3⟩ := qb hbn
      rw [← hip] at b1
      obtain ⟨dx, wl, r, nwD⟩ := rd3.at_ i a zb wb (Nat.le_refl _) hai' b1
      refine ⟨_, rfl, a, dx, _, rfl, r.ha, rdF_no (by decide +kernel) (by decide +kernel) (by decide +kernel), .inr ⟨a, dx, wl, (i : Int), wb, pb, rfl, r, b2, by omega, by omega, fun H4 s4 => ?_⟩⟩
      rw [← hip] at b3
      refine b3.same fun b o hb => ?_
      have hb1 := s1 _ _ hb
      exact s4 _ _ (ne_of_none hb1 (rd.new a (List.mem_of_getElem? hai'))) (s3 _ _ hb1)
    have hf0 := List.getElem?_eq_getElem hip
    obtain ⟨ft0, z0, hz0⟩ := hprog i _ hf0
    obtain ⟨dx, wl, r, nwD⟩ := rd3.at_ i a z0 _ (Nat.le_refl _) hai' hz0
    refine ⟨_, rfl, a, dx, _, rfl, r.ha, rdF_no (by decide +kernel) (by decide +kernel) (by decide +kernel), .inl ⟨a, dx, wl, (i : Int), _, rfl, r, ft0, fun H4 t pz bz s4 e4 p4 t4 => ?_⟩⟩
    have ik4 := s4.ikI r.ha
    have naD : D ≠ a := ne_of eD3 r.ha (by intro z; cases z)
    have naD2 : D2 ≠ a := ne_of eD23 r.ha (by intro z; cases z)
    have eD24 := s4 _ _ naD2 eD23
    have ikL := IK.lst (ys := us ++ [.ref t]) eD24
    have nDD : D ≠ D2 := ne_of_none eD hD2
    refine ⟨us, eD24, small1000 (by omega), us ++ [.ref t], fun b o hb => ?_, ?_, upd_same, ?_, hip, ⟨fun j a' z' ws' hj ha' hf' => ?_, rd.nd, rd.new⟩⟩
    · have nba : b ≠ a := ne_of_none hb (rd.new a (List.mem_of_getElem? hai'))
      rw [upd_ne (ne_of_none hb h1D2)]
      exact s4 _ _ nba (s3 _ _ hb)
    · rw [upd_ne nDD]
      exact s4 _ _ naD eD3
    · rw [List.take_add_one, hf0]
      exact PgIns.snoc (ikL.t _ _ e4) (p4.mono ikL) (t4.mono ikL.t) ((pg.mono ik4).mono ikL)
    · obtain ⟨dx', wl', r', nw'⟩ := rd3.at_ j a' z' ws' (by omega) ha' hf'
      have naa : a' ≠ a := fun z => by
        rw [z] at ha'
        have h1' := List.getElem?_eq_some_iff.mp ha'
        have h2' := List.getElem?_eq_some_iff.mp hai'
        exact List.pairwise_iff_getElem.mp rd.nd i j h2'.1 h1'.1 (by omega) (h2'.2.trans h1'.2.symm)
      have nwa : wl' ≠ a := ne_of r'.hw r.ha (by intro z; cases z)
      have na2 : a' ≠ D2 := ne_of r'.ha eD23 (by intro z; cases z)
      exact ⟨dx', wl', ⟨by rw [upd_ne na2]; exact s4 _ _ naa r'.ha, by rw [upd_ne nw']; exact s4 _ _ nwa r'.hw⟩, nw'⟩
  rintro H3 ⟨us, s3, eD3, eD23, pg, hin, rd3⟩
  rw [List.length_map, hal] at hin
  rw [List.length_map, hal] at pg
  have hpr : prog.length = rows.length := by omega
  rw [← hpr, List.take_length] at pg
  obtain ⟨h1, good, q⟩ := qg hpr
  refine ⟨D2, _, rfl, .inl ⟨SqL.of eD23, fun t ht => ?_⟩⟩
  have s4 := same_new ht (.tup us)
  have e4 : upd H3 t (.tup us) t = some (.tup us) := upd_same
  generalize upd H3 t (.tup us) = H4 at s4 e4 ⊢
  have pg4 := pg.mono (IK.of s4)
  refine ⟨_, rfl, ?_⟩
  dsimp only [tNil, List.cons_append, List.nil_append]
  refine good_fcs e4 pg4 good h1 fun H5 l5 xs5 s5 => ?_
  exact ⟨_, rfl, q _ t us (s1.trans (s3.trans (s4.trans s5))) (s5 _ _ e4) (pg4.mono (IK.of s5))⟩
end
end NR
set_option maxHeartbeats 4000000
namespace NR
open PySem PySem.Spec PyProof.Rows L2

open LamX
/-- isinstance(e, c), e the error that the suite holds, with values of its own -/
def rIsX (K : PySem.W.Frag) (a : Addr) (cls : Value) (d : Option Addr) : List V → Hp → VK → Prop := fun xs H Q => ∃ (D dd : Addr) (fs : List (Str × V)) (c : V) (cv : Value) (b : Bool), cls = .ref D ∧ d = some dd ∧ H dd = some (.xd fs) ∧ ExcC K D ∧ xs = [.ref a, c] ∧ (∀ u, RelV c u → u = cv) ∧ PySem.W.kitOne K (.ref D) cv = some b ∧ Q (.bl b) H
theorem call_isX {X : Cx} {a : Addr} {oe : Obj} {cls : Value} {d : Option Addr} {pn : List (Addr × Obj)} (hz : Zc cls d oe) (hf : ∃ vs, oe.data = .fields vs) : CallR (X.suite a ((a, oe) :: pn)) (.builtin "isinstance") (rIsX X.K a cls d) := by
  intro pins s σ H xs us Q I r h
  obtain ⟨D, dd, fs, c, cv, b, rfl, rfl, ea, C, rfl, hcv, e, q⟩ := h
  cases r with
  | cons rx rr =>
    cases rr with
    | cons rt rr =>
      cases rr
      cases rx
      have ec := hcv _ rt
      subst ec
      obtain ⟨ha, _⟩ := I.pin (a, oe) (List.mem_append.mpr (.inl List.mem_cons_self))
      obtain ⟨vs, hd⟩ := hf
      have hx : ObjOk X.prog X.w H s.heap dd (.xd fs) := I.hok dd _ ea
      obtain ⟨mA, hns, hr⟩ := hx
      obtain ⟨od, ho, hl⟩ := lookIn_ns hns
      have J : PySem.W.InstAt s.heap a oe D (some od) := ⟨ha, hz.1, by unfold PySem.W.notCls; rw [hd] <;> rfl, by rw [hz.2]; exact ho⟩
      have hcl : (PySem.W.clsIn X.K D).isSome = true := by
        obtain ⟨cd, hc, _⟩ := PySem.W.any_some C.hd
        rw [hc]
        rfl
      exact PySem.W.kia_one (PySem.W.kitx_exc (gt := none) hcl C.hg C.hk C.hs C.ha C.hn C.ht C.hm) I.kIn J e (fun z => nomatch z) fun tk => ⟨.bl b, H, I.kept (t' := tk) fun _ _ z => z, rfl, q⟩
/-- a wish may count on as many slots as the frame has names -/
theorem takes_len {X : Cx} {W : WX} (t : Takes X W) : Takes X (fun cls d σ H => σ.length = X.N.length → W cls d σ H) := fun u s' ⟨a, B, sI, pins, σ, H, cls, d, e, I, nb, up, sky, na, os, ag, w⟩ =>
  t u s' ⟨a, B, sI, pins, σ, H, cls, d, e, I, nb, up, sky, na, os, ag, w I.len⟩
/-- what is asked of the classes of refusals -/
structure KndC (K : PySem.W.Frag) (mg : Str → Option Value) (CN CB CT : Addr) : Prop where
  mN : mg "NestError" = some (.ref CN)
  mB : mg "BadProgram" = some (.ref CB)
  mT : mg "BadText" = some (.ref CT)
  zi : mg "isinstance" = none
  eB : ExcC K CB
  eT : ExcC K CT
  xB : XfC K CB
  xT : XfC K CT
  nf : PySem.W.findIn K (.ref CB) "function" = some none
  np : PySem.W.findIn K (.ref CB) "place" = some none
  nw : PySem.W.findIn K (.ref CB) "word" = some none
  nr : PySem.W.findIn K (.ref CT) "row" = some none
  nq : PySem.W.findIn K (.ref CT) "place" = some none
  kBB : PySem.W.kitOne K (.ref CB) (.ref CB) = some true
  kTB : PySem.W.kitOne K (.ref CT) (.ref CB) = some false
  kTT : PySem.W.kitOne K (.ref CT) (.ref CT) = some true
  bN : PySem.W.exmOne K (.ref CB) (.ref CN) = some true
  tN : PySem.W.exmOne K (.ref CT) (.ref CN) = some true
/-- what _law_kind tells of a refusal -/
def kndE (CB CT : Addr) (Q : VK) : XK := fun cls d H' =>
  (cls = .ref CB ∧ ∃ (dd : Addr) (v1 v2 v3 : V), d = some dd ∧ H' dd = some (.xd (fsBp v1 v2 v3)) ∧ ∀ t, H' t = none → Q (.ref t) (upd H' t (.tup [v1, v2, v3]))) ∨
  (cls = .ref CT ∧ ∃ (dd : Addr) (v1 v2 : V), d = some dd ∧ H' dd = some (.xd (fsBt v1 v2)) ∧ ∀ t, H' t = none → Q (.ref t) (upd H' t (.tup [.str "text", v1, v2])))
def TKnd (CB CT : Addr) : (XK → Hp → VK → Prop) → Hp → VK → Prop := fun tl H Q => tl (kndE CB CT Q) H Q
abbrev sLawKind : Stmt := top 55
theorem scsLawKind : FnScope ["_law_work", "e"] ["_law_work"] (defScope sLawKind) := ⟨rfl, rfl, rfl, by decide +kernel, rfl, by decide +kernel, by decide +kernel⟩
theorem kind_gives {X : Cx} {g : Addr} {cdg : Value} {q : Str} {CN CB CT : Addr} (C : KndC X.K X.mg CN CB CT) : GivesTo X ["_law_work", "e"] "_law_kind" (defScope sLawKind) g cdg (defBody sLawKind) "_law_work" q (TKnd CB CT) := by
  intro f c' s H Q tl act hc h
  refine ⟨_, pss_one (ps_try_as (X := (cxOf C8.CX0 X.prog X.w X.K X.mg X.base ["_law_work", "e"] "_law_kind" (defScope sLawKind) g cdg X.A X.stack s H C8.E0).nox) (c := .ref CN) (i := 1)
      (tb := fun W D σ H => ∃ Ech : XK, (∀ cls d σ' H', Ech cls d H' → σ'.length = 2 → W cls d σ' H') ∧ σ[0]? = some (some (.ref f)) ∧ H c' = some (CodeO c' q) ∧ tl Ech H D.rt)
      rfl rfl scsLawKind.nd rfl rfl ⟨rfl, by decide, .inl C.mN⟩ LamX.takes0 (fun W pn xe tk _ => ?_) (fun a oe cls d pn hz hf => pss_cons (ps_if (pt_val (pe_callB (call_isX hz hf) rfl C.zi (by decide +kernel) (pa_cons (pv 1) (pa_cons (pe_gR rfl C.mB) pa_nil)))) (pss_one (ps_ret (pe_tup (pa_cons (pe_xf C.xB C.nf hz hf (pv 1)) (pa_cons (pe_xf C.xB C.np hz hf (pv 1)) (pa_cons (pe_xf C.xB C.nw hz hf (pv 1)) pa_nil)))))) pss_nil)
        (pss_one (ps_ret (pe_ifExp (pt_val (pe_callB (call_isX hz hf) rfl C.zi (by decide +kernel) (pa_cons (pv 1) (pa_cons (pe_gR rfl C.mT) pa_nil)))) (pe_tup (pa_cons pe_str (pa_cons (pe_xf C.xT C.nr hz hf (pv 1)) (pa_cons (pe_xf C.xT C.nq hz hf (pv 1)) pa_nil)))) pe_str))))), ?_⟩
  · refine ⟨fun pins s' σ H' D I h' => ?_⟩
    obtain ⟨Ech, hW, h1, h2, h3⟩ := h'
    exact (pss_one (ps_ret (act _ pn xe Ech _ _ (takes_len tk) hW))).run pins s' σ H' D I ⟨h1, h2, h3⟩
  · refine ⟨kndE CB CT Q, fun cls d σ' H' k hl => ?_, rfl, hc, h⟩
    obtain ⟨y0, y1, rfl⟩ : ∃ y0 y1, σ' = [y0, y1] := by
      match σ', hl with
      | [y0, y1], _ => exact ⟨y0, y1, rfl⟩
    rcases k with ⟨rfl, dd, v1, v2, v3, rfl, e1, k⟩ | ⟨rfl, dd, v1, v2, rfl, e1, k⟩
    · refine ⟨true, C.bN, fun _ a ha => ?_, fun z => nomatch z⟩
      refine ⟨_, rfl, CB, dd, _, _, _, _, rfl, rfl, e1, C.eB, rfl, fun u hu => hu, C.kBB, ?_⟩
      refine ⟨_, rfl, ite2 (fun _ => ?_) (fun z => absurd rfl z)⟩
      exact ⟨_, rfl, rfl, rfl, dd, _, _, rfl, e1, rfl, _, rfl, rfl, rfl, dd, _, _, rfl, e1, rfl, _, rfl, rfl, rfl, dd, _, _, rfl, e1, rfl, by show 3 ≤ sizeLine; decide, k⟩
    · refine ⟨true, C.tN, fun _ a ha => ?_, fun z => nomatch z⟩
      refine ⟨_, rfl, CT, dd, _, _, _, _, rfl, rfl, e1, C.eT, rfl, fun u hu => hu, C.kTB, ?_⟩
      refine ⟨_, rfl, ite2 (fun z => nomatch z) (fun _ => ?_)⟩
      refine ⟨_, rfl, CT, dd, _, _, _, _, rfl, rfl, e1, C.eT, rfl, fun u hu => hu, C.kTT, ?_⟩
      refine ⟨_, rfl, ite2 (fun _ => ?_) (fun z => absurd rfl z)⟩
      exact ⟨_, rfl, rfl, rfl, dd, _, _, rfl, e1, rfl, _, rfl, rfl, rfl, dd, _, _, rfl, e1, rfl, by show 3 ≤ sizeLine; decide, k⟩
end NR
set_option maxHeartbeats 4000000
namespace NR
open PySem PySem.Spec PyProof.Rows L2

open LamX
/-- a def at f, whose code object stands at c -/
structure FunL (K : PySem.W.Frag) (x : Str) (st : Stmt) (f : Addr) (fd : FuncData) (c : Addr) : Prop where
  ex : ∃ (oc : Value) (od : Option Addr) (dV kV doc pm : Value) (an : Option Addr) (ct : Value) (osl : Array (Option Value)),
    fd = PySem.W.fnOf x x (defArgs st) (defBody st) (defScope st) dV kV doc pm an (.ref c) ct ∧ K.lookup f = some ⟨oc, od, .func fd, osl⟩ ∧ PySem.W.codeIn K (.ref c) x = true
theorem FunL.ok {P : Program} {w : World} {K : PySem.W.Frag} {mg : Str → Option Value} {base : Heap} {x : Str} {st : Stmt} {f : Addr} {fd : FuncData} {c : Addr} {CX : CXT} {N ps : List Str} {k : Nat} {sp : Sp} (F : FunL K x st f fd c) (S : FnScope N ps (defScope st)) (len : ∀ vs H Q E, sp vs H Q E → vs.length = ps.length)
    (hbody : ∀ (A : Around) (outer : List Env) (s : Shared) (H : Hp) (vs : List V) (Q : VK) (E : XK), Room k (A.deeper (envOfC x (defScope st) s.heap.objs.size f (.ref c))) → sp vs H Q E →
      ∃ t, PSs (cxOf CX P w K mg base N x (defScope st) f (.ref c) A outer s H E) (defBody st) t ∧ t { nx := fun _ H' => Q .non H', rt := Q } (L2.start N vs) H) : FnOk P w K mg base CX (k + 1) f fd ps sp := by
  obtain ⟨oc, od, dV, kV, doc, pm, an, ct, osl, rfl, lk, hcd⟩ := F.ex
  exact fn_of lk hcd S len fun A outer s H vs Q E hr hsp => hbody A outer s H vs Q E hr hsp
/-- _law_kind by its name -/
structure KindO (K : PySem.W.Frag) (mg : Str → Option Value) (CN CB CT : Addr) : Prop where
  C : KndC K mg CN CB CT
  ex : ∃ g gd, mg "_law_kind" = some (.ref g) ∧ FnP K "_law_kind" sLawKind g gd ∧ L2.Binds K gd ["_law_work"] []
def lamQ (x : Str) : Str := (x ++ ".<locals>.") ++ "<lambda>"
/-- _law_kind(lambda: body) -/
theorem pe_kind {X : Cx} (x : Str) {CN CB CT : Addr} {T : List (Addr × Str)} {c P : Addr} {k : Nat} {params : Arguments} {body : Expr} {scope : Scope} {t : XK → TE} {p lpos pos : Pos} (O : KindO X.K X.mg CN CB CT) (hg : Gl X "_law_kind")
    (TB : TabB X.base X.mg c P) (hcode : X.env.code = .ref c) (hx : X.env.qual = x ++ ".<locals>.") (hmT : (P, lamQ x) ∈ T) (hu : ∀ p ∈ T, p.1 = P → p.2 = lamQ x) (hr : Room (k + 2) X.A) (L : LamS X.env.scope scope) (hdef : defaultsOf params X.env = ([], []))
    (hbind : ∀ (q : Str) (cl : List (Str × Addr)) (pm cv ctv : Value), bindArgs (PySem.W.kla_fn "<lambda>" q params body scope cl pm cv ctv) ⟨[], []⟩ = pure [])
    (hbody : ∀ (A : Around) (outer : List Env) (s : Shared) (H : Hp) (E : XK) (f c' : Addr), Room k (A.deeper (lamEnv X scope s.heap.objs.size f c')) → PE (lamCx X A outer s H E scope f c') body (t E)) :
    PE X (.Call (.Name "_law_kind" p) [.Lambda params body scope lpos] [] pos) (tLam T (TKnd CB CT) t) := by
  have hq : X.env.qual ++ "<lambda>" = lamQ x := by rw [hx]; rfl
  rw [← hq] at hmT
  rw [← hq] at hu
  obtain ⟨g, gd, hm, F, hb⟩ := O.ex
  obtain ⟨oc, od, dV, kV, doc, pm, an, cdv, ct, osl, rfl, lk, hcd, _, _⟩ := F.ex
  exact pe_lamcall hg hm F.kp lk hcd hb scsLawKind rfl (.inl rfl) (kind_gives O.C) TB hcode hmT hu hr L hdef hbind hbody
theorem extN_tk {H H' : Hp} (e : ExtN H H') : TK H H' := fun a xs h => e _ _ h (fun ps z => nomatch z)
theorem extN_ik {H H' : Hp} (e : ExtN H H') : IK H H' := ⟨extN_tk e, fun b o xs h => e _ _ h (fun ps z => nomatch z)⟩
theorem tabs_same {T : List (Addr × Str)} {H H' : Hp} (t : Tabs T H) (e : Same H H') : Tabs T H' := t.ext e
end NR
set_option maxHeartbeats 4000000
namespace NR
open PySem PySem.Spec PyProof.Rows L2
theorem SeqA.t {K : PySem.W.Frag} {H : Hp} {a : Addr} {vs : List V} (h : SeqA H false a vs) : SqT K H a vs := by
  rcases h with ⟨e, _⟩ | ⟨_, h | ⟨o, h⟩⟩
  · cases e
  · exact SqT.of h
  · exact .inl (.inr ⟨o, h⟩)
theorem DIn.tup {H : Hp} {a : Addr} {vs : List V} {ds : List Da} (h : H a = some (.tup vs)) (hl : vs.length ≤ 1000) (hd : DIns H vs ds) : DIn H (.ref a) (.seq false ds) := .seq (.inr ⟨rfl, .inl h⟩) hl hd
/-! ### programs as data -/
mutual
def Ex.da : Ex → Da
  | .node w n ps => match w.lay with
    | 0 => .seq false [.str w.str, .int n]
    | 1 => .seq false (.str w.str :: .int n :: dasE ps)
    | 2 => .seq false [.str w.str, .int n, .seq false (dasE ps)]
    | _ => .seq false (.str w.str :: dasE ps)
def dasE : List Ex → List Da
  | [] => []
  | e :: es => e.da :: dasE es
end
mutual
theorem TIn.din {H : Hp} : ∀ {v : V} {e : Ex}, TIn H v e → e.size ≤ 900 → DIn H v e.da
  | _, _, .leaf (w := w) hl h, _ => by
    rw [Ex.da, hl]
    exact .tup h (by show 2 ≤ 1000; decide) (.cons .str (.cons .int .nil))
  | _, _, .bind (w := w) (ps := ps) hl h r, hs => by
    have h1 : 1 + sizes ps ≤ 900 := hs
    obtain ⟨r1, r2⟩ := r.dins (by omega)
    rw [Ex.da, hl]
    exact .tup h (by simp only [List.length_cons]; omega) (.cons .str (.cons .int r1))
  | _, _, .call (ps := ps) h h2 r, hs => by
    have h1 : 1 + sizes ps ≤ 900 := hs
    obtain ⟨r1, r2⟩ := r.dins (by omega)
    exact .tup h (by show 3 ≤ 1000; decide) (.cons .str (.cons .int (.cons (.tup h2 (by omega) r1) .nil)))
  | _, _, .bare (w := w) (ps := ps) hl h r, hs => by
    have h1 : 1 + sizes ps ≤ 900 := hs
    obtain ⟨r1, r2⟩ := r.dins (by omega)
    rw [Ex.da, hl]
    exact .tup h (by simp only [List.length_cons]; omega) (.cons .str r1)
theorem TIns.dins {H : Hp} : ∀ {vs : List V} {es : List Ex}, TIns H vs es → sizes es ≤ 900 → DIns H vs (dasE es) ∧ vs.length ≤ sizes es
  | _, _, .nil, _ => ⟨.nil, Nat.zero_le _⟩
  | _, _, .cons (e := e) (es := es) h r, hs => by
    have h1 : e.size + sizes es ≤ 900 := hs
    obtain ⟨r1, r2⟩ := r.dins (by omega)
    refine ⟨.cons (h.din (by omega)) r1, ?_⟩
    have : 1 ≤ e.size := by
      obtain ⟨a, b, c⟩ := e
      simp only [Ex.size]
      omega
    simp only [List.length_cons, sizes]
    omega
end
mutual
theorem Ex.da_hgt : ∀ (e : Ex), e.da.hgt ≤ 2 * e.hgt + 1
  | .node w n ps => by
    have := dasE_hgt ps
    unfold Ex.da
    split <;> simp only [Da.hgt, dhgts, Ex.hgt] <;> omega
theorem dasE_hgt : ∀ (es : List Ex), dhgts (dasE es) ≤ 2 * hgts es + 1
  | [] => Nat.zero_le _
  | e :: es => by
    have h1 := e.da_hgt
    have h2 := dasE_hgt es
    simp only [dasE, dhgts, hgts]
    omega
end
def psDa (ps : List (Int × Nat)) : List Da := ps.map fun p => .seq false [.int p.1, nDa p.2]
def fnDa (f : Fn) : Da := .seq false [.seq false (psDa f.ps), nDa f.d, f.e.da]
theorem PIns.dins {H : Hp} : ∀ {vs ps}, PIns H vs ps → DIns H vs (psDa ps)
  | _, _, .nil => .nil
  | _, _, .cons h r => .cons (.tup h (by show 2 ≤ 1000; decide) (.cons .int (.cons .int .nil))) r.dins
theorem psDa_hgt : ∀ (ps : List (Int × Nat)), dhgts (psDa ps) ≤ 2
  | [] => Nat.zero_le _
  | p :: ps => by
    have := psDa_hgt ps
    show max (Da.hgt (.seq false [.int p.1, nDa p.2])) (dhgts (psDa ps)) ≤ 2
    simp only [Da.hgt, dhgts, nDa]
    omega
theorem PgIns.dins {H : Hp} : ∀ {us prog}, PgIns H us prog → (∀ f ∈ prog, FnT f) → DIns H us (prog.map fnDa)
  | _, _, .nil, _ => .nil
  | _, _, .cons (f := f) h p t r, hf => by
    have ft := hf f (List.mem_cons_self ..)
    have h1 := ft.sz
    have h2 := ft.fo.few
    obtain ⟨pt, o, vs, rfl, p1, p2, p3⟩ := p.ex
    have hl := p3.len
    refine .cons (.tup h (by show 3 ≤ 1000; decide) (.cons (.seq (.inr ⟨rfl, .inr ⟨o, p1⟩⟩) (by omega) p3.dins) (.cons .int (.cons (t.din (by omega)) .nil)))) (r.dins fun g hg => hf g (List.mem_cons_of_mem _ hg))
theorem dhgts_le {n : Nat} : ∀ (l : List Da), (∀ d ∈ l, d.hgt ≤ n) → dhgts l ≤ n
  | [], _ => Nat.zero_le _
  | d :: l, h => by
    have h1 := h d (List.mem_cons_self ..)
    have h2 := dhgts_le l fun x hx => h x (List.mem_cons_of_mem _ hx)
    simp only [dhgts]
    omega
theorem prog_hgt {prog : List Fn} (h : ∀ f ∈ prog, FnT f) : (Da.seq false (prog.map fnDa)).hgt ≤ 30 := by
  have := dhgts_le (n := 29) (prog.map fnDa) fun d hd => by
    obtain ⟨f, hf, rfl⟩ := List.mem_map.mp hd
    have h1 := (h f hf).hg
    have h2 := f.e.da_hgt
    have h3 := psDa_hgt f.ps
    simp only [fnDa, Da.hgt, dhgts, nDa]
    omega
  simp only [Da.hgt]
  omega
/-! ### data as the comparison takes it -/
mutual
def Da.py : Da → PyData
  | .int n => .int n
  | .str s => .str s
  | .seq l ds => if l = true then .list (pys ds) else .tuple (pys ds)
def pys : List Da → List PyData
  | [] => []
  | d :: ds => d.py :: pys ds
end
mutual
def Da.sok : Da → Prop
  | .int _ => True
  | .str s => PyData.strOk s = true
  | .seq _ ds => soks ds
def soks : List Da → Prop
  | [] => True
  | d :: ds => d.sok ∧ soks ds
end
mutual
theorem Da.can : ∀ (d : Da), d.sok → d.py.canLay0 = true
  | .int _, _ => rfl
  | .str _, h => h
  | .seq l ds, h => by
    have := cans ds h
    unfold Da.py
    split <;> exact this
theorem cans : ∀ (ds : List Da), soks ds → PyData.canLayAll0 (pys ds) = true
  | [], _ => rfl
  | d :: ds, h => by
    simp only [pys, PyData.canLayAll0, d.can h.1, cans ds h.2, Bool.and_self]
end
mutual
theorem Da.dep : ∀ (d : Da), d.py.depth ≤ d.hgt
  | .int _ => Nat.zero_le _
  | .str _ => Nat.zero_le _
  | .seq l ds => by
    have := deps ds
    unfold Da.py
    split <;> simp only [PyData.depth, Da.hgt] <;> omega
theorem deps : ∀ (ds : List Da), PyData.depthAll (pys ds) ≤ dhgts ds
  | [] => Nat.zero_le _
  | d :: ds => by
    have h1 := d.dep
    have h2 := deps ds
    simp only [pys, PyData.depthAll, dhgts]
    omega
end
mutual
theorem DIn.dp {K : PySem.W.Frag} {H : Hp} : ∀ {v : V} {d : Da}, DIn H v d → Dp K H v d.py
  | _, _, .int => .int _
  | _, _, .str => .str _
  | _, _, .seq (l := l) h _ r => by
    have r' := r.dps (K := K)
    rcases h with ⟨rfl, h⟩ | ⟨rfl, h⟩
    · exact .lst (SqL.of h) r'
    · exact .tup (SeqA.t (.inr ⟨rfl, h⟩)) r'
theorem DIns.dps {K : PySem.W.Frag} {H : Hp} : ∀ {vs : List V} {ds : List Da}, DIns H vs ds → DpAll K H vs (pys ds)
  | _, _, .nil => .nil
  | _, _, .cons h r => .cons h.dp r.dps
end
theorem W.str_sok (w : W) : PyData.strOk w.str = true := by cases w <;> decide +kernel
theorem ns_sok : ∀ (l : List Nat), soks (l.map nDa)
  | [] => trivial
  | _ :: l => ⟨trivial, ns_sok l⟩
theorem soks_append : ∀ {a b : List Da}, soks a → soks b → soks (a ++ b)
  | [], _, _, h => h
  | _ :: _, _, h, h' => ⟨h.1, soks_append h.2 h'⟩
theorem Da.shp {d : Da} (h : d.sok) (hh : d.hgt ≤ 30) : SeqAt.shaped d.py = true := by
  unfold SeqAt.shaped
  rw [Bool.and_eq_true_iff]
  exact ⟨d.can h, decide_eq_true (by have := d.dep; omega)⟩
end NR
set_option maxHeartbeats 4000000
namespace NR
open PySem PySem.Spec PyProof.Rows L2

open LamX
def spNames (K : PySem.W.Frag) (Ts : List (Addr × Str)) : Sp := fun vs H Q _ => ∃ (r : RD), vs = [.ref r.r] ∧ Draw K r H ∧ Tabs Ts H ∧ ∀ H', Draw K r H' → Tabs Ts H' → Q (.bl true) H'
theorem tabs_X {K : PySem.W.Frag} {Ts : List (Addr × Str)} {r : RD} {H H' : Hp} (s : SameX r.r H H') (d : Draw K r H) (t : Tabs Ts H) : Tabs Ts H' := by
  obtain ⟨p, x, l, e, _⟩ := d.ex
  intro q hq
  obtain ⟨ps, h1, h2, h3⟩ := t q hq
  refine ⟨ps, s _ _ (fun z => by rw [z, e] at h1; cases h1) h1, h2, fun pos cv hc => ?_⟩
  obtain ⟨c, e1, e2⟩ := h3 pos cv hc
  exact ⟨c, e1, s _ _ (fun z => by rw [z, e] at e2; cases e2) e2⟩
theorem draw_ik {K : PySem.W.Frag} {r : RD} {H H' : Hp} (d : Draw K r H) (s : ∀ b o, H b = some o → (∀ ps, o ≠ .tbl ps) → H' b = some o) : Draw K r H' := by
  obtain ⟨p, x, l, e, S, rest⟩ := d.ex
  refine ⟨p, x, l, s _ _ e (fun _ z => nomatch z), ?_, rest⟩
  rcases S with (q | ⟨o, q⟩) | q
  · exact .inl (.inl (s _ _ q (fun _ z => nomatch z)))
  · exact .inl (.inr ⟨o, s _ _ q (fun _ z => nomatch z)⟩)
  · exact .inr q
theorem draw_same {K : PySem.W.Frag} {r : RD} {H H' : Hp} (d : Draw K r H) (s : Same H H') : Draw K r H' := draw_ik d fun b o h _ => s b o h
theorem tw_two {a : Int} {x y : Nat} (a0 : 0 ≤ a) (a1 : a < 20) (hx : x ≤ 3) (hy : y ≤ 3) : FaceTw [(a, x), (a, y)] 0 := by
  refine ⟨by simp, fun p hp => ?_, by show 2 ≤ 4; decide, by decide⟩
  simp only [List.mem_cons, List.not_mem_nil, or_false] at hp
  rcases hp with rfl | rfl <;> exact ⟨a0, by show a ≤ 19; omega, by assumption⟩
theorem tw_three {a o : Int} {x : Nat} (a0 : 0 ≤ a) (a1 : a < 20) (o0 : 0 ≤ o) (o1 : o < 20) (hx : x ≤ 3) : FaceTw [(a, x), (o, 0), (a, x)] 0 := by
  refine ⟨by simp, fun p hp => ?_, by show 3 ≤ 4; decide, by decide⟩
  simp only [List.mem_cons, List.not_mem_nil, or_false] at hp
  rcases hp with rfl | rfl | rfl
  · exact ⟨a0, by show a ≤ 19; omega, hx⟩
  · exact ⟨o0, by show o ≤ 19; omega, by show 0 ≤ 3; decide⟩
  · exact ⟨a0, by show a ≤ 19; omega, hx⟩
theorem fcs_twice {CB : Addr} {H : Hp} {Q : VK} {E : XK} {u3 u2 : Addr} {pz bz : V} {ps : List (Int × Nat)} (h3 : H u3 = some (.tup [.ref u2])) (h2 : H u2 = some (.tup [pz, .int 0, bz])) (hp : PtIn H pz ps) (tw : FaceTw ps 0) (rf : Ref CB (fsBp (.int 0) (.int (-1)) (.str "face")) H E) : spFcsX CB [.ref u3] H Q E := by
  refine ⟨u3, [.ref u2], [(ps, 0)], rfl, h3, .cons h2 hp .nil, by show 1 ≤ 1; decide, by show 1 ≤ 6; decide, .inl ⟨0, (ps, 0), rfl, tw, fun j g hj => absurd hj (Nat.not_lt_zero _), fun j g hg => .inr ?_, rf⟩⟩
  match j, hg with
  | 0, hg => cases hg; exact tw
theorem good_fcsL {CB : Addr} {H : Hp} {Q : VK} {E : XK} {t : Addr} {us : List V} {prog : List Fn} (e : H t = some (.tup us)) (pg : PgIns H us prog) (good : Good prog) (h1 : 1 ≤ prog.length) (q : ∀ (H' : Hp) (l : Addr) (xs : List V), Same H H' → H' l = some (.lst xs) → FIns H' xs (facesOf prog) → Q (.ref l) H') : spFcsX CB [.ref t] H Q E := by
  have ef : fcs (prog.map fun f => (f.ps, f.d)) = facesOf prog := by
    unfold fcs facesOf
    rw [List.map_map]
    rfl
  refine ⟨t, us, _, rfl, e, pg.pf, by rw [List.length_map]; exact h1, by rw [List.length_map]; exact good.few, .inr ⟨fun i f hf => ?_, prog.length, by rw [List.length_map]; exact Nat.le_refl _, fun i f bz hi hf hb => ?_, fun _ H' l xs s e1 e2 => q H' l xs s e1 (ef ▸ e2), fun h => absurd h (by rw [List.length_map]; exact Nat.lt_irrefl _)⟩⟩
  · rw [List.getElem?_map] at hf
    obtain ⟨f0, hf0, rfl⟩ := Option.map_eq_some_iff.mp hf
    exact (good.fn i f0 hf0).1
  · rw [List.getElem?_map] at hf
    obtain ⟨f0, hf0, rfl⟩ := Option.map_eq_some_iff.mp hf
    obtain ⟨fo, ty, hs, hz, hh⟩ := good.fn i f0 hf0
    obtain ⟨nd, an, nd2⟩ := ty.an 0
    obtain ⟨fa, pz, u1, u2⟩ := hb
    obtain ⟨fa', pz', bz', f1, u3, u4, u5, u6, u7⟩ := pg.get i u1
    cases u3
    rw [hf0] at u4
    cases u4
    rw [u2] at u5
    cases u5
    refine ⟨f0.e, nd, u7, ?_, nd2, hz, hh, hs⟩
    rw [ef]
    unfold facesOf at an ⊢
    rw [List.map_take] at an
    exact an
theorem good_num {a o : Int} {b : Nat} {n : Int} (a0 : 0 ≤ a) (a1 : a < 20) (o0 : 0 ≤ o) (o1 : o < 20) (oa : o ≠ a) (hb : b ≤ 3) (n0 : 0 ≤ n) (n1 : n ≤ 10006) : Good [⟨[(a, b), (o, b)], 0, .node .num n []⟩] := by
  refine ⟨by show 1 ≤ 6; decide, fun i f hf => ?_⟩
  match i, hf with
  | 0, hf =>
    cases hf
    refine ⟨⟨?_, fun p hp => ?_, by show 2 ≤ 4; decide, by show 0 ≤ 3; decide⟩, .num n0 n1, by show 0 ≤ 1; decide, by show 1 ≤ 60; decide, by show 1 ≤ 13; decide⟩
    · simp only [List.map_cons, List.map_nil, List.nodup_cons, List.mem_cons, List.not_mem_nil, or_false, not_false_eq_true, List.nodup_nil, and_true]
      exact fun z => oa z.symm
    · simp only [List.mem_cons, List.not_mem_nil, or_false] at hp
      rcases hp with rfl | rfl
      · exact ⟨a0, by show a ≤ 19; omega, hb⟩
      · exact ⟨o0, by show o ≤ 19; omega, hb⟩
abbrev sLawNames : Stmt := top 57
theorem scsLawNames : FnScope ["_law_state", "_law_a", "_law_b", "_law_other", "_law_params"] ["_law_state"] (defScope sLawNames) := ⟨rfl, rfl, rfl, by decide +kernel, rfl, by decide +kernel, by decide +kernel⟩
section
variable {P : Program} {w : World} {K : PySem.W.Frag} {mg : Str → Option Value} {base : Heap} {f : Addr} {fd : FuncData}
theorem ok_names {k : Nat} {CN CB CT c Pt : Addr} {Ts : List (Addr × Str)} (F : FunL K "_law_names" sLawNames f fd c) (KO : KindO K mg CN CB CT) (TB : TabB base mg c Pt) (hmT : (Pt, lamQ "_law_names") ∈ Ts) (hu : ∀ p ∈ Ts, p.1 = Pt → p.2 = lamQ "_law_names") (O_taken : Okf P w K mg base CX0 (k + 2) "_law_taken" ["_law_row", "_law_many"] (spTaken K)) (O_faces : Okf P w K mg base (CX P w) k "faces" ["program"] (spFcsX CB)) : FnOk P w K mg base (CX P w) (k + 3) f fd ["_law_state"] (spNames K Ts) := by
  have sc := scsLawNames
  refine F.ok sc (fun vs H Q E h => ?_) (fun A outer s H vs Q E hr h => ?_)
  · obtain ⟨r, rfl, _⟩ := h
    rfl
  obtain ⟨r, rfl, dr, tb, q⟩ := h
  refine ⟨_, (pss_cons (ps_asg (pe_tup (pa_cons (pe_c O_taken hr rfl pass0 (pa_cons (pv 0) (pa_cons pe_int pa_nil))) (pa_cons (pe_c O_taken hr rfl pass0 (pa_cons (pv 0) (pa_cons pe_int pa_nil))) pa_nil))) (pg_tupK K (n := 2) rfl (pgs_cons (pg_name (i := 1) sc.nd rfl (.inr rfl)) (pgs_cons (pg_name (i := 2) sc.nd rfl (.inr rfl)) pgs_nil))))
    (pss_cons (ps_set (i := 3) sc.nd rfl (.inr rfl) (pe_op op_mod (pe_op op_add (pe_op op_add (pv 1) pe_int) (pe_c O_taken hr rfl pass0 (pa_cons (pv 0) (pa_cons pe_int pa_nil)))) pe_int))
    (pss_cons (ps_for (passes_of rfl) rfl (pi_tupK K (pe_tup (pa_cons (pe_tupF (pa_cons (pe_tup (pa_cons (pv 1) (pa_cons (pv 2) pa_nil))) (pa_cons (pe_tup (pa_cons (pv 1) (pa_cons (pe_op op_mod (pe_op op_add (pv 2) pe_int) pe_int) pa_nil))) pa_nil))) (pa_cons (pe_tupF (pa_cons (pe_tup (pa_cons (pv 1) (pa_cons (pv 2) pa_nil))) (pa_cons (pe_tup (pa_cons (pv 3) (pa_cons pe_int pa_nil))) (pa_cons (pe_tup (pa_cons (pv 1) (pa_cons (pv 2) pa_nil))) pa_nil)))) (pa_cons (pe_tupF (pa_cons (pe_tup (pa_cons (pv 1) (pa_cons (pv 2) pa_nil))) (pa_cons (pe_tup (pa_cons (pv 1) (pa_cons (pv 2) pa_nil))) pa_nil))) pa_nil))))) (pg_name (i := 4) sc.nd rfl (.inr rfl)) (pss_one (ps_if (pt_cmpR (op_neDK K hr.units) (pe_kind "_law_names" (k := k) KO rfl TB rfl rfl hmT hu hr (lamS_by (sc := defScope sLawNames) (by decide +kernel)) rfl (fun _ _ _ _ _ => rfl) (fun A' outer' s' H' E' f' c'' hr' => (pe_c O_faces hr' rfl (passes_call (takes_of rfl rfl rfl rfl) (fun _ _ _ _ h => h)) (pa_cons (pe_tup (pa_cons (pe_tup (pa_cons (pv 4) (pa_cons pe_int (pa_cons (pe_tup (pa_cons pe_str (pa_cons pe_int pa_nil))) pa_nil)))) pa_nil)) pa_nil)))) (pe_tup (pa_cons pe_int (pa_cons (pe_op op_sub pe_int pe_int) (pa_cons pe_str pa_nil)))) (nomark _)) (pss_one (ps_ret pe_bl)) pss_nil)))
    (pss_one (ps_ret (pe_cmpR (op_eqDK K hr.units) (pe_kind "_law_names" (k := k) KO rfl TB rfl rfl hmT hu hr (lamS_by (sc := defScope sLawNames) (by decide +kernel)) rfl (fun _ _ _ _ _ => rfl) (fun A' outer' s' H' E' f' c'' hr' => (pe_c O_faces hr' rfl (passes_call (takes_of rfl rfl rfl rfl) (fun _ _ _ _ h => h)) (pa_cons (pe_tup (pa_cons (pe_tup (pa_cons (pe_tupF (pa_cons (pe_tup (pa_cons (pv 1) (pa_cons (pv 2) pa_nil))) (pa_cons (pe_tup (pa_cons (pv 3) (pa_cons (pv 2) pa_nil))) pa_nil))) (pa_cons pe_int (pa_cons (pe_tup (pa_cons pe_str (pa_cons pe_int pa_nil))) pa_nil)))) pa_nil)) pa_nil)))) (pe_lst (pa_cons (pe_tup (pa_cons (pe_tup (pa_cons (pv 2) (pa_cons (pv 2) pa_nil))) (pa_cons pe_int pa_nil))) pa_nil)) (nomark _))))))), ?_⟩
  refine ⟨_, rfl, r, 20, rfl, dr, by decide, by decide, fun a H1 a0 a1 g1 => ?_⟩
  refine ⟨_, rfl, r, 4, rfl, g1.d, by decide, by decide, fun b H2 b0 b1 g2 => ?_⟩
  refine ⟨by show 2 ≤ sizeLine; decide, fun t0 ht0 => ?_⟩
  refine ⟨t0, _, rfl, SqT.of upd_same, rfl, _, _, rfl, _, _, rfl, rfl, ?_⟩
  have g3 := (g1.trans g2).trans (Drawn.new (o := .tup [.int a, .int b]) g2.d ht0)
  generalize upd H2 t0 (.tup [.int a, .int b]) = H3 at g3 ⊢
  refine ⟨_, rfl, _, _, rfl, rfl, _, rfl, r, 19, rfl, g3.d, by decide, by decide, fun m H4 m0 m1 g4 => ?_⟩
  refine ⟨_, _, rfl, rfl, _, _, rfl, rfl, by show (0 : Int) < 20; decide, ?_⟩
  show gName 3 (V.int ((a + 1 + m) % 20)) _ _ _
  generalize ho : (a + 1 + m) % 20 = o
  have o0 : 0 ≤ o := by omega
  have o1 : o < 20 := by omega
  have oa : o ≠ a := by omega
  clear ho
  have tb4 : Tabs Ts H4 := tabs_X (g3.trans g4).s dr tb
  have d4 := g4.d
  obtain ⟨bn, rfl⟩ := Int.eq_ofNat_of_zero_le b0
  have b3 : bn ≤ 3 := by omega
  have em : ((bn : Int) + 1) % 4 = (((bn + 1) % 4 : Nat) : Int) := by omega
  refine ⟨_, rfl, _, rfl, by show 2 ≤ sizeLine; decide, fun t1 ht1 => ?_⟩
  have s_t1 := same_new ht1 (.tup [.int a, .int (bn : Int)])
  have e_t1 : upd H4 t1 (.tup [.int a, .int (bn : Int)]) t1 = some (.tup [.int a, .int (bn : Int)]) := upd_same
  generalize upd H4 t1 (.tup [.int a, .int (bn : Int)]) = K1 at s_t1 e_t1 ⊢
  refine ⟨_, rfl, _, rfl, _, _, rfl, rfl, _, _, rfl, rfl, by show (0 : Int) < 4; decide, by show 2 ≤ sizeLine; decide, fun t2 ht2 => ?_⟩
  have s_t2 := same_new ht2 (.tup [.int a, .int (((bn : Int) + 1) % 4)])
  have e_t2 : upd K1 t2 (.tup [.int a, .int (((bn : Int) + 1) % 4)]) t2 = some (.tup [.int a, .int (((bn : Int) + 1) % 4)]) := upd_same
  generalize upd K1 t2 (.tup [.int a, .int (((bn : Int) + 1) % 4)]) = K2 at s_t2 e_t2 ⊢
  refine ⟨by show 2 ≤ sizeLine; decide, fun p1 q1 hp1 hq1 => ?_⟩
  have s_p1 := same_new hp1 (.frz q1 (.tup [.ref t1, .ref t2]))
  have e_p1 : upd K2 p1 (.frz q1 (.tup [.ref t1, .ref t2])) p1 = some (.frz q1 (.tup [.ref t1, .ref t2])) := upd_same
  generalize upd K2 p1 (.frz q1 (.tup [.ref t1, .ref t2])) = K3 at s_p1 e_p1 ⊢
  refine ⟨_, rfl, _, rfl, by show 2 ≤ sizeLine; decide, fun t3 ht3 => ?_⟩
  have s_t3 := same_new ht3 (.tup [.int a, .int (bn : Int)])
  have e_t3 : upd K3 t3 (.tup [.int a, .int (bn : Int)]) t3 = some (.tup [.int a, .int (bn : Int)]) := upd_same
  generalize upd K3 t3 (.tup [.int a, .int (bn : Int)]) = K4 at s_t3 e_t3 ⊢
  refine ⟨_, rfl, by show 2 ≤ sizeLine; decide, fun t4 ht4 => ?_⟩
  have s_t4 := same_new ht4 (.tup [.int o, .int 0])
  have e_t4 : upd K4 t4 (.tup [.int o, .int 0]) t4 = some (.tup [.int o, .int 0]) := upd_same
  generalize upd K4 t4 (.tup [.int o, .int 0]) = K5 at s_t4 e_t4 ⊢
  refine ⟨_, rfl, _, rfl, by show 2 ≤ sizeLine; decide, fun t5 ht5 => ?_⟩
  have s_t5 := same_new ht5 (.tup [.int a, .int (bn : Int)])
  have e_t5 : upd K5 t5 (.tup [.int a, .int (bn : Int)]) t5 = some (.tup [.int a, .int (bn : Int)]) := upd_same
  generalize upd K5 t5 (.tup [.int a, .int (bn : Int)]) = K6 at s_t5 e_t5 ⊢
  refine ⟨by show 3 ≤ sizeLine; decide, fun p2 q2 hp2 hq2 => ?_⟩
  have s_p2 := same_new hp2 (.frz q2 (.tup [.ref t3, .ref t4, .ref t5]))
  have e_p2 : upd K6 p2 (.frz q2 (.tup [.ref t3, .ref t4, .ref t5])) p2 = some (.frz q2 (.tup [.ref t3, .ref t4, .ref t5])) := upd_same
  generalize upd K6 p2 (.frz q2 (.tup [.ref t3, .ref t4, .ref t5])) = K7 at s_p2 e_p2 ⊢
  refine ⟨_, rfl, _, rfl, by show 2 ≤ sizeLine; decide, fun t6 ht6 => ?_⟩
  have s_t6 := same_new ht6 (.tup [.int a, .int (bn : Int)])
  have e_t6 : upd K7 t6 (.tup [.int a, .int (bn : Int)]) t6 = some (.tup [.int a, .int (bn : Int)]) := upd_same
  generalize upd K7 t6 (.tup [.int a, .int (bn : Int)]) = K8 at s_t6 e_t6 ⊢
  refine ⟨_, rfl, _, rfl, by show 2 ≤ sizeLine; decide, fun t7 ht7 => ?_⟩
  have s_t7 := same_new ht7 (.tup [.int a, .int (bn : Int)])
  have e_t7 : upd K8 t7 (.tup [.int a, .int (bn : Int)]) t7 = some (.tup [.int a, .int (bn : Int)]) := upd_same
  generalize upd K8 t7 (.tup [.int a, .int (bn : Int)]) = K9 at s_t7 e_t7 ⊢
  refine ⟨by show 2 ≤ sizeLine; decide, fun p3 q3 hp3 hq3 => ?_⟩
  have s_p3 := same_new hp3 (.frz q3 (.tup [.ref t6, .ref t7]))
  have e_p3 : upd K9 p3 (.frz q3 (.tup [.ref t6, .ref t7])) p3 = some (.frz q3 (.tup [.ref t6, .ref t7])) := upd_same
  generalize upd K9 p3 (.frz q3 (.tup [.ref t6, .ref t7])) = Ka at s_p3 e_p3 ⊢
  refine ⟨by show 3 ≤ sizeLine; decide, fun tt htt => ?_⟩
  have s_tt := same_new htt (.tup [.ref p1, .ref p2, .ref p3])
  have e_tt : upd Ka tt (.tup [.ref p1, .ref p2, .ref p3]) tt = some (.tup [.ref p1, .ref p2, .ref p3]) := upd_same
  generalize upd Ka tt (.tup [.ref p1, .ref p2, .ref p3]) = Kb at s_tt e_tt ⊢
  rw [em] at e_t2
  have S_tt : Same Kb Kb := fun _ _ h => h
  have S_p3 := s_tt.trans S_tt
  have S_t7 := s_p3.trans S_p3
  have S_t6 := s_t7.trans S_t7
  have S_p2 := s_t6.trans S_t6
  have S_t5 := s_p2.trans S_p2
  have S_t4 := s_t5.trans S_t5
  have S_t3 := s_t4.trans S_t4
  have S_p1 := s_t3.trans S_t3
  have S_t2 := s_p1.trans S_p1
  have S_t1 := s_t2.trans S_t2
  have S_0 := s_t1.trans S_t1
  have P1 : PtIn Kb (.ref p1) [(a, bn), (a, (bn + 1) % 4)] := ⟨p1, q1, _, rfl, S_p1 _ _ e_p1, hq1, .cons (S_t1 _ _ e_t1) (.cons (S_t2 _ _ e_t2) .nil)⟩
  have P2 : PtIn Kb (.ref p2) [(a, bn), (o, 0), (a, bn)] := ⟨p2, q2, _, rfl, S_p2 _ _ e_p2, hq2, .cons (S_t3 _ _ e_t3) (.cons (S_t4 _ _ e_t4) (.cons (S_t5 _ _ e_t5) .nil))⟩
  have P3 : PtIn Kb (.ref p3) [(a, bn), (a, bn)] := ⟨p3, q3, _, rfl, S_p3 _ _ e_p3, hq3, .cons (S_t6 _ _ e_t6) (.cons (S_t7 _ _ e_t7) .nil)⟩
  have T1 : FaceTw [(a, bn), (a, (bn + 1) % 4)] 0 := tw_two a0 a1 b3 (by omega)
  have T2 : FaceTw [(a, bn), (o, 0), (a, bn)] 0 := tw_three a0 a1 o0 o1 b3
  have T3 : FaceTw [(a, bn), (a, bn)] 0 := tw_two a0 a1 b3 b3
  have dKb : Draw K r Kb := draw_same d4 S_0
  have tKb := tabs_same tb4 S_0
  clear S_t1 S_t2 S_p1 S_t3 S_t4 S_t5 S_p2 S_t6 S_t7 S_p3 S_tt S_0
  refine ⟨tt, rfl, ⟨_, SqT.of e_tt⟩, for_tup (K := K) (a := tt) (xs := [.ref p1, .ref p2, .ref p3]) (fun i σ H' => ∃ x4, σ = [some (.ref r.r), some (.int a), some (.int (bn : Int)), some (.int o), x4] ∧ Draw K r H' ∧ Tabs Ts H' ∧ IK Kb H') ⟨none, rfl, dKb, tKb, IK.refl _⟩ ?_ ?_ ?_⟩
  · rintro i σ H' _ ⟨x4, rfl, _, _, ik⟩
    exact SqT.of (ik.t _ _ e_tt)
  · rintro i x σ H5 hx ⟨x4, rfl, d5, tb5, ik5⟩
    obtain ⟨ps, P5, T5⟩ : ∃ ps, PtIn H5 x ps ∧ FaceTw ps 0 := by
      match i, hx with
      | 0, hx => cases hx; exact ⟨_, P1.mono ik5, T1⟩
      | 1, hx => cases hx; exact ⟨_, P2.mono ik5, T2⟩
      | 2, hx => cases hx; exact ⟨_, P3.mono ik5, T3⟩
    dsimp only [gName]
    refine ⟨tb5, fun H6 eN tb6 => ?_⟩
    refine ⟨_, rfl, by show 2 ≤ sizeLine; decide, fun u1 hu1 => ⟨by show 3 ≤ sizeLine; decide, fun u2 hu2 => ⟨by show 1 ≤ sizeLine; decide, fun u3 hu3 => ?_⟩⟩⟩
    have v1 := same_new hu1 (.tup [.str "num", .int 1])
    have v2 := same_new hu2 (.tup [x, .int 0, .ref u1])
    have v3 := same_new hu3 (.tup [.ref u2])
    have v0 := v1.trans (v2.trans v3)
    dsimp only [tNil, List.cons_append, List.nil_append]
    refine fcs_twice upd_same (v3 _ _ upd_same) ((P5.mono (extN_ik eN)).mono (IK.of v0)) T5 ?_
    intro H7 d7 s7 hd7 e7
    refine .inl ⟨rfl, d7, _, _, _, rfl, e7, fun t ht => ?_⟩
    refine ⟨_, _, rfl, rfl, by show 3 ≤ sizeLine; decide, fun t9 ht9 => ?_⟩
    have w1 := same_new ht (.tup [.int 0, .int (-1), .str "face"])
    have w2 := same_new ht9 (.tup [.int 0, .int (-1), .str "face"])
    have w0 := v0.trans (s7.trans (w1.trans w2))
    have D1 := DIn.tup (ds := [.int 0, .int (-1), .str "face"]) (w2 _ _ upd_same) (by show 3 ≤ 1000; decide) (.cons .int (.cons .int (.cons .str .nil)))
    have D2 := DIn.tup (ds := [.int 0, .int (-1), .str "face"]) (show (upd (upd H7 t (.tup [.int 0, .int (-1), .str "face"])) t9 (.tup [.int 0, .int (-1), .str "face"])) t9 = _ from upd_same) (by show 3 ≤ 1000; decide) (.cons .int (.cons .int (.cons .str .nil)))
    have hs : (Da.seq false [.int 0, .int (-1), .str "face"]).sok := ⟨trivial, trivial, by show PyData.strOk _ = true; decide +kernel, trivial⟩
    have hsh := Da.shp hs (by decide)
    refine ⟨_, _, D1.dp, D2.dp, hsh, hsh, ?_⟩
    rw [PySem.SeqAt.eqv_refl _ (Da.can _ hs)]
    refine ⟨_, rfl, ite2 (fun z => nomatch z) (fun _ => ?_)⟩
    exact ⟨_, rfl, (draw_ik d5 eN).same w0, tabs_same tb6 w0, (ik5.trans (extN_ik eN)).trans (IK.of w0)⟩
  · rintro σ H5 ⟨x4, rfl, d5, tb5, ik5⟩
    refine ⟨tb5, fun H6 eN tb6 => ?_⟩
    refine ⟨_, rfl, _, rfl, by show 2 ≤ sizeLine; decide, fun z1 hz1 => ⟨_, rfl, _, rfl, by show 2 ≤ sizeLine; decide, fun z2 hz2 => ⟨by show 2 ≤ sizeLine; decide, fun z3 qz hz3 hqz => ⟨by show 2 ≤ sizeLine; decide, fun u1 hu1 => ⟨by show 3 ≤ sizeLine; decide, fun u2 hu2 => ⟨by show 1 ≤ sizeLine; decide, fun u3 hu3 => ?_⟩⟩⟩⟩⟩⟩
    have v1 := same_new hz1 (.tup [.int a, .int (bn : Int)])
    have v2 := same_new hz2 (.tup [.int o, .int (bn : Int)])
    have v3 := same_new hz3 (.frz qz (.tup [.ref z1, .ref z2]))
    have v4 := same_new hu1 (.tup [.str "num", .int 1])
    have v5 := same_new hu2 (.tup [.ref z3, .int 0, .ref u1])
    have v6 := same_new hu3 (.tup [.ref u2])
    have v56 := v5.trans v6
    have v46 := v4.trans v56
    have v36 := v3.trans v46
    have v26 := v2.trans v36
    have v0 := v1.trans v26
    dsimp only [tNil, List.cons_append, List.nil_append]
    refine good_fcsL (prog := [⟨[(a, bn), (o, bn)], 0, .node .num 1 []⟩]) upd_same (.cons (v6 _ _ upd_same) ⟨z3, qz, _, rfl, v46 _ _ upd_same, hqz, .cons (v26 _ _ upd_same) (.cons (v36 _ _ upd_same) .nil)⟩ (.leaf rfl (v56 _ _ upd_same)) .nil) (good_num a0 a1 o0 o1 oa b3 (by decide) (by decide)) (by show 1 ≤ 1; decide) fun H7 l xs s7 el fi => ?_
    refine ⟨_, rfl, _, rfl, by show 2 ≤ sizeLine; decide, fun y1 hy1 => ⟨by show 2 ≤ sizeLine; decide, fun y2 hy2 => ⟨by show 1 ≤ sizeLine; decide, fun y3 hy3 => ?_⟩⟩⟩
    have w1 := same_new hy1 (.tup [.int (bn : Int), .int (bn : Int)])
    have w2 := same_new hy2 (.tup [.ref y1, .int 0])
    have w3 := same_new hy3 (.lst [.ref y2])
    have w23 := w2.trans w3
    have w13 := w1.trans w23
    have w0 := v0.trans (s7.trans w13)
    have hs : (Da.seq true [.seq false [.seq false [.int (bn : Int), .int (bn : Int)], .int 0]]).sok := ⟨⟨⟨trivial, trivial, trivial⟩, trivial, trivial⟩, trivial⟩
    have hsh := Da.shp hs (by simp only [Da.hgt, dhgts]; omega)
    have D1 : DIn (upd (upd (upd H7 y1 (.tup [.int (bn : Int), .int (bn : Int)])) y2 (.tup [.ref y1, .int 0])) y3 (.lst [.ref y2])) (.ref l) (Da.seq true [.seq false [.seq false [.int (bn : Int), .int (bn : Int)], .int 0]]) := by
      cases fi with
      | cons f1 f2 f3 =>
        cases f3
        exact .seq (.inl ⟨rfl, w13 _ _ el⟩) (by show 1 ≤ 1000; decide) (.cons (.tup (w13 _ _ f1) (by show 2 ≤ 1000; decide) (.cons (.tup (w13 _ _ f2) (by show 2 ≤ 1000; decide) (.cons .int (.cons .int .nil))) (.cons .int .nil))) .nil)
    have D2 : DIn (upd (upd (upd H7 y1 (.tup [.int (bn : Int), .int (bn : Int)])) y2 (.tup [.ref y1, .int 0])) y3 (.lst [.ref y2])) (.ref y3) (Da.seq true [.seq false [.seq false [.int (bn : Int), .int (bn : Int)], .int 0]]) :=
      .seq (.inl ⟨rfl, upd_same⟩) (by show 1 ≤ 1000; decide) (.cons (.tup (w3 _ _ upd_same) (by show 2 ≤ 1000; decide) (.cons (.tup (w23 _ _ upd_same) (by show 2 ≤ 1000; decide) (.cons .int (.cons .int .nil))) (.cons .int .nil))) .nil)
    refine ⟨_, _, D1.dp, D2.dp, hsh, hsh, ?_⟩
    rw [PySem.SeqAt.eqv_refl _ (Da.can _ hs)]
    exact q _ ((draw_ik d5 eN).same w0) (tabs_same tb6 w0)
end
end NR
set_option maxHeartbeats 4000000
namespace NR
open PySem PySem.Spec PyProof.Rows L2

open TL
def txA (y : Str) : Str := (("0 0 ( num " : Str) ++ y) ++ " )"
def rwB (y : Str) : Str := (("0 1 " : Str) ++ y) ++ " 0 ( num 1 )"
def txB (y : Str) : Str := (("0 0 ( num 1 )\n0 1 " : Str) ++ y) ++ " 0 ( num 1 )"
theorem tl_inj1 {a b : Str} (h : tl a = tl b) : a = b := by
  have := map_tl_inj (l := [a]) (m := [b]) (by rw [List.map_cons, List.map_cons, h])
  injection this
theorem k1 : tl ("0 0 ( num " : Str) = [48, 32, 48, 32, 40, 32, 110, 117, 109, 32] := by decide +kernel
theorem k2 : tl (" )" : Str) = [32, 41] := by decide +kernel
theorem k3 : tl ("0 1 " : Str) = [48, 32, 49, 32] := by decide +kernel
theorem k4 : tl (" 0 ( num 1 )" : Str) = [32, 48, 32, 40, 32, 110, 117, 109, 32, 49, 32, 41] := by decide +kernel
theorem k5 : tl ("0 0 ( num 1 )\n0 1 " : Str) = [48, 32, 48, 32, 40, 32, 110, 117, 109, 32, 49, 32, 41, 10, 48, 32, 49, 32] := by decide +kernel
theorem k6 : tl ("0" : Str) = [48] := by decide +kernel
theorem k7 : tl ("(" : Str) = [40] := by decide +kernel
theorem k8 : tl ("num" : Str) = [110, 117, 109] := by decide +kernel
theorem k9 : tl (")" : Str) = [41] := by decide +kernel
theorem ka : tl ("1" : Str) = [49] := by decide +kernel
theorem txA_tl (y : Str) : tl (txA y) = [48, 32, 48, 32, 40, 32, 110, 117, 109, 32] ++ (tl y ++ [32, 41]) := by
  unfold txA
  rw [tl_append, tl_append, k1, k2, List.append_assoc]
theorem rwB_tl (y : Str) : tl (rwB y) = [48, 32, 49, 32] ++ (tl y ++ [32, 48, 32, 40, 32, 110, 117, 109, 32, 49, 32, 41]) := by
  unfold rwB
  rw [tl_append, tl_append, k3, k4, List.append_assoc]
theorem txA_join (y : Str) : txA y = Txt.join (" " : Str) ([("0" : Str), "0", "(", "num", y, ")"] : List Str) := by
  refine tl_inj1 ?_
  rw [txA_tl, join_eq, tl_join, tl_blank]
  simp only [List.map_cons, List.map_nil, joinL, k6, k7, k8, k9, List.cons_append, List.nil_append]
theorem rwB_join (y : Str) : rwB y = Txt.join (" " : Str) ([("0" : Str), "1", y, "0", "(", "num", "1", ")"] : List Str) := by
  refine tl_inj1 ?_
  rw [rwB_tl, join_eq, tl_join, tl_blank]
  simp only [List.map_cons, List.map_nil, joinL, k6, k7, k8, k9, ka, List.cons_append, List.nil_append]
theorem txB_join (y : Str) : txB y = Txt.join ("\n" : Str) [txA "1", rwB y] := by
  refine tl_inj1 ?_
  rw [join_eq, tl_join, tl_nl]
  unfold txB
  rw [tl_append, tl_append, k5, k4]
  simp only [List.map_cons, List.map_nil, joinL, txA_tl, rwB_tl, ka, List.cons_append, List.nil_append, List.append_assoc]
theorem txA_nl {y : Str} (h : 10 ∉ tl y) : 10 ∉ tl (txA y) := by
  rw [txA_tl]
  simp only [List.cons_append, List.nil_append, List.mem_cons, List.mem_append, List.not_mem_nil, or_false, not_or]
  exact ⟨by decide, by decide, by decide, by decide, by decide, by decide, by decide, by decide, by decide, by decide, h, by decide, by decide⟩
theorem rwB_nl {y : Str} (h : 10 ∉ tl y) : 10 ∉ tl (rwB y) := by
  rw [rwB_tl]
  simp only [List.cons_append, List.nil_append, List.mem_cons, List.mem_append, List.not_mem_nil, or_false, not_or]
  exact ⟨by decide, by decide, by decide, by decide, h, by decide, by decide, by decide, by decide, by decide, by decide, by decide, by decide, by decide, by decide, by decide, by decide⟩
theorem txA_rows {y : Str} (h : 10 ∉ tl y) : Txt.split (txA y) ("\n" : Str) = [txA y] := by
  have e : txA y = Txt.join ("\n" : Str) [txA y] := by
    rw [join_eq]
    rfl
  have := split_join (y := ("\n" : Str)) tl_nl (by decide +kernel) (parts := [txA y]) (by simp) fun p hp => by
    rw [List.mem_singleton.mp hp]
    exact txA_nl h
  rw [← e] at this
  exact this
theorem txA_words {y : Str} (h : 32 ∉ tl y) : Txt.split (txA y) (" " : Str) = ([("0" : Str), "0", "(", "num", y, ")"] : List Str) := by
  rw [txA_join]
  refine split_join tl_blank (by decide +kernel) (by simp) fun p hp => ?_
  simp only [List.mem_cons, List.not_mem_nil, or_false] at hp
  rcases hp with rfl | rfl | rfl | rfl | rfl | rfl
  · decide +kernel
  · decide +kernel
  · decide +kernel
  · decide +kernel
  · exact h
  · decide +kernel
theorem rwB_words {y : Str} (h : 32 ∉ tl y) : Txt.split (rwB y) (" " : Str) = ([("0" : Str), "1", y, "0", "(", "num", "1", ")"] : List Str) := by
  rw [rwB_join]
  refine split_join tl_blank (by decide +kernel) (by simp) fun p hp => ?_
  simp only [List.mem_cons, List.not_mem_nil, or_false] at hp
  rcases hp with rfl | rfl | rfl | rfl | rfl | rfl | rfl | rfl
  · decide +kernel
  · decide +kernel
  · exact h
  · decide +kernel
  · decide +kernel
  · decide +kernel
  · decide +kernel
  · decide +kernel
theorem txB_rows {y : Str} (h : 10 ∉ tl y) : Txt.split (txB y) ("\n" : Str) = [txA "1", rwB y] := by
  rw [txB_join]
  refine split_join tl_nl (by decide +kernel) (by simp) fun p hp => ?_
  simp only [List.mem_cons, List.not_mem_nil, or_false] at hp
  rcases hp with rfl | rfl
  · exact txA_nl (by decide +kernel)
  · exact rwB_nl h
theorem txA_len (y : Str) : (txA y).length = y.length + 12 := by
  rw [len_tl', txA_tl, len_tl']
  simp only [List.length_append, List.length_cons, List.length_nil]
  omega
theorem rwB_len (y : Str) : (rwB y).length = y.length + 16 := by
  rw [len_tl', rwB_tl, len_tl']
  simp only [List.length_append, List.length_cons, List.length_nil]
  omega
theorem txB_len (y : Str) : (txB y).length = y.length + 30 := by
  rw [len_tl', len_tl' y]
  unfold txB
  rw [tl_append, tl_append, k5, k4]
  simp only [List.length_append, List.length_cons, List.length_nil]
  omega
/-- a number with noughts ahead -/
theorem non_of {z : Str} {n : Int} (hz : z = "0" ∨ z = "00") (h0 : 0 ≤ n) (h1 : n ≤ 10006) : NoN (z ++ iT n) ∧ 10 ∉ tl (z ++ iT n) ∧ 32 ∉ tl (z ++ iT n) := by
  have ok := iT_ok h0 h1
  have hl := iT_len h0 h1
  have e2 : tl ("00" : Str) = [48, 48] := by decide +kernel
  have hne : tl (iT n) ≠ [] := by
    rw [iT_tl h0]
    by_cases c : n = 0
    · subst c
      decide +kernel
    · obtain ⟨c, r, e, _⟩ := numL_head (n := n.toNat) (by omega)
      rw [e]
      simp
  have hl2 : (z ++ iT n).length ≤ 20 := by
    rw [len_tl', tl_append, List.length_append, ← len_tl', ← len_tl']
    rcases hz with rfl | rfl
    · have : ("0" : Str).length = 1 := by decide +kernel
      omega
    · have : ("00" : Str).length = 2 := by decide +kernel
      omega
  rcases hz with rfl | rfl
  · obtain ⟨c, r, e⟩ := List.exists_cons_of_ne_nil hne
    refine ⟨⟨c, r, by rw [tl_append, k6, e]; rfl, hl2⟩, ?_, ?_⟩ <;> rw [tl_append, k6] <;> simp only [List.cons_append, List.nil_append, List.mem_cons, not_or]
    · exact ⟨by decide, ok.nl⟩
    · exact ⟨by decide, ok.nb⟩
  · refine ⟨⟨48, tl (iT n), by rw [tl_append, e2]; rfl, hl2⟩, ?_, ?_⟩ <;> rw [tl_append, e2] <;> simp only [List.cons_append, List.nil_append, List.mem_cons, not_or]
    · exact ⟨by decide, by decide, ok.nl⟩
    · exact ⟨by decide, by decide, ok.nb⟩

theorem iT0 : iT 0 = ("0" : Str) := by decide +kernel
theorem iT1 : iT 1 = ("1" : Str) := by decide +kernel
def fnNum (n : Int) : Fn := ⟨[], 0, .node .num n []⟩
theorem fnNum_words (n : Int) : (fnNum n).words = ([("0" : Str), "0", "(", "num", iT n, ")"] : List Str) := by
  show iT ((0 : Nat) : Int) :: iT ((0 : Nat) : Int) :: ([] ++ (("(" : Str) :: W.num.str :: ([iT n] ++ ([] ++ [(")" : Str)])))) = _
  have e : iT ((0 : Nat) : Int) = ("0" : Str) := iT0
  rw [e]
  rfl
theorem fnNum_good {n : Int} (n0 : 0 ≤ n) (n1 : n ≤ 10006) : Good [fnNum n] := by
  refine ⟨by show 1 ≤ 6; decide, fun i f hf => ?_⟩
  match i, hf with
  | 0, hf =>
    cases hf
    exact ⟨⟨List.nodup_nil, (fun p hp => absurd hp List.not_mem_nil), by show 0 ≤ 4; decide, by show 0 ≤ 3; decide⟩, .num n0 n1, by show 0 ≤ 1; decide, by show 1 ≤ 60; decide, by show 1 ≤ 13; decide⟩
section
variable {CT : Addr} {H : Hp} {Q : VK} {E : XK}
theorem read_ok {n : Int} (n0 : 0 ≤ n) (n1 : n ≤ 10006) (q : ∀ (H' : Hp) (t : Addr) (us : List V), Same H H' → H' t = some (.tup us) → PgIns H' us [fnNum n] → Q (.ref t) H') : spReadX CT [.str (txA (iT n))] H Q E := by
  have ok := iT_ok n0 n1
  have hl := iT_len n0 n1
  have gd := fnNum_good n0 n1
  refine ⟨txA (iT n), [(txA (iT n), (fnNum n).words)], [fnNum n], rfl, txA_rows ok.nl, by rw [txA_len]; omega, by show 1 ≤ 6; decide, fun r hr => ?_, fun i f hf => ?_, Nat.le_refl _, fun _ => ⟨Nat.le_refl _, gd, q⟩, fun h => absurd h (Nat.lt_irrefl _)⟩
  · rw [List.mem_singleton.mp hr]
    exact ⟨by rw [fnNum_words]; exact txA_words ok.nb, by show (txA (iT n)).length ≤ 10000; rw [txA_len]; omega⟩
  · match i, hf with
    | 0, hf => cases hf; exact ⟨gd.fnT _ (List.mem_singleton.mpr rfl), _, rfl⟩
theorem read_noA {y : Str} (nn : NoN y) (hn : 10 ∉ tl y) (hb : 32 ∉ tl y) (rf : Ref CT (fsBt (.int 0) (.int 4)) H E) : spReadX CT [.str (txA y)] H Q E := by
  obtain ⟨c, r, e, hl⟩ := id nn
  refine ⟨txA y, [(txA y, iT 0 :: iT 0 :: ("(" : Str) :: W.num.str :: y :: [(")" : Str)])], [], rfl, txA_rows hn, by rw [txA_len]; omega, by show 1 ≤ 6; decide, fun r hr => ?_, fun i f hf => by simp at hf, Nat.zero_le _, fun h => absurd h (by show ¬ (0 = 1); decide), fun _ => ⟨_, _, 4, rfl, .body (by decide) (by decide) rfl nn, rf⟩⟩
  rw [List.mem_singleton.mp hr]
  exact ⟨by rw [iT0]; exact txA_words hb, by show (txA y).length ≤ 10000; rw [txA_len]; omega⟩
theorem read_noB {y : Str} (nn : NoN y) (hn : 10 ∉ tl y) (hb : 32 ∉ tl y) (rf : Ref CT (fsBt (.int 1) (.int 2)) H E) : spReadX CT [.str (txB y)] H Q E := by
  obtain ⟨c, r, e, hl⟩ := id nn
  have gd := fnNum_good (n := 1) (by decide) (by decide)
  have l1 : ("1" : Str).length = 1 := by decide +kernel
  refine ⟨txB y, [(txA "1", (fnNum 1).words), (rwB y, iT 0 :: iT 1 :: y :: [("0" : Str), "(", "num", "1", ")"])], [fnNum 1], rfl, txB_rows hn, by rw [txB_len]; omega, by show 2 ≤ 6; decide, fun r hr => ?_, fun i f hf => ?_, by show 1 ≤ 2; decide, fun h => absurd h (by show ¬ (1 = 2); decide), fun _ => ⟨_, _, 2, rfl, .name (by decide) (by decide) (by decide) (by decide) nn, rf⟩⟩
  · simp only [List.mem_cons, List.not_mem_nil, or_false] at hr
    rcases hr with rfl | rfl
    · exact ⟨by rw [fnNum_words, iT1]; exact txA_words (by decide +kernel), by show (txA "1").length ≤ 10000; rw [txA_len, l1]; decide⟩
    · exact ⟨by rw [iT0, iT1]; exact rwB_words hb, by show (rwB y).length ≤ 10000; rw [rwB_len]; omega⟩
  · match i, hf with
    | 0, hf => cases hf; exact ⟨gd.fnT _ (List.mem_singleton.mpr rfl), _, rfl⟩
end
end NR
set_option maxHeartbeats 4000000
namespace NR
open PySem PySem.Spec PyProof.Rows L2

open LamX
def spLaw (K : PySem.W.Frag) (Ts : List (Addr × Str)) : Sp := fun vs H Q _ => ∃ (a : Addr) (ns : List Int), vs = [.ref a] ∧ SqL K H a (ns.map V.int) ∧ Tabs Ts H ∧ ∀ H', Q (.bl true) H'
abbrev sLaw : Stmt := top 58
theorem scsLaw : FnScope ["_law_script", "_law_state", "_law_turn", "_law_number", "_law_noughts", "_law_word"] ["_law_script"] (defScope sLaw) := ⟨rfl, rfl, rfl, by decide +kernel, rfl, by decide +kernel, by decide +kernel⟩
section
variable {P : Program} {w : World} {K : PySem.W.Frag} {mg : Str → Option Value} {base : Heap} {f : Addr} {fd : FuncData}
theorem ok_law {k : Nat} {CN CB CT c Pt : Addr} {Ts : List (Addr × Str)} (F : FunL K "law" sLaw f fd c) (KO : KindO K mg CN CB CT) (TB : TabB base mg c Pt) (hmT : (Pt, lamQ "law") ∈ Ts) (hu : ∀ p ∈ Ts, p.1 = Pt → p.2 = lamQ "law") (O_taken : Okf P w K mg base CX0 (k + 3) "_law_taken" ["_law_row", "_law_many"] (spTaken K)) (O_calls : Okf P w K mg base (CX P w) (k + 3) "_law_calls" ["_law_state"] (spNames K Ts)) (O_names : Okf P w K mg base (CX P w) (k + 3) "_law_names" ["_law_state"] (spNames K Ts)) (O_read : Okf P w K mg base (CX P w) (k + 1) "read" ["text"] (spReadX CT)) (z_range : mg "range" = none) (z_str : mg "str" = none) : FnOk P w K mg base (CX P w) (k + 4) f fd ["_law_script"] (spLaw K Ts) := by
  have sc := scsLaw
  refine F.ok sc (fun vs H Q E h => ?_) (fun A outer s H vs Q E hr h => ?_)
  · obtain ⟨a, ns, rfl, _⟩ := h
    rfl
  obtain ⟨a, ns, rfl, sq, tb, q⟩ := h
  refine ⟨_, (pss_cons (ps_set (i := 1) sc.nd rfl (.inl rfl) (pe_lst (pa_cons (pv 0) (pa_cons pe_int (pa_cons pe_int (pa_cons pe_int pa_nil))))))
    (pss_cons (ps_for (passes_of rfl) rfl (pi_range1 rfl z_range (pa_cons pe_int pa_nil)) (pg_name (i := 2) sc.nd rfl (.inl rfl)) (pss_cons (ps_if (PW.pt (pw_or (pt_not (pt_val (pe_c O_calls hr rfl (passes_call (takes_of rfl rfl rfl rfl) (fun _ _ _ _ h => h)) (pa_cons (pv 1) pa_nil)))) (pw_or1 (pt_not (pt_val (pe_c O_names hr rfl (passes_call (takes_of rfl rfl rfl rfl) (fun _ _ _ _ h => h)) (pa_cons (pv 1) pa_nil))))))) (pss_one (ps_ret pe_bl)) pss_nil) (pss_cons (ps_set (i := 3) sc.nd rfl (.inr rfl) (pe_c O_taken hr rfl pass0 (pa_cons (pv 1) (pa_cons pe_int pa_nil)))) (pss_cons (ps_if (pt_cmpR (op_neDK K hr.units) (pe_kind "law" (k := k + 1) KO rfl TB rfl rfl hmT hu hr (lamS_by (sc := defScope sLaw) (by decide +kernel)) rfl (fun _ _ _ _ _ => rfl) (fun A' outer' s' H' E' f' c'' hr' => (pe_c O_read hr' rfl (passes_call (takes_of rfl rfl rfl rfl) (fun _ _ _ _ h => h)) (pa_cons (pe_op op_add_str (pe_op op_add_str pe_str (pe_callTy call_str_int rfl z_str (by decide +kernel) (pa_cons (pv 3) pa_nil))) pe_str) pa_nil)))) (pe_tup (pa_cons (pe_tup (pa_cons (pe_tup pa_nil) (pa_cons pe_int (pa_cons (pe_tup (pa_cons pe_str (pa_cons (pv 3) pa_nil))) pa_nil)))) pa_nil)) (nomark _)) (pss_one (ps_ret pe_bl)) pss_nil) (pss_one (ps_for (passes_of rfl) rfl (pi_tupK K (pe_tup (pa_cons pe_str (pa_cons pe_str pa_nil)))) (pg_name (i := 4) sc.nd rfl (.inl rfl)) (pss_cons (ps_set (i := 5) sc.nd rfl (.inr rfl) (pe_op op_add_str (pv 4) (pe_callTy call_str_int rfl z_str (by decide +kernel) (pa_cons (pv 3) pa_nil)))) (pss_cons (ps_if (pt_cmpR (op_neDK K hr.units) (pe_kind "law" (k := k + 1) KO rfl TB rfl rfl hmT hu hr (lamS_by (sc := defScope sLaw) (by decide +kernel)) rfl (fun _ _ _ _ _ => rfl) (fun A' outer' s' H' E' f' c'' hr' => (pe_c O_read hr' rfl (passes_call (takes_of rfl rfl rfl rfl) (fun _ _ _ _ h => h)) (pa_cons (pe_op op_add_str (pe_op op_add_str pe_str (pv 5)) pe_str) pa_nil)))) (pe_tup (pa_cons pe_str (pa_cons pe_int (pa_cons pe_int pa_nil)))) (nomark _)) (pss_one (ps_ret pe_bl)) pss_nil) (pss_one (ps_if (pt_cmpR (op_neDK K hr.units) (pe_kind "law" (k := k + 1) KO rfl TB rfl rfl hmT hu hr (lamS_by (sc := defScope sLaw) (by decide +kernel)) rfl (fun _ _ _ _ _ => rfl) (fun A' outer' s' H' E' f' c'' hr' => (pe_c O_read hr' rfl (passes_call (takes_of rfl rfl rfl rfl) (fun _ _ _ _ h => h)) (pa_cons (pe_op op_add_str (pe_op op_add_str pe_str (pv 5)) pe_str) pa_nil)))) (pe_tup (pa_cons pe_str (pa_cons pe_int (pa_cons pe_int pa_nil)))) (nomark _)) (pss_one (ps_ret pe_bl)) pss_nil))))))))))
    (pss_one (ps_ret pe_bl)))), ?_⟩
  refine ⟨_, rfl, by show 4 ≤ sizeLine; decide, fun rw_ hrw => ?_⟩
  have apt : Apt K ⟨rw_, a, ns⟩ := by
    rcases sq with (h | ⟨o, h⟩) | h
    · exact .inl (ne_of_none h hrw)
    · exact .inl (ne_of_none h hrw)
    · exact .inr fun H => .inr h
  have d0 : Draw K ⟨rw_, a, ns⟩ (upd H rw_ (.lst [.ref a, .int 0, .int 1, .int 0])) := ⟨0, 1, 0, upd_same, (same_new hrw _).seq sq, apt, by decide, by decide, by decide⟩
  have tb0 := tabs_same tb (same_new hrw (.lst [.ref a, .int 0, .int 1, .int 0]))
  generalize upd H rw_ (.lst [.ref a, .int 0, .int 1, .int 0]) = H0 at d0 tb0 ⊢
  obtain ⟨r, hr0⟩ : ∃ r : RD, r = ⟨rw_, a, ns⟩ := ⟨_, rfl⟩
  have er : r.r = rw_ := by rw [hr0]
  rw [← hr0] at d0
  refine ⟨_, rfl, by decide, by decide, for_range (lo := 0) (n := 2) (fun i σ H' => ∃ x2 x3 x4 x5, σ = [some (.ref a), some (.ref rw_), x2, x3, x4, x5] ∧ Draw K r H' ∧ Tabs Ts H') ⟨none, none, none, none, rfl, d0, tb0⟩ ?_ ?_⟩
  · rintro i σ H1 hi ⟨x2, x3, x4, x5, rfl, d1, tb1⟩
    refine ⟨_, rfl, r, by rw [er]; rfl, d1, tb1, fun H2 d2 tb2 => ⟨_, rfl, ite2 (fun z => nomatch z) (fun _ => ?_)⟩⟩
    refine ⟨_, rfl, r, by rw [er]; rfl, d2, tb2, fun H3 d3 tb3 => ⟨_, rfl, ite2 (fun z => nomatch z) (fun _ => ?_)⟩⟩
    refine ⟨_, rfl, r, 1000, by rw [er]; rfl, d3, by decide, by decide, fun n H4 n0 n1 g4 => ?_⟩
    have n2 : n ≤ 10006 := by omega
    have tb4 := tabs_X g4.s d3 tb3
    have hl := iT_len n0 n2
    have d4 := g4.d
    have hlog := log_small n0 n2
    have big : 100000 ≤ sizeLine := by decide
    have l1 : ("0 0 ( num " : Str).length = 10 := by decide +kernel
    have l2 : (" )" : Str).length = 2 := by decide +kernel
    refine ⟨tb4, fun H5 eN tb5 => ?_⟩
    refine ⟨_, rfl, n, rfl, hlog, _, _, rfl, rfl, ?_, _, _, rfl, rfl, ?_, ?_⟩
    · show ("0 0 ( num " : Str).length + (iT n).length ≤ sizeLine
      omega
    · show (("0 0 ( num " : Str) ++ iT n).length + (" )" : Str).length ≤ sizeLine
      rw [len_tl', TL.tl_append, List.length_append, ← len_tl', ← len_tl']
      omega
    dsimp only [tNil, List.cons_append, List.nil_append]
    refine read_ok n0 n2 fun H6 t us s6 et pg => ?_
    refine ⟨by show 0 ≤ sizeLine; decide, fun z0 hz0 => ⟨_, rfl, by show 2 ≤ sizeLine; decide, fun z1 hz1 => ⟨by show 3 ≤ sizeLine; decide, fun z2 hz2 => ⟨by show 1 ≤ sizeLine; decide, fun z3 hz3 => ?_⟩⟩⟩⟩
    have w0 := same_new hz0 (.tup [])
    have w1 := same_new hz1 (.tup [.str "num", .int n])
    have w2 := same_new hz2 (.tup [.ref z0, .int 0, .ref z1])
    have w3 := same_new hz3 (.tup [.ref z2])
    have w23 := w2.trans w3
    have w13 := w1.trans w23
    have w03 := w0.trans w13
    have gd := fnNum_good n0 n2
    have D1 : DIn (upd (upd (upd (upd H6 z0 (.tup [])) z1 (.tup [.str "num", .int n])) z2 (.tup [.ref z0, .int 0, .ref z1])) z3 (.tup [.ref z2])) (.ref t) (.seq false [.seq false [.seq false [], .int 0, .seq false [.str "num", .int n]]]) :=
      .tup (w03 _ _ et) (by rw [pg.len]; show 1 ≤ 1000; decide) ((pg.mono (IK.of w03)).dins gd.fnT)
    have D2 : DIn (upd (upd (upd (upd H6 z0 (.tup [])) z1 (.tup [.str "num", .int n])) z2 (.tup [.ref z0, .int 0, .ref z1])) z3 (.tup [.ref z2])) (.ref z3) (.seq false [.seq false [.seq false [], .int 0, .seq false [.str "num", .int n]]]) :=
      .tup upd_same (by show 1 ≤ 1000; decide) (.cons (.tup (w3 _ _ upd_same) (by show 3 ≤ 1000; decide) (.cons (.tup (w13 _ _ upd_same) (by show 0 ≤ 1000; decide) .nil) (.cons .int (.cons (.tup (w23 _ _ upd_same) (by show 2 ≤ 1000; decide) (.cons .str (.cons .int .nil))) .nil)))) .nil)
    have hs : (Da.seq false [.seq false [.seq false [], .int 0, .seq false [.str "num", .int n]]]).sok := ⟨⟨trivial, trivial, ⟨by show PyData.strOk _ = true; decide +kernel, trivial, trivial⟩, trivial⟩, trivial⟩
    have hsh := Da.shp hs (by simp only [Da.hgt, dhgts]; omega)
    refine ⟨_, _, D1.dp, D2.dp, hsh, hsh, ?_⟩
    rw [PySem.SeqAt.eqv_refl _ (Da.can _ hs)]
    refine ⟨_, rfl, ite2 (fun z => nomatch z) (fun _ => ?_)⟩
    have w := s6.trans w03
    have d6 := (draw_ik d4 eN).same w
    have tb6 := tabs_same tb5 w
    generalize upd (upd (upd (upd H6 z0 (.tup [])) z1 (.tup [.str "num", .int n])) z2 (.tup [.ref z0, .int 0, .ref z1])) z3 (.tup [.ref z2]) = G0 at w d6 tb6 ⊢
    clear D1 D2 hs hsh w w03 w13 w23 w3 w2 w1 w0 hz3 hz2 hz1 hz0
    refine ⟨by show 2 ≤ sizeLine; decide, fun T hT => ?_⟩
    have eT0 : upd G0 T (.tup [.str "0", .str "00"]) T = some (.tup [.str "0", .str "00"]) := upd_same
    have d60 := d6.same (same_new hT (.tup [.str "0", .str "00"]))
    have tb60 := tabs_same tb6 (same_new hT (.tup [.str "0", .str "00"]))
    generalize upd G0 T (.tup [.str "0", .str "00"]) = G1 at eT0 d60 tb60 ⊢
    refine ⟨T, rfl, ⟨_, SqT.of eT0⟩, for_tup (K := K) (a := T) (xs := [.str "0", .str "00"]) (fun i' σ H' => ∃ x2 x4 x5, σ = [some (.ref a), some (.ref rw_), x2, some (.int n), x4, x5] ∧ Draw K r H' ∧ Tabs Ts H' ∧ H' T = some (.tup [.str "0", .str "00"])) ⟨_, _, _, rfl, d60, tb60, eT0⟩ ?_ ?_ ?_⟩
    · rintro i' σ H' _ ⟨x2, x4, x5, rfl, _, _, e⟩
      exact SqT.of e
    · rintro i' x σ H7 hx ⟨x2', x4', x5', rfl, d7, tb7, eT⟩
      obtain ⟨z, rfl, hz⟩ : ∃ z : Str, x = .str z ∧ (z = "0" ∨ z = "00") := by
        match i', hx with
        | 0, hx => cases hx; exact ⟨_, rfl, .inl rfl⟩
        | 1, hx => cases hx; exact ⟨_, rfl, .inr rfl⟩
      obtain ⟨nn, hn, hb⟩ := non_of hz n0 n2
      obtain ⟨_, _, _, hyl⟩ := id nn
      refine ⟨_, rfl, _, rfl, n, rfl, hlog, _, _, rfl, rfl, ?_, ?_⟩
      · show z.length + (iT n).length ≤ sizeLine
        have hzl : z.length ≤ 2 := by rcases hz with rfl | rfl <;> decide +kernel
        omega
      show gName 5 (V.str (z ++ iT n)) _ _ _
      obtain ⟨y, hy⟩ : ∃ y : Str, y = z ++ iT n := ⟨_, rfl⟩
      rw [← hy] at nn hn hb hyl ⊢
      have l3 : ("0 0 ( num 1 )\n0 1 " : Str).length = 18 := by decide +kernel
      have l4 : (" 0 ( num 1 )" : Str).length = 12 := by decide +kernel
      refine ⟨tb7, fun H8a eNa tb8a => ?_⟩
      refine ⟨_, rfl, _, _, rfl, rfl, ?_, _, _, rfl, rfl, ?_, ?_⟩
      · show ("0 0 ( num " : Str).length + y.length ≤ sizeLine
        omega
      · show (("0 0 ( num " : Str) ++ y).length + (" )" : Str).length ≤ sizeLine
        rw [len_tl', TL.tl_append, List.length_append, ← len_tl', ← len_tl']
        omega
      dsimp only [tNil, List.cons_append, List.nil_append]
      refine read_noA nn hn hb ?_
      intro H9a d9a s9a hd9a e9a
      refine .inr ⟨rfl, d9a, _, _, rfl, e9a, fun t1 ht1 => ?_⟩
      refine ⟨by show 3 ≤ sizeLine; decide, fun t2 ht2 => ?_⟩
      have u1a := same_new ht1 (.tup [.str "text", .int 0, .int 4])
      have u2a := same_new ht2 (.tup [.str "text", .int 0, .int 4])
      have D1a : DIn (upd (upd H9a t1 (.tup [.str "text", .int 0, .int 4])) t2 (.tup [.str "text", .int 0, .int 4])) (.ref t1) (.seq false [.str "text", .int 0, .int 4]) := .tup (u2a _ _ upd_same) (by show 3 ≤ 1000; decide) (.cons .str (.cons .int (.cons .int .nil)))
      have D2a : DIn (upd (upd H9a t1 (.tup [.str "text", .int 0, .int 4])) t2 (.tup [.str "text", .int 0, .int 4])) (.ref t2) (.seq false [.str "text", .int 0, .int 4]) := .tup upd_same (by show 3 ≤ 1000; decide) (.cons .str (.cons .int (.cons .int .nil)))
      have hsa : (Da.seq false [.str "text", .int 0, .int 4]).sok := ⟨by show PyData.strOk _ = true; decide +kernel, trivial, trivial, trivial⟩
      have hsha := Da.shp hsa (by decide)
      refine ⟨_, _, D1a.dp, D2a.dp, hsha, hsha, ?_⟩
      rw [PySem.SeqAt.eqv_refl _ (Da.can _ hsa)]
      refine ⟨_, rfl, ite2 (fun z => nomatch z) (fun _ => ?_)⟩
      have va := s9a.trans (u1a.trans u2a)
      have d8a := (draw_ik d7 eNa).same va
      have tb9a := tabs_same tb8a va
      have eTa := va _ _ (extN_tk eNa _ _ eT)
      refine ⟨tb9a, fun H8b eNb tb8b => ?_⟩
      refine ⟨_, rfl, _, _, rfl, rfl, ?_, _, _, rfl, rfl, ?_, ?_⟩
      · show ("0 0 ( num 1 )\n0 1 " : Str).length + y.length ≤ sizeLine
        omega
      · show (("0 0 ( num 1 )\n0 1 " : Str) ++ y).length + (" 0 ( num 1 )" : Str).length ≤ sizeLine
        rw [len_tl', TL.tl_append, List.length_append, ← len_tl', ← len_tl']
        omega
      dsimp only [tNil, List.cons_append, List.nil_append]
      refine read_noB nn hn hb ?_
      intro H9b d9b s9b hd9b e9b
      refine .inr ⟨rfl, d9b, _, _, rfl, e9b, fun t1 ht1 => ?_⟩
      refine ⟨by show 3 ≤ sizeLine; decide, fun t2 ht2 => ?_⟩
      have u1b := same_new ht1 (.tup [.str "text", .int 1, .int 2])
      have u2b := same_new ht2 (.tup [.str "text", .int 1, .int 2])
      have D1b : DIn (upd (upd H9b t1 (.tup [.str "text", .int 1, .int 2])) t2 (.tup [.str "text", .int 1, .int 2])) (.ref t1) (.seq false [.str "text", .int 1, .int 2]) := .tup (u2b _ _ upd_same) (by show 3 ≤ 1000; decide) (.cons .str (.cons .int (.cons .int .nil)))
      have D2b : DIn (upd (upd H9b t1 (.tup [.str "text", .int 1, .int 2])) t2 (.tup [.str "text", .int 1, .int 2])) (.ref t2) (.seq false [.str "text", .int 1, .int 2]) := .tup upd_same (by show 3 ≤ 1000; decide) (.cons .str (.cons .int (.cons .int .nil)))
      have hsb : (Da.seq false [.str "text", .int 1, .int 2]).sok := ⟨by show PyData.strOk _ = true; decide +kernel, trivial, trivial, trivial⟩
      have hshb := Da.shp hsb (by decide)
      refine ⟨_, _, D1b.dp, D2b.dp, hshb, hshb, ?_⟩
      rw [PySem.SeqAt.eqv_refl _ (Da.can _ hsb)]
      refine ⟨_, rfl, ite2 (fun z => nomatch z) (fun _ => ?_)⟩
      have vb := s9b.trans (u1b.trans u2b)
      have d8b := (draw_ik d8a eNb).same vb
      have tb9b := tabs_same tb8b vb
      have eTb := vb _ _ (extN_tk eNb _ _ eTa)
      exact ⟨_, _, _, rfl, d8b, tb9b, eTb⟩
    · rintro σ H7 ⟨x2', x4', x5', rfl, d7, tb7, eT⟩
      exact ⟨_, _, _, _, rfl, d7, tb7⟩
  · rintro σ H1 _
    exact q _
end
end NR
set_option maxHeartbeats 4000000
namespace NR
open PySem PySem.Spec PyProof.Rows L2

section
variable {X : Cx} (K : PySem.W.Frag)
/-- t + u, both of any length, the new one known to the object -/
def rCatF (K : PySem.W.Frag) : V → V → Hp → VK → Prop := fun x y H Q => ∃ (a b : Addr) (xs ys : List V), x = .ref a ∧ y = .ref b ∧ SqT K H a xs ∧ SqT K H b ys ∧ ys ≠ [] ∧ xs.length + ys.length ≤ sizeLine ∧
  (xs = [] → Q (.ref b) H) ∧ (xs ≠ [] → ∀ (p : Addr) (o : Obj), H p = none → o.dict = none → Q (.ref p) (upd H p (.frz o (.tup (xs ++ ys)))))
theorem vals_nil {xs : List V} {its : List Value} (r : Vals xs its) : its = [] ↔ xs = [] := by
  cases r with
  | nil => simp
  | cons _ _ => simp
theorem op_catF (h : X.K = K := by rfl) : OpR X (binaryOp .Add) (rCatF K) := by
  subst h
  intro pins s σ H x y v u Q I rx ry h
  obtain ⟨a, b, xs, ys, rfl, rfl, ha, hb, hy, hz, q1, q2⟩ := h
  cases rx
  cases ry
  obtain ⟨its, r1, p1, _⟩ := I.tuple ha
  obtain ⟨its2, r2, p2, _⟩ := I.tuple hb
  by_cases hx : xs = []
  · subst hx
    cases r1
    exact cat_tup0 p1 p2 ⟨.ref b, H, I, rfl, q1 rfl⟩
  · refine HT.cat_tup p1 p2 (fun z => hx ((vals_nil r1).mp z)) (fun z => absurd ((vals_nil r2).mp z) hy) (fun z => ?_) (by rw [← r1.length, ← r2.length]; exact hz)
    refine ⟨.ref s.heap.objs.size, _, I.laid (t' := s.toks) (o := .frz { cls := .type "tuple", data := .seq (its ++ its2).toArray } (.tup (xs ++ ys))) (fun b ob q => Heap.get?_push_of_some _ q) (Nat.le_refl _) ?_, rfl, q2 hx _ _ (I.hok.fresh (Nat.le_refl _)) rfl⟩
    exact ⟨Heap.get?_push_size _ rfl, by rw [List.length_append]; exact hz, _, r1.append r2, IsTup.new _ _⟩
end
end NR
set_option maxHeartbeats 4000000
namespace NR
open PySem PySem.Spec PyProof.Rows L2

section
theorem mul_one (l : Addr) (items : Array Value) (n : Nat) (dd : Option Addr) (sl : Array (Option Value)) (u : Tok) :
    Meets (Builtin.«tuple.__mul__» ⟨[.ref l, .int 1 u], []⟩) (fun _ R s => s.heap.get? l = some { cls := .type "tuple", dict := dd, data := .seq items n, slots := sl } ∧ R (.ok (.ret (Value.ref l))) s) :=
  .of_wp fun prog w A R s h => by
    obtain ⟨hp, g, d, tk, os⟩ := s
    obtain ⟨hl, h⟩ := h
    have f1 := AutoSeq1.idx_int
    have c0 : (decide ((1 : Int) < -(2 ^ 63)) || decide ((1 : Int) ≥ 2 ^ 63)) = false := by decide
    have c1 : (items.isEmpty || (1 : Int) == 1) = true := by rw [show ((1 : Int) == 1) = true from rfl, Bool.or_true]
    wp_walk using wpAny_loadPart' hl
    repeat (first
      | (refine wpAny_ite_false (decide_eq_false (by rw [c0]; exact Bool.false_ne_true)) ?_; wp_walk using wpAny_loadPart' hl)
      | (refine wpAny_ite_true (decide_eq_true c1) ?_; wp_walk using wpAny_loadPart' hl))
    exact ⟨_, rfl, h⟩
theorem mul_none (l : Addr) (items : Array Value) (n : Nat) (dd : Option Addr) (sl : Array (Option Value)) (u : Tok) (hi : items.isEmpty = false) :
    Meets (Builtin.«tuple.__mul__» ⟨[.ref l, .int 0 u], []⟩) (fun _ R s => s.heap.get? l = some { cls := .type "tuple", dict := dd, data := .seq items n, slots := sl } ∧ R (.ok (.ret (Value.ref s.heap.objs.size))) { s with heap := s.heap.push { cls := Value.type "tuple", data := Data.seq #[] }, toks := s.toks }) :=
  .of_wp fun prog w A R s h => by
    obtain ⟨hp, g, d, tk, os⟩ := s
    obtain ⟨hl, h⟩ := h
    have f1 := AutoSeq1.idx_int
    have c0 : (decide ((0 : Int) < -(2 ^ 63)) || decide ((0 : Int) ≥ 2 ^ 63)) = false := by decide
    have c1 : (items.isEmpty || (0 : Int) == 1) = false := by rw [hi]; rfl
    have c2 : (decide ((0 : Int) ≤ 0) || items.isEmpty) = true := by rw [hi]; rfl
    wp_walk using wpAny_loadPart' hl
    repeat (first
      | (refine wpAny_ite_false (decide_eq_false (by rw [c0]; exact Bool.false_ne_true)) ?_; wp_walk using wpAny_loadPart' hl)
      | (refine wpAny_ite_false (decide_eq_false (by rw [c1]; exact Bool.false_ne_true)) ?_; wp_walk using wpAny_loadPart' hl)
      | (refine wpAny_ite_true (decide_eq_true c2) ?_; wp_walk using wpAny_loadPart' hl)
      | (refine wpAny_ite_false (decide_eq_false (Nat.not_lt.mpr (Nat.zero_le _))) ?_; wp_walk using wpAny_loadPart' hl))
    exact ⟨_, rfl, h⟩
end
section
variable {X : Cx} (K : PySem.W.Frag)
/-- t * k, t of one thing or more -/
def rRepB (K : PySem.W.Frag) : V → V → Hp → VK → Prop := fun x y H Q => ∃ (l : Addr) (k : Nat) (xs : List V), x = .ref l ∧ y = .int (k : Int) ∧ SqT K H l xs ∧ xs ≠ [] ∧ k ≤ 1000 ∧ xs.length ≤ 1000 ∧
  (k = 1 → Q (.ref l) H) ∧ (k ≠ 1 → ∀ p, H p = none → Q (.ref p) (upd H p (.tup (List.replicate k xs).flatten)))
theorem op_repB (h : X.K = K := by rfl) : OpR X (binaryOp .Mult) (rRepB K) := by
  subst h
  intro pins s σ H x y v u Q I rx ry h
  obtain ⟨l, k, xs, rfl, rfl, hT, hne, h2, hz, q1, q⟩ := h
  by_cases hk : 2 ≤ k
  · exact op_repT pins s σ H _ _ v u Q I rx ry ⟨l, (k : Int), xs, rfl, rfl, hT, hne, by omega, by omega, hz, q (by omega)⟩
  cases rx
  obtain ⟨t, rfl⟩ := ry
  obtain ⟨its, r, ⟨⟨cls, dd, data, sl⟩, ho, hc, n, hd⟩, hs⟩ := I.tuple hT
  simp only at hc hd
  subst hc hd
  have hle : its.length = xs.length := r.length.symm
  have hi : its.toArray.isEmpty = false := by
    cases its with
    | nil => exact absurd (List.eq_nil_of_length_eq_zero hle.symm) hne
    | cons a b => rfl
  have two : k = 0 ∨ k = 1 := by omega
  rcases two with rfl | rfl
  · refine wpAny_binaryOp_repeat_ref (T := "tuple") (U := "int") (by decide) ⟨_, ho, rfl⟩ (fun s' => typeIs_int s' _ t) noFill_tuple_mul F.fills_int_mul F.slot_int_rmul repeat_tuple F.slot_int_index.lookup
      (call_meets F.slot_int_rmul (typeIs_int s _ t) F.entry_int_rmul (F.args_int_rmul_2 _ _) (int_rmul_tuple _ t l its.toArray n dd sl)
        ⟨ho, rfl, ⟨_, ho, rfl⟩, call_meets F.slot_tuple_mul ⟨_, ho, rfl⟩ F.entry_tuple_mul (F.args_tuple_mul_2 _ _) (mul_none l its.toArray n dd sl t hi) ⟨ho, ?_⟩⟩)
    refine ⟨.ref s.heap.objs.size, _, I.laid (t' := s.toks) (o := .tup []) (fun b ob q => Heap.get?_push_of_some _ q) (Nat.le_refl _) ?_, rfl, q (by decide) _ (I.hok.fresh (Nat.le_refl _))⟩
    exact ⟨Nat.zero_le _, [], .nil, IsTup.new _ _⟩
  · exact wpAny_binaryOp_repeat_ref (T := "tuple") (U := "int") (by decide) ⟨_, ho, rfl⟩ (fun s' => typeIs_int s' _ t) noFill_tuple_mul F.fills_int_mul F.slot_int_rmul repeat_tuple F.slot_int_index.lookup
      (call_meets F.slot_int_rmul (typeIs_int s _ t) F.entry_int_rmul (F.args_int_rmul_2 _ _) (int_rmul_tuple _ t l its.toArray n dd sl)
        ⟨ho, rfl, ⟨_, ho, rfl⟩, call_meets F.slot_tuple_mul ⟨_, ho, rfl⟩ F.entry_tuple_mul (F.args_tuple_mul_2 _ _) (mul_one l its.toArray n dd sl t) ⟨ho, ⟨.ref l, H, I, rfl, q1 rfl⟩⟩⟩)
end
end NR
set_option maxHeartbeats 4000000
namespace NR
open PySem PySem.Spec PyProof.Rows L2

open LamX
theorem op_catA2 {X : Cx} (K : PySem.W.Frag) (h : X.K = K := by rfl) : OpR X (binaryOp .Add) (rCatA K) := h ▸ op_catA
abbrev sLawCalls : Stmt := top 56
theorem scsLawCalls : FnScope ["_law_state", "_law_number", "_law_due", "_law_size", "_law_params", "_law_told", "_law_first", "_law_last", "_law_many", "_law_one", "_law_short", "_law_some", "_law_k", "_law_name", "_law_depth"] ["_law_state"] (defScope sLawCalls) := ⟨rfl, rfl, rfl, by decide +kernel, rfl, by decide +kernel, by decide +kernel⟩
abbrev clAt (i : Nat) : Stmt := (defBody sLawCalls).getD i (.Pass default)
abbrev clB : List Stmt := match clAt 2 with
  | .For _ _ b _ _ => b
  | _ => []
abbrev clBAt (i : Nat) : Stmt := clB.getD i (.Pass default)
abbrev XC (P : Program) (w : World) (K : PySem.W.Frag) (mg : Str → Option Value) (base : Heap) (f c : Addr) (A : Around) (outer : List Env) (s : Shared) (H0 : Hp) (E : XK) : Cx := cxOf (CX P w) P w K mg base ["_law_state", "_law_number", "_law_due", "_law_size", "_law_params", "_law_told", "_law_first", "_law_last", "_law_many", "_law_one", "_law_short", "_law_some", "_law_k", "_law_name", "_law_depth"] "_law_calls" (defScope sLawCalls) f (.ref c) A outer s H0 E
/-- a statement from one relation to another, whatever the index -/
def OkI {ι : Type} (X : Cx) (st : Stmt) (R R' : ι → L2.St → Hp → Prop) : Prop := ∃ t, PS X st t ∧ ∀ (i : ι) (D : Ends) (σ : L2.St) (H : Hp), R i σ H → (∀ σ' H', R' i σ' H' → D.nx σ' H') → t D σ H
/-- what a turn of the loop is about: the drawing, how many short ones, where the short one stands, the turn's number -/
structure CI where
  r : RD
  m : Nat
  sh : Addr
  q : Nat
def CI.c (i : CI) : Nat := i.q + i.m * (if i.q < 6 then 1 else 0)
structure ShortIn (H : Hp) (sh : Addr) : Prop where
  ex : ∃ (p0 u : Addr) (o : Obj), H sh = some (.tup [.ref p0, .int 0, .ref u]) ∧ H p0 = some (.frz o (.tup [])) ∧ o.dict = none ∧ H u = some (.tup [.str "num", .int 7])
structure LastIn (H : Hp) (la : Addr) (c : Nat) : Prop where
  ex : ∃ (p0 u e : Addr) (o : Obj), H la = some (.tup [.ref p0, .int 0, .ref u]) ∧ H p0 = some (.frz o (.tup [])) ∧ o.dict = none ∧ H u = some (.tup [.str "call", .int (c : Int), .ref e]) ∧ H e = some (.tup [])
theorem ShortIn.ik {H H' : Hp} {sh : Addr} (h : ShortIn H sh) (k : IK H H') : ShortIn H' sh := by
  obtain ⟨p0, u, o, e1, e2, e3, e4⟩ := h.ex
  exact ⟨p0, u, o, k.t _ _ e1, k.f _ _ _ e2, e3, k.t _ _ e4⟩
theorem LastIn.ik {H H' : Hp} {la : Addr} {c : Nat} (h : LastIn H la c) (k : IK H H') : LastIn H' la c := by
  obtain ⟨p0, u, e, o, e1, e2, e3, e4, e5⟩ := h.ex
  exact ⟨p0, u, e, o, k.t _ _ e1, k.f _ _ _ e2, e3, k.t _ _ e4, k.t _ _ e5⟩
structure CB (K : PySem.W.Frag) (Ts : List (Addr × Str)) (i : CI) (H : Hp) : Prop where
  d : Draw K i.r H
  tb : Tabs Ts H
  sh : ShortIn H i.sh
  m1 : 1 ≤ i.m
  m4 : i.m ≤ 4
  q3 : 3 ≤ i.q
  q8 : i.q ≤ 8
theorem CB.same {K : PySem.W.Frag} {Ts : List (Addr × Str)} {i : CI} {H H' : Hp} (b : CB K Ts i H) (s : Same H H') : CB K Ts i H' := ⟨b.d.same s, tabs_same b.tb s, b.sh.ik (IK.of s), b.m1, b.m4, b.q3, b.q8⟩
def dueOf (b : Prop) [Decidable b] : Str := if b then "form" else "call"
def R0 (K : PySem.W.Frag) (Ts : List (Addr × Str)) (i : CI) (σ : L2.St) (H : Hp) : Prop := ∃ x2 x3 x4 x5 x6 x7 x9 x11 x12 x13 x14, σ = [some (.ref i.r.r), some (.int (i.q : Int)), x2, x3, x4, x5, x6, x7, some (.int (i.m : Int)), x9, some (.ref i.sh), x11, x12, x13, x14] ∧ CB K Ts i H
def R1 (K : PySem.W.Frag) (Ts : List (Addr × Str)) (i : CI) (σ : L2.St) (H : Hp) : Prop := ∃ du x3 x4 x5 x6 x7 x9 x11 x12 x13 x14, σ = [some (.ref i.r.r), some (.int (i.q : Int)), some (.ref du), x3, x4, x5, x6, x7, some (.int (i.m : Int)), x9, some (.ref i.sh), x11, x12, x13, x14] ∧ CB K Ts i H ∧ H du = some (.tup [.int (i.m : Int), .int 0, .str (dueOf (5 < i.q))])
def R2 (K : PySem.W.Frag) (Ts : List (Addr × Str)) (i : CI) (σ : L2.St) (H : Hp) : Prop := ∃ du la x3 x4 x5 x6 x9 x11 x12 x13 x14, σ = [some (.ref i.r.r), some (.int (i.q : Int)), some (.ref du), x3, x4, x5, x6, some (.ref la), some (.int (i.m : Int)), x9, some (.ref i.sh), x11, x12, x13, x14] ∧ CB K Ts i H ∧ H du = some (.tup [.int (i.m : Int), .int 0, .str (dueOf (5 < i.q))]) ∧ LastIn H la i.c
def R3 (K : PySem.W.Frag) (Ts : List (Addr × Str)) (i : CI) (σ : L2.St) (H : Hp) : Prop := ∃ du la x3 x4 x5 x6 x9 x11 x12 x13 x14, σ = [some (.ref i.r.r), some (.int (i.q : Int)), some (.ref du), x3, x4, x5, x6, some (.ref la), some (.int (i.m : Int)), x9, some (.ref i.sh), x11, x12, x13, x14] ∧ CB K Ts i H ∧ H du = some (.tup [.int (i.m : Int), .int 0, .str (dueOf (5 < i.c))]) ∧ LastIn H la i.c
section
variable {P : Program} {w : World} {K : PySem.W.Frag} {mg : Str → Option Value} {base : Heap} {f c : Addr} {A : Around} {outer : List Env} {s : Shared} {H0 : Hp} {E : XK} {Ts : List (Addr × Str)}
theorem cl_b0 : OkI (XC P w K mg base f c A outer s H0 E) (clBAt 0) (R0 K Ts) (R1 K Ts) := by
  have sc := scsLawCalls
  refine ⟨_, (ps_set (i := 2) sc.nd rfl (.inl rfl) (pe_tup (pa_cons (pv 8) (pa_cons pe_int (pa_cons (pe_ifExp (pt_cmpR op_gt (pv 1) pe_int (nomark _)) pe_str pe_str) pa_nil))))), ?_⟩
  rintro i D σ H ⟨x2, x3, x4, x5, x6, x7, x9, x11, x12, x13, x14, rfl, b⟩ q
  refine ⟨_, rfl, _, rfl, _, _, rfl, rfl, _, rfl, ite2 (fun z => ?_) (fun z => ?_)⟩
  · have z1 : (5 : Int) < (i.q : Int) := of_decide_eq_true z
    refine ⟨by show 3 ≤ sizeLine; decide, fun t ht => q _ _ ⟨t, _, _, _, _, _, _, _, _, _, _, rfl, b.same (same_new ht _), ?_⟩⟩
    rw [upd_same, dueOf, if_pos (by omega)]
  · have z1 : ¬ (5 : Int) < (i.q : Int) := fun y => z (decide_eq_true y)
    refine ⟨by show 3 ≤ sizeLine; decide, fun t ht => q _ _ ⟨t, _, _, _, _, _, _, _, _, _, _, rfl, b.same (same_new ht _), ?_⟩⟩
    rw [upd_same, dueOf, if_neg (by omega)]
theorem cl_b1 (z_int : mg "int" = none) : OkI (XC P w K mg base f c A outer s H0 E) (clBAt 1) (R1 K Ts) (R2 K Ts) := by
  have sc := scsLawCalls
  refine ⟨_, (ps_set (i := 7) sc.nd rfl (.inr rfl) (pe_tup (pa_cons (pe_tupF pa_nil) (pa_cons pe_int (pa_cons (pe_tup (pa_cons pe_str (pa_cons (pe_op op_add (pv 1) (pe_op op_mul (pv 8) (pe_callTy call_int1 rfl z_int (by decide +kernel) (pa_cons (pe_cmpR op_lt (pv 1) pe_int (nomark _)) pa_nil)))) (pa_cons (pe_tup pa_nil) pa_nil)))) pa_nil))))), ?_⟩
  rintro i D σ H ⟨du, x3, x4, x5, x6, x7, x9, x11, x12, x13, x14, rfl, b, ed⟩ q
  refine ⟨by show 0 ≤ sizeLine; decide, fun p0 o hp0 ho => ?_⟩
  refine ⟨_, rfl, _, rfl, _, rfl, _, _, rfl, rfl, .inr ⟨_, rfl, _, _, rfl, rfl, ?_, _, _, rfl, rfl, ?_⟩⟩
  · have := b.m4
    exact .inl ⟨by omega, by omega⟩
  refine ⟨by show 0 ≤ sizeLine; decide, fun e he => ⟨by show 3 ≤ sizeLine; decide, fun u hu => ⟨by show 3 ≤ sizeLine; decide, fun la hla => ?_⟩⟩⟩
  have ec : (i.q : Int) + (i.m : Int) * (if decide ((i.q : Int) < 6) = true then 1 else 0) = (i.c : Int) := by
    unfold CI.c
    by_cases z : i.q < 6
    · rw [if_pos z, if_pos (decide_eq_true (by omega))]
      omega
    · rw [if_neg z, if_neg (fun y => z (by have := of_decide_eq_true y; omega))]
      omega
  have s0 := same_new hp0 (.frz o (.tup []))
  have s1 := same_new he (.tup [])
  have s2 := same_new hu (.tup [.str "call", .int ((i.q : Int) + (i.m : Int) * (if decide ((i.q : Int) < 6) = true then 1 else 0)), .ref e])
  have s3 := same_new hla (.tup [.ref p0, .int 0, .ref u])
  have s23 := s2.trans s3
  have s13 := s1.trans s23
  refine q _ _ ⟨du, la, _, _, _, _, _, _, _, _, _, rfl, b.same (s0.trans s13), (s0.trans s13) _ _ ed, ⟨p0, u, e, o, upd_same, s13 _ _ upd_same, ho, ?_, s23 _ _ upd_same⟩⟩
  rw [← ec]
  exact s3 _ _ upd_same
theorem cl_b2 : OkI (XC P w K mg base f c A outer s H0 E) (clBAt 2) (R2 K Ts) (R3 K Ts) := by
  have sc := scsLawCalls
  refine ⟨_, (ps_set (i := 2) sc.nd rfl (.inl rfl) (pe_ifExp (pt_cmpR op_gt (pe_ix (ix_tupK K) (pe_ix (ix_tupK K) (pv 7) pe_int (fun _ _ => rfl)) pe_int (fun _ _ => rfl)) pe_int (nomark _)) (pe_tup (pa_cons (pv 8) (pa_cons pe_int (pa_cons pe_str pa_nil)))) (pv 2))), ?_⟩
  rintro i D σ H ⟨du, la, x3, x4, x5, x6, x9, x11, x12, x13, x14, rfl, b, ed, li⟩ q
  obtain ⟨p0, u, e, o, e1, e2, e3, e4, e5⟩ := id li.ex
  refine ⟨_, rfl, la, _, _, _, rfl, rfl, SqT.of e1, rfl, u, _, _, _, rfl, rfl, SqT.of e4, rfl, _, _, rfl, rfl, _, rfl, ite2 (fun z => ?_) (fun z => ?_)⟩
  · have z1 : (5 : Int) < (i.c : Int) := of_decide_eq_true z
    refine ⟨_, rfl, by show 3 ≤ sizeLine; decide, fun t ht => ?_⟩
    have s1 := same_new ht (.tup [.int (i.m : Int), .int 0, .str "form"])
    refine q _ _ ⟨t, la, _, _, _, _, _, _, _, _, _, rfl, b.same s1, ?_, li.ik (IK.of s1)⟩
    rw [upd_same, dueOf, if_pos (by omega)]
  · have z1 : ¬ (5 : Int) < (i.c : Int) := fun y => z (decide_eq_true y)
    have z2 : ¬ 5 < i.q := by
      have : i.q ≤ i.c := Nat.le_add_right _ _
      omega
    refine ⟨_, rfl, q _ _ ⟨du, la, _, _, _, _, _, _, _, _, _, rfl, b, ?_, li⟩⟩
    rw [ed, dueOf, dueOf, if_neg z2, if_neg (by omega)]
end
end NR
set_option maxHeartbeats 4000000
namespace NR
open PySem PySem.Spec PyProof.Rows L2

open LamX
theorem seqT_same {K : PySem.W.Frag} {H H' : Hp} {a : Addr} {xs : List V} (s : Same H H') (h : SqT K H a xs) : SqT K H' a xs := by
  rcases h with (h | ⟨o, h⟩) | h
  · exact .inl (.inl (s _ _ h))
  · exact .inl (.inr ⟨o, s _ _ h⟩)
  · exact .inr h
theorem rep_one {K : PySem.W.Frag} {H : Hp} {l : Addr} {x : V} {m : Nat} {Q : VK} (h : SqT K H l [x]) (hm : m ≤ 1000) (q : ∀ (p : Addr) (H' : Hp), Same H H' → SqT K H' p (List.replicate m x) → Q (.ref p) H') : rRepB K (.ref l) (.int (m : Int)) H Q := by
  refine ⟨l, m, [x], rfl, rfl, h, by simp, hm, by show 1 ≤ 1000; decide, fun e => ?_, fun _ p hp => ?_⟩
  · subst e
    exact q l H (fun _ _ h => h) h
  · have e : (List.replicate m [x]).flatten = List.replicate m x := by
      induction m with
      | zero => rfl
      | succ m ih => simp [List.replicate_succ]
    rw [e]
    exact q p _ (same_new hp _) (SqT.of upd_same)
theorem pf_rep {H : Hp} {sh la : Addr} {p1 p2 u1 u2 : V} (h1 : H sh = some (.tup [p1, .int 0, u1])) (g1 : PtIn H p1 []) (h2 : H la = some (.tup [p2, .int 0, u2])) (g2 : PtIn H p2 []) : ∀ m : Nat, PfIns H (List.replicate m (.ref sh) ++ [.ref la]) (List.replicate (m + 1) (([], 0) : List (Int × Nat) × Nat))
  | 0 => .cons h2 g2 .nil
  | m + 1 => .cons h1 g1 (pf_rep h1 g1 h2 g2 m)
theorem face0 : FaceOk [] 0 := ⟨List.nodup_nil, (fun p hp => absurd hp List.not_mem_nil), by show 0 ≤ 4; decide, by show 0 ≤ 3; decide⟩
theorem rep_get {α : Type} {n i : Nat} {a b : α} (h : (List.replicate n a)[i]? = some b) : b = a ∧ i < n := by
  obtain ⟨h1, h2⟩ := List.getElem?_eq_some_iff.mp h
  rw [List.getElem_replicate] at h2
  rw [List.length_replicate] at h1
  exact ⟨h2.symm, h1⟩
/-- faces of short ones and one that calls what isn't there -/
theorem fcs_call {CB : Addr} {H : Hp} {Q : VK} {E : XK} {tp sh la : Addr} {m c : Nat} (ht : ∃ us, H tp = some (.tup us) ∧ us = List.replicate m (.ref sh) ++ [.ref la]) (s : ShortIn H sh) (l : LastIn H la c) (m1 : 1 ≤ m) (m4 : m ≤ 4) (hc : m < c) (rf : Ref CB (fsBp (.int (m : Int)) (.int 0) (.str (dueOf (5 < c)))) H E) : spFcsX CB [.ref tp] H Q E := by
  obtain ⟨us, e0, rfl⟩ := ht
  obtain ⟨p0, u, o, a1, a2, a3, a4⟩ := s.ex
  obtain ⟨p0', u', e', o', b1, b2, b3, b4, b5⟩ := l.ex
  have pf := pf_rep a1 ⟨p0, o, [], rfl, a2, a3, .nil⟩ b1 ⟨p0', o', [], rfl, b2, b3, .nil⟩ m
  have hl : (List.replicate (m + 1) (([], 0) : List (Int × Nat) × Nat)).length = m + 1 := List.length_replicate
  refine ⟨tp, _, _, rfl, e0, pf, by rw [hl]; omega, by rw [hl]; omega, .inr ⟨fun i f hf => ?_, m, by rw [hl]; omega, fun i f bz hi hf hb => ?_, fun h => absurd h (by rw [hl]; omega), fun _ => ⟨dueOf (5 < c), fun f bz hf hb => ?_, rf⟩⟩⟩
  · rw [(rep_get hf).1]
    exact face0
  · rw [(rep_get hf).1] at hb ⊢
    obtain ⟨fa, pz, h1, h2⟩ := hb
    rw [List.getElem?_append_left (by rw [List.length_replicate]; exact hi)] at h1
    have h3 := (rep_get h1).1
    injection h3 with h3
    subst h3
    rw [a1] at h2
    cases h2
    obtain ⟨nd, an, nd2⟩ := (Ty.num (fs := (fcs (List.replicate (m + 1) (([], 0) : List (Int × Nat) × Nat))).take (i + 1)) (ρ := envOf []) (n := 7) (by decide) (by decide)).an 0
    exact ⟨.node .num 7 [], nd, .leaf rfl a4, an, nd2, by show 1 ≤ 60; decide, by show 1 ≤ 13; decide, by show 0 ≤ 1; decide⟩
  · rw [(rep_get hf).1] at hb ⊢
    obtain ⟨fa, pz, h1, h2⟩ := hb
    rw [List.getElem?_append_right (by rw [List.length_replicate]; exact Nat.le_refl _), List.length_replicate, Nat.sub_self] at h1
    cases h1
    rw [b1] at h2
    cases h2
    by_cases z : 5 < c
    · rw [dueOf, if_pos z]
      exact .form (.num (x := .call) b4 rfl rfl fun y => by
        have y2 : (c : Int) ≤ 5 := y.2
        omega)
    · rw [dueOf, if_neg z]
      exact .call b4 b5 .nil (by omega) (.inl hc)
section
variable {P : Program} {w : World} {K : PySem.W.Frag} {mg : Str → Option Value} {base : Heap} {f c : Addr} {A : Around} {outer : List Env} {s : Shared} {H0 : Hp} {E : XK} {Ts : List (Addr × Str)}
theorem cl_b3 {k : Nat} {CN CBp CT Pt : Addr} (hr : Room (k + 2) (XC P w K mg base f c A outer s H0 E).A) (KO : KindO K mg CN CBp CT) (TB : TabB base mg c Pt) (hmT : (Pt, lamQ "_law_calls") ∈ Ts) (hu : ∀ p ∈ Ts, p.1 = Pt → p.2 = lamQ "_law_calls") (O_faces : Okf P w K mg base (CX P w) k "faces" ["program"] (spFcsX CBp)) : OkI (XC P w K mg base f c A outer s H0 E) (clBAt 3) (R3 K Ts) (R0 K Ts) := by
  have sc := scsLawCalls
  refine ⟨_, (ps_if (pt_cmpR (op_neDK K hr.units) (pe_kind "_law_calls" (k := k) KO rfl TB rfl rfl hmT hu hr (lamS_by (sc := defScope sLawCalls) (by decide +kernel)) rfl (fun _ _ _ _ _ => rfl) (fun A' outer' s' H' E' f' c'' hr' => (pe_c O_faces hr' rfl (passes_call (takes_of rfl rfl rfl rfl) (fun _ _ _ _ h => h)) (pa_cons (pe_op (op_catTK K) (pe_op (op_repB K) (pe_tup (pa_cons (pv 10) pa_nil)) (pv 8)) (pe_tup (pa_cons (pv 7) pa_nil))) pa_nil)))) (pv 2) (nomark _)) (pss_one (ps_ret pe_bl)) pss_nil), ?_⟩
  rintro i D σ H ⟨du, la, x3, x4, x5, x6, x9, x11, x12, x13, x14, rfl, b, ed, li⟩ q
  have m1 := b.m1
  have m4 := b.m4
  have q3 := b.q3
  have hc : i.m < i.c := by
    unfold CI.c
    split <;> omega
  refine ⟨b.tb, fun H1 eN tb1 => ?_⟩
  refine ⟨_, rfl, by show 1 ≤ sizeLine; decide, fun w1 hw1 => ?_⟩
  refine ⟨_, rfl, rep_one (SqT.of upd_same) (by omega) fun p2 H2 s2 sq2 => ?_⟩
  refine ⟨_, rfl, by show 1 ≤ sizeLine; decide, fun w3 hw3 => ?_⟩
  have s3 := same_new hw3 (.tup [.ref la])
  have sq3 : SqT K (upd H2 w3 (.tup [.ref la])) p2 (List.replicate i.m (.ref i.sh)) := seqT_same s3 sq2
  refine ⟨p2, w3, _, _, rfl, rfl, sq3, SqT.of upd_same, ?_, ?_, (fun z => nomatch z), (fun _ tp htp => ?_)⟩
  · intro z
    have := congrArg List.length z
    rw [List.length_replicate] at this
    simp at this
    omega
  · rw [List.length_replicate]
    show i.m + 1 ≤ sizeLine
    have big : 1000 ≤ sizeLine := by decide
    omega
  have s1 := same_new hw1 (.tup [.ref i.sh])
  have s4 := same_new htp (.tup (List.replicate i.m (.ref i.sh) ++ [.ref la]))
  have s14 := s1.trans (s2.trans (s3.trans s4))
  have ik := (extN_ik eN).trans (IK.of s14)
  dsimp only [tNil, List.cons_append, List.nil_append]
  refine fcs_call ⟨_, upd_same, rfl⟩ (b.sh.ik ik) (li.ik ik) m1 m4 hc ?_
  intro H7 d7 s7 hd7 e7
  refine .inl ⟨rfl, d7, _, _, _, rfl, e7, fun t ht => ?_⟩
  have s8 := same_new ht (.tup [.int (i.m : Int), .int 0, .str (dueOf (5 < i.c))])
  have s18 := s14.trans (s7.trans s8)
  have ik8 := (extN_ik eN).trans (IK.of s18)
  have hs : (Da.seq false [.int (i.m : Int), .int 0, .str (dueOf (5 < i.c))]).sok := ⟨trivial, trivial, by show PyData.strOk _ = true; unfold dueOf; split <;> decide +kernel, trivial⟩
  have hsh := Da.shp hs (by simp only [Da.hgt, dhgts]; omega)
  have D1 := DIn.tup (ds := [.int (i.m : Int), .int 0, .str (dueOf (5 < i.c))]) (show (upd H7 t (.tup [.int (i.m : Int), .int 0, .str (dueOf (5 < i.c))])) t = _ from upd_same) (by show 3 ≤ 1000; decide) (.cons .int (.cons .int (.cons .str .nil)))
  have D2 := DIn.tup (ds := [.int (i.m : Int), .int 0, .str (dueOf (5 < i.c))]) (ik8.t _ _ ed) (by show 3 ≤ 1000; decide) (.cons .int (.cons .int (.cons .str .nil)))
  refine ⟨_, rfl, _, _, D1.dp, D2.dp, hsh, hsh, ?_⟩
  rw [PySem.SeqAt.eqv_refl _ (Da.can _ hs)]
  refine ⟨_, rfl, ite2 (fun z => nomatch z) (fun _ => ?_)⟩
  exact q _ _ ⟨_, _, _, _, _, _, _, _, _, _, _, rfl, (draw_ik b.d eN).same s18, tabs_same tb1 s18, b.sh.ik ik8, b.m1, b.m4, b.q3, b.q8⟩
end
end NR
set_option maxHeartbeats 4000000
namespace NR
open PySem PySem.Spec PyProof.Rows L2

open LamX
def OkIs {ι : Type} (X : Cx) (sts : List Stmt) (R R' : ι → L2.St → Hp → Prop) : Prop := ∃ t, PSs X sts t ∧ ∀ (i : ι) (D : Ends) (σ : L2.St) (H : Hp), R i σ H → (∀ σ' H', R' i σ' H' → D.nx σ' H') → t D σ H
theorem OkIs.cons {ι : Type} {X : Cx} {st : Stmt} {sts : List Stmt} {R R1 R2 : ι → L2.St → Hp → Prop} (a : OkI X st R R1) (b : OkIs X sts R1 R2) : OkIs X (st :: sts) R R2 := by
  obtain ⟨t, pt, ht⟩ := a
  obtain ⟨u, pu, hu⟩ := b
  exact ⟨_, pss_cons pt pu, fun i D σ H r q => ht i _ σ H r fun σ' H' r' => hu i D σ' H' r' q⟩
theorem OkIs.one {ι : Type} {X : Cx} {st : Stmt} {R R1 : ι → L2.St → Hp → Prop} (a : OkI X st R R1) : OkIs X [st] R R1 := by
  obtain ⟨t, pt, ht⟩ := a
  exact ⟨_, pss_one pt, fun i D σ H r q => ht i D σ H r q⟩
def Q0 (K : PySem.W.Frag) (Ts : List (Addr × Str)) (r : RD) (σ : L2.St) (H : Hp) : Prop := ∃ x1 x2 x3 x4 x5 x6 x7 x8 x9 x10 x11 x12 x13 x14, σ = [some (.ref r.r), x1, x2, x3, x4, x5, x6, x7, x8, x9, x10, x11, x12, x13, x14] ∧ Draw K r H ∧ Tabs Ts H
def Q1 (K : PySem.W.Frag) (Ts : List (Addr × Str)) (r : RD) (σ : L2.St) (H : Hp) : Prop := ∃ m x1 x2 x3 x4 x5 x6 x7 x9 x10 x11 x12 x13 x14, σ = [some (.ref r.r), x1, x2, x3, x4, x5, x6, x7, some (.int ((m : Nat) : Int)), x9, x10, x11, x12, x13, x14] ∧ Draw K r H ∧ Tabs Ts H ∧ 1 ≤ m ∧ m ≤ 4
def Q2 (K : PySem.W.Frag) (Ts : List (Addr × Str)) (r : RD) (σ : L2.St) (H : Hp) : Prop := ∃ m sh x1 x2 x3 x4 x5 x6 x7 x9 x11 x12 x13 x14, σ = [some (.ref r.r), x1, x2, x3, x4, x5, x6, x7, some (.int ((m : Nat) : Int)), x9, some (.ref sh), x11, x12, x13, x14] ∧ Draw K r H ∧ Tabs Ts H ∧ 1 ≤ m ∧ m ≤ 4 ∧ ShortIn H sh
section
variable {P : Program} {w : World} {K : PySem.W.Frag} {mg : Str → Option Value} {base : Heap} {f c : Addr} {A : Around} {outer : List Env} {s : Shared} {H0 : Hp} {E : XK} {Ts : List (Addr × Str)}
theorem cl_0 {k : Nat} (hr : Room (k + 2) (XC P w K mg base f c A outer s H0 E).A) (O_taken : Okf P w K mg base CX0 (k + 2) "_law_taken" ["_law_row", "_law_many"] (spTaken K)) : OkI (XC P w K mg base f c A outer s H0 E) (clAt 0) (Q0 K Ts) (Q1 K Ts) := by
  have sc := scsLawCalls
  refine ⟨_, (ps_set (i := 8) sc.nd rfl (.inr rfl) (pe_op op_add pe_int (pe_c O_taken hr rfl pass0 (pa_cons (pv 0) (pa_cons pe_int pa_nil))))), ?_⟩
  rintro r D σ H ⟨x1, x2, x3, x4, x5, x6, x7, x8, x9, x10, x11, x12, x13, x14, rfl, d, tb⟩ q
  refine ⟨_, rfl, r, 4, rfl, d, by decide, by decide, fun b H1 b0 b1 g1 => ⟨_, _, rfl, rfl, ?_⟩⟩
  obtain ⟨n, rfl⟩ := Int.eq_ofNat_of_zero_le b0
  have e : (1 : Int) + (n : Int) = ((1 + n : Nat) : Int) := by omega
  show gName 8 (V.int ((1 : Int) + (n : Int))) _ _ _
  rw [e]
  exact q _ _ ⟨1 + n, _, _, _, _, _, _, _, _, _, _, _, _, _, rfl, g1.d, tabs_X g1.s d tb, by omega, by omega⟩
theorem cl_1 : OkI (XC P w K mg base f c A outer s H0 E) (clAt 1) (Q1 K Ts) (Q2 K Ts) := by
  have sc := scsLawCalls
  refine ⟨_, (ps_set (i := 10) sc.nd rfl (.inr rfl) (pe_tup (pa_cons (pe_tupF pa_nil) (pa_cons pe_int (pa_cons (pe_tup (pa_cons pe_str (pa_cons pe_int pa_nil))) pa_nil))))), ?_⟩
  rintro r D σ H ⟨m, x1, x2, x3, x4, x5, x6, x7, x9, x10, x11, x12, x13, x14, rfl, d, tb, m1, m4⟩ q
  refine ⟨by show 0 ≤ sizeLine; decide, fun p0 o hp0 ho => ⟨by show 2 ≤ sizeLine; decide, fun u hu => ⟨by show 3 ≤ sizeLine; decide, fun sh hsh => ?_⟩⟩⟩
  have s0 := same_new hp0 (.frz o (.tup []))
  have s1 := same_new hu (.tup [.str "num", .int 7])
  have s2 := same_new hsh (.tup [.ref p0, .int 0, .ref u])
  have s12 := s1.trans s2
  have s02 := s0.trans s12
  exact q _ _ ⟨m, sh, _, _, _, _, _, _, _, _, _, _, _, _, rfl, d.same s02, tabs_same tb s02, m1, m4, ⟨p0, u, o, upd_same, s12 _ _ upd_same, ho, s2 _ _ upd_same⟩⟩
theorem cl_2 {k : Nat} {CN CBp CT Pt : Addr} (hr : Room (k + 2) (XC P w K mg base f c A outer s H0 E).A) (KO : KindO K mg CN CBp CT) (TB : TabB base mg c Pt) (hmT : (Pt, lamQ "_law_calls") ∈ Ts) (hu : ∀ p ∈ Ts, p.1 = Pt → p.2 = lamQ "_law_calls") (O_faces : Okf P w K mg base (CX P w) k "faces" ["program"] (spFcsX CBp)) (z_range : mg "range" = none) (z_int : mg "int" = none) : OkI (XC P w K mg base f c A outer s H0 E) (clAt 2) (Q2 K Ts) (Q0 K Ts) := by
  have sc := scsLawCalls
  obtain ⟨tb, pb, hb⟩ : OkIs (XC P w K mg base f c A outer s H0 E) clB (R0 K Ts) (R0 K Ts) := OkIs.cons cl_b0 (OkIs.cons (cl_b1 z_int) (OkIs.cons cl_b2 (OkIs.one (cl_b3 hr KO TB hmT hu O_faces))))
  refine ⟨_, (ps_for (passes_of rfl) rfl (pi_range2 rfl z_range (pa_cons pe_int (pa_cons pe_int pa_nil))) (pg_name (i := 1) sc.nd rfl (.inl rfl)) pb), ?_⟩
  rintro r D σ H ⟨m, sh, x1, x2, x3, x4, x5, x6, x7, x9, x11, x12, x13, x14, rfl, d, tbs, m1, m4, si⟩ q
  refine ⟨3, 9, rfl, by decide, for_range (lo := 3) (n := 6) (fun i σ H' => (∃ x1 x2 x3 x4 x5 x6 x7 x9 x11 x12 x13 x14, σ = [some (.ref r.r), x1, x2, x3, x4, x5, x6, x7, some (.int ((m : Nat) : Int)), x9, some (.ref sh), x11, x12, x13, x14]) ∧ Draw K r H' ∧ Tabs Ts H' ∧ ShortIn H' sh) ⟨⟨_, _, _, _, _, _, _, _, _, _, _, _, rfl⟩, d, tbs, si⟩ ?_ ?_⟩
  · rintro i σ H1 hi ⟨⟨x1, x2, x3, x4, x5, x6, x7, x9, x11, x12, x13, x14, rfl⟩, d1, tb1, s1⟩
    have e : (3 : Int) + (i : Int) = ((3 + i : Nat) : Int) := by omega
    rw [e]
    refine hb ⟨r, m, sh, 3 + i⟩ _ _ _ ⟨_, _, _, _, _, _, _, _, _, _, _, rfl, ⟨d1, tb1, s1, m1, m4, by show 3 ≤ 3 + i; omega, by show 3 + i ≤ 8; omega⟩⟩ fun σ' H' h => ?_
    obtain ⟨x2, x3, x4, x5, x6, x7, x9, x11, x12, x13, x14, rfl, b⟩ := h
    exact ⟨⟨_, _, _, _, _, _, _, _, _, _, _, _, rfl⟩, b.d, b.tb, b.sh⟩
  · rintro σ H1 ⟨⟨x1, x2, x3, x4, x5, x6, x7, x9, x11, x12, x13, x14, rfl⟩, d1, tb1, s1⟩
    exact q _ _ ⟨_, _, _, _, _, _, _, _, _, _, _, _, _, _, rfl, d1, tb1⟩
end
end NR
set_option maxHeartbeats 4000000
namespace NR
open PySem PySem.Spec PyProof.Rows L2

open LamX
def prm (z : Nat) : List (Int × Nat) := (List.range (z - 1)).map (fun k : Nat => ((k : Int), 0)) ++ [((z : Int), 1)]
def Q3 (K : PySem.W.Frag) (Ts : List (Addr × Str)) (r : RD) (σ : L2.St) (H : Hp) : Prop := ∃ z x1 x2 x4 x5 x6 x7 x8 x9 x10 x11 x12 x13 x14, σ = [some (.ref r.r), x1, x2, some (.int ((z : Nat) : Int)), x4, x5, x6, x7, x8, x9, x10, x11, x12, x13, x14] ∧ Draw K r H ∧ Tabs Ts H ∧ 1 ≤ z ∧ z ≤ 4
def Q4 (K : PySem.W.Frag) (Ts : List (Addr × Str)) (r : RD) (σ : L2.St) (H : Hp) : Prop := ∃ z pa x1 x2 x5 x6 x7 x8 x9 x10 x11 x12 x13 x14, σ = [some (.ref r.r), x1, x2, some (.int ((z : Nat) : Int)), some (.ref pa), x5, x6, x7, x8, x9, x10, x11, x12, x13, x14] ∧ Draw K r H ∧ Tabs Ts H ∧ 1 ≤ z ∧ z ≤ 4 ∧ PtIn H (.ref pa) (prm z)
section
variable {P : Program} {w : World} {K : PySem.W.Frag} {mg : Str → Option Value} {base : Heap} {f c : Addr} {A : Around} {outer : List Env} {s : Shared} {H0 : Hp} {E : XK} {Ts : List (Addr × Str)}
theorem cl_3 {k : Nat} (hr : Room (k + 2) (XC P w K mg base f c A outer s H0 E).A) (O_taken : Okf P w K mg base CX0 (k + 2) "_law_taken" ["_law_row", "_law_many"] (spTaken K)) : OkI (XC P w K mg base f c A outer s H0 E) (clAt 3) (Q0 K Ts) (Q3 K Ts) := by
  have sc := scsLawCalls
  refine ⟨_, (ps_set (i := 3) sc.nd rfl (.inl rfl) (pe_op op_add pe_int (pe_c O_taken hr rfl pass0 (pa_cons (pv 0) (pa_cons pe_int pa_nil))))), ?_⟩
  rintro r D σ H ⟨x1, x2, x3, x4, x5, x6, x7, x8, x9, x10, x11, x12, x13, x14, rfl, d, tb⟩ q
  refine ⟨_, rfl, r, 4, rfl, d, by decide, by decide, fun b H1 b0 b1 g1 => ⟨_, _, rfl, rfl, ?_⟩⟩
  obtain ⟨n, rfl⟩ := Int.eq_ofNat_of_zero_le b0
  have e : (1 : Int) + (n : Int) = ((1 + n : Nat) : Int) := by omega
  show gName 3 (V.int ((1 : Int) + (n : Int))) _ _ _
  rw [e]
  exact q _ _ ⟨1 + n, _, _, _, _, _, _, _, _, _, _, _, _, _, rfl, g1.d, tabs_X g1.s d tb, by omega, by omega⟩
theorem cl_4 (z_range : mg "range" = none) (z_tuple : mg "tuple" = none) : OkI (XC P w K mg base f c A outer s H0 E) (clAt 4) (Q3 K Ts) (Q4 K Ts) := by
  have sc := scsLawCalls
  refine ⟨_, (ps_set (i := 4) sc.nd rfl (.inl rfl) (pe_op (op_catF K) (pe_callTy (call_tupleF K) rfl z_tuple (by decide +kernel) (pa_cons (pe_lc (own := [("_law_k", 12)]) (by rfl) sc.nd (pi_range1 rfl z_range (pa_cons (pe_op op_sub (pv 3) pe_int) pa_nil)) (blkOk_by (own := [("_law_k", 12)]) (N := ["_law_state", "_law_number", "_law_due", "_law_size", "_law_params", "_law_told", "_law_first", "_law_last", "_law_many", "_law_one", "_law_short", "_law_some", "_law_k", "_law_name", "_law_depth"]) (sc := defScope sLawCalls) (by decide +kernel)) (fun _ _ _ _ _ => (pg_name (i := 12) sc.nd rfl (.inl rfl))) (fun _ _ _ _ _ => pts_nil) (fun _ _ _ _ _ => (pe_tup (pa_cons (pv 12) (pa_cons pe_int pa_nil))))) pa_nil)) (pe_tupF (pa_cons (pe_tup (pa_cons (pv 3) (pa_cons pe_int pa_nil))) pa_nil)))), ?_⟩
  rintro r D σ H ⟨z, x1, x2, x4, x5, x6, x7, x8, x9, x10, x11, x12, x13, x14, rfl, d, tb, z1, z4⟩ q
  have big : 1000 ≤ sizeLine := by decide
  refine ⟨_, rfl, _, _, rfl, rfl, _, rfl, by omega, by omega, fun D1 hD1 => ?_⟩
  have en : ((z : Int) - 1).toNat = z - 1 := by omega
  refine lc_range (lo := 0) (fun j H' => ∃ vs, Same H H' ∧ H' D1 = some (.lst vs) ∧ vs.length = j ∧ PIns H' vs ((List.range j).map fun k : Nat => ((k : Int), 0))) ⟨[], same_new hD1 _, upd_same, rfl, .nil⟩ ?_ ?_
  · rintro j H2 hj ⟨vs, s2, eD, hl, pi⟩
    refine ⟨rfl, ?_⟩
    refine ⟨_, rfl, by show 2 ≤ sizeLine; decide, fun t ht => ?_⟩
    have s3 := same_new ht (.tup [.int (0 + (j : Int)), .int 0])
    have tkL := TK.lst (ys := vs ++ [.ref t]) (s3 _ _ eD)
    refine ⟨vs, s3 _ _ eD, by omega, vs ++ [.ref t], fun b o hb => ?_, upd_same, by rw [List.length_append, hl]; rfl, ?_⟩
    · rw [upd_ne (ne_of_none hb hD1)]
      exact s3 _ _ (s2 _ _ hb)
    · rw [List.range_succ, List.map_append]
      refine PIns.snoc (tkL _ _ ?_) ((pi.mono (TK.of s3)).mono tkL)
      rw [upd_same, Int.zero_add]
      rfl
  · rintro H2 ⟨vs, s2, eD, hl, pi⟩
    rw [en] at hl pi
    refine ⟨D1, _, rfl, SqL.of eD, fun l o hlo ho => ?_⟩
    have s3 := same_new hlo (.frz o (.tup vs))
    refine ⟨_, rfl, by show 2 ≤ sizeLine; decide, fun t1 ht1 => ⟨by show 1 ≤ sizeLine; decide, fun p2 o2 hp2 ho2 => ?_⟩⟩
    have s4 := same_new ht1 (.tup [.int (z : Int), .int 1])
    have s5 := same_new hp2 (.frz o2 (.tup [.ref t1]))
    have s35 := s3.trans (s4.trans s5)
    have s25 := s2.trans s35
    refine ⟨l, p2, vs, [.ref t1], rfl, rfl, SqT.frz ((s4.trans s5) _ _ upd_same), SqT.frz upd_same, by simp, ?_, (fun e => ?_), (fun ne p o3 hp ho3 => ?_)⟩
    · show vs.length + 1 ≤ sizeLine
      omega
    · have ez : z = 1 := by
        rw [e] at hl
        simp at hl
        omega
      subst ez
      exact q _ _ ⟨1, p2, _, _, _, _, _, _, _, _, _, _, _, _, rfl, d.same s25, tabs_same tb s25, z1, z4, ⟨p2, o2, _, rfl, upd_same, ho2, .cons (s5 _ _ upd_same) .nil⟩⟩
    · have s6 := same_new hp (.frz o3 (.tup (vs ++ [.ref t1])))
      have s26 := s25.trans s6
      exact q _ _ ⟨z, p, _, _, _, _, _, _, _, _, _, _, _, _, rfl, d.same s26, tabs_same tb s26, z1, z4, ⟨p, o3, _, rfl, upd_same, ho3, PIns.snoc ((s5.trans s6) _ _ upd_same) (pi.mono (TK.of (s35.trans s6)))⟩⟩
end
end NR
set_option maxHeartbeats 4000000
namespace NR
open PySem PySem.Spec PyProof.Rows L2

open LamX
def Q5 (K : PySem.W.Frag) (Ts : List (Addr × Str)) (r : RD) (σ : L2.St) (H : Hp) : Prop := ∃ z pa on so nu x1 x2 x5 x6 x7 x8 x10 x12 x13 x14, σ = [some (.ref r.r), x1, x2, some (.int ((z : Nat) : Int)), some (.ref pa), x5, x6, x7, x8, some (.ref on), x10, some (.ref so), x12, x13, x14] ∧ Draw K r H ∧ Tabs Ts H ∧ 1 ≤ z ∧ z ≤ 4 ∧ PtIn H (.ref pa) (prm z) ∧ H on = some (.tup [.str "num", .int 3]) ∧ SqT K H so (List.replicate (z - 1) (.ref nu)) ∧ H nu = some (.tup [.str "num", .int 1])
def Q6 (K : PySem.W.Frag) (Ts : List (Addr × Str)) (r : RD) (σ : L2.St) (H : Hp) : Prop := ∃ z pa on so nu fi lu na x1 x2 x5 x7 x8 x10 x12 x13 x14, σ = [some (.ref r.r), x1, x2, some (.int ((z : Nat) : Int)), some (.ref pa), x5, some (.ref fi), x7, x8, some (.ref on), x10, some (.ref so), x12, x13, x14] ∧ Draw K r H ∧ Tabs Ts H ∧ 1 ≤ z ∧ z ≤ 4 ∧ PtIn H (.ref pa) (prm z) ∧ H on = some (.tup [.str "num", .int 3]) ∧ SqT K H so (List.replicate (z - 1) (.ref nu)) ∧ H nu = some (.tup [.str "num", .int 1]) ∧ H fi = some (.tup [.ref pa, .int 0, .ref lu]) ∧ H lu = some (.tup [.str "len", .ref na]) ∧ H na = some (.tup [.str "name", .int (z : Int)])
section
variable {P : Program} {w : World} {K : PySem.W.Frag} {mg : Str → Option Value} {base : Heap} {f c : Addr} {A : Around} {outer : List Env} {s : Shared} {H0 : Hp} {E : XK} {Ts : List (Addr × Str)}
theorem cl_5 : OkI (XC P w K mg base f c A outer s H0 E) (clAt 5) (Q4 K Ts) (Q5 K Ts) := by
  have sc := scsLawCalls
  refine ⟨_, (ps_asg (pe_tup (pa_cons (pe_tup (pa_cons pe_str (pa_cons pe_int pa_nil))) (pa_cons (pe_op (op_repB K) (pe_tup (pa_cons (pe_tup (pa_cons pe_str (pa_cons pe_int pa_nil))) pa_nil)) (pe_op op_sub (pv 3) pe_int)) pa_nil))) (pg_tupK K (n := 2) rfl (pgs_cons (pg_name (i := 9) sc.nd rfl (.inr rfl)) (pgs_cons (pg_name (i := 11) sc.nd rfl (.inr rfl)) pgs_nil)))), ?_⟩
  rintro r D σ H ⟨z, pa, x1, x2, x5, x6, x7, x8, x9, x10, x11, x12, x13, x14, rfl, d, tb, z1, z4, pt⟩ q
  refine ⟨by show 2 ≤ sizeLine; decide, fun on hon => ⟨by show 2 ≤ sizeLine; decide, fun nu hnu => ⟨by show 1 ≤ sizeLine; decide, fun w1 hw1 => ⟨_, rfl, _, _, rfl, rfl, ?_⟩⟩⟩⟩
  have e : (z : Int) - 1 = ((z - 1 : Nat) : Int) := by omega
  refine (show rRepB K (.ref w1) (.int ((z : Int) - 1)) _ _ from ?_)
  rw [e]
  refine rep_one (SqT.of upd_same) (by omega) fun so H2 s2 sq => ?_
  have a1 := same_new hon (.tup [.str "num", .int 3])
  have a2 := same_new hnu (.tup [.str "num", .int 1])
  have a3 := same_new hw1 (.tup [.ref nu])
  have a32 := a3.trans s2
  have a22 := a2.trans a32
  refine ⟨by show 2 ≤ sizeLine; decide, fun t0 ht0 => ?_⟩
  refine ⟨t0, _, rfl, SqT.of upd_same, rfl, _, _, rfl, _, _, rfl, rfl, ?_⟩
  have s4 := same_new ht0 (.tup [.ref on, .ref so])
  have b := a1.trans (a22.trans s4)
  exact q _ _ ⟨z, pa, on, so, nu, _, _, _, _, _, _, _, _, _, _, rfl, d.same b, tabs_same tb b, z1, z4, pt.mono (IK.of b), (a22.trans s4) _ _ upd_same, seqT_same s4 sq, (a32.trans s4) _ _ upd_same⟩
theorem cl_6 : OkI (XC P w K mg base f c A outer s H0 E) (clAt 6) (Q5 K Ts) (Q6 K Ts) := by
  have sc := scsLawCalls
  refine ⟨_, (ps_set (i := 6) sc.nd rfl (.inr rfl) (pe_tup (pa_cons (pv 4) (pa_cons pe_int (pa_cons (pe_tup (pa_cons pe_str (pa_cons (pe_tup (pa_cons pe_str (pa_cons (pv 3) pa_nil))) pa_nil))) pa_nil))))), ?_⟩
  rintro r D σ H ⟨z, pa, on, so, nu, x1, x2, x5, x6, x7, x8, x10, x12, x13, x14, rfl, d, tb, z1, z4, pt, eo, sq, eu⟩ q
  refine ⟨_, rfl, _, rfl, by show 2 ≤ sizeLine; decide, fun na hna => ⟨by show 2 ≤ sizeLine; decide, fun lu hlu => ⟨by show 3 ≤ sizeLine; decide, fun fi hfi => ?_⟩⟩⟩
  have a1 := same_new hna (.tup [.str "name", .int (z : Int)])
  have a2 := same_new hlu (.tup [.str "len", .ref na])
  have a3 := same_new hfi (.tup [.ref pa, .int 0, .ref lu])
  have a23 := a2.trans a3
  have b := a1.trans a23
  exact q _ _ ⟨z, pa, on, so, nu, fi, lu, na, _, _, _, _, _, _, _, _, _, rfl, d.same b, tabs_same tb b, z1, z4, pt.mono (IK.of b), b _ _ eo, seqT_same b sq, b _ _ eu, upd_same, a3 _ _ upd_same, a23 _ _ upd_same⟩
end
end NR
set_option maxHeartbeats 4000000
namespace NR
open PySem PySem.Spec PyProof.Rows L2

open LamX
theorem seqT_ik {K : PySem.W.Frag} {H H' : Hp} {a : Addr} {xs : List V} (s : IK H H') (h : SqT K H a xs) : SqT K H' a xs := by
  rcases h with (h | ⟨o, h⟩) | h
  · exact .inl (.inl (s.t _ _ h))
  · exact .inl (.inr ⟨o, s.f _ _ _ h⟩)
  · exact .inr h
theorem cat_one {K : PySem.W.Frag} {H : Hp} {a b : Addr} {xs : List V} {y : V} {Q : VK} (h1 : SqT K H a xs) (h2 : H b = some (.tup [y])) (hz : xs.length ≤ 1000) (q : ∀ (H' : Hp) (c : Addr), Same H H' → H' c = some (.tup (xs ++ [y])) → Q (.ref c) H') : rCatA K (.ref a) (.ref b) H Q := by
  refine ⟨a, b, xs, [y], rfl, rfl, h1, SqT.of h2, ?_, fun e => q H b (fun _ _ h => h) (by rw [e]; exact h2), (fun _ e => nomatch e), fun _ _ p hp => q _ p (same_new hp _) upd_same⟩
  show xs.length + 1 ≤ sizeLine
  have big : 2000 ≤ sizeLine := by decide
  omega
def argE (z : Nat) (e : Ex) : List Ex := List.replicate (z - 1) (.node .num 1 []) ++ [e]
def argD (z d : Nat) : List Nat := List.replicate (z - 1) 0 ++ [d]
theorem tins_rep {H : Hp} {v w : V} {e e' : Ex} (h : TIn H v e) (h' : TIn H w e') : ∀ n : Nat, TIns H (List.replicate n v ++ [w]) (List.replicate n e ++ [e'])
  | 0 => .cons h' .nil
  | n + 1 => .cons h (tins_rep h h' n)
theorem tys_rep {fs : List (List Nat × Nat)} {ρ : Env1} {e e' : Ex} {d d' : Nat} (h : Ty fs ρ e d) (h' : Ty fs ρ e' d') : ∀ n : Nat, Tys fs ρ (List.replicate n e ++ [e']) (List.replicate n d ++ [d'])
  | 0 => .cons h' .nil
  | n + 1 => .cons h (tys_rep h h' n)
def eNum (n : Int) : Ex := .node .num n []
def eLen (z : Nat) : Ex := .node .len (-1) [.node .name (z : Int) []]
theorem z_cases {z : Nat} (z1 : 1 ≤ z) (z4 : z ≤ 4) : z = 1 ∨ z = 2 ∨ z = 3 ∨ z = 4 := by omega
theorem prm_ok {z : Nat} (z1 : 1 ≤ z) (z4 : z ≤ 4) : FaceOk (prm z) 0 := by
  rcases z_cases z1 z4 with rfl | rfl | rfl | rfl <;> exact ⟨by decide +kernel, by decide +kernel, by decide +kernel, by decide⟩
theorem prm_ds {z : Nat} (z1 : 1 ≤ z) (z4 : z ≤ 4) : (prm z).map (·.2) = argD z 1 := by
  rcases z_cases z1 z4 with rfl | rfl | rfl | rfl <;> decide +kernel
theorem prm_env {z : Nat} (z1 : 1 ≤ z) (z4 : z ≤ 4) : envOf (prm z) (z : Int) = some 1 := by
  rcases z_cases z1 z4 with rfl | rfl | rfl | rfl <;> decide +kernel
theorem len_ty {fs : List (List Nat × Nat)} {z : Nat} (z1 : 1 ≤ z) (z4 : z ≤ 4) : Ty fs (envOf (prm z)) (eLen z) 0 := .len (.name (by omega) (by omega) (prm_env z1 z4) (by decide))
theorem arg_sz {z : Nat} (z1 : 1 ≤ z) (z4 : z ≤ 4) {e : Ex} (h : e.size ≤ 2) (h' : e.hgt ≤ 2) (h'' : e.selfs 1 = 0) : sizes (argE z e) ≤ 5 ∧ hgts (argE z e) ≤ 2 ∧ selfss 1 (argE z e) = 0 ∧ (argE z e).length = (argD z 1).length := by
  have a : ∀ n : Nat, n ≤ 3 → sizes (List.replicate n (eNum 1) ++ [e]) ≤ n + 2 ∧ hgts (List.replicate n (eNum 1) ++ [e]) ≤ 2 ∧ selfss 1 (List.replicate n (eNum 1) ++ [e]) = 0 := by
    intro n
    induction n with
    | zero => intro _; exact ⟨by show e.size + 0 ≤ _; omega, by show max e.hgt 0 ≤ 2; omega, by show e.selfs 1 + 0 = 0; omega⟩
    | succ n ih =>
      intro hn
      obtain ⟨i1, i2, i3⟩ := ih (by omega)
      refine ⟨?_, ?_, ?_⟩
      · show 1 + sizes (List.replicate n (eNum 1) ++ [e]) ≤ _
        omega
      · show max 1 (hgts (List.replicate n (eNum 1) ++ [e])) ≤ 2
        omega
      · show (0 + 0) + selfss 1 (List.replicate n (eNum 1) ++ [e]) = 0
        omega
  obtain ⟨a1, a2, a3⟩ := a (z - 1) (by omega)
  exact ⟨by show sizes (List.replicate (z - 1) (eNum 1) ++ [e]) ≤ 5; omega, a2, a3, by unfold argE argD; simp⟩
theorem argD_ne (z : Nat) : argD z 0 ≠ argD z 1 := fun e => by
  have := List.append_cancel_left e
  simp at this
/-- a function of rows and numbers, and a call of it with a number for the row -/
theorem fcs_deep {CB : Addr} {H : Hp} {Q : VK} {E : XK} {tp fi la pa lu na c u nu on p0 : Addr} {o : Obj} {z : Nat} (z1 : 1 ≤ z) (z4 : z ≤ 4) (e0 : H tp = some (.tup [.ref fi, .ref la])) (e1 : H fi = some (.tup [.ref pa, .int 0, .ref lu])) (pt : PtIn H (.ref pa) (prm z)) (e2 : H lu = some (.tup [.str "len", .ref na])) (e3 : H na = some (.tup [.str "name", .int (z : Int)]))
    (e4 : H la = some (.tup [.ref p0, .int 0, .ref u])) (e5 : H p0 = some (.frz o (.tup []))) (e6 : o.dict = none) (e7 : H u = some (.tup [.str "call", .int 0, .ref c])) (e8 : H c = some (.tup (List.replicate (z - 1) (.ref nu) ++ [.ref on]))) (e9 : H nu = some (.tup [.str "num", .int 1])) (e10 : H on = some (.tup [.str "num", .int 3]))
    (rf : Ref CB (fsBp (.int 1) (.int 0) (.str "depth")) H E) : spFcsX CB [.ref tp] H Q E := by
  have ef : fcs [(prm z, 0), ([], 0)] = [(argD z 1, 0), ([], 0)] := by
    rw [← prm_ds z1 z4]
    rfl
  have s0 : ∀ n : Int, (eNum n).size ≤ 2 ∧ (eNum n).hgt ≤ 2 ∧ (eNum n).selfs 1 = 0 := fun n => ⟨by show 1 ≤ 2; decide, by show 1 ≤ 2; decide, rfl⟩
  obtain ⟨b1, b2, b3, b4⟩ := arg_sz z1 z4 (s0 3).1 (s0 3).2.1 (s0 3).2.2
  refine ⟨tp, _, [(prm z, 0), ([], 0)], rfl, e0, .cons e1 pt (.cons e4 ⟨p0, o, [], rfl, e5, e6, .nil⟩ .nil), by show 1 ≤ 2; decide, by show 2 ≤ 6; decide, .inr ⟨fun i f hf => ?_, 1, by show 1 ≤ 2; decide, fun i f bz hi hf hb => ?_, fun h => absurd h (by show ¬ 1 = 2; decide), fun _ => ⟨"depth", fun f bz hf hb => ?_, rf⟩⟩⟩
  · match i, hf with
    | 0, hf => cases hf; exact prm_ok z1 z4
    | 1, hf => cases hf; exact face0
  · match i, hi, hf with
    | 0, _, hf =>
      cases hf
      obtain ⟨fa, pz, h1, h2⟩ := hb
      cases h1
      rw [e1] at h2
      cases h2
      obtain ⟨nd, an, nd2⟩ := (len_ty (fs := (fcs [(prm z, 0), ([], 0)]).take (0 + 1)) z1 z4).an 0
      exact ⟨eLen z, nd, .bare rfl e2 (.cons (.leaf rfl e3) .nil), an, nd2, by show 2 ≤ 60; decide, by show 2 ≤ 13; decide, by show 0 ≤ 1; decide⟩
  · cases hf
    obtain ⟨fa, pz, h1, h2⟩ := hb
    cases h1
    rw [e4] at h2
    cases h2
    obtain ⟨nds, an, nd2⟩ := (tys_rep (fs := (fcs [(prm z, 0), ([], 0)]).take (1 + 1)) (ρ := envOf []) (e := eNum 1) (e' := eNum 3) (.num (by decide) (by decide)) (.num (by decide) (by decide)) (z - 1)).an (0 + 1)
    refine .depth (k := 0) (es := argE z (eNum 3)) (nds := nds) (ds := argD z 1) (d0 := 0) e7 e8 (tins_rep (.leaf rfl e9) (.leaf rfl e10) (z - 1)) (by decide) (by decide) (fun h => absurd h (by decide)) (by rw [ef]; rfl) b4 an (by rw [nd2]; exact argD_ne z) (by omega) (by omega) ?_
    rw [show ((1 : Nat) : Int) = (1 : Int) from rfl, b3]
    decide
section
variable {P : Program} {w : World} {K : PySem.W.Frag} {mg : Str → Option Value} {base : Heap} {f c : Addr} {A : Around} {outer : List Env} {s : Shared} {H0 : Hp} {E : XK} {Ts : List (Addr × Str)}
theorem cl_7 {k : Nat} {CN CBp CT Pt : Addr} (hr : Room (k + 2) (XC P w K mg base f c A outer s H0 E).A) (KO : KindO K mg CN CBp CT) (TB : TabB base mg c Pt) (hmT : (Pt, lamQ "_law_calls") ∈ Ts) (hu : ∀ p ∈ Ts, p.1 = Pt → p.2 = lamQ "_law_calls") (O_faces : Okf P w K mg base (CX P w) k "faces" ["program"] (spFcsX CBp)) : OkI (XC P w K mg base f c A outer s H0 E) (clAt 7) (Q6 K Ts) (Q6 K Ts) := by
  have sc := scsLawCalls
  refine ⟨_, (ps_if (pt_cmpR (op_neDK K hr.units) (pe_kind "_law_calls" (k := k) KO rfl TB rfl rfl hmT hu hr (lamS_by (sc := defScope sLawCalls) (by decide +kernel)) rfl (fun _ _ _ _ _ => rfl) (fun A' outer' s' H' E' f' c'' hr' => (pe_c O_faces hr' rfl (passes_call (takes_of rfl rfl rfl rfl) (fun _ _ _ _ h => h)) (pa_cons (pe_tup (pa_cons (pv 6) (pa_cons (pe_tup (pa_cons (pe_tupF pa_nil) (pa_cons pe_int (pa_cons (pe_tup (pa_cons pe_str (pa_cons pe_int (pa_cons (pe_op (op_catA2 K) (pv 11) (pe_tup (pa_cons (pv 9) pa_nil))) pa_nil)))) pa_nil)))) pa_nil))) pa_nil)))) (pe_tup (pa_cons pe_int (pa_cons pe_int (pa_cons pe_str pa_nil)))) (nomark _)) (pss_one (ps_ret pe_bl)) pss_nil), ?_⟩
  rintro r D σ H ⟨z, pa, on, so, nu, fi, lu, na, x1, x2, x5, x7, x8, x10, x12, x13, x14, rfl, d, tb, z1, z4, pt, eo, sq, eu, e6, el, en⟩ q
  refine ⟨tb, fun H1 eN tb1 => ?_⟩
  have ik1 := extN_ik eN
  refine ⟨_, rfl, by show 0 ≤ sizeLine; decide, fun p0 o hp0 ho => ⟨_, rfl, _, rfl, by show 1 ≤ sizeLine; decide, fun w1 hw1 => ?_⟩⟩
  have s1 := same_new hp0 (.frz o (.tup []))
  have s2 := same_new hw1 (.tup [.ref on])
  refine cat_one (seqT_ik (ik1.trans (IK.of (s1.trans s2))) sq) upd_same (by rw [List.length_replicate]; omega) fun H2 c s3 ec => ?_
  refine ⟨by show 3 ≤ sizeLine; decide, fun u hu => ⟨by show 3 ≤ sizeLine; decide, fun la hla => ⟨by show 2 ≤ sizeLine; decide, fun tp htp => ?_⟩⟩⟩
  have s4 := same_new hu (.tup [.str "call", .int 0, .ref c])
  have s5 := same_new hla (.tup [.ref p0, .int 0, .ref u])
  have s6 := same_new htp (.tup [.ref fi, .ref la])
  have s56 := s5.trans s6
  have s46 := s4.trans s56
  have s26 := s2.trans (s3.trans s46)
  have s16 := s1.trans s26
  have ik := ik1.trans (IK.of s16)
  dsimp only [tNil, List.cons_append, List.nil_append]
  refine fcs_deep z1 z4 upd_same (ik.t _ _ e6) (pt.mono ik) (ik.t _ _ el) (ik.t _ _ en) (s6 _ _ upd_same) (s26 _ _ upd_same) ho (s56 _ _ upd_same) (s46 _ _ ec) (ik.t _ _ eu) (ik.t _ _ eo) ?_
  intro H7 d7 s7 hd7 e7
  refine .inl ⟨rfl, d7, _, _, _, rfl, e7, fun t ht => ⟨by show 3 ≤ sizeLine; decide, fun t9 ht9 => ?_⟩⟩
  have w1' := same_new ht (.tup [.int 1, .int 0, .str "depth"])
  have w2' := same_new ht9 (.tup [.int 1, .int 0, .str "depth"])
  have w0 := s16.trans (s7.trans (w1'.trans w2'))
  have ikE := ik1.trans (IK.of w0)
  have D1 := DIn.tup (ds := [.int 1, .int 0, .str "depth"]) (w2' _ _ upd_same) (by show 3 ≤ 1000; decide) (.cons .int (.cons .int (.cons .str .nil)))
  have D2 := DIn.tup (ds := [.int 1, .int 0, .str "depth"]) (show (upd (upd H7 t (.tup [.int 1, .int 0, .str "depth"])) t9 (.tup [.int 1, .int 0, .str "depth"])) t9 = _ from upd_same) (by show 3 ≤ 1000; decide) (.cons .int (.cons .int (.cons .str .nil)))
  have hs : (Da.seq false [.int 1, .int 0, .str "depth"]).sok := ⟨trivial, trivial, by show PyData.strOk _ = true; decide +kernel, trivial⟩
  have hsh := Da.shp hs (by decide)
  refine ⟨_, _, D1.dp, D2.dp, hsh, hsh, ?_⟩
  rw [PySem.SeqAt.eqv_refl _ (Da.can _ hs)]
  refine ⟨_, rfl, ite2 (fun z => nomatch z) (fun _ => ?_)⟩
  exact q _ _ ⟨z, pa, on, so, nu, fi, lu, na, _, _, _, _, _, _, _, _, _, rfl, (draw_ik d eN).same w0, tabs_same tb1 w0, z1, z4, pt.mono ikE, ikE.t _ _ eo, seqT_ik ikE sq, ikE.t _ _ eu, ikE.t _ _ e6, ikE.t _ _ el, ikE.t _ _ en⟩
end
end NR
set_option maxHeartbeats 4000000
namespace NR
open PySem PySem.Spec PyProof.Rows L2

open LamX
def Q7 (K : PySem.W.Frag) (Ts : List (Addr × Str)) (r : RD) (σ : L2.St) (H : Hp) : Prop := ∃ z pa l xs x1 x2 x6 x7 x8 x9 x10 x11 x12 x13 x14, σ = [some (.ref r.r), x1, x2, some (.int ((z : Nat) : Int)), some (.ref pa), some (.ref l), x6, x7, x8, x9, x10, x11, x12, x13, x14] ∧ Draw K r H ∧ Tabs Ts H ∧ 1 ≤ z ∧ z ≤ 4 ∧ PtIn H (.ref pa) (prm z) ∧ H l = some (.lst xs) ∧ FIns H xs [(argD z 1, 0), ([], 0)]
def OkRs {ι : Type} (X : Cx) (sts : List Stmt) (R : ι → L2.St → Hp → Prop) (W : ι → Ends → Prop) : Prop := ∃ t, PSs X sts t ∧ ∀ (i : ι) (D : Ends) (σ : L2.St) (H : Hp), R i σ H → W i D → t D σ H
theorem OkRs.cons {ι : Type} {X : Cx} {st : Stmt} {sts : List Stmt} {R R1 : ι → L2.St → Hp → Prop} {W : ι → Ends → Prop} (a : OkI X st R R1) (b : OkRs X sts R1 W) : OkRs X (st :: sts) R W := by
  obtain ⟨t, pt, ht⟩ := a
  obtain ⟨u, pu, hu⟩ := b
  exact ⟨_, pss_cons pt pu, fun i D σ H r w => ht i _ σ H r fun σ' H' r' => hu i D σ' H' r' w⟩
theorem OkRs.one {ι : Type} {X : Cx} {st : Stmt} {R : ι → L2.St → Hp → Prop} {W : ι → Ends → Prop} (a : ∃ t, PS X st t ∧ ∀ (i : ι) (D : Ends) (σ : L2.St) (H : Hp), R i σ H → W i D → t D σ H) : OkRs X [st] R W := by
  obtain ⟨t, pt, ht⟩ := a
  exact ⟨_, pss_one pt, fun i D σ H r w => ht i D σ H r w⟩
def progZ (z : Nat) : List Fn := [⟨prm z, 0, eLen z⟩, ⟨[], 0, .node .call 0 (argE z (.node .one (-1) [eNum 3]))⟩]
theorem progZ_good {z : Nat} (z1 : 1 ≤ z) (z4 : z ≤ 4) : Good (progZ z) := by
  refine ⟨by show 2 ≤ 6; decide, fun i f hf => ?_⟩
  obtain ⟨b1, b2, b3, b4⟩ := arg_sz z1 z4 (e := .node .one (-1) [eNum 3]) (by show 2 ≤ 2; decide) (by show 2 ≤ 2; decide) rfl
  match i, hf with
  | 0, hf =>
    cases hf
    exact ⟨prm_ok z1 z4, len_ty z1 z4, by show 0 ≤ 1; decide, by show 2 ≤ 60; decide, by show 2 ≤ 13; decide⟩
  | 1, hf =>
    cases hf
    refine ⟨face0, .call (k := 0) (ds := argD z 1) (by decide) ?_ (tys_rep (.num (by decide) (by decide)) (.one (.num (by decide) (by decide)) (by decide)) (z - 1)), ?_, ?_, ?_⟩
    · rw [← prm_ds z1 z4]
      rfl
    · show 0 + selfss 1 (argE z (.node .one (-1) [eNum 3])) ≤ 1
      omega
    · show 1 + sizes (argE z (.node .one (-1) [eNum 3])) ≤ 60
      omega
    · show 1 + hgts (argE z (.node .one (-1) [eNum 3])) ≤ 13
      omega
theorem progZ_faces {z : Nat} (z1 : 1 ≤ z) (z4 : z ≤ 4) : facesOf (progZ z) = [(argD z 1, 0), ([], 0)] := by
  rw [← prm_ds z1 z4]
  rfl
def ansZ (z : Nat) : Da := .seq true [.seq false [.seq false ((argD z 1).map nDa), .int 0], .seq false [.seq false [], .int 0]]
theorem nds_in {H : Hp} : ∀ l : List Nat, DIns H (l.map dV) (l.map nDa)
  | [] => .nil
  | _ :: l => .cons .int (nds_in l)
theorem nds_hgt : ∀ l : List Nat, dhgts (l.map nDa) ≤ 1
  | [] => Nat.zero_le _
  | _ :: l => by
    have := nds_hgt l
    show max 1 (dhgts (l.map nDa)) ≤ 1
    omega
theorem argD_len {z : Nat} (z1 : 1 ≤ z) : (argD z 1).length = z := by
  unfold argD
  simp
  omega
theorem ansZ_in {H : Hp} {l : Addr} {xs : List V} {z : Nat} (z1 : 1 ≤ z) (z4 : z ≤ 4) (e : H l = some (.lst xs)) (fi : FIns H xs [(argD z 1, 0), ([], 0)]) : DIn H (.ref l) (ansZ z) := by
  have hl := argD_len z1
  cases fi with
  | cons f1 f2 f3 =>
    cases f3 with
    | cons g1 g2 g3 =>
      cases g3
      exact .seq (.inl ⟨rfl, e⟩) (by show 2 ≤ 1000; decide) (.cons (.tup f1 (by show 2 ≤ 1000; decide) (.cons (.tup f2 (by rw [List.length_map]; omega) (nds_in _)) (.cons .int .nil))) (.cons (.tup g1 (by show 2 ≤ 1000; decide) (.cons (.tup g2 (by show 0 ≤ 1000; decide) .nil) (.cons .int .nil))) .nil))
theorem ansZ_sok (z : Nat) : (ansZ z).sok := ⟨⟨ns_sok _, trivial, trivial⟩, ⟨trivial, trivial, trivial⟩, trivial⟩
theorem ansZ_hgt (z : Nat) : (ansZ z).hgt ≤ 30 := by
  have := nds_hgt (argD z 1)
  simp only [ansZ, Da.hgt, dhgts]
  omega
section
variable {P : Program} {w : World} {K : PySem.W.Frag} {mg : Str → Option Value} {base : Heap} {f c : Addr} {A : Around} {outer : List Env} {s : Shared} {H0 : Hp} {E : XK} {Ts : List (Addr × Str)}
theorem cl_8 {k : Nat} {CN CBp CT Pt : Addr} (hr : Room (k + 2) (XC P w K mg base f c A outer s H0 E).A) (KO : KindO K mg CN CBp CT) (TB : TabB base mg c Pt) (hmT : (Pt, lamQ "_law_calls") ∈ Ts) (hu : ∀ p ∈ Ts, p.1 = Pt → p.2 = lamQ "_law_calls") (O_faces : Okf P w K mg base (CX P w) k "faces" ["program"] (spFcsX CBp)) : OkI (XC P w K mg base f c A outer s H0 E) (clAt 8) (Q6 K Ts) (Q7 K Ts) := by
  have sc := scsLawCalls
  refine ⟨_, (ps_set (i := 5) sc.nd rfl (.inl rfl) (pe_kind "_law_calls" (k := k) KO rfl TB rfl rfl hmT hu hr (lamS_by (sc := defScope sLawCalls) (by decide +kernel)) rfl (fun _ _ _ _ _ => rfl) (fun A' outer' s' H' E' f' c'' hr' => (pe_c O_faces hr' rfl (passes_call (takes_of rfl rfl rfl rfl) (fun _ _ _ _ h => h)) (pa_cons (pe_tup (pa_cons (pv 6) (pa_cons (pe_tup (pa_cons (pe_tupF pa_nil) (pa_cons pe_int (pa_cons (pe_tup (pa_cons pe_str (pa_cons pe_int (pa_cons (pe_op (op_catA2 K) (pv 11) (pe_tup (pa_cons (pe_tup (pa_cons pe_str (pa_cons (pv 9) pa_nil))) pa_nil))) pa_nil)))) pa_nil)))) pa_nil))) pa_nil))))), ?_⟩
  rintro r D σ H ⟨z, pa, on, so, nu, fi, lu, na, x1, x2, x5, x7, x8, x10, x12, x13, x14, rfl, d, tb, z1, z4, pt, eo, sq, eu, e6, el, en⟩ q
  refine ⟨tb, fun H1 eN tb1 => ?_⟩
  have ik1 := extN_ik eN
  refine ⟨_, rfl, by show 0 ≤ sizeLine; decide, fun p0 o hp0 ho => ⟨_, rfl, _, rfl, by show 2 ≤ sizeLine; decide, fun v1 hv1 => ⟨by show 1 ≤ sizeLine; decide, fun w1 hw1 => ?_⟩⟩⟩
  have s1 := same_new hp0 (.frz o (.tup []))
  have s1b := same_new hv1 (.tup [.str "one", .ref on])
  have s2 := same_new hw1 (.tup [.ref v1])
  refine cat_one (seqT_ik (ik1.trans (IK.of (s1.trans (s1b.trans s2)))) sq) upd_same (by rw [List.length_replicate]; omega) fun H2 c s3 ec => ?_
  refine ⟨by show 3 ≤ sizeLine; decide, fun u hu => ⟨by show 3 ≤ sizeLine; decide, fun la hla => ⟨by show 2 ≤ sizeLine; decide, fun tp htp => ?_⟩⟩⟩
  have s4 := same_new hu (.tup [.str "call", .int 0, .ref c])
  have s5 := same_new hla (.tup [.ref p0, .int 0, .ref u])
  have s6 := same_new htp (.tup [.ref fi, .ref la])
  have s56 := s5.trans s6
  have s46 := s4.trans s56
  have s26 := s2.trans (s3.trans s46)
  have s1b6 := s1b.trans s26
  have s16 := s1.trans s1b6
  have ik := ik1.trans (IK.of s16)
  dsimp only [tNil, List.cons_append, List.nil_append]
  refine good_fcsL (prog := progZ z) upd_same (.cons (ik.t _ _ e6) (pt.mono ik) (.bare rfl (ik.t _ _ el) (.cons (.leaf rfl (ik.t _ _ en)) .nil)) (.cons (s6 _ _ upd_same) ⟨p0, o, [], rfl, s1b6 _ _ upd_same, ho, .nil⟩ (.call (s56 _ _ upd_same) (s46 _ _ ec) (tins_rep (.leaf rfl (ik.t _ _ eu)) (.bare rfl (s26 _ _ upd_same) (.cons (.leaf rfl (ik.t _ _ eo)) .nil)) (z - 1))) .nil)) (progZ_good z1 z4) (by show 1 ≤ 2; decide) fun H7 l xs s7 el7 fi7 => ?_
  rw [progZ_faces z1 z4] at fi7
  have w0 := s16.trans s7
  have ikE := ik1.trans (IK.of w0)
  exact q _ _ ⟨z, pa, l, xs, _, _, _, _, _, _, _, _, _, _, _, rfl, (draw_ik d eN).same w0, tabs_same tb1 w0, z1, z4, pt.mono ikE, el7, fi7⟩
theorem cl_9 {k : Nat} (hr : Room (k + 2) (XC P w K mg base f c A outer s H0 E).A) (z_tuple : mg "tuple" = none) : ∃ t, PS (XC P w K mg base f c A outer s H0 E) (clAt 9) t ∧ ∀ (r : RD) (D : Ends) (σ : L2.St) (H : Hp), Q7 K Ts r σ H → (∀ H', Draw K r H' → Tabs Ts H' → D.rt (.bl true) H') → t D σ H := by
  have sc := scsLawCalls
  refine ⟨_, (ps_ret (pe_cmpR (op_eqDK K hr.units) (pv 5) (pe_lst (pa_cons (pe_tup (pa_cons (pe_callTy (call_tupleK K) rfl z_tuple (by decide +kernel) (pa_cons (pe_lc (own := [("_law_name", 13), ("_law_depth", 14)]) (by rfl) sc.nd (pi_tupK K (pv 4)) (blkOk_by (own := [("_law_name", 13), ("_law_depth", 14)]) (N := ["_law_state", "_law_number", "_law_due", "_law_size", "_law_params", "_law_told", "_law_first", "_law_last", "_law_many", "_law_one", "_law_short", "_law_some", "_law_k", "_law_name", "_law_depth"]) (sc := defScope sLawCalls) (by decide +kernel)) (fun _ _ _ _ _ => (pg_tupK K (n := 2) rfl (pgs_cons (pg_name (i := 13) sc.nd rfl (.inl rfl)) (pgs_cons (pg_name (i := 14) sc.nd rfl (.inl rfl)) pgs_nil)))) (fun _ _ _ _ _ => pts_nil) (fun _ _ _ _ _ => (pv 14))) pa_nil)) (pa_cons pe_int pa_nil))) (pa_cons (pe_tup (pa_cons (pe_tup pa_nil) (pa_cons pe_int pa_nil))) pa_nil))) (nomark _))), ?_⟩
  rintro r D σ H ⟨z, pa, l, xs, x1, x2, x6, x7, x8, x9, x10, x11, x12, x13, x14, rfl, d, tb, z1, z4, pt, el, fi⟩ q
  obtain ⟨pa', o, vs, e1, p1, p2, p3⟩ := id pt.ex
  cases e1
  have hpl := p3.len
  have hz : (prm z).length = z := by
    have := congrArg List.length (prm_ds z1 z4)
    rw [List.length_map, argD_len z1] at this
    exact this
  refine ⟨_, rfl, _, rfl, pa, rfl, ⟨_, SqT.frz p1⟩, fun D1 hD1 => ?_⟩
  refine lc_tup (K := K) (a := pa) (xs := vs) (fun i H' => H' = upd H D1 (.lst (((prm z).take i).map fun p => dV p.2))) rfl ?_ ?_ ?_
  · rintro i H' _ rfl
    exact SqT.frz (same_new hD1 _ _ _ p1)
  · rintro j v H' hj rfl
    obtain ⟨ea, xx, dd, rfl, r1, r2⟩ := p3.get j hj
    have hj' : j < vs.length := (List.getElem?_eq_some_iff.mp hj).1
    refine ⟨ea, _, rfl, SqT.of (same_new hD1 _ _ _ r2), rfl, _, _, rfl, _, _, rfl, rfl, rfl, ?_⟩
    refine ⟨_, rfl, _, upd_same, ?_, ?_⟩
    · rw [List.length_map, List.length_take]
      have big : 1000 ≤ sizeLine := by decide
      omega
    · rw [upd_upd, List.take_add_one, r1, List.map_append]
      rfl
  rintro H' rfl
  rw [hpl, List.take_length]
  have sD := same_new hD1 (.lst ((prm z).map fun p => dV p.2))
  refine ⟨D1, _, rfl, .inl ⟨SqL.of upd_same, fun t1 ht1 => ?_⟩⟩
  have s1 := same_new ht1 (.tup ((prm z).map fun p => dV p.2))
  refine ⟨by show 2 ≤ sizeLine; decide, fun t2 ht2 => ⟨by show 0 ≤ sizeLine; decide, fun t3 ht3 => ⟨by show 2 ≤ sizeLine; decide, fun t4 ht4 => ⟨by show 2 ≤ sizeLine; decide, fun t5 ht5 => ?_⟩⟩⟩⟩
  have s2 := same_new ht2 (.tup [.ref t1, .int 0])
  have s3 := same_new ht3 (.tup [])
  have s4 := same_new ht4 (.tup [.ref t3, .int 0])
  have s5 := same_new ht5 (.lst [.ref t2, .ref t4])
  have s45 := s4.trans s5
  have s35 := s3.trans s45
  have s25 := s2.trans s35
  have s0 := sD.trans (s1.trans s25)
  have em : ((prm z).map fun p => dV p.2) = (argD z 1).map dV := by
    rw [← prm_ds z1 z4, List.map_map]
    rfl
  rw [em] at s25 s35 s45 s5 s0 ⊢
  have D1' := (ansZ_in z1 z4 el fi).same s0
  have D2' := ansZ_in (H := upd (upd (upd (upd (upd (upd H D1 (.lst ((argD z 1).map dV))) t1 (.tup ((argD z 1).map dV))) t2 (.tup [.ref t1, .int 0])) t3 (.tup [])) t4 (.tup [.ref t3, .int 0])) t5 (.lst [.ref t2, .ref t4])) z1 z4 upd_same (.cons (s35 _ _ upd_same) (s25 _ _ upd_same) (.cons (s5 _ _ upd_same) (s45 _ _ upd_same) .nil))
  have hs := ansZ_sok z
  have hsh := Da.shp hs (ansZ_hgt z)
  refine ⟨_, _, D1'.dp, D2'.dp, hsh, hsh, ?_⟩
  rw [PySem.SeqAt.eqv_refl _ (Da.can _ hs)]
  exact q _ (d.same s0) (tabs_same tb s0)
end
section
variable {P : Program} {w : World} {K : PySem.W.Frag} {mg : Str → Option Value} {base : Heap} {f : Addr} {fd : FuncData}
theorem ok_calls {k : Nat} {CN CBp CT c Pt : Addr} {Ts : List (Addr × Str)} (F : FunL K "_law_calls" sLawCalls f fd c) (KO : KindO K mg CN CBp CT) (TB : TabB base mg c Pt) (hmT : (Pt, lamQ "_law_calls") ∈ Ts) (hu : ∀ p ∈ Ts, p.1 = Pt → p.2 = lamQ "_law_calls") (O_taken : Okf P w K mg base CX0 (k + 2) "_law_taken" ["_law_row", "_law_many"] (spTaken K)) (O_faces : Okf P w K mg base (CX P w) k "faces" ["program"] (spFcsX CBp)) (z_range : mg "range" = none) (z_int : mg "int" = none) (z_tuple : mg "tuple" = none) : FnOk P w K mg base (CX P w) (k + 3) f fd ["_law_state"] (spNames K Ts) := by
  have sc := scsLawCalls
  refine F.ok sc (fun vs H Q E h => ?_) (fun A outer s H vs Q E hr h => ?_)
  · obtain ⟨r, rfl, _⟩ := h
    rfl
  obtain ⟨r, rfl, d, tb, q⟩ := h
  obtain ⟨t, pt, ht⟩ : OkRs (XC P w K mg base f c A outer s H E) [clAt 0, clAt 1, clAt 2, clAt 3, clAt 4, clAt 5, clAt 6, clAt 7, clAt 8, clAt 9] (Q0 K Ts) (fun r D => ∀ H', Draw K r H' → Tabs Ts H' → D.rt (.bl true) H') := OkRs.cons (cl_0 hr O_taken) (OkRs.cons cl_1 (OkRs.cons (cl_2 hr KO TB hmT hu O_faces z_range z_int) (OkRs.cons (cl_3 hr O_taken) (OkRs.cons (cl_4 z_range z_tuple) (OkRs.cons cl_5 (OkRs.cons cl_6 (OkRs.cons (cl_7 hr KO TB hmT hu O_faces) (OkRs.cons (cl_8 hr KO TB hmT hu O_faces) (OkRs.one (cl_9 hr z_tuple))))))))))
  exact ⟨t, pt, ht r _ _ _ ⟨_, _, _, _, _, _, _, _, _, _, _, _, _, _, rfl, d, tb⟩ q⟩
end
end NR
set_option maxHeartbeats 4000000
namespace NR
open PySem PySem.Spec PyProof.Rows L2

section
variable {P : Program} {w : World} {K : PySem.W.Frag} {mg : Str → Option Value} {base : Heap} {k : Nat} {f : Addr} {fd : FuncData} {ps : List Str}
theorem fnok_or2 {CX : CXT} {sp sp1 sp2 : Sp} (h1 : FnOk P w K mg base CX k f fd ps sp1) (h2 : FnOk P w K mg base CX k f fd ps sp2) (hs : ∀ vs H Q E, sp vs H Q E → sp1 vs H Q E ∨ sp2 vs H Q E) : FnOk P w K mg base CX k f fd ps sp :=
  ⟨fun vs H Q E z => (hs vs H Q E z).elim (h1.len vs H Q E) (h2.len vs H Q E), fun A outer s H args us vs Q E hr he hb hv z => (hs vs H Q E z).elim (h1.run A outer s H args us vs Q E hr he hb hv) (h2.run A outer s H args us vs Q E hr he hb hv)⟩
theorem fnok_lift {sp : Sp} (h : FnOk P w K mg base CX0 k f fd ps sp) : FnOk P w K mg base (CX P w) k f fd ps sp :=
  ⟨h.len, fun A outer s H args us vs Q E hr he hb hv z => codeAny_mono (h.run A outer s H args us vs Q E hr he hb hv z) fun r s' hq => by
    cases r with
    | error e => exact False.elim hq
    | ok fl => cases fl <;> exact hq⟩
/-- success in one, refusal in the other -/
theorem fnok_both {sp1 sp2 : Sp} (h1 : FnOk P w K mg base CX0 k f fd ps sp1) (h2 : FnOk P w K mg base (CX P w) k f fd ps sp2) : FnOk P w K mg base (CX P w) k f fd ps (fun vs H Q E => sp1 vs H Q E ∨ sp2 vs H Q E) :=
  fnok_or2 (fnok_lift h1) h2 fun _ _ _ _ z => z
end
end NR
set_option maxHeartbeats 4000000
namespace NR
open PySem PySem.Spec PyProof.Rows L2 LamX
structure Cz (w : World) (K : PySem.W.Frag) (h : Heap) (mg : Str → Option Value) : Prop where
  X : K.In h
  G : h.Ns mainGlobals mg
  c : He.SaysX NH.fa NH.fn NH.tsT NH.tfT NH.exB w h K
  n : NH.nfT.map (fun d => NH.fnC K d.at_) = NH.nfT.map NH.valC
section
variable {P : Program} {w : World} {K : PySem.W.Frag} {mg : Str → Option Value} {base h : Heap}

theorem Cz.z_len (Z : Cz w K h mg) : mg "len" = none := He.free_ok Z.X Z.G (Z.c.t.d.fact 0 (f := .free "len") rfl)
theorem Cz.z_range (Z : Cz w K h mg) : mg "range" = none := He.free_ok Z.X Z.G (Z.c.t.d.fact 1 (f := .free "range") rfl)
theorem Cz.z_tuple (Z : Cz w K h mg) : mg "tuple" = none := He.free_ok Z.X Z.G (Z.c.t.d.fact 2 (f := .free "tuple") rfl)
theorem Cz.z_list (Z : Cz w K h mg) : mg "list" = none := He.free_ok Z.X Z.G (Z.c.t.d.fact 3 (f := .free "list") rfl)
theorem Cz.z_dict (Z : Cz w K h mg) : mg "dict" = none := He.free_ok Z.X Z.G (Z.c.t.d.fact 4 (f := .free "dict") rfl)
theorem Cz.z_int (Z : Cz w K h mg) : mg "int" = none := He.free_ok Z.X Z.G (Z.c.t.d.fact 5 (f := .free "int") rfl)
theorem Cz.z_isinstance (Z : Cz w K h mg) : mg "isinstance" = none := He.free_ok Z.X Z.G (Z.c.t.d.fact 6 (f := .free "isinstance") rfl)
theorem Cz.z_str (Z : Cz w K h mg) : mg "str" = none := He.free_ok Z.X Z.G (Z.c.t.d.fact 7 (f := .free "str") rfl)
theorem Cz.z_bool (Z : Cz w K h mg) : mg "bool" = none := He.free_ok Z.X Z.G (Z.c.t.d.fact 8 (f := .free "bool") rfl)
theorem Cz.z_set (Z : Cz w K h mg) : mg "set" = none := He.free_ok Z.X Z.G (Z.c.t.d.fact 9 (f := .free "set") rfl)
theorem Cz.z_all (Z : Cz w K h mg) : mg "all" = none := He.free_ok Z.X Z.G (Z.c.t.d.fact 10 (f := .free "all") rfl)
theorem Cz.z_enumerate (Z : Cz w K h mg) : mg "enumerate" = none := He.free_ok Z.X Z.G (Z.c.t.d.fact 11 (f := .free "enumerate") rfl)
theorem Cz.g_is_number (Z : Cz w K h mg) : mg "is_number" = some (.ref (He.ga K "is_number")) := He.glo_ok Z.X Z.G (Z.c.t.d.fact 12 (f := .glo "is_number") rfl)
theorem Cz.g_of_num (Z : Cz w K h mg) : mg "of_num" = some (.ref (He.ga K "of_num")) := He.glo_ok Z.X Z.G (Z.c.t.d.fact 13 (f := .glo "of_num") rfl)
theorem Cz.g_of_two_numbers (Z : Cz w K h mg) : mg "of_two_numbers" = some (.ref (He.ga K "of_two_numbers")) := He.glo_ok Z.X Z.G (Z.c.t.d.fact 14 (f := .glo "of_two_numbers") rfl)
theorem Cz.g_of_if (Z : Cz w K h mg) : mg "of_if" = some (.ref (He.ga K "of_if")) := He.glo_ok Z.X Z.G (Z.c.t.d.fact 15 (f := .glo "of_if") rfl)
theorem Cz.g_of_let (Z : Cz w K h mg) : mg "of_let" = some (.ref (He.ga K "of_let")) := He.glo_ok Z.X Z.G (Z.c.t.d.fact 16 (f := .glo "of_let") rfl)
theorem Cz.g_of_upto (Z : Cz w K h mg) : mg "of_upto" = some (.ref (He.ga K "of_upto")) := He.glo_ok Z.X Z.G (Z.c.t.d.fact 17 (f := .glo "of_upto") rfl)
theorem Cz.g_of_len (Z : Cz w K h mg) : mg "of_len" = some (.ref (He.ga K "of_len")) := He.glo_ok Z.X Z.G (Z.c.t.d.fact 18 (f := .glo "of_len") rfl)
theorem Cz.g_of_sum (Z : Cz w K h mg) : mg "of_sum" = some (.ref (He.ga K "of_sum")) := He.glo_ok Z.X Z.G (Z.c.t.d.fact 19 (f := .glo "of_sum") rfl)
theorem Cz.g_of_sums (Z : Cz w K h mg) : mg "of_sums" = some (.ref (He.ga K "of_sums")) := He.glo_ok Z.X Z.G (Z.c.t.d.fact 20 (f := .glo "of_sums") rfl)
theorem Cz.g_of_one (Z : Cz w K h mg) : mg "of_one" = some (.ref (He.ga K "of_one")) := He.glo_ok Z.X Z.G (Z.c.t.d.fact 21 (f := .glo "of_one") rfl)
theorem Cz.g_of_pick (Z : Cz w K h mg) : mg "of_pick" = some (.ref (He.ga K "of_pick")) := He.glo_ok Z.X Z.G (Z.c.t.d.fact 22 (f := .glo "of_pick") rfl)
theorem Cz.g_of_put (Z : Cz w K h mg) : mg "of_put" = some (.ref (He.ga K "of_put")) := He.glo_ok Z.X Z.G (Z.c.t.d.fact 23 (f := .glo "of_put") rfl)
theorem Cz.g_of_flat (Z : Cz w K h mg) : mg "of_flat" = some (.ref (He.ga K "of_flat")) := He.glo_ok Z.X Z.G (Z.c.t.d.fact 24 (f := .glo "of_flat") rfl)
theorem Cz.g_of_each (Z : Cz w K h mg) : mg "of_each" = some (.ref (He.ga K "of_each")) := He.glo_ok Z.X Z.G (Z.c.t.d.fact 25 (f := .glo "of_each") rfl)
theorem Cz.g_of_where (Z : Cz w K h mg) : mg "of_where" = some (.ref (He.ga K "of_where")) := He.glo_ok Z.X Z.G (Z.c.t.d.fact 26 (f := .glo "of_where") rfl)
theorem Cz.g_depth_of (Z : Cz w K h mg) : mg "depth_of" = some (.ref (He.ga K "depth_of")) := He.glo_ok Z.X Z.G (Z.c.t.d.fact 27 (f := .glo "depth_of") rfl)
theorem Cz.g_last_number (Z : Cz w K h mg) : mg "last_number" = some (.ref (He.ga K "last_number")) := He.glo_ok Z.X Z.G (Z.c.t.d.fact 28 (f := .glo "last_number") rfl)
theorem Cz.g_has_shape (Z : Cz w K h mg) : mg "has_shape" = some (.ref (He.ga K "has_shape")) := He.glo_ok Z.X Z.G (Z.c.t.d.fact 29 (f := .glo "has_shape") rfl)
theorem Cz.g_number_of (Z : Cz w K h mg) : mg "number_of" = some (.ref (He.ga K "number_of")) := He.glo_ok Z.X Z.G (Z.c.t.d.fact 30 (f := .glo "number_of") rfl)
theorem Cz.g_parts_of (Z : Cz w K h mg) : mg "parts_of" = some (.ref (He.ga K "parts_of")) := He.glo_ok Z.X Z.G (Z.c.t.d.fact 31 (f := .glo "parts_of") rfl)
theorem Cz.g_has_face (Z : Cz w K h mg) : mg "has_face" = some (.ref (He.ga K "has_face")) := He.glo_ok Z.X Z.G (Z.c.t.d.fact 32 (f := .glo "has_face") rfl)
theorem Cz.g_is_param (Z : Cz w K h mg) : mg "is_param" = some (.ref (He.ga K "is_param")) := He.glo_ok Z.X Z.G (Z.c.t.d.fact 33 (f := .glo "is_param") rfl)
theorem Cz.g_told_faces (Z : Cz w K h mg) : mg "told_faces" = some (.ref (He.ga K "told_faces")) := He.glo_ok Z.X Z.G (Z.c.t.d.fact 34 (f := .glo "told_faces") rfl)
theorem Cz.g_form_of (Z : Cz w K h mg) : mg "form_of" = some (.ref (He.ga K "form_of")) := He.glo_ok Z.X Z.G (Z.c.t.d.fact 35 (f := .glo "form_of") rfl)
theorem Cz.g_faces (Z : Cz w K h mg) : mg "faces" = some (.ref (He.ga K "faces")) := He.glo_ok Z.X Z.G (Z.c.t.d.fact 36 (f := .glo "faces") rfl)
theorem Cz.g_is_numeral (Z : Cz w K h mg) : mg "is_numeral" = some (.ref (He.ga K "is_numeral")) := He.glo_ok Z.X Z.G (Z.c.t.d.fact 37 (f := .glo "is_numeral") rfl)
theorem Cz.g_read (Z : Cz w K h mg) : mg "read" = some (.ref (He.ga K "read")) := He.glo_ok Z.X Z.G (Z.c.t.d.fact 38 (f := .glo "read") rfl)
theorem Cz.g__law_taken (Z : Cz w K h mg) : mg "_law_taken" = some (.ref (He.ga K "_law_taken")) := He.glo_ok Z.X Z.G (Z.c.t.d.fact 39 (f := .glo "_law_taken") rfl)
theorem Cz.g__law_kind (Z : Cz w K h mg) : mg "_law_kind" = some (.ref (He.ga K "_law_kind")) := He.glo_ok Z.X Z.G (Z.c.t.d.fact 40 (f := .glo "_law_kind") rfl)
theorem Cz.g__law_calls (Z : Cz w K h mg) : mg "_law_calls" = some (.ref (He.ga K "_law_calls")) := He.glo_ok Z.X Z.G (Z.c.t.d.fact 41 (f := .glo "_law_calls") rfl)
theorem Cz.g__law_names (Z : Cz w K h mg) : mg "_law_names" = some (.ref (He.ga K "_law_names")) := He.glo_ok Z.X Z.G (Z.c.t.d.fact 42 (f := .glo "_law_names") rfl)
theorem Cz.g_law (Z : Cz w K h mg) : mg "law" = some (.ref (He.ga K "law")) := He.glo_ok Z.X Z.G (Z.c.t.d.fact 43 (f := .glo "law") rfl)
theorem Cz.g_Node (Z : Cz w K h mg) : mg "Node" = some (.ref (He.ga K "Node")) := He.glo_ok Z.X Z.G (Z.c.t.d.fact 44 (f := .glo "Node") rfl)
theorem Cz.g_Form (Z : Cz w K h mg) : mg "Form" = some (.ref (He.ga K "Form")) := He.glo_ok Z.X Z.G (Z.c.t.d.fact 45 (f := .glo "Form") rfl)
theorem Cz.g_Look (Z : Cz w K h mg) : mg "Look" = some (.ref (He.ga K "Look")) := He.glo_ok Z.X Z.G (Z.c.t.d.fact 46 (f := .glo "Look") rfl)
theorem Cz.g_RowReader (Z : Cz w K h mg) : mg "RowReader" = some (.ref (He.ga K "RowReader")) := He.glo_ok Z.X Z.G (Z.c.t.d.fact 47 (f := .glo "RowReader") rfl)
theorem Cz.g_RULES (Z : Cz w K h mg) : mg "RULES" = some (.ref (He.ga K "RULES")) := He.glo_ok Z.X Z.G (Z.c.t.d.fact 48 (f := .glo "RULES") rfl)
theorem Cz.g_LENGTHS (Z : Cz w K h mg) : mg "LENGTHS" = some (.ref (He.ga K "LENGTHS")) := He.glo_ok Z.X Z.G (Z.c.t.d.fact 49 (f := .glo "LENGTHS") rfl)
theorem Cz.g_NUMBERED (Z : Cz w K h mg) : mg "NUMBERED" = some (.ref (He.ga K "NUMBERED")) := He.glo_ok Z.X Z.G (Z.c.t.d.fact 50 (f := .glo "NUMBERED") rfl)
theorem Cz.g_BadProgram (Z : Cz w K h mg) : mg "BadProgram" = some (.ref (He.ga K "BadProgram")) := He.glo_ok Z.X Z.G (Z.c.t.d.fact 95 (f := .glo "BadProgram") rfl)
theorem Cz.g_BadText (Z : Cz w K h mg) : mg "BadText" = some (.ref (He.ga K "BadText")) := He.glo_ok Z.X Z.G (Z.c.t.d.fact 99 (f := .glo "BadText") rfl)
theorem Cz.z_super (Z : Cz w K h mg) : mg "super" = none := He.free_ok Z.X Z.G (Z.c.t.d.fact 102 (f := .free "super") rfl)
theorem Cz.g_NestError (Z : Cz w K h mg) : mg "NestError" = some (.ref (He.ga K "NestError")) := He.glo_ok Z.X Z.G (Z.c.t.d.fact 103 (f := .glo "NestError") rfl)
theorem Cz.i_LAST_NUMBER (Z : Cz w K h mg) : ∃ t, mg "LAST_NUMBER" = some (.int (10006) t) := He.int_ok Z.X Z.G (Z.c.t.d.fact 51 (f := .int "LAST_NUMBER" (10006)) rfl)
theorem Cz.i_MOST_DEPTH (Z : Cz w K h mg) : ∃ t, mg "MOST_DEPTH" = some (.int (3) t) := He.int_ok Z.X Z.G (Z.c.t.d.fact 52 (f := .int "MOST_DEPTH" (3)) rfl)
theorem Cz.i_MOST_FUNCTIONS (Z : Cz w K h mg) : ∃ t, mg "MOST_FUNCTIONS" = some (.int (6) t) := He.int_ok Z.X Z.G (Z.c.t.d.fact 53 (f := .int "MOST_FUNCTIONS" (6)) rfl)
theorem Cz.i_MOST_PARAMS (Z : Cz w K h mg) : ∃ t, mg "MOST_PARAMS" = some (.int (4) t) := He.int_ok Z.X Z.G (Z.c.t.d.fact 54 (f := .int "MOST_PARAMS" (4)) rfl)
theorem Cz.i_LAST_NAME (Z : Cz w K h mg) : ∃ t, mg "LAST_NAME" = some (.int (19) t) := He.int_ok Z.X Z.G (Z.c.t.d.fact 55 (f := .int "LAST_NAME" (19)) rfl)
theorem Cz.i_LAST_PLACE (Z : Cz w K h mg) : ∃ t, mg "LAST_PLACE" = some (.int (59) t) := He.int_ok Z.X Z.G (Z.c.t.d.fact 56 (f := .int "LAST_PLACE" (59)) rfl)
theorem Cz.i_MOST_WITHIN (Z : Cz w K h mg) : ∃ t, mg "MOST_WITHIN" = some (.int (12) t) := He.int_ok Z.X Z.G (Z.c.t.d.fact 57 (f := .int "MOST_WITHIN" (12)) rfl)
theorem Cz.i_NO_DEPTH (Z : Cz w K h mg) : ∃ t, mg "NO_DEPTH" = some (.int (-1) t) := He.int_ok Z.X Z.G (Z.c.t.d.fact 58 (f := .int "NO_DEPTH" (-1)) rfl)
theorem Cz.i_MOST_FIGURES (Z : Cz w K h mg) : ∃ t, mg "MOST_FIGURES" = some (.int (5) t) := He.int_ok Z.X Z.G (Z.c.t.d.fact 59 (f := .int "MOST_FIGURES" (5)) rfl)
theorem Cz.xm_BadProgram_NestError (Z : Cz w K h mg) : PySem.W.exmOne K (.ref (He.ga K "BadProgram")) (.ref (He.ga K "NestError")) = some true := He.exm_ok (Z.c.t.d.fact 104 (f := .exm "BadProgram" "NestError" true) rfl)
theorem Cz.xm_BadText_NestError (Z : Cz w K h mg) : PySem.W.exmOne K (.ref (He.ga K "BadText")) (.ref (He.ga K "NestError")) = some true := He.exm_ok (Z.c.t.d.fact 105 (f := .exm "BadText" "NestError" true) rfl)
theorem Cz.na_BadProgram_function (Z : Cz w K h mg) : PySem.W.findIn K (.ref (He.ga K "BadProgram")) "function" = some none := He.noat_ok (Z.c.t.d.fact 96 (f := .noat "BadProgram" "function") rfl)
theorem Cz.na_BadProgram_place (Z : Cz w K h mg) : PySem.W.findIn K (.ref (He.ga K "BadProgram")) "place" = some none := He.noat_ok (Z.c.t.d.fact 97 (f := .noat "BadProgram" "place") rfl)
theorem Cz.na_BadProgram_word (Z : Cz w K h mg) : PySem.W.findIn K (.ref (He.ga K "BadProgram")) "word" = some none := He.noat_ok (Z.c.t.d.fact 98 (f := .noat "BadProgram" "word") rfl)
theorem Cz.na_BadText_row (Z : Cz w K h mg) : PySem.W.findIn K (.ref (He.ga K "BadText")) "row" = some none := He.noat_ok (Z.c.t.d.fact 100 (f := .noat "BadText" "row") rfl)
theorem Cz.na_BadText_place (Z : Cz w K h mg) : PySem.W.findIn K (.ref (He.ga K "BadText")) "place" = some none := He.noat_ok (Z.c.t.d.fact 101 (f := .noat "BadText" "place") rfl)
theorem Cz.f_is_number (Z : Cz w K h mg) : ∃ fd, FnP K "is_number" sIsNumber (He.ga K "is_number") fd := Z.c.t.d.def_ 0 (d := NH.dOf "is_number" 9) rfl
theorem Cz.f_of_num (Z : Cz w K h mg) : ∃ fd, FnP K "of_num" sOfNum (He.ga K "of_num") fd := Z.c.t.d.def_ 1 (d := NH.dOf "of_num" 12) rfl
theorem Cz.f_of_two_numbers (Z : Cz w K h mg) : ∃ fd, FnP K "of_two_numbers" sOfTwoNumbers (He.ga K "of_two_numbers") fd := Z.c.t.d.def_ 2 (d := NH.dOf "of_two_numbers" 13) rfl
theorem Cz.f_of_if (Z : Cz w K h mg) : ∃ fd, FnP K "of_if" sOfIf (He.ga K "of_if") fd := Z.c.t.d.def_ 3 (d := NH.dOf "of_if" 14) rfl
theorem Cz.f_of_let (Z : Cz w K h mg) : ∃ fd, FnP K "of_let" sOfLet (He.ga K "of_let") fd := Z.c.t.d.def_ 4 (d := NH.dOf "of_let" 15) rfl
theorem Cz.f_of_upto (Z : Cz w K h mg) : ∃ fd, FnP K "of_upto" sOfUpto (He.ga K "of_upto") fd := Z.c.t.d.def_ 5 (d := NH.dOf "of_upto" 16) rfl
theorem Cz.f_of_len (Z : Cz w K h mg) : ∃ fd, FnP K "of_len" sOfLen (He.ga K "of_len") fd := Z.c.t.d.def_ 6 (d := NH.dOf "of_len" 17) rfl
theorem Cz.f_of_sum (Z : Cz w K h mg) : ∃ fd, FnP K "of_sum" sOfSum (He.ga K "of_sum") fd := Z.c.t.d.def_ 7 (d := NH.dOf "of_sum" 18) rfl
theorem Cz.f_of_sums (Z : Cz w K h mg) : ∃ fd, FnP K "of_sums" sOfSums (He.ga K "of_sums") fd := Z.c.t.d.def_ 8 (d := NH.dOf "of_sums" 19) rfl
theorem Cz.f_of_one (Z : Cz w K h mg) : ∃ fd, FnP K "of_one" sOfOne (He.ga K "of_one") fd := Z.c.t.d.def_ 9 (d := NH.dOf "of_one" 20) rfl
theorem Cz.f_of_pick (Z : Cz w K h mg) : ∃ fd, FnP K "of_pick" sOfPick (He.ga K "of_pick") fd := Z.c.t.d.def_ 10 (d := NH.dOf "of_pick" 21) rfl
theorem Cz.f_of_put (Z : Cz w K h mg) : ∃ fd, FnP K "of_put" sOfPut (He.ga K "of_put") fd := Z.c.t.d.def_ 11 (d := NH.dOf "of_put" 22) rfl
theorem Cz.f_of_flat (Z : Cz w K h mg) : ∃ fd, FnP K "of_flat" sOfFlat (He.ga K "of_flat") fd := Z.c.t.d.def_ 12 (d := NH.dOf "of_flat" 23) rfl
theorem Cz.f_of_each (Z : Cz w K h mg) : ∃ fd, FnP K "of_each" sOfEach (He.ga K "of_each") fd := Z.c.t.d.def_ 13 (d := NH.dOf "of_each" 24) rfl
theorem Cz.f_of_where (Z : Cz w K h mg) : ∃ fd, FnP K "of_where" sOfWhere (He.ga K "of_where") fd := Z.c.t.d.def_ 14 (d := NH.dOf "of_where" 25) rfl
theorem Cz.f_depth_of (Z : Cz w K h mg) : ∃ fd, FnP K "depth_of" sDepthOf (He.ga K "depth_of") fd := Z.c.t.d.def_ 15 (d := NH.dOf "depth_of" 27) rfl
theorem Cz.f_last_number (Z : Cz w K h mg) : ∃ fd, FnP K "last_number" sLastNumber (He.ga K "last_number") fd := Z.c.t.d.def_ 16 (d := NH.dOf "last_number" 35) rfl
theorem Cz.f_has_shape (Z : Cz w K h mg) : ∃ fd, FnP K "has_shape" sHasShape (He.ga K "has_shape") fd := Z.c.t.d.def_ 17 (d := NH.dOf "has_shape" 36) rfl
theorem Cz.f_number_of (Z : Cz w K h mg) : ∃ fd, FnP K "number_of" sNumberOf (He.ga K "number_of") fd := Z.c.t.d.def_ 18 (d := NH.dOf "number_of" 37) rfl
theorem Cz.f_parts_of (Z : Cz w K h mg) : ∃ fd, FnP K "parts_of" sPartsOf (He.ga K "parts_of") fd := Z.c.t.d.def_ 19 (d := NH.dOf "parts_of" 38) rfl
theorem Cz.f_has_face (Z : Cz w K h mg) : ∃ fd, FnP K "has_face" sHasFace (He.ga K "has_face") fd := Z.c.t.d.def_ 20 (d := NH.dOf "has_face" 43) rfl
theorem Cz.f_is_param (Z : Cz w K h mg) : ∃ fd, FnP K "is_param" sIsParam (He.ga K "is_param") fd := Z.c.t.d.def_ 21 (d := NH.dOf "is_param" 44) rfl
theorem Cz.f_told_faces (Z : Cz w K h mg) : ∃ fd, FnP K "told_faces" sToldFaces (He.ga K "told_faces") fd := Z.c.t.d.def_ 22 (d := NH.dOf "told_faces" 45) rfl
theorem Cz.f_form_of (Z : Cz w K h mg) : ∃ fd, FnP K "form_of" sFormOf (He.ga K "form_of") fd := Z.c.t.d.def_ 23 (d := NH.dOf "form_of" 46) rfl
theorem Cz.f_faces (Z : Cz w K h mg) : ∃ fd, FnP K "faces" sFaces (He.ga K "faces") fd := Z.c.t.d.def_ 24 (d := NH.dOf "faces" 47) rfl
theorem Cz.f_is_numeral (Z : Cz w K h mg) : ∃ fd, FnP K "is_numeral" sIsNumeral (He.ga K "is_numeral") fd := Z.c.t.d.def_ 25 (d := NH.dOf "is_numeral" 50) rfl
theorem Cz.f_read (Z : Cz w K h mg) : ∃ fd, FnP K "read" sRead (He.ga K "read") fd := Z.c.t.d.def_ 26 (d := NH.dOf "read" 52) rfl
theorem Cz.f__law_taken (Z : Cz w K h mg) : ∃ fd, FnP K "_law_taken" sLawTaken (He.ga K "_law_taken") fd := Z.c.t.d.def_ 27 (d := NH.dOf "_law_taken" 54) rfl
theorem Cz.f__law_kind (Z : Cz w K h mg) : ∃ fd, FnP K "_law_kind" sLawKind (He.ga K "_law_kind") fd := Z.c.t.d.def_ 28 (d := NH.dOf "_law_kind" 55) rfl
theorem Cz.f__law_calls (Z : Cz w K h mg) : ∃ fd, FnP K "_law_calls" sLawCalls (He.ga K "_law_calls") fd := Z.c.t.d.def_ 29 (d := NH.dOf "_law_calls" 56) rfl
theorem Cz.l__law_calls (Z : Cz w K h mg) : ∃ fd, FunL K "_law_calls" sLawCalls (He.ga K "_law_calls") fd (He.cT K ("_law_calls", none)).1 ∧ FnP K "_law_calls" sLawCalls (He.ga K "_law_calls") fd := by
  obtain ⟨fd, F⟩ := Z.f__law_calls
  obtain ⟨oc, od, dV, kV, doc, pm, an, cdv, ct, osl, rfl, lk, hcd, _, _⟩ := id F.ex
  obtain ⟨c, rfl⟩ := He.codeIn_ref hcd
  have e : (He.cT K ("_law_calls", none)).1 = c := He.codeOf_eq lk rfl
  refine ⟨_, ⟨oc, od, dV, kV, doc, pm, an, ct, osl, ?_, lk, ?_⟩, F⟩
  · rw [e]
  · rw [e]
    exact hcd
theorem Cz.f__law_names (Z : Cz w K h mg) : ∃ fd, FnP K "_law_names" sLawNames (He.ga K "_law_names") fd := Z.c.t.d.def_ 30 (d := NH.dOf "_law_names" 57) rfl
theorem Cz.l__law_names (Z : Cz w K h mg) : ∃ fd, FunL K "_law_names" sLawNames (He.ga K "_law_names") fd (He.cT K ("_law_names", none)).1 ∧ FnP K "_law_names" sLawNames (He.ga K "_law_names") fd := by
  obtain ⟨fd, F⟩ := Z.f__law_names
  obtain ⟨oc, od, dV, kV, doc, pm, an, cdv, ct, osl, rfl, lk, hcd, _, _⟩ := id F.ex
  obtain ⟨c, rfl⟩ := He.codeIn_ref hcd
  have e : (He.cT K ("_law_names", none)).1 = c := He.codeOf_eq lk rfl
  refine ⟨_, ⟨oc, od, dV, kV, doc, pm, an, ct, osl, ?_, lk, ?_⟩, F⟩
  · rw [e]
  · rw [e]
    exact hcd
theorem Cz.f_law (Z : Cz w K h mg) : ∃ fd, FnP K "law" sLaw (He.ga K "law") fd := Z.c.t.d.def_ 31 (d := NH.dOf "law" 58) rfl
theorem Cz.l_law (Z : Cz w K h mg) : ∃ fd, FunL K "law" sLaw (He.ga K "law") fd (He.cT K ("law", none)).1 ∧ FnP K "law" sLaw (He.ga K "law") fd := by
  obtain ⟨fd, F⟩ := Z.f_law
  obtain ⟨oc, od, dV, kV, doc, pm, an, cdv, ct, osl, rfl, lk, hcd, _, _⟩ := id F.ex
  obtain ⟨c, rfl⟩ := He.codeIn_ref hcd
  have e : (He.cT K ("law", none)).1 = c := He.codeOf_eq lk rfl
  refine ⟨_, ⟨oc, od, dV, kV, doc, pm, an, ct, osl, ?_, lk, ?_⟩, F⟩
  · rw [e]
  · rw [e]
    exact hcd
theorem Cz.f_Nodeinit (Z : Cz w K h mg) : ∃ fd, FnM K "__init__" "Node.__init__" sNodeInit (He.ma K (He.ga K "Node") "__init__") fd := Z.c.t.d.def_ 32 (d := NH.mOf "Node" "__init__" "Node.__init__" 40 0) rfl
theorem Cz.m_Nodeinit (Z : Cz w K h mg) : Mk K (He.ga K "Node") (He.ma K (He.ga K "Node") "__init__") := He.mkr_ok (Z.c.t.d.fact 61 (f := .mkr "Node") rfl)
theorem Cz.f_Forminit (Z : Cz w K h mg) : ∃ fd, FnM K "__init__" "Form.__init__" sFormInit (He.ma K (He.ga K "Form") "__init__") fd := Z.c.t.d.def_ 33 (d := NH.mOf "Form" "__init__" "Form.__init__" 41 0) rfl
theorem Cz.m_Forminit (Z : Cz w K h mg) : Mk K (He.ga K "Form") (He.ma K (He.ga K "Form") "__init__") := He.mkr_ok (Z.c.t.d.fact 69 (f := .mkr "Form") rfl)
theorem Cz.f_Lookinit (Z : Cz w K h mg) : ∃ fd, FnM K "__init__" "Look.__init__" sLookInit (He.ma K (He.ga K "Look") "__init__") fd := Z.c.t.d.def_ 34 (d := NH.mOf "Look" "__init__" "Look.__init__" 42 0) rfl
theorem Cz.m_Lookinit (Z : Cz w K h mg) : Mk K (He.ga K "Look") (He.ma K (He.ga K "Look") "__init__") := He.mkr_ok (Z.c.t.d.fact 74 (f := .mkr "Look") rfl)
theorem Cz.f_Lookrefuse_if (Z : Cz w K h mg) : ∃ fd, FnM K "refuse_if" "Look.refuse_if" sLookRefuseIf (He.ma K (He.ga K "Look") "refuse_if") fd := Z.c.t.d.def_ 35 (d := NH.mOf "Look" "refuse_if" "Look.refuse_if" 42 1) rfl
theorem Cz.m_Lookrefuse_if (Z : Cz w K h mg) : Meth K (He.ga K "Look") "refuse_if" (He.ma K (He.ga K "Look") "refuse_if") := He.meth_ok (Z.c.t.d.fact 79 (f := .meth "Look" "refuse_if") rfl)
theorem Cz.f_Looknode_of (Z : Cz w K h mg) : ∃ fd, FnM K "node_of" "Look.node_of" sLookNodeOf (He.ma K (He.ga K "Look") "node_of") fd := Z.c.t.d.def_ 36 (d := NH.mOf "Look" "node_of" "Look.node_of" 42 2) rfl
theorem Cz.m_Looknode_of (Z : Cz w K h mg) : Meth K (He.ga K "Look") "node_of" (He.ma K (He.ga K "Look") "node_of") := He.meth_ok (Z.c.t.d.fact 80 (f := .meth "Look" "node_of") rfl)
theorem Cz.f_Lookmay_call (Z : Cz w K h mg) : ∃ fd, FnM K "may_call" "Look.may_call" sLookMayCall (He.ma K (He.ga K "Look") "may_call") fd := Z.c.t.d.def_ 37 (d := NH.mOf "Look" "may_call" "Look.may_call" 42 3) rfl
theorem Cz.m_Lookmay_call (Z : Cz w K h mg) : Meth K (He.ga K "Look") "may_call" (He.ma K (He.ga K "Look") "may_call") := He.meth_ok (Z.c.t.d.fact 81 (f := .meth "Look" "may_call") rfl)
theorem Cz.f_Lookparts_that_name (Z : Cz w K h mg) : ∃ fd, FnM K "parts_that_name" "Look.parts_that_name" sLookPartsThatName (He.ma K (He.ga K "Look") "parts_that_name") fd := Z.c.t.d.def_ 38 (d := NH.mOf "Look" "parts_that_name" "Look.parts_that_name" 42 4) rfl
theorem Cz.m_Lookparts_that_name (Z : Cz w K h mg) : Meth K (He.ga K "Look") "parts_that_name" (He.ma K (He.ga K "Look") "parts_that_name") := He.meth_ok (Z.c.t.d.fact 82 (f := .meth "Look" "parts_that_name") rfl)
theorem Cz.f_Lookdepth_told (Z : Cz w K h mg) : ∃ fd, FnM K "depth_told" "Look.depth_told" sLookDepthTold (He.ma K (He.ga K "Look") "depth_told") fd := Z.c.t.d.def_ 39 (d := NH.mOf "Look" "depth_told" "Look.depth_told" 42 5) rfl
theorem Cz.m_Lookdepth_told (Z : Cz w K h mg) : Meth K (He.ga K "Look") "depth_told" (He.ma K (He.ga K "Look") "depth_told") := He.meth_ok (Z.c.t.d.fact 83 (f := .meth "Look" "depth_told") rfl)
theorem Cz.f_RowReaderinit (Z : Cz w K h mg) : ∃ fd, FnM K "__init__" "RowReader.__init__" sRowReaderInit (He.ma K (He.ga K "RowReader") "__init__") fd := Z.c.t.d.def_ 40 (d := NH.mOf "RowReader" "__init__" "RowReader.__init__" 51 0) rfl
theorem Cz.m_RowReaderinit (Z : Cz w K h mg) : Mk K (He.ga K "RowReader") (He.ma K (He.ga K "RowReader") "__init__") := He.mkr_ok (Z.c.t.d.fact 85 (f := .mkr "RowReader") rfl)
theorem Cz.f_RowReaderupcoming (Z : Cz w K h mg) : ∃ fd, FnM K "upcoming" "RowReader.upcoming" sRowReaderUpcoming (He.ma K (He.ga K "RowReader") "upcoming") fd := Z.c.t.d.def_ 41 (d := NH.mOf "RowReader" "upcoming" "RowReader.upcoming" 51 1) rfl
theorem Cz.m_RowReaderupcoming (Z : Cz w K h mg) : Meth K (He.ga K "RowReader") "upcoming" (He.ma K (He.ga K "RowReader") "upcoming") := He.meth_ok (Z.c.t.d.fact 89 (f := .meth "RowReader" "upcoming") rfl)
theorem Cz.f_RowReadernext_word (Z : Cz w K h mg) : ∃ fd, FnM K "next_word" "RowReader.next_word" sRowReaderNextWord (He.ma K (He.ga K "RowReader") "next_word") fd := Z.c.t.d.def_ 42 (d := NH.mOf "RowReader" "next_word" "RowReader.next_word" 51 2) rfl
theorem Cz.m_RowReadernext_word (Z : Cz w K h mg) : Meth K (He.ga K "RowReader") "next_word" (He.ma K (He.ga K "RowReader") "next_word") := He.meth_ok (Z.c.t.d.fact 90 (f := .meth "RowReader" "next_word") rfl)
theorem Cz.f_RowReadernumeral (Z : Cz w K h mg) : ∃ fd, FnM K "numeral" "RowReader.numeral" sRowReaderNumeral (He.ma K (He.ga K "RowReader") "numeral") fd := Z.c.t.d.def_ 43 (d := NH.mOf "RowReader" "numeral" "RowReader.numeral" 51 3) rfl
theorem Cz.m_RowReadernumeral (Z : Cz w K h mg) : Meth K (He.ga K "RowReader") "numeral" (He.ma K (He.ga K "RowReader") "numeral") := He.meth_ok (Z.c.t.d.fact 91 (f := .meth "RowReader" "numeral") rfl)
theorem Cz.f_RowReadersign (Z : Cz w K h mg) : ∃ fd, FnM K "sign" "RowReader.sign" sRowReaderSign (He.ma K (He.ga K "RowReader") "sign") fd := Z.c.t.d.def_ 44 (d := NH.mOf "RowReader" "sign" "RowReader.sign" 51 4) rfl
theorem Cz.m_RowReadersign (Z : Cz w K h mg) : Meth K (He.ga K "RowReader") "sign" (He.ma K (He.ga K "RowReader") "sign") := He.meth_ok (Z.c.t.d.fact 92 (f := .meth "RowReader" "sign") rfl)
theorem Cz.f_RowReaderfunction_told (Z : Cz w K h mg) : ∃ fd, FnM K "function_told" "RowReader.function_told" sRowReaderFunctionTold (He.ma K (He.ga K "RowReader") "function_told") fd := Z.c.t.d.def_ 45 (d := NH.mOf "RowReader" "function_told" "RowReader.function_told" 51 5) rfl
theorem Cz.m_RowReaderfunction_told (Z : Cz w K h mg) : Meth K (He.ga K "RowReader") "function_told" (He.ma K (He.ga K "RowReader") "function_told") := He.meth_ok (Z.c.t.d.fact 93 (f := .meth "RowReader" "function_told") rfl)
theorem Cz.f_RowReaderexpression (Z : Cz w K h mg) : ∃ fd, FnM K "expression" "RowReader.expression" sRowReaderExpression (He.ma K (He.ga K "RowReader") "expression") fd := Z.c.t.d.def_ 46 (d := NH.mOf "RowReader" "expression" "RowReader.expression" 51 6) rfl
theorem Cz.m_RowReaderexpression (Z : Cz w K h mg) : Meth K (He.ga K "RowReader") "expression" (He.ma K (He.ga K "RowReader") "expression") := He.meth_ok (Z.c.t.d.fact 94 (f := .meth "RowReader" "expression") rfl)
theorem Cz.c_Node (Z : Cz w K h mg) : NdC K (He.ga K "Node") := ⟨He.cls_ok (Z.c.t.d.fact 60 (f := .cls "Node") rfl), He.noat_ok (Z.c.t.d.fact 62 (f := .noat "Node" "word") rfl), He.noat_ok (Z.c.t.d.fact 63 (f := .noat "Node" "function") rfl), He.noat_ok (Z.c.t.d.fact 64 (f := .noat "Node" "place") rfl), He.noat_ok (Z.c.t.d.fact 65 (f := .noat "Node" "number") rfl), He.noat_ok (Z.c.t.d.fact 66 (f := .noat "Node" "parts") rfl), He.noat_ok (Z.c.t.d.fact 67 (f := .noat "Node" "depth") rfl)⟩
theorem Cz.c_Form (Z : Cz w K h mg) : FmC K (He.ga K "Form") := ⟨He.cls_ok (Z.c.t.d.fact 68 (f := .cls "Form") rfl), He.noat_ok (Z.c.t.d.fact 70 (f := .noat "Form" "names") rfl), He.noat_ok (Z.c.t.d.fact 71 (f := .noat "Form" "depths") rfl), He.noat_ok (Z.c.t.d.fact 72 (f := .noat "Form" "body") rfl)⟩
theorem Cz.c_Look (Z : Cz w K h mg) : LkC K (He.ga K "Look") := ⟨He.cls_ok (Z.c.t.d.fact 73 (f := .cls "Look") rfl), He.noat_ok (Z.c.t.d.fact 75 (f := .noat "Look" "known") rfl), He.noat_ok (Z.c.t.d.fact 76 (f := .noat "Look" "function") rfl), He.noat_ok (Z.c.t.d.fact 77 (f := .noat "Look" "looked_at") rfl), He.noat_ok (Z.c.t.d.fact 78 (f := .noat "Look" "calls_itself") rfl)⟩
theorem Cz.c_RowReader (Z : Cz w K h mg) : RrC K (He.ga K "RowReader") := ⟨He.cls_ok (Z.c.t.d.fact 84 (f := .cls "RowReader") rfl), He.noat_ok (Z.c.t.d.fact 86 (f := .noat "RowReader" "row") rfl), He.noat_ok (Z.c.t.d.fact 87 (f := .noat "RowReader" "words") rfl), He.noat_ok (Z.c.t.d.fact 88 (f := .noat "RowReader" "place") rfl)⟩
theorem Cz.ex (Z : Cz w K h mg) : (NH.errB K "BadProgram" "BadProgram.__init__" PySem.Challenge.pw_nestrows_k22_corners_told_by_hand.main.file = true) ∧ (NH.errB K "BadText" "BadText.__init__" PySem.Challenge.pw_nestrows_k22_corners_told_by_hand.main.file = true) ∧ (decide (PySem.W.kitOne K (.ref (He.ga K "BadProgram")) (.ref (He.ga K "BadProgram")) = some true) = true) ∧ (decide (PySem.W.kitOne K (.ref (He.ga K "BadText")) (.ref (He.ga K "BadProgram")) = some false) = true) ∧ (decide (PySem.W.kitOne K (.ref (He.ga K "BadText")) (.ref (He.ga K "BadText")) = some true) = true) ∧ (decide ((He.cT K ("_law_names", none)).2 ≠ (He.cT K ("_law_calls", none)).2) = true) ∧ (decide ((He.cT K ("law", none)).2 ≠ (He.cT K ("_law_calls", none)).2) = true) ∧ (decide ((He.cT K ("law", none)).2 ≠ (He.cT K ("_law_names", none)).2) = true) ∧ (He.valsB K (He.ga K "RULES") NH.tRules = true) ∧ (He.valsB K (He.ga K "LENGTHS") NH.tLengths = true) ∧ (He.tupB K "NUMBERED" NH.uNumbered = true) := by
  have h0 := Z.c.more
  obtain ⟨a0, h1⟩ := He.ba h0
  obtain ⟨a1, h2⟩ := He.ba h1
  obtain ⟨a2, h3⟩ := He.ba h2
  obtain ⟨a3, h4⟩ := He.ba h3
  obtain ⟨a4, h5⟩ := He.ba h4
  obtain ⟨a5, h6⟩ := He.ba h5
  obtain ⟨a6, h7⟩ := He.ba h6
  obtain ⟨a7, h8⟩ := He.ba h7
  obtain ⟨a8, h9⟩ := He.ba h8
  obtain ⟨a9, h10⟩ := He.ba h9
  exact ⟨a0, a1, a2, a3, a4, a5, a6, a7, a8, a9, h10⟩
theorem Cz.x2 (Z : Cz w K h mg) : PySem.W.kitOne K (.ref (He.ga K "BadProgram")) (.ref (He.ga K "BadProgram")) = some true := of_decide_eq_true (Z.ex.2.2.1)
theorem Cz.x3 (Z : Cz w K h mg) : PySem.W.kitOne K (.ref (He.ga K "BadText")) (.ref (He.ga K "BadProgram")) = some false := of_decide_eq_true (Z.ex.2.2.2.1)
theorem Cz.x4 (Z : Cz w K h mg) : PySem.W.kitOne K (.ref (He.ga K "BadText")) (.ref (He.ga K "BadText")) = some true := of_decide_eq_true (Z.ex.2.2.2.2.1)
theorem Cz.x5 (Z : Cz w K h mg) : (He.cT K ("_law_names", none)).2 ≠ (He.cT K ("_law_calls", none)).2 := of_decide_eq_true (Z.ex.2.2.2.2.2.1)
theorem Cz.x6 (Z : Cz w K h mg) : (He.cT K ("law", none)).2 ≠ (He.cT K ("_law_calls", none)).2 := of_decide_eq_true (Z.ex.2.2.2.2.2.2.1)
theorem Cz.x7 (Z : Cz w K h mg) : (He.cT K ("law", none)).2 ≠ (He.cT K ("_law_names", none)).2 := of_decide_eq_true (Z.ex.2.2.2.2.2.2.2.1)
theorem Cz.numT (Z : Cz w K h mg) (H : Hp) : SqT K H (He.ga K "NUMBERED") numW := He.tupB_ok (Z.ex.2.2.2.2.2.2.2.2.2.2) H
theorem Cz.lenTb (Z : Cz w K h mg) : Tbl K w (He.ga K "LENGTHS") gLen := by
  refine ⟨Z.c.t.tab 1, fun x v hv => ?_⟩
  cases hv
  cases x with
  | num => exact He.valsB_ok (Z.ex.2.2.2.2.2.2.2.2.2.1) (q := ("num", .int 2)) (List.mem_of_getElem? (i := 0) rfl)
  | name => exact He.valsB_ok (Z.ex.2.2.2.2.2.2.2.2.2.1) (q := ("name", .int 2)) (List.mem_of_getElem? (i := 1) rfl)
  | plus => exact He.valsB_ok (Z.ex.2.2.2.2.2.2.2.2.2.1) (q := ("plus", .int 3)) (List.mem_of_getElem? (i := 2) rfl)
  | minus => exact He.valsB_ok (Z.ex.2.2.2.2.2.2.2.2.2.1) (q := ("minus", .int 3)) (List.mem_of_getElem? (i := 3) rfl)
  | times => exact He.valsB_ok (Z.ex.2.2.2.2.2.2.2.2.2.1) (q := ("times", .int 3)) (List.mem_of_getElem? (i := 4) rfl)
  | less => exact He.valsB_ok (Z.ex.2.2.2.2.2.2.2.2.2.1) (q := ("less", .int 3)) (List.mem_of_getElem? (i := 5) rfl)
  | same => exact He.valsB_ok (Z.ex.2.2.2.2.2.2.2.2.2.1) (q := ("same", .int 3)) (List.mem_of_getElem? (i := 6) rfl)
  | ite => exact He.valsB_ok (Z.ex.2.2.2.2.2.2.2.2.2.1) (q := ("if", .int 4)) (List.mem_of_getElem? (i := 7) rfl)
  | elet => exact He.valsB_ok (Z.ex.2.2.2.2.2.2.2.2.2.1) (q := ("let", .int 4)) (List.mem_of_getElem? (i := 8) rfl)
  | upto => exact He.valsB_ok (Z.ex.2.2.2.2.2.2.2.2.2.1) (q := ("upto", .int 2)) (List.mem_of_getElem? (i := 9) rfl)
  | len => exact He.valsB_ok (Z.ex.2.2.2.2.2.2.2.2.2.1) (q := ("len", .int 2)) (List.mem_of_getElem? (i := 10) rfl)
  | sum => exact He.valsB_ok (Z.ex.2.2.2.2.2.2.2.2.2.1) (q := ("sum", .int 2)) (List.mem_of_getElem? (i := 11) rfl)
  | sums => exact He.valsB_ok (Z.ex.2.2.2.2.2.2.2.2.2.1) (q := ("sums", .int 2)) (List.mem_of_getElem? (i := 12) rfl)
  | one => exact He.valsB_ok (Z.ex.2.2.2.2.2.2.2.2.2.1) (q := ("one", .int 2)) (List.mem_of_getElem? (i := 13) rfl)
  | pick => exact He.valsB_ok (Z.ex.2.2.2.2.2.2.2.2.2.1) (q := ("pick", .int 3)) (List.mem_of_getElem? (i := 14) rfl)
  | put => exact He.valsB_ok (Z.ex.2.2.2.2.2.2.2.2.2.1) (q := ("put", .int 3)) (List.mem_of_getElem? (i := 15) rfl)
  | flat => exact He.valsB_ok (Z.ex.2.2.2.2.2.2.2.2.2.1) (q := ("flat", .int 2)) (List.mem_of_getElem? (i := 16) rfl)
  | each => exact He.valsB_ok (Z.ex.2.2.2.2.2.2.2.2.2.1) (q := ("each", .int 4)) (List.mem_of_getElem? (i := 17) rfl)
  | whr => exact He.valsB_ok (Z.ex.2.2.2.2.2.2.2.2.2.1) (q := ("where", .int 4)) (List.mem_of_getElem? (i := 18) rfl)
  | call => exact He.valsB_ok (Z.ex.2.2.2.2.2.2.2.2.2.1) (q := ("call", .int 3)) (List.mem_of_getElem? (i := 19) rfl)
def gRul (K : PySem.W.Frag) : W → Option V
  | .num => some (.ref (He.ga K "of_num"))
  | .plus => some (.ref (He.ga K "of_two_numbers"))
  | .minus => some (.ref (He.ga K "of_two_numbers"))
  | .times => some (.ref (He.ga K "of_two_numbers"))
  | .less => some (.ref (He.ga K "of_two_numbers"))
  | .same => some (.ref (He.ga K "of_two_numbers"))
  | .ite => some (.ref (He.ga K "of_if"))
  | .elet => some (.ref (He.ga K "of_let"))
  | .upto => some (.ref (He.ga K "of_upto"))
  | .len => some (.ref (He.ga K "of_len"))
  | .sum => some (.ref (He.ga K "of_sum"))
  | .sums => some (.ref (He.ga K "of_sums"))
  | .one => some (.ref (He.ga K "of_one"))
  | .pick => some (.ref (He.ga K "of_pick"))
  | .put => some (.ref (He.ga K "of_put"))
  | .flat => some (.ref (He.ga K "of_flat"))
  | .each => some (.ref (He.ga K "of_each"))
  | .whr => some (.ref (He.ga K "of_where"))
  | _ => none
theorem Cz.rulTb (Z : Cz w K h mg) : Tbl K w (He.ga K "RULES") (gRul K) := by
  refine ⟨Z.c.t.tab 0, fun x v hv => ?_⟩
  cases x with
  | num =>
    cases hv
    exact He.valsB_ok (Z.ex.2.2.2.2.2.2.2.2.1) (q := ("num", .glo "of_num")) (List.mem_of_getElem? (i := 0) rfl)
  | plus =>
    cases hv
    exact He.valsB_ok (Z.ex.2.2.2.2.2.2.2.2.1) (q := ("plus", .glo "of_two_numbers")) (List.mem_of_getElem? (i := 1) rfl)
  | minus =>
    cases hv
    exact He.valsB_ok (Z.ex.2.2.2.2.2.2.2.2.1) (q := ("minus", .glo "of_two_numbers")) (List.mem_of_getElem? (i := 2) rfl)
  | times =>
    cases hv
    exact He.valsB_ok (Z.ex.2.2.2.2.2.2.2.2.1) (q := ("times", .glo "of_two_numbers")) (List.mem_of_getElem? (i := 3) rfl)
  | less =>
    cases hv
    exact He.valsB_ok (Z.ex.2.2.2.2.2.2.2.2.1) (q := ("less", .glo "of_two_numbers")) (List.mem_of_getElem? (i := 4) rfl)
  | same =>
    cases hv
    exact He.valsB_ok (Z.ex.2.2.2.2.2.2.2.2.1) (q := ("same", .glo "of_two_numbers")) (List.mem_of_getElem? (i := 5) rfl)
  | ite =>
    cases hv
    exact He.valsB_ok (Z.ex.2.2.2.2.2.2.2.2.1) (q := ("if", .glo "of_if")) (List.mem_of_getElem? (i := 6) rfl)
  | elet =>
    cases hv
    exact He.valsB_ok (Z.ex.2.2.2.2.2.2.2.2.1) (q := ("let", .glo "of_let")) (List.mem_of_getElem? (i := 7) rfl)
  | upto =>
    cases hv
    exact He.valsB_ok (Z.ex.2.2.2.2.2.2.2.2.1) (q := ("upto", .glo "of_upto")) (List.mem_of_getElem? (i := 8) rfl)
  | len =>
    cases hv
    exact He.valsB_ok (Z.ex.2.2.2.2.2.2.2.2.1) (q := ("len", .glo "of_len")) (List.mem_of_getElem? (i := 9) rfl)
  | sum =>
    cases hv
    exact He.valsB_ok (Z.ex.2.2.2.2.2.2.2.2.1) (q := ("sum", .glo "of_sum")) (List.mem_of_getElem? (i := 10) rfl)
  | sums =>
    cases hv
    exact He.valsB_ok (Z.ex.2.2.2.2.2.2.2.2.1) (q := ("sums", .glo "of_sums")) (List.mem_of_getElem? (i := 11) rfl)
  | one =>
    cases hv
    exact He.valsB_ok (Z.ex.2.2.2.2.2.2.2.2.1) (q := ("one", .glo "of_one")) (List.mem_of_getElem? (i := 12) rfl)
  | pick =>
    cases hv
    exact He.valsB_ok (Z.ex.2.2.2.2.2.2.2.2.1) (q := ("pick", .glo "of_pick")) (List.mem_of_getElem? (i := 13) rfl)
  | put =>
    cases hv
    exact He.valsB_ok (Z.ex.2.2.2.2.2.2.2.2.1) (q := ("put", .glo "of_put")) (List.mem_of_getElem? (i := 14) rfl)
  | flat =>
    cases hv
    exact He.valsB_ok (Z.ex.2.2.2.2.2.2.2.2.1) (q := ("flat", .glo "of_flat")) (List.mem_of_getElem? (i := 15) rfl)
  | each =>
    cases hv
    exact He.valsB_ok (Z.ex.2.2.2.2.2.2.2.2.1) (q := ("each", .glo "of_each")) (List.mem_of_getElem? (i := 16) rfl)
  | whr =>
    cases hv
    exact He.valsB_ok (Z.ex.2.2.2.2.2.2.2.2.1) (q := ("where", .glo "of_where")) (List.mem_of_getElem? (i := 17) rfl)
  | name => cases hv
  | call => cases hv
theorem Cz.r_of_num (Z : Cz w K h mg) {x : W} (hg : gRul K x = some (.ref (He.ga K "of_num"))) (hS : ((· = .num) : W → Prop) x) : ∃ (fa : Addr) (fd : FuncData) (S : W → Prop), gRul K x = some (.ref fa) ∧ FnOk P w K mg base CX0 1 fa fd ["depths"] (spOf S) ∧ S x ∧ PySem.W.keepIn K (.ref fa) = true ∧ Binds K fd ["depths"] [] := by
  obtain ⟨fd, F⟩ := Z.f_of_num
  obtain ⟨t0, h0⟩ := Z.i_NO_DEPTH
  obtain ⟨t1, h1⟩ := Z.i_MOST_DEPTH
  exact ⟨_, fd, _, hg, ok_of_num F h0 h1, hS, F.kp, F.bindsN fun _ _ _ _ _ _ us hl => match us, hl with | [_], _ => rfl⟩
theorem Cz.r_of_two_numbers (Z : Cz w K h mg) {x : W} (hg : gRul K x = some (.ref (He.ga K "of_two_numbers"))) (hS : (isTwo : W → Prop) x) : ∃ (fa : Addr) (fd : FuncData) (S : W → Prop), gRul K x = some (.ref fa) ∧ FnOk P w K mg base CX0 1 fa fd ["depths"] (spOf S) ∧ S x ∧ PySem.W.keepIn K (.ref fa) = true ∧ Binds K fd ["depths"] [] := by
  obtain ⟨fd, F⟩ := Z.f_of_two_numbers
  obtain ⟨t0, h0⟩ := Z.i_NO_DEPTH
  obtain ⟨t1, h1⟩ := Z.i_MOST_DEPTH
  exact ⟨_, fd, _, hg, ok_of_two_numbers F h0 h1, hS, F.kp, F.bindsN fun _ _ _ _ _ _ us hl => match us, hl with | [_], _ => rfl⟩
theorem Cz.r_of_if (Z : Cz w K h mg) {x : W} (hg : gRul K x = some (.ref (He.ga K "of_if"))) (hS : ((· = .ite) : W → Prop) x) : ∃ (fa : Addr) (fd : FuncData) (S : W → Prop), gRul K x = some (.ref fa) ∧ FnOk P w K mg base CX0 1 fa fd ["depths"] (spOf S) ∧ S x ∧ PySem.W.keepIn K (.ref fa) = true ∧ Binds K fd ["depths"] [] := by
  obtain ⟨fd, F⟩ := Z.f_of_if
  obtain ⟨t0, h0⟩ := Z.i_NO_DEPTH
  obtain ⟨t1, h1⟩ := Z.i_MOST_DEPTH
  exact ⟨_, fd, _, hg, ok_of_if F h0 h1, hS, F.kp, F.bindsN fun _ _ _ _ _ _ us hl => match us, hl with | [_], _ => rfl⟩
theorem Cz.r_of_let (Z : Cz w K h mg) {x : W} (hg : gRul K x = some (.ref (He.ga K "of_let"))) (hS : ((· = .elet) : W → Prop) x) : ∃ (fa : Addr) (fd : FuncData) (S : W → Prop), gRul K x = some (.ref fa) ∧ FnOk P w K mg base CX0 1 fa fd ["depths"] (spOf S) ∧ S x ∧ PySem.W.keepIn K (.ref fa) = true ∧ Binds K fd ["depths"] [] := by
  obtain ⟨fd, F⟩ := Z.f_of_let
  obtain ⟨t0, h0⟩ := Z.i_NO_DEPTH
  obtain ⟨t1, h1⟩ := Z.i_MOST_DEPTH
  exact ⟨_, fd, _, hg, ok_of_let F h0 h1, hS, F.kp, F.bindsN fun _ _ _ _ _ _ us hl => match us, hl with | [_], _ => rfl⟩
theorem Cz.r_of_upto (Z : Cz w K h mg) {x : W} (hg : gRul K x = some (.ref (He.ga K "of_upto"))) (hS : ((· = .upto) : W → Prop) x) : ∃ (fa : Addr) (fd : FuncData) (S : W → Prop), gRul K x = some (.ref fa) ∧ FnOk P w K mg base CX0 1 fa fd ["depths"] (spOf S) ∧ S x ∧ PySem.W.keepIn K (.ref fa) = true ∧ Binds K fd ["depths"] [] := by
  obtain ⟨fd, F⟩ := Z.f_of_upto
  obtain ⟨t0, h0⟩ := Z.i_NO_DEPTH
  obtain ⟨t1, h1⟩ := Z.i_MOST_DEPTH
  exact ⟨_, fd, _, hg, ok_of_upto F h0 h1, hS, F.kp, F.bindsN fun _ _ _ _ _ _ us hl => match us, hl with | [_], _ => rfl⟩
theorem Cz.r_of_len (Z : Cz w K h mg) {x : W} (hg : gRul K x = some (.ref (He.ga K "of_len"))) (hS : ((· = .len) : W → Prop) x) : ∃ (fa : Addr) (fd : FuncData) (S : W → Prop), gRul K x = some (.ref fa) ∧ FnOk P w K mg base CX0 1 fa fd ["depths"] (spOf S) ∧ S x ∧ PySem.W.keepIn K (.ref fa) = true ∧ Binds K fd ["depths"] [] := by
  obtain ⟨fd, F⟩ := Z.f_of_len
  obtain ⟨t0, h0⟩ := Z.i_NO_DEPTH
  obtain ⟨t1, h1⟩ := Z.i_MOST_DEPTH
  exact ⟨_, fd, _, hg, ok_of_len F h0 h1, hS, F.kp, F.bindsN fun _ _ _ _ _ _ us hl => match us, hl with | [_], _ => rfl⟩
theorem Cz.r_of_sum (Z : Cz w K h mg) {x : W} (hg : gRul K x = some (.ref (He.ga K "of_sum"))) (hS : ((· = .sum) : W → Prop) x) : ∃ (fa : Addr) (fd : FuncData) (S : W → Prop), gRul K x = some (.ref fa) ∧ FnOk P w K mg base CX0 1 fa fd ["depths"] (spOf S) ∧ S x ∧ PySem.W.keepIn K (.ref fa) = true ∧ Binds K fd ["depths"] [] := by
  obtain ⟨fd, F⟩ := Z.f_of_sum
  obtain ⟨t0, h0⟩ := Z.i_NO_DEPTH
  obtain ⟨t1, h1⟩ := Z.i_MOST_DEPTH
  exact ⟨_, fd, _, hg, ok_of_sum F h0 h1, hS, F.kp, F.bindsN fun _ _ _ _ _ _ us hl => match us, hl with | [_], _ => rfl⟩
theorem Cz.r_of_sums (Z : Cz w K h mg) {x : W} (hg : gRul K x = some (.ref (He.ga K "of_sums"))) (hS : ((· = .sums) : W → Prop) x) : ∃ (fa : Addr) (fd : FuncData) (S : W → Prop), gRul K x = some (.ref fa) ∧ FnOk P w K mg base CX0 1 fa fd ["depths"] (spOf S) ∧ S x ∧ PySem.W.keepIn K (.ref fa) = true ∧ Binds K fd ["depths"] [] := by
  obtain ⟨fd, F⟩ := Z.f_of_sums
  obtain ⟨t0, h0⟩ := Z.i_NO_DEPTH
  obtain ⟨t1, h1⟩ := Z.i_MOST_DEPTH
  exact ⟨_, fd, _, hg, ok_of_sums F h0 h1, hS, F.kp, F.bindsN fun _ _ _ _ _ _ us hl => match us, hl with | [_], _ => rfl⟩
theorem Cz.r_of_one (Z : Cz w K h mg) {x : W} (hg : gRul K x = some (.ref (He.ga K "of_one"))) (hS : ((· = .one) : W → Prop) x) : ∃ (fa : Addr) (fd : FuncData) (S : W → Prop), gRul K x = some (.ref fa) ∧ FnOk P w K mg base CX0 1 fa fd ["depths"] (spOf S) ∧ S x ∧ PySem.W.keepIn K (.ref fa) = true ∧ Binds K fd ["depths"] [] := by
  obtain ⟨fd, F⟩ := Z.f_of_one
  obtain ⟨t0, h0⟩ := Z.i_NO_DEPTH
  obtain ⟨t1, h1⟩ := Z.i_MOST_DEPTH
  exact ⟨_, fd, _, hg, ok_of_one F h0 h1, hS, F.kp, F.bindsN fun _ _ _ _ _ _ us hl => match us, hl with | [_], _ => rfl⟩
theorem Cz.r_of_pick (Z : Cz w K h mg) {x : W} (hg : gRul K x = some (.ref (He.ga K "of_pick"))) (hS : ((· = .pick) : W → Prop) x) : ∃ (fa : Addr) (fd : FuncData) (S : W → Prop), gRul K x = some (.ref fa) ∧ FnOk P w K mg base CX0 1 fa fd ["depths"] (spOf S) ∧ S x ∧ PySem.W.keepIn K (.ref fa) = true ∧ Binds K fd ["depths"] [] := by
  obtain ⟨fd, F⟩ := Z.f_of_pick
  obtain ⟨t0, h0⟩ := Z.i_NO_DEPTH
  obtain ⟨t1, h1⟩ := Z.i_MOST_DEPTH
  exact ⟨_, fd, _, hg, ok_of_pick F h0 h1, hS, F.kp, F.bindsN fun _ _ _ _ _ _ us hl => match us, hl with | [_], _ => rfl⟩
theorem Cz.r_of_put (Z : Cz w K h mg) {x : W} (hg : gRul K x = some (.ref (He.ga K "of_put"))) (hS : ((· = .put) : W → Prop) x) : ∃ (fa : Addr) (fd : FuncData) (S : W → Prop), gRul K x = some (.ref fa) ∧ FnOk P w K mg base CX0 1 fa fd ["depths"] (spOf S) ∧ S x ∧ PySem.W.keepIn K (.ref fa) = true ∧ Binds K fd ["depths"] [] := by
  obtain ⟨fd, F⟩ := Z.f_of_put
  obtain ⟨t0, h0⟩ := Z.i_NO_DEPTH
  obtain ⟨t1, h1⟩ := Z.i_MOST_DEPTH
  exact ⟨_, fd, _, hg, ok_of_put F h0 h1, hS, F.kp, F.bindsN fun _ _ _ _ _ _ us hl => match us, hl with | [_], _ => rfl⟩
theorem Cz.r_of_flat (Z : Cz w K h mg) {x : W} (hg : gRul K x = some (.ref (He.ga K "of_flat"))) (hS : ((· = .flat) : W → Prop) x) : ∃ (fa : Addr) (fd : FuncData) (S : W → Prop), gRul K x = some (.ref fa) ∧ FnOk P w K mg base CX0 1 fa fd ["depths"] (spOf S) ∧ S x ∧ PySem.W.keepIn K (.ref fa) = true ∧ Binds K fd ["depths"] [] := by
  obtain ⟨fd, F⟩ := Z.f_of_flat
  obtain ⟨t0, h0⟩ := Z.i_NO_DEPTH
  obtain ⟨t1, h1⟩ := Z.i_MOST_DEPTH
  exact ⟨_, fd, _, hg, ok_of_flat F h0 h1, hS, F.kp, F.bindsN fun _ _ _ _ _ _ us hl => match us, hl with | [_], _ => rfl⟩
theorem Cz.r_of_each (Z : Cz w K h mg) {x : W} (hg : gRul K x = some (.ref (He.ga K "of_each"))) (hS : ((· = .each) : W → Prop) x) : ∃ (fa : Addr) (fd : FuncData) (S : W → Prop), gRul K x = some (.ref fa) ∧ FnOk P w K mg base CX0 1 fa fd ["depths"] (spOf S) ∧ S x ∧ PySem.W.keepIn K (.ref fa) = true ∧ Binds K fd ["depths"] [] := by
  obtain ⟨fd, F⟩ := Z.f_of_each
  obtain ⟨t0, h0⟩ := Z.i_NO_DEPTH
  obtain ⟨t1, h1⟩ := Z.i_MOST_DEPTH
  exact ⟨_, fd, _, hg, ok_of_each F h0 h1, hS, F.kp, F.bindsN fun _ _ _ _ _ _ us hl => match us, hl with | [_], _ => rfl⟩
theorem Cz.r_of_where (Z : Cz w K h mg) {x : W} (hg : gRul K x = some (.ref (He.ga K "of_where"))) (hS : ((· = .whr) : W → Prop) x) : ∃ (fa : Addr) (fd : FuncData) (S : W → Prop), gRul K x = some (.ref fa) ∧ FnOk P w K mg base CX0 1 fa fd ["depths"] (spOf S) ∧ S x ∧ PySem.W.keepIn K (.ref fa) = true ∧ Binds K fd ["depths"] [] := by
  obtain ⟨fd, F⟩ := Z.f_of_where
  obtain ⟨t0, h0⟩ := Z.i_NO_DEPTH
  obtain ⟨t1, h1⟩ := Z.i_MOST_DEPTH
  exact ⟨_, fd, _, hg, ok_of_where F h0 h1, hS, F.kp, F.bindsN fun _ _ _ _ _ _ us hl => match us, hl with | [_], _ => rfl⟩
theorem Cz.rls (Z : Cz w K h mg) : Rls P w K mg base 1 (gRul K) := fun x ds d hd => by
  cases x with
  | num => exact Z.r_of_num rfl rfl
  | plus => exact Z.r_of_two_numbers rfl (by unfold isTwo; simp)
  | minus => exact Z.r_of_two_numbers rfl (by unfold isTwo; simp)
  | times => exact Z.r_of_two_numbers rfl (by unfold isTwo; simp)
  | less => exact Z.r_of_two_numbers rfl (by unfold isTwo; simp)
  | same => exact Z.r_of_two_numbers rfl (by unfold isTwo; simp)
  | ite => exact Z.r_of_if rfl rfl
  | elet => exact Z.r_of_let rfl rfl
  | upto => exact Z.r_of_upto rfl rfl
  | len => exact Z.r_of_len rfl rfl
  | sum => exact Z.r_of_sum rfl rfl
  | sums => exact Z.r_of_sums rfl rfl
  | one => exact Z.r_of_one rfl rfl
  | pick => exact Z.r_of_pick rfl rfl
  | put => exact Z.r_of_put rfl rfl
  | flat => exact Z.r_of_flat rfl rfl
  | each => exact Z.r_of_each rfl rfl
  | whr => exact Z.r_of_where rfl rfl
  | name => cases hd with
    | two h => simp at h
  | call => cases hd with
    | two h => simp at h
theorem oclB_ok {K : PySem.W.Frag} {C : Addr} (h : NH.oclB K C = true) : ∃ nm q N bs bm sn sub ab col dd k0 k1 k2 k3 k5, K.lookup C = some (excClassObj nm q C N bs bm true sn sub ab col dd k0 k1 k2 k3 k5 "ValueError.__new__") ∧ PySem.HandSPX.refsVE bm = true ∧ PySem.W.alongIn K "__init__" bm = some (some (.builtin "ValueError.__init__")) := by
  unfold NH.oclB at h
  split at h
  · rename_i t dd cd sl hC
    obtain ⟨h1, h2⟩ := He.ba h
    obtain rfl := of_decide_eq_true h1
    split at h2
    · rename_i C' bm k0 k1 k2 k3 n k5 hm hs
      obtain ⟨e1, h2⟩ := He.ba h2
      obtain ⟨e2, h2⟩ := He.ba h2
      obtain ⟨e3, h2⟩ := He.ba h2
      obtain ⟨e4, h2⟩ := He.ba h2
      obtain ⟨e5, e6⟩ := He.ba h2
      obtain rfl := of_decide_eq_true e1
      obtain rfl := of_decide_eq_true e2
      obtain ⟨nm, bs, mro, ns, qn, hd, sn, sub, ab, col, del⟩ := cd
      dsimp only at hm e3 e4
      have e3 : del = false := by simpa using e3
      subst hm e3 e4
      have hsl : sl = #[k0, k1, k2, k3, some (.builtin "ValueError.__new__"), k5] := by
        obtain ⟨l⟩ := sl
        simp only at hs
        rw [hs]
      subst hsl
      exact ⟨_, _, _, _, _, _, _, _, _, _, _, _, _, _, _, hC, e5, He.eqO_ok e6⟩
    · cases h2
  · cases h

theorem cellB_ok {K : PySem.W.Frag} {p : Str × Option Str} {q file : Str} {C : Addr} {d : He.FnD} (h : NH.cellB K p q file C = true) (e : NH.fnC K p = NH.valC d) : ∃ (c cc : Addr) (od : Option Addr) (sl : Array (Option Value)) (doc pm ctv : Value),
    K.lookup (He.fAd K p) = some ⟨.type "function", od, .func (PySem.W.fnX d.name d.qual d.params d.body d.scope [(("__class__" : Str), cc)] .none .none doc pm none (.ref c) ctv), sl⟩ ∧ PySem.W.codeIn K (.ref c) q = true ∧
    (∃ (cl : Value) (d : Option Addr) (sl : Array (Option Value)) (vs : Array Value) (z : Str) (t : Tok), K.lookup c = some ⟨cl, d, .fields vs, sl⟩ ∧ vs[2]? = some (.str z t) ∧ (file == z) = true) ∧
    ∃ (cl : Value) (d : Option Addr) (sl : Array (Option Value)), K.lookup cc = some ⟨cl, d, .cell (some (.ref C)), sl⟩ := by
  unfold NH.cellB at h
  unfold NH.fnC NH.valC at e
  split at h
  · rename_i t od fd sl hl
    rw [hl] at e
    obtain ⟨h1, h2⟩ := He.ba h
    obtain rfl := of_decide_eq_true h1
    obtain ⟨h3, h4⟩ := He.ba h2
    obtain ⟨h5, h6⟩ := He.ba h4
    obtain ⟨n1, n2, n3, n4, n5, n6, n7, n8, n9, n10, n11, n12, n13, n14, n15⟩ := fd
    simp only [Option.some.injEq, Prod.mk.injEq] at e
    obtain ⟨r1, r2, r3, r4, r5, r6, r7, r8, r9, r10⟩ := e
    dsimp only at h3 h5 h6
    subst r1 r2 r3 r4 r5 r6 r7 r8 r9 r10
    split at h3
    · rename_i y cc
      obtain ⟨h7, h8⟩ := He.ba h3
      obtain rfl := of_decide_eq_true h7
      split at h8
      · rename_i cl dd C' sl' hcc
        obtain rfl := of_decide_eq_true h8
        split at h6
        · rename_i c
          split at h6
          · rename_i cl2 d2 vs sl2 hlc
            split at h6
            · rename_i z tz hz
              exact ⟨c, cc, od, sl, _, _, _, hl, h5, ⟨_, _, _, _, _, _, hlc, hz, h6⟩, ⟨_, _, _, hcc⟩⟩
            · cases h6
          · cases h6
        · cases h6
      · cases h8
    · cases h3
  · cases h

theorem Cz.e_BadProgram (Z : Cz w K h mg) (hP : P.main.file = PySem.Challenge.pw_nestrows_k22_corners_told_by_hand.main.file) (hT : (P.main.scope.names.lookup ("super" : Str)).isSome = false) : OexC K (He.ga K "BadProgram") ∧ ExcC K (He.ga K "BadProgram") ∧ XfC K (He.ga K "BadProgram") ∧ (PySem.W.findIn K (.ref (He.ga K "BadProgram")) "__init__" = some (some (.ref (He.fAd K ("BadProgram", some "__init__"))))) ∧ (PySem.W.typeIn K (.ref (He.fAd K ("BadProgram", some "__init__"))) = some (.type "function")) ∧
    ∃ (c cc : Addr) (fd : FuncData), SupF K P mg (He.fAd K ("BadProgram", some "__init__")) (nfBp c cc) (He.ga K "BadProgram") cc fd := by
  have h0 := Z.ex.1
  obtain ⟨b0, h1⟩ := He.ba h0
  obtain ⟨b1, h2⟩ := He.ba h1
  obtain ⟨b2, h3⟩ := He.ba h2
  obtain ⟨b3, h4⟩ := He.ba h3
  obtain ⟨b4, h5⟩ := He.ba h4
  obtain ⟨b5, h6⟩ := He.ba h5
  obtain ⟨b6, h7⟩ := He.ba h6
  obtain ⟨b7, h8⟩ := He.ba h7
  obtain ⟨b8, h9⟩ := He.ba h8
  obtain ⟨b9, h10⟩ := He.ba h9
  obtain ⟨b10, h11⟩ := He.ba h10
  obtain ⟨b11, h12⟩ := He.ba h11
  obtain ⟨b12, h13⟩ := He.ba h12
  obtain ⟨b13, h14⟩ := He.ba h13
  have xf := L2.xfB_ok b5
  obtain ⟨nm, q, N, bs, bm, sn, sub, ab, col, dd, k0, k1, k2, k3, k5, hC, hv, hal⟩ := oclB_ok b0
  have en : NH.fnC K ("BadProgram", some "__init__") = NH.valC ⟨("BadProgram", some "__init__"), "__init__", "BadProgram.__init__", defArgs (inClass (top 30) 0), defBody (inClass (top 30) 0), defScope (inClass (top 30) 0)⟩ := by
    have e2 := congrArg (fun l : List NH.FnC => l[0]?) Z.n
    exact Option.some.inj e2
  obtain ⟨c, cc, od, sl, doc, pm, ctv, hl, hcd, hf, hcc⟩ := cellB_ok b1 en
  refine ⟨⟨⟨nm, q, N, bs, bm, sn, sub, ab, col, dd, k0, k1, k2, k3, k5, hC, hv⟩, He.eqO_ok b2, xf.exC, of_decide_eq_true b3, b4⟩, ⟨xf.ga, xf.gg, xf.exC, xf.hdC, He.eqO_ok b6, He.eqO_ok b7, of_decide_eq_true b8, of_decide_eq_true b9⟩, xf, He.eqO_ok b12, of_decide_eq_true b13, c, cc, NdefX.NF.fd (nfBp c cc) doc pm ctv, ?_⟩
  exact ⟨⟨od, sl, doc, pm, ctv, rfl, hl⟩, hcd, by rw [hP]; exact hf, rfl, hcc, ⟨nm, q, N, bs, bm, sn, sub, ab, col, dd, k0, k1, k2, k3, k5, hC, hal⟩, of_decide_eq_true b10, of_decide_eq_true b11, He.eqO_ok h14, Z.z_super, hT⟩
theorem Cz.e_BadText (Z : Cz w K h mg) (hP : P.main.file = PySem.Challenge.pw_nestrows_k22_corners_told_by_hand.main.file) (hT : (P.main.scope.names.lookup ("super" : Str)).isSome = false) : OexC K (He.ga K "BadText") ∧ ExcC K (He.ga K "BadText") ∧ XfC K (He.ga K "BadText") ∧ (PySem.W.findIn K (.ref (He.ga K "BadText")) "__init__" = some (some (.ref (He.fAd K ("BadText", some "__init__"))))) ∧ (PySem.W.typeIn K (.ref (He.fAd K ("BadText", some "__init__"))) = some (.type "function")) ∧
    ∃ (c cc : Addr) (fd : FuncData), SupF K P mg (He.fAd K ("BadText", some "__init__")) (nfBt c cc) (He.ga K "BadText") cc fd := by
  have h0 := Z.ex.2.1
  obtain ⟨b0, h1⟩ := He.ba h0
  obtain ⟨b1, h2⟩ := He.ba h1
  obtain ⟨b2, h3⟩ := He.ba h2
  obtain ⟨b3, h4⟩ := He.ba h3
  obtain ⟨b4, h5⟩ := He.ba h4
  obtain ⟨b5, h6⟩ := He.ba h5
  obtain ⟨b6, h7⟩ := He.ba h6
  obtain ⟨b7, h8⟩ := He.ba h7
  obtain ⟨b8, h9⟩ := He.ba h8
  obtain ⟨b9, h10⟩ := He.ba h9
  obtain ⟨b10, h11⟩ := He.ba h10
  obtain ⟨b11, h12⟩ := He.ba h11
  obtain ⟨b12, h13⟩ := He.ba h12
  obtain ⟨b13, h14⟩ := He.ba h13
  have xf := L2.xfB_ok b5
  obtain ⟨nm, q, N, bs, bm, sn, sub, ab, col, dd, k0, k1, k2, k3, k5, hC, hv, hal⟩ := oclB_ok b0
  have en : NH.fnC K ("BadText", some "__init__") = NH.valC ⟨("BadText", some "__init__"), "__init__", "BadText.__init__", defArgs (inClass (top 31) 0), defBody (inClass (top 31) 0), defScope (inClass (top 31) 0)⟩ := by
    have e2 := congrArg (fun l : List NH.FnC => l[1]?) Z.n
    exact Option.some.inj e2
  obtain ⟨c, cc, od, sl, doc, pm, ctv, hl, hcd, hf, hcc⟩ := cellB_ok b1 en
  refine ⟨⟨⟨nm, q, N, bs, bm, sn, sub, ab, col, dd, k0, k1, k2, k3, k5, hC, hv⟩, He.eqO_ok b2, xf.exC, of_decide_eq_true b3, b4⟩, ⟨xf.ga, xf.gg, xf.exC, xf.hdC, He.eqO_ok b6, He.eqO_ok b7, of_decide_eq_true b8, of_decide_eq_true b9⟩, xf, He.eqO_ok b12, of_decide_eq_true b13, c, cc, NdefX.NF.fd (nfBt c cc) doc pm ctv, ?_⟩
  exact ⟨⟨od, sl, doc, pm, ctv, rfl, hl⟩, hcd, by rw [hP]; exact hf, rfl, hcc, ⟨nm, q, N, bs, bm, sn, sub, ab, col, dd, k0, k1, k2, k3, k5, hC, hal⟩, of_decide_eq_true b10, of_decide_eq_true b11, He.eqO_ok h14, Z.z_super, hT⟩
end
end NR
set_option maxHeartbeats 4000000
namespace NR
open PySem PySem.Spec PyProof.Rows L2 LamX NdefX
section
variable {P : Program} {w : World} {K : PySem.W.Frag} {mg : Str → Option Value} {base h : Heap}
theorem Oke.mono {j k : Nat} {x : Str} {C : Addr} {ps : List Str} {sp : Sp} (O : Oke P w K mg base j x C ps sp) (h : j ≤ k) : Oke P w K mg base k x C ps sp := by
  obtain ⟨fI, fd, a, b, F, c⟩ := O.ex
  exact ⟨O.T, ⟨fI, fd, a, b, F.mono h, c⟩, O.m⟩
theorem Okf.lift {k : Nat} {x : Str} {ps : List Str} {sp : Sp} (O : Okf P w K mg base CX0 k x ps sp) : Okf P w K mg base (CX P w) k x ps sp := by
  obtain ⟨f, fd, F, r⟩ := O.ex
  exact ⟨f, fd, fnok_lift F, r⟩
theorem Okm.lift {k : Nat} {C : Addr} {m : Str} {ps : List Str} {sp : Sp} (O : Okm P w K mg base CX0 k C m ps sp) : Okm P w K mg base (CX P w) k C m ps sp := by
  obtain ⟨f, fd, F, r⟩ := O.ex
  exact ⟨f, fd, fnok_lift F, r⟩
theorem Cz.o_isnum (Z : Cz w K h mg) : Okf P w K mg base CX0 1 "is_number" ["value", "last"] spIsNum := by
  obtain ⟨fd, F⟩ := Z.f_is_number
  exact ⟨_, fd, ok_isnum F Z.z_isinstance Z.z_int Z.z_bool, Z.g_is_number, F.kp, F.bindsN fun _ _ _ _ _ _ us hl => match us, hl with | [_, _], _ => rfl⟩
theorem Cz.o_last (Z : Cz w K h mg) : Okf P w K mg base CX0 1 "last_number" ["word"] spLast := by
  obtain ⟨fd, F⟩ := Z.f_last_number
  obtain ⟨t0, h0⟩ := Z.i_LAST_NUMBER
  obtain ⟨t1, h1⟩ := Z.i_MOST_FUNCTIONS
  obtain ⟨t2, h2⟩ := Z.i_LAST_NAME
  exact ⟨_, fd, ok_last F h0 h1 h2, Z.g_last_number, F.kp, F.bindsN fun _ _ _ _ _ _ us hl => match us, hl with | [_], _ => rfl⟩
theorem Cz.o_numof (Z : Cz w K h mg) : Okf P w K mg base CX0 1 "number_of" ["expression"] (spNumOf K) := by
  obtain ⟨fd, F⟩ := Z.f_number_of
  exact ⟨_, fd, ok_numof F Z.g_NUMBERED Z.numT, Z.g_number_of, F.kp, F.bindsN fun _ _ _ _ _ _ us hl => match us, hl with | [_], _ => rfl⟩
theorem Cz.o_partsof (Z : Cz w K h mg) : Okf P w K mg base CX0 1 "parts_of" ["expression"] (spPartsOf K) := by
  obtain ⟨fd, F⟩ := Z.f_parts_of
  exact ⟨_, fd, ok_partsof F Z.g_NUMBERED Z.numT Z.z_list, Z.g_parts_of, F.kp, F.bindsN fun _ _ _ _ _ _ us hl => match us, hl with | [_], _ => rfl⟩
theorem Cz.o_depth (Z : Cz w K h mg) : Okf P w K mg base CX0 2 "depth_of" ["word", "depths"] spDepth := by
  obtain ⟨fd, F⟩ := Z.f_depth_of
  exact ⟨_, fd, ok_depth F Z.g_RULES Z.rulTb Z.rls, Z.g_depth_of, F.kp, F.bindsN fun _ _ _ _ _ _ us hl => match us, hl with | [_, _], _ => rfl⟩
theorem Cz.o_shape (Z : Cz w K h mg) : Okf P w K mg base CX0 2 "has_shape" ["expression"] (spShape K) := by
  obtain ⟨fd, F⟩ := Z.f_has_shape
  exact ⟨_, fd, ok_shape F Z.g_NUMBERED Z.numT Z.g_LENGTHS Z.lenTb Z.o_isnum Z.o_last Z.z_isinstance Z.z_tuple Z.z_len Z.z_str, Z.g_has_shape, F.kp, F.bindsN fun _ _ _ _ _ _ us hl => match us, hl with | [_], _ => rfl⟩
theorem Cz.o_Node (Z : Cz w K h mg) : Okc P w K mg base CX0 1 "Node" (He.ga K "Node") ["self", "word", "function", "place", "number", "parts", "depth"] (spNode (He.ga K "Node")) := by
  obtain ⟨fd, F⟩ := Z.f_Nodeinit
  exact ⟨_, fd, ok_node F Z.c_Node, Z.m_Nodeinit, F.bindsN fun _ _ _ _ _ _ us hl => match us, hl with | [_, _, _, _, _, _, _], _ => rfl, Z.g_Node⟩
theorem Cz.o_Look (Z : Cz w K h mg) : Okc P w K mg base CX0 1 "Look" (He.ga K "Look") ["self", "known", "function"] (spLook (He.ga K "Look")) := by
  obtain ⟨fd, F⟩ := Z.f_Lookinit
  exact ⟨_, fd, ok_look F Z.c_Look, Z.m_Lookinit, F.bindsN fun _ _ _ _ _ _ us hl => match us, hl with | [_, _, _], _ => rfl, Z.g_Look⟩
theorem Cz.o_Form (Z : Cz w K h mg) : Okc P w K mg base CX0 1 "Form" (He.ga K "Form") ["self", "names", "depths", "body"] (spForm (He.ga K "Form")) := by
  obtain ⟨fd, F⟩ := Z.f_Forminit
  exact ⟨_, fd, ok_form F Z.c_Form, Z.m_Forminit, F.bindsN fun _ _ _ _ _ _ us hl => match us, hl with | [_, _, _, _], _ => rfl, Z.g_Form⟩
theorem Cz.o_refuse (Z : Cz w K h mg) : Okm P w K mg base CX0 1 (He.ga K "Look") "refuse_if" ["self", "wrong", "place", "word"] spRefuse := by
  obtain ⟨fd, F⟩ := Z.f_Lookrefuse_if
  exact ⟨_, fd, ok_refuse F, Z.m_Lookrefuse_if, F.bindsN fun _ _ _ _ _ _ us hl => match us, hl with | [_, _, _, _], _ => rfl, Z.c_Look.cl⟩
theorem Cz.o_may (Z : Cz w K h mg) : Okm P w K mg base CX0 1 (He.ga K "Look") "may_call" ["self", "called", "many"] (spMay K (He.ga K "Look")) := by
  obtain ⟨fd, F⟩ := Z.f_Lookmay_call
  exact ⟨_, fd, ok_may F Z.c_Look Z.z_len, Z.m_Lookmay_call, F.bindsN fun _ _ _ _ _ _ us hl => match us, hl with | [_, _, _], _ => rfl, Z.c_Look.cl⟩
theorem Cz.o_told (Z : Cz w K h mg) : Okm P w K mg base CX0 3 (He.ga K "Look") "depth_told" ["self", "word", "number", "parts", "names"] (spTold K (He.ga K "Look") (He.ga K "Node")) := by
  obtain ⟨fd, F⟩ := Z.f_Lookdepth_told
  obtain ⟨t0, h0⟩ := Z.i_NO_DEPTH
  exact ⟨_, fd, ok_told F Z.c_Look Z.c_Node Z.o_depth h0 Z.z_list, Z.m_Lookdepth_told, F.bindsN fun _ _ _ _ _ _ us hl => match us, hl with | [_, _, _, _, _], _ => rfl, Z.c_Look.cl⟩
theorem Cz.o_nodeof (Z : Cz w K h mg) : ∀ n, Okm P w K mg base CX0 (3 + 2 * n) (He.ga K "Look") "node_of" ["self", "expression", "names", "within"] (spNodeOf (He.ga K "Look") (He.ga K "Node") n) := by
  obtain ⟨fd, F⟩ := Z.f_Looknode_of
  obtain ⟨fd2, F2⟩ := Z.f_Lookparts_that_name
  obtain ⟨t0, h0⟩ := Z.i_LAST_PLACE
  obtain ⟨t1, h1⟩ := Z.i_MOST_WITHIN
  obtain ⟨t2, h2⟩ := Z.i_NO_DEPTH
  have b : Binds K fd ["self", "expression", "names", "within"] [] := F.bindsN fun _ _ _ _ _ _ us hl => match us, hl with | [_, _, _, _], _ => rfl
  have b2 : Binds K fd2 ["self", "expression", "place", "names", "within"] [] := F2.bindsN fun _ _ _ _ _ _ us hl => match us, hl with | [_, _, _, _, _], _ => rfl
  intro n
  induction n with
  | zero =>
    refine ⟨_, fd, ok_never (fun vs H Q E h => ?_), Z.m_Looknode_of, b, Z.c_Look.cl⟩
    obtain ⟨a, dx, kn, nm, v, fn, p, b, wi, fs, ρ, e, nd, _, _, _, _, _, h, _⟩ := h
    have := e.hgt_pos
    omega
  | succ n ih =>
    have OT : Okm P w K mg base CX0 (3 + 2 * n + 1) (He.ga K "Look") "parts_that_name" ["self", "expression", "place", "names", "within"] (spThat (He.ga K "Look") (He.ga K "Node") n) := ⟨_, fd2, ok_that F2 Z.c_Node (Z.o_refuse.mono (by omega)) ih, Z.m_Lookparts_that_name, b2, Z.c_Look.cl⟩
    refine ⟨_, fd, FnOk.mono (ok_nodeof (k := 3 + 2 * n) F Z.c_Look Z.c_Node (by omega) (Z.o_refuse.mono (by omega)) (Z.o_may.mono (by omega)) (ih.mono (by omega)) OT (Z.o_told.mono (by omega)) (Z.o_Node.mono (by omega)) (Z.o_shape.mono (by omega)) (Z.o_numof.mono (by omega)) (Z.o_partsof.mono (by omega)) h0 h1 h2 Z.z_len) (by omega), Z.m_Looknode_of, b, Z.c_Look.cl⟩
theorem Cz.o_param (Z : Cz w K h mg) : Okf P w K mg base CX0 2 "is_param" ["param"] spParam := by
  obtain ⟨fd, F⟩ := Z.f_is_param
  obtain ⟨t0, h0⟩ := Z.i_LAST_NAME
  obtain ⟨t1, h1⟩ := Z.i_MOST_DEPTH
  exact ⟨_, fd, ok_param F Z.o_isnum h0 h1 Z.z_isinstance Z.z_tuple Z.z_len, Z.g_is_param, F.kp, F.bindsN fun _ _ _ _ _ _ us hl => match us, hl with | [_], _ => rfl⟩
theorem Cz.o_hasface (Z : Cz w K h mg) : Okf P w K mg base CX0 3 "has_face" ["function"] (spHasFace K) := by
  obtain ⟨fd, F⟩ := Z.f_has_face
  obtain ⟨t0, h0⟩ := Z.i_MOST_PARAMS
  obtain ⟨t1, h1⟩ := Z.i_MOST_DEPTH
  exact ⟨_, fd, ok_hasface F (Z.o_isnum.mono (by omega)) Z.o_param h0 h1 Z.z_isinstance Z.z_tuple Z.z_len Z.z_all Z.z_set, Z.g_has_face, F.kp, F.bindsN fun _ _ _ _ _ _ us hl => match us, hl with | [_], _ => rfl⟩
theorem Cz.o_BP (Z : Cz w K h mg) (hP : P.main.file = PySem.Challenge.pw_nestrows_k22_corners_told_by_hand.main.file) (hS : (P.main.scope.names.lookup ("super" : Str)).isSome = false) : Oke P w K mg base 1 "BadProgram" (He.ga K "BadProgram") ["self", "function", "place", "word"] (spBp (He.ga K "BadProgram")) := by
  obtain ⟨T, _, _, e1, e2, c, cc, fd, M⟩ := Z.e_BadProgram hP hS
  obtain ⟨_, _, _, _, _, rfl, _⟩ := id M.fn
  exact ⟨T, ⟨_, _, e1, e2, ok_bpinit M T Z.na_BadProgram_function Z.na_BadProgram_place Z.na_BadProgram_word, .all fun us hl => match us, hl with | [_, _, _, _], _ => rfl⟩, Z.g_BadProgram⟩
theorem Cz.o_BT (Z : Cz w K h mg) (hP : P.main.file = PySem.Challenge.pw_nestrows_k22_corners_told_by_hand.main.file) (hS : (P.main.scope.names.lookup ("super" : Str)).isSome = false) : Oke P w K mg base 1 "BadText" (He.ga K "BadText") ["self", "row", "place"] (spBt (He.ga K "BadText")) := by
  obtain ⟨T, _, _, e1, e2, c, cc, fd, M⟩ := Z.e_BadText hP hS
  obtain ⟨_, _, _, _, _, rfl, _⟩ := id M.fn
  exact ⟨T, ⟨_, _, e1, e2, ok_btinit M T Z.na_BadText_row Z.na_BadText_place, .all fun us hl => match us, hl with | [_, _, _], _ => rfl⟩, Z.g_BadText⟩
theorem Cz.x_shape (Z : Cz w K h mg) : Okf P w K mg base CX0 2 "has_shape" ["expression"] (spShB K) := by
  obtain ⟨fd, F⟩ := Z.f_has_shape
  exact ⟨_, fd, fnok_or2 (ok_shape F Z.g_NUMBERED Z.numT Z.g_LENGTHS Z.lenTb Z.o_isnum Z.o_last Z.z_isinstance Z.z_tuple Z.z_len Z.z_str) (ok_shno F Z.g_NUMBERED Z.numT Z.g_LENGTHS Z.lenTb Z.o_isnum Z.o_last Z.z_isinstance Z.z_tuple Z.z_len Z.z_str) fun _ _ _ _ z => z, Z.g_has_shape, F.kp, F.bindsN fun _ _ _ _ _ _ us hl => match us, hl with | [_], _ => rfl⟩
theorem Cz.x_may (Z : Cz w K h mg) : Okm P w K mg base CX0 1 (He.ga K "Look") "may_call" ["self", "called", "many"] (spMayB K (He.ga K "Look")) := by
  obtain ⟨fd, F⟩ := Z.f_Lookmay_call
  exact ⟨_, fd, fnok_or2 (ok_may F Z.c_Look Z.z_len) (ok_mayno F Z.c_Look Z.z_len) fun _ _ _ _ z => z, Z.m_Lookmay_call, F.bindsN fun _ _ _ _ _ _ us hl => match us, hl with | [_, _, _], _ => rfl, Z.c_Look.cl⟩
theorem Cz.x_told (Z : Cz w K h mg) : Okm P w K mg base CX0 3 (He.ga K "Look") "depth_told" ["self", "word", "number", "parts", "names"] (spToldNo (He.ga K "Look") (He.ga K "Node")) := by
  obtain ⟨fd, F⟩ := Z.f_Lookdepth_told
  obtain ⟨t0, h0⟩ := Z.i_NO_DEPTH
  exact ⟨_, fd, ok_toldno F Z.c_Look Z.c_Node Z.o_depth h0 Z.z_list, Z.m_Lookdepth_told, F.bindsN fun _ _ _ _ _ _ us hl => match us, hl with | [_, _, _, _, _], _ => rfl, Z.c_Look.cl⟩
theorem Cz.x_refuse (Z : Cz w K h mg) (hP : P.main.file = PySem.Challenge.pw_nestrows_k22_corners_told_by_hand.main.file) (hS : (P.main.scope.names.lookup ("super" : Str)).isSome = false) : Okm P w K mg base (CX P w) 3 (He.ga K "Look") "refuse_if" ["self", "wrong", "place", "word"] (spRefX (He.ga K "Look") (He.ga K "BadProgram")) := by
  obtain ⟨fd, F⟩ := Z.f_Lookrefuse_if
  exact ⟨_, fd, ok_refuseX (k := 1) F Z.c_Look (Z.o_BP hP hS), Z.m_Lookrefuse_if, F.bindsN fun _ _ _ _ _ _ us hl => match us, hl with | [_, _, _, _], _ => rfl, Z.c_Look.cl⟩
theorem Cz.o_that (Z : Cz w K h mg) (n : Nat) : Okm P w K mg base CX0 (3 + 2 * n + 1) (He.ga K "Look") "parts_that_name" ["self", "expression", "place", "names", "within"] (spThat (He.ga K "Look") (He.ga K "Node") n) := by
  obtain ⟨fd2, F2⟩ := Z.f_Lookparts_that_name
  exact ⟨_, fd2, ok_that F2 Z.c_Node (Z.o_refuse.mono (by omega)) (Z.o_nodeof n), Z.m_Lookparts_that_name, F2.bindsN fun _ _ _ _ _ _ us hl => match us, hl with | [_, _, _, _, _], _ => rfl, Z.c_Look.cl⟩
theorem Cz.x_node (Z : Cz w K h mg) (hP : P.main.file = PySem.Challenge.pw_nestrows_k22_corners_told_by_hand.main.file) (hS : (P.main.scope.names.lookup ("super" : Str)).isSome = false) : Okm P w K mg base (CX P w) 29 (He.ga K "Look") "node_of" ["self", "expression", "names", "within"] (spNodeX (He.ga K "Look") (He.ga K "Node") (He.ga K "BadProgram")) := by
  obtain ⟨fd, F⟩ := Z.f_Looknode_of
  obtain ⟨t0, h0⟩ := Z.i_LAST_PLACE
  obtain ⟨t1, h1⟩ := Z.i_MOST_WITHIN
  obtain ⟨t2, h2⟩ := Z.i_NO_DEPTH
  exact ⟨_, fd, ok_nodex (k := 27) F Z.c_Look Z.c_Node (by omega) ((Z.x_refuse hP hS).mono (by omega)) (Z.x_may.mono (by omega)) ((Z.o_nodeof 12).mono (by omega)) ((Z.o_that 12).mono (by omega)) (Z.x_told.mono (by omega)) (Z.o_Node.mono (by omega)) (Z.x_shape.mono (by omega)) (Z.o_numof.mono (by omega)) (Z.o_partsof.mono (by omega)) h0 h1 h2 Z.z_len, Z.m_Looknode_of, F.bindsN fun _ _ _ _ _ _ us hl => match us, hl with | [_, _, _, _], _ => rfl, Z.c_Look.cl⟩
theorem Cz.x_hasface (Z : Cz w K h mg) : Okf P w K mg base CX0 3 "has_face" ["function"] (spHasFaceB K) := by
  obtain ⟨fd, F⟩ := Z.f_has_face
  obtain ⟨t0, h0⟩ := Z.i_MOST_PARAMS
  obtain ⟨t1, h1⟩ := Z.i_MOST_DEPTH
  exact ⟨_, fd, fnok_or2 (ok_hasface F (Z.o_isnum.mono (by omega)) Z.o_param h0 h1 Z.z_isinstance Z.z_tuple Z.z_len Z.z_all Z.z_set) (ok_hasfaceno F (Z.o_isnum.mono (by omega)) Z.o_param h0 h1 Z.z_isinstance Z.z_tuple Z.z_len Z.z_all Z.z_set) fun _ _ _ _ z => z, Z.g_has_face, F.kp, F.bindsN fun _ _ _ _ _ _ us hl => match us, hl with | [_], _ => rfl⟩
theorem Cz.x_faces (Z : Cz w K h mg) (hP : P.main.file = PySem.Challenge.pw_nestrows_k22_corners_told_by_hand.main.file) (hS : (P.main.scope.names.lookup ("super" : Str)).isSome = false) : Okf P w K mg base (CX P w) 4 "told_faces" ["program"] (spFacesX (He.ga K "BadProgram")) := by
  obtain ⟨fd, F⟩ := Z.f_told_faces
  obtain ⟨t0, h0⟩ := Z.i_MOST_FUNCTIONS
  exact ⟨_, fd, ok_facesX F Z.x_hasface ((Z.o_BP hP hS).mono (by omega)) h0 Z.z_len Z.z_enumerate Z.z_tuple, Z.g_told_faces, F.kp, F.bindsN fun _ _ _ _ _ _ us hl => match us, hl with | [_], _ => rfl⟩
theorem Cz.o_formof (Z : Cz w K h mg) : Okf P w K mg base CX0 30 "form_of" ["function", "at", "told"] (spFormOf K (He.ga K "Form") (He.ga K "Node")) := by
  obtain ⟨fd, F⟩ := Z.f_form_of
  exact ⟨_, fd, ok_formof (k := 28) F Z.c_Look Z.c_Form Z.c_Node (Z.o_Look.mono (by omega)) (Z.o_Form.mono (by omega)) (Z.o_nodeof 13) (Z.o_refuse.mono (by omega)) Z.z_dict, Z.g_form_of, F.kp, F.bindsN fun _ _ _ _ _ _ us hl => match us, hl with | [_, _, _], _ => rfl⟩
theorem Cz.x_formof (Z : Cz w K h mg) (hP : P.main.file = PySem.Challenge.pw_nestrows_k22_corners_told_by_hand.main.file) (hS : (P.main.scope.names.lookup ("super" : Str)).isSome = false) : Okf P w K mg base (CX P w) 30 "form_of" ["function", "at", "told"] (spFormB K (He.ga K "Form") (He.ga K "Node") (He.ga K "BadProgram")) := by
  obtain ⟨fd, F⟩ := Z.f_form_of
  exact ⟨_, fd, fnok_both (ok_formof (k := 28) F Z.c_Look Z.c_Form Z.c_Node (Z.o_Look.mono (by omega)) (Z.o_Form.mono (by omega)) (Z.o_nodeof 13) (Z.o_refuse.mono (by omega)) Z.z_dict) (ok_formx (k := 28) F Z.c_Look Z.c_Form Z.c_Node (Z.o_Look.mono (by omega)) (Z.o_Form.mono (by omega)) (Z.x_node hP hS) ((Z.x_refuse hP hS).mono (by omega)) Z.z_dict), Z.g_form_of, F.kp, F.bindsN fun _ _ _ _ _ _ us hl => match us, hl with | [_, _, _], _ => rfl⟩
theorem Cz.x_fcs (Z : Cz w K h mg) (hP : P.main.file = PySem.Challenge.pw_nestrows_k22_corners_told_by_hand.main.file) (hS : (P.main.scope.names.lookup ("super" : Str)).isSome = false) : Okf P w K mg base (CX P w) 31 "faces" ["program"] (spFcsX (He.ga K "BadProgram")) := by
  obtain ⟨fd, F⟩ := Z.f_faces
  exact ⟨_, fd, ok_fcsx (k := 30) F ((Z.x_faces hP hS).mono (by omega)) (Z.x_formof hP hS) Z.z_enumerate, Z.g_faces, F.kp, F.bindsN fun _ _ _ _ _ _ us hl => match us, hl with | [_], _ => rfl⟩
theorem Cz.o_numeralw (Z : Cz w K h mg) : Okf P w K mg base CX0 1 "is_numeral" ["word"] spNumeral := by
  obtain ⟨fd, F⟩ := Z.f_is_numeral
  obtain ⟨t0, h0⟩ := Z.i_MOST_FIGURES
  exact ⟨_, fd, ok_numeralw F h0 Z.z_len, Z.g_is_numeral, F.kp, F.bindsN fun _ _ _ _ _ _ us hl => match us, hl with | [_], _ => rfl⟩
theorem Cz.x_numeralw (Z : Cz w K h mg) : Okf P w K mg base CX0 1 "is_numeral" ["word"] spNumeralNo := by
  obtain ⟨fd, F⟩ := Z.f_is_numeral
  obtain ⟨t0, h0⟩ := Z.i_MOST_FIGURES
  exact ⟨_, fd, ok_numeralno F h0 Z.z_len, Z.g_is_numeral, F.kp, F.bindsN fun _ _ _ _ _ _ us hl => match us, hl with | [_], _ => rfl⟩
theorem Cz.x_RowReader (Z : Cz w K h mg) : Okc P w K mg base CX0 1 "RowReader" (He.ga K "RowReader") ["self", "row", "text"] (spRdG (He.ga K "RowReader")) := by
  obtain ⟨fd, F⟩ := Z.f_RowReaderinit
  exact ⟨_, fd, ok_rdinitg F Z.c_RowReader, Z.m_RowReaderinit, F.bindsN fun _ _ _ _ _ _ us hl => match us, hl with | [_, _, _], _ => rfl, Z.g_RowReader⟩
theorem Cz.o_upc (Z : Cz w K h mg) : Okm P w K mg base CX0 1 (He.ga K "RowReader") "upcoming" ["self"] (spUpc (He.ga K "RowReader")) := by
  obtain ⟨fd, F⟩ := Z.f_RowReaderupcoming
  exact ⟨_, fd, ok_upc F Z.c_RowReader Z.z_len, Z.m_RowReaderupcoming, F.bindsN fun _ _ _ _ _ _ us hl => match us, hl with | [_], _ => rfl, Z.c_RowReader.cl⟩
theorem Cz.o_next (Z : Cz w K h mg) : Okm P w K mg base CX0 1 (He.ga K "RowReader") "next_word" ["self", "can_stand"] (spNext (He.ga K "RowReader")) := by
  obtain ⟨fd, F⟩ := Z.f_RowReadernext_word
  exact ⟨_, fd, ok_next F Z.c_RowReader, Z.m_RowReadernext_word, F.bindsN fun _ _ _ _ _ _ us hl => match us, hl with | [_, _], _ => rfl, Z.c_RowReader.cl⟩
theorem Cz.o_nml (Z : Cz w K h mg) : Okm P w K mg base CX0 2 (He.ga K "RowReader") "numeral" ["self"] (spNml (He.ga K "RowReader")) := by
  obtain ⟨fd, F⟩ := Z.f_RowReadernumeral
  exact ⟨_, fd, ok_nml F Z.o_upc Z.o_next Z.o_numeralw Z.z_int, Z.m_RowReadernumeral, F.bindsN fun _ _ _ _ _ _ us hl => match us, hl with | [_], _ => rfl, Z.c_RowReader.cl⟩
theorem Cz.o_sign (Z : Cz w K h mg) : Okm P w K mg base CX0 2 (He.ga K "RowReader") "sign" ["self", "wanted"] (spSign (He.ga K "RowReader")) := by
  obtain ⟨fd, F⟩ := Z.f_RowReadersign
  exact ⟨_, fd, ok_sign F Z.o_upc Z.o_next, Z.m_RowReadersign, F.bindsN fun _ _ _ _ _ _ us hl => match us, hl with | [_, _], _ => rfl, Z.c_RowReader.cl⟩
theorem Cz.o_expr (Z : Cz w K h mg) : ∀ n, Okm P w K mg base CX0 (2 + n) (He.ga K "RowReader") "expression" ["self"] (spExpr (He.ga K "RowReader") n) := by
  obtain ⟨fd, F⟩ := Z.f_RowReaderexpression
  have b : Binds K fd ["self"] [] := F.bindsN fun _ _ _ _ _ _ us hl => match us, hl with | [_], _ => rfl
  intro n
  induction n with
  | zero =>
    refine ⟨_, fd, ok_never (fun vs H Q E h => ?_), Z.m_RowReaderexpression, b, Z.c_RowReader.cl⟩
    obtain ⟨a, dx, wl, row, p, ws, e, rest, _, _, _, _, h, _⟩ := h
    have := e.hgt_pos
    omega
  | succ n ih => exact ⟨_, fd, FnOk.mono (ok_expr F Z.c_RowReader (Z.o_upc.mono (by omega)) (Z.o_next.mono (by omega)) (Z.o_nml.mono (by omega)) (Z.o_sign.mono (by omega)) ih Z.g_NUMBERED Z.numT Z.g_LENGTHS Z.lenTb Z.z_tuple) (by omega), Z.m_RowReaderexpression, b, Z.c_RowReader.cl⟩
theorem Cz.o_ft (Z : Cz w K h mg) : Okm P w K mg base CX0 16 (He.ga K "RowReader") "function_told" ["self"] (spFT (He.ga K "RowReader")) := by
  obtain ⟨fd, F⟩ := Z.f_RowReaderfunction_told
  exact ⟨_, fd, ok_ft (k := 15) F Z.c_RowReader (Z.o_nml.mono (by omega)) (Z.o_expr 13) Z.z_len Z.z_tuple, Z.m_RowReaderfunction_told, F.bindsN fun _ _ _ _ _ _ us hl => match us, hl with | [_], _ => rfl, Z.c_RowReader.cl⟩
theorem Cz.x_next (Z : Cz w K h mg) (hP : P.main.file = PySem.Challenge.pw_nestrows_k22_corners_told_by_hand.main.file) (hS : (P.main.scope.names.lookup ("super" : Str)).isSome = false) : Okm P w K mg base (CX P w) 3 (He.ga K "RowReader") "next_word" ["self", "can_stand"] (spNextX (He.ga K "RowReader") (He.ga K "BadText")) := by
  obtain ⟨fd, F⟩ := Z.f_RowReadernext_word
  exact ⟨_, fd, ok_nextx (k := 1) F Z.c_RowReader (Z.o_BT hP hS), Z.m_RowReadernext_word, F.bindsN fun _ _ _ _ _ _ us hl => match us, hl with | [_, _], _ => rfl, Z.c_RowReader.cl⟩
theorem Cz.x_nml (Z : Cz w K h mg) (hP : P.main.file = PySem.Challenge.pw_nestrows_k22_corners_told_by_hand.main.file) (hS : (P.main.scope.names.lookup ("super" : Str)).isSome = false) : Okm P w K mg base (CX P w) 4 (He.ga K "RowReader") "numeral" ["self"] (spNmlX (He.ga K "RowReader") (He.ga K "BadText")) := by
  obtain ⟨fd, F⟩ := Z.f_RowReadernumeral
  exact ⟨_, fd, ok_nmlx (k := 3) F (by omega) (Z.o_upc.mono (by omega)) (Z.x_next hP hS) (Z.x_numeralw.mono (by omega)) Z.z_int, Z.m_RowReadernumeral, F.bindsN fun _ _ _ _ _ _ us hl => match us, hl with | [_], _ => rfl, Z.c_RowReader.cl⟩
theorem Cz.x_nmlb (Z : Cz w K h mg) (hP : P.main.file = PySem.Challenge.pw_nestrows_k22_corners_told_by_hand.main.file) (hS : (P.main.scope.names.lookup ("super" : Str)).isSome = false) : Okm P w K mg base (CX P w) 4 (He.ga K "RowReader") "numeral" ["self"] (spNmlB (He.ga K "RowReader") (He.ga K "BadText")) := by
  obtain ⟨fd, F⟩ := Z.f_RowReadernumeral
  exact ⟨_, fd, fnok_both (FnOk.mono (ok_nml F Z.o_upc Z.o_next Z.o_numeralw Z.z_int) (by omega)) (ok_nmlx (k := 3) F (by omega) (Z.o_upc.mono (by omega)) (Z.x_next hP hS) (Z.x_numeralw.mono (by omega)) Z.z_int), Z.m_RowReadernumeral, F.bindsN fun _ _ _ _ _ _ us hl => match us, hl with | [_], _ => rfl, Z.c_RowReader.cl⟩
theorem Cz.x_expr (Z : Cz w K h mg) (hP : P.main.file = PySem.Challenge.pw_nestrows_k22_corners_told_by_hand.main.file) (hS : (P.main.scope.names.lookup ("super" : Str)).isSome = false) : Okm P w K mg base (CX P w) 5 (He.ga K "RowReader") "expression" ["self"] (spExprX (He.ga K "RowReader") (He.ga K "BadText")) := by
  obtain ⟨fd, F⟩ := Z.f_RowReaderexpression
  exact ⟨_, fd, ok_exprx (k := 4) (n := 0) F Z.c_RowReader (Z.o_upc.mono (by omega)) (Z.o_next.mono (by omega)) (Z.x_nml hP hS) (Z.o_sign.mono (by omega)) ((Z.o_expr 0).mono (by omega)) Z.g_NUMBERED Z.numT Z.g_LENGTHS Z.lenTb Z.z_tuple, Z.m_RowReaderexpression, F.bindsN fun _ _ _ _ _ _ us hl => match us, hl with | [_], _ => rfl, Z.c_RowReader.cl⟩
theorem Cz.x_ft (Z : Cz w K h mg) (hP : P.main.file = PySem.Challenge.pw_nestrows_k22_corners_told_by_hand.main.file) (hS : (P.main.scope.names.lookup ("super" : Str)).isSome = false) : Okm P w K mg base (CX P w) 16 (He.ga K "RowReader") "function_told" ["self"] (spFTB (He.ga K "RowReader") (He.ga K "BadText")) := by
  obtain ⟨fd, F⟩ := Z.f_RowReaderfunction_told
  exact ⟨_, fd, fnok_both (ok_ft (k := 15) F Z.c_RowReader (Z.o_nml.mono (by omega)) (Z.o_expr 13) Z.z_len Z.z_tuple) (FnOk.mono (ok_ftx (k := 4) F Z.c_RowReader ((Z.x_nmlb hP hS).mono (by omega)) ((Z.x_expr hP hS).mono (by omega)) ((Z.o_BT hP hS).mono (by omega)) Z.z_len Z.z_tuple) (by omega)), Z.m_RowReaderfunction_told, F.bindsN fun _ _ _ _ _ _ us hl => match us, hl with | [_], _ => rfl, Z.c_RowReader.cl⟩
theorem Cz.x_read (Z : Cz w K h mg) (hP : P.main.file = PySem.Challenge.pw_nestrows_k22_corners_told_by_hand.main.file) (hS : (P.main.scope.names.lookup ("super" : Str)).isSome = false) : Okf P w K mg base (CX P w) 32 "read" ["text"] (spReadX (He.ga K "BadText")) := by
  obtain ⟨fd, F⟩ := Z.f_read
  exact ⟨_, fd, ok_readx (k := 30) F (Z.x_RowReader.mono (by omega)) ((Z.x_ft hP hS).mono (by omega)) (Z.x_fcs hP hS) Z.z_enumerate Z.z_tuple, Z.g_read, F.kp, F.bindsN fun _ _ _ _ _ _ us hl => match us, hl with | [_], _ => rfl⟩
def tsZ (K : PySem.W.Frag) : List (Addr × Str) := [((He.cT K ("_law_calls", none)).2, lamQ "_law_calls"), ((He.cT K ("_law_names", none)).2, lamQ "_law_names"), ((He.cT K ("law", none)).2, lamQ "law")]
theorem mem__law_calls (K : PySem.W.Frag) : ((He.cT K ("_law_calls", none)).2, lamQ "_law_calls") ∈ tsZ K := by
  unfold tsZ
  simp
theorem Cz.hu__law_calls (Z : Cz w K h mg) : ∀ p ∈ tsZ K, p.1 = (He.cT K ("_law_calls", none)).2 → p.2 = lamQ "_law_calls" := fun p hp e => by
  unfold tsZ at hp
  simp only [List.mem_cons, List.not_mem_nil, or_false] at hp
  rcases hp with rfl | rfl | rfl
  · rfl
  · exact absurd e (Z.x5)
  · exact absurd e (Z.x6)
theorem mem__law_names (K : PySem.W.Frag) : ((He.cT K ("_law_names", none)).2, lamQ "_law_names") ∈ tsZ K := by
  unfold tsZ
  simp
theorem Cz.hu__law_names (Z : Cz w K h mg) : ∀ p ∈ tsZ K, p.1 = (He.cT K ("_law_names", none)).2 → p.2 = lamQ "_law_names" := fun p hp e => by
  unfold tsZ at hp
  simp only [List.mem_cons, List.not_mem_nil, or_false] at hp
  rcases hp with rfl | rfl | rfl
  · exact absurd e (Z.x5.symm)
  · rfl
  · exact absurd e (Z.x7)
theorem mem_law (K : PySem.W.Frag) : ((He.cT K ("law", none)).2, lamQ "law") ∈ tsZ K := by
  unfold tsZ
  simp
theorem Cz.hu_law (Z : Cz w K h mg) : ∀ p ∈ tsZ K, p.1 = (He.cT K ("law", none)).2 → p.2 = lamQ "law" := fun p hp e => by
  unfold tsZ at hp
  simp only [List.mem_cons, List.not_mem_nil, or_false] at hp
  rcases hp with rfl | rfl | rfl
  · exact absurd e (Z.x6.symm)
  · exact absurd e (Z.x7.symm)
  · rfl
theorem Cz.kind (Z : Cz w K h mg) (hP : P.main.file = PySem.Challenge.pw_nestrows_k22_corners_told_by_hand.main.file) (hS : (P.main.scope.names.lookup ("super" : Str)).isSome = false) : KindO K mg (He.ga K "NestError") (He.ga K "BadProgram") (He.ga K "BadText") := by
  obtain ⟨fd, F⟩ := Z.f__law_kind
  obtain ⟨_, E1, X1, _⟩ := Z.e_BadProgram hP hS
  obtain ⟨_, E2, X2, _⟩ := Z.e_BadText hP hS
  exact ⟨⟨Z.g_NestError, Z.g_BadProgram, Z.g_BadText, Z.z_isinstance, E1, E2, X1, X2, Z.na_BadProgram_function, Z.na_BadProgram_place, Z.na_BadProgram_word, Z.na_BadText_row, Z.na_BadText_place, Z.x2, Z.x3, Z.x4, Z.xm_BadProgram_NestError, Z.xm_BadText_NestError⟩, ⟨_, fd, Z.g__law_kind, F, F.bindsN fun _ _ _ _ _ _ us hl => match us, hl with | [_], _ => rfl⟩⟩
theorem Cz.o_taken (Z : Cz w K h mg) : Okf P w K mg base CX0 1 "_law_taken" ["_law_row", "_law_many"] (spTaken K) := by
  obtain ⟨fd, F⟩ := Z.f__law_taken
  exact ⟨_, fd, ok_taken F Z.z_len, Z.g__law_taken, F.kp, F.bindsN fun _ _ _ _ _ _ us hl => match us, hl with | [_, _], _ => rfl⟩
theorem Cz.o_calls (Z : Cz w K h mg) (hP : P.main.file = PySem.Challenge.pw_nestrows_k22_corners_told_by_hand.main.file) (hS : (P.main.scope.names.lookup ("super" : Str)).isSome = false) (TB : ∀ p ∈ NH.tfT.map (He.cT K), TabB base mg p.1 p.2) : Okf P w K mg base (CX P w) 34 "_law_calls" ["_law_state"] (spNames K (tsZ K)) := by
  obtain ⟨fd, FL, F⟩ := Z.l__law_calls
  have tb := TB (He.cT K ("_law_calls", none)) (by unfold NH.tfT; simp)
  exact ⟨_, fd, ok_calls (k := 31) FL (Z.kind hP hS) tb (mem__law_calls K) Z.hu__law_calls (Z.o_taken.mono (by omega)) (Z.x_fcs hP hS) Z.z_range Z.z_int Z.z_tuple, Z.g__law_calls, F.kp, F.bindsN fun _ _ _ _ _ _ us hl => match us, hl with | [_], _ => rfl⟩
theorem Cz.o_names (Z : Cz w K h mg) (hP : P.main.file = PySem.Challenge.pw_nestrows_k22_corners_told_by_hand.main.file) (hS : (P.main.scope.names.lookup ("super" : Str)).isSome = false) (TB : ∀ p ∈ NH.tfT.map (He.cT K), TabB base mg p.1 p.2) : Okf P w K mg base (CX P w) 34 "_law_names" ["_law_state"] (spNames K (tsZ K)) := by
  obtain ⟨fd, FL, F⟩ := Z.l__law_names
  have tb := TB (He.cT K ("_law_names", none)) (by unfold NH.tfT; simp)
  exact ⟨_, fd, ok_names (k := 31) FL (Z.kind hP hS) tb (mem__law_names K) Z.hu__law_names (Z.o_taken.mono (by omega)) (Z.x_fcs hP hS), Z.g__law_names, F.kp, F.bindsN fun _ _ _ _ _ _ us hl => match us, hl with | [_], _ => rfl⟩
end
end NR
set_option maxHeartbeats 0
namespace NR
open PySem PySem.Spec PyProof.Rows L2 LamX
theorem Cz.law_ok {P : Program} {w : World} {K : PySem.W.Frag} {mg : Str → Option Value} {h : Heap} (Z : Cz w K h mg) (hP : P.main.file = PySem.Challenge.pw_nestrows_k22_corners_told_by_hand.main.file) (hS : (P.main.scope.names.lookup ("super" : Str)).isSome = false) : ∃ fd : FuncData, (∀ (s : Shared) (v : Value), BindsTo s fd ⟨[v], []⟩ [("_law_script", v)]) ∧ ∀ base : Heap, (∀ p ∈ NH.tfT.map (He.cT K), TabB base mg p.1 p.2) → FnOk P w K mg base (CX P w) 35 (He.ga K "law") fd ["_law_script"] (spLaw K (tsZ K)) := by
  obtain ⟨fd, FL, F⟩ := Z.l_law
  have b := FunD.bindsA (ps := ["_law_script"]) F fun _ _ _ _ _ _ us hl => match us, hl with | [_], _ => rfl
  exact ⟨fd, fun s v => b s [v] rfl, fun base TB => ok_law (k := 31) FL (Z.kind hP hS) (TB (He.cT K ("law", none)) (by unfold NH.tfT; simp)) (mem_law K) Z.hu_law (Z.o_taken.mono (by omega)) (Z.o_calls hP hS TB) (Z.o_names hP hS TB) (Z.x_read hP hS) Z.z_range Z.z_str⟩
theorem cx_never {P : Program} {w : World} {H : Hp} {s : Shared} {e : Value} {s' : Shared} (z : CX P w [] H s (fun _ _ _ => False) e s') : False := by
  obtain ⟨_, _, _, _, _, _, _, _, _, _, _, _, z⟩ := z
  exact z
end NR
open PySem PySem.W PySem.Calls PyProof.Rows
theorem PySem.Challenge.cw_nestrows_k22_corners_told_by_hand_holds : PySem.Challenge.rw_nestrows_k22_corners_told_by_hand.Holds := by
  w_on; o_law
  refine HandSHeadRun.head_any (r := OpenLaw.row PySem.Challenge.rw_nestrows_k22_corners_told_by_hand) (q := view (OpenLaw.row PySem.Challenge.rw_nestrows_k22_corners_told_by_hand).prog [58]) (H := NH.hk) (ob := NH.ob) (M := 12000) (loose := NH.names) (d := HandSHeadRun.topDef (OpenLaw.row PySem.Challenge.rw_nestrows_k22_corners_told_by_hand).prog 58) (kwd := []) NH.ob_eq
    (by kernel_rfl) (fun s => by kernel_rfl) NH.run (by kernel_rfl) (by kernel_rfl) (by kernel_rfl) (by rfl) (by first | assumption | decide +kernel) (by decide +kernel) ⟨rfl, rfl, rfl, rfl, rfl, by decide +kernel⟩ ?hw ?hc
  case hw => w_witness2
  case hc =>
    refine LamX.walk_ofTsE (l := PySem.Challenge.rw_nestrows_k22_corners_told_by_hand) (n := 63) (k := 35) (x := "_law_script") (CX := fun w => L2.CX (PySem.Challenge.rw_nestrows_k22_corners_told_by_hand).prog w) rfl (by decide) (by kernel_rfl) ⟨rfl, by decide, by decide⟩ ?F (fun _ _ _ _ _ z => NR.cx_never z)
    intro w mg fa h Y G hmg0
    obtain ⟨K, KX, c⟩ := Y
    have Z : NR.Cz w K h mg := ⟨KX, G, c.x, c.c⟩
    have hmg : mg ("law" : PySem.Str) = some (.ref fa) := by
      have e : (HandSHeadRun.topDef (OpenLaw.row PySem.Challenge.rw_nestrows_k22_corners_told_by_hand).prog 58).name = ("law" : PySem.Str) := by kernel_rfl
      rw [← e]
      exact hmg0
    have e := hmg.symm.trans Z.g_law
    cases e
    obtain ⟨fd, hb, hF⟩ := Z.law_ok (P := (PySem.Challenge.rw_nestrows_k22_corners_told_by_hand).prog) (by kernel_rfl) (by kernel_rfl)
    refine ⟨K, KX, fd, NH.tfT.map (He.cT K), NR.spLaw K (NR.tsZ K), fun p hp => ?_, fun p hp => ?_, fun p hp => ?_, hb, fun H a ns hl _ hT hS => ⟨a, ns, rfl, hS, fun p hp => ?_, fun _ => rfl⟩, fun base _ _ TB => hF base TB⟩
    · obtain ⟨q, hq, rfl⟩ := List.mem_map.mp hp
      exact Z.c.empty q hq
    · obtain ⟨q, hq, rfl⟩ := List.mem_map.mp hp
      exact Z.c.out q hq
    · obtain ⟨q, hq, rfl⟩ := List.mem_map.mp hp
      exact PySem.W.codeHd_of_K KX (Z.c.hd q hq)
    · unfold NR.tsZ at hp
      simp only [List.mem_cons, List.not_mem_nil, or_false] at hp
      rcases hp with rfl | rfl | rfl
      · exact LamX.TabS.nil (hT _ (List.mem_map.mpr ⟨("_law_calls", none), by unfold NH.tfT; simp, rfl⟩))
      · exact LamX.TabS.nil (hT _ (List.mem_map.mpr ⟨("_law_names", none), by unfold NH.tfT; simp, rfl⟩))
      · exact LamX.TabS.nil (hT _ (List.mem_map.mpr ⟨("law", none), by unfold NH.tfT; simp, rfl⟩))
