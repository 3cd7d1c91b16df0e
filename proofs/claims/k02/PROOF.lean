import PyProof.Rows.All
import Wide.All
import OpenK.AllK
import Wide.FinOn
import KE.KStateDown
import HandS.Base
import HandS.Call
import HandS.Ends
import HandS.More
import HandS.Words
import HandS.WordsExc
import HandS.Defaults
import HandS.Head0
import HandS.Head1
import HandS.Head2
import HandS.HeadEnd
import HandS.HeadHook1
import HandS.HeadHook2
import HandS.HeadHook3
import HandS.HeadHook4
import HandS.ExcField
import HandS.ExcIs
import HandS.HeadWalk
import Lean
import HandS.ForMost
import HandS.Sort
import HandS.SortInts
import HandS.IsInst
import HandS.Walk
import HandS.Lambda
import HandS.Nested
import KE.KDflt
import HandS.Exc
import KE.KDictPairs
import HandS.SetFor
import HandS.Strs
import KE.GoesMore
import HandS.Star
import HandS.DictComp
import HandS.CallLocal
import HandS.TupAny
import HandS.TryOnly
import HandS.Zip
import KE.KDictZip
import KE.KTupSum
import HandS.Conv
import HandS.Rev
import HandS.SetKeys
import HandS.Flow
import HandS.ExcInit
import HandS.FStr
import KE.KExcSuper
import KE.KSuper
import HandS.ExcOwn
import KE.KExcIs
import KE.KDictKeyed
import HandS.Dict
import HandS.TupMul
import PySem.Challenge.RW_nestrows_k02_functions_and_worths_refuse
set_option Elab.async false
set_option linter.all false
set_option maxRecDepth 100000
set_option maxHeartbeats 4000000
namespace NH
open PySem PySem.Spec PyProof.Rows L2 He
abbrev FnC:Type:=Option (Str×Str×Arguments×FuncBody×Scope×Addr×Value×Value×Option Addr×Addr)
def fnC (K:PySem.W.Frag) (p:Str×Option Str):FnC:=match K.lookup (fAd K p) with
 | some ⟨_,_,.func fd,_⟩=>some (fd.name,fd.qualname,fd.params,fd.body,fd.scope,fd.globals,fd.defaults,fd.kwdefaults,fd.annotations,fd.builtins)
 | _=>none
def valC (d:FnD):FnC:=some (d.name,d.qual,d.params,.stmts d.body,d.scope,mainGlobals,.none,.none,none,builtinsNs)
def oclB (K:PySem.W.Frag) (C:Addr):Bool:=match K.lookup C with
 | some ⟨.type t,_,.cls cd,sl⟩=>decide (t = "type") && (match cd.mro,sl.toList with
  | .ref C'::bm,[_,_,_,_,some (.builtin n),_]=>decide (C'=C) && (decide (n = "ValueError.__new__") && (!cd.hasDel && (cd.hasDict && (PySem.HandSPX.refsVE bm && eqO (PySem.W.alongIn K "__init__" bm) (some (some (.builtin "ValueError.__init__")))))))
  | _,_=>false)
 | _=>false
def cellB (K:PySem.W.Frag) (p:Str×Option Str) (q file:Str) (C:Addr):Bool:=match K.lookup (fAd K p) with
 | some ⟨.type t,_,.func fd,_⟩=>decide (t = "function") && ((match fd.closure with
  | [(y,cc)]=>decide (y = "__class__") && (match K.lookup cc with
   | some ⟨_,_,.cell (some (.ref C')),_⟩=>decide (C'=C)
   | _=>false)
  | _=>false) && (PySem.W.codeIn K fd.code q && (match fd.code with
   | .ref c=>(match K.lookup c with
    | some ⟨_,_,.fields vs,_⟩=>(match (vs[2]? : Option Value) with
     | some (.str z _)=>file == z
     | _=>false)
    | _=>false)
   | _=>false)))
 | _=>false
def errB (K:PySem.W.Frag) (x q file:Str):Bool:=oclB K (ga K x) && (cellB K (x,some "__init__") q file (ga K x) && (eqO (PySem.W.findIn K (.ref (ga K x)) "__setattr__") (some (some (.builtin "object.__setattr__"))) &&
 (decide (PySem.W.typeIn K (.ref (ga K x))=some (.type "type")) && (PySem.W.keepIn K (.ref (ga K x)) && (L2.xfB K (ga K x) && (eqO (PySem.W.findIn K (.ref (ga K x)) "__class__") (some (some (.builtin "object.__class__"))) &&
 (eqO (PySem.W.specialIn K (.builtin "object.__class__") "__get__") (some (some (.builtin "getset_descriptor.__get__"))) && (decide (PySem.W.takesIn K (.builtin "object.__class__")=some true) && (decide (PySem.W.mroIn K (ga K x) (.type "object")=some true) &&
 (decide (PySem.W.mroIn K (ga K x) (.ref (ga K x))=some true) && (decide (PySem.W.mroIn K (ga K x) (.type "ValueError")=some true) && (eqO (PySem.W.findIn K (.ref (ga K x)) "__init__") (some (some (.ref (fAd K (x,some "__init__"))))) &&
 (decide (PySem.W.typeIn K (.ref (fAd K (x,some "__init__")))=some (.type "function")) && eqO (PySem.W.nsIn K cStatics "thirdparty.any") (some none))))))))))))))
section
variable (as:List Addr) (fa:List Fa) (fn:List DefD) (ts:List Tab) (tf:List Defn) (ex:PySem.W.Frag→Bool) (nf:List FnD)
abbrev AlY:Type:=AlX×List FnC
def obsL (g:Addr→Option Obj):AlY:=((obsT fa fn ts (frT g as),ex (frT g as) && tabsB g tf (frT g as)),nf.map fun d=>fnC (frT g as) d.at_)
structure SaysY (w:World) (h:Heap) (K:PySem.W.Frag):Prop where
 x:SaysX fa fn ts tf ex w h K
 c:nf.map (fun d=>fnC K d.at_)=nf.map valC
theorem saysL {w:World}{h:Heap}(e:obsL as fa fn ts tf ex nf h.get? = (valX fn ts w,nf.map valC)):SaysY fa fn ts tf ex nf w h (frT h.get? as):=by
 have e0:(obsT fa fn ts (frT h.get? as),ex (frT h.get? as) && tabsB h.get? tf (frT h.get? as))=valX fn ts w:=congrArg (fun z:AlY=>z.1) e
 have e1:obsT fa fn ts (frT h.get? as)=valT fn ts w:=congrArg (fun z:AlX=>z.1) e0
 have e2:(ex (frT h.get? as) && tabsB h.get? tf (frT h.get? as))=true:=congrArg (fun z:AlX=>z.2) e0
 obtain⟨h1,h2⟩:=ba e2
 have key:∀ p∈tf,PySem.W.codeHdIn (frT h.get? as) (cT (frT h.get? as) p).1 (cT (frT h.get? as) p).2=true∧∃ o,h.get? (cT (frT h.get? as) p).2=some o∧emptyTab o=true:=fun p hp=>by
  obtain⟨h3,h4⟩:=ba (List.all_eq_true.mp h2 p hp)
  refine⟨h3,?_⟩
  cases q:h.get? (cT (frT h.get? as) p).2 with
  | none =>
   rw [q] at h4
   cases h4
  | some o =>
   rw [q] at h4
   exact⟨o,rfl,h4⟩
 exact⟨⟨e1,h1,fun p hp=>(key p hp).1,fun p hp=>by
  obtain⟨_,o,q,z⟩:=key p hp
  exact frT_none q z,fun p hp=>by
  obtain⟨_,o,q,z⟩:=key p hp
  rw [q,emptyTab_eq z]⟩,congrArg (fun z:AlY=>z.2) e⟩
def hookL:PySem.W.Hook where
 α:=AlY
 obs:=fun s=>obsL as fa fn ts tf ex nf s.heap.get?
 val:=fun w=>(valX fn ts w,nf.map valC)
 says:=fun w h=>∃ K:PySem.W.Frag,K.In h∧SaysY fa fn ts tf ex nf w h K
 of:=fun _ _ e=>⟨_,frT_in,saysL as fa fn ts tf ex nf e⟩
 keeps:=by
  rintro w h h' ⟨K,hK,c⟩ k
  exact⟨K,PySem.W.Frag.In.keeps hK k,⟨c.x.t,c.x.more,c.x.hd,c.x.out,fun p hp=>k _ _ (c.x.empty p hp)⟩,c.c⟩
end
end NH
namespace NH
open PySem PySem.W PySem.Calls PyProof.Rows
theorem red (h:(OpenLaw.row PySem.Challenge.rw_nestrows_k02_functions_and_worths_refuse).wellSaid=true→(OpenLaw.row PySem.Challenge.rw_nestrows_k02_functions_and_worths_refuse).Holds):PySem.Challenge.rw_nestrows_k02_functions_and_worths_refuse.Holds:=by
 w_on; o_law
 exact h (by assumption)
theorem h_bare:(OpenLaw.row PySem.Challenge.rw_nestrows_k02_functions_and_worths_refuse).prog.bare:=⟨rfl,rfl,rfl,rfl,rfl,by decide +kernel⟩
end NH
set_option maxHeartbeats 0
namespace NH
open PySem PySem.Spec PyProof.Rows L2
def top (i:Nat):Stmt:=PySem.Challenge.pw_nestrows_k02_functions_and_worths_refuse.main.body.getD i (.Pass ⟨0,0,0,0⟩)
def dOf (x:Str) (i:Nat):He.DefD:=⟨(x,none),x,x,defArgs (top i),defBody (top i),defScope (top i),[],[]⟩
def dAs (y x:Str) (i:Nat):He.DefD:=⟨(y,none),x,x,defArgs (top i),defBody (top i),defScope (top i),[],[]⟩
def mOf (c m q:Str) (i j:Nat):He.DefD:=⟨(c,some m),m,q,defArgs (inClass (top i) j),defBody (inClass (top i) j),defScope (inClass (top i) j),[],[]⟩
def fnP0:List He.DefD:=[dOf "is_number" 11,dOf "of_num" 33,dOf "of_two_numbers" 34,dOf "of_if" 35,dOf "of_let" 36,dAs "of_upto_depths" "of_upto" 37,dAs "of_len_depths" "of_len" 39,dAs "of_sum_depths" "of_sum" 41]
def fnP1:List He.DefD:=[dAs "of_sums_depths" "of_sums" 43,dAs "of_one_depths" "of_one" 45,dAs "of_pick_depths" "of_pick" 47,dAs "of_put_depths" "of_put" 49,dAs "of_flat_depths" "of_flat" 51,dOf "of_each" 53,dOf "of_where" 54,dOf "depth_of" 56]
def fnP2:List He.DefD:=[dOf "last_number" 66,dOf "has_shape" 67,dOf "number_of" 68,dOf "parts_of" 69,dOf "has_face" 75,dOf "is_param" 76,dOf "told_faces" 77,dOf "form_of" 78]
def fnP3:List He.DefD:=[dOf "forms_of" 79,dOf "is_worth" 81,dOf "refuse_no_function" 82,dOf "refuse_bad_worths" 83,dOf "run" 86,dOf "good_forms" 122,dOf "run_all" 125,dOf "run_flat" 126]
def fnP4:List He.DefD:=[dOf "run_trimmed" 131,dOf "_law_taken" 133,dOf "_law_parts" 134,dOf "_law_size" 135,dOf "_law_within" 136,dOf "_law_leaf" 137,dOf "_law_number" 138,dOf "_law_bound" 139]
def fnP5:List He.DefD:=[dOf "_law_any" 140,dOf "_law_tree" 141,dOf "_law_face" 142,dOf "_law_body" 143,dOf "_law_program" 144,dOf "_law_row" 145,dOf "_law_worths" 146,dOf "_law_started" 147]
def fnP6:List He.DefD:=[dOf "_law_called" 148,dOf "_law_done" 149,dOf "_law_entered" 150,dOf "_law_gone" 151,dOf "_law_simple" 152,dOf "_law_run" 153,dOf "_law_in_one" 154,dOf "_law_word" 155]
def fnP7:List He.DefD:=[dOf "_law_run_of" 156,dOf "_law_odd" 157,dOf "_law_is_refused" 158,dOf "law" 159,mOf "Node" "__init__" "Node.__init__" 71 0,mOf "Form" "__init__" "Form.__init__" 73 0,mOf "Look" "__init__" "Look.__init__" 74 0,mOf "Look" "refuse_if" "Look.refuse_if" 74 1]
def fnP8:List He.DefD:=[mOf "Look" "node_of" "Look.node_of" 74 2,mOf "Look" "may_call" "Look.may_call" 74 3,mOf "Look" "parts_that_name" "Look.parts_that_name" 74 4,mOf "Look" "depth_told" "Look.depth_told" 74 5]
def fn:List He.DefD:=fnP0++fnP1++fnP2++fnP3++fnP4++fnP5++fnP6++fnP7++fnP8
def faP0:List He.Fa:=[.free "len", .free "range", .free "tuple", .free "list", .free "dict", .free "int", .free "sorted", .free "sum", .free "max", .free "min"]
def faP1:List He.Fa:=[.free "isinstance", .free "str", .free "bool", .free "set", .free "all", .free "enumerate", .free "zip", .free "reversed", .glo "is_number", .glo "of_num"]
def faP2:List He.Fa:=[.glo "of_two_numbers", .glo "of_if", .glo "of_let", .glo "of_upto_depths", .glo "of_len_depths", .glo "of_sum_depths", .glo "of_sums_depths", .glo "of_one_depths", .glo "of_pick_depths", .glo "of_put_depths"]
def faP3:List He.Fa:=[.glo "of_flat_depths", .glo "of_each", .glo "of_where", .glo "depth_of", .glo "last_number", .glo "has_shape", .glo "number_of", .glo "parts_of", .glo "has_face", .glo "is_param"]
def faP4:List He.Fa:=[.glo "told_faces", .glo "form_of", .glo "forms_of", .glo "is_worth", .glo "refuse_no_function", .glo "refuse_bad_worths", .glo "run", .glo "good_forms", .glo "run_all", .glo "run_flat"]
def faP5:List He.Fa:=[.glo "run_trimmed", .glo "_law_taken", .glo "_law_parts", .glo "_law_size", .glo "_law_within", .glo "_law_leaf", .glo "_law_number", .glo "_law_bound", .glo "_law_any", .glo "_law_tree"]
def faP6:List He.Fa:=[.glo "_law_face", .glo "_law_body", .glo "_law_program", .glo "_law_row", .glo "_law_worths", .glo "_law_started", .glo "_law_called", .glo "_law_done", .glo "_law_entered", .glo "_law_gone"]
def faP7:List He.Fa:=[.glo "_law_simple", .glo "_law_run", .glo "_law_in_one", .glo "_law_word", .glo "_law_run_of", .glo "_law_odd", .glo "_law_is_refused", .glo "law", .glo "Node", .glo "Form"]
def faP8:List He.Fa:=[.glo "Look", .glo "LENGTHS", .glo "RULES", .glo "NUMBERED", .int "DIVISOR" (10007),.int "LAST_NUMBER" (10006),.int "MOST_ITEMS" (40),.int "MOST_DEPTH" (3),.int "MOST_FUNCTIONS" (6),.int "MOST_PARAMS" (4)]
def faP9:List He.Fa:=[.int "LAST_NAME" (19),.int "LAST_PLACE" (59),.int "MOST_WITHIN" (12),.int "MOST_CALLS" (30),.int "NO_DEPTH" (-1),.cls "Node", .mkr "Node", .noat "Node" "word", .noat "Node" "function", .noat "Node" "place"]
def faP10:List He.Fa:=[.noat "Node" "number", .noat "Node" "parts", .noat "Node" "depth", .cls "Form", .mkr "Form", .noat "Form" "names", .noat "Form" "depths", .noat "Form" "body", .cls "Look", .mkr "Look"]
def faP11:List He.Fa:=[.noat "Look" "known", .noat "Look" "function", .noat "Look" "looked_at", .noat "Look" "calls_itself", .meth "Look" "refuse_if", .meth "Look" "node_of", .meth "Look" "may_call", .meth "Look" "parts_that_name", .meth "Look" "depth_told", .glo "BadWorth"]
def faP12:List He.Fa:=[.noat "BadWorth" "number", .free "super", .glo "NestError", .free "ValueError", .glo "BadProgram", .glo "BadText", .glo "NoFunction", .exc "NoFunction", .exm "BadWorth" "NestError" true,.exm "NoFunction" "NestError" true]
def fa:List He.Fa:=faP0++faP1++faP2++faP3++faP4++faP5++faP6++faP7++faP8++faP9++faP10++faP11++faP12
def nmP0:List PySem.Str:=["DIVISOR", "LAST_NUMBER", "MOST_ITEMS", "MOST_DEPTH", "MOST_FUNCTIONS", "MOST_PARAMS", "LAST_NAME", "LAST_PLACE", "MOST_WITHIN", "MOST_CALLS", "is_number", "plus"]
def nmP1:List PySem.Str:=["minus", "times", "less", "same", "upto", "length", "total", "sums", "one", "pick", "put", "flat_row"]
def nmP2:List PySem.Str:=["DEEDS_deeds", "sizes_of", "fault_of", "items_of", "deed_of", "NO_DEPTH", "of_num", "of_two_numbers", "of_if", "of_let", "of_upto", "of_upto_depths"]
def nmP3:List PySem.Str:=["of_len", "of_len_depths", "of_sum", "of_sum_depths", "of_sums", "of_sums_depths", "of_one", "of_one_depths", "of_pick", "of_pick_depths", "of_put", "of_put_depths"]
def nmP4:List PySem.Str:=["of_flat", "of_flat_depths", "of_each", "of_where", "RULES", "depth_of", "NestError", "BadProgram", "NoFunction", "BadWorth", "BadText", "LENGTHS"]
def nmP5:List PySem.Str:=["NUMBERED", "last_number", "has_shape", "number_of", "parts_of", "Node", "parts_ahead", "Form", "Look", "has_face", "is_param", "told_faces"]
def nmP6:List PySem.Str:=["form_of", "forms_of", "is_worth", "refuse_no_function", "refuse_bad_worths", "Run", "run", "ITEM_WORDS", "WITH_DEPTH", "taken_by", "blocks_of", "looks_at"]
def nmP7:List PySem.Str:=["taken_in", "Coder", "code_of", "Heaps", "length_of", "of_upto_heaps", "of_len_heaps", "of_sum_heaps", "of_sums_heaps", "of_one_heaps", "of_pick_heaps", "of_put_heaps"]
def nmP8:List PySem.Str:=["of_flat_heaps", "DEEDS_heaps", "deed_in_heaps", "sizes_in_heaps", "Block", "Machine", "good_forms", "run_code", "outcome", "run_all", "run_flat", "MAY_GO"]
def nmP9:List PySem.Str:=["trimmed_block", "trimmed_row", "run_trimmed", "_law_taken", "_law_parts", "_law_size", "_law_within", "_law_leaf", "_law_number", "_law_bound", "_law_any", "_law_tree"]
def nmP10:List PySem.Str:=["_law_face", "_law_body", "_law_program", "_law_row", "_law_worths", "_law_started", "_law_called", "_law_done", "_law_entered", "_law_gone", "_law_simple", "_law_run"]
def nmP11:List PySem.Str:=["_law_in_one", "_law_word", "_law_run_of", "_law_odd", "_law_is_refused"]
def names:List PySem.Str:=nmP0++nmP1++nmP2++nmP3++nmP4++nmP5++nmP6++nmP7++nmP8++nmP9++nmP10++nmP11
def tLengths:List (Str×He.Dv):=[("num", .int 2),("name", .int 2),("plus", .int 3),("minus", .int 3),("times", .int 3),("less", .int 3),("same", .int 3),("if", .int 4),("let", .int 4),("upto", .int 2),("len", .int 2),("sum", .int 2),("sums", .int 2),("one", .int 2),("pick", .int 3),("put", .int 3),("flat", .int 2),("each", .int 4),("where", .int 4),("call", .int 3)]
def kLengths:List Str:=["num", "name", "plus", "minus", "times", "less", "same", "if", "let", "upto", "len", "sum", "sums", "one", "pick", "put", "flat", "each", "where", "call"]
def tRules:List (Str×He.Dv):=[("num", .glo "of_num"),("plus", .glo "of_two_numbers"),("minus", .glo "of_two_numbers"),("times", .glo "of_two_numbers"),("less", .glo "of_two_numbers"),("same", .glo "of_two_numbers"),("if", .glo "of_if"),("let", .glo "of_let"),("upto", .glo "of_upto_depths"),("len", .glo "of_len_depths"),("sum", .glo "of_sum_depths"),("sums", .glo "of_sums_depths"),("one", .glo "of_one_depths"),("pick", .glo "of_pick_depths"),("put", .glo "of_put_depths"),("flat", .glo "of_flat_depths"),("each", .glo "of_each"),("where", .glo "of_where")]
def kRules:List Str:=["num", "plus", "minus", "times", "less", "same", "if", "let", "upto", "len", "sum", "sums", "one", "pick", "put", "flat", "each", "where"]
def uNumbered:List He.Dv:=[.str "num", .str "name", .str "let", .str "each", .str "where", .str "call"]
def tsT:List He.Tab:=[(fun K=>He.ga K "LENGTHS", kLengths),(fun K=>He.ga K "RULES", kRules)]
def exB (K:PySem.W.Frag):Bool:=errB K "BadWorth" "BadWorth.__init__" PySem.Challenge.pw_nestrows_k02_functions_and_worths_refuse.main.file && (decide (PySem.W.kitOne K (.ref (He.ga K "BadWorth")) (.ref (He.ga K "BadProgram"))=some false) && (decide (PySem.W.kitOne K (.ref (He.ga K "BadWorth")) (.ref (He.ga K "BadText"))=some false) && (decide (PySem.W.kitOne K (.ref (He.ga K "BadWorth")) (.ref (He.ga K "BadWorth"))=some true) && (decide (PySem.W.kitOne K (.ref (He.ga K "BadWorth")) (.ref (He.ga K "NoFunction"))=some false) && (decide (PySem.W.kitOne K (.ref (He.ga K "BadWorth")) (.type "ValueError")=some true) && (decide (PySem.W.kitOne K (.ref (He.ga K "NoFunction")) (.ref (He.ga K "BadProgram"))=some false) && (decide (PySem.W.kitOne K (.ref (He.ga K "NoFunction")) (.ref (He.ga K "BadText"))=some false) && (decide (PySem.W.kitOne K (.ref (He.ga K "NoFunction")) (.ref (He.ga K "BadWorth"))=some false) && (decide (PySem.W.kitOne K (.ref (He.ga K "NoFunction")) (.ref (He.ga K "NoFunction"))=some true) && (decide (PySem.W.kitOne K (.ref (He.ga K "NoFunction")) (.type "ValueError")=some true) && (L2.xfB K (He.ga K "NoFunction") && (He.eqO (PySem.W.findIn K (.ref (He.ga K "NoFunction")) "__class__") (some (some (.builtin "object.__class__"))) && (decide (PySem.W.mroIn K (He.ga K "NoFunction") (.type "object")=some true) && (decide ((He.cT K ("_law_is_refused", none)).2≠(He.cT K ("_law_simple", none)).2) && (decide ((He.cT K ("law", none)).2≠(He.cT K ("_law_simple", none)).2) && (decide ((He.cT K ("law", none)).2≠(He.cT K ("_law_is_refused", none)).2) && (He.valsB K (He.ga K "LENGTHS") tLengths && (He.valsB K (He.ga K "RULES") tRules && (He.tupB K "NUMBERED" uNumbered)))))))))))))))))))
def tfT:List He.Defn:=[("_law_simple", none),("_law_is_refused", none),("law", none)]
def nfT:List He.FnD:=[⟨("BadWorth", some "__init__"), "__init__", "BadWorth.__init__", defArgs (inClass (top 61) 0),defBody (inClass (top 61) 0),defScope (inClass (top 61) 0)⟩]
def asP0:List Addr:=[3,21,144,151,158,165,172,179,186,193,200,207,214,221,228,235,236,244,254,276,288,309,330,333,335,342,349,356,363,380,408,460,469,476,481,486,491,496,503,510]
def asP1:List Addr:=[606,959,976,983,1001,1008,1015,1020,1025,1030,1037,1044,1049,1056,1061,1066,1071,1076,1081,1088,1093,1100,1107,1114,1119,1126,1133,1140,1147,1154,1159,1166,20,143,150,157,164,171,178,185]
def asP2:List Addr:=[192,199,206,213,220,227,234,243,253,287,308,341,348,355,362,379,407,459,468,475,480,485,490,495,502,509,605,958,975,982,1000,1007,1014,1019,1024,1029,1036,1043,1048,1055]
def asP3:List Addr:=[1060,1065,1070,1075,1080,1087,1092,1099,1106,1113,1118,1125,1132,1139,1146,1153,1158,1165,306,377,405,426,433,438,445,452,457,305,294,376,404,425,432,437,444,451,456,2]
def as:List Addr:=asP0++asP1++asP2++asP3
abbrev R:PySem.W.OpenRow:=PySem.W.OpenLaw.row PySem.Challenge.rw_nestrows_k02_functions_and_worths_refuse
abbrev hk:PySem.W.Hook:=hookL as fa fn tsT tfT exB nfT
def ob (s:PySem.W.SharedT):AlY:=obsL as fa fn tsT tfT exB nfT (HandSHeadRun.getT s)
theorem ob_eq (s:PySem.W.SharedT):ob s=hk.obs s.abs:=by
 show obsL as fa fn tsT tfT exB nfT (HandSHeadRun.getT s)=obsL as fa fn tsT tfT exB nfT s.abs.heap.get?
 rw [show HandSHeadRun.getT s=s.abs.heap.get? from funext (HandSHeadRun.getT_eq s)]
end NH
namespace NH
open PySem PySem.Spec PyProof.Rows L2 He HandSHeadRun PySem.W PySem.Calls
abbrev qq:Program:=PySem.W.view R.prog [159]
noncomputable abbrev En (w:World) (os:OsState):Option PySem.W.SharedT:=endF (stepQ (denQ tabQ) R.prog w) 12000 R.prog w os
abbrev Kf (s:PySem.W.SharedT):PySem.W.Frag:=frT (getT s) as
theorem comb {S σ τ ν μ:Type}{x:Option S}{lk f1 ex f2:S→Bool}{sn:S→σ}{tb:S→τ}{nf:S→ν}{fm:S→μ}{c1:σ}{c2:τ}{c3:ν}{c4:μ}(hA:x.map (fun s=>(lk s,sn s))=some (true,c1)) (hB:x.map (fun s=>(f1 s,(tb s,ex s),nf s))=some (true,(c2,true),c3)) (hC:x.map (fun s=>(f2 s,fm s))=some (true,c4)) :
  x.map (fun s=>(lk s,sn s,((((f1 s && f2 s,fm s),tb s),ex s),nf s)))=some (true,c1,((((true,c4),c2),true),c3)):=by
 cases x with
 | none=>cases hA
 | some s =>
  have hA:some (lk s,sn s)=some (true,c1):=hA
  have hB:some (f1 s,(tb s,ex s),nf s)=some (true,(c2,true),c3):=hB
  have hC:some (f2 s,fm s)=some (true,c4):=hC
  simp only [Option.some.injEq,Prod.mk.injEq] at hA hB hC
  obtain⟨h1,h2⟩:=hA
  obtain⟨h3,⟨h4,h5⟩,h6⟩:=hB
  obtain⟨h7,h8⟩:=hC
  show some (lk s,sn s,((((f1 s && f2 s,fm s),tb s),ex s),nf s))=_
  rw [h1,h2,h3,h4,h5,h6,h7,h8]
  rfl
def RunA (w:World):Prop:=∀ os:OsState,(En w os).map (fun s=>(looksF R.prog (boot_heap w.params) s.abs,seenQ qq names (importedModules R.prog.main.body) (fun s=>PySem.W.xlAt qq [] s && PySem.W.recOk R.toRowW.records s) s.abs))=some (true,PySem.W.openGood qq names)
def RunB (w:World):Prop:=∀ os:OsState,(En w os).map (fun s=>(fa.all fun f=>f.ok (Kf s),(tsT.map fun t=>dicW (Kf s) (t.1 (Kf s)),exB (Kf s) && tabsB (getT s) tfT (Kf s)),nfT.map fun d=>fnC (Kf s) d.at_))=some (true,(tsT.map fun t=>some (keysIn w.params t.2),true),nfT.map valC)
def RunC (w:World):Prop:=∀ os:OsState,(En w os).map (fun s=>(fn.all fun d=>d.ok (Kf s),fn.map fun d=>fnW (Kf s) d.at_))=some (true,fn.map DefD.val)
theorem rFA (w:World):RunA (w.withFollow "special-get-raises" false):=by
 intro os
 kernel_rfl
theorem rFB (w:World):RunB (w.withFollow "special-get-raises" false):=by
 intro os
 kernel_rfl
theorem rFC (w:World):RunC (w.withFollow "special-get-raises" false):=by
 intro os
 kernel_rfl
theorem rTA (w:World):RunA (w.withFollow "special-get-raises" true):=by
 intro os
 kernel_rfl
theorem rTB (w:World):RunB (w.withFollow "special-get-raises" true):=by
 intro os
 kernel_rfl
theorem rTC (w:World):RunC (w.withFollow "special-get-raises" true):=by
 intro os
 kernel_rfl
theorem ob_fun:ob=fun s=>(((((fa.all fun f=>f.ok (Kf s)) && fn.all fun d=>d.ok (Kf s),fn.map fun d=>fnW (Kf s) d.at_),tsT.map fun t=>dicW (Kf s) (t.1 (Kf s))),exB (Kf s) && tabsB (getT s) tfT (Kf s)),nfT.map fun d=>fnC (Kf s) d.at_):=rfl
theorem val_is (w:World):hk.val w=((((true,fn.map DefD.val),tsT.map fun t=>some (keysIn w.params t.2)),true),nfT.map valC):=rfl
theorem run_of {w:World}(a:RunA w) (b:RunB w) (c:RunC w):HandSHeadRun.RunEq R qq hk ob 12000 names w:=by
 rw [ob_fun]
 unfold HandSHeadRun.RunEq
 rw [val_is]
 exact fun os=>comb (a os) (b os) (c os)
theorem run (w:World):HandSHeadRun.RunEq R (PySem.W.view R.prog [159]) hk ob 12000 names w:=PySem.W.byRow2 "special-get-raises" (P:=fun w=>HandSHeadRun.RunEq R (PySem.W.view R.prog [159]) hk ob 12000 names w) (fun w=>run_of (rFA w) (rFB w) (rFC w)) (fun w=>run_of (rTA w) (rTB w) (rTC w)) w
end NH
set_option maxHeartbeats 4000000
namespace NR
open PySem PySem.Spec PyProof.Rows L2
abbrev FnP (K:PySem.W.Frag) (x:Str) (st:Stmt) (f:Addr) (fd:FuncData):Prop:=FunD K x x (defArgs st) (defBody st) (defScope st) [] [] f fd
structure Okf (P:Program) (w:World) (K:PySem.W.Frag) (mg:Str→Option Value) (base:Heap) (CX:CXT) (k:Nat) (x:Str) (ps:List Str) (sp:Sp):Prop where
 ex:∃ f fd,FnOk P w K mg base CX k f fd ps sp∧mg x=some (.ref f)∧PySem.W.keepIn K (.ref f)=true∧Binds K fd ps []
theorem Okf.mono {P w K mg base CX j k x ps sp}(O:Okf P w K mg base CX j x ps sp) (h:j≤k):Okf P w K mg base CX k x ps sp:=by
 obtain⟨f,fd,F,r⟩:=O.ex
 exact⟨f,fd,F.mono h,r⟩
section
variable {X:Cx}{CX:CXT}{k:Nat}{x:Str}{ps:List Str}{sp:Sp}{E:XK}{e:Expr}{es:List Expr}{t:TA}{p pos:Pos}
theorem pe_c (O:Okf X.prog X.w X.K X.mg X.base CX k x ps sp) (hr:Room k X.A) (hg:Gl X x) (hx:Passes CX X E)
  (ha:PA X (e::es) t) (hdb:(x == ("__debug__" : Str))=false:=by decide) (he:starEach (e::es) X.env=(false,eval e X.env)::starEach es X.env:=by rfl) (hpl:(backTo pos (starEach es X.env)).any (·.1)=false:=by rfl) :
  PE X (.Call (.Name x p) (e::es) [] pos) (tCall sp [] E t):=by
 obtain⟨f,fd,F,hm,hk,hb⟩:=O.ex
 exact pe_call F hr hg hm hk hb .nil hx ha hdb he hpl
end
section
variable {X:Cx}(K:PySem.W.Frag)
theorem ix_listK (h:X.K=K:=by rfl):IxR X (rIxL K):=h ▸ ix_list
theorem ix_tupK (h:X.K=K:=by rfl):IxR X (rIxT K):=h ▸ ix_tup
theorem sl_listK (h:X.K=K:=by rfl):SlR X (rSlL K):=h ▸ sl_list
theorem sl_tupK (h:X.K=K:=by rfl):SlR X (rSlT K):=h ▸ sl_tup
def rLen (K:PySem.W.Frag):List V→Hp→VK→Prop:=fun xs H Q=>∃ p ys,xs=[.ref p]∧(SqL K H p ys∨SqT K H p ys)∧Q (.int ys.length) H
theorem call_lenK (h:X.K=K:=by rfl):CallR X (.builtin "len") (rLen K):=h ▸ call_len_seq
def rListOf (K:PySem.W.Frag):List V→Hp→VK→Prop:=fun xs H Q=>∃ p ys,xs=[.ref p]∧(SqL K H p ys∨SqT K H p ys)∧∀ l,H l=none→Q (.ref l) (upd H l (.lst ys))
theorem call_listK (h:X.K=K:=by rfl):CallR X (.type "list") (rListOf K):=h ▸ call_list_of
def rTupleOf (K:PySem.W.Frag):List V→Hp→VK→Prop:=fun xs H Q=>∃ p ys,xs=[.ref p]∧((SqL K H p ys∧∀ l,H l=none→Q (.ref l) (upd H l (.tup ys)))∨(SqT K H p ys∧Q (.ref p) H))
theorem call_tupleK (h:X.K=K:=by rfl):CallR X (.type "tuple") (rTupleOf K):=h ▸ call_tuple_of
theorem op_inK (h:X.K=K:=by rfl):OpR X (compareOp .In) (rIn K false):=h ▸ op_in_seq
theorem op_notInK (h:X.K=K:=by rfl):OpR X (compareOp .NotIn) (rIn K true):=h ▸ op_notIn_seq
theorem op_eqDK (hu:X.A.units+64 < cLine) (h:X.K=K:=by rfl):OpR X (compareOp .Eq) (rEqD K):=h ▸ op_eqD hu
theorem op_neDK (hu:X.A.units+64 < cLine) (h:X.K=K:=by rfl):OpR X (compareOp .NotEq) (rNeD K):=h ▸ op_neD hu
theorem op_catTK (h:X.K=K:=by rfl):OpR X (binaryOp .Add) (rCatT K):=h ▸ op_catT
theorem cr_sortedK (h:X.K=K:=by rfl):CallR X (.builtin "sorted") (rSorted K):=h ▸ cr_sorted
theorem pi_listK {tg l:Expr}{tl:TE}(hl:PE X l tl) (h:X.K=K:=by rfl):PI X tg l (iList K tl):=h ▸ pi_list hl
theorem pi_tupK {tg l:Expr}{tl:TE}(hl:PE X l tl) (h:X.K=K:=by rfl):PI X tg l (iTup K tl):=h ▸ pi_tup hl
theorem pe_fldK {e:Expr}{ta:TE}{f:Str}{pos:Pos}(he:PE X e ta) (hb:attributeBase e f X.env (eval e X.env)=eval e X.env) (h:X.K=K:=by rfl):PE X (.Attribute e f pos) (tFld K ta f):=h ▸ pe_fld he hb
end
def SameX (r:Addr) (H H':Hp):Prop:=∀ b o,b≠r→H b=some o→H' b=some o
theorem SameX.refl (r:Addr) (H:Hp):SameX r H H:=fun _ _ _ h=>h
theorem SameX.trans {r:Addr}{H H1 H2:Hp}(a:SameX r H H1) (b:SameX r H1 H2):SameX r H H2:=fun c o n h=>b c o n (a c o n h)
theorem SameX.upd {r:Addr}{H:Hp}{o:HO}:SameX r H (upd H r o):=fun b u n h=>by rw [upd_ne n]; exact h
theorem SameX.new {r p:Addr}{H:Hp}{o:HO}(h:H p=none):SameX r H (L2.upd H p o):=fun b u n q=>by rw [upd_ne (ne_of_none q h)]; exact q
theorem Same.toX {r:Addr}{H H':Hp}(h:Same H H'):SameX r H H':=fun b o _ q=>h b o q
theorem same_new {H:Hp}{p:Addr}(h:H p=none) (o:HO):Same H (upd H p o):=fun b u q=>by rw [upd_ne (ne_of_none q h)]; exact q
structure RD where
 r:Addr
 a:Addr
 ns:List Int
instance:CoeOut RD Addr:=⟨RD.r⟩
def Apt (K:PySem.W.Frag) (r:RD):Prop:=r.a≠r.r∨∀ H,SqL K H r.a (r.ns.map V.int)
structure Draw (K:PySem.W.Frag) (r:RD) (H:Hp):Prop where
 ex:∃ (p x l:Int),H r.r=some (.lst [.ref r.a,.int p,.int x,.int l])∧SqL K H r.a (r.ns.map V.int)∧Apt K r∧0≤p∧0≤x∧0≤l
theorem sqL_X {K:PySem.W.Frag}{r a:Addr}{H H':Hp}{xs:List V}(e:SameX r H H') (n:a≠r) (h:SqL K H a xs):SqL K H' a xs:=by
 rcases h with (h | ⟨o,h⟩) | h
 ·exact .inl (.inl (e _ _ n h))
 ·exact .inl (.inr ⟨o,e _ _ n h⟩)
 ·exact .inr h
theorem Apt.sq {K:PySem.W.Frag}{r:RD}{H H':Hp}(n:Apt K r) (e:SameX r.r H H') (S:SqL K H r.a (r.ns.map V.int)):SqL K H' r.a (r.ns.map V.int):=by
 rcases n with n | n
 ·exact sqL_X e n S
 ·exact n H'
structure Drawn (K:PySem.W.Frag) (r:RD) (H H':Hp):Prop where
 d:Draw K r H'
 s:SameX r.r H H'
section
variable {K:PySem.W.Frag}{r:RD}{H H1 H2 H':Hp}
theorem Drawn.trans (a:Drawn K r H H1) (b:Drawn K r H1 H2):Drawn K r H H2:=⟨b.d,a.s.trans b.s⟩
theorem Drawn.refl (d:Draw K r H):Drawn K r H H:=⟨d,.refl _ _⟩
theorem Draw.ref (d:Draw K r H):∃ o,H r.r=some o:=by
 obtain⟨p,x,l,h,_⟩:=d.ex
 exact⟨_,h⟩
theorem Drawn.new {q:Addr}{o:HO}(d:Draw K r H) (h:H q=none):Drawn K r H (upd H q o):=by
 obtain⟨p,x,l,e,S,rest⟩:=d.ex
 exact⟨⟨p,x,l,by rw [upd_ne (ne_of_none e h)]; exact e,(same_new h o).seq S,rest⟩,.new h⟩
theorem Draw.put {p x l:Int}(S:SqL K H r.a (r.ns.map V.int)) (n:Apt K r) (e:SameX r.r H H') (h:H' r.r=some (.lst [.ref r.a,.int p,.int x,.int l])) (hp:0≤p) (hx:0≤x) (hl:0≤l):Drawn K r H H' :=
 ⟨⟨p,x,l,h,n.sq e S,n,hp,hx,hl⟩,e⟩
theorem Drawn.put {D:Addr}{o:HO}(g:Drawn K r H H') (d:Draw K r H) (h:H D=none):Drawn K r H (upd H' D o):=by
 obtain⟨p0,x0,l0,e0,S0,n0,_⟩:=d.ex
 obtain⟨p,x,l,e,S,n,rest⟩:=g.d.ex
 have nr:r.r≠D:=ne_of_none e0 h
 refine⟨⟨p,x,l,by rw [upd_ne nr]; exact e,?_,n,rest⟩,fun b u nb hb => ?_⟩
 ·rcases n with n | n
  ·rcases S0 with (q | ⟨o,q⟩) | q
   ·exact .inl (.inl ((upd_ne (ne_of_none q h)).trans (g.s _ _ n q)))
   ·exact .inl (.inr ⟨o,(upd_ne (ne_of_none q h)).trans (g.s _ _ n q)⟩)
   ·exact .inr q
  ·exact n _
 ·rw [upd_ne (ne_of_none hb h)]
  exact g.s b u nb hb
end
def spTaken (K:PySem.W.Frag):Sp:=fun vs H Q _=>∃ (r:RD) (m:Int),vs=[.ref r.r,.int m]∧Draw K r H∧0 < m∧m < 1073741824 ∧
 ∀ (k:Int) (H':Hp),0≤k→k < m→Drawn K r H H'→Q (.int k) H'
end NR
namespace NR
open PySem PySem.Spec PyProof.Rows L2 LamX NdefX
structure LamW where
 qual:Str
 pars:Arguments
 body:Expr
 scope:Scope
 cl:List (Str×Addr)
 dV:Value
 c:Addr
def LamW.obj (L:LamW) (doc pm ctv:Value):Obj:=PySem.W.kdv_obj "<lambda>" L.qual L.pars (.expr L.body) L.scope L.cl L.dV doc pm L.c ctv
def LamO (f:Addr) (L:LamW):HO:=.ext fun h=>∃ doc pm ctv:Value,h.get? f=some (L.obj doc pm ctv)
section
variable {X:Cx}{pins:List (Addr×Obj)} {σ:L2.St}{H:Hp}{s:Shared}
theorem inv_lam {L:LamW}{tk:Nat}{doc pm ctv:Value}(I:L2.Inv X pins σ H s):L2.Inv X pins σ (upd H s.heap.objs.size (LamO s.heap.objs.size L)) { s with heap:=s.heap.push (L.obj doc pm ctv),toks:=tk }:=by
 have at_:(s.heap.push (L.obj doc pm ctv)).get? s.heap.objs.size=some (L.obj doc pm ctv):=Heap.get?_push_size _ rfl
 refine I.laid (fun _ _ z=>Heap.get?_push_of_some _ z) (Nat.le_refl _) ⟨⟨doc,pm,ctv,at_⟩,⟨_,at_⟩,?_⟩
 rintro h1 h2 ⟨a,b,c,z⟩ keep
 exact⟨a,b,c,keep _ z⟩
theorem lam_tail {T:List (Addr×Str)} {c P:Addr}{pars:Arguments}{body:Expr}{scope:Scope}{pos:Pos}{dV:Value}{E:Value→Shared→Prop}{Q:Value→Shared→Prop}(I:L2.Inv X pins σ H s) (TB:TabB X.base X.mg c P) (hcode:X.env.code=.ref c)
  (mem:(P,X.env.qual ++ "<lambda>")∈T) (uniq:∀ p∈T,p.1=P→p.2=X.env.qual ++ "<lambda>") (tabs:Tabs T H) (hfree:∀ y∈scope.names,y.2=.free→∃ c,X.env.cells.lookup y.1=some c)
  (want:∀ (f c':Addr) (G:Hp) (s2:Shared),L2.Inv X pins σ G s2→ExtN H G→(∀ b,G b=none→H b=none)→Tabs T G→H f=none→G f=some (LamO f ⟨X.env.qual ++ "<lambda>", pars,body,scope,cloFrom X.env.cells scope.names [],dV,c'⟩)→G c'=some (CodeO c' (X.env.qual ++ "<lambda>"))→Q (.ref f) s2) :
  wpAny (model X.prog X.w) X.A (makeTail "<lambda>" (X.env.qual ++ "<lambda>") pars (.expr body) scope X.env dV .none none pos pos.line) Q E s:=by
 obtain⟨ps,hP,triples,among⟩:=tabs _ mem
 have bP:s.heap.BuiltinsAt X.mg P:=TB.bm.keeps I.bk
 have objP:s.heap.get? P=some { cls:=.none,data:=.fields ps }:=I.hok P _ hP
 rcases hit:codeAmong pos ps.toList with _ | cv
 ·apply PySem.W.kdv_makeTail (mg:=X.mg) (c:=c) (P:=P) (ps:=ps) (closure_ok hfree) I.ok.glob (I.mod.glob.keeps I.bk) hcode (TB.code.keeps I.bk) objP triples hit TB.gP bP
  rintro c' ctv doc h2 tk ext ge lt ⟨d0,oc,vs,tq,ed,goc,dat,vs1⟩ tab2
  cases ed
  have fresh:H c'=none:=I.hok.fresh ge
  have J:=inv_table (t':=tk) (more:=#[rawInt pos.line,rawInt pos.col,.ref c']) (q:=X.env.qual ++ "<lambda>") I hP ext tab2 ge ⟨oc,vs,tq,goc,dat,vs1⟩
  generalize eG:upd (upd H P (.tbl (ps++#[rawInt pos.line,rawInt pos.col,.ref c']))) c' (CodeO c' (X.env.qual ++ "<lambda>"))=G at J
  have neP:∀ b o,H b=some o→(∀ qs,o≠.tbl qs)→b≠P:=fun b o z n e=>n ps (Option.some.inj (z.symm.trans (by rw [e]; exact hP)))
  have keepG:ExtN H G:=fun b o z n=>by
   rw [← eG,upd_ne (ne_of_none z fresh),upd_ne (neP b o z n)]
   exact z
  have atc:G c'=some (CodeO c' (X.env.qual ++ "<lambda>")):=by
   rw [← eG,upd_same]
  have gone:∀ b,G b=none→H b=none:=fun b z=>by
   rw [← eG] at z
   exact upd_none (upd_none z)
  have aList:(ps++#[rawInt pos.line,rawInt pos.col,.ref c']).toList=ps.toList++[rawInt pos.line,rawInt pos.col,.ref c']:=by simp
  have tabsG:Tabs T G:=fun p hp=>by
   by_cases e:p.1=P
   ·rw [uniq p hp e,e]
    refine⟨_,by rw [← eG,upd_ne (ne_of_none hP fresh),upd_same],by rw [aList]; exact PySem.TriplesOk_snoc _ _ _ _ triples,fun p2 cv z => ?_⟩
    rw [aList] at z
    rcases among_app _ triples z with y | y
    ·obtain⟨d,e1,e2⟩:=among p2 cv y
     exact⟨d,e1,keepG _ _ e2 codeO_ne⟩
    ·exact⟨c',y,atc⟩
   ·obtain⟨qs,a1,a2,a3⟩:=tabs p hp
    refine⟨qs,by rw [← eG,upd_ne (ne_of_none a1 fresh),upd_ne e]; exact a1,a2,fun p2 cv z => ?_⟩
    obtain⟨d,e1,e2⟩:=a3 p2 cv z
    exact⟨d,e1,keepG _ _ e2 codeO_ne⟩
  have nF:G h2.objs.size=none:=J.hok.fresh (Nat.le_refl _)
  refine want h2.objs.size c' _ _ (inv_lam (L:=⟨X.env.qual ++ "<lambda>", pars,body,scope,cloFrom X.env.cells scope.names [],dV,c'⟩) (tk:=tk) (doc:=doc) (pm:=(X.mg "__name__").getD .none) (ctv:=ctv) J) (fun b o z n => ?_) (fun b z=>gone b (upd_none z)) (tabsG.ext fun b o z => ?_) (gone _ nF) upd_same ?_
  ·exact (upd_ne (ne_of_none (keepG b o z n) nF)).trans (keepG b o z n)
  ·exact (upd_ne (ne_of_none z nF)).trans z
  ·exact (upd_ne (ne_of_none atc nF)).trans atc
 ·obtain⟨c',e,atc⟩:=among pos cv hit
  subst e
  apply PySem.W.kdv_makeTailHit (mg:=X.mg) (c:=c) (P:=P) (ps:=ps) (closure_ok hfree) I.ok.glob (I.mod.glob.keeps I.bk) hcode (TB.code.keeps I.bk) objP triples hit bP
  intro ctv doc h2 tk ext sz
  have J:L2.Inv X pins σ H { s with heap:=h2,toks:=tk }:=I.kept ext
  have nF:H h2.objs.size=none:=J.hok.fresh (Nat.le_refl _)
  refine want h2.objs.size c' _ _ (inv_lam (L:=⟨X.env.qual ++ "<lambda>", pars,body,scope,cloFrom X.env.cells scope.names [],dV,c'⟩) (tk:=tk) (doc:=doc) (pm:=(X.mg "__name__").getD .none) (ctv:=ctv) J) (fun b o z _ => ?_) (fun b z=>upd_none z) (tabs.ext fun b o z => ?_) nF upd_same ?_
  ·exact (upd_ne (ne_of_none z nF)).trans z
  ·exact (upd_ne (ne_of_none z nF)).trans z
  ·exact (upd_ne (ne_of_none atc nF)).trans atc
def tLam0 (T:List (Addr×Str)) (mk:Value→Addr→LamW):TE:=fun _ H Q=>Tabs T H∧∀ (f c':Addr) (G:Hp),ExtN H G→(∀ b,G b=none→H b=none)→Tabs T G→H f=none→G f=some (LamO f (mk .none c'))→G c'=some (CodeO c' (mk .none c').qual)→Q (.ref f) G
def tLam1 (T:List (Addr×Str)) (mk:Value→Addr→LamW) (te:TE):TE:=fun σ H Q=>te σ H fun v H1=>Tabs T H1∧∀ (d f c':Addr) (G:Hp),H1 d=none→ExtN H1 G→(∀ b,G b=none→H1 b=none)→Tabs T G→H1 f=none→f≠d→G d=some (.tup [v])→G f=some (LamO f (mk (.ref d) c'))→G c'=some (CodeO c' (mk (.ref d) c').qual)→Q (.ref f) G
abbrev lamW (X:Cx) (pars:Arguments) (body:Expr) (scope:Scope) (dV:Value) (c':Addr):LamW:=⟨X.env.qual ++ "<lambda>", pars,body,scope,cloFrom X.env.cells scope.names [],dV,c'⟩
theorem pe_lam0 {T:List (Addr×Str)} {c P:Addr}{pars:Arguments}{body:Expr}{scope:Scope}{pos:Pos}(TB:TabB X.base X.mg c P) (hcode:X.env.code=.ref c) (mem:(P,X.env.qual ++ "<lambda>")∈T) (uniq:∀ p∈T,p.1=P→p.2=X.env.qual ++ "<lambda>")
  (hfree:X.Ok→∀ y∈scope.names,y.2=.free→∃ c,X.env.cells.lookup y.1=some c) (hdef:defaultsOf pars X.env=([],[]):=by rfl):PE X (.Lambda pars body scope pos) (tLam0 T (lamW X pars body scope)):=by
 constructor
 rintro pins s σ H Q I ⟨tabs,want⟩
 apply PySem.W.kla_eval hdef
 rw [makeFunction_eq]
 simp only [List.zip_nil_right,List.filterMap_nil,List.isEmpty_nil,if_true,pure_bind]
 apply lam_tail I TB hcode mem uniq tabs (hfree I.ok)
 intro f c' G s2 J e1 e2 e3 e4 e5 e6
 exact⟨.ref f,G,J,rfl,want f c' G e1 e2 e3 e4 e5 e6⟩
theorem pe_lam1 {T:List (Addr×Str)} {c P:Addr}{pars:Arguments}{body e:Expr}{scope:Scope}{pos:Pos}{te:TE}(TB:TabB X.base X.mg c P) (hcode:X.env.code=.ref c) (mem:(P,X.env.qual ++ "<lambda>")∈T) (uniq:∀ p∈T,p.1=P→p.2=X.env.qual ++ "<lambda>")
  (hfree:X.Ok→∀ y∈scope.names,y.2=.free→∃ c,X.env.cells.lookup y.1=some c) (he:PE X e te) (hd:pars.defaults=[e]:=by rfl) (hk:pars.kw_defaults=[]:=by rfl):PE X (.Lambda pars body scope pos) (tLam1 T (lamW X pars body scope) te):=by
 constructor
 intro pins s σ H Q I want
 apply PySem.W.kdv_lam (by rw [hd]; rfl) hk
 rw [hd]
 apply PySem.W.kdv_all1
 apply thn (he.run pins s σ H _ I want)
 rintro u s1 ⟨v,H1,J,rel,tabs,want⟩
 apply PySem.W.kdv_all0
 rw [makeFunction_eq]
 simp only [List.zip_nil_right,List.filterMap_nil,List.isEmpty_nil,List.isEmpty_cons,if_true,pure_bind,Bool.false_eq_true,if_false]
 apply wpAny_bind
 apply wpAny_newTextTuple
 have nd:H1 s1.heap.objs.size=none:=J.hok.fresh (Nat.le_refl _)
 have okT:ObjOk X.prog X.w (upd H1 s1.heap.objs.size (.tup [v])) (s1.heap.push { cls:=.type "tuple", data:=.seq [u].toArray }) s1.heap.objs.size (.tup [v]):=⟨by show 1≤sizeLine; decide,[u],.cons rel .nil,IsTup.new _ _⟩
 have J2:=J.laid (t':=s1.toks) (fun _ _ z=>Heap.get?_push_of_some _ z) (Nat.le_refl _) okT
 have same:Same H1 (upd H1 s1.heap.objs.size (.tup [v])):=same_new nd _
 apply lam_tail J2 TB hcode mem uniq (tabs.ext same) (hfree J.ok)
 intro f c' G s2 JG e1 e2 e3 e4 e5 e6
 have fd:f≠s1.heap.objs.size:=fun z=>by
  rw [z,upd_same] at e4
  cases e4
 refine⟨.ref f,G,JG,rfl,want s1.heap.objs.size f c' G nd (fun b o z n=>e1 b o (same b o z) n) (fun b z=>upd_none (e2 b z)) e3 (upd_none e4) fd ?_ e5 e6⟩
 exact e1 _ _ upd_same (fun ps z=>by cases z)
end
end NR
namespace NR
open PySem PySem.Spec PyProof.Rows L2
structure Rm (k:Nat) (A:Around):Prop where
 hd:A.handled=none
 dp:A.depth+k+8 < recursionLimit
 un:A.units+4*k+300 < cLine
theorem Rm.mono {j k:Nat}{A:Around}(r:Rm k A) (h:j≤k):Rm j A:=⟨r.hd,by have:=r.dp; omega,by have:=r.un; omega⟩
theorem Rm.deeper {k:Nat}{A:Around}(r:Rm (k+1) A) (env:Env):Rm k (A.deeper env) :=
 ⟨r.hd,by have:=r.dp; show A.depth+1+k+8 < _; omega,by have:=r.un; show A.units+3+4*k+300 < _; omega⟩
theorem Rm.room {j k:Nat}{A:Around}(r:Rm k A) (h:4*j≤k):Room j A:=⟨r.hd,by have:=r.dp; omega,by have:=r.un; omega⟩
theorem Rm.depth {k:Nat}{A:Around}(r:Rm k A):A.depth < recursionLimit:=by have:=r.dp; omega
theorem Rm.units64 {k:Nat}{A:Around}(r:Rm k A):A.units+64 < cLine:=by have:=r.un; omega
structure FnG (P:Program) (w:World) (K:PySem.W.Frag) (mg:Str→Option Value) (base:Heap) (CX:CXT) (k:Nat) (f:Addr) (fd:FuncData) (ps:List Str) (sp:Sp):Prop where
 len:∀ (vs:List V) (H:Hp) (Q:VK) (E:XK),sp vs H Q E→vs.length=ps.length
 run:∀ (A:Around) (out:List Env) (s:Shared) (H:Hp) (ar:PySem.Args) (us:List Value) (vs:List V) (Q:VK) (E:XK),Rm k A→Env0 P w K mg base A out s H→BindsTo s fd ar (ps.zip us)→Vals vs us→sp vs H Q E→codeAny (model P w) A (.call (.ref f) ar) (CR CX out P w H s Q E) s
theorem FnG.of {P:Program}{w:World}{K:PySem.W.Frag}{mg:Str→Option Value}{base:Heap}{CX:CXT}{j k:Nat}{f:Addr}{fd:FuncData}{ps:List Str}{sp:Sp}(F:FnOk P w K mg base CX j f fd ps sp) (h:4*j≤k):FnG P w K mg base CX k f fd ps sp :=
 ⟨F.len,fun A outer s H args us vs Q E hr=>F.run A outer s H args us vs Q E (hr.room h)⟩
theorem FnG.mono {P:Program}{w:World}{K:PySem.W.Frag}{mg:Str→Option Value}{base:Heap}{CX:CXT}{j k:Nat}{f:Addr}{fd:FuncData}{ps:List Str}{sp:Sp}(F:FnG P w K mg base CX j f fd ps sp) (h:j≤k):FnG P w K mg base CX k f fd ps sp :=
 ⟨F.len,fun A outer s H args us vs Q E hr=>F.run A outer s H args us vs Q E (hr.mono h)⟩
theorem fn_ofG {CX:CXT}{P:Program}{w:World}{K:PySem.W.Frag}{mg:Str→Option Value}{base:Heap}{k:Nat}{f:Addr}{nm qn:Str}{pars:Arguments}{bd:List Stmt}{scp:Scope}{dv kv dc pmo cdo cto oc:Value}{ann od:Option Addr}
  {sl:Array (Option Value)} {N ps:List Str}{sp:Sp}(look:K.lookup f=some ⟨oc,od,.func (PySem.W.fnOf nm qn pars bd scp dv kv dc pmo ann cdo cto),sl⟩) (hcode:PySem.W.codeIn K cdo qn=true) (S:FnScope N ps scp)
  (hlen:∀ (vs:List V) (H:Hp) (Q:VK) (E:XK),sp vs H Q E→vs.length=ps.length)
  (walk:∀ (A:Around) (out:List Env) (s:Shared) (H:Hp) (vs:List V) (Q:VK) (E:XK),Rm k (A.deeper (envOfC qn scp s.heap.objs.size f cdo))→sp vs H Q E →
   ∃ t,PSs (cxOf CX P w K mg base N qn scp f cdo A out s H E) bd t∧t { nx:=fun _ H'=>Q .non H',rt:=Q } (L2.start N vs) H) :
  FnG P w K mg base CX (k+1) f (PySem.W.fnOf nm qn pars bd scp dv kv dc pmo ann cdo cto) ps sp:=by
 constructor
 ·exact hlen
 intro A out s H ar us vs Q E rm env bnd vals want
 have same:∀ b o,base.get? b=some o→s.heap.get? b=some o:=fun b o z=>(env.bs b o z).1
 have kin:K.In s.heap:=env.mod.kin.keeps same
 have nolim:s.heap.NoLimit:=env.mod.nolimit.keeps same
 have kinds:∀ y∈ps.zip us,scp.names.lookup y.1=some .local∨(scp.names.lookup y.1=some .cell∧((cellsFrom (s.heap.objs.size+1) scp.names []).lookup y.1).isSome=true):=by
  rintro⟨n,v⟩ hy
  refine (S.par n (List.of_mem_zip hy).1).imp id fun z=>⟨z,?_⟩
  exact PySem.W.cellsFrom_some _ _ _ (Or.inl z)
 obtain hl:=hlen vs H Q E want
 apply codeAny_call_function rm.depth (kin _ _ look) rfl S.co S.gen rfl (PySem.W.codeRec_of kin hcode)
 apply bnd
 apply wpAny_newFunctionEnv_cells S.kind kinds
 intro en hen s1 fresh
 subst hen
 obtain⟨t,der,rd⟩:=walk A out s H vs Q E (rm.deeper _) want
 have I:L2.Inv (cxOf CX P w K mg base N qn scp f cdo A out s H E) [] (L2.start N vs) H s1:=inv_start S rm.hd env hl vals fresh
 constructor
 ·exact nolim.keeps fresh.toInCall.keep
 apply codeAny_func
 apply wpAny_mono (der.run [] s1 (L2.start N vs) H _ I rd) _ fun _ _ z=>z
 have done:∀ {τ:L2.St}{H':Hp}{v:V}{u:Value}{s2:Shared},L2.Inv (cxOf CX P w K mg base N qn scp f cdo A out s H E) [] τ H' s2→RelV v u→Q v H'→CE out P w H s Q u s2:=by
  intro τ H' v u s2 J rel z
  exact⟨v,H',J.os,J.bare,J.base,J.hok,rel,z⟩
 intro fl s2 z
 match fl,z with
 | .ret u,⟨v,τ,H',J,rel,y⟩=>exact done J rel y
 | .next,⟨τ,H',J,y⟩=>exact done (v:=.non) (u:=.none) J rfl y
 | .brk,⟨_,_,_,y⟩=>exact y.elim
 | .cont,⟨_,_,_,y⟩=>exact y.elim
theorem okG {P:Program}{w:World}{K:PySem.W.Frag}{mg:Str→Option Value}{base:Heap}{CX:CXT}{N ps:List Str}{k:Nat}{sp:Sp}{x qn:Str}{pars:Arguments}{bd:List Stmt}{scp:Scope}{dvs:List V}{kws:List (Str×V)} {f:Addr}{fd:FuncData}
  (F:FunD K x qn pars bd scp dvs kws f fd) (S:FnScope N ps scp) (hlen:∀ (vs:List V) (H:Hp) (Q:VK) (E:XK),sp vs H Q E→vs.length=ps.length)
  (walk:∀ (cdo:Value) (A:Around) (out:List Env) (s:Shared) (H:Hp) (vs:List V) (Q:VK) (E:XK),Rm k (A.deeper (envOfC qn scp s.heap.objs.size f cdo))→sp vs H Q E →
   ∃ t,PSs (cxOf CX P w K mg base N qn scp f cdo A out s H E) bd t∧t { nx:=fun _ H'=>Q .non H',rt:=Q } (L2.start N vs) H):FnG P w K mg base CX (k+1) f fd ps sp:=by
 obtain⟨c1,c2,c3,c4,c5,c6,c7,cdo,c9,c10,e,look,hcode,_⟩:=F.ex
 subst e
 exact fn_ofG look hcode S hlen (walk cdo)
structure Okg (P:Program) (w:World) (K:PySem.W.Frag) (mg:Str→Option Value) (base:Heap) (CX:CXT) (k:Nat) (x:Str) (ps:List Str) (sp:Sp):Prop where
 ex:∃ f fd,FnG P w K mg base CX k f fd ps sp∧mg x=some (.ref f)∧PySem.W.keepIn K (.ref f)=true∧Binds K fd ps []
theorem Okg.mono {P w K mg base CX j k x ps sp}(O:Okg P w K mg base CX j x ps sp) (h:j≤k):Okg P w K mg base CX k x ps sp:=by
 obtain⟨f,fd,F,r⟩:=O.ex
 exact⟨f,fd,F.mono h,r⟩
theorem Okg.of {P w K mg base CX j k x ps sp}(O:Okf P w K mg base CX j x ps sp) (h:4*j≤k):Okg P w K mg base CX k x ps sp:=by
 obtain⟨f,fd,F,r⟩:=O.ex
 exact⟨f,fd,FnG.of F h,r⟩
section
variable {X:Cx}{CX:CXT}{k:Nat}{f:Addr}{fd:FuncData}{x:Str}{ps:List Str}{sp:Sp}{E:XK}{e:Expr}{es:List Expr}{t:TA}{p pos:Pos}
theorem run_fnG {pins:List (Addr×Obj)} {σ:L2.St}{H:Hp}{s:Shared}{Q:VK}{us:List Value}{vs:List V}(F:FnG X.prog X.w X.K X.mg X.base CX k f fd ps sp) (rm:Rm k X.A) (bnd:Binds X.K fd ps []) (pas:Passes CX X E)
  (I:L2.Inv X pins σ H s) (rel:Vals vs us) (want:sp (vs++[]) H Q E):wpAny (model X.prog X.w) X.A (PySem.call (.ref f) us) (EP X pins σ Q) X.xe s:=by
 rw [List.append_nil] at want
 have hl:(us++[]).length=ps.length:=by
  rw [List.append_nil,← rel.length]
  exact F.len _ _ _ _ want
 have bs:=bnd s us I.kIn hl
 rw [List.append_nil] at bs
 apply wpAny_call
 apply codeAny_mono (F.run X.A X.stack s H ⟨us,[]⟩ us vs Q E rm I.env0 bs rel want)
 intro res s2 z
 match res,z with
 | .error x,z=>exact pas pins σ H s x s2 I z
 | .ok (.ret u),z=>exact I.after z
 | .ok .next,z=>exact z.elim
 | .ok .brk,z=>exact z.elim
 | .ok .cont,z=>exact z.elim
theorem pe_cG (O:Okg X.prog X.w X.K X.mg X.base CX k x ps sp) (rm:Rm k X.A) (gl:Gl X x) (pas:Passes CX X E)
  (args:PA X (e::es) t) (nodbg:(x == ("__debug__" : Str))=false:=by decide) (hst:starEach (e::es) X.env=(false,eval e X.env)::starEach es X.env:=by rfl) (hno:(backTo pos (starEach es X.env)).any (·.1)=false:=by rfl) :
  PE X (.Call (.Name x p) (e::es) [] pos) (tCall sp [] E t):=by
 obtain⟨f,fd,F,at_,keep,bnd⟩:=O.ex
 constructor
 intro pins s σ H Q I want
 apply wpAny_Call_Name_kw
 apply ld_glob I gl at_ _ nodbg
 apply PySem.W.callWith_K (h₀:=X.base) I.ok.mod.kin keep _ hst hno
 apply thn (args.run pos pins s σ H _ I want)
 rintro us s1 ⟨vs,H1,I1,rel,z⟩
 exact⟨I1.kIn,run_fnG F rm bnd pas I1 rel z⟩
end
end NR
namespace NR
open PySem PySem.Spec PyProof.Rows L2 LamX NdefX
theorem lamO_at {X:Cx}{pins:List (Addr×Obj)} {σ:L2.St}{H:Hp}{s:Shared}(I:L2.Inv X pins σ H s) {f:Addr}{L:LamW}(h:H f=some (LamO f L)):∃ doc pm ctv:Value,s.heap.get? f=some (L.obj doc pm ctv):=(I.hok f _ h).1
abbrev NFl (L:LamW):NF:=⟨"<lambda>", L.qual,L.pars,[],L.scope,L.cl,L.c⟩
theorem lam_run {X:Cx}{pins:List (Addr×Obj)} {σ:L2.St}{H:Hp}{s:Shared}{Q:VK}{CX:CXT}{E:XK}(I:L2.Inv X pins σ H s) (hd:X.A.handled=none) (dp:X.A.depth < recursionLimit) {L:LamW}{f:Addr}(hf:H f=some (LamO f L)) (hc:H L.c=some (CodeO L.c L.qual))
  {N ps fr:List Str}(S:NScope N ps fr L.scope) {ws:List (Option V)} (C:CellsAt L.cl fr ws s.heap H) {us:List Value}{vs:List V}(rel:Vals vs us) (hl:vs.length=ps.length)
  (bnd:∀ doc pm ctv:Value,BindsTo s (PySem.W.kdv_fn "<lambda>" L.qual L.pars (.expr L.body) L.scope L.cl L.dV doc pm (.ref L.c) ctv) ⟨[],[]⟩ (ps.zip us))
  {tb:TE}(hb:PE (ncx CX X.prog X.w X.K X.mg X.base N (NFl L) f X.A X.stack s H E) L.body tb) (pas:Passes CX X E) (want:tb (startF N vs ws) H Q):wpAny (model X.prog X.w) X.A (PySem.call (.ref f) []) (EP X pins σ Q) X.xe s:=by
 obtain⟨doc,pm,ctv,hget⟩:=lamO_at I hf
 have env:=I.env0
 have same:∀ b o,X.base.get? b=some o→s.heap.get? b=some o:=fun b o z=>(env.bs b o z).1
 have nolim:s.heap.NoLimit:=env.mod.nolimit.keeps same
 apply wpAny_call
 refine codeAny_mono (R:=CR CX X.stack X.prog X.w H s Q E) ?_ fun res s2 z => ?_
 ·refine PySem.W.kla_callFunE dp hget rfl S.co S.gen rfl (codeO_at env.hok hc) ?_
  apply bnd doc pm ctv
  refine wpAny_newFunctionEnv S.nocell (fun y hy => ?_) (fun h' hns sb => ?_) S.kind
  ·obtain⟨n,v⟩:=y
   exact S.par n (List.of_mem_zip hy).1
  have fresh:∀ b o,s.heap.get? b=some o→h'.get? b=some o:=fun b o z=>by
   rw [sb.2 b (Nat.ne_of_lt (Heap.lt_size z))]
   exact Heap.get?_push_of_some _ z
  refine⟨nolim.keeps fresh,?_⟩
  apply PySem.W.kla_codeExpr
  have J:=inv_startN (CX:=CX) (F:=NFl L) (f:=f) (E:=E) (tk:=s.toks+(ps.zip us).length) S hd env hl rel C hns fresh
  refine wpAny_mono (hb.run [] _ (startF N vs ws) H _ J want) ?_ fun _ _ z=>z
  rintro u s2 ⟨v,H',J2,rl,q⟩
  exact⟨v,H',J2.os,J2.bare,J2.base,J2.hok,rl,q⟩
 ·match res,z with
  | .error x,z=>exact pas pins σ H s x s2 I z
  | .ok (.ret u),z=>exact I.after z
  | .ok .next,z=>exact z.elim
  | .ok .brk,z=>exact z.elim
  | .ok .cont,z=>exact z.elim
theorem eval_callSub (v i:Expr) (sp pos:Pos) (env:Env):eval (.Call (.Subscript v i sp) [] [] pos) env=(do let f ← eval (.Subscript v i sp) env; callWith pos f [] (backTo pos (starEach [] env)) (backToKw pos (keywordEach [] env))):=by rfl
structure LamT where
 pars:Arguments
 body:Expr
 scope:Scope
 dfl:Option Str
inductive DflAt (H:Hp):Option Str→Value→List Str→List V→Prop
 | none:DflAt H none .none [] []
 | one {x:Str}{d:Addr}{v:V}:H d=some (.tup [v])→DflAt H (some x) (.ref d) [x] [v]
structure LamB (L:LamT):Prop where
 b0:L.dfl=none→∀ (q:Str) (cl:List (Str×Addr)) (doc pm cv ctv:Value),bindArgs (PySem.W.kdv_fn "<lambda>" q L.pars (.expr L.body) L.scope cl .none doc pm cv ctv) ⟨[],[]⟩=pure []
 b1:∀ x,L.dfl=some x→∀ (q:Str) (cl:List (Str×Addr)) (dV doc pm cv ctv:Value),∃ k:Option (Array Value)→Sem (List (Str×Value)),bindArgs (PySem.W.kdv_fn "<lambda>" q L.pars (.expr L.body) L.scope cl dV doc pm cv ctv) ⟨[],[]⟩=seqItems? dV >>= k∧∀ u,k (some #[u])=pure [(x,u)]
abbrev dflN:Option Str→List Str
 | none=>[]
 | some x=>[x]
theorem pe_lamV {X:Cx}{v i:Expr}{sp pos:Pos}{te:TE}{k:Nat}(he:PE X (.Subscript v i sp) te) (hr:Room (k+1) X.A) {ι:Type}(C:ι→LamT) (N:ι→List Str) (fr:ι→List Str) (js:ι→List Nat) (tb:ι→TE) {CX:CXT}{E:XK}(pas:Passes CX X E)
  (B:∀ n,LamB (C n)) (S:∀ n,NScope (N n) (dflN (C n).dfl) (fr n) (C n).scope) (caps:X.Ok→∀ n,Caps X (cloFrom X.env.cells (C n).scope.names []) (fr n) (js n))
  (hb:∀ (n:ι) (f c':Addr) (dV:Value) (A:Around) (outer:List Env) (s:Shared) (H:Hp),Room k (A.deeper (envF (NFl (lamW X (C n).pars (C n).body (C n).scope dV c')) f s.heap.objs.size))→PE (ncx CX X.prog X.w X.K X.mg X.base (N n) (NFl (lamW X (C n).pars (C n).body (C n).scope dV c')) f A outer s H E) (C n).body (tb n)) :
  PE X (.Call (.Subscript v i sp) [] [] pos) (fun σ H Q=>te σ H fun x H1=>∃ (n:ι) (f c':Addr) (dV:Value) (vs:List V),x=.ref f∧H1 f=some (LamO f (lamW X (C n).pars (C n).body (C n).scope dV c'))∧H1 c'=some (CodeO c' (X.env.qual ++ "<lambda>"))∧DflAt H1 (C n).dfl dV (dflN (C n).dfl) vs∧tb n (startF (N n) vs ((js n).map (slotAt σ))) H1 Q):=by
 constructor
 intro pins s σ H Q I want
 rw [eval_callSub]
 apply wpAny_bind
 refine wpAny_mono (he.run pins s σ H _ I want) ?_ fun _ _ z=>z
 rintro u s1 ⟨x,H1,J,rel,n,f,c',dV,vs,rfl,hf,hc,dfl,q⟩
 cases rel
 obtain⟨doc,pm,ctv,hget⟩:=lamO_at J hf
 refine PySem.W.callWith_F0 ⟨_,_,_,_,hget⟩ ?_
 rw [List.append_nil]
 have bnds:∃ us:List Value,Vals vs us∧∀ doc pm ctv:Value,BindsTo s1 (PySem.W.kdv_fn "<lambda>" (X.env.qual ++ "<lambda>") (C n).pars (.expr (C n).body) (C n).scope (cloFrom X.env.cells (C n).scope.names []) dV doc pm (.ref c') ctv) ⟨[],[]⟩ ((dflN (C n).dfl).zip us):=by
  generalize ed:(C n).dfl=dd at dfl
  cases dfl with
  | none =>
   refine⟨[],.nil,fun doc pm ctv M A E Q h => ?_⟩
   rw [(B n).b0 ed]
   exact wpAny_pure h
  | one hd =>
   rename_i y d v0
   obtain⟨its,rl,it⟩:∃ its,Vals [v0] its∧IsTup s1.heap d its.toArray:=(J.hok d _ hd).2
   cases rl with
   | cons r0 rr =>
    cases rr
    rename_i u0
    refine⟨[u0],.cons r0 .nil,fun doc pm ctv M A E Q h => ?_⟩
    obtain⟨k',e1,e2⟩:=(B n).b1 y ed (X.env.qual ++ "<lambda>") (cloFrom X.env.cells (C n).scope.names []) (.ref d) doc pm (.ref c') ctv
    rw [e1]
    apply wpAny_bind
    obtain⟨o,h1,_,m,h2⟩:=it
    refine wpAny_seqItems h1 h2 ?_
    rw [e2 u0]
    exact wpAny_pure h
 obtain⟨us,vals,bnd⟩:=bnds
 have hl:vs.length=(dflN (C n).dfl).length:=by
  generalize (C n).dfl=dd at dfl
  cases dfl <;> rfl
 exact lam_run (L:=lamW X (C n).pars (C n).body (C n).scope dV c') J hr.hd (by have:=hr.dp; omega) hf hc (S n) (cells_of J (caps J.ok n)) vals hl bnd (hb n f c' dV X.A X.stack s1 H1 ⟨hr.hd,by have:=hr.dp; show X.A.depth+1+3*k+5 < _; omega,by have:=hr.un; show X.A.units+3+16*k+200 < _; omega⟩) pas q
end NR
namespace NR
open PySem PySem.Spec PyProof.Rows L2
section
variable {M:Model}{A:Around}{E:Value→Shared→Prop}{s:Shared}{G:Heap}{env:Env}{outer:List Env}{L a:Addr}{Z:Obj→Prop}{fl:Value}
end
section
variable {X:Cx}{E:XK}{E₁:Value→Shared→Prop}
end
def top (i:Nat):Stmt:=PySem.Challenge.pw_nestrows_k02_functions_and_worths_refuse.main.body.getD i (.Pass ⟨0,0,0,0⟩)
abbrev sLawTaken:Stmt:=top 133
theorem scTaken:FnScope ["_law_row_here", "_law_many", "_law_found", "_law_cell"] ["_law_row_here", "_law_many"] (defScope sLawTaken):=⟨rfl,rfl,rfl,by decide +kernel,rfl,by decide +kernel,by decide +kernel⟩
section
variable {P:Program}{w:World}{K:PySem.W.Frag}{mg:Str→Option Value}{base:Heap}{f:Addr}{fd:FuncData}
theorem ok_taken (F:FnP K "_law_taken" sLawTaken f fd) (z_len:mg "len" = none):FnOk P w K mg base CX0 1 f fd ["_law_row_here", "_law_many"] (spTaken K):=by
 have sc:=scTaken
 refine F.ok sc (fun vs H Q E h => ?_) (fun cdv A outer s H vs Q E hr h => ?_)
 ·obtain⟨r,m,rfl,_⟩:=h
  rfl
 obtain⟨r,m,rfl,d,m0,m1,q⟩:=h
 refine⟨_,(pss_cons (ps_if (pt_cmpR op_gt (pe_ix ix_list (pv 0) pe_int (fun _ _=>rfl)) pe_int (nomark _)) (pss_cons (ps_set (i:=2) sc.nd rfl (.inl rfl) (pe_op op_mod (pe_ix ix_list (pv 0) pe_int (fun _ _=>rfl)) (pv 1)))
  (pss_cons (ps_asg (pe_op op_fdiv (pe_ix ix_list (pv 0) pe_int (fun _ _=>rfl)) (pv 1)) (pg_sub (pv 0) pe_int set_list))
  (pss_one (ps_ret (pv 2))))) pss_nil)
  (pss_cons (ps_asg (pe_op op_add (pe_ix ix_list (pv 0) pe_int (fun _ _=>rfl)) pe_int) (pg_sub (pv 0) pe_int set_list))
  (pss_cons (ps_if (pt_cmpR op_gt (pe_ix ix_list (pv 0) pe_int (fun _ _=>rfl)) (pe_callB call_len_seq rfl z_len PySem.boot_len (pa_cons (pe_ix ix_list (pv 0) pe_int (fun _ _=>rfl)) pa_nil)) (nomark _)) (pss_cons (ps_asg (pe_op op_mod (pe_op op_add (pe_op op_mul (pe_ix ix_list (pv 0) pe_int (fun _ _=>rfl)) pe_int) pe_int) pe_int) (pg_sub (pv 0) pe_int set_list))
  (pss_one (ps_ret (pe_op op_mod (pe_op op_fdiv (pe_ix ix_list (pv 0) pe_int (fun _ _=>rfl)) pe_int) (pv 1))))) pss_nil)
  (pss_cons (ps_set (i:=3) sc.nd rfl (.inl rfl) (pe_ix ix_list (pe_ix ix_list (pv 0) pe_int (fun _ _=>rfl)) (pe_op op_sub (pe_ix ix_list (pv 0) pe_int (fun _ _=>rfl)) pe_int) (fun _ _=>rfl)))
  (pss_cons (ps_asg (pe_op op_mod (pe_op op_add (pe_op op_add (pe_op op_mul (pe_ix ix_list (pv 0) pe_int (fun _ _=>rfl)) pe_int) (pv 3)) pe_int) pe_int) (pg_sub (pv 0) pe_int set_list))
  (pss_cons (ps_asg (pe_ifExp (pt_cmpR op_ge (pv 3) (pe_op op_pow pe_int pe_int) (nomark _)) (pe_op op_fdiv (pv 3) (pv 1)) pe_int) (pg_sub (pv 0) pe_int set_list))
  (pss_one (ps_ret (pe_op op_mod (pv 3) (pv 1)))))))))),?_⟩
 obtain⟨p,x,l,er,S,nr,hp,hx,hl⟩:=d.ex
 obtain⟨r,a,ns⟩:=r
 change H r=_ at er
 change Apt K ⟨r,a,ns⟩ at nr
 change SqL K H a (ns.map V.int) at S
 refine⟨_,rfl,_,_,_,_,rfl,rfl,SqL.of er,rfl,_,_,rfl,rfl,_,rfl,?_⟩
 refine ite2 (fun c => ?_) (fun c => ?_)
 ·have c':0 < l:=of_decide_eq_true c
  refine⟨_,rfl,_,_,_,_,rfl,rfl,SqL.of er,rfl,_,rfl,_,_,rfl,rfl,m0,?_⟩
  refine⟨_,rfl,_,_,_,_,rfl,rfl,SqL.of er,rfl,_,rfl,_,_,rfl,rfl,⟨m0,m1⟩,_,rfl,_,_,_,_,rfl,rfl,er,rfl,?_⟩
  refine⟨_,rfl,?_⟩
  exact q _ _ (Int.emod_nonneg _ (by omega)) (Int.emod_lt_of_pos _ m0) (Draw.put S nr .upd upd_same hp hx (Int.ediv_nonneg hl (by omega)))
 ·have c':¬ 0 < l:=fun z=>c (decide_eq_true z)
  refine⟨_,rfl,_,_,_,_,rfl,rfl,SqL.of er,rfl,_,_,rfl,rfl,_,rfl,_,_,_,_,rfl,rfl,er,rfl,?_⟩
  have S1:SqL K (upd H r (.lst [.ref a,.int (p+1),.int x,.int l])) a (ns.map V.int):=nr.sq (r:=⟨r,a,ns⟩) (H:=H) .upd S
  have hl':(ns.map V.int).length=ns.length:=List.length_map _
  refine⟨_,rfl,_,_,_,_,rfl,rfl,SqL.of upd_same,rfl,_,rfl,_,_,_,_,rfl,rfl,SqL.of upd_same,rfl,a,_,rfl,.inl S1,_,_,rfl,rfl,_,rfl,?_⟩
  rw [hl']
  refine ite2 (fun c => ?_) (fun c => ?_)
  ·refine⟨_,rfl,_,_,_,_,rfl,rfl,SqL.of upd_same,rfl,_,_,rfl,rfl,.inr ⟨by decide,by decide⟩,_,_,rfl,rfl,_,_,rfl,rfl,(show (0:Int) < 2147483647 by decide),_,rfl,_,_,_,_,rfl,rfl,upd_same,rfl,?_⟩
   rw [upd_upd]
   refine⟨_,rfl,_,_,_,_,rfl,rfl,SqL.of upd_same,rfl,_,_,rfl,rfl,⟨by decide,by decide⟩,_,rfl,_,_,rfl,rfl,m0,?_⟩
   exact q _ _ (Int.emod_nonneg _ (by omega)) (Int.emod_lt_of_pos _ m0) (Draw.put S nr .upd upd_same (by omega) (Int.emod_nonneg _ (by decide)) hl)
  ·have c2:¬ ((ns.length:Int) < p+1):=fun z=>c (decide_eq_true z)
   have hk:p.toNat < ns.length:=by omega
   have ek:p+1 - 1=((p.toNat:Nat):Int):=by omega
   have ev:atI (ns.map V.int) (p+1 - 1)=some (.int ns[p.toNat]):=by
    rw [ek]
    exact atI_nat (by rw [List.getElem?_map,List.getElem?_eq_getElem hk]; rfl)
   refine⟨_,rfl,_,_,_,_,rfl,rfl,SqL.of upd_same,rfl,_,rfl,_,_,_,_,rfl,rfl,SqL.of upd_same,rfl,_,_,rfl,rfl,_,_,_,_,rfl,rfl,S1,ev,?_⟩
   refine⟨_,rfl,_,_,_,_,rfl,rfl,SqL.of upd_same,rfl,_,_,rfl,rfl,.inr ⟨by decide,by decide⟩,_,rfl,_,_,rfl,rfl,_,_,rfl,rfl,_,_,rfl,rfl,(show (0:Int) < 2147483647 by decide),_,rfl,_,_,_,_,rfl,rfl,upd_same,rfl,?_⟩
   rw [upd_upd]
   refine⟨_,rfl,_,_,rfl,rfl,⟨by decide,by decide,by decide⟩,_,_,rfl,rfl,_,rfl,?_⟩
   refine ite2 (fun c => ?_) (fun c => ?_)
   ·have c3:(10:Int) ^ (18:Int).toNat≤ns[p.toNat]:=of_decide_eq_true c
    have c4:(0:Int)≤ns[p.toNat]:=Int.le_trans (by decide) c3
    refine⟨_,rfl,_,rfl,_,_,rfl,rfl,⟨m0,m1⟩,_,rfl,_,_,_,_,rfl,rfl,upd_same,rfl,?_⟩
    rw [upd_upd]
    refine⟨_,rfl,_,rfl,_,_,rfl,rfl,m0,?_⟩
    exact q _ _ (Int.emod_nonneg _ (by omega)) (Int.emod_lt_of_pos _ m0) (Draw.put S nr .upd upd_same (by omega) (Int.emod_nonneg _ (by decide)) (Int.ediv_nonneg c4 (by omega)))
   ·refine⟨_,rfl,_,_,_,_,rfl,rfl,upd_same,rfl,?_⟩
    rw [upd_upd]
    refine⟨_,rfl,_,rfl,_,_,rfl,rfl,m0,?_⟩
    exact q _ _ (Int.emod_nonneg _ (by omega)) (Int.emod_lt_of_pos _ m0) (Draw.put S nr .upd upd_same (by omega) (Int.emod_nonneg _ (by decide)) (Int.le_refl 0))
end
end NR
namespace NR
open PySem PySem.Spec PyProof.Rows L2 LamX NdefX
section
variable {X:Cx}
theorem pe_lcL {elt tg iter:Expr}{ifs:List Expr}{scope:Scope}{own:List (Str×Nat)} {pos:Pos}{wi:TI}{g:TG}{tt:L2.St→TT}{te:TE}(hc:X.calm=true) (hN:X.N.Nodup)
  (hi:PI X tg iter wi) (ok:BlkOk X.N X.env.scope scope own)
  (hg:∀ (s:Shared) (H:Hp) (C:Addr) (cl:List (Str×Addr)) (fp:List Addr),PG (X.blk s H scope (compEnvC scope cl C X.env) fp) tg g)
  (ht:∀ (pins:List (Addr×Obj)) (σ:L2.St) (s:Shared) (H:Hp) (C:Addr) (cl:List (Str×Addr)) (fp:List Addr),Inv X pins σ H s→(∀ b∈fp,FpOk X pins H b)→PTs (X.blk s H scope (compEnvC scope cl C X.env) fp) ifs (tt σ))
  (he:∀ (s:Shared) (H:Hp) (C:Addr) (cl:List (Str×Addr)) (fp:List Addr),PE (X.blk s H scope (compEnvC scope cl C X.env) fp) elt te)
  (hfo:∀ x,foldedSetIterable iter X.env x=pure x:=by intro _; rfl):PE X (.ListComp elt [⟨tg,iter,ifs,0⟩] scope pos) (fun σ H Q=>tLc wi g (tt σ) te (own.map (·.2)) σ H Q):=by
 refine⟨fun pins s σ H Q I h => ?_⟩
 rw [eval_ListComp]
 have cap:∀ y∈scope.names,y.2=.free→∃ c,X.env.cells.lookup y.1=some c:=fun y hy z=>(ok.free y hy z).elim (fun k=>I.ok.has _ (.inl k)) fun k=>I.ok.has _ (.inr k)
 refine wpAny_comprehension_free (use:=none) rfl hfo (closure_ok cap) ok.kind (fun y hy z=>by rw [ok.uniq y hy,z]) ?_
 refine thn (hi.run pins s σ H _ I h) fun _ s1 i1=>thn i1 fun _ s2 i2 => ?_
 obtain⟨it,fp,tn,J,H2,rfl,I2,T,t2,f2,q⟩:=i2
 refine wpAny_newObj_type (newEnv_comp ?_) (by show 0≤sizeLine; decide)
 obtain⟨D,hD⟩:∃ D,D=s2.heap.objs.size:=⟨_,rfl⟩
 rw [← hD]
 have nD:H2 D=none:=I2.hok.fresh (Nat.le_of_eq hD.symm)
 obtain⟨W,⟨m0,w0⟩,turn⟩:=q D nD
 obtain⟨s3,e3⟩:∃ s3:Shared,s3={ s2 with heap:=s2.heap.push { cls:=.type "list", data:=.seq ([]:List Value).toArray } }:=⟨_,rfl⟩
 rw [← e3]
 have h3:s3.heap=s2.heap.push { cls:=.type "list", data:=.seq ([]:List Value).toArray }:=congrArg Shared.heap e3
 have I3:Inv X pins σ (upd H2 D (.lst [])) s3:=by
  rw [e3]
  exact I2.laid (t':=s2.toks) (fun b o z=>Heap.get?_push_of_some _ z) (Nat.le_of_eq hD.symm) ⟨Nat.zero_le _,[],0,.nil,by rw [hD]; exact Heap.get?_push_size _ rfl⟩
 have small:∀ b∈fp,b < s2.heap.objs.size:=fun b hb=>(T.obj _ _ t2 b hb).elim fun o z=>Heap.lt_size z.1
 have f3:∀ b∈fp,FpOk X pins (upd H2 D (.lst [])) b∧b < s3.heap.objs.size:=fun b hb=>by
  have lt:=small b hb
  refine⟨⟨?_,(f2 b hb).2⟩,by rw [h3,Heap.size_push]; exact Nat.lt_succ_of_lt lt⟩
  rw [upd_ne (by rw [hD]; exact Nat.ne_of_lt lt)]
  exact (f2 b hb).1
 have t3:tn 0 s3.heap:=T.keep _ _ _ t2 fun b _ o z=>by rw [h3]; exact Heap.get?_push_of_some _ z
 have I4:=block_start I3 ok hN f3
 have nf3:∀ b∈fp,(upd H2 D (.lst [])) b=none:=fun b hb=>(f3 b hb).1.1
 obtain⟨cl,hcl⟩:∃ cl,cl=cellsFrom (s3.heap.objs.size+1) scope.names (cloFrom X.env.cells scope.names []):=⟨_,rfl⟩
 obtain⟨s4,hs4⟩:∃ s4:Shared,s4={ s3 with heap:=pushCells (s3.heap.push { cls:=.type "dict", data:=.dict #[] }) scope.names }:=⟨_,rfl⟩
 rw [← hcl,← hs4] at I4
 show codeAny _ _ (.compStart (.ListComp elt [⟨tg,iter,ifs,0⟩] scope pos) 0 (.ref it) (.ref D) (compEnvC scope (cellsFrom (s3.heap.objs.size+1) scope.names (cloFrom X.env.cells scope.names [])) s3.heap.objs.size X.env)) (compPost (model X.prog X.w) X.A X.xe none (EP X pins σ Q) (.ref D) s3.heap.objs.size) { s3 with heap:=pushCells (s3.heap.push { cls:=.type "dict", data:=.dict #[] }) scope.names }
 rw [← hcl,← hs4]
 have t4:tn 0 s4.heap:=T.keep _ _ _ t3 fun b _ o z=>by
  rw [hs4]
  exact pushCells_keeps _ _ _ _ (Heap.get?_push_of_some _ z)
 obtain⟨H3,eH3⟩:∃ H3,H3=upd H2 D (.lst []):=⟨_,rfl⟩
 rw [← eH3] at I3 I4 w0 nf3 f3
 obtain⟨ce,hce⟩:∃ ce,ce=compEnvC scope cl s3.heap.objs.size X.env:=⟨_,rfl⟩
 have pg:=hg s3 H3 s3.heap.objs.size cl fp
 have pt:=ht pins σ s3 H3 s3.heap.objs.size cl fp I3 fun b hb=>(f3 b hb).1
 have pe:=he s3 H3 s3.heap.objs.size cl fp
 rw [← hce] at I4 pg pt pe ⊢
 have cL:ce.locals=s3.heap.objs.size:=by rw [hce]; rfl
 have stay:∀ {σ':L2.St}{H':Hp}{s':Shared},Inv (X.blk s3 H3 scope ce fp) [] σ' H' s'→(∀ b∈fp,H' b=none)→∀ b∈fp,FpOk (X.blk s3 H3 scope ce fp) [] H' b:=fun {σ' H' s'} J hn b hb =>
  ⟨hn b hb,(J.ok.exf b hb).1,J.ok.exfs b hb,.inl hb,fun x c z=>(J.ok.exf b hb).2 x c z,fun p hp=>absurd (show p∈([]:List (Addr×Obj))++[] from hp) (by simp)⟩
 have loop:codeAny (model X.prog X.w) X.A (.compLoop (.ListComp elt [⟨tg,iter,ifs,0⟩] scope pos) 0 (.ref it) (.ref D) ce) (compPost (model X.prog X.w) X.A X.xe none (EP X pins σ Q) (.ref D) s3.heap.objs.size) s4:=by
  refine compLoop_any (fun n s'=>∃ i H',Inv (X.blk s3 H3 scope ce fp) [] (wipe σ (own.map (·.2))) H' s'∧tn i s'.heap∧(∀ b∈fp,H' b=none)∧W i n H') ?_ m0 ⟨0,H3,I4,t4,nf3,w0⟩
  rintro n s5 ⟨i,H5,I5,t5,n5,w5⟩
  rcases turn i n H5 w5 with⟨stop,qq⟩ | ⟨go,Nx,hNx,step⟩
  ·refine thnF (T.done (X.blk s3 H3 scope ce fp) rfl rfl rfl hc i [] s5 _ H5 (fun _ _=>False) I5 (stay I5 n5) t5 stop) fun r s6 ⟨hr,I6⟩ => ?_
   subst hr
   have I7:Inv X pins σ H5 s6:=I3.call' (ch:=fp) I6.os I6.base I6.hok I6.bare fun b hb=>⟨(f3 b hb).1.2.2.2.1,(f3 b hb).1.2.1,(f3 b hb).1.2.2.2.2.1,(f3 b hb).1.2.2.2.2.2⟩
   have nC:H5 s3.heap.objs.size=none:=cL ▸ I6.free
   obtain⟨m,hn,_⟩:=I6.loc
   have hn:s6.heap.Ns ce.locals m:=hn
   rw [cL] at hn
   obtain⟨g0,g1,g2,g3,g4,g5⟩:=I3.fpOk (Nat.le_refl _) nC
   exact⟨m,hn,fun h7 sb=>⟨.ref D,H5,I7.turned (t':=s6.toks) (fun b o hb z=>(sb.2 b hb).trans z) g0 g1 g3 g4 g5,rfl,qq⟩⟩
  ·refine thnF (T.item (X.blk s3 H3 scope ce fp) rfl rfl rfl hc i [] s5 _ H5 (fun _ _=>False) I5 (stay I5 n5) t5 go) fun r s6 ⟨u,hr,k6⟩ => ?_
   subst hr
   refine thnF k6 fun _ s7 ⟨x,H7,I7,r7,y7,t7,n7⟩ => ?_
   have P7:=I7.pinned (stay I7 n7) (T.obj _ _ t7)
   refine thnF (pg.run _ s7 _ H7 x u _ P7 r7 (step x H7 y7)) fun _ s8 ⟨σ8,H8,I8,w8,q8⟩ => ?_
   refine thnF (pt.run _ s8 σ8 H8 _ I8 q8) fun b s9 ⟨H9,I9,q9⟩ => ?_
   have back:∀ {s':Shared}{H':Hp},Inv (X.blk s3 H3 scope ce fp) ([]++pinsAt fp s7.heap) σ8 H' s'→Nx H'→∃ m,m < n∧∃ i H',Inv (X.blk s3 H3 scope ce fp) [] (wipe σ (own.map (·.2))) H' s'∧tn i s'.heap∧(∀ b∈fp,H' b=none)∧W i m H':=fun {s' H'} J nx=>by
    obtain⟨m',lt,w'⟩:=hNx H' nx
    have held:∀ b∈fp,∀ o,s7.heap.get? b=some o→s'.heap.get? b=some o∧H' b=none:=fun b hb o z=>by
     have y:=J.pin (b,o) (List.mem_append_right _ (List.mem_append_right _ (mem_pinsAt hb z)))
     exact⟨y.1,y.2.1⟩
    have len:(wipe σ (own.map (·.2))).length=σ8.length:=by rw [← w8,wipe_length]
    refine⟨m',lt,i+1,H',(J.unpinned (pins:=[])).weak len (fun j v z=>(wipe_some (w8 ▸ z)).1),T.keep _ _ _ t7 fun b hb o z=>(held b hb o z).1,fun b hb => ?_,w'⟩
    obtain⟨o,z,_⟩:=T.obj _ _ t7 b hb
    exact (held b hb o z).2
   cases b with
   | false =>
    simp only [Bool.false_eq_true,if_false] at q9 ⊢
    exact back I9 q9
   | true =>
    simp only [if_true] at q9 ⊢
    refine thnF (pe.run _ s9 σ8 H9 _ I9 q9) fun _ s10 ⟨yv,H10,I10,r10,acc,d10,z10,nx⟩ => ?_
    exact app_ok (X:=X.blk s3 H3 scope ce fp) I10 d10 z10 r10 fun s11 I11=>back I11 nx
 exact codeAny_compStart_list loop (T.self X.A 0 _ _ _ t4 loop)
theorem cells_later {pins:List (Addr×Obj)} {σ:L2.St}{H:Hp}{s:Shared}{cl:List (Str×Addr)} {fr:List Str}{ws:List (Option V)} (C:CellsAt cl fr ws X.s_0.heap X.H_0) (hx:∀ y c,cl.lookup y=some c→c∉X.ex) (I:L2.Inv X pins σ H s):CellsAt cl fr ws s.heap H:=by
 have kp:∀ y c,cl.lookup y=some c→∀ v,X.s_0.heap.IsCell c v→s.heap.IsCell c v:=fun y c e v ⟨o,ho,hd⟩=>by
  obtain⟨sl,q⟩:=I.base.any ho (C.all y c e).1 (hx y c e)
  exact⟨_,q,hd⟩
 refine⟨C.len,fun y c e => ?_,C.inj,fun i y e => ?_⟩
 ·obtain⟨n,v,z⟩:=C.all y c e
  refine⟨?_,v,kp y c e v z⟩
  obtain⟨o,ho,_⟩:=z
  exact I.base.free c o ho n (hx y c e)
 ·obtain⟨c,hc,hv⟩:=C.has i y e
  refine⟨c,hc,fun v ev => ?_⟩
  obtain⟨u,r,z⟩:=hv v ev
  exact⟨u,r,kp y c hc _ z⟩
def GivesL (X:Cx) (Ng:List Str) (x:Str) (sg:Scope) (g:Addr) (cdg:Value) (bg:List Stmt) (a:Str) (TT:(XK→Hp→VK→Prop)→Hp→VK→Prop):Prop :=
 ∀ (f:Addr) (s:Shared) (H:Hp) (Kp:Hp→Prop) (Q:VK) (tl:XK→Hp→VK→Prop),
  (∀ (W:WX) (pn:List (Addr×Obj)) (xe:Value→Shared→Prop) (E:XK) (p1 p2:Pos),Takes ((cxOf C8.CX0 X.prog X.w X.K X.mg X.base Ng x sg g cdg X.A X.stack s H C8.E0).tr pn xe) W→(∀ cls d σ' H',E cls d H'→W cls d σ' H') →
   PE ((cxOf C8.CX0 X.prog X.w X.K X.mg X.base Ng x sg g cdg X.A X.stack s H C8.E0).tr pn xe) (.Call (.Name a p1) [] [] p2) (fun σZ HZ Q=>σZ[0]? = some (some (.ref f))∧Kp HZ∧tl E HZ Q)) →
  Kp H→TT tl H Q →
  ∃ t,PSs (cxOf C8.CX0 X.prog X.w X.K X.mg X.base Ng x sg g cdg X.A X.stack s H C8.E0).nox bg t∧t { nx:=fun _ H'=>Q .non H',rt:=Q } (L2.start Ng [.ref f]) H
abbrev lamV (q:Str) (cl:List (Str×Addr)) (C:LamT) (dV:Value) (c':Addr):LamW:=⟨q,C.pars,C.body,C.scope,cl,dV,c'⟩
structure LamAt (H:Hp) (q:Str) (cl:List (Str×Addr)) (C:LamT) (f c':Addr) (dV:Value) (vs:List V):Prop where
 o:H f=some (LamO f (lamV q cl C dV c'))
 c:H c'=some (CodeO c' q)
 d:DflAt H C.dfl dV (dflN C.dfl) vs
theorem binds_lam {pins:List (Addr×Obj)} {σ:L2.St}{H:Hp}{s1:Shared}{L:LamT}{q:Str}{cl:List (Str×Addr)} {c':Addr}{dV:Value}{vs:List V}(J:L2.Inv X pins σ H s1) (B:LamB L) (dfl:DflAt H L.dfl dV (dflN L.dfl) vs) :
  ∃ us:List Value,Vals vs us∧∀ doc pm ctv:Value,BindsTo s1 (PySem.W.kdv_fn "<lambda>" q L.pars (.expr L.body) L.scope cl dV doc pm (.ref c') ctv) ⟨[],[]⟩ ((dflN L.dfl).zip us):=by
 generalize ed:L.dfl=dd at dfl
 cases dfl with
 | none =>
  refine⟨[],.nil,fun doc pm ctv M A E Q h => ?_⟩
  rw [B.b0 ed]
  exact wpAny_pure h
 | one hd =>
  rename_i y d v0
  obtain⟨its,rl,it⟩:∃ its,Vals [v0] its∧IsTup s1.heap d its.toArray:=(J.hok d _ hd).2
  cases rl with
  | cons r0 rr =>
   cases rr
   rename_i u0
   refine⟨[u0],.cons r0 .nil,fun doc pm ctv M A E Q h => ?_⟩
   obtain⟨k',e1,e2⟩:=B.b1 y ed q cl (.ref d) doc pm (.ref c') ctv
   rw [e1]
   apply wpAny_bind
   obtain⟨o,h1,_,m,h2⟩:=it
   refine wpAny_seqItems h1 h2 ?_
   rw [e2 u0]
   exact wpAny_pure h
theorem pe_lamArg {TT:(XK→Hp→VK→Prop)→Hp→VK→Prop}{x a:Str}{g:Addr}{k:Nat}{pg:Arguments}{bg:List Stmt}{sg:Scope}{dV kV doc pm cdv ct oc:Value}{an od:Option Addr}{osl:Array (Option Value)} {Ng:List Str}{e:Expr}{te:TE}{p pos:Pos}
  (hg:Gl X x) (hm:X.mg x=some (.ref g)) (hk:PySem.W.keepIn X.K (.ref g)=true) (lk:X.K.lookup g=some ⟨oc,od,.func (PySem.W.fnOf x x pg bg sg dV kV doc pm an cdv ct),osl⟩) (hcg:PySem.W.codeIn X.K cdv x=true) (hb:L2.Binds X.K (PySem.W.fnOf x x pg bg sg dV kV doc pm an cdv ct) [a] [])
  (Sg:FnScope Ng [a] sg) (hNg:Ng[0]? = some a) (hva:Vis sg a) (hG:GivesL X Ng x sg g cdv bg a TT) (hr:Room (k+2) X.A) (he:PE X e te)
  {ι:Type}(q:ι→Str) (C:ι→LamT) (cl:ι→List (Str×Addr)) (N:ι→List Str) (fr:ι→List Str) (ws:ι→L2.St→List (Option V)) (tb:ι→XK→TE) (B:∀ n,LamB (C n)) (S:∀ n,NScope (N n) (dflN (C n).dfl) (fr n) (C n).scope)
  (cells:∀ (pins:List (Addr×Obj)) (σ:L2.St) (H:Hp) (s:Shared),L2.Inv X pins σ H s→∀ n,CellsAt (cl n) (fr n) (ws n σ) s.heap H)
  (hbody:∀ (n:ι) (f c':Addr) (dV:Value) (A:Around) (outer:List Env) (s:Shared) (H:Hp) (E:XK),Room k (A.deeper (envF (NFl (lamV (q n) (cl n) (C n) dV c')) f s.heap.objs.size))→PE (ncx (CX X.prog X.w) X.prog X.w X.K X.mg X.base (N n) (NFl (lamV (q n) (cl n) (C n) dV c')) f A outer s H E) (C n).body (tb n E))
  (hdb:(x == ("__debug__" : Str))=false:=by decide) (hd:(a == ("__debug__" : Str))=false:=by decide) (hcd:(a == ("__classdict__" : Str))=false:=by decide)
  (hst:starEach [e] X.env=(false,eval e X.env)::starEach [] X.env:=by rfl) (hno:(backTo pos (starEach [] X.env)).any (·.1)=false:=by rfl) :
  PE X (.Call (.Name x p) [e] [] pos) (fun σ H Q=>te σ H fun v H1=>∃ (n:ι) (f c':Addr) (dV:Value) (vs:List V),v=.ref f∧LamAt H1 (q n) (cl n) (C n) f c' dV vs∧TT (fun E H' Q'=>tb n E (startF (N n) vs (ws n σ)) H' Q') H1 Q):=by
 refine⟨fun pins s σ H Q I h => ?_⟩
 refine wpAny_Call_Name_kw (ld_glob I hg hm ?_ hdb)
 refine PySem.W.callWith_K (h₀:=X.base) I.ok.mod.kin hk ?_ hst hno
 refine thn ((pa_cons he pa_nil hst).run pos pins s σ H (fun vs H1=>match vs with
  | [v]=>∃ (n:ι) (f c':Addr) (dV:Value) (ds:List V),v=.ref f∧LamAt H1 (q n) (cl n) (C n) f c' dV ds∧TT (fun E H' Q'=>tb n E (startF (N n) ds (ws n σ)) H' Q') H1 Q
  | _=>False) I h) fun us s1 hh => ?_
 obtain⟨vs,H1,I1,rel,z⟩:=hh
 refine⟨I1.kIn,?_⟩
 match vs,z with
 | [v],z =>
  obtain⟨n,f,c',dV,ds,rfl,la,hT⟩:=z
  cases rel with
  | cons r0 rr =>
  cases rr
  cases r0
  have cs:=cells pins σ H1 s1 I1 n
  have rc:codeAny (model X.prog X.w) X.A (.call (.ref g) ⟨[.ref f],[]⟩) (CR C8.CX0 X.stack X.prog X.w H1 s1 Q C8.E0) s1:=by
   refine run_ofS (N:=Ng) (ps:=[a]) (us:=[.ref f]) (vs:=[.ref f]) lk hcg Sg hr I1.env0 (hb s1 [.ref f] I1.kIn rfl) (.cons rfl .nil) rfl fun hr' => ?_
   refine Exists.elim (hG f s1 H1 (fun HZ=>LamAt HZ (q n) (cl n) (C n) f c' dV ds) Q (fun E H' Q'=>tb n E (startF (N n) ds (ws n σ)) H' Q') (fun W pn xe E p1 p2 tk hW => ?_) la hT) (fun t' ht'=>⟨t',ht'.1.nox,ht'.2⟩)
   refine⟨fun pinsZ sZ σZ HZ QZ IZ hZ => ?_⟩
   obtain⟨hs,hk2,ht⟩:=hZ
   refine wpAny_Call_Name_kw (thn ((pe_var (pos:=p1) (i:=0) hNg hva hd hcd).run pinsZ sZ σZ HZ (fun v H1=>v=.ref f∧H1=HZ) IZ ⟨.ref f,hs,rfl,rfl⟩) fun u s2 ⟨v,H2,I2,r2,q2⟩ => ?_)
   obtain⟨ev,eH⟩:=q2
   subst ev
   rw [eH] at I2
   obtain rfl:u=Value.ref f:=r2
   obtain⟨doc',pm',ctv',hget⟩:=lamO_at I2 hk2.o
   refine PySem.W.callWith_F0 ⟨_,_,_,_,hget⟩ ?_
   obtain⟨us,vals,bnd⟩:=binds_lam I2 (B n) hk2.d
   have hl:ds.length=(dflN (C n).dfl).length:=by
    have:=hk2.d
    generalize (C n).dfl=dd at this
    cases this <;> rfl
   exact lam_run (L:=lamV (q n) (cl n) (C n) dV c') I2 hr'.hd hr'.depth hk2.o hk2.c (S n) (cells_later cs (fun y c _ z=>nomatch (show c∈([]:List Addr) from z)) I2) vals hl bnd (hbody n f c' dV _ _ s2 HZ E (hr'.deeper _)) (passes_call tk hW) ht
  refine wpAny_call (codeAny_mono rc fun r s2 hq => ?_)
  cases r with
  | error e=>exact (show False from hq).elim
  | ok fl =>
   cases fl with
   | ret u=>exact I1.after hq
   | next=>exact False.elim hq
   | brk=>exact False.elim hq
   | cont=>exact False.elim hq
end
end NR
namespace NR
open PySem PySem.Spec PyProof.Rows L2
inductive W where
 | num | name | plus | minus | times | less | same | ite | elet | upto | len | sum | sums | one | pick | put | flat | each | whr | call
 deriving DecidableEq
def W.str:W→Str
 | .num => "num" | .name => "name" | .plus => "plus" | .minus => "minus" | .times => "times" | .less => "less" | .same => "same"
 | .ite => "if" | .elet => "let" | .upto => "upto" | .len => "len" | .sum => "sum" | .sums => "sums" | .one => "one"
 | .pick => "pick" | .put => "put" | .flat => "flat" | .each => "each" | .whr => "where" | .call => "call"
def W.lay:W→Nat
 | .num | .name=>0
 | .elet | .each | .whr=>1
 | .call=>2
 | _=>3
inductive Ex where
 | node (w:W) (n:Int) (ps:List Ex)
mutual
def Ex.size:Ex→Nat
 | .node _ _ ps=>1+sizes ps
def sizes:List Ex→Nat
 | []=>0
 | e::es=>e.size+sizes es
end
mutual
def Ex.hgt:Ex→Nat
 | .node _ _ ps=>1+hgts ps
def hgts:List Ex→Nat
 | []=>0
 | e::es=>max e.hgt (hgts es)
end
theorem Ex.hgt_pos (e:Ex):0 < e.hgt:=by
 cases e
 unfold Ex.hgt
 omega
mutual
inductive TIn (H:Hp):V→Ex→Prop
 | leaf {a:Addr}{w:W}{n:Int}:w.lay=0→H a=some (.tup [.str w.str,.int n])→TIn H (.ref a) (.node w n [])
 | bind {a:Addr}{w:W}{n:Int}{xs:List V}{ps:List Ex}:w.lay=1→H a=some (.tup (.str w.str::.int n::xs))→TIns H xs ps→TIn H (.ref a) (.node w n ps)
 | call {a b:Addr}{n:Int}{xs:List V}{ps:List Ex}:H a=some (.tup [.str W.call.str,.int n,.ref b])→H b=some (.tup xs)→TIns H xs ps→TIn H (.ref a) (.node .call n ps)
 | bare {a:Addr}{w:W}{xs:List V}{ps:List Ex}:w.lay=3→H a=some (.tup (.str w.str::xs))→TIns H xs ps→TIn H (.ref a) (.node w (-1) ps)
inductive TIns (H:Hp):List V→List Ex→Prop
 | nil:TIns H [] []
 | cons {v:V}{vs:List V}{e:Ex}{es:List Ex}:TIn H v e→TIns H vs es→TIns H (v::vs) (e::es)
end
def TK (H H':Hp):Prop:=∀ b xs,H b=some (.tup xs)→H' b=some (.tup xs)
theorem TK.refl (H:Hp):TK H H:=fun _ _ h=>h
theorem TK.trans {H H1 H2:Hp}(a:TK H H1) (b:TK H1 H2):TK H H2:=fun c xs h=>b c xs (a c xs h)
theorem TK.of {H H':Hp}(h:Same H H'):TK H H':=fun b xs q=>h b _ q
mutual
theorem TIn.mono {H H':Hp}(k:TK H H'):∀ {v:V}{e:Ex},TIn H v e→TIn H' v e
 | _,_,.leaf l h=>.leaf l (k _ _ h)
 | _,_,.bind l h p=>.bind l (k _ _ h) (TIns.mono k p)
 | _,_,.call h h' p=>.call (k _ _ h) (k _ _ h') (TIns.mono k p)
 | _,_,.bare l h p=>.bare l (k _ _ h) (TIns.mono k p)
theorem TIns.mono {H H':Hp}(k:TK H H'):∀ {vs:List V}{es:List Ex},TIns H vs es→TIns H' vs es
 | _,_,.nil=>.nil
 | _,_,.cons h p=>.cons (TIn.mono k h) (TIns.mono k p)
end
theorem SameX.tk {r:Addr}{H H':Hp}{xs:List V}(s:SameX r H H') (h:H r=some (.lst xs)):TK H H':=fun b ys q=>s b _ (ne_of q h (by intro z; cases z)) q
theorem Drawn.tk {K:PySem.W.Frag}{r:RD}{H H':Hp}(g:Drawn K r H H') (d:Draw K r H):TK H H':=by
 obtain⟨p,x,l,h,_⟩:=d.ex
 exact g.s.tk h
abbrev Env1:=Int→Option Nat
def ups (ρ:Env1) (x:Int) (d:Nat):Env1:=fun y=>if y=x then some d else ρ y
mutual
inductive Ty (fs:List (List Nat×Nat)):Env1→Ex→Nat→Prop
 | num {ρ:Env1}{n:Int}:0≤n→n≤10006→Ty fs ρ (.node .num n []) 0
 | name {ρ:Env1}{x:Int}{d:Nat}:0≤x→x≤19→ρ x=some d→d≤3→Ty fs ρ (.node .name x []) d
 | two {ρ:Env1}{w:W}{a b:Ex}:(w=.plus∨w=.minus∨w=.times∨w=.less∨w=.same)→Ty fs ρ a 0→Ty fs ρ b 0→Ty fs ρ (.node w (-1) [a,b]) 0
 | ite {ρ:Env1}{c a b:Ex}{d:Nat}:Ty fs ρ c 0→Ty fs ρ a d→Ty fs ρ b d→Ty fs ρ (.node .ite (-1) [c,a,b]) d
 | elet {ρ:Env1}{x:Int}{a b:Ex}{d1 d:Nat}:0≤x→x≤19→Ty fs ρ a d1→Ty fs (ups ρ x d1) b d→Ty fs ρ (.node .elet x [a,b]) d
 | upto {ρ:Env1}{a:Ex}:Ty fs ρ a 0→Ty fs ρ (.node .upto (-1) [a]) 1
 | len {ρ:Env1}{a:Ex}{d:Nat}:Ty fs ρ a (d+1)→Ty fs ρ (.node .len (-1) [a]) 0
 | sum {ρ:Env1}{a:Ex}:Ty fs ρ a 1→Ty fs ρ (.node .sum (-1) [a]) 0
 | sums {ρ:Env1}{a:Ex}:Ty fs ρ a 1→Ty fs ρ (.node .sums (-1) [a]) 1
 | one {ρ:Env1}{a:Ex}{d:Nat}:Ty fs ρ a d→d < 3→Ty fs ρ (.node .one (-1) [a]) (d+1)
 | pick {ρ:Env1}{a b:Ex}{d:Nat}:Ty fs ρ a (d+1)→Ty fs ρ b 0→Ty fs ρ (.node .pick (-1) [a,b]) d
 | put {ρ:Env1}{a b:Ex}{d:Nat}:Ty fs ρ a (d+1)→Ty fs ρ b (d+1)→Ty fs ρ (.node .put (-1) [a,b]) (d+1)
 | flat {ρ:Env1}{a:Ex}{d:Nat}:Ty fs ρ a (d+2)→Ty fs ρ (.node .flat (-1) [a]) (d+1)
 | each {ρ:Env1}{x:Int}{a b:Ex}{d1 d:Nat}:0≤x→x≤19→Ty fs ρ a (d1+1)→Ty fs (ups ρ x d1) b d→d < 3→Ty fs ρ (.node .each x [a,b]) (d+1)
 | whr {ρ:Env1}{x:Int}{a b:Ex}{d1:Nat}:0≤x→x≤19→Ty fs ρ a (d1+1)→Ty fs (ups ρ x d1) b 0→Ty fs ρ (.node .whr x [a,b]) (d1+1)
 | call {ρ:Env1}{k:Nat}{ps:List Ex}{ds:List Nat}{d:Nat}:k≤5→fs[k]? = some (ds,d)→Tys fs ρ ps ds→Ty fs ρ (.node .call (k:Int) ps) d
inductive Tys (fs:List (List Nat×Nat)):Env1→List Ex→List Nat→Prop
 | nil {ρ:Env1}:Tys fs ρ [] []
 | cons {ρ:Env1}{e:Ex}{es:List Ex}{d:Nat}{ds:List Nat}:Ty fs ρ e d→Tys fs ρ es ds→Tys fs ρ (e::es) (d::ds)
end
def kvOf (p:Int×Nat):Key×V:=(Sum.inl p.1,.int (p.2:Int))
structure KnOk (kn:List (Int×Nat)) (ρ:Env1):Prop where
 nd:(kn.map (·.1)).Nodup
 lo:∀ p∈kn,0≤p.1∧p.1≤19∧p.2≤3
 ok:∀ p∈kn,ρ p.1=some p.2
def Known (H:Hp) (a:Addr) (ρ:Env1):Prop:=∃ kn:List (Int×Nat),H a=some (.dK (kn.map kvOf))∧KnOk kn ρ
theorem Known.of {r a:Addr}{H H':Hp}{xs:List V}{ρ:Env1}(k:Known H a ρ) (s:SameX r H H') (h:H r=some (.lst xs)):Known H' a ρ:=by
 obtain⟨kn,e,o⟩:=k
 exact⟨kn,s _ _ (ne_of e h (by intro z; cases z)) e,o⟩
theorem Drawn.known {K:PySem.W.Frag}{r:RD}{a:Addr}{H H':Hp}{ρ:Env1}(g:Drawn K r H H') (d:Draw K r H) (k:Known H a ρ):Known H' a ρ:=by
 obtain⟨p,x,l,h,_⟩:=d.ex
 exact k.of g.s h
theorem few:∀ (n:Nat) (l:List Int),l.Nodup→(∀ x∈l,0≤x∧x < (n:Int))→l.length≤n
 | 0,[],_,_=>Nat.le_refl _
 | 0,x::l,_,h=>by
  have:=h x (List.mem_cons_self ..)
  omega
 | n+1,l,nd,h=>by
  have h1:(l.filter fun x=>decide (x≠(n:Int))).length≤n:=by
   refine few n _ (nd.filter _) fun x hx => ?_
   obtain⟨h2,h3⟩:=List.mem_filter.mp hx
   have h4:=h x h2
   have h5:x≠(n:Int):=of_decide_eq_true h3
   omega
  have h2:l.length≤(l.filter fun x=>decide (x≠(n:Int))).length+1:=by
   clear h1 h
   induction l with
   | nil=>simp
   | cons x l ih =>
    obtain⟨h3,h4⟩:=List.nodup_cons.mp nd
    by_cases e:x=(n:Int)
    ·have h5:(l.filter fun x=>decide (x≠(n:Int)))=l:=by
      refine List.filter_eq_self.mpr fun y hy => ?_
      refine decide_eq_true fun e2 => ?_
      rw [e2,← e] at hy
      exact h3 hy
     rw [List.filter_cons,if_neg (by simp [e]),h5]
     simp
    ·rw [List.filter_cons,if_pos (by simp [e])]
     have:=ih h4
     simp only [List.length_cons]
     omega
  omega
theorem KnOk.few {kn:List (Int×Nat)} {ρ:Env1}(k:KnOk kn ρ):kn.length≤20:=by
 have:=NR.few 20 (kn.map (·.1)) k.nd fun x hx=>by
  obtain⟨p,hp,rfl⟩:=List.mem_map.mp hx
  have:=k.lo p hp
  omega
 rw [List.length_map] at this
 exact this
theorem seq_rest {t u:TS}{D:Ends}{σ:L2.St}{H:Hp}(R:Hp→Prop) (h2:∀ H',R H'→u D σ H') (h1:(∀ H',R H'→u D σ H')→t { D with nx:=u D } σ H):tSeq t u D σ H:=h1 h2
theorem if_rest {c:TT}{a b u:TS}{D:Ends}{σ:L2.St}{H:Hp}(R:Hp→Prop) (h2:∀ H',R H'→u D σ H') (h1:(∀ H',R H'→u D σ H')→c σ H fun k H1=>if k=true then a { D with nx:=u D } σ H1 else b { D with nx:=u D } σ H1):tSeq (tIfS c a b) u D σ H:=h1 h2
theorem valV_kn {x:Int}{d:Nat}:∀ {l:List (Int×Nat)},(l.map (·.1)).Nodup→(x,d)∈l→valV (l.map kvOf) (Sum.inl x)=some (.int (d:Int))
 | [],_,h=>by cases h
 | (y,c)::l,nd,h=>by
  obtain⟨n1,n2⟩:=List.nodup_cons.mp (show (y::l.map (·.1)).Nodup from nd)
  show ((((Sum.inl y:Key),V.int (c:Int))::l.map kvOf).find? fun kv=>decide (kv.1=Sum.inl x)).map (·.2)=_
  by_cases e:y=x
  ·rw [List.find?_cons_of_pos (by simp [e])]
   rcases List.mem_cons.mp h with h | h
   ·cases h
    rfl
   ·exact absurd (List.mem_map.mpr ⟨(x,d),h,rfl⟩) (by rw [← e]; exact n1)
  ·rw [List.find?_cons_of_neg (by simp [e])]
   rcases List.mem_cons.mp h with h | h
   ·cases h
    exact absurd rfl e
   ·exact valV_kn n2 h
theorem Draw.same {K:PySem.W.Frag}{r:RD}{H H':Hp}(d:Draw K r H) (s:Same H H'):Draw K r H':=by
 obtain⟨p,x,l,e,S,rest⟩:=d.ex
 exact⟨p,x,l,s _ _ e,s.seq S,rest⟩
theorem Draw.drawn {K:PySem.W.Frag}{r:RD}{H H':Hp}(d:Draw K r H) (s:Same H H'):Drawn K r H H':=⟨d.same s,fun b o _ h=>s b o h⟩
theorem dpInts {K:PySem.W.Frag}{H:Hp}:∀ ns:List Int,DpAll K H (ns.map V.int) (ns.map PyData.int)
 | []=>.nil
 | n::ns=>.cons (.int n) (dpInts ns)
theorem canInts:∀ ns:List Int,PyData.canLayAll0 (ns.map PyData.int)=true
 | []=>rfl
 | _::ns=>canInts ns
theorem depInts:∀ ns:List Int,PyData.depthAll (ns.map PyData.int)=0
 | []=>rfl
 | _::ns=>by
  show max 0 (PyData.depthAll (ns.map PyData.int))=0
  rw [depInts ns]
  rfl
theorem shapedInts (ns:List Int):SeqAt.shaped (.list (ns.map PyData.int))=true:=by
 show (PyData.canLayAll0 (ns.map PyData.int) && decide (PyData.depthAll (ns.map PyData.int)+1≤64))=true
 rw [canInts,depInts]
 rfl
theorem le2 {n:Nat}(h:n≤1000):n≤sizeLine:=Nat.le_of_lt (small1000 h)
def spLeaf (K:PySem.W.Frag) (fs:List (List Nat×Nat)) (n:Nat):Sp:=fun vs H Q _=>∃ (r:RD) (a:Addr) (d:Nat) (ρ:Env1),vs=[.ref r.r,.int (d:Int),.ref a]∧Draw K r H∧Known H a ρ∧d < n∧d≤3 ∧
 ∀ (v:V) (H':Hp) (e:Ex),Drawn K r H H'→TIn H' v e→Ty fs ρ e d→e.hgt≤d+1→e.size≤d+1→Q v H'
theorem ok_never {P:Program}{w:World}{K:PySem.W.Frag}{mg:Str→Option Value}{base:Heap}{CX:CXT}{k:Nat}{f:Addr}{fd:FuncData}{ps:List Str}{sp:Sp}(no:∀ vs H Q E,¬ sp vs H Q E):FnOk P w K mg base CX k f fd ps sp :=
 ⟨fun vs H Q E h=>absurd h (no vs H Q E),fun A outer s H args us vs Q E _ _ _ _ h=>absurd h (no vs H Q E)⟩
def dV (d:Nat):V:=.int (d:Int)
inductive FIns (H:Hp):List V→List (List Nat×Nat)→Prop
 | nil:FIns H [] []
 | cons {a b:Addr}{ds:List Nat}{d:Nat}{vs:List V}{fs:List (List Nat×Nat)}:H a=some (.tup [.ref b,dV d])→H b=some (.tup (ds.map dV))→FIns H vs fs→FIns H (.ref a::vs) ((ds,d)::fs)
theorem FIns.mono {H H':Hp}(k:TK H H'):∀ {vs fs},FIns H vs fs→FIns H' vs fs
 | _,_,.nil=>.nil
 | _,_,.cons h1 h2 r=>.cons (k _ _ h1) (k _ _ h2) (r.mono k)
theorem FIns.len {H:Hp}:∀ {vs fs},FIns H vs fs→vs.length=fs.length
 | _,_,.nil=>rfl
 | _,_,.cons _ _ r=>congrArg (·+1) r.len
theorem FIns.get {H:Hp}:∀ {vs fs}(_:FIns H vs fs) (i:Nat) {ds:List Nat}{d:Nat},fs[i]? = some (ds,d)→∃ a b,vs[i]? = some (.ref a)∧H a=some (.tup [.ref b,dV d])∧H b=some (.tup (ds.map dV))
 | _,_,.nil,i,_,_,h=>by simp at h
 | _,_,.cons h1 h2 _,0,_,_,h=>by
  cases h
  exact⟨_,_,rfl,h1,h2⟩
 | _,_,.cons _ _ r,i+1,ds,d,h=>r.get i h
theorem FIns.snoc {H:Hp}{a b:Addr}{ds:List Nat}{d:Nat}(h1:H a=some (.tup [.ref b,dV d])) (h2:H b=some (.tup (ds.map dV))):∀ {vs fs},FIns H vs fs→FIns H (vs++[.ref a]) (fs++[(ds,d)])
 | _,_,.nil=>.cons h1 h2 .nil
 | _,_,.cons x y r=>.cons x y (r.snoc h1 h2)
structure Gen (H:Hp) (r:RD) (m:Addr) (fs:List (List Nat×Nat)) (own:Nat):Prop where
 ex:∃ (fl:Addr) (xs:List V),H m=some (.dK [(Sum.inr "faces", .ref fl),(Sum.inr "own", .int (own:Int)),(Sum.inr "left", .int 0)])∧H fl=some (.lst xs)∧FIns H xs fs∧fl≠r.r
 len:fs.length=own+1
 few:own≤5
 lo:∀ p∈fs,p.2≤3∧p.1.length≤4∧∀ d∈p.1,d≤3
theorem Drawn.gen {K:PySem.W.Frag}{r:RD}{m:Addr}{H H':Hp}{fs:List (List Nat×Nat)} {own:Nat}(g:Drawn K r H H') (d:Draw K r H) (G:Gen H r m fs own):Gen H' r m fs own:=by
 obtain⟨fl,xs,h1,h2,h3,h4⟩:=G.ex
 obtain⟨p,x,l,h,_⟩:=d.ex
 exact⟨⟨fl,xs,g.s _ _ (ne_of h1 h (by intro z; cases z)) h1,g.s _ _ h4 h2,h3.mono (g.tk d),h4⟩,G.len,G.few,G.lo⟩
theorem putK_kn {l:List (Int×Nat)} {ρ:Env1}{x:Int}{d:Nat}(o:KnOk l ρ) (x0:0≤x) (x1:x≤19) (d3:d≤3):∃ l',putK (l.map kvOf) (Sum.inl x) (dV d)=l'.map kvOf∧KnOk l' (ups ρ x d):=by
 unfold putK
 by_cases h:((l.map kvOf).any fun kv=>decide (kv.1=Sum.inl x))=true
 ·rw [if_pos h]
  refine⟨l.map fun p=>if p.1=x then (p.1,d) else p,?_,?_,?_,?_⟩
  ·rw [List.map_map,List.map_map]
   refine List.map_congr_left fun p _ => ?_
   show (if (Sum.inl p.1:Key)=Sum.inl x then ((Sum.inl p.1:Key),dV d) else (Sum.inl p.1,V.int (p.2:Int)))=kvOf (if p.1=x then (p.1,d) else p)
   by_cases e:p.1=x
   ·rw [if_pos (by rw [e]),if_pos e]
    rfl
   ·rw [if_neg (by simpa using e),if_neg e]
    rfl
  ·have e:((l.map fun p=>if p.1=x then (p.1,d) else p).map (·.1))=l.map (·.1):=by
    rw [List.map_map]
    refine List.map_congr_left fun p _ => ?_
    show (if p.1=x then (p.1,d) else p).1=p.1
    split <;> rfl
   rw [e]
   exact o.nd
  ·intro p hp
   obtain⟨q,hq,rfl⟩:=List.mem_map.mp hp
   have:=o.lo q hq
   split
   ·exact⟨this.1,this.2.1,d3⟩
   ·exact this
  ·intro p hp
   obtain⟨q,hq,rfl⟩:=List.mem_map.mp hp
   have:=o.ok q hq
   split
   ·rename_i e
    unfold ups
    rw [if_pos e]
   ·rename_i e
    unfold ups
    rw [if_neg e]
    exact this
 ·rw [if_neg h]
  have hn:∀ p∈l,p.1≠x:=fun p hp e=>h (List.any_eq_true.mpr ⟨kvOf p,List.mem_map.mpr ⟨p,hp,rfl⟩,by
   show decide ((Sum.inl p.1:Key)=Sum.inl x)=true
   rw [e]
   simp⟩)
  refine⟨l++[(x,d)],by rw [List.map_append]; rfl,?_,?_,?_⟩
  ·rw [List.map_append]
   refine List.nodup_append.mpr ⟨o.nd,by simp,fun a ha b hb => ?_⟩
   obtain⟨p,hp,rfl⟩:=List.mem_map.mp ha
   simp only [List.map_cons,List.map_nil,List.mem_singleton] at hb
   rw [hb]
   exact hn p hp
  ·intro p hp
   rcases List.mem_append.mp hp with hp | hp
   ·exact o.lo p hp
   ·rw [List.mem_singleton.mp hp]
    exact⟨x0,x1,d3⟩
  ·intro p hp
   unfold ups
   rcases List.mem_append.mp hp with hp | hp
   ·rw [if_neg (hn p hp)]
    exact o.ok p hp
   ·rw [List.mem_singleton.mp hp]
    simp
def spTree (K:PySem.W.Frag) (fs:List (List Nat×Nat)) (own n:Nat):Sp:=fun vs H Q _=>∃ (r:RD) (m a:Addr) (d:Nat) (deep:Int) (ρ:Env1),vs=[.ref r.r,.ref m,.int (d:Int),.int deep,.ref a]∧Draw K r H∧Gen H r m fs own∧Known H a ρ∧d≤3∧deep≤(n:Int) ∧
 ∀ (v:V) (H':Hp) (e:Ex),Drawn K r H H'→TIn H' v e→Ty (fs.take own) ρ e d→e.hgt≤n+4→Q v H'
def spAny (K:PySem.W.Frag) (fs:List (List Nat×Nat)) (own n:Nat):Sp:=fun vs H Q _=>∃ (r:RD) (m a:Addr) (d:Nat) (deep:Int) (ρ:Env1),vs=[.ref r.r,.ref m,.int (d:Int),.int deep,.ref a]∧Draw K r H∧Gen H r m fs own∧Known H a ρ∧d≤3∧1≤deep∧deep≤(n:Int) ∧
 ∀ (v:V) (H':Hp) (e:Ex),Drawn K r H H'→TIn H' v e→Ty (fs.take own) ρ e d→e.hgt≤n+4→Q v H'
def spNumber (K:PySem.W.Frag) (fs:List (List Nat×Nat)) (own n:Nat):Sp:=fun vs H Q _=>∃ (r:RD) (m a:Addr) (deep:Int) (ρ:Env1),vs=[.ref r.r,.ref m,.int deep,.ref a]∧Draw K r H∧Gen H r m fs own∧Known H a ρ∧1≤deep∧deep≤(n:Int) ∧
 ∀ (v:V) (H':Hp) (e:Ex),Drawn K r H H'→TIn H' v e→Ty (fs.take own) ρ e 0→e.hgt≤n+4→Q v H'
def W.off:W→Nat
 | .elet=>0
 | _=>1
def spBound (K:PySem.W.Frag) (fs:List (List Nat×Nat)) (own n:Nat):Sp:=fun vs H Q _=>∃ (r:RD) (m a:Addr) (w:W) (d t:Nat) (deep:Int) (ρ:Env1),vs=[.ref r.r,.ref m,.str w.str,.int (d:Int),.int deep,.ref a,.int (t:Int)]∧w.lay=1∧Draw K r H∧Gen H r m fs own∧Known H a ρ∧d≤3∧t≤3∧w.off≤d∧1≤deep∧deep≤(n:Int) ∧
 ∀ (v:V) (H':Hp) (x:Int) (e1 e2:Ex),Drawn K r H H'→TIn H' v (.node w x [e1,e2])→0≤x→x≤19→Ty (fs.take own) ρ e1 d→Ty (fs.take own) (ups ρ x (d - w.off)) e2 t→(Ex.node w x [e1,e2]).hgt≤n+4→Q v H'
theorem hgt1 {w:W}{n:Int}{a:Ex}{k:Nat}(h:a.hgt≤k):(Ex.node w n [a]).hgt≤k+1:=by
 simp only [Ex.hgt,hgts]
 omega
theorem hgt2 {w:W}{n:Int}{a b:Ex}{k:Nat}(h:a.hgt≤k) (h':b.hgt≤k):(Ex.node w n [a,b]).hgt≤k+1:=by
 simp only [Ex.hgt,hgts]
 omega
theorem hgt3 {w:W}{n:Int}{a b c:Ex}{k:Nat}(h:a.hgt≤k) (h':b.hgt≤k) (h'':c.hgt≤k):(Ex.node w n [a,b,c]).hgt≤k+1:=by
 simp only [Ex.hgt,hgts]
 omega
theorem Tys.snoc {fs:List (List Nat×Nat)} {ρ:Env1}{e:Ex}{d:Nat}:∀ {es:List Ex}{ds:List Nat},Tys fs ρ es ds→Ty fs ρ e d→Tys fs ρ (es++[e]) (ds++[d])
 | _,_,.nil,h=>.cons h .nil
 | _,_,.cons h r,h'=>.cons h (r.snoc h')
theorem TIns.snoc {H:Hp}{v:V}{e:Ex}:∀ {vs:List V}{es:List Ex},TIns H vs es→TIn H v e→TIns H (vs++[v]) (es++[e])
 | _,_,.nil,h=>.cons h .nil
 | _,_,.cons h r,h'=>.cons h (r.snoc h')
theorem TIns.len {H:Hp}:∀ {vs:List V}{es:List Ex},TIns H vs es→vs.length=es.length
 | _,_,.nil=>rfl
 | _,_,.cons _ r=>congrArg (·+1) r.len
theorem hgts_snoc {k:Nat}{e:Ex}:∀ {es:List Ex},hgts es≤k→e.hgt≤k→hgts (es++[e])≤k
 | [],_,h=>by
  show max e.hgt 0≤k
  omega
 | x::es,h,h'=>by
  have h1:max x.hgt (hgts es)≤k:=h
  have:=hgts_snoc (es:=es) (by omega) h'
  show max x.hgt (hgts (es++[e]))≤k
  omega
theorem TK.lst {H:Hp}{D:Addr}{xs ys:List V}(h:H D=some (.lst xs)):TK H (upd H D (.lst ys)):=fun b zs q=>by
 rw [upd_ne (ne_of q h (by intro z; cases z))]
 exact q
theorem val_faces {a b c:V}:valV ([(Sum.inr "faces", a),(Sum.inr "own", b),(Sum.inr "left", c)]:List (Key×V)) (Sum.inr "faces")=some a:=by rfl
theorem val_own {a b c:V}:valV ([(Sum.inr "faces", a),(Sum.inr "own", b),(Sum.inr "left", c)]:List (Key×V)) (Sum.inr "own")=some b:=by rfl
theorem val_left {a b c:V}:valV ([(Sum.inr "faces", a),(Sum.inr "own", b),(Sum.inr "left", c)]:List (Key×V)) (Sum.inr "left")=some c:=by rfl
theorem dget {H:Hp}{a:Addr}{kvs:List (Key×V)} {k:Key}{v:V}(e:H a=some (.dK kvs)) (h:valV kvs k=some v):DGet H a (kV k) (some v):=by
 rw [← h]
 exact DGet.k e
theorem cut1 (x:V) (xs:List V):cutV (x::xs) (some 1) none=xs:=by
 unfold cutV HT.sIx
 simp
theorem cut2 (x y:V) (xs:List V):cutV (x::y::xs) (some 2) none=xs:=by
 unfold cutV HT.sIx
 simp
theorem not1 (x:V) (xs:List V):¬ (HT.sIx (x::xs).length 0 (some 1)=0∧HT.sIx (x::xs).length (x::xs).length none=(x::xs).length):=by
 unfold HT.sIx
 simp
theorem not2 (x y:V) (xs:List V):¬ (HT.sIx (x::y::xs).length 0 (some 2)=0∧HT.sIx (x::y::xs).length (x::y::xs).length none=(x::y::xs).length):=by
 unfold HT.sIx
 simp
theorem in_leaf (w:W):inV (.str w.str) [.str "num", .str "name"]=decide (w.lay=0):=by cases w <;> decide
theorem in_bind (w:W):inV (.str w.str) [.str "let", .str "each", .str "where"]=decide (w.lay=1):=by cases w <;> decide
theorem eq_call (w:W):decide (V.str w.str=V.str "call")=decide (w.lay=2):=by cases w <;> decide
mutual
def Ex.few:Ex→Prop
 | .node _ _ ps=>ps.length≤4∧fews ps
def fews:List Ex→Prop
 | []=>True
 | e::es=>e.few∧fews es
end
theorem fews_mem:∀ {es:List Ex}{i:Nat}{e:Ex},fews es→es[i]? = some e→e.few
 | [],i,e,_,h=>by simp at h
 | x::es,0,e,f,h=>by
  cases h
  exact f.1
 | x::es,i+1,e,f,h=>fews_mem (es:=es) (i:=i) f.2 h
def spParts (K:PySem.W.Frag):Sp:=fun vs H Q _=>∃ (v:V) (w:W) (n:Int) (ps:List Ex),vs=[v]∧TIn H v (.node w n ps) ∧
 ∀ (p:Addr) (H':Hp) (xs:List V),Same H H'→H' p=some (.tup xs)→TIns H' xs ps→Q (.ref p) H'
def spSize (K:PySem.W.Frag) (n:Nat):Sp:=fun vs H Q _=>∃ (v:V) (e:Ex),vs=[v]∧TIn H v e∧e.hgt≤n∧e.few ∧
 ∀ (H':Hp),Same H H'→Q (.int (e.size:Int)) H'
def spWithin (K:PySem.W.Frag) (n:Nat):Sp:=fun vs H Q _=>∃ (v:V) (e:Ex),vs=[v]∧TIn H v e∧e.hgt≤n∧e.few ∧
 ∀ (H':Hp),Same H H'→Q (.int ((e.hgt - 1:Nat):Int)) H'
section
variable {X:Cx}(K:PySem.W.Frag)
theorem cr_sumK (hc:X.calm=true) (h:X.K=K:=by rfl):CallR X (.builtin "sum") (rSum K):=h ▸ cr_sum hc
theorem cr_maxK (hc:X.calm=true) (h:X.K=K:=by rfl):CallR X (.builtin "max") (rMax K):=h ▸ cr_max hc
end
theorem TIns.get {H:Hp}:∀ {vs:List V}{es:List Ex}(_:TIns H vs es) (i:Nat) {v:V},vs[i]? = some v→∃ e,es[i]? = some e∧TIn H v e
 | _,_,.nil,i,_,h=>by simp at h
 | _,_,.cons h1 _,0,_,h=>by
  cases h
  exact⟨_,rfl,h1⟩
 | _,_,.cons _ r,i+1,v,h=>r.get i h
theorem sizes_cons (e:Ex) (es:List Ex):sizes (e::es)=e.size+sizes es:=rfl
theorem hgts_cons (e:Ex) (es:List Ex):hgts (e::es)=max e.hgt (hgts es):=rfl
theorem at0 {x:V}{xs:List V}:atI (x::xs) 0=some x:=atI_nat (j:=0) rfl
theorem at1 {x y:V}{xs:List V}:atI (x::y::xs) 1=some y:=atI_nat (j:=1) rfl
theorem at2 {x y z:V}{xs:List V}:atI (x::y::z::xs) 2=some z:=atI_nat (j:=2) rfl
theorem size_mem:∀ {es:List Ex}{i:Nat}{e:Ex},es[i]? = some e→e.size≤sizes es∧e.hgt≤hgts es
 | [],i,e,h=>by simp at h
 | x::es,0,e,h=>by
  cases h
  rw [sizes_cons,hgts_cons]
  omega
 | x::es,i+1,e,h=>by
  have:=size_mem (es:=es) (i:=i) h
  rw [sizes_cons,hgts_cons]
  omega
theorem sum_sizes:∀ es:List Ex,((es.map fun e=>(e.size:Int))).sum=(sizes es:Int)
 | []=>rfl
 | e::es=>by
  rw [List.map_cons,List.sum_cons,sum_sizes es,sizes_cons]
  omega
theorem max_hgts:∀ (es:List Ex) (m:Int),m∈(0::es.map fun e=>(e.hgt:Int))→(∀ y∈(0::es.map fun e=>(e.hgt:Int)),y≤m)→m=(hgts es:Int)
 | [],m,h,_=>by
  simp only [List.map_nil,List.mem_singleton] at h
  rw [h]
  rfl
 | e::es,m,h,h'=>by
  have h0:∀ y∈(0::es.map fun e=>(e.hgt:Int)),y≤m:=fun y hy=>by
   rcases List.mem_cons.mp hy with hy | hy
   ·exact h' y (by rw [hy]; exact List.mem_cons_self ..)
   ·exact h' y (List.mem_cons_of_mem _ (List.mem_cons_of_mem _ hy))
  have he:(e.hgt:Int)≤m:=h' _ (List.mem_cons_of_mem _ (List.mem_cons_self ..))
  have hb:(hgts es:Int)≤m:=by
   clear h h' he
   induction es with
   | nil=>exact h0 0 (List.mem_cons_self ..)
   | cons x xs ih =>
    have h1:=h0 (x.hgt:Int) (List.mem_cons_of_mem _ (List.mem_cons_self ..))
    have h2:=ih fun y hy=>by
     rcases List.mem_cons.mp hy with hy | hy
     ·exact h0 y (by rw [hy]; exact List.mem_cons_self ..)
     ·exact h0 y (List.mem_cons_of_mem _ (List.mem_cons_of_mem _ hy))
    rw [hgts_cons]
    omega
  rw [hgts_cons]
  simp only [List.map_cons,List.mem_cons] at h
  rcases h with h | h | h
  ·omega
  ·omega
  ·obtain⟨x,hx,hx2⟩:=List.mem_map.mp h
   obtain⟨i,hi,rfl⟩:=List.mem_iff_getElem.mp hx
   have:=(size_mem (List.getElem?_eq_getElem hi)).2
   omega
theorem same_put {H H':Hp}{p:Addr}{o:HO}(h:Same H H') (n:H p=none):Same H (upd H' p o):=fun b u q=>by
 rw [upd_ne (ne_of_none q n)]
 exact h b u q
section
variable {X:Cx}(K:PySem.W.Frag)
def rTupleF (K:PySem.W.Frag):List V→Hp→VK→Prop:=fun xs H Q=>∃ p ys,xs=[.ref p]∧SqL K H p ys∧∀ l o,H l=none→o.dict=none→Q (.ref l) (upd H l (.frz o (.tup ys)))
theorem call_tupleF (h:X.K=K:=by rfl):CallR X (.type "tuple") (rTupleF K):=by
 subst h
 rintro pins s σ H xs us Q I rel ⟨p,ys,rfl,sq,want⟩
 have eu:us=[.ref p]:=Vals.ref1 rel
 subst eu
 obtain⟨its,rv,pl,hz⟩:=I.list sq
 have lens:=rv.length
 have sz:its.toArray.size≤sizeLine:=by
  rw [List.size_toArray]
  omega
 refine call_tuple_list pl.isList ?_ sz
 intro hp kept
 have J:L2.Inv X pins σ H { s with heap:=hp }:=I.kept (t':=s.toks) kept
 have okT:ObjOk X.prog X.w (upd H hp.objs.size (.frz { cls:=.type "tuple", data:=.seq its.toArray } (.tup ys))) (hp.push { cls:=.type "tuple", data:=.seq its.toArray }) hp.objs.size (.frz { cls:=.type "tuple", data:=.seq its.toArray } (.tup ys)) :=
  ⟨Heap.get?_push_size _ rfl,hz,its,rv,IsTup.new _ _⟩
 refine⟨.ref hp.objs.size,_,J.laid (t':=s.toks) (fun _ _ z=>Heap.get?_push_of_some _ z) (Nat.le_refl _) okT,rfl,?_⟩
 exact want _ _ (J.hok.fresh (Nat.le_refl _)) rfl
def tTupF (t:TA):TE:=fun σ H Q=>t σ H fun xs H1=>xs.length≤sizeLine∧∀ p o,H1 p=none→o.dict=none→Q (.ref p) (upd H1 p (.frz o (.tup xs)))
theorem pe_tupF {es:List Expr}{t:TA}{x1:Nat}{pos:Pos}(h:PA X es t):PE X (.Tuple es x1 pos) (tTupF t):=by
 constructor
 intro pins s σ H Q I want
 apply wpAny_Tuple_spliced
 apply thn (h.run pos pins s σ H _ I want)
 rintro us s1 ⟨xs,G,J,rel,hz,nxt⟩
 have hz':us.length≤sizeLine:=by
  rw [← rel.length]
  exact hz
 refine⟨hz',?_⟩
 have okT:ObjOk X.prog X.w (upd G s1.heap.objs.size (.frz { cls:=.type "tuple", data:=.seq us.toArray } (.tup xs))) (s1.heap.push { cls:=.type "tuple", data:=.seq us.toArray }) s1.heap.objs.size (.frz { cls:=.type "tuple", data:=.seq us.toArray } (.tup xs)) :=
  ⟨Heap.get?_push_size _ rfl,hz,us,rel,IsTup.new _ _⟩
 exact⟨.ref s1.heap.objs.size,_,J.laid (t':=s1.toks) (fun _ _ z=>Heap.get?_push_of_some _ z) (Nat.le_refl _) okT,rfl,nxt _ _ (J.hok.fresh (Nat.le_refl _)) rfl⟩
theorem pairs_of2 {pins:List (Addr×Obj)} {σ:L2.St}{H:Hp}{s:Shared}(I:Inv X pins σ H s):∀ {ps:List Addr}{kvs:List (Key×V)},Paired (fun p kv=>SqT X.K H p [kV kv.1,kv.2]) ps kvs →
  ∃ (pv:List (Value×Value)) (prs:List (Key×Value)),KV kvs prs∧prs.length=ps.length∧pv.length=ps.length∧∀ (j:Nat) (k v:Value),pv[j]? = some (k,v)→∃ b,ps[j]? = some b∧IsTup s.heap b #[k,v]∧∃ q,prs[j]? = some (q,v)∧keyIs q k=true
 | _,_,.nil=>⟨[],[],.nil,rfl,rfl,fun j k v e=>by simp at e⟩
 | p::ps,kv::kvs,.cons pair tail=>by
  obtain⟨pv,prs,kvr,l1,l2,each⟩:=pairs_of2 I tail
  obtain⟨its,two,isT,_⟩:=I.tuple pair
  obtain⟨k0,v0,eits,rk,rw0⟩:=vals2 two
  subst eits
  have k1:=kV_is (P:=X.prog) (w:=X.w) rk
  refine⟨(k0,v0)::pv,(kv.1,v0)::prs,.cons ⟨rfl,rw0⟩ kvr,congrArg (·+1) l1,congrArg (·+1) l2,?_⟩
  rintro (_ | j) k v e
  ·cases e
   exact⟨p,rfl,isT,kv.1,rfl,k1⟩
  ·exact each j k v e
def rDictT (K:PySem.W.Frag):List V→Hp→VK→Prop:=fun xs H Q=>∃ (a:Addr) (o:Obj) (ps:List Addr) (kvs:List (Key×V)),xs=[.ref a]∧H a=some (.frz o (.tup (ps.map V.ref)))∧o.dict=none∧Paired (fun p kv=>SqT K H p [kV kv.1,kv.2]) ps kvs ∧
  ∀ p,H p=none→Q (.ref p) (upd H p (.dK (mergeK [] kvs)))
theorem call_dictT (hcalm:X.calm=true) (h:X.K=K:=by rfl):CallR X (.type "dict") (rDictT K):=by
 subst h
 rintro pins s σ H xs us Q I rel ⟨a,o,ps,kvs,rfl,at_,nod,prd,want⟩
 have eu:us=[.ref a]:=Vals.ref1 rel
 subst eu
 obtain⟨ho,hz,its,rv,o2,ho2,hc,n,hdat⟩:=(show ObjOk X.prog X.w H s.heap a (.frz o (.tup (ps.map V.ref))) from I.hok a _ at_)
 have eo:o=o2:=Option.some.inj (ho.symm.trans ho2)
 subst eo
 have ei:its=ps.map Value.ref:=refs_at rv
 subst ei
 rw [List.length_map] at hz
 obtain⟨pv,prs,kvr,l1,l2,each⟩:=pairs_of2 I prd
 have items:PairItems s.heap (ps.map Value.ref).toArray (fun j=>ps.getD j 0) pv:=by
  refine⟨by simp [l2],fun j k v e => ?_⟩
  obtain⟨b,e1,e2,_⟩:=each j k v e
  have eb:ps.getD j 0=b:=by
   rw [List.getD_eq_getElem?_getD,e1]
   rfl
  dsimp only
  rw [eb]
  exact⟨by simp [e1],.inl e2⟩
 have have_:PairsHave (mixKind X.prog X.w) pv.length (PairRel pv) prs:=by
  refine⟨l1.trans l2.symm,fun i key v e => ?_⟩
  obtain⟨_,_,_,qk,e3,e4⟩:=each i key v e
  exact⟨qk,e3,e4⟩
 apply PySem.call_dict_pairs (PairArg.tuple a (ps.map Value.ref).toArray (fun j=>ps.getD j 0) pv) (I.ok.hd hcalm) ⟨⟨o,n,ho,hc,nod,hdat⟩,items⟩ have_ (by omega)
 intro hp tk isD kept
 have small:(mergeK [] kvs).length≤sizeLine:=by
  have z:=length_mergeK kvs []
  have z2:=kvr.length
  simp only [List.length_nil] at z
  omega
 have nosys:(s.heap.objs.size == sysModules)=false:=beq_false_of_ne (Nat.ne_of_gt I.big)
 have okD:ObjOk X.prog X.w (upd H s.heap.objs.size (.dK (mergeK [] kvs))) hp s.heap.objs.size (.dK (mergeK [] kvs)):=⟨small,nosys,_,KV.merge kvr .nil,isD⟩
 exact⟨.ref s.heap.objs.size,_,I.laid (t':=tk) (fun b o z=>kept b o (by simp) z) (Nat.le_refl _) okD,rfl,want _ (I.hok.fresh (Nat.le_refl _))⟩
end
inductive PIns (H:Hp):List V→List (Int×Nat)→Prop
 | nil:PIns H [] []
 | cons {a:Addr}{x:Int}{d:Nat}{vs:List V}{ps:List (Int×Nat)}:H a=some (.tup [.int x,dV d])→PIns H vs ps→PIns H (.ref a::vs) ((x,d)::ps)
theorem PIns.mono {H H':Hp}(k:TK H H'):∀ {vs ps},PIns H vs ps→PIns H' vs ps
 | _,_,.nil=>.nil
 | _,_,.cons h r=>.cons (k _ _ h) (r.mono k)
theorem PIns.len {H:Hp}:∀ {vs ps},PIns H vs ps→vs.length=ps.length
 | _,_,.nil=>rfl
 | _,_,.cons _ r=>congrArg (·+1) r.len
theorem PIns.snoc {H:Hp}{a:Addr}{x:Int}{d:Nat}(h1:H a=some (.tup [.int x,dV d])):∀ {vs ps},PIns H vs ps→PIns H (vs++[.ref a]) (ps++[(x,d)])
 | _,_,.nil=>.cons h1 .nil
 | _,_,.cons h r=>.cons h (r.snoc h1)
theorem PIns.get {H:Hp}:∀ {vs ps}(_:PIns H vs ps) (i:Nat) {v:V},vs[i]? = some v→∃ a x d,v=.ref a∧ps[i]? = some (x,d)∧H a=some (.tup [.int x,dV d])
 | _,_,.nil,i,_,h=>by simp at h
 | _,_,.cons h1 _,0,_,h=>by
  cases h
  exact⟨_,_,_,rfl,rfl,h1⟩
 | _,_,.cons _ r,i+1,v,h=>r.get i h
def FstN (ps:List (Int×Nat)):Prop:=∃ x rest,ps=(x,0)::rest
structure FaceOk (ps:List (Int×Nat)) (d:Nat):Prop where
 nd:(ps.map (·.1)).Nodup
 lo:∀ p∈ps,0≤p.1∧p.1≤19∧p.2≤3
 few:ps.length≤4
 hd:d≤3
structure FaceIn (H:Hp) (v:V) (ps:List (Int×Nat)) (d:Nat):Prop where
 ex:∃ (t pt:Addr) (o:Obj) (vs:List V),v=.ref t∧H t=some (.tup [.ref pt,dV d])∧H pt=some (.frz o (.tup vs))∧o.dict=none∧PIns H vs ps
theorem FaceIn.same {H H':Hp}{v:V}{ps:List (Int×Nat)} {d:Nat}(F:FaceIn H v ps d) (s:Same H H'):FaceIn H' v ps d:=by
 obtain⟨t,pt,o,vs,e1,e2,e3,e4,e5⟩:=F.ex
 exact⟨t,pt,o,vs,e1,s _ _ e2,s _ _ e3,e4,e5.mono (TK.of s)⟩
theorem FaceIn.drawn {K:PySem.W.Frag}{r:RD}{H H':Hp}{v:V}{ps:List (Int×Nat)} {d:Nat}(F:FaceIn H v ps d) (g:Drawn K r H H') (dr:Draw K r H):FaceIn H' v ps d:=by
 obtain⟨t,pt,o,vs,e1,e2,e3,e4,e5⟩:=F.ex
 obtain⟨p,x,l,h,_⟩:=dr.ex
 exact⟨t,pt,o,vs,e1,g.tk dr _ _ e2,g.s _ _ (ne_of e3 h (by intro z; cases z)) e3,e4,e5.mono (g.tk dr)⟩
def spFace (K:PySem.W.Frag):Sp:=fun vs H Q _=>∃ (r:RD),vs=[.ref r.r]∧Draw K r H ∧
 ∀ (v:V) (H':Hp) (ps:List (Int×Nat)) (d:Nat),Drawn K r H H'→FaceIn H' v ps d→FaceOk ps d→FstN ps→Q v H'
theorem inV_int {x:Int}:∀ {ns:List Int},inV (.int x) (ns.map V.int)=decide (x∈ns)
 | []=>by simp [inV]
 | n::ns=>by
  have ih:=inV_int (x:=x) (ns:=ns)
  show (eqV (.int n) (.int x) || inV (.int x) (ns.map V.int))=_
  rw [ih]
  show ((n == x) || decide (x∈ns))=_
  by_cases e:n=x
  ·simp [e]
  ·have e':x≠n:=fun z=>e z.symm
   simp [e,e']
theorem allFlat_int:∀ (ns:List Int),(ns.map V.int).all flatV=true
 | []=>rfl
 | _::ns=>allFlat_int ns
section
variable {X:Cx}(K:PySem.W.Frag)
theorem pg_tupK {es:List Expr}{k:Nat}{t:TGs}{n:Nat}{pos:Pos}(hc:X.calm=true) (h:PGs X es t)
  (hn:(assignEach es X.env).length=n:=by rfl) (hst:(assignEach es X.env).findIdx? (·.1)=none:=by rfl) (hK:X.K=K:=by rfl):PG X (.Tuple es k pos) (gTup K n t):=hK ▸ pg_tup hc h hn hst
end
mutual
def Ex.selfs (k:Int):Ex→Nat
 | .node w n ps=>(if w=.call∧n=k then 1 else 0)+selfss k ps
def selfss (k:Int):List Ex→Nat
 | []=>0
 | e::es=>e.selfs k+selfss k es
end
theorem selfs_eq (k:Int) (w:W) (n:Int) (ps:List Ex):(Ex.node w n ps).selfs k=(if w=.call∧n=k then 1 else 0)+selfss k ps:=rfl
theorem selfss_cons (k:Int) (e:Ex) (es:List Ex):selfss k (e::es)=e.selfs k+selfss k es:=rfl
theorem selfss_nil (k:Int):selfss k []=0:=rfl
theorem ups_weak {ρ ρ':Env1}{x:Int}{d:Nat}(h:∀ y c,ρ y=some c→ρ' y=some c):∀ y c,ups ρ x d y=some c→ups ρ' x d y=some c:=fun y c e=>by
 unfold ups at e ⊢
 split
 ·rename_i q
  rw [if_pos q] at e
  exact e
 ·rename_i q
  rw [if_neg q] at e
  exact h y c e
mutual
theorem Ty.weak {fs fs':List (List Nat×Nat)} (hf:∀ (k:Nat) p,fs[k]? = some p→fs'[k]? = some p):∀ {ρ ρ':Env1}{e:Ex}{d:Nat},Ty fs ρ e d→(∀ y c,ρ y=some c→ρ' y=some c)→Ty fs' ρ' e d
 | _,_,_,_,.num a b,_=>.num a b
 | _,_,_,_,.name a b c d,h=>.name a b (h _ _ c) d
 | _,_,_,_,.two w a b,h=>.two w (a.weak hf h) (b.weak hf h)
 | _,_,_,_,.ite c a b,h=>.ite (c.weak hf h) (a.weak hf h) (b.weak hf h)
 | _,_,_,_,.elet x y a b,h=>.elet x y (a.weak hf h) (b.weak hf (ups_weak h))
 | _,_,_,_,.upto a,h=>.upto (a.weak hf h)
 | _,_,_,_,.len a,h=>.len (a.weak hf h)
 | _,_,_,_,.sum a,h=>.sum (a.weak hf h)
 | _,_,_,_,.sums a,h=>.sums (a.weak hf h)
 | _,_,_,_,.one a c,h=>.one (a.weak hf h) c
 | _,_,_,_,.pick a b,h=>.pick (a.weak hf h) (b.weak hf h)
 | _,_,_,_,.put a b,h=>.put (a.weak hf h) (b.weak hf h)
 | _,_,_,_,.flat a,h=>.flat (a.weak hf h)
 | _,_,_,_,.each x y a b c,h=>.each x y (a.weak hf h) (b.weak hf (ups_weak h)) c
 | _,_,_,_,.whr x y a b,h=>.whr x y (a.weak hf h) (b.weak hf (ups_weak h))
 | _,_,_,_,.call k f ps,h=>.call k (hf _ _ f) (ps.weak hf h)
theorem Tys.weak {fs fs':List (List Nat×Nat)} (hf:∀ (k:Nat) p,fs[k]? = some p→fs'[k]? = some p):∀ {ρ ρ':Env1}{es:List Ex}{ds:List Nat},Tys fs ρ es ds→(∀ y c,ρ y=some c→ρ' y=some c)→Tys fs' ρ' es ds
 | _,_,_,_,.nil,_=>.nil
 | _,_,_,_,.cons a r,h=>.cons (a.weak hf h) (r.weak hf h)
end
theorem take_get {fs:List (List Nat×Nat)} {own:Nat}(k:Nat) (p:List Nat×Nat) (h:(fs.take own)[k]? = some p):fs[k]? = some p:=by
 rw [List.getElem?_take] at h
 split at h
 ·exact h
 ·cases h
mutual
theorem Ty.noself {fs:List (List Nat×Nat)} {own:Nat}(hl:fs.length≤own):∀ {ρ:Env1}{e:Ex}{d:Nat},Ty fs ρ e d→e.selfs (own:Int)=0
 | _,_,_,.num a b=>rfl
 | _,_,_,.name a b c d=>rfl
 | _,_,_,.two w a b=>by
  rw [selfs_eq,selfss_cons,selfss_cons,selfss_nil,a.noself hl,b.noself hl,if_neg (by rintro⟨z,_⟩; rcases w with w | w | w | w | w <;> (rw [w] at z; cases z))]
 | _,_,_,.ite c a b=>by
  rw [selfs_eq,selfss_cons,selfss_cons,selfss_cons,selfss_nil,a.noself hl,b.noself hl,c.noself hl]
  rfl
 | _,_,_,.elet x y a b=>by
  rw [selfs_eq,selfss_cons,selfss_cons,selfss_nil,a.noself hl,b.noself hl,if_neg (by rintro⟨z,_⟩; cases z)]
 | _,_,_,.upto a=>by
  rw [selfs_eq,selfss_cons,selfss_nil,a.noself hl]
  rfl
 | _,_,_,.len a=>by
  rw [selfs_eq,selfss_cons,selfss_nil,a.noself hl]
  rfl
 | _,_,_,.sum a=>by
  rw [selfs_eq,selfss_cons,selfss_nil,a.noself hl]
  rfl
 | _,_,_,.sums a=>by
  rw [selfs_eq,selfss_cons,selfss_nil,a.noself hl]
  rfl
 | _,_,_,.one a c=>by
  rw [selfs_eq,selfss_cons,selfss_nil,a.noself hl]
  rfl
 | _,_,_,.pick a b=>by
  rw [selfs_eq,selfss_cons,selfss_cons,selfss_nil,a.noself hl,b.noself hl]
  rfl
 | _,_,_,.put a b=>by
  rw [selfs_eq,selfss_cons,selfss_cons,selfss_nil,a.noself hl,b.noself hl]
  rfl
 | _,_,_,.flat a=>by
  rw [selfs_eq,selfss_cons,selfss_nil,a.noself hl]
  rfl
 | _,_,_,.each x y a b c=>by
  rw [selfs_eq,selfss_cons,selfss_cons,selfss_nil,a.noself hl,b.noself hl,if_neg (by rintro⟨z,_⟩; cases z)]
 | _,_,_,.whr x y a b=>by
  rw [selfs_eq,selfss_cons,selfss_cons,selfss_nil,a.noself hl,b.noself hl,if_neg (by rintro⟨z,_⟩; cases z)]
 | _,_,_,.call k f ps=>by
  have h1:=(List.getElem?_eq_some_iff.mp f).1
  rw [selfs_eq,ps.noself hl,if_neg (by rintro⟨_,z⟩; omega)]
theorem Tys.noself {fs:List (List Nat×Nat)} {own:Nat}(hl:fs.length≤own):∀ {ρ:Env1}{es:List Ex}{ds:List Nat},Tys fs ρ es ds→selfss (own:Int) es=0
 | _,_,_,.nil=>rfl
 | _,_,_,.cons a r=>by
  rw [selfss_cons,a.noself hl,r.noself hl]
end
def envOf (ps:List (Int×Nat)):Env1:=fun x=>(ps.find? fun p=>decide (p.1=x)).map (·.2)
theorem envOf_mem:∀ {ps:List (Int×Nat)} {x:Int}{d:Nat},(ps.map (·.1)).Nodup→(x,d)∈ps→envOf ps x=some d
 | [],_,_,_,h=>by cases h
 | (y,c)::l,x,d,nd,h=>by
  obtain⟨n1,n2⟩:=List.nodup_cons.mp (show (y::l.map (·.1)).Nodup from nd)
  unfold envOf
  by_cases e:y=x
  ·rw [List.find?_cons_of_pos (by simp [e])]
   rcases List.mem_cons.mp h with h | h
   ·cases h
    rfl
   ·exact absurd (List.mem_map.mpr ⟨(x,d),h,rfl⟩) (by rw [← e]; exact n1)
  ·rw [List.find?_cons_of_neg (by simp [e])]
   rcases List.mem_cons.mp h with h | h
   ·cases h
    exact absurd rfl e
   ·exact envOf_mem n2 h
theorem envOf_none {ps:List (Int×Nat)} {x:Int}(h:∀ p∈ps,p.1≠x):envOf ps x=none:=by
 unfold envOf
 rw [List.find?_eq_none.mpr fun p hp=>by simpa using h p hp]
 rfl
theorem FaceOk.kn {ps:List (Int×Nat)} {d:Nat}(F:FaceOk ps d):KnOk ps (envOf ps):=⟨F.nd,F.lo,fun p hp=>envOf_mem F.nd hp⟩
theorem mergeK_kn:∀ {ps acc:List (Int×Nat)},((acc++ps).map (·.1)).Nodup→mergeK (acc.map kvOf) (ps.map kvOf)=(acc++ps).map kvOf
 | [],acc,_=>by
  rw [List.append_nil]
  rfl
 | (x,d)::ps,acc,nd=>by
  have hn:∀ p∈acc,p.1≠x:=fun p hp e=>by
   rw [List.map_append] at nd
   exact (List.nodup_append.mp nd).2.2 p.1 (List.mem_map.mpr ⟨p,hp,rfl⟩) x (List.mem_map.mpr ⟨(x,d),List.mem_cons_self ..,rfl⟩) e
  have e1:putK (acc.map kvOf) (Sum.inl x) (.int (d:Int))=(acc++[(x,d)]).map kvOf:=by
   unfold putK
   rw [if_neg,List.map_append]
   ·rfl
   ·intro h
    obtain⟨kv,h1,h2⟩:=List.any_eq_true.mp h
    obtain⟨p,hp,rfl⟩:=List.mem_map.mp h1
    have h3:(Sum.inl p.1:Key)=Sum.inl x:=of_decide_eq_true h2
    injection h3 with h3
    exact hn p hp h3
  show mergeK (putK (acc.map kvOf) (Sum.inl x) (.int (d:Int))) (ps.map kvOf)=_
  rw [e1,mergeK_kn (ps:=ps) (acc:=acc++[(x,d)]) (by rw [List.append_assoc]; exact nd),List.append_assoc]
  rfl
theorem PIns.paired {K:PySem.W.Frag}{H:Hp}:∀ {vs ps},PIns H vs ps→∃ as:List Addr,vs=as.map V.ref∧Paired (fun p (kv:Key×V)=>SqT K H p [kV kv.1,kv.2]) as (ps.map kvOf)
 | _,_,.nil=>⟨[],rfl,.nil⟩
 | _,_,.cons (a:=a) h r=>by
  obtain⟨as,e,p⟩:=r.paired (K:=K)
  exact⟨a::as,by rw [e]; rfl,.cons (SqT.of h) p⟩
theorem upd_id {H:Hp}{a:Addr}{o:HO}(h:H a=some o):upd H a o=H:=by
 funext b
 unfold upd
 split
 ·rename_i e
  rw [e,h]
 ·rfl
theorem sub_len:∀ {l1 l2:List Int},l1.Nodup→(∀ x∈l1,x∈l2)→l1.length≤l2.length
 | [],_,_,_=>Nat.zero_le _
 | x::l1,l2,nd,h=>by
  obtain⟨n1,n2⟩:=List.nodup_cons.mp nd
  have hx:x∈l2:=h x (List.mem_cons_self ..)
  have h2:=sub_len (l2:=l2.erase x) n2 fun y hy=>(List.mem_erase_of_ne (fun (z:y=x)=>n1 (z ▸ hy))).mpr (h y (List.mem_cons_of_mem _ hy))
  rw [List.length_erase_of_mem hx] at h2
  have:0 < l2.length:=List.length_pos_of_mem hx
  simp only [List.length_cons]
  omega
theorem valV_some {x:Int}:∀ (l:List (Int×Nat)),(valV (l.map kvOf) (Sum.inl x)).isSome=l.any fun p=>decide (p.1=x)
 | []=>rfl
 | (y,c)::l=>by
  have ih:=valV_some (x:=x) l
  unfold valV at ih ⊢
  rw [List.map_cons]
  by_cases e:y=x
  ·rw [List.find?_cons_of_pos (by simp [kvOf,e])]
   simp [e]
  ·rw [List.find?_cons_of_neg (by simp [kvOf,e]),ih]
   simp [e]
theorem TK.dict {H:Hp}{D:Addr}{a b:List (Key×V)} (h:H D=some (.dK a)):TK H (upd H D (.dK b)):=fun c zs q=>by
 rw [upd_ne (ne_of q h (by intro z; cases z))]
 exact q
theorem range_map_nodup (n:Nat):((List.range n).map fun (j:Nat)=>(j:Int)).Nodup:=by
 induction n with
 | zero=>simp
 | succ n ih =>
  rw [List.range_succ,List.map_append]
  refine List.nodup_append.mpr ⟨ih,by simp,fun a ha b hb => ?_⟩
  obtain⟨j,hj,rfl⟩:=List.mem_map.mp ha
  have:=List.mem_range.mp hj
  simp only [List.map_cons,List.map_nil,List.mem_singleton] at hb
  omega
theorem cut01 (x:V) (xs:List V):cutV (x::xs) none (some 1)=[x]:=by
 unfold cutV HT.sIx
 simp
theorem if_restS {c:TT}{a b u:TS}{D:Ends}{σ:L2.St}{H:Hp}(R:L2.St→Hp→Prop) (h2:∀ σ' H',R σ' H'→u D σ' H') (h1:(∀ σ' H',R σ' H'→u D σ' H')→c σ H fun k H1=>if k=true then a { D with nx:=u D } σ H1 else b { D with nx:=u D } σ H1):tSeq (tIfS c a b) u D σ H:=h1 h2
theorem SqT.fr {K:PySem.W.Frag}{H:Hp}{a:Addr}{o:Obj}{xs:List V}(h:H a=some (.frz o (.tup xs))):SqT K H a xs:=.inl (.inr ⟨o,h⟩)
theorem Drawn.ne {K:PySem.W.Frag}{r:RD}{H:Hp}{D:Addr}(d:Draw K r H) (h:H D=none):D≠r.r:=by
 obtain⟨o,ho⟩:=d.ref
 exact (ne_of_none ho h).symm
def Sh (k:Int):Nat→Ex→Prop
 | 0,.node w n ps=>(Ex.node w n ps).selfs k=0∨(w=.call∧n=k)
 | b+1,.node w n ps=>(Ex.node w n ps).selfs k=0∨(w=.call∧n=k)∨∀ e∈ps,Sh k b e
theorem Sh.zero {k:Int}{b:Nat}{e:Ex}(h:e.selfs k=0):Sh k b e:=by
 cases e
 cases b <;> exact .inl h
theorem Sh.own {k:Int}{b:Nat}{ps:List Ex}:Sh k b (.node .call k ps):=by
 cases b
 ·exact .inr ⟨rfl,rfl⟩
 ·exact .inr (.inl ⟨rfl,rfl⟩)
theorem Sh.all {k:Int}{b:Nat}{w:W}{n:Int}{ps:List Ex}(h:∀ e∈ps,Sh k b e):Sh k (b+1) (.node w n ps):=.inr (.inr h)
theorem Sh.mono {k:Int}:∀ {b c:Nat}{e:Ex},Sh k b e→b≤c→Sh k c e
 | 0,0,.node w n ps,h,_=>h
 | 0,c+1,.node w n ps,h,_=>h.imp id .inl
 | b+1,0,.node w n ps,h,l=>absurd l (by omega)
 | b+1,c+1,.node w n ps,h,l=>h.imp id fun h=>h.imp id fun h e he=>(h e he).mono (by omega)
structure SelfOk (own:Int) (b:Nat) (e:Ex):Prop where
 le:e.selfs own≤1
 sh:Sh own b e
theorem SelfOk.zero {own:Int}{b:Nat}{e:Ex}(h:e.selfs own=0):SelfOk own b e:=⟨by omega,.zero h⟩
def spBody (K:PySem.W.Frag) (fs:List (List Nat×Nat)) (own:Nat):Sp:=fun vs H Q _=>∃ (r:RD) (m:Addr) (fv:V) (b:Bool) (ps:List (Int×Nat)) (d:Nat),vs=[.ref r.r,.ref m,fv,.bl b]∧Draw K r H∧Gen H r m fs own∧FaceIn H fv ps d∧FaceOk ps d∧FstN ps∧fs[own]? = some (ps.map (·.2),d) ∧
 ∀ (v:V) (H':Hp) (e:Ex),Drawn K r H H'→TIn H' v e→Ty fs (envOf ps) e d→SelfOk (own:Int) 3 e→e.hgt≤12→Q v H'
structure IK (H H':Hp):Prop where
 t:TK H H'
 f:∀ b o xs,H b=some (.frz o (.tup xs))→H' b=some (.frz o (.tup xs))
theorem IK.refl (H:Hp):IK H H:=⟨.refl H,fun _ _ _ h=>h⟩
theorem IK.trans {H H1 H2:Hp}(a:IK H H1) (b:IK H1 H2):IK H H2:=⟨a.t.trans b.t,fun c o xs h=>b.f c o xs (a.f c o xs h)⟩
theorem IK.of {H H':Hp}(s:Same H H'):IK H H':=⟨TK.of s,fun b o xs h=>s b _ h⟩
theorem IK.lst {H:Hp}{D:Addr}{xs ys:List V}(h:H D=some (.lst xs)):IK H (upd H D (.lst ys)):=⟨TK.lst h,fun b o zs q=>by
 rw [upd_ne (ne_of q h (by intro z; cases z))]
 exact q⟩
theorem IK.dict {H:Hp}{D:Addr}{a b:List (Key×V)} (h:H D=some (.dK a)):IK H (upd H D (.dK b)):=⟨TK.dict h,fun b o zs q=>by
 rw [upd_ne (ne_of q h (by intro z; cases z))]
 exact q⟩
theorem Drawn.ik {K:PySem.W.Frag}{r:RD}{H H':Hp}(g:Drawn K r H H') (d:Draw K r H):IK H H':=by
 obtain⟨p,x,l,h,_⟩:=d.ex
 exact⟨g.tk d,fun b o xs q=>g.s _ _ (ne_of q h (by intro z; cases z)) q⟩
structure Fn where
 ps:List (Int×Nat)
 d:Nat
 e:Ex
def Fn.face (f:Fn):List Nat×Nat:=(f.ps.map (·.2),f.d)
def facesOf (prog:List Fn):List (List Nat×Nat):=prog.map Fn.face
structure PtIn (H:Hp) (v:V) (ps:List (Int×Nat)):Prop where
 ex:∃ (pt:Addr) (o:Obj) (vs:List V),v=.ref pt∧H pt=some (.frz o (.tup vs))∧o.dict=none∧PIns H vs ps
theorem PtIn.mono {H H':Hp}{v:V}{ps:List (Int×Nat)} (p:PtIn H v ps) (k:IK H H'):PtIn H' v ps:=by
 obtain⟨pt,o,vs,e1,e2,e3,e4⟩:=p.ex
 exact⟨pt,o,vs,e1,k.f _ _ _ e2,e3,e4.mono k.t⟩
inductive PgIns (H:Hp):List V→List Fn→Prop
 | nil:PgIns H [] []
 | cons {a:Addr}{pv bv:V}{f:Fn}{vs:List V}{fs:List Fn}:H a=some (.tup [pv,dV f.d,bv])→PtIn H pv f.ps→TIn H bv f.e→PgIns H vs fs→PgIns H (.ref a::vs) (f::fs)
theorem PgIns.mono {H H':Hp}(k:IK H H'):∀ {vs fs},PgIns H vs fs→PgIns H' vs fs
 | _,_,.nil=>.nil
 | _,_,.cons h p t r=>.cons (k.t _ _ h) (p.mono k) (t.mono k.t) (r.mono k)
theorem PgIns.len {H:Hp}:∀ {vs fs},PgIns H vs fs→vs.length=fs.length
 | _,_,.nil=>rfl
 | _,_,.cons _ _ _ r=>congrArg (·+1) r.len
theorem PgIns.snoc {H:Hp}{a:Addr}{pv bv:V}{f:Fn}(h1:H a=some (.tup [pv,dV f.d,bv])) (h2:PtIn H pv f.ps) (h3:TIn H bv f.e):∀ {vs fs},PgIns H vs fs→PgIns H (vs++[.ref a]) (fs++[f])
 | _,_,.nil=>.cons h1 h2 h3 .nil
 | _,_,.cons x y z r=>.cons x y z (r.snoc h1 h2 h3)
structure Good (prog:List Fn):Prop where
 few:prog.length≤6
 fn:∀ (i:Nat) (f:Fn),prog[i]? = some f→FaceOk f.ps f.d∧Ty (facesOf (prog.take (i+1))) (envOf f.ps) f.e f.d∧f.e.selfs (i:Int)≤1∧f.e.size≤60∧f.e.hgt≤13
theorem Good.snoc {prog:List Fn}{f:Fn}(g:Good prog) (hl:prog.length≤5) (h:FaceOk f.ps f.d∧Ty (facesOf (prog++[f])) (envOf f.ps) f.e f.d∧f.e.selfs (prog.length:Int)≤1∧f.e.size≤60∧f.e.hgt≤13):Good (prog++[f]):=by
 refine⟨by rw [List.length_append]; exact Nat.succ_le_succ hl,fun i f' hf => ?_⟩
 by_cases c:i < prog.length
 ·rw [List.getElem?_append_left c] at hf
  rw [List.take_append_of_le_length (by omega)]
  exact g.fn i f' hf
 ·have hi:i=prog.length:=by
   have:=(List.getElem?_eq_some_iff.mp hf).1
   rw [List.length_append] at this
   simp only [List.length_cons,List.length_nil] at this
   omega
  subst hi
  rw [List.getElem?_append_right (Nat.le_refl _),Nat.sub_self] at hf
  cases hf
  rw [List.take_of_length_le (by rw [List.length_append]; exact Nat.le_refl _)]
  exact h
theorem Good.lo {prog:List Fn}(g:Good prog):∀ p∈facesOf prog,p.2≤3∧p.1.length≤4∧∀ d∈p.1,d≤3:=fun p hp=>by
 obtain⟨f,hf,rfl⟩:=List.mem_map.mp hp
 obtain⟨i,hi,rfl⟩:=List.mem_iff_getElem.mp hf
 obtain⟨h,_⟩:=g.fn i _ (List.getElem?_eq_getElem hi)
 refine⟨h.hd,by rw [show (Fn.face prog[i]).1=prog[i].ps.map (·.2) from rfl,List.length_map]; exact h.few,fun d hd => ?_⟩
 obtain⟨q,hq,rfl⟩:=List.mem_map.mp hd
 exact (h.lo q hq).2.2
mutual
theorem Ty.few {fs:List (List Nat×Nat)} (hf:∀ p∈fs,p.1.length≤4):∀ {ρ:Env1}{e:Ex}{d:Nat},Ty fs ρ e d→e.few
 | _,_,_,.num _ _=>⟨Nat.zero_le _,trivial⟩
 | _,_,_,.name _ _ _ _=>⟨Nat.zero_le _,trivial⟩
 | _,_,_,.two _ a b=>⟨by show 2≤4; omega,a.few hf,b.few hf,trivial⟩
 | _,_,_,.ite c a b=>⟨by show 3≤4; omega,c.few hf,a.few hf,b.few hf,trivial⟩
 | _,_,_,.elet _ _ a b=>⟨by show 2≤4; omega,a.few hf,b.few hf,trivial⟩
 | _,_,_,.upto a=>⟨by show 1≤4; omega,a.few hf,trivial⟩
 | _,_,_,.len a=>⟨by show 1≤4; omega,a.few hf,trivial⟩
 | _,_,_,.sum a=>⟨by show 1≤4; omega,a.few hf,trivial⟩
 | _,_,_,.sums a=>⟨by show 1≤4; omega,a.few hf,trivial⟩
 | _,_,_,.one a _=>⟨by show 1≤4; omega,a.few hf,trivial⟩
 | _,_,_,.pick a b=>⟨by show 2≤4; omega,a.few hf,b.few hf,trivial⟩
 | _,_,_,.put a b=>⟨by show 2≤4; omega,a.few hf,b.few hf,trivial⟩
 | _,_,_,.flat a=>⟨by show 1≤4; omega,a.few hf,trivial⟩
 | _,_,_,.each _ _ a b _=>⟨by show 2≤4; omega,a.few hf,b.few hf,trivial⟩
 | _,_,_,.whr _ _ a b=>⟨by show 2≤4; omega,a.few hf,b.few hf,trivial⟩
 | _,_,_,.call _ f ps=>by
  have h:=ps.few hf
  exact⟨by rw [h.1]; exact hf _ (List.mem_of_getElem? f),h.2⟩
theorem Tys.few {fs:List (List Nat×Nat)} (hf:∀ p∈fs,p.1.length≤4):∀ {ρ:Env1}{es:List Ex}{ds:List Nat},Tys fs ρ es ds→es.length=ds.length∧fews es
 | _,_,_,.nil=>⟨rfl,trivial⟩
 | _,_,_,.cons a r=>by
  have h:=r.few hf
  exact⟨congrArg (·+1) h.1,a.few hf,h.2⟩
end
def FstP (prog:List Fn):Prop:=(∀ f∈prog,FstN f.ps)∧∀ (i:Nat) (f:Fn),prog[i]? = some f→Sh (i:Int) 3 f.e
def spProgram (K:PySem.W.Frag):Sp:=fun vs H Q _=>∃ (r:RD) (most:Int),vs=[.ref r.r,.int most]∧Draw K r H∧1≤most∧most≤6 ∧
 ∀ (a:Addr) (H':Hp) (vs:List V) (prog:List Fn),Drawn K r H H'→H' a=some (.tup vs)→PgIns H' vs prog→Good prog→FstP prog→1≤prog.length→(prog.length:Int)≤most→Q (.ref a) H'
section
variable {X:Cx}(K:PySem.W.Frag)
theorem call_isiK (h:X.K=K:=by rfl):CallR X (.builtin "isinstance") (rIsi K):=h ▸ call_isi
end
inductive Da where
 | int (n:Int)
 | str (s:Str)
 | seq (l:Bool) (ds:List Da)
mutual
def Da.hgt:Da→Nat
 | .int _=>1
 | .str _=>1
 | .seq _ ds=>1+dhgts ds
def dhgts:List Da→Nat
 | []=>0
 | d::ds=>max d.hgt (dhgts ds)
end
theorem Da.hgt_pos (d:Da):0 < d.hgt:=by
 cases d <;> simp only [Da.hgt] <;> omega
def SeqA (H:Hp) (l:Bool) (a:Addr) (vs:List V):Prop:=(l=true∧H a=some (.lst vs))∨(l=false∧(H a=some (.tup vs)∨∃ o,H a=some (.frz o (.tup vs))))
mutual
inductive DIn (H:Hp):V→Da→Prop
 | int {n:Int}:DIn H (.int n) (.int n)
 | str {s:Str}:DIn H (.str s) (.str s)
 | seq {l:Bool}{a:Addr}{vs:List V}{ds:List Da}:SeqA H l a vs→vs.length≤1000→DIns H vs ds→DIn H (.ref a) (.seq l ds)
inductive DIns (H:Hp):List V→List Da→Prop
 | nil:DIns H [] []
 | cons {v:V}{vs:List V}{d:Da}{ds:List Da}:DIn H v d→DIns H vs ds→DIns H (v::vs) (d::ds)
end
theorem SeqA.same {H H':Hp}{l:Bool}{a:Addr}{vs:List V}(h:SeqA H l a vs) (s:Same H H'):SeqA H' l a vs:=by
 rcases h with⟨e,h⟩ | ⟨e,h | ⟨o,h⟩⟩
 ·exact .inl ⟨e,s _ _ h⟩
 ·exact .inr ⟨e,.inl (s _ _ h)⟩
 ·exact .inr ⟨e,.inr ⟨o,s _ _ h⟩⟩
theorem SeqA.sq {K:PySem.W.Frag}{H:Hp}{l:Bool}{a:Addr}{vs:List V}(h:SeqA H l a vs):SqL K H a vs∨SqT K H a vs:=by
 rcases h with⟨_,h⟩ | ⟨_,h | ⟨o,h⟩⟩
 ·exact .inl (SqL.of h)
 ·exact .inr (SqT.of h)
 ·exact .inr (.inl (.inr ⟨o,h⟩))
theorem SeqA.ty {K:PySem.W.Frag}{H:Hp}{l:Bool}{a:Addr}{vs:List V}(h:SeqA H l a vs):TyX K H (.ref a) (.type (if l=true then "list" else "tuple")):=by
 rcases h with⟨rfl,h⟩ | ⟨rfl,h | ⟨o,h⟩⟩
 ·exact .base (.lst h)
 ·exact .base (.tup h)
 ·exact .fTuple h
theorem SeqA.at {K:PySem.W.Frag}{H:Hp}{l:Bool}{a:Addr}{vs:List V}(h:SeqA H l a vs) {i:Nat}{v:V}(hv:vs[i]? = some v) {Q:VK}(q:Q v H):rIx K (.ref a) (.int (i:Int)) H Q:=by
 rcases h.sq (K:=K) with h | h
 ·exact .inl ⟨a,vs,_,v,rfl,rfl,h,atI_nat hv,q⟩
 ·exact .inr (.inl ⟨a,vs,_,v,rfl,rfl,h,atI_nat hv,q⟩)
mutual
theorem DIn.same {H H':Hp}(s:Same H H'):∀ {v:V}{d:Da},DIn H v d→DIn H' v d
 | _,_,.int=>.int
 | _,_,.str=>.str
 | _,_,.seq h l r=>.seq (h.same s) l (r.same s)
theorem DIns.same {H H':Hp}(s:Same H H'):∀ {vs:List V}{ds:List Da},DIns H vs ds→DIns H' vs ds
 | _,_,.nil=>.nil
 | _,_,.cons h r=>.cons (h.same s) (r.same s)
end
theorem DIns.len {H:Hp}:∀ {vs:List V}{ds:List Da},DIns H vs ds→vs.length=ds.length
 | _,_,.nil=>rfl
 | _,_,.cons _ r=>congrArg (·+1) r.len
theorem DIns.get {H:Hp}:∀ {vs:List V}{ds:List Da}(_:DIns H vs ds) (i:Nat) {d:Da},ds[i]? = some d→∃ v,vs[i]? = some v∧DIn H v d∧d.hgt≤dhgts ds
 | _,_,.nil,i,_,h=>by simp at h
 | _,_,.cons (ds:=ds) h1 _,0,d,h=>by
  cases h
  exact⟨_,rfl,h1,by simp only [dhgts]; omega⟩
 | _,_,.cons (d:=d0) (ds:=ds) _ r,i+1,d,h=>by
  obtain⟨v,e1,e2,e3⟩:=r.get i h
  exact⟨v,e1,e2,by simp only [dhgts]; omega⟩
inductive Nd where
 | node (w:W) (p:Nat) (n:Int) (ps:List Nd) (d:Nat)
def Nd.d:Nd→Nat
 | .node _ _ _ _ d=>d
mutual
def Nd.size:Nd→Nat
 | .node _ _ _ ps _=>1+nsizes ps
def nsizes:List Nd→Nat
 | []=>0
 | e::es=>e.size+nsizes es
end
mutual
def Nd.hgt:Nd→Nat
 | .node _ _ _ ps _=>1+nhgts ps
def nhgts:List Nd→Nat
 | []=>0
 | e::es=>max e.hgt (nhgts es)
end
theorem Nd.hgt_pos (e:Nd):0 < e.hgt:=by
 cases e
 unfold Nd.hgt
 omega
theorem Nd.size_pos (e:Nd):0 < e.size:=by
 cases e
 unfold Nd.size
 omega
theorem nsizes_len:∀ (l:List Nd),l.length≤nsizes l
 | []=>Nat.le_refl _
 | e::l=>by
  have:=nsizes_len l
  have:=e.size_pos
  show l.length+1≤e.size+nsizes l
  omega
inductive Dep:W→List Nat→Nat→Prop
 | num:Dep .num [] 0
 | two {w:W}:(w=.plus∨w=.minus∨w=.times∨w=.less∨w=.same)→Dep w [0,0] 0
 | ite {d:Nat}:Dep .ite [0,d,d] d
 | elet {c d:Nat}:Dep .elet [c,d] d
 | upto:Dep .upto [0] 1
 | len {d:Nat}:Dep .len [d+1] 0
 | sum:Dep .sum [1] 0
 | sums:Dep .sums [1] 1
 | one {d:Nat}:d < 3→Dep .one [d] (d+1)
 | pick {d:Nat}:Dep .pick [d+1,0] d
 | put {d:Nat}:Dep .put [d+1,d+1] (d+1)
 | flat {d:Nat}:Dep .flat [d+2] (d+1)
 | each {c d:Nat}:d < 3→Dep .each [c+1,d] (d+1)
 | whr {c:Nat}:Dep .whr [c+1,0] (c+1)
theorem Dep.ite3 {ds:List Nat}{d:Nat}:Dep .ite ds d→ds.length=3
 | .ite=>rfl
 | .two h=>by simp at h
mutual
inductive An (fs:List (List Nat×Nat)):Env1→Nat→Ex→Nd→Prop
 | num {ρ:Env1}{p:Nat}{n:Int}:0≤n→n≤10006→An fs ρ p (.node .num n []) (.node .num p n [] 0)
 | name {ρ:Env1}{p:Nat}{x:Int}{d:Nat}:0≤x→x≤19→ρ x=some d→d≤3→An fs ρ p (.node .name x []) (.node .name p x [] d)
 | bind {ρ:Env1}{p:Nat}{w:W}{x:Int}{a b:Ex}{na nb:Nd}{d:Nat}:w.lay=1→0≤x→x≤19→An fs ρ (p+1) a na→w.off≤na.d→An fs (ups ρ x (na.d - w.off)) (p+1+a.size) b nb→Dep w [na.d,nb.d] d→An fs ρ p (.node w x [a,b]) (.node w p x [na,nb] d)
 | call {ρ:Env1}{p k:Nat}{ps:List Ex}{nps:List Nd}{ds:List Nat}{d:Nat}:k≤5→fs[k]? = some (ds,d)→Ans fs ρ (p+1) ps nps→nps.map Nd.d=ds→An fs ρ p (.node .call (k:Int) ps) (.node .call p (k:Int) nps d)
 | bare {ρ:Env1}{p:Nat}{w:W}{ps:List Ex}{nps:List Nd}{d:Nat}:w.lay=3→Ans fs ρ (p+1) ps nps→Dep w (nps.map Nd.d) d→An fs ρ p (.node w (-1) ps) (.node w p (-1) nps d)
inductive Ans (fs:List (List Nat×Nat)):Env1→Nat→List Ex→List Nd→Prop
 | nil {ρ:Env1}{p:Nat}:Ans fs ρ p [] []
 | cons {ρ:Env1}{p:Nat}{e:Ex}{es:List Ex}{nd:Nd}{nds:List Nd}:An fs ρ p e nd→Ans fs ρ (p+e.size) es nds→Ans fs ρ p (e::es) (nd::nds)
end
theorem ans1 {fs:List (List Nat×Nat)} {ρ:Env1}{p:Nat}{a:Ex}{na:Nd}(h:An fs ρ p a na):Ans fs ρ p [a] [na]:=.cons h .nil
theorem ans2 {fs:List (List Nat×Nat)} {ρ:Env1}{p:Nat}{a b:Ex}{na nb:Nd}(h:An fs ρ p a na) (h':An fs ρ (p+a.size) b nb):Ans fs ρ p [a,b] [na,nb]:=.cons h (.cons h' .nil)
mutual
theorem Ty.an {fs:List (List Nat×Nat)}:∀ {ρ:Env1}{e:Ex}{d:Nat},Ty fs ρ e d→∀ p,∃ nd,An fs ρ p e nd∧nd.d=d
 | _,_,_,.num h h',p=>⟨_,.num h h',rfl⟩
 | _,_,_,.name h h' h1 h2,p=>⟨_,.name h h' h1 h2,rfl⟩
 | _,_,_,.two (a:=a) hw ha hb,p=>by
  obtain⟨na,h1,e1⟩:=ha.an (p+1)
  obtain⟨nb,h2,e2⟩:=hb.an (p+1+a.size)
  exact⟨_,.bare (by rcases hw with rfl | rfl | rfl | rfl | rfl <;> rfl) (ans2 h1 h2) (by simp only [List.map_cons,List.map_nil,e1,e2]; exact .two hw),rfl⟩
 | _,_,_,.ite (c:=c) (a:=a) hc ha hb,p=>by
  obtain⟨nc,h0,e0⟩:=hc.an (p+1)
  obtain⟨na,h1,e1⟩:=ha.an (p+1+c.size)
  obtain⟨nb,h2,e2⟩:=hb.an (p+1+c.size+a.size)
  exact⟨_,.bare rfl (.cons h0 (ans2 h1 h2)) (by simp only [List.map_cons,List.map_nil,e0,e1,e2]; exact .ite),rfl⟩
 | _,_,_,.elet (a:=a) h0 h1 ha hb,p=>by
  obtain⟨na,h2,e1⟩:=ha.an (p+1)
  obtain⟨nb,h3,e2⟩:=hb.an (p+1+a.size)
  exact⟨_,.bind rfl h0 h1 h2 (Nat.zero_le _) (by rw [e1]; exact h3) (by rw [e2]; exact .elet),rfl⟩
 | _,_,_,.upto ha,p=>by
  obtain⟨na,h1,e1⟩:=ha.an (p+1)
  exact⟨_,.bare rfl (ans1 h1) (by simp only [List.map_cons,List.map_nil,e1]; exact .upto),rfl⟩
 | _,_,_,.len ha,p=>by
  obtain⟨na,h1,e1⟩:=ha.an (p+1)
  exact⟨_,.bare rfl (ans1 h1) (by simp only [List.map_cons,List.map_nil,e1]; exact .len),rfl⟩
 | _,_,_,.sum ha,p=>by
  obtain⟨na,h1,e1⟩:=ha.an (p+1)
  exact⟨_,.bare rfl (ans1 h1) (by simp only [List.map_cons,List.map_nil,e1]; exact .sum),rfl⟩
 | _,_,_,.sums ha,p=>by
  obtain⟨na,h1,e1⟩:=ha.an (p+1)
  exact⟨_,.bare rfl (ans1 h1) (by simp only [List.map_cons,List.map_nil,e1]; exact .sums),rfl⟩
 | _,_,_,.one ha hd,p=>by
  obtain⟨na,h1,e1⟩:=ha.an (p+1)
  exact⟨_,.bare rfl (ans1 h1) (by simp only [List.map_cons,List.map_nil,e1]; exact .one hd),rfl⟩
 | _,_,_,.pick (a:=a) ha hb,p=>by
  obtain⟨na,h1,e1⟩:=ha.an (p+1)
  obtain⟨nb,h2,e2⟩:=hb.an (p+1+a.size)
  exact⟨_,.bare rfl (ans2 h1 h2) (by simp only [List.map_cons,List.map_nil,e1,e2]; exact .pick),rfl⟩
 | _,_,_,.put (a:=a) ha hb,p=>by
  obtain⟨na,h1,e1⟩:=ha.an (p+1)
  obtain⟨nb,h2,e2⟩:=hb.an (p+1+a.size)
  exact⟨_,.bare rfl (ans2 h1 h2) (by simp only [List.map_cons,List.map_nil,e1,e2]; exact .put),rfl⟩
 | _,_,_,.flat ha,p=>by
  obtain⟨na,h1,e1⟩:=ha.an (p+1)
  exact⟨_,.bare rfl (ans1 h1) (by simp only [List.map_cons,List.map_nil,e1]; exact .flat),rfl⟩
 | _,_,_,.each (a:=a) h0 h1 ha hb hd,p=>by
  obtain⟨na,h2,e1⟩:=ha.an (p+1)
  obtain⟨nb,h3,e2⟩:=hb.an (p+1+a.size)
  exact⟨_,.bind rfl h0 h1 h2 (by rw [e1]; exact Nat.succ_le_succ (Nat.zero_le _)) (by rw [e1]; exact h3) (by rw [e1,e2]; exact .each hd),rfl⟩
 | _,_,_,.whr (a:=a) h0 h1 ha hb,p=>by
  obtain⟨na,h2,e1⟩:=ha.an (p+1)
  obtain⟨nb,h3,e2⟩:=hb.an (p+1+a.size)
  exact⟨_,.bind rfl h0 h1 h2 (by rw [e1]; exact Nat.succ_le_succ (Nat.zero_le _)) (by rw [e1]; exact h3) (by rw [e1,e2]; exact .whr),rfl⟩
 | _,_,_,.call hk hf hp,p=>by
  obtain⟨nps,h1,e1⟩:=hp.an (p+1)
  exact⟨_,.call hk hf h1 e1,rfl⟩
theorem Tys.an {fs:List (List Nat×Nat)}:∀ {ρ:Env1}{es:List Ex}{ds:List Nat},Tys fs ρ es ds→∀ p,∃ nds,Ans fs ρ p es nds∧nds.map Nd.d=ds
 | _,_,_,.nil,p=>⟨[],.nil,rfl⟩
 | _,_,_,.cons (e:=e) ha hr,p=>by
  obtain⟨na,h1,e1⟩:=ha.an p
  obtain⟨nds,h2,e2⟩:=hr.an (p+e.size)
  exact⟨_,.cons h1 h2,by rw [List.map_cons,e1,e2]⟩
end
mutual
theorem An.sz {fs:List (List Nat×Nat)}:∀ {ρ:Env1}{p:Nat}{e:Ex}{nd:Nd},An fs ρ p e nd→nd.size=e.size∧nd.hgt=e.hgt
 | _,_,_,_,.num _ _=>⟨rfl,rfl⟩
 | _,_,_,_,.name _ _ _ _=>⟨rfl,rfl⟩
 | _,_,_,_,.bind _ _ _ ha _ hb _=>by
  have h1:=ha.sz
  have h2:=hb.sz
  simp only [Nd.size,nsizes,Ex.size,sizes,Nd.hgt,nhgts,Ex.hgt,hgts,h1,h2,and_self]
 | _,_,_,_,.call _ _ hp _=>by
  have h1:=hp.sz
  simp only [Nd.size,Ex.size,Nd.hgt,Ex.hgt,h1,and_self]
 | _,_,_,_,.bare _ hp _=>by
  have h1:=hp.sz
  simp only [Nd.size,Ex.size,Nd.hgt,Ex.hgt,h1,and_self]
theorem Ans.sz {fs:List (List Nat×Nat)}:∀ {ρ:Env1}{p:Nat}{es:List Ex}{nds:List Nd},Ans fs ρ p es nds→nsizes nds=sizes es∧nhgts nds=hgts es
 | _,_,_,_,.nil=>⟨rfl,rfl⟩
 | _,_,_,_,.cons ha hr=>by
  have h1:=ha.sz
  have h2:=hr.sz
  simp only [nsizes,sizes,nhgts,hgts,h1,h2,and_self]
end
inductive Row where
 | num (p r:Nat) (n:Int)
 | bare (w:W) (p r:Nat) (as:List Nat) (dd:Option Nat)
 | call (p r:Nat) (k:Int) (as:List Nat)
 | ite (p r c:Nat) (tk:List Nat) (ra:List Row) (ta:Nat) (rb:List Row) (tb:Nat)
 | ea (w:W) (p r a da it:Nat) (tk:List Nat) (rs:List Row) (t d:Nat)
def nDa (n:Nat):Da:=.int (n:Int)
def oDa:Option Nat→List Da
 | some d=>[nDa d]
 | none=>[]
mutual
def Row.da:Row→Da
 | .num p r n=>.seq false [.str "num", nDa p,nDa r,.int n]
 | .bare w p r as dd=>.seq false (.str w.str::nDa p::nDa r::(as.map nDa++oDa dd))
 | .call p r k as=>.seq false [.str "call", nDa p,nDa r,.int k,.seq false (as.map nDa)]
 | .ite p r c tk ra ta rb tb=>.seq false [.str "if", nDa p,nDa r,nDa c,.seq false (tk.map nDa),.seq false (rowsDa ra),nDa ta,.seq false (rowsDa rb),nDa tb]
 | .ea w p r a da it tk rs t d=>.seq false [.str w.str,nDa p,nDa r,nDa a,nDa da,nDa it,.seq false (tk.map nDa),.seq false (rowsDa rs),nDa t,nDa d]
def rowsDa:List Row→List Da
 | []=>[]
 | r::rs=>r.da::rowsDa rs
end
def Row.reads:Row→List Nat
 | .num _ _ _=>[]
 | .bare _ _ _ as _=>as
 | .call _ _ _ as=>as
 | .ite _ _ c tk _ _ _ _=>c::tk
 | .ea _ _ _ a _ _ tk _ _ _=>a::tk
def tin (L:List Nat) (f:Nat):List Nat:=(List.range f).filter fun k=>decide (k∈L)
def seen1 (rs:List Row) (t:Nat):List Nat:=t::rs.flatMap Row.reads
def W.wd:W→Bool
 | .pick | .put | .flat | .one=>true
 | _=>false
def headD:List Nd→Option Nat
 | []=>none
 | a::_=>some a.d
mutual
inductive Lay:Nd→Env1→Nat→List Row→Nat→Nat→Prop
 | num {p:Nat}{n:Int}{d r:Nat}{ε:Env1}:Lay (.node .num p n [] d) ε r [.num p r n] r (r+1)
 | name {p:Nat}{x:Int}{d r t:Nat}{ε:Env1}:ε x=some t→Lay (.node .name p x [] d) ε r [] t r
 | elet {p:Nat}{x:Int}{a b:Nd}{d r r1 r2 ta tb:Nat}{ε:Env1}{ra rb:List Row}:Lay a ε r ra ta r1→Lay b (ups ε x ta) r1 rb tb r2→Lay (.node .elet p x [a,b] d) ε r (ra++rb) tb r2
 | ite {p:Nat}{n:Int}{c a b:Nd}{d r r1 r2 r3 tc ta tb:Nat}{ε:Env1}{rc ra rb:List Row}:Lay c ε r rc tc r1→Lay a ε r1 ra ta r2→Lay b ε r2 rb tb r3 →
   Lay (.node .ite p n [c,a,b] d) ε r (rc++[.ite p r3 tc (tin (seen1 ra ta++seen1 rb tb) r1) ra ta rb tb]) r3 (r3+1)
 | ea {p:Nat}{x:Int}{w:W}{a b:Nd}{d r r1 r2 ta tb:Nat}{ε:Env1}{ra rb:List Row}:(w=.each∨w=.whr)→Lay a ε r ra ta r1→Lay b (ups ε x r1) (r1+1) rb tb r2 →
   Lay (.node w p x [a,b] d) ε r (ra++[.ea w p r2 ta a.d r1 (tin (seen1 rb tb) r1) rb tb d]) r2 (r2+1)
 | call {p:Nat}{k:Int}{ps:List Nd}{d r r1:Nat}{ε:Env1}{rs:List Row}{ts:List Nat}:Lays ps ε r rs ts r1→Lay (.node .call p k ps d) ε r (rs++[.call p r1 k ts]) r1 (r1+1)
 | bare {w:W}{p:Nat}{n:Int}{ps:List Nd}{d r r1:Nat}{ε:Env1}{rs:List Row}{ts:List Nat}:w.lay=3→w≠.ite→Lays ps ε r rs ts r1 →
   Lay (.node w p n ps d) ε r (rs++[.bare w p r1 ts (if w.wd=true then headD ps else none)]) r1 (r1+1)
inductive Lays:List Nd→Env1→Nat→List Row→List Nat→Nat→Prop
 | nil {r:Nat}{ε:Env1}:Lays [] ε r [] [] r
 | cons {a:Nd}{l:List Nd}{r r1 r2 t:Nat}{ε:Env1}{ra rl:List Row}{ts:List Nat}:Lay a ε r ra t r1→Lays l ε r1 rl ts r2→Lays (a::l) ε r (ra++rl) (t::ts) r2
end
theorem lay3 {p:Nat}{n:Int}{d r r1:Nat}{ε:Env1}{rs:List Row}{ts:List Nat}{nps:List Nd}(l:Lays nps ε r rs ts r1) (h:nps.length=3):∃ rs t r',Lay (.node .ite p n nps d) ε r rs t r':=by
 obtain _ | ⟨l0,l⟩:=l
 ·simp at h
 obtain _ | ⟨l1,l⟩:=l
 ·simp at h
 obtain _ | ⟨l2,l⟩:=l
 ·simp at h
 obtain _ | ⟨l3,l⟩:=l
 ·exact⟨_,_,_,.ite l0 l1 l2⟩
 ·simp at h
def Cov (ρ ε:Env1):Prop:=∀ x d,ρ x=some d→∃ t,ε x=some t
theorem Cov.ups {ρ ε:Env1}(c:Cov ρ ε) (x:Int) (d t:Nat):Cov (ups ρ x d) (NR.ups ε x t):=fun y e h=>by
 unfold NR.ups at h ⊢
 by_cases q:y=x
 ·exact⟨t,if_pos q⟩
 ·rw [if_neg q] at h ⊢
  exact c y e h
mutual
theorem An.lay {fs:List (List Nat×Nat)}:∀ {ρ:Env1}{p:Nat}{e:Ex}{nd:Nd},An fs ρ p e nd→∀ (ε:Env1),Cov ρ ε→∀ r,∃ rs t r',Lay nd ε r rs t r'
 | _,_,_,_,.num _ _,ε,c,r=>⟨_,_,_,.num⟩
 | _,_,_,_,.name _ _ h _,ε,c,r=>by
  obtain⟨t,ht⟩:=c _ _ h
  exact⟨_,_,_,.name ht⟩
 | _,_,_,_,.bind (w:=w) (x:=x) (na:=na) hw _ _ ha ho hb hd,ε,c,r=>by
  obtain⟨ra,ta,r1,la⟩:=ha.lay ε c r
  have hw':w=.elet∨w=.each∨w=.whr:=by revert hw; cases w <;> simp [W.lay]
  rcases hw' with rfl | h
  ·obtain⟨rb,tb,r2,lb⟩:=hb.lay (ups ε x ta) (c.ups _ _ _) r1
   exact⟨_,_,_,.elet la lb⟩
  ·obtain⟨rb,tb,r2,lb⟩:=hb.lay (ups ε x r1) (c.ups _ _ _) (r1+1)
   exact⟨_,_,_,.ea h la lb⟩
 | _,_,_,_,.call _ _ hp _,ε,c,r=>by
  obtain⟨rs,ts,r1,l⟩:=hp.lay ε c r
  exact⟨_,_,_,.call l⟩
 | _,_,_,_,.bare (w:=w) hw hp hd,ε,c,r=>by
  obtain⟨rs,ts,r1,l⟩:=hp.lay ε c r
  by_cases q:w=.ite
  ·subst q
   have hl:=hd.ite3
   rw [List.length_map] at hl
   exact lay3 l hl
  ·exact⟨_,_,_,.bare hw q l⟩
theorem Ans.lay {fs:List (List Nat×Nat)}:∀ {ρ:Env1}{p:Nat}{es:List Ex}{nds:List Nd},Ans fs ρ p es nds→∀ (ε:Env1),Cov ρ ε→∀ r,∃ rs ts r',Lays nds ε r rs ts r'
 | _,_,_,_,.nil,ε,c,r=>⟨_,_,_,.nil⟩
 | _,_,_,_,.cons ha hr,ε,c,r=>by
  obtain⟨ra,ta,r1,la⟩:=ha.lay ε c r
  obtain⟨rs,ts,r2,l⟩:=hr.lay ε c r1
  exact⟨_,_,_,.cons la l⟩
end
def below (b:Nat) (L:List Nat):Nat:=(L.filter fun k=>decide (k < b)).length
theorem below_append (b:Nat) (L M:List Nat):below b (L++M)=below b L+below b M:=by
 unfold below
 rw [List.filter_append,List.length_append]
theorem below_cons (b x:Nat) (L:List Nat):below b (x::L)=below b [x]+below b L:=below_append b [x] L
theorem below_le (b:Nat) (L:List Nat):below b L≤L.length:=List.length_filter_le _ _
theorem below_ge {b x:Nat}(h:b≤x):below b [x]=0:=by
 unfold below
 rw [List.filter_cons,if_neg (by simpa using h)]
 rfl
theorem tin_nodup (L:List Nat) (f:Nat):(tin L f).Nodup:=List.nodup_range.filter _
theorem tin_mem {L:List Nat}{f k:Nat}:k∈tin L f↔k∈L∧k < f:=by
 unfold tin
 rw [List.mem_filter,List.mem_range,decide_eq_true_eq]
 exact And.comm
theorem sub_lenN {A:List Nat}:∀ {B:List Nat},A.Nodup→(∀ x∈A,x∈B)→A.length≤B.length:=by
 induction A with
 | nil=>intro B _ _; exact Nat.zero_le _
 | cons a A ih =>
  intro B nd h
  obtain⟨n1,n2⟩:=List.nodup_cons.mp nd
  have ha:a∈B:=h a (List.mem_cons_self ..)
  have h2:=ih (B:=B.erase a) n2 fun x hx=>(List.mem_erase_of_ne (fun z=>n1 (by rw [← z]; exact hx))).mpr (h x (List.mem_cons_of_mem _ hx))
  rw [List.length_erase_of_mem ha] at h2
  have:=List.length_pos_of_mem ha
  simp only [List.length_cons]
  omega
theorem below_tin (b:Nat) (L:List Nat) (f:Nat):below b (tin L f)≤below b L:=by
 unfold below
 refine sub_lenN ((tin_nodup L f).filter _) fun x hx => ?_
 obtain⟨h1,h2⟩:=List.mem_filter.mp hx
 exact List.mem_filter.mpr ⟨(tin_mem.mp h1).1,h2⟩
theorem tin_len (L:List Nat) (f:Nat):(tin L f).length≤below f L:=by
 refine sub_lenN (tin_nodup L f) fun x hx => ?_
 obtain⟨h1,h2⟩:=tin_mem.mp hx
 exact List.mem_filter.mpr ⟨h1,decide_eq_true h2⟩
mutual
theorem Lay.up:∀ {nd:Nd}{ε:Env1}{r:Nat}{rs:List Row}{t r':Nat},Lay nd ε r rs t r'→r≤r'∧rs.length≤nd.size
 | _,_,_,_,_,_,.num=>⟨Nat.le_succ _,Nat.le_refl _⟩
 | _,_,_,_,_,_,.name _=>⟨Nat.le_refl _,Nat.zero_le _⟩
 | _,_,_,_,_,_,.elet la lb=>by
  have h1:=la.up
  have h2:=lb.up
  simp only [Nd.size,nsizes,List.length_append]
  omega
 | _,_,_,_,_,_,.ite lc la lb=>by
  have h0:=lc.up
  have h1:=la.up
  have h2:=lb.up
  simp only [Nd.size,nsizes,List.length_append,List.length_cons,List.length_nil]
  omega
 | _,_,_,_,_,_,.ea _ la lb=>by
  have h1:=la.up
  have h2:=lb.up
  simp only [Nd.size,nsizes,List.length_append,List.length_cons,List.length_nil]
  omega
 | _,_,_,_,_,_,.call l=>by
  have h:=l.up
  simp only [Nd.size,nsizes,List.length_append,List.length_cons,List.length_nil]
  omega
 | _,_,_,_,_,_,.bare _ _ l=>by
  have h:=l.up
  simp only [Nd.size,nsizes,List.length_append,List.length_cons,List.length_nil]
  omega
theorem Lays.up:∀ {nds:List Nd}{ε:Env1}{r:Nat}{rs:List Row}{ts:List Nat}{r':Nat},Lays nds ε r rs ts r'→r≤r'∧rs.length≤nsizes nds∧ts.length=nds.length
 | _,_,_,_,_,_,.nil=>⟨Nat.le_refl _,Nat.le_refl _,rfl⟩
 | _,_,_,_,_,_,.cons la l=>by
  have h1:=la.up
  have h2:=l.up
  simp only [nsizes,List.length_append,List.length_cons]
  omega
end
theorem fm_append (a b:List Row):(a++b).flatMap Row.reads=a.flatMap Row.reads++b.flatMap Row.reads:=List.flatMap_append
theorem fm_one (a:Row):[a].flatMap Row.reads=a.reads:=by simp
mutual
theorem Lay.cnt:∀ {nd:Nd}{ε:Env1}{r:Nat}{rs:List Row}{t r':Nat},Lay nd ε r rs t r'→∀ b,b≤r→below b (seen1 rs t)≤nd.size
 | _,_,_,_,_,_,.num,b,hb=>by
  simp only [seen1,fm_one,Row.reads]
  exact Nat.le_trans (below_le _ _) (Nat.le_refl _)
 | _,_,_,_,_,_,.name _,b,hb=>Nat.le_trans (below_le _ _) (Nat.le_refl _)
 | _,_,_,_,_,_,.elet (ra:=ra) la lb,b,hb=>by
  have h1:=la.cnt b hb
  have h2:=lb.cnt b (Nat.le_trans hb la.up.1)
  simp only [seen1] at h1 h2 ⊢
  rw [below_cons] at h1 h2 ⊢
  rw [fm_append,below_append]
  simp only [Nd.size,nsizes]
  omega
 | _,_,_,_,_,_,.ite (r1:=r1) (r3:=r3) (tc:=tc) (ra:=ra) (rb:=rb) (ta:=ta) (tb:=tb) lc la lb,b,hb=>by
  have u0:=lc.up
  have u1:=la.up
  have u2:=lb.up
  have h0:=lc.cnt b hb
  have h1:=la.cnt b (by omega)
  have h2:=lb.cnt b (by omega)
  have h3:=below_tin b (seen1 ra ta++seen1 rb tb) r1
  rw [below_append] at h3
  have h4:=below_ge (b:=b) (x:=r3) (by omega)
  generalize hL:seen1 ra ta++seen1 rb tb=L at h3 ⊢
  simp only [seen1] at h0 ⊢
  rw [below_cons] at h0 ⊢
  rw [fm_append,fm_one,below_append]
  simp only [Row.reads]
  rw [below_cons b tc]
  simp only [Nd.size,nsizes]
  omega
 | _,_,_,_,_,_,.ea (r1:=r1) (r2:=r2) (ta:=ta) (rb:=rb) (tb:=tb) _ la lb,b,hb=>by
  have u0:=la.up
  have u1:=lb.up
  have h0:=la.cnt b hb
  have h1:=lb.cnt b (by omega)
  have h3:=below_tin b (seen1 rb tb) r1
  have h4:=below_ge (b:=b) (x:=r2) (by omega)
  generalize hL:seen1 rb tb=L at h1 h3 ⊢
  simp only [seen1] at h0 ⊢
  rw [below_cons] at h0 ⊢
  rw [fm_append,fm_one,below_append]
  simp only [Row.reads]
  rw [below_cons b ta]
  simp only [Nd.size,nsizes]
  omega
 | _,_,_,_,_,_,.call (r1:=r1) l,b,hb=>by
  have h1:=l.cnt b hb
  have h4:=below_ge (b:=b) (x:=r1) (by have:=l.up; omega)
  simp only [seen1]
  rw [below_cons,fm_append,fm_one,below_append]
  simp only [Nd.size,Row.reads]
  omega
 | _,_,_,_,_,_,.bare (r1:=r1) _ _ l,b,hb=>by
  have h1:=l.cnt b hb
  have h4:=below_ge (b:=b) (x:=r1) (by have:=l.up; omega)
  simp only [seen1]
  rw [below_cons,fm_append,fm_one,below_append]
  simp only [Nd.size,Row.reads]
  omega
theorem Lays.cnt:∀ {nds:List Nd}{ε:Env1}{r:Nat}{rs:List Row}{ts:List Nat}{r':Nat},Lays nds ε r rs ts r'→∀ b,b≤r→below b (rs.flatMap Row.reads)+below b ts≤nsizes nds
 | _,_,_,_,_,_,.nil,b,hb=>Nat.le_refl _
 | _,_,_,_,_,_,.cons (t:=t) la l,b,hb=>by
  have h1:=la.cnt b hb
  have h2:=l.cnt b (Nat.le_trans hb la.up.1)
  simp only [seen1] at h1
  rw [below_cons] at h1
  rw [below_cons b t,fm_append,below_append]
  simp only [nsizes]
  omega
end
mutual
theorem Lay.rd:∀ {nd:Nd}{ε:Env1}{r:Nat}{rs:List Row}{t r':Nat},Lay nd ε r rs t r'→∀ row∈rs,row.reads.length≤nd.size
 | _,_,_,_,_,_,.num,row,h=>by
  rw [List.mem_singleton.mp h]
  exact Nat.zero_le _
 | _,_,_,_,_,_,.name _,row,h=>by cases h
 | _,_,_,_,_,_,.elet la lb,row,h=>by
  simp only [Nd.size,nsizes]
  rcases List.mem_append.mp h with h | h
  ·have:=la.rd row h; omega
  ·have:=lb.rd row h; omega
 | _,_,_,_,_,_,.ite (r1:=r1) (ra:=ra) (rb:=rb) (ta:=ta) (tb:=tb) lc la lb,row,h=>by
  simp only [Nd.size,nsizes]
  rcases List.mem_append.mp h with h | h
  ·have:=lc.rd row h; omega
  ·rw [List.mem_singleton.mp h]
   have h1:=la.cnt r1 (Nat.le_refl _)
   have h2:=lb.cnt r1 la.up.1
   have h3:=tin_len (seen1 ra ta++seen1 rb tb) r1
   rw [below_append] at h3
   simp only [Row.reads,List.length_cons]
   omega
 | _,_,_,_,_,_,.ea (r1:=r1) (rb:=rb) (tb:=tb) _ la lb,row,h=>by
  simp only [Nd.size,nsizes]
  rcases List.mem_append.mp h with h | h
  ·have:=la.rd row h; omega
  ·rw [List.mem_singleton.mp h]
   have h1:=lb.cnt r1 (Nat.le_succ _)
   have h3:=tin_len (seen1 rb tb) r1
   simp only [Row.reads,List.length_cons]
   omega
 | _,_,_,_,_,_,.call (ps:=ps) l,row,h=>by
  simp only [Nd.size]
  rcases List.mem_append.mp h with h | h
  ·have:=l.rd row h; omega
  ·rw [List.mem_singleton.mp h]
   have h1:=l.up
   have h2:=nsizes_len ps
   simp only [Row.reads]
   omega
 | _,_,_,_,_,_,.bare (ps:=ps) _ _ l,row,h=>by
  simp only [Nd.size]
  rcases List.mem_append.mp h with h | h
  ·have:=l.rd row h; omega
  ·rw [List.mem_singleton.mp h]
   have h1:=l.up
   have h2:=nsizes_len ps
   simp only [Row.reads]
   omega
theorem Lays.rd:∀ {nds:List Nd}{ε:Env1}{r:Nat}{rs:List Row}{ts:List Nat}{r':Nat},Lays nds ε r rs ts r'→∀ row∈rs,row.reads.length≤nsizes nds
 | _,_,_,_,_,_,.nil,row,h=>by cases h
 | _,_,_,_,_,_,.cons la l,row,h=>by
  simp only [nsizes]
  rcases List.mem_append.mp h with h | h
  ·have:=la.rd row h; omega
  ·have:=l.rd row h; omega
end
def nI (n:Nat):Int:=(n:Int)
section
variable {P:Program}{w:World}{A:Around}{E:Value→Shared→Prop}{s:Shared}
end
section
variable {X:Cx}(K:PySem.W.Frag) (w:World)
end
section
variable {prog:Program}{w:World}{K:Type} [DecidableEq K] {knd:KeyKind prog w K}{A:Around}{E:Value→Shared→Prop}{s:Shared}
theorem put_pairs {d:Addr}{kvs:List (K×Value)} {k:K}{key v:Value}{Q:Unit→Shared→Prop}(hkey:knd.is k key=true) (hm:s.heap.DictOf knd d kvs) (hsz:kvs.length≤sizeLine)
  (want:∀ h',h'.DictOf knd d (stored kvs k v)→Heap.SameBut d s.heap h'→Q () { s with heap:=h' }):wpAny (model prog w) A (dictPut d (knd.hash k) key v) Q E s:=by
 obtain⟨o,es,ep,ho,hc,hd,hk,hp,hn⟩:=hm
 have hes:es.size≤sizeLine:=by
  have e1:=hp.length
  rw [Array.length_toList] at e1
  omega
 unfold dictPut
 refine wpAny_bind (wpAny_dictFind_of hkey ho hd hk ?_)
 have hidx:(es.findIdx? fun e=>knd.is k e.key)=kvs.findIdx? fun kv=>decide (kv.1=k):=by
  rw [← hp.findIdx k]; cases es; simp
 cases hi:es.findIdx? fun e=>knd.is k e.key with
 | some i =>
  refine wpAny_updateDict ho hd (want _ ⟨_,_,ep,Heap.get?_update_self _ ho (Obj.isFreed_of_dict (Obj.data_mapDict hd _)),hc.mapDict _,Obj.data_mapDict hd _,hk.modify _ _,?_,?_⟩ (Heap.SameBut.update ..))
  ·have hl:(es.toList.findIdx? fun e=>knd.is k e.key)=some i:=by rw [← hi]; cases es; simp
   have q:=hp.modify hn hl v
   rw [stored,if_pos (any_of_findIdx_some (hidx ▸ hi))]
   cases es; simpa using q
  ·rw [stored,if_pos (any_of_findIdx_some (hidx ▸ hi)),keys_map_store]; exact hn
 | none =>
  have hnot:k∉kvs.map (·.1):=not_mem_of_findIdx_none (hidx ▸ hi)
  have hany:¬ (kvs.any fun kv=>decide (kv.1=k))=true:=fun z=>by
   obtain⟨kv,h1,h2⟩:=List.any_eq_true.mp z
   exact hnot (List.mem_map.mpr ⟨kv,h1,of_decide_eq_true h2⟩)
  refine wpAny_updateDictKeys (hz:=hes) ho hd (want _ ⟨_,_,ep+1,Heap.get?_update_self _ ho (Obj.isFreed_of_dict (Obj.data_mapDictKeys hd _)),hc.mapDictKeys _,Obj.data_mapDictKeys hd _,hk.push hkey _,?_,?_⟩ (Heap.SameBut.update ..))
  ·have q:=hp.append hkey (knd.hash k) v
   rw [stored,if_neg hany]
   cases es; simpa using q
  ·rw [stored,if_neg hany,List.map_append]
   refine List.nodup_append.mpr ⟨hn,by simp,fun a ha b hb z => ?_⟩
   have e:b=k:=by simpa using hb
   exact hnot (by rw [← e,← z]; exact ha)
theorem merge_mapping {d o:Addr}{kvs more:List (K×Value)} {Q:Unit→Shared→Prop}(hdo:d≠o) (hoS:(o == sysModules)=false) (hnr:∀ k a,knd.is k (.ref a)=false)
  (hd:s.heap.DictOf knd d kvs) (ho:s.heap.DictOf knd o more) (hsz:kvs.length+more.length≤sizeLine)
  (want:∀ h',h'.DictOf knd d (merged kvs more)→Heap.SameBut d s.heap h'→Q () { s with heap:=h' }) :
  wpAny (model prog w) A (mergeMapping d (.ref o) false) Q E s:=by
 obtain⟨od,esd,epd,hod,hcd,hdd,hkd,hpd,hnd⟩:=id hd
 obtain⟨oo,eso,epo,hoo,hco,hdo',hko,hpo,hno⟩:=id ho
 have hlen:more.length=eso.size:=by rw [← hpo.length,Array.length_toList]
 unfold mergeMapping
 refine wpAny_bind (wpAny_isInstance (b:=true) ho.typeIs (by rw [isSubtype_type]; kernel_rfl) ?_)
 dsimp only
 rw [if_pos rfl]
 refine wpAny_bind (wpAny_specialOf ho.typeIs F.slot_dict_iter.lookup (wpAny_bind (wpAny_pure ?_)))
 have e1:(some (Value.builtin "dict.__iter__") == some (Value.builtin "dict.__iter__"))=true:=by decide
 rw [e1]
 dsimp only
 rw [if_neg (by rw [hoS]; exact Bool.false_ne_true)]
 have loop:wpAny (model prog w) A (do
   let l ← dictEntries o
   have size:Nat:=l.size
   let epoch ← dictEpoch o
   forIn (List.range size) PUnit.unit fun i (_:PUnit)=>(do
    let l' ← dictEntries o
    match l'[i]? with
     | some e=>do
      holding [e.key,e.val] (dictPut d e.hash e.key e.val)
      let ep' ← dictEpoch o
      if (ep' != epoch)=true then do
        (unsupported "dict.changed-during-merge" : Sem PUnit)
        pure (ForInStep.yield PUnit.unit)
       else pure (ForInStep.yield PUnit.unit)
     | _=>do
      (unsupported "dict.changed-during-merge" : Sem PUnit)
      pure (ForInStep.yield PUnit.unit):Sem (ForInStep PUnit))
   pure ()) Q E s:=by
  refine wpAny_bind (wpAny_dictEntries hoo hdo' (wpAny_bind (wpAny_dictEpoch hoo hdo' (wpAny_bind ?_))))
  rw [List.range_eq_range']
  refine wpAny_forIn_list _ (fun rest _ s'=>∃ h' i,s'={ s with heap:=h' }∧rest=List.range' i (eso.size - i)∧i≤eso.size∧h'.DictOf knd d (merged kvs (more.take i))∧h'.get? o=some oo∧Heap.SameBut d s.heap h') _ ?_ ?_ _ _ ⟨s.heap,0,rfl,by simp,Nat.zero_le _,by simpa [merged] using hd,hoo,Heap.SameBut.refl _ _⟩
  ·rintro x rest b s' ⟨h',i,rfl,hr,hi,hd',hoo',hs'⟩
   have hlt:i < eso.size:=Nat.lt_of_not_le fun z=>by rw [Nat.sub_eq_zero_of_le z] at hr; simp at hr
   obtain⟨rfl,hrest⟩:x=i∧rest=List.range' (i+1) (eso.size - (i+1)):=by
    rw [show eso.size - i=(eso.size - (i+1))+1 by omega,List.range'_succ] at hr
    injection hr with h1 h2
    exact⟨h1,h2⟩
   refine wpAny_bind (wpAny_dictEntries hoo' hdo' ?_)
   rw [Array.getElem?_eq_getElem hlt]
   obtain⟨⟨k,v⟩,hkv⟩:∃ kv,more[x]? = some kv:=⟨more[x]'(by rw [hlen]; exact hlt),List.getElem?_eq_getElem _⟩
   obtain⟨hkey,hval⟩:=hpo.get? (e:=eso[x]) (by simp [hlt]) hkv
   obtain⟨k',hkey',hhash⟩:=hko eso[x] (Array.getElem_mem hlt)
   obtain rfl:k'=k:=knd.inj _ _ _ hkey' hkey
   dsimp only
   rw [hhash,hval]
   have hmx:(merged kvs (more.take x)).length≤sizeLine:=by
    have q1:=merged_length_le kvs (more.take x)
    have q2:(more.take x).length≤more.length:=by rw [List.length_take]; omega
    omega
   refine wpAny_bind (wpAny_holding (put_pairs hkey hd' hmx fun h'' hd'' hs'' => ?_))
   have hoo'':h''.get? o=some oo:=(hs''.2 o (Ne.symm hdo)).trans hoo'
   refine wpAny_bind (wpAny_dictEpoch hoo'' hdo' ?_)
   rw [if_neg (by simp)]
   exact wpAny_pure ⟨h'',x+1,rfl,hrest,hlt,by rw [merged_take_succ kvs more x (k',v) hkv]; exact hd'',hoo'',hs'.trans hs''⟩
  ·rintro b s' ⟨h',i,rfl,hr,hi,hd',hoo',hs'⟩
   have hin:i=eso.size:=Nat.le_antisymm hi (Nat.le_of_not_lt fun z=>by
    rw [show eso.size - i=(eso.size - (i+1))+1 by omega,List.range'_succ] at hr; exact nomatch hr)
   refine wpAny_pure (want h' ?_ hs')
   rw [hin,← hlen,List.take_length] at hd'; exact hd'
 refine wpAny_bind (wpAny_dictEntries hod hdd ?_)
 split
 ·refine wpAny_bind (wpAny_dictEntries hoo hdo' (wpAny_bind ?_))
  rw [← Array.forIn_toList]
  refine wpAny_forIn_list _ (fun rest _ s'=>s'=s∧∀ e∈rest,e∈eso) _ ?_ ?_ _ _ ⟨rfl,fun e he=>by simpa using he⟩
  ·rintro x rest b s' ⟨rfl,hin⟩
   obtain⟨k,hk1,_⟩:=hko x (hin x (List.mem_cons_self ..))
   have hne:∀ a,x.key≠.ref a:=fun a z=>by rw [z,hnr] at hk1; cases hk1
   split
   ·rename_i a ea
    exact absurd ea (hne a)
   ·exact wpAny_pure ⟨rfl,fun e he=>hin e (List.mem_cons_of_mem _ he)⟩
  ·rintro b s' ⟨rfl,_⟩
   exact loop
 ·exact loop
end
theorem mix_noref {P:Program}{w:World}(k:Key) (a:Addr):(mixKind P w).is k (.ref a)=false:=by
 cases h:(mixKind P w).is k (.ref a) with
 | false=>rfl
 | true=>rcases keyIs_shape h with⟨i,t,_,e⟩ | ⟨x,t,_,e⟩ <;> cases e
theorem merged_nil {κ:Type} [DecidableEq κ] (l:List (κ×Value)) (hn:(l.map (·.1)).Nodup):merged [] l=l:=merged_nil_of_nodup l hn
def tDStar (td tk tv:TE):TE:=fun σ H Q=>∀ p,H p=none→td σ (upd H p (.dK [])) fun x H1=>∃ (a:Addr) (kvs:List (Key×V)),x=.ref a∧a≠p∧H1 a=some (.dK kvs)∧H1 p=some (.dK [])∧kvs.length≤1000 ∧
 ∀ q,upd H1 p (.dK kvs) q=none→tk σ (upd (upd H1 p (.dK kvs)) q (.dK [])) fun y H2=>tv σ H2 fun z H3=>H3 p=some (.dK kvs)∧H3 q=some (.dK [])∧p≠q∧∃ k:Key,y=kV k∧Q (.ref p) (upd (upd H3 q (.dK [(k,z)])) p (.dK (putK kvs k z)))
theorem pe_dstar {X:Cx}{ed ek ev:Expr}{td tk tv:TE}{pos:Pos}(hd:PE X ed td) (hk:PE X ek tk) (hv:PE X ev tv):PE X (.Dict [none,some ek] [ed,ev] pos) (tDStar td tk tv):=by
 refine⟨fun pins s σ H Q I want => ?_⟩
 rw [arm_eval_Dict]
 refine wpAny_bind (wpAny_standAt ?_)
 show wpAny _ _ (dictDisplay [(none,(do let x ← eval ed X.env; standAt pos; pure x)),(some (eval ek X.env),(do let x ← eval ev X.env; standAt pos; pure x))]) _ _ s
 unfold dictDisplay
 dsimp only
 refine wpAny_bind ?_
 rw [List.forIn_cons]
 dsimp only
 refine wpAny_bind (wpAny_bind ?_)
 rw [if_pos (show ([]:List (Sem Value×Sem Value)).isEmpty=true from rfl)]
 refine wpAny_pure (wpAny_bind (wpAny_alloc (wpAny_bind (wpAny_holding (wpAny_bind ?_)))))
 have I1:=I.laid (a:=s.heap.objs.size) (o:=.dK []) (h':=s.heap.push { cls:=.type "dict", data:=.dict #[] }) (t':=s.toks) (fun _ _ q=>Heap.get?_push_of_some _ q) (Nat.le_refl _) (dk_empty s.heap I.big)
 refine thn (hd.run pins _ σ _ _ I1 (want _ (I.hok.fresh (Nat.le_refl _)))) ?_
 rintro u s1 ⟨x,H1,J1,r1,a,kvs,rfl,hne,ha,hp,hlen,w1⟩
 cases r1
 refine wpAny_bind (wpAny_standAt (wpAny_pure ?_))
 generalize s.heap.objs.size=p at hne hp w1
 obtain⟨z0,hd0,vs0,rel0,dd0⟩:=dk_of J1.hok hp
 obtain⟨za,hda,vsa,rela,dda⟩:=dk_of J1.hok ha
 cases rel0
 have la:=rela.length
 have nda:(vsa.map (·.1)).Nodup:=by obtain⟨_,_,_,_,_,_,_,_,n⟩:=dda; exact n
 have big:(1000:Nat)+1000≤sizeLine:=by decide
 refine wpAny_bind (wpAny_onRaise (wpAny_tryCatch (wpAny_onRaise (wpAny_holding (merge_mapping (Ne.symm hne) hda mix_noref dd0 dda (by simp only [List.length_nil]; omega) fun h1 m1 sb1 => ?_)))))
 rw [merged_nil _ nda] at m1
 have J2:Inv X pins σ (upd H1 p (.dK kvs)) { s1 with heap:=h1 }:=d_write (t':=s1.toks) J1 (by rw [hp]; exact True.intro) sb1 (let ⟨q,_,_,hq,_⟩:=m1; ⟨q,hq⟩) (dk_new za hd0 rela m1)
 refine wpAny_pure ?_
 dsimp only
 rw [List.forIn_cons]
 dsimp only
 refine wpAny_bind ?_
 rw [if_neg (by simp)]
 refine wpAny_pure ?_
 dsimp only
 rw [List.forIn_nil]
 refine wpAny_pure ?_
 dsimp only
 refine wpAny_bind ?_
 rw [if_neg (by simp)]
 refine wpAny_bind (wpAny_holding (wpAny_subDict (knd:=mixKind X.prog X.w) (by simp) ?_))
 have I3:=J2.laid (a:=h1.objs.size) (o:=.dK []) (h':=h1.push { cls:=.type "dict", data:=.dict #[] }) (t':=s1.toks) (fun _ _ q=>Heap.get?_push_of_some _ q) (Nat.le_refl _) (dk_empty h1 J2.big)
 have w2:=w1 _ (J2.hok.fresh (Nat.le_refl _))
 refine evalPairs_cons ?_
 refine thn (hk.run pins _ σ _ _ I3 w2) ?_
 rintro yk s2 ⟨y,H2,J3,r2,w3⟩
 refine wpAny_bind (thn (hv.run pins _ σ _ _ J3 w3) ?_)
 rintro zk s3 ⟨z,H3,J4,r3,hp3,hq3,npq,k,rfl,w4⟩
 refine wpAny_bind (wpAny_standAt (wpAny_pure (evalPairs_nil ?_)))
 obtain⟨zq,hdq,vsq,relq,ddq⟩:=dk_of J4.hok hq3
 cases relq
 refine⟨[(k,zk)],⟨kV_is r2,rfl,trivial⟩,ddq,fun h2 m2 sb2 => ?_⟩
 have e1:merged [] [(k,zk)]=[(k,zk)]:=rfl
 rw [e1] at m2
 have J5:Inv X pins σ (upd H3 h1.objs.size (.dK [(k,z)])) { s3 with heap:=h2,toks:=s3.toks+1 }:=d_write (t':=s3.toks+1) J4 (by rw [hq3]; exact True.intro) sb2 (let ⟨q,_,_,hq,_⟩:=m2; ⟨q,hq⟩) (dk_new (by show 1≤sizeLine; decide) hdq (.cons ⟨rfl,r3⟩ .nil) m2)
 have hp5:upd H3 h1.objs.size (.dK [(k,z)]) p=some (.dK kvs):=(upd_ne npq).trans hp3
 obtain⟨zp,hdp,vsp,relp,ddp⟩:=dk_of J5.hok hp5
 have lp:=relp.length
 refine wpAny_bind (wpAny_onRaise (wpAny_holding (merge_mapping (s:={ s3 with heap:=h2,toks:=s3.toks+1 }) npq hdq mix_noref ddp m2 (by simp only [List.length_cons,List.length_nil]; omega) fun h3 m3 sb3 => ?_)))
 refine wpAny_pure (wpAny_pure ?_)
 have zl:(putK kvs k z).length≤sizeLine:=by
  have q:=length_mergeK [(k,z)] kvs
  have q2:mergeK kvs [(k,z)]=putK kvs k z:=rfl
  rw [q2] at q
  simp only [List.length_cons,List.length_nil] at q
  omega
 exact⟨.ref p,_,d_write (t':=s3.toks+1) J5 (by rw [hp5]; exact True.intro) sb3 (let ⟨q,_,_,hq,_⟩:=m3; ⟨q,hq⟩) (dk_new zl hdp (show KV (putK kvs k z) (merged vsp [(k,zk)]) from KV.merge (more:=[(k,z)]) (rs:=[(k,zk)]) (.cons ⟨rfl,r3⟩ .nil) relp) m3),rfl,w4⟩
open AutoSeq1 (wpAny_loadPart')
theorem meets_enum_tup (l:Addr) (items:Array Value) (n:Nat) (dct:Option Addr) (sl:Array (Option Value)) :
  Meets (Builtin.«enumerate.__new__» ⟨[.type "enumerate", .ref l],[]⟩) (fun _ R s=>s.heap.get? l=some { cls:=.type "tuple", dict:=dct,data:=.seq items n,slots:=sl } ∧
   R (.ok (.ret (.ref (s.heap.push { cls:=.type "tuple_iterator", data:=.fields #[.ref l,.int 0 0] }).objs.size)))
    { s with heap:=(s.heap.push { cls:=.type "tuple_iterator", data:=.fields #[.ref l,.int 0 0] }).push { cls:=.type "enumerate", data:=.fields #[.none,.bool false,.ref s.heap.objs.size,rawInt 0,.none,.none] } }) :=
 .of_wp fun prog w A R s h=>by
  obtain⟨hp,g,d,tk,os⟩:=s; obtain⟨hl,h⟩:=h
  have hsub:=sub_enumerate
  have hL:Heap.IsTuple (Shared.heap ⟨hp,g,d,tk,os⟩) l items:=⟨_,hl,rfl,n,rfl⟩
  wp_walk using wpAny_loadPart' hl
  refine wpAny_stack_any fun st=>wpAny_pure ?_
  split
  ·rename_i c _ _ _ _ _
   cases (c == Value.type "enumerate") <;> (wp_walk using wpAny_loadPart' hl,wpAny_pyIter_tuple hL; exact⟨_,rfl,h⟩)
  ·wp_walk using wpAny_loadPart' hl,wpAny_pyIter_tuple hL; exact⟨_,rfl,h⟩
section
variable {prog:Program}{w:World}{A:Around}{E:Value→Shared→Prop}{s:Shared}
theorem call_enum_tup {l:Addr}{items:Array Value}{Q:Value→Shared→Prop}(hL:s.heap.IsTuple l items)
  (want:∀ h',IsEnum h' (s.heap.objs.size+1) s.heap.objs.size 0 .none→h'.IsTupleIter s.heap.objs.size l 0→(∀ b o,s.heap.get? b=some o→h'.get? b=some o)→Q (.ref (s.heap.objs.size+1)) { s with heap:=h' }) :
  wpAny (model prog w) A (call (.type "enumerate") [.ref l]) Q E s:=by
 obtain⟨⟨c,dct,dt,sl⟩,hl,hc,n,hd⟩:=hL
 cases (show c=.type "tuple" from hc)
 cases (show dt=.seq items n from hd)
 refine callType_new F.called_enumerate (by decide) (F.typeCall_enumerate_1 _) (F.newCall_enumerate_1 _) (fun obj=>F.args_object_init_2 obj _) F.entry_enumerate_new (meets_enum_tup l items n dct sl) ⟨hl,?_⟩
 have hz:(s.heap.push { cls:=.type "tuple_iterator", data:=.fields #[.ref l,.int 0 0] }).objs.size=s.heap.objs.size+1:=Heap.size_push ..
 show _∧_
 rw [hz]
 have he:IsEnum ((s.heap.push { cls:=.type "tuple_iterator", data:=.fields #[.ref l,.int 0 0] }).push { cls:=.type "enumerate", data:=.fields #[.none,.bool false,.ref s.heap.objs.size,rawInt 0,.none,.none] }) (s.heap.objs.size+1) s.heap.objs.size 0 .none:=by
  have q:=Heap.get?_push_size (s.heap.push { cls:=.type "tuple_iterator", data:=.fields #[.ref l,.int 0 0] }) (o:={ cls:=.type "enumerate", data:=.fields #[.none,.bool false,.ref s.heap.objs.size,rawInt 0,.none,.none] }) rfl
  rw [hz] at q; exact q
 exact⟨⟨_,he,rfl⟩,want _ he ⟨_,Heap.get?_push_of_some _ (Heap.get?_push_size _ rfl),rfl,rfl⟩ fun b o x=>Heap.get?_push_of_some _ (Heap.get?_push_of_some _ x)⟩
end
def IteT (K:PySem.W.Frag) (a:Addr):It :=
 ⟨fun i H=>∃ (xs:List V) (x:V),SqT K H a xs∧xs[i]? = some x,fun i H v H'=>∃ T x,v=.ref T∧H T=none∧H'=upd H T (.tup [.int (i:Nat),x])∧∀ xs,SqT K H a xs→xs[i]? = some x,fun i H=>∃ xs:List V,SqT K H a xs∧xs.length=i⟩
theorem turn_enumT {P:Program}{w:World}{K:PySem.W.Frag}{elts:List Expr}{kk:Nat}{tpos:Pos}(a e it:Addr) :
  Turn P w K (.Tuple elts kk tpos) (IteT K a) [e,it] e (fun i h=>(∃ old,IsEnum h e it ((i:Nat):Int) old)∧h.IsTupleIter it a i∧e≠it∧a≠it∧a≠e) where
 mem:=by simp
 obj:=fun i h st b hb=>by
  obtain⟨⟨old,he⟩,⟨o,ho,hc,hd⟩,_⟩:=st
  rcases (by simpa using hb:b=e∨b=it) with z | z
  ·rw [z]; exact⟨_,he,fun v q=>nomatch q⟩
  ·rw [z]; exact⟨o,ho,fun v q=>by rw [hd] at q; cases q⟩
 keep:=fun i h h' st k=>let ⟨⟨old,he⟩,hi,hne⟩:=st; ⟨⟨old,k e (by simp) _ he⟩,hi.at fun o q=>k it (by simp) o q,hne⟩
 item:=by
  intro X hP hw hK hc i pins s σ H E I hf st hg
  subst hP hw hK
  obtain⟨⟨old,he⟩,hit,hne,hai,hae⟩:=st
  obtain⟨xs,x,hq,hx⟩:=hg
  obtain⟨its,rv,p,hz⟩:=I.tuple hq
  obtain⟨u,hu,ru⟩:=rv.get hx
  have hel:e < s.heap.objs.size:=Heap.lt_size he
  have hil:it < s.heap.objs.size:=by obtain⟨_,q,_⟩:=hit; exact Heap.lt_size q
  have hd:=I.ok.hd hc
  have hu':its.toArray[i]? = some u:=by simpa using hu
  have hlt:i < its.toArray.size:=(Array.getElem?_eq_some_iff.mp hu').1
  refine wpAny_pyNext_enum_itemD (Draws.tuple (by rw [← hd]) it a hai its.toArray) he ⟨hit,p⟩ hlt hne (by simp; exact⟨hne,fun z=>hae z.symm⟩) fun x' h' tk hx' ho hst' hT hsz hk => ?_
  have ex:x'=u:=Option.some.inj (hx'.symm.trans hu')
  subst ex
  refine⟨_,rfl,wpAny_letOwnedTupleGo_enum (s:={ s with heap:=h',toks:=tk+1 }) ho fun h'' he' sb => ?_⟩
  have hT2:h''.get? s.heap.objs.size=some { cls:=.type "tuple", data:=.seq #[.int i tk,x'] }:=(sb.2 _ (Nat.ne_of_gt hel)).trans hT
  have new:ObjOk X.prog X.w (upd H s.heap.objs.size (.tup [.int (i:Nat),x])) h'' s.heap.objs.size (.tup [.int (i:Nat),x]) :=
   ⟨by show 2≤sizeLine; decide,[.int i tk,x'],.cons ⟨_,rfl⟩ (.cons ru .nil),⟨_,hT2,rfl,_,rfl⟩⟩
  have I1:Inv X pins σ (upd H s.heap.objs.size (.tup [.int (i:Nat),x])) { s with heap:=h'',toks:=tk+1 } :=
   I.turnedNew (ch:=[e,it]) (fun b ob hb q=>(sb.2 b (fun z=>hb (by simp [z]))).trans (hk b ob (fun z=>hb (by simp [z])) (fun z=>hb (by simp [z])) q)) hf (Nat.le_refl _) new
  refine⟨.ref s.heap.objs.size,_,I1,rfl,⟨_,x,rfl,I.hok.fresh (Nat.le_refl _),rfl,fun ys hy=>by rw [I.tuple_inj hy hq]; exact hx⟩,⟨⟨x',?_⟩,hst'.1.at fun o q=>(sb.2 it (Ne.symm hne)).trans q,hne,hai,hae⟩,fun b hb => ?_⟩
  ·rw [show ((i+1:Nat):Int)=(i:Int)+1 by omega]; exact he'
  ·have hb':b < s.heap.objs.size:=by
    rcases (by simpa using hb:b=e∨b=it) with z | z
    ·rw [z]; exact hel
    ·rw [z]; exact hil
   rw [upd_ne (Nat.ne_of_lt hb')]
   exact (hf b hb).1
 done:=by
  intro X hP hw hK hc i pins s σ H E I hf st hg
  subst hP hw hK
  obtain⟨⟨old,he⟩,hit,hne,hai,hae⟩:=st
  obtain⟨xs,hq,hx⟩:=hg
  obtain⟨its,rv,p,hz⟩:=I.tuple hq
  obtain⟨f0,f1,f2,f3,f4,f5⟩:=hf it (by simp)
  have hl:=rv.length
  subst hx
  have e:xs.length=its.toArray.size:=by rw [List.size_toArray]; omega
  have hd:=I.ok.hd hc
  refine wpAny_pyNext_enum_endD (Draws.tuple (by rw [← hd]) it a hai its.toArray) he ⟨by rw [← e]; exact hit,p⟩ fun h' eb=>⟨rfl,I.turned (t':=s.toks) (fun b o hb q=>eb b o hb q) f0 f1 f3 f4 f5⟩
 self:=fun A i s Q E st h=>let ⟨⟨_,he⟩,_⟩:=st; wpAny_pyIter_enum he h
def iEnumT (K:PySem.W.Frag) (ta:TA):TI:=fun σ H R=>ta σ H fun vs H1=>∃ a xs,vs=[.ref a]∧SqT K H1 a xs∧R (IteT K a) H1
theorem pi_enumT {X:Cx}{e:Expr}{ta:TA}{p pos tpos:Pos}{elts:List Expr}{kk:Nat}(hg:Gl X "enumerate") (hm:X.mg "enumerate" = none) (ha:PA X [e] ta) (hs:starEach [e] X.env=[(false,eval e X.env)]:=by rfl) :
  PI X (.Tuple elts kk tpos) (.Call (.Name "enumerate" p) [e] [] pos) (iEnumT X.K ta):=by
 refine⟨fun pins s σ H R I h => ?_⟩
 refine Call_ (ld_blt I hg hm boot_enumerate (PyProof.Rows.callWith_type1 (thn (ha.run pos pins s σ H _ I h) fun us s1 ⟨vs,H1,I1,r1,a,xs,ex,hq,q⟩ => ?_) hs rfl))
 subst ex
 rw [Vals.ref1 r1]
 obtain⟨its,rv,pt,hz⟩:=I1.tuple hq
 have hlt:a < s1.heap.objs.size:=by obtain⟨o,ho,_⟩:=pt; exact Heap.lt_size ho
 refine call_enum_tup pt fun h' he hit hk=>wpAny_pyIter_enum he ?_
 have I2:Inv X pins σ H1 { s1 with heap:=h' }:=I1.kept (t':=s1.toks) hk
 refine⟨s1.heap.objs.size+1,[s1.heap.objs.size+1,s1.heap.objs.size],_,_,H1,rfl,I2,turn_enumT a (s1.heap.objs.size+1) s1.heap.objs.size,⟨⟨.none,he⟩,hit,Nat.succ_ne_self _,Nat.ne_of_lt hlt,Nat.ne_of_lt (Nat.lt_succ_of_lt hlt)⟩,fun b hb => ?_,q⟩
 have hle:s1.heap.objs.size≤b:=by
  rcases (by simpa using hb:b=s1.heap.objs.size+1∨b=s1.heap.objs.size) with z | z
  ·rw [z]; exact Nat.le_add_right _ _
  ·rw [z]; exact Nat.le_refl _
 exact I1.fpOk hle (I1.hok.fresh hle)
theorem walk_enumT {K:PySem.W.Frag}{a:Addr}{xs:List V}:Walk (IteT K a) xs.length (fun H=>SqT K H a xs) (YPair (fun i=>some (.int (i:Nat))) (fun i=>xs[i]?)):=by
 refine⟨fun i _ hi q=>⟨xs,xs[i],q,by simp [hi]⟩,fun _ q=>⟨xs,q,rfl⟩,fun i H v H' _ q y => ?_⟩
 obtain⟨T,x,h1,h2,h3,h4⟩:=y
 exact⟨T,.int (i:Nat),x,h1,h2,h3,rfl,h4 xs q⟩
section
variable {X:Cx}(K:PySem.W.Frag)
theorem pi_enumTK {e:Expr}{ta:TA}{p pos tpos:Pos}{elts:List Expr}{kk:Nat}(hg:Gl X "enumerate") (hm:X.mg "enumerate" = none) (ha:PA X [e] ta) (hs:starEach [e] X.env=[(false,eval e X.env)]:=by rfl) (h:X.K=K:=by rfl) :
  PI X (.Tuple elts kk tpos) (.Call (.Name "enumerate" p) [e] [] pos) (iEnumT K ta):=h ▸ pi_enumT hg hm ha hs
end
theorem meets_extend_tup (l:Addr) (items:Array Value) (n:Nat) (b:Addr) (items2:Array Value) (n2:Nat) (dct:Option Addr) (sl:Array (Option Value)) (h0:¬(!items.isEmpty && Builtin.List.listTooLong (items.size+items2.size))=true) (h1:items.size≤sizeLine) (h2:items.size+items2.size≤sizeLine+1) :
  Meets (Builtin.«list.extend» ⟨[.ref l,.ref b],[]⟩) (fun _ R s=>s.heap.get? l=some { cls:=.type "list", dict:=none,data:=.seq items n,slots:=#[] }∧s.heap.get? b=some { cls:=.type "tuple", dict:=dct,data:=.seq items2 n2,slots:=sl }∧R (.ok (.ret Value.none)) { s with heap:=s.heap.update l (Obj.mapSeq fun x=>x++items2),toks:=s.toks }) :=
 .of_wp fun prog w A R s h=>by
  obtain⟨hp,g,d,tk,os⟩:=s; obtain⟨hl,hb,h⟩:=h
  have f1:=AutoSeq1.idx_int; have f2:=AutoSeq1.sub_tuple_tuple; have f3:=AutoSeq1.sub_list_list; have f4:=AutoSeq1.sub_tuple_list; have f5:=AutoSeq1.sub_list_tuple
  have hz':(items++items2).size≤sizeLine+1:=by rw [Array.size_append]; exact h2
  wp_walk using (wpAny_updateSeq hl rfl (hz:=h1) (_hz':=hz')),wpAny_loadPart' hl,wpAny_loadPart' hb; exact⟨_,rfl,h⟩
def rExtT (K:PySem.W.Frag):V→List V→Hp→VK→Prop:=fun x vs H Q=>∃ l b xs zs,x=.ref l∧vs=[.ref b]∧H l=some (.lst xs)∧SqT K H b zs∧xs.length+zs.length≤8000000∧Q .non (upd H l (.lst (xs++zs)))
theorem mt_extT {X:Cx}(K:PySem.W.Frag) (h:X.K=K:=by rfl):MtM X "list.extend" (rExtT K):=by
 subst h
 rintro pins s σ H x vs v us Q I rx rv ⟨l,b,xs,zs,rfl,rfl,hH,hB,hz,q⟩
 cases rx
 rw [Vals.ref1 rv]
 obtain⟨z,its,n,r,hl,e⟩:=I.lstM hH
 obtain⟨its2,r2,⟨⟨c2,d2,t2,sl2⟩,e2,ec,n2,ed⟩,hl2⟩:=I.tuple hB
 cases (show c2=.type "tuple" from ec)
 cases (show t2=.seq its2.toArray n2 from ed)
 have l1:=r.length
 have l2:=r2.length
 have big:8000000≤sizeLine:=by decide
 have hsz:its.toArray.size+its2.toArray.size≤sizeLine:=by rw [List.size_toArray,List.size_toArray]; omega
 refine call_meets F.slot_list_extend ⟨_,e,rfl⟩ F.entry_list_extend (F.args_list_extend_2 _ _) (meets_extend_tup l its.toArray n b its2.toArray n2 d2 sl2 (extend_door hsz) (by rw [List.size_toArray] at *; omega) (by omega)) ⟨e,e2,?_⟩
 refine⟨.non,_,I.lset (its':=its++its2) hH e (by simp) (r.append r2) ?_,rfl,q⟩
 rw [List.length_append]
 omega
abbrev FnM (K:PySem.W.Frag) (x qual:Str) (st:Stmt) (f:Addr) (fd:FuncData):Prop:=FunD K x qual (defArgs st) (defBody st) (defScope st) [] [] f fd
structure Okm (P:Program) (w:World) (K:PySem.W.Frag) (mg:Str→Option Value) (base:Heap) (CX:CXT) (k:Nat) (C:Addr) (m:Str) (ps:List Str) (sp:Sp):Prop where
 ex:∃ f fd,FnOk P w K mg base CX k f fd ps sp∧Meth K C m f∧Binds K fd ps []∧Cls K C
theorem Okm.mono {P w K mg base CX j k C m ps sp}(O:Okm P w K mg base CX j C m ps sp) (h:j≤k):Okm P w K mg base CX k C m ps sp:=by
 obtain⟨f,fd,F,r⟩:=O.ex
 exact⟨f,fd,F.mono h,r⟩
structure Okc (P:Program) (w:World) (K:PySem.W.Frag) (mg:Str→Option Value) (base:Heap) (CX:CXT) (k:Nat) (x:Str) (C:Addr) (ps:List Str) (sp:Sp):Prop where
 ex:∃ f fd,FnOk P w K mg base CX k f fd ps sp∧Mk K C f∧Binds K fd ps []∧mg x=some (.ref C)
theorem Okc.mono {P w K mg base CX j k x C ps sp}(O:Okc P w K mg base CX j x C ps sp) (h:j≤k):Okc P w K mg base CX k x C ps sp:=by
 obtain⟨f,fd,F,r⟩:=O.ex
 exact⟨f,fd,F.mono h,r⟩
section
variable {X:Cx}{CX:CXT}{k:Nat}{x m:Str}{C:Addr}{ps:List Str}{sp:Sp}{E:XK}{o e:Expr}{es:List Expr}{t:TA}{ta:TE}{p pos apos:Pos}
theorem pe_m {pl:Sem Bool}(O:Okm X.prog X.w X.K X.mg X.base CX k C m ps sp) (he:PE X o ta) (hr:Room k X.A) (hx:Passes CX X E) (ha:PA X (e::es) t)
  (hst:starEach (e::es) X.env=(false,eval e X.env)::starEach es X.env:=by rfl) (hpl:(backTo pos (starEach es X.env)).any (·.1)=false:=by rfl)
  (ht:eval (.Call (.Attribute o m apos) (e::es) [] pos) X.env=(do let ov ← eval o X.env; standAt apos.atName; let (f,first) ← holding [ov] (getMethod ov m pl); callWith pos f first (backTo pos (starEach (e::es) X.env)) (backToKw pos (keywordEach [] X.env))):=by rfl) :
  PE X (.Call (.Attribute o m apos) (e::es) [] pos) (tMeth C m sp [] E ta t):=by
 obtain⟨f,fd,F,hm,hb,c⟩:=O.ex
 exact pe_meth he c hm F hr hb .nil hx ha hst hpl ht
theorem pe_mk (O:Okc X.prog X.w X.K X.mg X.base CX k x C ps sp) (hr:Room (k+1) X.A) (hg:Gl X x) (hx:Passes CX X E) (ha:PA X (e::es) t) (hdb:(x == ("__debug__" : Str))=false:=by decide)
  (he:starEach (e::es) X.env=(false,eval e X.env)::starEach es X.env:=by rfl) (hpl:(backTo pos (starEach es X.env)).any (·.1)=false:=by rfl):PE X (.Call (.Name x p) (e::es) [] pos) (tMake C sp [] E t):=by
 obtain⟨f,fd,F,M,hb,hm⟩:=O.ex
 exact pe_make M F hr hg hm hb .nil hx ha hdb he hpl
end
section
variable {X:Cx}(K:PySem.W.Frag)
theorem pg_lstK {es:List Expr}{k:Nat}{t:TGs}{n:Nat}{pos:Pos}(hc:X.calm=true) (h:PGs X es t) (hn:(assignEach es X.env).length=n:=by rfl) (hst:(assignEach es X.env).findIdx? (·.1)=none:=by rfl) (hk:X.K=K:=by rfl):PG X (.Tuple es k pos) (gLst K n t):=hk ▸ pg_lst hc h hn hst
theorem cr_allK (hc:X.calm=true) (h:X.K=K:=by rfl):CallR X (.builtin "all") (rAll K):=h ▸ cr_all hc
theorem ps_fldK {o value:Expr}{f:Str}{pos pos':Pos}{ta tv:TE}(ha:PE X o ta) (hv:PE X value tv) (hs:swapsWith value (some (.Attribute o f pos')) pos.line X.env=pure false) (h:X.K=K:=by rfl):PS X (.Assign [.Attribute o f pos'] value pos) (sFld K ta tv f):=h ▸ ps_fld ha hv hs
end
theorem pe_gI {X:Cx}{x:Str}{i:Int}{t:Tok}{pos:Pos}(hg:Gl X x) (hm:X.mg x=some (.int i t)) (hdb:(x == ("__debug__" : Str))=false:=by decide):PE X (.Name x pos) (fun _ H Q=>Q (.int i) H):=pe_glob (v:=.int i) hg hm ⟨_,rfl⟩ hdb
theorem pe_gR {X:Cx}{x:Str}{a:Addr}{pos:Pos}(hg:Gl X x) (hm:X.mg x=some (.ref a)) (hdb:(x == ("__debug__" : Str))=false:=by decide):PE X (.Name x pos) (fun _ H Q=>Q (.ref a) H):=pe_glob (v:=.ref a) hg hm rfl hdb
structure Tbl (K:PySem.W.Frag) (w:World) (d:Addr) (g:W→Option V):Prop where
 kd:∃ es n,KDict K w d es n
 at_:∀ (x:W) (v:V),g x=some v→∃ u,PySem.W.nsIn K d x.str=some (some u)∧RelV v u
section
variable {X:Cx}(K:PySem.W.Frag) {w:World}{d:Addr}{g:W→Option V}
def rInTbl (d:Addr) (g:W→Option V) (neg:Bool):R2:=fun x y H Q=>∃ (z:W) (v:V),x=.str z.str∧y=.ref d∧g z=some v∧Q (.bl (!neg)) H
theorem op_notInTbl (T:Tbl X.K X.w d g):OpR X (compareOp .NotIn) (rInTbl d g true):=by
 rintro pins s σ H x y v u Q I rx ry ⟨z,v0,rfl,rfl,hg,q⟩
 obtain⟨es,n,D⟩:=T.kd
 obtain⟨u0,h1,h2⟩:=T.at_ z v0 hg
 exact op_notIn_kd D pins s σ H _ _ v u Q I rx ry ⟨z.str,some u0,rfl,rfl,h1,q⟩
def rIxTbl (d:Addr) (g:W→Option V):R2:=fun x y H Q=>∃ (z:W) (v:V),x=.ref d∧y=.str z.str∧g z=some v∧Q v H
theorem ix_tbl (T:Tbl X.K X.w d g):IxR X (rIxTbl d g):=by
 rintro value slice pins s σ H x y v u Q I rx ry ⟨z,v0,rfl,rfl,hg,q⟩ hs
 obtain⟨es,n,D⟩:=T.kd
 obtain⟨u0,h1,h2⟩:=T.at_ z v0 hg
 exact ix_kdict value slice pins s σ H _ _ v u Q I rx ry ⟨d,z.str,v0,rfl,rfl,⟨es,n,u0,D.at_,D.lit,h1,h2⟩,q⟩ hs
end
def ndF (w:W) (fn:Int) (p:Nat) (n:Int) (l:Addr) (d:Nat):List (Str×V):=[("word", .str w.str),("function", .int fn),("place", .int (p:Int)),("number", .int n),("parts", .ref l),("depth", .int (d:Int))]
def NT:Addr→Prop:=fun _=>True
def New (H:Hp):Addr→Prop:=fun b=>H b=none
mutual
inductive NdIn (H:Hp) (G:Addr→Prop) (C:Addr) (fn:Int):V→Nd→Prop
 | mk {a dx l:Addr}{w:W}{p:Nat}{n:Int}{ps:List Nd}{d:Nat}{vs:List V}:G a→G l→H a=some (.ins C dx (ndF w fn p n l d))→H l=some (.lst vs)→NdIns H G C fn vs ps→NdIn H G C fn (.ref a) (.node w p n ps d)
inductive NdIns (H:Hp) (G:Addr→Prop) (C:Addr) (fn:Int):List V→List Nd→Prop
 | nil:NdIns H G C fn [] []
 | cons {v:V}{vs:List V}{e:Nd}{es:List Nd}:NdIn H G C fn v e→NdIns H G C fn vs es→NdIns H G C fn (v::vs) (e::es)
end
section
variable {H H':Hp}{G G':Addr→Prop}{C:Addr}{fn:Int}
mutual
theorem NdIn.keep (g:∀ b,G b→G' b) (s:∀ b o,G b→H b=some o→H' b=some o):∀ {v:V}{e:Nd},NdIn H G C fn v e→NdIn H' G' C fn v e
 | _,_,.mk i1 i2 h1 h2 r=>.mk (g _ i1) (g _ i2) (s _ _ i1 h1) (s _ _ i2 h2) (NdIns.keep g s r)
theorem NdIns.keep (g:∀ b,G b→G' b) (s:∀ b o,G b→H b=some o→H' b=some o):∀ {vs:List V}{es:List Nd},NdIns H G C fn vs es→NdIns H' G' C fn vs es
 | _,_,.nil=>.nil
 | _,_,.cons h r=>.cons (NdIn.keep g s h) (NdIns.keep g s r)
end
theorem NdIn.same (s:Same H H') {v:V}{e:Nd}(h:NdIn H G C fn v e):NdIn H' G C fn v e:=h.keep (fun _ g=>g) fun b o _ q=>s b o q
theorem NdIns.same (s:Same H H') {vs:List V}{es:List Nd}(h:NdIns H G C fn vs es):NdIns H' G C fn vs es:=h.keep (fun _ g=>g) fun b o _ q=>s b o q
theorem NdIn.any {v:V}{e:Nd}(h:NdIn H G C fn v e):NdIn H NT C fn v e:=h.keep (fun _ _=>trivial) fun b o _ q=>q
theorem NdIns.any {vs:List V}{es:List Nd}(h:NdIns H G C fn vs es):NdIns H NT C fn vs es:=h.keep (fun _ _=>trivial) fun b o _ q=>q
theorem NdIn.len:∀ {vs:List V}{es:List Nd},NdIns H G C fn vs es→vs.length=es.length
 | _,_,.nil=>rfl
 | _,_,.cons _ r=>congrArg (·+1) (NdIn.len r)
theorem NdIns.len {vs:List V}{es:List Nd}(h:NdIns H G C fn vs es):vs.length=es.length:=NdIn.len h
theorem NdIns.snoc {v:V}{e:Nd}:∀ {vs:List V}{es:List Nd},NdIns H G C fn vs es→NdIn H G C fn v e→NdIns H G C fn (vs++[v]) (es++[e])
 | _,_,.nil,h=>.cons h .nil
 | _,_,.cons h r,h'=>.cons h (NdIns.snoc r h')
end
theorem ndF_depth {w fn p n l d}:(ndF w fn p n l d).lookup ("depth" : Str)=some (.int (d:Int)):=by rfl
def spIsNum:Sp:=fun vs H Q _=>∃ (n k:Int),vs=[.int n,.int k]∧Q (.bl (decide (0≤n) && decide (n≤k))) H
abbrev sIsNumber:Stmt:=top 11
theorem scsIsNumber:FnScope ["value", "last"] ["value", "last"] (defScope sIsNumber):=⟨rfl,rfl,rfl,by decide +kernel,rfl,by decide +kernel,by decide +kernel⟩
section
variable {P:Program}{w:World}{K:PySem.W.Frag}{mg:Str→Option Value}{base:Heap}{f:Addr}{fd:FuncData}
theorem ok_isnum (F:FnP K "is_number" sIsNumber f fd) (z_isinstance:mg "isinstance" = none) (z_int:mg "int" = none) (z_bool:mg "bool" = none):FnOk P w K mg base CX0 1 f fd ["value", "last"] spIsNum:=by
 have sc:=scsIsNumber
 refine F.ok sc (fun vs H Q E h => ?_) (fun cdv A outer s H vs Q E hr h => ?_)
 ·obtain⟨n,k,rfl,_⟩:=h
  rfl
 obtain⟨n,k,rfl,q⟩:=h
 refine⟨_,(pss_cons (ps_if (PW.pt (pw_or (pt_not (pt_val (pe_callB (call_isiK K) rfl z_isinstance (by decide +kernel) (pa_cons (pv 0) (pa_cons (pe_bltn (v:=.ty "int") rfl z_int (by decide +kernel) rfl) pa_nil))))) (pw_or1 (pt_val (pe_callB (call_isiK K) rfl z_isinstance (by decide +kernel) (pa_cons (pv 0) (pa_cons (pe_bltn (v:=.ty "bool") rfl z_bool (by decide +kernel) rfl) pa_nil))))))) (pss_one (ps_ret pe_bl)) pss_nil)
  (pss_one (ps_ret (pe_chain op_le op_le pe_int (pv 0) (pv 1))))),?_⟩
 refine⟨_,rfl,_,_,_,_,_,rfl,.ty _,.base (.int n),kit_ty (r:=true) (by decide +kernel),_,rfl,?_⟩
 refine ite2 (fun z=>nomatch z) (fun _ => ?_)
 refine⟨_,rfl,_,_,_,_,_,rfl,.ty _,.base (.int n),kit_ty (r:=false) (by decide +kernel),_,rfl,?_⟩
 refine ite2 (fun z=>nomatch z) (fun _ => ?_)
 refine⟨_,rfl,_,_,rfl,rfl,_,rfl,?_⟩
 refine ite2 (fun c => ?_) (fun c => ?_)
 ·refine⟨_,rfl,_,_,rfl,rfl,?_⟩
  rw [c] at q
  exact q
 ·rw [Bool.eq_false_iff.mpr c] at q
  exact q
end
def lastOf:W→Int
 | .num=>10006
 | .call=>5
 | _=>19
def W.ar:W→Nat
 | .plus | .minus | .times | .less | .same | .pick | .put=>2
 | .ite=>3
 | _=>1
def lenOf (w:W):Nat:=match w.lay with
 | 0=>2
 | 1=>4
 | 2=>3
 | _=>1+w.ar
def numW:List V:=[.str "num", .str "name", .str "let", .str "each", .str "where", .str "call"]
def W.numd (w:W):Bool:=match w.lay with
 | 3=>false
 | _=>true
theorem inNum (w:W):inV (.str w.str) numW=w.numd:=by cases w <;> decide +kernel
theorem flatNum:numW.all flatV=true:=rfl
def gLen:W→Option V:=fun w=>some (.int (lenOf w:Int))
structure ShOk (w:W) (n:Int) (k:Nat):Prop where
 n0:w.numd=true→0≤n∧n≤lastOf w
 k1:w.lay=1→k=2
 k3:w.lay=3→k=w.ar
theorem TIn.hd {H:Hp}{v:V}{w:W}{n:Int}{ps:List Ex}(t:TIn H v (.node w n ps)) (s:ShOk w n ps.length):∃ a xs,v=.ref a∧H a=some (.tup (.str w.str::xs))∧xs.length+1=lenOf w∧(w.numd=true→∃ ys,xs=.int n::ys)∧(w.numd=false→n = -1∧TIns H xs ps) ∧
  (w.lay=2→∃ b zs,xs=[.int n,.ref b]∧H b=some (.tup zs)∧TIns H zs ps)∧(w.lay < 2→∃ ys,xs=.int n::ys∧TIns H ys ps):=by
 cases t with
 | leaf h0 h1=>exact⟨_,_,rfl,h1,by rw [lenOf,h0]; rfl,fun _=>⟨_,rfl⟩,fun z=>(by rw [W.numd,h0] at z; cases z),fun z=>(by omega),fun _=>⟨_,rfl,.nil⟩⟩
 | bind h0 h1 h2 =>
  have hl:=h2.len
  have:=s.k1 h0
  exact⟨_,_,rfl,h1,by rw [lenOf,h0,List.length_cons]; show _=4; omega,fun _=>⟨_,rfl⟩,fun z=>(by rw [W.numd,h0] at z; cases z),fun z=>(by omega),fun _=>⟨_,rfl,h2⟩⟩
 | call h1 h2 h3=>exact⟨_,_,rfl,h1,rfl,fun _=>⟨_,rfl⟩,fun z=>(by cases z),fun _=>⟨_,_,rfl,h2,h3⟩,fun z=>by simp [W.lay] at z⟩
 | bare h0 h1 h2 =>
  have hl:=h2.len
  have:=s.k3 h0
  exact⟨_,_,rfl,h1,by rw [lenOf,h0]; show _=1+w.ar; omega,fun z=>(by rw [W.numd,h0] at z; cases z),fun _=>⟨rfl,h2⟩,fun z=>(by omega),fun z=>by omega⟩
def spLast:Sp:=fun vs H Q _=>∃ (x:W),vs=[.str x.str]∧x.numd=true∧Q (.int (lastOf x)) H
abbrev sLastNumber:Stmt:=top 66
theorem scsLastNumber:FnScope ["word"] ["word"] (defScope sLastNumber):=⟨rfl,rfl,rfl,by decide +kernel,rfl,by decide +kernel,by decide +kernel⟩
section
variable {P:Program}{w:World}{K:PySem.W.Frag}{mg:Str→Option Value}{base:Heap}{f:Addr}{fd:FuncData}
theorem ok_last (F:FnP K "last_number" sLastNumber f fd) {t0 t1 t2:Tok}(m_LAST_NUMBER:mg "LAST_NUMBER" = some (.int 10006 t0)) (m_MOST_FUNCTIONS:mg "MOST_FUNCTIONS" = some (.int 6 t1)) (m_LAST_NAME:mg "LAST_NAME" = some (.int 19 t2)):FnOk P w K mg base CX0 1 f fd ["word"] spLast:=by
 have sc:=scsLastNumber
 refine F.ok sc (fun vs H Q E h => ?_) (fun cdv A outer s H vs Q E hr h => ?_)
 ·obtain⟨x,rfl,_⟩:=h
  rfl
 obtain⟨x,rfl,hx,q⟩:=h
 refine⟨_,(pss_cons (ps_if (pt_cmpR op_eq (pv 0) pe_str (nomark _)) (pss_one (ps_ret (pe_gI rfl m_LAST_NUMBER))) pss_nil)
  (pss_cons (ps_if (pt_cmpR op_eq (pv 0) pe_str (nomark _)) (pss_one (ps_ret (pe_op op_sub (pe_gI rfl m_MOST_FUNCTIONS) pe_int))) pss_nil)
  (pss_one (ps_ret (pe_gI rfl m_LAST_NAME))))),?_⟩
 refine⟨_,rfl,rfl,_,rfl,?_⟩
 refine ite2 (fun c => ?_) (fun c=>⟨_,rfl,rfl,_,rfl,ite2 (fun c2 => ?_) (fun c2 => ?_)⟩)
 ·have e:x=.num:=by revert c hx; cases x <;> decide +kernel
  subst e
  exact q
 ·have e:x=.call:=by revert c2 hx; cases x <;> decide +kernel
  subst e
  exact⟨_,_,rfl,rfl,q⟩
 ·have e:lastOf x=19:=by revert c c2 hx; cases x <;> decide +kernel
  rw [e] at q
  exact q
end
def spNumOf (K:PySem.W.Frag):Sp:=fun vs H Q _=>∃ (v:V) (x:W) (n:Int) (ps:List Ex),vs=[v]∧TIn H v (.node x n ps)∧ShOk x n ps.length∧Q (.int n) H
abbrev sNumberOf:Stmt:=top 68
theorem scsNumberOf:FnScope ["expression"] ["expression"] (defScope sNumberOf):=⟨rfl,rfl,rfl,by decide +kernel,rfl,by decide +kernel,by decide +kernel⟩
section
variable {P:Program}{w:World}{K:PySem.W.Frag}{mg:Str→Option Value}{base:Heap}{f:Addr}{fd:FuncData}
theorem ok_numof (F:FnP K "number_of" sNumberOf f fd) {aN:Addr}(m_NUMBERED:mg "NUMBERED" = some (.ref aN)) (hN:∀ H,SqT K H aN numW):FnOk P w K mg base CX0 1 f fd ["expression"] (spNumOf K):=by
 have sc:=scsNumberOf
 refine F.ok sc (fun vs H Q E h => ?_) (fun cdv A outer s H vs Q E hr h => ?_)
 ·obtain⟨v,x,n,ps,rfl,_⟩:=h
  rfl
 obtain⟨v,x,n,ps,rfl,ti,sh,q⟩:=h
 obtain⟨a,xs,rfl,ha,hl,h1,h2,h3,h4⟩:=ti.hd sh
 refine⟨_,(pss_cons (ps_if (pt_cmpR (op_inK K) (pe_ix (ix_tupK K) (pv 0) pe_int (fun _ _=>rfl)) (pe_gR rfl m_NUMBERED) (by rfl)) (pss_one (ps_ret (pe_ix (ix_tupK K) (pv 0) pe_int (fun _ _=>rfl)))) pss_nil)
  (pss_one (ps_ret (pe_un un_neg pe_int)))),?_⟩
 refine⟨_,rfl,a,_,_,.str x.str,rfl,rfl,SqT.of ha,at0,aN,_,rfl,.inr (hN _),rfl,flatNum,_,rfl,?_⟩
 rw [show inV (.str x.str) numW=x.numd from inNum x]
 refine ite2 (fun c => ?_) (fun c => ?_)
 ·obtain⟨ys,rfl⟩:=h1 c
  exact⟨_,rfl,a,_,_,_,rfl,rfl,SqT.of ha,at1,q⟩
 ·obtain⟨rfl,_⟩:=h2 (Bool.eq_false_iff.mpr c)
  exact⟨_,rfl,q⟩
end
def spPartsOf (K:PySem.W.Frag):Sp:=fun vs H Q _=>∃ (v:V) (x:W) (n:Int) (ps:List Ex),vs=[v]∧TIn H v (.node x n ps)∧ShOk x n ps.length∧∀ (H':Hp) (l:Addr) (xs:List V),Same H H'→H' l=some (.lst xs)→TIns H' xs ps→Q (.ref l) H'
theorem isCall (x:W):decide (V.str x.str=V.str "call")=decide (x.lay=2):=by cases x <;> decide +kernel
abbrev sPartsOf:Stmt:=top 69
theorem scsPartsOf:FnScope ["expression"] ["expression"] (defScope sPartsOf):=⟨rfl,rfl,rfl,by decide +kernel,rfl,by decide +kernel,by decide +kernel⟩
section
variable {P:Program}{w:World}{K:PySem.W.Frag}{mg:Str→Option Value}{base:Heap}{f:Addr}{fd:FuncData}
theorem ok_partsof (F:FnP K "parts_of" sPartsOf f fd) {aN:Addr}(m_NUMBERED:mg "NUMBERED" = some (.ref aN)) (hN:∀ H,SqT K H aN numW) (z_list:mg "list" = none):FnOk P w K mg base CX0 1 f fd ["expression"] (spPartsOf K):=by
 have sc:=scsPartsOf
 refine F.ok sc (fun vs H Q E h => ?_) (fun cdv A outer s H vs Q E hr h => ?_)
 ·obtain⟨v,x,n,ps,rfl,_⟩:=h
  rfl
 obtain⟨v,x,n,ps,rfl,ti,sh,q⟩:=h
 obtain⟨a,xs,rfl,ha,hl,h1,h2,h3,h4⟩:=ti.hd sh
 refine⟨_,(pss_cons (ps_if (pt_cmpR op_eq (pe_ix (ix_tupK K) (pv 0) pe_int (fun _ _=>rfl)) pe_str (nomark _)) (pss_one (ps_ret (pe_callTy (call_listK K) rfl z_list (by decide +kernel) (pa_cons (pe_ix (ix_tupK K) (pv 0) pe_int (fun _ _=>rfl)) pa_nil)))) pss_nil)
  (pss_cons (ps_if (pt_cmpR (op_inK K) (pe_ix (ix_tupK K) (pv 0) pe_int (fun _ _=>rfl)) (pe_gR rfl m_NUMBERED) (by rfl)) (pss_one (ps_ret (pe_callTy (call_listK K) rfl z_list (by decide +kernel) (pa_cons (pe_slice (sl_tupK K) (pv 0) (po_some pe_int) po_none) pa_nil)))) pss_nil)
  (pss_one (ps_ret (pe_callTy (call_listK K) rfl z_list (by decide +kernel) (pa_cons (pe_slice (sl_tupK K) (pv 0) (po_some pe_int) po_none) pa_nil)))))),?_⟩
 refine⟨_,rfl,a,_,_,.str x.str,rfl,rfl,SqT.of ha,at0,rfl,_,rfl,?_⟩
 rw [isCall x]
 refine ite2 (fun c => ?_) (fun c => ?_)
 ·obtain⟨b,zs,rfl,hb,hz⟩:=h3 (of_decide_eq_true c)
  refine⟨_,rfl,a,_,_,_,rfl,rfl,SqT.of ha,rfl,b,zs,rfl,.inr (SqT.of hb),fun l hl => ?_⟩
  exact q _ l zs (same_new hl _) upd_same (hz.mono (TK.of (same_new hl _)))
 ·have c':x.lay≠2:=fun z=>c (decide_eq_true z)
  refine⟨_,rfl,a,_,_,.str x.str,rfl,rfl,SqT.of ha,at0,aN,_,rfl,.inr (hN _),rfl,flatNum,_,rfl,?_⟩
  rw [show inV (.str x.str) numW=x.numd from inNum x]
  refine ite2 (fun c => ?_) (fun c => ?_)
  ·obtain⟨ys,rfl,hy⟩:=h4 (by revert c c'; cases x <;> decide +kernel)
   refine⟨_,rfl,2,rfl,a,_,rfl,SqT.of ha,fun z => ?_,fun p hp => ?_⟩
   ·exact absurd z.1 (by simp [HT.sIx])
   have s1:=same_new hp (.tup (cutV (.str x.str::.int n::ys) (some 2) none))
   refine⟨p,_,rfl,.inr (SqT.of upd_same),fun l hl => ?_⟩
   have e:cutV (.str x.str::.int n::ys) (some 2) none=ys:=by simp [cutV,HT.sIx]
   have s2:=s1.trans (same_new hl (.lst (cutV (.str x.str::.int n::ys) (some 2) none)))
   exact q _ l ys s2 (by rw [upd_same,e]) (hy.mono (TK.of s2))
  ·obtain⟨rfl,hy⟩:=h2 (Bool.eq_false_iff.mpr c)
   refine⟨_,rfl,1,rfl,a,_,rfl,SqT.of ha,fun z => ?_,fun p hp => ?_⟩
   ·exact absurd z.1 (by simp [HT.sIx])
   have s1:=same_new hp (.tup (cutV (.str x.str::xs) (some 1) none))
   refine⟨p,_,rfl,.inr (SqT.of upd_same),fun l hl => ?_⟩
   have e:cutV (.str x.str::xs) (some 1) none=xs:=by simp [cutV,HT.sIx]
   have s2:=s1.trans (same_new hl (.lst (cutV (.str x.str::xs) (some 1) none)))
   exact q _ l xs s2 (by rw [upd_same,e]) (hy.mono (TK.of s2))
end
theorem Dep.inum {ds d}:Dep .num ds d→ds=[]∧d=0:=by intro h; cases h with | num=>exact⟨rfl,rfl⟩ | two h=>simp at h
theorem Dep.itwo {w:W} {ds d}(hw:w=.plus∨w=.minus∨w=.times∨w=.less∨w=.same):Dep w ds d→ds=[0,0]∧d=0:=by
 intro h; rcases hw with rfl | rfl | rfl | rfl | rfl <;> cases h <;> exact⟨rfl,rfl⟩
theorem Dep.iite {ds d}:Dep .ite ds d→ds=[0,d,d]:=by intro h; cases h with | ite=>rfl | two h=>simp at h
theorem Dep.ielet {ds d}:Dep .elet ds d→∃ c,ds=[c,d]:=by intro h; cases h with | elet=>exact⟨_,rfl⟩ | two h=>simp at h
theorem Dep.iupto {ds d}:Dep .upto ds d→ds=[0]∧d=1:=by intro h; cases h with | upto=>exact⟨rfl,rfl⟩ | two h=>simp at h
theorem Dep.ilen {ds d}:Dep .len ds d→∃ c,ds=[c+1]∧d=0:=by intro h; cases h with | len=>exact⟨_,rfl,rfl⟩ | two h=>simp at h
theorem Dep.isum {ds d}:Dep .sum ds d→ds=[1]∧d=0:=by intro h; cases h with | sum=>exact⟨rfl,rfl⟩ | two h=>simp at h
theorem Dep.isums {ds d}:Dep .sums ds d→ds=[1]∧d=1:=by intro h; cases h with | sums=>exact⟨rfl,rfl⟩ | two h=>simp at h
theorem Dep.ione {ds d}:Dep .one ds d→∃ c,ds=[c]∧d=c+1∧c < 3:=by intro h; cases h with | one h=>exact⟨_,rfl,rfl,h⟩ | two h=>simp at h
theorem Dep.ipick {ds d}:Dep .pick ds d→ds=[d+1,0]:=by intro h; cases h with | pick=>rfl | two h=>simp at h
theorem Dep.iput {ds d}:Dep .put ds d→∃ c,ds=[c+1,c+1]∧d=c+1:=by intro h; cases h with | put=>exact⟨_,rfl,rfl⟩ | two h=>simp at h
theorem Dep.iflat {ds d}:Dep .flat ds d→∃ c,ds=[c+2]∧d=c+1:=by intro h; cases h with | flat=>exact⟨_,rfl,rfl⟩ | two h=>simp at h
theorem Dep.ieach {ds d}:Dep .each ds d→∃ b c,ds=[b+1,c]∧d=c+1∧c < 3:=by intro h; cases h with | each h=>exact⟨_,_,rfl,rfl,h⟩ | two h=>simp at h
theorem Dep.iwhr {ds d}:Dep .whr ds d→∃ b,ds=[b+1,0]∧d=b+1:=by intro h; cases h with | whr=>exact⟨_,rfl,rfl⟩ | two h=>simp at h
def spOf (S:W→Prop):Sp:=fun vs H Q _=>∃ (l:Addr) (ds:List Nat) (d:Nat) (x:W),vs=[.ref l]∧H l=some (.lst (ds.map dV))∧S x∧Dep x ds d∧∀ H',Same H H'→Q (dV d) H'
theorem q0 {Q:VK}{v:V}{H:Hp}(q:∀ H',Same H H'→Q v H'):Q v H:=q H (fun _ _ h=>h)
def isTwo (w:W):Prop:=w=.plus∨w=.minus∨w=.times∨w=.less∨w=.same
abbrev sOfNum:Stmt:=top 33
theorem scsOfNum:FnScope ["depths"] ["depths"] (defScope sOfNum):=⟨rfl,rfl,rfl,by decide +kernel,rfl,by decide +kernel,by decide +kernel⟩
section
variable {P:Program}{w:World}{K:PySem.W.Frag}{mg:Str→Option Value}{base:Heap}{f:Addr}{fd:FuncData}
theorem ok_of_num (F:FnP K "of_num" sOfNum f fd) {t0 t1:Tok}(m_NO_DEPTH:mg "NO_DEPTH" = some (.int (-1) t0)) (m_MOST_DEPTH:mg "MOST_DEPTH" = some (.int 3 t1)):FnOk P w K mg base CX0 1 f fd ["depths"] (spOf (·=.num)):=by
 have sc:=scsOfNum
 refine F.ok sc (fun vs H Q E h => ?_) (fun cdv A outer s H vs Q E hr h => ?_)
 ·obtain⟨l,ds,d,x,rfl,_⟩:=h
  rfl
 obtain⟨l,ds,d,x,rfl,hl,hx,hD,q⟩:=h
 refine⟨_,(pss_one (ps_ret pe_int)),?_⟩
 subst hx
 obtain⟨rfl,rfl⟩:=hD.inum
 exact q0 q
end
abbrev sOfTwoNumbers:Stmt:=top 34
theorem scsOfTwoNumbers:FnScope ["depths"] ["depths"] (defScope sOfTwoNumbers):=⟨rfl,rfl,rfl,by decide +kernel,rfl,by decide +kernel,by decide +kernel⟩
section
variable {P:Program}{w:World}{K:PySem.W.Frag}{mg:Str→Option Value}{base:Heap}{f:Addr}{fd:FuncData}
theorem ok_of_two_numbers (F:FnP K "of_two_numbers" sOfTwoNumbers f fd) {t0 t1:Tok}(m_NO_DEPTH:mg "NO_DEPTH" = some (.int (-1) t0)) (m_MOST_DEPTH:mg "MOST_DEPTH" = some (.int 3 t1)):FnOk P w K mg base CX0 1 f fd ["depths"] (spOf isTwo):=by
 have sc:=scsOfTwoNumbers
 refine F.ok sc (fun vs H Q E h => ?_) (fun cdv A outer s H vs Q E hr h => ?_)
 ·obtain⟨l,ds,d,x,rfl,_⟩:=h
  rfl
 obtain⟨l,ds,d,x,rfl,hl,hx,hD,q⟩:=h
 refine⟨_,(pss_one (ps_ret (pe_ifExp (pt_cmpR (op_eqDK K hr.units) (pv 0) (pe_lst (pa_cons pe_int (pa_cons pe_int pa_nil))) (nomark _)) pe_int (pe_gI rfl m_NO_DEPTH)))),?_⟩
 obtain⟨rfl,rfl⟩:=hD.itwo hx
 refine⟨_,rfl,by show 2≤sizeLine; decide,fun p hp => ?_⟩
 refine⟨.list [.int 0,.int 0],.list [.int 0,.int 0],.lst (SqL.of (same_new hp _ _ _ hl)) (.cons (.int _) (.cons (.int _) .nil)),.lst (SqL.of upd_same) (.cons (.int _) (.cons (.int _) .nil)),by rfl,by rfl,_,rfl,?_⟩
 refine ite2 (fun _ => ?_) (fun z=>absurd rfl z)
 exact q _ (same_new hp _)
end
abbrev sOfIf:Stmt:=top 35
theorem scsOfIf:FnScope ["depths", "chosen", "yes", "no"] ["depths"] (defScope sOfIf):=⟨rfl,rfl,rfl,by decide +kernel,rfl,by decide +kernel,by decide +kernel⟩
section
variable {P:Program}{w:World}{K:PySem.W.Frag}{mg:Str→Option Value}{base:Heap}{f:Addr}{fd:FuncData}
theorem ok_of_if (F:FnP K "of_if" sOfIf f fd) {t0 t1:Tok}(m_NO_DEPTH:mg "NO_DEPTH" = some (.int (-1) t0)) (m_MOST_DEPTH:mg "MOST_DEPTH" = some (.int 3 t1)):FnOk P w K mg base CX0 1 f fd ["depths"] (spOf (·=.ite)):=by
 have sc:=scsOfIf
 refine F.ok sc (fun vs H Q E h => ?_) (fun cdv A outer s H vs Q E hr h => ?_)
 ·obtain⟨l,ds,d,x,rfl,_⟩:=h
  rfl
 obtain⟨l,ds,d,x,rfl,hl,hx,hD,q⟩:=h
 refine⟨_,(pss_cons (ps_asg (pv 0) (pg_lstK K (n:=3) rfl (pgs_cons (pg_name (i:=1) sc.nd rfl (.inl rfl)) (pgs_cons (pg_name (i:=2) sc.nd rfl (.inl rfl)) (pgs_cons (pg_name (i:=3) sc.nd rfl (.inl rfl)) pgs_nil)))))
  (pss_one (ps_ret (pe_ifExp (PW.pt (pw_and (pt_cmpR op_eq (pv 1) pe_int (nomark _)) (pw_and1 (pt_cmpR op_eq (pv 2) (pv 3) (nomark _))))) (pv 2) (pe_gI rfl m_NO_DEPTH))))),?_⟩
 subst hx
 obtain rfl:=hD.iite
 refine⟨_,rfl,l,_,rfl,SqL.of hl,rfl,_,_,rfl,_,_,rfl,_,_,rfl,rfl,?_⟩
 refine⟨_,rfl,rfl,_,rfl,?_⟩
 refine ite2 (fun _ => ?_) (fun z=>absurd rfl z)
 refine⟨_,rfl,_,rfl,rfl,_,rfl,?_⟩
 refine ite2 (fun _ => ?_) (fun z=>absurd (decide_eq_true rfl) z)
 exact⟨_,rfl,q0 q⟩
end
abbrev sOfLet:Stmt:=top 36
theorem scsOfLet:FnScope ["depths"] ["depths"] (defScope sOfLet):=⟨rfl,rfl,rfl,by decide +kernel,rfl,by decide +kernel,by decide +kernel⟩
section
variable {P:Program}{w:World}{K:PySem.W.Frag}{mg:Str→Option Value}{base:Heap}{f:Addr}{fd:FuncData}
theorem ok_of_let (F:FnP K "of_let" sOfLet f fd) {t0 t1:Tok}(m_NO_DEPTH:mg "NO_DEPTH" = some (.int (-1) t0)) (m_MOST_DEPTH:mg "MOST_DEPTH" = some (.int 3 t1)):FnOk P w K mg base CX0 1 f fd ["depths"] (spOf (·=.elet)):=by
 have sc:=scsOfLet
 refine F.ok sc (fun vs H Q E h => ?_) (fun cdv A outer s H vs Q E hr h => ?_)
 ·obtain⟨l,ds,d,x,rfl,_⟩:=h
  rfl
 obtain⟨l,ds,d,x,rfl,hl,hx,hD,q⟩:=h
 refine⟨_,(pss_one (ps_ret (pe_ix (ix_listK K) (pv 0) pe_int (fun _ _=>rfl)))),?_⟩
 subst hx
 obtain⟨c,rfl⟩:=hD.ielet
 exact⟨_,rfl,l,_,_,_,rfl,rfl,SqL.of hl,rfl,q0 q⟩
end
abbrev sOfUpto:Stmt:=top 37
theorem scsOfUpto:FnScope ["depths"] ["depths"] (defScope sOfUpto):=⟨rfl,rfl,rfl,by decide +kernel,rfl,by decide +kernel,by decide +kernel⟩
section
variable {P:Program}{w:World}{K:PySem.W.Frag}{mg:Str→Option Value}{base:Heap}{f:Addr}{fd:FuncData}
theorem ok_of_upto (F:FnP K "of_upto" sOfUpto f fd) {t0 t1:Tok}(m_NO_DEPTH:mg "NO_DEPTH" = some (.int (-1) t0)) (m_MOST_DEPTH:mg "MOST_DEPTH" = some (.int 3 t1)):FnOk P w K mg base CX0 1 f fd ["depths"] (spOf (·=.upto)):=by
 have sc:=scsOfUpto
 refine F.ok sc (fun vs H Q E h => ?_) (fun cdv A outer s H vs Q E hr h => ?_)
 ·obtain⟨l,ds,d,x,rfl,_⟩:=h
  rfl
 obtain⟨l,ds,d,x,rfl,hl,hx,hD,q⟩:=h
 refine⟨_,(pss_one (ps_ret (pe_ifExp (pt_cmpR (op_eqDK K hr.units) (pv 0) (pe_lst (pa_cons pe_int pa_nil)) (nomark _)) pe_int (pe_gI rfl m_NO_DEPTH)))),?_⟩
 subst hx
 obtain⟨rfl,rfl⟩:=hD.iupto
 refine⟨_,rfl,by show 1≤sizeLine; decide,fun p hp => ?_⟩
 refine⟨.list [.int 0],.list [.int 0],.lst (SqL.of (same_new hp _ _ _ hl)) (.cons (.int _) .nil),.lst (SqL.of upd_same) (.cons (.int _) .nil),by rfl,by rfl,_,rfl,?_⟩
 refine ite2 (fun _ => ?_) (fun z=>absurd rfl z)
 exact q _ (same_new hp _)
end
abbrev sOfLen:Stmt:=top 39
theorem scsOfLen:FnScope ["depths"] ["depths"] (defScope sOfLen):=⟨rfl,rfl,rfl,by decide +kernel,rfl,by decide +kernel,by decide +kernel⟩
section
variable {P:Program}{w:World}{K:PySem.W.Frag}{mg:Str→Option Value}{base:Heap}{f:Addr}{fd:FuncData}
theorem ok_of_len (F:FnP K "of_len" sOfLen f fd) {t0 t1:Tok}(m_NO_DEPTH:mg "NO_DEPTH" = some (.int (-1) t0)) (m_MOST_DEPTH:mg "MOST_DEPTH" = some (.int 3 t1)):FnOk P w K mg base CX0 1 f fd ["depths"] (spOf (·=.len)):=by
 have sc:=scsOfLen
 refine F.ok sc (fun vs H Q E h => ?_) (fun cdv A outer s H vs Q E hr h => ?_)
 ·obtain⟨l,ds,d,x,rfl,_⟩:=h
  rfl
 obtain⟨l,ds,d,x,rfl,hl,hx,hD,q⟩:=h
 refine⟨_,(pss_one (ps_ret (pe_ifExp (pt_cmpR op_ge (pe_ix (ix_listK K) (pv 0) pe_int (fun _ _=>rfl)) pe_int (nomark _)) pe_int (pe_gI rfl m_NO_DEPTH)))),?_⟩
 subst hx
 obtain⟨c,rfl,rfl⟩:=hD.ilen
 refine⟨_,rfl,l,_,_,_,rfl,rfl,SqL.of hl,rfl,_,_,rfl,rfl,_,rfl,?_⟩
 refine ite2 (fun _ => ?_) (fun z=>absurd (decide_eq_true (by omega)) z)
 exact q0 q
end
abbrev sOfSum:Stmt:=top 41
theorem scsOfSum:FnScope ["depths"] ["depths"] (defScope sOfSum):=⟨rfl,rfl,rfl,by decide +kernel,rfl,by decide +kernel,by decide +kernel⟩
section
variable {P:Program}{w:World}{K:PySem.W.Frag}{mg:Str→Option Value}{base:Heap}{f:Addr}{fd:FuncData}
theorem ok_of_sum (F:FnP K "of_sum" sOfSum f fd) {t0 t1:Tok}(m_NO_DEPTH:mg "NO_DEPTH" = some (.int (-1) t0)) (m_MOST_DEPTH:mg "MOST_DEPTH" = some (.int 3 t1)):FnOk P w K mg base CX0 1 f fd ["depths"] (spOf (·=.sum)):=by
 have sc:=scsOfSum
 refine F.ok sc (fun vs H Q E h => ?_) (fun cdv A outer s H vs Q E hr h => ?_)
 ·obtain⟨l,ds,d,x,rfl,_⟩:=h
  rfl
 obtain⟨l,ds,d,x,rfl,hl,hx,hD,q⟩:=h
 refine⟨_,(pss_one (ps_ret (pe_ifExp (pt_cmpR (op_eqDK K hr.units) (pv 0) (pe_lst (pa_cons pe_int pa_nil)) (nomark _)) pe_int (pe_gI rfl m_NO_DEPTH)))),?_⟩
 subst hx
 obtain⟨rfl,rfl⟩:=hD.isum
 refine⟨_,rfl,by show 1≤sizeLine; decide,fun p hp => ?_⟩
 refine⟨.list [.int 1],.list [.int 1],.lst (SqL.of (same_new hp _ _ _ hl)) (.cons (.int _) .nil),.lst (SqL.of upd_same) (.cons (.int _) .nil),by rfl,by rfl,_,rfl,?_⟩
 refine ite2 (fun _ => ?_) (fun z=>absurd rfl z)
 exact q _ (same_new hp _)
end
abbrev sOfSums:Stmt:=top 43
theorem scsOfSums:FnScope ["depths"] ["depths"] (defScope sOfSums):=⟨rfl,rfl,rfl,by decide +kernel,rfl,by decide +kernel,by decide +kernel⟩
section
variable {P:Program}{w:World}{K:PySem.W.Frag}{mg:Str→Option Value}{base:Heap}{f:Addr}{fd:FuncData}
theorem ok_of_sums (F:FnP K "of_sums" sOfSums f fd) {t0 t1:Tok}(m_NO_DEPTH:mg "NO_DEPTH" = some (.int (-1) t0)) (m_MOST_DEPTH:mg "MOST_DEPTH" = some (.int 3 t1)):FnOk P w K mg base CX0 1 f fd ["depths"] (spOf (·=.sums)):=by
 have sc:=scsOfSums
 refine F.ok sc (fun vs H Q E h => ?_) (fun cdv A outer s H vs Q E hr h => ?_)
 ·obtain⟨l,ds,d,x,rfl,_⟩:=h
  rfl
 obtain⟨l,ds,d,x,rfl,hl,hx,hD,q⟩:=h
 refine⟨_,(pss_one (ps_ret (pe_ifExp (pt_cmpR (op_eqDK K hr.units) (pv 0) (pe_lst (pa_cons pe_int pa_nil)) (nomark _)) pe_int (pe_gI rfl m_NO_DEPTH)))),?_⟩
 subst hx
 obtain⟨rfl,rfl⟩:=hD.isums
 refine⟨_,rfl,by show 1≤sizeLine; decide,fun p hp => ?_⟩
 refine⟨.list [.int 1],.list [.int 1],.lst (SqL.of (same_new hp _ _ _ hl)) (.cons (.int _) .nil),.lst (SqL.of upd_same) (.cons (.int _) .nil),by rfl,by rfl,_,rfl,?_⟩
 refine ite2 (fun _ => ?_) (fun z=>absurd rfl z)
 exact q _ (same_new hp _)
end
abbrev sOfOne:Stmt:=top 45
theorem scsOfOne:FnScope ["depths"] ["depths"] (defScope sOfOne):=⟨rfl,rfl,rfl,by decide +kernel,rfl,by decide +kernel,by decide +kernel⟩
section
variable {P:Program}{w:World}{K:PySem.W.Frag}{mg:Str→Option Value}{base:Heap}{f:Addr}{fd:FuncData}
theorem ok_of_one (F:FnP K "of_one" sOfOne f fd) {t0 t1:Tok}(m_NO_DEPTH:mg "NO_DEPTH" = some (.int (-1) t0)) (m_MOST_DEPTH:mg "MOST_DEPTH" = some (.int 3 t1)):FnOk P w K mg base CX0 1 f fd ["depths"] (spOf (·=.one)):=by
 have sc:=scsOfOne
 refine F.ok sc (fun vs H Q E h => ?_) (fun cdv A outer s H vs Q E hr h => ?_)
 ·obtain⟨l,ds,d,x,rfl,_⟩:=h
  rfl
 obtain⟨l,ds,d,x,rfl,hl,hx,hD,q⟩:=h
 refine⟨_,(pss_one (ps_ret (pe_ifExp (pt_cmpR op_lt (pe_ix (ix_listK K) (pv 0) pe_int (fun _ _=>rfl)) (pe_gI rfl m_MOST_DEPTH) (nomark _)) (pe_op op_add (pe_ix (ix_listK K) (pv 0) pe_int (fun _ _=>rfl)) pe_int) (pe_gI rfl m_NO_DEPTH)))),?_⟩
 subst hx
 obtain⟨c,rfl,rfl,hc⟩:=hD.ione
 refine⟨_,rfl,l,_,_,_,rfl,rfl,SqL.of hl,rfl,_,_,rfl,rfl,_,rfl,?_⟩
 refine ite2 (fun _ => ?_) (fun z=>absurd (decide_eq_true (by omega)) z)
 refine⟨_,rfl,l,_,_,_,rfl,rfl,SqL.of hl,rfl,_,_,rfl,rfl,?_⟩
 exact q0 q
end
abbrev sOfPick:Stmt:=top 47
theorem scsOfPick:FnScope ["depths", "row", "number"] ["depths"] (defScope sOfPick):=⟨rfl,rfl,rfl,by decide +kernel,rfl,by decide +kernel,by decide +kernel⟩
section
variable {P:Program}{w:World}{K:PySem.W.Frag}{mg:Str→Option Value}{base:Heap}{f:Addr}{fd:FuncData}
theorem ok_of_pick (F:FnP K "of_pick" sOfPick f fd) {t0 t1:Tok}(m_NO_DEPTH:mg "NO_DEPTH" = some (.int (-1) t0)) (m_MOST_DEPTH:mg "MOST_DEPTH" = some (.int 3 t1)):FnOk P w K mg base CX0 1 f fd ["depths"] (spOf (·=.pick)):=by
 have sc:=scsOfPick
 refine F.ok sc (fun vs H Q E h => ?_) (fun cdv A outer s H vs Q E hr h => ?_)
 ·obtain⟨l,ds,d,x,rfl,_⟩:=h
  rfl
 obtain⟨l,ds,d,x,rfl,hl,hx,hD,q⟩:=h
 refine⟨_,(pss_cons (ps_asg (pv 0) (pg_lstK K (n:=2) rfl (pgs_cons (pg_name (i:=1) sc.nd rfl (.inl rfl)) (pgs_cons (pg_name (i:=2) sc.nd rfl (.inl rfl)) pgs_nil))))
  (pss_one (ps_ret (pe_ifExp (PW.pt (pw_and (pt_cmpR op_ge (pv 1) pe_int (nomark _)) (pw_and1 (pt_cmpR op_eq (pv 2) pe_int (nomark _))))) (pe_op op_sub (pv 1) pe_int) (pe_gI rfl m_NO_DEPTH))))),?_⟩
 subst hx
 obtain rfl:=hD.ipick
 refine⟨_,rfl,l,_,rfl,SqL.of hl,rfl,_,_,rfl,_,_,rfl,rfl,?_⟩
 refine⟨_,rfl,_,_,rfl,rfl,_,rfl,?_⟩
 refine ite2 (fun _ => ?_) (fun z=>absurd (decide_eq_true (by omega)) z)
 refine⟨_,rfl,rfl,_,rfl,?_⟩
 refine ite2 (fun _ => ?_) (fun z=>absurd rfl z)
 refine⟨_,rfl,_,_,rfl,rfl,?_⟩
 have e:(((d+1:Nat):Int) - 1)=(d:Int):=by omega
 show Q (V.int (((d+1:Nat):Int) - 1)) _
 rw [e]
 exact q0 q
end
abbrev sOfPut:Stmt:=top 49
theorem scsOfPut:FnScope ["depths", "first", "second"] ["depths"] (defScope sOfPut):=⟨rfl,rfl,rfl,by decide +kernel,rfl,by decide +kernel,by decide +kernel⟩
section
variable {P:Program}{w:World}{K:PySem.W.Frag}{mg:Str→Option Value}{base:Heap}{f:Addr}{fd:FuncData}
theorem ok_of_put (F:FnP K "of_put" sOfPut f fd) {t0 t1:Tok}(m_NO_DEPTH:mg "NO_DEPTH" = some (.int (-1) t0)) (m_MOST_DEPTH:mg "MOST_DEPTH" = some (.int 3 t1)):FnOk P w K mg base CX0 1 f fd ["depths"] (spOf (·=.put)):=by
 have sc:=scsOfPut
 refine F.ok sc (fun vs H Q E h => ?_) (fun cdv A outer s H vs Q E hr h => ?_)
 ·obtain⟨l,ds,d,x,rfl,_⟩:=h
  rfl
 obtain⟨l,ds,d,x,rfl,hl,hx,hD,q⟩:=h
 refine⟨_,(pss_cons (ps_asg (pv 0) (pg_lstK K (n:=2) rfl (pgs_cons (pg_name (i:=1) sc.nd rfl (.inl rfl)) (pgs_cons (pg_name (i:=2) sc.nd rfl (.inl rfl)) pgs_nil))))
  (pss_one (ps_ret (pe_ifExp (PW.pt (pw_and (pt_cmpR op_ge (pv 1) pe_int (nomark _)) (pw_and1 (pt_cmpR op_eq (pv 1) (pv 2) (nomark _))))) (pv 1) (pe_gI rfl m_NO_DEPTH))))),?_⟩
 subst hx
 obtain⟨c,rfl,rfl⟩:=hD.iput
 refine⟨_,rfl,l,_,rfl,SqL.of hl,rfl,_,_,rfl,_,_,rfl,rfl,?_⟩
 refine⟨_,rfl,_,_,rfl,rfl,_,rfl,?_⟩
 refine ite2 (fun _ => ?_) (fun z=>absurd (decide_eq_true (by omega)) z)
 refine⟨_,rfl,_,rfl,rfl,_,rfl,?_⟩
 refine ite2 (fun _ => ?_) (fun z=>absurd (decide_eq_true rfl) z)
 exact⟨_,rfl,q0 q⟩
end
abbrev sOfFlat:Stmt:=top 51
theorem scsOfFlat:FnScope ["depths"] ["depths"] (defScope sOfFlat):=⟨rfl,rfl,rfl,by decide +kernel,rfl,by decide +kernel,by decide +kernel⟩
section
variable {P:Program}{w:World}{K:PySem.W.Frag}{mg:Str→Option Value}{base:Heap}{f:Addr}{fd:FuncData}
theorem ok_of_flat (F:FnP K "of_flat" sOfFlat f fd) {t0 t1:Tok}(m_NO_DEPTH:mg "NO_DEPTH" = some (.int (-1) t0)) (m_MOST_DEPTH:mg "MOST_DEPTH" = some (.int 3 t1)):FnOk P w K mg base CX0 1 f fd ["depths"] (spOf (·=.flat)):=by
 have sc:=scsOfFlat
 refine F.ok sc (fun vs H Q E h => ?_) (fun cdv A outer s H vs Q E hr h => ?_)
 ·obtain⟨l,ds,d,x,rfl,_⟩:=h
  rfl
 obtain⟨l,ds,d,x,rfl,hl,hx,hD,q⟩:=h
 refine⟨_,(pss_one (ps_ret (pe_ifExp (pt_cmpR op_ge (pe_ix (ix_listK K) (pv 0) pe_int (fun _ _=>rfl)) pe_int (nomark _)) (pe_op op_sub (pe_ix (ix_listK K) (pv 0) pe_int (fun _ _=>rfl)) pe_int) (pe_gI rfl m_NO_DEPTH)))),?_⟩
 subst hx
 obtain⟨c,rfl,rfl⟩:=hD.iflat
 refine⟨_,rfl,l,_,_,_,rfl,rfl,SqL.of hl,rfl,_,_,rfl,rfl,_,rfl,?_⟩
 refine ite2 (fun _ => ?_) (fun z=>absurd (decide_eq_true (by omega)) z)
 refine⟨_,rfl,l,_,_,_,rfl,rfl,SqL.of hl,rfl,_,_,rfl,rfl,?_⟩
 have e:(((c+2:Nat):Int) - 1)=((c+1:Nat):Int):=by omega
 show Q (V.int (((c+2:Nat):Int) - 1)) _
 rw [e]
 exact q0 q
end
abbrev sOfEach:Stmt:=top 53
theorem scsOfEach:FnScope ["depths"] ["depths"] (defScope sOfEach):=⟨rfl,rfl,rfl,by decide +kernel,rfl,by decide +kernel,by decide +kernel⟩
section
variable {P:Program}{w:World}{K:PySem.W.Frag}{mg:Str→Option Value}{base:Heap}{f:Addr}{fd:FuncData}
theorem ok_of_each (F:FnP K "of_each" sOfEach f fd) {t0 t1:Tok}(m_NO_DEPTH:mg "NO_DEPTH" = some (.int (-1) t0)) (m_MOST_DEPTH:mg "MOST_DEPTH" = some (.int 3 t1)):FnOk P w K mg base CX0 1 f fd ["depths"] (spOf (·=.each)):=by
 have sc:=scsOfEach
 refine F.ok sc (fun vs H Q E h => ?_) (fun cdv A outer s H vs Q E hr h => ?_)
 ·obtain⟨l,ds,d,x,rfl,_⟩:=h
  rfl
 obtain⟨l,ds,d,x,rfl,hl,hx,hD,q⟩:=h
 refine⟨_,(pss_one (ps_ret (pe_ifExp (pt_cmpR op_lt (pe_ix (ix_listK K) (pv 0) pe_int (fun _ _=>rfl)) (pe_gI rfl m_MOST_DEPTH) (nomark _)) (pe_op op_add (pe_ix (ix_listK K) (pv 0) pe_int (fun _ _=>rfl)) pe_int) (pe_gI rfl m_NO_DEPTH)))),?_⟩
 subst hx
 obtain⟨b,c,rfl,rfl,hc⟩:=hD.ieach
 refine⟨_,rfl,l,_,_,_,rfl,rfl,SqL.of hl,rfl,_,_,rfl,rfl,_,rfl,?_⟩
 refine ite2 (fun _ => ?_) (fun z=>absurd (decide_eq_true (by omega)) z)
 refine⟨_,rfl,l,_,_,_,rfl,rfl,SqL.of hl,rfl,_,_,rfl,rfl,?_⟩
 exact q0 q
end
abbrev sOfWhere:Stmt:=top 54
theorem scsOfWhere:FnScope ["depths"] ["depths"] (defScope sOfWhere):=⟨rfl,rfl,rfl,by decide +kernel,rfl,by decide +kernel,by decide +kernel⟩
section
variable {P:Program}{w:World}{K:PySem.W.Frag}{mg:Str→Option Value}{base:Heap}{f:Addr}{fd:FuncData}
theorem ok_of_where (F:FnP K "of_where" sOfWhere f fd) {t0 t1:Tok}(m_NO_DEPTH:mg "NO_DEPTH" = some (.int (-1) t0)) (m_MOST_DEPTH:mg "MOST_DEPTH" = some (.int 3 t1)):FnOk P w K mg base CX0 1 f fd ["depths"] (spOf (·=.whr)):=by
 have sc:=scsOfWhere
 refine F.ok sc (fun vs H Q E h => ?_) (fun cdv A outer s H vs Q E hr h => ?_)
 ·obtain⟨l,ds,d,x,rfl,_⟩:=h
  rfl
 obtain⟨l,ds,d,x,rfl,hl,hx,hD,q⟩:=h
 refine⟨_,(pss_one (ps_ret (pe_ifExp (pt_cmpR op_eq (pe_ix (ix_listK K) (pv 0) pe_int (fun _ _=>rfl)) pe_int (nomark _)) (pe_ix (ix_listK K) (pv 0) pe_int (fun _ _=>rfl)) (pe_gI rfl m_NO_DEPTH)))),?_⟩
 subst hx
 obtain⟨b,rfl,rfl⟩:=hD.iwhr
 refine⟨_,rfl,l,_,_,_,rfl,rfl,SqL.of hl,rfl,rfl,_,rfl,?_⟩
 refine ite2 (fun _ => ?_) (fun z=>absurd rfl z)
 exact⟨_,rfl,l,_,_,_,rfl,rfl,SqL.of hl,rfl,q0 q⟩
end
def spShape (K:PySem.W.Frag):Sp:=fun vs H Q _=>∃ (v:V) (x:W) (n:Int) (ps:List Ex),vs=[v]∧TIn H v (.node x n ps)∧ShOk x n ps.length∧Q (.bl true) H
theorem isCallN (x:W):(!decide (V.str x.str=V.str "call")) = !decide (x.lay=2):=by rw [isCall]
abbrev sHasShape:Stmt:=top 67
theorem scsHasShape:FnScope ["expression", "word"] ["expression"] (defScope sHasShape):=⟨rfl,rfl,rfl,by decide +kernel,rfl,by decide +kernel,by decide +kernel⟩
section
variable {P:Program}{w:World}{K:PySem.W.Frag}{mg:Str→Option Value}{base:Heap}{f:Addr}{fd:FuncData}
theorem ok_shape (F:FnP K "has_shape" sHasShape f fd) {aN aL:Addr}(m_NUMBERED:mg "NUMBERED" = some (.ref aN)) (hN:∀ H,SqT K H aN numW) (m_LENGTHS:mg "LENGTHS" = some (.ref aL)) (T_LENGTHS:Tbl K w aL gLen)
  (O_is_number:Okf P w K mg base CX0 1 "is_number" ["value", "last"] spIsNum) (O_last_number:Okf P w K mg base CX0 1 "last_number" ["word"] spLast)
  (z_isinstance:mg "isinstance" = none) (z_tuple:mg "tuple" = none) (z_len:mg "len" = none) (z_str:mg "str" = none):FnOk P w K mg base CX0 2 f fd ["expression"] (spShape K):=by
 have sc:=scsHasShape
 refine F.ok sc (fun vs H Q E h => ?_) (fun cdv A outer s H vs Q E hr h => ?_)
 ·obtain⟨v,x,n,ps,rfl,_⟩:=h
  rfl
 obtain⟨v,x,n,ps,rfl,ti,sh,q⟩:=h
 obtain⟨a,xs,rfl,ha,hl,h1,h2,h3,h4⟩:=ti.hd sh
 refine⟨_,(pss_cons (ps_if (PW.pt (pw_or (pt_not (pt_val (pe_callB (call_isiK K) rfl z_isinstance (by decide +kernel) (pa_cons (pv 0) (pa_cons (pe_bltn (v:=.ty "tuple") rfl z_tuple (by decide +kernel) rfl) pa_nil))))) (pw_or1 (pt_cmpR op_eq (pe_callB (call_lenK K) rfl z_len PySem.boot_len (pa_cons (pv 0) pa_nil)) pe_int (nomark _))))) (pss_one (ps_ret pe_bl)) pss_nil)
  (pss_cons (ps_set (i:=1) sc.nd rfl (.inl rfl) (pe_ix (ix_tupK K) (pv 0) pe_int (fun _ _=>rfl)))
  (pss_cons (ps_if (PW.pt (pw_or (pt_not (pt_val (pe_callB (call_isiK K) rfl z_isinstance (by decide +kernel) (pa_cons (pv 1) (pa_cons (pe_bltn (v:=.ty "str") rfl z_str (by decide +kernel) rfl) pa_nil))))) (pw_or (pt_cmpR (op_notInTbl T_LENGTHS) (pv 1) (pe_gR rfl m_LENGTHS) (by rfl)) (pw_or1 (pt_cmpR op_ne (pe_callB (call_lenK K) rfl z_len PySem.boot_len (pa_cons (pv 0) pa_nil)) (pe_ix (ix_tbl T_LENGTHS) (pe_gR rfl m_LENGTHS) (pv 1) (fun _ _=>rfl)) (nomark _)))))) (pss_one (ps_ret pe_bl)) pss_nil)
  (pss_cons (ps_if (PW.pt (pw_and (pt_cmpR (op_inK K) (pv 1) (pe_gR rfl m_NUMBERED) (by rfl)) (pw_and1 (pt_not (pt_val (pe_c O_is_number hr rfl pass0 (pa_cons (pe_ix (ix_tupK K) (pv 0) pe_int (fun _ _=>rfl)) (pa_cons (pe_c O_last_number hr rfl pass0 (pa_cons (pv 1) pa_nil)) pa_nil)))))))) (pss_one (ps_ret pe_bl)) pss_nil)
  (pss_one (ps_ret (pe_or (pe_cmpR op_ne (pv 1) pe_str (nomark _)) (pe_one (pe_callB (call_isiK K) rfl z_isinstance (by decide +kernel) (pa_cons (pe_ix (ix_tupK K) (pv 0) pe_int (fun _ _=>rfl)) (pa_cons (pe_bltn (v:=.ty "tuple") rfl z_tuple (by decide +kernel) rfl) pa_nil))))))))))),?_⟩
 refine⟨_,rfl,_,_,_,_,_,rfl,.ty _,.base (.tup ha),kit_ty (r:=true) (by decide +kernel),_,rfl,?_⟩
 refine ite2 (fun z=>nomatch z) (fun _ => ?_)
 refine⟨_,rfl,a,_,rfl,.inr (SqT.of ha),rfl,_,rfl,?_⟩
 refine ite2 (fun z => ?_) (fun _ => ?_)
 ·have z1:V.int ((V.str x.str::xs).length:Int)=V.int 0:=of_decide_eq_true z
  injection z1 with z1
  rw [List.length_cons] at z1
  omega
 refine⟨_,rfl,a,_,_,.str x.str,rfl,rfl,SqT.of ha,at0,?_⟩
 refine⟨_,rfl,_,_,_,_,_,rfl,.ty _,.base (.str _),kit_ty (r:=true) (by decide +kernel),_,rfl,?_⟩
 refine ite2 (fun z=>nomatch z) (fun _ => ?_)
 refine⟨_,rfl,x,_,rfl,rfl,rfl,_,rfl,?_⟩
 refine ite2 (fun z=>nomatch z) (fun _ => ?_)
 refine⟨_,rfl,a,_,rfl,.inr (SqT.of ha),_,rfl,x,_,rfl,rfl,rfl,rfl,_,rfl,?_⟩
 have e0:decide (V.int ((V.str x.str::xs).length:Int)=V.int (lenOf x:Int))=true:=decide_eq_true (by rw [List.length_cons,hl])
 refine ite2 (fun z => ?_) (fun _ => ?_)
 ·rw [e0] at z
  cases z
 dsimp only [tNext]
 refine if_rest (fun H'=>H'=H) (fun H' e => ?_) (fun rest => ?_)
 ·subst e
  refine⟨_,rfl,rfl,_,rfl,?_⟩
  rw [isCallN x]
  refine ite2 (fun c => ?_) (fun c => ?_)
  ·exact q
  ·have c2:x.lay=2:=by
    cases h:decide (x.lay=2) with
    | true=>exact of_decide_eq_true h
    | false=>rw [h] at c; exact absurd rfl c
   obtain⟨b,zs,rfl,hb,hz⟩:=h3 c2
   exact⟨_,rfl,a,_,_,_,rfl,rfl,SqT.of ha,rfl,_,_,_,_,_,rfl,.ty _,.base (.tup hb),kit_ty (r:=true) (by decide +kernel),q⟩
 ·refine⟨_,rfl,aN,_,rfl,.inr (hN _),rfl,flatNum,_,rfl,?_⟩
  rw [show inV (.str x.str) numW=x.numd from inNum x]
  refine ite2 (fun c => ?_) (fun c => ?_)
  ·obtain⟨ys,rfl⟩:=h1 c
   obtain⟨n0,n1⟩:=sh.n0 c
   refine⟨_,rfl,a,_,_,_,rfl,rfl,SqT.of ha,at1,_,rfl,x,rfl,c,n,lastOf x,rfl,_,rfl,?_⟩
   rw [decide_eq_true n0,decide_eq_true n1]
   exact ite2 (fun z=>nomatch z) (fun _=>rest H rfl)
  ·exact ite2 (fun z=>nomatch z) (fun _=>rest H rfl)
end
def Rls (P:Program) (w:World) (K:PySem.W.Frag) (mg:Str→Option Value) (base:Heap) (k:Nat) (g:W→Option V):Prop:=∀ (x:W) (ds:List Nat) (d:Nat),Dep x ds d→∃ (fa:Addr) (fd:FuncData) (S:W→Prop),g x=some (.ref fa)∧FnOk P w K mg base CX0 k fa fd ["depths"] (spOf S)∧S x∧PySem.W.keepIn K (.ref fa)=true∧Binds K fd ["depths"] []
def spDepth:Sp:=fun vs H Q _=>∃ (l:Addr) (ds:List Nat) (d:Nat) (x:W),vs=[.str x.str,.ref l]∧H l=some (.lst (ds.map dV))∧Dep x ds d∧∀ H',Same H H'→Q (dV d) H'
abbrev sDepthOf:Stmt:=top 56
theorem scsDepthOf:FnScope ["word", "depths", "rule"] ["word", "depths"] (defScope sDepthOf):=⟨rfl,rfl,rfl,by decide +kernel,rfl,by decide +kernel,by decide +kernel⟩
section
variable {P:Program}{w:World}{K:PySem.W.Frag}{mg:Str→Option Value}{base:Heap}{f:Addr}{fd:FuncData}
theorem ok_depth (F:FnP K "depth_of" sDepthOf f fd) {aR:Addr}{g:W→Option V}(m_RULES:mg "RULES" = some (.ref aR)) (T_RULES:Tbl K w aR g) (rl:Rls P w K mg base 1 g):FnOk P w K mg base CX0 2 f fd ["word", "depths"] spDepth:=by
 have sc:=scsDepthOf
 refine F.ok sc (fun vs H Q E h => ?_) (fun cdv A outer s H vs Q E hr h => ?_)
 ·obtain⟨l,ds,d,x,rfl,_⟩:=h
  rfl
 obtain⟨l,ds,d,x,rfl,hl,hD,q⟩:=h
 obtain⟨fa,fd',S,hg,Fr,hS,kr,br⟩:=rl x ds d hD
 refine⟨_,(pss_cons (ps_set (i:=2) sc.nd rfl (.inl rfl) (pe_ix (ix_tbl T_RULES) (pe_gR rfl m_RULES) (pv 0) (fun _ _=>rfl)))
  (pss_one (ps_ret (pe_callL (i:=2) Fr hr rfl (.inl rfl) kr br .nil pass0 (pa_cons (pv 1) pa_nil))))),?_⟩
 exact⟨_,rfl,x,_,rfl,rfl,hg,rfl,_,rfl,l,ds,d,x,rfl,hl,hS,hD,q⟩
end
def W.bl:W→Bool
 | .ite | .elet | .each | .whr=>true
 | _=>false
def aheadOf (x:W) (ps:List Nd):List Nd:=if x.bl=true then ps.take 1 else ps
structure NdC (K:PySem.W.Frag) (C:Addr):Prop where
 cl:Cls K C
 word:NoAttr K C "word"
 function:NoAttr K C "function"
 place:NoAttr K C "place"
 number:NoAttr K C "number"
 parts:NoAttr K C "parts"
 depth:NoAttr K C "depth"
section
variable {P:Program}{w:World}{K:PySem.W.Frag}{mg:Str→Option Value}{base:Heap}{f:Addr}{fd:FuncData}
end
def spNode (C:Addr):Sp:=fun vs H Q _=>∃ (a dx l:Addr) (fn:Int) (x:W) (p:Nat) (n:Int) (d:Nat),vs=[.ref a,.str x.str,.int fn,.int (p:Int),.int n,.ref l,.int (d:Int)]∧H a=some (.ins C dx [])∧Q .non (upd H a (.ins C dx (ndF x fn p n l d)))
abbrev sNodeInit:Stmt:=inClass (top 71) 0
theorem scsNodeInit:FnScope ["self", "word", "function", "place", "number", "parts", "depth"] ["self", "word", "function", "place", "number", "parts", "depth"] (defScope sNodeInit):=⟨rfl,rfl,rfl,by decide +kernel,rfl,by decide +kernel,by decide +kernel⟩
section
variable {P:Program}{w:World}{K:PySem.W.Frag}{mg:Str→Option Value}{base:Heap}{f:Addr}{fd:FuncData}
theorem ok_node {C:Addr}(F:FnM K "__init__" "Node.__init__" sNodeInit f fd) (N:NdC K C):FnOk P w K mg base CX0 1 f fd ["self", "word", "function", "place", "number", "parts", "depth"] (spNode C):=by
 have sc:=scsNodeInit
 refine F.ok sc (fun vs H Q E h => ?_) (fun cdv A outer s H vs Q E hr h => ?_)
 ·obtain⟨a,dx,l,fn,x,p,n,d,rfl,_⟩:=h
  rfl
 obtain⟨a,dx,l,fn,x,p,n,d,rfl,ha,q⟩:=h
 refine⟨_,(pss_cons (ps_fldK K (pv 0) (pv 1) rfl)
  (pss_cons (ps_fldK K (pv 0) (pv 2) rfl)
  (pss_cons (ps_fldK K (pv 0) (pv 3) rfl)
  (pss_cons (ps_fldK K (pv 0) (pv 4) rfl)
  (pss_cons (ps_fldK K (pv 0) (pv 5) rfl)
  (pss_one (ps_fldK K (pv 0) (pv 6) rfl))))))),?_⟩
 refine⟨_,rfl,_,rfl,a,C,dx,_,rfl,ha,N.cl,N.word,by decide,?_⟩
 refine⟨_,rfl,_,rfl,a,C,dx,_,rfl,upd_same,N.cl,N.function,by show 1 < 1000; decide,?_⟩
 rw [upd_upd]
 refine⟨_,rfl,_,rfl,a,C,dx,_,rfl,upd_same,N.cl,N.place,by show 2 < 1000; decide,?_⟩
 rw [upd_upd]
 refine⟨_,rfl,_,rfl,a,C,dx,_,rfl,upd_same,N.cl,N.number,by show 3 < 1000; decide,?_⟩
 rw [upd_upd]
 refine⟨_,rfl,_,rfl,a,C,dx,_,rfl,upd_same,N.cl,N.parts,by show 4 < 1000; decide,?_⟩
 rw [upd_upd]
 refine⟨_,rfl,_,rfl,a,C,dx,_,rfl,upd_same,N.cl,N.depth,by show 5 < 1000; decide,?_⟩
 rw [upd_upd]
 exact q
end
structure Nm (H:Hp) (a:Addr) (ρ:Env1):Prop where
 ex:∃ kn:List (Int×Nat),H a=some (.dK (kn.map kvOf))∧(kn.map (·.1)).Nodup∧(∀ p∈kn,0≤p.1∧p.1≤19)∧∀ x d,ρ x=some d→(x,d)∈kn
theorem Nm.keep {H H':Hp}{a:Addr}{ρ:Env1}(n:Nm H a ρ) (k:∀ o,H a=some o→H' a=some o):Nm H' a ρ:=by
 obtain⟨kn,h,r⟩:=n.ex
 exact⟨kn,k _ h,r⟩
theorem few20 {kn:List (Int×Nat)} (nd:(kn.map (·.1)).Nodup) (lo:∀ p∈kn,0≤p.1∧p.1≤19):kn.length≤20:=by
 have:=NR.few 20 (kn.map (·.1)) nd fun x hx=>by
  obtain⟨p,hp,rfl⟩:=List.mem_map.mp hx
  have:=lo p hp
  omega
 rw [List.length_map] at this
 exact this
theorem put_nm {l:List (Int×Nat)} {ρ:Env1}{x:Int}{d:Nat}(nd:(l.map (·.1)).Nodup) (lo:∀ p∈l,0≤p.1∧p.1≤19) (ok:∀ x d,ρ x=some d→(x,d)∈l) (x0:0≤x) (x1:x≤19) :
  ∃ l':List (Int×Nat),putK (l.map kvOf) (Sum.inl x) (dV d)=l'.map kvOf∧(l'.map (·.1)).Nodup∧(∀ p∈l',0≤p.1∧p.1≤19)∧∀ y e,ups ρ x d y=some e→(y,e)∈l':=by
 unfold putK
 by_cases h:((l.map kvOf).any fun kv=>decide (kv.1=Sum.inl x))=true
 ·rw [if_pos h]
  have hx:∃ p∈l,p.1=x:=by
   obtain⟨kv,h1,h2⟩:=List.any_eq_true.mp h
   obtain⟨p,hp,rfl⟩:=List.mem_map.mp h1
   exact⟨p,hp,by simpa [kvOf] using h2⟩
  refine⟨l.map fun p=>if p.1=x then (p.1,d) else p,?_,?_,?_,?_⟩
  ·rw [List.map_map,List.map_map]
   refine List.map_congr_left fun p _ => ?_
   show (if (Sum.inl p.1:Key)=Sum.inl x then ((Sum.inl p.1:Key),dV d) else (Sum.inl p.1,V.int (p.2:Int)))=kvOf (if p.1=x then (p.1,d) else p)
   by_cases e:p.1=x
   ·rw [if_pos (by rw [e]),if_pos e]
    rfl
   ·rw [if_neg (by simpa using e),if_neg e]
    rfl
  ·have e:((l.map fun p=>if p.1=x then (p.1,d) else p).map (·.1))=l.map (·.1):=by
    rw [List.map_map]
    refine List.map_congr_left fun p _ => ?_
    show (if p.1=x then (p.1,d) else p).1=p.1
    split <;> rfl
   rw [e]
   exact nd
  ·intro p hp
   obtain⟨q,hq,rfl⟩:=List.mem_map.mp hp
   have:=lo q hq
   split <;> exact this
  ·intro y e hy
   unfold ups at hy
   by_cases c:y=x
   ·rw [if_pos c] at hy
    cases hy
    obtain⟨p,hp,e⟩:=hx
    exact List.mem_map.mpr ⟨p,hp,by rw [if_pos e,e,c]⟩
   ·rw [if_neg c] at hy
    exact List.mem_map.mpr ⟨(y,e),ok y e hy,if_neg c⟩
 ·rw [if_neg h]
  have hn:∀ p∈l,p.1≠x:=fun p hp e=>h (List.any_eq_true.mpr ⟨kvOf p,List.mem_map.mpr ⟨p,hp,rfl⟩,by
   show decide ((Sum.inl p.1:Key)=Sum.inl x)=true
   rw [e]
   simp⟩)
  refine⟨l++[(x,d)],by rw [List.map_append]; rfl,?_,?_,?_⟩
  ·rw [List.map_append]
   refine List.nodup_append.mpr ⟨nd,by simp,fun a ha b hb => ?_⟩
   obtain⟨p,hp,rfl⟩:=List.mem_map.mp ha
   simp only [List.map_cons,List.map_nil,List.mem_singleton] at hb
   rw [hb]
   exact hn p hp
  ·intro p hp
   rcases List.mem_append.mp hp with hp | hp
   ·exact lo p hp
   ·rw [List.mem_singleton.mp hp]
    exact⟨x0,x1⟩
  ·intro y e hy
   unfold ups at hy
   by_cases c:y=x
   ·rw [if_pos c] at hy
    cases hy
    rw [c]
    exact List.mem_append_right _ (List.mem_cons_self ..)
   ·rw [if_neg c] at hy
    exact List.mem_append_left _ (ok y e hy)
def lkF (kn:Addr) (fn:Int) (p:Nat) (b:Bool):List (Str×V):=[("known", .ref kn),("function", .int fn),("looked_at", .int (p:Int)),("calls_itself", .bl b)]
theorem lkF_known {kn fn p b}:(lkF kn fn p b).lookup ("known" : Str)=some (.ref kn):=by rfl
theorem lkF_function {kn fn p b}:(lkF kn fn p b).lookup ("function" : Str)=some (.int fn):=by rfl
theorem lkF_at {kn fn p b}:(lkF kn fn p b).lookup ("looked_at" : Str)=some (.int (p:Int)):=by rfl
theorem lkF_self {kn fn p b}:(lkF kn fn p b).lookup ("calls_itself" : Str)=some (.bl b):=by rfl
theorem lkF_no {kn fn p b}{m:Str}(h:(m == "known")=false∧(m == "function")=false∧(m == "looked_at")=false∧(m == "calls_itself")=false):(lkF kn fn p b).lookup m=none:=by
 obtain⟨h1,h2,h3,h4⟩:=h
 simp only [lkF,List.lookup_cons,h1,h2,h3,h4,List.lookup_nil]
structure LkC (K:PySem.W.Frag) (C:Addr):Prop where
 cl:Cls K C
 known:NoAttr K C "known"
 function:NoAttr K C "function"
 looked:NoAttr K C "looked_at"
 self:NoAttr K C "calls_itself"
def spLook (C:Addr):Sp:=fun vs H Q _=>∃ (a dx kn:Addr) (fn:Int),vs=[.ref a,.ref kn,.int fn]∧H a=some (.ins C dx [])∧Q .non (upd H a (.ins C dx (lkF kn fn 0 false)))
abbrev sLookInit:Stmt:=inClass (top 74) 0
theorem scsLookInit:FnScope ["self", "known", "function"] ["self", "known", "function"] (defScope sLookInit):=⟨rfl,rfl,rfl,by decide +kernel,rfl,by decide +kernel,by decide +kernel⟩
section
variable {P:Program}{w:World}{K:PySem.W.Frag}{mg:Str→Option Value}{base:Heap}{f:Addr}{fd:FuncData}
theorem ok_look {C:Addr}(F:FnM K "__init__" "Look.__init__" sLookInit f fd) (N:LkC K C):FnOk P w K mg base CX0 1 f fd ["self", "known", "function"] (spLook C):=by
 have sc:=scsLookInit
 refine F.ok sc (fun vs H Q E h => ?_) (fun cdv A outer s H vs Q E hr h => ?_)
 ·obtain⟨a,dx,kn,fn,rfl,_⟩:=h
  rfl
 obtain⟨a,dx,kn,fn,rfl,ha,q⟩:=h
 refine⟨_,(pss_cons (ps_fldK K (pv 0) (pv 1) rfl)
  (pss_cons (ps_fldK K (pv 0) (pv 2) rfl)
  (pss_cons (ps_fldK K (pv 0) pe_int rfl)
  (pss_one (ps_fldK K (pv 0) pe_bl rfl))))),?_⟩
 refine⟨_,rfl,_,rfl,a,C,dx,_,rfl,ha,N.cl,N.known,by decide,?_⟩
 refine⟨_,rfl,_,rfl,a,C,dx,_,rfl,upd_same,N.cl,N.function,by show 1 < 1000; decide,?_⟩
 rw [upd_upd]
 refine⟨_,rfl,a,C,dx,_,rfl,upd_same,N.cl,N.looked,by show 2 < 1000; decide,?_⟩
 rw [upd_upd]
 refine⟨_,rfl,a,C,dx,_,rfl,upd_same,N.cl,N.self,by show 3 < 1000; decide,?_⟩
 rw [upd_upd]
 exact q
end
def spRefuse:Sp:=fun vs H Q _=>∃ (a u v:V),vs=[a,.bl false,u,v]∧Q .non H
abbrev sLookRefuseIf:Stmt:=inClass (top 74) 1
theorem scsLookRefuseIf:FnScope ["self", "wrong", "place", "word"] ["self", "wrong", "place", "word"] (defScope sLookRefuseIf):=⟨rfl,rfl,rfl,by decide +kernel,rfl,by decide +kernel,by decide +kernel⟩
section
variable {P:Program}{w:World}{K:PySem.W.Frag}{mg:Str→Option Value}{base:Heap}{f:Addr}{fd:FuncData}
theorem ok_refuse (F:FnM K "refuse_if" "Look.refuse_if" sLookRefuseIf f fd):FnOk P w K mg base CX0 1 f fd ["self", "wrong", "place", "word"] spRefuse:=by
 have sc:=scsLookRefuseIf
 refine F.ok sc (fun vs H Q E h => ?_) (fun cdv A outer s H vs Q E hr h => ?_)
 ·obtain⟨a,u,v,rfl,_⟩:=h
  rfl
 obtain⟨a,u,v,rfl,q⟩:=h
 refine⟨_,(pss_one (ps_if (pt_val (pv 1)) (pss_one ps_never) pss_nil)),?_⟩
 exact⟨_,rfl,_,rfl,ite2 (fun z=>nomatch z) (fun _=>q)⟩
end
def spMay (K:PySem.W.Frag) (C:Addr):Sp:=fun vs H Q _=>∃ (a dx kn:Addr) (fn k p:Nat) (b:Bool) (xs:List V) (fs:List (List Nat×Nat)) (ds:List Nat) (d:Nat),vs=[.ref a,.int (k:Int),.int (ds.length:Int)]∧H a=some (.ins C dx (lkF kn fn p b))∧H kn=some (.lst xs)∧FIns H xs fs∧fs[k]? = some (ds,d)∧k≤fn∧(k=fn→b=false) ∧
 ∀ H',SameX a H H'→H' a=some (.ins C dx (lkF kn fn p (b || decide (k=fn))))→Q (.bl true) H'
abbrev sLookMayCall:Stmt:=inClass (top 74) 3
theorem scsLookMayCall:FnScope ["self", "called", "many"] ["self", "called", "many"] (defScope sLookMayCall):=⟨rfl,rfl,rfl,by decide +kernel,rfl,by decide +kernel,by decide +kernel⟩
section
variable {P:Program}{w:World}{K:PySem.W.Frag}{mg:Str→Option Value}{base:Heap}{f:Addr}{fd:FuncData}
theorem ok_may {C:Addr}(F:FnM K "may_call" "Look.may_call" sLookMayCall f fd) (N:LkC K C) (z_len:mg "len" = none):FnOk P w K mg base CX0 1 f fd ["self", "called", "many"] (spMay K C):=by
 have sc:=scsLookMayCall
 refine F.ok sc (fun vs H Q E h => ?_) (fun cdv A outer s H vs Q E hr h => ?_)
 ·obtain⟨a,dx,kn,fn,k,p,b,xs,fs,ds,d,rfl,_⟩:=h
  rfl
 obtain⟨a,dx,kn,fn,k,p,b,xs,fs,ds,d,rfl,ha,hk,hf,hfk,hle,hb,q⟩:=h
 refine⟨_,(pss_cons (ps_if (pt_cmpR op_gt (pv 1) (pe_fldK K (pv 0) rfl) (nomark _)) (pss_one (ps_ret pe_bl)) pss_nil)
  (pss_cons (ps_if (PW.pt (pw_and (pt_cmpR op_eq (pv 1) (pe_fldK K (pv 0) rfl) (nomark _)) (pw_and1 (pt_val (pe_fldK K (pv 0) rfl))))) (pss_one (ps_ret pe_bl)) pss_nil)
  (pss_cons (ps_if (pt_cmpR op_eq (pv 1) (pe_fldK K (pv 0) rfl) (nomark _)) (pss_one (ps_fldK K (pv 0) pe_bl rfl)) pss_nil)
  (pss_one (ps_ret (pe_cmpR op_eq (pv 2) (pe_callB (call_lenK K) rfl z_len PySem.boot_len (pa_cons (pe_ix (ix_tupK K) (pe_ix (ix_listK K) (pe_fldK K (pv 0) rfl) (pv 1) (fun _ _=>rfl)) pe_int (fun _ _=>rfl)) pa_nil)) (nomark _))))))),?_⟩
 have fin:∀ H',SameX a H H'→H' a=some (.ins C dx (lkF kn fn p (b || decide (k=fn))))→∃ v,(L2.start ["self", "called", "many"] [V.ref a,.int (k:Int),.int (ds.length:Int)])[2]? = some (some v)∧∃ u,(L2.start ["self", "called", "many"] [V.ref a,.int (k:Int),.int (ds.length:Int)])[0]? = some (some u)∧True:=fun _ _ _=>⟨_,rfl,_,rfl,trivial⟩
 refine⟨_,rfl,_,rfl,a,C,dx,_,_,rfl,ha,N.cl,N.function,lkF_function,_,_,rfl,rfl,_,rfl,?_⟩
 refine ite2 (fun z=>absurd (of_decide_eq_true z) (by omega)) (fun _ => ?_)
 dsimp only [tNext]
 refine if_rest (fun H'=>H'=H) (fun H1 e => ?_) (fun rest => ?_)
 ·subst e
  refine if_rest (fun H'=>SameX a H1 H'∧H' a=some (.ins C dx (lkF kn fn p (b || decide (k=fn))))) (fun H' e => ?_) (fun rest => ?_)
  ·obtain⟨s1,h1⟩:=e
   have nk:kn≠a:=ne_of hk ha (by intro z; cases z)
   obtain⟨t,bb,g1,g2,g3⟩:=hf.get k hfk
   have tk:TK H1 H':=fun y zs hy=>s1 _ _ (ne_of hy ha (by intro z; cases z)) hy
   refine⟨_,rfl,_,rfl,a,C,dx,_,_,rfl,h1,N.cl,N.known,lkF_known,_,rfl,kn,xs,_,_,rfl,rfl,SqL.of (s1 _ _ nk hk),atI_nat g1,t,_,_,_,rfl,rfl,SqT.of (tk _ _ g2),rfl,bb,_,rfl,.inr (SqT.of (tk _ _ g3)),rfl,?_⟩
   have e2:decide (V.int (ds.length:Int)=V.int ((ds.map dV).length:Int))=true:=decide_eq_true (by rw [List.length_map])
   show Q (.bl (decide (V.int (ds.length:Int)=V.int ((ds.map dV).length:Int)))) H'
   rw [e2]
   exact q _ s1 h1
  ·refine⟨_,rfl,_,rfl,a,C,dx,_,_,rfl,ha,N.cl,N.function,lkF_function,rfl,_,rfl,?_⟩
   refine ite2 (fun z => ?_) (fun z => ?_)
   ·have z1:k=fn:=by
     have:=of_decide_eq_true z
     injection this with this
     omega
    refine⟨_,rfl,a,C,dx,_,rfl,ha,N.cl,N.self,by show 4 < 1000; decide,rest _ ⟨.upd,?_⟩⟩
    rw [upd_same,decide_eq_true z1,Bool.or_true]
    rfl
   ·have z1:¬ k=fn:=fun e=>z (decide_eq_true (by rw [e]))
    refine rest _ ⟨.refl _ _,?_⟩
    rw [decide_eq_false z1,Bool.or_false]
    exact ha
 ·refine⟨_,rfl,_,rfl,a,C,dx,_,_,rfl,ha,N.cl,N.function,lkF_function,rfl,_,rfl,?_⟩
  refine ite2 (fun z => ?_) (fun z=>ite2 (fun y=>nomatch y) (fun _=>rest _ rfl))
  have z1:k=fn:=by
   have:=of_decide_eq_true z
   injection this with this
   omega
  refine⟨_,rfl,a,C,dx,_,_,rfl,ha,N.cl,N.self,lkF_self,_,rfl,?_⟩
  rw [hb z1]
  exact ite2 (fun y=>nomatch y) (fun _=>rest _ rfl)
end
theorem NdIns.get {H:Hp}{G:Addr→Prop}{C:Addr}{fn:Int}:∀ {vs:List V}{es:List Nd}(_:NdIns H G C fn vs es) (i:Nat) {v:V},vs[i]? = some v→∃ e,es[i]? = some e∧NdIn H G C fn v e
 | _,_,.nil,i,_,h=>by simp at h
 | _,_,.cons h1 _,0,_,h=>by
  cases h
  exact⟨_,rfl,h1⟩
 | _,_,.cons _ r,i+1,v,h=>r.get i h
theorem mapdV (ds:List Nat):ds.map dV=(ds.map nI).map V.int:=by
 rw [List.map_map]
 rfl
inductive DT (fs:List (List Nat×Nat)) (ρ:Env1):W→Int→List Nd→Nat→Prop
 | name {x:Int}{d:Nat}:ρ x=some d→DT fs ρ .name x [] d
 | call {k:Nat}{nps:List Nd}{ds:List Nat}{d:Nat}:fs[k]? = some (ds,d)→nps.map Nd.d=ds→DT fs ρ .call (k:Int) nps d
 | dep {x:W}{n:Int}{nps:List Nd}{d:Nat}:x≠.name→x≠.call→Dep x (nps.map Nd.d) d→DT fs ρ x n nps d
def spTold (K:PySem.W.Frag) (C CN:Addr):Sp:=fun vs H Q _=>∃ (a dx kn nm l:Addr) (fn:Int) (p:Nat) (b:Bool) (xs us:List V) (fs:List (List Nat×Nat)) (ρ:Env1) (x:W) (n:Int) (nps:List Nd) (d:Nat),vs=[.ref a,.str x.str,.int n,.ref l,.ref nm]∧H a=some (.ins C dx (lkF kn fn p b))∧H kn=some (.lst xs)∧FIns H xs fs∧H l=some (.lst us)∧NdIns H NT CN fn us nps∧us.length≤100∧Nm H nm ρ∧DT fs ρ x n nps d∧∀ H',Same H H'→Q (dV d) H'
theorem isName (x:W):decide (V.str x.str=V.str "name")=decide (x=.name):=by cases x <;> decide +kernel
theorem isCall2 (x:W):decide (V.str x.str=V.str "call")=decide (x=.call):=by cases x <;> decide +kernel
abbrev sLookDepthTold:Stmt:=inClass (top 74) 5
theorem scsLookDepthTold:FnScope ["self", "word", "number", "parts", "names", "depths", "wanted", "depth", "part"] ["self", "word", "number", "parts", "names"] (defScope sLookDepthTold):=⟨rfl,rfl,rfl,by decide +kernel,rfl,by decide +kernel,by decide +kernel⟩
section
variable {P:Program}{w:World}{K:PySem.W.Frag}{mg:Str→Option Value}{base:Heap}{f:Addr}{fd:FuncData}
theorem ok_told {C CN:Addr}(F:FnM K "depth_told" "Look.depth_told" sLookDepthTold f fd) (N:LkC K C) (ND:NdC K CN) (O_depth_of:Okf P w K mg base CX0 2 "depth_of" ["word", "depths"] spDepth) {t0:Tok}(m_NO_DEPTH:mg "NO_DEPTH" = some (.int (-1) t0)) (z_list:mg "list" = none):FnOk P w K mg base CX0 3 f fd ["self", "word", "number", "parts", "names"] (spTold K C CN):=by
 have sc:=scsLookDepthTold
 refine F.ok sc (fun vs H Q E h => ?_) (fun cdv A outer s H vs Q E hr h => ?_)
 ·obtain⟨a,dx,kn,nm,l,fn,p,b,xs,us,fs,ρ,x,n,nps,d,rfl,_⟩:=h
  rfl
 have hu:=hu_of hr
 obtain⟨a,dx,kn,nm,l,fn,p,b,xs,us,fs,ρ,x,n,nps,d,rfl,ha,hk,hf,hl,hn,hlen,hm,dt,q⟩:=h
 refine⟨_,(pss_cons (ps_setLc (i:=5) (own:=[("part", 8)]) (by rfl) sc.nd rfl rfl (sw_true rfl rfl rfl (by decide +kernel)) (pi_listK K (pv 3)) (blkOk_by (own:=[("part", 8)]) (N:=["self", "word", "number", "parts", "names", "depths", "wanted", "depth", "part"]) (sc:=defScope sLookDepthTold) (by decide +kernel)) (fun _ _ _ _ _=>(pg_name (i:=8) sc.nd rfl (.inl rfl))) (fun _ _ _ _ _=>pts_nil) (fun _ _ _ _ _=>(pe_fldK K (pv 8) rfl)))
  (pss_cons (ps_if (pt_cmpR op_eq (pv 1) pe_str (nomark _)) (pss_one (ps_ret (pe_dget hu (pv 4) (pv 2) (fun _ _=>rfl)))) pss_nil)
  (pss_cons (ps_if (pt_cmpR op_eq (pv 1) pe_str (nomark _)) (pss_cons (ps_asg (pe_ix (ix_listK K) (pe_fldK K (pv 0) rfl) (pv 2) (fun _ _=>rfl)) (pg_tupK K (n:=2) rfl (pgs_cons (pg_name (i:=6) sc.nd rfl (.inl rfl)) (pgs_cons (pg_name (i:=7) sc.nd rfl (.inl rfl)) pgs_nil))))
  (pss_one (ps_ret (pe_ifExp (pt_cmpR (op_eqDK K hr.units) (pv 5) (pe_callTy (call_listK K) rfl z_list (by decide +kernel) (pa_cons (pv 6) pa_nil)) (nomark _)) (pv 7) (pe_gI rfl m_NO_DEPTH))))) pss_nil)
  (pss_one (ps_ret (pe_c O_depth_of hr rfl pass0 (pa_cons (pv 1) (pa_cons (pv 5) pa_nil)))))))),?_⟩
 refine⟨_,rfl,l,rfl,⟨_,SqL.of hl⟩,fun D hD => ?_⟩
 have hul:=hn.len
 refine lc_list (K:=K) (a:=l) (xs:=us) (fun i H'=>H'=upd H D (.lst ((nps.take i).map fun e=>dV e.d))) rfl ?_ ?_ ?_
 ·rintro i H' _ rfl
  exact (same_new hD _).seq (SqL.of hl)
 ·rintro i v H' hi rfl
  obtain⟨e,he,hin⟩:=hn.get i hi
  cases hin with
  | @mk ea edx el ew ep en eps ed evs _ _ h1 h2 h3 =>
  refine⟨rfl,?_⟩
  have hlt:i < nps.length:=(List.getElem?_eq_some_iff.mp he).1
  refine⟨_,rfl,ea,CN,edx,_,_,rfl,same_new hD _ _ _ h1,ND.cl,ND.depth,ndF_depth,_,upd_same,?_,?_⟩
  ·rw [List.length_map,List.length_take]
   exact small1000 (by omega)
  ·rw [upd_upd,List.take_add_one,he,List.map_append]
   rfl
 rintro H' rfl
 have e0:(nps.take us.length).map (fun e=>dV e.d)=(nps.map Nd.d).map dV:=by rw [hul,List.take_length,List.map_map]; rfl
 rw [e0]
 have s1:=same_new hD (.lst ((nps.map Nd.d).map dV))
 have eD:upd H D (.lst ((nps.map Nd.d).map dV)) D=some (.lst ((nps.map Nd.d).map dV)):=upd_same
 generalize upd H D (.lst ((nps.map Nd.d).map dV))=H1 at s1 eD ⊢
 dsimp only [gName]
 refine⟨_,rfl,rfl,_,rfl,?_⟩
 rw [isName x]
 refine ite2 (fun c => ?_) (fun c => ?_)
 ·have c':x=.name:=of_decide_eq_true c
  subst c'
  cases dt with
  | name h =>
   obtain⟨kl,g1,g2,g3,g4⟩:=hm.ex
   exact⟨_,rfl,_,rfl,nm,_,rfl,dget (s1 _ _ g1) (k:=Sum.inl n) (valV_kn g2 (g4 _ _ h)),q _ s1⟩
  | dep h _ _=>exact absurd rfl h
 ·have c':x≠.name:=fun z=>c (decide_eq_true z)
  dsimp only [tNext]
  refine⟨_,rfl,rfl,_,rfl,?_⟩
  rw [isCall2 x]
  refine ite2 (fun c => ?_) (fun c => ?_)
  ·have c2:x=.call:=of_decide_eq_true c
   subst c2
   cases dt with
   | @call k _ ds _ h h' =>
    obtain⟨t,bb,g1,g2,g3⟩:=hf.get k h
    refine⟨_,rfl,a,C,dx,_,_,rfl,s1 _ _ ha,N.cl,N.known,lkF_known,_,rfl,kn,xs,_,_,rfl,rfl,SqL.of (s1 _ _ hk),atI_nat g1,t,_,rfl,SqT.of (s1 _ _ g2),rfl,_,_,rfl,_,_,rfl,rfl,?_⟩
    refine⟨_,rfl,_,rfl,bb,_,rfl,.inr (SqT.of (s1 _ _ g3)),fun p0 hp0 => ?_⟩
    have s2:=same_new hp0 (.lst (ds.map dV))
    have e2:(nps.map Nd.d).map dV=(ds.map nI).map V.int:=by rw [h',mapdV]
    have e3:ds.map dV=(ds.map nI).map V.int:=mapdV ds
    refine⟨.list ((ds.map nI).map PyData.int),.list ((ds.map nI).map PyData.int),.lst (SqL.of (s2 _ _ eD)) (by rw [e2]; exact dpInts _),.lst (SqL.of upd_same) (by rw [e3]; exact dpInts _),shapedInts _,shapedInts _,_,rfl,?_⟩
    rw [SeqAt.eqv_refl (.list ((ds.map nI).map PyData.int)) (show PyData.canLayAll0 _=true from canInts _)]
    refine ite2 (fun _ => ?_) (fun z=>absurd rfl z)
    exact⟨_,rfl,q _ (s1.trans s2)⟩
   | dep _ h _=>exact absurd rfl h
  ·have c2:x≠.call:=fun z=>c (decide_eq_true z)
   cases dt with
   | name _=>exact absurd rfl c'
   | call _ _=>exact absurd rfl c2
   | dep _ _ h=>exact⟨_,rfl,_,rfl,D,_,d,x,rfl,eD,h,fun H2 s2=>q _ (s1.trans s2)⟩
end
structure LkIn (H:Hp) (C a dx kn:Addr) (fn:Nat) (p:Nat) (b:Bool) (fs:List (List Nat×Nat)):Prop where
 ha:H a=some (.ins C dx (lkF kn fn p b))
 ex:∃ xs,H kn=some (.lst xs)∧FIns H xs fs
theorem SameX.tkI {a:Addr}{H H':Hp}{C dx:Addr}{fs:List (Str×V)} (s:SameX a H H') (h:H a=some (.ins C dx fs)):TK H H':=fun b xs q=>s b _ (ne_of q h (by intro z; cases z)) q
theorem LkIn.keep {H H':Hp}{C a dx kn:Addr}{fn p p':Nat}{b b':Bool}{fs:List (List Nat×Nat)} (L:LkIn H C a dx kn fn p b fs) (s:SameX a H H') (h:H' a=some (.ins C dx (lkF kn fn p' b'))):LkIn H' C a dx kn fn p' b' fs:=by
 obtain⟨xs,h1,h2⟩:=L.ex
 exact⟨h,xs,s _ _ (ne_of h1 L.ha (by intro z; cases z)) h1,h2.mono (s.tkI L.ha)⟩
theorem LkIn.same {H H':Hp}{C a dx kn:Addr}{fn p:Nat}{b:Bool}{fs:List (List Nat×Nat)} (L:LkIn H C a dx kn fn p b fs) (s:Same H H'):LkIn H' C a dx kn fn p b fs:=L.keep (Same.toX s) (s _ _ L.ha)
theorem Nm.sameX {a m:Addr}{H H':Hp}{C dx:Addr}{fs:List (Str×V)} {ρ:Env1}(n:Nm H m ρ) (s:SameX a H H') (h:H a=some (.ins C dx fs)):Nm H' m ρ:=by
 obtain⟨kn,h1,r⟩:=n.ex
 exact⟨kn,s _ _ (ne_of h1 h (by intro z; cases z)) h1,r⟩
theorem Nm.same {m:Addr}{H H':Hp}{ρ:Env1}(n:Nm H m ρ) (s:Same H H'):Nm H' m ρ:=n.keep fun o h=>s _ _ h
theorem New.ne {H:Hp}{a b:Addr}{o:HO}(h:New H b) (ha:H a=some o):b≠a:=fun z=>by
 rw [New,z,ha] at h
 cases h
theorem Same.new {H H':Hp}(s:Same H H') {b:Addr}(h:New H' b):New H b:=s.free h
theorem SameX.new' {a:Addr}{H H':Hp}{o:HO}(s:SameX a H H') (ha:H a=some o) (ha':∃ o',H' a=some o') {b:Addr}(h:New H' b):New H b:=by
 cases e:H b with
 | none=>exact e
 | some u =>
  by_cases c:b=a
  ·obtain⟨o',h'⟩:=ha'
   rw [New,c,h'] at h
   cases h
  ·have:=s b u c e
   rw [New,this] at h
   cases h
def spNodeOf (C CN:Addr) (n:Nat):Sp:=fun vs H Q _=>∃ (a dx kn nm:Addr) (v:V) (fn p:Nat) (b:Bool) (wi:Nat) (fs:List (List Nat×Nat)) (ρ:Env1) (e:Ex) (nd:Nd),
 vs=[.ref a,v,.ref nm,.int (wi:Int)]∧LkIn H C a dx kn fn p b fs∧TIn H v e∧Nm H nm ρ∧An (fs.take (fn+1)) ρ p e nd∧e.hgt≤n∧p+e.size≤60∧wi+e.hgt≤13∧e.selfs fn+b.toNat≤1 ∧
 ∀ (H':Hp) (v':V),SameX a H H'→H' a=some (.ins C dx (lkF kn fn (p+e.size) (b || decide (0 < e.selfs fn))))→NdIn H' (New H) CN fn v' nd→Q v' H'
def spThat (C CN:Addr) (n:Nat):Sp:=fun vs H Q _=>∃ (a dx kn nm:Addr) (v pz:V) (fn p:Nat) (b:Bool) (wi:Nat) (fs:List (List Nat×Nat)) (ρ:Env1) (x:W) (k:Int) (e1 e2:Ex) (n1 n2:Nd),
 vs=[.ref a,v,pz,.ref nm,.int (wi:Int)]∧LkIn H C a dx kn fn (p+1) b fs∧TIn H v (.node x k [e1,e2])∧Nm H nm ρ∧x.lay=1∧0≤k∧k≤19∧An (fs.take (fn+1)) ρ (p+1) e1 n1∧x.off≤n1.d∧An (fs.take (fn+1)) (ups ρ k (n1.d - x.off)) (p+1+e1.size) e2 n2 ∧
 e1.hgt≤n∧e2.hgt≤n∧p+1+e1.size+e2.size≤60∧wi+1+e1.hgt≤13∧wi+1+e2.hgt≤13∧e1.selfs fn+e2.selfs fn+b.toNat≤1 ∧
 ∀ (H':Hp) (l:Addr) (vs':List V),SameX a H H'→H' a=some (.ins C dx (lkF kn fn (p+1+e1.size+e2.size) (b || decide (0 < e1.selfs fn+e2.selfs fn))))→H' l=some (.lst vs')→New H l→NdIns H' (New H) CN fn vs' [n1,n2]→Q (.ref l) H'
theorem orN (b:Bool) (k:Nat):(b || decide (0 < k)).toNat≤b.toNat+k:=by
 cases b
 ·by_cases h:0 < k
  ·simp [h]; omega
  ·simp [h]
 ·simp
theorem orOr (b:Bool) (j k:Nat):((b || decide (0 < j)) || decide (0 < k))=(b || decide (0 < j+k)):=by
 cases b
 ·by_cases h:0 < j
  ·simp [h]; omega
  ·have e:j=0:=by omega
   simp [e]
 ·simp
theorem isLetN {x:W}(h:x.lay=1):(!decide (V.str x.str=V.str "let"))=decide (x.off=1):=by revert h; cases x <;> simp [W.lay] <;> decide +kernel
theorem offOr {x:W}(h:x.lay=1):x.off=0∨x.off=1:=by cases x <;> simp [W.off]
abbrev sLookPartsThatName:Stmt:=inClass (top 74) 4
theorem scsLookPartsThatName:FnScope ["self", "expression", "place", "names", "within", "word", "name", "named", "body", "first", "depth", "second"] ["self", "expression", "place", "names", "within"] (defScope sLookPartsThatName):=⟨rfl,rfl,rfl,by decide +kernel,rfl,by decide +kernel,by decide +kernel⟩
section
variable {P:Program}{w:World}{K:PySem.W.Frag}{mg:Str→Option Value}{base:Heap}{f:Addr}{fd:FuncData}
theorem ok_that {n k:Nat}{C CN:Addr}(F:FnM K "parts_that_name" "Look.parts_that_name" sLookPartsThatName f fd) (ND:NdC K CN) (M_refuse_if:Okm P w K mg base CX0 k C "refuse_if" ["self", "wrong", "place", "word"] spRefuse)
  (M_node_of:Okm P w K mg base CX0 k C "node_of" ["self", "expression", "names", "within"] (spNodeOf C CN n)):FnOk P w K mg base CX0 (k+1) f fd ["self", "expression", "place", "names", "within"] (spThat C CN n):=by
 have sc:=scsLookPartsThatName
 refine F.ok sc (fun vs H Q E h => ?_) (fun cdv A outer s H vs Q E hr h => ?_)
 ·obtain⟨a,dx,kn,nm,v,pz,fn,p,b,wi,fs,ρ,x,k,e1,e2,n1,n2,rfl,_⟩:=h
  rfl
 have hu:=hu_of hr
 obtain⟨a,dx,kn,nm,v,pz,fn,p,b,wi,fs,ρ,x,kk,e1,e2,n1,n2,rfl,L,ti,hm,hx,k0,k1,a1,ho,a2,hh1,hh2,hz,hw1,hw2,hs,q⟩:=h
 cases ti with
 | call _ _ _=>cases hx
 | bare h0 _ _=>rw [hx] at h0; cases h0
 | @bind ta _ _ txs _ _ h1 h2 =>
 cases h2 with
 | @cons v1 _ _ _ t1 r1 =>
 cases r1 with
 | @cons v2 _ _ _ t2 r2 =>
 cases r2
 refine⟨_,(pss_cons (ps_asg (pv 1) (pg_tupK K (n:=4) rfl (pgs_cons (pg_name (i:=5) sc.nd rfl (.inl rfl)) (pgs_cons (pg_name (i:=6) sc.nd rfl (.inl rfl)) (pgs_cons (pg_name (i:=7) sc.nd rfl (.inl rfl)) (pgs_cons (pg_name (i:=8) sc.nd rfl (.inl rfl)) pgs_nil))))))
  (pss_cons (ps_set (i:=9) sc.nd rfl (.inl rfl) (pe_m M_node_of (pv 0) hr pass0 (pa_cons (pv 7) (pa_cons (pv 3) (pa_cons (pe_op op_add (pv 4) pe_int) pa_nil)))))
  (pss_cons (ps_set (i:=10) sc.nd rfl (.inl rfl) (pe_fldK K (pv 9) rfl))
  (pss_cons (ps_if (pt_cmpR op_ne (pv 5) pe_str (nomark _)) (pss_cons (ps_expr (pe_m M_refuse_if (pv 0) hr pass0 (pa_cons (pe_cmpR op_eq (pv 10) pe_int (nomark _)) (pa_cons (pv 2) (pa_cons pe_str pa_nil)))))
  (pss_one (ps_aug (i:=10) sc.nd rfl (.inl rfl) pe_int ip_sub))) pss_nil)
  (pss_cons (ps_set (i:=11) sc.nd rfl (.inl rfl) (pe_m M_node_of (pv 0) hr pass0 (pa_cons (pv 8) (pa_cons (pe_dstar (pv 3) (pv 6) (pv 10)) (pa_cons (pe_op op_add (pv 4) pe_int) pa_nil)))))
  (pss_one (ps_ret (pe_lst (pa_cons (pv 9) (pa_cons (pv 11) pa_nil)))))))))),?_⟩
 refine⟨_,rfl,ta,_,rfl,SqT.of h1,rfl,_,_,rfl,_,_,rfl,_,_,rfl,_,_,rfl,rfl,?_⟩
 refine⟨_,rfl,a,dx,_,rfl,L.ha,lkF_no (by decide +kernel),_,rfl,_,rfl,_,rfl,_,_,rfl,rfl,a,dx,kn,nm,v1,fn,p+1,b,wi+1,fs,ρ,e1,n1,rfl,L,t1,hm,a1,hh1,by omega,by omega,by omega,fun H1 u1 s1 g1 nd1 => ?_⟩
 have tk1:TK H H1:=s1.tkI L.ha
 have L1:=L.keep s1 g1
 have hm1:=hm.sameX s1 L.ha
 have hd1:∃ ea edx efs,u1=.ref ea∧H1 ea=some (.ins CN edx efs)∧efs.lookup ("depth" : Str)=some (.int (n1.d:Int)):=by
  cases nd1 with
  | mk _ _ i1 i2 i3=>exact⟨_,_,_,rfl,i1,ndF_depth⟩
 obtain⟨ea,edx,efs,rfl,i1,i2⟩:=hd1
 refine⟨_,rfl,ea,CN,edx,_,_,rfl,i1,ND.cl,ND.depth,i2,?_⟩
 dsimp only [gName]
 refine if_restS (fun σ' H'=>∃ pz',σ'=[some (.ref a),some (.ref ta),some pz,some (.ref nm),some (.int (wi:Int)),some (.str x.str),some (.int kk),some v1,some v2,some (.ref ea),some (.int ((n1.d - x.off:Nat):Int)),pz']∧H'=H1) (fun σ' H' e => ?_) (fun rest => ?_)
 ·obtain⟨pz',rfl,rfl⟩:=e
  refine⟨_,rfl,a,dx,_,rfl,g1,lkF_no (by decide +kernel),_,rfl,fun p0 hp0 => ?_⟩
  obtain⟨kl,j1,j2,j3,j4⟩:=hm1.ex
  have npm:nm≠p0:=ne_of_none j1 hp0
  have hf20:=few20 j2 j3
  refine⟨_,rfl,nm,_,rfl,npm,by rw [upd_ne npm]; exact j1,upd_same,by rw [List.length_map]; omega,fun q0 hq0 => ?_⟩
  rw [upd_upd] at hq0 ⊢
  have npq:p0≠q0:=fun z=>by rw [z,upd_same] at hq0; cases hq0
  have hq1:H' q0=none:=by rw [upd_ne npq.symm] at hq0; exact hq0
  obtain⟨kl',m1,m2,m3,m4⟩:=put_nm (d:=n1.d - x.off) j2 j3 j4 k0 k1
  refine⟨_,rfl,_,rfl,by rw [upd_ne npq,upd_same],upd_same,npq,Sum.inl kk,rfl,?_⟩
  rw [show putK (kl.map kvOf) (Sum.inl kk) (V.int ((n1.d - x.off:Nat):Int))=kl'.map kvOf from m1]
  generalize eH2:upd (upd (upd (upd H' p0 (.dK (kl.map kvOf))) q0 (.dK [])) q0 (.dK [(Sum.inl kk,V.int ((n1.d - x.off:Nat):Int))])) p0 (.dK (kl'.map kvOf))=H2
  have s2:Same H' H2:=fun b o hb=>by
   have n1:=ne_of_none hb hp0
   have n2:=ne_of_none hb hq1
   rw [← eH2,upd_ne n1,upd_ne n2,upd_ne n2,upd_ne n1]
   exact hb
  have eq2:H2 p0=some (.dK (kl'.map kvOf)):=by rw [← eH2,upd_same]
  refine⟨_,rfl,_,_,rfl,rfl,a,dx,kn,p0,v2,fn,p+1+e1.size,b || decide (0 < e1.selfs fn),wi+1,fs,_,e2,n2,rfl,L1.same s2,(t2.mono tk1).mono (TK.of s2),⟨kl',eq2,m2,m3,m4⟩,a2,hh2,by omega,by omega,by have:=orN b (e1.selfs fn); omega,fun H3 u2 s3 g3 nd2 => ?_⟩
  refine⟨_,rfl,_,rfl,by show 2≤sizeLine; decide,fun l hl => ?_⟩
  have s4:=same_new hl (.lst [.ref ea,u2])
  have nn:∀ b,New H2 b→New H b:=fun b h=>s1.new' L.ha ⟨_,g1⟩ (Same.new s2 h)
  have nd1':NdIn H3 (New H) CN fn (.ref ea) n1:=(nd1.same s2).keep (fun _ h=>h) fun b' o' g' hb=>s3 _ _ (g'.ne L.ha) hb
  have nd2':NdIn H3 (New H) CN fn u2 n2:=nd2.keep nn fun _ _ _ h=>h
  have nl:New H l:=by
   have h2:New H2 l:=s3.new' (s2 _ _ g1) ⟨_,g3⟩ hl
   exact nn _ h2
  refine q _ l _ ((s1.trans (Same.toX s2)).trans (s3.trans (Same.toX s4))) (s4 _ _ ?_) upd_same nl (.cons (nd1'.same s4) (.cons (nd2'.same s4) .nil))
  rw [g3,orOr]
 ·refine⟨_,rfl,rfl,_,rfl,?_⟩
  rw [isLetN hx]
  refine ite2 (fun c => ?_) (fun c => ?_)
  ·have c1:x.off=1:=of_decide_eq_true c
   have e0:decide (V.int (n1.d:Int)=V.int 0)=false:=decide_eq_false fun z=>by
    injection z with z
    omega
   refine⟨_,rfl,a,dx,_,rfl,g1,lkF_no (by decide +kernel),_,rfl,rfl,_,rfl,.ref a,pz,.str "depth", by rw [e0]; rfl,?_⟩
   refine⟨_,rfl,_,_,rfl,rfl,rest _ _ ⟨none,?_,rfl⟩⟩
   rw [show ((n1.d - x.off:Nat):Int)=(n1.d:Int) - 1 by omega]
   rfl
  ·have c1:x.off=0:=by
    rcases offOr hx with h | h
    ·exact h
    ·exact absurd (decide_eq_true h) c
   refine rest _ _ ⟨none,?_,rfl⟩
   rw [c1]
   rfl
end
theorem Dep.ar {x:W}{ds:List Nat}{d:Nat}(h:Dep x ds d) (hx:x.lay=3):ds.length=x.ar:=by
 cases h with
 | two h=>rcases h with rfl | rfl | rfl | rfl | rfl <;> rfl
 | num=>cases hx
 | elet=>cases hx
 | each _=>cases hx
 | whr=>cases hx
 | _=>rfl
theorem Ans.len {fs:List (List Nat×Nat)}:∀ {ρ:Env1}{p:Nat}{es:List Ex}{nds:List Nd},Ans fs ρ p es nds→es.length=nds.length
 | _,_,_,_,.nil=>rfl
 | _,_,_,_,.cons _ r=>congrArg (·+1) r.len
structure AnI (fs:List (List Nat×Nat)) (ρ:Env1) (p:Nat) (x:W) (k:Int) (ps:List Ex) (nps:List Nd) (d:Nat):Prop where
 sh:ShOk x k ps.length
 dt:DT fs ρ x k nps d
 nm:x=.name→∃ d,ρ k=some d
 cl:x=.call→∃ (j:Nat) (ds:List Nat) (d:Nat),k=(j:Int)∧fs[j]? = some (ds,d)∧ps.length=ds.length
 pt:(x.lay=1∧∃ a b na nb,ps=[a,b]∧nps=[na,nb]∧0≤k∧k≤19∧An fs ρ (p+1) a na∧x.off≤na.d∧An fs (ups ρ k (na.d - x.off)) (p+1+a.size) b nb)∨(x.lay≠1∧Ans fs ρ (p+1) ps nps)
theorem An.inv {fs:List (List Nat×Nat)} {ρ:Env1}{p:Nat}{e:Ex}{nd:Nd}(h:An fs ρ p e nd):∃ x k ps nps d,e=.node x k ps∧nd=.node x p k nps d∧AnI fs ρ p x k ps nps d:=by
 cases h with
 | num h0 h1=>exact⟨_,_,_,_,_,rfl,rfl,⟨fun _=>⟨h0,h1⟩,fun z=>(by cases z),fun z=>(by cases z)⟩,.dep (by decide) (by decide) .num,fun z=>(by cases z),fun z=>(by cases z),.inr ⟨by decide,.nil⟩⟩
 | name h0 h1 h2 h3=>exact⟨_,_,_,_,_,rfl,rfl,⟨fun _=>⟨h0,h1⟩,fun z=>(by cases z),fun z=>(by cases z)⟩,.name h2,fun _=>⟨_,h2⟩,fun z=>(by cases z),.inr ⟨by decide,.nil⟩⟩
 | @bind _ _ w x a b na nb d hw h0 h1 ha ho hb hd =>
  have hl:lastOf w=19:=by revert hw; cases w <;> simp [W.lay] <;> rfl
  refine⟨_,_,_,_,_,rfl,rfl,⟨fun _=>⟨h0,by rw [hl]; exact h1⟩,fun _=>rfl,fun z=>(by omega)⟩,.dep (fun z=>(by rw [z] at hw; cases hw)) (fun z=>(by rw [z] at hw; cases hw)) hd,fun z=>(by rw [z] at hw; cases hw),fun z=>(by rw [z] at hw; cases hw),.inl ⟨hw,a,b,na,nb,rfl,rfl,h0,h1,ha,ho,hb⟩⟩
 | @call _ _ k ps nps ds d hk hf hp hd =>
  refine⟨_,_,_,_,_,rfl,rfl,⟨fun _=>⟨by omega,by show (k:Int)≤5; omega⟩,fun z=>(by cases z),fun z=>(by cases z)⟩,.call hf hd,fun z=>(by cases z),fun _=>⟨k,ds,d,rfl,hf,?_⟩,.inr ⟨by decide,hp⟩⟩
  rw [hp.len,← hd,List.length_map]
 | @bare _ _ w ps nps d hw hp hd =>
  refine⟨_,_,_,_,_,rfl,rfl,⟨fun z => ?_,fun z=>(by omega),fun z => ?_⟩,.dep (fun z=>(by rw [z] at hw; cases hw)) (fun z=>(by rw [z] at hw; cases hw)) hd,fun z=>(by rw [z] at hw; cases hw),fun z=>(by rw [z] at hw; cases hw),.inr ⟨by omega,hp⟩⟩
  ·unfold W.numd at z
   rw [hw] at z
   cases z
  ·have:=hd.ar hw
   rw [List.length_map] at this
   rw [hp.len,this]
theorem Ans.get {fs:List (List Nat×Nat)}:∀ {ρ:Env1}{p:Nat}{es:List Ex}{nds:List Nd}(_:Ans fs ρ p es nds) (i:Nat) {e:Ex},es[i]? = some e→∃ nd,nds[i]? = some nd∧An fs ρ (p+sizes (es.take i)) e nd
 | _,_,_,_,.nil,i,_,h=>by simp at h
 | _,p,_,_,.cons (e:=e0) ha _,0,_,h=>by
  cases h
  exact⟨_,rfl,ha⟩
 | _,p,_,_,.cons (e:=e0) ha r,i+1,e,h=>by
  obtain⟨nd,h1,h2⟩:=r.get i h
  refine⟨nd,h1,?_⟩
  rw [List.take_succ_cons,show sizes (e0::List.take i _)=e0.size+sizes (List.take i _) from rfl,← Nat.add_assoc]
  exact h2
theorem sizes_take:∀ (es:List Ex) (i:Nat) {e:Ex},es[i]? = some e→sizes (es.take (i+1))=sizes (es.take i)+e.size∧sizes (es.take (i+1))≤sizes es∧e.hgt≤hgts es
 | [],i,_,h=>by simp at h
 | a::es,0,_,h=>by
  cases h
  simp only [List.take_succ_cons,List.take_zero,sizes,hgts]
  omega
 | a::es,i+1,e,h=>by
  obtain⟨h1,h2,h3⟩:=sizes_take es i h
  rw [List.take_succ_cons,List.take_succ_cons]
  simp only [sizes,hgts]
  omega
theorem selfss_take (k:Int):∀ (es:List Ex) (i:Nat) {e:Ex},es[i]? = some e→selfss k (es.take (i+1))=selfss k (es.take i)+e.selfs k∧selfss k (es.take (i+1))≤selfss k es
 | [],i,_,h=>by simp at h
 | a::es,0,_,h=>by
  cases h
  simp only [List.take_succ_cons,List.take_zero,selfss]
  omega
 | a::es,i+1,e,h=>by
  obtain⟨h1,h2⟩:=selfss_take k es i h
  rw [List.take_succ_cons,List.take_succ_cons]
  simp only [selfss]
  omega
def thatW:List V:=[.str "let", .str "each", .str "where"]
theorem inThat (x:W):inV (.str x.str) thatW=decide (x.lay=1):=by cases x <;> decide +kernel
abbrev sLookNodeOf:Stmt:=inClass (top 74) 2
theorem scsLookNodeOf:FnScope ["self", "expression", "names", "within", "place", "word", "number", "parts", "depth", "part"] ["self", "expression", "names", "within"] (defScope sLookNodeOf):=⟨rfl,rfl,rfl,by decide +kernel,rfl,by decide +kernel,by decide +kernel⟩
section
variable {P:Program}{w:World}{K:PySem.W.Frag}{mg:Str→Option Value}{base:Heap}{f:Addr}{fd:FuncData}
theorem ok_nodeof {n k:Nat}{C CN:Addr}(F:FnM K "node_of" "Look.node_of" sLookNodeOf f fd) (N:LkC K C) (ND:NdC K CN) (hk:3≤k) (M_refuse_if:Okm P w K mg base CX0 (k+1) C "refuse_if" ["self", "wrong", "place", "word"] spRefuse)
  (M_may_call:Okm P w K mg base CX0 (k+1) C "may_call" ["self", "called", "many"] (spMay K C)) (M_node_of:Okm P w K mg base CX0 (k+1) C "node_of" ["self", "expression", "names", "within"] (spNodeOf C CN n))
  (M_parts_that_name:Okm P w K mg base CX0 (k+1) C "parts_that_name" ["self", "expression", "place", "names", "within"] (spThat C CN n)) (M_depth_told:Okm P w K mg base CX0 (k+1) C "depth_told" ["self", "word", "number", "parts", "names"] (spTold K C CN))
  (C_Node:Okc P w K mg base CX0 k "Node" CN ["self", "word", "function", "place", "number", "parts", "depth"] (spNode CN)) (O_has_shape:Okf P w K mg base CX0 (k+1) "has_shape" ["expression"] (spShape K)) (O_number_of:Okf P w K mg base CX0 (k+1) "number_of" ["expression"] (spNumOf K)) (O_parts_of:Okf P w K mg base CX0 (k+1) "parts_of" ["expression"] (spPartsOf K))
  {t0 t1 t2:Tok}(m_LAST_PLACE:mg "LAST_PLACE" = some (.int 59 t0)) (m_MOST_WITHIN:mg "MOST_WITHIN" = some (.int 12 t1)) (m_NO_DEPTH:mg "NO_DEPTH" = some (.int (-1) t2)) (z_len:mg "len" = none):FnOk P w K mg base CX0 (k+2) f fd ["self", "expression", "names", "within"] (spNodeOf C CN (n+1)):=by
 have sc:=scsLookNodeOf
 refine F.ok sc (fun vs H Q E h => ?_) (fun cdv A outer s H vs Q E hr h => ?_)
 ·obtain⟨a,dx,kn,nm,v,fn,p,b,wi,fs,ρ,e,nd,rfl,_⟩:=h
  rfl
 have hu:=hu_of hr
 obtain⟨a,dx,kn,nm,v,fn,p,b,wi,fs,ρ,e,nd,rfl,L,ti,hm,an,hh,hz,hw,hs,q⟩:=h
 obtain⟨x,kk,ps,nps,d,rfl,rfl,I⟩:=an.inv
 have hsz:(Ex.node x kk ps).size=1+sizes ps:=rfl
 have hht:(Ex.node x kk ps).hgt=1+hgts ps:=rfl
 have hss:(Ex.node x kk ps).selfs fn=(if x=.call∧kk=fn then 1 else 0)+selfss fn ps:=rfl
 obtain⟨ta,txs,rfl,th,tl,t1',t2',t3,t4⟩:=ti.hd I.sh
 refine⟨_,(pss_cons (ps_set (i:=4) sc.nd rfl (.inl rfl) (pe_fldK K (pv 0) rfl))
  (pss_cons (ps_fldaug (pv 0) pe_int in_add)
  (pss_cons (ps_expr (pe_m M_refuse_if (pv 0) hr pass0 (pa_cons (pe_or (pe_cmpR op_gt (pv 4) (pe_gI rfl m_LAST_PLACE) (nomark _)) (pe_one (pe_cmpR op_gt (pv 3) (pe_gI rfl m_MOST_WITHIN) (nomark _)))) (pa_cons (pv 4) (pa_cons pe_str pa_nil)))))
  (pss_cons (ps_expr (pe_m M_refuse_if (pv 0) hr pass0 (pa_cons (pe_not (pe_c O_has_shape hr rfl pass0 (pa_cons (pv 1) pa_nil))) (pa_cons (pv 4) (pa_cons pe_str pa_nil)))))
  (pss_cons (ps_par (by rfl) sc.nd (i:=5) (j:=6) rfl rfl (by decide) rfl rfl (pa_cons (pe_ix (ix_tupK K) (pv 1) pe_int (fun _ _=>rfl)) (pa_cons (pe_c O_number_of hr rfl pass0 (pa_cons (pv 1) pa_nil)) pa_nil)) (by rfl))
  (pss_cons (ps_expr (pe_m M_refuse_if (pv 0) hr pass0 (pa_cons (pe_and (pe_cmpR op_eq (pv 5) pe_str (nomark _)) (pe_one (pe_cmp (pc_dnotin hu (pv 6) (pv 2))))) (pa_cons (pv 4) (pa_cons pe_str pa_nil)))))
  (pss_cons (ps_expr (pe_m M_refuse_if (pv 0) hr pass0 (pa_cons (pe_and (pe_cmpR op_eq (pv 5) pe_str (nomark _)) (pe_one (pe_not (pe_m M_may_call (pv 0) hr pass0 (pa_cons (pv 6) (pa_cons (pe_callB (call_lenK K) rfl z_len PySem.boot_len (pa_cons (pe_ix (ix_tupK K) (pv 1) pe_int (fun _ _=>rfl)) pa_nil)) pa_nil)))))) (pa_cons (pv 4) (pa_cons pe_str pa_nil)))))
  (pss_cons (ps_if (pt_cmpR (op_inK K) (pv 5) (pe_tup (pa_cons pe_str (pa_cons pe_str (pa_cons pe_str pa_nil)))) (by rfl)) (pss_one (ps_set (i:=7) sc.nd rfl (.inl rfl) (pe_m M_parts_that_name (pv 0) hr pass0 (pa_cons (pv 1) (pa_cons (pv 4) (pa_cons (pv 2) (pa_cons (pv 3) pa_nil))))))) (pss_one (ps_setLc (i:=7) (own:=[("part", 9)]) (by rfl) sc.nd rfl rfl (sw_true rfl rfl rfl (by decide +kernel)) (pi_listK K (pe_c O_parts_of hr rfl pass0 (pa_cons (pv 1) pa_nil))) (blkOk_by (own:=[("part", 9)]) (N:=["self", "expression", "names", "within", "place", "word", "number", "parts", "depth", "part"]) (sc:=defScope sLookNodeOf) (by decide +kernel)) (fun _ _ _ _ _=>(pg_name (i:=9) sc.nd rfl (.inl rfl))) (fun _ _ _ _ _=>pts_nil) (fun _ _ _ _ _=>(pe_m M_node_of (pv 0) hr pass0 (pa_cons (pv 9) (pa_cons (pv 2) (pa_cons (pe_op op_add (pv 3) pe_int) pa_nil))))))))
  (pss_cons (ps_set (i:=8) sc.nd rfl (.inl rfl) (pe_m M_depth_told (pv 0) hr pass0 (pa_cons (pv 5) (pa_cons (pv 6) (pa_cons (pv 7) (pa_cons (pv 2) pa_nil))))))
  (pss_cons (ps_expr (pe_m M_refuse_if (pv 0) hr pass0 (pa_cons (pe_cmpR op_eq (pv 8) (pe_gI rfl m_NO_DEPTH) (nomark _)) (pa_cons (pv 4) (pa_cons pe_str pa_nil)))))
  (pss_one (ps_ret (pe_mk C_Node hr rfl pass0 (pa_cons (pv 5) (pa_cons (pe_fldK K (pv 0) rfl) (pa_cons (pv 4) (pa_cons (pv 6) (pa_cons (pv 7) (pa_cons (pv 8) pa_nil))))))))))))))))))),?_⟩
 refine⟨_,rfl,a,C,dx,_,_,rfl,L.ha,N.cl,N.looked,lkF_at,?_⟩
 refine⟨_,rfl,a,C,dx,_,_,rfl,L.ha,N.cl,N.looked,lkF_at,_,_,rfl,rfl,dx,_,L.ha,by show 4 < 1000; decide,?_⟩
 have e1:putF "looked_at" (V.int ((p:Int)+1)) (lkF kn fn p b)=lkF kn fn (p+1) b:=rfl
 rw [e1]
 have s1:SameX a H (upd H a (.ins C dx (lkF kn fn (p+1) b))):=.upd
 have g1:upd H a (.ins C dx (lkF kn fn (p+1) b)) a=some (.ins C dx (lkF kn fn (p+1) b)):=upd_same
 generalize upd H a (.ins C dx (lkF kn fn (p+1) b))=H1 at s1 g1 ⊢
 have L1:=L.keep s1 g1
 have tk1:=s1.tkI L.ha
 have ti1:=ti.mono tk1
 have hm1:=hm.sameX s1 L.ha
 have th1:=tk1 _ _ th
 have c1:decide ((59:Int) < (p:Int))=false:=decide_eq_false (by omega)
 have c2:decide ((12:Int) < (wi:Int))=false:=decide_eq_false (by omega)
 refine⟨_,rfl,a,dx,_,rfl,g1,lkF_no (by decide +kernel),_,rfl,_,_,rfl,rfl,_,rfl,?_⟩
 refine ite2 (fun z=>absurd (of_decide_eq_true z) (by omega)) (fun _ => ?_)
 refine⟨_,rfl,_,_,rfl,rfl,_,rfl,.ref a,.int (p:Int),.str "size", by dsimp only; rw [c2]; rfl,?_⟩
 
 refine⟨_,rfl,a,dx,_,rfl,g1,lkF_no (by decide +kernel),_,rfl,.ref ta,x,kk,ps,rfl,ti1,I.sh,_,rfl,_,rfl,.ref a,.int (p:Int),.str "form", rfl,?_⟩
 
 refine⟨_,rfl,ta,_,_,.str x.str,rfl,rfl,SqT.of th1,at0,_,rfl,.ref ta,x,kk,ps,rfl,ti1,I.sh,_,_,rfl,?_⟩
 
 dsimp only
 refine seq_rest (fun H'=>H'=H1) (fun H1' e => ?_) (fun rest => ?_)
 ·subst e
  
  refine seq_rest (fun H'=>SameX a H1' H'∧H' a=some (.ins C dx (lkF kn fn (p+1) (b || decide (x=.call∧kk=fn))))) (fun H2 e => ?_) (fun rest => ?_)
  ·obtain⟨s2,g2⟩:=e
   have L2:=L1.keep s2 g2
   have tk2:=s2.tkI g1
   have ti2:=ti1.mono tk2
   have hm2:=hm1.sameX s2 g1
   have th2:=tk2 _ _ th1
   generalize eb:(b || decide (x=.call∧kk=(fn:Int)))=b2 at g2 L2
   have hb2:selfss fn ps+b2.toNat≤1:=by
    rw [hss] at hs
    rw [← eb]
    by_cases c:x=.call∧kk=(fn:Int)
    ·rw [if_pos c] at hs
     rw [decide_eq_true c,Bool.or_true,Bool.toNat_true]
     omega
    ·rw [if_neg c] at hs
     rw [decide_eq_false c,Bool.or_false]
     omega
   have hb3:(b2 || decide (0 < selfss fn ps))=(b || decide (0 < (Ex.node x kk ps).selfs fn)):=by
    rw [hss,← eb]
    by_cases c:x=.call∧kk=(fn:Int)
    ·rw [if_pos c,decide_eq_true c,decide_eq_true (show 0 < 1+selfss fn ps by omega),Bool.or_true,Bool.true_or]
    ·rw [if_neg c,decide_eq_false c,Bool.or_false,Nat.zero_add]
   refine if_restS (fun σ' H'=>∃ (l:Addr) (us:List V),σ'=[some (.ref a),some (.ref ta),some (.ref nm),some (.int (wi:Int)),some (.int (p:Int)),some (.str x.str),some (.int kk),some (.ref l),none,none]∧SameX a H2 H'∧H' a=some (.ins C dx (lkF kn fn (p+1+sizes ps) (b2 || decide (0 < selfss fn ps))))∧H' l=some (.lst us)∧New H2 l∧NdIns H' (New H2) CN fn us nps) (fun σ' H3 e => ?_) (fun rest => ?_)
   ·obtain⟨l,us,rfl,s3,g3,hl,nl,hn⟩:=e
    have nn:∀ b,New H2 b→New H b:=fun b h=>s1.new' L.ha ⟨_,g1⟩ (s2.new' g1 ⟨_,g2⟩ h)
    have L3:=L2.keep s3 g3
    have hm3:=hm2.sameX s3 g2
    obtain⟨xs,k1,k2⟩:=L3.ex
    have hul:us.length≤100:=by
     have h1:=hn.len
     have h2:=an.sz
     have h3:=nsizes_len nps
     have h4:(Nd.node x p kk nps d).size=1+nsizes nps:=rfl
     omega
    have dt':DT fs ρ x kk nps d:=by
     cases I.dt with
     | name h=>exact .name h
     | call h h'=>exact .call (by rw [List.getElem?_take] at h; split at h; exact h; cases h) h'
     | dep h1 h2 h3=>exact .dep h1 h2 h3
    refine⟨_,rfl,a,dx,_,rfl,g3,lkF_no (by decide +kernel),_,rfl,_,rfl,_,rfl,_,rfl,a,dx,kn,nm,l,fn,_,_,xs,us,fs,ρ,x,kk,nps,d,rfl,g3,k1,k2,hl,hn.any,hul,hm3,dt',fun H4 s4 => ?_⟩
    have g4:=s4 _ _ g3
    have c5:decide (V.int (d:Int)=V.int (-1))=false:=decide_eq_false fun z=>by
     injection z with z
     omega
    refine⟨_,rfl,a,dx,_,rfl,g4,lkF_no (by decide +kernel),_,rfl,rfl,_,rfl,.ref a,.int (p:Int),.str "depth", by rw [show decide (dV d=V.int (-1))=false from c5]; rfl,?_⟩
    refine⟨_,rfl,_,rfl,a,C,dx,_,_,rfl,g4,N.cl,N.function,lkF_function,_,rfl,_,rfl,_,rfl,_,rfl,fun o odx no nodx nox => ?_⟩
    refine⟨o,odx,l,fn,x,p,kk,d,rfl,upd_same,rfl,?_⟩
    rw [upd_upd]
    generalize eH5:upd (upd H4 odx (.own o)) o (.ins CN odx (ndF x fn p kk l d))=H5
    have s5:Same H4 H5:=fun b' o' hb=>by
     rw [← eH5,upd_ne (ne_of_none hb no),upd_ne (ne_of_none hb nodx)]
     exact hb
    refine q _ _ (s1.trans (s2.trans (s3.trans (Same.toX (s4.trans s5))))) (s5 _ _ ?_) (.mk (dx:=odx) (l:=l) (nn _ (s3.new' g2 ⟨_,g3⟩ (Same.new s4 no))) (nn _ nl) (by rw [← eH5,upd_same]) (s5 _ _ (s4 _ _ hl)) (((hn.keep nn fun _ _ _ h=>h).same s4).same s5))
    rw [g4,hb3,hsz,Nat.add_assoc]
   ·refine⟨_,rfl,by show 3≤sizeLine; decide,fun p0 hp0 => ?_⟩
    have sp:=same_new hp0 (.tup thatW)
    refine⟨p0,_,rfl,.inr (SqT.of upd_same),rfl,rfl,_,rfl,?_⟩
    have ew:(if (false=true) then !inV (.str x.str) thatW else inV (.str x.str) thatW)=decide (x.lay=1):=inThat x
    have gp:=sp _ _ g2
    refine ite2 (fun c => ?_) (fun c => ?_)
    ·rcases I.pt with⟨h1,ea,eb',na,nb,rfl,rfl,k0,k1,a1,ho,a2⟩ | ⟨h1,_⟩
     ·have hs2:selfss (fn:Int) [ea,eb']=ea.selfs fn+eb'.selfs fn:=by simp only [selfss,Nat.add_zero]
      have hz2:sizes [ea,eb']=ea.size+eb'.size:=by simp only [sizes,Nat.add_zero]
      have hg2:hgts [ea,eb']=max ea.hgt eb'.hgt:=by simp only [hgts,Nat.max_zero]
      rw [hs2] at hb2
      refine⟨_,rfl,a,dx,_,rfl,gp,lkF_no (by decide +kernel),_,rfl,_,rfl,_,rfl,_,rfl,a,dx,kn,nm,.ref ta,.int (p:Int),fn,p,b2,wi,fs,ρ,x,kk,ea,eb',na,nb,rfl,L2.same sp,ti2.mono (TK.of sp),hm2.same sp,h1,k0,k1,a1,ho,a2,by omega,by omega,by omega,by omega,by omega,hb2,fun H3 l vs' s3 g3 hl nl hn => ?_⟩
      refine rest _ _ ⟨l,vs',rfl,(Same.toX sp).trans s3,?_,hl,Same.new sp nl,hn.keep (fun _ h=>Same.new sp h) fun _ _ _ h=>h⟩
      rw [g3,hs2,hz2,Nat.add_assoc]
     ·exact absurd (of_decide_eq_true (ew.symm.trans c)) h1
    ·have c':x.lay≠1:=fun z=>c (ew.trans (decide_eq_true z))
     rcases I.pt with⟨h1,_⟩ | ⟨_,as⟩
     ·exact absurd h1 c'
     refine⟨_,rfl,.ref ta,x,kk,ps,rfl,ti2.mono (TK.of sp),I.sh,fun H3 l xs s3 hl tis=>⟨l,rfl,⟨_,SqL.of hl⟩,fun D hD => ?_⟩⟩
     have g3:=s3 _ _ gp
     have nDa:a≠D:=ne_of_none g3 hD
     have nDl:l≠D:=ne_of_none hl hD
     have nla:l≠a:=ne_of hl g3 (by intro z; cases z)
     have L3:=(L2.same sp).same s3
     have hm3:=(hm2.same sp).same s3
     have sD:=same_new hD (.lst [])
     have hxl:=tis.len
     have hasl:=as.len
     have hps:ps.length≤100:=by
      have h2:=an.sz
      have h3:=nsizes_len nps
      have h4:(Nd.node x p kk nps d).size=1+nsizes nps:=rfl
      omega
     refine lc_list (K:=K) (a:=l) (xs:=xs) (fun i H'=>∃ acc,H' D=some (.lst acc)∧NdIns H' (fun b=>New H3 b∧b≠D) CN fn acc (nps.take i)∧H' a=some (.ins C dx (lkF kn fn (p+1+sizes (ps.take i)) (b2 || decide (0 < selfss fn (ps.take i)))))∧∀ b' o',b'≠a→H3 b'=some o'→H' b'=some o') ⟨[],upd_same,.nil,?_,fun b' o' _ hb=>sD _ _ hb⟩ ?_ ?_ ?_
     ·rw [upd_ne nDa,g3,List.take_zero,show sizes []=0 from rfl,show selfss (fn:Int) []=0 from rfl]
      simp
     ·rintro i H' _ ⟨acc,_,_,_,k⟩
      exact SqL.of (k _ _ nla hl)
     ·rintro i v H' hi ⟨acc,e1,e2,e3,k⟩
      obtain⟨e,he,te⟩:=tis.get i hi
      obtain⟨nd,hnd,ane⟩:=as.get i he
      obtain⟨z1,z2,z3⟩:=sizes_take ps i he
      obtain⟨y1,y2⟩:=selfss_take fn ps i he
      have sX:SameX a H3 H':=fun b' o' n' hb=>k _ _ n' hb
      have tk:TK H3 H':=sX.tkI g3
      have hlen:acc.length≤100:=by
       have h1:=e2.len
       rw [List.length_take] at h1
       omega
      refine⟨rfl,?_⟩
      refine⟨_,rfl,a,dx,_,rfl,e3,lkF_no (by decide +kernel),_,rfl,_,rfl,_,rfl,_,_,rfl,rfl,a,dx,kn,nm,v,fn,p+1+sizes (ps.take i),b2 || decide (0 < selfss fn (ps.take i)),wi+1,fs,ρ,e,nd,rfl,L3.keep sX e3,te.mono tk,hm3.sameX sX g3,ane,by omega,by omega,by omega,by have:=orN b2 (selfss fn (ps.take i)); omega,fun H4 u s4 g4 hu4 => ?_⟩
      have eD4:H4 D=some (.lst acc):=s4 _ _ nDa.symm e1
      refine⟨acc,eD4,small1000 (by omega),acc++[u],upd_same,?_,?_,fun b' o' n' hb => ?_⟩
      ·have ki:∀ b',New H' b'→New H3 b'∧b'≠D:=fun b' h=>by
        refine⟨?_,h.ne e1⟩
        cases e:H3 b' with
        | none=>exact e
        | some o' =>
         have na:b'≠a:=h.ne e3
         have hq:=k _ _ na e
         rw [New,hq] at h
         cases h
       have nds:NdIns H4 (fun b=>New H3 b∧b≠D) CN fn acc (nps.take i):=e2.keep (fun _ h=>h) fun b' o' g' hb=>s4 _ _ (g'.1.ne g3) hb
       have nu:NdIn H4 (fun b=>New H3 b∧b≠D) CN fn u nd:=hu4.keep ki fun _ _ _ h=>h
       rw [List.take_add_one,hnd]
       exact (nds.snoc nu).keep (fun _ h=>h) fun b' o' g' hb=>by rw [upd_ne g'.2]; exact hb
      ·rw [upd_ne nDa,g4,orOr,y1,z1,Nat.add_assoc]
      ·rw [upd_ne (ne_of_none hb hD)]
       exact s4 _ _ n' (k _ _ n' hb)
     ·rintro H' ⟨acc,e1,e2,e3,k⟩
      rw [List.take_of_length_le (by omega)] at e2
      rw [List.take_of_length_le (by omega)] at e3
      have n32:∀ b',New H3 b'→New H2 b':=fun b' h=>Same.new sp (Same.new s3 h)
      exact rest _ _ ⟨D,acc,rfl,fun b' o' n' hb=>k _ _ n' (s3 _ _ (sp _ _ hb)),e3,e1,n32 _ hD,e2.keep (fun _ h=>n32 _ h.1) fun _ _ _ h=>h⟩
  ·refine⟨_,rfl,a,dx,_,rfl,g1,lkF_no (by decide +kernel),_,rfl,rfl,_,rfl,?_⟩
   rw [isCall2 x]
   refine ite2 (fun z => ?_) (fun z => ?_)
   ·have z1:x=.call:=of_decide_eq_true z
    obtain⟨j,ds,dd,rfl,hj,hl⟩:=I.cl z1
    subst z1
    obtain⟨tb,zs,rfl,hb,hz'⟩:=t3 rfl
    have hjf:j≤fn∧fs[j]? = some (ds,dd):=by
     rw [List.getElem?_take] at hj
     split at hj
     ·exact⟨by omega,hj⟩
     ·cases hj
    obtain⟨xs,k1,k2⟩:=L1.ex
    refine⟨_,rfl,a,dx,_,rfl,g1,lkF_no (by decide +kernel),_,rfl,_,rfl,ta,_,_,_,rfl,rfl,SqT.of th1,rfl,tb,_,rfl,.inr (SqT.of (tk1 _ _ hb)),a,dx,kn,fn,j,p+1,b,xs,fs,ds,dd,?_,g1,k1,k2,hjf.2,hjf.1,fun ej => ?_,fun H2 s2 g2 => ?_⟩
    ·rw [hz'.len,hl]
     rfl
    ·cases b with
     | false=>rfl
     | true =>
      rw [hss,if_pos ⟨rfl,by rw [ej]⟩] at hs
      simp at hs
    ·refine⟨_,rfl,_,rfl,.ref a,.int (p:Int),.str "call", rfl,rest _ ⟨s2,?_⟩⟩
     rw [g2]
     have e9:decide (j=fn)=decide (W.call=W.call∧(j:Int)=(fn:Int)):=by
      by_cases h9:j=fn
      ·simp [h9]
      ·have:¬ (j:Int)=(fn:Int):=by omega
       simp [h9,this]
     rw [e9]
   ·have z1:¬ (x=.call∧kk=fn):=fun y=>z (decide_eq_true y.1)
    refine⟨_,rfl,.ref a,.int (p:Int),.str "call", rfl,rest _ ⟨.refl _ _,?_⟩⟩
    rw [decide_eq_false z1,Bool.or_false]
    exact g1
 ·refine⟨_,rfl,a,dx,_,rfl,g1,lkF_no (by decide +kernel),_,rfl,rfl,_,rfl,?_⟩
  rw [isName x]
  refine ite2 (fun z => ?_) (fun z=>⟨_,rfl,.ref a,.int (p:Int),.str "name", rfl,rest _ rfl⟩)
  obtain⟨dd,hd⟩:=I.nm (of_decide_eq_true z)
  obtain⟨kl,j1,j2,j3,j4⟩:=hm1.ex
  exact⟨_,rfl,_,rfl,nm,_,rfl,dget j1 (k:=Sum.inl kk) (valV_kn j2 (j4 _ _ hd)),_,rfl,.ref a,.int (p:Int),.str "name", rfl,rest _ rfl⟩
end
def spParam:Sp:=fun vs H Q _=>∃ (a:Addr) (x:Int) (d:Nat),vs=[.ref a]∧H a=some (.tup [.int x,dV d])∧0≤x∧x≤19∧d≤3∧Q (.bl true) H
abbrev sIsParam:Stmt:=top 76
theorem scsIsParam:FnScope ["param"] ["param"] (defScope sIsParam):=⟨rfl,rfl,rfl,by decide +kernel,rfl,by decide +kernel,by decide +kernel⟩
section
variable {P:Program}{w:World}{K:PySem.W.Frag}{mg:Str→Option Value}{base:Heap}{f:Addr}{fd:FuncData}
theorem ok_param (F:FnP K "is_param" sIsParam f fd) (O_is_number:Okf P w K mg base CX0 1 "is_number" ["value", "last"] spIsNum) {t0 t1:Tok}(m_LAST_NAME:mg "LAST_NAME" = some (.int 19 t0)) (m_MOST_DEPTH:mg "MOST_DEPTH" = some (.int 3 t1)) (z_isinstance:mg "isinstance" = none) (z_tuple:mg "tuple" = none) (z_len:mg "len" = none):FnOk P w K mg base CX0 2 f fd ["param"] spParam:=by
 have sc:=scsIsParam
 refine F.ok sc (fun vs H Q E h => ?_) (fun cdv A outer s H vs Q E hr h => ?_)
 ·obtain⟨a,x,d,rfl,_⟩:=h
  rfl
 obtain⟨a,x,d,rfl,ha,x0,x1,hd,q⟩:=h
 refine⟨_,(pss_cons (ps_if (PW.pt (pw_or (pt_not (pt_val (pe_callB (call_isiK K) rfl z_isinstance (by decide +kernel) (pa_cons (pv 0) (pa_cons (pe_bltn (v:=.ty "tuple") rfl z_tuple (by decide +kernel) rfl) pa_nil))))) (pw_or1 (pt_cmpR op_ne (pe_callB (call_lenK K) rfl z_len PySem.boot_len (pa_cons (pv 0) pa_nil)) pe_int (nomark _))))) (pss_one (ps_ret pe_bl)) pss_nil)
  (pss_one (ps_ret (pe_and (pe_c O_is_number hr rfl pass0 (pa_cons (pe_ix (ix_tupK K) (pv 0) pe_int (fun _ _=>rfl)) (pa_cons (pe_gI rfl m_LAST_NAME) pa_nil))) (pe_one (pe_c O_is_number hr rfl pass0 (pa_cons (pe_ix (ix_tupK K) (pv 0) pe_int (fun _ _=>rfl)) (pa_cons (pe_gI rfl m_MOST_DEPTH) pa_nil)))))))),?_⟩
 refine⟨_,rfl,_,_,_,_,_,rfl,.ty _,.base (.tup ha),kit_ty (r:=true) (by decide +kernel),_,rfl,?_⟩
 refine ite2 (fun z=>nomatch z) (fun _ => ?_)
 refine⟨_,rfl,a,_,rfl,.inr (SqT.of ha),rfl,_,rfl,?_⟩
 refine ite2 (fun z=>absurd (show false=true from z) Bool.false_ne_true) (fun _ => ?_)
 refine⟨_,rfl,a,_,_,_,rfl,rfl,SqT.of ha,rfl,x,19,rfl,_,rfl,?_⟩
 rw [decide_eq_true x0,decide_eq_true x1]
 refine ite2 (fun _ => ?_) (fun z=>absurd rfl z)
 refine⟨_,rfl,a,_,_,_,rfl,rfl,SqT.of ha,rfl,(d:Int),3,rfl,?_⟩
 rw [decide_eq_true (show (0:Int)≤(d:Int) by omega),decide_eq_true (show (d:Int)≤3 by omega)]
 exact q
end
def spHasFace (K:PySem.W.Frag):Sp:=fun vs H Q _=>∃ (a:Addr) (pz bz:V) (ps:List (Int×Nat)) (d:Nat),vs=[.ref a]∧H a=some (.tup [pz,dV d,bz])∧PtIn H pz ps∧FaceOk ps d∧∀ H',Same H H'→Q (.bl true) H'
theorem SqT.frz {K:PySem.W.Frag}{H:Hp}{a:Addr}{o:Obj}{xs:List V}(h:H a=some (.frz o (.tup xs))):SqT K H a xs:=.inl (.inr ⟨o,h⟩)
theorem allTrue (n:Nat):(List.replicate n true).all id=true:=by simp
abbrev sHasFace:Stmt:=top 75
theorem scsHasFace:FnScope ["function", "params", "depth", "param"] ["function"] (defScope sHasFace):=⟨rfl,rfl,rfl,by decide +kernel,rfl,by decide +kernel,by decide +kernel⟩
section
variable {P:Program}{w:World}{K:PySem.W.Frag}{mg:Str→Option Value}{base:Heap}{f:Addr}{fd:FuncData}
theorem ok_hasface (F:FnP K "has_face" sHasFace f fd) (O_is_number:Okf P w K mg base CX0 2 "is_number" ["value", "last"] spIsNum) (O_is_param:Okf P w K mg base CX0 2 "is_param" ["param"] spParam) {t0 t1:Tok}(m_MOST_PARAMS:mg "MOST_PARAMS" = some (.int 4 t0)) (m_MOST_DEPTH:mg "MOST_DEPTH" = some (.int 3 t1))
  (z_isinstance:mg "isinstance" = none) (z_tuple:mg "tuple" = none) (z_len:mg "len" = none) (z_all:mg "all" = none) (z_set:mg "set" = none):FnOk P w K mg base CX0 3 f fd ["function"] (spHasFace K):=by
 have sc:=scsHasFace
 refine F.ok sc (fun vs H Q E h => ?_) (fun cdv A outer s H vs Q E hr h => ?_)
 ·obtain⟨a,pz,bz,ps,d,rfl,_⟩:=h
  rfl
 obtain⟨a,pz,bz,ps,d,rfl,ha,hp,fo,q⟩:=h
 obtain⟨pt,o,vs,rfl,h1,h2,h3⟩:=hp.ex
 have hl:=h3.len
 have fw:=fo.few
 have fd3:=fo.hd
 refine⟨_,(pss_cons (ps_if (PW.pt (pw_or (pt_not (pt_val (pe_callB (call_isiK K) rfl z_isinstance (by decide +kernel) (pa_cons (pv 0) (pa_cons (pe_bltn (v:=.ty "tuple") rfl z_tuple (by decide +kernel) rfl) pa_nil))))) (pw_or1 (pt_cmpR op_ne (pe_callB (call_lenK K) rfl z_len PySem.boot_len (pa_cons (pv 0) pa_nil)) pe_int (nomark _))))) (pss_one (ps_ret pe_bl)) pss_nil)
  (pss_cons (ps_par (by rfl) sc.nd (i:=1) (j:=2) rfl rfl (by decide) rfl rfl (pa_cons (pe_ix (ix_tupK K) (pv 0) pe_int (fun _ _=>rfl)) (pa_cons (pe_ix (ix_tupK K) (pv 0) pe_int (fun _ _=>rfl)) pa_nil)) (by rfl))
  (pss_cons (ps_if (PW.pt (pw_or (pt_not (pt_val (pe_callB (call_isiK K) rfl z_isinstance (by decide +kernel) (pa_cons (pv 1) (pa_cons (pe_bltn (v:=.ty "tuple") rfl z_tuple (by decide +kernel) rfl) pa_nil))))) (pw_or (pt_cmpR op_gt (pe_callB (call_lenK K) rfl z_len PySem.boot_len (pa_cons (pv 1) pa_nil)) (pe_gI rfl m_MOST_PARAMS) (nomark _)) (pw_or1 (pt_not (pt_val (pe_c O_is_number hr rfl pass0 (pa_cons (pv 2) (pa_cons (pe_gI rfl m_MOST_DEPTH) pa_nil))))))))) (pss_one (ps_ret pe_bl)) pss_nil)
  (pss_cons (ps_if (pt_not (pt_val (pe_callB (cr_allK K rfl) rfl z_all (by decide +kernel) (pa_cons (pe_lc (own:=[("param", 3)]) (by rfl) sc.nd (pi_tupK K (pv 1)) (blkOk_by (own:=[("param", 3)]) (N:=["function", "params", "depth", "param"]) (sc:=defScope sHasFace) (by decide +kernel)) (fun _ _ _ _ _=>(pg_name (i:=3) sc.nd rfl (.inl rfl))) (fun _ _ _ _ _=>pts_nil) (fun _ _ _ _ _=>(pe_c O_is_param hr rfl pass0 (pa_cons (pv 3) pa_nil)))) pa_nil)))) (pss_one (ps_ret pe_bl)) pss_nil)
  (pss_one (ps_ret (pe_cmpR op_eq (RZ.pe_lenSetI rfl z_len rfl z_set (pe_lc (own:=[("param", 3)]) (by rfl) sc.nd (pi_tupK K (pv 1)) (blkOk_by (own:=[("param", 3)]) (N:=["function", "params", "depth", "param"]) (sc:=defScope sHasFace) (by decide +kernel)) (fun _ _ _ _ _=>(pg_name (i:=3) sc.nd rfl (.inl rfl))) (fun _ _ _ _ _=>pts_nil) (fun _ _ _ _ _=>(pe_ix (ix_tupK K) (pv 3) pe_int (fun _ _=>rfl))))) (pe_callB (call_lenK K) rfl z_len PySem.boot_len (pa_cons (pv 1) pa_nil)) (nomark _)))))))),?_⟩
 refine⟨_,rfl,_,_,_,_,_,rfl,.ty _,.base (.tup ha),kit_ty (r:=true) (by decide +kernel),_,rfl,?_⟩
 refine ite2 (fun z=>nomatch z) (fun _ => ?_)
 refine⟨_,rfl,a,_,rfl,.inr (SqT.of ha),rfl,_,rfl,?_⟩
 refine ite2 (fun z=>absurd (show false=true from z) Bool.false_ne_true) (fun _ => ?_)
 refine⟨_,rfl,a,_,_,_,rfl,rfl,SqT.of ha,rfl,_,rfl,a,_,_,_,rfl,rfl,SqT.of ha,rfl,_,_,rfl,?_⟩
 refine⟨_,rfl,_,_,_,_,_,rfl,.ty _,.fTuple h1,kit_ty (r:=true) (by decide +kernel),_,rfl,?_⟩
 refine ite2 (fun z=>nomatch z) (fun _ => ?_)
 refine⟨_,rfl,pt,_,rfl,.inr (SqT.frz h1),_,_,rfl,rfl,_,rfl,?_⟩
 refine ite2 (fun z=>absurd (of_decide_eq_true z) (by omega)) (fun _ => ?_)
 refine⟨_,rfl,(d:Int),3,rfl,_,rfl,?_⟩
 rw [decide_eq_true (show (0:Int)≤(d:Int) by omega),decide_eq_true (show (d:Int)≤3 by omega)]
 refine ite2 (fun z=>nomatch z) (fun _ => ?_)
 
 refine⟨_,rfl,pt,rfl,⟨_,SqT.frz h1⟩,fun D hD => ?_⟩
 have sD:=same_new hD (.lst [])
 refine lc_tup (K:=K) (a:=pt) (xs:=vs) (fun i H'=>H'=upd H D (.lst ((List.replicate i true).map V.bl))) rfl ?_ ?_ ?_
 ·rintro i H' _ rfl
  exact SqT.frz (same_new hD _ _ _ h1)
 ·rintro i v H' hi rfl
  obtain⟨ea,x,dd,rfl,e1,e2⟩:=h3.get i hi
  have lo:=fo.lo _ (List.mem_of_getElem? e1)
  have hi':i < vs.length:=(List.getElem?_eq_some_iff.mp hi).1
  refine⟨rfl,?_⟩
  refine⟨_,rfl,ea,x,dd,rfl,same_new hD _ _ _ e2,lo.1,lo.2.1,lo.2.2,_,upd_same,?_,?_⟩
  ·rw [List.length_map,List.length_replicate]
   exact small1000 (by omega)
  ·rw [upd_upd,List.replicate_succ',List.map_append]
   rfl
 rintro H' rfl
 have s1:=same_new hD (.lst ((List.replicate vs.length true).map V.bl))
 refine⟨D,_,rfl,SqL.of upd_same,_,rfl,?_⟩
 rw [allTrue]
 refine ite2 (fun z=>nomatch z) (fun _ => ?_)
 generalize upd H D (.lst ((List.replicate vs.length true).map V.bl))=H1 at s1 ⊢
 have h1':=s1 _ _ h1
 have h3':=h3.mono (TK.of s1)
 refine⟨_,rfl,pt,rfl,⟨_,SqT.frz h1'⟩,fun D2 hD2 => ?_⟩
 refine lc_tup (K:=K) (a:=pt) (xs:=vs) (fun i H'=>H'=upd H1 D2 (.lst (((ps.take i).map (·.1)).map V.int))) rfl ?_ ?_ ?_
 ·rintro i H' _ rfl
  exact SqT.frz (same_new hD2 _ _ _ h1')
 ·rintro i v H' hi rfl
  obtain⟨ea,x,dd,rfl,e1,e2⟩:=h3'.get i hi
  have hi':i < vs.length:=(List.getElem?_eq_some_iff.mp hi).1
  refine⟨rfl,?_⟩
  refine⟨_,rfl,ea,_,_,_,rfl,rfl,SqT.of (same_new hD2 _ _ _ e2),rfl,_,upd_same,?_,?_⟩
  ·rw [List.length_map,List.length_map,List.length_take]
   exact small1000 (by omega)
  ·rw [upd_upd,List.take_add_one,e1,List.map_append,List.map_append]
   rfl
 rintro H' rfl
 rw [hl,List.take_length]
 have s2:=same_new hD2 (.lst ((ps.map (·.1)).map V.int))
 refine⟨D2,_,rfl,SqL.of upd_same,fo.nd,by rw [List.length_map]; omega,_,rfl,pt,_,rfl,.inr (SqT.frz (s2 _ _ h1')),rfl,?_⟩
 have e9:decide (V.int (((ps.map (·.1)).length:Nat):Int)=V.int ((vs.length:Nat):Int))=true:=decide_eq_true (by rw [List.length_map,hl])
 show Q (.bl (decide (V.int (((ps.map (·.1)).length:Nat):Int)=V.int ((vs.length:Nat):Int)))) _
 rw [e9]
 exact q _ (s1.trans s2)
end
inductive Wo where
 | num (n:Int)
 | row (ws:List Wo)
mutual
inductive WIn (H:Hp):V→Wo→Prop
 | num {n:Int}:WIn H (.int n) (.num n)
 | row {a:Addr}{vs:List V}{ws:List Wo}:H a=some (.tup vs)→WIns H vs ws→WIn H (.ref a) (.row ws)
inductive WIns (H:Hp):List V→List Wo→Prop
 | nil:WIns H [] []
 | cons {v:V}{vs:List V}{w:Wo}{ws:List Wo}:WIn H v w→WIns H vs ws→WIns H (v::vs) (w::ws)
end
mutual
theorem WIn.mono {H H':Hp}(k:TK H H'):∀ {v:V}{w:Wo},WIn H v w→WIn H' v w
 | _,_,.num=>.num
 | _,_,.row h p=>.row (k _ _ h) (p.mono k)
theorem WIns.mono {H H':Hp}(k:TK H H'):∀ {vs:List V}{ws:List Wo},WIns H vs ws→WIns H' vs ws
 | _,_,.nil=>.nil
 | _,_,.cons h p=>.cons (h.mono k) (p.mono k)
end
theorem WIns.snoc {H:Hp}{v:V}{w:Wo}:∀ {vs:List V}{ws:List Wo},WIns H vs ws→WIn H v w→WIns H (vs++[v]) (ws++[w])
 | _,_,.nil,h=>.cons h .nil
 | _,_,.cons h r,h'=>.cons h (r.snoc h')
theorem WIns.len {H:Hp}:∀ {vs:List V}{ws:List Wo},WIns H vs ws→vs.length=ws.length
 | _,_,.nil=>rfl
 | _,_,.cons _ r=>congrArg (·+1) r.len
def WOk:Nat→Wo→Prop
 | 0,.num n=>0≤n∧n≤10006
 | d+1,.row ws=>ws.length≤40∧∀ w∈ws,WOk d w
 | _,_=>False
def WOks:List Nat→List Wo→Prop
 | [],[]=>True
 | d::ds,w::ws=>WOk d w∧WOks ds ws
 | _,_=>False
theorem WOks.snoc {d:Nat}{w:Wo}(h:WOk d w):∀ {ds:List Nat}{ws:List Wo},WOks ds ws→WOks (ds++[d]) (ws++[w])
 | [],[],_=>⟨h,trivial⟩
 | _::ds,_::ws,r=>⟨r.1,WOks.snoc h r.2⟩
 | [],_::_,r=>r.elim
 | _::_,[],r=>r.elim
theorem WOks.len:∀ {ds:List Nat}{ws:List Wo},WOks ds ws→ws.length=ds.length
 | [],[],_=>rfl
 | _::ds,_::ws,r=>congrArg (·+1) (WOks.len r.2)
 | [],_::_,r=>r.elim
 | _::_,[],r=>r.elim
def spRow (K:PySem.W.Frag) (n:Nat):Sp:=fun vs H Q _=>∃ (r:RD) (d:Nat) (most:Int),vs=[.ref r.r,.int (d:Int),.int most]∧Draw K r H∧d < n∧d≤3∧0≤most∧most≤40 ∧
 ∀ (v:V) (H':Hp) (w:Wo),Drawn K r H H'→WIn H' v w→WOk d w→Q v H'
section
variable {X:Cx}(K:PySem.W.Frag)
def rSumQ (K:PySem.W.Frag):List V→Hp→VK→Prop:=fun vs H Q=>∃ (a:Addr) (ns:List Int),vs=[V.ref a]∧(SqL K H a (ns.map V.int)∨SqT K H a (ns.map V.int))∧Q (.int ns.sum) H
theorem cr_sumQ (calm:X.calm=true) (h:X.K=K:=by rfl):CallR X (.builtin "sum") (rSumQ K):=by
 subst h
 rintro pins s σ H vs us Q I rel ⟨a,ns,rfl,sq | sq,want⟩
 ·exact cr_sum calm pins s σ H _ us Q I rel ⟨a,ns,rfl,sq,want⟩
 ·have eu:us=[.ref a]:=Vals.ref1 rel
  subst eu
  obtain⟨its,rv,isT,hz⟩:=I.tuple sq
  have inn:=intsAre_of rv
  obtain⟨xs,hx⟩:=inn.allInts.items
  have hn:PySem.numsOf its=ns:=inn.numsOf
  obtain⟨o,ho,hc,n,hd⟩:=isT
  have tu:s.heap.IsTuple a its.toArray:=⟨o,ho,hc,n,hd⟩
  rw [hx] at tu
  have e2:its=its.toArray.toList:=rfl
  rw [e2,hx,nums_intItems] at hn
  refine PySem.W.ktm_sumG (I.ok.hd calm) tu fun h' tk t' kept => ?_
  rw [preSum_eq,List.take_of_length_le (by simp),hn]
  exact⟨.int ns.sum,H,I.kept (t':=tk) kept,⟨_,rfl⟩,want⟩
end
section
variable {X:Cx}
def rDUpd:V→List V→Hp→VK→Prop:=fun x xs H Q=>∃ (a b:Addr) (kvs more:List (Key×V)),x=.ref a∧xs=[.ref b]∧a≠b∧H a=some (.dK kvs)∧H b=some (.dK more)∧kvs.length+more.length≤sizeLine∧Q .non (upd H a (.dK (mergeK kvs more)))
theorem mt_dupd:MtR X "dict.update" rDUpd:=by
 rintro pins s σ H x xs v us Q I rx rv ⟨a,b,kvs,more,rfl,rfl,ne,ha,hb,hz,want⟩
 cases rx
 obtain⟨u,rfl,ru⟩:=rv.one
 cases ru
 obtain⟨z1,sys1,vs1,kv1,d1⟩:=(show ObjOk X.prog X.w H s.heap a (.dK kvs) from I.hok a _ ha)
 obtain⟨z2,sys2,vs2,kv2,d2⟩:=(show ObjOk X.prog X.w H s.heap b (.dK more) from I.hok b _ hb)
 have l1:=Paired.length kv1
 have l2:=Paired.length kv2
 refine call_meetsIn F.slot_dict_update d1.typeIs F.entry_dict_update (F.args_dict_update_2 _ _) (meets_dict_update (mixKind X.prog X.w) a b ne sys2) ⟨vs1,vs2,d1,d2,by omega,fun h' d1' _ same => ?_⟩
 have small:(mergeK kvs more).length≤sizeLine:=Nat.le_trans (length_mergeK more kvs) hz
 have there:∃ u,h'.get? a=some u:=by
  obtain⟨o,_,_,e,_⟩:=d1'
  exact⟨o,e⟩
 exact⟨.non,_,I.write (t':=s.toks) (x:=a) (e:=a) (o:=.dK (mergeK kvs more)) (by rw [ha]; trivial) (.inl rfl) (fun c o hc e=>(same.2 c hc).trans e) there ⟨small,sys1,_,KV.merge kv2 kv1,d1'⟩,rfl,want⟩
end
section
variable {prog:Program}{w:World}{A:Around}{E:Value→Shared→Prop}{s:Shared}
end
section
variable {X:Cx}
end
section
variable {X:Cx}(K:PySem.W.Frag)
end
def uptos (n:Nat):List Wo:=(List.range n).map fun (k:Nat)=>.num (k:Int)
def aheads (a:Int):List Int→List Int
 | []=>[]
 | n::ns=>a::aheads ((a+n) % 10007) ns
theorem aheads_len:∀ (a:Int) (ns:List Int),(aheads a ns).length=ns.length
 | _,[]=>rfl
 | a,n::ns=>congrArg (·+1) (aheads_len _ ns)
inductive RIns (H:Hp):List V→List (List Wo)→Prop
 | nil:RIns H [] []
 | cons {a:Addr}{us:List V}{ws:List Wo}{vs:List V}{rs:List (List Wo)}:H a=some (.tup us)→WIns H us ws→RIns H vs rs→RIns H (.ref a::vs) (ws::rs)
theorem RIns.mono {H H':Hp}(k:TK H H'):∀ {vs:List V}{rs:List (List Wo)},RIns H vs rs→RIns H' vs rs
 | _,_,.nil=>.nil
 | _,_,.cons h p r=>.cons (k _ _ h) (p.mono k) (r.mono k)
theorem RIns.len {H:Hp}:∀ {vs:List V}{rs:List (List Wo)},RIns H vs rs→vs.length=rs.length
 | _,_,.nil=>rfl
 | _,_,.cons _ _ r=>congrArg (·+1) r.len
theorem RIns.get {H:Hp}:∀ {vs:List V}{rs:List (List Wo)} (_:RIns H vs rs) (i:Nat) {v:V},vs[i]? = some v→∃ a us ws,v=.ref a∧H a=some (.tup us)∧WIns H us ws∧rs[i]? = some ws
 | _,_,.nil,i,_,h=>by simp at h
 | _,_,.cons h p _,0,_,e=>by
  cases e
  exact⟨_,_,_,rfl,h,p,rfl⟩
 | _,_,.cons _ _ r,i+1,v,e=>r.get i e
theorem WIns.get {H:Hp}:∀ {vs:List V}{ws:List Wo}(_:WIns H vs ws) (i:Nat) {v:V},vs[i]? = some v→∃ w,ws[i]? = some w∧WIn H v w
 | _,_,.nil,i,_,h=>by simp at h
 | _,_,.cons h _,0,_,e=>by
  cases e
  exact⟨_,rfl,h⟩
 | _,_,.cons _ r,i+1,v,e=>r.get i e
theorem WIns.at {H:Hp}:∀ {vs:List V}{ws:List Wo}(_:WIns H vs ws) (i:Nat) {w:Wo},ws[i]? = some w→∃ v,vs[i]? = some v∧WIn H v w
 | _,_,.nil,i,_,h=>by simp at h
 | _,_,.cons h _,0,_,e=>by
  cases e
  exact⟨_,rfl,h⟩
 | _,_,.cons _ r,i+1,v,e=>r.at i e
theorem WIns.app {H:Hp}:∀ {vs us:List V}{ws xs:List Wo},WIns H vs ws→WIns H us xs→WIns H (vs++us) (ws++xs)
 | _,_,_,_,.nil,s=>s
 | _,_,_,_,.cons h r,s=>.cons h (r.app s)
theorem WIns.take {H:Hp}:∀ {vs:List V}{ws:List Wo}(n:Nat),WIns H vs ws→WIns H (vs.take n) (ws.take n)
 | _,_,0,_=>.nil
 | _,_,_+1,.nil=>.nil
 | _,_,n+1,.cons h r=>.cons h (r.take n)
inductive DArg (K:PySem.W.Frag) (H:Hp):W→List V→Wo→Prop
 | plus {a b:Int}:DArg K H .plus [.int a,.int b] (.num ((a+b) % 10007))
 | minus {a b:Int}:DArg K H .minus [.int a,.int b] (.num ((a - b) % 10007))
 | times {a b:Int}:0≤a→a≤10006→DArg K H .times [.int a,.int b] (.num (a*b % 10007))
 | less {a b:Int}:DArg K H .less [.int a,.int b] (.num (if a < b then 1 else 0))
 | same {a b:Int}:DArg K H .same [.int a,.int b] (.num (if a=b then 1 else 0))
 | upto {n:Nat}:n≤1000→DArg K H .upto [.int (n:Int)] (.row (uptos n))
 | len {a:Addr}{vs:List V}:SqT K H a vs→DArg K H .len [.ref a] (.num (vs.length:Int))
 | sum {a:Addr}{ns:List Int}:(SqL K H a (ns.map V.int)∨SqT K H a (ns.map V.int))→DArg K H .sum [.ref a] (.num (ns.sum % 10007))
 | sums {a:Addr}{ns:List Int}:(SqL K H a (ns.map V.int)∨SqT K H a (ns.map V.int))→ns.length≤1000→DArg K H .sums [.ref a] (.row ((aheads 0 ns).map Wo.num))
 | one {v:V}{w:Wo}:WIn H v w→DArg K H .one [v] (.row [w])
 | pick {a:Addr}{vs:List V}{ws:List Wo}{i:Nat}{w:Wo}:H a=some (.tup vs)→WIns H vs ws→ws[i]? = some w→DArg K H .pick [.ref a,.int (i:Int)] w
 | put {a b:Addr}{vs us:List V}{ws xs:List Wo}:H a=some (.tup vs)→H b=some (.tup us)→WIns H vs ws→WIns H us xs→ws.length+xs.length≤1000→DArg K H .put [.ref a,.ref b] (.row (ws++xs))
 | flat {a:Addr}{vs:List V}{rs:List (List Wo)}:H a=some (.tup vs)→RIns H vs rs→rs.flatten.length≤1000→DArg K H .flat [.ref a] (.row rs.flatten)
section
variable {P:Program}{w:World}{K:PySem.W.Frag}{mg:Str→Option Value}{base:Heap}{f:Addr}{fd:FuncData}
end
section
variable {P:Program}{w:World}{K:PySem.W.Frag}{mg:Str→Option Value}{base:Heap}{f:Addr}{fd:FuncData}
end
section
variable {P:Program}{w:World}{K:PySem.W.Frag}{mg:Str→Option Value}{base:Heap}{f:Addr}{fd:FuncData}
end
section
variable {P:Program}{w:World}{K:PySem.W.Frag}{mg:Str→Option Value}{base:Heap}{f:Addr}{fd:FuncData}
end
section
variable {P:Program}{w:World}{K:PySem.W.Frag}{mg:Str→Option Value}{base:Heap}{f:Addr}{fd:FuncData}
end
section
variable {P:Program}{w:World}{K:PySem.W.Frag}{mg:Str→Option Value}{base:Heap}{f:Addr}{fd:FuncData}
end
section
variable {P:Program}{w:World}{K:PySem.W.Frag}{mg:Str→Option Value}{base:Heap}{f:Addr}{fd:FuncData}
end
section
variable {P:Program}{w:World}{K:PySem.W.Frag}{mg:Str→Option Value}{base:Heap}{f:Addr}{fd:FuncData}
end
section
variable {P:Program}{w:World}{K:PySem.W.Frag}{mg:Str→Option Value}{base:Heap}{f:Addr}{fd:FuncData}
end
section
variable {P:Program}{w:World}{K:PySem.W.Frag}{mg:Str→Option Value}{base:Heap}{f:Addr}{fd:FuncData}
end
section
variable {P:Program}{w:World}{K:PySem.W.Frag}{mg:Str→Option Value}{base:Heap}{f:Addr}{fd:FuncData}
end
section
variable {P:Program}{w:World}{K:PySem.W.Frag}{mg:Str→Option Value}{base:Heap}{f:Addr}{fd:FuncData}
end
section
variable {P:Program}{w:World}{K:PySem.W.Frag}{mg:Str→Option Value}{base:Heap}{f:Addr}{fd:FuncData}
end
def szW:Wo→Int
 | .num n=>n
 | .row ws=>(ws.length:Int)
inductive SzArg (H:Hp):W→List V→List Int→Prop
 | flat {a:Addr}{vs:List V}{rs:List (List Wo)}:H a=some (.tup vs)→RIns H vs rs→rs.length≤1000→SzArg H .flat [.ref a] [((rs.map fun r=>(r.length:Int)).sum)]
 | other {x:W}{us:List V}{ws:List Wo}:x≠.flat→WIns H us ws→us.length≤1000→SzArg H x us (ws.map szW)
def faultS (x:W) (ss:List Int):Option Str:=if x=.pick then (if ss.getD 1 0 < ss.getD 0 0 then none else some "beyond") else if (x=.upto∨x=.put∨x=.flat)∧40 < ss.sum then some "many" else none
section
variable {P:Program}{w:World}{K:PySem.W.Frag}{mg:Str→Option Value}{base:Heap}{f:Addr}{fd:FuncData}
end
def itemsS (x:W) (ss:List Int):Int:=if x=.one then 1 else if x=.upto∨x=.sum∨x=.sums∨x=.put∨x=.flat then ss.sum else 0
section
variable {P:Program}{w:World}{K:PySem.W.Frag}{mg:Str→Option Value}{base:Heap}{f:Addr}{fd:FuncData}
end
section
variable {P:Program}{w:World}{K:PySem.W.Frag}{mg:Str→Option Value}{base:Heap}{f:Addr}{fd:FuncData}
end
theorem WIns.atV {H:Hp}:∀ {vs:List V}{ws:List Wo}{i:Nat}{v:V},WIns H vs ws→vs[i]? = some v→∃ w,ws[i]? = some w∧WIn H v w
 | _,_,0,_,.cons h _,e=>by cases e; exact⟨_,rfl,h⟩
 | _,_,i+1,_,.cons _ r,e=>WIns.atV (i:=i) r e
theorem same_over {H H':Hp}{D:Addr}{o:HO}(s:Same H H') (hD:H D=none):Same H (upd H' D o):=fun b u hb=>by
 rw [upd_ne (ne_of_none hb hD)]
 exact s _ _ hb
theorem wok_num {wo:Wo}(h:WOk 0 wo):∃ n,wo=.num n∧0≤n∧n≤10006:=by
 cases wo with
 | num n=>exact⟨n,rfl,h⟩
 | row ws=>exact h.elim
theorem wok_row {d:Nat}{wo:Wo}(h:WOk (d+1) wo):∃ ws,wo=.row ws∧ws.length≤40∧∀ w∈ws,WOk d w:=by
 cases wo with
 | num n=>exact h.elim
 | row ws=>exact⟨ws,rfl,h⟩
abbrev sIsWorth:Stmt:=top 81
theorem scsIsWorth:FnScope ["value", "depth", "item"] ["value", "depth"] (defScope sIsWorth):=⟨rfl,rfl,rfl,by decide +kernel,rfl,by decide +kernel,by decide +kernel⟩
section
variable {P:Program}{w:World}{K:PySem.W.Frag}{mg:Str→Option Value}{base:Heap}{f:Addr}{fd:FuncData}
end
abbrev sRefuseNoFunction:Stmt:=top 82
theorem scsRefuseNoFunction:FnScope ["forms", "which"] ["forms", "which"] (defScope sRefuseNoFunction):=⟨rfl,rfl,rfl,by decide +kernel,rfl,by decide +kernel,by decide +kernel⟩
section
variable {P:Program}{w:World}{K:PySem.W.Frag}{mg:Str→Option Value}{base:Heap}{f:Addr}{fd:FuncData}
end
theorem WOks.at:∀ {ds:List Nat}{ws:List Wo}{i d:Nat},WOks ds ws→ds[i]? = some d→∃ w,ws[i]? = some w∧WOk d w
 | d::ds,w::ws,0,_,h,e=>by cases e; exact⟨w,rfl,h.1⟩
 | d::ds,w::ws,i+1,_,h,e=>WOks.at (i:=i) h.2 e
 | [],[],_,_,_,e=>by cases e
 | [],_::_,_,_,h,_=>h.elim
 | _::_,[],_,_,h,_=>h.elim
abbrev sRefuseBadWorths:Stmt:=top 83
theorem scsRefuseBadWorths:FnScope ["depths", "worths", "number"] ["depths", "worths"] (defScope sRefuseBadWorths):=⟨rfl,rfl,rfl,by decide +kernel,rfl,by decide +kernel,by decide +kernel⟩
section
variable {P:Program}{w:World}{K:PySem.W.Frag}{mg:Str→Option Value}{base:Heap}{f:Addr}{fd:FuncData}
end
end NR
namespace NR
open PySem PySem.Spec PyProof.Rows L2 LamX NdefX
structure SupF (K:PySem.W.Frag) (P:Program) (mg:Str→Option Value) (f:Addr) (F:NF) (C cc:Addr) (fd:FuncData):Prop where
 fn:∃ (od:Option Addr) (sl:Array (Option Value)) (doc pm ctv:Value),fd=F.fd doc pm ctv∧K.lookup f=some ⟨.type "function", od,.func fd,sl⟩
 code:PySem.W.codeIn K (.ref F.c) F.qual=true
 file:∃ (cl:Value) (d:Option Addr) (sl:Array (Option Value)) (vs:Array Value) (z:Str) (t:Tok),K.lookup F.c=some ⟨cl,d,.fields vs,sl⟩∧vs[2]? = some (.str z t)∧((P.main.file:Str) == z)=true
 cl:F.cl=[(("__class__" : Str),cc)]
 cell:∃ (cl:Value) (d:Option Addr) (sl:Array (Option Value)),K.lookup cc=some ⟨cl,d,.cell (some (.ref C)),sl⟩
 ex:∃ nm q N bs bm sn sub ab col dd k0 k1 k2 k3 k5,K.lookup C=some (excClassObj nm q C N bs bm true sn sub ab col dd k0 k1 k2 k3 k5 "ValueError.__new__")∧PySem.W.alongIn K "__init__" bm=some (some (.builtin "ValueError.__init__"))
 sub:PySem.W.mroIn K C (.ref C)=some true
 ve:PySem.W.mroIn K C (.type "ValueError")=some true
 third:PySem.W.nsIn K cStatics "thirdparty.any" = some none
 sup:mg "super" = none
 top:(P.main.scope.names.lookup ("super" : Str)).isSome=false
section
variable {P:Program}{w:World}{K:PySem.W.Frag}{mg:Str→Option Value}{base:Heap}{f C cc:Addr}{F:NF}{fd:FuncData}{CX:CXT}{N ps:List Str}{k:Nat}{sp:Sp}
theorem SupF.cells (M:SupF K P mg f F C cc fd) {A:Around}{outer:List Env}{s:Shared}{H:Hp}(e0:Env0 P w K mg base A outer s H):CellsAt F.cl ["__class__"] [some (.ref C)] s.heap H:=by
 obtain⟨cl,d,sl,hc⟩:=M.cell
 have hb:=e0.bs _ _ (e0.mod.kin _ _ hc)
 have one:∀ {y:Str}{c:Addr},F.cl.lookup y=some c→y = "__class__" ∧ c=cc:=fun {y c} h=>by
  rw [M.cl] at h
  by_cases e:y = "__class__"
  ·subst e
   simp at h
   exact⟨rfl,h.symm⟩
  ·have e':(y == ("__class__" : Str))=false:=by simpa using e
   simp [List.lookup,e'] at h
 refine⟨rfl,fun y c h => ?_,fun x y c hx hy=>(one hx).1.trans (one hy).1.symm,fun i y hi => ?_⟩
 ·obtain⟨_,rfl⟩:=one h
  exact⟨hb.2,some (.ref C),⟨_,hb.1,rfl⟩⟩
 ·match i,hi with
  | 0,hi =>
   cases hi
   refine⟨cc,by rw [M.cl]; simp,fun v hv => ?_⟩
   cases hv
   exact⟨.ref C,rfl,⟨_,hb.1,rfl⟩⟩
  | i+1,hi=>simp at hi
theorem mw_call {X:Cx}{pins:List (Addr×Obj)} {σ:L2.St}{H:Hp}{s:Shared}{a C u:Addr}{us:List Value}{A:Around}{E:Value→Shared→Prop}{Q:Value→Shared→Prop}{nm q:Str}{N:Addr}{bs bm:List Value}{sn:List Str}{sub:List Value}{ab:Bool}{col:Option Bool}{dd:Option Addr}{k0 k1 k2 k3 k5:Option Value}
  (hC:X.K.lookup C=some (excClassObj nm q C N bs bm true sn sub ab col dd k0 k1 k2 k3 k5 "ValueError.__new__")) (I:Inv X pins σ H s) (ea:H a=some (exo a C none)) (hu:s.heap.get? u=some (PySem.W.kxs_mw "ValueError.__init__" a)) (hl:us.length≤sizeLine) (h:∀ s',Inv X pins σ H s'→Q .none s') :
  wpAny (model X.prog X.w) A (call (.ref u) us) Q E s:=by
 obtain⟨t1,ho⟩:=exo_at I.hok ea
 have KX:=I.kIn
 obtain⟨hp,g,d,t,os⟩:=s
 have key:∀ h',(∀ b o,b≠a→hp.get? b=some o→h'.get? b=some o)→h'.get? a=some (PySem.W.excRec (.ref C) hp.objs.size none .none .none (.bool false))→h'.get? hp.objs.size=some (PySem.W.excTup us)→Q .none ⟨h',g,d,t,os⟩:=fun h' k hx _=>by
  have J:=I.write (t':=t) (x:=a) (e:=a) (o:=exo a C none) (by rw [ea]; exact True.intro) (.inl rfl) k ⟨_,hx⟩ (exo_ok hx)
  have eu:upd H a (exo a C none)=H:=by
   funext b
   by_cases hb:b=a
   ·rw [hb,upd_same,ea]
   ·rw [upd_ne hb]
  rw [eu] at J
  exact h _ J
 have FB:=F.excBase_ValueError
 refine wpAny_call (codeAny_of_tree ?_)
 change wpAny _ A.in1 (callAny (.ref u) ⟨us,[]⟩) _ _ _
 unfold callAny
 refine wpAny_bind (wpAny_load hu ?_)
 dsimp only [PySem.W.kxs_mw]
 rw [if_pos (by decide)]
 refine wpAny_bind (PySem.W.check_bound_init FB.toExcCallFacts (KX _ _ hC) ho rfl ?_)
 refine wpAny_bind (wpAny_pure (wpAny_pure ?_))
 exact⟨Code.quiet_builtin _ (by decide +kernel),codeAny_builtin FB.initEntry (PySem.W.exc_init_tree (cls:=.ref C) (t0:=t1) (dv:=none) (c2:=.none) (c3:=.none) (b4:=.bool false) ho hl key)⟩
theorem sup_fn (M:SupF K P mg f F C cc fd) (S:NScope N ps ["__class__"] F.scope) {e:Expr}{rest:List Stmt}{p0 p1 p2 p3 p4:Pos}{ar:Arg}{pl:Sem Bool}
  (hbd:F.body=.Expr (.Call (.Attribute (.Call (.Name "super" p0) [] [] p1) "__init__" p2) [e] [] p3) p4::rest) (har:(F.params.posonlyargs++F.params.args).head? = some ar) (hp0:ps[0]? = some ar.arg)
  (hks:F.scope.names.lookup ("super" : Str)=some .globalImplicit)
  (hev:∀ env:Env,eval (.Call (.Attribute (.Call (.Name "super" p0) [] [] p1) "__init__" p2) [e] [] p3) env=(do
   let ov ← attributeBase (.Call (.Name "super" p0) [] [] p1) "__init__" env (eval (.Call (.Name "super" p0) [] [] p1) env)
   standAt p2.atName
   let (g,first) ← holding [ov] (getMethod ov "__init__" pl)
   callWith p3 g first (backTo p3 (starEach [e] env)) []))
  (hsw:∀ env:Env,swapsWith (.Call (.Attribute (.Call (.Name "super" p0) [] [] p1) "__init__" p2) [e] [] p3) none p4.line env=pure false)
  (hst:∀ env:Env,starEach [e] env=[(false,eval e env)])
  (len:∀ vs H Q E,sp vs H Q E→vs.length=ps.length)
  (hbody:∀ (A:Around) (outer:List Env) (s:Shared) (H:Hp) (vs:List V) (Q:VK) (E:XK),Room k (A.deeper (envF F f s.heap.objs.size))→sp vs H Q E →
   ∃ (te:TE) (t:TS) (a:Addr) (vr:List V),PE (ncx CX P w K mg base N F f A outer s H E) e te∧PSs (ncx CX P w K mg base N F f A outer s H E) rest t∧vs=.ref a::vr∧H a=some (exo a C none) ∧
    te (startF N vs [some (.ref C)]) H fun v H1=>H1 a=some (exo a C none)∧([v]:List V).length≤1∧t { nx:=fun _ H'=>Q .non H',rt:=Q } (startF N vs [some (.ref C)]) H1) :
  FnOk P w K mg base CX (k+1) f fd ps sp:=by
 refine⟨len,fun A outer s H args us vs Q E hr e0 hb r hsp => ?_⟩
 have hl:=len _ _ _ _ hsp
 have KX:K.In s.heap:=e0.mod.kin.keeps fun b o h=>(e0.bs b o h).1
 have lim:s.heap.NoLimit:=e0.mod.nolimit.keeps fun b o h=>(e0.bs b o h).1
 have CA:=M.cells e0
 obtain⟨od,sl,doc,pm,ctv,rfl,lk⟩:=M.fn
 obtain⟨te,t,a,vr,he,ht,rfl,ha,hq⟩:=hbody A outer s H vs Q E (hr.deeper _) hsp
 refine PySem.ks_codeAny_call_defAt (body:=F.body) (binds:=ps.zip us) hr.depth (KX _ _ lk) rfl lim (PySem.W.codeRec_of KX M.code) rfl hb S.nocell (fun⟨n,v⟩ hy=>S.par n (List.of_mem_zip hy).1) (fun h1 hns kp => ?_) S.co S.gen S.kind
 have I:Inv (ncx CX P w K mg base N F f A outer s H E) [] (startF N (.ref a::vr) [some (.ref C)]) H { s with heap:=h1,toks:=s.toks+(ps.zip us).length }:=inv_startN S hr.hd e0 hl r CA hns kp
 have hexo:=exo_at I.hok ha
 obtain⟨nm,q,Nn,bs,bm,sn,sub,ab,col,dd,k0,k1,k2,k3,k5,hC,hal⟩:=M.ex
 have hcl:PySem.W.clsIn K C=some { name:=nm,bases:=bs,mro:=.ref C::bm,ns:=Nn,qualname:=q,hasDict:=true,slotNames:=sn,subclasses:=sub,abstract:=ab,collection:=col,hasDel:=false }:=by
  unfold PySem.W.clsIn
  rw [hC]
  try rfl
 obtain⟨fcl,fd0,fsl,fvs,z,tz,lkc,hz,hfile⟩:=M.file
 obtain⟨ccl,ccd,ccs,lkcell⟩:=M.cell
 obtain⟨t1,hx⟩:=hexo
 have KX1:=I.kIn
 show _root_.PySem.wpAt _ _ _ (execs F.body (envF F f s.heap.objs.size)) _ _ _
 rw [hbd]
 refine ks_wpAt_execs_cons ?_
 have hint:interactive (envF F f s.heap.objs.size)=false:=by
  unfold interactive
  simp [S.kind]
 refine ks_wpAt_Expr_any ?_ hint (hsw _)
 refine ks_wpAt_MethodCall ?_ (hev _)
 refine ks_wpAt_super_base (env:=envF F f s.heap.objs.size) (ar:=ar) hks (S.frk _ (List.mem_cons_self ..)) (by decide) rfl (kp _ _ (KX _ _ lk)) rfl har rfl (kp _ _ (KX _ _ lkc)) rfl hz hfile M.top ?_
 obtain⟨mb,b1,b2⟩:=I.mod.blt
 refine PySem.W.ks_loadName_global S.kind hks (Calls.loadGlobal_builtin (I.mod.glob.keeps I.bk) M.sup (b1.keeps I.bk) ((b2 _ (by decide)).trans (show bootBuiltins "super" = some (.type "super") by decide +kernel)) ⟨rfl,?_⟩)
 refine wpAny_loadName_free (c:=cc) S.kind (S.frk _ (List.mem_cons_self ..)) (by show F.cl.lookup _=_; rw [M.cl]; simp) ⟨_,KX1 _ _ lkcell,rfl⟩ ?_
 have hus:us[0]? = some (.ref a):=by
  cases r with
  | @cons _ u0 _ ur ra rr =>
   obtain rfl:u0=Value.ref a:=ra
   rfl
 have ndP:ps.Nodup:=by
  have y:=S.nd.sublist (List.take_sublist (ps.length+1) N)
  rw [show ps.length+1=ps.length+(["__class__"]:List Str).length from rfl,S.pre] at y
  exact (List.nodup_append.mp y).1
 refine wpAny_loadName_local S.kind (S.par _ (List.mem_of_getElem? hp0)) hns (zip_look ndP hp0 hus) ?_
 refine ks_wpAny_isType_cls (KX1 _ _ hC) rfl ⟨rfl,?_⟩
 have IA:PySem.W.InstAt h1 a { cls:=.ref C,dict:=none,data:=.fields #[.ref t1,.none,.none,.none,.bool false,.none] } C none:=⟨hx,rfl,rfl,trivial⟩
 refine ks_wpAny_call_super (KX1 _ _ hC) rfl hx rfl (fun c z=>by cases z) (PySem.W.looks_mroIn KX1 M.sub) (fun h2 hso k2 => ?_)
 have KX2:K.In h2:=KX1.keeps k2
 have IA2:PySem.W.InstAt h2 a { cls:=.ref C,dict:=none,data:=.fields #[.ref t1,.none,.none,.none,.bool false,.none] } C none:=⟨k2 _ _ hx,rfl,rfl,trivial⟩
 refine PySem.W.kxs_getMethod PySem.W.kxs_ValueError (l:=bm) hso (PySem.W.looks_opaque KX2 M.third) ((PySem.W.looks_clsIn KX2 hcl).andThen .now) (by simp [List.dropWhile_cons]) KX2 hal (IA2.type.andThen (PySem.W.looks_mroIn KX2 M.ve)) (PySem.W.ks_ne KX2 IA2 hcl) (by decide) ?_
 have lt1:s.heap.objs.size < h1.objs.size:=hns.lt
 have lt2:h1.objs.size < h2.objs.size:=Heap.lt_size hso
 have k3:∀ b o,h1.get? b=some o→(h2.push (PySem.W.kxs_mw "ValueError.__init__" a)).get? b=some o:=fun b o z=>Heap.get?_push_of_some _ (k2 _ _ z)
 have hu:(h2.push (PySem.W.kxs_mw "ValueError.__init__" a)).get? h2.objs.size=some (PySem.W.kxs_mw "ValueError.__init__" a):=Heap.get?_push_at rfl rfl
 have I2:=(I.kept (h':=h2.push (PySem.W.kxs_mw "ValueError.__init__" a)) (t':=s.toks+(ps.zip us).length+1) k3).pins_of (pins':=[(h2.objs.size,PySem.W.kxs_mw "ValueError.__init__" a)]) fun p hp=>by
  obtain rfl:p=(h2.objs.size,PySem.W.kxs_mw "ValueError.__init__" a):=by simpa using hp
  exact⟨hu,I.hok.fresh (by show h1.objs.size≤_; omega),(by show h2.objs.size≠s.heap.objs.size; omega),I.nofs (by show h1.objs.size≤_; omega),fun v z=>by cases z⟩
 refine PySem.W.kxs_callWith (i := "ValueError.__init__") (x:=a) (by rw [hst]; rfl) ?_
 rw [hst]
 refine Calls.evalArgs_plain ?_
 have hpa:PA (ncx CX P w K mg base N F f A outer s H E) [e] (tCons te tNil):=pa_cons he pa_nil (hst _)
 have hrun:=hpa.run p3 _ _ _ H (fun vs H1=>H1 a=some (exo a C none)∧vs.length≤1∧t { nx:=fun _ H'=>Q .non H',rt:=Q } (startF N (.ref a::vr) [some (.ref C)]) H1) I2 ?_
 ·rw [show starEach [e] (ncx CX P w K mg base N F f A outer s H E).env=[(false,eval e (ncx CX P w K mg base N F f A outer s H E).env)] from hst _] at hrun
  refine thn hrun fun uv s3 ⟨vs,H3,I3,r3,a3,l3,q3⟩=>⟨(I3.pin _ (List.mem_append_right _ (List.mem_cons_self ..))).1,?_⟩
  refine mw_call (X:=ncx CX P w K mg base N F f A outer s H E) hC I3 a3 (I3.pin _ (List.mem_append_right _ (List.mem_cons_self ..))).1 (by rw [List.nil_append,← r3.length,sizeLine_eq]; omega) fun s4 I4 => ?_
  have I5:=I4.pins_of (pins':=[]) fun p hp=>nomatch hp
  refine wpAt_of_wpAny (wpAny_mono (ht.run [] s4 _ H3 _ I5 q3) (fun fl s' hs => ?_) fun e s' hs=>hs)
  have fin:∀ {σ':L2.St}{H':Hp}{v:V}{u:Value},Inv (ncx CX P w K mg base N F f A outer s H E) [] σ' H' s'→L2.RelV v u→Q v H'→CE outer P w H s Q u s':=fun {σ' H' v u} J rv q=>⟨v,H',J.os,J.bare,J.base,J.hok,rv,q⟩
  cases fl with
  | ret u =>
   obtain⟨v,σ',H',J,rv,q⟩:=hs
   exact fin J rv q
  | next =>
   obtain⟨σ',H',J,q⟩:=hs
   exact fin (v:=V.non) (u:=Value.none) J rfl q
  | brk =>
   obtain⟨_,_,_,q⟩:=hs
   exact False.elim q
  | cont =>
   obtain⟨_,_,_,q⟩:=hs
   exact False.elim q
 ·exact hq
end
end NR
namespace NR
open PySem PySem.Spec PyProof.Rows L2
open LamX NdefX
def Sm (v:V):Prop:=(∃ i:Int,v=.int i∧i.natAbs < 10 ^ 6)∨∃ z:Str,v=.str z∧z.length≤100
theorem Sm.rd {v:V}(h:Sm v) {i:Nat}{σ:L2.St}{H:Hp}{Q:VK}(hs:σ[i]? = some (some v)) (q:∀ y:Str,y.length≤100→Q (.str y) H):tFmt (tVar i) σ H Q:=by
 refine⟨v,hs,?_⟩
 rcases h with⟨i,rfl,hi⟩ | ⟨z,rfl,hz⟩
 ·refine .inr ⟨i,rfl,?_,q _ ?_⟩
  ·by_cases h0:i.natAbs=0
   ·rw [h0]
    decide
   ·refine (Nat.log2_lt h0).mpr (Nat.lt_of_lt_of_le hi ?_)
    exact Nat.le_trans (show 10 ^ 6≤2 ^ 20 by decide) (Nat.pow_le_pow_right (by decide) (by decide))
  ·have h1:=int_text_length_le10 (a:=i) (k:=6) (by decide) hi
   have h2:(Str.ofString (toString i)).length=(toString i).length:=PySem.ofString_length _
   omega
 ·exact .inl ⟨z,rfl,le2 (by omega),q z hz⟩
theorem str_grow {a y:Str}{n:Nat}(h:a.length≤n) (h2:y.length≤100):(a++y).length≤n+100:=by
 rw [Str.length_append]
 omega
abbrev sBwInit:Stmt:=inClass (top 61) 0
abbrev nfBw (c cc:Addr):NF:=⟨"__init__", "BadWorth.__init__", defArgs sBwInit,defBody sBwInit,defScope sBwInit,[("__class__", cc)],c⟩
theorem scBw:NScope ["self", "number", "__class__"] ["self", "number"] ["__class__"] (defScope sBwInit):=nscope_by (by decide +kernel)
abbrev fsBw (v1:V):List (Str×V):=[("number", v1)]
def spBw (C:Addr):Sp:=fun vs H Q _=>∃ (a:Addr) (v1:V),vs=[.ref a,v1]∧Sm v1∧H a=some (exo a C none) ∧
 ∀ (H':Hp) (d:Addr),H d=none→d≠a→H' a=some (exo a C (some d))→H' d=some (exd d (fsBw v1))→(∀ b,b≠a→b≠d→H' b=H b)→Q .non H'
section
variable {P:Program}{w:World}{K:PySem.W.Frag}{mg:Str→Option Value}{base:Heap}{f c cc C:Addr}{fd:FuncData}{CX:CXT}
theorem ok_bwinit (M:SupF K P mg f (nfBw c cc) C cc fd) (T:OexC K C) (n1:PySem.W.findIn K (.ref C) "number" = some none):FnOk P w K mg base CX 1 f fd ["self", "number"] (spBw C):=by
 refine sup_fn (k:=0) M scBw rfl rfl rfl rfl (fun _=>rfl) (fun _=>rfl) (fun _=>rfl) (fun vs H Q E h => ?_) (fun A outer s H vs Q E hr h => ?_)
 ·obtain⟨a,v1,rfl,_⟩:=h
  rfl
 obtain⟨a,v1,rfl,m1,ha,q⟩:=h
 refine⟨_,_,a,_,pe_joined (.cons pe_str (.cons (pe_fmt (pv 1)) (.nil))),(pss_one (ps_ost (pv 0) (pv 1))),rfl,ha,?_⟩
 have g0:Str.empty.length≤0:=Nat.le_refl _
 have g1:=str_grow g0 (y := "worth ") (by decide)
 refine⟨_,rfl,le2 (Nat.le_trans g1 (by decide)),?_⟩
 refine m1.rd rfl fun y1 z1 => ?_
 have g2:=str_grow g1 z1
 refine⟨_,rfl,le2 (Nat.le_trans g2 (by decide)),?_⟩
 refine⟨ha,by show 1≤1; decide,?_⟩
 refine⟨_,rfl,_,rfl,a,C,rfl,T,n1,.inl ⟨ha,fun d hd nd => ?_⟩⟩
 have ea:upd (upd H d (exd d [("number", v1)])) a (exo a C (some d)) a=some (exo a C (some d)):=upd_same
 have ed:upd (upd H d (exd d [("number", v1)])) a (exo a C (some d)) d=some (exd d [("number", v1)]):=by rw [upd_ne nd,upd_same]
 have eo:∀ b,b≠a→b≠d→upd (upd H d (exd d [("number", v1)])) a (exo a C (some d)) b=H b:=fun b h1 h2=>by rw [upd_ne h1,upd_ne h2]
 generalize upd (upd H d (exd d [("number", v1)])) a (exo a C (some d))=H1 at ea ed eo ⊢
 exact q _ d hd nd ea ed eo
end
structure Oke (P:Program) (w:World) (K:PySem.W.Frag) (mg:Str→Option Value) (base:Heap) (k:Nat) (x:Str) (C:Addr) (ps:List Str) (sp:Sp):Prop where
 T:OexC K C
 ex:∃ fI fd,PySem.W.findIn K (.ref C) "__init__" = some (some (.ref fI))∧PySem.W.typeIn K (.ref fI)=some (.type "function")∧FnOk P w K mg base CX0 k fI fd ps sp∧Binds K fd ps []
 m:mg x=some (.ref C)
section
variable {X:Cx}{k:Nat}{x:Str}{C:Addr}{ps:List Str}{sp:Sp}{e:Expr}{es:List Expr}{ta:TA}{p pos:Pos}
theorem pmk_e (O:Oke X.prog X.w X.K X.mg X.base k x C ps sp) (hr:Room (k+1) X.A) (hg:Gl X x) (ha:PA X (e::es) ta) (hdb:(x == ("__debug__" : Str))=false:=by decide) (he:starEach (e::es) X.env=(false,eval e X.env)::starEach es X.env:=by rfl) (hpl:(backTo pos (starEach es X.env)).any (·.1)=false:=by rfl) :
  PMk X (.Call (.Name x p) (e::es) [] pos) (tMkO C sp [] ta):=by
 obtain⟨fI,fd,h1,h2,F,hb⟩:=O.ex
 exact pmk_oex O.T h1 h2 F hr hb .nil pass0 hg O.m ha hdb he hpl
end
theorem mk_bw {H:Hp}{C:Addr}{Q:XK}{v1:V}(m1:Sm v1) (q:∀ d,H d=none→Q (.ref C) (some d) (upd H d (.xd (fsBw v1)))) :
  ([v1]:List V).length≤1000∧∀ a,H a=none→spBw C (.ref a::([v1]++[])) (upd H a (exo a C none)) (fun v H2=>v=.non∧∃ (d:Addr) (fs:List (Str×V)),H2 a=some (exo a C (some d))∧H2 d=some (exd d fs)∧H d=none∧Q (.ref C) (some d) (upd (del H2 a) d (.xd fs))) (fun _ _ _=>False):=by
 refine⟨by show 1≤1000; decide,fun a ha=>⟨a,v1,rfl,m1,upd_same,fun H2 d hd nd e1 e2 e3=>⟨rfl,d,_,e1,e2,?_,?_⟩⟩⟩
 ·rw [upd_ne nd] at hd
  exact hd
 ·have hd':H d=none:=by
   rw [upd_ne nd] at hd
   exact hd
  have e:upd (del H2 a) d (.xd (fsBw v1))=upd H d (.xd (fsBw v1)):=by
   funext b
   by_cases h1:b=d
   ·rw [h1,upd_same,upd_same]
   ·rw [upd_ne h1,upd_ne h1]
    by_cases h2:b=a
    ·rw [h2,del_same,ha]
    ·rw [del_ne h2,e3 b h2 h1,upd_ne h2]
  rw [e]
  exact q d hd'
inductive Due
 | fn
 | wo (n:Nat)
def RefW (CW CF:Addr) (D:Due) (H:Hp) (E:XK):Prop:=match D with
 | .wo n=>∀ (H':Hp) (d:Addr),Same H H'→H' d=some (.xd (fsBw (.int (n:Int))))→E (.ref CW) (some d) H'
 | .fn=>∀ (H':Hp),Same H H'→E (.ref CF) none H'
theorem RefW.same {CW CF:Addr}{D:Due}{H H1:Hp}{E:XK}(r:RefW CW CF D H E) (s:Same H H1):RefW CW CF D H1 E:=by
 cases D with
 | fn=>exact fun H' s'=>r H' (s.trans s')
 | wo n=>exact fun H' d s'=>r H' d (s.trans s')
def TupA (H:Hp) (a:Addr) (xs:List V):Prop:=H a=some (.tup xs)∨∃ o,H a=some (.frz o (.tup xs))
theorem TupA.same {H H':Hp}{a:Addr}{xs:List V}(h:TupA H a xs) (s:Same H H'):TupA H' a xs:=h.imp (fun h=>s _ _ h) fun⟨o,h⟩=>⟨o,s _ _ h⟩
theorem TupA.ik {H H':Hp}{a:Addr}{xs:List V}(h:TupA H a xs) (s:IK H H'):TupA H' a xs:=h.imp (fun h=>s.t _ _ h) fun⟨o,h⟩=>⟨o,s.f _ _ _ h⟩
theorem TupA.sq {K:PySem.W.Frag}{H:Hp}{a:Addr}{xs:List V}(h:TupA H a xs):SqT K H a xs:=by
 rcases h with h | ⟨o,h⟩
 ·exact .inl (.inl h)
 ·exact .inl (.inr ⟨o,h⟩)
theorem TupA.ty {K:PySem.W.Frag}{H:Hp}{a:Addr}{xs:List V}(h:TupA H a xs):TyX K H (.ref a) (.type "tuple"):=by
 rcases h with h | ⟨o,h⟩
 ·exact .base (.tup h)
 ·exact .fTuple h
mutual
inductive Wh (H:Hp):Nat→V→Bool→Prop
 | good {d:Nat}{v:V}{wo:Wo}:WIn H v wo→WOk d wo→Wh H d v true
 | num {n:Int}:(n < 0∨10006 < n)→Wh H 0 (.int n) false
 | bl {b:Bool}:Wh H 0 (.bl b) false
 | tup0 {a:Addr}{xs:List V}:TupA H a xs→Wh H 0 (.ref a) false
 | int {d:Nat}{n:Int}:Wh H (d+1) (.int n) false
 | long {d:Nat}{a:Addr}{xs:List V}:TupA H a xs→40 < xs.length→Wh H (d+1) (.ref a) false
 | row {d:Nat}{a:Addr}{xs:List V}{bs:List Bool}:TupA H a xs→xs.length≤40→Whs H d xs bs→bs.all id=false→Wh H (d+1) (.ref a) false
inductive Whs (H:Hp):Nat→List V→List Bool→Prop
 | nil {d:Nat}:Whs H d [] []
 | cons {d:Nat}{v:V}{b:Bool}{vs:List V}{bs:List Bool}:Wh H d v b→Whs H d vs bs→Whs H d (v::vs) (b::bs)
end
mutual
theorem Wh.ik {H H':Hp}(s:IK H H'):∀ {d:Nat}{v:V}{b:Bool},Wh H d v b→Wh H' d v b
 | _,_,_,.good h1 h2=>.good (h1.mono s.t) h2
 | _,_,_,.num h=>.num h
 | _,_,_,.bl=>.bl
 | _,_,_,.tup0 h=>.tup0 (h.ik s)
 | _,_,_,.int=>.int
 | _,_,_,.long h l=>.long (h.ik s) l
 | _,_,_,.row h l hs e=>.row (h.ik s) l (hs.ik s) e
theorem Whs.ik {H H':Hp}(s:IK H H'):∀ {d:Nat}{vs:List V}{bs:List Bool},Whs H d vs bs→Whs H' d vs bs
 | _,_,_,.nil=>.nil
 | _,_,_,.cons h r=>.cons (h.ik s) (r.ik s)
end
theorem Whs.len {H:Hp}{d:Nat}:∀ {vs:List V}{bs:List Bool},Whs H d vs bs→bs.length=vs.length
 | _,_,.nil=>rfl
 | _,_,.cons _ r=>by simp [r.len]
theorem Whs.get {H:Hp}{d:Nat}:∀ {vs:List V}{bs:List Bool}{i:Nat}{v:V},Whs H d vs bs→vs[i]? = some v→∃ b,bs[i]? = some b∧Wh H d v b
 | _,_,0,_,.cons h _,e=>by cases e; exact⟨_,rfl,h⟩
 | _,_,i+1,_,.cons _ r,e=>r.get (i:=i) e
 | _,_,_,_,.nil,e=>by cases e
theorem Whs.app {H:Hp}{d:Nat}:∀ {vs us:List V}{bs cs:List Bool},Whs H d vs bs→Whs H d us cs→Whs H d (vs++us) (bs++cs)
 | _,_,_,_,.nil,h=>h
 | _,_,_,_,.cons h r,h2=>.cons h (r.app h2)
theorem whs_good {H:Hp}{d:Nat}:∀ {vs:List V}{ws:List Wo},WIns H vs ws→(∀ w∈ws,WOk d w)→Whs H d vs (List.replicate vs.length true)
 | _,_,.nil,_=>.nil
 | _,_,.cons h r,ok=>.cons (.good h (ok _ List.mem_cons_self)) (whs_good r fun w hw=>ok w (List.mem_cons_of_mem _ hw))
def spIsNumX:Sp:=fun vs H Q _=>∃ (v:V) (k:Int) (b:Bool),vs=[v,.int k]∧((∃ n,v=.int n∧b=(decide (0≤n) && decide (n≤k)))∨(∃ c,v=.bl c∧b=false)∨(∃ a xs,v=.ref a∧TupA H a xs∧b=false))∧Q (.bl b) H
section
variable {P:Program}{w:World}{K:PySem.W.Frag}{mg:Str→Option Value}{base:Heap}{f:Addr}{fd:FuncData}
theorem ok_isnumX (F:FnP K "is_number" sIsNumber f fd) (z_isinstance:mg "isinstance" = none) (z_int:mg "int" = none) (z_bool:mg "bool" = none):FnOk P w K mg base CX0 1 f fd ["value", "last"] spIsNumX:=by
 have sc:=scsIsNumber
 refine F.ok sc (fun vs H Q E h => ?_) (fun cdv A outer s H vs Q E hr h => ?_)
 ·obtain⟨v,k,b,rfl,_⟩:=h
  rfl
 obtain⟨v,k,b,rfl,c,q⟩:=h
 refine⟨_,(pss_cons (ps_if (PW.pt (pw_or (pt_not (pt_val (pe_callB (call_isiK K) rfl z_isinstance (by decide +kernel) (pa_cons (pv 0) (pa_cons (pe_bltn (v:=.ty "int") rfl z_int (by decide +kernel) rfl) pa_nil))))) (pw_or1 (pt_val (pe_callB (call_isiK K) rfl z_isinstance (by decide +kernel) (pa_cons (pv 0) (pa_cons (pe_bltn (v:=.ty "bool") rfl z_bool (by decide +kernel) rfl) pa_nil))))))) (pss_one (ps_ret pe_bl)) pss_nil)
  (pss_one (ps_ret (pe_chain op_le op_le pe_int (pv 0) (pv 1))))),?_⟩
 rcases c with⟨n,rfl,rfl⟩ | ⟨c,rfl,rfl⟩ | ⟨a,xs,rfl,ha,rfl⟩
 ·refine⟨_,rfl,_,_,_,_,_,rfl,.ty _,.base (.int n),kit_ty (r:=true) (by decide +kernel),_,rfl,?_⟩
  refine ite2 (fun z=>nomatch z) (fun _ => ?_)
  refine⟨_,rfl,_,_,_,_,_,rfl,.ty _,.base (.int n),kit_ty (r:=false) (by decide +kernel),_,rfl,?_⟩
  refine ite2 (fun z=>nomatch z) (fun _ => ?_)
  refine⟨_,rfl,_,_,rfl,rfl,_,rfl,?_⟩
  refine ite2 (fun c => ?_) (fun c => ?_)
  ·refine⟨_,rfl,_,_,rfl,rfl,?_⟩
   rw [c] at q
   exact q
  ·rw [Bool.eq_false_iff.mpr c] at q
   exact q
 ·refine⟨_,rfl,_,_,_,_,_,rfl,.ty _,.base (.bl c),kit_ty (r:=true) (by decide +kernel),_,rfl,?_⟩
  refine ite2 (fun z=>nomatch z) (fun _ => ?_)
  refine⟨_,rfl,_,_,_,_,_,rfl,.ty _,.base (.bl c),kit_ty (r:=true) (by decide +kernel),_,rfl,?_⟩
  exact ite2 (fun _=>q) (fun z=>absurd rfl z)
 ·refine⟨_,rfl,_,_,_,_,_,rfl,.ty _,ha.ty,kit_ty (r:=false) (by decide +kernel),_,rfl,?_⟩
  exact ite2 (fun _=>q) (fun z=>absurd rfl z)
end
def spWh (n:Nat):Sp:=fun vs H Q _=>∃ (v:V) (d:Nat) (b:Bool),vs=[v,.int (d:Int)]∧Wh H d v b∧d < n∧∀ H',Same H H'→Q (.bl b) H'
section
variable {P:Program}{w:World}{K:PySem.W.Frag}{mg:Str→Option Value}{base:Heap}{f:Addr}{fd:FuncData}
theorem ok_wh {k n:Nat}(F:FnP K "is_worth" sIsWorth f fd) (O_is_number:Okf P w K mg base CX0 k "is_number" ["value", "last"] spIsNumX) (O_is_worth:Okf P w K mg base CX0 k "is_worth" ["value", "depth"] (spWh n)) {t0 t1:Tok}(m_LAST_NUMBER:mg "LAST_NUMBER" = some (.int 10006 t0)) (m_MOST_ITEMS:mg "MOST_ITEMS" = some (.int 40 t1)) (z_isinstance:mg "isinstance" = none) (z_tuple:mg "tuple" = none) (z_len:mg "len" = none) (z_all:mg "all" = none):FnOk P w K mg base CX0 (k+1) f fd ["value", "depth"] (spWh (n+1)):=by
 have sc:=scsIsWorth
 refine F.ok sc (fun vs H Q E h => ?_) (fun cdv A outer s H vs Q E hr h => ?_)
 ·obtain⟨v,d,b,rfl,_⟩:=h
  rfl
 obtain⟨v,d,b,rfl,hv,hd,q⟩:=h
 refine⟨_,(pss_cons (ps_if (pt_cmpR op_eq (pv 1) pe_int (nomark _)) (pss_one (ps_ret (pe_c O_is_number hr rfl pass0 (pa_cons (pv 0) (pa_cons (pe_gI rfl m_LAST_NUMBER) pa_nil))))) pss_nil)
  (pss_cons (ps_if (PW.pt (pw_or (pt_not (pt_val (pe_callB (call_isiK K) rfl z_isinstance (by decide +kernel) (pa_cons (pv 0) (pa_cons (pe_bltn (v:=.ty "tuple") rfl z_tuple (by decide +kernel) rfl) pa_nil))))) (pw_or1 (pt_cmpR op_gt (pe_callB (call_lenK K) rfl z_len PySem.boot_len (pa_cons (pv 0) pa_nil)) (pe_gI rfl m_MOST_ITEMS) (nomark _))))) (pss_one (ps_ret pe_bl)) pss_nil)
  (pss_one (ps_ret (pe_callB (cr_allK K rfl) rfl z_all (by decide +kernel) (pa_cons (pe_lc (own:=[("item", 2)]) (by rfl) sc.nd (pi_tupK K (pv 0)) (blkOk_by (own:=[("item", 2)]) (N:=["value", "depth", "item"]) (sc:=defScope sIsWorth) (by decide +kernel)) (fun _ _ _ _ _=>(pg_name (i:=2) sc.nd rfl (.inl rfl))) (fun _ _ _ _ _=>pts_nil) (fun _ _ _ _ _=>(pe_c O_is_worth hr rfl pass0 (pa_cons (pv 2) (pa_cons (pe_op op_sub (pv 1) pe_int) pa_nil))))) pa_nil)))))),?_⟩
 refine⟨_,rfl,rfl,_,rfl,?_⟩
 cases d with
 | zero =>
  refine ite2 (fun _ => ?_) (fun z=>absurd rfl z)
  refine⟨_,rfl,v,10006,b,rfl,?_,q _ (Same.refl _)⟩
  cases hv with
  | good hv ok =>
   obtain⟨m,rfl,m0,m1⟩:=wok_num ok
   cases hv
   exact .inl ⟨m,rfl,by rw [decide_eq_true m0,decide_eq_true m1]; rfl⟩
  | @num n h =>
   refine .inl ⟨n,rfl,?_⟩
   rcases h with h | h
   ·rw [decide_eq_false (show ¬ (0:Int)≤n by omega)]; rfl
   ·rw [decide_eq_false (show ¬ n≤(10006:Int) by omega),Bool.and_false]
  | bl=>exact .inr (.inl ⟨_,rfl,rfl⟩)
  | tup0 h=>exact .inr (.inr ⟨_,_,rfl,h,rfl⟩)
 | succ d =>
  refine ite2 (fun z=>absurd (of_decide_eq_true z) (by intro z; injection z with z; omega)) (fun _ => ?_)
  have c:(∃ n,v=.int n∧b=false)∨∃ a xs,v=.ref a∧TupA H a xs∧((40 < xs.length∧b=false)∨(xs.length≤40∧∃ bs,Whs H d xs bs∧b=bs.all id)):=by
   cases hv with
   | good hv ok =>
    obtain⟨ws,rfl,l40,okw⟩:=wok_row ok
    cases hv with
    | @row a xs _ ha hw =>
     have hl:=hw.len
     exact .inr ⟨a,xs,rfl,.inl ha,.inr ⟨by omega,_,whs_good hw okw,by rw [allTrue]⟩⟩
   | int=>exact .inl ⟨_,rfl,rfl⟩
   | long h l=>exact .inr ⟨_,_,rfl,h,.inl ⟨l,rfl⟩⟩
   | row h l hs e=>exact .inr ⟨_,_,rfl,h,.inr ⟨l,_,hs,e.symm⟩⟩
  rcases c with⟨n,rfl,rfl⟩ | ⟨a,xs,rfl,ha,c⟩
  ·refine⟨_,rfl,_,_,_,_,_,rfl,.ty _,.base (.int n),kit_ty (r:=false) (by decide +kernel),_,rfl,?_⟩
   exact ite2 (fun _=>q _ (Same.refl _)) (fun z=>absurd rfl z)
  refine⟨_,rfl,_,_,_,_,_,rfl,.ty _,ha.ty,kit_ty (r:=true) (by decide +kernel),_,rfl,?_⟩
  refine ite2 (fun z=>nomatch z) (fun _ => ?_)
  refine⟨_,rfl,a,_,rfl,.inr ha.sq,_,_,rfl,rfl,_,rfl,?_⟩
  rcases c with⟨l,rfl⟩ | ⟨l40,bs,hs,rfl⟩
  ·exact ite2 (fun _=>q _ (Same.refl _)) (fun z=>absurd (decide_eq_true (by omega)) z)
  refine ite2 (fun z=>absurd (of_decide_eq_true z) (by omega)) (fun _ => ?_)
  have hl:=hs.len
  refine⟨_,rfl,a,rfl,⟨_,ha.sq⟩,fun D hD => ?_⟩
  refine lc_tup (K:=K) (a:=a) (xs:=xs) (fun i H'=>Same H H'∧H' D=some (.lst ((bs.take i).map V.bl))) ⟨same_new hD _,upd_same⟩ ?_ ?_ ?_
  ·rintro i H' _ ⟨s1,_⟩
   exact (ha.same s1).sq
  ·rintro i v H' hi ⟨s1,e1⟩
   obtain⟨b0,hb0,hv0⟩:=hs.get hi
   have hi':i < xs.length:=(List.getElem?_eq_some_iff.mp hi).1
   refine⟨rfl,?_⟩
   refine⟨_,rfl,_,rfl,_,_,rfl,rfl,v,d,b0,by show [v,V.int (((d+1:Nat):Int) - 1)]=_; congr 2; congr 1; omega,hv0.ik (IK.of s1),by omega,fun H2 s2 => ?_⟩
   refine⟨_,s2 _ _ e1,?_,same_over (s1.trans s2) hD,?_⟩
   ·rw [List.length_map,List.length_take]
    exact small1000 (by omega)
   ·rw [upd_same,List.take_add_one,hb0,List.map_append]
    rfl
  rintro H' ⟨s1,e1⟩
  rw [List.take_of_length_le (by omega)] at e1
  exact⟨D,_,rfl,SqL.of e1,q _ s1⟩
end
structure NfC (K:PySem.W.Frag) (mg:Str→Option Value) (CF:Addr):Prop where
 m:mg "NoFunction" = some (.ref CF)
 k:PySem.W.keepIn K (.ref CF)=true
 q:PySem.W.excIn K CF [.type "ValueError", .type "Exception", .type "BaseException", .type "object"] "ValueError.__new__" = true
 r1:PySem.W.subIn K (.ref CF) (.type "BaseException")=some true
 r2:PySem.W.typeIn K (.ref CF)=some (.type "type")
def spNoFnX (CF:Addr):Sp:=fun vs H Q E=>∃ (l:Addr) (xs:List V) (j:Int),vs=[.ref l,.int j]∧H l=some (.lst xs)∧(0≤j∧j < (xs.length:Int)→Q .non H)∧(¬ (0≤j∧j < (xs.length:Int))→E (.ref CF) none H)
section
variable {P:Program}{w:World}{K:PySem.W.Frag}{mg:Str→Option Value}{base:Heap}{f:Addr}{fd:FuncData}
theorem ok_nofnX {CF:Addr}{k:Nat}(F:FnP K "refuse_no_function" sRefuseNoFunction f fd) (N:NfC K mg CF) (O_is_number:Okf P w K mg base CX0 k "is_number" ["value", "last"] spIsNumX) (z_len:mg "len" = none):FnOk P w K mg base (CX P w) (k+1) f fd ["forms", "which"] (spNoFnX CF):=by
 have sc:=scsRefuseNoFunction
 refine F.ok sc (fun vs H Q E h => ?_) (fun cdv A outer s H vs Q E hr h => ?_)
 ·obtain⟨l,xs,j,rfl,_⟩:=h
  rfl
 obtain⟨l,xs,j,rfl,hl,q0,q1⟩:=h
 refine⟨_,(pss_one (ps_if (pt_not (pt_val (pe_c O_is_number hr rfl pass0 (pa_cons (pv 1) (pa_cons (pe_op op_sub (pe_callB (call_lenK K) rfl z_len PySem.boot_len (pa_cons (pv 0) pa_nil)) pe_int) pa_nil))))) (pss_one (ps_raise rfl (takes_of rfl rfl rfl rfl) (pmk_own PySem.F.excBase_ValueError N.q N.m N.k (raises_own N.r1 N.r2) rfl))) pss_nil)),?_⟩
 refine⟨_,rfl,_,rfl,l,_,rfl,.inl (SqL.of hl),_,_,rfl,rfl,.int j,(xs.length:Int) - 1,_,rfl,.inl ⟨j,rfl,rfl⟩,_,rfl,?_⟩
 refine ite2 (fun z=>q1 fun c => ?_) (fun z=>q0 ?_)
 ·rw [decide_eq_true c.1,decide_eq_true (show j≤(xs.length:Int) - 1 by omega)] at z
  cases z
 ·by_cases c1:0≤j <;> by_cases c2:j≤(xs.length:Int) - 1
  ·omega
  all_goals simp [c1,c2] at z
end
def WhAll (H:Hp) (ds:List Nat) (us:List V):Option Nat→Prop
 | none=>us.length=ds.length∧∀ (i d:Nat) (v:V),ds[i]? = some d→us[i]? = some v→Wh H d v true
 | some n=>n≤us.length∧n≤ds.length∧(n < us.length∨n < ds.length)∧(∀ (i d:Nat) (v:V),i < n→ds[i]? = some d→us[i]? = some v→Wh H d v true)∧∀ (d:Nat) (v:V),ds[n]? = some d→us[n]? = some v→Wh H d v false
theorem WhAll.ik {H H':Hp}{ds:List Nat}{us:List V}{o:Option Nat}(h:WhAll H ds us o) (s:IK H H'):WhAll H' ds us o:=by
 cases o with
 | none=>exact⟨h.1,fun i d v a b=>(h.2 i d v a b).ik s⟩
 | some n=>exact⟨h.1,h.2.1,h.2.2.1,fun i d v l a b=>(h.2.2.2.1 i d v l a b).ik s,fun d v a b=>(h.2.2.2.2 d v a b).ik s⟩
def RefO (CW CF:Addr) (H:Hp) (Q:VK) (E:XK):Option Nat→Prop
 | none=>∀ H',Same H H'→Q .non H'
 | some n=>RefW CW CF (.wo n) H E
def spBadWX (CW CF:Addr):Sp:=fun vs H Q E=>∃ (dl wl:Addr) (ds:List Nat) (us:List V) (o:Option Nat),vs=[.ref dl,.ref wl]∧H dl=some (.lst (ds.map dV))∧H wl=some (.lst us)∧WhAll H ds us o∧(∀ d∈ds,d≤3)∧ds.length≤100∧us.length≤100∧RefO CW CF H Q E o
section
variable {P:Program}{w:World}{K:PySem.W.Frag}{mg:Str→Option Value}{base:Heap}{f:Addr}{fd:FuncData}
theorem ok_badwX {CW CF:Addr}{k:Nat}(F:FnP K "refuse_bad_worths" sRefuseBadWorths f fd) (O_is_worth:Okf P w K mg base CX0 k "is_worth" ["value", "depth"] (spWh 4)) (X_BadWorth:Oke P w K mg base k "BadWorth" CW ["self", "number"] (spBw CW)) (z_range:mg "range" = none) (z_max:mg "max" = none) (z_len:mg "len" = none):FnOk P w K mg base (CX P w) (k+2) f fd ["depths", "worths"] (spBadWX CW CF):=by
 have sc:=scsRefuseBadWorths
 refine F.ok sc (fun vs H Q E h => ?_) (fun cdv A outer s H vs Q E hr h => ?_)
 ·obtain⟨dl,wl,ds,us,o,rfl,_⟩:=h
  rfl
 obtain⟨dl,wl,ds,us,o,rfl,hd,hw,ok,h3,h100,u100,q⟩:=h
 refine⟨_,((pss_one (ps_for (passes_of rfl) rfl (pi_range1 rfl z_range (pa_cons (pe_callB (call_max2 rfl) rfl z_max (by decide +kernel) (pa_cons (pe_callB (call_lenK K) rfl z_len PySem.boot_len (pa_cons (pv 0) pa_nil)) (pa_cons (pe_callB (call_lenK K) rfl z_len PySem.boot_len (pa_cons (pv 1) pa_nil)) pa_nil))) pa_nil)) (pg_name (i:=2) sc.nd rfl (.inl rfl)) (pss_cons (ps_if (PW.pt (pw_or (pt_cmpR op_ge (pv 2) (pe_callB (call_lenK K) rfl z_len PySem.boot_len (pa_cons (pv 1) pa_nil)) (nomark _)) (pw_or1 (pt_cmpR op_ge (pv 2) (pe_callB (call_lenK K) rfl z_len PySem.boot_len (pa_cons (pv 0) pa_nil)) (nomark _))))) (pss_one (ps_raise rfl (takes_of rfl rfl rfl rfl) (pmk_e X_BadWorth hr rfl (pa_cons (pv 2) pa_nil)))) pss_nil)
  (pss_one (ps_if (pt_not (pt_val (pe_c (O_is_worth.mono (Nat.le_succ k)) hr rfl pass0 (pa_cons (pe_ix (ix_listK K) (pv 1) (pv 2) (fun _ _=>rfl)) (pa_cons (pe_ix (ix_listK K) (pv 0) (pv 2) (fun _ _=>rfl)) pa_nil))))) (pss_one (ps_raise rfl (takes_of rfl rfl rfl rfl) (pmk_e X_BadWorth hr rfl (pa_cons (pv 2) pa_nil)))) pss_nil)))))),?_⟩
 refine⟨_,rfl,dl,_,rfl,.inl (SqL.of hd),_,rfl,wl,_,rfl,.inl (SqL.of hw),_,_,rfl,?_⟩
 have lm:(ds.map dV).length=ds.length:=List.length_map _
 obtain⟨mx,emx⟩:∃ mx:Nat,mx=max us.length ds.length:=⟨_,rfl⟩
 have em:(if ((us.length:Nat):Int) > (((ds.map dV).length:Nat):Int) then ((us.length:Nat):Int) else (((ds.map dV).length:Nat):Int))=(mx:Int):=by
  rw [lm]
  split <;> omega
 rw [em]
 refine⟨_,rfl,by omega,by omega,?_⟩
 have zi:∀ i:Nat,(0:Int)+(i:Int)=(i:Int):=fun i=>Int.zero_add _
 refine for_range (n:=mx) (fun i σ H'=>(∃ y,σ=[some (.ref dl),some (.ref wl),y])∧Same H H'∧∀ n,o=some n→i≤n) ⟨⟨none,rfl⟩,Same.refl _,fun n _=>Nat.zero_le _⟩ ?_ ?_
 ·rintro i σ H' hi ⟨⟨y,rfl⟩,s1,ni⟩
  have sl:SqL K H' wl us:=SqL.of (s1 _ _ hw)
  have sd:SqL K H' dl (ds.map dV):=SqL.of (s1 _ _ hd)
  have ok1:=ok.ik (IK.of s1)
  have bad:∀ {H2:Hp},Same H' H2→o=some i→_:=fun {H2} s2 eo=>mk_bw (H:=H2) (C:=CW) (Q:=E) (v1:=.int (0+(i:Int))) (.inl ⟨_,rfl,by rw [zi,Int.natAbs_natCast]; omega⟩) fun d hd=>by
   rw [eo] at q
   rw [zi]
   exact q _ d ((s1.trans s2).trans (same_new hd _)) upd_same
  refine⟨_,rfl,_,rfl,wl,_,rfl,.inl sl,_,_,rfl,rfl,_,rfl,?_⟩
  refine ite2 (fun z => ?_) (fun z => ?_)
  ·have z:=of_decide_eq_true z
   have eo:o=some i:=by
    cases o with
    | none=>have:=ok1.1; omega
    | some n=>have:=ok1.1; have:=ni n rfl; exact congrArg some (by omega)
   exact⟨_,rfl,bad (Same.refl _) eo⟩
  have iu:i < us.length:=Nat.lt_of_not_le fun c=>z (decide_eq_true (by omega))
  refine⟨_,rfl,_,rfl,dl,_,rfl,.inl sd,_,_,rfl,rfl,_,rfl,?_⟩
  refine ite2 (fun z => ?_) (fun z => ?_)
  ·have z:=of_decide_eq_true z
   rw [lm] at z
   have eo:o=some i:=by
    cases o with
    | none=>have:=ok1.1; omega
    | some n=>have:=ok1.2.1; have:=ni n rfl; exact congrArg some (by omega)
   exact⟨_,rfl,bad (Same.refl _) eo⟩
  have id:i < ds.length:=Nat.lt_of_not_le fun c=>z (decide_eq_true (by rw [lm]; omega))
  have e0:ds[i]? = some ds[i]:=List.getElem?_eq_getElem id
  have e3:us[i]? = some us[i]:=List.getElem?_eq_getElem iu
  have d4:ds[i] < 4:=by have:=h3 _ (List.getElem_mem id); omega
  generalize ds[i]=d at e0 d4
  generalize us[i]=v at e3
  obtain⟨b,hb,eb⟩:∃ b,Wh H' d v b∧(b=true→∀ n,o=some n→i+1≤n)∧(b=false→o=some i):=by
   cases o with
   | none=>exact⟨true,ok1.2 i d v e0 e3,(fun _ n z=>nomatch z),fun z=>nomatch z⟩
   | some n =>
    by_cases c:i < n
    ·exact⟨true,ok1.2.2.2.1 i d v c e0 e3,(fun _ m z=>by cases z; omega),fun z=>nomatch z⟩
    ·have:i=n:=by have:=ni n rfl; omega
     subst this
     exact⟨false,ok1.2.2.2.2 d v e0 e3,(fun z=>nomatch z),fun _=>rfl⟩
  refine⟨_,rfl,_,rfl,wl,_,_,_,rfl,by rw [zi],sl,atI_nat e3,_,rfl,_,rfl,dl,_,_,_,rfl,by rw [zi],sd,atI_nat (by rw [List.getElem?_map,e0]; rfl),v,d,b,rfl,hb,d4,fun H2 s2=>⟨_,rfl,?_⟩⟩
  cases b with
  | true=>exact ite2 (fun z=>nomatch z) (fun _=>⟨⟨_,rfl⟩,s1.trans s2,eb.1 rfl⟩)
  | false=>exact ite2 (fun _=>⟨_,rfl,bad s2 (eb.2 rfl)⟩) (fun z=>absurd rfl z)
 ·rintro σ H' ⟨_,s1,ni⟩
  cases o with
  | none=>exact q _ s1
  | some n =>
   have:=ni n rfl
   have:=ok.1
   have:=ok.2.1
   have:=ok.2.2.1
   omega
end
theorem PgIns.get {H:Hp}:∀ {vs fs}(_:PgIns H vs fs) (i:Nat) {v:V},vs[i]? = some v→∃ (a:Addr) (pz bz:V) (f:Fn),v=.ref a∧fs[i]? = some f∧H a=some (.tup [pz,dV f.d,bz])∧PtIn H pz f.ps∧TIn H bz f.e
 | _,_,.nil,i,_,h=>by simp at h
 | _,_,.cons h1 h2 h3 _,0,_,h=>by
  cases h
  exact⟨_,_,_,_,rfl,rfl,h1,h2,h3⟩
 | _,_,.cons _ _ _ r,i+1,v,h=>r.get i h
def spFaces (K:PySem.W.Frag):Sp:=fun vs H Q _=>∃ (a:Addr) (us:List V) (prog:List Fn),vs=[.ref a]∧H a=some (.tup us)∧PgIns H us prog∧Good prog∧1≤prog.length∧∀ (H':Hp) (l:Addr) (xs:List V),Same H H'→H' l=some (.lst xs)→FIns H' xs (facesOf prog)→Q (.ref l) H'
abbrev sToldFaces:Stmt:=top 77
theorem scsToldFaces:FnScope ["program", "told", "at", "function", "param"] ["program"] (defScope sToldFaces):=⟨rfl,rfl,rfl,by decide +kernel,rfl,by decide +kernel,by decide +kernel⟩
section
variable {P:Program}{w:World}{K:PySem.W.Frag}{mg:Str→Option Value}{base:Heap}{f:Addr}{fd:FuncData}
theorem ok_faces (F:FnP K "told_faces" sToldFaces f fd) (O_has_face:Okf P w K mg base CX0 3 "has_face" ["function"] (spHasFace K)) {t0:Tok}(m_MOST_FUNCTIONS:mg "MOST_FUNCTIONS" = some (.int 6 t0)) (z_len:mg "len" = none) (z_enumerate:mg "enumerate" = none) (z_tuple:mg "tuple" = none):FnOk P w K mg base CX0 4 f fd ["program"] (spFaces K):=by
 have sc:=scsToldFaces
 refine F.ok sc (fun vs H Q E h => ?_) (fun cdv A outer s H vs Q E hr h => ?_)
 ·obtain⟨a,us,prog,rfl,_⟩:=h
  rfl
 obtain⟨a,us,prog,rfl,ha,hp,good,h1,q⟩:=h
 have hl:=hp.len
 have few:=good.few
 refine⟨_,PSs.nox (pss_cons (ps_if (pt_cmpR op_eq (pe_callB (call_lenK K) rfl z_len PySem.boot_len (pa_cons (pv 0) pa_nil)) pe_int (nomark _)) (pss_one ps_never) pss_nil)
  (pss_cons (ps_set (i:=1) sc.nd rfl (.inl rfl) (pe_lst pa_nil))
  (pss_cons (ps_for PassesOwn.never rfl (pi_enumTK K rfl z_enumerate (pa_cons (pv 0) pa_nil)) (pg_tupK K (n:=2) rfl (pgs_cons (pg_name (i:=2) sc.nd rfl (.inl rfl)) (pgs_cons (pg_name (i:=3) sc.nd rfl (.inl rfl)) pgs_nil))) (pss_cons (ps_if (pt_cmpR op_ge (pv 2) (pe_gI rfl m_MOST_FUNCTIONS) (nomark _)) (pss_one ps_never) pss_nil)
  (pss_cons (ps_if (pt_not (pt_val (pe_c O_has_face hr rfl pass0 (pa_cons (pv 3) pa_nil)))) (pss_one ps_never) pss_nil)
  (pss_one (ps_expr (pe_bm PySem.F.plainAttrs_list PySem.F.slot_list_append PySem.F.type_list_append mt_append (pv 1) (pa_cons (pe_tup (pa_cons (pe_callTy (call_tupleK K) rfl z_tuple (by decide +kernel) (pa_cons (pe_lc (own:=[("param", 4)]) (by rfl) sc.nd (pi_tupK K (pe_ix (ix_tupK K) (pv 3) pe_int (fun _ _=>rfl))) (blkOk_by (own:=[("param", 4)]) (N:=["program", "told", "at", "function", "param"]) (sc:=defScope sToldFaces) (by decide +kernel)) (fun _ _ _ _ _=>(pg_name (i:=4) sc.nd rfl (.inl rfl))) (fun _ _ _ _ _=>pts_nil) (fun _ _ _ _ _=>(pe_ix (ix_tupK K) (pv 4) pe_int (fun _ _=>rfl)))) pa_nil)) (pa_cons (pe_ix (ix_tupK K) (pv 3) pe_int (fun _ _=>rfl)) pa_nil))) pa_nil)))))))
  (pss_one (ps_ret (pv 1)))))),?_⟩
 refine⟨_,rfl,a,_,rfl,.inr (SqT.of ha),rfl,_,rfl,?_⟩
 refine ite2 (fun z => ?_) (fun _ => ?_)
 ·have z1:V.int (us.length:Int)=V.int 0:=of_decide_eq_true z
  injection z1 with z1
  omega
 refine⟨by show 0≤sizeLine; decide,fun l hl0 => ?_⟩
 have s0:=same_new hl0 (.lst [])
 refine⟨_,rfl,a,us,rfl,SqT.of (s0 _ _ ha),for_it (walk_enumT (K:=K) (a:=a) (xs:=us)) (fun i σ H'=>∃ (xs:List V) (x1 x2 x3:Option V),σ=[some (.ref a),some (.ref l),x1,x2,x3]∧Same H H'∧H' l=some (.lst xs)∧FIns H' xs (facesOf (prog.take i))) ⟨[],none,none,none,rfl,s0,upd_same,.nil⟩ ?_ ?_ ?_⟩
 ·rintro i σ H' _ ⟨xs,x1,x2,x3,rfl,s1,_,_⟩
  exact SqT.of (s1 _ _ ha)
 ·rintro i x σ H1 H2 hi ⟨xs,x1,x2,x3,rfl,s1,g1,g2⟩ ⟨T,y,z,rfl,hT,rfl,e1,e2⟩
  cases e1
  obtain⟨fa,pz,bz,f0,rfl,e3,e4,e5,e6⟩:=hp.get i e2
  have sT:=same_new hT (.tup [.int (i:Nat),.ref fa])
  have s2:=s1.trans sT
  obtain⟨fo,_⟩:=good.fn i f0 e3
  have hxl:=g2.len
  have hip:i < prog.length:=by omega
  refine⟨T,_,rfl,SqT.of upd_same,rfl,_,_,rfl,_,_,rfl,rfl,?_⟩
  refine⟨_,rfl,_,_,rfl,rfl,_,rfl,?_⟩
  refine ite2 (fun z=>absurd (of_decide_eq_true z) (by omega)) (fun _ => ?_)
  refine⟨_,rfl,fa,pz,bz,f0.ps,f0.d,rfl,s2 _ _ e4,e5.mono (IK.of s2),fo,fun H3 s3=>⟨_,rfl,?_⟩⟩
  refine ite2 (fun z=>nomatch z) (fun _ => ?_)
  have s4:=s2.trans s3
  obtain⟨pt,o,vs,rfl,p1,p2,p3⟩:=(e5.mono (IK.of s4)).ex
  have hpl:=p3.len
  have fw:=fo.few
  have gl:=s3 _ _ (sT _ _ g1)
  refine⟨_,rfl,.inl ⟨rfl,_,SqL.of gl⟩,_,rfl,fa,_,_,_,rfl,rfl,SqT.of (s4 _ _ e4),rfl,pt,rfl,⟨_,SqT.frz p1⟩,fun D hD => ?_⟩
  refine lc_tup (K:=K) (a:=pt) (xs:=vs) (fun i H'=>H'=upd H3 D (.lst ((f0.ps.take i).map fun p=>dV p.2))) rfl ?_ ?_ ?_
  ·rintro i H' _ rfl
   exact SqT.frz (same_new hD _ _ _ p1)
  ·rintro j v H' hj rfl
   obtain⟨ea,xx,dd,rfl,r1,r2⟩:=p3.get j hj
   have hj':j < vs.length:=(List.getElem?_eq_some_iff.mp hj).1
   refine⟨rfl,?_⟩
   refine⟨_,rfl,ea,_,_,_,rfl,rfl,SqT.of (same_new hD _ _ _ r2),rfl,_,upd_same,?_,?_⟩
   ·rw [List.length_map,List.length_take]
    exact small1000 (by omega)
   ·rw [upd_upd,List.take_add_one,r1,List.map_append]
    rfl
  rintro H' rfl
  rw [hpl,List.take_length]
  have sD:=same_new hD (.lst (f0.ps.map fun p=>dV p.2))
  refine⟨D,_,rfl,.inl ⟨SqL.of upd_same,fun t1 ht1 => ?_⟩⟩
  have s5:=same_new ht1 (.tup (f0.ps.map fun p=>dV p.2))
  have s6:=s4.trans (sD.trans s5)
  refine⟨_,rfl,fa,_,_,_,rfl,rfl,SqT.of (s6 _ _ e4),rfl,by show 2≤sizeLine; decide,fun t2 ht2 => ?_⟩
  have s7:=same_new ht2 (.tup [.ref t1,dV f0.d])
  have s8:=(sD.trans s5).trans s7
  have gl8:=s8 _ _ gl
  have hxs:xs.length≤6:=by
   rw [hxl]
   unfold facesOf
   rw [List.length_map,List.length_take]
   omega
  refine⟨l,xs,_,rfl,rfl,gl8,small1000 (by omega),xs++[.ref t2],_,_,_,rfl,?_,upd_same,?_⟩
  ·intro b o hb
   rw [upd_ne (ne_of_none hb hl0)]
   exact s8 _ _ (s4 _ _ hb)
  ·have kk:=TK.lst (ys:=xs++[.ref t2]) gl8
   have e9:facesOf (prog.take (i+1))=facesOf (prog.take i)++[(f0.ps.map (·.2),f0.d)]:=by
    unfold facesOf
    rw [List.take_add_one,e3,List.map_append]
    rfl
   rw [e9]
   refine FIns.snoc (kk _ _ upd_same) (kk _ _ ?_) (((g2.mono (TK.of sT)).mono (TK.of s3)).mono ((TK.of s8).trans kk))
   rw [List.map_map]
   exact s7 _ _ upd_same
 ·rintro σ H' ⟨xs,x1,x2,x3,rfl,s1,g1,g2⟩
  rw [List.take_of_length_le (by omega)] at g2
  exact⟨_,rfl,q _ _ _ s1 g1 g2⟩
end
def fmF (nl dl:Addr) (b:V):List (Str×V):=[("names", .ref nl),("depths", .ref dl),("body", b)]
theorem fmF_depths {nl dl b}:(fmF nl dl b).lookup ("depths" : Str)=some (.ref dl):=by rfl
structure FmC (K:PySem.W.Frag) (C:Addr):Prop where
 cl:Cls K C
 names:NoAttr K C "names"
 depths:NoAttr K C "depths"
 body:NoAttr K C "body"
def spForm (C:Addr):Sp:=fun vs H Q _=>∃ (a dx nl dl:Addr) (b:V),vs=[.ref a,.ref nl,.ref dl,b]∧H a=some (.ins C dx [])∧Q .non (upd H a (.ins C dx (fmF nl dl b)))
structure FmIn (H:Hp) (G:Addr→Prop) (CF CN:Addr) (fn:Int) (v:V) (ps:List (Int×Nat)) (nd:Nd):Prop where
 ex:∃ (a dx nl dl:Addr) (b:V),v=.ref a∧G a∧G nl∧G dl∧H a=some (.ins CF dx (fmF nl dl b))∧H nl=some (.lst (ps.map fun p=>.int p.1))∧H dl=some (.lst (ps.map fun p=>dV p.2))∧NdIn H G CN fn b nd
theorem FmIn.keep {H H':Hp}{G G':Addr→Prop}{CF CN:Addr}{fn:Int}{v:V}{ps:List (Int×Nat)} {nd:Nd}(h:FmIn H G CF CN fn v ps nd) (g:∀ b,G b→G' b) (s:∀ b o,G b→H b=some o→H' b=some o):FmIn H' G' CF CN fn v ps nd:=by
 obtain⟨a,dx,nl,dl,b,e,g1,g2,g3,h1,h2,h3,h4⟩:=h.ex
 exact⟨a,dx,nl,dl,b,e,g _ g1,g _ g2,g _ g3,s _ _ g1 h1,s _ _ g2 h2,s _ _ g3 h3,h4.keep g s⟩
abbrev sFormInit:Stmt:=inClass (top 73) 0
theorem scsFormInit:FnScope ["self", "names", "depths", "body"] ["self", "names", "depths", "body"] (defScope sFormInit):=⟨rfl,rfl,rfl,by decide +kernel,rfl,by decide +kernel,by decide +kernel⟩
section
variable {P:Program}{w:World}{K:PySem.W.Frag}{mg:Str→Option Value}{base:Heap}{f:Addr}{fd:FuncData}
theorem ok_form {C:Addr}(F:FnM K "__init__" "Form.__init__" sFormInit f fd) (N:FmC K C):FnOk P w K mg base CX0 1 f fd ["self", "names", "depths", "body"] (spForm C):=by
 have sc:=scsFormInit
 refine F.ok sc (fun vs H Q E h => ?_) (fun cdv A outer s H vs Q E hr h => ?_)
 ·obtain⟨a,dx,nl,dl,b,rfl,_⟩:=h
  rfl
 obtain⟨a,dx,nl,dl,b,rfl,ha,q⟩:=h
 refine⟨_,(pss_cons (ps_fldK K (pv 0) (pv 1) rfl)
  (pss_cons (ps_fldK K (pv 0) (pv 2) rfl)
  (pss_one (ps_fldK K (pv 0) (pv 3) rfl)))),?_⟩
 refine⟨_,rfl,_,rfl,a,C,dx,_,rfl,ha,N.cl,N.names,by decide,?_⟩
 refine⟨_,rfl,_,rfl,a,C,dx,_,rfl,upd_same,N.cl,N.depths,by show 1 < 1000; decide,?_⟩
 rw [upd_upd]
 refine⟨_,rfl,_,rfl,a,C,dx,_,rfl,upd_same,N.cl,N.body,by show 2 < 1000; decide,?_⟩
 rw [upd_upd]
 exact q
end
def spFormOf (K:PySem.W.Frag) (CF CN:Addr):Sp:=fun vs H Q _=>∃ (a l:Addr) (i:Nat) (pz bz:V) (f:Fn) (xs:List V) (fs:List (List Nat×Nat)) (nd:Nd),vs=[.ref a,.int (i:Int),.ref l]∧H a=some (.tup [pz,dV f.d,bz])∧PtIn H pz f.ps∧TIn H bz f.e∧FaceOk f.ps f.d∧H l=some (.lst xs)∧FIns H xs fs ∧
 An (fs.take (i+1)) (envOf f.ps) 0 f.e nd∧nd.d=f.d∧f.e.size≤60∧f.e.hgt≤13∧f.e.selfs i≤1∧∀ (H':Hp) (v:V),Same H H'→FmIn H' (New H) CF CN i v f.ps nd→Q v H'
theorem envOf_some {ps:List (Int×Nat)} {x:Int}{d:Nat}(h:envOf ps x=some d):(x,d)∈ps:=by
 unfold envOf at h
 cases e:ps.find? fun p=>decide (p.1=x) with
 | none =>
  rw [e] at h
  cases h
 | some p =>
  rw [e] at h
  cases h
  have h1:=List.mem_of_find?_eq_some e
  have h2:p.1=x:=by simpa using List.find?_some e
  rw [← h2]
  exact h1
abbrev sFormOf:Stmt:=top 78
theorem scsFormOf:FnScope ["function", "at", "told", "params", "depth", "body", "look", "node", "param"] ["function", "at", "told"] (defScope sFormOf):=⟨rfl,rfl,rfl,by decide +kernel,rfl,by decide +kernel,by decide +kernel⟩
section
variable {P:Program}{w:World}{K:PySem.W.Frag}{mg:Str→Option Value}{base:Heap}{f:Addr}{fd:FuncData}
theorem ok_formof {k:Nat}{CL CF CN:Addr}(F:FnP K "form_of" sFormOf f fd) (NL:LkC K CL) (NF:FmC K CF) (ND:NdC K CN) (C_Look:Okc P w K mg base CX0 k "Look" CL ["self", "known", "function"] (spLook CL)) (C_Form:Okc P w K mg base CX0 k "Form" CF ["self", "names", "depths", "body"] (spForm CF))
  (M_node_of:Okm P w K mg base CX0 (k+1) CL "node_of" ["self", "expression", "names", "within"] (spNodeOf CL CN 13)) (M_refuse_if:Okm P w K mg base CX0 (k+1) CL "refuse_if" ["self", "wrong", "place", "word"] spRefuse) (z_dict:mg "dict" = none):FnOk P w K mg base CX0 (k+2) f fd ["function", "at", "told"] (spFormOf K CF CN):=by
 have sc:=scsFormOf
 refine F.ok sc (fun vs H Q E h => ?_) (fun cdv A outer s H vs Q E hr h => ?_)
 ·obtain⟨a,l,i,pz,bz,f0,xs,fs,nd,rfl,_⟩:=h
  rfl
 have hu:=hu_of hr
 obtain⟨a,l,i,pz,bz,f0,xs,fs,nd,rfl,ha,hp,ti,fo,hl,hf,an,hd,hz,hh,hs,q⟩:=h
 obtain⟨pt,o,vs,rfl,p1,p2,p3⟩:=hp.ex
 have fw:=fo.few
 have hpl:=p3.len
 refine⟨_,(pss_cons (ps_asg (pv 0) (pg_tupK K (n:=3) rfl (pgs_cons (pg_name (i:=3) sc.nd rfl (.inl rfl)) (pgs_cons (pg_name (i:=4) sc.nd rfl (.inl rfl)) (pgs_cons (pg_name (i:=5) sc.nd rfl (.inl rfl)) pgs_nil)))))
  (pss_cons (ps_set (i:=6) sc.nd rfl (.inl rfl) (pe_mk C_Look hr rfl pass0 (pa_cons (pv 2) (pa_cons (pv 1) pa_nil))))
  (pss_cons (ps_set (i:=7) sc.nd rfl (.inl rfl) (pe_m M_node_of (pv 6) hr pass0 (pa_cons (pv 5) (pa_cons (pe_callTy (call_dictT K rfl) rfl z_dict (by decide +kernel) (pa_cons (pv 3) pa_nil)) (pa_cons pe_int pa_nil)))))
  (pss_cons (ps_expr (pe_m M_refuse_if (pv 6) hr pass0 (pa_cons (pe_cmpR op_ne (pe_fldK K (pv 7) rfl) (pv 4) (nomark _)) (pa_cons pe_int (pa_cons pe_str pa_nil)))))
  (pss_one (ps_ret (pe_mk C_Form hr rfl pass0 (pa_cons (pe_lc (own:=[("param", 8)]) (by rfl) sc.nd (pi_tupK K (pv 3)) (blkOk_by (own:=[("param", 8)]) (N:=["function", "at", "told", "params", "depth", "body", "look", "node", "param"]) (sc:=defScope sFormOf) (by decide +kernel)) (fun _ _ _ _ _=>(pg_name (i:=8) sc.nd rfl (.inl rfl))) (fun _ _ _ _ _=>pts_nil) (fun _ _ _ _ _=>(pe_ix (ix_tupK K) (pv 8) pe_int (fun _ _=>rfl)))) (pa_cons (pe_lc (own:=[("param", 8)]) (by rfl) sc.nd (pi_tupK K (pv 3)) (blkOk_by (own:=[("param", 8)]) (N:=["function", "at", "told", "params", "depth", "body", "look", "node", "param"]) (sc:=defScope sFormOf) (by decide +kernel)) (fun _ _ _ _ _=>(pg_name (i:=8) sc.nd rfl (.inl rfl))) (fun _ _ _ _ _=>pts_nil) (fun _ _ _ _ _=>(pe_ix (ix_tupK K) (pv 8) pe_int (fun _ _=>rfl)))) (pa_cons (pv 7) pa_nil)))))))))),?_⟩
 refine⟨_,rfl,a,_,rfl,SqT.of ha,rfl,_,_,rfl,_,_,rfl,_,_,rfl,rfl,?_⟩
 refine⟨_,rfl,_,rfl,fun lo ldx nlo nldx nne=>⟨lo,ldx,l,i,rfl,upd_same,rfl,?_⟩⟩
 rw [upd_upd]
 generalize eH1:upd (upd H ldx (.own lo)) lo (.ins CL ldx (lkF l i 0 false))=H1
 have s1:Same H H1:=fun b' o' hb=>by
  rw [← eH1,upd_ne (ne_of_none hb nlo),upd_ne (ne_of_none hb nldx)]
  exact hb
 have g1:H1 lo=some (.ins CL ldx (lkF l i 0 false)):=by rw [← eH1,upd_same]
 have L1:LkIn H1 CL lo ldx l i 0 false fs:=⟨g1,xs,s1 _ _ hl,hf.mono (TK.of s1)⟩
 obtain⟨as,eas,prd⟩:=(p3.mono (TK.of s1)).paired (K:=K)
 refine⟨_,rfl,lo,ldx,_,rfl,g1,lkF_no (by decide +kernel),_,rfl,_,rfl,pt,o,as,_,rfl,by rw [← eas]; exact s1 _ _ p1,p2,prd,fun m hm => ?_⟩
 rw [show mergeK [] (f0.ps.map kvOf)=f0.ps.map kvOf from mergeK_kn (acc:=[]) fo.nd]
 have s2:=same_new hm (.dK (f0.ps.map kvOf))
 have em:upd H1 m (.dK (f0.ps.map kvOf)) m=some (.dK (f0.ps.map kvOf)):=upd_same
 generalize upd H1 m (.dK (f0.ps.map kvOf))=H2 at s2 em ⊢
 have hnm:Nm H2 m (envOf f0.ps):=⟨f0.ps,em,fo.nd,fun p hp=>⟨(fo.lo p hp).1,(fo.lo p hp).2.1⟩,fun x d h=>envOf_some h⟩
 refine⟨lo,ldx,l,m,bz,i,0,false,0,fs,envOf f0.ps,f0.e,nd,rfl,L1.same s2,(ti.mono (TK.of s1)).mono (TK.of s2),hnm,an,hh,by omega,by omega,by simpa using hs,fun H3 v3 s3 g3 nd3 => ?_⟩
 have s12:=s1.trans s2
 have n20:∀ b,New H2 b→New H b:=fun b h=>Same.new s12 h
 have sN:Same H H3:=fun b' o' hb=>s3 _ _ (ne_of_none hb nlo) (s12 _ _ hb)
 obtain⟨na,nadx,nafs,rfl,i1,i2⟩:∃ ea edx efs,v3=.ref ea∧H3 ea=some (.ins CN edx efs)∧efs.lookup ("depth" : Str)=some (.int (nd.d:Int)):=by
  cases nd3 with
  | mk _ _ i1 i2 i3=>exact⟨_,_,_,rfl,i1,ndF_depth⟩
 have c5:(!decide (V.int (nd.d:Int)=dV f0.d))=false:=by rw [hd,show decide (V.int (f0.d:Int)=dV f0.d)=true from decide_eq_true rfl]; rfl
 refine⟨_,rfl,lo,ldx,_,rfl,g3,lkF_no (by decide +kernel),_,rfl,na,CN,nadx,_,_,rfl,i1,ND.cl,ND.depth,i2,_,rfl,rfl,.ref lo,.int 0,.str "depth", by rw [c5]; rfl,?_⟩
 
 have p1':=sN _ _ p1
 have p3':=p3.mono (TK.of sN)
 refine⟨_,rfl,pt,rfl,⟨_,SqT.frz p1'⟩,fun D hD => ?_⟩
 refine lc_tup (K:=K) (a:=pt) (xs:=vs) (fun i H'=>H'=upd H3 D (.lst ((f0.ps.take i).map fun p=>.int p.1))) rfl ?_ ?_ ?_
 ·rintro i H' _ rfl
  exact SqT.frz (same_new hD _ _ _ p1')
 ·rintro j v H' hj rfl
  obtain⟨ea,xx,dd,rfl,r1,r2⟩:=p3'.get j hj
  have hj':j < vs.length:=(List.getElem?_eq_some_iff.mp hj).1
  refine⟨rfl,?_⟩
  refine⟨_,rfl,ea,_,_,_,rfl,rfl,SqT.of (same_new hD _ _ _ r2),rfl,_,upd_same,?_,?_⟩
  ·rw [List.length_map,List.length_take]
   exact small1000 (by omega)
  ·rw [upd_upd,List.take_add_one,r1,List.map_append]
   rfl
 rintro H' rfl
 rw [hpl,List.take_length]
 have sD:=same_new hD (.lst (f0.ps.map fun p=>.int p.1))
 have eD:upd H3 D (.lst (f0.ps.map fun p=>.int p.1)) D=some (.lst (f0.ps.map fun p=>.int p.1)):=upd_same
 generalize upd H3 D (.lst (f0.ps.map fun p=>.int p.1))=H4 at sD eD ⊢
 have p1'':=sD _ _ p1'
 have p3'':=p3'.mono (TK.of sD)
 refine⟨_,rfl,pt,rfl,⟨_,SqT.frz p1''⟩,fun D2 hD2 => ?_⟩
 refine lc_tup (K:=K) (a:=pt) (xs:=vs) (fun i H'=>H'=upd H4 D2 (.lst ((f0.ps.take i).map fun p=>dV p.2))) rfl ?_ ?_ ?_
 ·rintro i H' _ rfl
  exact SqT.frz (same_new hD2 _ _ _ p1'')
 ·rintro j v H' hj rfl
  obtain⟨ea,xx,dd,rfl,r1,r2⟩:=p3''.get j hj
  have hj':j < vs.length:=(List.getElem?_eq_some_iff.mp hj).1
  refine⟨rfl,?_⟩
  refine⟨_,rfl,ea,_,_,_,rfl,rfl,SqT.of (same_new hD2 _ _ _ r2),rfl,_,upd_same,?_,?_⟩
  ·rw [List.length_map,List.length_take]
   exact small1000 (by omega)
  ·rw [upd_upd,List.take_add_one,r1,List.map_append]
   rfl
 rintro H' rfl
 rw [hpl,List.take_length]
 have sD2:=same_new hD2 (.lst (f0.ps.map fun p=>dV p.2))
 have eD2:upd H4 D2 (.lst (f0.ps.map fun p=>dV p.2)) D2=some (.lst (f0.ps.map fun p=>dV p.2)):=upd_same
 generalize upd H4 D2 (.lst (f0.ps.map fun p=>dV p.2))=H5 at sD2 eD2 ⊢
 refine⟨_,rfl,fun fo' fdx nfo nfdx nfe=>⟨fo',fdx,D,D2,.ref na,rfl,upd_same,rfl,?_⟩⟩
 rw [upd_upd]
 generalize eH6:upd (upd H5 fdx (.own fo')) fo' (.ins CF fdx (fmF D D2 (.ref na)))=H6
 have s6:Same H5 H6:=fun b' o' hb=>by
  rw [← eH6,upd_ne (ne_of_none hb nfo),upd_ne (ne_of_none hb nfdx)]
  exact hb
 have s36:=(sD.trans sD2).trans s6
 have n30:∀ b,New H3 b→New H b:=fun b h=>Same.new sN h
 refine q _ _ (sN.trans s36) ⟨fo',fdx,D,D2,.ref na,rfl,n30 _ (Same.new (sD.trans sD2) nfo),n30 _ hD,n30 _ (Same.new sD hD2),by rw [← eH6,upd_same],s6 _ _ (sD2 _ _ eD),s6 _ _ eD2,(nd3.keep n20 fun _ _ _ h=>h).same s36⟩
end
inductive FmIns (H:Hp) (G:Addr→Prop) (CF CN:Addr):Nat→List V→List (List (Int×Nat)×Nd)→Prop
 | nil {i:Nat}:FmIns H G CF CN i [] []
 | cons {i:Nat}{v:V}{vs:List V}{f:List (Int×Nat)×Nd}{fs:List (List (Int×Nat)×Nd)}:FmIn H G CF CN i v f.1 f.2→FmIns H G CF CN (i+1) vs fs→FmIns H G CF CN i (v::vs) (f::fs)
theorem FmIns.keep {H H':Hp}{G G':Addr→Prop}{CF CN:Addr}(g:∀ b,G b→G' b) (s:∀ b o,G b→H b=some o→H' b=some o):∀ {i:Nat}{vs:List V}{fs:List (List (Int×Nat)×Nd)},FmIns H G CF CN i vs fs→FmIns H' G' CF CN i vs fs
 | _,_,_,.nil=>.nil
 | _,_,_,.cons h r=>.cons (h.keep g s) (FmIns.keep g s r)
theorem FmIns.len {H:Hp}{G:Addr→Prop}{CF CN:Addr}:∀ {i:Nat}{vs:List V}{fs:List (List (Int×Nat)×Nd)},FmIns H G CF CN i vs fs→vs.length=fs.length
 | _,_,_,.nil=>rfl
 | _,_,_,.cons _ r=>congrArg (·+1) r.len
theorem FmIns.snoc {H:Hp}{G:Addr→Prop}{CF CN:Addr}{v:V}{f:List (Int×Nat)×Nd}:∀ {i:Nat}{vs:List V}{fs:List (List (Int×Nat)×Nd)},FmIns H G CF CN i vs fs→FmIn H G CF CN ((i+fs.length:Nat):Int) v f.1 f.2→FmIns H G CF CN i (vs++[v]) (fs++[f])
 | i,_,_,.nil,h=>.cons (by simpa using h) .nil
 | i,_,_,.cons (fs:=fs) h0 r,h=>.cons h0 (r.snoc (by
   have e:i+1+fs.length=i+(fs.length+1):=by omega
   rw [e]
   exact h))
theorem FmIns.get {H:Hp}{G:Addr→Prop}{CF CN:Addr}:∀ {i:Nat}{vs:List V}{fs:List (List (Int×Nat)×Nd)} (_:FmIns H G CF CN i vs fs) (j:Nat) {v:V},vs[j]? = some v→∃ f,fs[j]? = some f∧FmIn H G CF CN ((i+j:Nat):Int) v f.1 f.2
 | _,_,_,.nil,j,_,h=>by simp at h
 | i,_,_,.cons h1 _,0,_,h=>by
  cases h
  exact⟨_,rfl,h1⟩
 | i,_,_,.cons _ r,j+1,v,h=>by
  obtain⟨f,e1,e2⟩:=r.get j h
  refine⟨f,e1,?_⟩
  have e:i+1+j=i+(j+1):=by omega
  rw [e] at e2
  exact e2
structure Nds (prog:List Fn) (fm:List (List (Int×Nat)×Nd)):Prop where
 len:fm.length=prog.length
 at_:∀ (i:Nat) (f:Fn),prog[i]? = some f→∃ nd,fm[i]? = some (f.ps,nd)∧An ((facesOf prog).take (i+1)) (envOf f.ps) 0 f.e nd∧nd.d=f.d
theorem Good.nds {prog:List Fn}(g:Good prog):∃ fm,Nds prog fm:=by
 have key:∀ n,n≤prog.length→∃ fm:List (List (Int×Nat)×Nd),fm.length=n∧∀ (i:Nat) (f:Fn),i < n→prog[i]? = some f→∃ nd,fm[i]? = some (f.ps,nd)∧An ((facesOf prog).take (i+1)) (envOf f.ps) 0 f.e nd∧nd.d=f.d:=by
  intro n
  induction n with
  | zero=>exact fun _=>⟨[],rfl,fun i f h=>by omega⟩
  | succ n ih =>
   intro hn
   obtain⟨fm,e1,e2⟩:=ih (by omega)
   have hf:=List.getElem?_eq_getElem (show n < prog.length by omega)
   obtain⟨_,ty,_⟩:=g.fn n _ hf
   obtain⟨nd,a1,a2⟩:=ty.an 0
   refine⟨fm++[(prog[n].ps,nd)],by rw [List.length_append,e1]; rfl,fun i f hi h => ?_⟩
   by_cases c:i < n
   ·obtain⟨nd',h1,h2⟩:=e2 i f c h
    exact⟨nd',by rw [List.getElem?_append_left (by omega)]; exact h1,h2⟩
   ·have ei:i=n:=by omega
    subst ei
    rw [hf] at h
    cases h
    refine⟨nd,by rw [List.getElem?_append_right (by omega),e1,Nat.sub_self]; rfl,?_,a2⟩
    have e3:(facesOf prog).take (i+1)=facesOf (prog.take (i+1)):=by unfold facesOf; rw [List.map_take]
    rw [e3]
    exact a1
 obtain⟨fm,e1,e2⟩:=key prog.length (Nat.le_refl _)
 exact⟨fm,e1,fun i f h=>e2 i f (List.getElem?_eq_some_iff.mp h).1 h⟩
def spForms (K:PySem.W.Frag) (CF CN:Addr):Sp:=fun vs H Q _=>∃ (a:Addr) (us:List V) (prog:List Fn) (fm:List (List (Int×Nat)×Nd)),vs=[.ref a]∧H a=some (.tup us)∧PgIns H us prog∧Good prog∧1≤prog.length∧Nds prog fm∧∀ (H':Hp) (l:Addr) (xs:List V),Same H H'→H' l=some (.lst xs)→FmIns H' NT CF CN 0 xs fm→Q (.ref l) H'
abbrev sFormsOf:Stmt:=top 79
theorem scsFormsOf:FnScope ["program", "told", "at", "function"] ["program"] (defScope sFormsOf):=⟨rfl,rfl,rfl,by decide +kernel,rfl,by decide +kernel,by decide +kernel⟩
section
variable {P:Program}{w:World}{K:PySem.W.Frag}{mg:Str→Option Value}{base:Heap}{f:Addr}{fd:FuncData}
theorem ok_forms {k:Nat}{CF CN:Addr}(F:FnP K "forms_of" sFormsOf f fd) (O_told_faces:Okf P w K mg base CX0 k "told_faces" ["program"] (spFaces K)) (O_form_of:Okf P w K mg base CX0 k "form_of" ["function", "at", "told"] (spFormOf K CF CN)) (z_enumerate:mg "enumerate" = none):FnOk P w K mg base CX0 (k+1) f fd ["program"] (spForms K CF CN):=by
 have sc:=scsFormsOf
 refine F.ok sc (fun vs H Q E h => ?_) (fun cdv A outer s H vs Q E hr h => ?_)
 ·obtain⟨a,us,prog,fm,rfl,_⟩:=h
  rfl
 obtain⟨a,us,prog,fm,rfl,ha,hp,good,h1,nds,q⟩:=h
 have hl:=hp.len
 have few:=good.few
 refine⟨_,(pss_cons (ps_set (i:=1) sc.nd rfl (.inr rfl) (pe_c O_told_faces hr rfl pass0 (pa_cons (pv 0) pa_nil)))
  (pss_one (ps_ret (pe_lc (own:=[("at", 2),("function", 3)]) (by rfl) sc.nd (pi_enumTK K rfl z_enumerate (pa_cons (pv 0) pa_nil)) (blkOk_by (own:=[("at", 2),("function", 3)]) (N:=["program", "told", "at", "function"]) (sc:=defScope sFormsOf) (by decide +kernel)) (fun _ _ _ _ _=>(pg_tupK K (n:=2) rfl (pgs_cons (pg_name (i:=2) sc.nd rfl (.inl rfl)) (pgs_cons (pg_name (i:=3) sc.nd rfl (.inl rfl)) pgs_nil)))) (fun _ _ _ _ _=>pts_nil) (fun _ _ _ _ _=>(pe_c O_form_of hr rfl pass0 (pa_cons (pv 3) (pa_cons (pv 2) (pa_cons (pv 1) pa_nil))))))))),?_⟩
 refine⟨_,rfl,a,us,prog,rfl,ha,hp,good,h1,fun H1 l xs s1 g1 g2 => ?_⟩
 refine⟨_,rfl,a,us,rfl,SqT.of (s1 _ _ ha),fun D hD => ?_⟩
 have sD:=same_new hD (.lst [])
 refine lc_it (walk_enumT (K:=K) (a:=a) (xs:=us)) (fun i H'=>∃ acc,Same H1 H'∧H' D=some (.lst acc)∧FmIns H' (·≠D) CF CN 0 acc (fm.take i)) ⟨[],sD,upd_same,.nil⟩ ?_ ?_ ?_
 ·rintro i H' _ ⟨acc,s2,_,_⟩
  exact SqT.of (s2 _ _ (s1 _ _ ha))
 ·rintro i x H2 H3 hi ⟨acc,s2,e1,e2⟩ ⟨T,y,z,rfl,hT,rfl,c1,c2⟩
  cases c1
  obtain⟨fa,pz,bz,f0,rfl,e3,e4,e5,e6⟩:=hp.get i c2
  obtain⟨fo,ty,hs,hz,hh⟩:=good.fn i f0 e3
  obtain⟨nd,m1,m2,m3⟩:=nds.at_ i f0 e3
  have sT:=same_new hT (.tup [.int (i:Nat),.ref fa])
  have s3:=(s1.trans s2).trans sT
  have hal:=e2.len
  rw [List.length_take] at hal
  refine⟨T,_,rfl,SqT.of upd_same,rfl,_,_,rfl,_,_,rfl,rfl,rfl,?_⟩
  refine⟨_,rfl,_,rfl,_,rfl,fa,l,i,pz,bz,f0,xs,facesOf prog,nd,rfl,s3 _ _ e4,e5.mono (IK.of s3),e6.mono (TK.of s3),fo,sT _ _ (s2 _ _ g1),(g2.mono (TK.of s2)).mono (TK.of sT),m2,m3,hz,hh,hs,fun H4 v4 s4 f4 => ?_⟩
  have eD4:=s4 _ _ (sT _ _ e1)
  refine⟨acc,eD4,small1000 (by omega),acc++[v4],fun b o hb => ?_,upd_same,?_⟩
  ·rw [upd_ne (ne_of_none hb hD)]
   exact s4 _ _ (sT _ _ (s2 _ _ hb))
  ·have e9:fm.take (i+1)=fm.take i++[(f0.ps,nd)]:=by rw [List.take_add_one,m1]; rfl
   rw [e9]
   have eD3:=sT _ _ e1
   have n1:∀ b,New (upd H2 T (.tup [.int (i:Nat),.ref fa])) b→b≠D:=fun b h=>h.ne eD3
   have fl:(fm.take i).length=i:=by
    rw [List.length_take,nds.len]
    omega
   refine (FmIns.snoc (e2.keep (fun _ h=>h) fun b o _ hb=>s4 _ _ (sT _ _ hb)) (f:=(f0.ps,nd)) (v:=v4) ?_).keep (fun _ h=>h) fun b o nb hb=>by rw [upd_ne nb]; exact hb
   rw [fl,Nat.zero_add]
   exact f4.keep n1 fun _ _ _ h=>h
 ·rintro H' ⟨acc,s2,e1,e2⟩
  rw [List.take_of_length_le (by rw [nds.len]; omega)] at e2
  exact q _ _ _ (s1.trans s2) e1 (e2.keep (fun _ _=>trivial) fun _ _ _ h=>h)
end
theorem pss_never {X:Cx}:∀ {b:List Stmt},PSs X b tNever
 | []=>⟨fun _ _ _ _ _ _ h=>h.elim⟩
 | _::_=>⟨fun _ _ _ _ _ _ h=>h.elim⟩
structure PrI (H:Hp) (pa:Addr) (fm:List (List (Int×Nat)×Nd)):Prop where
 ex:∃ (us:List V) (prog:List Fn),H pa=some (.tup us)∧PgIns H us prog∧Good prog∧1≤prog.length∧Nds prog fm∧fm.length=prog.length
structure MnX (H:Hp) (g:List (Int×Nat)×Nd) (mls:List V) (n:Nat):Prop where
 d3:∀ q∈g.1,q.2≤3
 d4:g.1.length≤4
 ex:∃ k:Nat,(∀ i v,i < k→mls[i]? = some v→∃ wl uw,v=.ref wl∧H wl=some (.lst uw)∧uw.length≤100∧WhAll H (g.1.map (·.2)) uw none) ∧
  ∃ wl uw,mls[k]? = some (.ref wl)∧H wl=some (.lst uw)∧uw.length≤100∧WhAll H (g.1.map (·.2)) uw (some n)
def FnNo (fm:List (List (Int×Nat)×Nd)) (j:Int):Prop:=¬ (0≤j∧j < (fm.length:Int))
def BadM (H:Hp) (fm:List (List (Int×Nat)×Nd)) (j:Int) (ml:Addr):Due→Prop
 | .fn=>FnNo fm j
 | .wo n=>∃ (i:Nat) (g:List (Int×Nat)×Nd) (mls:List V),j=(i:Int)∧fm[i]? = some g∧H ml=some (.lst mls)∧MnX H g mls n
def BadO (H:Hp) (fm:List (List (Int×Nat)×Nd)) (j:Int) (wl:Addr):Due→Prop
 | .fn=>FnNo fm j
 | .wo n=>∃ (i:Nat) (g:List (Int×Nat)×Nd) (uw:List V),j=(i:Int)∧fm[i]? = some g∧H wl=some (.lst uw)∧uw.length≤100∧WhAll H (g.1.map (·.2)) uw (some n)∧(∀ q∈g.1,q.2≤3)∧g.1.length≤4
def spRunX (CW CF:Addr):Sp:=fun vs H _ E=>∃ (pa wl:Addr) (j:Int) (fm:List (List (Int×Nat)×Nd)) (D:Due),vs=[.ref pa,.int j,.ref wl]∧PrI H pa fm∧BadO H fm j wl D∧RefW CW CF D H E
def spManyX (CW CF:Addr):Sp:=fun vs H _ E=>∃ (pa ml:Addr) (j:Int) (fm:List (List (Int×Nat)×Nd)) (D:Due),vs=[.ref pa,.int j,.ref ml]∧PrI H pa fm∧BadM H fm j ml D∧RefW CW CF D H E
theorem BadO.many {H H':Hp}{fm:List (List (Int×Nat)×Nd)} {j:Int}{wl ml:Addr}{D:Due}{us:List V}(h:BadO H fm j wl D) (s:Same H H') (e:H' ml=some (.lst (.ref wl::us))):BadM H' fm j ml D:=by
 cases D with
 | fn=>exact h
 | wo n =>
  obtain⟨i,g,uw,h1,h2,h3,h4,h5,h6,h7⟩:=h
  exact⟨i,g,_,h1,h2,e,h6,h7,0,fun i v hi=>absurd hi (by omega),wl,uw,rfl,s _ _ h3,h4,h5.ik (IK.of s)⟩
theorem PrI.same {H H':Hp}{pa:Addr}{fm:List (List (Int×Nat)×Nd)} (h:PrI H pa fm) (s:Same H H'):PrI H' pa fm:=by
 obtain⟨us,prog,h1,h2,h3⟩:=h.ex
 exact⟨us,prog,s _ _ h1,h2.mono (IK.of s),h3⟩
theorem BadO.same {H H':Hp}{fm:List (List (Int×Nat)×Nd)} {j:Int}{wl:Addr}{D:Due}(h:BadO H fm j wl D) (s:Same H H'):BadO H' fm j wl D:=by
 cases D with
 | fn=>exact h
 | wo n =>
  obtain⟨i,g,uw,h1,h2,h3,h4,h5,h6⟩:=h
  exact⟨i,g,uw,h1,h2,s _ _ h3,h4,h5.ik (IK.of s),h6⟩
theorem MnX.same {H H':Hp}{g:List (Int×Nat)×Nd}{mls:List V}{n:Nat}(h:MnX H g mls n) (s:Same H H'):MnX H' g mls n:=by
 obtain⟨k,h1,wl,uw,h2,h3,h4,h5⟩:=h.ex
 refine⟨h.d3,h.d4,k,fun i v hi hv => ?_,wl,uw,h2,s _ _ h3,h4,h5.ik (IK.of s)⟩
 obtain⟨wl,uw,a,b,c,d⟩:=h1 i v hi hv
 exact⟨wl,uw,a,s _ _ b,c,d.ik (IK.of s)⟩
theorem BadM.same {H H':Hp}{fm:List (List (Int×Nat)×Nd)} {j:Int}{wl:Addr}{D:Due}(h:BadM H fm j wl D) (s:Same H H'):BadM H' fm j wl D:=by
 cases D with
 | fn=>exact h
 | wo n =>
  obtain⟨i,g,uw,h1,h2,h3,h4⟩:=h
  exact⟨i,g,uw,h1,h2,s _ _ h3,h4.same s⟩
abbrev sRun:Stmt:=top 86
theorem scsRun:FnScope ["program", "which", "worths", "forms", "going"] ["program", "which", "worths"] (defScope sRun):=⟨rfl,rfl,rfl,by decide +kernel,rfl,by decide +kernel,by decide +kernel⟩
abbrev sGoodForms:Stmt:=top 122
theorem scsGoodForms:FnScope ["program", "which", "many", "forms", "worths"] ["program", "which", "many"] (defScope sGoodForms):=⟨rfl,rfl,rfl,by decide +kernel,rfl,by decide +kernel,by decide +kernel⟩
abbrev sRunAll:Stmt:=top 125
theorem scsRunAll:FnScope ["program", "which", "many", "forms", "form"] ["program", "which", "many"] (defScope sRunAll):=⟨rfl,rfl,rfl,by decide +kernel,rfl,by decide +kernel,by decide +kernel⟩
abbrev sRunFlat:Stmt:=top 126
theorem scsRunFlat:FnScope ["program", "which", "worths", "told", "steps", "work", "taken", "deepest"] ["program", "which", "worths"] (defScope sRunFlat):=⟨rfl,rfl,rfl,by decide +kernel,rfl,by decide +kernel,by decide +kernel⟩
abbrev sRunTrimmed:Stmt:=top 131
theorem scsRunTrimmed:FnScope ["program", "which", "worths", "forms", "code", "answer", "form"] ["program", "which", "worths"] (defScope sRunTrimmed):=⟨rfl,rfl,rfl,by decide +kernel,rfl,by decide +kernel,by decide +kernel⟩
section
variable {P:Program}{w:World}{K:PySem.W.Frag}{mg:Str→Option Value}{base:Heap}{f:Addr}{fd:FuncData}
theorem ok_runX {CW CNf CF CN:Addr}{k:Nat}(F:FnP K "run" sRun f fd) (FC:FmC K CF) (O_forms_of:Okf P w K mg base CX0 k "forms_of" ["program"] (spForms K CF CN)) (O_refuse_no_function:Okf P w K mg base (CX P w) k "refuse_no_function" ["forms", "which"] (spNoFnX CNf)) (O_refuse_bad_worths:Okf P w K mg base (CX P w) k "refuse_bad_worths" ["depths", "worths"] (spBadWX CW CNf)):FnOk P w K mg base (CX P w) (k+1) f fd ["program", "which", "worths"] (spRunX CW CNf):=by
 have sc:=scsRun
 refine F.ok sc (fun vs H Q E h => ?_) (fun cdv A outer s H vs Q E hr h => ?_)
 ·obtain⟨pa,wl,j,fm,D,rfl,_⟩:=h
  rfl
 obtain⟨pa,wl,j,fm,D,rfl,pr,bad,rf⟩:=h
 obtain⟨us,prog,hpa,hpg,good,l1,nds,lf⟩:=pr.ex
 have hp:∀ (t:Due),_:=fun t=>passes_call (X:=cxOf (CX P w) P w K mg base ["program", "which", "worths", "forms", "going"] "run" (defScope sRun) f cdv A outer s H E) (takes_of rfl rfl rfl rfl) (fun _ _ _ _ h=>h)
 refine⟨_,(pss_cons (ps_set (i:=3) sc.nd rfl (.inl rfl) (pe_c O_forms_of hr rfl pass0 (pa_cons (pv 0) pa_nil)))
  (pss_cons (ps_expr (pe_c O_refuse_no_function hr rfl (passes_call (takes_of rfl rfl rfl rfl) (fun _ _ _ _ h=>h)) (pa_cons (pv 3) (pa_cons (pv 1) pa_nil))))
  (pss_cons (ps_expr (pe_c O_refuse_bad_worths hr rfl (passes_call (takes_of rfl rfl rfl rfl) (fun _ _ _ _ h=>h)) (pa_cons (pe_fldK K (pe_ix (ix_listK K) (pv 3) (pv 1) (fun _ _=>rfl)) rfl) (pa_cons (pv 2) pa_nil))))
  pss_never))),?_⟩
 refine⟨_,rfl,pa,us,prog,fm,rfl,hpa,hpg,good,l1,nds,fun H1 l xs s1 hl hfm => ?_⟩
 have lx:=hfm.len
 refine⟨_,rfl,_,rfl,l,xs,j,rfl,hl,fun c => ?_,fun c => ?_⟩
 ·cases D with
  | fn=>exact absurd (by rw [← lx]; exact c) bad
  | wo n =>
   obtain⟨i,g,uw,rfl,hg,hwl,u100,wh,d3,g4⟩:=bad
   have il:i < xs.length:=by omega
   have e1:xs[i]? = some xs[i]:=List.getElem?_eq_getElem il
   generalize xs[i]=v at e1
   obtain⟨g',eg,fi⟩:=hfm.get i e1
   rw [hg] at eg
   cases eg
   obtain⟨fa,fx,nl,dl,b,rfl,g1,g2,g3,i1,i2,i3,i4⟩:=fi.ex
   refine⟨_,rfl,_,rfl,l,_,_,_,rfl,rfl,SqL.of hl,atI_nat e1,fa,CF,fx,_,_,rfl,i1,FC.cl,FC.depths,fmF_depths,_,rfl,dl,wl,g.1.map (·.2),uw,some n,rfl,by rw [List.map_map]; exact i3,s1 _ _ hwl,wh.ik (IK.of s1),fun d hd => ?_,by rw [List.length_map]; omega,u100,rf.same s1⟩
   obtain⟨p,hp,rfl⟩:=List.mem_map.mp hd
   exact d3 p hp
 ·cases D with
  | fn=>exact rf _ s1
  | wo n =>
   obtain⟨i,g,uw,rfl,hg,_⟩:=bad
   have:=(List.getElem?_eq_some_iff.mp hg).1
   omega
theorem ok_goodX {CW CNf CF CN:Addr}{k:Nat}(F:FnP K "good_forms" sGoodForms f fd) (FC:FmC K CF) (O_forms_of:Okf P w K mg base CX0 k "forms_of" ["program"] (spForms K CF CN)) (O_refuse_no_function:Okf P w K mg base (CX P w) k "refuse_no_function" ["forms", "which"] (spNoFnX CNf)) (O_refuse_bad_worths:Okf P w K mg base (CX P w) k "refuse_bad_worths" ["depths", "worths"] (spBadWX CW CNf)):FnOk P w K mg base (CX P w) (k+1) f fd ["program", "which", "many"] (spManyX CW CNf):=by
 have sc:=scsGoodForms
 refine F.ok sc (fun vs H Q E h => ?_) (fun cdv A outer s H vs Q E hr h => ?_)
 ·obtain⟨pa,ml,j,fm,D,rfl,_⟩:=h
  rfl
 obtain⟨pa,ml,j,fm,D,rfl,pr,bad,rf⟩:=h
 obtain⟨us,prog,hpa,hpg,good,l1,nds,lf⟩:=pr.ex
 refine⟨_,(pss_cons (ps_set (i:=3) sc.nd rfl (.inl rfl) (pe_c O_forms_of hr rfl pass0 (pa_cons (pv 0) pa_nil)))
  (pss_cons (ps_expr (pe_c O_refuse_no_function hr rfl (passes_call (takes_of rfl rfl rfl rfl) (fun _ _ _ _ h=>h)) (pa_cons (pv 3) (pa_cons (pv 1) pa_nil))))
  (pss_cons (ps_for (passes_of rfl) rfl (pi_listK K (pv 2)) (pg_name (i:=4) sc.nd rfl (.inl rfl)) (pss_one (ps_expr (pe_c O_refuse_bad_worths hr rfl (passes_call (takes_of rfl rfl rfl rfl) (fun _ _ _ _ h=>h)) (pa_cons (pe_fldK K (pe_ix (ix_listK K) (pv 3) (pv 1) (fun _ _=>rfl)) rfl) (pa_cons (pv 4) pa_nil))))))
  pss_never))),?_⟩
 refine⟨_,rfl,pa,us,prog,fm,rfl,hpa,hpg,good,l1,nds,fun H1 l xs s1 hl hfm => ?_⟩
 have lx:=hfm.len
 refine⟨_,rfl,_,rfl,l,xs,j,rfl,hl,fun c => ?_,fun c => ?_⟩
 ·cases D with
  | fn=>exact absurd (by rw [← lx]; exact c) bad
  | wo n =>
   obtain⟨i,g,mls,rfl,hg,hml,mn⟩:=bad
   have il:i < xs.length:=by omega
   have e1:xs[i]? = some xs[i]:=List.getElem?_eq_getElem il
   generalize xs[i]=v at e1
   obtain⟨g',eg,fi⟩:=hfm.get i e1
   rw [hg] at eg
   cases eg
   obtain⟨fa,fx,nl,dl,b,rfl,g1,g2,g3,i1,i2,i3,i4⟩:=fi.ex
   obtain⟨k9,ahead,wl9,uw9,ek9,hwl9,u9,wh9⟩:=mn.ex
   have kl:k9 < mls.length:=(List.getElem?_eq_some_iff.mp ek9).1
   refine⟨_,rfl,ml,rfl,⟨_,SqL.of (s1 _ _ hml)⟩,for_list (K:=K) (a:=ml) (xs:=mls) (fun t σ H'=>(∃ y,σ=[some (.ref pa),some (.int (i:Int)),some (.ref ml),some (.ref l),y])∧Same H1 H'∧t≤k9) ⟨⟨_,rfl⟩,fun _ _ h=>h,Nat.zero_le _⟩ ?_ ?_ ?_⟩
   ·rintro t σ H' _ ⟨_,s',_⟩
    exact SqL.of (s' _ _ (s1 _ _ hml))
   ·rintro t v σ H' hi ⟨⟨y,rfl⟩,s',tk⟩
    have s2:=s1.trans s'
    obtain⟨wl,uw,o,rfl,hwl,u100,wh,eo⟩:∃ wl uw o,v=.ref wl∧H wl=some (.lst uw)∧uw.length≤100∧WhAll H (g.1.map (·.2)) uw o∧((o=none∧t+1≤k9)∨o=some n):=by
     by_cases c:t < k9
     ·obtain⟨wl,uw,a,b,c',d⟩:=ahead t v c hi
      exact⟨wl,uw,none,a,b,c',d,.inl ⟨rfl,c⟩⟩
     ·have:t=k9:=by omega
      subst this
      rw [hi] at ek9
      cases ek9
      exact⟨wl9,uw9,some n,rfl,hwl9,u9,wh9,.inr rfl⟩
    refine⟨_,rfl,_,rfl,l,_,_,_,rfl,rfl,SqL.of (s' _ _ hl),atI_nat e1,fa,CF,fx,_,_,rfl,s' _ _ i1,FC.cl,FC.depths,fmF_depths,_,rfl,dl,wl,g.1.map (·.2),uw,o,rfl,by rw [List.map_map]; exact s' _ _ i3,s2 _ _ hwl,wh.ik (IK.of s2),fun d hd => ?_,by rw [List.length_map]; have:=mn.d4; omega,u100,?_⟩
    ·obtain⟨p,hp,rfl⟩:=List.mem_map.mp hd
     exact mn.d3 p hp
    ·rcases eo with⟨rfl,c⟩ | rfl
     ·exact fun H2 s3=>⟨⟨_,rfl⟩,s'.trans s3,c⟩
     ·exact rf.same s2
   ·rintro σ H' ⟨_,s',tk⟩
    omega
 ·cases D with
  | fn=>exact rf _ s1
  | wo n =>
   obtain⟨i,g,uw,rfl,hg,_⟩:=bad
   have:=(List.getElem?_eq_some_iff.mp hg).1
   omega
theorem ok_runallX {CW CNf:Addr}{k:Nat}(F:FnP K "run_all" sRunAll f fd) (O_good:Okf P w K mg base (CX P w) k "good_forms" ["program", "which", "many"] (spManyX CW CNf)):FnOk P w K mg base (CX P w) (k+1) f fd ["program", "which", "many"] (spManyX CW CNf):=by
 have sc:=scsRunAll
 refine F.ok sc (fun vs H Q E h => ?_) (fun cdv A outer s H vs Q E hr h => ?_)
 ·obtain⟨pa,ml,j,fm,D,rfl,_⟩:=h
  rfl
 refine⟨_,(pss_cons (ps_set (i:=3) sc.nd rfl (.inl rfl) (pe_c O_good hr rfl (passes_call (takes_of rfl rfl rfl rfl) (fun _ _ _ _ h=>h)) (pa_cons (pv 0) (pa_cons (pv 1) (pa_cons (pv 2) pa_nil))))) pss_never),?_⟩
 obtain⟨pa,ml,j,fm,D,rfl,pr,bad,rf⟩:=h
 exact⟨_,rfl,_,rfl,_,rfl,pa,ml,j,fm,D,rfl,pr,bad,rf⟩
theorem ok_runflatX {CW CNf:Addr}{k:Nat}(F:FnP K "run_flat" sRunFlat f fd) (O_all:Okf P w K mg base (CX P w) k "run_all" ["program", "which", "many"] (spManyX CW CNf)):FnOk P w K mg base (CX P w) (k+1) f fd ["program", "which", "worths"] (spRunX CW CNf):=by
 have sc:=scsRunFlat
 refine F.ok sc (fun vs H Q E h => ?_) (fun cdv A outer s H vs Q E hr h => ?_)
 ·obtain⟨pa,wl,j,fm,D,rfl,_⟩:=h
  rfl
 obtain⟨pa,wl,j,fm,D,rfl,pr,bad,rf⟩:=h
 refine⟨_,(pss_cons (ps_asg (pe_c O_all hr rfl (passes_call (takes_of rfl rfl rfl rfl) (fun _ _ _ _ h=>h)) (pa_cons (pv 0) (pa_cons (pv 1) (pa_cons (pe_lst (pa_cons (pv 2) pa_nil)) pa_nil)))) (pg_tupK K (n:=5) rfl (pgs_cons (pg_name (i:=3) sc.nd rfl (.inl rfl)) (pgs_cons (pg_name (i:=4) sc.nd rfl (.inl rfl)) (pgs_cons (pg_name (i:=5) sc.nd rfl (.inl rfl)) (pgs_cons (pg_name (i:=6) sc.nd rfl (.inl rfl)) (pgs_cons (pg_name (i:=7) sc.nd rfl (.inl rfl)) pgs_nil))))))) pss_never),?_⟩
 refine⟨_,rfl,_,rfl,_,rfl,by show 1≤sizeLine; decide,fun ml hml => ?_⟩
 have s1:=same_new hml (.lst [.ref wl])
 exact⟨pa,ml,j,fm,D,rfl,pr.same s1,bad.many s1 upd_same,rf.same s1⟩
theorem ok_runtrimX {CW CNf:Addr}{k:Nat}(F:FnP K "run_trimmed" sRunTrimmed f fd) (O_good:Okf P w K mg base (CX P w) k "good_forms" ["program", "which", "many"] (spManyX CW CNf)):FnOk P w K mg base (CX P w) (k+1) f fd ["program", "which", "worths"] (spRunX CW CNf):=by
 have sc:=scsRunTrimmed
 refine F.ok sc (fun vs H Q E h => ?_) (fun cdv A outer s H vs Q E hr h => ?_)
 ·obtain⟨pa,wl,j,fm,D,rfl,_⟩:=h
  rfl
 obtain⟨pa,wl,j,fm,D,rfl,pr,bad,rf⟩:=h
 refine⟨_,(pss_cons (ps_set (i:=3) sc.nd rfl (.inl rfl) (pe_c O_good hr rfl (passes_call (takes_of rfl rfl rfl rfl) (fun _ _ _ _ h=>h)) (pa_cons (pv 0) (pa_cons (pv 1) (pa_cons (pe_lst (pa_cons (pv 2) pa_nil)) pa_nil))))) pss_never),?_⟩
 refine⟨_,rfl,_,rfl,_,rfl,by show 1≤sizeLine; decide,fun ml hml => ?_⟩
 have s1:=same_new hml (.lst [.ref wl])
 exact⟨pa,ml,j,fm,D,rfl,pr.same s1,bad.many s1 upd_same,rf.same s1⟩
end
end NR
namespace NR
open PySem PySem.Spec PyProof.Rows L2 LamX NdefX
def rIsA (K:PySem.W.Frag) (a:Addr) (cls:Value) (d:Option Addr):List V→Hp→VK→Prop:=fun xs H Q=>∃ (D:Addr) (c:V) (cv:Value) (b:Bool),cls=.ref D∧(d=none∨∃ (dd:Addr) (fs:List (Str×V)),d=some dd∧H dd=some (.xd fs))∧ExcC K D∧xs=[.ref a,c]∧(∀ u,RelV c u→u=cv)∧PySem.W.kitOne K (.ref D) cv=some b∧Q (.bl b) H
theorem call_isA {X:Cx}{a:Addr}{oe:Obj}{cls:Value}{d:Option Addr}{pn:List (Addr×Obj)} (hz:Zc cls d oe) (hf:∃ vs,oe.data=.fields vs):CallR (X.suite a ((a,oe)::pn)) (.builtin "isinstance") (rIsA X.K a cls d):=by
 intro pins s σ H xs us Q I r h
 obtain⟨D,c,cv,b,rfl,hd,C,rfl,hcv,e,q⟩:=h
 rcases hd with rfl | ⟨dd,fs,rfl,ea⟩
 ·exact call_isE C hz hf pins s σ H _ us Q I r ⟨c,cv,b,rfl,hcv,e,q⟩
 cases r with
 | cons rx rr =>
  cases rr with
  | cons rt rr =>
   cases rr
   cases rx
   have ec:=hcv _ rt
   subst ec
   obtain⟨ha,_⟩:=I.pin (a,oe) (List.mem_append.mpr (.inl List.mem_cons_self))
   obtain⟨vs,hd⟩:=hf
   have hx:ObjOk X.prog X.w H s.heap dd (.xd fs):=I.hok dd _ ea
   obtain⟨mA,hns,hr⟩:=hx
   obtain⟨od,ho,hl⟩:=lookIn_ns hns
   have J:PySem.W.InstAt s.heap a oe D (some od):=⟨ha,hz.1,by unfold PySem.W.notCls; rw [hd] <;> rfl,by rw [hz.2]; exact ho⟩
   have hcl:(PySem.W.clsIn X.K D).isSome=true:=by
    obtain⟨cd,hc,_⟩:=PySem.W.any_some C.hd
    rw [hc]
    rfl
   exact PySem.W.kia_one (PySem.W.kitx_exc (gt:=none) hcl C.hg C.hk C.hs C.ha C.hn C.ht C.hm) I.kIn J e (fun z=>nomatch z) fun tk=>⟨.bl b,H,I.kept (t':=tk) fun _ _ z=>z,rfl,q⟩
def isT (v:Value):Bool:=match v with
 | .bool b=>b == true
 | _=>false
def rCntB (K:PySem.W.Frag):V→List V→Hp→VK→Prop:=fun x xs H Q=>∃ (p:Addr) (bs:List Bool),x=.ref p∧xs=[.bl true]∧SqL K H p (bs.map V.bl)∧Q (.int (bs.count true:Nat)) H
theorem vals_bl:∀ {bs:List Bool}{us:List Value},Vals (bs.map V.bl) us→us=bs.map Value.bool
 | [],_,.nil=>rfl
 | b::bs,_,.cons h r=>by rw [vals_bl r,show _=Value.bool b from h]; rfl
theorem cnt_bl:∀ bs:List Bool,(bs.map Value.bool).countP isT=bs.count true
 | []=>rfl
 | b::bs=>by rw [List.map_cons,List.countP_cons,cnt_bl bs,List.count_cons]; rfl
theorem mt_lcountB {X:Cx}:MtR X "list.count" (rCntB X.K):=by
 intro pins s σ H x xs v us Q I rx rxs h
 obtain⟨p,bs,rfl,rfl,hs,q⟩:=h
 cases rx
 obtain⟨u,rfl,ru⟩:=rxs.one
 obtain rfl:u=Value.bool true:=ru
 obtain⟨its,rv,⟨⟨cls,dd,data,sl⟩,n,ho,hc,hdn,hd⟩,hlen⟩:=I.list hs
 simp only at hc hd
 subst hc hd
 have hi:=vals_bl rv
 subst hi
 refine call_meets PySem.F.slot_list_count ⟨_,ho,rfl⟩ PySem.F.entry_list_count (PySem.F.args_list_count_2 _ _)
  (SeqAt.list_countAt p (bs.map Value.bool).toArray n dd sl (.bool true) isT) ⟨ho,fun y hy => ?_,?_⟩
 ·have hy:y∈bs.map Value.bool:=by simpa using hy
  obtain⟨b,_,rfl⟩:=List.mem_map.mp hy
  exact SeqAt.EqAt.bool_bool b true
 have ec:(bs.map Value.bool).toArray.toList.countP isT=bs.count true:=cnt_bl bs
 refine⟨.int (bs.count true:Nat),H,I.tok _,⟨s.toks,?_⟩,q⟩
 show Value.int (((bs.map Value.bool).toArray.toList.countP isT:Nat):Int) s.toks=Value.int ((bs.count true:Nat):Int) s.toks
 rw [ec]
theorem pe_cntB {X:Cx}(K:PySem.W.Frag) {o e:Expr}{apos cpos:Pos}{to te:TE}(ho:PE X o to) (he:PE X e te) (h:X.K=K:=by rfl) (hbase:attributeBase o "count" X.env (eval o X.env)=eval o X.env:=by rfl)
  (hfew:((backTo cpos (starEach [e] X.env)).all (fun x => !x.1) && (backToKw cpos (keywordEach [] X.env)).all (fun x=>x.1.isSome)
   && decide (([e]:List Expr).length+([]:List Keyword).length+(if ([]:List Keyword).isEmpty then 0 else 1) < 30))=true:=by rfl)
  (hline:(apos.endLine == cpos.line)=true:=by rfl) (hs:starEach [e] X.env=(false,eval e X.env)::starEach [] X.env:=by rfl) (hplain:(backTo cpos (starEach [] X.env)).any (·.1)=false:=by rfl) :
  PE X (.Call (.Attribute o "count" apos) [e] [] cpos) (tBM K "list" (rCntB K) to (tCons te tNil)):=h ▸ pe_bm PySem.F.plainAttrs_list PySem.F.slot_list_count PySem.F.type_list_count mt_lcountB ho (pa_cons he pa_nil hs) hbase hfew hline hs hplain
structure KwC (K:PySem.W.Frag) (mg:Str→Option Value) (CN CB CT CW CF:Addr):Prop where
 mN:mg "NestError" = some (.ref CN)
 mB:mg "BadProgram" = some (.ref CB)
 mT:mg "BadText" = some (.ref CT)
 mW:mg "BadWorth" = some (.ref CW)
 mF:mg "NoFunction" = some (.ref CF)
 zi:mg "isinstance" = none
 zv:mg "ValueError" = none
 eW:ExcC K CW
 eF:ExcC K CF
 xW:XfC K CW
 nn:PySem.W.findIn K (.ref CW) "number" = some none
 kWB:PySem.W.kitOne K (.ref CW) (.ref CB)=some false
 kWT:PySem.W.kitOne K (.ref CW) (.ref CT)=some false
 kWW:PySem.W.kitOne K (.ref CW) (.ref CW)=some true
 kWF:PySem.W.kitOne K (.ref CW) (.ref CF)=some false
 kWV:PySem.W.kitOne K (.ref CW) (.type "ValueError")=some true
 kFB:PySem.W.kitOne K (.ref CF) (.ref CB)=some false
 kFT:PySem.W.kitOne K (.ref CF) (.ref CT)=some false
 kFW:PySem.W.kitOne K (.ref CF) (.ref CW)=some false
 kFF:PySem.W.kitOne K (.ref CF) (.ref CF)=some true
 kFV:PySem.W.kitOne K (.ref CF) (.type "ValueError")=some true
 wN:PySem.W.exmOne K (.ref CW) (.ref CN)=some true
 fN:PySem.W.exmOne K (.ref CF) (.ref CN)=some true
def WordOk (H:Hp) (v:V):Due→Prop
 | .fn=>∃ t z,v=.ref t∧H t=some (.tup [.str "function", .ref z])∧TupA H z []
 | .wo n=>∃ t z,v=.ref t∧H t=some (.tup [.str "worth", .ref z])∧TupA H z [.int (n:Int)]
def wrdE (CW CF:Addr) (D:Due) (H0:Hp):XK:=fun cls d H'=>match D with
 | .wo n=>cls=.ref CW∧∃ dd:Addr,d=some dd∧Same H0 H'∧H' dd=some (.xd (fsBw (.int (n:Int))))
 | .fn=>cls=.ref CF∧d=none∧Same H0 H'
theorem wrdE_ref {CW CF:Addr}{D:Due}{H:Hp}:RefW CW CF D H (wrdE CW CF D H):=by
 cases D with
 | fn=>exact fun H' s=>⟨rfl,rfl,s⟩
 | wo n=>exact fun H' d s e=>⟨rfl,d,rfl,s,e⟩
theorem takes_len {X:Cx}{W:WX}(t:Takes X W):Takes X (fun cls d σ H=>σ.length=X.N.length→W cls d σ H):=fun u s' ⟨a,B,sI,pins,σ,H,cls,d,e,I,nb,up,sky,na,os,ag,w⟩ =>
 t u s' ⟨a,B,sI,pins,σ,H,cls,d,e,I,nb,up,sky,na,os,ag,w I.len⟩
def TWrd (CW CF:Addr):(XK→Hp→VK→Prop)→Hp→VK→Prop:=fun tl H Q=>∃ D:Due,(∀ E:XK,RefW CW CF D H E→tl E H fun _ _=>False)∧∀ H2 v,Same H H2→WordOk H2 v D→Q v H2
abbrev sLawWord:Stmt:=top 155
theorem scsLawWord:FnScope ["_law_work", "e", "_law_kinds"] ["_law_work"] (defScope sLawWord):=⟨rfl,rfl,rfl,by decide +kernel,rfl,by decide +kernel,by decide +kernel⟩
theorem word_gives {X:Cx}{g:Addr}{cdg:Value}{CN CB CT CW CF:Addr}(C:KwC X.K X.mg CN CB CT CW CF):GivesL X ["_law_work", "e", "_law_kinds"] "_law_word" (defScope sLawWord) g cdg (defBody sLawWord) "_law_work" (TWrd CW CF):=by
 intro f s H Kp Q tl act hk h
 obtain⟨D,h1,h2⟩:=h
 refine⟨_,pss_cons (ps_try_as (X:=(cxOf C8.CX0 X.prog X.w X.K X.mg X.base ["_law_work", "e", "_law_kinds"] "_law_word" (defScope sLawWord) g cdg X.A X.stack s H C8.E0).nox) (c:=.ref CN) (i:=1)
   (tb:=fun W D σ H=>∃ Ech:XK,(∀ cls d σ' H',Ech cls d H'→σ'.length=3→W cls d σ' H')∧σ[0]? = some (some (.ref f))∧Kp H∧tl Ech H fun _ H'=>D.nx σ H')
   rfl rfl scsLawWord.nd rfl rfl ⟨rfl,by decide,.inl C.mN⟩ LamX.takes0 (fun W pn xe tk _ => ?_) (fun a oe cls d pn hz hf =>
    pss_cons (ps_set (i:=2) scsLawWord.nd rfl (.inl rfl) (pe_lst (pa_cons (pe_callB (call_isA hz hf) rfl C.zi (by decide +kernel) (pa_cons (pv 1) (pa_cons (pe_gR rfl C.mB) pa_nil))) (pa_cons (pe_callB (call_isA hz hf) rfl C.zi (by decide +kernel) (pa_cons (pv 1) (pa_cons (pe_gR rfl C.mT) pa_nil))) (pa_cons (pe_callB (call_isA hz hf) rfl C.zi (by decide +kernel) (pa_cons (pv 1) (pa_cons (pe_gR rfl C.mW) pa_nil))) (pa_cons (pe_callB (call_isA hz hf) rfl C.zi (by decide +kernel) (pa_cons (pv 1) (pa_cons (pe_gR rfl C.mF) pa_nil))) pa_nil))))))
    (pss_cons (ps_if (PW.pt (pw_or (pt_not (pt_val (pe_callB (call_isA hz hf) rfl C.zi (by decide +kernel) (pa_cons (pv 1) (pa_cons (pe_bltn (v:=.ty "ValueError") rfl C.zv (by decide +kernel) rfl) pa_nil))))) (pw_or1 (pt_cmpR op_ne (pe_cntB X.K (pv 2) pe_bl) pe_int (nomark _))))) (pss_one (ps_ret pe_non)) pss_nil)
    (pss_cons (ps_if (pt_val (pe_ix (ix_listK X.K) (pv 2) pe_int (fun _ _=>rfl))) (pss_one ps_never) pss_nil)
    (pss_cons (ps_if (pt_val (pe_ix (ix_listK X.K) (pv 2) pe_int (fun _ _=>rfl))) (pss_one ps_never) pss_nil)
    (pss_one (ps_ret (pe_ifExp (pt_val (pe_ix (ix_listK X.K) (pv 2) pe_int (fun _ _=>rfl))) (pe_tup (pa_cons pe_str (pa_cons (pe_tup (pa_cons (pe_xf C.xW C.nn hz hf (pv 1)) pa_nil)) pa_nil))) (pe_tup (pa_cons pe_str (pa_cons (pe_tupF pa_nil) pa_nil)))))))))))
   (pss_one ps_never),?_⟩
 ·refine⟨fun pins s' σ H' D I h' => ?_⟩
  obtain⟨Ech,hW,h1,h2,h3⟩:=h'
  exact (pss_one (ps_expr (act _ pn xe Ech _ _ (takes_len tk) hW))).run pins s' σ H' D I ⟨h1,h2,h3⟩
 ·refine⟨wrdE CW CF D H,fun cls d σ' H' k hl => ?_,rfl,hk,h1 _ wrdE_ref⟩
  obtain⟨y0,y1,y2,rfl⟩:∃ y0 y1 y2,σ'=[y0,y1,y2]:=by
   match σ',hl with
   | [y0,y1,y2],_=>exact⟨y0,y1,y2,rfl⟩
  cases D with
  | fn =>
   obtain⟨rfl,rfl,s1⟩:=k
   refine⟨true,C.fN,fun _ a ha => ?_,fun z=>nomatch z⟩
   refine⟨_,rfl,CF,_,_,_,rfl,.inl rfl,C.eF,rfl,fun u hu=>hu,C.kFB,?_⟩
   refine⟨_,rfl,CF,_,_,_,rfl,.inl rfl,C.eF,rfl,fun u hu=>hu,C.kFT,?_⟩
   refine⟨_,rfl,CF,_,_,_,rfl,.inl rfl,C.eF,rfl,fun u hu=>hu,C.kFW,?_⟩
   refine⟨_,rfl,CF,_,_,_,rfl,.inl rfl,C.eF,rfl,fun u hu=>hu,C.kFF,?_⟩
   refine⟨by show 4≤sizeLine; decide,fun l hl => ?_⟩
   have s2:=s1.trans (same_new hl (.lst [.bl false,.bl false,.bl false,.bl true]))
   have e2:upd H' l (.lst [.bl false,.bl false,.bl false,.bl true]) l=some (.lst [.bl false,.bl false,.bl false,.bl true]):=upd_same
   generalize upd H' l (.lst [.bl false,.bl false,.bl false,.bl true])=H2 at s2 e2 ⊢
   refine⟨_,rfl,CF,_,_,_,rfl,.inl rfl,C.eF,rfl,fun u hu=>hu,C.kFV,_,rfl,?_⟩
   refine ite2 (fun z=>nomatch z) (fun _ => ?_)
   refine⟨.ref l,rfl,.inl ⟨rfl,_,SqL.of e2⟩,l,[false,false,false,true],rfl,rfl,SqL.of e2,rfl,_,rfl,?_⟩
   refine ite2 (fun z=>nomatch z) (fun _ => ?_)
   refine⟨_,rfl,l,_,_,_,rfl,rfl,SqL.of e2,at0,_,rfl,?_⟩
   refine ite2 (fun z=>nomatch z) (fun _ => ?_)
   refine⟨_,rfl,l,_,_,_,rfl,rfl,SqL.of e2,at1,_,rfl,?_⟩
   refine ite2 (fun z=>nomatch z) (fun _ => ?_)
   refine⟨_,rfl,l,_,_,_,rfl,rfl,SqL.of e2,at2,_,rfl,?_⟩
   refine ite2 (fun z=>nomatch z) (fun _ => ?_)
   refine⟨by show 0≤sizeLine; decide,fun z o hz ho=>⟨by show 2≤sizeLine; decide,fun t ht => ?_⟩⟩
   have s3:=same_new hz (.frz o (.tup []))
   have e3:upd H2 z (.frz o (.tup [])) z=some (.frz o (.tup [])):=upd_same
   generalize upd H2 z (.frz o (.tup []))=H3 at s3 e3 ht ⊢
   have s4:=same_new ht (.tup [.str "function", .ref z])
   exact h2 _ _ ((s2.trans s3).trans s4) ⟨t,z,rfl,upd_same,.inr ⟨o,s4 _ _ e3⟩⟩
  | wo n =>
   obtain⟨rfl,dd,rfl,s1,ed⟩:=k
   refine⟨true,C.wN,fun _ a ha => ?_,fun z=>nomatch z⟩
   refine⟨_,rfl,CW,_,_,_,rfl,.inr ⟨dd,_,rfl,ed⟩,C.eW,rfl,fun u hu=>hu,C.kWB,?_⟩
   refine⟨_,rfl,CW,_,_,_,rfl,.inr ⟨dd,_,rfl,ed⟩,C.eW,rfl,fun u hu=>hu,C.kWT,?_⟩
   refine⟨_,rfl,CW,_,_,_,rfl,.inr ⟨dd,_,rfl,ed⟩,C.eW,rfl,fun u hu=>hu,C.kWW,?_⟩
   refine⟨_,rfl,CW,_,_,_,rfl,.inr ⟨dd,_,rfl,ed⟩,C.eW,rfl,fun u hu=>hu,C.kWF,?_⟩
   refine⟨by show 4≤sizeLine; decide,fun l hl => ?_⟩
   have s0:=same_new hl (.lst [.bl false,.bl false,.bl true,.bl false])
   have s2:=s1.trans s0
   have ed2:=s0 _ _ ed
   have e2:upd H' l (.lst [.bl false,.bl false,.bl true,.bl false]) l=some (.lst [.bl false,.bl false,.bl true,.bl false]):=upd_same
   generalize upd H' l (.lst [.bl false,.bl false,.bl true,.bl false])=H2 at s2 e2 ed2 ⊢
   refine⟨_,rfl,CW,_,_,_,rfl,.inr ⟨dd,_,rfl,ed2⟩,C.eW,rfl,fun u hu=>hu,C.kWV,_,rfl,?_⟩
   refine ite2 (fun z=>nomatch z) (fun _ => ?_)
   refine⟨.ref l,rfl,.inl ⟨rfl,_,SqL.of e2⟩,l,[false,false,true,false],rfl,rfl,SqL.of e2,rfl,_,rfl,?_⟩
   refine ite2 (fun z=>nomatch z) (fun _ => ?_)
   refine⟨_,rfl,l,_,_,_,rfl,rfl,SqL.of e2,at0,_,rfl,?_⟩
   refine ite2 (fun z=>nomatch z) (fun _ => ?_)
   refine⟨_,rfl,l,_,_,_,rfl,rfl,SqL.of e2,at1,_,rfl,?_⟩
   refine ite2 (fun z=>nomatch z) (fun _ => ?_)
   refine⟨_,rfl,l,_,_,_,rfl,rfl,SqL.of e2,at2,_,rfl,?_⟩
   refine ite2 (fun _ => ?_) (fun z=>absurd rfl z)
   refine⟨_,rfl,rfl,rfl,dd,_,_,rfl,ed2,rfl,by show 1≤sizeLine; decide,fun z hz=>⟨by show 2≤sizeLine; decide,fun t ht => ?_⟩⟩
   have s3:=same_new hz (.tup [.int (n:Int)])
   have e3:upd H2 z (.tup [.int (n:Int)]) z=some (.tup [.int (n:Int)]):=upd_same
   generalize upd H2 z (.tup [.int (n:Int)])=H3 at s3 e3 ht ⊢
   have s4:=same_new ht (.tup [.str "worth", .ref z])
   exact h2 _ _ ((s2.trans s3).trans s4) ⟨t,z,rfl,upd_same,.inl (s4 _ _ e3)⟩
end NR
namespace NR
open PySem PySem.Spec PyProof.Rows L2
abbrev EnvW:=Int→Option Wo
def upw (ρ:EnvW) (x:Int) (w:Wo):EnvW:=fun y=>if y=x then some w else ρ y
inductive Task where
 | beg (fn:Nat) (n:Nd) (ρ:EnvW)
 | fin (fn:Nat) (n:Nd) (ρ:EnvW)
 | gat (fn:Nat) (n:Nd) (ws:List Wo)
 | lv (k:Nat)
structure MS where
 todo:List Task
 made:List Wo
 work:Int
 fault:Option (Str×Nat×Nat)
 within:List Nat
 deep:List Nat
def bump (l:List Nat) (k:Nat):List Nat:=l.modify k (·+1)
def deeper (l act:List Nat) (k:Nat):List Nat:=l.modify k fun d=>max d (act.getD k 0)
def kept:List Wo→List Wo→List Wo
 | w::ws,.num n::ns=>if n=0 then kept ws ns else w::kept ws ns
 | _,_=>[]
def paramsOf (ps:List (Int×Nat)) (ws:List Wo):EnvW:=fun x=>((ps.zip ws).find? fun p=>decide (p.1.1=x)).map (·.2)
inductive DRes:W→List Wo→Wo→Prop
 | plus {a b:Int}:DRes .plus [.num a,.num b] (.num ((a+b) % 10007))
 | minus {a b:Int}:DRes .minus [.num a,.num b] (.num ((a - b) % 10007))
 | times {a b:Int}:0≤a→a≤10006→DRes .times [.num a,.num b] (.num (a*b % 10007))
 | less {a b:Int}:DRes .less [.num a,.num b] (.num (if a < b then 1 else 0))
 | same {a b:Int}:DRes .same [.num a,.num b] (.num (if a=b then 1 else 0))
 | upto {n:Nat}:n≤1000→DRes .upto [.num (n:Int)] (.row (uptos n))
 | len {ws:List Wo}:DRes .len [.row ws] (.num (ws.length:Int))
 | sum {ns:List Int}:DRes .sum [.row (ns.map Wo.num)] (.num (ns.sum % 10007))
 | sums {ns:List Int}:ns.length≤1000→DRes .sums [.row (ns.map Wo.num)] (.row ((aheads 0 ns).map Wo.num))
 | one {w:Wo}:DRes .one [w] (.row [w])
 | pick {ws:List Wo}{i:Nat}{w:Wo}:ws[i]? = some w→DRes .pick [.row ws,.num (i:Int)] w
 | put {ws xs:List Wo}:ws.length+xs.length≤1000→DRes .put [.row ws,.row xs] (.row (ws++xs))
 | flat {rs:List (List Wo)}:rs.flatten.length≤1000→DRes .flat [.row (rs.map Wo.row)] (.row rs.flatten)
inductive SzR:W→List Wo→List Int→Prop
 | flat {rs:List (List Wo)}:rs.length≤1000→SzR .flat [.row (rs.map Wo.row)] [((rs.map fun r=>(r.length:Int)).sum)]
 | other {x:W}{ws:List Wo}:x≠.flat→ws.length≤1000→SzR x ws (ws.map szW)
theorem wins_ints {H:Hp}:∀ {ns:List Int}{vs:List V},WIns H vs (ns.map Wo.num)→vs=ns.map V.int
 | [],_,.nil=>rfl
 | n::ns,_,.cons .num r=>by rw [wins_ints r]; rfl
theorem wins_rows {H:Hp}:∀ {rs:List (List Wo)} {vs:List V},WIns H vs (rs.map Wo.row)→RIns H vs rs
 | [],_,.nil=>.nil
 | r::rs,_,.cons (.row h p) t=>.cons h p (wins_rows t)
theorem DRes.arg {K:PySem.W.Frag}{H:Hp}{x:W}{ws:List Wo}{r:Wo}(d:DRes x ws r) {us:List V}(h:WIns H us ws):DArg K H x us r:=by
 cases d with
 | plus=>obtain _ | ⟨⟨⟩,_ | ⟨⟨⟩,_ | _⟩⟩:=h; exact .plus
 | minus=>obtain _ | ⟨⟨⟩,_ | ⟨⟨⟩,_ | _⟩⟩:=h; exact .minus
 | times h0 h1=>obtain _ | ⟨⟨⟩,_ | ⟨⟨⟩,_ | _⟩⟩:=h; exact .times h0 h1
 | less=>obtain _ | ⟨⟨⟩,_ | ⟨⟨⟩,_ | _⟩⟩:=h; exact .less
 | same=>obtain _ | ⟨⟨⟩,_ | ⟨⟨⟩,_ | _⟩⟩:=h; exact .same
 | upto hn=>obtain _ | ⟨⟨⟩,_ | _⟩:=h; exact .upto hn
 | len =>
  obtain _ | ⟨h1,_ | _⟩:=h
  cases h1 with
  | row h2 h3=>rw [← h3.len]; exact .len (SqT.of h2)
 | sum =>
  obtain _ | ⟨h1,_ | _⟩:=h
  cases h1 with
  | row h2 h3=>exact .sum (.inr (by rw [← wins_ints h3]; exact SqT.of h2))
 | sums hn =>
  obtain _ | ⟨h1,_ | _⟩:=h
  cases h1 with
  | row h2 h3=>exact .sums (.inr (by rw [← wins_ints h3]; exact SqT.of h2)) hn
 | one =>
  obtain _ | ⟨h1,_ | _⟩:=h
  exact .one h1
 | pick hi =>
  obtain _ | ⟨h1,_ | ⟨⟨⟩,_ | _⟩⟩:=h
  cases h1 with
  | row h2 h3=>exact .pick h2 h3 hi
 | put hz =>
  obtain _ | ⟨h1,_ | ⟨h4,_ | _⟩⟩:=h
  cases h1 with
  | row h2 h3 =>
   cases h4 with
   | row h5 h6=>exact .put h2 h5 h3 h6 hz
 | flat hz =>
  obtain _ | ⟨h1,_ | _⟩:=h
  cases h1 with
  | row h2 h3=>exact .flat h2 (wins_rows h3) hz
theorem SzR.arg {H:Hp}{x:W}{ws:List Wo}{ss:List Int}(d:SzR x ws ss) {us:List V}(h:WIns H us ws):SzArg H x us ss:=by
 cases d with
 | flat hz =>
  obtain _ | ⟨h1,_ | _⟩:=h
  cases h1 with
  | row h2 h3=>exact .flat h2 (wins_rows h3) hz
 | other hx hz=>exact .other hx h (by rw [h.len]; exact hz)
def W.deed:W→Bool
 | .num | .name | .ite | .elet | .each | .whr | .call=>false
 | _=>true
inductive NStep (fm:List (List (Int×Nat)×Nd)):MS→MS→Prop
 | name {fn p:Nat}{x:Int}{ps:List Nd}{d:Nat}{ρ:EnvW}{w:Wo}{T:List Task}{M:List Wo}{k:Int}{wi de:List Nat}:ρ x=some w→NStep fm ⟨.beg fn (.node .name p x ps d) ρ::T,M,k,none,wi,de⟩ ⟨T,w::M,k,none,wi,de⟩
 | num {fn p:Nat}{n:Int}{ps:List Nd}{d:Nat}{ρ:EnvW}{T:List Task}{M:List Wo}{k:Int}{wi de:List Nat}:NStep fm ⟨.beg fn (.node .num p n ps d) ρ::T,M,k,none,wi,de⟩ ⟨T,.num n::M,k+1,none,wi,de⟩
 | beg {fn:Nat}{x:W}{p:Nat}{n:Int}{ps:List Nd}{d:Nat}{ρ:EnvW}{T:List Task}{M:List Wo}{k:Int}{wi de:List Nat}:x≠.name→x≠.num→NStep fm ⟨.beg fn (.node x p n ps d) ρ::T,M,k,none,wi,de⟩ ⟨(aheadOf x ps).map (fun e=>.beg fn e ρ)++.fin fn (.node x p n ps d) ρ::T,M,k,none,wi,de⟩
 | elet {fn p:Nat}{x:Int}{a b:Nd}{d:Nat}{ρ:EnvW}{w:Wo}{T:List Task}{M:List Wo}{k:Int}{wi de:List Nat}:0≤x→x≤19→NStep fm ⟨.fin fn (.node .elet p x [a,b] d) ρ::T,w::M,k,none,wi,de⟩ ⟨.beg fn b (upw ρ x w)::T,M,k,none,wi,de⟩
 | ite {fn p:Nat}{n:Int}{c a b:Nd}{d:Nat}{ρ:EnvW}{v:Int}{T:List Task}{M:List Wo}{k:Int}{wi de:List Nat}:NStep fm ⟨.fin fn (.node .ite p n [c,a,b] d) ρ::T,.num v::M,k,none,wi,de⟩ ⟨.beg fn (if v≠0 then a else b) ρ::T,M,k+1,none,wi,de⟩
 | over {fn:Nat}{x:W}{p:Nat}{y:Int}{a b:Nd}{d:Nat}{ρ:EnvW}{ws:List Wo}{T:List Task}{M:List Wo}{k:Int}{wi de:List Nat}:x=.each∨x=.whr→0≤y→y≤19→ws.length≤1000→NStep fm ⟨.fin fn (.node x p y [a,b] d) ρ::T,.row ws::M,k,none,wi,de⟩ ⟨ws.map (fun w=>.beg fn b (upw ρ y w))++.gat fn (.node x p y [a,b] d) ws::T,M,k+(1+(ws.length:Int)),none,wi,de⟩
 | gatE {fn p:Nat}{y:Int}{ps:List Nd}{d:Nat}{ws vs:List Wo}{T:List Task}{M:List Wo}{k:Int}{wi de:List Nat}:vs.length=ws.length→ws.length≤1000→NStep fm ⟨.gat fn (.node .each p y ps d) ws::T,vs.reverse++M,k,none,wi,de⟩ ⟨T,.row vs::M,k,none,wi,de⟩
 | gatW {fn p:Nat}{y:Int}{ps:List Nd}{d:Nat}{ws vs:List Wo}{T:List Task}{M:List Wo}{k:Int}{wi de:List Nat}:vs.length=ws.length→ws.length≤1000→(∀ v∈vs,∃ n:Int,v=.num n)→NStep fm ⟨.gat fn (.node .whr p y ps d) ws::T,vs.reverse++M,k,none,wi,de⟩ ⟨T,.row (kept ws vs)::M,k,none,wi,de⟩
 | call {fn p j:Nat}{ps:List Nd}{d:Nat}{ρ:EnvW}{ws:List Wo}{g:List (Int×Nat)×Nd}{T:List Task}{M:List Wo}{k:Int}{wi de:List Nat}:ws.length=ps.length→fm[j]? = some g→wi.length=fm.length→de.length=fm.length→wi.getD j 0≠30→g.1.length=ws.length→(g.1.map (·.1)).Nodup→(∀ q∈g.1,0≤q.1∧q.1≤19)→NStep fm ⟨.fin fn (.node .call p (j:Int) ps d) ρ::T,ws.reverse++M,k,none,wi,de⟩ ⟨.beg j g.2 (paramsOf g.1 ws)::.lv j::T,M,k+1,none,bump wi j,deeper de (bump wi j) j⟩
 | deep {fn p j:Nat}{ps:List Nd}{d:Nat}{ρ:EnvW}{ws:List Wo}{T:List Task}{M:List Wo}{k:Int}{wi de:List Nat}:ws.length=ps.length→j < wi.length→wi.getD j 0=30→NStep fm ⟨.fin fn (.node .call p (j:Int) ps d) ρ::T,ws.reverse++M,k,none,wi,de⟩ ⟨T,M,k+1,some ("deep", fn,p),wi,de⟩
 | deed {fn:Nat}{x:W}{p:Nat}{n:Int}{ps:List Nd}{d:Nat}{ρ:EnvW}{ws:List Wo}{ss:List Int}{r:Wo}{T:List Task}{M:List Wo}{k:Int}{wi de:List Nat}:x.deed=true→ws.length=ps.length→SzR x ws ss→(x=.pick→∃ a b,ss=[a,b])→faultS x ss=none→DRes x ws r→NStep fm ⟨.fin fn (.node x p n ps d) ρ::T,ws.reverse++M,k,none,wi,de⟩ ⟨T,r::M,k+1+itemsS x ss,none,wi,de⟩
 | bad {fn:Nat}{x:W}{p:Nat}{n:Int}{ps:List Nd}{d:Nat}{ρ:EnvW}{ws:List Wo}{ss:List Int}{z:Str}{T:List Task}{M:List Wo}{k:Int}{wi de:List Nat}:x.deed=true→ws.length=ps.length→SzR x ws ss→(x=.pick→∃ a b,ss=[a,b])→faultS x ss=some z→NStep fm ⟨.fin fn (.node x p n ps d) ρ::T,ws.reverse++M,k,none,wi,de⟩ ⟨T,M,k+1,some (z,fn,p),wi,de⟩
 | lv {j:Nat}{T:List Task}{M:List Wo}{k:Int}{wi de:List Nat}:j < wi.length→0 < wi.getD j 0→NStep fm ⟨.lv j::T,M,k,none,wi,de⟩ ⟨T,M,k,none,wi.modify j (· - 1),de⟩
inductive NSs (fm:List (List (Int×Nat)×Nd)):MS→MS→Prop
 | refl {m:MS}:NSs fm m m
 | step {m m1 m2:MS}:NStep fm m m1→m1.todo.length≤8000000→m1.made.length≤8000000→NSs fm m1 m2→NSs fm m m2
theorem NSs.trans {fm:List (List (Int×Nat)×Nd)} {a b c:MS}(h:NSs fm a b) (g:NSs fm b c):NSs fm a c:=by
 induction h with
 | refl=>exact g
 | step s h1 h2 _ ih=>exact .step s h1 h2 (ih g)
theorem NSs.one {fm:List (List (Int×Nat)×Nd)} {a b:MS}(s:NStep fm a b) (h1:b.todo.length≤8000000) (h2:b.made.length≤8000000):NSs fm a b:=.step s h1 h2 .refl
abbrev NR0:=Except (Str×Nat×Nat) Wo
abbrev NRs:=Except (Str×Nat×Nat) (List Wo)
mutual
inductive NEv (fm:List (List (Int×Nat)×Nd)):Nat→Nat→Nd→EnvW→List Nat→List Nat→Int→NR0→List Nat→Int→Prop
 | name {h fn p:Nat}{x:Int}{ps:List Nd}{d:Nat}{ρ:EnvW}{wi de:List Nat}{k:Int}{w:Wo}:1≤h→ρ x=some w→NEv fm h fn (.node .name p x ps d) ρ wi de k (.ok w) de k
 | num {h fn p:Nat}{n:Int}{ps:List Nd}{d:Nat}{ρ:EnvW}{wi de:List Nat}{k:Int}:1≤h→NEv fm h fn (.node .num p n ps d) ρ wi de k (.ok (.num n)) de (k+1)
 | err {h g fn p:Nat}{x:W}{n:Int}{ps:List Nd}{d:Nat}{ρ:EnvW}{wi de de1:List Nat}{k k1:Int}{z:Str×Nat×Nat}:x≠.name→x≠.num→g+1≤h→NEvs fm g fn ((aheadOf x ps).map fun e=>(e,ρ)) wi de k (.error z) de1 k1→NEv fm h fn (.node x p n ps d) ρ wi de k (.error z) de1 k1
 | deed {h g fn p:Nat}{x:W}{n:Int}{ps:List Nd}{d:Nat}{ρ:EnvW}{wi de de1:List Nat}{k k1:Int}{ws:List Wo}{ss:List Int}{r:Wo}:x.deed=true→g+1≤h→NEvs fm g fn (ps.map fun e=>(e,ρ)) wi de k (.ok ws) de1 k1→SzR x ws ss→(x=.pick→∃ a b,ss=[a,b])→faultS x ss=none→DRes x ws r→NEv fm h fn (.node x p n ps d) ρ wi de k (.ok r) de1 (k1+1+itemsS x ss)
 | bad {h g fn p:Nat}{x:W}{n:Int}{ps:List Nd}{d:Nat}{ρ:EnvW}{wi de de1:List Nat}{k k1:Int}{ws:List Wo}{ss:List Int}{z:Str}:x.deed=true→g+1≤h→NEvs fm g fn (ps.map fun e=>(e,ρ)) wi de k (.ok ws) de1 k1→SzR x ws ss→(x=.pick→∃ a b,ss=[a,b])→faultS x ss=some z→NEv fm h fn (.node x p n ps d) ρ wi de k (.error (z,fn,p)) de1 (k1+1)
 | elet {h g fn p:Nat}{x:Int}{a b:Nd}{d:Nat}{ρ:EnvW}{wi de de1 de2:List Nat}{k k1 k2:Int}{w:Wo}{r:NR0}:0≤x→x≤19→g+1≤h→NEvs fm g fn [(a,ρ)] wi de k (.ok [w]) de1 k1→NEv fm g fn b (upw ρ x w) wi de1 k1 r de2 k2→NEv fm h fn (.node .elet p x [a,b] d) ρ wi de k r de2 k2
 | ite {h g fn p:Nat}{n:Int}{c a b:Nd}{d:Nat}{ρ:EnvW}{wi de de1 de2:List Nat}{k k1 k2:Int}{v:Int}{r:NR0}:g+1≤h→NEvs fm g fn [(c,ρ)] wi de k (.ok [.num v]) de1 k1→NEv fm g fn (if v≠0 then a else b) ρ wi de1 (k1+1) r de2 k2→NEv fm h fn (.node .ite p n [c,a,b] d) ρ wi de k r de2 k2
 | each {h g fn p:Nat}{y:Int}{a b:Nd}{d:Nat}{ρ:EnvW}{wi de de1 de2:List Nat}{k k1 k2:Int}{ws vs:List Wo}:0≤y→y≤19→ws.length≤1000→g+1≤h→NEvs fm g fn [(a,ρ)] wi de k (.ok [.row ws]) de1 k1→NEvs fm g fn (ws.map fun w=>(b,upw ρ y w)) wi de1 (k1+(1+(ws.length:Int))) (.ok vs) de2 k2→NEv fm h fn (.node .each p y [a,b] d) ρ wi de k (.ok (.row vs)) de2 k2
 | whr {h g fn p:Nat}{y:Int}{a b:Nd}{d:Nat}{ρ:EnvW}{wi de de1 de2:List Nat}{k k1 k2:Int}{ws vs:List Wo}:0≤y→y≤19→ws.length≤1000→g+1≤h→NEvs fm g fn [(a,ρ)] wi de k (.ok [.row ws]) de1 k1→NEvs fm g fn (ws.map fun w=>(b,upw ρ y w)) wi de1 (k1+(1+(ws.length:Int))) (.ok vs) de2 k2→(∀ v∈vs,∃ n:Int,v=.num n)→NEv fm h fn (.node .whr p y [a,b] d) ρ wi de k (.ok (.row (kept ws vs))) de2 k2
 | over {h g fn p:Nat}{x:W}{y:Int}{a b:Nd}{d:Nat}{ρ:EnvW}{wi de de1 de2:List Nat}{k k1 k2:Int}{ws:List Wo}{z:Str×Nat×Nat}:x=.each∨x=.whr→0≤y→y≤19→ws.length≤1000→g+1≤h→NEvs fm g fn [(a,ρ)] wi de k (.ok [.row ws]) de1 k1→NEvs fm g fn (ws.map fun w=>(b,upw ρ y w)) wi de1 (k1+(1+(ws.length:Int))) (.error z) de2 k2→NEv fm h fn (.node x p y [a,b] d) ρ wi de k (.error z) de2 k2
 | call {h g fn p j:Nat}{ps:List Nd}{d:Nat}{ρ:EnvW}{wi de de1 de2:List Nat}{k k1 k2:Int}{ws:List Wo}{f:List (Int×Nat)×Nd}{r:NR0}:g+1≤h→NEvs fm g fn (ps.map fun e=>(e,ρ)) wi de k (.ok ws) de1 k1→fm[j]? = some f→wi.length=fm.length→de1.length=fm.length→wi.getD j 0≠30→f.1.length=ws.length→(f.1.map (·.1)).Nodup→(∀ q∈f.1,0≤q.1∧q.1≤19)→NEv fm g j f.2 (paramsOf f.1 ws) (bump wi j) (deeper de1 (bump wi j) j) (k1+1) r de2 k2→NEv fm h fn (.node .call p (j:Int) ps d) ρ wi de k r de2 k2
 | deep {h g fn p j:Nat}{ps:List Nd}{d:Nat}{ρ:EnvW}{wi de de1:List Nat}{k k1:Int}{ws:List Wo}:g+1≤h→NEvs fm g fn (ps.map fun e=>(e,ρ)) wi de k (.ok ws) de1 k1→j < wi.length→wi.getD j 0=30→NEv fm h fn (.node .call p (j:Int) ps d) ρ wi de k (.error ("deep", fn,p)) de1 (k1+1)
inductive NEvs (fm:List (List (Int×Nat)×Nd)):Nat→Nat→List (Nd×EnvW)→List Nat→List Nat→Int→NRs→List Nat→Int→Prop
 | nil {h fn:Nat}{wi de:List Nat}{k:Int}:NEvs fm h fn [] wi de k (.ok []) de k
 | cons {h g fn:Nat}{e:Nd×EnvW}{es:List (Nd×EnvW)} {wi de de1 de2:List Nat}{k k1 k2:Int}{w:Wo}{ws:List Wo}:g+es.length≤h→g+1≤h→NEv fm g fn e.1 e.2 wi de k (.ok w) de1 k1→NEvs fm (h - 1) fn es wi de1 k1 (.ok ws) de2 k2→NEvs fm h fn (e::es) wi de k (.ok (w::ws)) de2 k2
 | bad {h g fn:Nat}{e:Nd×EnvW}{es:List (Nd×EnvW)} {wi de de1 de2:List Nat}{k k1 k2:Int}{w:Wo}{z:Str×Nat×Nat}:g+es.length≤h→g+1≤h→NEv fm g fn e.1 e.2 wi de k (.ok w) de1 k1→NEvs fm (h - 1) fn es wi de1 k1 (.error z) de2 k2→NEvs fm h fn (e::es) wi de k (.error z) de2 k2
 | here {h g fn:Nat}{e:Nd×EnvW}{es:List (Nd×EnvW)} {wi de de1:List Nat}{k k1:Int}{z:Str×Nat×Nat}:g+es.length≤h→g+1≤h→NEv fm g fn e.1 e.2 wi de k (.error z) de1 k1→NEvs fm h fn (e::es) wi de k (.error z) de1 k1
end
def begs (fn:Nat) (es:List (Nd×EnvW)):List Task:=es.map fun e=>.beg fn e.1 e.2
theorem begs_len (fn:Nat) (es:List (Nd×EnvW)):(begs fn es).length=es.length:=List.length_map ..
theorem NEv.pos {fm:List (List (Int×Nat)×Nd)} {h fn:Nat}{n:Nd}{ρ:EnvW}{wi de de':List Nat}{k k':Int}{r:NR0}(e:NEv fm h fn n ρ wi de k r de' k'):1≤h:=by
 cases e <;> omega
theorem NEvs.few {fm:List (List (Int×Nat)×Nd)} {h fn:Nat}{es:List (Nd×EnvW)} {wi de de':List Nat}{k k':Int}{r:NRs}(e:NEvs fm h fn es wi de k r de' k'):es.length≤h:=by
 cases e with
 | nil=>exact Nat.zero_le _
 | cons a b c d=>have:=c.pos; simp only [List.length_cons]; omega
 | bad a b c d=>have:=c.pos; simp only [List.length_cons]; omega
 | here a b c=>have:=c.pos; simp only [List.length_cons]; omega
theorem NEvs.oklen {fm:List (List (Int×Nat)×Nd)}:∀ {h fn:Nat}{es:List (Nd×EnvW)} {wi de de':List Nat}{k k':Int}{ws:List Wo},NEvs fm h fn es wi de k (.ok ws) de' k'→ws.length=es.length
 | _,_,_,_,_,_,_,_,_,.nil=>rfl
 | _,_,_,_,_,_,_,_,_,.cons _ _ _ d=>congrArg (·+1) d.oklen
theorem unbump_bump' (wi:List Nat) (j:Nat):(bump wi j).modify j (· - 1)=wi:=by
 apply List.ext_getElem?
 intro i
 unfold bump
 rw [List.getElem?_modify,List.getElem?_modify]
 cases wi[i]? with
 | none=>rfl
 | some x =>
  by_cases e:j=i
  ·simp [e]
  ·simp [e]
theorem bump_pos {wi:List Nat}{j:Nat}(h:j < wi.length):j < (bump wi j).length∧0 < (bump wi j).getD j 0:=by
 unfold bump
 refine⟨by rw [List.length_modify]; exact h,?_⟩
 rw [List.getD_eq_getElem?_getD,List.getElem?_modify,List.getElem?_eq_getElem h]
 simp
def NGot (fm:List (List (Int×Nat)×Nd)) (m:MS) (T:List Task) (M:List Wo) (wi:List Nat) (r:NRs) (de':List Nat) (k':Int):Prop:=match r with
 | .ok ws=>NSs fm m ⟨T,ws.reverse++M,k',none,wi,de'⟩
 | .error z=>∃ T' M' wi',NSs fm m ⟨T',M',k',some z,wi',de'⟩
def one0:NR0→NRs
 | .ok w=>.ok [w]
 | .error z=>.error z
theorem NGot.before {fm:List (List (Int×Nat)×Nd)} {m m0:MS}{T:List Task}{M:List Wo}{wi de':List Nat}{r:NRs}{k':Int}(s:NSs fm m0 m) (h:NGot fm m T M wi r de' k'):NGot fm m0 T M wi r de' k':=by
 cases r with
 | ok ws=>exact s.trans h
 | error z =>
  obtain⟨a,b,c,g⟩:=h
  exact⟨a,b,c,s.trans g⟩
theorem nd_ps {x:W}(h:x.deed=true) (ps:List Nd):aheadOf x ps=ps:=by
 cases x <;> first | (exact if_neg (by decide)) | (cases h)
theorem call_ps (ps:List Nd):aheadOf .call ps=ps:=if_neg (by decide)
mutual
theorem NEv.go {fm:List (List (Int×Nat)×Nd)} {h fn:Nat}{n:Nd}{ρ:EnvW}{wi de de':List Nat}{k k':Int}{r:NR0}(T:List Task) (M:List Wo) (e:NEv fm h fn n ρ wi de k r de' k') (hT:T.length+h≤8000000) (hM:M.length+h≤8000000):NGot fm ⟨.beg fn n ρ::T,M,k,none,wi,de⟩ T M wi (one0 r) de' k':=by
 have start:∀ {x:W}{p:Nat}{y:Int}{ps:List Nd}{d:Nat},x≠.name→x≠.num→(aheadOf x ps).length+1≤h→NSs fm ⟨.beg fn (.node x p y ps d) ρ::T,M,k,none,wi,de⟩ ⟨begs fn ((aheadOf x ps).map fun e=>(e,ρ))++.fin fn (.node x p y ps d) ρ::T,M,k,none,wi,de⟩:=fun {x p y ps d} h1 h2 h3=>by
  have s:=NStep.beg (fm:=fm) (fn:=fn) (x:=x) (p:=p) (n:=y) (ps:=ps) (d:=d) (ρ:=ρ) (T:=T) (M:=M) (k:=k) (wi:=wi) (de:=de) h1 h2
  have eb:begs fn ((aheadOf x ps).map fun e=>(e,ρ))=(aheadOf x ps).map fun e=>.beg fn e ρ:=by unfold begs; rw [List.map_map]; rfl
  rw [eb]
  refine .one s ?_ ?_
  ·simp only [List.length_append,List.length_map,List.length_cons]; omega
  ·show M.length≤_; omega
 have dx:∀ {x:W},x.deed=true→x≠.name∧x≠.num:=fun {x} h=>by
  constructor <;> (rintro rfl; cases h)
 have fin1:∀ {n:Nd}{g:Nat},g+1≤h→(Task.fin fn n ρ::T).length+g≤8000000:=fun h1=>by simp only [List.length_cons]; omega
 cases e with
 | name h1 h2=>exact .one (.name h2) (by show T.length≤_; omega) (by simp only [List.length_append,List.length_cons,List.length_reverse,List.length_nil]; omega)
 | num h1=>exact .one .num (by show T.length≤_; omega) (by simp only [List.length_append,List.length_cons,List.length_reverse,List.length_nil]; omega)
 | @err _ g _ p x n ps d _ _ _ _ _ _ z h1 h2 h3 h4 =>
  have fw:=h4.few
  rw [List.length_map] at fw
  have q:=NEvs.go (.fin fn (.node x p n ps d) ρ::T) M h4 (fin1 h3) (by omega)
  exact q.before (start h1 h2 (by omega))
 | @deed _ g _ p x n ps d _ _ _ _ _ _ ws ss r h1 h3 h4 s1 s2 s3 s4 =>
  have fw:=h4.few
  rw [List.length_map] at fw
  have ol:=h4.oklen
  rw [List.length_map] at ol
  have q:=NEvs.go (.fin fn (.node x p n ps d) ρ::T) M h4 (fin1 h3) (by omega)
  have st:=start (x:=x) (p:=p) (y:=n) (ps:=ps) (d:=d) (dx h1).1 (dx h1).2 (by rw [nd_ps h1]; omega)
  rw [nd_ps h1] at st
  refine NSs.trans (st.trans q) (.one (.deed h1 ol s1 s2 s3 s4) (by show T.length≤_; omega) ?_)
  show M.length+1≤_
  have:=NEv.pos (fm:=fm) (h:=h) (fn:=fn) (n:=.node x p n ps d) (ρ:=ρ) (.deed h1 h3 h4 s1 s2 s3 s4)
  omega
 | @bad _ g _ p x n ps d _ _ _ _ _ _ ws ss z h1 h3 h4 s1 s2 s3 =>
  have fw:=h4.few
  rw [List.length_map] at fw
  have ol:=h4.oklen
  rw [List.length_map] at ol
  have q:=NEvs.go (.fin fn (.node x p n ps d) ρ::T) M h4 (fin1 h3) (by omega)
  have st:=start (x:=x) (p:=p) (y:=n) (ps:=ps) (d:=d) (dx h1).1 (dx h1).2 (by rw [nd_ps h1]; omega)
  rw [nd_ps h1] at st
  exact⟨_,_,_,NSs.trans (st.trans q) (.one (.bad h1 ol s1 s2 s3) (by show T.length≤_; omega) (by show M.length≤_; omega))⟩
 | @elet _ g _ p x a b d _ _ _ _ _ _ _ _ w r h1 h2 h3 h4 h5 =>
  have fw:=h4.few
  simp only [List.length_cons,List.length_nil] at fw
  have q:=NEvs.go (.fin fn (.node .elet p x [a,b] d) ρ::T) M h4 (fin1 h3) (by omega)
  have st:=start (x:=.elet) (p:=p) (y:=x) (ps:=[a,b]) (d:=d) (by decide) (by decide) (by show 1+1≤h; omega)
  have s2:NSs fm _ ⟨.beg fn b (upw ρ x w)::T,M,_,none,wi,_⟩:=NSs.trans (st.trans q) (.one (.elet h1 h2) (by simp only [List.length_cons]; omega) (by show M.length≤_; omega))
  exact (NEv.go T M h5 (by omega) (by omega)).before s2
 | @ite _ g _ p n c a b d _ _ _ _ _ _ _ _ v r h3 h4 h5 =>
  have fw:=h4.few
  simp only [List.length_cons,List.length_nil] at fw
  have q:=NEvs.go (.fin fn (.node .ite p n [c,a,b] d) ρ::T) M h4 (fin1 h3) (by omega)
  have st:=start (x:=.ite) (p:=p) (y:=n) (ps:=[c,a,b]) (d:=d) (by decide) (by decide) (by show 1+1≤h; omega)
  have s2:NSs fm _ ⟨.beg fn (if v≠0 then a else b) ρ::T,M,_,none,wi,_⟩:=NSs.trans (st.trans q) (.one .ite (by simp only [List.length_cons]; omega) (by show M.length≤_; omega))
  exact (NEv.go T M h5 (by omega) (by omega)).before s2
 | @each _ g _ p y a b d _ _ _ de1 _ _ k1 _ ws vs h1 h2 hw h3 h4 h5 =>
  have fw:=h4.few
  simp only [List.length_cons,List.length_nil] at fw
  have fw5:=h5.few
  rw [List.length_map] at fw5
  have ol:=h5.oklen
  rw [List.length_map] at ol
  have q:=NEvs.go (.fin fn (.node .each p y [a,b] d) ρ::T) M h4 (fin1 h3) (by omega)
  have st:=start (x:=.each) (p:=p) (y:=y) (ps:=[a,b]) (d:=d) (by decide) (by decide) (by show 1+1≤h; omega)
  have eb:ws.map (fun w=>Task.beg fn b (upw ρ y w))=begs fn (ws.map fun w=>(b,upw ρ y w)):=by unfold begs; rw [List.map_map]; rfl
  have s1:=NStep.over (fm:=fm) (fn:=fn) (p:=p) (a:=a) (b:=b) (d:=d) (ρ:=ρ) (T:=T) (M:=M) (k:=k1) (wi:=wi) (de:=de1) (.inl rfl) h1 h2 hw
  rw [eb] at s1
  have s2:=NSs.trans (st.trans q) (.one s1 (by simp only [List.length_append,List.length_cons,begs_len,List.length_map]; omega) (by show M.length≤_; omega))
  have q2:=NEvs.go (.gat fn (.node .each p y [a,b] d) ws::T) M h5 (by simp only [List.length_cons]; omega) (by omega)
  exact NSs.trans (s2.trans q2) (.one (.gatE ol hw) (by show T.length≤_; omega) (by show M.length+1≤_; omega))
 | @whr _ g _ p y a b d _ _ _ de1 _ _ k1 _ ws vs h1 h2 hw h3 h4 h5 h6 =>
  have fw:=h4.few
  simp only [List.length_cons,List.length_nil] at fw
  have fw5:=h5.few
  rw [List.length_map] at fw5
  have ol:=h5.oklen
  rw [List.length_map] at ol
  have q:=NEvs.go (.fin fn (.node .whr p y [a,b] d) ρ::T) M h4 (fin1 h3) (by omega)
  have st:=start (x:=.whr) (p:=p) (y:=y) (ps:=[a,b]) (d:=d) (by decide) (by decide) (by show 1+1≤h; omega)
  have eb:ws.map (fun w=>Task.beg fn b (upw ρ y w))=begs fn (ws.map fun w=>(b,upw ρ y w)):=by unfold begs; rw [List.map_map]; rfl
  have s1:=NStep.over (fm:=fm) (fn:=fn) (p:=p) (a:=a) (b:=b) (d:=d) (ρ:=ρ) (T:=T) (M:=M) (k:=k1) (wi:=wi) (de:=de1) (.inr rfl) h1 h2 hw
  rw [eb] at s1
  have s2:=NSs.trans (st.trans q) (.one s1 (by simp only [List.length_append,List.length_cons,begs_len,List.length_map]; omega) (by show M.length≤_; omega))
  have q2:=NEvs.go (.gat fn (.node .whr p y [a,b] d) ws::T) M h5 (by simp only [List.length_cons]; omega) (by omega)
  exact NSs.trans (s2.trans q2) (.one (.gatW ol hw h6) (by show T.length≤_; omega) (by show M.length+1≤_; omega))
 | @over _ g _ p x y a b d _ _ _ de1 _ _ k1 _ ws z hx h1 h2 hw h3 h4 h5 =>
  have fw:=h4.few
  simp only [List.length_cons,List.length_nil] at fw
  have fw5:=h5.few
  rw [List.length_map] at fw5
  have q:=NEvs.go (.fin fn (.node x p y [a,b] d) ρ::T) M h4 (fin1 h3) (by omega)
  have ea:aheadOf x [a,b]=[a]:=by rcases hx with rfl | rfl <;> rfl
  have st:=start (x:=x) (p:=p) (y:=y) (ps:=[a,b]) (d:=d) (by rcases hx with rfl | rfl <;> decide) (by rcases hx with rfl | rfl <;> decide) (by rw [ea]; show 1+1≤h; omega)
  rw [ea] at st
  have eb:ws.map (fun w=>Task.beg fn b (upw ρ y w))=begs fn (ws.map fun w=>(b,upw ρ y w)):=by unfold begs; rw [List.map_map]; rfl
  have s1:=NStep.over (fm:=fm) (fn:=fn) (x:=x) (p:=p) (a:=a) (b:=b) (d:=d) (ρ:=ρ) (T:=T) (M:=M) (k:=k1) (wi:=wi) (de:=de1) hx h1 h2 hw
  rw [eb] at s1
  have s2:=NSs.trans (st.trans q) (.one s1 (by simp only [List.length_append,List.length_cons,begs_len,List.length_map]; omega) (by show M.length≤_; omega))
  have q2:=NEvs.go (.gat fn (.node x p y [a,b] d) ws::T) M h5 (by simp only [List.length_cons]; omega) (by omega)
  exact q2.before s2
 | @call _ g _ p j ps d _ _ _ _ _ _ _ _ ws f r h3 h4 e1 e2 e3 e4 e5 e6 e7 h5 =>
  have fw:=h4.few
  rw [List.length_map] at fw
  have ol:=h4.oklen
  rw [List.length_map] at ol
  have q:=NEvs.go (.fin fn (.node .call p (j:Int) ps d) ρ::T) M h4 (fin1 h3) (by omega)
  have st:=start (x:=.call) (p:=p) (y:=(j:Int)) (ps:=ps) (d:=d) (by decide) (by decide) (by rw [call_ps]; omega)
  rw [call_ps] at st
  have g1:=h5.pos
  have s2:=NSs.trans (st.trans q) (.one (.call ol e1 e2 e3 e4 e5 e6 e7) (by simp only [List.length_cons]; omega) (by show M.length≤_; omega))
  have q2:=NEv.go (.lv j::T) M h5 (by simp only [List.length_cons]; omega) (by omega)
  have jl:j < wi.length:=by rw [e2]; exact (List.getElem?_eq_some_iff.mp e1).1
  cases r with
  | error z=>exact q2.before s2
  | ok w =>
   have s3:=NStep.lv (fm:=fm) (T:=T) (M:=w::M) (k:=k') (de:=de') (bump_pos jl).1 (bump_pos jl).2
   rw [unbump_bump'] at s3
   exact NSs.trans (s2.trans q2) (.one s3 (by show T.length≤_; omega) (by show M.length+1≤_; omega))
 | @deep _ g _ p j ps d _ _ _ _ _ _ ws h3 h4 e1 e2 =>
  have fw:=h4.few
  rw [List.length_map] at fw
  have ol:=h4.oklen
  rw [List.length_map] at ol
  have q:=NEvs.go (.fin fn (.node .call p (j:Int) ps d) ρ::T) M h4 (fin1 h3) (by omega)
  have st:=start (x:=.call) (p:=p) (y:=(j:Int)) (ps:=ps) (d:=d) (by decide) (by decide) (by rw [call_ps]; omega)
  rw [call_ps] at st
  exact⟨_,_,_,NSs.trans (st.trans q) (.one (.deep ol e1 e2) (by show T.length≤_; omega) (by show M.length≤_; omega))⟩
termination_by h
decreasing_by all_goals omega
theorem NEvs.go {fm:List (List (Int×Nat)×Nd)} {h fn:Nat}{es:List (Nd×EnvW)} {wi de de':List Nat}{k k':Int}{r:NRs}(T:List Task) (M:List Wo) (e:NEvs fm h fn es wi de k r de' k') (hT:T.length+h≤8000000) (hM:M.length+h≤8000000):NGot fm ⟨begs fn es++T,M,k,none,wi,de⟩ T M wi r de' k':=by
 cases e with
 | nil=>exact .refl
 | @cons _ g _ e es _ _ _ _ _ _ _ w ws h1 h2 h3 h4 =>
  have q:=NEv.go (begs fn es++T) M h3 (by rw [List.length_append,begs_len]; omega) (by omega)
  have q2:=NEvs.go T (w::M) h4 (by omega) (by simp only [List.length_cons]; omega)
  have q3:NSs fm ⟨begs fn es++T,w::M,_,none,wi,_⟩ ⟨T,ws.reverse++(w::M),_,none,wi,_⟩:=q2
  show NSs fm _ ⟨T,(w::ws).reverse++M,_,none,wi,_⟩
  rw [List.reverse_cons,List.append_assoc]
  exact NSs.trans q q3
 | @bad _ g _ e es _ _ _ _ _ _ _ w z h1 h2 h3 h4 =>
  have q:=NEv.go (begs fn es++T) M h3 (by rw [List.length_append,begs_len]; omega) (by omega)
  have q2:=NEvs.go T (w::M) h4 (by omega) (by simp only [List.length_cons]; omega)
  obtain⟨a,b,c,g'⟩:=q2
  exact⟨a,b,c,NSs.trans q g'⟩
 | @here _ g _ e es _ _ _ _ _ z h1 h2 h3=>exact NEv.go (begs fn es++T) M h3 (by rw [List.length_append,begs_len]; omega) (by omega)
termination_by h
decreasing_by all_goals first | omega | (have:=h3.pos; omega)
end
def numsOf:List Wo→Option (List Int)
 | []=>some []
 | .num n::ws=>(numsOf ws).map (n::·)
 | .row _::_=>none
def rowsOf:List Wo→Option (List (List Wo))
 | []=>some []
 | .row r::ws=>(rowsOf ws).map (r::·)
 | .num _::_=>none
def szE (x:W) (ws:List Wo):Option (List Int) :=
 if x=.flat then (match ws with
  | [.row us]=>(rowsOf us).bind fun rs=>if rs.length≤1000 then some [((rs.map fun r=>(r.length:Int)).sum)] else none
  | _=>none)
 else if ws.length≤1000 then some (ws.map szW) else none
def dresE (x:W) (ws:List Wo):Option Wo:=match x,ws with
 | .plus,[.num a,.num b]=>some (.num ((a+b) % 10007))
 | .minus,[.num a,.num b]=>some (.num ((a - b) % 10007))
 | .times,[.num a,.num b]=>if 0≤a∧a≤10006 then some (.num (a*b % 10007)) else none
 | .less,[.num a,.num b]=>some (.num (if a < b then 1 else 0))
 | .same,[.num a,.num b]=>some (.num (if a=b then 1 else 0))
 | .upto,[.num n]=>if 0≤n∧n≤1000 then some (.row (uptos n.toNat)) else none
 | .len,[.row us]=>some (.num (us.length:Int))
 | .sum,[.row us]=>(numsOf us).map fun ns=>.num (ns.sum % 10007)
 | .sums,[.row us]=>(numsOf us).bind fun ns=>if ns.length≤1000 then some (.row ((aheads 0 ns).map Wo.num)) else none
 | .one,[w]=>some (.row [w])
 | .pick,[.row us,.num n]=>if 0≤n then us[n.toNat]? else none
 | .put,[.row us,.row vs]=>if us.length+vs.length≤1000 then some (.row (us++vs)) else none
 | .flat,[.row us]=>(rowsOf us).bind fun rs=>if rs.flatten.length≤1000 then some (.row rs.flatten) else none
 | _,_=>none
def deedE (x:W) (ws:List Wo):Option (List Int×Except Str Wo):=(szE x ws).bind fun ss =>
 if x=.pick∧ss.length≠2 then none else match faultS x ss with
  | some z=>some (ss,.error z)
  | none=>(dresE x ws).map fun r=>(ss,.ok r)
theorem ahead_two {x:W}{a b:Nd}(h:x.bl=true):aheadOf x [a,b]=[a]:=if_pos h
abbrev Pth:=List (Nat×Nat)
structure Cn where
 k:Int
 t:Int
 d:Nat→Nat
 v:List Pth
namespace Cn
def zero:Cn:=⟨0,0,fun _=>0,[]⟩
def add (a b:Cn):Cn:=⟨a.k+b.k,a.t+b.t,fun j=>max (a.d j) (b.d j),a.v++b.v⟩
def row (fn p:Nat) (k t:Int):Cn:=⟨k,t,fun _=>0,[[(fn,p)]]⟩
def into (fn p:Nat) (c:Cn):Cn:=⟨c.k,c.t,c.d,c.v.map ((fn,p)::·)⟩
def deep (j n:Nat):Cn:=⟨0,0,fun i=>if i=j then n else 0,[]⟩
theorem ext {a b:Cn}(h1:a.k=b.k) (h2:a.t=b.t) (h3:∀ j,a.d j=b.d j) (h4:a.v=b.v):a=b:=by
 cases a; cases b
 dsimp only at h1 h2 h3 h4
 cases h1; cases h2; cases h4
 rw [show (_:Nat→Nat)=_ from funext h3]
theorem zero_add (a:Cn):zero.add a=a:=ext (Int.zero_add _) (Int.zero_add _) (fun j=>Nat.zero_max _) (List.nil_append _)
theorem add_zero (a:Cn):a.add zero=a:=ext (Int.add_zero _) (Int.add_zero _) (fun j=>Nat.max_zero _) (List.append_nil _)
theorem add_assoc (a b c:Cn):(a.add b).add c=a.add (b.add c):=ext (Int.add_assoc ..) (Int.add_assoc ..) (fun j=>Nat.max_assoc ..) (List.append_assoc ..)
def sums:List Cn→Cn
 | []=>zero
 | c::cs=>c.add (sums cs)
end Cn
section
variable {α:Type} [DecidableEq α]
def cnt:List α→Nat
 | []=>0
 | a::l=>if a∈l then cnt l else cnt l+1
end
def lenR:Wo→Nat
 | .num _=>0
 | .row ws=>ws.length
abbrev Flt:=Str×Nat×Nat
def nV (n:Nat):V:=.int (n:Int)
abbrev Zc:=Nat×Cn
def zp (a b:Zc):Zc:=(a.1+b.1,a.2.add b.2)
def z0:Zc:=(0,.zero)
def zr (n:Nat) (fn p:Nat) (k t:Int):Zc:=(n,.row fn p k t)
def zc (fn p j n:Nat) (z:Zc):Zc:=(z.1,((Cn.row fn p 1 0).add (.deep j n)).add (z.2.into fn p))
mutual
def fev (tg:Nat→Nat→Nat) (fm:List (List (Int×Nat)×Nd)):Nat→Nat→Nd→EnvW→List Nat→Option (NR0×Nat×Zc)
 | 0,_,_,_,_=>none
 | f+1,fn,.node x p n ps d,ρ,wi =>
  if x=.name then (ρ n).map fun w=>(.ok w,1,z0)
  else if x=.num then some (.ok (.num n),1,zr 0 fn p 1 0)
  else match fevs tg fm f fn ((aheadOf x ps).map fun e=>(e,ρ)) wi with
   | none=>none
   | some (.error z,w1,z1)=>some (.error z,w1,z1)
   | some (.ok ws,w1,z1) =>
    if x.deed=true then (match deedE x ws with
     | none=>none
     | some (ss,.ok r)=>some (.ok r,w1,zp z1 (zr (lenR r) fn p (1+itemsS x ss) 0))
     | some (_,.error z)=>some (.error (z,fn,p),w1,zp z1 (zr 0 fn p 1 0)))
    else if x=.call then
     (if 0≤n∧n.toNat < wi.length then
      (if wi.getD n.toNat 0=30 then some (.error ("deep", fn,p),w1,zp z1 (zr 0 fn p 1 0))
             else match fm[n.toNat]? with
       | none=>none
       | some q=>if q.1.length=ws.length then
         (match fev tg fm f n.toNat q.2 (paramsOf q.1 ws) (bump wi n.toNat) with
                   | none=>none
                   | some (r,w2,z2)=>some (r,max w1 w2,zp z1 (zc fn p n.toNat (wi.getD n.toNat 0+1) z2)))
        else none)
           else none)
    else match x,ps,ws with
     | .elet,[_,b],[w]=>(match fev tg fm f fn b (upw ρ n w) wi with
       | none=>none
       | some (r,w2,z2)=>some (r,max w1 w2,zp z1 z2))
     | .ite,[_,a,b],[.num v]=>(match fev tg fm f fn (if v≠0 then a else b) ρ wi with
       | none=>none
       | some (r,w2,z2)=>some (r,max w1 w2,zp z1 (zp (zr 0 fn p 1 (tg fn p)) z2)))
     | .each,[_,b],[.row us]=>(match fevi tg fm f fn (us.map fun w=>(b,upw ρ n w)) wi with
       | none=>none
       | some (rs,w2,z2)=>some (gatR rs,max w1 w2,zp z1 (zp (zr us.length fn p (1+us.length) (tg fn p*us.length)) z2)))
     | .whr,[_,b],[.row us]=>(match fevi tg fm f fn (us.map fun w=>(b,upw ρ n w)) wi with
       | none=>none
       | some (rs,w2,z2)=>(keptR us rs).map fun r=>(r,max w1 w2,zp z1 (zp (zr us.length fn p (1+us.length) (tg fn p*us.length)) z2)))
     | _,_,_=>none
def fevs (tg:Nat→Nat→Nat) (fm:List (List (Int×Nat)×Nd)):Nat→Nat→List (Nd×EnvW)→List Nat→Option (NRs×Nat×Zc)
 | _,_,[],_=>some (.ok [],1,z0)
 | 0,_,_::_,_=>none
 | f+1,fn,e::es,wi=>match fev tg fm f fn e.1 e.2 wi with
  | none=>none
  | some (.error z,w1,z1)=>some (.error z,w1,z1)
  | some (.ok w,w1,z1)=>match fevs tg fm f fn es wi with
   | none=>none
   | some (.ok ws,w2,z2)=>some (.ok (w::ws),max w1 w2,zp z1 z2)
   | some (.error z,w2,z2)=>some (.error z,max w1 w2,zp z1 z2)
def fevi (tg:Nat→Nat→Nat) (fm:List (List (Int×Nat)×Nd)):Nat→Nat→List (Nd×EnvW)→List Nat→Option (List NR0×Nat×Zc)
 | _,_,[],_=>some ([],0,z0)
 | 0,_,_::_,_=>none
 | f+1,fn,e::es,wi=>match fev tg fm f fn e.1 e.2 wi with
  | none=>none
  | some (r,w1,z1)=>match fevi tg fm f fn es wi with
   | none=>none
   | some (rs,w2,z2)=>some (r::rs,w1+w2,zp z1 z2)
def gatR:List NR0→NR0
 | []=>.ok (.row [])
 | .error z::_=>.error z
 | .ok w::rs=>match gatR rs with
  | .error z=>.error z
  | .ok (.row ws)=>.ok (.row (w::ws))
  | .ok (.num _)=>.ok (.row [w])
def keptR:List Wo→List NR0→Option NR0
 | [],[]=>some (.ok (.row []))
 | _::us,.error z::rs=>(keptR us rs).map fun _=>.error z
 | u::us,.ok (.num c)::rs=>match keptR us rs with
  | some (.error z)=>some (.error z)
  | some (.ok (.row ws))=>some (.ok (.row (if c=0 then ws else u::ws)))
  | _=>none
 | _,_=>none
end
mutual
def Nd.pl:Nd→Nat→Prop
 | .node _ p _ ps _,q=>p=q∧pls ps (q+1)
def pls:List Nd→Nat→Prop
 | [],_=>True
 | e::es,q=>e.pl q∧pls es (q+e.size)
end
mutual
theorem An.pl {fs:List (List Nat×Nat)}:∀ {ρ:Env1}{p:Nat}{e:Ex}{nd:Nd},An fs ρ p e nd→nd.pl p
 | _,_,_,_,.num _ _=>⟨rfl,trivial⟩
 | _,_,_,_,.name _ _ _ _=>⟨rfl,trivial⟩
 | _,_,_,_,.bind _ _ _ ha _ hb _=>by
  have h1:=ha.pl
  have h2:=hb.pl
  refine⟨rfl,h1,?_,trivial⟩
  rw [ha.sz.1]
  exact h2
 | _,_,_,_,.call _ _ hp _=>⟨rfl,hp.pl⟩
 | _,_,_,_,.bare _ hp _=>⟨rfl,hp.pl⟩
theorem Ans.pl {fs:List (List Nat×Nat)}:∀ {ρ:Env1}{p:Nat}{es:List Ex}{nds:List Nd},Ans fs ρ p es nds→pls nds p
 | _,_,_,_,.nil=>trivial
 | _,_,_,_,.cons ha hr=>by
  refine⟨ha.pl,?_⟩
  rw [ha.sz.1]
  exact hr.pl
end
def InR (fn p q:Nat) (c:Cn):Prop:=∀ x∈c.v,∃ a r,x=(fn,a)::r∧p≤a∧a < q
theorem InR.mono {fn p q p' q':Nat}{c:Cn}(h:InR fn p q c) (h1:p'≤p) (h2:q≤q'):InR fn p' q' c:=fun x hx=>by
 obtain⟨a,r,e,a1,a2⟩:=h x hx
 exact⟨a,r,e,Nat.le_trans h1 a1,Nat.lt_of_lt_of_le a2 h2⟩
theorem InR.zero {fn p q:Nat}:InR fn p q .zero:=fun x hx=>nomatch hx
theorem InR.add {fn p q:Nat}{a b:Cn}(h:InR fn p q a) (g:InR fn p q b):InR fn p q (a.add b):=fun x hx=>(List.mem_append.mp hx).elim (h x) (g x)
theorem InR.row {fn p q a:Nat}{k t:Int}(h1:p≤a) (h2:a < q):InR fn p q (.row fn a k t):=fun x hx=>by
 have e:x=[(fn,a)]:=by simpa [Cn.row] using hx
 exact⟨a,[],e,h1,h2⟩
theorem InR.deep {fn p q j n:Nat}:InR fn p q (.deep j n):=fun x hx=>nomatch hx
theorem InR.into {fn p q a:Nat}(c:Cn) (h1:p≤a) (h2:a < q):InR fn p q (c.into fn a):=fun x hx=>by
 obtain⟨y,_,rfl⟩:=List.mem_map.mp hx
 exact⟨a,y,rfl,h1,h2⟩
def ffin (tg:Nat→Nat→Nat) (fm:List (List (Int×Nat)×Nd)) (f fn:Nat) (x:W) (p:Nat) (n:Int) (ps:List Nd) (ρ:EnvW) (wi:List Nat) (ws:List Wo) (w1:Nat) (z1:Zc):Option (NR0×Nat×Zc) :=
    if x.deed=true then (match deedE x ws with
     | none=>none
     | some (ss,.ok r)=>some (.ok r,w1,zp z1 (zr (lenR r) fn p (1+itemsS x ss) 0))
     | some (_,.error z)=>some (.error (z,fn,p),w1,zp z1 (zr 0 fn p 1 0)))
    else if x=.call then
     (if 0≤n∧n.toNat < wi.length then
      (if wi.getD n.toNat 0=30 then some (.error ("deep", fn,p),w1,zp z1 (zr 0 fn p 1 0))
             else match fm[n.toNat]? with
       | none=>none
       | some q=>if q.1.length=ws.length then
         (match fev tg fm f n.toNat q.2 (paramsOf q.1 ws) (bump wi n.toNat) with
                   | none=>none
                   | some (r,w2,z2)=>some (r,max w1 w2,zp z1 (zc fn p n.toNat (wi.getD n.toNat 0+1) z2)))
        else none)
           else none)
    else match x,ps,ws with
     | .elet,[_,b],[w]=>(match fev tg fm f fn b (upw ρ n w) wi with
       | none=>none
       | some (r,w2,z2)=>some (r,max w1 w2,zp z1 z2))
     | .ite,[_,a,b],[.num v]=>(match fev tg fm f fn (if v≠0 then a else b) ρ wi with
       | none=>none
       | some (r,w2,z2)=>some (r,max w1 w2,zp z1 (zp (zr 0 fn p 1 (tg fn p)) z2)))
     | .each,[_,b],[.row us]=>(match fevi tg fm f fn (us.map fun w=>(b,upw ρ n w)) wi with
       | none=>none
       | some (rs,w2,z2)=>some (gatR rs,max w1 w2,zp z1 (zp (zr us.length fn p (1+us.length) (tg fn p*us.length)) z2)))
     | .whr,[_,b],[.row us]=>(match fevi tg fm f fn (us.map fun w=>(b,upw ρ n w)) wi with
       | none=>none
       | some (rs,w2,z2)=>(keptR us rs).map fun r=>(r,max w1 w2,zp z1 (zp (zr us.length fn p (1+us.length) (tg fn p*us.length)) z2)))
     | _,_,_=>none
theorem fev_eq {tg:Nat→Nat→Nat}{fm:List (List (Int×Nat)×Nd)} {f fn:Nat}{x:W}{p:Nat}{n:Int}{ps:List Nd}{d:Nat}{ρ:EnvW}{wi:List Nat}(h1:x≠.name) (h2:x≠.num):fev tg fm (f+1) fn (.node x p n ps d) ρ wi=match fevs tg fm f fn ((aheadOf x ps).map fun e=>(e,ρ)) wi with
   | none=>none
   | some (.error z,w1,z1)=>some (.error z,w1,z1)
   | some (.ok ws,w1,z1)=>ffin tg fm f fn x p n ps ρ wi ws w1 z1:=by
 unfold fev ffin
 rw [if_neg h1,if_neg h2]
 all_goals
  cases fevs tg fm f fn ((aheadOf x ps).map fun e=>(e,ρ)) wi with
  | none=>rfl
  | some q =>
   obtain⟨o,w1,z1⟩:=q
   cases o with
   | error z=>rfl
   | ok ws=>rfl
def firstE:List NR0→Option Flt
 | []=>none
 | .error z::_=>some z
 | .ok _::rs=>firstE rs
def okV:NR0→Wo
 | .ok w=>w
 | .error _=>.num 0
theorem gatR_all:∀ rs:List NR0,(∃ ws,gatR rs=.ok (.row ws)∧firstE rs=none∧ws=rs.map okV)∨∃ z,gatR rs=.error z∧firstE rs=some z
 | []=>.inl ⟨[],by unfold gatR; rfl,rfl,rfl⟩
 | .error z::rs=>.inr ⟨z,by unfold gatR; rfl,rfl⟩
 | .ok w::rs=>by
  rcases gatR_all rs with⟨ws,h1,h2,h3⟩ | ⟨z,h1,h2⟩
  ·refine .inl ⟨w::ws,?_,h2,?_⟩
   ·unfold gatR
    rw [h1]
   ·rw [h3]
    rfl
  ·refine .inr ⟨z,?_,h2⟩
   unfold gatR
   rw [h1]
def numV:NR0→Int
 | .ok (.num c)=>c
 | _=>0
theorem keptR_all:∀ {us:List Wo}{rs:List NR0}{r:NR0},keptR us rs=some r→rs.length=us.length→(∀ q∈rs,∀ v,q=.ok v→∃ c,v=.num c)∧((∃ ws,r=.ok (.row ws)∧firstE rs=none∧ws=((us.zip rs).filter fun p => !decide (numV p.2=0)).map (·.1))∨∃ z,r=.error z∧firstE rs=some z)
 | [],[],r,h,_=>by
  unfold keptR at h
  cases h
  exact⟨fun q hq=>(by cases hq),.inl ⟨[],rfl,rfl,rfl⟩⟩
 | [],_::_,r,_,h=>by simp at h
 | _::_,[],r,_,h=>by simp at h
 | u::us,.error z::rs,r,h,hl=>by
  unfold keptR at h
  cases e:keptR us rs with
  | none=>rw [e] at h; cases h
  | some q =>
   rw [e] at h
   cases h
   refine⟨fun q hq v hv => ?_,.inr ⟨z,rfl,rfl⟩⟩
   rcases List.mem_cons.mp hq with rfl | hq
   ·cases hv
   ·exact (keptR_all e (by simpa using hl)).1 q hq v hv
 | u::us,.ok (.row v)::rs,r,h,_=>by
  unfold keptR at h
  cases h
 | u::us,.ok (.num c)::rs,r,h,hl=>by
  unfold keptR at h
  cases e:keptR us rs with
  | none=>rw [e] at h; cases h
  | some q =>
   rw [e] at h
   obtain⟨h3,h5⟩:=keptR_all e (by simpa using hl)
   refine⟨fun q hq v hv => ?_,?_⟩
   ·rcases List.mem_cons.mp hq with rfl | hq
    ·cases hv
     exact⟨c,rfl⟩
    ·exact h3 q hq v hv
   rcases h5 with⟨ws,rfl,h2,h4⟩ | ⟨z,rfl,h2⟩
   ·cases h
    refine .inl ⟨_,rfl,h2,?_⟩
    rw [List.zip_cons_cons,List.filter_cons]
    show (if c=0 then ws else u::ws)=_
    by_cases c0:c=0
    ·rw [if_pos c0,if_neg (by show ¬ (!decide (c=0))=true; rw [decide_eq_true c0]; decide)]
     exact h4
    ·rw [if_neg c0,if_pos (by show (!decide (c=0))=true; rw [decide_eq_false c0]; rfl),List.map_cons,← h4]
   ·cases h
    exact .inr ⟨z,rfl,h2⟩
theorem lay_deed {w:W}(h:w.lay=3) (h2:w≠.ite):w.deed=true∧w≠.name∧w≠.num∧w≠.each∧w≠.whr∧w≠.call:=by
 cases w <;> first | (cases h; done) | (exact absurd rfl h2) | (exact⟨rfl,by decide,by decide,by decide,by decide,by decide⟩)
theorem envOf_at {ps:List (Int×Nat)} {x:Int}{d:Nat}(nd:(ps.map (·.1)).Nodup) (h:envOf ps x=some d):∃ i:Nat,ps[i]? = some (x,d)∧True:=by
 unfold envOf at h
 cases e:ps.find? fun p=>decide (p.1=x) with
 | none=>rw [e] at h; cases h
 | some q =>
  rw [e] at h
  cases h
  have h1:q.1=x:=by simpa using List.find?_some e
  obtain⟨i,hi⟩:=List.mem_iff_getElem?.mp (List.mem_of_find?_eq_some e)
  obtain⟨y,d⟩:=q
  cases h1
  exact⟨i,hi,trivial⟩
theorem paramsOf_at:∀ {ps:List (Int×Nat)} {ws:List Wo}{i:Nat}{x:Int}{d:Nat}{w:Wo},(ps.map (·.1)).Nodup→ps[i]? = some (x,d)→ws[i]? = some w→paramsOf ps ws x=some w
 | [],_,i,_,_,_,_,h,_=>by simp at h
 | _::_,[],i,_,_,_,_,_,h=>by simp at h
 | q::ps,v::ws,0,x,d,w,nd,h1,h2=>by
  cases h1
  cases h2
  unfold paramsOf
  rw [List.zip_cons_cons,List.find?_cons_of_pos (by simp)]
  rfl
 | q::ps,v::ws,i+1,x,d,w,nd,h1,h2=>by
  obtain⟨n1,n2⟩:=List.nodup_cons.mp (show (q.1::ps.map (·.1)).Nodup from nd)
  have h1:ps[i]? = some (x,d):=h1
  have ne:q.1≠x:=fun z=>n1 (by rw [z]; exact List.mem_map.mpr ⟨_,List.mem_of_getElem? h1,rfl⟩)
  have ih:=paramsOf_at (i:=i) n2 h1 h2
  unfold paramsOf at ih ⊢
  rw [List.zip_cons_cons,List.find?_cons_of_neg (by simpa using ne)]
  exact ih
theorem fev_both (tg:Nat→Nat→Nat) (fm:List (List (Int×Nat)×Nd)):∀ f:Nat,
  (∀ {fn:Nat}{nd:Nd}{ρ:EnvW}{wi:List Nat}{q:NR0×Nat×Zc},fev tg fm f fn nd ρ wi=some q→fev tg fm (f+1) fn nd ρ wi=some q) ∧
  (∀ {fn:Nat}{es:List (Nd×EnvW)} {wi:List Nat}{q:NRs×Nat×Zc},fevs tg fm f fn es wi=some q→fevs tg fm (f+1) fn es wi=some q) ∧
  (∀ {fn:Nat}{es:List (Nd×EnvW)} {wi:List Nat}{q:List NR0×Nat×Zc},fevi tg fm f fn es wi=some q→fevi tg fm (f+1) fn es wi=some q):=by
 intro f
 induction f with
 | zero =>
  refine⟨fun {fn nd ρ wi q} e=>(by cases nd; unfold fev at e; cases e),fun {fn es wi q} e => ?_,fun {fn es wi q} e => ?_⟩
  ·cases es with
   | nil=>unfold fevs at e ⊢; exact e
   | cons a b=>unfold fevs at e; cases e
  ·cases es with
   | nil=>unfold fevi at e ⊢; exact e
   | cons a b=>unfold fevi at e; cases e
 | succ f ih =>
  obtain⟨ih1,ih2,ih3⟩:=ih
  refine⟨fun {fn nd ρ wi q} e => ?_,fun {fn es wi q} e => ?_,fun {fn es wi q} e => ?_⟩
  ·obtain⟨x,p,n,ps,d⟩:=nd
   by_cases c1:x=.name
   ·unfold fev at e ⊢
    rw [if_pos c1] at e ⊢
    exact e
   by_cases c2:x=.num
   ·unfold fev at e ⊢
    rw [if_neg c1,if_pos c2] at e ⊢
    exact e
   rw [fev_eq c1 c2] at e ⊢
   cases e1:fevs tg fm f fn ((aheadOf x ps).map fun e=>(e,ρ)) wi with
   | none=>rw [e1] at e; cases e
   | some y =>
   rw [ih2 e1]
   rw [e1] at e
   obtain⟨o,w1,z1⟩:=y
   cases o with
   | error z=>exact e
   | ok ws =>
   replace e:ffin tg fm f fn x p n ps ρ wi ws w1 z1=some q:=e
   show ffin tg fm (f+1) fn x p n ps ρ wi ws w1 z1=some q
   unfold ffin at e ⊢
   by_cases c3:x.deed=true
   ·rw [if_pos c3] at e ⊢
    exact e
   rw [if_neg c3] at e ⊢
   by_cases c4:x=.call
   ·rw [if_pos c4] at e ⊢
    split at e
    ·rename_i c5
     rw [if_pos c5]
     split at e
     ·rename_i c6
      rw [if_pos c6]
      exact e
     ·rename_i c6
      rw [if_neg c6]
      cases e2:fm[n.toNat]? with
      | none=>rw [e2] at e; cases e
      | some y =>
      rw [e2] at e
      dsimp only at e ⊢
      split at e
      ·rename_i c7
       rw [if_pos c7]
       cases e3:fev tg fm f n.toNat y.2 (paramsOf y.1 ws) (bump wi n.toNat) with
       | none=>rw [e3] at e; cases e
       | some v=>rw [ih1 e3]; rw [e3] at e; exact e
      ·cases e
    ·cases e
   ·rw [if_neg c4] at e ⊢
    split at e
    ·rename_i b w
     cases e3:fev tg fm f fn b (upw ρ n w) wi with
     | none=>rw [e3] at e; cases e
     | some v=>rw [e3] at e; rw [ih1 e3]; exact e
    ·rename_i a b v
     cases e3:fev tg fm f fn (if v≠0 then a else b) ρ wi with
     | none=>rw [e3] at e; cases e
     | some v=>rw [e3] at e; rw [ih1 e3]; exact e
    ·rename_i b us
     cases e3:fevi tg fm f fn (us.map fun w=>(b,upw ρ n w)) wi with
     | none=>rw [e3] at e; cases e
     | some v=>rw [e3] at e; rw [ih3 e3]; exact e
    ·rename_i b us
     cases e3:fevi tg fm f fn (us.map fun w=>(b,upw ρ n w)) wi with
     | none=>rw [e3] at e; cases e
     | some v=>rw [e3] at e; rw [ih3 e3]; exact e
    ·cases e
  ·cases es with
   | nil=>unfold fevs at e ⊢; exact e
   | cons a es =>
    unfold fevs at e ⊢
    cases e1:fev tg fm f fn a.1 a.2 wi with
    | none=>rw [e1] at e; cases e
    | some y =>
    rw [ih1 e1]
    rw [e1] at e
    obtain⟨o,w1,z1⟩:=y
    cases o with
    | error z=>exact e
    | ok w =>
    dsimp only at e ⊢
    cases e2:fevs tg fm f fn es wi with
    | none=>rw [e2] at e; cases e
    | some v=>rw [ih2 e2]; rw [e2] at e; exact e
  ·cases es with
   | nil=>unfold fevi at e ⊢; exact e
   | cons a es =>
    unfold fevi at e ⊢
    cases e1:fev tg fm f fn a.1 a.2 wi with
    | none=>rw [e1] at e; cases e
    | some y =>
    rw [ih1 e1]
    rw [e1] at e
    obtain⟨o,w1,z1⟩:=y
    dsimp only at e ⊢
    cases e2:fevi tg fm f fn es wi with
    | none=>rw [e2] at e; cases e
    | some v=>rw [ih3 e2]; rw [e2] at e; exact e
theorem fev_mono {tg:Nat→Nat→Nat}{fm:List (List (Int×Nat)×Nd)} {f fn:Nat}{nd:Nd}{ρ:EnvW}{wi:List Nat}{q:NR0×Nat×Zc}(h:fev tg fm f fn nd ρ wi=some q):fev tg fm (f+1) fn nd ρ wi=some q:=(fev_both tg fm f).1 h
theorem fevi_at {tg:Nat→Nat→Nat}{fm:List (List (Int×Nat)×Nd)}:∀ {f fn:Nat}{es:List (Nd×EnvW)} {wi:List Nat}{rs:List NR0}{w:Nat}{z:Zc},fevi tg fm f fn es wi=some (rs,w,z)→∃ qs:List (NR0×Nat×Zc),qs.map (·.1)=rs∧qs.length=es.length∧(qs.map (·.2.1)).sum=w∧(qs.map (·.2.2.1)).sum=z.1∧Cn.sums (qs.map (·.2.2.2))=z.2∧∀ (i:Nat) (e:Nd×EnvW),es[i]? = some e→∃ q,qs[i]? = some q∧fev tg fm f fn e.1 e.2 wi=some q
 | f,fn,[],wi,rs,w,z,h=>by
  have h:some (([],0,z0):List NR0×Nat×Zc)=some (rs,w,z):=by cases f <;> (unfold fevi at h; exact h)
  cases h
  exact⟨[],rfl,rfl,rfl,rfl,rfl,fun i e h=>by simp at h⟩
 | 0,fn,a::es,wi,rs,w,z,h=>by unfold fevi at h; cases h
 | f+1,fn,a::es,wi,rs,w,z,h=>by
  unfold fevi at h
  cases e1:fev tg fm f fn a.1 a.2 wi with
  | none=>rw [e1] at h; cases h
  | some y =>
  obtain⟨r,w1,z1⟩:=y
  rw [e1] at h
  dsimp only at h
  cases e2:fevi tg fm f fn es wi with
  | none=>rw [e2] at h; cases h
  | some v =>
  obtain⟨rs2,w2,z2⟩:=v
  rw [e2] at h
  injection h with h
  injection h with h h2
  injection h2 with h2 h3
  obtain⟨qs,a1,a2,a3,a4,a6,a5⟩:=fevi_at e2
  refine⟨(r,w1,z1)::qs,by rw [← h,← a1]; rfl,congrArg (·+1) a2,?_,?_,?_,fun i e hi => ?_⟩
  ·rw [List.map_cons,List.sum_cons,a3]
   exact h2
  ·rw [List.map_cons,List.sum_cons,a4,← h3]
   rfl
  ·rw [List.map_cons]
   show z1.2.add (Cn.sums (qs.map (·.2.2.2)))=z.2
   rw [a6,← h3]
   rfl
  ·cases i with
   | zero =>
    cases hi
    exact⟨_,rfl,fev_mono e1⟩
   | succ i =>
    obtain⟨q,b1,b2⟩:=a5 i e hi
    exact⟨q,b1,fev_mono b2⟩
theorem nums_of:∀ {ws:List Wo},(∀ w∈ws,WOk 0 w)→∃ ns:List Int,numsOf ws=some ns∧ws=ns.map Wo.num∧∀ n∈ns,0≤n∧n≤10006
 | [],_=>⟨[],rfl,rfl,fun n h=>by simp at h⟩
 | w::ws,h=>by
  obtain⟨ns,e1,e2,e3⟩:=nums_of fun u hu=>h u (List.mem_cons_of_mem _ hu)
  obtain⟨n,rfl,hn⟩:=wok_num (h w (List.mem_cons_self ..))
  refine⟨n::ns,?_,by rw [e2]; rfl,fun m hm => ?_⟩
  ·unfold numsOf
   rw [e1]
   rfl
  ·rcases List.mem_cons.mp hm with rfl | hm
   ·exact hn
   ·exact e3 m hm
theorem rows_of {d:Nat}:∀ {ws:List Wo},(∀ w∈ws,WOk (d+1) w)→∃ rs:List (List Wo),rowsOf ws=some rs∧ws=rs.map Wo.row∧∀ r∈rs,r.length≤40∧∀ w∈r,WOk d w
 | [],_=>⟨[],rfl,rfl,fun n h=>by simp at h⟩
 | w::ws,h=>by
  obtain⟨ns,e1,e2,e3⟩:=rows_of fun u hu=>h u (List.mem_cons_of_mem _ hu)
  obtain⟨n,rfl,hn⟩:=wok_row (h w (List.mem_cons_self ..))
  refine⟨n::ns,?_,by rw [e2]; rfl,fun m hm => ?_⟩
  ·unfold rowsOf
   rw [e1]
   rfl
  ·rcases List.mem_cons.mp hm with rfl | hm
   ·exact hn
   ·exact e3 m hm
theorem aheads_rng:∀ {ns:List Int}{a:Int},0≤a∧a≤10006→∀ n∈aheads a ns,0≤n∧n≤10006
 | [],a,_,n,h=>by simp [aheads] at h
 | m::ns,a,ha,n,h=>by
  unfold aheads at h
  rcases List.mem_cons.mp h with rfl | h
  ·exact ha
  ·exact aheads_rng (by omega) n h
theorem woks1 {d:Nat}{ws:List Wo}(h:WOks [d] ws):∃ w,ws=[w]∧WOk d w:=by
 match ws,h with
 | [],h=>exact h.elim
 | [w],h=>exact⟨w,rfl,h.1⟩
 | _::_::_,h=>exact h.2.elim
theorem woks2 {d e:Nat}{ws:List Wo}(h:WOks [d,e] ws):∃ w v,ws=[w,v]∧WOk d w∧WOk e v:=by
 match ws,h with
 | [],h=>exact h.elim
 | [w],h=>exact h.2.elim
 | [w,v],h=>exact⟨w,v,rfl,h.1,h.2.1⟩
 | _::_::_::_,h=>exact h.2.2.elim
theorem uptos_len (n:Nat):(uptos n).length=n:=by unfold uptos; rw [List.length_map,List.length_range]
theorem uptos_mem {n:Nat}{w:Wo}(h:w∈uptos n):∃ k:Nat,k < n∧w=.num (k:Int):=by
 obtain⟨k,hk,rfl⟩:=List.mem_map.mp h
 exact⟨k,List.mem_range.mp hk,rfl⟩
structure DeedT (x:W) (ws:List Wo) (d:Nat):Prop where
 ex:∃ ss o,deedE x ws=some (ss,o)∧∀ r,o=.ok r→WOk d r
theorem deedT_of {x:W}{ws:List Wo}{ss:List Int}{d:Nat}(h1:szE x ws=some ss) (h2:x=.pick→ss.length=2) (h3:faultS x ss=none→∃ r,dresE x ws=some r∧WOk d r):DeedT x ws d:=by
 refine⟨?_⟩
 cases e:faultS x ss with
 | some z =>
  refine⟨ss,.error z,?_,fun r h=>nomatch h⟩
  unfold deedE
  rw [h1,Option.bind_some,if_neg (fun z=>z.2 (h2 z.1)),e]
 | none =>
  obtain⟨r,e1,e2⟩:=h3 e
  refine⟨ss,.ok r,?_,fun r' h=>by cases h; exact e2⟩
  unfold deedE
  rw [h1,Option.bind_some,if_neg (fun z=>z.2 (h2 z.1)),e]
  dsimp only
  rw [e1]
  rfl
theorem szE_other {x:W}{ws:List Wo}(h:x≠.flat) (hl:ws.length≤1000):szE x ws=some (ws.map szW):=by
 unfold szE
 rw [if_neg h,if_pos hl]
theorem deed_typed {x:W}{ws:List Wo}{ds:List Nat}{d:Nat}(hd:Dep x ds d) (hl:x.lay=3) (hi:x≠.ite) (hw:WOks ds ws):DeedT x ws d:=by
 have two:∀ {x:W}{ds:List Nat},(x=.plus∨x=.minus∨x=.times∨x=.less∨x=.same)→ds=[0,0]→WOks ds ws→DeedT x ws 0:=fun {x ds} hx e hw=>by
  subst e
  obtain⟨w,v,rfl,h1,h2⟩:=woks2 hw
  obtain⟨a,rfl,ha⟩:=wok_num h1
  obtain⟨b,rfl,hb⟩:=wok_num h2
  refine deedT_of (szE_other (by rcases hx with rfl | rfl | rfl | rfl | rfl <;> decide) (by show 2≤1000; decide)) (fun z=>by rcases hx with rfl | rfl | rfl | rfl | rfl <;> cases z) fun _ => ?_
  rcases hx with rfl | rfl | rfl | rfl | rfl
  ·exact⟨_,rfl,by show 0≤(a+b) % 10007∧(a+b) % 10007≤10006; omega⟩
  ·exact⟨_,rfl,by show 0≤(a - b) % 10007∧(a - b) % 10007≤10006; omega⟩
  ·refine⟨.num (a*b % 10007),?_,?_⟩
   ·show (if 0≤a∧a≤10006 then _ else _)=_
    rw [if_pos ha]
   ·show 0≤a*b % 10007∧a*b % 10007≤10006
    generalize a*b=c
    omega
  ·refine⟨_,rfl,?_⟩
   show 0≤(if a < b then (1:Int) else 0)∧(if a < b then (1:Int) else 0)≤10006
   split <;> omega
  ·refine⟨_,rfl,?_⟩
   show 0≤(if a=b then (1:Int) else 0)∧(if a=b then (1:Int) else 0)≤10006
   split <;> omega
 cases hd with
 | num=>cases hl
 | two z=>exact two z rfl hw
 | ite=>exact absurd rfl hi
 | elet=>cases hl
 | each _=>cases hl
 | whr=>cases hl
 | upto =>
  obtain⟨w,rfl,h1⟩:=woks1 hw
  obtain⟨n,rfl,hn⟩:=wok_num h1
  refine deedT_of (szE_other (by decide) (by show 1≤1000; decide)) (fun z=>by cases z) fun hf => ?_
  have h40:n≤40:=by
   unfold faultS at hf
   rw [if_neg (by decide)] at hf
   split at hf
   ·cases hf
   ·rename_i c
    refine Decidable.byContradiction fun z=>c ⟨.inl rfl,?_⟩
    show 40 < n+0
    omega
  refine⟨.row (uptos n.toNat),?_,?_⟩
  ·show (if 0≤n∧n≤1000 then _ else _)=_
   rw [if_pos ⟨hn.1,by omega⟩]
  ·refine⟨by rw [uptos_len]; omega,fun w hw => ?_⟩
   obtain⟨k,hk,rfl⟩:=uptos_mem hw
   exact⟨by omega,by omega⟩
 | len =>
  obtain⟨w,rfl,h1⟩:=woks1 hw
  obtain⟨us,rfl,h2,h3⟩:=wok_row h1
  exact deedT_of (szE_other (by decide) (by show 1≤1000; decide)) (fun z=>by cases z) fun _=>⟨_,rfl,by omega,by omega⟩
 | sum =>
  obtain⟨w,rfl,h1⟩:=woks1 hw
  obtain⟨us,rfl,h2,h3⟩:=wok_row h1
  obtain⟨ns,e1,e2,e3⟩:=nums_of h3
  refine deedT_of (szE_other (by decide) (by show 1≤1000; decide)) (fun z=>by cases z) fun _=>⟨.num (ns.sum % 10007),?_,?_⟩
  ·show (numsOf us).map _=_
   rw [e1]
   rfl
  ·show 0≤ns.sum % 10007∧ns.sum % 10007≤10006
   omega
 | sums =>
  obtain⟨w,rfl,h1⟩:=woks1 hw
  obtain⟨us,rfl,h2,h3⟩:=wok_row h1
  obtain⟨ns,e1,e2,e3⟩:=nums_of h3
  have ln:ns.length≤40:=by rw [e2,List.length_map] at h2; exact h2
  refine deedT_of (szE_other (by decide) (by show 1≤1000; decide)) (fun z=>by cases z) fun _=>⟨.row ((aheads 0 ns).map Wo.num),?_,?_⟩
  ·show (numsOf us).bind _=_
   rw [e1,Option.bind_some,if_pos (by omega)]
  ·refine⟨by rw [List.length_map,aheads_len]; exact ln,fun w hw => ?_⟩
   obtain⟨n,hn,rfl⟩:=List.mem_map.mp hw
   exact aheads_rng (by omega) n hn
 | one d3 =>
  obtain⟨w,rfl,h1⟩:=woks1 hw
  refine deedT_of (szE_other (by decide) (by show 1≤1000; decide)) (fun z=>by cases z) fun _=>⟨.row [w],rfl,by show 1≤40; decide,fun u hu => ?_⟩
  rw [List.mem_singleton.mp hu]
  exact h1
 | pick =>
  obtain⟨w,v,rfl,h1,h2⟩:=woks2 hw
  obtain⟨us,rfl,h3,h4⟩:=wok_row h1
  obtain⟨n,rfl,hn⟩:=wok_num h2
  refine deedT_of (szE_other (by decide) (by show 2≤1000; decide)) (fun _=>rfl) fun hf => ?_
  have hlt:n < (us.length:Int):=by
   unfold faultS at hf
   rw [if_pos rfl] at hf
   split at hf
   ·rename_i c; exact c
   ·cases hf
  have hlt2:n.toNat < us.length:=by omega
  refine⟨us[n.toNat],?_,h4 _ (List.getElem_mem _)⟩
  show (if 0≤n then us[n.toNat]? else none)=_
  rw [if_pos hn.1,List.getElem?_eq_getElem hlt2]
 | put =>
  obtain⟨w,v,rfl,h1,h2⟩:=woks2 hw
  obtain⟨us,rfl,h3,h4⟩:=wok_row h1
  obtain⟨vs,rfl,h5,h6⟩:=wok_row h2
  refine deedT_of (szE_other (by decide) (by show 2≤1000; decide)) (fun z=>by cases z) fun hf => ?_
  have h40:us.length+vs.length≤40:=by
   unfold faultS at hf
   rw [if_neg (by decide)] at hf
   split at hf
   ·cases hf
   ·rename_i c
    refine Decidable.byContradiction fun z=>c ⟨.inr (.inl rfl),?_⟩
    show 40 < (us.length:Int)+((vs.length:Int)+0)
    omega
  refine⟨.row (us++vs),?_,by rw [List.length_append]; exact h40,fun w hw=>(List.mem_append.mp hw).elim (h4 w) (h6 w)⟩
  show (if us.length+vs.length≤1000 then _ else _)=_
  rw [if_pos (by omega)]
 | flat =>
  obtain⟨w,rfl,h1⟩:=woks1 hw
  obtain⟨us,rfl,h2,h3⟩:=wok_row h1
  obtain⟨rs,e1,e2,e3⟩:=rows_of h3
  have ln:rs.length≤40:=by rw [e2,List.length_map] at h2; exact h2
  have sz:szE .flat [.row us]=some [((rs.map fun r=>(r.length:Int)).sum)]:=by
   unfold szE
   rw [if_pos rfl]
   dsimp only
   rw [e1,Option.bind_some,if_pos (by omega)]
  refine deedT_of sz (fun z=>by cases z) fun hf => ?_
  have hsum:∀ rs:List (List Wo),(rs.map fun r=>(r.length:Int)).sum=(rs.flatten.length:Int):=fun rs=>by
   induction rs with
   | nil=>rfl
   | cons r rs ih=>rw [List.map_cons,List.sum_cons,ih,List.flatten_cons,List.length_append]; omega
  have h40:rs.flatten.length≤40:=by
   unfold faultS at hf
   rw [if_neg (by decide)] at hf
   split at hf
   ·cases hf
   ·rename_i c
    refine Decidable.byContradiction fun z=>c ⟨.inr (.inr rfl),?_⟩
    show 40 < (rs.map fun r=>(r.length:Int)).sum+0
    rw [hsum]
    omega
  refine⟨.row rs.flatten,?_,h40,fun w hw => ?_⟩
  ·show (rowsOf us).bind _=_
   rw [e1,Option.bind_some,if_pos (by omega)]
  ·obtain⟨r,h4,h5⟩:=List.mem_flatten.mp hw
   exact (e3 r h4).2 w h5
section
variable {tg:Nat→Nat→Nat}{fm:List (List (Int×Nat)×Nd)}
theorem fev_le {f g fn:Nat}{nd:Nd}{ρ:EnvW}{wi:List Nat}{q:NR0×Nat×Zc}(h:fev tg fm f fn nd ρ wi=some q) (l:f≤g):fev tg fm g fn nd ρ wi=some q:=by
 obtain⟨d,rfl⟩:∃ d,g=f+d:=⟨g - f,by omega⟩
 clear l
 induction d with
 | zero=>exact h
 | succ d ih=>exact fev_mono ih
theorem fevs_le {f g fn:Nat}{es:List (Nd×EnvW)} {wi:List Nat}{q:NRs×Nat×Zc}(h:fevs tg fm f fn es wi=some q) (l:f≤g):fevs tg fm g fn es wi=some q:=by
 obtain⟨d,rfl⟩:∃ d,g=f+d:=⟨g - f,by omega⟩
 clear l
 induction d with
 | zero=>exact h
 | succ d ih=>exact (fev_both tg fm (f+d)).2.1 ih
theorem fevi_le {f g fn:Nat}{es:List (Nd×EnvW)} {wi:List Nat}{q:List NR0×Nat×Zc}(h:fevi tg fm f fn es wi=some q) (l:f≤g):fevi tg fm g fn es wi=some q:=by
 obtain⟨d,rfl⟩:∃ d,g=f+d:=⟨g - f,by omega⟩
 clear l
 induction d with
 | zero=>exact h
 | succ d ih=>exact (fev_both tg fm (f+d)).2.2 ih
def Fc (tg:Nat→Nat→Nat) (fm:List (List (Int×Nat)×Nd)) (c fn:Nat) (nd:Nd) (ρ:EnvW) (wi:List Nat) (r:NR0) (z:Zc):Prop:=∃ w,fev tg fm (3*c) fn nd ρ wi=some (r,w,z)∧w≤c∧z.1≤41*c∧z.2.v.length≤c
def Fcs (tg:Nat→Nat→Nat) (fm:List (List (Int×Nat)×Nd)) (c fn:Nat) (es:List (Nd×EnvW)) (wi:List Nat) (r:NRs) (z:Zc):Prop:=∃ w,fevs tg fm (3*c+1) fn es wi=some (r,w,z)∧w≤max 1 c∧z.1≤41*c∧z.2.v.length≤c
def Fci (tg:Nat→Nat→Nat) (fm:List (List (Int×Nat)×Nd)) (c fn:Nat) (es:List (Nd×EnvW)) (wi:List Nat) (r:List NR0) (z:Zc):Prop:=∃ w,fevi tg fm (3*c+1) fn es wi=some (r,w,z)∧w≤c∧z.1≤41*c∧z.2.v.length≤c
theorem Fc.pos {c fn:Nat}{nd:Nd}{ρ:EnvW}{wi:List Nat}{r:NR0}{z:Zc}(h:Fc tg fm c fn nd ρ wi r z):1≤c:=by
 obtain⟨w,h,_⟩:=h
 by_cases e:c=0
 ·subst e
  cases nd
  unfold fev at h
  cases h
 ·omega
theorem zp_z0 (z:Zc):zp z z0=z:=by
 unfold zp z0
 rw [Cn.add_zero,Nat.add_zero]
theorem z0_zp (z:Zc):zp z0 z=z:=by
 unfold zp z0
 rw [Cn.zero_add,Nat.zero_add]
theorem zp_v {a b:Zc}{c d:Nat}(h1:a.2.v.length≤c) (h2:b.2.v.length≤d):(zp a b).2.v.length≤c+d:=by
 show (a.2.v++b.2.v).length≤_
 rw [List.length_append]
 omega
theorem zp_as (a b c:Zc):zp (zp a b) c=zp a (zp b c):=by
 unfold zp
 rw [Cn.add_assoc,Nat.add_assoc]
theorem fcs_nil {fn:Nat}{wi:List Nat}:Fcs tg fm 0 fn [] wi (.ok []) z0:=⟨1,by unfold fevs; rfl,by decide,Nat.zero_le _,Nat.zero_le _⟩
def conv (ws:List Wo):NR0→NRs
 | .ok v=>.ok (ws++[v])
 | .error x=>.error x
theorem fevs_snoc {fn:Nat}{e:Nd×EnvW}{wi:List Nat}{G w2:Nat}{r:NR0}{z2:Zc}(h2:fev tg fm G fn e.1 e.2 wi=some (r,w2,z2)):∀ {es:List (Nd×EnvW)} {F w1:Nat}{ws:List Wo}{z1:Zc},1≤F→fevs tg fm F fn es wi=some (.ok ws,w1,z1) →
  ∃ w,fevs tg fm (F+G) fn (es++[e]) wi=some (conv ws r,w,zp z1 z2)∧w≤max 1 (max w1 w2)
 | [],F,w1,ws,z1,p,h=>by
  unfold fevs at h
  cases h
  obtain⟨f,rfl⟩:∃ f,F=f+1:=⟨F - 1,by omega⟩
  have h3:=fev_le h2 (show G≤f+G by omega)
  rw [show f+1+G=(f+G)+1 by omega,List.nil_append]
  unfold fevs
  rw [h3,z0_zp]
  cases r with
  | error x=>exact⟨w2,rfl,by omega⟩
  | ok v =>
   have e1:fevs tg fm (f+G) fn [] wi=some (.ok [],1,z0):=by unfold fevs; rfl
   simp only [e1]
   exact⟨max w2 1,by rw [zp_z0]; rfl,by omega⟩
 | a::es,0,w1,ws,z1,p,h=>by omega
 | a::es,f+1,w1,ws,z1,p,h=>by
  unfold fevs at h
  have e0:f+1+G=(f+G)+1:=by omega
  rw [e0,List.cons_append]
  unfold fevs
  split at h
  ·cases h
  ·cases h
  rename_i v wa za ha
  have pf:1≤f:=by
   by_cases c:f=0
   ·subst c
    cases hq:a.1
    rw [hq] at ha
    unfold fev at ha
    cases ha
   ·omega
  split at h
  ·cases h
  ·rename_i vs wb zb hb
   cases h
   obtain⟨w,h4,h5⟩:=fevs_snoc h2 (es:=es) pf hb
   rw [fev_le ha (show f≤f+G by omega)]
   simp only [h4]
   cases r with
   | error x=>exact⟨max wa w,by rw [zp_as]; rfl,by omega⟩
   | ok v2=>exact⟨max wa w,by rw [zp_as]; rfl,by omega⟩
  ·cases h
theorem fevs_err {fn:Nat}{wi:List Nat}{x:Flt}(es':List (Nd×EnvW)):∀ {es:List (Nd×EnvW)} {F w1:Nat}{z1:Zc},fevs tg fm F fn es wi=some (.error x,w1,z1)→fevs tg fm F fn (es++es') wi=some (.error x,w1,z1)
 | [],F,w1,z1,h=>by
  unfold fevs at h
  cases h
 | a::es,0,w1,z1,h=>by
  unfold fevs at h
  cases h
 | a::es,f+1,w1,z1,h=>by
  rw [List.cons_append]
  unfold fevs at h ⊢
  split at h
  ·cases h
  ·cases h
   rfl
  ·rename_i v wa za ha
   split at h
   ·cases h
   ·cases h
   ·rename_i y wb zb hb
    cases h
    rw [fevs_err es' hb]
theorem Fcs.snoc {fn:Nat}{es:List (Nd×EnvW)} {e:Nd×EnvW}{wi:List Nat}{c1 c2:Nat}{ws:List Wo}{r:NR0}{z1 z2:Zc}(h1:Fcs tg fm c1 fn es wi (.ok ws) z1) (h2:Fc tg fm c2 fn e.1 e.2 wi r z2):Fcs tg fm (c1+c2) fn (es++[e]) wi (conv ws r) (zp z1 z2):=by
 have p:=h2.pos
 obtain⟨w1,a1,a2,a3,a4⟩:=h1
 obtain⟨w2,b1,b2,b3,b4⟩:=h2
 obtain⟨w,d1,d2⟩:=fevs_snoc b1 (by omega) a1
 exact⟨w,by rw [show 3*(c1+c2)+1=3*c1+1+3*c2 by omega]; exact d1,by omega,by show z1.1+z2.1≤_; omega,zp_v a4 b4⟩
theorem Fcs.err {fn:Nat}{es:List (Nd×EnvW)} {wi:List Nat}{c:Nat}{x:Flt}{z:Zc}(h:Fcs tg fm c fn es wi (.error x) z) (es':List (Nd×EnvW)):Fcs tg fm c fn (es++es') wi (.error x) z:=by
 obtain⟨w,a1,a2,a3⟩:=h
 exact⟨w,fevs_err es' a1,a2,a3⟩
theorem fevi_snoc {fn:Nat}{e:Nd×EnvW}{wi:List Nat}{G w2:Nat}{r:NR0}{z2:Zc}(h2:fev tg fm G fn e.1 e.2 wi=some (r,w2,z2)):∀ {es:List (Nd×EnvW)} {F w1:Nat}{rs:List NR0}{z1:Zc},1≤F→fevi tg fm F fn es wi=some (rs,w1,z1) →
  fevi tg fm (F+G) fn (es++[e]) wi=some (rs++[r],w1+w2,zp z1 z2)
 | [],F,w1,rs,z1,p,h=>by
  unfold fevi at h
  cases h
  obtain⟨f,rfl⟩:∃ f,F=f+1:=⟨F - 1,by omega⟩
  have h3:=fev_le h2 (show G≤f+G by omega)
  rw [show f+1+G=(f+G)+1 by omega,List.nil_append]
  unfold fevi
  have e1:fevi tg fm (f+G) fn [] wi=some ([],0,z0):=by unfold fevi; rfl
  rw [h3]
  simp only [e1]
  rw [z0_zp,zp_z0,Nat.zero_add,Nat.add_zero]
  rfl
 | a::es,0,w1,rs,z1,p,h=>by omega
 | a::es,f+1,w1,rs,z1,p,h=>by
  unfold fevi at h
  have e0:f+1+G=(f+G)+1:=by omega
  rw [e0,List.cons_append]
  unfold fevi
  split at h
  ·cases h
  rename_i v wa za ha
  have pf:1≤f:=by
   by_cases c:f=0
   ·subst c
    cases hq:a.1
    rw [hq] at ha
    unfold fev at ha
    cases ha
   ·omega
  split at h
  ·cases h
  ·rename_i vs wb zb hb
   cases h
   have h4:=fevi_snoc h2 (es:=es) pf hb
   rw [fev_le ha (show f≤f+G by omega)]
   simp only [h4]
   rw [zp_as,Nat.add_assoc]
   rfl
theorem fci_nil {fn:Nat}{wi:List Nat}:Fci tg fm 0 fn [] wi [] z0:=⟨0,by unfold fevi; rfl,Nat.le_refl _,Nat.zero_le _,Nat.zero_le _⟩
theorem Fci.snoc {fn:Nat}{es:List (Nd×EnvW)} {e:Nd×EnvW}{wi:List Nat}{c1 c2:Nat}{rs:List NR0}{r:NR0}{z1 z2:Zc}(h1:Fci tg fm c1 fn es wi rs z1) (h2:Fc tg fm c2 fn e.1 e.2 wi r z2):Fci tg fm (c1+c2) fn (es++[e]) wi (rs++[r]) (zp z1 z2):=by
 obtain⟨w1,a1,a2,a3,a4⟩:=h1
 obtain⟨w2,b1,b2,b3,b4⟩:=h2
 exact⟨w1+w2,by rw [show 3*(c1+c2)+1=3*c1+1+3*c2 by omega]; exact fevi_snoc b1 (by omega) a1,by omega,by show z1.1+z2.1≤_; omega,zp_v a4 b4⟩
end
section
variable {tg:Nat→Nat→Nat}{fm:List (List (Int×Nat)×Nd)}
theorem zc_v {fn p j n c2:Nat}{z2:Zc}(b4:z2.2.v.length≤c2):(zc fn p j n z2).2.v.length≤c2+1:=by
 show (([[(fn,p)]]++[])++z2.2.v.map ((fn,p)::·)).length≤_
 rw [List.length_append,List.length_map]
 show 1+_≤_
 omega
theorem Fc.name {fn p:Nat}{n:Int}{ps:List Nd}{d:Nat}{ρ:EnvW}{wi:List Nat}{w:Wo}(h:ρ n=some w):Fc tg fm 1 fn (.node .name p n ps d) ρ wi (.ok w) z0:=⟨1,by unfold fev; rw [h]; rfl,Nat.le_refl _,Nat.zero_le _,Nat.zero_le _⟩
theorem Fc.num {fn p:Nat}{n:Int}{ps:List Nd}{d:Nat}{ρ:EnvW}{wi:List Nat}:Fc tg fm 1 fn (.node .num p n ps d) ρ wi (.ok (.num n)) (zr 0 fn p 1 0):=⟨1,by unfold fev; rfl,Nat.le_refl _,Nat.zero_le _,Nat.le_refl _⟩
variable {fn p:Nat}{x:W}{n:Int}{ps:List Nd}{d:Nat}{ρ:EnvW}{wi:List Nat}{c c2:Nat}{ws:List Wo}{z z2:Zc}
theorem Fc.parts (h1:x≠.name) (h2:x≠.num) {e:Flt}(h:Fcs tg fm c fn ((aheadOf x ps).map fun e=>(e,ρ)) wi (.error e) z):Fc tg fm (c+1) fn (.node x p n ps d) ρ wi (.error e) z:=by
 obtain⟨w,a1,a2,a3,a4⟩:=h
 refine⟨w,?_,by omega,by omega,by omega⟩
 rw [show 3*(c+1)=(3*c+2)+1 by omega,fev_eq h1 h2,fevs_le a1 (show 3*c+1≤3*c+2 by omega)]
theorem ffin_of (h1:x≠.name) (h2:x≠.num) {f:Nat}{w1:Nat}(h:fevs tg fm f fn ((aheadOf x ps).map fun e=>(e,ρ)) wi=some (.ok ws,w1,z)) {g:Nat}(hg:f≤g):fev tg fm (g+1) fn (.node x p n ps d) ρ wi=ffin tg fm g fn x p n ps ρ wi ws w1 z:=by
 rw [fev_eq h1 h2,fevs_le h hg]
theorem Fc.deed (hx:x.deed=true) (h:Fcs tg fm c fn (ps.map fun e=>(e,ρ)) wi (.ok ws) z) {ss:List Int}{r:Wo}(hd:deedE x ws=some (ss,.ok r)) (hr:lenR r≤40):Fc tg fm (c+1) fn (.node x p n ps d) ρ wi (.ok r) (zp z (zr (lenR r) fn p (1+itemsS x ss) 0)):=by
 have n1:x≠.name:=fun e=>by rw [e] at hx; cases hx
 have n2:x≠.num:=fun e=>by rw [e] at hx; cases hx
 have ha:aheadOf x ps=ps:=by
  unfold aheadOf
  rw [if_neg]
  intro z
  revert hx z
  cases x <;> decide
 obtain⟨w,a1,a2,a3,a4⟩:=h
 rw [← ha] at a1
 refine⟨w,?_,by omega,by show z.1+lenR r≤_; omega,zp_v a4 (Nat.le_refl 1)⟩
 rw [show 3*(c+1)=(3*c+2)+1 by omega,ffin_of n1 n2 a1 (by omega)]
 unfold ffin
 rw [if_pos hx,hd]
theorem Fc.deedE (hx:x.deed=true) (h:Fcs tg fm c fn (ps.map fun e=>(e,ρ)) wi (.ok ws) z) {ss:List Int}{e:Str}(hd:deedE x ws=some (ss,.error e)):Fc tg fm (c+1) fn (.node x p n ps d) ρ wi (.error (e,fn,p)) (zp z (zr 0 fn p 1 0)):=by
 have n1:x≠.name:=fun e=>by rw [e] at hx; cases hx
 have n2:x≠.num:=fun e=>by rw [e] at hx; cases hx
 have ha:aheadOf x ps=ps:=by
  unfold aheadOf
  rw [if_neg]
  intro z
  revert hx z
  cases x <;> decide
 obtain⟨w,a1,a2,a3,a4⟩:=h
 rw [← ha] at a1
 refine⟨w,?_,by omega,by show z.1+0≤_; omega,zp_v a4 (Nat.le_refl 1)⟩
 rw [show 3*(c+1)=(3*c+2)+1 by omega,ffin_of n1 n2 a1 (by omega)]
 unfold ffin
 rw [if_pos hx,hd]
theorem Fc.deep {j:Nat}(h:Fcs tg fm c fn (ps.map fun e=>(e,ρ)) wi (.ok ws) z) (hj:j < wi.length) (hw:wi.getD j 0=30):Fc tg fm (c+1) fn (.node .call p (j:Int) ps d) ρ wi (.error ("deep", fn,p)) (zp z (zr 0 fn p 1 0)):=by
 obtain⟨w,a1,a2,a3,a4⟩:=h
 refine⟨w,?_,by omega,by show z.1+0≤_; omega,zp_v a4 (Nat.le_refl 1)⟩
 rw [show 3*(c+1)=(3*c+2)+1 by omega,ffin_of (x:=.call) (by decide) (by decide) a1 (by omega)]
 unfold ffin
 rw [if_neg (by decide),if_pos rfl]
 rw [if_pos (show 0≤(j:Int)∧(j:Int).toNat < wi.length from⟨by omega,by rw [Int.toNat_natCast]; exact hj⟩)]
 rw [Int.toNat_natCast,if_pos hw]
theorem Fc.call {j:Nat}(h:Fcs tg fm c fn (ps.map fun e=>(e,ρ)) wi (.ok ws) z) (hj:j < wi.length) (hw:wi.getD j 0 < 30) {q:List (Int×Nat)×Nd}(hq:fm[j]? = some q) (hl:q.1.length=ws.length) {r:NR0}(h2:Fc tg fm c2 j q.2 (paramsOf q.1 ws) (bump wi j) r z2):Fc tg fm (c+c2+1) fn (.node .call p (j:Int) ps d) ρ wi r (zp z (zc fn p j (wi.getD j 0+1) z2)):=by
 obtain⟨w,a1,a2,a3,a4⟩:=h
 obtain⟨w2,b1,b2,b3,b4⟩:=h2
 refine⟨max w w2,?_,by omega,by show z.1+z2.1≤_; omega,by rw [Nat.add_assoc]; exact zp_v a4 (zc_v b4)⟩
 rw [show 3*(c+c2+1)=(3*(c+c2)+2)+1 by omega,ffin_of (x:=.call) (by decide) (by decide) a1 (by omega)]
 unfold ffin
 rw [if_neg (by decide),if_pos rfl]
 rw [if_pos (show 0≤(j:Int)∧(j:Int).toNat < wi.length from⟨by omega,by rw [Int.toNat_natCast]; exact hj⟩)]
 rw [Int.toNat_natCast,if_neg (by omega),hq]
 dsimp only
 rw [if_pos hl,fev_le b1 (g:=3*(c+c2)+2) (by omega)]
variable {a b:Nd}{r:NR0}
theorem Fc.one {e:Nd}{w:Wo}(h:Fc tg fm c fn e ρ wi (.ok w) z):Fcs tg fm c fn ([e].map fun e=>(e,ρ)) wi (.ok [w]) z:=by
 have h1:=(fcs_nil (tg:=tg) (fm:=fm) (fn:=fn) (wi:=wi)).snoc (e:=(e,ρ)) h
 rw [z0_zp,Nat.zero_add] at h1
 exact h1
theorem Fc.oneE {e:Nd}{x:Flt}(h:Fc tg fm c fn e ρ wi (.error x) z):Fcs tg fm c fn ([e].map fun e=>(e,ρ)) wi (.error x) z:=by
 have h1:=(fcs_nil (tg:=tg) (fm:=fm) (fn:=fn) (wi:=wi)).snoc (e:=(e,ρ)) h
 rw [z0_zp,Nat.zero_add] at h1
 exact h1
theorem Fc.elet {w:Wo}(h:Fc tg fm c fn a ρ wi (.ok w) z) (h2:Fc tg fm c2 fn b (upw ρ n w) wi r z2):Fc tg fm (c+c2+1) fn (.node .elet p n [a,b] d) ρ wi r (zp z z2):=by
 obtain⟨w1,a1,a2,a3,a4⟩:=h.one
 obtain⟨w2,b1,b2,b3,b4⟩:=h2
 refine⟨max w1 w2,?_,by omega,by show z.1+z2.1≤_; omega,Nat.le_succ_of_le (zp_v a4 b4)⟩
 rw [show 3*(c+c2+1)=(3*(c+c2)+2)+1 by omega,ffin_of (x:=.elet) (by decide) (by decide) a1 (by omega)]
 unfold ffin
 rw [if_neg (by decide),if_neg (by decide)]
 dsimp only
 rw [fev_le b1 (g:=3*(c+c2)+2) (by omega)]
theorem Fc.ite {e:Nd}{v:Int}(h:Fc tg fm c fn e ρ wi (.ok (.num v)) z) (h2:Fc tg fm c2 fn (if v≠0 then a else b) ρ wi r z2):Fc tg fm (c+c2+1) fn (.node .ite p n [e,a,b] d) ρ wi r (zp z (zp (zr 0 fn p 1 (tg fn p)) z2)):=by
 obtain⟨w1,a1,a2,a3,a4⟩:=h.one
 obtain⟨w2,b1,b2,b3,b4⟩:=h2
 refine⟨max w1 w2,?_,by omega,by show z.1+(0+z2.1)≤_; omega,by rw [Nat.add_assoc,Nat.add_comm c2 1]; exact zp_v a4 (zp_v (Nat.le_refl 1) b4)⟩
 rw [show 3*(c+c2+1)=(3*(c+c2)+2)+1 by omega,ffin_of (x:=.ite) (by decide) (by decide) a1 (by omega)]
 unfold ffin
 rw [if_neg (by decide),if_neg (by decide)]
 dsimp only
 rw [fev_le b1 (g:=3*(c+c2)+2) (by omega)]
theorem Fc.each {us:List Wo}(h:Fc tg fm c fn a ρ wi (.ok (.row us)) z) {rs:List NR0}(h2:Fci tg fm c2 fn (us.map fun w=>(b,upw ρ n w)) wi rs z2) (hu:us.length≤40):Fc tg fm (c+c2+1) fn (.node .each p n [a,b] d) ρ wi (gatR rs) (zp z (zp (zr us.length fn p (1+us.length) (tg fn p*us.length)) z2)):=by
 obtain⟨w1,a1,a2,a3,a4⟩:=h.one
 obtain⟨w2,b1,b2,b3,b4⟩:=h2
 refine⟨max w1 w2,?_,by omega,by show z.1+(us.length+z2.1)≤_; omega,by rw [Nat.add_assoc,Nat.add_comm c2 1]; exact zp_v a4 (zp_v (Nat.le_refl 1) b4)⟩
 rw [show 3*(c+c2+1)=(3*(c+c2)+2)+1 by omega,ffin_of (x:=.each) (by decide) (by decide) a1 (by omega)]
 unfold ffin
 rw [if_neg (by decide),if_neg (by decide)]
 dsimp only
 rw [fevi_le b1 (g:=3*(c+c2)+2) (by omega)]
theorem Fc.whr {us:List Wo}(h:Fc tg fm c fn a ρ wi (.ok (.row us)) z) {rs:List NR0}(h2:Fci tg fm c2 fn (us.map fun w=>(b,upw ρ n w)) wi rs z2) (hu:us.length≤40) (hk:keptR us rs=some r):Fc tg fm (c+c2+1) fn (.node .whr p n [a,b] d) ρ wi r (zp z (zp (zr us.length fn p (1+us.length) (tg fn p*us.length)) z2)):=by
 obtain⟨w1,a1,a2,a3,a4⟩:=h.one
 obtain⟨w2,b1,b2,b3,b4⟩:=h2
 refine⟨max w1 w2,?_,by omega,by show z.1+(us.length+z2.1)≤_; omega,by rw [Nat.add_assoc,Nat.add_comm c2 1]; exact zp_v a4 (zp_v (Nat.le_refl 1) b4)⟩
 rw [show 3*(c+c2+1)=(3*(c+c2)+2)+1 by omega,ffin_of (x:=.whr) (by decide) (by decide) a1 (by omega)]
 unfold ffin
 rw [if_neg (by decide),if_neg (by decide)]
 dsimp only
 rw [fevi_le b1 (g:=3*(c+c2)+2) (by omega)]
 dsimp only
 rw [hk]
 rfl
end
abbrev NkE:=NestedKey×Addr×Value
def MetD (P:Program) (w:World) (d:Addr) (xs:List NkE) (h:Heap):Prop:=∃ o es ep,h.get? d=some o∧o.ExactDict∧o.data=Data.dict es ep∧es.toList=xs.map (entryOfKey (nestedKind P w))
def MetO (P:Program) (w:World) (d:Addr) (xs:List NkE):HO:=.ext (MetD P w d xs)
theorem metO_ok {P:Program}{w:World}{H:Hp}{h:Heap}{d:Addr}{xs:List NkE}(m:MetD P w d xs h):ObjOk P w H h d (MetO P w d xs):=by
 refine⟨m,?_,?_⟩
 ·obtain⟨o,es,ep,e,_⟩:=m
  exact⟨o,e⟩
 ·rintro h1 h2 ⟨o,es,ep,e,r⟩ k
  exact⟨o,es,ep,k o e,r⟩
mutual
inductive NkIn (H:Hp):NestedKey→V→Prop
 | num {i:Int}:NkIn H (.num i) (.int i)
 | tup {a:Addr}{vs:List V}{ks:List NestedKey}:H a=some (.tup vs)→NkIns H ks vs→NkIn H (.tup ks) (.ref a)
inductive NkIns (H:Hp):List NestedKey→List V→Prop
 | nil:NkIns H [] []
 | cons {k:NestedKey}{v:V}{ks:List NestedKey}{vs:List V}:NkIn H k v→NkIns H ks vs→NkIns H (k::ks) (v::vs)
end
mutual
theorem NkIn.mono {H H':Hp}(t:∀ a xs,H a=some (.tup xs)→H' a=some (.tup xs)):∀ {k:NestedKey}{v:V},NkIn H k v→NkIn H' k v
 | _,_,.num=>.num
 | _,_,.tup h r=>.tup (t _ _ h) (NkIns.mono t r)
theorem NkIns.mono {H H':Hp}(t:∀ a xs,H a=some (.tup xs)→H' a=some (.tup xs)):∀ {ks:List NestedKey}{vs:List V},NkIns H ks vs→NkIns H' ks vs
 | _,_,.nil=>.nil
 | _,_,.cons a r=>.cons (NkIn.mono t a) (NkIns.mono t r)
end
mutual
theorem NkIn.is {P:Program}{w:World}{H:Hp}{h:Heap}(ok:HOk P w H h):∀ {k:NestedKey}{v:V}{u:Value},NkIn H k v→RelV v u→NestedIs h k u
 | _,_,u,.num,r=>by
  obtain⟨t,rfl⟩:=(show ∃ t,u=Value.int _ t from r)
  exact .int _ t
 | _,_,u,.tup (a:=a) (vs:=vs) e r,z=>by
  obtain rfl:u=Value.ref a:=z
  obtain⟨_,its,vals,o,h1,h2,n,h3⟩:=ok a _ e
  refine .tup h1 h2 h3 ?_
  rw [List.toList_toArray]
  exact NkIns.is ok r vals
theorem NkIns.is {P:Program}{w:World}{H:Hp}{h:Heap}(ok:HOk P w H h):∀ {ks:List NestedKey}{vs:List V}{us:List Value},NkIns H ks vs→Vals vs us→NestedAll h ks us
 | _,_,us,.nil,z=>by
  cases z
  exact .nil
 | _,_,us,.cons a r,z=>by
  cases z with
  | cons z1 z2=>exact .cons (NkIn.is ok a z1) (NkIns.is ok r z2)
end
def MetIn (P:Program) (w:World) (H:Hp) (d:Addr) (ks:List NestedKey):Prop:=∃ xs:List NkE,H d=some (MetO P w d xs)∧(d == sysModules)=false∧xs.map (·.1)=ks∧ks.Nodup∧∀ x∈xs,NkIn H x.1 (.ref x.2.1)∧x.1.depth≤8
def addK (ks:List NestedKey) (k:NestedKey):List NestedKey:=if k∈ks then ks else ks++[k]
theorem MetIn.mono {P:Program}{w:World}{H H':Hp}{d:Addr}{ks:List NestedKey}(m:MetIn P w H d ks) (t:∀ a xs,H a=some (.tup xs)→H' a=some (.tup xs)) (e:∀ o,H d=some o→H' d=some o):MetIn P w H' d ks:=by
 obtain⟨xs,h1,h0,h2,h3,h4⟩:=m
 exact⟨xs,e _ h1,h0,h2,h3,fun x hx=>⟨(h4 x hx).1.mono t,(h4 x hx).2⟩⟩
theorem MetIn.ne {P:Program}{w:World}{H:Hp}{d a:Addr}{ks:List NestedKey}{vs:List V}(m:MetIn P w H d ks) (h:H a=some (.tup vs)):a≠d:=fun z=>by
 obtain⟨xs,h1,_⟩:=m
 rw [z,h1] at h
 cases h
def rSetMet (P:Program) (w:World):V→V→V→Hp→(Hp→Prop)→Prop:=fun o i _ H Q=>∃ (d a:Addr) (ks:List NestedKey) (k:NestedKey),o=.ref d∧i=.ref a∧MetIn P w H d ks∧NkIn H k (.ref a)∧k.depth≤8∧ks.length≤100000∧∀ H':Hp,(∀ b,b≠d→H' b=H b)→MetIn P w H' d (addK ks k)→Q H'
theorem atKey_mem {xs:List NkE}{k:NestedKey}:(atKey xs k).isSome=true↔k∈xs.map (·.1):=by
 unfold atKey
 rw [Option.isSome_map,List.find?_isSome,List.mem_map]
 exact⟨fun⟨x,h1,h2⟩=>⟨x,h1,of_decide_eq_true h2⟩,fun⟨x,h1,h2⟩=>⟨x,h1,decide_eq_true h2⟩⟩
theorem stored_keys {xs:List NkE}{k:NestedKey}{a:Addr}{u:Value}:(storedH xs k a u).map (·.1)=addK (xs.map (·.1)) k:=by
 unfold storedH addK
 by_cases c:k∈xs.map (·.1)
 ·rw [if_pos (atKey_mem.mpr c),if_pos c,List.map_map]
  refine List.map_congr_left fun x _ => ?_
  show (putAt k u x).1=x.1
  unfold putAt
  split <;> rfl
 ·rw [if_neg (fun z=>c (atKey_mem.mp z)),if_neg c,List.map_append]
  rfl
theorem set_met {X:Cx}(hu:X.A.units+64 < cLine):PSet X (rSetMet X.prog X.w):=by
 rintro pins s σ H o i v ov iv u Q I ro ri rv ⟨d,a,ks,k,rfl,rfl,⟨xs,hd,h0,rfl,nd,hk⟩,hka,dk,hl,q⟩
 obtain rfl:ov=Value.ref d:=ro
 obtain rfl:iv=Value.ref a:=ri
 obtain⟨⟨o,es,ep,h1,h2,h3,h4⟩,_⟩:=I.hok d _ hd
 have is:∀ x∈xs,(nestedKind X.prog X.w).is s.heap x.1 x.2.1:=fun x hx=>⟨(hk x hx).1.is I.hok rfl,(hk x hx).2⟩
 have D:Heap.DictOfH (nestedKind X.prog X.w) s.heap d xs:=⟨o,es,ep,h1,h2,h3,h4,is,nd⟩
 have big:100000≤sizeLine:=by decide
 rw [List.length_map] at hl
 refine wpAny_setItem_heap (knd:=nestedKind X.prog X.w) (k:=k) (by show X.A.units+1+8 < cLine; omega) ⟨hka.is I.hok rfl,dk⟩ D (fun h' D' sb => ?_) (by omega)
 obtain⟨o',es',ep',g1,g2,g3,g4,_,nd'⟩:=D'
 have m':MetD X.prog X.w d (storedH xs k a u) h':=⟨o',es',ep',g1,g2,g3,g4⟩
 have J:=I.write (x:=d) (e:=d) (o:=MetO X.prog X.w d (storedH xs k a u)) (t':=s.toks+(nestedKind X.prog X.w).draws k) (by rw [hd]; trivial) (.inl rfl) (fun b u' nb e=>by rw [sb.2 b nb]; exact e) ⟨_,g1⟩ (metO_ok m')
 refine⟨_,J,q _ (fun b nb=>upd_ne nb) ⟨_,upd_same,h0,?_,?_,?_⟩⟩
 ·exact stored_keys
 ·rw [← stored_keys]
  exact nd'
 ·intro x hx
  have t:∀ b ys,H b=some (.tup ys)→upd H d (MetO X.prog X.w d (storedH xs k a u)) b=some (.tup ys):=fun b ys hb=>by
   rw [upd_ne (fun z=>by rw [z,hd] at hb; cases hb)]
   exact hb
  unfold storedH at hx
  split at hx
  ·obtain⟨y,hy,rfl⟩:=List.mem_map.mp hx
   have:=hk y hy
   unfold putAt
   split
   ·exact⟨this.1.mono t,this.2⟩
   ·exact⟨this.1.mono t,this.2⟩
  ·rcases List.mem_append.mp hx with h | h
   ·exact⟨(hk x h).1.mono t,(hk x h).2⟩
   ·obtain rfl:=List.mem_singleton.mp h
    exact⟨hka.mono t,dk⟩
def tMet0 (P:Program) (w:World):TE:=fun _ H Q=>∀ d,H d=none→MetIn P w (upd H d (MetO P w d [])) d []→Q (.ref d) (upd H d (MetO P w d []))
theorem met_new {P:Program}{w:World}{H:Hp}{d:Addr}(h:(d == sysModules)=false):MetIn P w (upd H d (MetO P w d [])) d []:=⟨[],upd_same,h,rfl,.nil,fun x hx=>nomatch hx⟩
theorem pe_met0 {X:Cx}{pos:Pos}:PE X (.Dict [] [] pos) (tMet0 X.prog X.w):=by
 constructor
 intro pins s σ H Q I want
 refine wpAny_Dict_empty ?_
 have m:MetD X.prog X.w s.heap.objs.size [] (s.heap.push { cls:=.type "dict", data:=.dict #[] }):=⟨_,#[],_,Heap.get?_push_size _ rfl,⟨rfl,rfl,rfl⟩,rfl,rfl⟩
 have J:=I.laid (t':=s.toks) (o:=MetO X.prog X.w s.heap.objs.size []) (fun _ _ z=>Heap.get?_push_of_some _ z) (Nat.le_refl _) (metO_ok m)
 exact⟨.ref _,_,J,rfl,want _ (I.hok.fresh (Nat.le_refl _)) (met_new (by
  have:=I.big
  exact beq_false_of_ne (Nat.ne_of_gt this)))⟩
theorem PgIns.gf {H:Hp}:∀ {vs fs}(_:PgIns H vs fs) (i:Nat) {f:Fn},fs[i]? = some f→∃ a pv bv,vs[i]? = some (.ref a)∧H a=some (.tup [pv,dV f.d,bv])∧PtIn H pv f.ps∧TIn H bv f.e
 | _,_,.nil,i,_,h=>by simp at h
 | _,_,.cons h1 h2 h3 _,0,_,h=>by
  cases h
  exact⟨_,_,_,rfl,h1,h2,h3⟩
 | _,_,.cons _ _ _ r,i+1,f,h=>r.gf i h
def spWorths (K:PySem.W.Frag):Sp:=fun vs H Q _=>∃ (r:RD) (a:Addr) (which:Nat) (pvs:List V) (prog:List Fn) (f:Fn),vs=[.ref r.r,.ref a,.int (which:Int)]∧Draw K r H∧H a=some (.tup pvs)∧PgIns H pvs prog∧Good prog∧(∀ f∈prog,FstN f.ps)∧prog[which]? = some f ∧
 ∀ (l:Addr) (H':Hp) (vs:List V) (ws:List Wo),Drawn K r H H'→H' l=some (.lst vs)→H l=none→WIns H' vs ws→WOks (f.ps.map (·.2)) ws→Q (.ref l) H'
end NR
namespace NR
open PySem PySem.Spec PyProof.Rows L2 LamX
abbrev MkP:=Pth×(Nat×Nat)
def keyPair (q:Nat×Nat):NestedKey:=.tup [.num (q.1:Int),.num (q.2:Int)]
def chK (L:Pth):NestedKey:=.tup (L.map keyPair)
def keyM (k:MkP):NestedKey:=.tup [chK k.1,.num (k.2.1:Int),.num (k.2.2:Int)]
theorem keyPair_inj {a b:Nat×Nat}(h:keyPair a=keyPair b):a=b:=by
 unfold keyPair at h
 injection h with h
 injection h with h1 h
 injection h with h2 _
 injection h1 with h1
 injection h2 with h2
 exact Prod.ext (by omega) (by omega)
theorem chK_inj {a b:Pth}(h:chK a=chK b):a=b:=by
 unfold chK at h
 injection h with h
 induction a generalizing b with
 | nil=>cases b with
  | nil=>rfl
  | cons y b=>simp at h
 | cons x a ih=>cases b with
  | nil=>simp at h
  | cons y b =>
   rw [List.map_cons,List.map_cons] at h
   injection h with h1 h2
   rw [keyPair_inj h1,ih h2]
theorem keyM_inj {a b:MkP}(h:keyM a=keyM b):a=b:=by
 unfold keyM at h
 injection h with h
 injection h with h1 h
 injection h with h2 h
 injection h with h3 _
 injection h2 with h2
 injection h3 with h3
 exact Prod.ext (chK_inj h1) (Prod.ext (by omega) (by omega))
theorem dAll_pairs:∀ L:Pth,NestedKey.depthAll (L.map keyPair)≤1
 | []=>by simp [NestedKey.depthAll]
 | q::L=>by
  have:=dAll_pairs L
  simp only [List.map_cons,NestedKey.depthAll,keyPair,NestedKey.depth]
  omega
theorem keyM_depth (k:MkP):(keyM k).depth≤8:=by
 have:=dAll_pairs k.1
 simp only [keyM,chK,NestedKey.depth,NestedKey.depthAll]
 omega
def addM (m:List MkP) (k:MkP):List MkP:=if k∈m then m else m++[k]
theorem addM_key (m:List MkP) (k:MkP):(addM m k).map keyM=addK (m.map keyM) (keyM k):=by
 unfold addM addK
 have:keyM k∈m.map keyM↔k∈m:=⟨fun h=>by
  obtain⟨x,hx,e⟩:=List.mem_map.mp h
  rw [← keyM_inj e]
  exact hx,fun h=>List.mem_map.mpr ⟨k,h,rfl⟩⟩
 by_cases c:k∈m
 ·rw [if_pos c,if_pos (this.mpr c)]
 ·rw [if_neg c,if_neg (fun z=>c (this.mp z)),List.map_append]
  rfl
theorem addM_len (m:List MkP) (k:MkP):(addM m k).length≤m.length+1:=by
 unfold addM
 split
 ·omega
 ·rw [List.length_append]
  exact Nat.le_refl _
def prM (L x:Pth):MkP:=(L++x.dropLast,x.getLast?.getD (0,0))
def addAll (m:List MkP) (L:Pth) (v:List Pth):List MkP:=v.foldl (fun m x=>addM m (prM L x)) m
theorem addAll_app (m:List MkP) (L:Pth) (a b:List Pth):addAll m L (a++b)=addAll (addAll m L a) L b:=List.foldl_append
theorem addAll_into (L:Pth) (q:Nat×Nat):∀ {v:List Pth}{m:List MkP},(∀ x∈v,x≠[])→addAll m L (v.map (q::·))=addAll m (L++[q]) v
 | [],m,_=>rfl
 | x::v,m,h=>by
  have e:prM L (q::x)=prM (L++[q]) x:=by
   obtain⟨y,ys,rfl⟩:=List.exists_cons_of_ne_nil (h x (List.mem_cons_self ..))
   unfold prM
   simp [List.dropLast,List.getLast?]
  show addAll (addM m (prM L (q::x))) L (v.map (q::·))=addAll (addM m (prM (L++[q]) x)) (L++[q]) v
  rw [e,addAll_into L q fun y hy=>h y (List.mem_cons_of_mem _ hy)]
def mxD (s:List Nat) (d:Nat→Nat):List Nat:=(List.range s.length).map fun i=>max (s.getD i 0) (d i)
theorem mxD_len (s:List Nat) (d:Nat→Nat):(mxD s d).length=s.length:=by unfold mxD; rw [List.length_map,List.length_range]
theorem mxD_at (s:List Nat) (d:Nat→Nat) {i:Nat}(h:i < s.length):(mxD s d).getD i 0=max (s.getD i 0) (d i):=by
 unfold mxD
 rw [List.getD_eq_getElem?_getD,List.getElem?_map,List.getElem?_range h]
 rfl
theorem mxD_mxD (s:List Nat) (a b:Nat→Nat):mxD (mxD s a) b=mxD s fun i=>max (a i) (b i):=by
 refine List.ext_getElem (by rw [mxD_len,mxD_len,mxD_len]) fun i h1 h2 => ?_
 rw [mxD_len] at h2
 have e1:=mxD_at (mxD s a) b (i:=i) (by rw [mxD_len]; exact h2)
 rw [mxD_at s a h2] at e1
 have e2:=mxD_at s (fun i=>max (a i) (b i)) h2
 rw [List.getD_eq_getElem?_getD,List.getElem?_eq_getElem h1,Option.getD_some] at e1
 rw [List.getD_eq_getElem?_getD,List.getElem?_eq_getElem (by rw [mxD_len]; exact h2),Option.getD_some] at e2
 rw [e1,e2,Nat.max_assoc]
theorem mxD_0 (s:List Nat):mxD s (fun _=>0)=s:=by
 refine List.ext_getElem (by rw [mxD_len]) fun i h1 h2 => ?_
 have e2:=mxD_at s (fun _=>0) h2
 rw [List.getD_eq_getElem?_getD,List.getElem?_eq_getElem h1,Option.getD_some,List.getD_eq_getElem?_getD,List.getElem?_eq_getElem h2,Option.getD_some] at e2
 rw [e2,Nat.max_zero]
structure LSt where
 fuel:Int
 work:Int
 deep:List Nat
 met:List MkP
def LSt.add (S:LSt) (c:Nat) (L:Pth) (z:Cn):LSt:=⟨S.fuel - c,S.work+z.k,mxD S.deep z.d,addAll S.met L z.v⟩
theorem LSt.add_add (S:LSt) (c1 c2:Nat) (L:Pth) (a b:Cn):(S.add c1 L a).add c2 L b=S.add (c1+c2) L (a.add b):=by
 unfold LSt.add
 rw [mxD_mxD,← addAll_app]
 show LSt.mk (S.fuel - c1 - c2) (S.work+a.k+b.k) _ _=LSt.mk (S.fuel - (c1+c2:Nat)) (S.work+(a.k+b.k)) _ _
 rw [show S.fuel - (c1:Int) - c2=S.fuel - (c1+c2:Nat) by omega,show S.work+a.k+b.k=S.work+(a.k+b.k) by omega]
 rfl
theorem LSt.add_zero (S:LSt) (L:Pth):S.add 0 L .zero=S:=by
 unfold LSt.add
 show LSt.mk (S.fuel - 0) (S.work+0) (mxD S.deep fun _=>0) S.met=S
 rw [mxD_0,Int.sub_zero,Int.add_zero]
theorem LSt.add_into (S:LSt) (c:Nat) (L:Pth) (fn p:Nat) {z:Cn}(h:∀ x∈z.v,x≠[]):S.add c (L++[(fn,p)]) z=S.add c L (z.into fn p):=by
 unfold LSt.add
 show _=LSt.mk _ _ _ (addAll S.met L (z.v.map ((fn,p)::·)))
 rw [addAll_into L (fn,p) h]
 rfl
structure MA where
 m:Addr
 dl:Addr
 md:Addr
 pa:Addr
def mKv (a:MA) (f w:Int):List (Key×V):=[(Sum.inr "program", .ref a.pa),(Sum.inr "fuel", .int f),(Sum.inr "work", .int w),(Sum.inr "deepest", .ref a.dl),(Sum.inr "met", .ref a.md),(Sum.inr "taken", .int 0)]
structure LmIn (P:Program) (w:World) (H:Hp) (a:MA) (S:LSt):Prop where
 hm:H a.m=some (.dK (mKv a S.fuel S.work))
 hd:H a.dl=some (.lst (S.deep.map nV))
 hk:MetIn P w H a.md (S.met.map keyM)
def FrM (a:MA) (H H':Hp):Prop:=∀ b o,b≠a.m→b≠a.dl→b≠a.md→(∀ ps,o≠.tbl ps)→H b=some o→H' b=some o
theorem FrM.refl (a:MA) (H:Hp):FrM a H H:=fun _ _ _ _ _ _ h=>h
theorem FrM.trans {a:MA}{H H1 H2:Hp}(x:FrM a H H1) (y:FrM a H1 H2):FrM a H H2:=fun b o n1 n2 n3 n4 h=>y b o n1 n2 n3 n4 (x b o n1 n2 n3 n4 h)
theorem FrM.ext {a:MA}{H H':Hp}(e:ExtN H H'):FrM a H H':=fun b o _ _ _ n h=>e b o h n
theorem FrM.same {a:MA}{H H':Hp}(s:Same H H'):FrM a H H':=fun b o _ _ _ _ h=>s b o h
section
variable {P:Program}{w:World}{H H':Hp}{a:MA}{S:LSt}
theorem LmIn.ext (l:LmIn P w H a S) (e:ExtN H H'):LmIn P w H' a S:=⟨e _ _ l.hm (fun ps z=>nomatch z),e _ _ l.hd (fun ps z=>nomatch z),l.hk.mono (fun b xs h=>e _ _ h fun ps z=>nomatch z) fun o h=>by
 obtain⟨xs,h1,_⟩:=l.hk
 rw [h1] at h
 cases h
 exact e _ _ h1 fun ps z=>nomatch z⟩
theorem LmIn.same (l:LmIn P w H a S) (s:Same H H'):LmIn P w H' a S:=⟨s _ _ l.hm,s _ _ l.hd,l.hk.mono (fun b xs h=>s _ _ h) fun o h=>s _ _ h⟩
theorem LmIn.ne_tup (l:LmIn P w H a S) {b:Addr}{xs:List V}(h:H b=some (.tup xs)):b≠a.m∧b≠a.dl∧b≠a.md:=by
 refine⟨fun z => ?_,fun z => ?_,fun z => ?_⟩
 ·rw [z,l.hm] at h; cases h
 ·rw [z,l.hd] at h; cases h
 ·obtain⟨xs,h1,_⟩:=l.hk
  rw [z,h1] at h; cases h
theorem LmIn.ne_frz (l:LmIn P w H a S) {b:Addr}{o:Obj}{u:HO}(h:H b=some (.frz o u)):b≠a.m∧b≠a.dl∧b≠a.md:=by
 refine⟨fun z => ?_,fun z => ?_,fun z => ?_⟩
 ·rw [z,l.hm] at h; cases h
 ·rw [z,l.hd] at h; cases h
 ·obtain⟨xs,h1,_⟩:=l.hk
  rw [z,h1] at h; cases h
theorem FrM.ik (l:LmIn P w H a S) (f:FrM a H H'):IK H H':=⟨fun b xs h=>by
 obtain⟨n1,n2,n3⟩:=l.ne_tup h
 exact f _ _ n1 n2 n3 (fun ps z=>nomatch z) h,fun b o xs h=>by
 obtain⟨n1,n2,n3⟩:=l.ne_frz h
 exact f _ _ n1 n2 n3 (fun ps z=>nomatch z) h⟩
theorem LmIn.md_ne (l:LmIn P w H a S):a.m≠a.dl∧a.m≠a.md∧a.dl≠a.md:=by
 obtain⟨xs,h1,_⟩:=l.hk
 refine⟨fun z => ?_,fun z => ?_,fun z => ?_⟩
 ·have:=l.hm; rw [z,l.hd] at this; cases this
 ·have:=l.hm; rw [z,h1] at this; cases this
 ·have:=l.hd; rw [z,h1] at this; cases this
theorem LmIn.put (l:LmIn P w H a S) (f k:Int):LmIn P w (upd H a.m (.dK (mKv a f k))) a ⟨f,k,S.deep,S.met⟩:=by
 obtain⟨n1,n2,n3⟩:=l.md_ne
 refine⟨upd_same,by rw [upd_ne n1.symm]; exact l.hd,l.hk.mono (fun b xs h => ?_) fun o h=>by rw [upd_ne n2.symm]; exact h⟩
 rw [upd_ne (l.ne_tup h).1]
 exact h
theorem FrM.putm {o:HO}:FrM a H (upd H a.m o):=fun b o n _ _ _ h=>by rw [upd_ne n]; exact h
theorem FrM.putd {o:HO}:FrM a H (upd H a.dl o):=fun b o _ n _ _ h=>by rw [upd_ne n]; exact h
theorem LmIn.putd (l:LmIn P w H a S) (dp:List Nat):LmIn P w (upd H a.dl (.lst (dp.map nV))) a ⟨S.fuel,S.work,dp,S.met⟩:=by
 obtain⟨n1,n2,n3⟩:=l.md_ne
 refine⟨by rw [upd_ne n1]; exact l.hm,upd_same,l.hk.mono (fun b xs h => ?_) fun o h=>by rw [upd_ne n3.symm]; exact h⟩
 rw [upd_ne (l.ne_tup h).2.1]
 exact h
theorem LmIn.putk (l:LmIn P w H a S) {k:MkP}(h1:∀ b,b≠a.md→H' b=H b) (h2:MetIn P w H' a.md (addK (S.met.map keyM) (keyM k))):LmIn P w H' a ⟨S.fuel,S.work,S.deep,addM S.met k⟩∧FrM a H H':=by
 obtain⟨n1,n2,n3⟩:=l.md_ne
 refine⟨⟨by rw [h1 _ n2]; exact l.hm,by rw [h1 _ n3]; exact l.hd,by show MetIn P w H' a.md ((addM S.met k).map keyM); rw [addM_key]; exact h2⟩,fun b o _ _ n _ h=>by rw [h1 b n]; exact h⟩
end
def kwOf (p:Int×V):Key×V:=(Sum.inl p.1,p.2)
structure KwOk (H:Hp) (l:List (Int×V)) (ρ:EnvW):Prop where
 nd:(l.map (·.1)).Nodup
 lo:∀ p∈l,0≤p.1∧p.1≤19
 ok:∀ x w,ρ x=some w→∃ v,valV (l.map kwOf) (Sum.inl x)=some v∧WIn H v w
def KwIn (H:Hp) (a:Addr) (ρ:EnvW):Prop:=∃ l:List (Int×V),H a=some (.dK (l.map kwOf))∧KwOk H l ρ
theorem KwOk.mono {H H':Hp}{l:List (Int×V)} {ρ:EnvW}(k:KwOk H l ρ) (t:TK H H'):KwOk H' l ρ:=⟨k.nd,k.lo,fun x w h=>by
 obtain⟨v,h1,h2⟩:=k.ok x w h
 exact⟨v,h1,h2.mono t⟩⟩
theorem KwOk.few {H:Hp}{l:List (Int×V)} {ρ:EnvW}(k:KwOk H l ρ):l.length≤20:=by
 have:=NR.few 20 (l.map (·.1)) k.nd fun x hx=>by
  obtain⟨p,hp,rfl⟩:=List.mem_map.mp hx
  have:=k.lo p hp
  omega
 rwa [List.length_map] at this
theorem KwIn.mono {H H':Hp}{a:Addr}{ρ:EnvW}(k:KwIn H a ρ) (t:TK H H') (e:∀ o,H a=some o→H' a=some o):KwIn H' a ρ:=by
 obtain⟨l,h1,h2⟩:=k
 exact⟨l,e _ h1,h2.mono t⟩
theorem kw_any {x:Int}{l:List (Int×V)}:((l.map kwOf).any fun kv=>decide (kv.1=Sum.inl x))=true↔x∈l.map (·.1):=by
 rw [List.any_eq_true]
 constructor
 ·rintro⟨kv,h1,h2⟩
  obtain⟨p,hp,rfl⟩:=List.mem_map.mp h1
  have h2:(Sum.inl p.1:Key)=Sum.inl x:=of_decide_eq_true h2
  injection h2 with h2
  exact List.mem_map.mpr ⟨p,hp,h2⟩
 ·intro h
  obtain⟨p,hp,rfl⟩:=List.mem_map.mp h
  exact⟨kwOf p,List.mem_map.mpr ⟨p,hp,rfl⟩,decide_eq_true rfl⟩
theorem putK_kw {H:Hp}{l:List (Int×V)} {ρ:EnvW}(k:KwOk H l ρ) {x:Int}(x0:0≤x) (x1:x≤19) {v:V}{w:Wo}(hv:WIn H v w):∃ l',putK (l.map kwOf) (Sum.inl x) v=l'.map kwOf∧KwOk H l' (upw ρ x w):=by
 have hval:∀ (l':List (Int×V)),putK (l.map kwOf) (Sum.inl x) v=l'.map kwOf→∀ y u,upw ρ x w y=some u→∃ v',valV (l'.map kwOf) (Sum.inl y)=some v'∧WIn H v' u:=fun l' e y u hy=>by
  rw [← e,valV_put]
  unfold upw at hy
  by_cases c:y=x
  ·rw [if_pos c] at hy
   cases hy
   subst c
   exact⟨v,if_pos rfl,hv⟩
  ·rw [if_neg c] at hy
   rw [if_neg (fun z=>c (by injection z))]
   exact k.ok y u hy
 by_cases c:x∈l.map (·.1)
 ·refine⟨l.map fun p=>if p.1=x then (p.1,v) else p,?_,?_⟩
  ·unfold putK
   rw [if_pos (kw_any.mpr c),List.map_map,List.map_map]
   refine List.map_congr_left fun p _ => ?_
   show (if (Sum.inl p.1:Key)=Sum.inl x then ((Sum.inl p.1:Key),v) else (Sum.inl p.1,p.2))=kwOf (if p.1=x then (p.1,v) else p)
   by_cases e:p.1=x
   ·rw [if_pos (by rw [e]),if_pos e]
    rfl
   ·rw [if_neg (fun z=>e (by injection z)),if_neg e]
    rfl
  ·have e1:(l.map fun p=>if p.1=x then (p.1,v) else p).map (·.1)=l.map (·.1):=by
    rw [List.map_map]
    refine List.map_congr_left fun p _ => ?_
    show (if p.1=x then (p.1,v) else p).1=p.1
    split <;> rfl
   refine⟨by rw [e1]; exact k.nd,fun p hp => ?_,hval _ ?_⟩
   ·have:p.1∈l.map (·.1):=by rw [← e1]; exact List.mem_map.mpr ⟨p,hp,rfl⟩
    obtain⟨q,hq,e⟩:=List.mem_map.mp this
    rw [← e]
    exact k.lo q hq
   ·unfold putK
    rw [if_pos (kw_any.mpr c),List.map_map,List.map_map]
    refine List.map_congr_left fun p _ => ?_
    show (if (Sum.inl p.1:Key)=Sum.inl x then ((Sum.inl p.1:Key),v) else (Sum.inl p.1,p.2))=kwOf (if p.1=x then (p.1,v) else p)
    by_cases e:p.1=x
    ·rw [if_pos (by rw [e]),if_pos e]
     rfl
    ·rw [if_neg (fun z=>e (by injection z)),if_neg e]
     rfl
 ·have e1:putK (l.map kwOf) (Sum.inl x) v=(l++[(x,v)]).map kwOf:=by
   unfold putK
   rw [if_neg (fun z=>c (kw_any.mp z)),List.map_append]
   rfl
  refine⟨_,e1,?_,fun p hp => ?_,hval _ e1⟩
  ·rw [List.map_append]
   refine List.nodup_append.mpr ⟨k.nd,by simp,?_⟩
   intro a ha b hb
   simp at hb
   subst hb
   exact fun z=>c (z ▸ ha)
  ·rcases List.mem_append.mp hp with h | h
   ·exact k.lo p h
   ·rw [List.mem_singleton.mp h]
    exact⟨x0,x1⟩
theorem KwIn.ne_m {P:Program}{w:World}{H:Hp}{a:MA}{S:LSt}(l:LmIn P w H a S) {b:Addr}{ρ:EnvW}(k:KwIn H b ρ):b≠a.m∧b≠a.dl∧b≠a.md:=by
 obtain⟨kl,h1,_⟩:=k
 refine⟨fun z => ?_,fun z => ?_,fun z => ?_⟩
 ·rw [z,l.hm] at h1
  injection h1 with h1
  injection h1 with h1
  cases kl with
  | nil=>cases h1
  | cons p kl =>
   rw [List.map_cons] at h1
   injection h1 with h1 _
   injection h1 with h1 _
   cases h1
 ·rw [z,l.hd] at h1; cases h1
 ·obtain⟨xs,h2,_⟩:=l.hk
  rw [z,h2] at h1; cases h1
theorem KwIn.fr {P:Program}{w:World}{H H':Hp}{a:MA}{S:LSt}(l:LmIn P w H a S) (f:FrM a H H') {b:Addr}{ρ:EnvW}(k:KwIn H b ρ):KwIn H' b ρ:=by
 obtain⟨n1,n2,n3⟩:=k.ne_m l
 obtain⟨kl,h1,h2⟩:=k
 exact⟨kl,f _ _ n1 n2 n3 (fun ps z=>nomatch z) h1,h2.mono (f.ik l).t⟩
end NR
namespace NR
open PySem PySem.Spec PyProof.Rows L2 LamX NdefX
def lamOf:Option Expr→Option Str→LamT
 | some (.Lambda pars body scope _),x=>⟨pars,body,scope,x⟩
 | _,x=>⟨⟨[],[],none,[],[],none,[]⟩,.Name "x" ⟨0,0,0,0⟩,defScope (top 0),x⟩
def dVals:Option Stmt→List Expr
 | some (.Assign _ (.Dict _ vs _) _)=>vs
 | some (.Assign _ e _)=>[e]
 | some (.Expr (.Call _ [.Dict _ vs _] _ _) _)=>vs
 | _=>[]
def ifBody:Option Stmt→List Stmt
 | some (.If _ b _ _)=>b
 | _=>[]
abbrev sLawSimple:Stmt:=top 152
theorem scsLawSimple:FnScope ["_law_m", "_law_at", "_law_tree_here", "_law_some", "_law_word_here", "_law_sums", "_law_makes", "_law_found", "_law_first", "_law_last", "_law_k"] ["_law_m", "_law_at", "_law_tree_here", "_law_some"] (defScope sLawSimple):=⟨rfl,rfl,rfl,by decide +kernel,rfl,by decide +kernel,by decide +kernel⟩
def frB (sc scope:Scope):Bool:=scope.names.all fun y => !decide (y.2=.free) || decide (sc.names.lookup y.1=some .cell)
theorem fr_of {X:Cx}{scope:Scope}(h:frB (defScope sLawSimple) scope=true) (hX:X.env.scope=defScope sLawSimple:=by rfl):X.Ok→∀ y∈scope.names,y.2=.free→∃ c,X.env.cells.lookup y.1=some c:=fun ok y hy hf=>by
 have h1:=(List.all_eq_true.mp h) y hy
 rw [hf] at h1
 have h2:(defScope sLawSimple).names.lookup y.1=some .cell:=by simpa using h1
 exact ok.has y.1 (.inl (by show X.env.scope.names.lookup y.1=some .cell; rw [hX]; exact h2))
theorem caps_of {X:Cx}{scope:Scope}{fr:List Str}{js:List Nat}(ok:X.Ok) (h:frB (defScope sLawSimple) scope=true) (h2:fr.all (fun y=>decide ((y,NameKind.free)∈scope.names))=true) (h3:js.map (fun j=>X.N[j]?)=fr.map some) (hX:X.env.scope=defScope sLawSimple:=by rfl):Caps X (cloFrom X.env.cells scope.names []) fr js:=by
 refine Caps.made ok (fun y hy hf => ?_) (fun y hy=>of_decide_eq_true ((List.all_eq_true.mp h2) y hy)) h3
 have h1:=(List.all_eq_true.mp h) y hy
 rw [hf] at h1
 have h2:(defScope sLawSimple).names.lookup y.1=some .cell:=by simpa using h1
 rw [hX]
 exact .inl h2
def sumE:List Expr:=dVals (ifBody (defBody sLawSimple)[3]?)[0]? ++ dVals (ifBody (defBody sLawSimple)[3]?)[1]? ++ dVals (ifBody (defBody sLawSimple)[3]?)[2]?
def sumL:Fin 6→LamT
 | 0=>lamOf ((sumE)[0]?) none
 | 1=>lamOf ((sumE)[1]?) (some "_law_a")
 | 2=>lamOf ((sumE)[2]?) (some "_law_b")
 | 3=>lamOf ((sumE)[3]?) none
 | 4=>lamOf ((sumE)[4]?) (some "_law_a")
 | 5=>lamOf ((sumE)[5]?) none
def sumN:Fin 6→List Str
 | 0=>["_law_first"]
 | 1=>["_law_a", "_law_first", "_law_last"]
 | 2=>["_law_b", "_law_first", "_law_last"]
 | 3=>["_law_first", "_law_last"]
 | 4=>["_law_a", "_law_first", "_law_last"]
 | 5=>["_law_first", "_law_last"]
def sumF:Fin 6→List Str
 | 0=>["_law_first"]
 | 1=>["_law_first", "_law_last"]
 | 2=>["_law_first", "_law_last"]
 | 3=>["_law_first", "_law_last"]
 | 4=>["_law_first", "_law_last"]
 | 5=>["_law_first", "_law_last"]
def sumJ:Fin 6→List Nat
 | 0=>[8]
 | 1=>[8,9]
 | 2=>[8,9]
 | 3=>[8,9]
 | 4=>[8,9]
 | 5=>[8,9]
theorem sumB:∀ n,LamB (sumL n):=fun n=>by
 match n with
 | 0=>exact⟨fun _ _ _ _ _ _ _=>rfl,fun x z=>(nomatch z)⟩
 | 1=>exact⟨fun z=>(nomatch z),fun x z q cl dV doc pm cv ctv=>by cases z; exact⟨_,rfl,fun u=>rfl⟩⟩
 | 2=>exact⟨fun z=>(nomatch z),fun x z q cl dV doc pm cv ctv=>by cases z; exact⟨_,rfl,fun u=>rfl⟩⟩
 | 3=>exact⟨fun _ _ _ _ _ _ _=>rfl,fun x z=>(nomatch z)⟩
 | 4=>exact⟨fun z=>(nomatch z),fun x z q cl dV doc pm cv ctv=>by cases z; exact⟨_,rfl,fun u=>rfl⟩⟩
 | 5=>exact⟨fun _ _ _ _ _ _ _=>rfl,fun x z=>(nomatch z)⟩
theorem sumS:∀ n,NScope (sumN n) (dflN (sumL n).dfl) (sumF n) (sumL n).scope:=fun n=>nscope_by (by revert n; decide +kernel)
def makE:List Expr:=dVals (defBody sLawSimple)[7]? ++ dVals (defBody sLawSimple)[8]?
def makL:Fin 4→LamT
 | 0=>lamOf ((makE)[0]?) none
 | 1=>lamOf ((makE)[1]?) (some "_law_a")
 | 2=>lamOf ((makE)[2]?) none
 | 3=>lamOf ((makE)[3]?) (some "_law_a")
def makN:Fin 4→List Str
 | 0=>["_law_first"]
 | 1=>["_law_a", "_law_first", "_law_last"]
 | 2=>["_law_first"]
 | 3=>["_law_a", "_law_first"]
def makF:Fin 4→List Str
 | 0=>["_law_first"]
 | 1=>["_law_first", "_law_last"]
 | 2=>["_law_first"]
 | 3=>["_law_first"]
def makJ:Fin 4→List Nat
 | 0=>[8]
 | 1=>[8,9]
 | 2=>[8]
 | 3=>[8]
theorem makB:∀ n,LamB (makL n):=fun n=>by
 match n with
 | 0=>exact⟨fun _ _ _ _ _ _ _=>rfl,fun x z=>(nomatch z)⟩
 | 1=>exact⟨fun z=>(nomatch z),fun x z q cl dV doc pm cv ctv=>by cases z; exact⟨_,rfl,fun u=>rfl⟩⟩
 | 2=>exact⟨fun _ _ _ _ _ _ _=>rfl,fun x z=>(nomatch z)⟩
 | 3=>exact⟨fun z=>(nomatch z),fun x z q cl dV doc pm cv ctv=>by cases z; exact⟨_,rfl,fun u=>rfl⟩⟩
theorem makS:∀ n,NScope (makN n) (dflN (makL n).dfl) (makF n) (makL n).scope:=fun n=>nscope_by (by revert n; decide +kernel)
abbrev sumT:Fin 6→TE
 | 0=>tVar 0
 | 1=>tOp (rI0 fun i j=>V.int (i+j)) (tVar 1) (tVar 2)
 | 2=>tOp (rI0 fun i j=>V.int (i - j)) (tVar 1) (tVar 2)
 | 3=>tOp (rI CMul fun i j=>V.int (i*j)) (tVar 0) (tVar 1)
 | 4=>tCB (fun xs H Q=>(∃ i,xs=[V.int i]∧Q (V.int i) H)∨∃ k,xs=[V.bl k]∧Q (V.int (if k=true then 1 else 0)) H) (tCons (tOp (rI0 fun i j=>V.bl (decide (i < j))) (tVar 1) (tVar 2)) tNil)
 | 5=>tCB (fun xs H Q=>(∃ i,xs=[V.int i]∧Q (V.int i) H)∨∃ k,xs=[V.bl k]∧Q (V.int (if k=true then 1 else 0)) H) (tCons (tOp rEq (tVar 0) (tVar 1)) tNil)
abbrev makT (K:PySem.W.Frag):Fin 4→TE
 | 0=>tLst (tCons (tVar 0) tNil)
 | 1=>tOp rCat (tCB (rListOf K) (tCons (tVar 1) tNil)) (tCB (rListOf K) (tCons (tVar 2) tNil))
 | 2=>tLstRg (tRg1 (tCB (fun xs H Q=>∃ i j,xs=[V.int i,V.int j]∧Q (V.int (if j < i then j else i)) H) (tCons (tVar 0) (tCons (tC (V.int 41)) tNil))))
 | 3=>tOp rRep (tLst (tCons (tC (V.int 0)) tNil)) (tCB (rLen K) (tCons (tVar 1) tNil))
def tLamV {ι:Type}(X:Cx) (C:ι→LamT) (N:ι→List Str) (js:ι→List Nat) (tb:ι→TE) (te:TE):TE:=fun σ H Q=>te σ H fun x H1=>∃ (n:ι) (f c':Addr) (dV:Value) (vs:List V),x=.ref f∧H1 f=some (LamO f (lamW X (C n).pars (C n).body (C n).scope dV c'))∧H1 c'=some (CodeO c' (X.env.qual ++ "<lambda>"))∧DflAt H1 (C n).dfl dV (dflN (C n).dfl) vs∧tb n (startF (N n) vs ((js n).map (slotAt σ))) H1 Q
section
variable {P:Program}{w:World}{K:PySem.W.Frag}{mg:Str→Option Value}{base:Heap}{f c:Addr}{A:Around}{outer:List Env}{s:Shared}{H:Hp}{E:XK}{te:TE}{v i:Expr}{sp pos:Pos}{k:Nat}
abbrev XSm (P:Program) (w:World) (K:PySem.W.Frag) (mg:Str→Option Value) (base:Heap) (f c:Addr) (A:Around) (outer:List Env) (s:Shared) (H:Hp) (E:XK):Cx:=(cxOf CX0 P w K mg base ["_law_m", "_law_at", "_law_tree_here", "_law_some", "_law_word_here", "_law_sums", "_law_makes", "_law_found", "_law_first", "_law_last", "_law_k"] "_law_simple" (defScope sLawSimple) f (.ref c) A outer s H E).nox
theorem sumC (z_int:mg "int" = none) (he:PE (XSm P w K mg base f c A outer s H E) (.Subscript v i sp) te) (hr:Room (k+1) (XSm P w K mg base f c A outer s H E).A):PE (XSm P w K mg base f c A outer s H E) (.Call (.Subscript v i sp) [] [] pos) (tLamV (XSm P w K mg base f c A outer s H E) sumL sumN sumJ sumT te):=by
 refine pe_lamV (k:=k) (E:=E0) he hr sumL sumN sumF sumJ sumT pass0 sumB sumS (fun ok n => ?_) (fun n f c' dV A outer s H hr => ?_)
 ·match n with
  | 0=>exact caps_of ok (by decide +kernel) (by decide +kernel) rfl
  | 1=>exact caps_of ok (by decide +kernel) (by decide +kernel) rfl
  | 2=>exact caps_of ok (by decide +kernel) (by decide +kernel) rfl
  | 3=>exact caps_of ok (by decide +kernel) (by decide +kernel) rfl
  | 4=>exact caps_of ok (by decide +kernel) (by decide +kernel) rfl
  | 5=>exact caps_of ok (by decide +kernel) (by decide +kernel) rfl
 ·match n with
  | 0=>exact (pv 0)
  | 1=>exact (pe_op op_add (pv 1) (pv 2))
  | 2=>exact (pe_op op_sub (pv 1) (pv 2))
  | 3=>exact (pe_op op_mul (pv 0) (pv 1))
  | 4=>exact (pe_callTy call_int1 rfl z_int (by decide +kernel) (pa_cons (pe_cmpR op_lt (pv 1) (pv 2) (nomark _)) pa_nil))
  | 5=>exact (pe_callTy call_int1 rfl z_int (by decide +kernel) (pa_cons (pe_cmpR op_eq (pv 0) (pv 1) (nomark _)) pa_nil))
theorem makC (z_list:mg "list" = none) (z_len:mg "len" = none) (z_range:mg "range" = none) (z_min:mg "min" = none) (he:PE (XSm P w K mg base f c A outer s H E) (.Subscript v i sp) te) (hr:Room (k+1) (XSm P w K mg base f c A outer s H E).A):PE (XSm P w K mg base f c A outer s H E) (.Call (.Subscript v i sp) [] [] pos) (tLamV (XSm P w K mg base f c A outer s H E) makL makN makJ (makT K) te):=by
 refine pe_lamV (k:=k) (E:=E0) he hr makL makN makF makJ (makT K) pass0 makB makS (fun ok n => ?_) (fun n f c' dV A outer s H hr => ?_)
 ·match n with
  | 0=>exact caps_of ok (by decide +kernel) (by decide +kernel) rfl
  | 1=>exact caps_of ok (by decide +kernel) (by decide +kernel) rfl
  | 2=>exact caps_of ok (by decide +kernel) (by decide +kernel) rfl
  | 3=>exact caps_of ok (by decide +kernel) (by decide +kernel) rfl
 ·match n with
  | 0=>exact (pe_lst (pa_cons (pv 0) pa_nil))
  | 1=>exact (pe_op op_cat (pe_callTy (call_listK K) rfl z_list (by decide +kernel) (pa_cons (pv 1) pa_nil)) (pe_callTy (call_listK K) rfl z_list (by decide +kernel) (pa_cons (pv 2) pa_nil)))
  | 2=>exact (pe_listRg rfl rfl z_list (prg_1 rfl z_range (pe_callB (call_min2 rfl) rfl z_min (by decide +kernel) (pa_cons (pv 0) (pa_cons pe_int pa_nil)))))
  | 3=>exact (pe_op op_rep (pe_lst (pa_cons pe_int pa_nil)) (pe_callB (call_lenK K) rfl z_len PySem.boot_len (pa_cons (pv 1) pa_nil)))
end
end NR
namespace NR
open PySem PySem.Spec PyProof.Rows L2
abbrev numR (ns:List Int):Wo:=.row (ns.map Wo.num)
inductive Smp:W→Int→List Wo→Except Str Wo→Int→Prop
 | num {n:Int}:0≤n→n≤10006→Smp .num n [] (.ok (.num n)) 0
 | plus {n a b:Int}:Smp .plus n [.num a,.num b] (.ok (.num ((a+b) % 10007))) 0
 | minus {n a b:Int}:Smp .minus n [.num a,.num b] (.ok (.num ((a - b) % 10007))) 0
 | times {n a b:Int}:0≤a→a≤10006→Smp .times n [.num a,.num b] (.ok (.num (a*b % 10007))) 0
 | less {n a b:Int}:Smp .less n [.num a,.num b] (.ok (.num (if a < b then 1 else 0))) 0
 | same {n a b:Int}:Smp .same n [.num a,.num b] (.ok (.num (if a=b then 1 else 0))) 0
 | len {n:Int}{us:List Wo}:us.length≤40→Smp .len n [.row us] (.ok (.num (us.length:Int))) 0
 | sum {n:Int}{ns:List Int}:ns.length≤40→Smp .sum n [numR ns] (.ok (.num (ns.sum % 10007))) (ns.length:Int)
 | sums {n:Int}{ns:List Int}:ns.length≤40→Smp .sums n [numR ns] (.ok (numR (aheads 0 ns))) (ns.length:Int)
 | one {n:Int}{w:Wo}:Smp .one n [w] (.ok (.row [w])) 1
 | pick {n:Int}{us:List Wo}{k:Nat}{w:Wo}:us.length≤40→us[k]? = some w→Smp .pick n [.row us,.num (k:Int)] (.ok w) 0
 | pickE {n:Int}{us:List Wo}{k:Nat}:us.length≤k→Smp .pick n [.row us,.num (k:Int)] (.error "beyond") 0
 | put {n:Int}{us vs:List Wo}:us.length+vs.length≤40→Smp .put n [.row us,.row vs] (.ok (.row (us++vs))) ((us++vs).length:Int)
 | putE {n:Int}{us vs:List Wo}:us.length≤40→vs.length≤40→40 < us.length+vs.length→Smp .put n [.row us,.row vs] (.error "many") 0
 | flat {n:Int}{rs:List (List Wo)}:rs.length≤40→rs.flatten.length≤40→Smp .flat n [.row (rs.map Wo.row)] (.ok (.row rs.flatten)) (rs.flatten.length:Int)
 | flatE {n:Int}{rs:List (List Wo)}:rs.length≤40→(∀ r∈rs,r.length≤40)→40 < rs.flatten.length→Smp .flat n [.row (rs.map Wo.row)] (.error "many") 0
 | upto {n:Int}{k:Nat}:k≤40→Smp .upto n [.num (k:Int)] (.ok (numR ((List.range k).map fun (j:Nat)=>(j:Int)))) (k:Int)
 | uptoE {n:Int}{k:Nat}:40 < k→k≤10006→Smp .upto n [.num (k:Int)] (.error "many") 0
theorem aheads_eq:∀ (ns:List Int) (a:Int),0≤a→a < 10007→aheads a ns=(List.range ns.length).map fun k=>(a+(ns.take k).sum) % 10007
 | [],a,_,_=>rfl
 | n::ns,a,h0,h1=>by
  have ih:=aheads_eq ns ((a+n) % 10007) (Int.emod_nonneg _ (by decide)) (Int.emod_lt_of_pos _ (by decide))
  show a::aheads ((a+n) % 10007) ns=_
  rw [ih,List.length_cons,List.range_succ_eq_map,List.map_cons,List.map_map]
  have e0:(a+((n::ns).take 0).sum) % 10007=a:=by
   show (a+0) % 10007=a
   rw [Int.add_zero]
   exact Int.emod_eq_of_lt h0 h1
  rw [e0]
  refine congrArg (a::·) (List.map_congr_left fun k _ => ?_)
  show ((a+n) % 10007+(ns.take k).sum) % 10007=(a+(n+(ns.take k).sum)) % 10007
  rw [Int.emod_add_emod,Int.add_assoc]
structure SmpOk (x:W) (n:Int) (ws:List Wo) (d:Nat):Prop where
 ex:∃ o i ss,Smp x n ws o i∧deedE x ws=some (ss,o)∧∀ r,o=.ok r→i=itemsS x ss∧lenR r≤40∧WOk d r
theorem numsOf_maps:∀ l:List Int,numsOf (l.map Wo.num)=some l
 | []=>rfl
 | n::l=>by
  show (numsOf (l.map Wo.num)).map (n::·)=_
  rw [numsOf_maps l]
  rfl
theorem rowsOf_maps:∀ l:List (List Wo),rowsOf (l.map Wo.row)=some l
 | []=>rfl
 | n::l=>by
  show (rowsOf (l.map Wo.row)).map (n::·)=_
  rw [rowsOf_maps l]
  rfl
theorem wok_nums {us:List Wo}(h:∀ u∈us,WOk 0 u):∃ ns:List Int,us=ns.map Wo.num∧∀ n∈ns,0≤n∧n≤10006:=by
 induction us with
 | nil=>exact⟨[],rfl,fun n h=>nomatch h⟩
 | cons u us ih =>
  obtain⟨ns,rfl,h2⟩:=ih fun v hv=>h v (List.mem_cons_of_mem _ hv)
  obtain⟨n,rfl,h3⟩:=wok_num (h u (List.mem_cons_self ..))
  exact⟨n::ns,rfl,fun m hm=>by
   rcases List.mem_cons.mp hm with rfl | hm
   ·exact h3
   ·exact h2 m hm⟩
theorem wok_rows {d:Nat}{us:List Wo}(h:∀ u∈us,WOk (d+1) u):∃ rs:List (List Wo),us=rs.map Wo.row∧∀ r∈rs,r.length≤40∧∀ w∈r,WOk d w:=by
 induction us with
 | nil=>exact⟨[],rfl,fun n h=>nomatch h⟩
 | cons u us ih =>
  obtain⟨ns,rfl,h2⟩:=ih fun v hv=>h v (List.mem_cons_of_mem _ hv)
  obtain⟨n,rfl,h3,h4⟩:=wok_row (h u (List.mem_cons_self ..))
  exact⟨n::ns,rfl,fun m hm=>by
   rcases List.mem_cons.mp hm with rfl | hm
   ·exact⟨h3,h4⟩
   ·exact h2 m hm⟩
theorem szE_few {x:W}{ws:List Wo}(h:x≠.flat) (l:ws.length≤1000):szE x ws=some (ws.map szW):=by
 unfold szE
 rw [if_neg h,if_pos l]
theorem deedE_by {x:W}{ws:List Wo}{ss:List Int}{r:Wo}(h1:szE x ws=some ss) (h2:¬(x=.pick∧ss.length≠2)) (h3:faultS x ss=none) (h4:dresE x ws=some r):deedE x ws=some (ss,.ok r):=by
 unfold deedE
 rw [h1]
 show (if x=.pick∧ss.length≠2 then none else match faultS x ss with
  | some z=>some (ss,Except.error z)
  | none=>(dresE x ws).map fun r=>(ss,Except.ok r))=_
 rw [if_neg h2,h3,h4]
 rfl
theorem deedE_err {x:W}{ws:List Wo}{ss:List Int}{e:Str}(h1:szE x ws=some ss) (h2:¬(x=.pick∧ss.length≠2)) (h3:faultS x ss=some e):deedE x ws=some (ss,.error e):=by
 unfold deedE
 rw [h1]
 show (if x=.pick∧ss.length≠2 then none else match faultS x ss with
  | some z=>some (ss,Except.error z)
  | none=>(dresE x ws).map fun r=>(ss,Except.ok r))=_
 rw [if_neg h2,h3]
theorem faultS_not {x:W}{ss:List Int}(h:x≠.pick∧x≠.upto∧x≠.put∧x≠.flat):faultS x ss=none:=by
 obtain⟨h1,h2,h3,h4⟩:=h
 unfold faultS
 rw [if_neg h1,if_neg]
 rintro⟨h5 | h5 | h5,_⟩
 ·exact h2 h5
 ·exact h3 h5
 ·exact h4 h5
theorem items_not {x:W}{ss:List Int}(h:x=.plus∨x=.minus∨x=.times∨x=.less∨x=.same∨x=.len∨x=.pick):itemsS x ss=0:=by
 unfold itemsS
 rcases h with rfl | rfl | rfl | rfl | rfl | rfl | rfl <;> rfl
theorem flat_sum:∀ rs:List (List Wo),(rs.map fun r=>(r.length:Int)).sum=(rs.flatten.length:Int)
 | []=>rfl
 | r::rs=>by
  rw [List.map_cons,List.sum_cons,flat_sum rs,List.flatten_cons,List.length_append]
  omega
theorem szE_flat {rs:List (List Wo)} (h:rs.length≤40):szE .flat [.row (rs.map Wo.row)]=some [(rs.flatten.length:Int)]:=by
 unfold szE
 rw [if_pos rfl]
 show (rowsOf (rs.map Wo.row)).bind _=_
 rw [rowsOf_maps]
 show (if rs.length≤1000 then some [((rs.map fun r=>(r.length:Int)).sum)] else none)=_
 rw [if_pos (by omega),flat_sum]
theorem smp_of {x:W}{n:Int}{ws:List Wo}{ds:List Nat}{d:Nat}(hd:Dep x ds d) (hl:x.lay=3) (hi:x≠.ite) (hw:WOks ds ws):SmpOk x n ws d:=by
 refine⟨?_⟩
 cases hd with
 | num=>cases hl
 | ite=>exact absurd rfl hi
 | elet=>cases hl
 | each=>cases hl
 | whr=>cases hl
 | two h =>
  obtain⟨w,v,rfl,h1,h2⟩:=woks2 hw
  obtain⟨a,rfl,ha⟩:=wok_num h1
  obtain⟨b,rfl,hb⟩:=wok_num h2
  have m:∀ t:Int,0≤t % 10007∧t % 10007≤10006:=fun t=>by omega
  rcases h with rfl | rfl | rfl | rfl | rfl
  ·exact⟨_,_,_,.plus,deedE_by (szE_few (by decide) (by show 2≤1000; decide)) (fun z=>nomatch z.1) (faultS_not (by decide)) rfl,fun r e=>by cases e; exact⟨(items_not (by simp)).symm,Nat.zero_le _,m _⟩⟩
  ·exact⟨_,_,_,.minus,deedE_by (szE_few (by decide) (by show 2≤1000; decide)) (fun z=>nomatch z.1) (faultS_not (by decide)) rfl,fun r e=>by cases e; exact⟨(items_not (by simp)).symm,Nat.zero_le _,m _⟩⟩
  ·exact⟨_,_,_,.times ha.1 ha.2,deedE_by (szE_few (by decide) (by show 2≤1000; decide)) (fun z=>nomatch z.1) (faultS_not (by decide)) (by show (if 0≤a∧a≤10006 then _ else none)=_; rw [if_pos ha]),fun r e=>by cases e; exact⟨(items_not (by simp)).symm,Nat.zero_le _,m _⟩⟩
  ·exact⟨_,_,_,.less,deedE_by (szE_few (by decide) (by show 2≤1000; decide)) (fun z=>nomatch z.1) (faultS_not (by decide)) rfl,fun r e=>by cases e; exact⟨(items_not (by simp)).symm,Nat.zero_le _,by show 0≤(if a < b then (1:Int) else 0)∧(if a < b then (1:Int) else 0)≤10006; split <;> decide⟩⟩
  ·exact⟨_,_,_,.same,deedE_by (szE_few (by decide) (by show 2≤1000; decide)) (fun z=>nomatch z.1) (faultS_not (by decide)) rfl,fun r e=>by cases e; exact⟨(items_not (by simp)).symm,Nat.zero_le _,by show 0≤(if a=b then (1:Int) else 0)∧(if a=b then (1:Int) else 0)≤10006; split <;> decide⟩⟩
 | upto =>
  obtain⟨w,rfl,h1⟩:=woks1 hw
  obtain⟨a,rfl,ha⟩:=wok_num h1
  obtain⟨k,rfl⟩:∃ k:Nat,a=(k:Int):=⟨a.toNat,by omega⟩
  have sz:=szE_few (x:=.upto) (ws:=[.num (k:Int)]) (by decide) (by show 1≤1000; decide)
  by_cases c:k≤40
  ·refine⟨_,_,_,.upto c,deedE_by sz (fun z=>nomatch z.1) ?_ ?_,fun r e => ?_⟩
   ·unfold faultS
    rw [if_neg (by decide),if_neg]
    rintro⟨_,h5⟩
    have:(40:Int) < (k:Int)+0:=h5
    omega
   ·show (if 0≤(k:Int)∧(k:Int)≤1000 then some (Wo.row (uptos (k:Int).toNat)) else none)=_
    rw [if_pos ⟨by omega,by omega⟩,Int.toNat_natCast]
    show some (Wo.row ((List.range k).map fun (j:Nat)=>Wo.num (j:Int)))=some (numR _)
    unfold numR
    rw [List.map_map]
    rfl
   ·cases e
    refine⟨by show (k:Int)=(k:Int)+0; omega,?_,?_,?_⟩
    ·show (((List.range k).map _).map _).length≤40
     rw [List.length_map,List.length_map,List.length_range]
     exact c
    ·rw [List.length_map,List.length_map,List.length_range]
     exact c
    ·intro w hw
     obtain⟨j,hj,rfl⟩:=List.mem_map.mp hw
     obtain⟨i,hi,rfl⟩:=List.mem_map.mp hj
     have:=List.mem_range.mp hi
     exact⟨by omega,by omega⟩
  ·refine⟨_,_,_,.uptoE (by omega) (by omega),deedE_err sz (fun z=>nomatch z.1) ?_,fun r e=>nomatch e⟩
   unfold faultS
   rw [if_neg (by decide),if_pos]
   exact⟨.inl rfl,by show (40:Int) < (k:Int)+0; omega⟩
 | len =>
  obtain⟨w,rfl,h1⟩:=woks1 hw
  obtain⟨us,rfl,h2,h3⟩:=wok_row h1
  exact⟨_,_,_,.len h2,deedE_by (szE_few (by decide) (by show 1≤1000; decide)) (fun z=>nomatch z.1) (faultS_not (by decide)) rfl,fun r e=>by cases e; exact⟨(items_not (by simp)).symm,Nat.zero_le _,by show 0≤(us.length:Int)∧(us.length:Int)≤10006; omega⟩⟩
 | sum =>
  obtain⟨w,rfl,h1⟩:=woks1 hw
  obtain⟨us,rfl,h2,h3⟩:=wok_row h1
  obtain⟨ns,rfl,h4⟩:=wok_nums h3
  rw [List.length_map] at h2
  refine⟨_,_,_,.sum h2,deedE_by (szE_few (by decide) (by show 1≤1000; decide)) (fun z=>nomatch z.1) (faultS_not (by decide)) (by show (numsOf (ns.map Wo.num)).map _=_; rw [numsOf_maps]; rfl),fun r e => ?_⟩
  cases e
  exact⟨by show (ns.length:Int)=((ns.map Wo.num).length:Int)+0; rw [List.length_map]; omega,Nat.zero_le _,by show 0≤ns.sum % 10007∧ns.sum % 10007≤10006; omega⟩
 | sums =>
  obtain⟨w,rfl,h1⟩:=woks1 hw
  obtain⟨us,rfl,h2,h3⟩:=wok_row h1
  obtain⟨ns,rfl,h4⟩:=wok_nums h3
  rw [List.length_map] at h2
  refine⟨_,_,_,.sums h2,deedE_by (szE_few (by decide) (by show 1≤1000; decide)) (fun z=>nomatch z.1) (faultS_not (by decide)) (by show (numsOf (ns.map Wo.num)).bind _=_; rw [numsOf_maps]; show (if ns.length≤1000 then _ else none)=_; rw [if_pos (by omega)]),fun r e => ?_⟩
  cases e
  refine⟨by show (ns.length:Int)=((ns.map Wo.num).length:Int)+0; rw [List.length_map]; omega,by show ((aheads 0 ns).map Wo.num).length≤40; rw [List.length_map,aheads_len]; exact h2,by rw [List.length_map,aheads_len]; exact h2,fun w hw => ?_⟩
  obtain⟨j,hj,rfl⟩:=List.mem_map.mp hw
  rw [aheads_eq ns 0 (by decide) (by decide)] at hj
  obtain⟨i,_,rfl⟩:=List.mem_map.mp hj
  show 0≤_ % 10007∧_ % 10007≤(10006:Int)
  omega
 | one h =>
  obtain⟨w,rfl,h1⟩:=woks1 hw
  exact⟨_,_,_,.one,deedE_by (szE_few (by decide) (by show 1≤1000; decide)) (fun z=>nomatch z.1) (faultS_not (by decide)) rfl,fun r e=>by cases e; exact⟨rfl,by show 1≤40; decide,by show 1≤40; decide,fun v hv=>by rw [List.mem_singleton.mp hv]; exact h1⟩⟩
 | pick =>
  obtain⟨w,v,rfl,h1,h2⟩:=woks2 hw
  obtain⟨us,rfl,h3,h4⟩:=wok_row h1
  obtain⟨b,rfl,hb⟩:=wok_num h2
  obtain⟨k,rfl⟩:∃ k:Nat,b=(k:Int):=⟨b.toNat,by omega⟩
  have sz:=szE_few (x:=.pick) (ws:=[.row us,.num (k:Int)]) (by decide) (by show 2≤1000; decide)
  by_cases c:k < us.length
  ·have e:us[k]? = some us[k]:=List.getElem?_eq_getElem c
   refine⟨_,_,_,.pick h3 e,deedE_by sz (fun z=>z.2 rfl) ?_ ?_,fun r e' => ?_⟩
   ·unfold faultS
    rw [if_pos rfl,if_pos]
    show (k:Int) < (us.length:Int)
    omega
   ·show (if 0≤(k:Int) then us[(k:Int).toNat]? else none)=_
    rw [if_pos (by omega),Int.toNat_natCast,e]
   ·cases e'
    have hw:=h4 _ (List.getElem_mem c)
    refine⟨(items_not (by simp)).symm,?_,hw⟩
    cases d with
    | zero =>
     obtain⟨q,e2,_⟩:=wok_num hw
     rw [e2]
     exact Nat.zero_le _
    | succ d =>
     obtain⟨q,e2,h9,_⟩:=wok_row hw
     rw [e2]
     exact h9
  ·refine⟨_,_,_,.pickE (by omega),deedE_err sz (fun z=>z.2 rfl) ?_,fun r e=>nomatch e⟩
   unfold faultS
   rw [if_pos rfl,if_neg]
   show ¬ (k:Int) < (us.length:Int)
   omega
 | put =>
  obtain⟨w,v,rfl,h1,h2⟩:=woks2 hw
  obtain⟨us,rfl,h3,h4⟩:=wok_row h1
  obtain⟨vs,rfl,h5,h6⟩:=wok_row h2
  have sz:=szE_few (x:=.put) (ws:=[.row us,.row vs]) (by decide) (by show 2≤1000; decide)
  by_cases c:us.length+vs.length≤40
  ·refine⟨_,_,_,.put c,deedE_by sz (fun z=>nomatch z.1) ?_ ?_,fun r e => ?_⟩
   ·unfold faultS
    rw [if_neg (by decide),if_neg]
    rintro⟨_,h5⟩
    have:(40:Int) < (us.length:Int)+((vs.length:Int)+0):=h5
    omega
   ·show (if us.length+vs.length≤1000 then some (Wo.row (us++vs)) else none)=_
    rw [if_pos (by omega)]
   ·cases e
    have l:(us++vs).length≤40:=by rw [List.length_append]; exact c
    refine⟨by show ((us++vs).length:Int)=(us.length:Int)+((vs.length:Int)+0); rw [List.length_append]; omega,l,l,fun w hw => ?_⟩
    rcases List.mem_append.mp hw with h | h
    ·exact h4 w h
    ·exact h6 w h
  ·refine⟨_,_,_,.putE h3 h5 (by omega),deedE_err sz (fun z=>nomatch z.1) ?_,fun r e=>nomatch e⟩
   unfold faultS
   rw [if_neg (by decide),if_pos]
   exact⟨.inr (.inl rfl),by show (40:Int) < (us.length:Int)+((vs.length:Int)+0); omega⟩
 | flat =>
  obtain⟨w,rfl,h1⟩:=woks1 hw
  obtain⟨us,rfl,h2,h3⟩:=wok_row h1
  obtain⟨rs,rfl,h4⟩:=wok_rows h3
  rw [List.length_map] at h2
  have sz:=szE_flat h2
  by_cases c:rs.flatten.length≤40
  ·refine⟨_,_,_,.flat h2 c,deedE_by sz (fun z=>nomatch z.1) ?_ ?_,fun r e => ?_⟩
   ·unfold faultS
    rw [if_neg (by decide),if_neg]
    rintro⟨_,h5⟩
    have:(40:Int) < (rs.flatten.length:Int)+0:=h5
    omega
   ·show (rowsOf (rs.map Wo.row)).bind _=_
    rw [rowsOf_maps]
    show (if rs.flatten.length≤1000 then _ else none)=_
    rw [if_pos (by omega)]
   ·cases e
    refine⟨by show (rs.flatten.length:Int)=(rs.flatten.length:Int)+0; omega,c,c,fun w hw => ?_⟩
    obtain⟨r,hr,hw⟩:=List.mem_flatten.mp hw
    exact (h4 r hr).2 w hw
  ·refine⟨_,_,_,.flatE h2 (fun r hr=>(h4 r hr).1) (by omega),deedE_err sz (fun z=>nomatch z.1) ?_,fun r e=>nomatch e⟩
   unfold faultS
   rw [if_neg (by decide),if_pos]
   exact⟨.inr (.inr rfl),by show (40:Int) < (rs.flatten.length:Int)+0; omega⟩
end NR
namespace NR
open PySem PySem.Spec PyProof.Rows L2 LamX NdefX
structure FunL (K:PySem.W.Frag) (x:Str) (st:Stmt) (f:Addr) (fd:FuncData) (c:Addr):Prop where
 ex:∃ (oc:Value) (od:Option Addr) (dV kV doc pm:Value) (an:Option Addr) (ct:Value) (osl:Array (Option Value)),
  fd=PySem.W.fnOf x x (defArgs st) (defBody st) (defScope st) dV kV doc pm an (.ref c) ct∧K.lookup f=some ⟨oc,od,.func fd,osl⟩∧PySem.W.codeIn K (.ref c) x=true
theorem FunL.ok {P:Program}{w:World}{K:PySem.W.Frag}{mg:Str→Option Value}{base:Heap}{x:Str}{st:Stmt}{f:Addr}{fd:FuncData}{c:Addr}{CX:CXT}{N ps:List Str}{k:Nat}{sp:Sp}(F:FunL K x st f fd c) (S:FnScope N ps (defScope st)) (len:∀ vs H Q E,sp vs H Q E→vs.length=ps.length)
  (hbody:∀ (A:Around) (outer:List Env) (s:Shared) (H:Hp) (vs:List V) (Q:VK) (E:XK),Room k (A.deeper (envOfC x (defScope st) s.heap.objs.size f (.ref c)))→sp vs H Q E →
   ∃ t,PSs (cxOf CX P w K mg base N x (defScope st) f (.ref c) A outer s H E) (defBody st) t∧t { nx:=fun _ H'=>Q .non H',rt:=Q } (L2.start N vs) H):FnOk P w K mg base CX (k+1) f fd ps sp:=by
 obtain⟨oc,od,dV,kV,doc,pm,an,ct,osl,rfl,lk,hcd⟩:=F.ex
 exact fn_of lk hcd S len fun A outer s H vs Q E hr hsp=>hbody A outer s H vs Q E hr hsp
def lamQ (x:Str):Str:=(x ++ ".<locals>.") ++ "<lambda>"
mutual
def woPd:Wo→PyData
 | .num n=>.int n
 | .row ws=>.tuple (wosPd ws)
def wosPd:List Wo→List PyData
 | []=>[]
 | w::ws=>woPd w::wosPd ws
end
mutual
theorem WIn.dp {K:PySem.W.Frag}{H:Hp}:∀ {v:V}{w:Wo},WIn H v w→Dp K H v (woPd w)
 | _,_,.num=>.int _
 | _,_,.row h r=>.tup (SqT.of h) r.dp
theorem WIns.dp {K:PySem.W.Frag}{H:Hp}:∀ {vs:List V}{ws:List Wo},WIns H vs ws→DpAll K H vs (wosPd ws)
 | _,_,.nil=>.nil
 | _,_,.cons a r=>.cons a.dp r.dp
end
theorem wosPd_can {n:Nat}:∀ {ws:List Wo},(∀ w∈ws,(woPd w).canLay0=true∧PyData.depth (woPd w)≤n)→PyData.canLayAll0 (wosPd ws)=true∧PyData.depthAll (wosPd ws)≤n
 | [],_=>⟨rfl,Nat.zero_le _⟩
 | w::ws,h=>by
  obtain⟨h1,h2⟩:=h w (List.mem_cons_self ..)
  obtain⟨h3,h4⟩:=wosPd_can fun v hv=>h v (List.mem_cons_of_mem _ hv)
  constructor
  ·show ((woPd w).canLay0 && PyData.canLayAll0 (wosPd ws))=true
   rw [h1,h3]
   rfl
  ·show max (PyData.depth (woPd w)) (PyData.depthAll (wosPd ws))≤n
   omega
theorem woPd_can:∀ {d:Nat}{w:Wo},WOk d w→(woPd w).canLay0=true∧PyData.depth (woPd w)≤d
 | 0,w,h=>by
  obtain⟨n,rfl,_⟩:=wok_num h
  exact⟨rfl,Nat.le_refl _⟩
 | d+1,w,h=>by
  obtain⟨ws,rfl,_,h2⟩:=wok_row h
  obtain⟨h3,h4⟩:=wosPd_can (n:=d) fun u hu=>woPd_can (h2 u hu)
  constructor
  ·simp [woPd,PyData.canLay0]
   exact h3
  ·simp [woPd,PyData.depth]
   exact h4
theorem woks_can:∀ {ds:List Nat}{ws:List Wo},WOks ds ws→(∀ d∈ds,d≤3)→∀ w∈ws,(woPd w).canLay0=true∧PyData.depth (woPd w)≤3
 | [],[],_,_,w,h=>nomatch h
 | d::ds,w::ws,hw,hd,u,hu=>by
  rcases List.mem_cons.mp hu with rfl | hu
  ·obtain⟨h1,h2⟩:=woPd_can hw.1
   exact⟨h1,by have:=hd d (List.mem_cons_self ..); omega⟩
  ·exact woks_can hw.2 (fun e he=>hd e (List.mem_cons_of_mem _ he)) u hu
 | [],_::_,h,_,_,_=>h.elim
 | _::_,[],h,_,_,_=>h.elim
theorem shaped_ws {ws:List Wo}(h:∀ w∈ws,(woPd w).canLay0=true∧PyData.depth (woPd w)≤3):SeqAt.shaped (.list (wosPd ws))=true:=by
 obtain⟨h1,h2⟩:=wosPd_can h
 show (PyData.canLayAll0 (wosPd ws) && decide (PyData.depthAll (wosPd ws)+1≤64))=true
 rw [h1,decide_eq_true (by omega)]
 rfl
theorem eqv_nil {ws:List Wo}:(PyData.list (wosPd ws)).eqv (.list [])=decide (ws=[]):=by
 cases ws with
 | nil=>rfl
 | cons w ws=>simp [wosPd,PyData.eqv,PyData.eqvAll]
theorem WIns.flat {H:Hp}:∀ {vs:List V}{rs:List (List Wo)},WIns H vs (rs.map Wo.row)→RIns H vs rs
 | _,[],h=>by cases h; exact .nil
 | _,r::rs,h=>by
  cases h with
  | cons a b =>
   cases a with
   | row h1 h2=>exact .cons h1 h2 b.flat
theorem RIns.gr {H:Hp}:∀ {vs:List V}{rs:List (List Wo)},RIns H vs rs→∀ {i:Nat}{v:V},vs[i]? = some v→∃ a us r,v=.ref a∧rs[i]? = some r∧H a=some (.tup us)∧WIns H us r
 | _,_,.nil,i,v,h=>nomatch h
 | _,_,.cons a b c,0,v,h=>by cases h; exact⟨_,_,_,rfl,rfl,a,b⟩
 | _,_,.cons a b c,i+1,v,h=>c.gr (i:=i) h
theorem RIns.rlen {H:Hp}:∀ {vs:List V}{rs:List (List Wo)},RIns H vs rs→vs.length=rs.length
 | _,_,.nil=>rfl
 | _,_,.cons _ _ c=>congrArg (·+1) c.rlen
theorem WIns.app2 {H:Hp}:∀ {vs us:List V}{ws zs:List Wo},WIns H vs ws→WIns H us zs→WIns H (vs++us) (ws++zs)
 | _,_,_,_,.nil,h=>h
 | _,_,_,_,.cons a b,h=>.cons a (b.app2 h)
theorem WIns.wlen {H:Hp}:∀ {vs:List V}{ws:List Wo},WIns H vs ws→vs.length=ws.length
 | _,_,.nil=>rfl
 | _,_,.cons _ c=>congrArg (·+1) c.wlen
theorem flat_small {n:Nat}:∀ {rs:List (List Wo)},(∀ r∈rs,r.length≤n)→rs.flatten.length≤rs.length*n
 | [],_=>Nat.zero_le _
 | r::rs,h=>by
  have h1:=h r (List.mem_cons_self ..)
  have h2:=flat_small fun r hr=>h r (List.mem_cons_of_mem _ hr)
  rw [List.flatten_cons,List.length_append,List.length_cons,Nat.add_mul]
  omega
def spInOne:Sp:=fun vs H Q _=>∃ (a:Addr) (us:List V) (rs:List (List Wo)),vs=[.ref a]∧H a=some (.tup us)∧RIns H us rs∧rs.length≤40∧(∀ r∈rs,r.length≤40)∧∀ (H':Hp) (l:Addr) (zs:List V),Same H H'→H l=none→H' l=some (.lst zs)→WIns H' zs rs.flatten→Q (.ref l) H'
abbrev sLawInOne:Stmt:=top 154
theorem scsLawInOne:FnScope ["_law_first", "_law_found", "_law_one"] ["_law_first"] (defScope sLawInOne):=⟨rfl,rfl,rfl,by decide +kernel,rfl,by decide +kernel,by decide +kernel⟩
section
variable {P:Program}{w:World}{K:PySem.W.Frag}{mg:Str→Option Value}{base:Heap}{f:Addr}{fd:FuncData}
theorem ok_inone (F:FnP K "_law_in_one" sLawInOne f fd):FnOk P w K mg base CX0 1 f fd ["_law_first"] spInOne:=by
 have sc:=scsLawInOne
 refine F.ok sc (fun vs H Q E h => ?_) (fun cdv A outer s H vs Q E hr h => ?_)
 ·obtain⟨a,us,rs,rfl,_⟩:=h
  rfl
 obtain⟨a,us,rs,rfl,ha,ri,l40,r40,q⟩:=h
 have big:100000≤8000000:=by decide
 refine⟨_,PSs.nox ((pss_cons (ps_set (i:=1) sc.nd rfl (.inl rfl) (pe_lst pa_nil))
  (pss_cons (ps_for PassesOwn.never rfl (pi_tupK K (pv 0)) (pg_name (i:=2) sc.nd rfl (.inl rfl)) (pss_one (ps_expr (pe_bm PySem.F.plainAttrs_list PySem.F.slot_list_extend PySem.F.type_list_extend (mt_extT K) (pv 1) (pa_cons (pv 2) pa_nil)))))
  (pss_one (ps_ret (pv 1)))))),?_⟩
 refine⟨by show 0≤sizeLine; decide,fun l hl => ?_⟩
 have s0:=same_new hl (.lst [])
 have tk1:∀ n:Nat,((rs.take n).flatten).length≤1600:=fun n=>by
  have:=flat_small (n:=40) (rs:=rs.take n) fun r hr=>r40 r (List.mem_of_mem_take hr)
  have h2:(rs.take n).length≤40:=by rw [List.length_take]; omega
  have:(rs.take n).length*40≤40*40:=Nat.mul_le_mul_right _ h2
  omega
 refine⟨_,rfl,a,rfl,⟨us,SqT.of (s0 _ _ ha)⟩,for_tup (K:=K) (a:=a) (xs:=us) (fun (i:Nat) σ H'=>∃ (ys:List V) (x2:Option V),σ=[some (.ref a),some (.ref l),x2]∧Same H H'∧H' l=some (.lst ys)∧WIns H' ys (rs.take i).flatten) ⟨[],none,rfl,s0,upd_same,.nil⟩ ?_ ?_ ?_⟩
 ·rintro i σ H' _ ⟨ys,_,rfl,s1,_⟩
  exact SqT.of (s1 _ _ ha)
 ·rintro i v σ H1 hi ⟨ys,x2,rfl,s1,e1,w1⟩
  obtain⟨b,zs,r,rfl,hr,hb,wb⟩:=ri.gr hi
  have rm:=List.mem_of_getElem? hr
  have l1:=w1.wlen
  have l2:=wb.wlen
  have:=tk1 i
  have:=r40 r rm
  refine⟨_,rfl,.inl ⟨rfl,_,SqL.of e1⟩,_,rfl,l,b,ys,zs,rfl,rfl,e1,SqT.of (s1 _ _ hb),by omega,?_⟩
  have k5:=TK.lst (ys:=ys++zs) e1
  refine⟨ys++zs,_,rfl,fun c o hc=>by rw [upd_ne (ne_of_none hc hl)]; exact s1 _ _ hc,upd_same,?_⟩
  rw [List.take_add_one,hr,List.flatten_append]
  show WIns _ _ (_++(r++[]))
  rw [List.append_nil]
  exact (w1.mono k5).app2 (wb.mono ((TK.of s1).trans k5))
 ·rintro σ H1 ⟨ys,x2,rfl,s1,e1,w1⟩
  rw [List.take_of_length_le (by rw [ri.rlen]; exact Nat.le_refl _)] at w1
  exact⟨_,rfl,q _ l ys s1 hl e1 w1⟩
end
def ResIn (H:Hp):NR0→V→V→Prop
 | .ok w,u,v=>v=.non∧WIn H u w
 | .error z,u,v=>u=.non∧∃ ft,v=.ref ft∧H ft=some (.tup [.str z.1,.int (z.2.1:Int),.int (z.2.2:Int)])
theorem ResIn.mono {H H':Hp}{r:NR0}{u v:V}(h:ResIn H r u v) (k:TK H H'):ResIn H' r u v:=by
 cases r with
 | ok w=>exact⟨h.1,h.2.mono k⟩
 | error z =>
  obtain⟨h1,ft,h2,h3⟩:=h
  exact⟨h1,ft,h2,k _ _ h3⟩
def atR (fn place:Nat):Except Str Wo→NR0
 | .ok r=>.ok r
 | .error e=>.error (e,fn,place)
structure SmX where
 a:MA
 S:LSt
 x:W
 n:Int
 ta:Addr
 txs:List V
 fn:Nat
 place:Nat
 us:List V
 ws:List Wo
 o:Except Str Wo
 i:Int
 t2:Addr
 sl:Addr
structure SmH (P:Program) (w:World) (Ts:List (Addr×Str)) (H:Hp) (D:SmX):Prop where
 lm:LmIn P w H D.a D.S
 h2:H D.t2=some (.tup [.int (D.fn:Int),.int (D.place:Int)])
 ht:H D.ta=some (.tup (.str D.x.str::D.txs))
 hn:D.x=.num→D.txs=[.int D.n]
 hs:H D.sl=some (.lst D.us)
 hw:WIns H D.us D.ws
 sm:Smp D.x D.n D.ws D.o D.i
 can:∀ w∈D.ws,(woPd w).canLay0=true∧PyData.depth (woPd w)≤3
 tabs:Tabs Ts H
def spSimple (P:Program) (w:World) (Ts:List (Addr×Str)):Sp:=fun vs H Q _=>∃ D:SmX,vs=[.ref D.a.m,.ref D.t2,.ref D.ta,.ref D.sl]∧SmH P w Ts H D ∧
 ∀ (H':Hp) (t:Addr) (u v:V),FrM D.a H H'→Tabs Ts H'→LmIn P w H' D.a ⟨D.S.fuel,D.S.work+D.i,D.S.deep,D.S.met⟩→H' t=some (.tup [u,v])→ResIn H' (atR D.fn D.place D.o) u v→Q (.ref t) H'
theorem seq_restS {t u:TS}{D:Ends}{σ:L2.St}{H:Hp}(R:L2.St→Hp→Prop) (h2:∀ σ' H',R σ' H'→u D σ' H') (h1:(∀ σ' H',R σ' H'→u D σ' H')→t { D with nx:=u D } σ H):tSeq t u D σ H:=h1 h2
abbrev sumW:List V:=[.str "num", .str "plus", .str "minus", .str "times", .str "less", .str "same"]
def W.su:W→Bool
 | .num | .plus | .minus | .times | .less | .same=>true
 | _=>false
theorem inSumW (x:W):inV (.str x.str) sumW=x.su:=by cases x <;> decide +kernel
theorem isLen (x:W):decide (V.str x.str=V.str "len")=decide (x=.len):=by cases x <;> decide +kernel
theorem isPk (x:W):decide (V.str x.str=V.str "pick")=decide (x=.pick):=by cases x <;> decide +kernel
theorem isSm (x:W):decide (V.str x.str=V.str "sum")=decide (x=.sum):=by cases x <;> decide +kernel
theorem isFl (x:W):decide (V.str x.str=V.str "flat")=decide (x=.flat):=by cases x <;> decide +kernel
theorem isSms (x:W):decide (V.str x.str=V.str "sums")=decide (x=.sums):=by cases x <;> decide +kernel
def KeepD (H G:Hp):Prop:=∀ b o,(∀ kvs,o≠.dK kvs)→(∀ ps,o≠.tbl ps)→H b=some o→G b=some o
theorem KeepD.of {H G:Hp}(e:ExtN H G):KeepD H G:=fun b o _ n h=>e b o h n
theorem KeepD.trans {H G G':Hp}(a:KeepD H G) (b:KeepD G G'):KeepD H G':=fun c o n1 n2 h=>b c o n1 n2 (a c o n1 n2 h)
theorem KeepD.put {H:Hp}{p:Addr}{l:List (Key×V)} {u:HO}(h:H p=some (.dK l)):KeepD H (upd H p u):=fun b o n _ hb=>by
 rw [upd_ne (fun z=>by rw [z,h] at hb; cases hb; exact n _ rfl)]
 exact hb
theorem tabs_dk {T:List (Addr×Str)} {H:Hp}{p:Addr}{l l':List (Key×V)} (t:Tabs T H) (h:H p=some (.dK l)):Tabs T (upd H p (.dK l')):=by
 intro q hq
 obtain⟨ps,h1,h2,h3⟩:=t q hq
 refine⟨ps,by rw [upd_ne (fun z=>by rw [z,h] at h1; cases h1)]; exact h1,h2,fun pos cv hc => ?_⟩
 obtain⟨c,e1,e2⟩:=h3 pos cv hc
 exact⟨c,e1,by rw [upd_ne (fun z=>by rw [z,h] at e2; cases e2)]; exact e2⟩
theorem wins_at {H:Hp}:∀ {vs:List V}{ws:List Wo},WIns H vs ws→∀ {i:Nat}{w:Wo},ws[i]? = some w→∃ v,vs[i]? = some v∧WIn H v w
 | _,_,.nil,_,_,h=>nomatch h
 | _,_,.cons a b,0,_,h=>by cases h; exact⟨_,rfl,a⟩
 | _,_,.cons a b,i+1,_,h=>wins_at (i:=i) b h
theorem lm_work {P:Program}{w:World}{H G:Hp}{a:MA}{S:LSt}{Ts:List (Addr×Str)} (lm:LmIn P w H a S) (e:ExtN H G) (tb:Tabs Ts G) (k:Int):DGet G a.m (.str "work") (some (.int S.work))∧DPut G a.m (.str "work") (.int k) (upd G a.m (.dK (mKv a S.fuel k)))∧LmIn P w (upd G a.m (.dK (mKv a S.fuel k))) a ⟨S.fuel,k,S.deep,S.met⟩∧FrM a H (upd G a.m (.dK (mKv a S.fuel k)))∧Tabs Ts (upd G a.m (.dK (mKv a S.fuel k))):=by
 have l2:=lm.ext e
 have dp:DPut G a.m (kV (Sum.inr "work")) (.int k) (upd G a.m (.dK (putK (mKv a S.fuel S.work) (Sum.inr "work") (.int k)))):=DPut.k l2.hm (by show 6 < sizeLine; decide)
 exact⟨DGet.k (k:=Sum.inr "work") l2.hm,dp,l2.put _ _,(FrM.ext e).trans .putm,tabs_dk tb l2.hm⟩
theorem ints_of {H:Hp}:∀ {vs:List V}{ns:List Int},WIns H vs (ns.map Wo.num)→vs=ns.map V.int
 | _,[],h=>by cases h; rfl
 | _,n::ns,h=>by
  cases h with
  | cons a b =>
   cases a
   rw [ints_of b]
   rfl
def Fnd (H H':Hp) (x:W) (o:Except Str Wo) (i:Int) (fv:V) (fvs:List V):Prop :=
 (o=.error "many" ∧ i=0∧40 < fvs.length)∨(fvs.length≤40∧i=(fvs.length:Int)∧((x=.sums∧∃ (ra:Addr) (ns:List Int),fv=.ref ra∧H ra=some (.tup (ns.map V.int))∧o=.ok (numR (aheads 0 ns))∧ns.length=fvs.length)∨(x≠.sums∧∃ ws',o=.ok (.row ws')∧WIns H' fvs ws')))
theorem tkE {H H':Hp}(e:ExtN H H'):TK H H':=fun b xs h=>e b _ h fun ps z=>nomatch z
theorem flat_leM {α:Type}{rs:List (List α)} {r:List α}(h:r∈rs):r.length≤rs.flatten.length:=by
 induction rs with
 | nil=>cases h
 | cons a rs ih =>
  rw [List.flatten_cons,List.length_append]
  rcases List.mem_cons.mp h with rfl | h
  ·omega
  ·have:=ih h
   omega
theorem rgV_nat (k:Nat):rgV 0 (k:Int)=((List.range k).map fun (j:Nat)=>(j:Int)).map V.int:=by
 unfold rgV
 rw [List.map_map,show ((k:Int) - 0).toNat=k by omega]
 exact List.map_congr_left fun j _=>by show V.int (0+(j:Int))=V.int (j:Int); rw [Int.zero_add]
theorem wins_intsM (H:Hp):∀ ns:List Int,WIns H (ns.map V.int) (ns.map Wo.num)
 | []=>.nil
 | n::ns=>.cons .num (wins_intsM H ns)
theorem cut_take {xs:List V}{k:Nat}:cutV xs none (some (k:Int))=xs.take k:=by
 unfold cutV
 rw [HT.sIx_none,HT.sIx_nat,List.drop_zero,Nat.sub_zero]
 by_cases h:k≤xs.length
 ·rw [Nat.min_eq_left h]
 ·rw [Nat.min_eq_right (by omega),List.take_length,List.take_of_length_le (by omega)]
def LmAt {ι:Type}(X:Cx) (C:ι→LamT) (G:Hp) (n:ι) (f:Addr):Prop:=∃ (c':Addr) (dV:Value) (vs:List V),G f=some (LamO f (lamW X (C n).pars (C n).body (C n).scope dV c'))∧G c'=some (CodeO c' (X.env.qual ++ "<lambda>"))∧DflAt G (C n).dfl dV (dflN (C n).dfl) vs
theorem DflAt.keep {H G:Hp}(k:KeepD H G) {x:Option Str}{dV:Value}{ps:List Str}{vs:List V}(h:DflAt H x dV ps vs):DflAt G x dV ps vs:=by
 cases h with
 | none=>exact .none
 | one h=>exact .one (k _ _ (fun _ z=>nomatch z) (fun _ z=>nomatch z) h)
theorem LmAt.keep {ι:Type}{X:Cx}{C:ι→LamT}{H G:Hp}{n:ι}{f:Addr}(k:KeepD H G) (h:LmAt X C H n f):LmAt X C G n f:=by
 obtain⟨c',dV,vs,h1,h2,h3⟩:=h
 exact⟨c',dV,vs,k _ _ (fun _ z=>nomatch z) (fun _ z=>nomatch z) h1,k _ _ (fun _ z=>nomatch z) (fun _ z=>nomatch z) h2,h3.keep k⟩
def FL (n:Int) (us:List V) (fv lv:V):Prop:=(us=[]∧fv=.int n∧lv=.int 0)∨(∃ u,us=[u]∧fv=u∧lv=u)∨(∃ u v,us=[u,v]∧fv=u∧lv=v)
theorem smp_len {x:W}{n:Int}{ws:List Wo}{o:Except Str Wo}{i:Int}(h:Smp x n ws o i):(ws=[]∧x=.num)∨(∃ w,ws=[w])∨(∃ w v,ws=[w,v]):=by
 cases h <;> first | exact .inl ⟨rfl,rfl⟩ | exact .inr (.inl ⟨_,rfl⟩) | exact .inr (.inr ⟨_,_,rfl⟩)
theorem wins_two {H:Hp}{us:List V}{w v:Wo}(h:WIns H us [w,v]):∃ a b,us=[a,b]∧WIn H a w∧WIn H b v:=by
 cases h with
 | cons h1 h2=>cases h2 with
  | cons h3 h4=>cases h4; exact⟨_,_,rfl,h1,h3⟩
theorem wins_one {H:Hp}{us:List V}{w:Wo}(h:WIns H us [w]):∃ a,us=[a]∧WIn H a w:=by
 cases h with
 | cons h1 h2=>cases h2; exact⟨_,rfl,h1⟩
section
variable {P:Program}{w:World}{K:PySem.W.Frag}{mg:Str→Option Value}{base:Heap}{f c Pt:Addr}{fd:FuncData}{Ts:List (Addr×Str)}
theorem ok_simple (F:FunL K "_law_simple" sLawSimple f fd c) (TB:TabB base mg c Pt) (hmT:(Pt,lamQ "_law_simple")∈Ts) (hu1:∀ p∈Ts,p.1=Pt→p.2=lamQ "_law_simple") (O_in_one:Okf P w K mg base CX0 3 "_law_in_one" ["_law_first"] spInOne) (z_int:mg "int" = none) (z_list:mg "list" = none) (z_len:mg "len" = none) (z_range:mg "range" = none) (z_min:mg "min" = none) (z_sum:mg "sum" = none) (z_tuple:mg "tuple" = none):FnOk P w K mg base CX0 4 f fd ["_law_m", "_law_at", "_law_tree_here", "_law_some"] (spSimple P w Ts):=by
 have sc:=scsLawSimple
 refine F.ok sc (fun vs H Q E h => ?_) (fun A outer s H vs Q E hr h => ?_)
 ·obtain⟨D,rfl,_⟩:=h
  rfl
 have hu:=hu_of hr
 have hcd:(cxOf CX0 P w K mg base ["_law_m", "_law_at", "_law_tree_here", "_law_some", "_law_word_here", "_law_sums", "_law_makes", "_law_found", "_law_first", "_law_last", "_law_k"] "_law_simple" (defScope sLawSimple) f (.ref c) A outer s H E).env.code=.ref c:=rfl
 obtain⟨D,rfl,h,q⟩:=h
 obtain⟨a,S,x,n,ta,txs,fn,place,us,ws,o,i,t2,sl⟩:=D
 obtain⟨lm,h2,ht,hn,hs,hw,sm,can,tabs⟩:=h
 dsimp only at lm h2 ht hn hs hw sm can tabs q
 refine⟨_,PSs.nox (pss_cons ((ps_set (i:=4) sc.nd rfl (.inl rfl) (pe_ix (ix_tupK K) (pv 2) pe_int (fun _ _=>rfl))))
  (pss_cons ((ps_set (i:=8) sc.nd rfl (.inr rfl) (pe_ifExp (pt_cmpR (op_neDK K hr.units) (pv 3) (pe_lst pa_nil) (nomark _)) (pe_ix (ix_listK K) (pv 3) pe_int (fun _ _=>rfl)) (pe_ix (ix_tupK K) (pv 2) pe_int (fun _ _=>rfl)))))
  (pss_cons ((ps_set (i:=9) sc.nd rfl (.inr rfl) (pe_ifExp (pt_cmpR (op_neDK K hr.units) (pv 3) (pe_lst pa_nil) (nomark _)) (pe_ix (ix_listK K) (pv 3) (pe_un un_neg pe_int) (fun _ _=>rfl)) pe_int)))
  (pss_cons ((ps_if (pt_cmpR (op_inK K) (pv 4) (pe_tup (pa_cons pe_str (pa_cons pe_str (pa_cons pe_str (pa_cons pe_str (pa_cons pe_str (pa_cons pe_str pa_nil))))))) (by rfl)) (pss_cons (ps_set (i:=5) sc.nd rfl (.inl rfl) (pe_disp (pps_cons pe_str (pe_lam0 TB hcd hmT hu1 (fr_of (by decide +kernel))) (pps_cons pe_str (pe_lam1 TB hcd hmT hu1 (fr_of (by decide +kernel)) pe_int) (pps_cons pe_str (pe_lam1 TB hcd hmT hu1 (fr_of (by decide +kernel)) pe_int) pps_nil))) (by rfl) (by rfl) (fun z=>by cases z) (by decide)))
  (pss_cons (ps_expr (pe_bm PySem.F.plainAttrs_dict PySem.F.slot_dict_update PySem.F.type_dict_update mt_dupd (pv 5) (pa_cons (pe_disp (pps_cons pe_str (pe_lam0 TB hcd hmT hu1 (fr_of (by decide +kernel))) (pps_cons pe_str (pe_lam1 TB hcd hmT hu1 (fr_of (by decide +kernel)) pe_int) pps_nil)) (by rfl) (by rfl) (fun z=>by cases z) (by decide)) pa_nil)))
  (pss_cons (ps_dput hu (pv 5) pe_str (pe_lam0 TB hcd hmT hu1 (fr_of (by decide +kernel))) rfl)
  (pss_one (ps_ret (pe_tup (pa_cons (pe_op op_mod (sumC (k:=0) z_int (pe_dget hu (pv 5) (pv 4) (fun _ _=>rfl)) (hr.mono (by omega))) pe_int) (pa_cons pe_non pa_nil)))))))) pss_nil))
  (pss_cons ((ps_if (pt_cmpR op_eq (pv 4) pe_str (nomark _)) (pss_one (ps_ret (pe_tup (pa_cons (pe_callB (call_lenK K) rfl z_len PySem.boot_len (pa_cons (pv 8) pa_nil)) (pa_cons pe_non pa_nil))))) pss_nil))
  (pss_cons ((ps_if (pt_cmpR op_eq (pv 4) pe_str (nomark _)) (pss_one (ps_ret (pe_ifExp (pt_cmpR op_lt (pv 9) (pe_callB (call_lenK K) rfl z_len PySem.boot_len (pa_cons (pv 8) pa_nil)) (nomark _)) (pe_tup (pa_cons (pe_ix (ix_tupK K) (pv 8) (pv 9) (fun _ _=>rfl)) (pa_cons pe_non pa_nil))) (pe_tup (pa_cons pe_non (pa_cons (pe_op (op_catTK K) (pe_tup (pa_cons pe_str pa_nil)) (pv 1)) pa_nil)))))) pss_nil))
  (pss_cons ((ps_if (pt_cmpR op_eq (pv 4) pe_str (nomark _)) (pss_cons (ps_dput hu (pv 0) pe_str (pe_op op_add (pe_dget hu (pv 0) pe_str (fun _ _=>rfl)) (pe_callB (call_lenK K) rfl z_len PySem.boot_len (pa_cons (pv 8) pa_nil))) rfl)
  (pss_one (ps_ret (pe_tup (pa_cons (pe_op op_mod (pe_callB (cr_sumQ K rfl) rfl z_sum (by decide +kernel) (pa_cons (pv 8) pa_nil)) pe_int) (pa_cons pe_non pa_nil)))))) pss_nil))
  (pss_cons ((ps_set (i:=6) sc.nd rfl (.inl rfl) (pe_disp (pps_cons pe_str (pe_lam0 TB hcd hmT hu1 (fr_of (by decide +kernel))) (pps_cons pe_str (pe_lam1 TB hcd hmT hu1 (fr_of (by decide +kernel)) pe_int) pps_nil)) (by rfl) (by rfl) (fun z=>by cases z) (by decide))))
  (pss_cons ((ps_expr (pe_bm PySem.F.plainAttrs_dict PySem.F.slot_dict_update PySem.F.type_dict_update mt_dupd (pv 6) (pa_cons (pe_disp (pps_cons pe_str (pe_lam0 TB hcd hmT hu1 (fr_of (by decide +kernel))) (pps_cons pe_str (pe_lam1 TB hcd hmT hu1 (fr_of (by decide +kernel)) pe_int) pps_nil)) (by rfl) (by rfl) (fun z=>by cases z) (by decide)) pa_nil))))
  (pss_cons ((ps_set (i:=7) sc.nd rfl (.inl rfl) (pe_ifExp (pt_cmpR op_eq (pv 4) pe_str (nomark _)) (pe_c O_in_one hr rfl pass0 (pa_cons (pv 8) pa_nil)) (makC (k:=0) z_list z_len z_range z_min (pe_dget hu (pv 6) (pv 4) (fun _ _=>rfl)) (hr.mono (by omega))))))
  (pss_cons ((ps_if (pt_cmpR op_gt (pe_callB (call_lenK K) rfl z_len PySem.boot_len (pa_cons (pv 7) pa_nil)) pe_int (nomark _)) (pss_one (ps_ret (pe_tup (pa_cons pe_non (pa_cons (pe_op (op_catTK K) (pe_tup (pa_cons pe_str pa_nil)) (pv 1)) pa_nil))))) pss_nil))
  (pss_cons ((ps_dput hu (pv 0) pe_str (pe_op op_add (pe_dget hu (pv 0) pe_str (fun _ _=>rfl)) (pe_callB (call_lenK K) rfl z_len PySem.boot_len (pa_cons (pv 7) pa_nil))) rfl))
  (pss_cons ((ps_if (pt_cmpR op_eq (pv 4) pe_str (nomark _)) (pss_one (ps_setLc (i:=7) (own:=[("_law_k", 10)]) (by rfl) sc.nd rfl rfl (sw_true rfl rfl rfl (by decide +kernel)) (pi_range1 rfl z_range (pa_cons (pe_callB (call_lenK K) rfl z_len PySem.boot_len (pa_cons (pv 8) pa_nil)) pa_nil)) (blkOk_by (own:=[("_law_k", 10)]) (N:=["_law_m", "_law_at", "_law_tree_here", "_law_some", "_law_word_here", "_law_sums", "_law_makes", "_law_found", "_law_first", "_law_last", "_law_k"]) (sc:=defScope sLawSimple) (by decide +kernel)) (fun _ _ _ _ _=>(pg_name (i:=10) sc.nd rfl (.inl rfl))) (fun _ _ _ _ _=>pts_nil) (fun _ _ _ _ _=>(pe_op op_mod (pe_callB (cr_sumQ K rfl) rfl z_sum (by decide +kernel) (pa_cons (pe_slice (sl_tupK K) (pv 8) po_none (po_some (pv 10))) pa_nil)) pe_int)))) pss_nil))
  (pss_one ((ps_ret (pe_tup (pa_cons (pe_callTy (call_tupleK K) rfl z_tuple (by decide +kernel) (pa_cons (pv 7) pa_nil)) (pa_cons pe_non pa_nil))))))))))))))))))),?_⟩
 refine⟨_,rfl,ta,_,_,.str x.str,rfl,rfl,SqT.of ht,at0,?_⟩
 dsimp only [gName]
 have lus:=hw.wlen
 have us0:us=[]↔ws=[]:=⟨fun z=>List.eq_nil_of_length_eq_zero (by rw [← lus,z]; rfl),fun z=>List.eq_nil_of_length_eq_zero (by rw [lus,z]; rfl)⟩
 have sl3:=smp_len sm
 refine seq_restS (fun σ' H'=>∃ fv,σ'=[some (.ref a.m),some (.ref t2),some (.ref ta),some (.ref sl),some (.str x.str),none,none,none,some fv,none,none]∧Same H H'∧((us=[]∧fv=.int n)∨us[0]? = some fv)) ?rest fun nx => ?now
 case now =>
  refine⟨_,rfl,by show 0≤sizeLine; decide,fun l1 hl1 => ?_⟩
  have s1:=same_new hl1 (.lst [])
  refine⟨.list (wosPd ws),.list [],.lst (SqL.of (s1 _ _ hs)) (hw.mono (TK.of s1)).dp,.lst (SqL.of upd_same) .nil,shaped_ws can,rfl,_,rfl,?_⟩
  rw [eqv_nil]
  by_cases c:ws=[]
  ·rw [decide_eq_true c]
   refine ite2 (fun z=>nomatch z) (fun _ => ?_)
   have xn:x=.num:=by
    rcases sl3 with⟨_,h⟩ | ⟨w,h⟩ | ⟨w,v,h⟩
    ·exact h
    ·rw [h] at c; cases c
    ·rw [h] at c; cases c
   have ht2:=hn xn
   subst ht2
   exact⟨_,rfl,ta,_,_,_,rfl,rfl,SqT.of (s1 _ _ ht),at1,nx _ _ ⟨_,rfl,s1,.inl ⟨us0.mpr c,rfl⟩⟩⟩
  ·rw [decide_eq_false c]
   refine ite2 (fun _ => ?_) (fun z=>absurd rfl z)
   obtain⟨fv,fvs,rfl⟩:=List.exists_cons_of_ne_nil (fun z=>c (us0.mp z))
   exact⟨_,rfl,sl,_,_,_,rfl,rfl,SqL.of (s1 _ _ hs),at0,nx _ _ ⟨_,rfl,s1,.inr rfl⟩⟩
 case rest =>
 rintro σ1 H1 ⟨fv,rfl,s1,hfv⟩
 refine seq_restS (fun σ' H'=>∃ lv,σ'=[some (.ref a.m),some (.ref t2),some (.ref ta),some (.ref sl),some (.str x.str),none,none,none,some fv,some lv,none]∧Same H H'∧FL n us fv lv) ?rest fun nx => ?now
 case now =>
  refine⟨_,rfl,by show 0≤sizeLine; decide,fun l1 hl1 => ?_⟩
  have s2:=s1.trans (same_new hl1 (.lst []))
  refine⟨.list (wosPd ws),.list [],.lst (SqL.of (s2 _ _ hs)) (hw.mono (TK.of s2)).dp,.lst (SqL.of upd_same) .nil,shaped_ws can,rfl,_,rfl,?_⟩
  rw [eqv_nil]
  by_cases c:ws=[]
  ·rw [decide_eq_true c]
   refine ite2 (fun z=>nomatch z) (fun _ => ?_)
   rcases hfv with⟨h1,h2⟩ | h
   ·exact nx _ _ ⟨_,rfl,s2,.inl ⟨h1,h2,rfl⟩⟩
   ·rw [us0.mpr c] at h
    cases h
  ·rw [decide_eq_false c]
   refine ite2 (fun _ => ?_) (fun z=>absurd rfl z)
   have hfv:us[0]? = some fv:=by
    rcases hfv with⟨h1,h2⟩ | h
    ·exact absurd (us0.mp h1) c
    ·exact h
   rcases sl3 with⟨h,_⟩ | ⟨w,h⟩ | ⟨w,v,h⟩
   ·exact absurd h c
   ·subst h
    obtain⟨u,rfl,_⟩:=wins_one hw
    cases hfv
    exact⟨_,rfl,_,rfl,sl,_,_,_,rfl,rfl,SqL.of (s2 _ _ hs),rfl,nx _ _ ⟨_,rfl,s2,.inr (.inl ⟨_,rfl,rfl,rfl⟩)⟩⟩
   ·subst h
    obtain⟨u,v',rfl,_,_⟩:=wins_two hw
    cases hfv
    exact⟨_,rfl,_,rfl,sl,_,_,_,rfl,rfl,SqL.of (s2 _ _ hs),rfl,nx _ _ ⟨_,rfl,s2,.inr (.inr ⟨_,_,rfl,rfl,rfl⟩)⟩⟩
 case rest =>
 rintro σ2 H2 ⟨lv,rfl,s2,fl⟩
 have tk2:=TK.of s2
 have lm2:=lm.same s2
 have tb2:Tabs Ts H2:=tabs.ext s2
 refine if_restS (fun σ' H'=>x.su=false∧σ'=[some (.ref a.m),some (.ref t2),some (.ref ta),some (.ref sl),some (.str x.str),none,none,none,some fv,some lv,none]∧Same H H') ?rest fun nx => ?now
 case now =>
  refine⟨_,rfl,by show 6≤sizeLine; decide,fun tt htt => ?_⟩
  have s3:=same_new htt (.tup [.str "num", .str "plus", .str "minus", .str "times", .str "less", .str "same"])
  refine⟨tt,_,rfl,.inr (SqT.of upd_same),rfl,rfl,_,rfl,?_⟩
  have e:(if (false=true) then !inV (.str x.str) sumW else inV (.str x.str) sumW)=x.su:=inSumW x
  refine ite2 (fun z => ?_) (fun z => ?_)
  ·have xs:x.su=true:=e.symm.trans z
   have lm3:=lm2.same s3
   have tb3:Tabs Ts (upd H2 tt (.tup [.str "num", .str "plus", .str "minus", .str "times", .str "less", .str "same"])):=tb2.ext s3
   have s23:=s2.trans s3
   generalize upd H2 tt (.tup [.str "num", .str "plus", .str "minus", .str "times", .str "less", .str "same"])=H3 at s3 lm3 tb3 s23 ⊢
   refine fun p hp => ?_
   have hm3:a.m≠p:=ne_of_none lm3.hm hp
   have x0:ExtN H3 (upd H3 p (.dK [])):=ExtN.of (same_new hp _)
   have tp0:Tabs Ts (upd H3 p (.dK [])):=tb3.ext (same_new hp _)
   have hp0:upd H3 p (.dK []) p=some (.dK []):=upd_same
   generalize upd H3 p (.dK [])=G0 at x0 tp0 hp0 ⊢
   refine⟨tp0,fun f1 c1 G1 e1 n1 t1 z1 h1 k1 => ?_⟩
   refine⟨t1,fun d2 f2 c2 G2 y2 e2 n2 t2 z2 ne2 g2 h2' k2 => ?_⟩
   refine⟨t2,fun d3 f3 c3 G3 y3 e3 n3 t3 z3 ne3 g3 h3' k3 => ?_⟩
   have p3:G3 p=some (.dK []):=e3 _ _ (e2 _ _ (e1 _ _ hp0 (fun ps z=>nomatch z)) (fun ps z=>nomatch z)) (fun ps z=>nomatch z)
   have X3:ExtN H3 G3:=x0.trans (e1.trans (e2.trans e3))
   have L1:LmAt (XSm P w K mg base f c A outer s H E) sumL G3 0 f1:=LmAt.keep ((KeepD.of e2).trans (.of e3)) ⟨c1,.none,[],h1,k1,.none⟩
   have L2_:LmAt (XSm P w K mg base f c A outer s H E) sumL G3 1 f2:=LmAt.keep (.of e3) ⟨c2,.ref d2,[.int 0],h2',k2,.one g2⟩
   have L3:LmAt (XSm P w K mg base f c A outer s H E) sumL G3 2 f3:=⟨c3,.ref d3,[.int 0],h3',k3,.one g3⟩
   refine⟨p3,[(Sum.inr "num", .ref f1),(Sum.inr "plus", .ref f2),(Sum.inr "minus", .ref f3)],rfl,by show 3≤15; decide,?_⟩
   have X4:ExtN H3 (upd G3 p (.dK (mergeK [] [(Sum.inr "num", .ref f1),(Sum.inr "plus", .ref f2),(Sum.inr "minus", .ref f3)]))):=fun b o hb n=>by
    rw [upd_ne (ne_of_none hb hp)]
    exact X3 b o hb n
   have t4:Tabs Ts (upd G3 p (.dK (mergeK [] [(Sum.inr "num", .ref f1),(Sum.inr "plus", .ref f2),(Sum.inr "minus", .ref f3)]))):=tabs_dk t3 p3
   have p4:(upd G3 p (.dK (mergeK [] [(Sum.inr "num", .ref f1),(Sum.inr "plus", .ref f2),(Sum.inr "minus", .ref f3)]))) p=some (.dK [(Sum.inr "num", .ref f1),(Sum.inr "plus", .ref f2),(Sum.inr "minus", .ref f3)]):=by
    rw [upd_same]
    rfl
   have L1:=L1.keep (KeepD.put (u:=.dK (mergeK [] [(Sum.inr "num", .ref f1),(Sum.inr "plus", .ref f2),(Sum.inr "minus", .ref f3)])) p3)
   have L2_:=L2_.keep (KeepD.put (u:=.dK (mergeK [] [(Sum.inr "num", .ref f1),(Sum.inr "plus", .ref f2),(Sum.inr "minus", .ref f3)])) p3)
   have L3:=L3.keep (KeepD.put (u:=.dK (mergeK [] [(Sum.inr "num", .ref f1),(Sum.inr "plus", .ref f2),(Sum.inr "minus", .ref f3)])) p3)
   generalize upd G3 p (.dK (mergeK [] [(Sum.inr "num", .ref f1),(Sum.inr "plus", .ref f2),(Sum.inr "minus", .ref f3)]))=G4 at X4 t4 p4 L1 L2_ L3 ⊢
   clear e1 n1 t1 z1 h1 k1 y2 e2 n2 t2 z2 ne2 g2 h2' k2 y3 e3 n3 t3 z3 ne3 g3 h3' k3 x0 tp0 hp0
   dsimp only [gName]
   refine⟨_,rfl,.inr (.inr (.inl ⟨rfl,.inl ⟨_,p4⟩⟩)),fun p2 hp2 => ?_⟩
   have np2:p≠p2:=ne_of_none p4 hp2
   have x0:ExtN G4 (upd G4 p2 (.dK [])):=ExtN.of (same_new hp2 _)
   have tp0:Tabs Ts (upd G4 p2 (.dK [])):=t4.ext (same_new hp2 _)
   have hp0:upd G4 p2 (.dK []) p2=some (.dK []):=upd_same
   generalize upd G4 p2 (.dK [])=G5 at x0 tp0 hp0 ⊢
   refine⟨tp0,fun f4 c4 G6 e1 n1 t1 z1 h1 k1 => ?_⟩
   refine⟨t1,fun d5 f5 c5 G7 y2 e2 n2 t2 z2 ne2 g2 h2' k2 => ?_⟩
   have X7:ExtN G4 G7:=x0.trans (e1.trans e2)
   have p7:G7 p2=some (.dK []):=e2 _ _ (e1 _ _ hp0 (fun ps z=>nomatch z)) (fun ps z=>nomatch z)
   have p7':=X7 _ _ p4 (fun ps z=>nomatch z)
   have L4:LmAt (XSm P w K mg base f c A outer s H E) sumL G7 3 f4:=LmAt.keep (.of e2) ⟨c4,.none,[],h1,k1,.none⟩
   have L5:LmAt (XSm P w K mg base f c A outer s H E) sumL G7 4 f5:=⟨c5,.ref d5,[.int 0],h2',k2,.one g2⟩
   have L1:=L1.keep (KeepD.of X7)
   have L2_:=L2_.keep (KeepD.of X7)
   have L3:=L3.keep (KeepD.of X7)
   refine⟨p7,[(Sum.inr "times", .ref f4),(Sum.inr "less", .ref f5)],rfl,by show 2≤15; decide,?_⟩
   have p8:(upd G7 p2 (.dK (mergeK [] [(Sum.inr "times", .ref f4),(Sum.inr "less", .ref f5)]))) p2=some (.dK [(Sum.inr "times", .ref f4),(Sum.inr "less", .ref f5)]):=by
    rw [upd_same]
    rfl
   have p8':(upd G7 p2 (.dK (mergeK [] [(Sum.inr "times", .ref f4),(Sum.inr "less", .ref f5)]))) p=some (.dK [(Sum.inr "num", .ref f1),(Sum.inr "plus", .ref f2),(Sum.inr "minus", .ref f3)]):=by
    rw [upd_ne np2]
    exact p7'
   have X8:ExtN H3 (upd G7 p2 (.dK (mergeK [] [(Sum.inr "times", .ref f4),(Sum.inr "less", .ref f5)]))):=fun b o hb n=>by
    have h4:=X4 b o hb n
    rw [upd_ne (ne_of_none h4 hp2)]
    exact X7 b o h4 n
   have t8:Tabs Ts (upd G7 p2 (.dK (mergeK [] [(Sum.inr "times", .ref f4),(Sum.inr "less", .ref f5)]))):=tabs_dk t2 p7
   have K8:=KeepD.put (u:=.dK (mergeK [] [(Sum.inr "times", .ref f4),(Sum.inr "less", .ref f5)])) p7
   have L1:=L1.keep K8
   have L2_:=L2_.keep K8
   have L3:=L3.keep K8
   have L4:=L4.keep K8
   have L5:=L5.keep K8
   generalize upd G7 p2 (.dK (mergeK [] [(Sum.inr "times", .ref f4),(Sum.inr "less", .ref f5)]))=G8 at p8 p8' X8 t8 L1 L2_ L3 L4 L5 K8 ⊢
   clear e1 n1 t1 z1 h1 k1 y2 e2 n2 t2 z2 ne2 g2 h2' k2 x0 tp0 hp0 X7 p7 p7' K8 X4
   refine⟨p,p2,_,_,rfl,rfl,np2,p8',p8,by show 3+2≤sizeLine; decide,?_⟩
   have p9:(upd G8 p (.dK (mergeK [(Sum.inr "num", .ref f1),(Sum.inr "plus", .ref f2),(Sum.inr "minus", .ref f3)] [(Sum.inr "times", .ref f4),(Sum.inr "less", .ref f5)]))) p=some (.dK [(Sum.inr "num", .ref f1),(Sum.inr "plus", .ref f2),(Sum.inr "minus", .ref f3),(Sum.inr "times", .ref f4),(Sum.inr "less", .ref f5)]):=by
    rw [upd_same]
    rfl
   have X9:ExtN H3 (upd G8 p (.dK (mergeK [(Sum.inr "num", .ref f1),(Sum.inr "plus", .ref f2),(Sum.inr "minus", .ref f3)] [(Sum.inr "times", .ref f4),(Sum.inr "less", .ref f5)]))):=fun b o hb n=>by
    rw [upd_ne (ne_of_none hb hp)]
    exact X8 b o hb n
   have t9:Tabs Ts (upd G8 p (.dK (mergeK [(Sum.inr "num", .ref f1),(Sum.inr "plus", .ref f2),(Sum.inr "minus", .ref f3)] [(Sum.inr "times", .ref f4),(Sum.inr "less", .ref f5)]))):=tabs_dk t8 p8'
   have K9:=KeepD.put (u:=.dK (mergeK [(Sum.inr "num", .ref f1),(Sum.inr "plus", .ref f2),(Sum.inr "minus", .ref f3)] [(Sum.inr "times", .ref f4),(Sum.inr "less", .ref f5)])) p8'
   have L1:=L1.keep K9
   have L2_:=L2_.keep K9
   have L3:=L3.keep K9
   have L4:=L4.keep K9
   have L5:=L5.keep K9
   generalize upd G8 p (.dK (mergeK [(Sum.inr "num", .ref f1),(Sum.inr "plus", .ref f2),(Sum.inr "minus", .ref f3)] [(Sum.inr "times", .ref f4),(Sum.inr "less", .ref f5)]))=G9 at p9 X9 t9 L1 L2_ L3 L4 L5 K9 ⊢
   refine⟨t9,fun f6 c6 GA e1 n1 t1 z1 h1 k1 => ?_⟩
   have XA:ExtN H3 GA:=X9.trans e1
   have pA:=e1 _ _ p9 (fun ps z=>nomatch z)
   have KA:=KeepD.of e1
   have L1:=L1.keep KA
   have L2_:=L2_.keep KA
   have L3:=L3.keep KA
   have L4:=L4.keep KA
   have L5:=L5.keep KA
   have L6:LmAt (XSm P w K mg base f c A outer s H E) sumL GA 5 f6:=⟨c6,.none,[],h1,k1,.none⟩
   refine⟨_,rfl,p,_,rfl,.inl ⟨_,Sum.inr "same", pA,rfl,by show 5 < sizeLine; decide,rfl⟩,?_⟩
   have pB:(upd GA p (.dK (putK [(Sum.inr "num", .ref f1),(Sum.inr "plus", .ref f2),(Sum.inr "minus", .ref f3),(Sum.inr "times", .ref f4),(Sum.inr "less", .ref f5)] (Sum.inr "same") (.ref f6)))) p=some (.dK [(Sum.inr "num", .ref f1),(Sum.inr "plus", .ref f2),(Sum.inr "minus", .ref f3),(Sum.inr "times", .ref f4),(Sum.inr "less", .ref f5),(Sum.inr "same", .ref f6)]):=by
    rw [upd_same]
    rfl
   have XB:ExtN H3 (upd GA p (.dK (putK [(Sum.inr "num", .ref f1),(Sum.inr "plus", .ref f2),(Sum.inr "minus", .ref f3),(Sum.inr "times", .ref f4),(Sum.inr "less", .ref f5)] (Sum.inr "same") (.ref f6)))):=fun b o hb n=>by
    rw [upd_ne (ne_of_none hb hp)]
    exact XA b o hb n
   have tB:=tabs_dk (l':=putK [(Sum.inr "num", .ref f1),(Sum.inr "plus", .ref f2),(Sum.inr "minus", .ref f3),(Sum.inr "times", .ref f4),(Sum.inr "less", .ref f5)] (Sum.inr "same") (.ref f6)) t1 pA
   have KB:=KeepD.put (u:=.dK (putK [(Sum.inr "num", .ref f1),(Sum.inr "plus", .ref f2),(Sum.inr "minus", .ref f3),(Sum.inr "times", .ref f4),(Sum.inr "less", .ref f5)] (Sum.inr "same") (.ref f6))) pA
   have L1:=L1.keep KB
   have L2_:=L2_.keep KB
   have L3:=L3.keep KB
   have L4:=L4.keep KB
   have L5:=L5.keep KB
   have L6:=L6.keep KB
   generalize upd GA p (.dK (putK [(Sum.inr "num", .ref f1),(Sum.inr "plus", .ref f2),(Sum.inr "minus", .ref f3),(Sum.inr "times", .ref f4),(Sum.inr "less", .ref f5)] (Sum.inr "same") (.ref f6)))=GB at pB XB tB L1 L2_ L3 L4 L5 L6 ⊢
   clear p4 t4 p8 p8' X8 t8 p9 X9 t9 K9 e1 n1 t1 z1 h1 k1 XA pA KA KB
   have fin:∀ (r:Int) (y:V),y=.int r→o=.ok (.num (r % 10007))→i=0→∃ (g1 g2:Int),y=.int g1∧V.int 10007=.int g2∧0 < g2∧(2≤sizeLine∧∀ t9,GB t9=none→Q (.ref t9) (upd GB t9 (.tup [.int (g1 % g2),.non]))):=fun r y ey eo ei=>by
    subst ey eo ei
    refine⟨_,_,rfl,rfl,by decide,by decide,fun t9 ht9 => ?_⟩
    have XC:ExtN H (upd GB t9 (.tup [.int (r % 10007),.non])):=(ExtN.of s23).trans (XB.trans (.of (same_new ht9 _)))
    refine q _ t9 _ _ (.ext XC) (tB.ext (same_new ht9 _)) ?_ upd_same ⟨rfl,.num⟩
    rw [Int.add_zero]
    exact lm.ext XC
   cases sm with
   | num n0 n1 =>
    rcases fl with⟨_,rfl,rfl⟩ | ⟨u,hu',_⟩ | ⟨u,v,hu',_⟩
    ·obtain⟨c',dV,vs,g1,g2,g3⟩:=L1
     refine⟨_,rfl,_,rfl,p,.ref f1,rfl,.inl ⟨_,Sum.inr "num", .inl pB,rfl,rfl⟩,0,f1,c',dV,vs,rfl,g1,g2,g3,?_⟩
     cases g3
     refine⟨_,rfl,?_⟩
     exact fin n _ rfl (by rw [Int.emod_eq_of_lt n0 (by omega)]) rfl
    ·rw [hu'] at lus; cases lus
    ·rw [hu'] at lus; cases lus
   | plus =>
    rename_i xa xb
    obtain⟨ua,ub,rfl,wa,wb⟩:=wins_two hw
    cases wa
    cases wb
    rcases fl with⟨h9,_⟩ | ⟨u,h9,_⟩ | ⟨u,v,h9,h10,h11⟩
    ·cases h9
    ·cases h9
    ·cases h9
     subst h10 h11
     obtain⟨c',dV,vs,g1,g2,g3⟩:=L2_
     refine⟨_,rfl,_,rfl,p,.ref f2,rfl,.inl ⟨_,Sum.inr "plus", .inl pB,rfl,rfl⟩,1,f2,c',dV,vs,rfl,g1,g2,g3,?_⟩
     cases g3
     refine⟨_,rfl,_,rfl,_,_,rfl,rfl,?_⟩
     exact fin _ _ rfl rfl rfl
   | minus =>
    rename_i xa xb
    obtain⟨ua,ub,rfl,wa,wb⟩:=wins_two hw
    cases wa
    cases wb
    rcases fl with⟨h9,_⟩ | ⟨u,h9,_⟩ | ⟨u,v,h9,h10,h11⟩
    ·cases h9
    ·cases h9
    ·cases h9
     subst h10 h11
     obtain⟨c',dV,vs,g1,g2,g3⟩:=L3
     refine⟨_,rfl,_,rfl,p,.ref f3,rfl,.inl ⟨_,Sum.inr "minus", .inl pB,rfl,rfl⟩,2,f3,c',dV,vs,rfl,g1,g2,g3,?_⟩
     cases g3
     refine⟨_,rfl,_,rfl,_,_,rfl,rfl,?_⟩
     exact fin _ _ rfl rfl rfl
   | times a0 a1 =>
    rename_i xa xb
    obtain⟨ua,ub,rfl,wa,wb⟩:=wins_two hw
    cases wa
    cases wb
    rcases fl with⟨h9,_⟩ | ⟨u,h9,_⟩ | ⟨u,v,h9,h10,h11⟩
    ·cases h9
    ·cases h9
    ·cases h9
     subst h10 h11
     obtain⟨c',dV,vs,g1,g2,g3⟩:=L4
     refine⟨_,rfl,_,rfl,p,.ref f4,rfl,.inl ⟨_,Sum.inr "times", .inl pB,rfl,rfl⟩,3,f4,c',dV,vs,rfl,g1,g2,g3,?_⟩
     cases g3
     refine⟨_,rfl,_,rfl,_,_,rfl,rfl,.inl ⟨by omega,by omega⟩,?_⟩
     exact fin _ _ rfl rfl rfl
   | less =>
    rename_i xa xb
    obtain⟨ua,ub,rfl,wa,wb⟩:=wins_two hw
    cases wa
    cases wb
    rcases fl with⟨h9,_⟩ | ⟨u,h9,_⟩ | ⟨u,v,h9,h10,h11⟩
    ·cases h9
    ·cases h9
    ·cases h9
     subst h10 h11
     obtain⟨c',dV,vs,g1,g2,g3⟩:=L5
     refine⟨_,rfl,_,rfl,p,.ref f5,rfl,.inl ⟨_,Sum.inr "less", .inl pB,rfl,rfl⟩,4,f5,c',dV,vs,rfl,g1,g2,g3,?_⟩
     cases g3
     refine⟨_,rfl,_,rfl,_,_,rfl,rfl,.inr ⟨_,rfl,?_⟩⟩
     have ev:(if decide (xa < xb)=true then (1:Int) else 0) % 10007=if xa < xb then 1 else 0:=by
      by_cases c:xa < xb
      ·simp [c]
      ·simp [c]
     exact fin _ _ rfl (by rw [ev]) rfl
   | same =>
    rename_i xa xb
    obtain⟨ua,ub,rfl,wa,wb⟩:=wins_two hw
    cases wa
    cases wb
    rcases fl with⟨h9,_⟩ | ⟨u,h9,_⟩ | ⟨u,v,h9,h10,h11⟩
    ·cases h9
    ·cases h9
    ·cases h9
     subst h10 h11
     obtain⟨c',dV,vs,g1,g2,g3⟩:=L6
     refine⟨_,rfl,_,rfl,p,.ref f6,rfl,.inl ⟨_,Sum.inr "same", .inl pB,rfl,rfl⟩,5,f6,c',dV,vs,rfl,g1,g2,g3,?_⟩
     cases g3
     refine⟨_,rfl,_,rfl,rfl,.inr ⟨_,rfl,?_⟩⟩
     have ev:(if decide (V.int xa=V.int xb)=true then (1:Int) else 0) % 10007=if xa=xb then 1 else 0:=by
      by_cases c:xa=xb
      ·simp [c]
      ·simp [c]
     exact fin _ _ rfl (by rw [ev]) rfl
   | _=>exact absurd xs (by decide)
  ·exact nx _ _ ⟨Bool.eq_false_iff.mpr fun y=>z (e.trans y),rfl,s2.trans s3⟩
 case rest =>
 rintro σ3 H3 ⟨su,rfl,s3⟩
 refine if_restS (fun σ' H'=>x≠.len∧σ'=[some (.ref a.m),some (.ref t2),some (.ref ta),some (.ref sl),some (.str x.str),none,none,none,some fv,some lv,none]∧Same H H') ?rest fun nx => ?now
 case now =>
  refine⟨_,rfl,rfl,_,rfl,?_⟩
  rw [isLen]
  refine ite2 (fun z => ?_) (fun z=>nx _ _ ⟨fun y=>z (decide_eq_true y),rfl,s3⟩)
  have hx:=of_decide_eq_true z
  subst hx
  cases sm with
  | len h40 =>
   obtain⟨u,rfl,wu⟩:=wins_one hw
   cases wu with
   | row hr1 hr2 =>
    rename_i ra rvs
    have lr:=hr2.wlen
    rcases fl with⟨h9,_⟩ | ⟨u,h9,h10,h11⟩ | ⟨u,v,h9,_⟩
    ·cases h9
    ·cases h9
     subst h10 h11
     refine⟨_,rfl,ra,_,rfl,.inr (SqT.of (s3 _ _ hr1)),by show 2≤sizeLine; decide,fun t9 ht9 => ?_⟩
     have X9:Same H (upd H3 t9 (.tup [.int (rvs.length:Nat),.non])):=s3.trans (same_new ht9 _)
     refine q _ t9 _ _ (.same X9) (tabs.ext X9) ?_ upd_same ⟨rfl,by rw [lr]; exact .num⟩
     rw [Int.add_zero]
     exact lm.same X9
    ·cases h9
 case rest =>
 rintro σ4 H4 ⟨xl,rfl,s4⟩
 refine if_restS (fun σ' H'=>x≠.pick∧σ'=[some (.ref a.m),some (.ref t2),some (.ref ta),some (.ref sl),some (.str x.str),none,none,none,some fv,some lv,none]∧Same H H') ?rest fun nx => ?now
 case now =>
  refine⟨_,rfl,rfl,_,rfl,?_⟩
  rw [isPk]
  refine ite2 (fun z => ?_) (fun z=>nx _ _ ⟨fun y=>z (decide_eq_true y),rfl,s4⟩)
  have hx:=of_decide_eq_true z
  subst hx
  have s2':=s4
  cases sm with
  | pick h40 hk =>
   rename_i uw k wk
   obtain⟨u1,u2,rfl,wa,wb⟩:=wins_two hw
   cases wb
   cases wa with
   | row hr1 hr2 =>
    rename_i ra rvs
    obtain⟨vk,hvk,wvk⟩:=wins_at hr2 hk
    have hl:=(List.getElem?_eq_some_iff.mp hvk).1
    rcases fl with⟨h9,_⟩ | ⟨u,h9,_⟩ | ⟨u,v,h9,h10,h11⟩
    ·cases h9
    ·cases h9
    ·cases h9
     subst h10 h11
     refine⟨_,rfl,_,rfl,ra,_,rfl,.inr (SqT.of (s4 _ _ hr1)),_,_,rfl,rfl,_,rfl,?_⟩
     refine ite2 (fun _ => ?_) (fun z=>absurd (decide_eq_true (by omega)) z)
     refine⟨_,rfl,_,rfl,ra,_,_,_,rfl,rfl,SqT.of (s4 _ _ hr1),atI_nat hvk,by show 2≤sizeLine; decide,fun t9 ht9 => ?_⟩
     have X9:Same H (upd H4 t9 (.tup [vk,.non])):=s4.trans (same_new ht9 _)
     refine q _ t9 _ _ (.same X9) (tabs.ext X9) ?_ upd_same ⟨rfl,wvk.mono (TK.of X9)⟩
     rw [Int.add_zero]
     exact lm.same X9
  | pickE hk =>
   rename_i uw k
   obtain⟨u1,u2,rfl,wa,wb⟩:=wins_two hw
   cases wb
   cases wa with
   | row hr1 hr2 =>
    rename_i ra rvs
    have lr:=hr2.wlen
    rcases fl with⟨h9,_⟩ | ⟨u,h9,_⟩ | ⟨u,v,h9,h10,h11⟩
    ·cases h9
    ·cases h9
    ·cases h9
     subst h10 h11
     refine⟨_,rfl,_,rfl,ra,_,rfl,.inr (SqT.of (s4 _ _ hr1)),_,_,rfl,rfl,_,rfl,?_⟩
     refine ite2 (fun z=>absurd (of_decide_eq_true z) (by omega)) (fun _ => ?_)
     refine⟨by show 1≤sizeLine; decide,fun t8 ht8 => ?_⟩
     have X8:=s4.trans (same_new ht8 (.tup [.str "beyond"]))
     have e8:upd H4 t8 (.tup [.str "beyond"]) t8=some (.tup [.str "beyond"]):=upd_same
     generalize upd H4 t8 (.tup [.str "beyond"])=H8 at X8 e8 ⊢
     refine⟨_,rfl,t8,t2,_,_,rfl,rfl,SqT.of e8,SqT.of (X8 _ _ h2),?_⟩
     refine⟨(by simp),by show 3≤sizeLine; decide,(fun z=>nomatch z),fun _ p hp => ?_⟩
     have X9:=X8.trans (same_new hp (.tup ([.str "beyond"]++[.int (fn:Int),.int (place:Int)])))
     have e9:upd H8 p (.tup ([.str "beyond"]++[.int (fn:Int),.int (place:Int)])) p=some (.tup [.str "beyond", .int (fn:Int),.int (place:Int)]):=upd_same
     generalize upd H8 p (.tup ([.str "beyond"]++[.int (fn:Int),.int (place:Int)]))=H9 at X9 e9 ⊢
     refine⟨by show 2≤sizeLine; decide,fun t9 ht9 => ?_⟩
     have XA:Same H (upd H9 t9 (.tup [.non,.ref p])):=X9.trans (same_new ht9 _)
     refine q _ t9 _ _ (.same XA) (tabs.ext XA) ?_ upd_same ⟨rfl,p,rfl,same_new ht9 _ _ _ e9⟩
     rw [Int.add_zero]
     exact lm.same XA
 case rest =>
 rintro σ5 H5 ⟨xp,rfl,s5⟩
 refine if_restS (fun σ' H'=>x≠.sum∧σ'=[some (.ref a.m),some (.ref t2),some (.ref ta),some (.ref sl),some (.str x.str),none,none,none,some fv,some lv,none]∧Same H H') ?rest fun nx => ?now
 case now =>
  refine⟨_,rfl,rfl,_,rfl,?_⟩
  rw [isSm]
  refine ite2 (fun z => ?_) (fun z=>nx _ _ ⟨fun y=>z (decide_eq_true y),rfl,s5⟩)
  have hx:=of_decide_eq_true z
  subst hx
  cases sm with
  | sum h40 =>
   rename_i ns
   obtain⟨u,rfl,wu⟩:=wins_one hw
   cases wu with
   | row hr1 hr2 =>
    rename_i ra rvs
    have lr:=hr2.wlen
    rcases fl with⟨h9,_⟩ | ⟨u,h9,h10,h11⟩ | ⟨u,v,h9,_⟩
    ·cases h9
    ·cases h9
     subst h10 h11
     have el:ra≠a.m∧ra≠a.dl∧ra≠a.md:=lm.ne_tup hr1
     have ei:=ints_of hr2
     subst ei
     obtain⟨w1,w2,w3,w4,w5⟩:=lm_work (Ts:=Ts) lm (.of s5) (tabs.ext s5) (S.work+(ns.length:Int))
     refine⟨_,rfl,a.m,_,rfl,w1,_,rfl,ra,_,rfl,.inr (SqT.of (s5 _ _ hr1)),_,_,rfl,rfl,?_⟩
     rw [List.length_map]
     refine⟨_,rfl,a.m,_,rfl,w2,?_⟩
     have r6:=w4 ra (.tup (ns.map V.int)) el.1 el.2.1 el.2.2 (fun ps z=>nomatch z) hr1
     generalize upd H5 a.m (.dK (mKv a S.fuel (S.work+(ns.length:Int))))=H6 at w3 w4 w5 r6 ⊢
     refine⟨_,rfl,ra,ns,rfl,.inr (SqT.of r6),_,_,rfl,rfl,(by show (0:Int) < 10007; decide),by show 2≤sizeLine; decide,fun t9 ht9 => ?_⟩
     have X9:=same_new ht9 (.tup [.int (ns.sum % 10007),.non])
     exact q _ t9 _ _ (w4.trans (.same X9)) (w5.ext X9) (w3.same X9) upd_same ⟨rfl,.num⟩
    ·cases h9
 case rest =>
 rintro σ6 H6 ⟨xsm,rfl,s6⟩
 have e6:=ExtN.of s6
 have t6:Tabs Ts H6:=tabs.ext s6
 have xp':=xp
 have xl':=xl
 have su':=su
 clear s1 hfv s2 tk2 lm2 tb2 s3 su xl s4 xp s5
 refine fun p hp => ?_
 have x0:ExtN H (upd H6 p (.dK [])):=e6.trans (ExtN.of (same_new hp _))
 have tp0:Tabs Ts (upd H6 p (.dK [])):=t6.ext (same_new hp _)
 have hp0:upd H6 p (.dK []) p=some (.dK []):=upd_same
 have hnp:∀ b o,H b=some o→b≠p:=fun b o hb z=>by
  have:=s6 b o hb
  rw [z,hp] at this
  cases this
 generalize upd H6 p (.dK [])=G0 at x0 tp0 hp0 ⊢
 refine⟨tp0,fun f1 c1 G1 e1 n1 t1 z1 h1 k1 => ?_⟩
 refine⟨t1,fun d2 f2 c2 G2 y2 e2 n2 t2' z2 ne2 g2 h2' k2 => ?_⟩
 have p2:G2 p=some (.dK []):=e2 _ _ (e1 _ _ hp0 (fun ps z=>nomatch z)) (fun ps z=>nomatch z)
 have X2:ExtN H G2:=x0.trans (e1.trans e2)
 have L1:LmAt (XSm P w K mg base f c A outer s H E) makL G2 0 f1:=LmAt.keep (.of e2) ⟨c1,.none,[],h1,k1,.none⟩
 have L2_:LmAt (XSm P w K mg base f c A outer s H E) makL G2 1 f2:=⟨c2,.ref d2,[.int 0],h2',k2,.one g2⟩
 refine⟨p2,[(Sum.inr "one", .ref f1),(Sum.inr "put", .ref f2)],rfl,by show 2≤15; decide,?_⟩
 have X4:ExtN H (upd G2 p (.dK (mergeK [] [(Sum.inr "one", .ref f1),(Sum.inr "put", .ref f2)]))):=fun b o hb n=>by
  rw [upd_ne (hnp b o hb)]
  exact X2 b o hb n
 have t4:Tabs Ts (upd G2 p (.dK (mergeK [] [(Sum.inr "one", .ref f1),(Sum.inr "put", .ref f2)]))):=tabs_dk t2' p2
 have p4:(upd G2 p (.dK (mergeK [] [(Sum.inr "one", .ref f1),(Sum.inr "put", .ref f2)]))) p=some (.dK [(Sum.inr "one", .ref f1),(Sum.inr "put", .ref f2)]):=by
  rw [upd_same]
  rfl
 have L1:=L1.keep (KeepD.put (u:=.dK (mergeK [] [(Sum.inr "one", .ref f1),(Sum.inr "put", .ref f2)])) p2)
 have L2_:=L2_.keep (KeepD.put (u:=.dK (mergeK [] [(Sum.inr "one", .ref f1),(Sum.inr "put", .ref f2)])) p2)
 generalize upd G2 p (.dK (mergeK [] [(Sum.inr "one", .ref f1),(Sum.inr "put", .ref f2)]))=G4 at X4 t4 p4 L1 L2_ ⊢
 clear e1 n1 t1 z1 h1 k1 y2 e2 n2 t2' z2 ne2 g2 h2' k2 x0 tp0 hp0 X2 p2
 dsimp only [gName]
 refine⟨_,rfl,.inr (.inr (.inl ⟨rfl,.inl ⟨_,p4⟩⟩)),fun p2 hp2 => ?_⟩
 have np2:p≠p2:=ne_of_none p4 hp2
 have x0:ExtN G4 (upd G4 p2 (.dK [])):=ExtN.of (same_new hp2 _)
 have tp0:Tabs Ts (upd G4 p2 (.dK [])):=t4.ext (same_new hp2 _)
 have hp0:upd G4 p2 (.dK []) p2=some (.dK []):=upd_same
 generalize upd G4 p2 (.dK [])=G5 at x0 tp0 hp0 ⊢
 refine⟨tp0,fun f3 c3 G6 e1 n1 t1 z1 h1 k1 => ?_⟩
 refine⟨t1,fun d4 f4 c4 G7 y2 e2 n2 t2' z2 ne2 g2 h2' k2 => ?_⟩
 have X7:ExtN G4 G7:=x0.trans (e1.trans e2)
 have p7:G7 p2=some (.dK []):=e2 _ _ (e1 _ _ hp0 (fun ps z=>nomatch z)) (fun ps z=>nomatch z)
 have p7':=X7 _ _ p4 (fun ps z=>nomatch z)
 have L3:LmAt (XSm P w K mg base f c A outer s H E) makL G7 2 f3:=LmAt.keep (.of e2) ⟨c3,.none,[],h1,k1,.none⟩
 have L4:LmAt (XSm P w K mg base f c A outer s H E) makL G7 3 f4:=⟨c4,.ref d4,[.int 0],h2',k2,.one g2⟩
 have L1:=L1.keep (KeepD.of X7)
 have L2_:=L2_.keep (KeepD.of X7)
 refine⟨p7,[(Sum.inr "upto", .ref f3),(Sum.inr "sums", .ref f4)],rfl,by show 2≤15; decide,?_⟩
 have p8:(upd G7 p2 (.dK (mergeK [] [(Sum.inr "upto", .ref f3),(Sum.inr "sums", .ref f4)]))) p2=some (.dK [(Sum.inr "upto", .ref f3),(Sum.inr "sums", .ref f4)]):=by
  rw [upd_same]
  rfl
 have p8':(upd G7 p2 (.dK (mergeK [] [(Sum.inr "upto", .ref f3),(Sum.inr "sums", .ref f4)]))) p=some (.dK [(Sum.inr "one", .ref f1),(Sum.inr "put", .ref f2)]):=by
  rw [upd_ne np2]
  exact p7'
 have X8:ExtN H (upd G7 p2 (.dK (mergeK [] [(Sum.inr "upto", .ref f3),(Sum.inr "sums", .ref f4)]))):=fun b o hb n=>by
  have h4:=X4 b o hb n
  rw [upd_ne (ne_of_none h4 hp2)]
  exact X7 b o h4 n
 have t8:Tabs Ts (upd G7 p2 (.dK (mergeK [] [(Sum.inr "upto", .ref f3),(Sum.inr "sums", .ref f4)]))):=tabs_dk t2' p7
 have K8:=KeepD.put (u:=.dK (mergeK [] [(Sum.inr "upto", .ref f3),(Sum.inr "sums", .ref f4)])) p7
 have L1:=L1.keep K8
 have L2_:=L2_.keep K8
 have L3:=L3.keep K8
 have L4:=L4.keep K8
 generalize upd G7 p2 (.dK (mergeK [] [(Sum.inr "upto", .ref f3),(Sum.inr "sums", .ref f4)]))=G8 at p8 p8' X8 t8 L1 L2_ L3 L4 K8 ⊢
 clear e1 n1 t1 z1 h1 k1 y2 e2 n2 t2' z2 ne2 g2 h2' k2 x0 tp0 hp0 X7 p7 p7' K8 X4 t4 p4
 refine⟨p,p2,_,_,rfl,rfl,np2,p8',p8,by show 2+2≤sizeLine; decide,?_⟩
 have p9:(upd G8 p (.dK (mergeK [(Sum.inr "one", .ref f1),(Sum.inr "put", .ref f2)] [(Sum.inr "upto", .ref f3),(Sum.inr "sums", .ref f4)]))) p=some (.dK [(Sum.inr "one", .ref f1),(Sum.inr "put", .ref f2),(Sum.inr "upto", .ref f3),(Sum.inr "sums", .ref f4)]):=by
  rw [upd_same]
  rfl
 have X9:ExtN H (upd G8 p (.dK (mergeK [(Sum.inr "one", .ref f1),(Sum.inr "put", .ref f2)] [(Sum.inr "upto", .ref f3),(Sum.inr "sums", .ref f4)]))):=fun b o hb n=>by
  rw [upd_ne (hnp b o hb)]
  exact X8 b o hb n
 have t9:Tabs Ts (upd G8 p (.dK (mergeK [(Sum.inr "one", .ref f1),(Sum.inr "put", .ref f2)] [(Sum.inr "upto", .ref f3),(Sum.inr "sums", .ref f4)]))):=tabs_dk t8 p8'
 have K9:=KeepD.put (u:=.dK (mergeK [(Sum.inr "one", .ref f1),(Sum.inr "put", .ref f2)] [(Sum.inr "upto", .ref f3),(Sum.inr "sums", .ref f4)])) p8'
 have L1:=L1.keep K9
 have L2_:=L2_.keep K9
 have L3:=L3.keep K9
 have L4:=L4.keep K9
 generalize upd G8 p (.dK (mergeK [(Sum.inr "one", .ref f1),(Sum.inr "put", .ref f2)] [(Sum.inr "upto", .ref f3),(Sum.inr "sums", .ref f4)]))=G9 at p9 X9 t9 L1 L2_ L3 L4 K9 ⊢
 clear K9 p8 p8' X8 t8 np2
 dsimp only
 refine seq_restS (fun σ' H'=>∃ (fo:Addr) (fvs:List V),σ'=[some (.ref a.m),some (.ref t2),some (.ref ta),some (.ref sl),some (.str x.str),none,some (.ref p),some (.ref fo),some fv,some lv,none]∧ExtN H H'∧Tabs Ts H'∧H' fo=some (.lst fvs)∧Fnd H H' x o i fv fvs) ?rest fun nx => ?now
 case now =>
  refine⟨_,rfl,rfl,_,rfl,?_⟩
  rw [isFl]
  refine ite2 (fun z => ?_) (fun z => ?_)
  ·have hx:=of_decide_eq_true z
   subst hx
   cases sm with
   | flat h1 h2 =>
    rename_i rs
    obtain⟨u,rfl,wu⟩:=wins_one hw
    cases wu with
    | row hr1 hr2 =>
     rename_i ra rvs
     rcases fl with⟨h9,_⟩ | ⟨u,h9,h10,h11⟩ | ⟨u,v,h9,_⟩
     ·cases h9
     ·cases h9
      subst h10
      refine⟨_,rfl,ra,rvs,rs,rfl,X9 _ _ hr1 (fun ps z=>nomatch z),(hr2.mono (tkE X9)).flat,h1,(fun r hr=>Nat.le_trans (flat_leM hr) h2),fun H' l zs s hn hl hz=>nx _ _ ⟨l,zs,rfl,X9.trans (.of s),t9.ext s,hl,.inr ⟨?_,?_,.inr ⟨(fun z=>nomatch z),_,rfl,hz⟩⟩⟩⟩
      ·rw [hz.wlen]; exact h2
      ·rw [hz.wlen]
     ·cases h9
   | flatE h1 h2 h3 =>
    rename_i rs
    obtain⟨u,rfl,wu⟩:=wins_one hw
    cases wu with
    | row hr1 hr2 =>
     rename_i ra rvs
     rcases fl with⟨h9,_⟩ | ⟨u,h9,h10,h11⟩ | ⟨u,v,h9,_⟩
     ·cases h9
     ·cases h9
      subst h10
      refine⟨_,rfl,ra,rvs,rs,rfl,X9 _ _ hr1 (fun ps z=>nomatch z),(hr2.mono (tkE X9)).flat,h1,h2,fun H' l zs s hn hl hz=>nx _ _ ⟨l,zs,rfl,X9.trans (.of s),t9.ext s,hl,.inl ⟨rfl,rfl,?_⟩⟩⟩
      rw [hz.wlen]
      exact h3
     ·cases h9
  ·have nfl:x≠.flat:=fun y=>z (decide_eq_true y)
   cases sm with
   | one =>
    rename_i w1
    obtain⟨u,rfl,wu⟩:=wins_one hw
    rcases fl with⟨h9,_⟩ | ⟨u,h9,h10,h11⟩ | ⟨u,v,h9,_⟩
    ·cases h9
    ·cases h9
     subst h10 h11
     obtain⟨c',dV,vs,g1,g2,g3⟩:=L1
     refine⟨_,rfl,_,rfl,p,.ref f1,rfl,.inl ⟨_,Sum.inr "one", .inl p9,rfl,rfl⟩,0,f1,c',dV,vs,rfl,g1,g2,g3,?_⟩
     cases g3
     refine⟨_,rfl,by show 1≤sizeLine; decide,fun l hl => ?_⟩
     have XA:=X9.trans (.of (same_new hl (.lst [lv])))
     exact nx _ _ ⟨l,[lv],rfl,XA,t9.ext (same_new hl _),upd_same,.inr ⟨by show 1≤40; decide,rfl,.inr ⟨(fun z=>nomatch z),_,rfl,.cons (wu.mono (tkE XA)) .nil⟩⟩⟩
    ·cases h9
   | upto hk =>
    rename_i k
    obtain⟨u,rfl,wu⟩:=wins_one hw
    cases wu
    rcases fl with⟨h9,_⟩ | ⟨u,h9,h10,h11⟩ | ⟨u,v,h9,_⟩
    ·cases h9
    ·cases h9
     subst h10 h11
     obtain⟨c',dV,vs,g1,g2,g3⟩:=L3
     refine⟨_,rfl,_,rfl,p,.ref f3,rfl,.inl ⟨_,Sum.inr "upto", .inl p9,rfl,rfl⟩,2,f3,c',dV,vs,rfl,g1,g2,g3,?_⟩
     cases g3
     refine⟨_,rfl,_,_,rfl,_,rfl,?_⟩
     rw [if_neg (by omega)]
     refine⟨RgOk.of_le (by omega) (by omega) (by omega) (by omega),fun l hl => ?_⟩
     have XA:=X9.trans (.of (same_new hl (.lst (rgV 0 (k:Int)))))
     refine nx _ _ ⟨l,_,rfl,XA,t9.ext (same_new hl _),upd_same,.inr ⟨?_,?_,.inr ⟨(fun z=>nomatch z),_,rfl,?_⟩⟩⟩
     ·rw [rgV_length]; omega
     ·rw [rgV_length]; omega
     ·rw [rgV_nat]
      exact wins_intsM _ _
    ·cases h9
   | uptoE hk hk2 =>
    rename_i k
    obtain⟨u,rfl,wu⟩:=wins_one hw
    cases wu
    rcases fl with⟨h9,_⟩ | ⟨u,h9,h10,h11⟩ | ⟨u,v,h9,_⟩
    ·cases h9
    ·cases h9
     subst h10 h11
     obtain⟨c',dV,vs,g1,g2,g3⟩:=L3
     refine⟨_,rfl,_,rfl,p,.ref f3,rfl,.inl ⟨_,Sum.inr "upto", .inl p9,rfl,rfl⟩,2,f3,c',dV,vs,rfl,g1,g2,g3,?_⟩
     cases g3
     refine⟨_,rfl,_,_,rfl,_,rfl,?_⟩
     refine⟨RgOk.of_le (by omega) (by split <;> omega) (by omega) (by split <;> omega),fun l hl => ?_⟩
     refine nx _ _ ⟨l,_,rfl,X9.trans (.of (same_new hl _)),t9.ext (same_new hl _),upd_same,.inl ⟨rfl,rfl,?_⟩⟩
     rw [rgV_length]
     split <;> omega
    ·cases h9
   | put h40 =>
    rename_i ws1 ws2
    obtain⟨ua,ub,rfl,wa,wb⟩:=wins_two hw
    cases wa with
    | row ha1 ha2 =>
    rename_i ra rvs
    cases wb with
    | row hb1 hb2 =>
    rename_i rb rvt
    rcases fl with⟨h9,_⟩ | ⟨u,h9,_⟩ | ⟨u,v,h9,h10,h11⟩
    ·cases h9
    ·cases h9
    ·cases h9
     subst h10 h11
     obtain⟨c',dV,vs,g1,g2,g3⟩:=L2_
     refine⟨_,rfl,_,rfl,p,.ref f2,rfl,.inl ⟨_,Sum.inr "put", .inl p9,rfl,rfl⟩,1,f2,c',dV,vs,rfl,g1,g2,g3,?_⟩
     cases g3
     have la:=ha2.wlen
     have lb:=hb2.wlen
     refine⟨_,rfl,ra,_,rfl,.inr (SqT.of (X9 _ _ ha1 (fun ps z=>nomatch z))),fun l1 hl1 => ?_⟩
     have y1:=same_new hl1 (.lst rvs)
     have q1:upd G9 l1 (.lst rvs) l1=some (.lst rvs):=upd_same
     generalize upd G9 l1 (.lst rvs)=GA at y1 q1 ⊢
     refine⟨_,rfl,rb,_,rfl,.inr (SqT.of (y1 _ _ (X9 _ _ hb1 (fun ps z=>nomatch z)))),fun l2 hl2 => ?_⟩
     have y2:=same_new hl2 (.lst rvt)
     have q2:upd GA l2 (.lst rvt) l2=some (.lst rvt):=upd_same
     have q1':=y2 _ _ q1
     generalize upd GA l2 (.lst rvt)=GB at y2 q2 q1' ⊢
     refine⟨l1,l2,_,_,rfl,rfl,q1',q2,le2 (by omega),fun l3 hl3 => ?_⟩
     have y3:=(y1.trans y2).trans (same_new hl3 (.lst (rvs++rvt)))
     have XA:=X9.trans (.of y3)
     refine nx _ _ ⟨l3,_,rfl,XA,t9.ext y3,upd_same,.inr ⟨?_,?_,.inr ⟨(fun z=>nomatch z),_,rfl,WIns.app (ha2.mono (tkE XA)) (hb2.mono (tkE XA))⟩⟩⟩
     ·rw [List.length_append]; omega
     ·rw [List.length_append,List.length_append]; omega
   | putE h1 h2 h3 =>
    rename_i ws1 ws2
    obtain⟨ua,ub,rfl,wa,wb⟩:=wins_two hw
    cases wa with
    | row ha1 ha2 =>
    rename_i ra rvs
    cases wb with
    | row hb1 hb2 =>
    rename_i rb rvt
    rcases fl with⟨h9,_⟩ | ⟨u,h9,_⟩ | ⟨u,v,h9,h10,h11⟩
    ·cases h9
    ·cases h9
    ·cases h9
     subst h10 h11
     obtain⟨c',dV,vs,g1,g2,g3⟩:=L2_
     refine⟨_,rfl,_,rfl,p,.ref f2,rfl,.inl ⟨_,Sum.inr "put", .inl p9,rfl,rfl⟩,1,f2,c',dV,vs,rfl,g1,g2,g3,?_⟩
     cases g3
     have la:=ha2.wlen
     have lb:=hb2.wlen
     refine⟨_,rfl,ra,_,rfl,.inr (SqT.of (X9 _ _ ha1 (fun ps z=>nomatch z))),fun l1 hl1 => ?_⟩
     have y1:=same_new hl1 (.lst rvs)
     have q1:upd G9 l1 (.lst rvs) l1=some (.lst rvs):=upd_same
     generalize upd G9 l1 (.lst rvs)=GA at y1 q1 ⊢
     refine⟨_,rfl,rb,_,rfl,.inr (SqT.of (y1 _ _ (X9 _ _ hb1 (fun ps z=>nomatch z)))),fun l2 hl2 => ?_⟩
     have y2:=same_new hl2 (.lst rvt)
     have q2:upd GA l2 (.lst rvt) l2=some (.lst rvt):=upd_same
     have q1':=y2 _ _ q1
     generalize upd GA l2 (.lst rvt)=GB at y2 q2 q1' ⊢
     refine⟨l1,l2,_,_,rfl,rfl,q1',q2,le2 (by omega),fun l3 hl3 => ?_⟩
     have y3:=(y1.trans y2).trans (same_new hl3 (.lst (rvs++rvt)))
     refine nx _ _ ⟨l3,_,rfl,X9.trans (.of y3),t9.ext y3,upd_same,.inl ⟨rfl,rfl,?_⟩⟩
     rw [List.length_append]; omega
   | sums h40 =>
    rename_i ns
    obtain⟨u,rfl,wu⟩:=wins_one hw
    cases wu with
    | row hr1 hr2 =>
    rename_i ra rvs
    have ei:=ints_of hr2
    subst ei
    rcases fl with⟨h9,_⟩ | ⟨u,h9,h10,h11⟩ | ⟨u,v,h9,_⟩
    ·cases h9
    ·cases h9
     subst h10 h11
     obtain⟨c',dV,vs,g1,g2,g3⟩:=L4
     refine⟨_,rfl,_,rfl,p,.ref f4,rfl,.inl ⟨_,Sum.inr "sums", .inl p9,rfl,rfl⟩,3,f4,c',dV,vs,rfl,g1,g2,g3,?_⟩
     cases g3
     refine⟨by show 1≤sizeLine; decide,fun l1 hl1 => ?_⟩
     have y1:=same_new hl1 (.lst [.int 0])
     have q1:upd G9 l1 (.lst [.int 0]) l1=some (.lst [.int 0]):=upd_same
     generalize upd G9 l1 (.lst [.int 0])=GA at y1 q1 ⊢
     refine⟨_,rfl,ra,_,rfl,.inr (SqT.of (y1 _ _ (X9 _ _ hr1 (fun ps z=>nomatch z)))),l1,_,_,rfl,rfl,q1,by omega,?_,?_,fun l3 hl3 => ?_⟩
     ·rw [List.length_map]; omega
     ·rw [List.length_map,Int.toNat_natCast]
      refine le2 ?_
      show 1*ns.length≤1000
      omega
     have y3:=y1.trans (same_new hl3 (.lst (List.replicate ((ns.map V.int).length:Int).toNat [V.int 0]).flatten))
     have lz:(List.replicate ((ns.map V.int).length:Int).toNat [V.int 0]).flatten.length=ns.length:=by
      rw [Int.toNat_natCast,List.length_map]
      simp
     refine nx _ _ ⟨l3,_,rfl,X9.trans (.of y3),t9.ext y3,upd_same,.inr ⟨?_,?_,.inl ⟨rfl,ra,ns,rfl,hr1,rfl,lz.symm⟩⟩⟩
     ·rw [lz]; exact h40
     ·rw [lz]
    ·cases h9
   | _=>first | exact absurd rfl nfl | exact absurd rfl xp' | exact absurd rfl xsm | exact absurd rfl xl' | exact absurd su' (by decide)
 case rest =>
 rintro σ7 H7 ⟨fo,fvs,rfl,e7,t7,hfo,fnd⟩
 refine if_restS (fun σ' H'=>σ'=[some (.ref a.m),some (.ref t2),some (.ref ta),some (.ref sl),some (.str x.str),none,some (.ref p),some (.ref fo),some fv,some lv,none]∧H'=H7∧fvs.length≤40∧i=(fvs.length:Int)∧((x=.sums∧∃ (ra:Addr) (ns:List Int),fv=.ref ra∧H ra=some (.tup (ns.map V.int))∧o=.ok (numR (aheads 0 ns))∧ns.length=fvs.length)∨(x≠.sums∧∃ ws',o=.ok (.row ws')∧WIns H7 fvs ws'))) ?rest fun nx => ?now
 case now =>
  refine⟨_,rfl,fo,fvs,rfl,.inl (SqL.of hfo),_,_,rfl,rfl,_,rfl,?_⟩
  refine ite2 (fun z => ?_) (fun z => ?_)
  ·have z:=of_decide_eq_true z
   rcases fnd with⟨rfl,rfl,_⟩ | ⟨h,_⟩
   ·refine⟨by show 1≤sizeLine; decide,fun t8 ht8 => ?_⟩
    have X8:=same_new ht8 (.tup [.str "many"])
    have e8:upd H7 t8 (.tup [.str "many"]) t8=some (.tup [.str "many"]):=upd_same
    have h28:=X8 _ _ (e7 _ _ h2 (fun ps z=>nomatch z))
    generalize upd H7 t8 (.tup [.str "many"])=H8 at X8 e8 h28 ⊢
    refine⟨_,rfl,t8,t2,_,_,rfl,rfl,SqT.of e8,SqT.of h28,?_⟩
    refine⟨(by simp),by show 3≤sizeLine; decide,(fun z=>nomatch z),fun _ p hp => ?_⟩
    have X9:=X8.trans (same_new hp (.tup ([.str "many"]++[.int (fn:Int),.int (place:Int)])))
    have e9:upd H8 p (.tup ([.str "many"]++[.int (fn:Int),.int (place:Int)])) p=some (.tup [.str "many", .int (fn:Int),.int (place:Int)]):=upd_same
    generalize upd H8 p (.tup ([.str "many"]++[.int (fn:Int),.int (place:Int)]))=H9 at X9 e9 ⊢
    refine⟨by show 2≤sizeLine; decide,fun t9 ht9 => ?_⟩
    have XA:Same H7 (upd H9 t9 (.tup [.non,.ref p])):=X9.trans (same_new ht9 _)
    refine q _ t9 _ _ (.ext (e7.trans (.of XA))) (t7.ext XA) ?_ upd_same ⟨rfl,p,rfl,same_new ht9 _ _ _ e9⟩
    rw [Int.add_zero]
    exact lm.ext (e7.trans (.of XA))
   ·omega
  ·have z:=of_decide_eq_false (Bool.eq_false_iff.mpr z)
   rcases fnd with⟨_,_,h⟩ | ⟨h1,h2,h3⟩
   ·omega
   ·exact nx _ _ ⟨rfl,rfl,h1,h2,h3⟩
 case rest =>
 rintro σ8 H8 ⟨rfl,rfl,l40,rfl,cs⟩
 obtain⟨w1,w2,w3,w4,w5⟩:=lm_work (Ts:=Ts) lm e7 t7 (S.work+(fvs.length:Int))
 refine⟨_,rfl,a.m,_,rfl,w1,_,rfl,fo,_,rfl,.inl (SqL.of hfo),_,_,rfl,rfl,?_⟩
 refine⟨_,rfl,a.m,_,rfl,w2,?_⟩
 have hm8:=(lm.ext e7).hm
 have hfo8:upd H8 a.m (.dK (mKv a S.fuel (S.work+(fvs.length:Int)))) fo=some (.lst fvs):=by
  rw [upd_ne (fun z=>by rw [z,hm8] at hfo; cases hfo)]
  exact hfo
 have tk8:TK H8 (upd H8 a.m (.dK (mKv a S.fuel (S.work+(fvs.length:Int))))):=fun b xs h=>by
  rw [upd_ne (fun z=>by rw [z,hm8] at h; cases h)]
  exact h
 have tkh:TK H (upd H8 a.m (.dK (mKv a S.fuel (S.work+(fvs.length:Int))))):=(tkE e7).trans tk8
 generalize upd H8 a.m (.dK (mKv a S.fuel (S.work+(fvs.length:Int))))=H9 at w3 w4 w5 hfo8 tk8 tkh ⊢
 dsimp only
 refine if_restS (fun σ' H'=>∃ (fo':Addr) (us':List V) (wz:List Wo),σ'=[some (.ref a.m),some (.ref t2),some (.ref ta),some (.ref sl),some (.str x.str),none,some (.ref p),some (.ref fo'),some fv,some lv,none]∧Same H9 H'∧H' fo'=some (.lst us')∧WIns H' us' wz∧o=.ok (.row wz)) ?rest fun nx => ?now
 case now =>
  refine⟨_,rfl,rfl,_,rfl,?_⟩
  rw [isSms]
  refine ite2 (fun z => ?_) (fun z => ?_)
  ·have hx:=of_decide_eq_true z
   subst hx
   rcases cs with⟨_,ra,ns,rfl,hra,rfl,ll⟩ | ⟨h,_⟩
   ·refine⟨_,rfl,ra,_,rfl,.inr (SqT.of (tkh _ _ hra)),?_⟩
    refine⟨_,rfl,by rw [List.length_map]; omega,by rw [List.length_map]; omega,fun D hD => ?_⟩
    refine lc_range (lo:=0) (n:=(ns.map V.int).length) (fun i H'=>Same H9 H'∧H' D=some (.lst (((List.range i).map fun k=>(ns.take k).sum % 10007).map V.int))) ⟨same_new hD _,upd_same⟩ ?_ ?_
    ·rintro i G hi ⟨sG,eG⟩
     rw [List.length_map] at hi
     refine⟨rfl,?_⟩
     dsimp only [tYes,gName]
     rw [if_pos rfl]
     rw [Int.zero_add]
     refine⟨_,rfl,_,rfl,_,rfl,ra,_,rfl,SqT.of (sG _ _ (tkh _ _ hra)),?_,fun pc hpc => ?_⟩
     ·rw [List.length_map,HT.sIx_nat]
      omega
     rw [cut_take]
     have y1:=same_new hpc (.tup ((ns.map V.int).take i))
     have q1:upd G pc (.tup ((ns.map V.int).take i)) pc=some (.tup ((ns.map V.int).take i)):=upd_same
     rw [← List.map_take] at y1 q1 ⊢
     have eG1:=y1 _ _ eG
     have sG1:=sG.trans y1
     generalize upd G pc (.tup ((ns.take i).map V.int))=G1 at eG1 q1 sG1 ⊢
     refine⟨pc,ns.take i,rfl,.inr (SqT.of q1),_,_,rfl,rfl,(by show (0:Int) < 10007; decide),_,eG1,small1000 (by rw [List.length_map,List.length_map,List.length_range]; omega),fun b o hb => ?_,?_⟩
     ·rw [upd_ne (ne_of_none hb hD)]
      exact sG1 b o hb
     ·rw [upd_same,List.range_succ,List.map_append,List.map_append]
      rfl
    ·rintro G ⟨sG,eG⟩
     rw [List.length_map] at eG
     refine nx _ _ ⟨D,_,((List.range ns.length).map fun k=>(ns.take k).sum % 10007).map Wo.num,rfl,sG,eG,wins_intsM _ _,?_⟩
     rw [aheads_eq ns 0 (by decide) (by decide)]
     simp
   ·exact absurd rfl h
  ·have h:=fun y=>z (decide_eq_true y)
   rcases cs with⟨hx,_⟩ | ⟨_,ws',ho,hz⟩
   ·exact absurd hx h
   ·exact nx _ _ ⟨fo,fvs,ws',rfl,fun _ _ h=>h,hfo8,hz.mono tk8,ho⟩
 case rest =>
 rintro σA HA ⟨fo',us',wz,rfl,sA,hfoA,hz,rfl⟩
 refine⟨_,rfl,fo',_,rfl,.inl ⟨SqL.of hfoA,fun t hT => ?_⟩⟩
 have y1:=same_new hT (.tup us')
 have q1:upd HA t (.tup us') t=some (.tup us'):=upd_same
 generalize upd HA t (.tup us')=HB at y1 q1 ⊢
 refine⟨by show 2≤sizeLine; decide,fun t9' ht9 => ?_⟩
 have y2:=sA.trans (y1.trans (same_new ht9 (.tup [.ref t,.non])))
 refine q _ t9' _ _ (w4.trans (.same y2)) (w5.ext y2) (w3.same y2) upd_same ⟨rfl,.row (same_new ht9 _ _ _ q1) (hz.mono (TK.of (y1.trans (same_new ht9 _))))⟩
end
end NR
namespace NR
open PySem PySem.Spec PyProof.Rows L2
def EnvT (ρ:Env1) (σ:EnvW):Prop:=∀ x d,ρ x=some d→∃ w,σ x=some w∧WOk d w
theorem EnvT.up {ρ:Env1}{σ:EnvW}(h:EnvT ρ σ) {x:Int}{d:Nat}{w:Wo}(hw:WOk d w):EnvT (ups ρ x d) (upw σ x w):=fun y e he=>by
 unfold ups at he
 unfold upw
 by_cases c:y=x
 ·rw [if_pos c] at he ⊢
  cases he
  exact⟨w,rfl,hw⟩
 ·rw [if_neg c] at he ⊢
  exact h y e he
theorem woks_at:∀ {ds:List Nat}{ws:List Wo}{i d:Nat},WOks ds ws→ds[i]? = some d→∃ w,ws[i]? = some w∧WOk d w
 | [],_,i,d,_,h=>by simp at h
 | _::_,[],i,d,h,_=>h.elim
 | e::ds,w::ws,0,d,h,e1=>by cases e1; exact⟨w,rfl,h.1⟩
 | e::ds,w::ws,i+1,d,h,e1=>woks_at (i:=i) h.2 e1
theorem envT_of {ps:List (Int×Nat)} {ws:List Wo}(nd:(ps.map (·.1)).Nodup) (h:WOks (ps.map (·.2)) ws):EnvT (envOf ps) (paramsOf ps ws):=fun x d hx=>by
 obtain⟨i,h1,_⟩:=envOf_at nd hx
 obtain⟨w,h2,h3⟩:=woks_at (i:=i) (d:=d) h (by rw [List.getElem?_map,h1]; rfl)
 exact⟨w,paramsOf_at nd h1 h2,h3⟩
def SubF (fs' fs:List (List Nat×Nat)):Prop:=∀ (i:Nat) (q:List Nat×Nat),fs'[i]? = some q→fs[i]? = some q
structure PgT (fs:List (List Nat×Nat)) (fm:List (List (Int×Nat)×Nd)):Prop where
 len:fm.length=fs.length
 at_:∀ (k:Nat) (ds:List Nat) (d:Nat),fs[k]? = some (ds,d)→∃ ps body fs' e,fm[k]? = some (ps,body)∧ps.map (·.2)=ds∧body.d=d∧(ps.map (·.1)).Nodup∧SubF fs' fs∧An fs' (envOf ps) 0 e body
theorem gat_wok {d:Nat}:∀ {rs:List NR0}{w:Wo},rs.length≤40→(∀ v,.ok v∈rs→WOk d v)→gatR rs=.ok w→WOk (d+1) w:=fun {rs w} hl h e=>by
 rcases gatR_all rs with⟨ws,h1,h2,h3⟩ | ⟨z,h1,_⟩
 ·rw [h1] at e
  cases e
  refine⟨by rw [h3,List.length_map]; exact hl,fun v hv => ?_⟩
  rw [h3] at hv
  obtain⟨q,hq,rfl⟩:=List.mem_map.mp hv
  cases q with
  | ok v=>exact h v hq
  | error z =>
   exfalso
   have:∀ rs:List NR0,.error z∈rs→firstE rs≠none:=fun rs=>by
    induction rs with
    | nil=>exact fun h=>nomatch h
    | cons r rs ih =>
     intro h
     rcases List.mem_cons.mp h with rfl | h
     ·exact fun z=>nomatch z
     ·cases r with
      | error y=>exact fun z=>nomatch z
      | ok v=>exact ih ‹_›
   exact this rs hq h2
 ·rw [h1] at e
  cases e
theorem kept_wok {d:Nat}{us:List Wo}{rs:List NR0}{w:Wo}(hl:us.length≤40) (hr:rs.length=us.length) (h:∀ v∈us,WOk d v) (e:keptR us rs=some (.ok w)):WOk (d+1) w:=by
 rcases (keptR_all e hr).2 with⟨ws,h1,_,h3⟩ | ⟨z,h1,_⟩
 ·cases h1
  refine⟨?_,fun v hv => ?_⟩
  ·rw [h3,List.length_map]
   refine Nat.le_trans (List.length_filter_le _ _) ?_
   rw [List.length_zip]
   omega
  ·rw [h3] at hv
   obtain⟨q,hq,rfl⟩:=List.mem_map.mp hv
   have:=(List.mem_filter.mp hq).1
   exact h _ (List.of_mem_zip this).1
 ·cases h1
theorem fevi_len {tg:Nat→Nat→Nat}{fm:List (List (Int×Nat)×Nd)}:∀ {f fn:Nat}{es:List (Nd×EnvW)} {wi:List Nat}{rs:List NR0}{w:Nat}{z:Zc},fevi tg fm f fn es wi=some (rs,w,z)→rs.length=es.length:=fun h=>by
 obtain⟨qs,h1,h2,_⟩:=fevi_at h
 rw [← h1,List.length_map,h2]
section
variable {tg:Nat→Nat→Nat}{fm:List (List (Int×Nat)×Nd)} {fs:List (List Nat×Nat)}
theorem fev_wok (P:PgT fs fm):∀ f:Nat,
  (∀ {fs':List (List Nat×Nat)} {fn p:Nat}{e:Ex}{nd:Nd}{ρ:Env1}{σ:EnvW}{wi:List Nat}{v:Wo}{w:Nat}{z:Zc},SubF fs' fs→An fs' ρ p e nd→EnvT ρ σ→fev tg fm f fn nd σ wi=some (.ok v,w,z)→WOk nd.d v) ∧
  (∀ {fs':List (List Nat×Nat)} {fn p:Nat}{es:List Ex}{nds:List Nd}{ρ:Env1}{σ:EnvW}{wi:List Nat}{vs:List Wo}{w:Nat}{z:Zc},SubF fs' fs→Ans fs' ρ p es nds→EnvT ρ σ→fevs tg fm f fn (nds.map fun e=>(e,σ)) wi=some (.ok vs,w,z)→WOks (nds.map Nd.d) vs) ∧
  (∀ {fs':List (List Nat×Nat)} {fn p:Nat}{e:Ex}{nd:Nd}{ρ:Env1}{σs:List EnvW}{wi:List Nat}{rs:List NR0}{w:Nat}{z:Zc},SubF fs' fs→An fs' ρ p e nd→(∀ σ∈σs,EnvT ρ σ)→fevi tg fm f fn (σs.map fun σ=>(nd,σ)) wi=some (rs,w,z)→∀ v,.ok v∈rs→WOk nd.d v):=by
 intro f
 induction f with
 | zero =>
  refine⟨fun {fs' fn p e nd ρ σ wi v w z} sb an env h=>(by cases nd; unfold fev at h; cases h),fun {fs' fn p es nds ρ σ wi vs w z} sb an env h => ?_,fun {fs' fn p e nd ρ σs wi rs w z} sb an env h v hv => ?_⟩
  ·cases an with
   | nil=>rw [List.map_nil] at h; unfold fevs at h; cases h; trivial
   | cons _ _=>rw [List.map_cons] at h; unfold fevs at h; cases h
  ·cases σs with
   | nil=>rw [List.map_nil] at h; unfold fevi at h; cases h; cases hv
   | cons _ _=>rw [List.map_cons] at h; unfold fevi at h; cases h
 | succ f ih =>
  obtain⟨ih1,ih2,ih3⟩:=ih
  refine⟨fun {fs' fn p e nd ρ σ wi v w z} sb an env h => ?_,fun {fs' fn p es nds ρ σ wi vs w z} sb an env h => ?_,fun {fs' fn p e nd ρ σs wi rs w z} sb an env h v hv => ?_⟩
  ·cases an with
   | num h0 h1 =>
    unfold fev at h
    rw [if_neg (by decide),if_pos rfl] at h
    cases h
    exact⟨h0,h1⟩
   | @name _ _ x d h0 h1 hx h3 =>
    unfold fev at h
    rw [if_pos rfl] at h
    obtain⟨w0,e1,e2⟩:=env x d hx
    rw [e1] at h
    cases h
    exact e2
   | @bind _ _ w0 x a b na nb d hw h0 h1 ha ho hb hd =>
    have hw':w0=.elet∨w0=.each∨w0=.whr:=by revert hw; cases w0 <;> simp [W.lay]
    have nn:w0≠.name∧w0≠.num∧w0.bl=true∧w0.deed=false∧w0≠.call:=by rcases hw' with rfl | rfl | rfl <;> exact⟨by decide,by decide,rfl,rfl,by decide⟩
    rw [fev_eq nn.1 nn.2.1,ahead_two nn.2.2.1] at h
    cases e1:fevs tg fm f fn ([na].map fun e=>(e,σ)) wi with
    | none=>rw [e1] at h; cases h
    | some q =>
    obtain⟨o,w1,z1⟩:=q
    rw [e1] at h
    cases o with
    | error _=>cases h
    | ok ws =>
    have hws:=ih2 sb (ans1 ha) env e1
    obtain⟨u,rfl,hu⟩:=woks1 hws
    dsimp only at h
    unfold ffin at h
    rw [if_neg (by rw [nn.2.2.2.1]; decide),if_neg nn.2.2.2.2] at h
    rcases hw' with rfl | rfl | rfl
    ·dsimp only at h
     cases e2:fev tg fm f fn nb (upw σ x u) wi with
     | none=>rw [e2] at h; cases h
     | some q =>
     obtain⟨r2,w2,z2⟩:=q
     rw [e2] at h
     cases h
     have hd':d=nb.d:=by
      generalize na.d=da at hd
      generalize nb.d=db at hd
      cases hd with
      | two z=>simp at z
      | elet=>rfl
     show WOk d v
     rw [hd']
     exact ih1 sb hb (env.up (show WOk (na.d - 0) u from hu)) e2
    ·have hrow:∃ us,u=.row us∧us.length≤40∧∀ v∈us,WOk (na.d - 1) v:=by
      obtain⟨m,hm⟩:∃ m,na.d=m+1:=⟨na.d - 1,by have:1≤na.d:=ho; omega⟩
      rw [hm] at hu ⊢
      exact wok_row hu
     obtain⟨us,rfl,l40,hus⟩:=hrow
     dsimp only at h
     cases e2:fevi tg fm f fn (us.map fun w=>(nb,upw σ x w)) wi with
     | none=>rw [e2] at h; cases h
     | some q =>
     obtain⟨rs2,w2,z2⟩:=q
     have hl2:=fevi_len e2
     rw [List.length_map] at hl2
     have e4:us.map (fun w=>(nb,upw σ x w))=(us.map fun w=>upw σ x w).map fun ρ=>(nb,ρ):=by rw [List.map_map]; rfl
     rw [e2] at h
     rw [e4] at e2
     have hr:=ih3 sb hb (fun σ' hσ=>by
      obtain⟨u',hu',rfl⟩:=List.mem_map.mp hσ
      exact env.up (hus u' hu')) e2
     injection h with h
     injection h with h _
     have hd':d=nb.d+1:=by
      generalize na.d=da at hd
      generalize nb.d=db at hd
      cases hd with
      | two z=>simp at z
      | each _=>rfl
     show WOk d v
     rw [hd']
     exact gat_wok (by omega) hr h
    ·have hrow:∃ us,u=.row us∧us.length≤40∧∀ v∈us,WOk (na.d - 1) v:=by
      obtain⟨m,hm⟩:∃ m,na.d=m+1:=⟨na.d - 1,by have:1≤na.d:=ho; omega⟩
      rw [hm] at hu ⊢
      exact wok_row hu
     obtain⟨us,rfl,l40,hus⟩:=hrow
     dsimp only at h
     cases e2:fevi tg fm f fn (us.map fun w=>(nb,upw σ x w)) wi with
     | none=>rw [e2] at h; cases h
     | some q =>
     obtain⟨rs2,w2,z2⟩:=q
     have hl2:=fevi_len e2
     rw [List.length_map] at hl2
     rw [e2] at h
     dsimp only at h
     cases e5:keptR us rs2 with
     | none=>rw [e5] at h; cases h
     | some r5 =>
     rw [e5] at h
     injection h with h
     injection h with h _
     subst h
     have hd':d=na.d - 1+1:=by
      generalize na.d=da at hd
      generalize nb.d=db at hd
      cases hd with
      | two z=>simp at z
      | whr=>rfl
     show WOk d v
     rw [hd']
     exact kept_wok l40 hl2 hus e5
   | @call _ _ k ps nps ds d hk hf hp hds =>
    rw [fev_eq (by decide) (by decide),call_ps] at h
    cases e1:fevs tg fm f fn (nps.map fun e=>(e,σ)) wi with
    | none=>rw [e1] at h; cases h
    | some q =>
    obtain⟨o,w1,z1⟩:=q
    rw [e1] at h
    cases o with
    | error _=>cases h
    | ok ws =>
    have hws:=ih2 sb hp env e1
    dsimp only at h
    unfold ffin at h
    rw [if_neg (by decide),if_pos rfl] at h
    obtain⟨ps',body,fs2,e',g1,g2,g3,g4,g5,g6⟩:=P.at_ k ds d (sb _ _ hf)
    rw [Int.toNat_natCast,g1] at h
    dsimp only at h
    split at h
    ·split at h
     ·cases h
     ·split at h
      ·cases e2:fev tg fm f k body (paramsOf ps' ws) (bump wi k) with
       | none=>rw [e2] at h; cases h
       | some q =>
       obtain⟨r2,w2,z2⟩:=q
       rw [e2] at h
       cases h
       show WOk d v
       rw [← g3]
       exact ih1 g5 g6 (envT_of g4 (by rw [g2,← hds]; exact hws)) e2
      ·cases h
    ·cases h
   | @bare _ _ w0 ps nps d hw hp hd =>
    have nn:w0≠.name∧w0≠.num∧w0≠.call:=by refine⟨?_,?_,?_⟩ <;> (rintro rfl; cases hw)
    rw [fev_eq nn.1 nn.2.1] at h
    by_cases ci:w0=.ite
    ·subst ci
     have hl:=hd.ite3
     rw [List.length_map] at hl
     match nps,hl,hp,hd,h with
     | [nc,na,nb],_,hp,hd,h =>
     cases hp with
     | cons hc hp =>
     cases hp with
     | cons ha hp =>
     cases hp with
     | cons hb hp =>
     have ea:aheadOf .ite [nc,na,nb]=[nc]:=rfl
     rw [ea] at h
     cases e1:fevs tg fm f fn ([nc].map fun e=>(e,σ)) wi with
     | none=>rw [e1] at h; cases h
     | some q =>
     obtain⟨o,w1,z1⟩:=q
     rw [e1] at h
     cases o with
     | error _=>cases h
     | ok ws =>
     have hws:=ih2 sb (ans1 hc) env e1
     obtain⟨u,rfl,hu⟩:=woks1 hws
     have hdd:nc.d=0∧na.d=d∧nb.d=d:=by
      simp only [List.map_cons,List.map_nil] at hd
      generalize nc.d=x at hd ⊢
      generalize na.d=y at hd ⊢
      generalize nb.d=z at hd ⊢
      cases hd with
      | ite=>exact⟨rfl,rfl,rfl⟩
     rw [hdd.1] at hu
     obtain⟨n,rfl,_⟩:=wok_num hu
     dsimp only at h
     unfold ffin at h
     rw [if_neg (by decide),if_neg (by decide)] at h
     dsimp only at h
     cases e2:fev tg fm f fn (if n≠0 then na else nb) σ wi with
     | none=>rw [e2] at h; cases h
     | some q =>
     obtain⟨r2,w2,z2⟩:=q
     rw [e2] at h
     cases h
     show WOk d v
     by_cases cn:n≠0
     ·rw [if_pos cn] at e2
      rw [← hdd.2.1]
      exact ih1 sb ha env e2
     ·rw [if_neg cn] at e2
      rw [← hdd.2.2]
      exact ih1 sb hb env e2
    ·obtain⟨x1,_⟩:=lay_deed hw ci
     rw [nd_ps x1] at h
     cases e1:fevs tg fm f fn (nps.map fun e=>(e,σ)) wi with
     | none=>rw [e1] at h; cases h
     | some q =>
     obtain⟨o,w1,z1⟩:=q
     rw [e1] at h
     cases o with
     | error _=>cases h
     | ok ws =>
     have hws:=ih2 sb hp env e1
     obtain⟨ss,o,d1,d2⟩:=(deed_typed hd hw ci hws).ex
     dsimp only at h
     unfold ffin at h
     rw [if_pos x1,d1] at h
     cases o with
     | ok r=>cases h; exact d2 _ rfl
     | error z=>cases h
  ·cases an with
   | nil=>rw [List.map_nil] at h; unfold fevs at h; cases h; trivial
   | @cons _ _ e es nd nds ha hr =>
    rw [List.map_cons] at h
    unfold fevs at h
    split at h
    ·cases h
    ·cases h
    ·rename_i e1
     split at h
     ·cases h
     ·rename_i e2
      cases h
      exact⟨ih1 sb ha env e1,ih2 sb hr env e2⟩
     ·cases h
  ·cases σs with
   | nil=>rw [List.map_nil] at h; unfold fevi at h; cases h; cases hv
   | cons σ σs =>
    rw [List.map_cons] at h
    unfold fevi at h
    split at h
    ·cases h
    ·rename_i e1
     split at h
     ·cases h
     ·rename_i e2
      cases h
      rcases List.mem_cons.mp hv with hv | hv
      ·subst hv
       exact ih1 sb an (env σ (List.mem_cons_self ..)) e1
      ·exact ih3 sb an (fun σ' hσ=>env σ' (List.mem_cons_of_mem _ hσ)) e2 v hv
end
theorem subF_take {fs:List (List Nat×Nat)} {n:Nat}:SubF (fs.take n) fs:=fun i q h=>by
 rw [List.getElem?_take] at h
 split at h
 ·exact h
 ·cases h
theorem faces_at {prog:List Fn}{k:Nat}{ds:List Nat}{d:Nat}(h:(facesOf prog)[k]? = some (ds,d)):∃ f,prog[k]? = some f∧f.ps.map (·.2)=ds∧f.d=d:=by
 unfold facesOf at h
 rw [List.getElem?_map] at h
 cases e:prog[k]? with
 | none=>rw [e] at h; cases h
 | some f =>
  rw [e] at h
  cases h
  exact⟨f,rfl,rfl,rfl⟩
theorem PgT.of {prog:List Fn}{fm:List (List (Int×Nat)×Nd)} (g:Good prog) (n:Nds prog fm):PgT (facesOf prog) fm:=by
 refine⟨by rw [n.len]; unfold facesOf; rw [List.length_map],fun k ds d h => ?_⟩
 obtain⟨f,hf,e1,e2⟩:=faces_at h
 obtain⟨nd,h1,h2,h3⟩:=n.at_ k f hf
 exact⟨f.ps,nd,_,f.e,h1,e1,h3.trans e2,(g.fn k f hf).1.nd,subF_take,h2⟩
section
variable {prog:List Fn}{fm:List (List (Int×Nat)×Nd)}
theorem nds_back (n:Nds prog fm) {i:Nat}{g:List (Int×Nat)×Nd}(h:fm[i]? = some g):∃ f,prog[i]? = some f∧g.1=f.ps∧An ((facesOf prog).take (i+1)) (envOf f.ps) 0 f.e g.2∧g.2.d=f.d:=by
 have hl:=(List.getElem?_eq_some_iff.mp h).1
 rw [n.len] at hl
 obtain⟨nd,h1,h2,h3⟩:=n.at_ i _ (List.getElem?_eq_getElem hl)
 rw [h] at h1
 cases h1
 exact⟨_,List.getElem?_eq_getElem hl,rfl,h2,h3⟩
end
end NR
namespace NR
open PySem PySem.Spec PyProof.Rows L2 LamX NdefX
def Nd.nm:Nd→Prop
 | .node x _ _ _ _=>x=.name
theorem An.nm_ {fs:List (List Nat×Nat)} {ρ:Env1}{p:Nat}{w:W}{n:Int}{ps:List Ex}{nd:Nd}(h:An fs ρ p (.node w n ps) nd) (e:nd.nm):w=.name:=by
 cases h <;> exact e
def BN (fn c:Nat):Nat:=66+9*(34 - c)+30*fn
def PhiN (j c:Nat):Nat:=92+9*(35 - c)+30*j
structure NeedD (fn c:Nat) (e:Ex) (N:Nat):Prop where
 lo:2*e.hgt+BN fn c≤N
 hi:c≤34→e.selfs (fn:Int)=0∨∃ b,Sh (fn:Int) b e∧2*b+3+PhiN fn (c+1)≤N
 one:e.selfs (fn:Int)≤1
 h13:e.hgt≤13
theorem selfs_mem {k:Int}{e:Ex}:∀ {ps:List Ex},e∈ps→e.selfs k≤selfss k ps
 | [],h=>nomatch h
 | a::ps,h=>by
  rw [selfss_cons]
  rcases List.mem_cons.mp h with rfl | h
  ·omega
  ·have:=selfs_mem (k:=k) h
   omega
theorem hgt_mem {e:Ex}{w:W}{n:Int}:∀ {ps:List Ex},e∈ps→e.hgt+1≤(Ex.node w n ps).hgt:=fun {ps} h=>by
 have key:∀ {ps:List Ex},e∈ps→e.hgt≤hgts ps:=fun {ps} h=>by
  induction ps with
  | nil=>cases h
  | cons a ps ih =>
   rw [hgts_cons]
   rcases List.mem_cons.mp h with rfl | h
   ·omega
   ·have:=ih h
    omega
 have:=key h
 show e.hgt+1≤1+hgts ps
 omega
theorem NeedD.mono {fn c N M:Nat}{e:Ex}(h:NeedD fn c e N) (l:N≤M):NeedD fn c e M:=⟨Nat.le_trans h.lo l,fun hc=>(h.hi hc).imp id fun⟨b,h1,h2⟩=>⟨b,h1,Nat.le_trans h2 l⟩,h.one,h.h13⟩
theorem NeedD.child {fn c N:Nat}{w:W}{n:Int}{ps:List Ex}{e:Ex}(h:NeedD fn c (.node w n ps) (N+2)) (he:e∈ps):NeedD fn c e N:=by
 have h1:=hgt_mem (w:=w) (n:=n) he
 have h2:=selfs_mem (k:=(fn:Int)) he
 have h3:=h.one
 have h4:=h.lo
 have h5:=h.h13
 rw [selfs_eq] at h3
 refine⟨by omega,fun hc => ?_,by omega,by omega⟩
 rcases h.hi hc with z | ⟨b,hb,hN⟩
 ·rw [selfs_eq] at z
  exact .inl (by omega)
 ·by_cases c0:e.selfs (fn:Int)=0
  ·exact .inl c0
  ·have self:¬(w=.call∧n=(fn:Int)):=fun z=>by
    rw [if_pos z] at h3
    omega
   have zz:¬(Ex.node w n ps).selfs (fn:Int)=0:=fun z=>by
    rw [selfs_eq] at z
    omega
   cases b with
   | zero =>
    rcases hb with hb | hb
    ·exact absurd hb zz
    ·exact absurd hb self
   | succ b =>
    rcases hb with hb | hb | hb
    ·exact absurd hb zz
    ·exact absurd hb self
    ·exact .inr ⟨b,hb e he,by omega⟩
theorem NeedD.call {fn c N j:Nat}{ps:List Ex}(h:NeedD fn c (.node .call (j:Int) ps) (N+3)) (hj:j≤fn) (hc:c≤34):PhiN j (c+1)≤N:=by
 by_cases e:j=fn
 ·subst e
  rcases h.hi hc with z | ⟨b,_,hN⟩
  ·rw [selfs_eq,if_pos ⟨rfl,rfl⟩] at z
   omega
  ·omega
 ·have h1:=h.lo
  have h2:1≤(Ex.node .call (j:Int) ps).hgt:=by
   show 1≤1+hgts ps
   omega
  unfold BN at h1
  unfold PhiN
  omega
theorem NeedD.body {j c N:Nat}{e:Ex}(sh:Sh (j:Int) 3 e) (h13:e.hgt≤13) (one:e.selfs (j:Int)≤1) (hc:c≤35) (hN:PhiN j c≤N):NeedD j c e N:=by
 unfold PhiN at hN
 refine⟨by unfold BN; omega,fun h=>.inr ⟨3,sh,by unfold PhiN; omega⟩,one,h13⟩
theorem NeedD.lo68 {fn c N:Nat}{e:Ex}(h:NeedD fn c e N):68≤N:=by
 have h1:=h.lo
 have h2:=e.hgt_pos
 unfold BN at h1
 omega
structure AtX where
 tA:Addr
 chA:Addr
 acA:Addr
 fn:Nat
 L:Pth
 wi:List Nat
structure AtH (H:Hp) (a:MA) (m:Nat) (x:AtX):Prop where
 ht:H x.tA=some (.tup [.int (x.fn:Int),.ref x.chA,.ref x.acA])
 hc:NkIn H (chK x.L) (.ref x.chA)
 ha:H x.acA=some (.lst (x.wi.map nV))
 na:x.acA≠a.dl
 fl:x.fn < m
 wl:x.wi.length=m
 w30:∀ i,x.wi.getD i 0≤30
section
variable {P:Program}{w:World}{Ts:List (Addr×Str)} {prog:List Fn}{fm:List (List (Int×Nat)×Nd)} {tg:Nat→Nat→Nat}{H H':Hp}{a:MA}{S:LSt}{x:AtX}
theorem LmIn.ne_lst (l:LmIn P w H a S) {b:Addr}{xs:List V}(h:H b=some (.lst xs)):b≠a.m∧b≠a.md:=by
 refine⟨fun z => ?_,fun z => ?_⟩
 ·rw [z,l.hm] at h; cases h
 ·obtain⟨xs,h1,_⟩:=l.hk
  rw [z,h1] at h; cases h
theorem AtH.fr {m:Nat}(h:AtH H a m x) (l:LmIn P w H a S) (f:FrM a H H'):AtH H' a m x:=by
 have t:=(FrM.ik l f).t
 obtain⟨n1,n2⟩:=l.ne_lst h.ha
 exact⟨t _ _ h.ht,h.hc.mono t,f _ _ n1 h.na n2 (fun ps z=>nomatch z) h.ha,h.na,h.fl,h.wl,h.w30⟩
structure OutS (m:Nat) (S:LSt):Prop where
 dl:S.deep.length=m
 few:(S.met.length:Int)+S.fuel≤9999
 f98:S.fuel≤9998
structure GrH (P:Program) (w:World) (Ts:List (Addr×Str)) (prog:List Fn) (fm:List (List (Int×Nat)×Nd)) (H:Hp) (a:MA) (S:LSt) (x:AtX):Prop where
 lm:LmIn P w H a S
 at_:AtH H a fm.length x
 pg:∃ pvs,H a.pa=some (.tup pvs)∧PgIns H pvs prog
 tabs:Tabs Ts H
 os:0≤S.fuel→OutS fm.length S
 ch:x.L.length≤35
 ch2:1≤S.fuel→x.L.length≤34
theorem GrH.fr {S':LSt}(g:GrH P w Ts prog fm H a S x) (f:FrM a H H') (t:Tabs Ts H') (l:LmIn P w H' a S') (o:0≤S'.fuel→OutS fm.length S') (hf:S'.fuel≤S.fuel):GrH P w Ts prog fm H' a S' x:=by
 obtain⟨pvs,h1,h2⟩:=g.pg
 have ik:=FrM.ik g.lm f
 exact⟨l,g.at_.fr g.lm f,⟨pvs,ik.t _ _ h1,h2.mono ik⟩,t,o,g.ch,fun h=>g.ch2 (by omega)⟩
theorem GrH.same (g:GrH P w Ts prog fm H a S x) (s:Same H H'):GrH P w Ts prog fm H' a S x:=g.fr (.same s) (g.tabs.ext s) (g.lm.same s) g.os (Int.le_refl _)
def Tir (H:Hp) (u v:V):Prop:=u=.non∧∃ ft ys,v=.ref ft∧H ft=some (.tup ys)∧ys.length=3
theorem Tir.mono {u v:V}(h:Tir H u v) (k:TK H H'):Tir H' u v:=by
 obtain⟨h1,ft,ys,h2,h3,h4⟩:=h
 exact⟨h1,ft,ys,h2,k _ _ h3,h4⟩
def Out (P:Program) (w:World) (Ts:List (Addr×Str)) (m:Nat) (a:MA) (S:LSt) (L:Pth) (R:Nat→NR0→Zc→Prop) (H H':Hp) (u v:V):Prop:=FrM a H H'∧Tabs Ts H'∧∃ S',LmIn P w H' a S'∧S'.fuel≤S.fuel ∧
 ((S'.fuel < 0∧Tir H' u v)∨(0≤S'.fuel∧OutS m S'∧∃ c r z,S'=S.add c L z.2∧R c r z∧(∀ x∈z.2.v,x≠[])∧ResIn H' r u v))
structure DnX where
 a:MA
 S:LSt
 x:AtX
 p:Nat
 tv:V
 e:Ex
 kA:Addr
 ρ1:Env1
 ρ:EnvW
 nd:Nd
structure DnH (P:Program) (w:World) (Ts:List (Addr×Str)) (prog:List Fn) (fm:List (List (Int×Nat)×Nd)) (N:Nat) (H:Hp) (D:DnX):Prop where
 g:GrH P w Ts prog fm H D.a D.S D.x
 ti:TIn H D.tv D.e
 an:An ((facesOf prog).take (D.x.fn+1)) D.ρ1 D.p D.e D.nd
 few:D.e.few
 kw:KwIn H D.kA D.ρ
 env:EnvT D.ρ1 D.ρ
 need:NeedD D.x.fn D.x.L.length D.e N
def spDone (P:Program) (w:World) (Ts:List (Addr×Str)) (prog:List Fn) (fm:List (List (Int×Nat)×Nd)) (tg:Nat→Nat→Nat) (N:Nat):Sp:=fun vs H Q _=>∃ D:DnX,vs=[.ref D.a.m,.ref D.x.tA,.int (D.p:Int),D.tv,.ref D.kA]∧DnH P w Ts prog fm N H D ∧
 ∀ (H':Hp) (t:Addr) (u v:V),Out P w Ts fm.length D.a D.S D.x.L (fun c r z=>Fc tg fm c D.x.fn D.nd D.ρ D.x.wi r z) H H' u v→(D.nd.nm→1≤D.S.fuel→v=.non)→H' t=some (.tup [u,v])→Q (.ref t) H'
structure GoX where
 a:MA
 S:LSt
 x:AtX
 p:Nat
 ta:Addr
 xw:W
 n:Int
 va:V
 vb:V
 e:Ex
 ia:Addr
 us:List V
 ws:List Wo
 kA:Addr
 ρ1:Env1
 ρ:EnvW
 d:Nat
 nd:Nd
structure GoH (P:Program) (w:World) (Ts:List (Addr×Str)) (prog:List Fn) (fm:List (List (Int×Nat)×Nd)) (N:Nat) (H:Hp) (D:GoX):Prop where
 g:GrH P w Ts prog fm H D.a D.S D.x
 f0:0≤D.S.fuel
 ta:H D.ta=some (.tup [.str D.xw.str,.int D.n,D.va,D.vb])
 xw:D.xw=.each∨(D.xw=.whr∧D.nd.d=0)
 n0:0≤D.n
 n1:D.n≤19
 ti:TIn H D.vb D.e
 an:An ((facesOf prog).take (D.x.fn+1)) (ups D.ρ1 D.n D.d) D.p D.e D.nd
 few:D.e.few
 hi:H D.ia=some (.tup D.us)
 hw:WIns H D.us D.ws
 l40:D.ws.length≤40
 wok:∀ w∈D.ws,WOk D.d w
 kw:KwIn H D.kA D.ρ
 env:EnvT D.ρ1 D.ρ
 need:∃ M,N=M+1∧NeedD D.x.fn D.x.L.length D.e M
def gonR:W→List Wo→List NR0→NR0→Prop
 | .each,_,rs,r=>r=gatR rs
 | _,us,rs,r=>keptR us rs=some r
def spGone (P:Program) (w:World) (Ts:List (Addr×Str)) (prog:List Fn) (fm:List (List (Int×Nat)×Nd)) (tg:Nat→Nat→Nat) (N:Nat):Sp:=fun vs H Q _=>∃ D:GoX,vs=[.ref D.a.m,.ref D.x.tA,.int (D.p:Int),.ref D.ta,.ref D.ia,.ref D.kA]∧GoH P w Ts prog fm N H D ∧
 ∀ (H':Hp) (t:Addr) (u v:V),Out P w Ts fm.length D.a ⟨D.S.fuel,D.S.work+(D.us.length:Int),D.S.deep,D.S.met⟩ D.x.L (fun c r z=>∃ rs,Fci tg fm c D.x.fn (D.ws.map fun w=>(D.nd,upw D.ρ D.n w)) D.x.wi rs z∧gonR D.xw D.ws rs r) H H' u v→H' t=some (.tup [u,v])→Q (.ref t) H'
structure EnX where
 a:MA
 S:LSt
 x:AtX
 p:Nat
 ta:Addr
 j:Nat
 pb:V
 sl:Addr
 us:List V
 ws:List Wo
 ps:List (Int×Nat)
 nd:Nd
structure EnH (P:Program) (w:World) (Ts:List (Addr×Str)) (prog:List Fn) (fm:List (List (Int×Nat)×Nd)) (N:Nat) (H:Hp) (D:EnX):Prop where
 g:GrH P w Ts prog fm H D.a D.S D.x
 f0:0≤D.S.fuel
 c34:D.x.L.length≤34
 ta:H D.ta=some (.tup [.str W.call.str,.int (D.j:Int),D.pb])
 hj:fm[D.j]? = some (D.ps,D.nd)
 hs:H D.sl=some (.lst D.us)
 nsl:D.sl≠D.a.dl
 hw:WIns H D.us D.ws
 wok:WOks (D.ps.map (·.2)) D.ws
 need:∃ M,N=M+2∧PhiN D.j (D.x.L.length+1)≤M
def entR (tg:Nat→Nat→Nat) (fm:List (List (Int×Nat)×Nd)) (D:EnX) (c:Nat) (r:NR0) (z:Zc):Prop :=
 (D.x.wi.getD D.j 0=30∧c=0∧z=z0∧r=.error ("deep", D.x.fn,D.p))∨(D.x.wi.getD D.j 0 < 30∧∃ z2:Zc,Fc tg fm c D.j D.nd (paramsOf D.ps D.ws) (bump D.x.wi D.j) r z2∧z=(z2.1,(Cn.deep D.j (D.x.wi.getD D.j 0+1)).add (z2.2.into D.x.fn D.p)))
def spEnt (P:Program) (w:World) (Ts:List (Addr×Str)) (prog:List Fn) (fm:List (List (Int×Nat)×Nd)) (tg:Nat→Nat→Nat) (N:Nat):Sp:=fun vs H Q _=>∃ D:EnX,vs=[.ref D.a.m,.ref D.x.tA,.int (D.p:Int),.ref D.ta,.ref D.sl]∧EnH P w Ts prog fm N H D ∧
 ∀ (H':Hp) (t:Addr) (u v:V),Out P w Ts fm.length D.a D.S D.x.L (entR tg fm D) H H' u v→H' t=some (.tup [u,v])→Q (.ref t) H'
structure CaX where
 a:MA
 S:LSt
 chA:Addr
 acA:Addr
 L:Pth
 wi:List Nat
 j:Nat
 wl:Addr
 us:List V
 ws:List Wo
 ps:List (Int×Nat)
 nd:Nd
structure CaH (P:Program) (w:World) (Ts:List (Addr×Str)) (prog:List Fn) (fm:List (List (Int×Nat)×Nd)) (N:Nat) (H:Hp) (D:CaX):Prop where
 lm:LmIn P w H D.a D.S
 pg:∃ pvs,H D.a.pa=some (.tup pvs)∧PgIns H pvs prog
 tabs:Tabs Ts H
 os:OutS fm.length D.S
 ch:D.L.length≤35
 ch2:1≤D.S.fuel→D.L.length≤34
 hc:NkIn H (chK D.L) (.ref D.chA)
 ha:H D.acA=some (.lst (D.wi.map nV))
 na:D.acA≠D.a.dl
 wil:D.wi.length=fm.length
 w30:∀ i,D.wi.getD i 0≤30
 hj:fm[D.j]? = some (D.ps,D.nd)
 hs:H D.wl=some (.lst D.us)
 nwl:D.wl≠D.a.dl
 hw:WIns H D.us D.ws
 wok:WOks (D.ps.map (·.2)) D.ws
 need:∃ M,N=M+1∧PhiN D.j D.L.length≤M
def calR (tg:Nat→Nat→Nat) (fm:List (List (Int×Nat)×Nd)) (D:CaX) (c:Nat) (r:NR0) (z:Zc):Prop:=∃ z2:Zc,Fc tg fm c D.j D.nd (paramsOf D.ps D.ws) D.wi r z2∧z=(z2.1,(Cn.deep D.j (D.wi.getD D.j 0)).add z2.2)
def spCal (P:Program) (w:World) (Ts:List (Addr×Str)) (prog:List Fn) (fm:List (List (Int×Nat)×Nd)) (tg:Nat→Nat→Nat) (N:Nat):Sp:=fun vs H Q _=>∃ D:CaX,vs=[.ref D.a.m,.int (D.j:Int),.ref D.wl,.ref D.chA,.ref D.acA]∧CaH P w Ts prog fm N H D ∧
 ∀ (H':Hp) (t:Addr) (u v:V),Out P w Ts fm.length D.a D.S D.L (calR tg fm D) H H' u v→(D.nd.nm→1≤D.S.fuel→v=.non)→H' t=some (.tup [u,v])→Q (.ref t) H'
structure PgC (prog:List Fn) (fm:List (List (Int×Nat)×Nd)):Prop where
 g:Good prog
 n:Nds prog fm
 sh:∀ (i:Nat) (f:Fn),prog[i]? = some f→Sh (i:Int) 3 f.e
end
theorem at3 {x y z u:V}{xs:List V}:atI (x::y::z::u::xs) 3=some u:=atI_nat (j:=3) rfl
theorem set_mx (s:List Nat) {j n:Nat}(h:j < s.length):(s.map nV).set j (.int (if (n:Int) > ((s.getD j 0:Nat):Int) then (n:Int) else ((s.getD j 0:Nat):Int)))=(mxD s (Cn.deep j n).d).map nV:=by
 refine List.ext_getElem (by rw [List.length_set,List.length_map,List.length_map,mxD_len]) fun i h1 h2 => ?_
 rw [List.length_map,mxD_len] at h2
 have e2:=mxD_at s (Cn.deep j n).d h2
 rw [List.getD_eq_getElem?_getD,List.getElem?_eq_getElem (by rw [mxD_len]; exact h2),Option.getD_some] at e2
 rw [List.getElem_map,e2,List.getElem_set]
 by_cases c:j=i
 ·subst c
  rw [if_pos rfl]
  show V.int _=V.int ((max (s.getD j 0) (if j=j then n else 0):Nat):Int)
  rw [if_pos rfl]
  refine congrArg V.int ?_
  split <;> omega
 ·rw [if_neg c,List.getElem_map]
  show nV s[i]=nV (max (s.getD i 0) (if i=j then n else 0))
  rw [if_neg (fun z=>c z.symm),Nat.max_zero,List.getD_eq_getElem?_getD,List.getElem?_eq_getElem h2,Option.getD_some]
theorem nV_at {s:List Nat}{j:Nat}(h:j < s.length):atI (s.map nV) (j:Int)=some (.int ((s.getD j 0:Nat):Int)):=by
 refine atI_nat ?_
 rw [List.getElem?_map,List.getElem?_eq_getElem h,List.getD_eq_getElem?_getD,List.getElem?_eq_getElem h]
 rfl
def zipN (ps:List (Int×Nat)) (us:List V):List (Int×V):=(ps.zip us).map fun q=>(q.1.1,q.2)
theorem zipN_names:∀ {ps:List (Int×Nat)} {us:List V},us.length=ps.length→(zipN ps us).map (·.1)=ps.map (·.1)
 | [],_,_=>by unfold zipN; simp
 | p::ps,[],h=>by simp at h
 | p::ps,u::us,h=>by
  show p.1::(zipN ps us).map (·.1)=_
  rw [zipN_names (by simpa using h)]
  rfl
theorem kw_zip {H:Hp}:∀ {ps:List (Int×Nat)} {us:List V}{ws:List Wo},WIns H us ws→∀ x w,paramsOf ps ws x=some w→∃ v,valV ((zipN ps us).map kwOf) (Sum.inl x)=some v∧WIn H v w
 | [],us,ws,h,x,w,e=>by
  unfold paramsOf at e
  simp at e
 | p::ps,_,_,.nil,x,w,e=>by
  unfold paramsOf at e
  simp at e
 | p::ps,u::us,w0::ws,.cons a b,x,w,e=>by
  unfold paramsOf at e
  rw [List.zip_cons_cons] at e
  show ∃ v,valV (kwOf (p.1,u)::(zipN ps us).map kwOf) (Sum.inl x)=some v∧_
  unfold valV
  by_cases c:p.1=x
  ·rw [List.find?_cons_of_pos (by simp [c])] at e
   cases e
   rw [List.find?_cons_of_pos (by simp [kwOf,c])]
   exact⟨u,rfl,a⟩
  ·rw [List.find?_cons_of_neg (by simp [c])] at e
   rw [List.find?_cons_of_neg (by simp [kwOf,c])]
   exact kw_zip b x w e
theorem mergeK_kw:∀ {ps acc:List (Int×V)},((acc++ps).map (·.1)).Nodup→mergeK (acc.map kwOf) (ps.map kwOf)=(acc++ps).map kwOf
 | [],acc,_=>by
  rw [List.append_nil]
  rfl
 | (x,d)::ps,acc,nd=>by
  have hn:∀ p∈acc,p.1≠x:=fun p hp e=>by
   rw [List.map_append] at nd
   exact (List.nodup_append.mp nd).2.2 p.1 (List.mem_map.mpr ⟨p,hp,rfl⟩) x (List.mem_map.mpr ⟨(x,d),List.mem_cons_self ..,rfl⟩) e
  have e1:putK (acc.map kwOf) (Sum.inl x) d=(acc++[(x,d)]).map kwOf:=by
   unfold putK
   rw [if_neg,List.map_append]
   ·rfl
   ·intro h
    obtain⟨kv,h1,h2⟩:=List.any_eq_true.mp h
    obtain⟨p,hp,rfl⟩:=List.mem_map.mp h1
    have h3:(Sum.inl p.1:Key)=Sum.inl x:=of_decide_eq_true h2
    injection h3 with h3
    exact hn p hp h3
  show mergeK (putK (acc.map kwOf) (Sum.inl x) d) (ps.map kwOf)=_
  rw [e1,mergeK_kw (ps:=ps) (acc:=acc++[(x,d)]) (by rw [List.append_assoc]; exact nd),List.append_assoc]
  rfl
theorem kwOk_zip {H:Hp}{ps:List (Int×Nat)} {d:Nat}(F:FaceOk ps d) {us:List V}{ws:List Wo}(h:WIns H us ws) (l:us.length=ps.length):KwOk H (zipN ps us) (paramsOf ps ws):=by
 refine⟨by rw [zipN_names l]; exact F.nd,fun p hp => ?_,kw_zip h⟩
 have:p.1∈ps.map (·.1):=by rw [← zipN_names l]; exact List.mem_map.mpr ⟨p,hp,rfl⟩
 obtain⟨q,hq,e⟩:=List.mem_map.mp this
 rw [← e]
 exact⟨(F.lo q hq).1,(F.lo q hq).2.1⟩
theorem zipN_take {ps:List (Int×Nat)} {us:List V}{i:Nat}{x:Int}{d:Nat}{v:V}(h1:ps[i]? = some (x,d)) (h2:us[i]? = some v):(zipN ps us).take (i+1)=(zipN ps us).take i++[(x,v)]:=by
 rw [List.take_succ]
 have hz:(ps.zip us)[i]? = some ((x,d),v):=List.getElem?_zip_eq_some.mpr ⟨h1,h2⟩
 have:(zipN ps us)[i]? = some (x,v):=by
  unfold zipN
  rw [List.getElem?_map,hz]
  rfl
 rw [this]
 rfl
theorem ixN_natN {n j:Nat}(hj:j < n):ixN n (j:Int)=some j:=by
 unfold ixN
 rw [if_pos (by omega),if_pos (by omega)]
 simp
theorem few_body {prog:List Fn}(g:Good prog) {j:Nat}{fn:Fn}(h:prog[j]? = some fn):fn.e.few:=(g.fn j fn h).2.1.few fun p hp=>by
 obtain⟨f',hf',rfl⟩:=List.mem_map.mp hp
 obtain⟨i',hi'⟩:=List.getElem?_of_mem (List.mem_of_mem_take hf')
 have:=(g.fn i' f' hi').1.few
 show (f'.ps.map (·.2)).length≤4
 rw [List.length_map]
 omega
theorem pairedMapP {α β:Type}{F G:α→β→Prop}:∀ {l1:List α}{l2:List β},Paired F l1 l2→(∀ a b,F a b→G a b)→Paired G l1 l2
 | _,_,.nil,_=>.nil
 | _,_,.cons x r,h=>.cons (h _ _ x) (pairedMapP r h)
theorem woks_lenN:∀ {ds:List Nat}{ws:List Wo},WOks ds ws→ws.length=ds.length
 | [],[],_=>rfl
 | d::ds,w::ws,h=>congrArg (·+1) (woks_lenN h.2)
 | [],_::_,h=>h.elim
 | _::_,[],h=>h.elim
theorem Paired.snocP {α β:Type}{F:α→β→Prop}{a:α}{b:β}(h:F a b):∀ {l1:List α}{l2:List β},Paired F l1 l2→Paired F (l1++[a]) (l2++[b])
 | _,_,.nil=>.cons h .nil
 | _,_,.cons x r=>.cons x (Paired.snocP h r)
theorem deep_add (S:LSt) (c:Nat) (L:Pth) (j n:Nat) (z:Cn):(LSt.mk S.fuel S.work (mxD S.deep (Cn.deep j n).d) S.met).add c L z=S.add c L ((Cn.deep j n).add z):=by
 unfold LSt.add
 rw [mxD_mxD]
 show LSt.mk _ (S.work+z.k) _ _=LSt.mk _ (S.work+(0+z.k)) _ _
 rw [Int.zero_add]
 rfl
theorem met_ne_code {P:Program}{w:World}{d:Addr}{xs:List NkE}{q:Str}:MetO P w d xs≠CodeO d q:=fun e=>by
 have e:MetD P w d xs=fun h=>∃ (oc:Obj) (vs:Array Value) (t:Tok),h.get? d=some oc∧oc.data=.fields vs∧vs[1]? = some (.str q t):=by
  unfold MetO CodeO at e
  injection e
 have hs:(⟨Array.replicate d { cls:=.none },{}⟩:Heap).objs.size=d:=by simp
 have g:=Heap.get?_push_size (⟨Array.replicate d { cls:=.none },{}⟩:Heap) (o:={ cls:=.type "dict", data:=.dict (xs.map (entryOfKey (nestedKind P w))).toArray }) rfl
 rw [hs] at g
 have m:MetD P w d xs ((⟨Array.replicate d { cls:=.none },{}⟩:Heap).push { cls:=.type "dict", data:=.dict (xs.map (entryOfKey (nestedKind P w))).toArray }):=⟨_,_,_,g,⟨rfl,rfl,rfl⟩,rfl,List.toList_toArray⟩
 rw [e] at m
 obtain⟨oc,vs,t,h1,h2,_⟩:=m
 rw [g] at h1
 cases h1
 cases h2
theorem tabs_met {P:Program}{w:World}{T:List (Addr×Str)} {H H':Hp}{d:Addr}{ks:List NestedKey}(t:Tabs T H) (m:MetIn P w H d ks) (hne:∀ b,b≠d→H' b=H b):Tabs T H':=by
 obtain⟨xs,hd,_⟩:=m
 intro q hq
 obtain⟨ps,h1,h2,h3⟩:=t q hq
 refine⟨ps,by rw [hne _ (fun z=>by rw [z,hd] at h1; cases h1)]; exact h1,h2,fun pos cv hc => ?_⟩
 obtain⟨c,e1,e2⟩:=h3 pos cv hc
 refine⟨c,e1,?_⟩
 rw [hne _ (fun z=>by rw [z,hd] at e2; injection e2 with e2; exact met_ne_code (z ▸ e2))]
 exact e2
theorem LSt.step1 (S:LSt) (c:Nat) (L:Pth) (z:Cn):(LSt.mk (S.fuel - 1) S.work S.deep S.met).add c L z=S.add (c+1) L z:=by
 unfold LSt.add
 show LSt.mk (S.fuel - 1 - c) _ _ _=LSt.mk (S.fuel - (c+1:Nat)) _ _ _
 rw [show S.fuel - 1 - (c:Int)=S.fuel - (c+1:Nat) by omega]
theorem LSt.row (S:LSt) (L:Pth) (fn p:Nat) (k t:Int):S.add 0 L (Cn.row fn p k t)=⟨S.fuel,S.work+k,S.deep,addM S.met (L,(fn,p))⟩:=by
 unfold LSt.add
 show LSt.mk (S.fuel - (0:Nat)) (S.work+k) (mxD S.deep fun _=>0) (addM S.met (prM L [(fn,p)]))=_
 rw [mxD_0,show S.fuel - ((0:Nat):Int)=S.fuel by omega]
 unfold prM
 show LSt.mk _ _ _ (addM S.met (L++[],(fn,p)))=_
 rw [List.append_nil]
end NR
namespace NR
open PySem PySem.Spec PyProof.Rows L2
mutual
inductive Td (fs:List (List Nat×Nat)):Env1→Nd→Prop
 | num {ρ:Env1}{p:Nat}{n:Int}:Td fs ρ (.node .num p n [] 0)
 | name {ρ:Env1}{p:Nat}{x:Int}{d:Nat}:ρ x=some d→d≤3→Td fs ρ (.node .name p x [] d)
 | elet {ρ:Env1}{p:Nat}{x:Int}{a b:Nd}:Td fs ρ a→Td fs (ups ρ x a.d) b→Td fs ρ (.node .elet p x [a,b] b.d)
 | ea {ρ:Env1}{p:Nat}{w:W}{x:Int}{a b:Nd}{e d:Nat}:w=.each∨w=.whr→Td fs ρ a→a.d=e+1→Td fs (ups ρ x e) b→(w=.each→d=b.d+1∧b.d < 3)→(w=.whr→d=e+1∧b.d=0)→Td fs ρ (.node w p x [a,b] d)
 | call {ρ:Env1}{p k:Nat}{ps:List Nd}{ds:List Nat}{d:Nat}:fs[k]? = some (ds,d)→Tds fs ρ ps→ps.map Nd.d=ds→d≤3→Td fs ρ (.node .call p (k:Int) ps d)
 | bare {ρ:Env1}{p:Nat}{w:W}{ps:List Nd}{d:Nat}:w.lay=3→Tds fs ρ ps→Dep w (ps.map Nd.d) d→Td fs ρ (.node w p (-1) ps d)
inductive Tds (fs:List (List Nat×Nat)):Env1→List Nd→Prop
 | nil {ρ:Env1}:Tds fs ρ []
 | cons {ρ:Env1}{a:Nd}{l:List Nd}:Td fs ρ a→Tds fs ρ l→Tds fs ρ (a::l)
end
mutual
theorem An.td {fs:List (List Nat×Nat)} (h3:∀ q∈fs,q.2≤3):∀ {ρ:Env1}{p:Nat}{e:Ex}{nd:Nd},An fs ρ p e nd→Td fs ρ nd
 | _,_,_,_,.num _ _=>.num
 | _,_,_,_,.name _ _ h h'=>.name h h'
 | _,_,_,_,.bind (w:=w) (x:=x) (na:=na) (nb:=nb) hw _ _ ha ho hb hd=>by
  have h1:=ha.td h3
  have h2:=hb.td h3
  have hw':w=.elet∨w=.each∨w=.whr:=by revert hw; cases w <;> simp [W.lay]
  rcases hw' with rfl | rfl | rfl
  ·generalize ea:na.d=da at hd
   generalize eb:nb.d=db at hd
   cases hd with
   | two z=>simp at z
   | elet =>
    rw [← eb]
    exact .elet h1 (by rw [ea]; rw [ea] at h2; exact h2)
  ·generalize ea:na.d=da at hd ho h2
   generalize eb:nb.d=db at hd
   cases hd with
   | two z=>simp at z
   | @each c d h=>exact .ea (.inl rfl) h1 ea h2 (fun _=>⟨by rw [eb],by rw [eb]; exact h⟩) (fun z=>by cases z)
  ·generalize ea:na.d=da at hd ho h2
   generalize eb:nb.d=db at hd
   cases hd with
   | two z=>simp at z
   | @whr c=>exact .ea (.inr rfl) h1 ea h2 (fun z=>by cases z) (fun _=>⟨rfl,eb⟩)
 | _,_,_,_,.call _ h hp e=>.call h (hp.td h3) e (h3 _ (List.mem_of_getElem? h))
 | _,_,_,_,.bare hw hp hd=>.bare hw (hp.td h3) hd
theorem Ans.td {fs:List (List Nat×Nat)} (h3:∀ q∈fs,q.2≤3):∀ {ρ:Env1}{p:Nat}{es:List Ex}{nds:List Nd},Ans fs ρ p es nds→Tds fs ρ nds
 | _,_,_,_,.nil=>.nil
 | _,_,_,_,.cons ha hr=>.cons (ha.td h3) (hr.td h3)
end
mutual
theorem Td.le3 {fs:List (List Nat×Nat)}:∀ {ρ:Env1}{nd:Nd},Td fs ρ nd→nd.d≤3
 | _,_,.num=>Nat.zero_le _
 | _,_,.name _ h=>h
 | _,_,.elet _ hb=>hb.le3
 | _,_,.ea (a:=a) hw ha ea hb h1 h2=>by
  have:=ha.le3
  rcases hw with rfl | rfl
  ·have:=h1 rfl; show _≤3; simp only [Nd.d]; omega
  ·have:=h2 rfl; simp only [Nd.d]; omega
 | _,_,.call _ _ _ h=>h
 | _,_,.bare _ hp hd=>by
  have h:=hp.le3
  simp only [Nd.d]
  revert hd h
  generalize List.map Nd.d _=ds
  intro hd h
  cases hd with
  | num=>omega
  | two _=>omega
  | ite=>exact h _ (by simp)
  | elet=>exact h _ (by simp)
  | upto=>omega
  | len=>omega
  | sum=>omega
  | sums=>omega
  | one _=>omega
  | pick=>have:=h _ (List.mem_cons_self ..); omega
  | put=>exact h _ (List.mem_cons_self ..)
  | flat=>have:=h _ (List.mem_cons_self ..); omega
  | each _=>omega
  | whr=>exact h _ (List.mem_cons_self ..)
theorem Tds.le3 {fs:List (List Nat×Nat)}:∀ {ρ:Env1}{nds:List Nd},Tds fs ρ nds→∀ d∈nds.map Nd.d,d≤3
 | _,_,.nil,d,h=>by cases h
 | _,_,.cons (a:=a) ha hr,d,h=>by
  rcases List.mem_cons.mp h with h | h
  ·rw [h]; exact ha.le3
  ·exact hr.le3 d h
end
end NR
namespace NR
open PySem PySem.Spec PyProof.Rows L2 LamX NdefX
abbrev sLawGone:Stmt:=top 151
theorem scsLawGone:FnScope ["_law_m", "_law_at", "_law_place", "_law_tree_here", "_law_items", "_law_known", "_law_found", "_law_fault", "_law_item", "_law_inner", "_law_told"] ["_law_m", "_law_at", "_law_place", "_law_tree_here", "_law_items", "_law_known"] (defScope sLawGone):=⟨rfl,rfl,rfl,by decide +kernel,rfl,by decide +kernel,by decide +kernel⟩
section
variable {P:Program}{w:World}{K:PySem.W.Frag}{mg:Str→Option Value}{base:Heap}{f:Addr}{fd:FuncData}{Ts:List (Addr×Str)} {prog:List Fn}{fm:List (List (Int×Nat)×Nd)} {tg:Nat→Nat→Nat}{k:Nat}
theorem firstE_snoc (r:NR0):∀ rs:List NR0,firstE (rs++[r])=match firstE rs with | some e=>some e | none=>(match r with | .error z=>some z | .ok _=>none)
 | []=>by cases r <;> rfl
 | .error z::rs=>rfl
 | .ok _::rs=>firstE_snoc r rs
theorem firstE_oks:∀ vs:List Wo,firstE (vs.map (Except.ok:Wo→NR0))=none
 | []=>rfl
 | v::vs=>firstE_oks vs
theorem okV_oks:∀ vs:List Wo,(vs.map (Except.ok:Wo→NR0)).map okV=vs
 | []=>rfl
 | v::vs=>congrArg (v::·) (okV_oks vs)
theorem gatR_oks (vs:List Wo):gatR (vs.map Except.ok)=.ok (.row vs):=by
 rcases gatR_all (vs.map Except.ok) with⟨ws,h1,_,h3⟩ | ⟨z,_,h2⟩
 ·rw [h1,h3,okV_oks]
 ·rw [firstE_oks] at h2
  cases h2
theorem gatR_err {rs:List NR0}{e:Flt}(h:firstE rs=some e):gatR rs=.error e:=by
 rcases gatR_all rs with⟨ws,_,h2,_⟩ | ⟨z,h1,h2⟩
 ·rw [h] at h2
  cases h2
 ·rw [h] at h2
  cases h2
  exact h1
theorem kept_snocN:∀ {ws vs:List Wo}{w:Wo}{c:Int},vs.length=ws.length→(∀ v∈vs,∃ n:Int,v=.num n)→kept (ws++[w]) (vs++[.num c])=kept ws vs++(if c=0 then [] else [w])
 | [],[],w,c,_,_=>by
  show (if c=0 then kept [] [] else w::kept [] [])=_
  split <;> rfl
 | [],_::_,_,_,h,_=>by simp at h
 | _::_,[],_,_,h,_=>by simp at h
 | u::ws,v::vs,w,c,h,hn=>by
  obtain⟨n,rfl⟩:=hn v (List.mem_cons_self ..)
  have ih:=kept_snocN (w:=w) (c:=c) (ws:=ws) (vs:=vs) (by simpa using h) fun v hv=>hn v (List.mem_cons_of_mem _ hv)
  show (if n=0 then kept (ws++[w]) (vs++[.num c]) else u::kept (ws++[w]) (vs++[.num c]))=(if n=0 then kept ws vs else u::kept ws vs)++_
  rw [ih]
  by_cases z:n=0
  ·rw [if_pos z,if_pos z]
  ·rw [if_neg z,if_neg z]
   rfl
theorem keptR_oks:∀ {ws vs:List Wo},vs.length=ws.length→(∀ v∈vs,∃ n:Int,v=.num n)→keptR ws (vs.map Except.ok)=some (.ok (.row (kept ws vs)))
 | [],[],_,_=>rfl
 | [],_::_,h,_=>by simp at h
 | _::_,[],h,_=>by simp at h
 | u::ws,v::vs,h,hn=>by
  obtain⟨n,rfl⟩:=hn v (List.mem_cons_self ..)
  have ih:=keptR_oks (ws:=ws) (vs:=vs) (by simpa using h) fun v hv=>hn v (List.mem_cons_of_mem _ hv)
  rw [List.map_cons]
  unfold keptR
  rw [ih]
  show some (Except.ok (Wo.row (if n=0 then kept ws vs else u::kept ws vs)))=_
  rfl
theorem keptR_err:∀ {ws:List Wo}{rs:List NR0}{e:Flt},rs.length=ws.length→(∀ q∈rs,∀ v,q=.ok v→∃ n:Int,v=.num n)→firstE rs=some e→keptR ws rs=some (.error e)
 | _,[],_,_,_,h=>nomatch h
 | [],_::_,_,h,_,_=>by simp at h
 | u::ws,.error z::rs,e,h,hn,hf=>by
  have hf:some z=some e:=hf
  cases hf
  unfold keptR
  have tot:∃ r,keptR ws rs=some r:=by
   have hl:rs.length=ws.length:=by simpa using h
   have hn2:∀ q∈rs,∀ v,q=.ok v→∃ n:Int,v=.num n:=fun q hq=>hn q (List.mem_cons_of_mem _ hq)
   clear h hn hf
   induction ws generalizing rs with
   | nil =>
    cases rs with
    | nil=>exact⟨_,rfl⟩
    | cons _ _=>simp at hl
   | cons w ws ih =>
    cases rs with
    | nil=>simp at hl
    | cons r rs =>
     obtain⟨r',hr'⟩:=ih (rs:=rs) (by simpa using hl) fun q hq=>hn2 q (List.mem_cons_of_mem _ hq)
     cases r with
     | error y=>exact⟨.error y,by unfold keptR; rw [hr']; rfl⟩
     | ok v =>
      obtain⟨n,rfl⟩:=hn2 _ (List.mem_cons_self ..) v rfl
      unfold keptR
      have hrow:∀ x,keptR ws rs=some (.ok x)→∃ us,x=.row us:=fun x hx=>by
       have:=keptR_all hx (by simpa using hl)
       rcases this.2 with⟨ws',h1,_⟩ | ⟨z,h1,_⟩
       ·cases h1
        exact⟨_,rfl⟩
       ·cases h1
      cases r' with
      | error y=>exact⟨.error y,by rw [hr']⟩
      | ok x =>
       obtain⟨us,rfl⟩:=hrow x hr'
       exact⟨_,by rw [hr']⟩
  obtain⟨r,hr⟩:=tot
  rw [hr]
  rfl
 | u::ws,.ok v::rs,e,h,hn,hf=>by
  obtain⟨n,rfl⟩:=hn _ (List.mem_cons_self ..) v rfl
  have ih:=keptR_err (ws:=ws) (rs:=rs) (e:=e) (by simpa using h) (fun q hq=>hn q (List.mem_cons_of_mem _ hq)) hf
  unfold keptR
  rw [ih]
def GoF (H:Hp) (xw:W) (ws:List Wo) (rs:List NR0) (fv:V) (gs:List V):Prop:=rs.length=ws.length∧(xw=.whr→∀ q∈rs,∀ v,q=.ok v→∃ n:Int,v=.num n) ∧
 ((∃ vs,rs=vs.map Except.ok∧fv=.non∧WIns H gs (if xw=.each then vs else kept ws vs))∨∃ (e:Flt) (ft:Addr),firstE rs=some e∧fv=.ref ft∧H ft=some (.tup [.str e.1,.int (e.2.1:Int),.int (e.2.2:Int)]))
theorem GoF.mono {H H':Hp}{xw:W}{ws:List Wo}{rs:List NR0}{fv:V}{gs:List V}(g:GoF H xw ws rs fv gs) (t:TK H H'):GoF H' xw ws rs fv gs:=⟨g.1,g.2.1,g.2.2.imp (fun⟨vs,h1,h2,h3⟩=>⟨vs,h1,h2,h3.mono t⟩) fun⟨e,ft,h1,h2,h3⟩=>⟨e,ft,h1,h2,t _ _ h3⟩⟩
theorem GoF.step {H:Hp}{xw:W}{ws:List Wo}{rs:List NR0}{fv:V}{gs:List V}(g:GoF H xw ws rs fv gs) (hx:xw=.each∨xw=.whr) {r:NR0}{u v item:V}{wi:Wo}(res:ResIn H r u v) (hi:WIn H item wi) (num:xw=.whr→∀ w,r=.ok w→∃ n:Int,w=.num n):GoF H xw (ws++[wi]) (rs++[r]) (if fv=.non then v else fv) (if xw=.each then gs++[u] else if u=.int 0 then gs else gs++[item]):=by
 obtain⟨g1,g2,g3⟩:=g
 refine⟨by rw [List.length_append,List.length_append,g1]; rfl,fun hw q hq v' hv => ?_,?_⟩
 ·rcases List.mem_append.mp hq with hq | hq
  ·exact g2 hw q hq v' hv
  ·rw [List.mem_singleton.mp hq] at hv
   exact num hw v' hv
 ·rcases g3 with⟨vs,rfl,rfl,hvs⟩ | ⟨e,ft,h1,rfl,h3⟩
  ·rw [if_pos rfl]
   cases r with
   | ok w' =>
    obtain⟨rfl,wu⟩:=res
    refine .inl ⟨vs++[w'],by rw [List.map_append]; rfl,rfl,?_⟩
    rcases hx with rfl | rfl
    ·rw [if_pos rfl,if_pos rfl]
     rw [if_pos rfl] at hvs
     exact hvs.app (.cons wu .nil)
    ·rw [if_neg (show ¬(W.whr=W.each) by decide),if_neg (show ¬(W.whr=W.each) by decide)]
     rw [if_neg (show ¬(W.whr=W.each) by decide)] at hvs
     obtain⟨n,rfl⟩:=num rfl w' rfl
     cases wu
     have hl:vs.length=ws.length:=by simpa using g1
     rw [kept_snocN hl fun v hv=>g2 rfl (.ok v) (List.mem_map.mpr ⟨v,hv,rfl⟩) v rfl]
     by_cases c:n=0
     ·subst c
      rw [if_pos rfl,if_pos rfl,List.append_nil]
      exact hvs
     ·rw [if_neg (fun z=>c (by injection z)),if_neg c]
      exact hvs.app (.cons hi .nil)
   | error z =>
    obtain⟨rfl,ft,rfl,h⟩:=res
    refine .inr ⟨z,ft,?_,rfl,h⟩
    rw [firstE_snoc,firstE_oks]
  ·rw [if_neg (fun z=>nomatch z)]
   refine .inr ⟨e,ft,?_,rfl,h3⟩
   rw [firstE_snoc,h1]
theorem isEachG (x:W):decide (V.str x.str=V.str "each")=decide (x=.each):=by cases x <;> decide +kernel
theorem tabs_lst {T:List (Addr×Str)} {H:Hp}{p:Addr}{l l':List V}(t:Tabs T H) (h:H p=some (.lst l)):Tabs T (upd H p (.lst l')):=by
 intro q hq
 obtain⟨ps,h1,h2,h3⟩:=t q hq
 refine⟨ps,by rw [upd_ne (fun z=>by rw [z,h] at h1; cases h1)]; exact h1,h2,fun pos cv hc => ?_⟩
 obtain⟨c,e1,e2⟩:=h3 pos cv hc
 exact⟨c,e1,by rw [upd_ne (fun z=>by rw [z,h] at e2; cases e2)]; exact e2⟩
theorem lmin_lst {P:Program}{w:World}{H:Hp}{a:MA}{S:LSt}{p:Addr}{l l':List V}(t:LmIn P w H a S) (h:H p=some (.lst l)) (n:p≠a.m∧p≠a.dl∧p≠a.md):LmIn P w (upd H p (.lst l')) a S :=
 ⟨by rw [upd_ne n.1.symm]; exact t.hm,by rw [upd_ne n.2.1.symm]; exact t.hd,t.hk.mono (fun b xs hb=>TK.lst h _ _ hb) fun o ho=>by rw [upd_ne n.2.2.symm]; exact ho⟩
theorem ok_gone (C:PgC prog fm) (F:FnP K "_law_gone" sLawGone f fd) (O_done:Okg P w K mg base CX0 k "_law_done" ["_law_m", "_law_at", "_law_place", "_law_tree_here", "_law_known"] (spDone P w Ts prog fm tg k)) (z_dict:mg "dict" = none) (z_len:mg "len" = none) (z_tuple:mg "tuple" = none):FnG P w K mg base CX0 (k+1) f fd ["_law_m", "_law_at", "_law_place", "_law_tree_here", "_law_items", "_law_known"] (spGone P w Ts prog fm tg (k+1)):=by
 have sc:=scsLawGone
 refine okG F sc (fun vs H Q E h => ?_) (fun cdv A outer s H vs Q E rm h => ?_)
 ·obtain⟨D,rfl,_⟩:=h
  rfl
 obtain⟨D,rfl,h,q⟩:=h
 obtain⟨a,S,x,p,ta,xw,n,va,vb,e,ia,us,ws,kA,ρ1,ρ,d,nd⟩:=D
 obtain⟨g,f0,hta,hxw,n0,n1,ti,an,few,hi,hw,l40,wok,kw,env,M,eM,need⟩:=h
 dsimp only at g f0 hta hxw n0 n1 ti an few hi hw l40 wok kw env eM need q
 obtain rfl:k=M:=by omega
 have k68:=need.lo68
 have hr:=Rm.room (j:=15) rm (by omega)
 have hu:=hu_of hr
 have lus:=hw.wlen
 refine⟨_,PSs.nox (pss_cons ((ps_dput hu (pv 0) pe_str (pe_op op_add (pe_dget hu (pv 0) pe_str (fun _ _=>rfl)) (pe_callB (call_lenK K) rfl z_len PySem.boot_len (pa_cons (pv 4) pa_nil))) rfl))
  (pss_cons ((ps_set (i:=6) sc.nd rfl (.inl rfl) (pe_lst pa_nil)))
  (pss_cons ((ps_set (i:=7) sc.nd rfl (.inl rfl) pe_non))
  (pss_cons ((ps_for PassesOwn.never rfl (pi_tupK K (pv 4)) (pg_name (i:=8) sc.nd rfl (.inl rfl)) (pss_cons (ps_set (i:=9) sc.nd rfl (.inl rfl) (pe_callTy call_dictD rfl z_dict (by decide +kernel) (pa_cons (pv 5) pa_nil)))
  (pss_cons (ps_dput hu (pv 9) (pe_ix (ix_tupK K) (pv 3) pe_int (fun _ _=>rfl)) (pv 8) rfl)
  (pss_cons (ps_set (i:=10) sc.nd rfl (.inl rfl) (pe_cG O_done rm rfl pass0 (pa_cons (pv 0) (pa_cons (pv 1) (pa_cons (pv 2) (pa_cons (pe_ix (ix_tupK K) (pv 3) pe_int (fun _ _=>rfl)) (pa_cons (pv 9) pa_nil)))))))
  (pss_cons (ps_set (i:=7) sc.nd rfl (.inl rfl) (pe_ifExp (pt_cmpR op_isN (pv 7) pe_non (nomark _)) (pe_ix (ix_tupK K) (pv 10) pe_int (fun _ _=>rfl)) (pv 7)))
  (pss_one (ps_if (pt_cmpR op_eq (pe_ix (ix_tupK K) (pv 3) pe_int (fun _ _=>rfl)) pe_str (nomark _)) (pss_one (ps_expr (pe_bm PySem.F.plainAttrs_list PySem.F.slot_list_append PySem.F.type_list_append mt_append (pv 6) (pa_cons (pe_ix (ix_tupK K) (pv 10) pe_int (fun _ _=>rfl)) pa_nil)))) (pss_one (ps_if (pt_cmpR op_ne (pe_ix (ix_tupK K) (pv 10) pe_int (fun _ _=>rfl)) pe_int (nomark _)) (pss_one (ps_expr (pe_bm PySem.F.plainAttrs_list PySem.F.slot_list_append PySem.F.type_list_append mt_append (pv 6) (pa_cons (pv 8) pa_nil)))) pss_nil))))))))))
  (pss_one ((ps_ret (pe_ifExp (pt_cmpR op_isN (pv 7) pe_non (nomark _)) (pe_tup (pa_cons (pe_callTy (call_tupleK K) rfl z_tuple (by decide +kernel) (pa_cons (pv 6) pa_nil)) (pa_cons pe_non pa_nil))) (pe_tup (pa_cons pe_non (pa_cons (pv 7) pa_nil))))))))))),?_⟩
 obtain⟨w1,w2,w3,w4,w5⟩:=lm_work (Ts:=Ts) g.lm (.refl H) g.tabs (S.work+(us.length:Int))
 refine⟨_,rfl,a.m,_,rfl,w1,_,rfl,ia,_,rfl,.inr (SqT.of hi),_,_,rfl,rfl,_,rfl,a.m,_,rfl,w2,?_⟩
 have ik:=FrM.ik g.lm w4
 have g1:GrH P w Ts prog fm (upd H a.m (.dK (mKv a S.fuel (S.work+(us.length:Int))))) a ⟨S.fuel,S.work+(us.length:Int),S.deep,S.met⟩ x:=g.fr w4 w5 w3 (fun h=>⟨(g.os h).dl,(g.os h).few,(g.os h).f98⟩) (Int.le_refl _)
 have kw1:=KwIn.fr g.lm w4 kw
 have hta1:=ik.t _ _ hta
 have ti1:=ti.mono ik.t
 have hi1:=ik.t _ _ hi
 have hw1:=hw.mono ik.t
 clear w1 w2 w3 w5 hta ti hi hw kw
 generalize upd H a.m (.dK (mKv a S.fuel (S.work+(us.length:Int))))=H1 at w4 ik g1 kw1 hta1 ti1 hi1 hw1 ⊢
 refine⟨by show 0≤sizeLine; decide,fun fo hfo => ?_⟩
 have s2:=same_new hfo (.lst [])
 have efo:upd H1 fo (.lst []) fo=some (.lst []):=upd_same
 have nfo:fo≠a.m∧fo≠a.dl∧fo≠a.md:=by
  refine⟨fun z => ?_,fun z => ?_,fun z => ?_⟩
  ·rw [z,g1.lm.hm] at hfo; cases hfo
  ·rw [z,g1.lm.hd] at hfo; cases hfo
  ·obtain⟨xs,h1,_⟩:=g1.lm.hk
   rw [z,h1] at hfo; cases hfo
 have g2:=g1.same s2
 have f2:=w4.trans (FrM.same (a:=a) s2)
 have kw2:=KwIn.fr g1.lm (.same s2) kw1
 generalize upd H1 fo (.lst [])=H2 at s2 efo g2 f2 kw2 ⊢
 have hta2:=s2 _ _ hta1
 have ti2:=ti1.mono (TK.of s2)
 have hi2:=s2 _ _ hi1
 have hw2:=hw1.mono (TK.of s2)
 dsimp only [gName]
 refine⟨_,rfl,ia,rfl,⟨_,SqT.of hi2⟩,?_⟩
 refine for_tup (K:=K) (a:=ia) (xs:=us) (fun i σ' H'=>∃ (fv:V) (gs:List V) (x8 x9 x10:Option V) (Si:LSt),σ'=[some (.ref a.m),some (.ref x.tA),some (.int (p:Int)),some (.ref ta),some (.ref ia),some (.ref kA),some (.ref fo),some fv,x8,x9,x10]∧FrM a H1 H'∧Tabs Ts H'∧LmIn P w H' a Si∧Si.fuel≤S.fuel∧H' fo=some (.lst gs)∧gs.length≤i ∧
  ((Si.fuel < 0∧∃ ft ys,fv=.ref ft∧H' ft=some (.tup ys)∧ys.length=3)∨(0≤Si.fuel∧OutS fm.length Si∧∃ c rs z,Si=(LSt.mk S.fuel (S.work+(us.length:Int)) S.deep S.met).add c x.L z.2∧Fci tg fm c x.fn ((ws.take i).map fun w=>(nd,upw ρ n w)) x.wi rs z∧(∀ y∈z.2.v,y≠[])∧GoF H' xw (ws.take i) rs fv gs)))
  ?init ?keep ?step ?done
 case init =>
  refine⟨.non,[],none,none,none,⟨S.fuel,S.work+(us.length:Int),S.deep,S.met⟩,rfl,.same s2,g2.tabs,g2.lm,Int.le_refl _,efo,Nat.zero_le _,?_⟩
  exact .inr ⟨f0,g2.os f0,0,[],z0,(LSt.add_zero _ _).symm,fci_nil,(fun y hy=>nomatch hy),rfl,(fun _ q hq=>nomatch hq),.inl ⟨[],rfl,rfl,by rw [List.take_zero]; split <;> exact .nil⟩⟩
 case keep =>
  rintro i σ' H' hi ⟨fv,gs,x8,x9,x10,Si,rfl,fr,_⟩
  exact SqT.of ((FrM.ik g1.lm fr).t _ _ hi1)
 case step =>
  rintro i item σ' G hi ⟨fv,gs,x8,x9,x10,Si,rfl,fr,tb,lm,fle,efo,gl,alt⟩
  have hil:=(List.getElem?_eq_some_iff.mp hi).1
  have hiw:i < ws.length:=by omega
  obtain⟨wi,hwi,wit1⟩:=hw1.get i hi
  have gG:=g1.fr fr tb lm (fun h=>(alt.elim (fun z=>absurd h (by omega)) fun z=>z.2.1)) fle
  have ikG:=FrM.ik g1.lm fr
  have hta3:=ikG.t _ _ hta1
  have wit3:=wit1.mono ikG.t
  obtain⟨l,hkl,kok⟩:=KwIn.fr g1.lm fr kw1
  dsimp only [gName]
  refine⟨_,rfl,kA,_,rfl,.inl hkl,fun inn hinn => ?_⟩
  obtain⟨l',el',kok'⟩:=putK_kw kok n0 n1 wit3
  refine⟨_,rfl,_,rfl,_,rfl,ta,_,_,_,rfl,rfl,SqT.of (same_new hinn _ _ _ hta3),at1,inn,_,rfl,DPut.k (k:=Sum.inl n) upd_same (by rw [List.length_map]; have:=kok.few; exact small1000 (by omega)),?_⟩
  rw [upd_upd,el']
  have s3:=same_new hinn (.dK (l'.map kwOf))
  have ein:upd G inn (.dK (l'.map kwOf)) inn=some (.dK (l'.map kwOf)):=upd_same
  generalize upd G inn (.dK (l'.map kwOf))=G3 at s3 ein ⊢
  have gG3:=gG.same s3
  refine⟨_,rfl,_,rfl,_,rfl,_,rfl,ta,_,_,_,rfl,rfl,SqT.of (s3 _ _ hta3),at3,_,rfl,⟨a,Si,x,p,vb,e,inn,ups ρ1 n d,upw ρ n wi,nd⟩,rfl,⟨gG3,(ti1.mono ikG.t).mono (TK.of s3),an,few,⟨_,ein,kok'.mono (TK.of s3)⟩,env.up (wok wi (List.mem_of_getElem? hwi)),need⟩,fun G4 t u v out _ ht => ?_⟩
  obtain⟨o1,o2,S',o3,o4,o5⟩:=out
  dsimp only at o1 o2 o3 o4 o5
  have ik4:=FrM.ik gG3.lm o1
  have efo4:G4 fo=some (.lst gs):=o1 _ _ nfo.1 nfo.2.1 nfo.2.2 (fun ps z=>nomatch z) (s3 _ _ efo)
  have hta4:=ik4.t _ _ (s3 _ _ hta3)
  have wit4:=wit3.mono ((TK.of s3).trans ik4.t)
  have fr4:FrM a H1 G4:=fr.trans ((FrM.same s3).trans o1)
  have tkG:TK G G4:=(TK.of s3).trans ik4.t
  dsimp only [gName]
  refine seq_restS (fun σ' H'=>σ'=[some (.ref a.m),some (.ref x.tA),some (.int (p:Int)),some (.ref ta),some (.ref ia),some (.ref kA),some (.ref fo),some (if fv=.non then v else fv),some item,some (.ref inn),some (.ref t)]∧H'=G4) ?rest fun nx => ?now
  case now =>
   refine⟨_,rfl,rfl,_,rfl,?_⟩
   refine ite2 (fun z => ?_) (fun z => ?_)
   ·have z:=of_decide_eq_true z
    refine⟨_,rfl,t,_,_,_,rfl,rfl,SqT.of ht,at1,nx _ _ ⟨?_,rfl⟩⟩
    rw [if_pos z]
    rfl
   ·have z:=of_decide_eq_false (Bool.eq_false_iff.mpr z)
    refine⟨_,rfl,nx _ _ ⟨?_,rfl⟩⟩
    rw [if_neg z]
    rfl
  case rest =>
  rintro σ5 G5 ⟨rfl,rfl⟩
  have key:(S'.fuel < 0∧u=.non∧∃ ft ys,(if fv=.non then v else fv)=.ref ft∧G5 ft=some (.tup ys)∧ys.length=3)∨(0≤S'.fuel∧OutS fm.length S'∧(xw=.each∨u=.non∨∃ c,u=.int c)∧∃ c rs z,S'=(LSt.mk S.fuel (S.work+(us.length:Int)) S.deep S.met).add c x.L z.2∧Fci tg fm c x.fn ((ws.take (i+1)).map fun w=>(nd,upw ρ n w)) x.wi rs z∧(∀ y∈z.2.v,y≠[])∧GoF G5 xw (ws.take (i+1)) rs (if fv=.non then v else fv) (if xw=.each then gs++[u] else if u=.int 0 then gs else gs++[item])):=by
   have gf:∀ rs,GoF G xw (ws.take i) rs fv gs→GoF G5 xw (ws.take i) rs fv gs:=fun rs h=>h.mono tkG
   rcases o5 with⟨z0',hu,ft,ys,hv,hft,hys⟩ | ⟨z0',zo,c2,r,z2,es2,hF2,hz2,hres⟩
   ·refine .inl ⟨z0',hu,?_⟩
    by_cases cf:fv=.non
    ·rw [if_pos cf]
     exact⟨ft,ys,hv,hft,hys⟩
    ·rw [if_neg cf]
     rcases alt with⟨_,ft2,ys2,h1,h2,h3⟩ | ⟨_,_,c,rs,z,_,_,_,hgo⟩
     ·exact⟨ft2,ys2,h1,tkG _ _ h2,h3⟩
     ·rcases (gf rs hgo).2.2 with⟨vs,_,h,_⟩ | ⟨er,ft2,_,h1,h2⟩
      ·exact absurd h cf
      ·exact⟨ft2,_,h1,h2,rfl⟩
   ·rcases alt with⟨h0,_⟩ | ⟨h0,hos,c,rs,z,es,hF,hz,hgo⟩
    ·omega
    have num:xw=.whr→∀ w,r=.ok w→∃ n:Int,w=.num n:=fun hxx w hr=>by
     subst hr
     obtain⟨w',hfev,_⟩:=hF2
     have h1:=(fev_wok (PgT.of C.g C.n) _).1 subF_take an (env.up (wok wi (List.mem_of_getElem? hwi))) hfev
     rcases hxw with h | ⟨_,h⟩
     ·rw [h] at hxx; cases hxx
     ·rw [h] at h1
      obtain⟨n,e,_⟩:=wok_num h1
      exact⟨n,e⟩
    have hx2:xw=.each∨xw=.whr:=hxw.imp id fun h=>h.1
    have tk1:ws.take (i+1)=ws.take i++[wi]:=by
     rw [List.take_succ,hwi]
     rfl
    refine .inr ⟨z0',zo,?_,c+c2,rs++[r],zp z z2,?_,?_,?_,?_⟩
    ·rcases hx2 with h | h
     ·exact .inl h
     ·cases r with
      | ok w =>
       obtain⟨n',rfl⟩:=num h w rfl
       obtain⟨_,hw'⟩:=hres
       cases hw'
       exact .inr (.inr ⟨_,rfl⟩)
      | error y=>exact .inr (.inl hres.1)
    ·rw [es2,es,LSt.add_add]
     rfl
    ·rw [tk1,List.map_append]
     exact hF.snoc (e:=(nd,upw ρ n wi)) hF2
    ·intro y hy
     rcases List.mem_append.mp (show y∈z.2.v++z2.2.v from hy) with hy | hy
     ·exact hz y hy
     ·exact hz2 y hy
    ·rw [tk1]
     exact (gf rs hgo).step hx2 hres wit4 num
  generalize (if fv=V.non then v else fv)=fvN at key ⊢
  have gs':∀ gs2:List V,gs2.length≤i+1→((xw=.each→gs2=gs++[u])∧(xw≠.each→(u=.int 0→gs2=gs)∧(u≠.int 0→gs2=gs++[item])))→∀ G6,(G6=G5∧gs2=gs∨G6=upd G5 fo (.lst gs2)) →
    ∃ (fv:V) (gs:List V) (x8 x9 x10:Option V) (Si:LSt),[some (.ref a.m),some (.ref x.tA),some (.int (p:Int)),some (.ref ta),some (.ref ia),some (.ref kA),some (.ref fo),some fvN,some item,some (.ref inn),some (.ref t)]=[some (.ref a.m),some (.ref x.tA),some (.int (p:Int)),some (.ref ta),some (.ref ia),some (.ref kA),some (.ref fo),some fv,x8,x9,x10]∧FrM a H1 G6∧Tabs Ts G6∧LmIn P w G6 a Si∧Si.fuel≤S.fuel∧G6 fo=some (.lst gs)∧gs.length≤i+1 ∧
  ((Si.fuel < 0∧∃ ft ys,fv=.ref ft∧G6 ft=some (.tup ys)∧ys.length=3)∨(0≤Si.fuel∧OutS fm.length Si∧∃ c rs z,Si=(LSt.mk S.fuel (S.work+(us.length:Int)) S.deep S.met).add c x.L z.2∧Fci tg fm c x.fn ((ws.take (i+1)).map fun w=>(nd,upw ρ n w)) x.wi rs z∧(∀ y∈z.2.v,y≠[])∧GoF G6 xw (ws.take (i+1)) rs fv gs)):=fun gs2 l2 hgs G6 hG6=>by
   have egs:(if xw=.each then gs++[u] else if u=.int 0 then gs else gs++[item])=gs2:=by
    by_cases c1:xw=.each
    ·rw [if_pos c1,hgs.1 c1]
    ·rw [if_neg c1]
     by_cases c2:u=.int 0
     ·rw [if_pos c2,(hgs.2 c1).1 c2]
     ·rw [if_neg c2,(hgs.2 c1).2 c2]
   rw [egs] at key
   have tk6:TK G5 G6:=by
    rcases hG6 with⟨rfl,_⟩ | rfl
    ·exact TK.refl _
    ·exact TK.lst efo4
   have e6:G6 fo=some (.lst gs2):=by
    rcases hG6 with⟨rfl,rfl⟩ | rfl
    ·exact efo4
    ·exact upd_same
   have fr6:FrM a H1 G6:=by
    rcases hG6 with⟨rfl,_⟩ | rfl
    ·exact fr4
    ·exact fun b o b1 b2 b3 bt hb=>by
      rw [upd_ne (ne_of_none hb hfo)]
      exact fr4 b o b1 b2 b3 bt hb
   have tb6:Tabs Ts G6:=by
    rcases hG6 with⟨rfl,_⟩ | rfl
    ·exact o2
    ·exact tabs_lst o2 efo4
   have lm6:LmIn P w G6 a S':=by
    rcases hG6 with⟨rfl,_⟩ | rfl
    ·exact o3
    ·exact lmin_lst o3 efo4 nfo
   refine⟨_,gs2,_,_,_,S',rfl,fr6,tb6,lm6,by omega,e6,l2,?_⟩
   rcases key with⟨h1,_,ft,ys,h2,h3,h4⟩ | ⟨h1,h2,_,c,rs,z,h3,h4,h5,h6⟩
   ·exact .inl ⟨h1,ft,ys,h2,tk6 _ _ h3,h4⟩
   ·exact .inr ⟨h1,h2,c,rs,z,h3,h4,h5,h6.mono tk6⟩
  have hsc:xw≠.each→u=.non∨∃ c,u=.int c:=fun c=>by
   rcases key with⟨_,h,_⟩ | ⟨_,_,h | h | h,_⟩
   ·exact .inl h
   ·exact absurd h c
   ·exact .inl h
   ·exact .inr h
  refine⟨_,rfl,ta,_,_,_,rfl,rfl,SqT.of hta4,at0,rfl,_,rfl,?_⟩
  rw [isEachG]
  refine ite2 (fun z => ?_) (fun z => ?_)
  ·have z:=of_decide_eq_true z
   refine⟨_,rfl,.inl ⟨rfl,_,SqL.of efo4⟩,_,rfl,t,_,_,_,rfl,rfl,SqT.of ht,at0,fo,_,_,rfl,rfl,efo4,small1000 (by omega),?_⟩
   exact gs' (gs++[u]) (by rw [List.length_append]; exact Nat.succ_le_succ gl) ⟨fun _=>rfl,fun c=>absurd z c⟩ _ (.inr rfl)
  ·have z:=of_decide_eq_false (Bool.eq_false_iff.mpr z)
   refine⟨_,rfl,t,_,_,_,rfl,rfl,SqT.of ht,at0,?_,_,rfl,?_⟩
   ·rcases hsc z with rfl | ⟨c,rfl⟩ <;> rfl
   refine ite2 (fun z2 => ?_) (fun z2 => ?_)
   ·have z2:¬u=.int 0:=by
     intro h
     rw [h] at z2
     exact absurd z2 (by decide)
    refine⟨_,rfl,.inl ⟨rfl,_,SqL.of efo4⟩,_,rfl,fo,_,_,rfl,rfl,efo4,small1000 (by omega),?_⟩
    exact gs' (gs++[item]) (by rw [List.length_append]; exact Nat.succ_le_succ gl) ⟨fun c=>absurd c z,fun _=>⟨fun h=>absurd h z2,fun _=>rfl⟩⟩ _ (.inr rfl)
   ·have z2:u=.int 0:=by
     rcases hsc z with rfl | ⟨c,rfl⟩
     ·exact absurd rfl z2
     ·by_cases c0:c=0
      ·rw [c0]
      ·refine absurd ?_ z2
       show (!decide (V.int c=V.int 0))=true
       rw [decide_eq_false (fun h=>c0 (by injection h))]
       rfl
    exact gs' gs (by omega) ⟨fun c=>absurd c z,fun _=>⟨fun _=>rfl,fun h=>absurd z2 h⟩⟩ _ (.inl ⟨rfl,rfl⟩)
 case done =>
  rintro σ' G ⟨fv,gs,x8,x9,x10,Si,rfl,fr,tb,lm,fle,efo,gl,alt⟩
  rw [show ws.take us.length=ws by rw [lus,List.take_length]] at alt
  dsimp only
  refine⟨_,rfl,rfl,_,rfl,?_⟩
  refine ite2 (fun z => ?_) (fun z => ?_)
  ·have z:=of_decide_eq_true z
   subst z
   rcases alt with⟨_,ft,ys,h,_⟩ | ⟨h0,hos,c,rs,zc,es,hF,hz,hgo⟩
   ·cases h
   ·obtain⟨hl,hn,hg3⟩:=hgo
    rcases hg3 with⟨vs,rfl,_,hvs⟩ | ⟨e',ft,_,h,_⟩
    ·refine⟨_,rfl,fo,_,rfl,.inl ⟨SqL.of efo,fun tt htt=>⟨by show 2≤sizeLine; decide,fun t9 ht9 => ?_⟩⟩⟩
     have y1:=same_new htt (.tup gs)
     have q1:upd G tt (.tup gs) tt=some (.tup gs):=upd_same
     generalize upd G tt (.tup gs)=G1 at y1 q1 ht9 ⊢
     have y2:=same_new ht9 (.tup [.ref tt,.non])
     have y3:=y1.trans y2
     refine q _ t9 _ _ ⟨(w4.trans fr).trans (.same y3),tb.ext y3,Si,lm.same y3,fle,.inr ⟨h0,hos,c,.ok (.row (if xw=.each then vs else kept ws vs)),zc,es,⟨_,hF,?_⟩,hz,rfl,.row (y2 _ _ q1) (hvs.mono (TK.of y3))⟩⟩ upd_same
     have hl2:vs.length=ws.length:=by simpa using hl
     rcases hxw with rfl | ⟨rfl,_⟩
     ·show _=gatR (vs.map Except.ok)
      rw [gatR_oks]
      rfl
     ·show keptR ws (vs.map Except.ok)=some _
      rw [keptR_oks hl2 fun v hv=>hn rfl (.ok v) (List.mem_map.mpr ⟨v,hv,rfl⟩) v rfl]
      rfl
    ·cases h
  ·have z:=of_decide_eq_false (Bool.eq_false_iff.mpr z)
   refine⟨_,rfl,by show 2≤sizeLine; decide,fun t9 ht9 => ?_⟩
   have y2:=same_new ht9 (.tup [.non,fv])
   rcases alt with⟨h0,ft,ys,rfl,h1,h2⟩ | ⟨h0,hos,c,rs,zc,es,hF,hz,hgo⟩
   ·exact q _ t9 _ _ ⟨(w4.trans fr).trans (.same y2),tb.ext y2,Si,lm.same y2,fle,.inl ⟨h0,rfl,ft,ys,rfl,y2 _ _ h1,h2⟩⟩ upd_same
   ·obtain⟨hl,hn,hg3⟩:=hgo
    rcases hg3 with⟨vs,_,h,_⟩ | ⟨e',ft,h1,rfl,h2⟩
    ·exact absurd h z
    ·refine q _ t9 _ _ ⟨(w4.trans fr).trans (.same y2),tb.ext y2,Si,lm.same y2,fle,.inr ⟨h0,hos,c,.error e',zc,es,⟨_,hF,?_⟩,hz,rfl,ft,rfl,y2 _ _ h2⟩⟩ upd_same
     rcases hxw with rfl | ⟨rfl,_⟩
     ·exact (gatR_err h1).symm
     ·exact keptR_err hl (hn rfl) h1
end
abbrev sLawEntered:Stmt:=top 150
theorem scsLawEntered:FnScope ["_law_m", "_law_at", "_law_place", "_law_tree_here", "_law_some", "_law_active"] ["_law_m", "_law_at", "_law_place", "_law_tree_here", "_law_some"] (defScope sLawEntered):=⟨rfl,rfl,rfl,by decide +kernel,rfl,by decide +kernel,by decide +kernel⟩
section
variable {P:Program}{w:World}{K:PySem.W.Frag}{mg:Str→Option Value}{base:Heap}{f:Addr}{fd:FuncData}{Ts:List (Addr×Str)} {prog:List Fn}{fm:List (List (Int×Nat)×Nd)} {tg:Nat→Nat→Nat}{k:Nat}
theorem op_catAN {X:Cx}(K:PySem.W.Frag) (h:X.K=K:=by rfl):OpR X (binaryOp .Add) (rCatA K):=h ▸ op_catA
theorem bump_len (wi:List Nat) (j:Nat):(bump wi j).length=wi.length:=by
 unfold bump
 rw [List.length_modify]
theorem bump_get {wi:List Nat}{j i:Nat}(h:i < wi.length):(bump wi j).getD i 0=if j=i then wi.getD i 0+1 else wi.getD i 0:=by
 unfold bump
 rw [List.getD_eq_getElem?_getD,List.getD_eq_getElem?_getD,List.getElem?_eq_getElem (by rw [List.length_modify]; exact h),List.getElem?_eq_getElem h,Option.getD_some,Option.getD_some,List.getElem_modify]
theorem bump_at {wi:List Nat}{j:Nat}(h:j < wi.length):(bump wi j).getD j 0=wi.getD j 0+1:=by
 rw [bump_get h,if_pos rfl]
theorem bump_oth {wi:List Nat}{j i:Nat}(h:i≠j):(bump wi j).getD i 0=wi.getD i 0:=by
 by_cases c:i < wi.length
 ·rw [bump_get c,if_neg (fun z=>h z.symm)]
 ·rw [List.getD_eq_getElem?_getD,List.getD_eq_getElem?_getD,List.getElem?_eq_none (by rw [bump_len]; omega),List.getElem?_eq_none (by omega)]
theorem bump_map (wi:List Nat) (j:Nat):(wi.map nV).set j (.int (((wi.getD j 0:Nat):Int)+1))=(bump wi j).map nV:=by
 refine List.ext_getElem (by rw [List.length_set,List.length_map,List.length_map,bump_len]) fun i h1 h2 => ?_
 rw [List.length_map,bump_len] at h2
 have hb:=bump_get (j:=j) h2
 rw [List.getD_eq_getElem?_getD,List.getElem?_eq_getElem (by rw [bump_len]; exact h2),Option.getD_some] at hb
 rw [List.getElem_map,hb,List.getElem_set]
 by_cases c:j=i
 ·subst c
  rw [if_pos rfl,if_pos rfl]
  rfl
 ·have hg:wi.getD i 0=wi[i]:=by
   rw [List.getD_eq_getElem?_getD,List.getElem?_eq_getElem h2]
   rfl
  rw [if_neg c,if_neg c,List.getElem_map]
  exact congrArg nV hg.symm
theorem lm_fuel {P:Program}{w:World}{H G:Hp}{a:MA}{S:LSt}{Ts:List (Addr×Str)} (lm:LmIn P w H a S) (e:ExtN H G) (tb:Tabs Ts G) (k:Int):DGet G a.m (.str "fuel") (some (.int S.fuel))∧DPut G a.m (.str "fuel") (.int k) (upd G a.m (.dK (mKv a k S.work)))∧LmIn P w (upd G a.m (.dK (mKv a k S.work))) a ⟨k,S.work,S.deep,S.met⟩∧FrM a H (upd G a.m (.dK (mKv a k S.work)))∧Tabs Ts (upd G a.m (.dK (mKv a k S.work))):=by
 have l2:=lm.ext e
 have dp:DPut G a.m (kV (Sum.inr "fuel")) (.int k) (upd G a.m (.dK (putK (mKv a S.fuel S.work) (Sum.inr "fuel") (.int k)))):=DPut.k l2.hm (by show 6 < sizeLine; decide)
 exact⟨DGet.k (k:=Sum.inr "fuel") l2.hm,dp,l2.put _ _,(FrM.ext e).trans .putm,tabs_dk tb l2.hm⟩
theorem NkIns.snocN {H:Hp}{k:NestedKey}{v:V}(h:NkIn H k v):∀ {ks:List NestedKey}{vs:List V},NkIns H ks vs→NkIns H (ks++[k]) (vs++[v])
 | _,_,.nil=>.cons h .nil
 | _,_,.cons a r=>.cons a (NkIns.snocN h r)
theorem ok_entered (C:PgC prog fm) (F:FnP K "_law_entered" sLawEntered f fd) (O_called:Okg P w K mg base CX0 k "_law_called" ["_law_m", "_law_which", "_law_worths_here", "_law_chain", "_law_active"] (spCal P w Ts prog fm tg k)) (z_list:mg "list" = none) (z_int:mg "int" = none) (z_len:mg "len" = none):FnG P w K mg base CX0 (k+1) f fd ["_law_m", "_law_at", "_law_place", "_law_tree_here", "_law_some"] (spEnt P w Ts prog fm tg (k+1)):=by
 have sc:=scsLawEntered
 refine okG F sc (fun vs H Q E h => ?_) (fun cdv A outer s H vs Q E rm h => ?_)
 ·obtain⟨D,rfl,_⟩:=h
  rfl
 obtain⟨D,rfl,h,q⟩:=h
 obtain⟨a,S,⟨tA,chA,acA,fn,L,wi⟩,p,ta,j,pb,sl,us,ws,ps,nd⟩:=D
 obtain⟨⟨lm,⟨ht,hc,ha,na,fl,wil,w30⟩,⟨pvs,hpa,hpg⟩,tabs,os,ch,ch2⟩,f0,c34,hta,hj,hs,nsl,hw,wok,M,eM,hM⟩:=h
 dsimp only at lm ht hc ha na fl wil w30 hpa hpg tabs os ch ch2 f0 c34 hta hj hs nsl hw wok M eM hM q
 have os:=os f0
 obtain rfl:k=M+1:=by omega
 have k92:92≤M:=by
  unfold PhiN at hM
  omega
 have hr:=Rm.room (j:=15) rm (by omega)
 have hu:=hu_of hr
 have jl:=(List.getElem?_eq_some_iff.mp hj).1
 have jw:j < wi.length:=by rw [wil]; exact jl
 obtain⟨cvs,hch,hcv⟩:∃ cvs,H chA=some (.tup cvs)∧NkIns H (L.map keyPair) cvs:=by
  cases hc with
  | tup h r=>exact⟨_,h,r⟩
 refine⟨_,PSs.nox (pss_cons ((ps_set (i:=5) sc.nd rfl (.inl rfl) (pe_callTy (call_listK K) rfl z_list (by decide +kernel) (pa_cons (pe_ix (ix_tupK K) (pv 1) pe_int (fun _ _=>rfl)) pa_nil))))
  (pss_cons ((ps_asg (pe_op op_add (pe_ix (ix_listK K) (pv 5) (pe_ix (ix_tupK K) (pv 3) pe_int (fun _ _=>rfl)) (fun _ _=>rfl)) pe_int) (pg_sub (pv 5) (pe_ix (ix_tupK K) (pv 3) pe_int (fun _ _=>rfl)) set_list)))
  (pss_cons ((ps_if (pt_cmpR op_gt (pe_ix (ix_listK K) (pv 5) (pe_ix (ix_tupK K) (pv 3) pe_int (fun _ _=>rfl)) (fun _ _=>rfl)) pe_int (nomark _)) (pss_one (ps_ret (pe_tup (pa_cons pe_non (pa_cons (pe_tup (pa_cons pe_str (pa_cons (pe_ix (ix_tupK K) (pv 1) pe_int (fun _ _=>rfl)) (pa_cons (pv 2) pa_nil)))) pa_nil))))) pss_nil))
  (pss_cons ((ps_dput hu (pv 0) pe_str (pe_op op_sub (pe_dget hu (pv 0) pe_str (fun _ _=>rfl)) (pe_op op_mul pe_int (pe_callTy call_int1 rfl z_int (by decide +kernel) (pa_cons (pe_cmpR op_gt (pe_callB (call_lenK K) rfl z_len PySem.boot_len (pa_cons (pe_ix (ix_tupK K) (pv 1) pe_int (fun _ _=>rfl)) pa_nil)) pe_int (nomark _)) pa_nil)))) rfl))
  (pss_one ((ps_ret (pe_cG O_called rm rfl pass0 (pa_cons (pv 0) (pa_cons (pe_ix (ix_tupK K) (pv 3) pe_int (fun _ _=>rfl)) (pa_cons (pv 4) (pa_cons (pe_op (op_catAN K) (pe_ix (ix_tupK K) (pv 1) pe_int (fun _ _=>rfl)) (pe_tup (pa_cons (pe_tup (pa_cons (pe_ix (ix_tupK K) (pv 1) pe_int (fun _ _=>rfl)) (pa_cons (pv 2) pa_nil))) pa_nil))) (pa_cons (pv 5) pa_nil))))))))))))),?_⟩
 refine⟨_,rfl,tA,_,_,_,rfl,rfl,SqT.of ht,at2,acA,_,rfl,.inl (SqL.of ha),fun la hla => ?_⟩
 have s1:=same_new hla (.lst (wi.map nV))
 have e1:upd H la (.lst (wi.map nV)) la=some (.lst (wi.map nV)):=upd_same
 have nla:la≠a.dl:=(ne_of_none lm.hd hla).symm
 generalize upd H la (.lst (wi.map nV))=H1 at s1 e1 ⊢
 dsimp only [gName]
 refine⟨_,rfl,_,rfl,ta,_,_,_,rfl,rfl,SqT.of (s1 _ _ hta),at1,la,_,_,_,rfl,rfl,SqL.of e1,nV_at jw,_,_,rfl,rfl,_,rfl,_,rfl,ta,_,_,_,rfl,rfl,SqT.of (s1 _ _ hta),at1,la,_,_,j,rfl,rfl,e1,ixN_natN (by rw [List.length_map]; exact jw),?_⟩
 rw [bump_map]
 have s2:Same H (upd H1 la (.lst ((bump wi j).map nV))):=fun b o hb=>by
  rw [upd_ne (ne_of_none hb hla)]
  exact s1 b o hb
 have e2:upd H1 la (.lst ((bump wi j).map nV)) la=some (.lst ((bump wi j).map nV)):=upd_same
 generalize upd H1 la (.lst ((bump wi j).map nV))=H2 at s2 e2 ⊢
 clear s1 e1 H1
 have jb:j < (bump wi j).length:=by rw [bump_len]; exact jw
 dsimp only
 refine if_restS (fun σ' H'=>wi.getD j 0 < 30∧σ'=[some (.ref a.m),some (.ref tA),some (.int (p:Int)),some (.ref ta),some (.ref sl),some (.ref la)]∧H'=H2) ?rest fun nx => ?now
 case now =>
  refine⟨_,rfl,_,rfl,ta,_,_,_,rfl,rfl,SqT.of (s2 _ _ hta),at1,la,_,_,_,rfl,rfl,SqL.of e2,nV_at jb,_,_,rfl,rfl,_,rfl,?_⟩
  rw [bump_at jw]
  refine ite2 (fun z => ?_) (fun z => ?_)
  ·have z:=of_decide_eq_true z
   have w3:=w30 j
   refine⟨_,rfl,tA,_,_,_,rfl,rfl,SqT.of (s2 _ _ ht),at0,_,rfl,by show 3≤sizeLine; decide,fun ft hft=>⟨by show 2≤sizeLine; decide,fun t9 ht9 => ?_⟩⟩
   have y1:=same_new hft (.tup [.str "deep", .int (fn:Int),.int (p:Int)])
   have q1:upd H2 ft (.tup [.str "deep", .int (fn:Int),.int (p:Int)]) ft=some (.tup [.str "deep", .int (fn:Int),.int (p:Int)]):=upd_same
   generalize upd H2 ft (.tup [.str "deep", .int (fn:Int),.int (p:Int)])=H3 at y1 q1 ht9 ⊢
   have y2:=same_new ht9 (.tup [.non,.ref ft])
   have y3:=s2.trans (y1.trans y2)
   refine q _ t9 _ _ ⟨.same y3,tabs.ext y3,S,lm.same y3,Int.le_refl _,.inr ⟨f0,os,0,.error ("deep", fn,p),z0,(LSt.add_zero S L).symm,.inl ⟨by show wi.getD j 0=30; omega,rfl,rfl,rfl⟩,(fun x hx=>nomatch hx),rfl,ft,rfl,y2 _ _ q1⟩⟩ upd_same
  ·have z:=of_decide_eq_false (Bool.eq_false_iff.mpr z)
   exact nx _ _ ⟨by omega,rfl,rfl⟩
 case rest =>
 rintro σ3 H3 ⟨lt30,rfl,rfl⟩
 have tabs3:=tabs.ext s2
 have lcv:cvs.length=L.length:=by
  have key:∀ {ks:List NestedKey}{vs:List V},NkIns H ks vs→vs.length=ks.length:=fun h=>by
   induction h using NkIns.rec (motive_1:=fun _ _ _=>True) with
   | num=>trivial
   | tup=>trivial
   | nil=>rfl
   | cons _ _ _ ih=>exact congrArg (·+1) ih
  rw [key hcv,List.length_map]
 obtain⟨w1,w2,w3,w4,w5⟩:=lm_fuel (Ts:=Ts) lm (.of s2) tabs3 (S.fuel - 9999*(if decide ((33:Int) < (cvs.length:Int))=true then 1 else 0))
 refine⟨_,rfl,a.m,_,rfl,w1,_,rfl,tA,_,_,_,rfl,rfl,SqT.of (s2 _ _ ht),at1,chA,_,rfl,.inr (SqT.of (s2 _ _ hch)),_,_,rfl,rfl,.inr ⟨_,rfl,_,_,rfl,rfl,.inl ⟨by omega,by omega⟩,_,_,rfl,rfl,_,rfl,a.m,_,rfl,w2,?_⟩⟩
 have hf:(33 < L.length∧S.fuel - 9999*(if decide ((33:Int) < (cvs.length:Int))=true then 1 else 0) < 0)∨(L.length≤33∧S.fuel - 9999*(if decide ((33:Int) < (cvs.length:Int))=true then 1 else 0)=S.fuel):=by
  have:=os.f98
  by_cases c:33 < L.length
  ·left
   rw [if_pos (decide_eq_true (by omega))]
   exact⟨c,by omega⟩
  ·right
   rw [if_neg (fun z=>c (by have:=of_decide_eq_true z; omega))]
   exact⟨by omega,by omega⟩
 have e4:upd H3 a.m (.dK (mKv a (S.fuel - 9999*(if decide ((33:Int) < (cvs.length:Int))=true then 1 else 0)) S.work)) la=some (.lst ((bump wi j).map nV)):=by
  rw [upd_ne (fun z=>by
   have hm:=(lm.same s2).hm
   rw [← z,e2] at hm
   cases hm)]
  exact e2
 generalize S.fuel - 9999*(if decide ((33:Int) < (cvs.length:Int))=true then 1 else 0)=fz at w2 w3 w4 w5 hf e4 ⊢
 generalize upd H3 a.m (.dK (mKv a fz S.work))=H4 at w3 w4 w5 e4 ⊢
 have ik:=FrM.ik lm w4
 have ht4:=ik.t _ _ ht
 have hta4:=ik.t _ _ hta
 have hs4:H4 sl=some (.lst us):=w4 _ _ (lm.ne_lst hs).1 nsl (lm.ne_lst hs).2 (fun ps z=>nomatch z) hs
 have fin:∀ (chN:Addr) (H5:Hp),Same H4 H5→NkIn H5 (chK (L++[(fn,p)])) (.ref chN)→spCal P w Ts prog fm tg (M+1) [.ref a.m,.int (j:Int),.ref sl,.ref chN,.ref la] H5 Q E0:=fun chN H5 s5 hcN=>by
  refine⟨⟨a,⟨fz,S.work,S.deep,S.met⟩,chN,la,L++[(fn,p)],bump wi j,j,sl,us,ws,ps,nd⟩,rfl,⟨w3.same s5,⟨pvs,s5 _ _ (ik.t _ _ hpa),(hpg.mono ik).mono (IK.of s5)⟩,w5.ext s5,⟨os.dl,?_,?_⟩,?_,?_,hcN,s5 _ _ e4,nla,?_,?_,hj,s5 _ _ hs4,nsl,hw.mono (ik.t.trans (TK.of s5)),wok,M,rfl,?_⟩,fun H' t u v out _ ht => ?_⟩
  ·have:=os.few
   show (S.met.length:Int)+fz≤9999
   omega
  ·have:=os.f98
   show fz≤9998
   omega
  ·rw [List.length_append]
   show L.length+1≤35
   omega
  ·intro h
   have h:1≤fz:=h
   rw [List.length_append]
   show L.length+1≤34
   omega
  ·rw [bump_len]
   exact wil
  ·intro i
   by_cases c:i=j
   ·subst c
    rw [bump_at jw]
    omega
   ·rw [bump_oth c]
    exact w30 i
  ·rw [List.length_append]
   exact hM
  ·obtain⟨o1,o2,S',o3,o4,o5⟩:=out
   have o4:S'.fuel≤fz:=o4
   refine q H' t u v ⟨w4.trans ((FrM.same s5).trans o1),o2,S',o3,by show S'.fuel≤S.fuel; omega,o5.imp id ?_⟩ ht
   rintro⟨z0',zo,c,r,z,es,⟨z2,hR,rfl⟩,hz,hres⟩
   obtain⟨c33,rfl⟩:L.length≤33∧fz=S.fuel:=by omega
   refine⟨z0',zo,c,r,(z2.1,(Cn.deep j (wi.getD j 0+1)).add (z2.2.into fn p)),?_,.inr ⟨lt30,z2,hR,rfl⟩,?_,hres⟩
   ·rw [es,LSt.add_into _ _ _ _ _ hz]
    show S.add c L (((Cn.deep j ((bump wi j).getD j 0)).add z2.2).into fn p)=_
    rw [bump_at jw]
    rfl
   ·intro y hy
    have hy:y∈[]++z2.2.v.map ((fn,p)::·):=hy
    rw [List.nil_append] at hy
    obtain⟨y',_,rfl⟩:=List.mem_map.mp hy
    exact fun z=>nomatch z
 refine⟨_,rfl,_,rfl,ta,_,_,_,rfl,rfl,SqT.of hta4,at1,_,rfl,_,rfl,tA,_,_,_,rfl,rfl,SqT.of ht4,at1,_,rfl,tA,_,_,_,rfl,rfl,SqT.of ht4,at0,_,rfl,by show 2≤sizeLine; decide,fun t1 ht1=>⟨by show 1≤sizeLine; decide,fun t2 ht2 => ?_⟩⟩
 have y1:=same_new ht1 (.tup [.int (fn:Int),.int (p:Int)])
 have q1:upd H4 t1 (.tup [.int (fn:Int),.int (p:Int)]) t1=some (.tup [.int (fn:Int),.int (p:Int)]):=upd_same
 generalize upd H4 t1 (.tup [.int (fn:Int),.int (p:Int)])=H5 at y1 q1 ht2 ⊢
 have y2:=same_new ht2 (.tup [.ref t1])
 have q2:upd H5 t2 (.tup [.ref t1]) t2=some (.tup [.ref t1]):=upd_same
 have q12:=y2 _ _ q1
 have y12:=y1.trans y2
 generalize upd H5 t2 (.tup [.ref t1])=H6 at y12 q2 q12 ⊢
 have kp:NkIn H6 (keyPair (fn,p)) (.ref t1):=.tup q12 (.cons .num (.cons .num .nil))
 have hch6:=y12 _ _ (ik.t _ _ hch)
 refine⟨chA,t2,cvs,[.ref t1],rfl,rfl,SqT.of hch6,SqT.of q2,le2 (by rw [lcv]; show L.length+1≤1000; omega),fun ec => ?_,(fun _ z=>nomatch z),fun ec _ pn hpn => ?_⟩
 ·refine⟨_,rfl,fin t2 H6 y12 ?_⟩
  have eL:L=[]:=List.eq_nil_of_length_eq_zero (by rw [← lcv,ec]; rfl)
  rw [eL]
  exact .tup q2 (.cons kp .nil)
 ·have y3:=same_new hpn (.tup (cvs++[.ref t1]))
  have q3:upd H6 pn (.tup (cvs++[.ref t1])) pn=some (.tup (cvs++[.ref t1])):=upd_same
  refine⟨_,rfl,fin pn _ (y12.trans y3) ?_⟩
  unfold chK
  rw [List.map_append]
  exact .tup q3 (NkIns.snocN (kp.mono (TK.of y3)) (hcv.mono ((ik.t.trans (TK.of y12)).trans (TK.of y3))))
end
abbrev sLawDone:Stmt:=top 149
theorem scsLawDone:FnScope ["_law_m", "_law_at", "_law_place", "_law_tree_here", "_law_known", "_law_word_here", "_law_there", "_law_first", "_law_inner", "_law_some", "_law_here", "_law_part", "_law_told"] ["_law_m", "_law_at", "_law_place", "_law_tree_here", "_law_known"] (defScope sLawDone):=⟨rfl,rfl,rfl,by decide +kernel,rfl,by decide +kernel,by decide +kernel⟩
section
variable {P:Program}{w:World}{K:PySem.W.Frag}{mg:Str→Option Value}{base:Heap}{f:Addr}{fd:FuncData}{Ts:List (Addr×Str)} {prog:List Fn}{fm:List (List (Int×Nat)×Nd)} {tg:Nat→Nat→Nat}{k:Nat}
theorem isNm (x:W):decide (V.str x.str=V.str "name")=decide (x=.name):=by cases x <;> decide +kernel
theorem isLt (x:W):decide (V.str x.str=V.str "let")=decide (x=.elet):=by cases x <;> decide +kernel
theorem isIfN (x:W):(!decide (V.str x.str=V.str "if"))=decide (x≠.ite):=by cases x <;> decide +kernel
theorem isClN (x:W):(!decide (V.str x.str=V.str "call"))=decide (x≠.call):=by cases x <;> decide +kernel
abbrev blW2:List V:=[.str "let", .str "if", .str "each", .str "where"]
theorem inBlk (x:W):inV (.str x.str) blW2=x.bl:=by cases x <;> decide +kernel
theorem TIn.key {H:Hp}{v:V}{wd:W}{n:Int}{es:List Ex}(ti:TIn H v (.node wd n es)):∃ a xs,v=.ref a∧H a=some (.tup (.str wd.str::xs)):=by
 cases ti with
 | leaf _ h=>exact⟨_,_,rfl,h⟩
 | bind _ h _=>exact⟨_,_,rfl,h⟩
 | call h _ _=>exact⟨_,_,rfl,h⟩
 | bare _ h _=>exact⟨_,_,rfl,h⟩
theorem dep_ite0 {a b c d:Nat}(h:Dep .ite [a,b,c] d):a=0:=by cases h; rfl
theorem dep_whr0 {a b d:Nat}(h:Dep .whr [a,b] d):b=0:=by cases h <;> rfl
structure BlkP (H:Hp) (fs:List (List Nat×Nat)) (ρ1:Env1) (p:Nat) (wd:W) (n:Int) (es:List Ex) (nd:Nd) (xs:List V) (v0:V) (e0:Ex) (n0:Nd):Prop where
 s2:wd≠.ite→atI (.str wd.str::xs) 2=some v0
 s1:wd=.ite→atI (.str wd.str::xs) 1=some v0
 t0:TIn H v0 e0
 m0:e0∈es
 a0:An fs ρ1 (p+1) e0 n0
 alt:(wd=.ite∧∃ va vb ea eb na nb d,xs=[v0,va,vb]∧TIn H va ea∧TIn H vb eb∧es=[e0,ea,eb]∧nd=.node wd p n [n0,na,nb] d∧An fs ρ1 (p+1+e0.size) ea na∧An fs ρ1 (p+1+e0.size+ea.size) eb nb∧n0.d=0) ∨
  (wd.lay=1∧∃ vb eb nb d,xs=[.int n,v0,vb]∧TIn H vb eb∧es=[e0,eb]∧nd=.node wd p n [n0,nb] d∧0≤n∧n≤19∧wd.off≤n0.d∧An fs (ups ρ1 n (n0.d - wd.off)) (p+1+e0.size) eb nb∧Dep wd [n0.d,nb.d] d)
theorem blk_p {H:Hp}{fs:List (List Nat×Nat)} {ρ1:Env1}{p:Nat}{wd:W}{n:Int}{es:List Ex}{nd:Nd}{ta:Addr}{xs:List V}(ti:TIn H (.ref ta) (.node wd n es)) (an:An fs ρ1 p (.node wd n es) nd) (hb:wd.bl=true) (ht:H ta=some (.tup (.str wd.str::xs))):∃ v0 e0 n0,BlkP H fs ρ1 p wd n es nd xs v0 e0 n0:=by
 cases an with
 | num=>cases hb
 | name=>cases hb
 | call=>cases hb
 | @bind _ _ _ _ a b na nb d hl x0 x1 ha hoff hb' dep =>
  have ni:wd≠.ite:=fun z=>by rw [z] at hl; cases hl
  cases ti with
  | call=>cases hl
  | bare l _ _=>rw [l] at hl; cases hl
  | bind l h tis =>
   rw [ht] at h
   injection h with h
   injection h with h
   injection h with _ h
   subst h
   cases tis with
   | cons t1 r=>cases r with
    | cons t2 r=>cases r with
     | nil=>exact⟨_,_,_,fun _=>at2,fun z=>absurd z ni,t1,List.mem_cons_self ..,ha,.inr ⟨hl,_,_,_,_,rfl,t2,rfl,rfl,x0,x1,hoff,hb',dep⟩⟩
 | @bare _ _ _ _ nps d hl ans dep =>
  obtain rfl:wd=.ite:=by
   revert hl hb
   cases wd <;> decide
  have l3:=dep.ite3
  rw [List.length_map] at l3
  cases ti with
  | leaf l _=>cases l
  | bind l _ _=>cases l
  | bare l h tis =>
   rw [ht] at h
   injection h with h
   injection h with h
   injection h with _ h
   subst h
   cases ans with
   | nil=>cases l3
   | cons a1 r=>cases r with
    | nil=>cases l3
    | cons a2 r=>cases r with
     | nil=>cases l3
     | cons a3 r=>cases r with
      | cons _ _=>simp at l3
      | nil =>
       cases tis with
       | cons t1 r=>cases r with
        | cons t2 r=>cases r with
         | cons t3 r=>cases r with
          | nil=>exact⟨_,_,_,fun z=>absurd rfl z,fun _=>at1,t1,List.mem_cons_self ..,a1,.inl ⟨rfl,_,_,_,_,_,_,_,rfl,t2,t3,rfl,rfl,a2,a3,dep_ite0 dep⟩⟩
theorem part_p {fs:List (List Nat×Nat)} {ρ1:Env1}{p:Nat}{wd:W}{n:Int}{es:List Ex}{nd:Nd}(an:An fs ρ1 p (.node wd n es) nd) (hb:wd.bl=false) (hn:wd≠.name):∃ nps dd,nd=.node wd p n nps dd∧Ans fs ρ1 (p+1) es nps ∧
  ((wd=.num∧es=[]∧nps=[]∧0≤n∧n≤10006)∨(wd.lay=3∧wd≠.ite∧n = -1∧Dep wd (nps.map Nd.d) dd)∨(wd=.call∧∃ (j:Nat) (ds:List Nat),n=(j:Int)∧j≤5∧fs[j]? = some (ds,dd)∧nps.map Nd.d=ds)):=by
 cases an with
 | num h1 h2=>exact⟨_,_,rfl,.nil,.inl ⟨rfl,rfl,rfl,h1,h2⟩⟩
 | name=>exact absurd rfl hn
 | call h1 h2 h3 h4=>exact⟨_,_,rfl,h3,.inr (.inr ⟨rfl,_,_,rfl,h1,h2,h4⟩)⟩
 | bind hl =>
  exfalso
  revert hl hb
  cases wd <;> decide
 | bare hl h3 dep=>exact⟨_,_,rfl,h3,.inr (.inl ⟨hl,(fun z=>by rw [z] at hb; cases hb),rfl,dep⟩)⟩
theorem Out.of {P:Program}{w:World}{m:Nat}{a:MA}{S S1:LSt}{L:Pth}{R R1:Nat→NR0→Zc→Prop}{H G G':Hp}{u v:V}(f:FrM a H G) (le:S1.fuel≤S.fuel) (out:Out P w Ts m a S1 L R1 G G' u v)
  (cv:∀ c r z,R1 c r z→(∀ y∈z.2.v,y≠[])→ResIn G' r u v→∃ c' z',S1.add c L z.2=S.add c' L z'.2∧R c' r z'∧∀ y∈z'.2.v,y≠[]):Out P w Ts m a S L R H G' u v:=by
 obtain⟨o1,o2,S',o3,o4,o5⟩:=out
 refine⟨f.trans o1,o2,S',o3,Int.le_trans o4 le,o5.imp id ?_⟩
 rintro⟨z0',zo,c,r,z,es,hR,hz,hres⟩
 obtain⟨c',z',e1,e2,e3⟩:=cv c r z hR hz hres
 exact⟨z0',zo,c',r,z',es.trans e1,e2,e3,hres⟩
theorem met_put {H:Hp}{a:MA}{S:LSt}{L:Pth}{fn p:Nat}{chA tk:Addr}{bv:V}(lm:LmIn P w H a S) (tb:Tabs Ts H) (few:(S.met.length:Int)+S.fuel≤9999) (f0:0≤S.fuel) (htk:H tk=some (.tup [.ref chA,.int (fn:Int),.int (p:Int)])) (hc:NkIn H (chK L) (.ref chA)) {Q:Hp→Prop}
  (q:∀ H',LmIn P w H' a ⟨S.fuel,S.work,S.deep,addM S.met (L,(fn,p))⟩→FrM a H H'→Tabs Ts H'→Q H'):rSetMet P w (.ref a.md) (.ref tk) bv H Q:=by
 refine⟨a.md,tk,S.met.map keyM,keyM (L,(fn,p)),rfl,rfl,lm.hk,.tup htk (.cons hc (.cons .num (.cons .num .nil))),keyM_depth _,by rw [List.length_map]; omega,fun H' hne hm => ?_⟩
 obtain⟨l2,f2⟩:=lm.putk (k:=(L,(fn,p))) hne hm
 exact q H' l2 f2 (tabs_met tb lm.hk hne)
theorem ne_path {a b:Zc}(h1:∀ y∈a.2.v,y≠[]) (h2:∀ y∈b.2.v,y≠[]):∀ y∈(zp a b).2.v,y≠[]:=fun y hy=>by
 rcases List.mem_append.mp (show y∈a.2.v++b.2.v from hy) with h | h
 ·exact h1 y h
 ·exact h2 y h
theorem ne_zr {n fn p:Nat}{k t:Int}:∀ y∈(zr n fn p k t).2.v,y≠[]:=fun y hy=>by
 rw [List.mem_singleton.mp (show y∈[[(fn,p)]] from hy)]
 exact fun z=>nomatch z
theorem BlkP.err {H:Hp}{fs:List (List Nat×Nat)} {ρ1:Env1}{p:Nat}{wd:W}{n:Int}{es:List Ex}{nd:Nd}{xs:List V}{v0:V}{e0:Ex}{n0:Nd}{fn c:Nat}{ρ:EnvW}{wi:List Nat}{er:Flt}{z:Zc}(bp:BlkP H fs ρ1 p wd n es nd xs v0 e0 n0) (hb:wd.bl=true) (hF:Fc tg fm c fn n0 ρ wi (.error er) z):Fc tg fm (c+1) fn nd ρ wi (.error er) z:=by
 have key:∃ nps dd,nd=.node wd p n (n0::nps) dd:=by
  rcases bp.alt with⟨_,_,_,_,_,_,_,_,_,_,_,_,h,_⟩ | ⟨_,_,_,_,_,_,_,_,h,_⟩
  ·exact⟨_,_,h⟩
  ·exact⟨_,_,h⟩
 obtain⟨nps,dd,rfl⟩:=key
 refine Fc.parts (fun y=>by rw [y] at hb; cases hb) (fun y=>by rw [y] at hb; cases hb) ?_
 have e:aheadOf wd (n0::nps)=[n0]:=by
  unfold aheadOf
  rw [if_pos hb]
  rfl
 rw [e]
 exact hF.oneE
theorem addAll_len (L:Pth):∀ (v:List Pth) (m:List MkP),(addAll m L v).length≤m.length+v.length
 | [],m=>Nat.le_refl _
 | y::v,m=>by
  have h1:=addAll_len L v (addM m (prM L y))
  have h2:=addM_len m (prM L y)
  show (addAll (addM m (prM L y)) L v).length≤m.length+(v.length+1)
  omega
theorem smp_err {x:W}{n:Int}{ws:List Wo}{e:Str}{i:Int}(h:Smp x n ws (.error e) i):i=0:=by cases h <;> rfl
theorem ans_le3 {fs:List (List Nat×Nat)} (h3:∀ q∈fs,q.2≤3):∀ {ρ:Env1}{p:Nat}{es:List Ex}{nds:List Nd},Ans fs ρ p es nds→∀ nd∈nds,nd.d≤3
 | _,_,_,_,.nil=>fun nd h=>nomatch h
 | _,_,_,_,.cons a r=>fun nd h=>by
  rcases List.mem_cons.mp h with rfl | h
  ·exact (An.td h3 a).le3
  ·exact ans_le3 h3 r nd h
theorem OutS.work {m:Nat}{S:LSt}(o:OutS m S) (k:Int):OutS m ⟨S.fuel,k,S.deep,S.met⟩:=⟨o.dl,o.few,o.f98⟩
theorem ok_done (C:PgC prog fm) (F:FnP K "_law_done" sLawDone f fd) (O_done:Okg P w K mg base CX0 k "_law_done" ["_law_m", "_law_at", "_law_place", "_law_tree_here", "_law_known"] (spDone P w Ts prog fm tg k)) (O_gone:Okg P w K mg base CX0 k "_law_gone" ["_law_m", "_law_at", "_law_place", "_law_tree_here", "_law_items", "_law_known"] (spGone P w Ts prog fm tg k)) (O_entered:Okg P w K mg base CX0 k "_law_entered" ["_law_m", "_law_at", "_law_place", "_law_tree_here", "_law_some"] (spEnt P w Ts prog fm tg k)) (O_size:Okf P w K mg base CX0 15 "_law_size" ["_law_tree_here"] (spSize K 12)) (O_parts:Okf P w K mg base CX0 15 "_law_parts" ["_law_tree_here"] (spParts K)) (O_simple:Okf P w K mg base CX0 15 "_law_simple" ["_law_m", "_law_at", "_law_tree_here", "_law_some"] (spSimple P w Ts)) (z_dict:mg "dict" = none):FnG P w K mg base CX0 (k+1) f fd ["_law_m", "_law_at", "_law_place", "_law_tree_here", "_law_known"] (spDone P w Ts prog fm tg (k+1)):=by
 have sc:=scsLawDone
 refine okG F sc (fun vs H Q E h => ?_) (fun cdv A outer s H vs Q E rm h => ?_)
 ·obtain⟨D,rfl,_⟩:=h
  rfl
 obtain⟨D,rfl,h,q⟩:=h
 obtain⟨a,S,x,p,tv,e,kA,ρ1,ρ,nd⟩:=D
 obtain⟨g,ti,an,few,kw,env,need⟩:=h
 dsimp only at g ti an few kw env need q
 have k68:=need.lo68
 obtain⟨M,rfl⟩:∃ M,k=M+1:=⟨k - 1,by omega⟩
 have hr:=Rm.room (j:=15) rm (by omega)
 have hu:=hu_of hr
 have hu64:=rm.units64
 obtain⟨wd,n,es⟩:=e
 refine⟨_,PSs.nox (pss_cons ((ps_dput hu (pv 0) pe_str (pe_op op_sub (pe_dget hu (pv 0) pe_str (fun _ _=>rfl)) pe_int) rfl))
  (pss_cons ((ps_if (pt_cmpR op_lt (pe_dget hu (pv 0) pe_str (fun _ _=>rfl)) pe_int (nomark _)) (pss_one (ps_ret (pe_tup (pa_cons pe_non (pa_cons (pe_tup (pa_cons pe_str (pa_cons pe_int (pa_cons pe_int pa_nil)))) pa_nil))))) pss_nil))
  (pss_cons ((ps_set (i:=5) sc.nd rfl (.inl rfl) (pe_ix (ix_tupK K) (pv 3) pe_int (fun _ _=>rfl))))
  (pss_cons ((ps_if (pt_cmpR op_eq (pv 5) pe_str (nomark _)) (pss_one (ps_ret (pe_tup (pa_cons (pe_dget hu (pv 4) (pe_ix (ix_tupK K) (pv 3) pe_int (fun _ _=>rfl)) (fun _ _=>rfl)) (pa_cons pe_non pa_nil))))) pss_nil))
  (pss_cons ((ps_if (pt_cmpR (op_inK K) (pv 5) (pe_tup (pa_cons pe_str (pa_cons pe_str (pa_cons pe_str (pa_cons pe_str pa_nil))))) (by rfl)) (pss_cons (ps_set (i:=6) sc.nd rfl (.inl rfl) (pe_op op_add (pe_op op_add (pv 2) pe_int) (pe_c O_size hr rfl pass0 (pa_cons (pe_ifExp (pt_cmpR op_ne (pv 5) pe_str (nomark _)) (pe_ix (ix_tupK K) (pv 3) pe_int (fun _ _=>rfl)) (pe_ix (ix_tupK K) (pv 3) pe_int (fun _ _=>rfl))) pa_nil))))
  (pss_cons (ps_set (i:=7) sc.nd rfl (.inl rfl) (pe_cG O_done rm rfl pass0 (pa_cons (pv 0) (pa_cons (pv 1) (pa_cons (pe_op op_add (pv 2) pe_int) (pa_cons (pe_ifExp (pt_cmpR op_ne (pv 5) pe_str (nomark _)) (pe_ix (ix_tupK K) (pv 3) pe_int (fun _ _=>rfl)) (pe_ix (ix_tupK K) (pv 3) pe_int (fun _ _=>rfl))) (pa_cons (pv 4) pa_nil)))))))
  (pss_cons (ps_if (pt_cmpR op_notN (pe_ix (ix_tupK K) (pv 7) pe_int (fun _ _=>rfl)) pe_non (nomark _)) (pss_one (ps_ret (pv 7))) pss_nil)
  (pss_cons (ps_if (pt_cmpR op_eq (pv 5) pe_str (nomark _)) (pss_cons (ps_set (i:=8) sc.nd rfl (.inl rfl) (pe_callTy call_dictD rfl z_dict (by decide +kernel) (pa_cons (pv 4) pa_nil)))
  (pss_cons (ps_dput hu (pv 8) (pe_ix (ix_tupK K) (pv 3) pe_int (fun _ _=>rfl)) (pe_ix (ix_tupK K) (pv 7) pe_int (fun _ _=>rfl)) rfl)
  (pss_one (ps_ret (pe_cG O_done rm rfl pass0 (pa_cons (pv 0) (pa_cons (pv 1) (pa_cons (pv 6) (pa_cons (pe_ix (ix_tupK K) (pv 3) pe_int (fun _ _=>rfl)) (pa_cons (pv 8) pa_nil)))))))))) pss_nil)
  (pss_cons (ps_asg pe_bl (pg_sub (pe_dget hu (pv 0) pe_str (fun _ _=>rfl)) (pe_tup (pa_cons (pe_ix (ix_tupK K) (pv 1) pe_int (fun _ _=>rfl)) (pa_cons (pe_ix (ix_tupK K) (pv 1) pe_int (fun _ _=>rfl)) (pa_cons (pv 2) pa_nil)))) (set_met hu64)))
  (pss_cons (ps_dput hu (pv 0) pe_str (pe_op op_add (pe_dget hu (pv 0) pe_str (fun _ _=>rfl)) pe_int) rfl)
  (pss_cons (ps_if (pt_cmpR op_ne (pv 5) pe_str (nomark _)) (pss_one (ps_ret (pe_cG O_gone rm rfl pass0 (pa_cons (pv 0) (pa_cons (pv 1) (pa_cons (pv 6) (pa_cons (pv 3) (pa_cons (pe_ix (ix_tupK K) (pv 7) pe_int (fun _ _=>rfl)) (pa_cons (pv 4) pa_nil))))))))) pss_nil)
  (pss_cons (ps_if (pt_cmpR op_ne (pe_ix (ix_tupK K) (pv 7) pe_int (fun _ _=>rfl)) pe_int (nomark _)) (pss_one (ps_ret (pe_cG O_done rm rfl pass0 (pa_cons (pv 0) (pa_cons (pv 1) (pa_cons (pv 6) (pa_cons (pe_ix (ix_tupK K) (pv 3) pe_int (fun _ _=>rfl)) (pa_cons (pv 4) pa_nil)))))))) pss_nil)
  (pss_one (ps_ret (pe_cG O_done rm rfl pass0 (pa_cons (pv 0) (pa_cons (pv 1) (pa_cons (pe_op op_add (pv 6) (pe_c O_size hr rfl pass0 (pa_cons (pe_ix (ix_tupK K) (pv 3) pe_int (fun _ _=>rfl)) pa_nil))) (pa_cons (pe_ix (ix_tupK K) (pv 3) pe_int (fun _ _=>rfl)) (pa_cons (pv 4) pa_nil)))))))))))))))) pss_nil))
  (pss_cons ((ps_set (i:=9) sc.nd rfl (.inl rfl) (pe_lst pa_nil)))
  (pss_cons ((ps_set (i:=10) sc.nd rfl (.inl rfl) (pe_op op_add (pv 2) pe_int)))
  (pss_cons ((ps_for PassesOwn.never rfl (pi_tupK K (pe_c O_parts hr rfl pass0 (pa_cons (pv 3) pa_nil))) (pg_name (i:=11) sc.nd rfl (.inl rfl)) (pss_cons (ps_set (i:=12) sc.nd rfl (.inl rfl) (pe_cG O_done rm rfl pass0 (pa_cons (pv 0) (pa_cons (pv 1) (pa_cons (pv 10) (pa_cons (pv 11) (pa_cons (pv 4) pa_nil)))))))
  (pss_cons (ps_if (pt_cmpR op_notN (pe_ix (ix_tupK K) (pv 12) pe_int (fun _ _=>rfl)) pe_non (nomark _)) (pss_one (ps_ret (pv 12))) pss_nil)
  (pss_cons (ps_expr (pe_bm PySem.F.plainAttrs_list PySem.F.slot_list_append PySem.F.type_list_append mt_append (pv 9) (pa_cons (pe_ix (ix_tupK K) (pv 12) pe_int (fun _ _=>rfl)) pa_nil)))
  (pss_one (ps_set (i:=10) sc.nd rfl (.inl rfl) (pe_op op_add (pv 10) (pe_c O_size hr rfl pass0 (pa_cons (pv 11) pa_nil))))))))))
  (pss_cons ((ps_asg pe_bl (pg_sub (pe_dget hu (pv 0) pe_str (fun _ _=>rfl)) (pe_tup (pa_cons (pe_ix (ix_tupK K) (pv 1) pe_int (fun _ _=>rfl)) (pa_cons (pe_ix (ix_tupK K) (pv 1) pe_int (fun _ _=>rfl)) (pa_cons (pv 2) pa_nil)))) (set_met hu64))))
  (pss_cons ((ps_dput hu (pv 0) pe_str (pe_op op_add (pe_dget hu (pv 0) pe_str (fun _ _=>rfl)) pe_int) rfl))
  (pss_one ((ps_ret (pe_ifExp (pt_cmpR op_ne (pv 5) pe_str (nomark _)) (pe_c O_simple hr rfl pass0 (pa_cons (pv 0) (pa_cons (pe_tup (pa_cons (pe_ix (ix_tupK K) (pv 1) pe_int (fun _ _=>rfl)) (pa_cons (pv 2) pa_nil))) (pa_cons (pv 3) (pa_cons (pv 9) pa_nil))))) (pe_cG O_entered rm rfl pass0 (pa_cons (pv 0) (pa_cons (pv 1) (pa_cons (pv 2) (pa_cons (pv 3) (pa_cons (pv 9) pa_nil)))))))))))))))))))),?_⟩
 obtain⟨w1,w2,w3,w4,w5⟩:=lm_fuel (Ts:=Ts) g.lm (.refl H) g.tabs (S.fuel - 1)
 refine⟨_,rfl,a.m,_,rfl,w1,_,_,rfl,rfl,_,rfl,a.m,_,rfl,w2,?_⟩
 have ik:=FrM.ik g.lm w4
 have kw1:=KwIn.fr g.lm w4 kw
 have ti1:=ti.mono ik.t
 have g1:0≤S.fuel - 1→GrH P w Ts prog fm (upd H a.m (.dK (mKv a (S.fuel - 1) S.work))) a ⟨S.fuel - 1,S.work,S.deep,S.met⟩ x:=fun h0=>g.fr w4 w5 w3 (fun h=>⟨(g.os (by omega)).dl,by have:=(g.os (by omega)).few; show (S.met.length:Int)+(S.fuel - 1)≤9999; omega,by have:=(g.os (by omega)).f98; show S.fuel - 1≤9998; omega⟩) (by show S.fuel - 1≤S.fuel; omega)
 clear ti kw
 generalize upd H a.m (.dK (mKv a (S.fuel - 1) S.work))=H1 at w2 w3 w4 w5 ik kw1 ti1 g1 ⊢
 obtain⟨ta,xs,rfl,hta⟩:=ti1.key
 try dsimp only [gName]
 refine if_restS (fun σ' H'=>0≤S.fuel - 1∧σ'=[some (.ref a.m),some (.ref x.tA),some (.int (p:Int)),some (.ref ta),some (.ref kA),none,none,none,none,none,none,none,none]∧H'=H1) ?rest fun nx => ?now
 case now =>
  refine⟨_,rfl,a.m,_,rfl,DGet.k (k:=Sum.inr "fuel") w3.hm,_,_,rfl,rfl,_,rfl,?_⟩
  refine ite2 (fun z => ?_) (fun z => ?_)
  ·have z:=of_decide_eq_true z
   refine⟨by show 3≤sizeLine; decide,fun ft hft=>⟨by show 2≤sizeLine; decide,fun t9 ht9 => ?_⟩⟩
   have y1:=same_new hft (.tup [.str "tired", .int 0,.int 0])
   have q1:upd H1 ft (.tup [.str "tired", .int 0,.int 0]) ft=some (.tup [.str "tired", .int 0,.int 0]):=upd_same
   generalize upd H1 ft (.tup [.str "tired", .int 0,.int 0])=H3 at y1 q1 ht9 ⊢
   have y2:=same_new ht9 (.tup [.non,.ref ft])
   have y3:=y1.trans y2
   exact q _ t9 _ _ ⟨w4.trans (.same y3),w5.ext y3,_,w3.same y3,by show S.fuel - 1≤S.fuel; omega,.inl ⟨z,rfl,ft,_,rfl,y2 _ _ q1,rfl⟩⟩ (fun _ h=>absurd z (by have h:1≤S.fuel:=h; show ¬ S.fuel - 1 < 0; omega)) upd_same
  ·have z:=of_decide_eq_false (Bool.eq_false_iff.mpr z)
   exact nx _ _ ⟨by have z:¬ S.fuel - 1 < 0:=z; omega,rfl,rfl⟩
 case rest =>
 rintro σ3 H3 ⟨f0,rfl,rfl⟩
 have g1:=g1 f0
 try dsimp only [gName]
 refine⟨_,rfl,ta,_,_,_,rfl,rfl,SqT.of hta,at0,?_⟩
 try dsimp only [gName]
 refine if_restS (fun σ' H'=>wd≠.name∧σ'=[some (.ref a.m),some (.ref x.tA),some (.int (p:Int)),some (.ref ta),some (.ref kA),some (.str wd.str),none,none,none,none,none,none,none]∧H'=H3) ?rest fun nx => ?now
 case now =>
  refine⟨_,rfl,rfl,_,rfl,?_⟩
  rw [isNm]
  refine ite2 (fun z => ?_) (fun z=>nx _ _ ⟨fun y=>z (decide_eq_true y),rfl,rfl⟩)
  have hx:=of_decide_eq_true z
  subst hx
  obtain⟨l,hkl,kok⟩:=kw1
  have hq:∃ (w9:Wo) (v9:V),xs=[.int n]∧Fc tg fm 1 x.fn nd ρ x.wi (.ok w9) z0∧DGet H3 kA (.int n) (some v9)∧WIn H3 v9 w9:=by
   cases an with
   | bind hl=>cases hl
   | bare hl=>cases hl
   | name x0 x1 hd d3 =>
    obtain⟨w9,h1,h2⟩:=env _ _ hd
    obtain⟨v9,h3,h4⟩:=kok.ok _ _ h1
    refine⟨w9,v9,?_,Fc.name h1,?_,h4⟩
    ·cases ti1 with
     | leaf _ h =>
      rw [hta] at h
      injection h with h
      injection h with h
      injection h with _ h
     | bind l _ _=>cases l
     | bare l _ _=>cases l
    ·rw [← h3]
     exact DGet.k (k:=Sum.inl n) hkl
  obtain⟨w9,v9,rfl,hF,hdg,hv9⟩:=hq
  refine⟨_,rfl,_,rfl,ta,_,_,_,rfl,rfl,SqT.of hta,at1,kA,_,rfl,hdg,by show 2≤sizeLine; decide,fun t9 ht9 => ?_⟩
  have y2:=same_new ht9 (.tup [v9,.non])
  exact q _ t9 _ _ ⟨w4.trans (.same y2),w5.ext y2,_,w3.same y2,by show S.fuel - 1≤S.fuel; omega,.inr ⟨f0,g1.os f0,1,.ok w9,z0,(LSt.add_zero _ x.L).symm.trans (S.step1 0 x.L .zero),hF,(fun y hy=>nomatch hy),rfl,hv9.mono (TK.of y2)⟩⟩ (fun _ _=>rfl) upd_same
 case rest =>
 rintro σ3 H4 ⟨xn,rfl,rfl⟩
 have q:=fun (H':Hp) (t:Addr) (u v:V) o h=>q H' t u v o (fun hn _=>absurd (an.nm_ hn) xn) h
 have hat:=g1.at_.ht
 refine if_restS (fun σ' H'=>wd.bl=false∧σ'=[some (.ref a.m),some (.ref x.tA),some (.int (p:Int)),some (.ref ta),some (.ref kA),some (.str wd.str),none,none,none,none,none,none,none]∧Same H4 H') ?rest fun nx => ?now
 case now =>
  refine⟨_,rfl,by show 4≤sizeLine; decide,fun p1 hp1 => ?_⟩
  refine⟨p1,_,rfl,.inr (SqT.of upd_same),rfl,rfl,_,rfl,?_⟩
  have s1:=same_new hp1 (.tup blW2)
  generalize upd H4 p1 (.tup [.str "let", .str "if", .str "each", .str "where"])=H5 at s1 ⊢
  rw [inBlk]
  refine ite2 (fun hb => ?_) (fun hb=>nx _ _ ⟨Bool.eq_false_iff.mpr hb,rfl,s1⟩)
  clear nx
  have hta5:=s1 _ _ hta
  obtain⟨v0,e0,n0,bp⟩:=blk_p (ti1.mono (TK.of s1)) an hb hta5
  have g5:=g1.same s1
  have kw5:=KwIn.fr g1.lm (.same s1) kw1
  have f5:=w4.trans (.same s1)
  have h12:e0.hgt≤12:=by
   have:=hgt_mem (w:=wd) (n:=n) bp.m0
   have:=need.h13
   omega
  have few0:e0.few:=by
   obtain⟨i,hi⟩:=List.getElem?_of_mem bp.m0
   exact fews_mem few.2 hi
  have e8:(p:Int)+1+(e0.size:Int)=((p+1+e0.size:Nat):Int):=by omega
  have os1:=g1.os f0
  clear hat s1 kw1 g1 w1 w2 w3 w4 w5 ik hta
  refine seq_restS (fun σ' H'=>σ'=[some (.ref a.m),some (.ref x.tA),some (.int (p:Int)),some (.ref ta),some (.ref kA),some (.str wd.str),some (.int ((p:Int)+1+(e0.size:Int))),none,none,none,none,none,none]∧Same H5 H') ?rst1 fun nx => ?now1
  case now1 =>
   refine⟨_,rfl,_,_,rfl,rfl,_,rfl,rfl,_,rfl,?_⟩
   rw [isIfN]
   refine ite2 (fun z => ?_) (fun z => ?_)
   ·exact⟨_,rfl,ta,_,_,_,rfl,rfl,SqT.of hta5,bp.s2 (of_decide_eq_true z),v0,e0,rfl,bp.t0,h12,few0,fun H' s'=>⟨_,_,rfl,rfl,nx _ _ ⟨rfl,s'⟩⟩⟩
   ·exact⟨_,rfl,ta,_,_,_,rfl,rfl,SqT.of hta5,bp.s1 (Decidable.not_not.mp fun y=>z (decide_eq_true y)),v0,e0,rfl,bp.t0,h12,few0,fun H' s'=>⟨_,_,rfl,rfl,nx _ _ ⟨rfl,s'⟩⟩⟩
  case rst1 =>
  rintro σ6 H6 ⟨rfl,s6⟩
  rw [e8]
  have hta6:=s6 _ _ hta5
  have g6:=g5.same s6
  have kw6:=KwIn.fr g5.lm (.same s6) kw5
  have f6:=f5.trans (.same s6)
  clear kw5 f5
  have t06:=bp.t0.mono (TK.of s6)
  refine seq_restS (fun σ' H'=>∃ t u v,σ'=[some (.ref a.m),some (.ref x.tA),some (.int (p:Int)),some (.ref ta),some (.ref kA),some (.str wd.str),some (.int ((p+1+e0.size:Nat):Int)),some (.ref t),none,none,none,none,none]∧Out P w Ts fm.length a ⟨S.fuel - 1,S.work,S.deep,S.met⟩ x.L (fun c r z=>Fc tg fm c x.fn n0 ρ x.wi r z) H6 H' u v∧H' t=some (.tup [u,v])) ?rst2 fun nx => ?now2
  case now2 =>
   refine⟨_,rfl,_,rfl,_,rfl,_,_,rfl,rfl,_,rfl,rfl,_,rfl,?_⟩
   rw [isIfN]
   have hD:DnH P w Ts prog fm (M+1) H6 ⟨a,⟨S.fuel - 1,S.work,S.deep,S.met⟩,x,p+1,v0,e0,kA,ρ1,ρ,n0⟩:=⟨g6,t06,bp.a0,few0,kw6,env,(need.child bp.m0).mono (Nat.le_succ _)⟩
   refine ite2 (fun z => ?_) (fun z => ?_)
   ·exact⟨_,rfl,ta,_,_,_,rfl,rfl,SqT.of hta6,bp.s2 (of_decide_eq_true z),_,rfl,⟨a,⟨S.fuel - 1,S.work,S.deep,S.met⟩,x,p+1,v0,e0,kA,ρ1,ρ,n0⟩,rfl,hD,fun G4 t u v out _ ht=>nx _ _ ⟨t,u,v,rfl,out,ht⟩⟩
   ·exact⟨_,rfl,ta,_,_,_,rfl,rfl,SqT.of hta6,bp.s1 (Decidable.not_not.mp fun y=>z (decide_eq_true y)),_,rfl,⟨a,⟨S.fuel - 1,S.work,S.deep,S.met⟩,x,p+1,v0,e0,kA,ρ1,ρ,n0⟩,rfl,hD,fun G4 t u v out _ ht=>nx _ _ ⟨t,u,v,rfl,out,ht⟩⟩
  case rst2 =>
  rintro σ7 H7 ⟨t,u,v,rfl,out,ht⟩
  refine if_restS (fun σ' H'=>v=.non∧σ'=[some (.ref a.m),some (.ref x.tA),some (.int (p:Int)),some (.ref ta),some (.ref kA),some (.str wd.str),some (.int ((p+1+e0.size:Nat):Int)),some (.ref t),none,none,none,none,none]∧H'=H7) ?rst3 fun nx => ?now3
  case now3 =>
   refine⟨_,rfl,t,_,_,_,rfl,rfl,SqT.of ht,at1,rfl,_,rfl,?_⟩
   refine ite2 (fun z => ?_) (fun z=>nx _ _ ⟨?_,rfl,rfl⟩)
   ·have hv:v≠.non:=fun y=>by
     rw [y] at z
     exact absurd z (by decide)
    refine⟨_,rfl,q H7 t u v (Out.of f6 (by show S.fuel - 1≤S.fuel; omega) out fun c r zz hF hz hres => ?_) ht⟩
    cases r with
    | ok w9=>exact absurd hres.1 hv
    | error e9=>exact⟨c+1,zz,S.step1 c x.L zz.2,bp.err hb hF,hz⟩
   ·refine Decidable.not_not.mp fun y=>z ?_
    rw [decide_eq_false y]
    rfl
  case rst3 =>
  rintro σ8 H8 ⟨rfl,rfl,rfl⟩
  obtain⟨o1,o2,S',o3,o4,o5⟩:=out
  rcases o5 with⟨_,_,ft,ys,h,_⟩ | ⟨f0',os',c,r,z,es',hF,hz,hres⟩
  ·cases h
  cases r with
  | error e9 =>
   obtain⟨_,ft,h,_⟩:=hres
   cases h
  | ok w0 =>
  obtain⟨_,wu⟩:=hres
  have eS:S'=S.add (c+1) x.L z.2:=es'.trans (S.step1 c x.L z.2)
  have o4:S'.fuel≤S.fuel - 1:=o4
  have le8:S'.fuel≤S.fuel:=by omega
  have g8:=g6.fr o1 o2 o3 (fun _=>os') o4
  have f8:=f6.trans o1
  have kw8:=KwIn.fr g6.lm o1 kw6
  have ik8:=FrM.ik g6.lm o1
  have tk8:TK H5 H8:=(TK.of s6).trans ik8.t
  have hta8:=ik8.t _ _ hta6
  have wok0:WOk n0.d w0:=by
   obtain⟨w',hfev,_⟩:=hF
   exact (fev_wok (PgT.of C.g C.n) _).1 subF_take bp.a0 env hfev
  have zl:z.2.v.length≤c:=by
   obtain⟨w',_,_,_,h⟩:=hF
   exact h
  have fw8:(S'.met.length:Int)+S'.fuel≤9998:=by
   have h1:=os1.few
   have h2:=addAll_len x.L z.2.v S.met
   have h3:(S.met.length:Int)+(S.fuel - 1)≤9998:=by
    have:=(g.os (by omega)).few
    omega
   rw [es']
   show ((addAll S.met x.L z.2.v).length:Int)+(S.fuel - 1 - c)≤9998
   omega
  clear kw6 f6 es' o1 o2 o3
  refine if_restS (fun σ' H'=>wd≠.elet∧σ'=[some (.ref a.m),some (.ref x.tA),some (.int (p:Int)),some (.ref ta),some (.ref kA),some (.str wd.str),some (.int ((p+1+e0.size:Nat):Int)),some (.ref t),none,none,none,none,none]∧H'=H8) ?rst4 fun nx => ?now4
  case now4 =>
   refine⟨_,rfl,rfl,_,rfl,?_⟩
   rw [isLt]
   refine ite2 (fun z9 => ?_) (fun z9=>nx _ _ ⟨fun y=>z9 (decide_eq_true y),rfl,rfl⟩)
   have hx:=of_decide_eq_true z9
   subst hx
   rcases bp.alt with⟨h,_⟩ | ⟨hl,vb,eb,nb,dd,rfl,tb,rfl,rfl,x0,x1,hoff,anb,dep⟩
   ·cases h
   obtain⟨l,hkl,kok⟩:=kw8
   refine⟨_,rfl,kA,_,rfl,.inl hkl,fun inn hinn => ?_⟩
   obtain⟨l',el',kok'⟩:=putK_kw kok x0 x1 wu
   refine⟨_,rfl,t,_,_,_,rfl,rfl,SqT.of (same_new hinn _ _ _ ht),at0,_,rfl,_,rfl,ta,_,_,_,rfl,rfl,SqT.of (same_new hinn _ _ _ hta8),at1,inn,_,rfl,DPut.k (k:=Sum.inl n) upd_same (by rw [List.length_map]; have:=kok.few; exact small1000 (by omega)),?_⟩
   rw [upd_upd,el']
   have s9:=same_new hinn (.dK (l'.map kwOf))
   have ein:upd H8 inn (.dK (l'.map kwOf)) inn=some (.dK (l'.map kwOf)):=upd_same
   generalize upd H8 inn (.dK (l'.map kwOf))=H9 at s9 ein ⊢
   have fewb:eb.few:=fews_mem few.2 (i:=1) rfl
   refine⟨_,rfl,_,rfl,_,rfl,_,rfl,ta,_,_,_,rfl,rfl,SqT.of (s9 _ _ hta8),at3,_,rfl,⟨a,S',x,p+1+e0.size,vb,eb,inn,ups ρ1 n n0.d,upw ρ n w0,nb⟩,rfl,⟨g8.same s9,(tb.mono tk8).mono (TK.of s9),anb,fewb,⟨_,ein,kok'.mono (TK.of s9)⟩,env.up wok0,(need.child (by simp)).mono (Nat.le_succ _)⟩,fun G t9 u9 v9 out _ ht9=>q G t9 u9 v9 (Out.of (f8.trans (.same s9)) le8 out fun c2 r2 z2 hF2 hz2 _=>⟨c+c2+1,zp z z2,?_,Fc.elet hF hF2,ne_path hz hz2⟩) ht9⟩
   rw [eS,LSt.add_add,show c+1+c2=c+c2+1 by omega]
   rfl
  case rst4 =>
  rintro σ8 H9 ⟨xlet,rfl,rfl⟩
  have hat8:=g8.at_.ht
  refine⟨_,rfl,a.m,_,rfl,DGet.k (k:=Sum.inr "met") g8.lm.hm,_,rfl,x.tA,_,_,_,rfl,rfl,SqT.of hat8,at1,_,rfl,x.tA,_,_,_,rfl,rfl,SqT.of hat8,at0,_,rfl,by show 3≤sizeLine; decide,fun tk htk => ?_⟩
  have y:=same_new htk (.tup [.ref x.chA,.int (x.fn:Int),.int (p:Int)])
  refine met_put (L:=x.L) (fn:=x.fn) (p:=p) (g8.lm.same y) (g8.tabs.ext y) os'.few f0' upd_same (g8.at_.hc.mono (TK.of y)) fun H10 l10 f10 t10 => ?_
  obtain⟨w1,w2,w3,w4,w5⟩:=lm_work (Ts:=Ts) l10 (.refl H10) t10 (S'.work+1)
  refine⟨_,rfl,a.m,_,rfl,w1,_,_,rfl,rfl,_,rfl,a.m,_,rfl,w2,?_⟩
  have fX:FrM a H9 _:=(FrM.same y).trans (f10.trans w4)
  have osX:OutS fm.length ⟨S'.fuel,S'.work+1,S'.deep,addM S'.met (x.L,(x.fn,p))⟩:=⟨os'.dl,by have:=addM_len S'.met (x.L,(x.fn,p)); show ((addM S'.met (x.L,(x.fn,p))).length:Int)+S'.fuel≤9999; omega,os'.f98⟩
  have gX:=g8.fr fX w5 w3 (fun _=>osX) (Int.le_refl _)
  have kwX:=KwIn.fr g8.lm fX kw8
  have ikX:=FrM.ik g8.lm fX
  dsimp only at w2
  generalize upd H10 a.m _=HX at w2 w3 w4 w5 fX gX kwX ikX ⊢
  have f11:=f8.trans fX
  have htX:=ikX.t _ _ ht
  have htaX:=ikX.t _ _ hta8
  have tkX:=tk8.trans ikX.t
  have wuX:=wu.mono ikX.t
  clear w1 w2 w3 w4 w5 f10 t10 l10 y htk
  try dsimp only
  refine if_restS (fun σ' H'=>wd=.ite∧σ'=[some (.ref a.m),some (.ref x.tA),some (.int (p:Int)),some (.ref ta),some (.ref kA),some (.str wd.str),some (.int ((p+1+e0.size:Nat):Int)),some (.ref t),none,none,none,none,none]∧H'=HX) ?rst5 fun nx => ?now5
  case now5 =>
   refine⟨_,rfl,rfl,_,rfl,?_⟩
   rw [isIfN]
   refine ite2 (fun z9 => ?_) (fun z9=>nx _ _ ⟨Decidable.not_not.mp fun y=>z9 (decide_eq_true y),rfl,rfl⟩)
   have ni:=of_decide_eq_true z9
   rcases bp.alt with⟨h,_⟩ | ⟨hl,vb,eb,nb,dd,rfl,tb,rfl,rfl,x0,x1,hoff,anb,dep⟩
   ·exact absurd h ni
   have hxw:wd=.each∨wd=.whr:=by
    revert hl xlet
    cases wd <;> decide
   have off1:wd.off=1:=by rcases hxw with rfl | rfl <;> rfl
   rw [off1] at hoff anb
   obtain⟨dn,edn⟩:∃ dn,n0.d=dn+1:=⟨n0.d - 1,by omega⟩
   rw [edn] at wok0
   obtain⟨ws,rfl,l40,wok⟩:=wok_row wok0
   obtain⟨ia,us,rfl,hia,hws⟩:∃ ia us,u=.ref ia∧HX ia=some (.tup us)∧WIns HX us ws:=by
    cases wuX with
    | row h1 h2=>exact⟨_,_,rfl,h1,h2⟩
   have fewb:eb.few:=fews_mem few.2 (i:=1) rfl
   have hxw2:wd=.each∨(wd=.whr∧nb.d=0):=hxw.imp id fun h=>⟨h,by subst h; exact dep_whr0 dep⟩
   rw [edn] at anb
   refine⟨_,rfl,_,rfl,_,rfl,_,rfl,_,rfl,t,_,_,_,rfl,rfl,SqT.of htX,at0,_,rfl,⟨a,⟨S'.fuel,S'.work+1,S'.deep,addM S'.met (x.L,(x.fn,p))⟩,x,p+1+e0.size,ta,wd,n,v0,vb,eb,ia,us,ws,kA,ρ1,ρ,dn,nb⟩,rfl,⟨gX,f0',htaX,hxw2,x0,x1,tb.mono tkX,anb,fewb,hia,hws,l40,wok,kwX,env,M,rfl,need.child (by simp)⟩,fun G t9 u9 v9 out ht9=>q G t9 u9 v9 (Out.of (S1:=⟨S'.fuel,S'.work+1+(us.length:Int),S'.deep,addM S'.met (x.L,(x.fn,p))⟩) f11 le8 out fun c2 r2 z2 ⟨rs,hF2,hg⟩ hz2 _=>⟨c+c2+1,zp z (zp (zr ws.length x.fn p (1+ws.length) (tg x.fn p*ws.length)) z2),?_,?_,ne_path hz (ne_path ne_zr hz2)⟩) ht9⟩
   ·rw [hws.wlen]
    have er:=S'.row x.L x.fn p (1+(ws.length:Int)) (tg x.fn p*(ws.length:Int))
    rw [← Int.add_assoc] at er
    rw [← er,eS,LSt.add_add,LSt.add_add,show c+1+(0+c2)=c+c2+1 by omega]
    rfl
   ·rcases hxw with rfl | rfl
    ·obtain rfl:r2=gatR rs:=hg
     exact Fc.each hF hF2 l40
    ·exact Fc.whr hF hF2 l40 hg
  case rst5 =>
  rintro σ9 H11 ⟨rfl,rfl,rfl⟩
  rcases bp.alt with⟨_,va,vb,ea,eb,na,nb,dd,rfl,tva,tvb,rfl,rfl,ana,anb,d0⟩ | ⟨hl,_⟩
  rotate_left
  ·cases hl
  rw [d0] at wok0
  obtain⟨vn,rfl,_⟩:=wok_num wok0
  cases wuX
  have er:=S'.row x.L x.fn p 1 (tg x.fn p)
  have cv:∀ (c2:Nat) (r2:NR0) (z2:Zc) (nx:Nd),(if vn≠0 then na else nb)=nx→Fc tg fm c2 x.fn nx ρ x.wi r2 z2→(∀ y∈z2.2.v,y≠[])→∃ c' z',(LSt.mk S'.fuel (S'.work+1) S'.deep (addM S'.met (x.L,(x.fn,p)))).add c2 x.L z2.2=S.add c' x.L z'.2∧Fc tg fm c' x.fn (.node .ite p n [n0,na,nb] dd) ρ x.wi r2 z'∧∀ y∈z'.2.v,y≠[]:=fun c2 r2 z2 nx hx hF2 hz2=>by
   subst hx
   refine⟨c+c2+1,zp z (zp (zr 0 x.fn p 1 (tg x.fn p)) z2),?_,Fc.ite hF hF2,ne_path hz (ne_path ne_zr hz2)⟩
   rw [← er,eS,LSt.add_add,LSt.add_add,show c+1+(0+c2)=c+c2+1 by omega]
   rfl
  have fewa:ea.few:=fews_mem few.2 (i:=1) rfl
  have fewb:eb.few:=fews_mem few.2 (i:=2) rfl
  refine if_restS (fun σ' H'=>vn=0∧σ'=[some (.ref a.m),some (.ref x.tA),some (.int (p:Int)),some (.ref ta),some (.ref kA),some (.str W.ite.str),some (.int ((p+1+e0.size:Nat):Int)),some (.ref t),none,none,none,none,none]∧H'=H11) ?rst6 fun nx => ?now6
  case now6 =>
   refine⟨_,rfl,t,_,_,_,rfl,rfl,SqT.of htX,at0,rfl,_,rfl,?_⟩
   refine ite2 (fun z9 => ?_) (fun z9=>nx _ _ ⟨?_,rfl,rfl⟩)
   ·have v0n:vn≠0:=fun h=>by
     rw [h] at z9
     exact absurd z9 (by decide)
    refine⟨_,rfl,_,rfl,_,rfl,_,rfl,ta,_,_,_,rfl,rfl,SqT.of htaX,at2,_,rfl,⟨a,⟨S'.fuel,S'.work+1,S'.deep,addM S'.met (x.L,(x.fn,p))⟩,x,p+1+e0.size,va,ea,kA,ρ1,ρ,na⟩,rfl,⟨gX,tva.mono tkX,ana,fewa,kwX,env,(need.child (by simp)).mono (Nat.le_succ _)⟩,fun G t9 u9 v9 out _ ht9=>q G t9 u9 v9 (Out.of (S1:=⟨S'.fuel,S'.work+1,S'.deep,addM S'.met (x.L,(x.fn,p))⟩) f11 le8 out fun c2 r2 z2 hF2 hz2 _=>cv c2 r2 z2 na (if_pos v0n) hF2 hz2) ht9⟩
   ·refine Decidable.not_not.mp fun y=>z9 ?_
    rw [decide_eq_false (fun h=>y (by injection h))]
    rfl
  case rst6 =>
  rintro σ9 H12 ⟨rfl,rfl,rfl⟩
  have hb12:eb.hgt≤12∧ea.hgt≤12:=by
   have h1:=hgt_mem (w:=.ite) (n:=n) (ps:=[e0,ea,eb]) (e:=ea) (by simp)
   have h2:=hgt_mem (w:=.ite) (n:=n) (ps:=[e0,ea,eb]) (e:=eb) (by simp)
   have:=need.h13
   omega
  refine⟨_,rfl,_,rfl,_,rfl,_,rfl,ta,_,_,_,rfl,rfl,SqT.of htaX,at2,va,ea,rfl,tva.mono tkX,hb12.2,fewa,fun H' s'=>⟨_,_,rfl,rfl,_,rfl,ta,_,_,_,rfl,rfl,SqT.of (s' _ _ htaX),at3,_,rfl,⟨a,⟨S'.fuel,S'.work+1,S'.deep,addM S'.met (x.L,(x.fn,p))⟩,x,p+1+e0.size+ea.size,vb,eb,kA,ρ1,ρ,nb⟩,rfl,⟨gX.same s',(tvb.mono tkX).mono (TK.of s'),anb,fewb,KwIn.fr gX.lm (.same s') kwX,env,(need.child (by simp)).mono (Nat.le_succ _)⟩,fun G t9 u9 v9 out _ ht9=>q G t9 u9 v9 (Out.of (S1:=⟨S'.fuel,S'.work+1,S'.deep,addM S'.met (x.L,(x.fn,p))⟩) (f11.trans (.same s')) le8 out fun c2 r2 z2 hF2 hz2 _=>cv c2 r2 z2 nb (if_neg (fun y=>y rfl)) hF2 hz2) ht9⟩⟩
 case rest =>
 rintro σ4 H5 ⟨hb,rfl,s5⟩
 obtain⟨nps,dd,rfl,ans,alt⟩:=part_p an hb xn
 have g5:=g1.same s5
 have f5:=w4.trans (.same s5)
 have kw5:=KwIn.fr g1.lm (.same s5) kw1
 have hta5:=s5 _ _ hta
 have ti5:=ti1.mono (TK.of s5)
 have os1:=g1.os f0
 have fw1:(S.met.length:Int)+(S.fuel - 1)≤9998:=by
  have:=(g.os (by omega)).few
  omega
 have lnp:=ans.len
 have l4:=few.1
 have ahd:aheadOf wd nps=nps:=by
  unfold aheadOf
  rw [hb]
  rfl
 clear hat s5 kw1 g1 w1 w2 w3 w4 w5 ik hta ti1
 refine⟨by show 0≤sizeLine; decide,fun sl hsl => ?_⟩
 have s6:=same_new hsl (.lst [])
 have esl:upd H5 sl (.lst []) sl=some (.lst []):=upd_same
 have nsl:sl≠a.m∧sl≠a.dl∧sl≠a.md:=by
  refine⟨fun z => ?_,fun z => ?_,fun z => ?_⟩
  ·rw [z,g5.lm.hm] at hsl; cases hsl
  ·rw [z,g5.lm.hd] at hsl; cases hsl
  ·obtain⟨xs,h1,_⟩:=g5.lm.hk
   rw [z,h1] at hsl; cases hsl
 generalize upd H5 sl (.lst [])=H6 at s6 esl ⊢
 have hta6:=s6 _ _ hta5
 have ti6:=ti5.mono (TK.of s6)
 clear hta5 ti5
 try dsimp only [gName]
 refine⟨_,rfl,_,_,rfl,rfl,?_⟩
 try dsimp only [gName]
 refine⟨_,rfl,.ref ta,wd,n,es,rfl,ti6,fun pt H7 pvs s7 ept tis=>⟨pt,rfl,⟨_,SqT.of ept⟩,?_⟩⟩
 have s57:=s6.trans s7
 have hta7:=s7 _ _ hta6
 have esl7:=s7 _ _ esl
 have ti7:=ti6.mono (TK.of s7)
 have lpv:=tis.len
 clear hta6 ti6 s6 s7
 refine for_tup (K:=K) (a:=pt) (xs:=pvs) (fun i σ' H'=>∃ (gs:List V) (x11 x12:Option V) (Si:LSt) (c:Nat) (ws:List Wo) (z:Zc),σ'=[some (.ref a.m),some (.ref x.tA),some (.int (p:Int)),some (.ref ta),some (.ref kA),some (.str wd.str),none,none,none,some (.ref sl),some (.int ((p:Int)+1+(sizes (es.take i):Int))),x11,x12]∧FrM a H5 H'∧TK H7 H'∧Tabs Ts H'∧LmIn P w H' a Si∧Si.fuel≤S.fuel - 1∧0≤Si.fuel∧OutS fm.length Si∧H' sl=some (.lst gs)∧WIns H' gs ws∧ws.length=i∧Si=(LSt.mk (S.fuel - 1) S.work S.deep S.met).add c x.L z.2∧Fcs tg fm c x.fn ((nps.take i).map fun e=>(e,ρ)) x.wi (.ok ws) z∧(∀ y∈z.2.v,y≠[])∧(i=0→c=0))
  ?init ?keep ?step ?done
 case init =>
  exact⟨[],none,none,_,0,[],z0,by rw [List.take_zero,show (p:Int)+1+((sizes ([]:List Ex):Nat):Int)=(p:Int)+1 from Int.add_zero _]; rfl,.same s57,.refl H7,g5.tabs.ext s57,g5.lm.same s57,Int.le_refl _,f0,os1,esl7,.nil,rfl,(LSt.add_zero _ _).symm,fcs_nil,(fun y hy=>nomatch hy),fun _=>rfl⟩
 case keep =>
  rintro i σ' H' hi ⟨gs,x11,x12,Si,c,ws,z,rfl,fr,tkH,_⟩
  exact SqT.of (tkH _ _ ept)
 case step =>
  rintro i item σ' G hi ⟨gs,x11,x12,Si,c,ws,z,rfl,fr,tkH,tb,lm,fle,fi0,osi,eg,hws,lw,es',hFs,hz,c0⟩
  obtain⟨ei,hei,tie⟩:=tis.get i hi
  obtain⟨ndi,hndi,ani⟩:=ans.get i hei
  obtain⟨st1,st2,_⟩:=sizes_take es i hei
  have mei:ei∈es:=List.mem_of_getElem? hei
  have gG:=g5.fr fr tb lm (fun _=>osi) fle
  have kwG:=KwIn.fr g5.lm fr kw5
  have e8:(p:Int)+1+(sizes (es.take i):Int)=((p+1+sizes (es.take i):Nat):Int):=by omega
  rw [e8]
  try dsimp only [gName]
  refine⟨_,rfl,_,rfl,_,rfl,_,rfl,_,rfl,⟨a,Si,x,p+1+sizes (es.take i),item,ei,kA,ρ1,ρ,ndi⟩,rfl,⟨gG,tie.mono tkH,ani,fews_mem few.2 hei,kwG,env,(need.child mei).mono (Nat.le_succ _)⟩,fun G4 t u v out _ ht => ?_⟩
  try dsimp only [gName]
  refine if_restS (fun σ' H'=>v=.non∧σ'=[some (.ref a.m),some (.ref x.tA),some (.int (p:Int)),some (.ref ta),some (.ref kA),some (.str wd.str),none,none,none,some (.ref sl),some (.int ((p+1+sizes (es.take i):Nat):Int)),some item,some (.ref t)]∧H'=G4) ?rest fun nx => ?now
  case now =>
   refine⟨_,rfl,t,_,_,_,rfl,rfl,SqT.of ht,at1,rfl,_,rfl,?_⟩
   refine ite2 (fun z9 => ?_) (fun z9=>nx _ _ ⟨?_,rfl,rfl⟩)
   ·have hv:v≠.non:=fun y=>by
     rw [y] at z9
     exact absurd z9 (by decide)
    refine⟨_,rfl,q G4 t u v (Out.of (f5.trans fr) (show Si.fuel≤S.fuel by omega) out fun c2 r z2 hF hz2 hres => ?_) ht⟩
    cases r with
    | ok w9=>exact absurd hres.1 hv
    | error e9 =>
     have h1:=hFs.snoc (e:=(ndi,ρ)) hF
     have h2:=Fcs.err h1 ((nps.drop (i+1)).map fun e=>(e,ρ))
     have e3:(nps.take i).map (fun e=>(e,ρ))++[(ndi,ρ)]++(nps.drop (i+1)).map (fun e=>(e,ρ))=(aheadOf wd nps).map fun e=>(e,ρ):=by
      rw [ahd]
      have e4:nps=nps.take i++[ndi]++nps.drop (i+1):=by
       have e5:nps.take (i+1)=nps.take i++[ndi]:=by
        rw [List.take_succ,hndi]
        rfl
       rw [← e5,List.take_append_drop]
      conv=>rhs; rw [e4]
      rw [List.map_append,List.map_append]
      rfl
     rw [e3] at h2
     refine⟨c+c2+1,zp z z2,?_,Fc.parts xn (fun y => ?_) h2,ne_path hz hz2⟩
     ·rw [es',LSt.add_add]
      exact S.step1 (c+c2) x.L _
     ·subst y
      rcases alt with⟨_,h,_⟩ | ⟨h,_⟩ | ⟨h,_⟩
      ·rw [h] at mei
       cases mei
      ·cases h
      ·cases h
   ·refine Decidable.not_not.mp fun y=>z9 ?_
    rw [decide_eq_false y]
    rfl
  case rest =>
  rintro σ8 H8 ⟨rfl,rfl,rfl⟩
  obtain⟨o1,o2,S',o3,o4,o5⟩:=out
  rcases o5 with⟨_,_,ft,ys,h,_⟩ | ⟨f0',os',c2,r,z2,es2,hF,hz2,hres⟩
  ·cases h
  cases r with
  | error e9 =>
   obtain⟨_,ft,h,_⟩:=hres
   cases h
  | ok w0 =>
  obtain⟨_,wu⟩:=hres
  have o4:S'.fuel≤Si.fuel:=o4
  have eg4:H8 sl=some (.lst gs):=o1 _ _ nsl.1 nsl.2.1 nsl.2.2 (fun ps z=>nomatch z) eg
  have ik8:=FrM.ik gG.lm o1
  have lgs:gs.length≤4:=by
   rw [hws.wlen,lw]
   have:=(List.getElem?_eq_some_iff.mp hei).1
   omega
  refine⟨_,rfl,.inl ⟨rfl,_,SqL.of eg4⟩,_,rfl,t,_,_,_,rfl,rfl,SqT.of ht,at0,sl,_,_,rfl,rfl,eg4,small1000 (by omega),?_⟩
  have tk9:TK H8 (upd H8 sl (.lst (gs++[u]))):=TK.lst eg4
  have tb9:=tabs_lst (l':=gs++[u]) o2 eg4
  have lm9:=lmin_lst (l':=gs++[u]) o3 eg4 nsl
  have e9:upd H8 sl (.lst (gs++[u])) sl=some (.lst (gs++[u])):=upd_same
  have fr9:FrM a H5 (upd H8 sl (.lst (gs++[u]))):=fun b o b1 b2 b3 bt hb9=>by
   rw [upd_ne (ne_of_none hb9 hsl)]
   exact (fr.trans o1) b o b1 b2 b3 bt hb9
  generalize upd H8 sl (.lst (gs++[u]))=H9 at tk9 tb9 lm9 e9 fr9 ⊢
  have hei12:ei.hgt≤12:=by
   have:=hgt_mem (w:=wd) (n:=n) mei
   have:=need.h13
   omega
  refine⟨_,rfl,_,rfl,item,ei,rfl,((tie.mono tkH).mono ik8.t).mono tk9,hei12,fews_mem few.2 hei,fun H' s'=>⟨_,_,rfl,rfl,?_⟩⟩
  refine⟨gs++[u],some item,some (.ref t),S',c+c2,ws++[w0],zp z z2,?_,fr9.trans (.same s'),((tkH.trans ik8.t).trans tk9).trans (TK.of s'),tb9.ext s',lm9.same s',by omega,f0',os',s' _ _ e9,((hws.mono ik8.t).mono tk9).mono (TK.of s') |>.app (.cons ((wu.mono tk9).mono (TK.of s')) .nil),?_,?_,?_,ne_path hz hz2,fun h=>absurd h (Nat.succ_ne_zero _)⟩
  ·rw [st1]
   show [some (.ref a.m),some (.ref x.tA),some (.int (p:Int)),some (.ref ta),some (.ref kA),some (.str wd.str),none,none,none,some (.ref sl),some (.int (((p+1+sizes (es.take i):Nat):Int)+(ei.size:Int))),some item,some (.ref t)]=_
   rw [show ((p+1+sizes (es.take i):Nat):Int)+(ei.size:Int)=(p:Int)+1+((sizes (es.take i)+ei.size:Nat):Int) by omega]
  ·rw [List.length_append,lw]
   rfl
  ·rw [es2,es',LSt.add_add]
   rfl
  ·have h1:=hFs.snoc (e:=(ndi,ρ)) hF
   rw [show nps.take (i+1)=nps.take i++[ndi] by rw [List.take_succ,hndi]; rfl,List.map_append]
   exact h1
 case done =>
  rintro σ' G ⟨gs,x11,x12,Si,c,ws,z,rfl,fr,tkH,tb,lm,fle,fi0,osi,eg,hws,lw,es',hFs,hz,c0⟩
  rw [show nps.take pvs.length=nps by rw [lpv,lnp,List.take_length]] at hFs
  have hFs':=hFs
  obtain⟨wq,hfevs,_,_,zl⟩:=hFs'
  have wok:WOks (nps.map Nd.d) ws:=(fev_wok (PgT.of C.g C.n) _).2.1 subF_take ans env hfevs
  have gG:=g5.fr fr tb lm (fun _=>osi) fle
  have htaG:=tkH _ _ hta7
  have tiG:=ti7.mono tkH
  have eS:Si=S.add (c+1) x.L z.2:=es'.trans (S.step1 c x.L z.2)
  have fwG:(Si.met.length:Int)+Si.fuel≤9998:=by
   have h2:=addAll_len x.L z.2.v S.met
   rw [es']
   show ((addAll S.met x.L z.2.v).length:Int)+(S.fuel - 1 - c)≤9998
   omega
  have fG:=f5.trans fr
  have le8:Si.fuel≤S.fuel:=by omega
  have hatG:=gG.at_.ht
  clear es' kw5 g5 f5 fr hta7 ti7 esl7 esl lm tb
  try dsimp only
  refine⟨_,rfl,a.m,_,rfl,DGet.k (k:=Sum.inr "met") gG.lm.hm,_,rfl,x.tA,_,_,_,rfl,rfl,SqT.of hatG,at1,_,rfl,x.tA,_,_,_,rfl,rfl,SqT.of hatG,at0,_,rfl,by show 3≤sizeLine; decide,fun tk htk => ?_⟩
  have y:=same_new htk (.tup [.ref x.chA,.int (x.fn:Int),.int (p:Int)])
  refine met_put (L:=x.L) (fn:=x.fn) (p:=p) (gG.lm.same y) (gG.tabs.ext y) osi.few fi0 upd_same (gG.at_.hc.mono (TK.of y)) fun H10 l10 f10 t10 => ?_
  obtain⟨w1,w2,w3,w4,w5⟩:=lm_work (Ts:=Ts) l10 (.refl H10) t10 (Si.work+1)
  refine⟨_,rfl,a.m,_,rfl,w1,_,_,rfl,rfl,_,rfl,a.m,_,rfl,w2,?_⟩
  have fX:FrM a G _:=(FrM.same y).trans (f10.trans w4)
  have osX:OutS fm.length ⟨Si.fuel,Si.work+1,Si.deep,addM Si.met (x.L,(x.fn,p))⟩:=⟨osi.dl,by have:=addM_len Si.met (x.L,(x.fn,p)); show ((addM Si.met (x.L,(x.fn,p))).length:Int)+Si.fuel≤9999; omega,osi.f98⟩
  have gX:=gG.fr fX w5 w3 (fun _=>osX) (Int.le_refl _)
  have ikX:=FrM.ik gG.lm fX
  have egX:(upd H10 a.m (.dK (mKv a Si.fuel (Si.work+1)))) sl=some (.lst gs):=fX _ _ nsl.1 nsl.2.1 nsl.2.2 (fun ps z=>nomatch z) eg
  dsimp only at w2
  generalize upd H10 a.m _=HX at w2 w3 w4 w5 fX gX ikX egX ⊢
  have f11:=fG.trans fX
  have htaX:=ikX.t _ _ htaG
  have tiX:=tiG.mono ikX.t
  have wsX:=hws.mono ikX.t
  have hatX:=gX.at_.ht
  clear w1 w2 w3 w4 w5 f10 t10 l10 y htk
  refine⟨_,rfl,rfl,_,rfl,?_⟩
  rw [isClN]
  refine ite2 (fun z9 => ?_) (fun z9 => ?_)
  ·have nc:=of_decide_eq_true z9
   obtain⟨o,i,sm,hn,hdd⟩:∃ (o:Except Str Wo) (i:Int),Smp wd n ws o i∧(wd=.num→xs=[.int n])∧∃ z',Fc tg fm (c+1) x.fn (.node wd p n nps dd) ρ x.wi (atR x.fn p o) z'∧(∀ y∈z'.2.v,y≠[])∧(LSt.mk Si.fuel (Si.work+1+i) Si.deep (addM Si.met (x.L,(x.fn,p))))=S.add (c+1) x.L z'.2:=by
    have sums:∀ (j:Nat) (i:Int),(LSt.mk Si.fuel (Si.work+1+i) Si.deep (addM Si.met (x.L,(x.fn,p))))=S.add (c+1) x.L (zp z (zr j x.fn p (1+i) 0)).2:=fun j i=>by
     have er:=Si.row x.L x.fn p (1+i) 0
     rw [← Int.add_assoc] at er
     rw [← er,eS,LSt.add_add]
     rfl
    rcases alt with⟨rfl,rfl,rfl,n0,n1⟩ | ⟨hl,ni,rfl,dep⟩ | ⟨h,_⟩
    ·unfold fevs at hfevs
     cases hfevs
     obtain rfl:=c0 lpv
     refine⟨_,_,.num n0 n1,fun _ => ?_,_,Fc.num,ne_zr,?_⟩
     ·cases tiX with
      | leaf _ h =>
       rw [htaX] at h
       injection h with h
       injection h with h
       injection h with _ h
      | bind l _ _=>cases l
      | bare l _ _=>cases l
     ·have:=sums 0 0
      rw [z0_zp] at this
      exact this
    ·obtain⟨o,i,ss,sm,hde,hok⟩:=(smp_of (n := -1) dep hl ni wok).ex
     have hx:wd.deed=true:=by
      revert hl ni
      cases wd <;> decide
     refine⟨o,i,sm,fun y=>(by subst y; cases hl),?_⟩
     cases o with
     | ok r =>
      obtain⟨ei,lr,_⟩:=hok r rfl
      refine⟨_,Fc.deed hx hFs hde lr,ne_path hz ne_zr,?_⟩
      rw [← ei]
      exact sums _ _
     | error e9 =>
      obtain rfl:=smp_err sm
      exact⟨_,Fc.deedE hx hFs hde,ne_path hz ne_zr,sums _ _⟩
    ·exact absurd h nc
   obtain⟨z',hF,hz',eS'⟩:=hdd
   refine⟨_,rfl,_,rfl,x.tA,_,_,_,rfl,rfl,SqT.of hatX,at0,_,rfl,by show 2≤sizeLine; decide,fun t2 ht2 => ?_⟩
   have y:=same_new ht2 (.tup [.int (x.fn:Int),.int (p:Int)])
   refine⟨_,rfl,_,rfl,⟨a,⟨Si.fuel,Si.work+1,Si.deep,addM Si.met (x.L,(x.fn,p))⟩,wd,n,ta,xs,x.fn,p,gs,ws,o,i,t2,sl⟩,rfl,⟨gX.lm.same y,upd_same,y _ _ htaX,hn,y _ _ egX,wsX.mono (TK.of y),sm,?_,gX.tabs.ext y⟩,fun H' t u v f9 tb9 lm9 ht9 res => ?_⟩
   ·refine woks_can wok fun d hd => ?_
    obtain⟨nd9,hnd9,rfl⟩:=List.mem_map.mp hd
    exact ans_le3 (fun q hq=>(C.g.lo q (List.mem_of_mem_take hq)).1) ans nd9 hnd9
   ·exact q H' t u v ⟨f11.trans ((FrM.same y).trans f9),tb9,_,lm9,le8,.inr ⟨fi0,osX.work _,c+1,_,z',eS',hF,hz',res⟩⟩ ht9
  ·have ic:wd=.call:=Decidable.not_not.mp fun y=>z9 (decide_eq_true y)
   subst ic
   rcases alt with⟨h,_⟩ | ⟨h,_⟩ | ⟨_,j,ds,rfl,j5,hfs,eds⟩
   ·cases h
   ·cases h
   obtain⟨pb,epb⟩:∃ pb,xs=[.int (j:Int),pb]:=by
    cases tiX with
    | leaf l _=>cases l
    | bind l _ _=>cases l
    | call h _ _ =>
     rw [htaX] at h
     injection h with h
     injection h with h
     injection h with _ h
     exact⟨_,h⟩
   subst epb
   obtain⟨ps',body,_,_,hfm,hds,hbd,_,_,_⟩:=(PgT.of C.g C.n).at_ j ds dd (subF_take j _ hfs)
   have jf:j≤x.fn:=by
    have:=(List.getElem?_eq_some_iff.mp hfs).1
    rw [List.length_take] at this
    omega
   have c34:x.L.length≤34:=g.ch2 (by omega)
   obtain⟨M',rfl⟩:∃ M',M=M'+1:=⟨M - 1,by omega⟩
   have wok':WOks (ps'.map (·.2)) ws:=by
    rw [hds,← eds]
    exact wok
   have jw:j < x.wi.length:=by
    rw [gX.at_.wl]
    exact (List.getElem?_eq_some_iff.mp hfm).1
   have er:=Si.row x.L x.fn p 1 0
   refine⟨_,rfl,_,rfl,_,rfl,_,rfl,_,rfl,⟨a,⟨Si.fuel,Si.work+1,Si.deep,addM Si.met (x.L,(x.fn,p))⟩,x,p,ta,j,pb,sl,gs,ws,ps',body⟩,rfl,⟨gX,fi0,c34,htaX,hfm,egX,nsl.2.1,wsX,wok',M',rfl,need.call jf c34⟩,fun H' t u v out ht=>q H' t u v (Out.of (S1:=⟨Si.fuel,Si.work+1,Si.deep,addM Si.met (x.L,(x.fn,p))⟩) f11 le8 out fun c2 r2 z2 hR hz2 _ => ?_) ht⟩
   rcases hR with⟨h30,rfl,rfl,rfl⟩ | ⟨h30,z3,hF2,rfl⟩
   ·refine⟨c+1,zp z (zr 0 x.fn p 1 0),?_,Fc.deep hFs jw h30,ne_path hz ne_zr⟩
    rw [← er,eS,LSt.add_add,LSt.add_add]
    show S.add (c+1) x.L (z.2.add ((Cn.row x.fn p 1 0).add Cn.zero))=_
    rw [Cn.add_zero]
    rfl
   ·refine⟨c+c2+1,zp z (zc x.fn p j (x.wi.getD j 0+1) z3),?_,Fc.call hFs jw h30 hfm (by rw [woks_lenN wok',List.length_map]) hF2,?_⟩
    ·rw [← er,eS,LSt.add_add,LSt.add_add,show c+1+(0+c2)=c+c2+1 by omega]
     show S.add (c+c2+1) x.L (z.2.add ((Cn.row x.fn p 1 0).add ((Cn.deep j (x.wi.getD j 0+1)).add (z3.2.into x.fn p))))=S.add (c+c2+1) x.L (z.2.add (((Cn.row x.fn p 1 0).add (Cn.deep j (x.wi.getD j 0+1))).add (z3.2.into x.fn p)))
     rw [Cn.add_assoc]
    ·refine ne_path hz fun y hy => ?_
     have hy:y∈([[(x.fn,p)]]++[])++z3.2.v.map ((x.fn,p)::·):=hy
     rcases List.mem_append.mp hy with hy | hy
     ·rw [List.append_nil] at hy
      rw [List.mem_singleton.mp hy]
      exact fun z=>nomatch z
     ·obtain⟨y',_,rfl⟩:=List.mem_map.mp hy
      exact fun z=>nomatch z
end
abbrev sLawCalled:Stmt:=top 148
theorem scsLawCalled:FnScope ["_law_m", "_law_which", "_law_worths_here", "_law_chain", "_law_active", "_law_params", "_law_told", "_law_body_here", "_law_known", "_law_k"] ["_law_m", "_law_which", "_law_worths_here", "_law_chain", "_law_active"] (defScope sLawCalled):=⟨rfl,rfl,rfl,by decide +kernel,rfl,by decide +kernel,by decide +kernel⟩
section
variable {P:Program}{w:World}{K:PySem.W.Frag}{mg:Str→Option Value}{base:Heap}{f:Addr}{fd:FuncData}{Ts:List (Addr×Str)} {prog:List Fn}{fm:List (List (Int×Nat)×Nd)} {tg:Nat→Nat→Nat}{k:Nat}
theorem ok_called (C:PgC prog fm) (F:FnP K "_law_called" sLawCalled f fd) (O_done:Okg P w K mg base CX0 k "_law_done" ["_law_m", "_law_at", "_law_place", "_law_tree_here", "_law_known"] (spDone P w Ts prog fm tg k)) (z_max:mg "max" = none) (z_dict:mg "dict" = none) (z_range:mg "range" = none) (z_len:mg "len" = none):FnG P w K mg base CX0 (k+1) f fd ["_law_m", "_law_which", "_law_worths_here", "_law_chain", "_law_active"] (spCal P w Ts prog fm tg (k+1)):=by
 have sc:=scsLawCalled
 refine okG F sc (fun vs H Q E h => ?_) (fun cdv A outer s H vs Q E rm h => ?_)
 ·obtain⟨D,rfl,_⟩:=h
  rfl
 obtain⟨D,rfl,h,q⟩:=h
 obtain⟨a,S,chA,acA,L,wi,j,wl,us,ws,ps,nd⟩:=D
 obtain⟨lm,⟨pvs,hpa,hpg⟩,tabs,os,ch,ch2,hc,ha,na,wil,w30,hj,hs,nwl,hw,wok,M,eM,hM⟩:=h
 dsimp only at lm hpa hpg tabs os ch ch2 hc ha na wil w30 hj hs nwl hw wok M eM hM q
 obtain rfl:M=k:=by omega
 have k92:92≤M:=by
  unfold PhiN at hM
  omega
 have hr:=Rm.room (j:=15) rm (by omega)
 have hu:=hu_of hr
 obtain⟨fn,hfn,rfl,an,ed⟩:=nds_back C.n hj
 obtain⟨ta,pv0,bv,hv,hta,pt,tb⟩:=hpg.gf j hfn
 have jl:=(List.getElem?_eq_some_iff.mp hj).1
 have fok:=C.g.fn j fn hfn
 refine⟨_,PSs.nox (pss_cons ((ps_asg (pe_ix (ix_tupK K) (pe_dget hu (pv 0) pe_str (fun _ _=>rfl)) (pv 1) (fun _ _=>rfl)) (pg_tupK K (n:=3) rfl (pgs_cons (pg_name (i:=5) sc.nd rfl (.inr rfl)) (pgs_cons (pg_name (i:=6) sc.nd rfl (.inl rfl)) (pgs_cons (pg_name (i:=7) sc.nd rfl (.inl rfl)) pgs_nil))))))
  (pss_cons ((ps_asg (pe_callB (call_max2 rfl) rfl z_max (by decide +kernel) (pa_cons (pe_ix (ix_listK K) (pe_dget hu (pv 0) pe_str (fun _ _=>rfl)) (pv 1) (fun _ _=>rfl)) (pa_cons (pe_ix (ix_listK K) (pv 4) (pv 1) (fun _ _=>rfl)) pa_nil))) (pg_sub (pe_dget hu (pv 0) pe_str (fun _ _=>rfl)) (pv 1) set_list)))
  (pss_cons ((ps_set (i:=8) sc.nd rfl (.inl rfl) (pe_callTy (call_dictP rfl) rfl z_dict (by decide +kernel) (pa_cons (pe_lc (own:=[("_law_k", 9)]) (by rfl) sc.nd (pi_range1 rfl z_range (pa_cons (pe_callB (call_lenK K) rfl z_len PySem.boot_len (pa_cons (pv 5) pa_nil)) pa_nil)) (blkOk_by (own:=[("_law_k", 9)]) (N:=["_law_m", "_law_which", "_law_worths_here", "_law_chain", "_law_active", "_law_params", "_law_told", "_law_body_here", "_law_known", "_law_k"]) (sc:=defScope sLawCalled) (by decide +kernel)) (fun _ _ _ _ _=>(pg_name (i:=9) sc.nd rfl (.inl rfl))) (fun _ _ _ _ _=>pts_nil) (fun _ _ _ _ _=>(pe_tup (pa_cons (pe_ix (ix_tupK K) (pe_ix (ix_tupK K) (pv 5) (pv 9) (fun _ _=>rfl)) pe_int (fun _ _=>rfl)) (pa_cons (pe_ix (ix_listK K) (pv 2) (pv 9) (fun _ _=>rfl)) pa_nil))))) pa_nil))))
  (pss_one ((ps_ret (pe_cG O_done rm rfl pass0 (pa_cons (pv 0) (pa_cons (pe_tup (pa_cons (pv 1) (pa_cons (pv 3) (pa_cons (pv 4) pa_nil)))) (pa_cons pe_int (pa_cons (pv 7) (pa_cons (pv 8) pa_nil)))))))))))),?_⟩
 refine⟨_,rfl,a.m,_,rfl,DGet.k (k:=Sum.inr "program") lm.hm,_,rfl,a.pa,pvs,_,_,rfl,rfl,SqT.of hpa,atI_nat hv,?_⟩
 refine⟨ta,_,rfl,SqT.of hta,rfl,_,_,rfl,_,_,rfl,_,_,rfl,rfl,?_⟩
 have wl1:j < S.deep.length:=by rw [os.dl]; exact jl
 have wl2:j < wi.length:=by rw [wil]; exact jl
 refine⟨_,rfl,a.m,_,rfl,DGet.k (k:=Sum.inr "deepest") lm.hm,_,rfl,a.dl,_,_,_,rfl,rfl,SqL.of lm.hd,nV_at wl1,_,rfl,_,rfl,acA,_,_,_,rfl,rfl,SqL.of ha,nV_at wl2,_,_,rfl,?_⟩
 refine⟨_,rfl,a.m,_,rfl,DGet.k (k:=Sum.inr "deepest") lm.hm,_,rfl,a.dl,_,_,j,rfl,rfl,lm.hd,ixN_natN (by rw [List.length_map]; exact wl1),?_⟩
 rw [set_mx S.deep wl1]
 have lm1:=lm.putd (mxD S.deep (Cn.deep j (wi.getD j 0)).d)
 have f1:FrM a H (upd H a.dl (.lst ((mxD S.deep (Cn.deep j (wi.getD j 0)).d).map nV))):=.putd
 have nl:∀ b o,H b=some o→(∀ xs,o≠.lst xs)→b≠a.dl:=fun b o hb n z=>by
  rw [z,lm.hd] at hb
  cases hb
  exact n _ rfl
 have tabs1:Tabs Ts (upd H a.dl (.lst ((mxD S.deep (Cn.deep j (wi.getD j 0)).d).map nV))):=by
  intro p hp
  obtain⟨ps,h1,h2,h3⟩:=tabs p hp
  refine⟨ps,by rw [upd_ne (nl _ _ h1 (fun _ z=>nomatch z))]; exact h1,h2,fun pos cv hc => ?_⟩
  obtain⟨c,e1,e2⟩:=h3 pos cv hc
  exact⟨c,e1,by rw [upd_ne (nl _ _ e2 (fun _ z=>nomatch z))]; exact e2⟩
 have ik1:=FrM.ik lm f1
 have ha1:(upd H a.dl (.lst ((mxD S.deep (Cn.deep j (wi.getD j 0)).d).map nV))) acA=some (.lst (wi.map nV)):=by
  rw [upd_ne na]
  exact ha
 have hs1:wl≠a.dl→(upd H a.dl (.lst ((mxD S.deep (Cn.deep j (wi.getD j 0)).d).map nV))) wl=some (.lst us):=fun n=>by
  rw [upd_ne n]
  exact hs
 generalize upd H a.dl (.lst ((mxD S.deep (Cn.deep j (wi.getD j 0)).d).map nV))=H1 at lm1 f1 tabs1 ik1 ha1 hs1 ⊢
 have pt1:=pt.mono ik1
 have tb1:=tb.mono ik1.t
 have hc1:=hc.mono ik1.t
 have hw1:=hw.mono ik1.t
 have hpg1:=hpg.mono ik1
 have hpa1:=ik1.t _ _ hpa
 clear pt tb hc hw hpg hpa hta ha
 obtain⟨pt,o,pvl,rfl,ept,hdn,pin⟩:=pt1.ex
 have hs1:=hs1 nwl
 have lpv:=pin.len
 have lus:us.length=fn.ps.length:=by
  rw [hw1.wlen,woks_lenN wok,List.length_map]
 dsimp only
 refine⟨_,rfl,pt,_,rfl,.inr (SqT.fr ept),_,rfl,by have:=fok.1.few; omega,by have:=fok.1.few; omega,fun D hD => ?_⟩
 refine lc_range (lo:=0) (n:=pvl.length) (fun i H'=>∃ as:List Addr,H' D=some (.lst (as.map V.ref))∧as.length=i∧Same H1 H'∧Paired (fun p (kv:Key×V)=>H' p=some (.tup [kV kv.1,kv.2])) as (((zipN fn.ps us).take i).map kwOf)) ⟨[],upd_same,rfl,same_new hD _,.nil⟩ ?_ ?_
 ·rintro i G hi ⟨as,eD,el,sG,prd⟩
  refine⟨rfl,?_⟩
  dsimp only [tYes,gName]
  rw [if_pos rfl,Int.zero_add]
  obtain⟨pa,x,dx,e1,e2,e3⟩:=pin.get i (List.getElem?_eq_getElem hi)
  have hiu:i < us.length:=by omega
  refine⟨_,rfl,_,rfl,pt,_,_,_,rfl,rfl,SqT.fr (sG _ _ ept),atI_nat (by rw [List.getElem?_eq_getElem hi,e1]),pa,_,_,_,rfl,rfl,SqT.of (sG _ _ e3),at0,?_⟩
  refine⟨_,rfl,_,rfl,wl,_,_,_,rfl,rfl,SqL.of (sG _ _ hs1),atI_nat (List.getElem?_eq_getElem hiu),by show 2≤sizeLine; decide,fun tp htp => ?_⟩
  have y1:=same_new htp (.tup [.int x,us[i]])
  have q1:upd G tp (.tup [.int x,us[i]]) tp=some (.tup [.int x,us[i]]):=upd_same
  have eD1:=y1 _ _ eD
  have sG1:=sG.trans y1
  generalize upd G tp (.tup [.int x,us[i]])=G1 at y1 q1 eD1 sG1 ⊢
  refine⟨_,eD1,small1000 (by rw [List.length_map,el]; have:=fok.1.few; omega),as++[tp],?_,?_,fun b o hb => ?_,?_⟩
  ·rw [upd_same,List.map_append]
   rfl
  ·rw [List.length_append,el]
   rfl
  ·rw [upd_ne (ne_of_none hb hD)]
   exact sG1 b o hb
  ·rw [zipN_take e2 (List.getElem?_eq_getElem hiu),List.map_append]
   have tk:TK G1 (upd G1 D (.lst (as.map V.ref++[.ref tp]))):=TK.lst eD1
   exact Paired.snocP (a:=tp) (b:=kwOf (x,us[i])) (F:=fun p (kv:Key×V)=>upd G1 D (.lst (as.map V.ref++[.ref tp])) p=some (.tup [kV kv.1,kv.2])) (tk _ _ q1) (pairedMapP prd fun p kv h=>tk _ _ (y1 _ _ h))
 rintro G ⟨as,eD,el,sG,prd⟩
 have ez:(zipN fn.ps us).take pvl.length=zipN fn.ps us:=List.take_of_length_le (by
  unfold zipN
  rw [List.length_map,List.length_zip]
  omega)
 rw [ez] at prd
 have kw:=kwOk_zip fok.1 hw1 lus
 refine⟨D,as,(zipN fn.ps us).map kwOf,rfl,SqL.of eD,pairedMapP prd (fun p kv h=>SqT.of h),fun kA hkA => ?_⟩
 rw [show mergeK [] ((zipN fn.ps us).map kwOf)=(zipN fn.ps us).map kwOf from mergeK_kw (acc:=[]) kw.nd]
 have sG2:=sG.trans (same_new hkA (.dK ((zipN fn.ps us).map kwOf)))
 have ek:upd G kA (.dK ((zipN fn.ps us).map kwOf)) kA=some (.dK ((zipN fn.ps us).map kwOf)):=upd_same
 generalize upd G kA (.dK ((zipN fn.ps us).map kwOf))=G2 at sG2 ek ⊢
 refine⟨_,rfl,_,rfl,_,rfl,_,rfl,by show 3≤sizeLine; decide,fun tA htA=>⟨_,rfl,_,rfl,?_⟩⟩
 have sG3:=sG2.trans (same_new htA (.tup [.int (j:Int),.ref chA,.ref acA]))
 have eA:upd G2 tA (.tup [.int (j:Int),.ref chA,.ref acA]) tA=some (.tup [.int (j:Int),.ref chA,.ref acA]):=upd_same
 have ek3:=same_new htA (.tup [.int (j:Int),.ref chA,.ref acA]) _ _ ek
 generalize upd G2 tA (.tup [.int (j:Int),.ref chA,.ref acA])=G3 at sG3 eA ek3 ⊢
 refine⟨⟨a,⟨S.fuel,S.work,mxD S.deep (Cn.deep j (wi.getD j 0)).d,S.met⟩,⟨tA,chA,acA,j,L,wi⟩,0,bv,fn.e,kA,envOf fn.ps,paramsOf fn.ps ws,nd⟩,rfl,⟨⟨lm1.same sG3,⟨eA,hc1.mono (TK.of sG3),sG3 _ _ ha1,na,jl,wil,w30⟩,⟨pvs,sG3 _ _ hpa1,hpg1.mono (IK.of sG3)⟩,tabs1.ext sG3,fun _=>⟨(mxD_len _ _).trans os.dl,os.few,os.f98⟩,ch,ch2⟩,tb1.mono (TK.of sG3),an,?_,⟨_,ek3,kw.mono (TK.of sG3)⟩,envT_of fok.1.nd wok,?_⟩,fun H' t u v out hnm ht => ?_⟩
 ·exact few_body C.g hfn
 ·exact NeedD.body (C.sh j fn hfn) fok.2.2.2.2 fok.2.2.1 ch hM
 ·obtain⟨o1,o2,S',o3,o4,o5⟩:=out
  refine q H' t u v ⟨f1.trans ((FrM.same sG3).trans o1),o2,S',o3,o4,o5.imp id ?_⟩ hnm ht
  rintro⟨z0,zo,c,r,z,es,hR,hz,hres⟩
  refine⟨z0,zo,c,r,(z.1,(Cn.deep j (wi.getD j 0)).add z.2),?_,⟨z,hR,rfl⟩,hz,hres⟩
  rw [es]
  exact deep_add S c L j _ z.2
end
end NR
namespace NR
open PySem PySem.Spec PyProof.Rows L2
def ToldL (H:Hp) (v:V):Except Flt Wo→Prop
 | .error f=>∃ t,v=.ref t∧H t=some (.tup [.str "fault", .str f.1,.int (f.2.1:Int),.int (f.2.2:Int)])
 | .ok wo=>∃ t u,v=.ref t∧H t=some (.tup [.str "worth", u])∧WIn H u wo
theorem ToldL.mono {H H':Hp}{v:V}{r:Except Flt Wo}(h:ToldL H v r) (k:TK H H'):ToldL H' v r:=by
 cases r with
 | error f =>
  obtain⟨t,a,b⟩:=h
  exact⟨t,a,k _ _ b⟩
 | ok wo =>
  obtain⟨t,u,a,b,c⟩:=h
  exact⟨t,u,a,k _ _ b,c.mono k⟩
end NR
namespace NR
open PySem PySem.Spec PyProof.Rows L2 LamX NdefX
abbrev sLawStarted:Stmt:=top 147
theorem scsLawStarted:FnScope ["_law_program_here", "_law_fuel"] ["_law_program_here", "_law_fuel"] (defScope sLawStarted):=⟨rfl,rfl,rfl,by decide +kernel,rfl,by decide +kernel,by decide +kernel⟩
abbrev sLawRun:Stmt:=top 153
theorem scsLawRun:FnScope ["_law_program_here", "_law_which", "_law_worths_here", "_law_fuel", "_law_m", "_law_active", "_law_worth", "_law_fault"] ["_law_program_here", "_law_which", "_law_worths_here", "_law_fuel"] (defScope sLawRun):=⟨rfl,rfl,rfl,by decide +kernel,rfl,by decide +kernel,by decide +kernel⟩
section
variable {P:Program}{w:World}{K:PySem.W.Frag}{mg:Str→Option Value}{base:Heap}{f:Addr}{fd:FuncData}{Ts:List (Addr×Str)} {prog:List Fn}{fm:List (List (Int×Nat)×Nd)} {tg:Nat→Nat→Nat}{k:Nat}
theorem fng_no {ps:List Str}{sp:Sp}(h:∀ vs H Q E,sp vs H Q E→False):FnG P w K mg base CX0 k f fd ps sp:=⟨fun vs H Q E z=>(h vs H Q E z).elim,fun A out s H ar us vs Q E _ _ _ _ z=>(h vs H Q E z).elim⟩
theorem ok_group {f_done f_gone f_entered f_called:Addr}{fd_done fd_gone fd_entered fd_called:FuncData}(C:PgC prog fm) (F_done:FnP K "_law_done" sLawDone f_done fd_done) (g_done:mg "_law_done" = some (.ref f_done)) (k_done:PySem.W.keepIn K (.ref f_done)=true) (b_done:Binds K fd_done ["_law_m", "_law_at", "_law_place", "_law_tree_here", "_law_known"] []) (F_gone:FnP K "_law_gone" sLawGone f_gone fd_gone) (g_gone:mg "_law_gone" = some (.ref f_gone)) (k_gone:PySem.W.keepIn K (.ref f_gone)=true) (b_gone:Binds K fd_gone ["_law_m", "_law_at", "_law_place", "_law_tree_here", "_law_items", "_law_known"] []) (F_entered:FnP K "_law_entered" sLawEntered f_entered fd_entered) (g_entered:mg "_law_entered" = some (.ref f_entered)) (k_entered:PySem.W.keepIn K (.ref f_entered)=true) (b_entered:Binds K fd_entered ["_law_m", "_law_at", "_law_place", "_law_tree_here", "_law_some"] []) (F_called:FnP K "_law_called" sLawCalled f_called fd_called) (g_called:mg "_law_called" = some (.ref f_called)) (k_called:PySem.W.keepIn K (.ref f_called)=true) (b_called:Binds K fd_called ["_law_m", "_law_which", "_law_worths_here", "_law_chain", "_law_active"] [])
  (O_size:Okf P w K mg base CX0 15 "_law_size" ["_law_tree_here"] (spSize K 12)) (O_parts:Okf P w K mg base CX0 15 "_law_parts" ["_law_tree_here"] (spParts K)) (O_simple:Okf P w K mg base CX0 15 "_law_simple" ["_law_m", "_law_at", "_law_tree_here", "_law_some"] (spSimple P w Ts))
  (z_dict:mg "dict" = none) (z_len:mg "len" = none) (z_tuple:mg "tuple" = none) (z_list:mg "list" = none) (z_int:mg "int" = none) (z_max:mg "max" = none) (z_range:mg "range" = none):∀ k:Nat,Okg P w K mg base CX0 k "_law_done" ["_law_m", "_law_at", "_law_place", "_law_tree_here", "_law_known"] (spDone P w Ts prog fm tg k)∧Okg P w K mg base CX0 k "_law_gone" ["_law_m", "_law_at", "_law_place", "_law_tree_here", "_law_items", "_law_known"] (spGone P w Ts prog fm tg k)∧Okg P w K mg base CX0 k "_law_entered" ["_law_m", "_law_at", "_law_place", "_law_tree_here", "_law_some"] (spEnt P w Ts prog fm tg k)∧Okg P w K mg base CX0 k "_law_called" ["_law_m", "_law_which", "_law_worths_here", "_law_chain", "_law_active"] (spCal P w Ts prog fm tg k)
 | 0=>⟨⟨_,_,fng_no fun vs H Q E ⟨D,_,h,_⟩=>by
   have:=h.need.lo68
   omega,g_done,k_done,b_done⟩,⟨_,_,fng_no fun vs H Q E ⟨D,_,h,_⟩=>by
   obtain⟨M,h1,_⟩:=h.need
   omega,g_gone,k_gone,b_gone⟩,⟨_,_,fng_no fun vs H Q E ⟨D,_,h,_⟩=>by
   obtain⟨M,h1,_⟩:=h.need
   omega,g_entered,k_entered,b_entered⟩,⟨_,_,fng_no fun vs H Q E ⟨D,_,h,_⟩=>by
   obtain⟨M,h1,_⟩:=h.need
   omega,g_called,k_called,b_called⟩⟩
 | k+1=>by
  obtain⟨O1,O2,O3,O4⟩:=ok_group C F_done g_done k_done b_done F_gone g_gone k_gone b_gone F_entered g_entered k_entered b_entered F_called g_called k_called b_called O_size O_parts O_simple z_dict z_len z_tuple z_list z_int z_max z_range k
  exact⟨⟨_,_,ok_done C F_done O1 O2 O3 O_size O_parts O_simple z_dict,g_done,k_done,b_done⟩,⟨_,_,ok_gone C F_gone O1 z_dict z_len z_tuple,g_gone,k_gone,b_gone⟩,⟨_,_,ok_entered C F_entered O4 z_list z_int z_len,g_entered,k_entered,b_entered⟩,⟨_,_,ok_called C F_called O1 z_max z_dict z_range z_len,g_called,k_called,b_called⟩⟩
theorem rep0L (n:Nat):(List.replicate n [V.int 0]).flatten=(List.replicate n 0).map nV:=by
 induction n with
 | zero=>rfl
 | succ n ih=>rw [List.replicate_succ,List.replicate_succ,List.flatten_cons,ih,List.map_cons]; rfl
def spStarted (P:Program) (w:World) (K:PySem.W.Frag):Sp:=fun vs H Q _=>∃ (pa:Addr) (pvs:List V) (fu:Int),vs=[.ref pa,.int fu]∧H pa=some (.tup pvs)∧pvs.length≤6 ∧
 ∀ (H':Hp) (a:MA),Same H H'→a.pa=pa→H a.m=none→H a.dl=none→H a.md=none→LmIn P w H' a ⟨fu,0,List.replicate pvs.length 0,[]⟩→Q (.ref a.m) H'
theorem ok_started (F:FnP K "_law_started" sLawStarted f fd) (z_len:mg "len" = none):FnOk P w K mg base CX0 (k+1) f fd ["_law_program_here", "_law_fuel"] (spStarted P w K):=by
 have sc:=scsLawStarted
 refine F.ok sc (fun vs H Q E h => ?_) (fun cdv A outer s H vs Q E hr h => ?_)
 ·obtain⟨pa,pvs,fu,rfl,_⟩:=h
  rfl
 obtain⟨pa,pvs,fu,rfl,hpa,l6,q⟩:=h
 refine⟨_,PSs.nox (pss_one ((ps_ret (pe_disp (pps_cons pe_str (pv 0) (pps_cons pe_str (pv 1) (pps_cons pe_str pe_int (pps_cons pe_str (pe_op op_rep (pe_lst (pa_cons pe_int pa_nil)) (pe_callB (call_lenK K) rfl z_len PySem.boot_len (pa_cons (pv 0) pa_nil))) (pps_cons pe_str pe_met0 (pps_cons pe_str pe_int pps_nil)))))) (by rfl) (by rfl) (fun z=>by cases z) (by decide))))),?_⟩
 refine fun p hp => ?_
 have s1:=same_new hp (.dK [])
 have e1:upd H p (.dK []) p=some (.dK []):=upd_same
 generalize upd H p (.dK [])=H1 at s1 e1 ⊢
 refine⟨_,rfl,_,rfl,by show 1≤sizeLine; decide,fun l1 hl1 => ?_⟩
 have s2:=same_new hl1 (.lst [.int 0])
 have e2:upd H1 l1 (.lst [.int 0]) l1=some (.lst [.int 0]):=upd_same
 generalize upd H1 l1 (.lst [.int 0])=H2 at s2 e2 ⊢
 refine⟨_,rfl,pa,_,rfl,.inr (SqT.of (s2 _ _ (s1 _ _ hpa))),l1,_,_,rfl,rfl,e2,by omega,by omega,?_,fun l2 hl2 => ?_⟩
 ·show 1*((pvs.length:Int)).toNat≤sizeLine
  rw [Int.toNat_natCast]
  have:6≤sizeLine:=by decide
  omega
 rw [Int.toNat_natCast,rep0L]
 have s3:=same_new hl2 (.lst ((List.replicate pvs.length 0).map nV))
 have e3:upd H2 l2 (.lst ((List.replicate pvs.length 0).map nV)) l2=some (.lst ((List.replicate pvs.length 0).map nV)):=upd_same
 generalize upd H2 l2 (.lst ((List.replicate pvs.length 0).map nV))=H3 at s3 e3 ⊢
 refine fun md hmd mi => ?_
 dsimp only [cxOf,Cx.nox] at mi ⊢
 have s4:=same_new hmd (MetO P w md [])
 generalize upd H3 md (MetO P w md [])=H4 at s4 mi ⊢
 have s14:Same H1 H4:=(s2.trans s3).trans s4
 have ep:=s14 _ _ e1
 have e4:=s4 _ _ e3
 have npm:p≠md:=ne_of_none ((s2.trans s3) _ _ e1) hmd
 have npl:p≠l2:=ne_of_none (s2 _ _ e1) hl2
 refine⟨ep,[(Sum.inr "program", .ref pa),(Sum.inr "fuel", .int fu),(Sum.inr "work", .int 0),(Sum.inr "deepest", .ref l2),(Sum.inr "met", .ref md),(Sum.inr "taken", .int 0)],rfl,by show 6≤15; decide,?_⟩
 have nn:∀ {b:Addr}{o:HO},H b=some o→b≠p:=fun hb=>ne_of_none hb hp
 have back:∀ {b:Addr}{X Y:Hp},Same X Y→Y b=none→X b=none:=fun {b X Y} s hb=>by
  cases e:X b with
  | none=>rfl
  | some o=>rw [s _ _ e] at hb; cases hb
 refine q _ ⟨p,l2,md,pa⟩ (fun b o hb => ?_) rfl hp (back s1 (back s2 hl2)) (back s1 (back s2 (back s3 hmd))) ⟨?_,?_,?_⟩
 ·rw [upd_ne (nn hb)]
  exact s14 _ _ (s1 _ _ hb)
 ·rw [upd_same]
  rfl
 ·show upd H4 p _ l2=_
  rw [upd_ne npl.symm]
  exact e4
 ·refine mi.mono (fun b xs hb => ?_) (fun o ho => ?_)
  ·rw [upd_ne (ne_of hb ep (by intro z; cases z))]
   exact hb
  ·show upd H4 p _ md=_
   rw [upd_ne npm.symm]
   exact ho
structure LmT (P:Program) (w:World) (H:Hp) (a:MA) (S:LSt) (tv:V):Prop where
 hm:H a.m=some (.dK (mKv a S.fuel S.work++[((Sum.inr "told" : Key),tv)]))
 hd:H a.dl=some (.lst (S.deep.map nV))
 hk:MetIn P w H a.md (S.met.map keyM)
theorem lm_told {H:Hp}{a:MA}{S:LSt}(lm:LmIn P w H a S) (tb:Tabs Ts H) (tv:V):DPut H a.m (.str "told") tv (upd H a.m (.dK (mKv a S.fuel S.work++[((Sum.inr "told" : Key),tv)])))∧LmT P w (upd H a.m (.dK (mKv a S.fuel S.work++[((Sum.inr "told" : Key),tv)]))) a S tv∧Tabs Ts (upd H a.m (.dK (mKv a S.fuel S.work++[((Sum.inr "told" : Key),tv)]))):=by
 obtain⟨n1,n2,n3⟩:=lm.md_ne
 have dp:DPut H a.m (kV (Sum.inr "told")) tv (upd H a.m (.dK (putK (mKv a S.fuel S.work) (Sum.inr "told") tv))):=DPut.k lm.hm (by show 6 < sizeLine; decide)
 refine⟨dp,⟨upd_same,by rw [upd_ne n1.symm]; exact lm.hd,lm.hk.mono (fun b xs h => ?_) fun o h=>by rw [upd_ne n2.symm]; exact h⟩,tabs_dk tb lm.hm⟩
 rw [upd_ne (lm.ne_tup h).1]
 exact h
theorem lm_told2 {H:Hp}{a:MA}{S:LSt}{t0:V}(lm:LmT P w H a S t0) (tb:Tabs Ts H) (tv:V):DPut H a.m (.str "told") tv (upd H a.m (.dK (mKv a S.fuel S.work++[((Sum.inr "told" : Key),tv)])))∧LmT P w (upd H a.m (.dK (mKv a S.fuel S.work++[((Sum.inr "told" : Key),tv)]))) a S tv∧Tabs Ts (upd H a.m (.dK (mKv a S.fuel S.work++[((Sum.inr "told" : Key),tv)]))):=by
 have n1:a.m≠a.dl:=ne_of lm.hm lm.hd (by intro z; cases z)
 have n2:a.m≠a.md:=by
  obtain⟨xs,h1,_⟩:=lm.hk
  exact ne_of lm.hm h1 (by intro z; cases z)
 have dp:DPut H a.m (kV (Sum.inr "told")) tv (upd H a.m (.dK (putK (mKv a S.fuel S.work++[((Sum.inr "told" : Key),t0)]) (Sum.inr "told") tv))):=DPut.k lm.hm (by show 7 < sizeLine; decide)
 refine⟨dp,⟨upd_same,by rw [upd_ne n1.symm]; exact lm.hd,lm.hk.mono (fun b xs h => ?_) fun o h=>by rw [upd_ne n2.symm]; exact h⟩,tabs_dk tb lm.hm⟩
 rw [upd_ne (ne_of h lm.hm (by intro z; cases z))]
 exact h
def ToldR (P:Program) (w:World) (H:Hp) (tg:Nat→Nat→Nat) (fm:List (List (Int×Nat)×Nd)) (j:Nat) (nd:Nd) (ρ:EnvW) (fu:Int) (a:MA) (tv:V):Prop :=
 ∃ S,LmT P w H a S tv∧((tv=.non∧(nd.nm→fu < 1))∨∃ (c:Nat) (r:NR0) (z:Zc),(c:Int)≤fu∧Fc tg fm c j nd ρ (bump (List.replicate fm.length 0) j) r z∧S=(LSt.mk fu 0 (List.replicate fm.length 0) []).add c [] (z.1,(Cn.deep j 1).add z.2).2∧ToldL H tv r∧∀ x∈z.2.v,x≠[])
def spRunL (P:Program) (w:World) (K:PySem.W.Frag) (Ts:List (Addr×Str)) (prog:List Fn) (fm:List (List (Int×Nat)×Nd)) (tg:Nat→Nat→Nat):Sp:=fun vs H Q _=>∃ (pa wl:Addr) (pvs us:List V) (ws:List Wo) (j:Nat) (ps:List (Int×Nat)) (nd:Nd) (fu:Int),vs=[.ref pa,.int (j:Int),.ref wl,.int fu]∧H pa=some (.tup pvs)∧PgIns H pvs prog∧fm[j]? = some (ps,nd)∧H wl=some (.lst us)∧WIns H us ws∧WOks (ps.map (·.2)) ws∧Tabs Ts H∧0≤fu∧fu≤9000 ∧
 ∀ (H':Hp) (a:MA) (tv:V),ExtN H H'→Tabs Ts H'→H a.m=none→ToldR P w H' tg fm j nd (paramsOf ps ws) fu a tv→Q (.ref a.m) H'
theorem ok_runl (C:PgC prog fm) (F:FnP K "_law_run" sLawRun f fd) (O_started:Okf P w K mg base CX0 187 "_law_started" ["_law_program_here", "_law_fuel"] (spStarted P w K)) (O_called:Okg P w K mg base CX0 558 "_law_called" ["_law_m", "_law_which", "_law_worths_here", "_law_chain", "_law_active"] (spCal P w Ts prog fm tg 558)) (z_len:mg "len" = none):FnOk P w K mg base CX0 188 f fd ["_law_program_here", "_law_which", "_law_worths_here", "_law_fuel"] (spRunL P w K Ts prog fm tg):=by
 have sc:=scsLawRun
 refine F.ok sc (fun vs H Q E h => ?_) (fun cdv A outer s H vs Q E hr h => ?_)
 ·obtain⟨pa,wl,pvs,us,ws,j,ps,nd,fu,rfl,_⟩:=h
  rfl
 obtain⟨pa,wl,pvs,us,ws,j,ps,nd,fu,rfl,hpa,hpg,hj,hwl,hws,wok,tabs,fu0,fu9,q⟩:=h
 have hu:=hu_of hr
 have rm:Rm 558 (A.deeper (envOfC "_law_run" (defScope sLawRun) s.heap.objs.size f cdv)):=⟨hr.hd,by have:=hr.dp; omega,by have:=hr.un; omega⟩
 have lpf:pvs.length=fm.length:=by rw [hpg.len,C.n.len]
 have jl:j < fm.length:=(List.getElem?_eq_some_iff.mp hj).1
 have f6:fm.length≤6:=by rw [C.n.len]; exact C.g.few
 refine⟨_,PSs.nox (pss_cons ((ps_set (i:=4) sc.nd rfl (.inl rfl) (pe_c O_started hr rfl pass0 (pa_cons (pv 0) (pa_cons (pv 3) pa_nil)))))
  (pss_cons ((ps_set (i:=5) sc.nd rfl (.inl rfl) (pe_op op_rep (pe_lst (pa_cons pe_int pa_nil)) (pe_callB (call_lenK K) rfl z_len PySem.boot_len (pa_cons (pv 0) pa_nil)))))
  (pss_cons ((ps_asg pe_int (pg_sub (pv 5) (pv 1) set_list)))
  (pss_cons ((ps_asg (pe_cG O_called rm rfl pass0 (pa_cons (pv 4) (pa_cons (pv 1) (pa_cons (pv 2) (pa_cons (pe_tup pa_nil) (pa_cons (pv 5) pa_nil)))))) (pg_tupK K (n:=2) rfl (pgs_cons (pg_name (i:=6) sc.nd rfl (.inl rfl)) (pgs_cons (pg_name (i:=7) sc.nd rfl (.inl rfl)) pgs_nil)))))
  (pss_cons ((ps_dput hu (pv 4) pe_str (pe_ifExp (pt_cmpR op_isN (pv 7) pe_non (nomark _)) (pe_tup (pa_cons pe_str (pa_cons (pv 6) pa_nil))) (pe_op (op_catTK K) (pe_tup (pa_cons pe_str pa_nil)) (pv 7))) rfl))
  (pss_cons ((ps_if (pt_cmpR op_lt (pe_dget hu (pv 4) pe_str (fun _ _=>rfl)) pe_int (nomark _)) (pss_one (ps_dput hu (pv 4) pe_str pe_non rfl)) pss_nil))
  (pss_one ((ps_ret (pv 4)))))))))),?_⟩
 refine⟨_,rfl,_,rfl,pa,pvs,fu,rfl,hpa,by omega,fun H1 a s1 epa nm nl nk lm => ?_⟩
 rw [lpf] at lm
 try dsimp only [gName]
 refine⟨by show 1≤sizeLine; decide,fun l1 hl1 => ?_⟩
 have s2:=same_new hl1 (.lst [.int 0])
 have e2:upd H1 l1 (.lst [.int 0]) l1=some (.lst [.int 0]):=upd_same
 generalize upd H1 l1 (.lst [.int 0])=H2 at s2 e2 ⊢
 refine⟨_,rfl,pa,_,rfl,.inr (SqT.of (s2 _ _ (s1 _ _ hpa))),l1,_,_,rfl,rfl,e2,by omega,by omega,?_,fun ac hac => ?_⟩
 ·show 1*((pvs.length:Int)).toNat≤sizeLine
  rw [Int.toNat_natCast]
  have:6≤sizeLine:=by decide
  omega
 rw [Int.toNat_natCast,rep0L,lpf]
 have e3:upd H2 ac (.lst ((List.replicate fm.length 0).map nV)) ac=some (.lst ((List.replicate fm.length 0).map nV)):=upd_same
 refine⟨_,rfl,_,rfl,ac,_,_,j,rfl,rfl,e3,ixN_natN (by rw [List.length_map,List.length_replicate]; exact jl),?_⟩
 have eb:((List.replicate fm.length 0).map nV).set j (.int 1)=(bump (List.replicate fm.length 0) j).map nV:=by
  rw [← bump_map,List.getD_eq_getElem?_getD,List.getElem?_replicate,if_pos jl]
  rfl
 rw [eb,upd_upd]
 have s3:=same_new hac (.lst ((bump (List.replicate fm.length 0) j).map nV))
 have e4:upd H2 ac (.lst ((bump (List.replicate fm.length 0) j).map nV)) ac=some (.lst ((bump (List.replicate fm.length 0) j).map nV)):=upd_same
 generalize upd H2 ac (.lst ((bump (List.replicate fm.length 0) j).map nV))=H3 at s3 e4 ⊢
 have s13:=(s2.trans s3)
 have nac:ac≠a.dl:=(ne_of_none (s2 _ _ lm.hd) hac).symm
 refine⟨_,rfl,_,rfl,_,rfl,by show 0≤sizeLine; decide,fun tc htc => ?_⟩
 have s4:=same_new htc (.tup [])
 have e5:upd H3 tc (.tup []) tc=some (.tup []):=upd_same
 generalize upd H3 tc (.tup [])=H4 at s4 e5 ⊢
 have s14:=s13.trans s4
 have s04:=s1.trans s14
 have lm4:=lm.same s14
 have lb:(bump (List.replicate fm.length 0) j).length=fm.length:=by rw [bump_len,List.length_replicate]
 have g0:∀ i,(List.replicate fm.length 0).getD i 0=0:=fun i=>by
  rw [List.getD_eq_getElem?_getD,List.getElem?_replicate]
  split <;> rfl
 have gb:(bump (List.replicate fm.length 0) j).getD j 0=1:=by
  rw [bump_at (by rw [List.length_replicate]; exact jl),g0]
 refine⟨_,rfl,⟨a,⟨fu,0,List.replicate fm.length 0,[]⟩,tc,ac,[],bump (List.replicate fm.length 0) j,j,wl,us,ws,ps,nd⟩,rfl,⟨lm4,⟨pvs,by rw [epa]; exact s04 _ _ hpa,hpg.mono (IK.of s04)⟩,tabs.ext s04,⟨List.length_replicate,by show ((0:Nat):Int)+fu≤9999; omega,by show fu≤9998; omega⟩,Nat.zero_le _,fun _=>Nat.zero_le _,.tup e5 .nil,s4 _ _ e4,nac,lb,?_,hj,s04 _ _ hwl,?_,hws.mono (TK.of s04),wok,557,rfl,?_⟩,fun G t u v out hnm ht => ?_⟩
 ·intro i
  by_cases c:i=j
  ·subst c
   rw [gb]
   omega
  ·rw [bump_oth c,g0]
   omega
 ·exact ne_of_none hwl nl
 ·unfold PhiN
  show 92+9*(35 - 0)+30*j≤557
  omega
 obtain⟨o1,o2,S',o3,o4,o5⟩:=out
 have nmx:nd.nm→S'.fuel < 0→fu < 1:=fun hn h=>by
  rcases o5 with⟨_,_,ft,ys,h1,_⟩ | ⟨h1,_⟩
  ·by_cases c:1≤fu
   ·have h2:=hnm hn c
    rw [h1] at h2
    cases h2
   ·omega
  ·omega
 have eG:ExtN H G:=fun b o hb n=>o1 b o (ne_of_none hb nm) (ne_of_none hb nl) (ne_of_none hb nk) n (s04 _ _ hb)
 have told:∀ (H':Hp) (tv:V),TK G H'→(0≤S'.fuel→∃ (c:Nat) (r:NR0) (z:Zc),(c:Int)≤fu∧calR tg fm ⟨a,⟨fu,0,List.replicate fm.length 0,[]⟩,tc,ac,[],bump (List.replicate fm.length 0) j,j,wl,us,ws,ps,nd⟩ c r z∧S'=(LSt.mk fu 0 (List.replicate fm.length 0) []).add c [] z.2∧ResIn G r u v∧∀ x∈z.2.v,x≠[]):=fun H' tv _ h0=>by
  rcases o5 with⟨h,_⟩ | ⟨_,_,c,r,z,h1,h2,h4,h3⟩
  ·omega
  ·refine⟨c,r,z,?_,h2,h1,h3,h4⟩
   rw [h1] at h0
   have h0:0≤fu - (c:Int):=h0
   omega
 have told:=told G .non (TK.refl G)
 try dsimp only [gName]
 refine⟨t,_,rfl,SqT.of ht,rfl,_,_,rfl,_,_,rfl,rfl,?_⟩
 try dsimp only [gName]
 refine seq_restS (fun σ' H'=>∃ tv,σ'=[some (.ref pa),some (.int (j:Int)),some (.ref wl),some (.int fu),some (.ref a.m),some (.ref ac),some u,some v]∧ExtN H H'∧Tabs Ts H'∧LmT P w H' a S' tv∧(0≤S'.fuel→∃ (c:Nat) (r:NR0) (z:Zc),(c:Int)≤fu∧calR tg fm ⟨a,⟨fu,0,List.replicate fm.length 0,[]⟩,tc,ac,[],bump (List.replicate fm.length 0) j,j,wl,us,ws,ps,nd⟩ c r z∧S'=(LSt.mk fu 0 (List.replicate fm.length 0) []).add c [] z.2∧ToldL H' tv r∧∀ x∈z.2.v,x≠[])) ?rest fun nx => ?now
 case now =>
  refine⟨_,rfl,rfl,_,rfl,?_⟩
  have putx:∀ (H0:Hp) (tv:V),Same G H0→(∀ r,ResIn G r u v→0≤S'.fuel→ToldL H0 tv r)→∃ H',DPut H0 a.m (.str "told") tv H'∧ExtN H H'∧Tabs Ts H'∧LmT P w H' a S' tv∧(0≤S'.fuel→∃ (c:Nat) (r:NR0) (z:Zc),(c:Int)≤fu∧calR tg fm ⟨a,⟨fu,0,List.replicate fm.length 0,[]⟩,tc,ac,[],bump (List.replicate fm.length 0) j,j,wl,us,ws,ps,nd⟩ c r z∧S'=(LSt.mk fu 0 (List.replicate fm.length 0) []).add c [] z.2∧ToldL H' tv r∧∀ x∈z.2.v,x≠[]):=fun H' tv y tl=>by
   obtain⟨p1,p2,p3⟩:=lm_told (Ts:=Ts) (o3.same y) (o2.ext y) tv
   have kk:TK H' (upd H' a.m (.dK (mKv a S'.fuel S'.work++[((Sum.inr "told" : Key),tv)]))):=TK.dict (o3.same y).hm
   refine⟨_,p1,fun b o hb n => ?_,p3,p2,fun h0 => ?_⟩
   ·rw [upd_ne (ne_of_none hb nm)]
    exact y _ _ (eG b o hb n)
   ·obtain⟨c,r,z,h1,h2,h3,h4,h5⟩:=told h0
    exact⟨c,r,z,h1,h2,h3,(tl r h4 h0).mono kk,h5⟩
  refine ite2 (fun z9 => ?_) (fun z9 => ?_)
  ·have z9:=of_decide_eq_true z9
   refine⟨_,rfl,by show 2≤sizeLine; decide,fun tt htt => ?_⟩
   obtain⟨H',p1,p2⟩:=putx _ (.ref tt) (same_new htt (.tup [.str "worth", u])) (fun r hr h0=>by
    cases r with
    | ok w9=>exact⟨tt,u,rfl,upd_same,hr.2.mono (TK.of (same_new htt _))⟩
    | error e9 =>
     obtain⟨_,ft,h,_⟩:=hr
     rw [z9] at h
     cases h)
   exact⟨_,rfl,a.m,_,rfl,p1,nx _ _ ⟨_,rfl,p2⟩⟩
  ·have z9:=of_decide_eq_false (Bool.eq_false_iff.mpr z9)
   obtain⟨ft,ys,rfl,hft,l3⟩:∃ ft ys,v=.ref ft∧G ft=some (.tup ys)∧ys.length=3:=by
    rcases o5 with⟨_,_,ft,ys,h1,h2,h3⟩ | ⟨_,_,c,r,z,_,_,_,h3⟩
    ·exact⟨ft,ys,h1,h2,h3⟩
    ·cases r with
     | ok w9=>exact absurd h3.1 z9
     | error e9 =>
      obtain⟨_,ft,h,h2⟩:=h3
      exact⟨ft,_,h,h2,rfl⟩
   refine⟨by show 1≤sizeLine; decide,fun t8 ht8 => ?_⟩
   have y1:=same_new ht8 (.tup [.str "fault"])
   have q1:upd G t8 (.tup [.str "fault"]) t8=some (.tup [.str "fault"]):=upd_same
   generalize upd G t8 (.tup [.str "fault"])=G1 at y1 q1 ⊢
   have hne:ys≠[]:=fun z=>by rw [z] at l3; cases l3
   have big:1000≤sizeLine:=by decide
   refine⟨_,rfl,t8,ft,_,_,rfl,rfl,SqT.of q1,SqT.of (y1 _ _ hft),?_⟩
   refine⟨(fun z=>nomatch z),by show 1+ys.length≤sizeLine; omega,(fun z=>absurd z hne),fun _ tt htt => ?_⟩
   obtain⟨H',p1,p2⟩:=putx _ (.ref tt) (y1.trans (same_new htt (.tup ([.str "fault"]++ys)))) (fun r hr h0=>by
    cases r with
    | ok w9=>cases hr.1
    | error e9 =>
     obtain⟨_,ft',h,h2⟩:=hr
     cases h
     rw [hft] at h2
     cases h2
     exact⟨tt,rfl,upd_same⟩)
   exact⟨_,rfl,a.m,_,rfl,p1,nx _ _ ⟨_,rfl,p2⟩⟩
 case rest =>
 rintro σ5 H5 ⟨tv,rfl,e5,t5,l5,told5⟩
 have fin:∀ (H':Hp) (tv:V),ExtN H H'→Tabs Ts H'→LmT P w H' a S' tv→((tv=.non∧(nd.nm→fu < 1))∨(0≤S'.fuel∧H'=H5∧∃ (c:Nat) (r:NR0) (z:Zc),(c:Int)≤fu∧calR tg fm ⟨a,⟨fu,0,List.replicate fm.length 0,[]⟩,tc,ac,[],bump (List.replicate fm.length 0) j,j,wl,us,ws,ps,nd⟩ c r z∧S'=(LSt.mk fu 0 (List.replicate fm.length 0) []).add c [] z.2∧ToldL H' tv r∧∀ x∈z.2.v,x≠[]))→Q (.ref a.m) H':=fun H' tv e t l h=>by
  refine q H' a tv e t nm ⟨S',l,h.imp id ?_⟩
  rintro⟨_,_,c,r,z,h1,⟨z2,h2,rfl⟩,h3,h4,h5⟩
  refine⟨c,r,z2,h1,h2,?_,h4,h5⟩
  rw [h3]
  show _=(LSt.mk fu 0 (List.replicate fm.length 0) []).add c [] ((Cn.deep j 1).add z2.2)
  rw [← gb]
 refine if_restS (fun σ' H'=>∃ tv,σ'=[some (.ref pa),some (.int (j:Int)),some (.ref wl),some (.int fu),some (.ref a.m),some (.ref ac),some u,some v]∧ExtN H H'∧Tabs Ts H'∧LmT P w H' a S' tv∧((tv=.non∧(nd.nm→fu < 1))∨(0≤S'.fuel∧H'=H5∧∃ (c:Nat) (r:NR0) (z:Zc),(c:Int)≤fu∧calR tg fm ⟨a,⟨fu,0,List.replicate fm.length 0,[]⟩,tc,ac,[],bump (List.replicate fm.length 0) j,j,wl,us,ws,ps,nd⟩ c r z∧S'=(LSt.mk fu 0 (List.replicate fm.length 0) []).add c [] z.2∧ToldL H' tv r∧∀ x∈z.2.v,x≠[]))) ?rest fun nx => ?now
 case now =>
  refine⟨_,rfl,a.m,_,rfl,DGet.k (k:=Sum.inr "fuel") l5.hm,_,_,rfl,rfl,_,rfl,?_⟩
  refine ite2 (fun z9 => ?_) (fun z9 => ?_)
  ·obtain⟨p1,p2,p3⟩:=lm_told2 (Ts:=Ts) l5 t5 .non
   refine⟨_,rfl,a.m,_,rfl,p1,nx _ _ ⟨.non,rfl,fun b o hb n => ?_,p3,p2,.inl ⟨rfl,fun hn=>nmx hn (of_decide_eq_true z9)⟩⟩⟩
   rw [upd_ne (ne_of_none hb nm)]
   exact e5 b o hb n
  ·have z9:=of_decide_eq_false (Bool.eq_false_iff.mpr z9)
   have z9:¬ S'.fuel < 0:=z9
   exact nx _ _ ⟨tv,rfl,e5,t5,l5,.inr ⟨by omega,rfl,told5 (by omega)⟩⟩
 case rest =>
 rintro σ6 H6 ⟨tv6,rfl,e6,t6,l6,told6⟩
 exact⟨_,rfl,fin H6 tv6 e6 t6 l6 told6⟩
end
abbrev sLawRunOf:Stmt:=top 156
theorem scsLawRunOf:FnScope ["_law_row_here", "_law_most", "_law_fuel", "_law_turn", "_law_program_here", "_law_which", "_law_worths_here", "_law_m"] ["_law_row_here", "_law_most", "_law_fuel"] (defScope sLawRunOf):=⟨rfl,rfl,rfl,by decide +kernel,rfl,by decide +kernel,by decide +kernel⟩
section
variable {P:Program}{w:World}{K:PySem.W.Frag}{mg:Str→Option Value}{base:Heap}{f:Addr}{fd:FuncData}{Ts:List (Addr×Str)} {prog:List Fn}{fm:List (List (Int×Nat)×Nd)} {tg:Nat→Nat→Nat}{k:Nat}
theorem tabs_X {r:RD}{H H':Hp}(s:SameX r.r H H') (d:Draw K r H) (t:Tabs Ts H):Tabs Ts H':=by
 obtain⟨p,x,l,e,_⟩:=d.ex
 intro q hq
 obtain⟨ps,h1,h2,h3⟩:=t q hq
 refine⟨ps,s _ _ (fun z=>by rw [z,e] at h1; cases h1) h1,h2,fun pos cv hc => ?_⟩
 obtain⟨c,e1,e2⟩:=h3 pos cv hc
 exact⟨c,e1,s _ _ (fun z=>by rw [z,e] at e2; cases e2) e2⟩
theorem draw_ik {r:RD}{H H':Hp}(d:Draw K r H) (s:ExtN H H'):Draw K r H':=by
 obtain⟨p,x,l,e,S,rest⟩:=d.ex
 refine⟨p,x,l,s _ _ e (fun _ z=>nomatch z),?_,rest⟩
 rcases S with (q | ⟨o,q⟩) | q
 ·exact .inl (.inl (s _ _ q (fun _ z=>nomatch z)))
 ·exact .inl (.inr ⟨o,s _ _ q (fun _ z=>nomatch z)⟩)
 ·exact .inr q
theorem ikE {H H':Hp}(e:ExtN H H'):IK H H':=⟨tkE e,fun b o xs h=>e b _ h fun ps z=>nomatch z⟩
theorem fnok_any {ι:Type}{CX:CXT}{ps:List Str}{p:ι→Prop}{sp:ι→Sp}(h:∀ i,p i→FnOk P w K mg base CX k f fd ps (sp i)):FnOk P w K mg base CX k f fd ps (fun vs H Q E=>∃ i,p i∧sp i vs H Q E) :=
 ⟨fun vs H Q E ⟨i,hi,z⟩=>(h i hi).len vs H Q E z,fun A out s H ar us vs Q E hr hm hb hv ⟨i,hi,z⟩=>(h i hi).run A out s H ar us vs Q E hr hm hb hv z⟩
structure PgX where
 prog:List Fn
 fm:List (List (Int×Nat)×Nd)
 tg:Nat→Nat→Nat
def spRunA (P:Program) (w:World) (K:PySem.W.Frag) (Ts:List (Addr×Str)):Sp:=fun vs H Q E=>∃ i:PgX,PgC i.prog i.fm∧spRunL P w K Ts i.prog i.fm i.tg vs H Q E
abbrev tg0:Nat→Nat→Nat:=fun _ _=>0
def RofOut (P:Program) (w:World) (fu:Int) (rr:Addr) (H:Hp) (t:Addr):Prop:=∃ (pa wl:Addr) (a:MA) (pvs us:List V) (ws:List Wo) (prog:List Fn) (fm:List (List (Int×Nat)×Nd)) (j:Nat) (ps:List (Int×Nat)) (nd:Nd) (tv:V),
 H t=some (.tup [.ref pa,.int (j:Int),.ref wl,.ref a.m])∧H pa=some (.tup pvs)∧PgIns H pvs prog∧PgC prog fm∧(∀ f∈prog,FstN f.ps)∧1≤prog.length∧fm[j]? = some (ps,nd)∧wl≠rr∧H wl=some (.lst us)∧WIns H us ws∧WOks (ps.map (·.2)) ws ∧
 ∃ (S:LSt) (c:Nat) (r:NR0) (z:Zc),LmT P w H a S tv∧(c:Int)≤fu∧Fc (tg0) fm c j nd (paramsOf ps ws) (bump (List.replicate fm.length 0) j) r z∧S=(LSt.mk fu 0 (List.replicate fm.length 0) []).add c [] (z.1,(Cn.deep j 1).add z.2).2∧ToldL H tv r∧∀ x∈z.2.v,x≠[]
def spRunOf (P:Program) (w:World) (K:PySem.W.Frag) (Ts:List (Addr×Str)):Sp:=fun vs H Q _=>∃ (r:RD) (mo fu:Int),vs=[.ref r.r,.int mo,.int fu]∧Draw K r H∧Tabs Ts H∧1≤mo∧mo≤6∧1≤fu∧fu≤9000 ∧
 ∀ (H':Hp) (t:Addr),Draw K r H'→Tabs Ts H'→RofOut P w fu r.r H' t→Q (.ref t) H'
theorem LmT.same {H H':Hp}{a:MA}{S:LSt}{tv:V}(l:LmT P w H a S tv) (s:Same H H'):LmT P w H' a S tv:=⟨s _ _ l.hm,s _ _ l.hd,l.hk.mono (fun b xs h=>s _ _ h) fun o h=>s _ _ h⟩
abbrev fnN:Fn:=⟨[(0,0)],0,.node .name 0 []⟩
theorem good_n:Good [fnN]:=by
 refine⟨by decide,fun i f h => ?_⟩
 cases i with
 | succ i=>cases h
 | zero =>
  cases h
  refine⟨⟨by decide,fun p hp => ?_,by decide,by decide⟩,.name (by decide) (by decide) rfl (by decide),by decide,by decide,by decide⟩
  rw [List.mem_singleton.mp hp]
  exact⟨by decide,by decide,by decide⟩
theorem sh_n:∀ (i:Nat) (f:Fn),[fnN][i]? = some f→Sh (i:Int) 3 f.e:=fun i f h=>by
 cases i with
 | succ i=>cases h
 | zero =>
  cases h
  exact Sh.zero (by decide)
theorem ok_runof (F:FnP K "_law_run_of" sLawRunOf f fd) (O_taken:Okf P w K mg base CX0 188 "_law_taken" ["_law_row_here", "_law_many"] (spTaken K)) (O_program:Okf P w K mg base CX0 188 "_law_program" ["_law_row_here", "_law_most"] (spProgram K)) (O_worths:Okf P w K mg base CX0 188 "_law_worths" ["_law_row_here", "_law_program_here", "_law_which"] (spWorths K)) (O_run:Okf P w K mg base CX0 188 "_law_run" ["_law_program_here", "_law_which", "_law_worths_here", "_law_fuel"] (spRunA P w K Ts)) (z_len:mg "len" = none) (z_range:mg "range" = none) (z_int:mg "int" = none):FnOk P w K mg base CX0 189 f fd ["_law_row_here", "_law_most", "_law_fuel"] (spRunOf P w K Ts):=by
 have sc:=scsLawRunOf
 refine F.ok sc (fun vs H Q E h => ?_) (fun cdv A outer s H vs Q E hr h => ?_)
 ·obtain⟨r,mo,fu,rfl,_⟩:=h
  rfl
 obtain⟨r,mo,fu,rfl,dr,tb,mo1,mo6,fu0,fu9,q⟩:=h
 have hu:=hu_of hr
 refine⟨_,PSs.nox (pss_cons ((ps_for PassesOwn.never rfl (pi_range1 rfl z_range (pa_cons pe_int pa_nil)) (pg_name (i:=3) sc.nd rfl (.inl rfl)) (pss_cons (ps_set (i:=4) sc.nd rfl (.inl rfl) (pe_c O_program hr rfl pass0 (pa_cons (pv 0) (pa_cons (pv 1) pa_nil))))
  (pss_cons (ps_set (i:=5) sc.nd rfl (.inl rfl) (pe_op op_sub (pe_op op_sub (pe_callB (call_lenK K) rfl z_len PySem.boot_len (pa_cons (pv 4) pa_nil)) pe_int) (pe_ix (ix_listK K) (pe_lst (pa_cons pe_int (pa_cons (pe_c O_taken hr rfl pass0 (pa_cons (pv 0) (pa_cons (pe_callB (call_lenK K) rfl z_len PySem.boot_len (pa_cons (pv 4) pa_nil)) pa_nil))) pa_nil))) (pe_callTy call_int1 rfl z_int (by decide +kernel) (pa_cons (pe_cmpR op_eq (pe_c O_taken hr rfl pass0 (pa_cons (pv 0) (pa_cons pe_int pa_nil))) pe_int (nomark _)) pa_nil)) (fun _ _=>rfl))))
  (pss_cons (ps_set (i:=6) sc.nd rfl (.inl rfl) (pe_c O_worths hr rfl pass0 (pa_cons (pv 0) (pa_cons (pv 4) (pa_cons (pv 5) pa_nil)))))
  (pss_cons (ps_set (i:=7) sc.nd rfl (.inl rfl) (pe_c O_run hr rfl pass0 (pa_cons (pv 4) (pa_cons (pv 5) (pa_cons (pv 6) (pa_cons (pv 2) pa_nil))))))
  (pss_one (ps_if (pt_cmpR op_notN (pe_dget hu (pv 7) pe_str (fun _ _=>rfl)) pe_non (nomark _)) (pss_one (ps_ret (pe_tup (pa_cons (pv 4) (pa_cons (pv 5) (pa_cons (pv 6) (pa_cons (pv 7) pa_nil))))))) pss_nil))))))))
  (pss_cons ((ps_set (i:=4) sc.nd rfl (.inl rfl) (pe_tup (pa_cons (pe_tup (pa_cons (pe_tupF (pa_cons (pe_tup (pa_cons pe_int (pa_cons pe_int pa_nil))) pa_nil)) (pa_cons pe_int (pa_cons (pe_tup (pa_cons pe_str (pa_cons pe_int pa_nil))) pa_nil)))) pa_nil))))
  (pss_one ((ps_ret (pe_tup (pa_cons (pv 4) (pa_cons pe_int (pa_cons (pe_lst (pa_cons pe_int pa_nil)) (pa_cons (pe_c O_run hr rfl pass0 (pa_cons (pv 4) (pa_cons pe_int (pa_cons (pe_lst (pa_cons pe_int pa_nil)) (pa_cons (pv 2) pa_nil))))) pa_nil)))))))))),?_⟩
 refine⟨_,rfl,by decide,by decide,for_range (lo:=0) (n:=6) (fun i σ H'=>∃ x3 x4 x5 x6 x7,σ=[some (.ref r.r),some (.int mo),some (.int fu),x3,x4,x5,x6,x7]∧Draw K r H'∧Tabs Ts H') ⟨none,none,none,none,none,rfl,dr,tb⟩ ?_ ?_⟩
 ·rintro i σ H1 hi ⟨x3,x4,x5,x6,x7,rfl,d1,tb1⟩
  try dsimp only [gName]
  refine⟨_,rfl,_,rfl,r,mo,rfl,d1,mo1,mo6,fun pa H2 pvs prog g2 hpa hpg good fst one p6 => ?_⟩
  have tb2:=tabs_X g2.s d1 tb1
  have d2:=g2.d
  obtain⟨fm,nds⟩:=good.nds
  have C:PgC prog fm:=⟨good,nds,fst.2⟩
  have lp:pvs.length=prog.length:=hpg.len
  dsimp only [gName]
  refine seq_restS (fun σ' H'=>∃ j:Nat,σ'=[some (.ref r.r),some (.int mo),some (.int fu),some (.int (0+(i:Int))),some (.ref pa),some (.int (j:Int)),x6,x7]∧j < prog.length∧Drawn K r H2 H') ?rest fun nx => ?now
  case now =>
   refine⟨_,rfl,pa,_,rfl,.inr (SqT.of hpa),_,_,rfl,rfl,?_⟩
   refine⟨_,rfl,_,rfl,pa,_,rfl,.inr (SqT.of hpa),r,(pvs.length:Int),rfl,d2,by omega,by omega,fun k1 H3 k0 k1' g3=>⟨by show 2≤sizeLine; decide,fun l hl => ?_⟩⟩
   have g4:=g3.trans (Drawn.new (o:=.lst [.int 0,.int k1]) g3.d hl)
   have e4:upd H3 l (.lst [.int 0,.int k1]) l=some (.lst [.int 0,.int k1]):=upd_same
   have nl:l≠r.r:=Drawn.ne g3.d hl
   generalize upd H3 l (.lst [.int 0,.int k1])=H4 at g4 e4 ⊢
   refine⟨_,rfl,r,4,rfl,g4.d,by decide,by decide,fun k2 H5 a0 a1 g5=>⟨rfl,.inr ⟨_,rfl,?_⟩⟩⟩
   have e5:=g5.s _ _ nl e4
   have g6:=g4.trans g5
   by_cases c:k2=0
   ·subst c
    refine⟨l,_,_,.int k1,rfl,rfl,SqL.of e5,at1,_,_,rfl,rfl,nx _ _ ⟨pvs.length - 1 - k1.toNat,?_,by omega,g6⟩⟩
    rw [show ((pvs.length - 1 - k1.toNat:Nat):Int)=(pvs.length:Int) - 1 - k1 by omega]
    rfl
   ·have ez:(if decide (V.int k2=V.int 0)=true then (1:Int) else 0)=0:=if_neg fun z=>c (by
     have z:=of_decide_eq_true z
     injection z)
    rw [ez]
    refine⟨l,_,_,.int 0,rfl,rfl,SqL.of e5,at0,_,_,rfl,rfl,nx _ _ ⟨pvs.length - 1,?_,by omega,g6⟩⟩
    rw [show ((pvs.length - 1:Nat):Int)=(pvs.length:Int) - 1 - 0 by omega]
    rfl
  case rest =>
  rintro σ3 H3 ⟨j,rfl,jl,g3⟩
  have ik3:=g3.ik d2
  have hpa3:=ik3.t _ _ hpa
  have hpg3:=hpg.mono ik3
  have tb3:=tabs_X g3.s d2 tb2
  obtain⟨f',hf'⟩:∃ f',prog[j]? = some f':=⟨_,List.getElem?_eq_getElem jl⟩
  obtain⟨nd,hj,_⟩:=nds.at_ j f' hf'
  try dsimp only [gName]
  refine⟨_,rfl,_,rfl,_,rfl,r,pa,j,pvs,prog,f',rfl,g3.d,hpa3,hpg3,good,fst.1,hf',fun wl H4 us ws g4 hwl hno hws wok => ?_⟩
  have ik4:=g4.ik g3.d
  have ne_wl:wl≠r.r:=by
   obtain⟨o,ho⟩:=g3.d.ref
   exact (ne_of_none ho hno).symm
  have hpa4:=ik4.t _ _ hpa3
  have hpg4:=hpg3.mono ik4
  have tb4:=tabs_X g4.s g3.d tb3
  try dsimp only [gName]
  refine⟨_,rfl,_,rfl,_,rfl,_,rfl,⟨prog,fm,tg0⟩,C,pa,wl,pvs,us,ws,j,f'.ps,nd,fu,rfl,hpa4,hpg4,hj,hwl,hws,wok,tb4,by omega,fu9,fun H5 a tv e5 tb5 hno told => ?_⟩
  have d5:=draw_ik g4.d e5
  have ik5:=ikE e5
  try dsimp only [gName]
  obtain⟨S9,l9,told9⟩:=id told
  refine⟨_,rfl,a.m,_,rfl,DGet.k (k:=Sum.inr "told") l9.hm,rfl,_,rfl,?_⟩
  refine ite2 (fun z9 => ?_) (fun z9=>⟨_,_,_,_,_,rfl,d5,tb5⟩)
  have tn:tv≠.non:=fun y=>by
   subst y
   exact absurd z9 (by decide)
  refine⟨_,rfl,_,rfl,_,rfl,_,rfl,by show 4≤sizeLine; decide,fun t ht => ?_⟩
  have y:=same_new ht (.tup [.ref pa,.int (j:Int),.ref wl,.ref a.m])
  refine q _ t (d5.same y) (tb5.ext y) ⟨pa,wl,a,pvs,us,ws,prog,fm,j,f'.ps,nd,tv,upd_same,y _ _ (ik5.t _ _ hpa4),(hpg4.mono ik5).mono (IK.of y),C,fst.1,one,hj,ne_wl,y _ _ (e5 _ _ hwl fun _ z=>nomatch z),(hws.mono ik5.t).mono (TK.of y),wok,?_⟩
  rcases told9 with⟨h,_⟩ | ⟨c,r9,z,h1,h2,h3,h4,h5⟩
  ·exact absurd h tn
  ·exact⟨S9,c,r9,z,l9.same y,h1,h2,h3,h4.mono (TK.of y),h5⟩
 ·rintro σ H1 ⟨x3,x4,x5,x6,x7,rfl,d1,tb1⟩
  obtain⟨fm,nds⟩:=good_n.nds
  have C:PgC [fnN] fm:=⟨good_n,nds,sh_n⟩
  obtain⟨nd,hj,an⟩:=nds.at_ 0 fnN rfl
  try dsimp only
  refine⟨by show 2≤sizeLine; decide,fun t1 h1=>⟨by show 1≤sizeLine; decide,fun t2 o2 h2 ho=>⟨by show 2≤sizeLine; decide,fun t3 h3=>⟨by show 3≤sizeLine; decide,fun t4 h4=>⟨by show 1≤sizeLine; decide,fun pa h5 => ?_⟩⟩⟩⟩⟩
  have s1:=same_new h1 (.tup [.int 0,.int 0])
  have q1:upd H1 t1 (.tup [.int 0,.int 0]) t1=some (.tup [.int 0,.int 0]):=upd_same
  generalize upd H1 t1 (.tup [.int 0,.int 0])=G1 at s1 q1 h2 h3 h4 h5 ⊢
  have s2:=same_new h2 (.frz o2 (.tup [.ref t1]))
  have q2:upd G1 t2 (.frz o2 (.tup [.ref t1])) t2=some (.frz o2 (.tup [.ref t1])):=upd_same
  generalize upd G1 t2 (.frz o2 (.tup [.ref t1]))=G2 at s2 q2 h3 h4 h5 ⊢
  have s3:=same_new h3 (.tup [.str "name", .int 0])
  have q3:upd G2 t3 (.tup [.str "name", .int 0]) t3=some (.tup [.str "name", .int 0]):=upd_same
  generalize upd G2 t3 (.tup [.str "name", .int 0])=G3 at s3 q3 h4 h5 ⊢
  have s4:=same_new h4 (.tup [.ref t2,.int 0,.ref t3])
  have q4:upd G3 t4 (.tup [.ref t2,.int 0,.ref t3]) t4=some (.tup [.ref t2,.int 0,.ref t3]):=upd_same
  generalize upd G3 t4 (.tup [.ref t2,.int 0,.ref t3])=G4 at s4 q4 h5 ⊢
  have s5:=same_new h5 (.tup [.ref t4])
  have q5:upd G4 pa (.tup [.ref t4]) pa=some (.tup [.ref t4]):=upd_same
  generalize upd G4 pa (.tup [.ref t4])=G5 at s5 q5 ⊢
  have s25:=(s3.trans s4).trans s5
  have s05:=(s1.trans s2).trans s25
  have hpg:PgIns G5 [.ref t4] [fnN]:=.cons (s5 _ _ q4) ⟨t2,o2,_,rfl,s25 _ _ q2,ho,.cons (s25 _ _ (s2 _ _ q1)) .nil⟩ (.leaf rfl (s5 _ _ (s4 _ _ q3))) .nil
  try dsimp only [gName]
  refine⟨_,rfl,by show 1≤sizeLine; decide,fun w1 hw1=>⟨_,rfl,by show 1≤sizeLine; decide,fun w2 hw2 => ?_⟩⟩
  have ne_w1:w1≠r.r:=by
   obtain⟨o,ho⟩:=d1.ref
   exact (ne_of_none (s05 _ _ ho) hw1).symm
  have y1:=same_new hw1 (.lst [.int 3])
  have p1:upd G5 w1 (.lst [.int 3]) w1=some (.lst [.int 3]):=upd_same
  generalize upd G5 w1 (.lst [.int 3])=G6 at y1 p1 hw2 ⊢
  have y2:=same_new hw2 (.lst [.int 3])
  have p2:upd G6 w2 (.lst [.int 3]) w2=some (.lst [.int 3]):=upd_same
  generalize upd G6 w2 (.lst [.int 3])=G7 at y2 p2 ⊢
  have y12:=y1.trans y2
  have y07:=s05.trans y12
  refine⟨_,rfl,⟨[fnN],fm,tg0⟩,C,pa,w2,[.ref t4],[.int 3],[.num 3],0,[(0,0)],nd,fu,rfl,y12 _ _ q5,hpg.mono (IK.of y12),hj,p2,.cons .num .nil,⟨⟨by decide,by decide⟩,trivial⟩,tb1.ext y07,by omega,fu9,fun H5 a tv e5 tb5 hno told=>⟨by show 4≤sizeLine; decide,fun t ht => ?_⟩⟩
  have d5:=draw_ik (d1.same y07) e5
  have ik5:=ikE e5
  have y:=same_new ht (.tup [.ref pa,.int 0,.ref w1,.ref a.m])
  refine q _ t (d5.same y) (tb5.ext y) ⟨pa,w1,a,_,[.int 3],[.num 3],[fnN],fm,0,[(0,0)],nd,tv,upd_same,y _ _ (ik5.t _ _ (y12 _ _ q5)),((hpg.mono (IK.of y12)).mono ik5).mono (IK.of y),C,(fun f hf=>by rw [List.mem_singleton.mp hf]; exact⟨0,[],rfl⟩),by decide,hj,ne_w1,y _ _ (e5 _ _ (y2 _ _ p1) fun _ z=>nomatch z),.cons .num .nil,⟨⟨by decide,by decide⟩,trivial⟩,?_⟩
  obtain⟨an,_⟩:=an
  obtain⟨S9,l9,told9⟩:=told
  rcases told9 with⟨_,h⟩ | ⟨c,r9,z,h1,h2,h3,h4,h5⟩
  ·cases an with
   | name=>exact absurd (h rfl) (by omega)
  ·exact⟨S9,c,r9,z,l9.same y,h1,h2,h3,h4.mono (TK.of y),h5⟩
end
structure WordO (K:PySem.W.Frag) (mg:Str→Option Value) (CN CB CT CW CF:Addr):Prop where
 C:KwC K mg CN CB CT CW CF
 ex:∃ g gd,mg "_law_word" = some (.ref g)∧FnP K "_law_word" sLawWord g gd∧L2.Binds K gd ["_law_work"] []
theorem pe_word {X:Cx}{CN CB CT CW CF:Addr}{k:Nat}{e:Expr}{te:TE}{p pos:Pos}{ι:Type}{q:ι→Str}{C:ι→LamT}{cl:ι→List (Str×Addr)} {N:ι→List Str}{fr:ι→List Str}{ws:ι→L2.St→List (Option V)} {tb:ι→XK→TE}
  (O:WordO X.K X.mg CN CB CT CW CF) (hg:Gl X "_law_word") (hr:Room (k+2) X.A) (he:PE X e te) (B:∀ n,LamB (C n)) (S:∀ n,NScope (N n) (dflN (C n).dfl) (fr n) (C n).scope)
  (cells:∀ (pins:List (Addr×Obj)) (σ:L2.St) (H:Hp) (s:Shared),L2.Inv X pins σ H s→∀ n,CellsAt (cl n) (fr n) (ws n σ) s.heap H)
  (hbody:∀ (n:ι) (f c':Addr) (dV:Value) (A:Around) (outer:List Env) (s:Shared) (H:Hp) (E:XK),Room k (A.deeper (envF (NFl (lamV (q n) (cl n) (C n) dV c')) f s.heap.objs.size))→PE (ncx (CX X.prog X.w) X.prog X.w X.K X.mg X.base (N n) (NFl (lamV (q n) (cl n) (C n) dV c')) f A outer s H E) (C n).body (tb n E))
  (hst:starEach [e] X.env=(false,eval e X.env)::starEach [] X.env:=by rfl) (hno:(backTo pos (starEach [] X.env)).any (·.1)=false:=by rfl) :
  PE X (.Call (.Name "_law_word" p) [e] [] pos) (fun σ H Q=>te σ H fun v H1=>∃ (n:ι) (f c':Addr) (dV:Value) (vs:List V),v=.ref f∧LamAt H1 (q n) (cl n) (C n) f c' dV vs∧TWrd CW CF (fun E H' Q'=>tb n E (startF (N n) vs (ws n σ)) H' Q') H1 Q):=by
 obtain⟨g,gd,hm,F,hb⟩:=O.ex
 obtain⟨oc,od,dV,kV,doc,pm,an,cdv,ct,osl,rfl,lk,hcd,_,_⟩:=F.ex
 exact pe_lamArg hg hm F.kp lk hcd hb scsLawWord rfl (.inl rfl) (word_gives O.C) hr he q C cl N fr ws tb B S cells hbody (hst:=hst) (hno:=hno)
def DueIn (H:Hp) (t:Addr):Due→Prop
 | .fn=>∃ z,TupA H t [.str "function", .ref z]∧TupA H z []
 | .wo n=>∃ z,TupA H t [.str "worth", .ref z]∧TupA H z [.int (n:Int)]
def duePd:Due→PyData
 | .fn=>.tuple [.str "function", .tuple []]
 | .wo n=>.tuple [.str "worth", .tuple [.int (n:Int)]]
theorem DueIn.dp {K:PySem.W.Frag}{H:Hp}{t:Addr}{D:Due}(h:DueIn H t D):Dp K H (.ref t) (duePd D):=by
 cases D with
 | fn =>
  obtain⟨z,h1,h2⟩:=h
  exact .tup h1.sq (.cons (.str _) (.cons (.tup h2.sq .nil) .nil))
 | wo n =>
  obtain⟨z,h1,h2⟩:=h
  exact .tup h1.sq (.cons (.str _) (.cons (.tup h2.sq (.cons (.int _) .nil)) .nil))
theorem WordOk.due {H:Hp}{v:V}{D:Due}(h:WordOk H v D):∃ t,v=.ref t∧DueIn H t D:=by
 cases D with
 | fn =>
  obtain⟨t,z,rfl,h1,h2⟩:=h
  exact⟨t,rfl,z,.inl h1,h2⟩
 | wo n =>
  obtain⟨t,z,rfl,h1,h2⟩:=h
  exact⟨t,rfl,z,.inl h1,h2⟩
theorem DueIn.same {H H':Hp}{t:Addr}{D:Due}(h:DueIn H t D) (s:Same H H'):DueIn H' t D:=by
 cases D with
 | fn =>
  obtain⟨z,h1,h2⟩:=h
  exact⟨z,h1.same s,h2.same s⟩
 | wo n =>
  obtain⟨z,h1,h2⟩:=h
  exact⟨z,h1.same s,h2.same s⟩
theorem due_shaped (D:Due):SeqAt.shaped (duePd D)=true:=by cases D <;> simp [duePd,SeqAt.shaped,PyData.canLay0,PyData.canLayAll0,PyData.depth,PyData.depthAll] <;> decide +kernel
theorem due_eq (D:Due):PyData.eqv (duePd D) (duePd D)=true:=SeqAt.eqv_refl _ (by cases D <;> simp [duePd,PyData.canLay0,PyData.canLayAll0] <;> decide +kernel)
abbrev sLawIsRefused:Stmt:=top 158
abbrev nmIsR:List Str:=["_law_program_here", "_law_which", "_law_worths_here", "_law_due", "_law_works", "_law_work"]
theorem scsLawIsRefused:FnScope nmIsR ["_law_program_here", "_law_which", "_law_worths_here", "_law_due"] (defScope sLawIsRefused):=⟨rfl,rfl,rfl,by decide +kernel,rfl,by decide +kernel,by decide +kernel⟩
def lstE:Option Stmt→List Expr
 | some (.Assign _ (.List es _) _)=>es
 | some (.Expr (.Call _ es _ _) _)=>es
 | _=>[]
def isrE:List Expr:=lstE (defBody sLawIsRefused)[0]? ++ lstE (defBody sLawIsRefused)[1]? ++ lstE (defBody sLawIsRefused)[2]?
def isrL:Fin 4→LamT
 | 0=>lamOf (isrE[0]?) none
 | 1=>lamOf (isrE[1]?) (some "_law_a")
 | 2=>lamOf (isrE[2]?) none
 | 3=>lamOf (isrE[3]?) none
def isrN:Fin 4→List Str
 | 1=>["_law_a", "_law_program_here", "_law_which", "_law_worths_here"]
 | _=>["_law_program_here", "_law_which", "_law_worths_here"]
abbrev isrF:List Str:=["_law_program_here", "_law_which", "_law_worths_here"]
theorem isrB:∀ n,LamB (isrL n):=fun n=>by
 match n with
 | 0=>exact⟨fun _ _ _ _ _ _ _=>rfl,fun x z=>(nomatch z)⟩
 | 1=>exact⟨fun z=>(nomatch z),fun x z q cl dV doc pm cv ctv=>by cases z; exact⟨_,rfl,fun u=>rfl⟩⟩
 | 2=>exact⟨fun _ _ _ _ _ _ _=>rfl,fun x z=>(nomatch z)⟩
 | 3=>exact⟨fun _ _ _ _ _ _ _=>rfl,fun x z=>(nomatch z)⟩
theorem isrS:∀ n,NScope (isrN n) (dflN (isrL n).dfl) isrF (isrL n).scope:=fun n=>nscope_by (by revert n; decide +kernel)
abbrev isrT (CW CF:Addr) (E:XK):Fin 4→TE
 | 0=>tCall (spRunX CW CF) [] E (tCons (tVar 0) (tCons (tVar 1) (tCons (tVar 2) tNil)))
 | 1=>tCall (spRunX CW CF) [] E (tCons (tVar 1) (tCons (tVar 2) (tCons (tVar 3) tNil)))
 | 2=>tCall (spRunX CW CF) [] E (tCons (tVar 0) (tCons (tVar 1) (tCons (tVar 2) tNil)))
 | 3=>tCall (spManyX CW CF) [] E (tCons (tVar 0) (tCons (tVar 1) (tCons (tLst (tCons (tVar 2) (tCons (tOp rRep (tLst (tCons (tC (V.int 99999)) tNil)) (tC (V.int 9))) tNil))) tNil)))
theorem PrI.ext {H H':Hp}{pa:Addr}{fm:List (List (Int×Nat)×Nd)} (h:PrI H pa fm) (s:ExtN H H'):PrI H' pa fm:=by
 obtain⟨us,prog,h1,h2,h3⟩:=h.ex
 exact⟨us,prog,s _ _ h1 (fun _ z=>nomatch z),h2.mono (ikE s),h3⟩
theorem BadO.ext {H H':Hp}{fm:List (List (Int×Nat)×Nd)} {j:Int}{wl:Addr}{D:Due}(h:BadO H fm j wl D) (s:ExtN H H'):BadO H' fm j wl D:=by
 cases D with
 | fn=>exact h
 | wo n =>
  obtain⟨i,g,uw,h1,h2,h3,h4,h5,h6⟩:=h
  exact⟨i,g,uw,h1,h2,s _ _ h3 (fun _ z=>nomatch z),h4,h5.ik (ikE s),h6⟩
theorem DueIn.ik {H H':Hp}{t:Addr}{D:Due}(h:DueIn H t D) (s:IK H H'):DueIn H' t D:=by
 cases D with
 | fn =>
  obtain⟨z,h1,h2⟩:=h
  exact⟨z,h1.ik s,h2.ik s⟩
 | wo n =>
  obtain⟨z,h1,h2⟩:=h
  exact⟨z,h1.ik s,h2.ik s⟩
theorem isr_reads {CW CF pa wl:Addr}{j:Int}{fm:List (List (Int×Nat)×Nd)} {D:Due}{H:Hp}(pr:PrI H pa fm) (bad:BadO H fm j wl D) {E:XK}(rf:RefW CW CF D H E) {Q:VK} :
  isrT CW CF E 0 [some (.ref pa),some (.int j),some (.ref wl)] H Q∧isrT CW CF E 1 [some (.int 0),some (.ref pa),some (.int j),some (.ref wl)] H Q∧isrT CW CF E 2 [some (.ref pa),some (.int j),some (.ref wl)] H Q∧isrT CW CF E 3 [some (.ref pa),some (.int j),some (.ref wl)] H Q:=by
 refine⟨⟨_,rfl,_,rfl,_,rfl,pa,wl,j,fm,D,rfl,pr,bad,rf⟩,⟨_,rfl,_,rfl,_,rfl,pa,wl,j,fm,D,rfl,pr,bad,rf⟩,⟨_,rfl,_,rfl,_,rfl,pa,wl,j,fm,D,rfl,pr,bad,rf⟩,⟨_,rfl,_,rfl,_,rfl,?_⟩⟩
 refine⟨by show 1≤sizeLine; decide,fun l1 h1=>⟨l1,_,_,rfl,rfl,upd_same,by decide,by decide,by decide +kernel,fun l2 h2=>⟨by show 2≤sizeLine; decide,fun ml hml => ?_⟩⟩⟩
 have s1:=((same_new h1 (.lst [.int 99999])).trans (same_new h2 _)).trans (same_new hml (.lst [.ref wl,.ref l2]))
 exact⟨pa,ml,j,fm,D,rfl,pr.same s1,bad.many s1 upd_same,rf.same s1⟩
theorem LamAt.kl {H H':Hp}{q:Str}{cl:List (Str×Addr)} {C:LamT}{f c':Addr}{dV:Value}{vs:List V}(h:LamAt H q cl C f c' dV vs) (k:∀ b o,H b=some o→(∀ ps,o≠.tbl ps)→(∀ xs,o≠.lst xs)→H' b=some o):LamAt H' q cl C f c' dV vs:=by
 refine⟨k _ _ h.o (fun _ z=>nomatch z) (fun _ z=>nomatch z),k _ _ h.c (fun _ z=>nomatch z) (fun _ z=>nomatch z),?_⟩
 have:=h.d
 generalize C.dfl=dd at this
 cases this with
 | none=>exact .none
 | one e=>exact .one (k _ _ e (fun _ z=>nomatch z) (fun _ z=>nomatch z))
theorem LamAt.ext {H H':Hp}{q:Str}{cl:List (Str×Addr)} {C:LamT}{f c':Addr}{dV:Value}{vs:List V}(h:LamAt H q cl C f c' dV vs) (k:ExtN H H'):LamAt H' q cl C f c' dV vs:=h.kl fun b o e n _=>k b o e n
theorem LamAt.lst {H:Hp}{q:Str}{cl:List (Str×Addr)} {C:LamT}{f c' l:Addr}{dV:Value}{vs xs ys:List V}(h:LamAt H q cl C f c' dV vs) (e:H l=some (.lst xs)):LamAt (upd H l (.lst ys)) q cl C f c' dV vs:=h.kl fun b o z _ n=>by
 rw [upd_ne fun y=>n xs (by rw [y,e] at z; cases z; rfl)]
 exact z
theorem tabs_ls2 {T:List (Addr×Str)} {H:Hp}{l:Addr}{xs ys:List V}(t:Tabs T H) (e:H l=some (.lst xs)):Tabs T (upd H l (.lst ys)):=fun p hp=>by
 have ne:∀ b o,H b=some o→(∀ xs,o≠.lst xs)→upd H l (.lst ys) b=some o:=fun b o z n=>by
  rw [upd_ne fun y=>n xs (by rw [y,e] at z; cases z; rfl)]
  exact z
 obtain⟨ps,h1,h2,h3⟩:=t p hp
 refine⟨ps,ne _ _ h1 (fun _ z=>nomatch z),h2,fun pos cv hc => ?_⟩
 obtain⟨c,e1,e2⟩:=h3 pos cv hc
 exact⟨c,e1,ne _ _ e2 (fun _ z=>nomatch z)⟩
theorem extN_lst {H G:Hp}{l:Addr}{ys:List V}(e:ExtN H G) (n:H l=none):ExtN H (upd G l (.lst ys)):=fun b o z m=>by
 rw [upd_ne (ne_of_none z n)]
 exact e b o z m
def spIsR (Ts:List (Addr×Str)):Sp:=fun vs H Q _=>∃ (pa wl t:Addr) (j:Int) (fm:List (List (Int×Nat)×Nd)) (D:Due),vs=[.ref pa,.int j,.ref wl,.ref t]∧PrI H pa fm∧BadO H fm j wl D∧DueIn H t D∧Tabs Ts H ∧
 ∀ H',ExtN H H'→Tabs Ts H'→Q (.bl true) H'
theorem caps_in {X:Cx}{sc scope:Scope}{fr:List Str}{js:List Nat}(ok:X.Ok) (h:frB sc scope=true) (h2:fr.all (fun y=>decide ((y,NameKind.free)∈scope.names))=true) (h3:js.map (fun j=>X.N[j]?)=fr.map some) (hX:X.env.scope=sc):Caps X (cloFrom X.env.cells scope.names []) fr js:=by
 refine Caps.made ok (fun y hy hf => ?_) (fun y hy=>of_decide_eq_true ((List.all_eq_true.mp h2) y hy)) h3
 have h1:=(List.all_eq_true.mp h) y hy
 rw [hf] at h1
 have h2:sc.names.lookup y.1=some .cell:=by simpa using h1
 rw [hX]
 exact .inl h2
theorem fr_in {X:Cx}{sc scope:Scope}(h:frB sc scope=true) (hX:X.env.scope=sc):X.Ok→∀ y∈scope.names,y.2=.free→∃ c,X.env.cells.lookup y.1=some c:=fun ok y hy hf=>by
 have h1:=(List.all_eq_true.mp h) y hy
 rw [hf] at h1
 have h2:sc.names.lookup y.1=some .cell:=by simpa using h1
 exact ok.has y.1 (.inl (by show X.env.scope.names.lookup y.1=some .cell; rw [hX]; exact h2))
theorem blk_cells {X:Cx}{pins:List (Addr×Obj)} {σ:L2.St}{s:Shared}{H:Hp}{scope sc:Scope}{cenv:Env}{fp:List Addr}{fr:List Str}{js:List Nat}{lsc:Scope}(I:L2.Inv X pins σ H s) (f3:∀ b∈fp,FpOk X pins H b) (h:frB sc lsc=true) (h2:fr.all (fun y=>decide ((y,NameKind.free)∈lsc.names))=true) (h3:js.map (fun j=>X.N[j]?)=fr.map some) (hX:X.env.scope=sc)
  (pins2:List (Addr×Obj)) (σ2:L2.St) (H2:Hp) (s2:Shared) (J:L2.Inv (X.blk s H scope cenv fp) pins2 σ2 H2 s2):CellsAt (cloFrom X.env.cells lsc.names []) fr (js.map (slotAt σ)) s2.heap H2:=by
 have cp:=caps_in I.ok h h2 h3 hX
 exact cells_later (X:=X.blk s H scope cenv fp) (cells_of I cp) (fun y c hc hb=>(f3 c hb).2.2.2.2.1 y c (cp.sub y c hc) rfl) J
section
variable {P:Program}{w:World}{K:PySem.W.Frag}{mg:Str→Option Value}{base:Heap}{f c Pt:Addr}{fd:FuncData}{Ts:List (Addr×Str)}
theorem isr_body {X:Cx}{CW CF:Addr}{k:Nat}(O_run:Okf X.prog X.w X.K X.mg X.base (CX X.prog X.w) k "run" ["program", "which", "worths"] (spRunX CW CF)) (O_flat:Okf X.prog X.w X.K X.mg X.base (CX X.prog X.w) k "run_flat" ["program", "which", "worths"] (spRunX CW CF)) (O_trim:Okf X.prog X.w X.K X.mg X.base (CX X.prog X.w) k "run_trimmed" ["program", "which", "worths"] (spRunX CW CF)) (O_all:Okf X.prog X.w X.K X.mg X.base (CX X.prog X.w) k "run_all" ["program", "which", "many"] (spManyX CW CF))
  {q:Str}{cl:Fin 4→List (Str×Addr)} (n:Fin 4) (f c':Addr) (dV:Value) (A:Around) (outer:List Env) (s:Shared) (H:Hp) (E:XK) (hr:Room k (A.deeper (envF (NFl (lamV q (cl n) (isrL n) dV c')) f s.heap.objs.size))) :
  PE (ncx (CX X.prog X.w) X.prog X.w X.K X.mg X.base (isrN n) (NFl (lamV q (cl n) (isrL n) dV c')) f A outer s H E) (isrL n).body (isrT CW CF E n):=by
 match n with
 | 0=>exact pe_c O_run hr rfl (passes_call (takes_of rfl rfl rfl rfl) (fun _ _ _ _ h=>h)) (pa_cons (pv 0) (pa_cons (pv 1) (pa_cons (pv 2) pa_nil)))
 | 1=>exact pe_c O_flat hr rfl (passes_call (takes_of rfl rfl rfl rfl) (fun _ _ _ _ h=>h)) (pa_cons (pv 1) (pa_cons (pv 2) (pa_cons (pv 3) pa_nil)))
 | 2=>exact pe_c O_trim hr rfl (passes_call (takes_of rfl rfl rfl rfl) (fun _ _ _ _ h=>h)) (pa_cons (pv 0) (pa_cons (pv 1) (pa_cons (pv 2) pa_nil)))
 | 3=>exact pe_c O_all hr rfl (passes_call (takes_of rfl rfl rfl rfl) (fun _ _ _ _ h=>h)) (pa_cons (pv 0) (pa_cons (pv 1) (pa_cons (pe_lst (pa_cons (pv 2) (pa_cons (pe_op op_rep (pe_lst (pa_cons pe_int pa_nil)) pe_int) pa_nil))) pa_nil)))
theorem ok_isr {CN CB CT CW CF:Addr}{k:Nat}(F:FunL K "_law_is_refused" sLawIsRefused f fd c) (TB:TabB base mg c Pt) (hmT:(Pt,lamQ "_law_is_refused")∈Ts) (hu1:∀ p∈Ts,p.1=Pt→p.2=lamQ "_law_is_refused") (W:WordO K mg CN CB CT CW CF)
  (O_run:Okf P w K mg base (CX P w) k "run" ["program", "which", "worths"] (spRunX CW CF)) (O_flat:Okf P w K mg base (CX P w) k "run_flat" ["program", "which", "worths"] (spRunX CW CF)) (O_trim:Okf P w K mg base (CX P w) k "run_trimmed" ["program", "which", "worths"] (spRunX CW CF)) (O_all:Okf P w K mg base (CX P w) k "run_all" ["program", "which", "many"] (spManyX CW CF)) :
  FnOk P w K mg base CX0 (k+3) f fd ["_law_program_here", "_law_which", "_law_worths_here", "_law_due"] (spIsR Ts):=by
 have sc:=scsLawIsRefused
 refine F.ok sc (fun vs H Q E h => ?_) (fun A outer s H vs Q E hr h => ?_)
 ·obtain⟨pa,wl,t,j,fm,D,rfl,_⟩:=h
  rfl
 have hu:=hu_of hr
 have hcd:(cxOf CX0 P w K mg base nmIsR "_law_is_refused" (defScope sLawIsRefused) f (.ref c) A outer s H E).env.code=.ref c:=rfl
 obtain⟨pa,wl,t,j,fm,D,rfl,pr,bad,due,tabs,q⟩:=h
 refine⟨_,PSs.nox (pss_cons (ps_set (i:=4) sc.nd rfl (.inl rfl) (pe_lst (pa_cons (pe_lam0 TB hcd hmT hu1 (fr_in (sc:=defScope sLawIsRefused) (by decide +kernel) rfl)) (pa_cons (pe_lam1 TB hcd hmT hu1 (fr_in (sc:=defScope sLawIsRefused) (by decide +kernel) rfl) pe_int) pa_nil))))
  (pss_cons (ps_expr (pe_bm PySem.F.plainAttrs_list PySem.F.slot_list_append PySem.F.type_list_append mt_append (pv 4) (pa_cons (pe_lam0 TB hcd hmT hu1 (fr_in (sc:=defScope sLawIsRefused) (by decide +kernel) rfl)) pa_nil)))
  (pss_cons (ps_expr (pe_bm PySem.F.plainAttrs_list PySem.F.slot_list_append PySem.F.type_list_append mt_append (pv 4) (pa_cons (pe_lam0 TB hcd hmT hu1 (fr_in (sc:=defScope sLawIsRefused) (by decide +kernel) rfl)) pa_nil)))
  (pss_one (ps_ret (pe_cmpR (op_eqDK K hr.units) (pe_lcL (own:=[("_law_work", 5)]) (by rfl) sc.nd (pi_listK K (pv 4)) (blkOk_by (own:=[("_law_work", 5)]) (N:=nmIsR) (sc:=defScope sLawIsRefused) (by decide +kernel)) (fun _ _ _ _ _=>(pg_name (i:=5) sc.nd rfl (.inl rfl)))
   (fun pins σ0 s0 H0 C0 cl0 fp0 I0 f0=>pts_one (pt_cmpR (op_neDK K hr.units) (pe_word (k:=k) (q:=fun _=>lamQ "_law_is_refused") (C:=isrL) (cl:=fun n=>cloFrom (envOfC "_law_is_refused" (defScope sLawIsRefused) s.heap.objs.size f (.ref c)).cells (isrL n).scope.names []) (N:=isrN) (fr:=fun _=>isrF) (ws:=fun _ _=>[0,1,2].map (slotAt σ0)) (tb:=fun n E=>isrT CW CF E n) W rfl (hr.mono (by omega)) (pv 5) isrB isrS
    (fun pins2 σ2 H2 s2 J n=>blk_cells (sc:=defScope sLawIsRefused) I0 f0 (by revert n; decide +kernel) (by revert n; decide +kernel) rfl rfl pins2 σ2 H2 s2 J) (isr_body O_run O_flat O_trim O_all)) (pv 3) (nomark _)))
   (fun _ _ _ _ _=>pv 5)) (pe_lst pa_nil) (nomark _))))))),?_⟩
 refine⟨tabs,fun f0 c0 G0 e0 n0 t0 h0 g0 k0=>⟨t0,fun d1 f1 c1 G1 hd1 e1 n1 t1 h1 ne1 g1d g1 k1=>⟨by show 2≤sizeLine; decide,fun l hl => ?_⟩⟩⟩
 have L0:LamAt G0 (lamQ "_law_is_refused") (cloFrom (envOfC "_law_is_refused" (defScope sLawIsRefused) s.heap.objs.size f (.ref c)).cells (isrL 0).scope.names []) (isrL 0) f0 c0 .none []:=⟨g0,k0,.none⟩
 have L1:LamAt G1 (lamQ "_law_is_refused") (cloFrom (envOfC "_law_is_refused" (defScope sLawIsRefused) s.heap.objs.size f (.ref c)).cells (isrL 1).scope.names []) (isrL 1) f1 c1 (.ref d1) [.int 0]:=⟨g1,k1,.one g1d⟩
 have s1:=same_new hl (.lst [.ref f0,.ref f1])
 have el:upd G1 l (.lst [.ref f0,.ref f1]) l=some (.lst [.ref f0,.ref f1]):=upd_same
 have ex1:ExtN H (upd G1 l (.lst [.ref f0,.ref f1])):=(e0.trans e1).trans (.of s1)
 have nl:H l=none:=n0 _ (n1 _ hl)
 replace L0:=L0.ext (e1.trans (.of s1))
 replace L1:=L1.ext (.of s1)
 replace t1:=t1.ext s1
 generalize upd G1 l (.lst [.ref f0,.ref f1])=H1 at el ex1 L0 L1 t1 ⊢
 dsimp only [gName]
 refine⟨_,rfl,.inl ⟨rfl,_,SqL.of el⟩,t1,fun f2 c2 G2 e2 n2 t2 h2 g2 k2=>⟨l,_,_,rfl,rfl,e2 _ _ el (fun _ z=>nomatch z),small1000 (by show 2≤1000; decide),?_⟩⟩
 have L2':LamAt G2 (lamQ "_law_is_refused") (cloFrom (envOfC "_law_is_refused" (defScope sLawIsRefused) s.heap.objs.size f (.ref c)).cells (isrL 2).scope.names []) (isrL 2) f2 c2 .none []:=⟨g2,k2,.none⟩
 have el2:=e2 _ _ el (fun _ z=>nomatch z)
 replace L0:=(L0.ext e2).lst el2 (ys:=[.ref f0,.ref f1]++[.ref f2])
 replace L1:=(L1.ext e2).lst el2 (ys:=[.ref f0,.ref f1]++[.ref f2])
 replace L2':=L2'.lst el2 (ys:=[.ref f0,.ref f1]++[.ref f2])
 replace t2:=tabs_ls2 t2 el2 (ys:=[.ref f0,.ref f1]++[.ref f2])
 have ex2:ExtN H (upd G2 l (.lst ([.ref f0,.ref f1]++[.ref f2]))):=extN_lst (ex1.trans e2) nl
 replace el2:upd G2 l (.lst ([.ref f0,.ref f1]++[.ref f2])) l=some (.lst [.ref f0,.ref f1,.ref f2]):=upd_same
 generalize upd G2 l (.lst ([.ref f0,.ref f1]++[.ref f2]))=H2 at el2 ex2 L0 L1 L2' t2 ⊢
 refine⟨_,rfl,.inl ⟨rfl,_,SqL.of el2⟩,t2,fun f3 c3 G3 e3 n3 t3 h3 g3 k3=>⟨l,_,_,rfl,rfl,e3 _ _ el2 (fun _ z=>nomatch z),small1000 (by show 3≤1000; decide),?_⟩⟩
 have L3:LamAt G3 (lamQ "_law_is_refused") (cloFrom (envOfC "_law_is_refused" (defScope sLawIsRefused) s.heap.objs.size f (.ref c)).cells (isrL 3).scope.names []) (isrL 3) f3 c3 .none []:=⟨g3,k3,.none⟩
 have el3:=e3 _ _ el2 (fun _ z=>nomatch z)
 replace L0:=(L0.ext e3).lst el3 (ys:=[.ref f0,.ref f1,.ref f2]++[.ref f3])
 replace L1:=(L1.ext e3).lst el3 (ys:=[.ref f0,.ref f1,.ref f2]++[.ref f3])
 replace L2':=(L2'.ext e3).lst el3 (ys:=[.ref f0,.ref f1,.ref f2]++[.ref f3])
 replace L3:=L3.lst el3 (ys:=[.ref f0,.ref f1,.ref f2]++[.ref f3])
 replace t3:=tabs_ls2 t3 el3 (ys:=[.ref f0,.ref f1,.ref f2]++[.ref f3])
 have ex3:ExtN H (upd G3 l (.lst ([.ref f0,.ref f1,.ref f2]++[.ref f3]))):=extN_lst (ex2.trans e3) nl
 replace el3:upd G3 l (.lst ([.ref f0,.ref f1,.ref f2]++[.ref f3])) l=some (.lst [.ref f0,.ref f1,.ref f2,.ref f3]):=upd_same
 generalize upd G3 l (.lst ([.ref f0,.ref f1,.ref f2]++[.ref f3]))=H3 at el3 ex3 L0 L1 L2' L3 t3 ⊢
 refine⟨_,rfl,l,rfl,⟨_,SqL.of el3⟩,fun DD hD => ?_⟩
 have pr3:=pr.ext ex3
 have bad3:=bad.ext ex3
 have due3:=due.ik (ikE ex3)
 have word:∀ (i:Nat) (v:V) (H':Hp),[V.ref f0,.ref f1,.ref f2,.ref f3][i]? = some v→Same H3 H'→∀ (Q:VK),(∀ H2 v,Same H' H2→WordOk H2 v D→Q v H2)→∃ (n:Fin 4) (f' c':Addr) (dV:Value) (us:List V),v=.ref f'∧LamAt H' (lamQ "_law_is_refused") (cloFrom (envOfC "_law_is_refused" (defScope sLawIsRefused) s.heap.objs.size f (.ref c)).cells (isrL n).scope.names []) (isrL n) f' c' dV us∧TWrd CW CF (fun E H' Q'=>isrT CW CF E n (startF (isrN n) us [some (.ref pa),some (.int j),some (.ref wl)]) H' Q') H' Q:=by
  intro i v H' hi s' Q' qq
  have kk:ExtN H3 H':=.of s'
  have td:∀ {n:Fin 4}{us:List V},(∀ (E:XK),RefW CW CF D H' E→isrT CW CF E n (startF (isrN n) us [some (.ref pa),some (.int j),some (.ref wl)]) H' fun _ _=>False)→TWrd CW CF (fun E H' Q'=>isrT CW CF E n (startF (isrN n) us [some (.ref pa),some (.int j),some (.ref wl)]) H' Q') H' Q':=fun h=>⟨D,h,qq⟩
  have rd:∀ (E:XK),RefW CW CF D H' E→_:=fun E rf=>isr_reads (pr3.same s') (bad3.same s') rf (Q:=fun _ _=>False)
  match i,hi with
  | 0,hi=>cases hi; exact⟨0,f0,c0,_,_,rfl,L0.ext kk,td fun E rf=>(rd E rf).1⟩
  | 1,hi=>cases hi; exact⟨1,f1,c1,_,_,rfl,L1.ext kk,td fun E rf=>(rd E rf).2.1⟩
  | 2,hi=>cases hi; exact⟨2,f2,c2,_,_,rfl,L2'.ext kk,td fun E rf=>(rd E rf).2.2.1⟩
  | 3,hi=>cases hi; exact⟨3,f3,c3,_,_,rfl,L3.ext kk,td fun E rf=>(rd E rf).2.2.2⟩
  | i+4,hi=>cases hi
 refine lc_list (K:=K) (a:=l) (xs:=[.ref f0,.ref f1,.ref f2,.ref f3]) (fun i H'=>Same (upd H3 DD (.lst [])) H') (Same.refl _) ?_ ?_ ?_
 ·intro i H' _ s'
  exact SqL.of (s' _ _ (same_new hD _ _ _ el3))
 ·intro i v H' hi s'
  have s3:=(same_new hD (.lst [])).trans s'
  refine⟨rfl,?_⟩
  refine⟨_,rfl,word i v H' hi s3 _ fun H4 v4 s4 wo => ?_⟩
  obtain⟨t4,rfl,du4⟩:=wo.due
  refine⟨_,rfl,duePd D,duePd D,du4.dp,((due3.same s3).same s4).dp,due_shaped D,due_shaped D,_,rfl,?_⟩
  rw [due_eq]
  exact s'.trans s4
 ·intro H' s'
  have eD:H' DD=some (.lst []):=s' _ _ upd_same
  have s3:=(same_new hD (.lst [])).trans s'
  refine⟨by show 0≤sizeLine; decide,fun l9 hl9 => ?_⟩
  have s9:=s3.trans (same_new hl9 (.lst []))
  refine⟨.list [],.list [],.lst (SqL.of (same_new hl9 _ _ _ eD)) .nil,.lst (SqL.of upd_same) .nil,rfl,rfl,?_⟩
  exact q _ (ex3.trans (.of s9)) (t3.ext s9)
end
end NR
namespace NR
open PySem PySem.Spec PyProof.Rows L2
abbrev sLawRow:Stmt:=top 145
theorem scsLawRow:FnScope ["_law_row_here", "_law_depth", "_law_most", "_law_k"] ["_law_row_here", "_law_depth", "_law_most"] (defScope sLawRow):=⟨rfl,rfl,rfl,by decide +kernel,rfl,by decide +kernel,by decide +kernel⟩
section
variable {P:Program}{w:World}{K:PySem.W.Frag}{mg:Str→Option Value}{base:Heap}{f:Addr}{fd:FuncData}
theorem ok_row_step {n:Nat}(F:FnP K "_law_row" sLawRow f fd) (O_taken:Okf P w K mg base CX0 (n+1) "_law_taken" ["_law_row_here", "_law_many"] (spTaken K))
  (O_row:Okf P w K mg base CX0 (n+1) "_law_row" ["_law_row_here", "_law_depth", "_law_most"] (spRow K n)) (z_range:mg "range" = none) (z_tuple:mg "tuple" = none) :
  FnOk P w K mg base CX0 (n+2) f fd ["_law_row_here", "_law_depth", "_law_most"] (spRow K (n+1)):=by
 have sc:=scsLawRow
 refine F.ok sc (fun vs H Q E h => ?_) (fun cdv A outer s H vs Q E hr h => ?_)
 ·obtain⟨r,d,most,rfl,_⟩:=h
  rfl
 obtain⟨r,d,most,rfl,dr,hd,h3,m0,m1,q⟩:=h
 refine⟨_,PSs.nox (pss_cons (ps_if (pt_cmpR op_eq (pv 1) pe_int (nomark _)) (pss_one (ps_ret (pe_ix (ix_listK K) (pe_lst (pa_cons (pe_c O_taken hr rfl pass0 (pa_cons (pv 0) (pa_cons pe_int pa_nil))) (pa_cons (pe_c O_taken hr rfl pass0 (pa_cons (pv 0) (pa_cons pe_int pa_nil))) (pa_cons (pe_c O_taken hr rfl pass0 (pa_cons (pv 0) (pa_cons pe_int pa_nil))) pa_nil)))) (pe_c O_taken hr rfl pass0 (pa_cons (pv 0) (pa_cons pe_int pa_nil))) (fun _ _=>rfl)))) pss_nil)
  (pss_one (ps_ret (pe_callTy (call_tupleK K) rfl z_tuple (by decide +kernel) (pa_cons (pe_lc (own:=[("_law_k", 3)]) (by rfl) sc.nd (pi_range1 rfl z_range (pa_cons (pe_c O_taken hr rfl pass0 (pa_cons (pv 0) (pa_cons (pe_op op_add (pv 2) pe_int) pa_nil))) pa_nil)) (blkOk_by (own:=[("_law_k", 3)]) (N:=["_law_row_here", "_law_depth", "_law_most", "_law_k"]) (sc:=defScope sLawRow) (by decide +kernel)) (fun _ _ _ _ _=>(pg_name (i:=3) sc.nd rfl (.inl rfl))) (fun _ _ _ _ _=>pts_nil) (fun _ _ _ _ _=>(pe_c O_row hr rfl pass0 (pa_cons (pv 0) (pa_cons (pe_op op_sub (pv 1) pe_int) (pa_cons (pv 2) pa_nil)))))) pa_nil))))),?_⟩
 refine⟨_,rfl,rfl,_,rfl,ite2 (fun c => ?_) (fun c => ?_)⟩
 ·have c1:V.int (d:Int)=V.int 0:=of_decide_eq_true c
  have c2:d=0:=by
   injection c1 with c1
   omega
  subst c2
  refine⟨_,rfl,r,5,rfl,dr,by decide,by decide,fun k1 H4 a1 b1 g4=>⟨_,rfl,r,5,rfl,g4.d,by decide,by decide,fun k2 H5 a2 b2 g5=>⟨_,rfl,r,10007,rfl,g5.d,by decide,by decide,fun k3 H6 a3 b3 g6 => ?_⟩⟩⟩
  refine⟨by show 3≤sizeLine; decide,fun t ht=>⟨_,rfl,r,3,rfl,(Drawn.new g6.d ht).d,by decide,by decide,fun k4 H7 a4 b4 g7 => ?_⟩⟩
  have gt:=Drawn.new (o:=.lst [.int k1,.int k2,.int k3]) g6.d ht
  have et:H7 t=some (.lst [.int k1,.int k2,.int k3]):=by
   obtain⟨o,ho⟩:=g6.d.ref
   exact g7.s _ _ (fun z=>by
    rw [z,ho] at ht
    cases ht) upd_same
  have hv:∃ n:Int,atI [V.int k1,V.int k2,V.int k3] k4=some (.int n)∧0≤n∧n≤10006:=by
   have hk:k4=0∨k4=1∨k4=2:=by omega
   rcases hk with rfl | rfl | rfl
   ·exact⟨k1,rfl,a1,by omega⟩
   ·exact⟨k2,rfl,a2,by omega⟩
   ·exact⟨k3,rfl,a3,by omega⟩
  obtain⟨n,hn,n0,n1⟩:=hv
  exact⟨t,_,_,_,rfl,rfl,SqL.of et,hn,q _ _ (.num n) (((g4.trans g5).trans g6).trans (gt.trans g7)) .num ⟨n0,n1⟩⟩
 ·have d0:d≠0:=fun z=>c (decide_eq_true (by rw [z]; rfl))
  obtain⟨d,rfl⟩:∃ d',d=d'+1:=⟨d - 1,by omega⟩
  refine⟨_,rfl,_,rfl,_,_,rfl,rfl,r,most+1,rfl,dr,by omega,by omega,fun k1 H1 a1 b1 g1=>⟨_,rfl,by omega,by omega,fun D hD => ?_⟩⟩
  have nD:D≠r.r:=by
   obtain⟨o,ho⟩:=g1.d.ref
   exact (ne_of_none ho hD).symm
  refine lc_range (lo:=0) (n:=k1.toNat) (fun i H'=>∃ vs ws,H' D=some (.lst vs)∧vs.length=i∧Drawn K r H1 H'∧WIns H' vs ws∧∀ w∈ws,WOk d w) ⟨[],[],upd_same,rfl,Drawn.new g1.d hD,.nil,fun w hw=>by (cases hw)⟩ ?_ ?_
  ·rintro i H2 hi ⟨vs,ws,eD,ev,g2,wi,wo⟩
   refine⟨rfl,?_⟩
   dsimp only [tYes,gName]
   rw [if_pos rfl]
   refine⟨_,rfl,_,rfl,_,_,rfl,rfl,_,rfl,r,d,most,?_,g2.d,by omega,by omega,m0,m1,fun v H3 w g3 wv wk => ?_⟩
   ·show [V.ref r.r,V.int (((d+1:Nat):Int) - 1),V.int most]=_
    rw [show (((d+1:Nat):Int) - 1)=(d:Int) by omega]
   have eD3:=g3.s _ _ nD eD
   have tk:TK H3 (upd H3 D (.lst (vs++[v]))):=TK.lst eD3
   refine⟨vs,eD3,?_,vs++[v],ws++[w],upd_same,?_,(g2.trans g3).put g1.d hD,(wi.mono ((g3.tk g2.d).trans tk)).snoc (wv.mono tk),?_⟩
   ·rw [ev]
    exact small1000 (by omega)
   ·rw [List.length_append,ev]
    rfl
   ·intro x hx
    rcases List.mem_append.mp hx with hx | hx
    ·exact wo x hx
    ·rw [List.mem_singleton.mp hx]
     exact wk
  ·rintro H2 ⟨vs,ws,eD,ev,g2,wi,wo⟩
   refine⟨D,_,rfl,.inl ⟨SqL.of eD,fun l hl => ?_⟩⟩
   have g3:=Drawn.new (o:=.tup vs) g2.d hl
   refine q _ _ (.row ws) ((g1.trans g2).trans g3) (.row upd_same (wi.mono (g3.tk g2.d))) ⟨?_,wo⟩
   have:=wi.len
   omega
end
abbrev sLawWorths:Stmt:=top 146
theorem scsLawWorths:FnScope ["_law_row_here", "_law_program_here", "_law_which", "_law_params", "_law_found", "_law_name", "_law_depth"] ["_law_row_here", "_law_program_here", "_law_which"] (defScope sLawWorths):=⟨rfl,rfl,rfl,by decide +kernel,rfl,by decide +kernel,by decide +kernel⟩
section
variable {P:Program}{w:World}{K:PySem.W.Frag}{mg:Str→Option Value}{base:Heap}{f:Addr}{fd:FuncData}
theorem ok_worths {k:Nat}(F:FnP K "_law_worths" sLawWorths f fd) (O_taken:Okf P w K mg base CX0 k "_law_taken" ["_law_row_here", "_law_many"] (spTaken K))
  (O_row:Okf P w K mg base CX0 k "_law_row" ["_law_row_here", "_law_depth", "_law_most"] (spRow K 4)):FnOk P w K mg base CX0 (k+1) f fd ["_law_row_here", "_law_program_here", "_law_which"] (spWorths K):=by
 have sc:=scsLawWorths
 refine F.ok sc (fun vs H Q E h => ?_) (fun cdv A outer s H vs Q E hr h => ?_)
 ·obtain⟨r,a,which,pvs,prog,f,rfl,_⟩:=h
  rfl
 obtain⟨r,a,which,pvs,prog,fn,rfl,dr,ea,pg,good,fst,hw,q⟩:=h
 obtain⟨fa,pv,bv,hfa,efa,pti,_⟩:=pg.gf which hw
 obtain⟨pt,o,xs,rfl,ept,hdn,pin⟩:=pti.ex
 obtain⟨FO,_⟩:=good.fn which fn hw
 have few:=FO.few
 refine⟨_,PSs.nox (pss_cons ((ps_set (i:=3) sc.nd rfl (.inl rfl) (pe_ix (ix_tupK K) (pe_ix (ix_tupK K) (pv 1) (pv 2) (fun _ _=>rfl)) pe_int (fun _ _=>rfl))))
  (pss_cons ((ps_setLc (i:=4) (own:=[("_law_name", 5),("_law_depth", 6)]) (by rfl) sc.nd rfl rfl (sw_true rfl rfl rfl (by decide +kernel)) (pi_tupK K (pv 3)) (blkOk_by (own:=[("_law_name", 5),("_law_depth", 6)]) (N:=["_law_row_here", "_law_program_here", "_law_which", "_law_params", "_law_found", "_law_name", "_law_depth"]) (sc:=defScope sLawWorths) (by decide +kernel)) (fun _ _ _ _ _=>(pg_tupK K (n:=2) rfl (pgs_cons (pg_name (i:=5) sc.nd rfl (.inl rfl)) (pgs_cons (pg_name (i:=6) sc.nd rfl (.inl rfl)) pgs_nil)))) (fun _ _ _ _ _=>pts_nil) (fun _ _ _ _ _=>(pe_c O_row hr rfl pass0 (pa_cons (pv 0) (pa_cons (pv 6) (pa_cons (pe_ix (ix_listK K) (pe_lst (pa_cons pe_int (pa_cons pe_int (pa_cons pe_int (pa_cons pe_int pa_nil))))) (pv 6) (fun _ _=>rfl)) pa_nil)))))))
  (pss_one ((ps_ret (pe_op op_cat (pe_lst (pa_cons (pe_c O_taken hr rfl pass0 (pa_cons (pv 0) (pa_cons pe_int pa_nil))) pa_nil)) (pe_slice (sl_listK K) (pv 4) (po_some pe_int) po_none))))))),?_⟩
 refine⟨_,rfl,_,rfl,a,_,_,_,rfl,rfl,SqT.of ea,atI_nat hfa,fa,_,_,_,rfl,rfl,SqT.of efa,at0,?_⟩
 have g02:=Drawn.refl dr
 have ik2:=g02.ik dr
 have ept2:=ik2.f _ _ _ ept
 have pin2:=pin.mono ik2.t
 refine⟨_,rfl,pt,rfl,⟨_,.inl (.inr ⟨o,ept2⟩)⟩,fun D hD => ?_⟩
 have nD:D≠r.r:=by
  obtain⟨o,ho⟩:=g02.d.ref
  exact (ne_of_none ho hD).symm
 refine lc_tup (K:=K) (a:=pt) (xs:=xs) (fun i H'=>∃ vs ws,H' D=some (.lst vs)∧vs.length=i∧Drawn K r H H'∧WIns H' vs ws∧WOks ((fn.ps.map (·.2)).take i) ws) ⟨[],[],upd_same,rfl,Drawn.new g02.d hD,.nil,trivial⟩ ?_ ?_ ?_
 ·rintro i H' hi ⟨vs,ws,e1,e2,g3,_⟩
  exact .inl (.inr ⟨o,(g3.ik g02.d).f _ _ _ ept2⟩)
 ·rintro i x H' hx ⟨vs,ws,eD,ev,g3,wi,wo⟩
  obtain⟨pa,px,pd,rfl,hpx,hpa⟩:=pin2.get i hx
  have hpm:=List.mem_of_getElem? hpx
  have plo:=FO.lo _ hpm
  have hi:i < fn.ps.length:=(List.getElem?_eq_some_iff.mp hpx).1
  refine⟨pa,_,rfl,SqT.of (g3.tk g02.d _ _ hpa),rfl,_,_,rfl,_,_,rfl,rfl,rfl,?_⟩
  dsimp only [tYes,gName]
  rw [if_pos rfl]
  refine⟨_,rfl,_,rfl,by show 4≤sizeLine; decide,fun l2 hl2 => ?_⟩
  have g4:=Drawn.new (o:=.lst [.int 5,.int 4,.int 3,.int 3]) g3.d hl2
  obtain⟨ms,hms,ms0,ms1⟩:∃ n:Int,atI [V.int 5,V.int 4,V.int 3,V.int 3] (pd:Int)=some (.int n)∧0≤n∧n≤40:=by
   have hk:pd=0∨pd=1∨pd=2∨pd=3:=by
    have:pd≤3:=plo.2.2
    omega
   rcases hk with rfl | rfl | rfl | rfl
   ·exact⟨5,rfl,by decide,by decide⟩
   ·exact⟨4,rfl,by decide,by decide⟩
   ·exact⟨3,rfl,by decide,by decide⟩
   ·exact⟨3,rfl,by decide,by decide⟩
  refine⟨_,rfl,l2,_,_,_,rfl,rfl,SqL.of upd_same,hms,r,pd,ms,rfl,g4.d,by have:pd≤3:=plo.2.2; omega,plo.2.2,ms0,ms1,fun v H5 w g5 wv wk => ?_⟩
  have eD5:=(g4.trans g5).s _ _ nD eD
  have tk:TK H5 (upd H5 D (.lst (vs++[v]))):=TK.lst eD5
  refine⟨vs,eD5,?_,vs++[v],ws++[w],upd_same,?_,(g3.trans (g4.trans g5)).put g02.d hD,(wi.mono (((g4.trans g5).tk g3.d).trans tk)).snoc (wv.mono tk),?_⟩
  ·rw [ev]
   exact small1000 (by omega)
  ·rw [List.length_append,ev]
   rfl
  ·rw [List.take_succ,List.getElem?_map,hpx]
   exact WOks.snoc wk wo
 ·rintro H3 ⟨vs,ws,eD,ev,g3,wi,wo⟩
  have lx:xs.length=(fn.ps.map (·.2)).length:=by rw [pin2.len,List.length_map]
  rw [lx,List.take_length] at wo
  obtain⟨x0,rest,eps⟩:=fst _ (List.mem_of_getElem? hw)
  refine⟨_,rfl,r,6,rfl,g3.d,by decide,by decide,fun k3 H4 a3 b3 g4=>⟨by show 1≤sizeLine; decide,fun l3 hl3 => ?_⟩⟩
  have g5:=Drawn.new (o:=.lst [.int k3]) g4.d hl3
  have g35:=g4.trans g5
  have eD5:=g35.s _ _ nD eD
  obtain⟨v0,vr,w0,wr,evs,ews⟩:∃ v0 vr w0 wr,vs=v0::vr∧ws=w0::wr:=by
   have l1:ws.length=(fn.ps.map (·.2)).length:=WOks.len wo
   rw [eps] at l1
   cases wi with
   | nil=>simp at l1
   | cons h r=>exact⟨_,_,_,_,rfl,rfl⟩
  subst evs
  subst ews
  refine⟨_,rfl,_,rfl,D,_,rfl,SqL.of eD5,fun l4 hl4 => ?_⟩
  rw [cut1]
  have g6:=Drawn.new (o:=.lst vr) g5.d hl4
  have nl3:l3≠r.r:=by
   obtain⟨o,ho⟩:=g4.d.ref
   exact (ne_of_none ho hl3).symm
  refine⟨l3,l4,_,_,rfl,rfl,g6.s _ _ nl3 upd_same,upd_same,?_,fun l5 hl5 => ?_⟩
  ·have l2:(v0::vr).length=(fn.ps.map (·.2)).length:=by rw [ev,lx]
   rw [List.length_map] at l2
   simp only [List.length_cons] at l2
   refine le2 ?_
   show 1+vr.length≤1000
   omega
  have g7:=Drawn.new (o:=.lst ([.int k3]++vr)) g6.d hl5
  have gall:=(g02.trans g3).trans (g35.trans (g6.trans g7))
  have hl50:H l5=none:=by
   cases e:H l5 with
   | none=>rfl
   | some u =>
    have nl5:l5≠r.r:=by
     obtain⟨o,ho⟩:=g6.d.ref
     exact (ne_of_none ho hl5).symm
    have:=((g02.trans g3).trans (g35.trans g6)).s _ _ nl5 e
    rw [hl5] at this
    cases this
  have wir:WIns H3 vr wr:=by
   cases wi with
   | cons h r=>exact r
  refine q l5 _ _ (.num k3::wr) gall upd_same hl50 (.cons .num (wir.mono ((g35.tk g3.d).trans ((g6.tk g5.d).trans (g7.tk g6.d))))) ?_
  rw [eps] at wo ⊢
  exact⟨⟨a3,by omega⟩,wo.2⟩
end
theorem op_repTK {X:Cx}(K:PySem.W.Frag) (h:X.K=K:=by rfl):OpR X (binaryOp .Mult) (rRepT K):=h ▸ op_repT
def rCatW (K:PySem.W.Frag):V→V→Hp→VK→Prop:=fun x y H Q=>∃ (a b:Addr) (xs ys:List V),x=.ref a∧y=.ref b∧TupA H a xs∧TupA H b ys∧ys≠[]∧xs.length+ys.length≤1000 ∧
 ∀ (p:Addr) (H':Hp),(∀ r:RD,Draw K r H→Drawn K r H H')→Same H H'→TupA H' p (xs++ys)→Q (.ref p) H'
theorem op_catW {X:Cx}(K:PySem.W.Frag) (h:X.K=K:=by rfl):OpR X (binaryOp .Add) (rCatW K):=fun pins s σ H x y v u Q I rx ry ⟨a,b,xs,ys,e1,e2,h1,h2,h3,h4,q⟩=>by
 refine op_catAN K h pins s σ H x y v u Q I rx ry ⟨a,b,xs,ys,e1,e2,h1.sq,h2.sq,Nat.le_of_lt (small1000 h4),fun e => ?_,fun _ e=>absurd e h3,fun _ _ p hp => ?_⟩
 ·subst e
  exact q b H (fun r d=>.refl d) (Same.refl _) h2
 ·exact q p _ (fun r d=>.new d hp) (same_new hp _) (.inl upd_same)
theorem rep_flat {α:Type}(x:α):∀ n:Nat,(List.replicate n [x]).flatten=List.replicate n x
 | 0=>rfl
 | n+1=>by rw [List.replicate_succ,List.flatten_cons,rep_flat x n,List.replicate_succ]; rfl
def spOdd (K:PySem.W.Frag) (n:Nat):Sp:=fun vs H Q _=>∃ (r:RD) (d:Nat),vs=[.ref r.r,.int (d:Int)]∧Draw K r H∧d < n∧d≤3 ∧
 ∀ (v:V) (H':Hp),Drawn K r H H'→Wh H' d v false→Q v H'
abbrev sLawOdd:Stmt:=top 157
theorem scsLawOdd:FnScope ["_law_row_here", "_law_depth", "_law_far", "_law_good", "_law_some"] ["_law_row_here", "_law_depth"] (defScope sLawOdd):=⟨rfl,rfl,rfl,by decide +kernel,rfl,by decide +kernel,by decide +kernel⟩
section
variable {P:Program}{w:World}{K:PySem.W.Frag}{mg:Str→Option Value}{base:Heap}{f:Addr}{fd:FuncData}
theorem ok_odd {k n:Nat}(F:FnP K "_law_odd" sLawOdd f fd) (O_taken:Okf P w K mg base CX0 k "_law_taken" ["_law_row_here", "_law_many"] (spTaken K)) (O_row:Okf P w K mg base CX0 k "_law_row" ["_law_row_here", "_law_depth", "_law_most"] (spRow K 4)) (O_odd:Okf P w K mg base CX0 k "_law_odd" ["_law_row_here", "_law_depth"] (spOdd K n)) :
  FnOk P w K mg base CX0 (k+1) f fd ["_law_row_here", "_law_depth"] (spOdd K (n+1)):=by
 have sc:=scsLawOdd
 refine F.ok sc (fun vs H Q E h => ?_) (fun cdv A outer s H vs Q E hr h => ?_)
 ·obtain⟨r,d,rfl,_⟩:=h
  rfl
 obtain⟨r,d,rfl,dr,hd,h3,q⟩:=h
 refine⟨_,PSs.nox (pss_cons (ps_set (i:=2) sc.nd rfl (.inl rfl) (pe_c O_taken hr rfl pass0 (pa_cons (pv 0) (pa_cons pe_int pa_nil))))
  (pss_cons (ps_if (pt_cmpR op_eq (pv 1) pe_int (nomark _)) (pss_one (ps_ret (pe_ix (ix_listK K) (pe_lst (pa_cons (pe_op op_add pe_int (pv 2)) (pa_cons (pe_op op_sub (pe_op op_sub pe_int pe_int) (pv 2)) (pa_cons (pe_tupF pa_nil) (pa_cons (pe_tupF (pa_cons pe_int pa_nil)) (pa_cons pe_bl pa_nil)))))) (pe_c O_taken hr rfl pass0 (pa_cons (pv 0) (pa_cons pe_int pa_nil))) (fun _ _=>rfl)))) pss_nil)
  (pss_cons (ps_set (i:=3) sc.nd rfl (.inl rfl) (pe_c O_row hr rfl pass0 (pa_cons (pv 0) (pa_cons (pv 1) (pa_cons pe_int pa_nil)))))
  (pss_cons (ps_set (i:=4) sc.nd rfl (.inl rfl) (pe_lst (pa_cons pe_int (pa_cons (pe_tup (pa_cons (pe_c O_odd hr rfl pass0 (pa_cons (pv 0) (pa_cons (pe_op op_sub (pv 1) pe_int) pa_nil))) pa_nil)) (pa_cons (pe_op (op_catW K) (pv 3) (pe_tup (pa_cons (pe_c O_odd hr rfl pass0 (pa_cons (pv 0) (pa_cons (pe_op op_sub (pv 1) pe_int) pa_nil))) pa_nil))) (pa_cons (pe_op (op_repTK K) (pe_tup (pa_cons (pe_c O_row hr rfl pass0 (pa_cons (pv 0) (pa_cons (pe_op op_sub (pv 1) pe_int) (pa_cons pe_int pa_nil)))) pa_nil)) pe_int) pa_nil))))))
  (pss_one (ps_ret (pe_ix (ix_listK K) (pv 4) (pe_c O_taken hr rfl pass0 (pa_cons (pv 0) (pa_cons pe_int pa_nil))) (fun _ _=>rfl)))))))),?_⟩
 refine⟨_,rfl,r,1000,rfl,dr,by decide,by decide,fun k1 H1 a1 b1 g1 => ?_⟩
 dsimp only [gName]
 refine⟨_,rfl,rfl,_,rfl,ite2 (fun c => ?_) (fun c => ?_)⟩
 ·have c1:V.int (d:Int)=V.int 0:=of_decide_eq_true c
  have c2:d=0:=by
   injection c1 with c1
   omega
  subst c2
  refine⟨_,rfl,_,_,rfl,rfl,_,_,rfl,rfl,_,rfl,_,_,rfl,rfl,by show 0≤sizeLine; decide,fun z1 o1 hz1 ho1=>⟨by show 1≤sizeLine; decide,fun z2 o2 hz2 ho2 => ?_⟩⟩
  have g2:=g1.trans (Drawn.new (o:=.frz o1 (.tup [])) g1.d hz1)
  have e1:upd H1 z1 (.frz o1 (.tup [])) z1=some (.frz o1 (.tup [])):=upd_same
  generalize upd H1 z1 (.frz o1 (.tup []))=H2 at g2 e1 hz2 ⊢
  have s3:=same_new hz2 (.frz o2 (.tup [.int 1]))
  have g3:=g2.trans (Drawn.new (o:=.frz o2 (.tup [.int 1])) g2.d hz2)
  have e2:upd H2 z2 (.frz o2 (.tup [.int 1])) z2=some (.frz o2 (.tup [.int 1])):=upd_same
  replace e1:=s3 _ _ e1
  generalize upd H2 z2 (.frz o2 (.tup [.int 1]))=H3 at g3 e1 e2 ⊢
  refine⟨by show 5≤sizeLine; decide,fun l hl=>⟨_,rfl,r,5,rfl,(Drawn.new g3.d hl).d,by decide,by decide,fun k2 H5 a2 b2 g5 => ?_⟩⟩
  have g4:=Drawn.new (o:=.lst [.int (10007+k1),.int (0 - 1 - k1),.ref z1,.ref z2,.bl true]) g3.d hl
  have s4:=same_new hl (.lst [.int (10007+k1),.int (0 - 1 - k1),.ref z1,.ref z2,.bl true])
  have el:H5 l=some (.lst [.int (10007+k1),.int (0 - 1 - k1),.ref z1,.ref z2,.bl true]):=by
   obtain⟨o,ho⟩:=g3.d.ref
   exact g5.s _ _ (fun z=>by
    rw [z,ho] at hl
    cases hl) upd_same
  have ik5:=g5.ik g4.d
  have t1:TupA H5 z1 []:=.inr ⟨o1,ik5.f _ _ _ (s4 _ _ e1)⟩
  have t2:TupA H5 z2 [.int 1]:=.inr ⟨o2,ik5.f _ _ _ (s4 _ _ e2)⟩
  have hv:∃ v:V,atI [V.int (10007+k1),.int (0 - 1 - k1),.ref z1,.ref z2,.bl true] k2=some v∧Wh H5 0 v false:=by
   have hk:k2=0∨k2=1∨k2=2∨k2=3∨k2=4:=by omega
   rcases hk with rfl | rfl | rfl | rfl | rfl
   ·exact⟨_,rfl,.num (.inr (by omega))⟩
   ·exact⟨_,rfl,.num (.inl (by omega))⟩
   ·exact⟨_,rfl,.tup0 t1⟩
   ·exact⟨_,rfl,.tup0 t2⟩
   ·exact⟨_,rfl,.bl⟩
  obtain⟨v,hv,wh⟩:=hv
  exact⟨l,_,_,_,rfl,rfl,SqL.of el,hv,q _ _ ((g3.trans g4).trans g5) wh⟩
 ·have d0:d≠0:=fun z=>c (decide_eq_true (by rw [z]; rfl))
  obtain⟨d,rfl⟩:∃ d',d=d'+1:=⟨d - 1,by omega⟩
  have ed:(((d+1:Nat):Int) - 1)=(d:Int):=by omega
  refine⟨_,rfl,_,rfl,r,d+1,3,rfl,g1.d,by omega,h3,by decide,by decide,fun v3 H3 w3 g3 wi3 wk3 => ?_⟩
  obtain⟨ws,rfl,l40,okw⟩:=wok_row wk3
  cases wi3 with
  | @row ga gxs _ hga hgw =>
  have hgl:=hgw.len
  dsimp only [gName]
  refine⟨_,rfl,_,rfl,_,_,rfl,rfl,r,d,by rw [← ed]; rfl,g3.d,by omega,by omega,fun v4 H4 g4 wh4=>⟨by show 1≤sizeLine; decide,fun a4 ha4 => ?_⟩⟩
  have g14:=(g1.trans g3).trans g4
  have g5:=g14.trans (Drawn.new (o:=.tup [v4]) g4.d ha4)
  have s5:=same_new ha4 (.tup [v4])
  have e5:upd H4 a4 (.tup [v4]) a4=some (.tup [v4]):=upd_same
  replace wh4:=wh4.ik (IK.of s5)
  have hga5:=s5 _ _ ((g4.tk g3.d) _ _ hga)
  have hgw5:=(hgw.mono (g4.tk g3.d)).mono (TK.of s5)
  generalize upd H4 a4 (.tup [v4])=H5 at g5 e5 wh4 hga5 hgw5 ⊢
  refine⟨_,rfl,_,rfl,_,rfl,_,_,rfl,rfl,r,d,by rw [← ed]; rfl,g5.d,by omega,by omega,fun v6 H6 g6 wh6=>⟨by show 1≤sizeLine; decide,fun a6 ha6 => ?_⟩⟩
  have g7:=Drawn.new (o:=.tup [v6]) g6.d ha6
  have s7:=same_new ha6 (.tup [v6])
  have ik57:=(g6.ik g5.d).trans (IK.of s7)
  have e7:upd H6 a6 (.tup [v6]) a6=some (.tup [v6]):=upd_same
  replace wh6:=wh6.ik (IK.of s7)
  have g57:=g6.trans g7
  replace e5:=ik57.t _ _ e5
  have hga7:=ik57.t _ _ hga5
  have hgw7:=hgw5.mono ik57.t
  replace wh4:=wh4.ik ik57
  generalize upd H6 a6 (.tup [v6])=H7 at g7 s7 e7 wh6 g57 e5 hga7 hgw7 wh4 ⊢
  refine⟨ga,a6,_,_,rfl,rfl,.inl hga7,.inl e7,by simp,by show gxs.length+1≤1000; omega,fun p8 H8 d8 s8 t8 => ?_⟩
  have g8:=d8 r g7.d
  have ik8:=IK.of s8
  have g58:=g57.trans g8
  replace e5:=ik8.t _ _ e5
  replace hgw7:=hgw7.mono ik8.t
  replace wh4:=wh4.ik ik8
  replace wh6:=wh6.ik ik8
  refine⟨_,rfl,_,rfl,_,_,rfl,rfl,r,d,1,by rw [← ed]; rfl,g8.d,by omega,by omega,by decide,by decide,fun v9 H9 w9 g9 wi9 wk9=>⟨by show 1≤sizeLine; decide,fun a9 ha9 => ?_⟩⟩
  have g10:=(g8.trans g9).trans (Drawn.new (o:=.tup [v9]) g9.d ha9)
  have s10:=same_new ha9 (.tup [v9])
  have ik10:=(g9.ik g8.d).trans (IK.of s10)
  have e10:upd H9 a9 (.tup [v9]) a9=some (.tup [v9]):=upd_same
  have wi10:=wi9.mono (TK.of s10)
  have g510:=g57.trans g10
  have d10:=g10.d
  generalize upd H9 a9 (.tup [v9])=H10 at d10 s10 ik10 e10 wi10 g510 ⊢
  refine⟨a9,41,_,rfl,rfl,SqT.of e10,by simp,by decide,by decide,by show 1≤1000; decide,fun a11 ha11=>⟨by show 4≤sizeLine; decide,fun l hl => ?_⟩⟩
  have e41:(List.replicate (41:Int).toNat [v9]).flatten=List.replicate 41 v9:=rep_flat v9 41
  rw [e41] at hl ⊢
  have s11:=same_new ha11 (.tup (List.replicate 41 v9))
  have g11:=g510.trans (Drawn.new (o:=.tup (List.replicate 41 v9)) d10 ha11)
  have e11:upd H10 a11 (.tup (List.replicate 41 v9)) a11=some (.tup (List.replicate 41 v9)):=upd_same
  generalize upd H10 a11 (.tup (List.replicate 41 v9))=H11 at s11 g11 e11 hl ⊢
  have s12:=same_new hl (.lst [.int 1,.ref a4,.ref p8,.ref a11])
  have g12:=g11.trans (Drawn.new (o:=.lst [.int 1,.ref a4,.ref p8,.ref a11]) g11.d hl)
  have e12:upd H11 l (.lst [.int 1,.ref a4,.ref p8,.ref a11]) l=some (.lst [.int 1,.ref a4,.ref p8,.ref a11]):=upd_same
  have ik12:=ik10.trans (IK.of (s11.trans s12))
  have nl:l≠r.r:=by
   obtain⟨o,ho⟩:=g11.d.ref
   exact (ne_of_none ho hl).symm
  replace e11:=s12 _ _ e11
  generalize upd H11 l (.lst [.int 1,.ref a4,.ref p8,.ref a11])=H12 at g12 e12 ik12 e11 ⊢
  dsimp only [gName]
  refine⟨_,rfl,_,rfl,r,4,rfl,g12.d,by decide,by decide,fun k13 H13 a13 b13 g13 => ?_⟩
  have ik13:=g13.ik g12.d
  have el:=g13.s _ _ nl e12
  have t4:TupA H13 a4 [v4]:=.inl (ik13.t _ _ (ik12.t _ _ e5))
  have t8:TupA H13 p8 (gxs++[v6]):=(t8.ik ik12).ik ik13
  have t11:TupA H13 a11 (List.replicate 41 v9):=.inl (ik13.t _ _ e11)
  have w4:Whs H13 d [v4] [false]:=.cons ((wh4.ik ik12).ik ik13) .nil
  have w6:Whs H13 d (gxs++[v6]) (List.replicate gxs.length true++[false]):=(whs_good ((hgw7.mono ik12.t).mono ik13.t) okw).app (.cons ((wh6.ik ik12).ik ik13) .nil)
  have hv:∃ v:V,atI [V.int 1,.ref a4,.ref p8,.ref a11] k13=some v∧Wh H13 (d+1) v false:=by
   have hk:k13=0∨k13=1∨k13=2∨k13=3:=by omega
   rcases hk with rfl | rfl | rfl | rfl
   ·exact⟨_,rfl,.int⟩
   ·exact⟨_,rfl,.row t4 (by show 1≤40; decide) w4 rfl⟩
   ·by_cases c40:(gxs++[v6]).length≤40
    ·exact⟨_,rfl,.row t8 c40 w6 (by simp)⟩
    ·exact⟨_,rfl,.long t8 (by omega)⟩
   ·exact⟨_,rfl,.long t11 (by rw [List.length_replicate]; decide)⟩
  obtain⟨v,hv,wh⟩:=hv
  exact⟨l,_,_,_,rfl,rfl,SqL.of el,hv,q _ _ (g5.trans (g12.trans g13)) wh⟩
end
theorem FnOk.ex {P:Program}{w:World}{K:PySem.W.Frag}{mg:Str→Option Value}{base:Heap}{CX:CXT}{k:Nat}{f:Addr}{fd:FuncData}{ps:List Str}{ι:Type}{sp:ι→Sp}(h:∀ i,FnOk P w K mg base CX k f fd ps (sp i)):FnOk P w K mg base CX k f fd ps (fun vs H Q E=>∃ i,sp i vs H Q E) :=
 ⟨fun vs H Q E ⟨i,z⟩=>(h i).len vs H Q E z,fun A outer s H args us vs Q E hr he hb hv ⟨i,z⟩=>(h i).run A outer s H args us vs Q E hr he hb hv z⟩
def spBodyE (K:PySem.W.Frag):Sp:=fun vs H Q E=>∃ i:List (List Nat×Nat)×Nat,spBody K i.1 i.2 vs H Q E
def spLeafE (K:PySem.W.Frag):Sp:=fun vs H Q E=>∃ i:List (List Nat×Nat),spLeaf K i 4 vs H Q E
def forB:Stmt→List Stmt
 | .For _ _ b _ _=>b
 | _=>[]
theorem put_own {a b c v:V}:putK ([(Sum.inr "faces", a),(Sum.inr "own", b),(Sum.inr "left", c)]:List (Key×V)) (Sum.inr "own") v=([(Sum.inr "faces", a),(Sum.inr "own", v),(Sum.inr "left", c)]:List (Key×V)):=by rfl
def PI (K:PySem.W.Frag) (r:RD) (H:Hp) (most:Int) (i:Nat) (σ:L2.St) (H':Hp):Prop:=∃ (m fl fo:Addr) (xs vs:List V) (ow:V) (prog:List Fn) (x4 x5 x6:Option V),σ=[some (.ref r.r),some (.int most),some (.ref m),some (.ref fo),x4,x5,x6,none,none] ∧
 Drawn K r H H'∧H m=none∧H fl=none∧H fo=none∧fl≠fo∧H' m=some (.dK [(Sum.inr "faces", .ref fl),(Sum.inr "own", ow),(Sum.inr "left", .int 0)])∧H' fl=some (.lst xs)∧H' fo=some (.lst vs)∧FIns H' xs (facesOf prog)∧PgIns H' vs prog∧Good prog∧FstP prog∧prog.length=i
abbrev sLawProgram:Stmt:=top 144
theorem scsLawProgram:FnScope ["_law_row_here", "_law_most", "_law_m", "_law_found", "_law_which", "_law_face_here", "_law_body_here", "_law_name", "_law_depth"] ["_law_row_here", "_law_most"] (defScope sLawProgram):=⟨rfl,rfl,rfl,by decide +kernel,rfl,by decide +kernel,by decide +kernel⟩
section
variable {P:Program}{w:World}{K:PySem.W.Frag}{mg:Str→Option Value}{base:Heap}{f:Addr}{k:Nat}{cdv:Value}{A:Around}{outer:List Env}{s:Shared}{H:Hp}{E:XK}{Q:VK}{r:RD}{most:Int}
abbrev XP (P:Program) (w:World) (K:PySem.W.Frag) (mg:Str→Option Value) (base:Heap) (f:Addr) (cdv:Value) (A:Around) (outer:List Env) (s:Shared) (H:Hp) (E:XK):Cx:=(cxOf CX0 P w K mg base ["_law_row_here", "_law_most", "_law_m", "_law_found", "_law_which", "_law_face_here", "_law_body_here", "_law_name", "_law_depth"] "_law_program" (defScope sLawProgram) f cdv A outer s H E).nox
theorem prog_turn (hr:Room k (XP P w K mg base f cdv A outer s H E).A) (O_taken:Okf P w K mg base CX0 k "_law_taken" ["_law_row_here", "_law_many"] (spTaken K)) (O_face:Okf P w K mg base CX0 k "_law_face" ["_law_row_here"] (spFace K))
  (O_body:Okf P w K mg base CX0 k "_law_body" ["_law_row_here", "_law_m", "_law_face_here", "_law_itself"] (spBodyE K)) (O_size:Okf P w K mg base CX0 k "_law_size" ["_law_tree_here"] (spSize K 12)) (O_within:Okf P w K mg base CX0 k "_law_within" ["_law_tree_here"] (spWithin K 12))
  (O_leaf:Okf P w K mg base CX0 k "_law_leaf" ["_law_row_here", "_law_depth", "_law_known"] (spLeafE K)) (z_dict:mg "dict" = none) (z_range:mg "range" = none) (z_tuple:mg "tuple" = none) (dr:Draw K r H) :
  ∃ tb,PSs (XP P w K mg base f cdv A outer s H E) (forB ((defBody sLawProgram).getD 2 (.Pass ⟨0,0,0,0⟩))) tb∧∀ (D:Ends) (i:Nat) (σ:L2.St) (H':Hp),i≤5→PI K r H most i σ H'→(∀ σ' H'',PI K r H most (i+1) σ' H''→D.nx σ' H'')→tb D (σ.set 4 (some (.int (i:Int)))) H':=by
 have sc:=scsLawProgram
 have hu:=hu_of hr
 refine⟨_,(pss_cons (ps_set (i:=5) sc.nd rfl (.inl rfl) (pe_c O_face hr rfl pass0 (pa_cons (pv 0) pa_nil)))
  (pss_cons (ps_dput hu (pv 2) pe_str (pv 4) rfl)
  (pss_cons (ps_expr (pe_bm PySem.F.plainAttrs_list PySem.F.slot_list_append PySem.F.type_list_append mt_append (pe_dget hu (pv 2) pe_str (fun _ _=>rfl)) (pa_cons (pe_tup (pa_cons (pe_callTy (call_tupleK K) rfl z_tuple (by decide +kernel) (pa_cons (pe_lc (own:=[("_law_name", 7),("_law_depth", 8)]) (by rfl) sc.nd (pi_tupK K (pe_ix (ix_tupK K) (pv 5) pe_int (fun _ _=>rfl))) (blkOk_by (own:=[("_law_name", 7),("_law_depth", 8)]) (N:=["_law_row_here", "_law_most", "_law_m", "_law_found", "_law_which", "_law_face_here", "_law_body_here", "_law_name", "_law_depth"]) (sc:=defScope sLawProgram) (by decide +kernel)) (fun _ _ _ _ _=>(pg_tupK K (n:=2) rfl (pgs_cons (pg_name (i:=7) sc.nd rfl (.inl rfl)) (pgs_cons (pg_name (i:=8) sc.nd rfl (.inl rfl)) pgs_nil)))) (fun _ _ _ _ _=>pts_nil) (fun _ _ _ _ _=>(pv 8))) pa_nil)) (pa_cons (pe_ix (ix_tupK K) (pv 5) pe_int (fun _ _=>rfl)) pa_nil))) pa_nil)))
  (pss_cons (ps_set (i:=6) sc.nd rfl (.inl rfl) (pe_c O_body hr rfl pass0 (pa_cons (pv 0) (pa_cons (pv 2) (pa_cons (pv 5) (pa_cons (pe_cmpR op_eq (pe_c O_taken hr rfl pass0 (pa_cons (pv 0) (pa_cons pe_int pa_nil))) pe_int (nomark _)) pa_nil))))))
  (pss_cons (ps_if (PW.pt (pw_or (pt_cmpR op_gt (pe_c O_size hr rfl pass0 (pa_cons (pv 6) pa_nil)) pe_int (nomark _)) (pw_or1 (pt_cmpR op_gt (pe_c O_within hr rfl pass0 (pa_cons (pv 6) pa_nil)) pe_int (nomark _))))) (pss_one (ps_set (i:=6) sc.nd rfl (.inl rfl) (pe_c O_leaf hr rfl pass0 (pa_cons (pv 0) (pa_cons (pe_ix (ix_tupK K) (pv 5) pe_int (fun _ _=>rfl)) (pa_cons (pe_callTy (call_dictT K rfl) rfl z_dict (by decide +kernel) (pa_cons (pe_ix (ix_tupK K) (pv 5) pe_int (fun _ _=>rfl)) pa_nil)) pa_nil)))))) pss_nil)
  (pss_one (ps_expr (pe_bm PySem.F.plainAttrs_list PySem.F.slot_list_append PySem.F.type_list_append mt_append (pv 3) (pa_cons (pe_tup (pa_cons (pe_ix (ix_tupK K) (pv 5) pe_int (fun _ _=>rfl)) (pa_cons (pe_ix (ix_tupK K) (pv 5) pe_int (fun _ _=>rfl)) (pa_cons (pv 6) pa_nil)))) pa_nil))))))))),?_⟩
 rintro D i σ H0 hi ⟨m,fl,fo,xs,vs,ow,prog,x4,x5,x6,rfl,g0,hm,hfl,hfo,nff,em,efl,efo,fi,pg,good,fst0,plen⟩ nx
 have nm:m≠r.r:=Drawn.ne dr hm
 have nfl:fl≠r.r:=Drawn.ne dr hfl
 have nfo:fo≠r.r:=Drawn.ne dr hfo
 refine⟨_,rfl,r,rfl,g0.d,fun fv H1 ps d g1 FI FO FT => ?_⟩
 have em1:=g1.s _ _ nm em
 have efl1:=g1.s _ _ nfl efl
 have efo1:=g1.s _ _ nfo efo
 have ik1:=g1.ik g0.d
 have g01:=g0.trans g1
 obtain⟨ft,pt,o,pvs,rfl,eft,ept,hdn,pin⟩:=FI.ex
 refine⟨_,rfl,_,rfl,m,_,rfl,DPut.k (k:=Sum.inr "own") em1 (by show 3 < sizeLine; decide),?_⟩
 rw [put_own]
 have ik2:=ik1.trans (IK.dict (b:=[(Sum.inr "faces", .ref fl),(Sum.inr "own", .int (i:Int)),(Sum.inr "left", .int 0)]) em1)
 have ik12:=IK.dict (b:=[(Sum.inr "faces", .ref fl),(Sum.inr "own", .int (i:Int)),(Sum.inr "left", .int 0)]) em1
 have g02:=g01.put (o:=.dK [(Sum.inr "faces", .ref fl),(Sum.inr "own", .int (i:Int)),(Sum.inr "left", .int 0)]) dr hm
 have em2:upd H1 m (.dK [(Sum.inr "faces", .ref fl),(Sum.inr "own", .int (i:Int)),(Sum.inr "left", .int 0)]) m=some (.dK [(Sum.inr "faces", .ref fl),(Sum.inr "own", .int (i:Int)),(Sum.inr "left", .int 0)]):=upd_same
 have efl2:=(upd_ne (o:=.dK [(Sum.inr "faces", .ref fl),(Sum.inr "own", .int (i:Int)),(Sum.inr "left", .int 0)]) (ne_of efl1 em1 (by intro z; cases z))).trans efl1
 have efo2:=(upd_ne (o:=.dK [(Sum.inr "faces", .ref fl),(Sum.inr "own", .int (i:Int)),(Sum.inr "left", .int 0)]) (ne_of efo1 em1 (by intro z; cases z))).trans efo1
 have eft2:=ik12.t _ _ eft
 have ept2:=ik12.f _ _ _ ept
 have pin2:=pin.mono ik12.t
 have fi2:=fi.mono ik2.t
 have pg2:=pg.mono ik2
 generalize upd H1 m (.dK [(Sum.inr "faces", .ref fl),(Sum.inr "own", .int (i:Int)),(Sum.inr "left", .int 0)])=H2 at ik2 ik12 g02 em2 efl2 efo2 eft2 ept2 pin2 fi2 pg2 ⊢
 clear em1 efl1 efo1 ik1 g01 eft ept pin g1 em efl efo fi pg g0 ik2 ik12 FI
 refine⟨_,rfl,m,_,rfl,dget em2 val_faces,.inl ⟨rfl,_,SqL.of efl2⟩,?_⟩
 refine⟨_,rfl,ft,_,_,_,rfl,rfl,SqT.of eft2,at0,pt,rfl,⟨_,SqT.fr ept2⟩,fun D1 hD1 => ?_⟩
 have nD1:D1≠r.r:=Drawn.ne g02.d hD1
 have fewp:ps.length≤4:=FO.few
 refine lc_tup (K:=K) (a:=pt) (xs:=pvs) (fun j H'=>∃ ds:List Nat,H'=upd H2 D1 (.lst (ds.map dV))∧ds=(ps.map (·.2)).take j) ⟨[],rfl,rfl⟩ ?_ ?_ ?_
 ·rintro j H' hj ⟨ds,rfl,_⟩
  exact SqT.fr ((upd_ne (ne_of_none ept2 hD1)).trans ept2)
 ·rintro j x H' hx ⟨ds,rfl,e2⟩
  obtain⟨pa,px,pd,rfl,hpx,hpa⟩:=pin2.get j hx
  have hj:j < ps.length:=(List.getElem?_eq_some_iff.mp hpx).1
  refine⟨pa,_,rfl,SqT.of ((upd_ne (ne_of_none hpa hD1)).trans hpa),rfl,_,_,rfl,_,_,rfl,rfl,rfl,?_⟩
  dsimp only [tYes,gName]
  rw [if_pos rfl]
  refine⟨_,rfl,_,upd_same,?_,ds++[pd],?_,?_⟩
  ·rw [List.length_map,e2,List.length_take,List.length_map]
   exact small1000 (by omega)
  ·rw [upd_upd,List.map_append]
   rfl
  ·rw [e2,List.take_succ,List.getElem?_map,hpx]
   rfl
 rintro H3 ⟨ds,rfl,e2⟩
 have plen2:=pin2.len
 rw [plen2,List.take_of_length_le (by rw [List.length_map]; exact Nat.le_refl _)] at e2
 subst e2
 have g3:=Drawn.new (o:=.lst ((ps.map (·.2)).map dV)) g02.d hD1
 have ik3:=g3.ik g02.d
 refine⟨D1,_,rfl,.inl ⟨SqL.of upd_same,fun q1 hq1 => ?_⟩⟩
 have g4:=Drawn.new (o:=.tup ((ps.map (·.2)).map dV)) g3.d hq1
 refine⟨_,rfl,ft,_,_,_,rfl,rfl,SqT.of ((g4.ik g3.d).t _ _ (ik3.t _ _ eft2)),at1,by show 2≤sizeLine; decide,fun q2 hq2 => ?_⟩
 have g5:=Drawn.new (o:=.tup [.ref q1,dV d]) g4.d hq2
 have ik5:=ik3.trans ((g4.ik g3.d).trans (g5.ik g4.d))
 have g25:=g3.trans (g4.trans g5)
 have efl5:=g25.s _ _ nfl efl2
 have lenx:xs.length=i:=by rw [fi2.len,facesOf,List.length_map,plen]
 refine⟨fl,_,_,rfl,rfl,efl5,small1000 (by omega),?_⟩
 have eq1:(upd (upd (upd H2 D1 (.lst ((ps.map (·.2)).map dV))) q1 (.tup ((ps.map (·.2)).map dV))) q2 (.tup [.ref q1,dV d])) q1=some (.tup ((ps.map (·.2)).map dV)):=(g5.ik g4.d).t _ _ upd_same
 have eq2:(upd (upd (upd H2 D1 (.lst ((ps.map (·.2)).map dV))) q1 (.tup ((ps.map (·.2)).map dV))) q2 (.tup [.ref q1,dV d])) q2=some (.tup [.ref q1,dV d]):=upd_same
 have em5:=g25.s _ _ nm em2
 have efo5:=g25.s _ _ nfo efo2
 have g05:=(g02.trans g25).put (o:=.lst (xs++[.ref q2])) dr hfl
 generalize upd (upd (upd H2 D1 (.lst ((ps.map (·.2)).map dV))) q1 (.tup ((ps.map (·.2)).map dV))) q2 (.tup [.ref q1,dV d])=H5 at g5 ik5 g25 efl5 eq1 eq2 em5 efo5 g05 ⊢
 have ik56:=ik5.trans (IK.lst (ys:=xs++[.ref q2]) efl5)
 have ik6:=IK.lst (ys:=xs++[.ref q2]) efl5
 have em6:=(upd_ne (o:=.lst (xs++[.ref q2])) (ne_of em5 efl5 (by intro z; cases z))).trans em5
 have efo6:=(upd_ne (o:=.lst (xs++[.ref q2])) nff.symm).trans efo5
 have efl6:upd H5 fl (.lst (xs++[.ref q2])) fl=some (.lst (xs++[.ref q2])):=upd_same
 have fi6:FIns (upd H5 fl (.lst (xs++[.ref q2]))) (xs++[.ref q2]) (facesOf prog++[(ps.map (·.2),d)]):=(fi2.mono ik56.t).snoc (ik6.t _ _ eq2) (ik6.t _ _ eq1)
 have pg6:=pg2.mono ik56
 have FI6:FaceIn (upd H5 fl (.lst (xs++[.ref q2]))) (.ref ft) ps d:=⟨ft,pt,o,pvs,rfl,ik56.t _ _ eft2,ik56.f _ _ _ ept2,hdn,pin2.mono ik56.t⟩
 generalize upd H5 fl (.lst (xs++[.ref q2]))=H6 at g05 ik56 ik6 em6 efo6 efl6 fi6 pg6 FI6 ⊢
 clear g5 ik5 g25 efl5 eq1 eq2 em5 efo5 ik56 ik6 g3 g4 ik3 em2 efl2 efo2 eft2 ept2 pin2 fi2 pg2 g02 hq2 hq1 hD1
 refine⟨_,rfl,_,rfl,_,rfl,_,rfl,r,3,rfl,g05.d,by decide,by decide,fun k2 H7 k2a k2b g7=>⟨rfl,?_⟩⟩
 have d6:=g05.d
 have em7:=g7.s _ _ nm em6
 have efl7:=g7.s _ _ nfl efl6
 have efo7:=g7.s _ _ nfo efo6
 have fi7:=fi6.mono (g7.tk d6)
 have pg7:=pg6.mono (g7.ik d6)
 have FI7:=FI6.drawn g7 d6
 have g07:=g05.trans g7
 have lo7:∀ p∈facesOf prog++[(ps.map (·.2),d)],p.2≤3∧p.1.length≤4∧∀ c∈p.1,c≤3:=fun p hp=>by
  rcases List.mem_append.mp hp with hp | hp
  ·exact good.lo p hp
  ·rw [List.mem_singleton.mp hp]
   refine⟨FO.hd,by rw [List.length_map]; exact fewp,fun c hc => ?_⟩
   obtain⟨z,hz,rfl⟩:=List.mem_map.mp hc
   exact (FO.lo z hz).2.2
 have lfs:(facesOf prog).length=i:=by rw [facesOf,List.length_map,plen]
 have G7:Gen H7 r m (facesOf prog++[(ps.map (·.2),d)]) i:=⟨⟨fl,_,em7,efl7,fi7,nfl⟩,by rw [List.length_append,lfs]; rfl,hi,lo7⟩
 refine⟨(facesOf prog++[(ps.map (·.2),d)],i),r,m,.ref ft,_,ps,d,rfl,g07.d,G7,FI7,FO,FT,?_,fun bv H8 e g8 ti ty se hh => ?_⟩
 ·show (facesOf prog++[(ps.map (·.2),d)])[i]? = _
  rw [List.getElem?_append_right (by omega),lfs,Nat.sub_self]
  rfl
 have few8:=ty.few (fun p hp=>(lo7 p hp).2.1)
 have em8:=g8.s _ _ nm em7
 have efl8:=g8.s _ _ nfl efl7
 have efo8:=g8.s _ _ nfo efo7
 have fi8:=fi7.mono (g8.tk g07.d)
 have pg8:=pg7.mono (g8.ik g07.d)
 have FI8:=FI7.drawn g8 g07.d
 have g08:=g07.trans g8
 clear em7 efl7 efo7 fi7 pg7 FI7 G7 em6 efl6 efo6 fi6 pg6 FI6 g7 g05 d6
 dsimp only [gName]
 refine if_restS (fun σ' H'=>∃ bv' e',σ'=[some (.ref r.r),some (.int most),some (.ref m),some (.ref fo),some (.int (i:Int)),some (.ref ft),some bv',none,none]∧Drawn K r H8 H'∧TIn H' bv' e'∧Ty (facesOf prog++[(ps.map (·.2),d)]) (envOf ps) e' d∧SelfOk (i:Int) 3 e'∧e'.size≤60∧e'.hgt≤13) ?_ ?_
 ·rintro σ' H9 ⟨bv',e',rfl,g9,ti9,ty9,se9,sz9,hh9⟩
  obtain⟨ft9,pt9,o9,pvs9,eq9,eft9,ept9,hdn9,pin9⟩:=(FI8.drawn g9 g08.d).ex
  cases eq9
  have ik9:=g9.ik g08.d
  have efo9:=g9.s _ _ nfo efo8
  have pg9:=pg8.mono ik9
  have lenv:vs.length=i:=by rw [pg9.len,plen]
  refine⟨_,rfl,.inl ⟨rfl,_,SqL.of efo9⟩,_,rfl,ft,_,_,_,rfl,rfl,SqT.of eft9,at0,_,rfl,ft,_,_,_,rfl,rfl,SqT.of eft9,at1,_,rfl,by show 3≤sizeLine; decide,fun q3 hq3 => ?_⟩
  have g10:=Drawn.new (o:=.tup [.ref pt9,dV d,bv']) g9.d hq3
  have ik10:=g10.ik g9.d
  have efo10:=g10.s _ _ nfo efo9
  refine⟨fo,_,_,rfl,rfl,efo10,small1000 (by omega),?_⟩
  have ikz:=IK.lst (ys:=vs++[.ref q3]) efo10
  have efoz:upd (upd H9 q3 (.tup [.ref pt9,dV d,bv'])) fo (.lst (vs++[.ref q3])) fl=some (.lst (xs++[.ref q2])):=(upd_ne nff).trans (g10.s _ _ nfl (g9.s _ _ nfl efl8))
  refine nx _ _ ⟨m,fl,fo,_,_,_,prog++[⟨ps,d,e'⟩],_,_,_,rfl,((g08.trans g9).trans g10).put dr hfo,hm,hfl,hfo,nff,(upd_ne (ne_of (g10.s _ _ nm (g9.s _ _ nm em8)) efo10 (by intro z; cases z))).trans (g10.s _ _ nm (g9.s _ _ nm em8)),efoz,upd_same,?_,?_,?_,?_,?_⟩
  ·rw [facesOf,List.map_append]
   exact fi8.mono (((g9.tk g08.d).trans (g10.tk g9.d)).trans ikz.t)
  ·exact ((pg9.mono ik10).mono ikz).snoc (ikz.t _ _ upd_same) ⟨pt9,o9,pvs9,rfl,ikz.f _ _ _ (ik10.f _ _ _ ept9),hdn9,(pin9.mono ik10.t).mono ikz.t⟩ ((ti9.mono ik10.t).mono ikz.t)
  ·refine good.snoc (by omega) ⟨FO,?_,by rw [plen]; exact se9.le,sz9,hh9⟩
   rw [facesOf,List.map_append]
   exact ty9
  ·refine⟨fun f9 h9 => ?_,fun i9 f9 h9 => ?_⟩
   ·rcases List.mem_append.mp h9 with h9 | h9
    ·exact fst0.1 f9 h9
    ·rw [List.mem_singleton.mp h9]
     exact FT
   ·by_cases c9:i9 < prog.length
    ·rw [List.getElem?_append_left c9] at h9
     exact fst0.2 i9 f9 h9
    ·have e9:i9=prog.length:=by
      have:=(List.getElem?_eq_some_iff.mp h9).1
      rw [List.length_append] at this
      simp only [List.length_cons,List.length_nil] at this
      omega
     subst e9
     rw [List.getElem?_append_right (Nat.le_refl _),Nat.sub_self] at h9
     cases h9
     rw [plen]
     exact se9.sh
  ·rw [List.length_append,plen]
   rfl
 ·intro rest
  refine⟨_,rfl,bv,e,rfl,ti,hh,few8,fun H9 s9=>⟨_,_,rfl,rfl,_,rfl,ite2 (fun c => ?_) (fun c => ?_)⟩⟩
  ·refine ite2 (fun _ => ?_) (fun z=>absurd rfl z)
   obtain⟨ft9,pt9,o9,pvs9,eq9,eft9,ept9,hdn9,pin9⟩:=(FI8.drawn (g08.d.drawn s9) g08.d).ex
   cases eq9
   obtain⟨as,eas,prd⟩:=pin9.paired (K:=K)
   refine⟨_,rfl,_,rfl,ft,_,_,_,rfl,rfl,SqT.of eft9,at1,_,rfl,ft,_,_,_,rfl,rfl,SqT.of eft9,at0,pt9,o9,as,_,rfl,by rw [← eas]; exact ept9,hdn9,prd,fun kn hkn => ?_⟩
   have em0:mergeK [] (ps.map kvOf)=ps.map kvOf:=mergeK_kn (acc:=[]) FO.nd
   rw [em0]
   have gk:=Drawn.new (o:=.dK (ps.map kvOf)) ((g08.d.drawn s9)).d hkn
   refine⟨facesOf prog++[(ps.map (·.2),d)] |>.take i,r,kn,d,envOf ps,rfl,gk.d,⟨ps,upd_same,FO.kn⟩,by have:=FO.hd; omega,FO.hd,fun lv HL le gL tL tyL hL zL => ?_⟩
   have hd3:=FO.hd
   refine rest _ HL ⟨lv,le,rfl,((g08.d.drawn s9)).trans (gk.trans gL),tL,tyL.weak take_get fun _ _ z=>z,?_,by omega,by omega⟩
   exact .zero (tyL.noself (by rw [List.length_take]; omega))
  ·have sz:e.size≤60:=by
    have:¬ (60:Int) < (e.size:Int):=fun z=>c (decide_eq_true z)
    omega
   have hp:=e.hgt_pos
   refine⟨_,rfl,bv,e,rfl,ti.mono (TK.of s9),hh,few8,fun H10 s10=>⟨_,_,rfl,rfl,_,rfl,ite2 (fun c => ?_) (fun c => ?_)⟩⟩
   ·have:(12:Int) < ((e.hgt - 1:Nat):Int):=of_decide_eq_true c
    omega
   ·exact rest _ H10 ⟨bv,e,rfl,g08.d.drawn (s9.trans s10),ti.mono (TK.of (s9.trans s10)),ty,se,sz,by omega⟩
end
section
variable {P:Program}{w:World}{K:PySem.W.Frag}{mg:Str→Option Value}{base:Heap}{f:Addr}{fd:FuncData}{k:Nat}
theorem ok_program (F:FnP K "_law_program" sLawProgram f fd) (O_taken:Okf P w K mg base CX0 k "_law_taken" ["_law_row_here", "_law_many"] (spTaken K)) (O_face:Okf P w K mg base CX0 k "_law_face" ["_law_row_here"] (spFace K))
  (O_body:Okf P w K mg base CX0 k "_law_body" ["_law_row_here", "_law_m", "_law_face_here", "_law_itself"] (spBodyE K)) (O_size:Okf P w K mg base CX0 k "_law_size" ["_law_tree_here"] (spSize K 12)) (O_within:Okf P w K mg base CX0 k "_law_within" ["_law_tree_here"] (spWithin K 12))
  (O_leaf:Okf P w K mg base CX0 k "_law_leaf" ["_law_row_here", "_law_depth", "_law_known"] (spLeafE K)) (z_dict:mg "dict" = none) (z_range:mg "range" = none) (z_tuple:mg "tuple" = none):FnOk P w K mg base CX0 (k+1) f fd ["_law_row_here", "_law_most"] (spProgram K):=by
 have sc:=scsLawProgram
 refine F.ok sc (fun vs H Q E h => ?_) (fun cdv A outer s H vs Q E hr h => ?_)
 ·obtain⟨r,most,rfl,_⟩:=h
  rfl
 have hu:=hu_of hr
 obtain⟨r,most,rfl,dr,m1,m6,q⟩:=h
 obtain⟨tb,pb,turn⟩:=prog_turn (cdv:=cdv) (A:=A) (outer:=outer) (s:=s) (H:=H) (E:=E) (f:=f) (most:=most) hr O_taken O_face O_body O_size O_within O_leaf z_dict z_range z_tuple dr
 refine⟨_,PSs.nox (pss_cons (ps_set (i:=2) sc.nd rfl (.inl rfl) (pe_disp (pps_cons pe_str (pe_lst pa_nil) (pps_cons pe_str pe_int (pps_cons pe_str pe_int pps_nil))) (by rfl) (by rfl) (fun z=>by cases z) (by decide)))
  (pss_cons (ps_set (i:=3) sc.nd rfl (.inl rfl) (pe_lst pa_nil))
  (pss_cons (ps_for PassesOwn.never rfl (pi_range1 rfl z_range (pa_cons (pe_op op_add pe_int (pe_c O_taken hr rfl pass0 (pa_cons (pv 0) (pa_cons (pv 1) pa_nil)))) pa_nil)) (pg_name (i:=4) sc.nd rfl (.inl rfl)) pb)
  (pss_one (ps_ret (pe_callTy (call_tupleK K) rfl z_tuple (by decide +kernel) (pa_cons (pv 3) pa_nil))))))),?_⟩
 intro p hp
 refine⟨by show 0≤sizeLine; decide,fun fl hfl => ?_⟩
 have nfp:fl≠p:=fun z=>by
  rw [z,upd_same] at hfl
  cases hfl
 have hfl0:H fl=none:=by
  rw [upd_ne nfp] at hfl
  exact hfl
 refine⟨(upd_ne nfp.symm).trans upd_same,[(Sum.inr "faces", .ref fl),(Sum.inr "own", .int 0),(Sum.inr "left", .int 0)],rfl,by show 3≤15; decide,?_⟩
 have emg:mergeK [] ([(Sum.inr "faces", .ref fl),(Sum.inr "own", .int 0),(Sum.inr "left", .int 0)]:List (Key×V))=([(Sum.inr "faces", .ref fl),(Sum.inr "own", .int 0),(Sum.inr "left", .int 0)]:List (Key×V)):=by rfl
 rw [emg]
 have g1:Drawn K r H (upd (upd (upd H p (.dK [])) fl (.lst [])) p (.dK [(Sum.inr "faces", .ref fl),(Sum.inr "own", .int 0),(Sum.inr "left", .int 0)])):=((Drawn.new dr hp).put dr hfl0).put dr hp
 have em1:upd (upd (upd H p (.dK [])) fl (.lst [])) p (.dK [(Sum.inr "faces", .ref fl),(Sum.inr "own", .int 0),(Sum.inr "left", .int 0)]) p=some (.dK [(Sum.inr "faces", .ref fl),(Sum.inr "own", .int 0),(Sum.inr "left", .int 0)]):=upd_same
 have efl1:upd (upd (upd H p (.dK [])) fl (.lst [])) p (.dK [(Sum.inr "faces", .ref fl),(Sum.inr "own", .int 0),(Sum.inr "left", .int 0)]) fl=some (.lst []):=(upd_ne nfp).trans upd_same
 generalize upd (upd (upd H p (.dK [])) fl (.lst [])) p (.dK [(Sum.inr "faces", .ref fl),(Sum.inr "own", .int 0),(Sum.inr "left", .int 0)])=H1 at g1 em1 efl1 ⊢
 refine⟨by show 0≤sizeLine; decide,fun fo hfo => ?_⟩
 have g2:=Drawn.new (o:=.lst []) g1.d hfo
 have hfo0:H fo=none:=by
  cases e:H fo with
  | none=>rfl
  | some u =>
   have:=g1.s _ _ (Drawn.ne g1.d hfo) e
   rw [hfo] at this
   cases this
 refine⟨_,rfl,_,rfl,r,most,rfl,g2.d,by omega,by omega,fun k0 H3 k0a k0b g3=>⟨_,_,rfl,rfl,_,rfl,by omega,by omega,?_⟩⟩
 have nm:p≠r.r:=Drawn.ne dr hp
 have nfl:fl≠r.r:=Drawn.ne dr hfl0
 have nfo:fo≠r.r:=Drawn.ne dr hfo0
 have g23:=g2.trans g3
 refine for_range (lo:=0) (n:=(1+k0).toNat) (fun i σ H'=>PI K r H most i σ H') ⟨p,fl,fo,[],[],.int 0,[],none,none,none,rfl,g1.trans g23,hp,hfl0,hfo0,ne_of_none efl1 hfo,g23.s _ _ nm em1,g23.s _ _ nfl efl1,g3.s _ _ nfo upd_same,.nil,.nil,⟨Nat.zero_le _,fun i f hf=>by simp at hf⟩,(⟨(fun f hf=>nomatch hf),(fun i f hf=>by simp at hf)⟩),rfl⟩ ?_ ?_
 ·intro i σ H4 hi pi
  have e0:(0:Int)+(i:Int)=(i:Int):=Int.zero_add _
  dsimp only [gName]
  rw [e0]
  exact turn _ i σ H4 (by omega) pi fun σ' H'' z=>z
 ·rintro σ H4 ⟨m,fl',fo',xs,vs,ow,prog,x4,x5,x6,rfl,g4,_,_,hfo4,_,_,_,efo,fi,pg,good,fst0,plen⟩
  refine⟨_,rfl,fo',_,rfl,.inl ⟨SqL.of efo,fun l hl => ?_⟩⟩
  have g5:=Drawn.new (o:=.tup vs) g4.d hl
  exact q l _ vs prog (g4.trans g5) upd_same (pg.mono (g5.ik g4.d)) good fst0 (by omega) (by omega)
end
end NR
namespace NR
open PySem PySem.Spec PyProof.Rows L2 LamX NdefX
def KX (r:Addr) (H H':Hp):Prop:=∀ b o,b≠r→H b=some o→(∀ ps,o≠.tbl ps)→H' b=some o
theorem KX.refl (r:Addr) (H:Hp):KX r H H:=fun _ _ _ h _=>h
theorem KX.trans {r:Addr}{H H1 H2:Hp}(a:KX r H H1) (b:KX r H1 H2):KX r H H2:=fun c o n h m=>b c o n (a c o n h m) m
theorem KX.x {r:Addr}{H H':Hp}(s:SameX r H H'):KX r H H':=fun b o n h _=>s b o n h
theorem KX.e {r:Addr}{H H':Hp}(s:ExtN H H'):KX r H H':=fun b o _ h m=>s b o h m
theorem KX.s {r:Addr}{H H':Hp}(s:Same H H'):KX r H H':=fun b o _ h _=>s b o h
theorem KX.ik {K:PySem.W.Frag}{r:RD}{H H':Hp}(k:KX r.r H H') (d:Draw K r H):IK H H':=by
 obtain⟨p,x,l,e,_⟩:=d.ex
 refine⟨fun b xs h=>k b _ (fun z => ?_) h (fun _ z=>nomatch z),fun b o xs h=>k b _ (fun z => ?_) h (fun _ z=>nomatch z)⟩
 ·rw [z,e] at h
  cases h
 ·rw [z,e] at h
  cases h
theorem PrI.ik {H H':Hp}{pa:Addr}{fm:List (List (Int×Nat)×Nd)} (h:PrI H pa fm) (s:IK H H'):PrI H' pa fm:=by
 obtain⟨us,prog,h1,h2,h3⟩:=h.ex
 exact⟨us,prog,s.t _ _ h1,h2.mono s,h3⟩
theorem whAll_good {H:Hp}{ds:List Nat}{us:List V}{ws:List Wo}(h:WIns H us ws) (ok:WOks ds ws):WhAll H ds us none:=by
 refine⟨by rw [h.len,ok.len],fun i d v hd hv => ?_⟩
 obtain⟨w,e1,e2⟩:=h.atV hv
 obtain⟨w',e3,e4⟩:=ok.at hd
 rw [e1] at e3
 cases e3
 exact .good e2 e4
theorem whAll_few {H:Hp}{ds:List Nat}{us:List V}(h:WhAll H ds us none) {n:Nat}(hn:n < ds.length):WhAll H ds (us.take n) (some n):=by
 have h1:=h.1
 have l:(us.take n).length=n:=by rw [List.length_take]; omega
 refine⟨by omega,by omega,.inr hn,fun i d v hi hd hv => ?_,fun d v hd hv => ?_⟩
 ·rw [List.getElem?_take_of_lt hi] at hv
  exact h.2 i d v hd hv
 ·rw [List.getElem?_eq_none (by rw [l]; exact Nat.le_refl _)] at hv
  cases hv
theorem whAll_more {H:Hp}{ds:List Nat}{us:List V}(h:WhAll H ds us none) {v:V}:WhAll H ds (us++[v]) (some ds.length):=by
 have h1:=h.1
 refine⟨by rw [List.length_append]; omega,Nat.le_refl _,.inl (by rw [List.length_append]; show ds.length < us.length+1; omega),fun i d u hi hd hu => ?_,fun d u hd hu => ?_⟩
 ·rw [List.getElem?_append_left (by omega)] at hu
  exact h.2 i d u hd hu
 ·rw [List.getElem?_eq_none (Nat.le_refl _)] at hd
  cases hd
theorem whAll_odd {H:Hp}{ds:List Nat}{us:List V}(h:WhAll H ds us none) {n d0:Nat}{v:V}(hn:ds[n]? = some d0) (hv:Wh H d0 v false):WhAll H ds (us.take n++[v]++us.drop (n+1)) (some n):=by
 have h1:=h.1
 have nl:n < ds.length:=(List.getElem?_eq_some_iff.mp hn).1
 have l:(us.take n).length=n:=by rw [List.length_take]; omega
 refine⟨by rw [List.length_append,List.length_append,l]; omega,by omega,.inr nl,fun i d u hi hd hu => ?_,fun d u hd hu => ?_⟩
 ·rw [List.append_assoc,List.getElem?_append_left (by omega),List.getElem?_take_of_lt hi] at hu
  exact h.2 i d u hd hu
 ·rw [List.append_assoc,List.getElem?_append_right (by omega),l,Nat.sub_self] at hu
  cases hu
  rw [hn] at hd
  cases hd
  exact hv
theorem wordDue {H:Hp}{v:V}{D:Due}(h:WordOk H v D):∀ {H':Hp},Same H H'→∃ t,v=.ref t∧DueIn H' t D:=fun s=>by
 obtain⟨t,e,d⟩:=h.due
 exact⟨t,e,d.same s⟩
abbrev sLaw:Stmt:=top 159
abbrev nmLaw:List Str:=["_law_script", "_law_row_here", "_law_turn", "_law_program_here", "_law_which", "_law_worths_here", "_law_m", "_law_many", "_law_other", "_law_params", "_law_at", "_law_bad", "_law_ahead"]
theorem scsLaw:FnScope nmLaw ["_law_script"] (defScope sLaw):=⟨rfl,rfl,rfl,by decide +kernel,rfl,by decide +kernel,by decide +kernel⟩
def loopB:Option Stmt→List Stmt
 | some (.For _ _ b _ _)=>b
 | _=>[]
def ifLam:Option Stmt→Option Expr
 | some (.If (.Compare (.Call _ (a::_) _ _) _ _ _) _ _ _)=>some a
 | _=>none
def lawL:Fin 2→LamT
 | 0=>lamOf (ifLam ((loopB (defBody sLaw)[1]?)[4]?)) none
 | 1=>lamOf (ifLam ((loopB (defBody sLaw)[1]?)[12]?)) none
def lawN:Fin 2→List Str
 | 0=>["_law_program_here", "_law_other"]
 | 1=>["_law_program_here", "_law_which", "_law_ahead", "_law_bad", "_law_worths_here"]
theorem lawB:∀ n,LamB (lawL n):=fun n=>by
 match n with
 | 0=>exact⟨fun _ _ _ _ _ _ _=>rfl,fun x z=>(nomatch z)⟩
 | 1=>exact⟨fun _ _ _ _ _ _ _=>rfl,fun x z=>(nomatch z)⟩
theorem lawS:∀ n,NScope (lawN n) (dflN (lawL n).dfl) (lawN n) (lawL n).scope:=fun n=>nscope_by (by revert n; decide +kernel)
abbrev lawT (K:PySem.W.Frag) (CW CF:Addr) (E:XK):Fin 2→TE
 | 0=>tCall (spManyX CW CF) [] E (tCons (tVar 0) (tCons (tVar 1) (tCons (tLst tNil) tNil)))
 | 1=>tCall (spManyX CW CF) [] E (tCons (tVar 0) (tCons (tVar 1) (tCons (tOp rCat (tVar 2) (tLst (tCons (tVar 3) (tCons (tSl (rSlL K) (tVar 4) tNoPart (tPart (tC (V.int 0)))) tNil)))) tNil)))
theorem cut_drop {xs:List V}{k:Nat}:cutV xs (some ((k:Int)+1)) none=xs.drop (k+1):=by
 unfold cutV
 have e:((k:Int)+1)=((k+1:Nat):Int):=by omega
 rw [e,HT.sIx_none,HT.sIx_nat]
 by_cases c:k+1≤xs.length
 ·rw [Nat.min_eq_left c,List.take_of_length_le (by rw [List.length_drop]; omega)]
 ·rw [Nat.min_eq_right (by omega),List.drop_of_length_le (Nat.le_refl _),List.drop_of_length_le (by omega)]
  simp
def spLaw (K:PySem.W.Frag) (Ts:List (Addr×Str)):Sp:=fun vs H Q _=>∃ (a:Addr) (ns:List Int),vs=[.ref a]∧SqL K H a (ns.map V.int)∧Tabs Ts H∧∀ H',Q (.bl true) H'
section
variable {P:Program}{w:World}{K:PySem.W.Frag}{mg:Str→Option Value}{base:Heap}{f c Pt:Addr}{fd:FuncData}{Ts:List (Addr×Str)}
theorem law_body {X:Cx}{CW CF:Addr}{k:Nat}(O_all:Okf X.prog X.w X.K X.mg X.base (CX X.prog X.w) k "run_all" ["program", "which", "many"] (spManyX CW CF))
  {q:Str}{cl:List (Str×Addr)} (n:Fin 2) (f c':Addr) (dV:Value) (A:Around) (outer:List Env) (s:Shared) (H:Hp) (E:XK) (hr:Room k (A.deeper (envF (NFl (lamV q cl (lawL n) dV c')) f s.heap.objs.size))) :
  PE (ncx (CX X.prog X.w) X.prog X.w X.K X.mg X.base (lawN n) (NFl (lamV q cl (lawL n) dV c')) f A outer s H E) (lawL n).body (lawT X.K CW CF E n):=by
 match n with
 | 0=>exact pe_c O_all hr rfl (passes_call (takes_of rfl rfl rfl rfl) (fun _ _ _ _ h=>h)) (pa_cons (pv 0) (pa_cons (pv 1) (pa_cons (pe_lst pa_nil) pa_nil)))
 | 1=>exact pe_c O_all hr rfl (passes_call (takes_of rfl rfl rfl rfl) (fun _ _ _ _ h=>h)) (pa_cons (pv 0) (pa_cons (pv 1) (pa_cons (pe_op op_cat (pv 2) (pe_lst (pa_cons (pv 3) (pa_cons (pe_slice (sl_listK X.K) (pv 4) po_none (po_some pe_int)) pa_nil)))) pa_nil)))
theorem ok_law {CN CB CT CW CF:Addr}{k:Nat}(F:FunL K "law" sLaw f fd c) (TB:TabB base mg c Pt) (hmT:(Pt,lamQ "law")∈Ts) (hu1:∀ p∈Ts,p.1=Pt→p.2=lamQ "law") (W:WordO K mg CN CB CT CW CF)
  (O_taken:Okf P w K mg base CX0 (k+2) "_law_taken" ["_law_row_here", "_law_many"] (spTaken K)) (O_run_of:Okf P w K mg base CX0 (k+2) "_law_run_of" ["_law_row_here", "_law_most", "_law_fuel"] (spRunOf P w K Ts)) (O_odd:Okf P w K mg base CX0 (k+2) "_law_odd" ["_law_row_here", "_law_depth"] (spOdd K 4)) (O_isr:Okf P w K mg base CX0 (k+2) "_law_is_refused" ["_law_program_here", "_law_which", "_law_worths_here", "_law_due"] (spIsR Ts)) (O_all:Okf P w K mg base (CX P w) k "run_all" ["program", "which", "many"] (spManyX CW CF)) (z_range:mg "range" = none) (z_len:mg "len" = none) :
  FnOk P w K mg base CX0 (k+3) f fd ["_law_script"] (spLaw K Ts):=by
 have sc:=scsLaw
 refine F.ok sc (fun vs H Q E h => ?_) (fun A outer s H vs Q E hr h => ?_)
 ·obtain⟨a,ns,rfl,_⟩:=h
  rfl
 obtain⟨a,ns,rfl,sq,tb,q⟩:=h
 have hu:=hu_of hr
 have hcd:(cxOf CX0 P w K mg base nmLaw "law" (defScope sLaw) f (.ref c) A outer s H E).env.code=.ref c:=rfl
 refine⟨_,PSs.nox (pss_cons (ps_set (i:=1) sc.nd rfl (.inl rfl) (pe_lst (pa_cons (pv 0) (pa_cons pe_int (pa_cons pe_int (pa_cons pe_int pa_nil))))))
  (pss_cons (ps_for PassesOwn.never rfl (pi_range1 rfl z_range (pa_cons pe_int pa_nil)) (pg_name (i:=2) sc.nd rfl (.inl rfl)) (pss_cons (ps_asg (pe_c O_run_of hr rfl pass0 (pa_cons (pv 1) (pa_cons pe_int (pa_cons pe_int pa_nil)))) (pg_tupK K (n:=4) rfl (pgs_cons (pg_name (i:=3) sc.nd rfl (.inr rfl)) (pgs_cons (pg_name (i:=4) sc.nd rfl (.inr rfl)) (pgs_cons (pg_name (i:=5) sc.nd rfl (.inr rfl)) (pgs_cons (pg_name (i:=6) sc.nd rfl (.inl rfl)) pgs_nil))))))
  (pss_cons (ps_set (i:=7) sc.nd rfl (.inl rfl) (pe_callB (call_lenK K) rfl z_len PySem.boot_len (pa_cons (pv 3) pa_nil)))
  (pss_cons (ps_set (i:=8) sc.nd rfl (.inr rfl) (pe_ix (ix_listK K) (pe_lst (pa_cons (pv 7) (pa_cons (pe_op op_add (pv 7) (pe_c O_taken hr rfl pass0 (pa_cons (pv 1) (pa_cons pe_int pa_nil)))) (pa_cons (pe_op op_sub pe_int pe_int) (pa_cons (pe_op op_sub (pe_op op_sub pe_int pe_int) (pe_c O_taken hr rfl pass0 (pa_cons (pv 1) (pa_cons pe_int pa_nil)))) pa_nil))))) (pe_c O_taken hr rfl pass0 (pa_cons (pv 1) (pa_cons pe_int pa_nil))) (fun _ _=>rfl)))
  (pss_cons (ps_if (pt_not (pt_val (pe_c O_isr hr rfl pass0 (pa_cons (pv 3) (pa_cons (pv 8) (pa_cons (pv 5) (pa_cons (pe_tup (pa_cons pe_str (pa_cons (pe_tup pa_nil) pa_nil))) pa_nil))))))) (pss_one (ps_ret pe_bl)) pss_nil)
  (pss_cons (ps_if (pt_cmpR (op_neDK K hr.units) (pe_word (k:=k) (ι:=Unit) (q:=fun _=>lamQ "law") (C:=fun _=>lawL 0) (cl:=fun _=>cloFrom (envOfC "law" (defScope sLaw) s.heap.objs.size f (.ref c)).cells (lawL 0).scope.names []) (N:=fun _=>lawN 0) (fr:=fun _=>lawN 0) (ws:=fun _ σ=>[3,8].map (slotAt σ)) (tb:=fun _ E=>lawT K CW CF E 0) W rfl hr (pe_lam0 TB hcd hmT hu1 (fr_in (sc:=defScope sLaw) (by decide +kernel) rfl)) (fun _=>lawB 0) (fun _=>lawS 0) (fun pins σ H s I _=>cells_of I (caps_in (sc:=defScope sLaw) I.ok (by decide +kernel) (by decide +kernel) rfl rfl)) (fun _ f c' dV A outer s H E hr=>law_body O_all 0 f c' dV A outer s H E hr)) (pe_tup (pa_cons pe_str (pa_cons (pe_tup pa_nil) pa_nil))) (nomark _)) (pss_one (ps_ret pe_bl)) pss_nil)
  (pss_cons (ps_set (i:=9) sc.nd rfl (.inl rfl) (pe_ix (ix_tupK K) (pe_ix (ix_tupK K) (pv 3) (pv 4) (fun _ _=>rfl)) pe_int (fun _ _=>rfl)))
  (pss_cons (ps_set (i:=10) sc.nd rfl (.inl rfl) (pe_c O_taken hr rfl pass0 (pa_cons (pv 1) (pa_cons (pe_callB (call_lenK K) rfl z_len PySem.boot_len (pa_cons (pv 9) pa_nil)) pa_nil))))
  (pss_cons (ps_set (i:=11) sc.nd rfl (.inr rfl) (pe_op op_cat (pe_op op_cat (pe_slice (sl_listK K) (pv 5) po_none (po_some (pv 10))) (pe_lst (pa_cons (pe_c O_odd hr rfl pass0 (pa_cons (pv 1) (pa_cons (pe_ix (ix_tupK K) (pe_ix (ix_tupK K) (pv 9) (pv 10) (fun _ _=>rfl)) pe_int (fun _ _=>rfl)) pa_nil))) pa_nil))) (pe_slice (sl_listK K) (pv 5) (po_some (pe_op op_add (pv 10) pe_int)) po_none)))
  (pss_cons (ps_if (pt_not (pt_val (pe_c O_isr hr rfl pass0 (pa_cons (pv 3) (pa_cons (pv 4) (pa_cons (pv 11) (pa_cons (pe_tup (pa_cons pe_str (pa_cons (pe_tup (pa_cons (pv 10) pa_nil)) pa_nil))) pa_nil))))))) (pss_one (ps_ret pe_bl)) pss_nil)
  (pss_cons (ps_if (pt_not (pt_val (pe_c O_isr hr rfl pass0 (pa_cons (pv 3) (pa_cons (pv 4) (pa_cons (pe_slice (sl_listK K) (pv 5) po_none (po_some (pv 10))) (pa_cons (pe_tup (pa_cons pe_str (pa_cons (pe_tup (pa_cons (pv 10) pa_nil)) pa_nil))) pa_nil))))))) (pss_one (ps_ret pe_bl)) pss_nil)
  (pss_cons (ps_if (pt_not (pt_val (pe_c O_isr hr rfl pass0 (pa_cons (pv 3) (pa_cons (pv 4) (pa_cons (pe_op op_cat (pv 5) (pe_lst (pa_cons pe_int pa_nil))) (pa_cons (pe_tup (pa_cons pe_str (pa_cons (pe_tup (pa_cons (pe_callB (call_lenK K) rfl z_len PySem.boot_len (pa_cons (pv 9) pa_nil)) pa_nil)) pa_nil))) pa_nil))))))) (pss_one (ps_ret pe_bl)) pss_nil)
  (pss_cons (ps_set (i:=12) sc.nd rfl (.inr rfl) (pe_op op_rep (pe_lst (pa_cons (pv 5) pa_nil)) (pe_op op_add pe_int (pe_c O_taken hr rfl pass0 (pa_cons (pv 1) (pa_cons pe_int pa_nil))))))
  (pss_one (ps_if (pt_cmpR (op_neDK K hr.units) (pe_word (k:=k) (ι:=Unit) (q:=fun _=>lamQ "law") (C:=fun _=>lawL 1) (cl:=fun _=>cloFrom (envOfC "law" (defScope sLaw) s.heap.objs.size f (.ref c)).cells (lawL 1).scope.names []) (N:=fun _=>lawN 1) (fr:=fun _=>lawN 1) (ws:=fun _ σ=>[3,4,12,11,5].map (slotAt σ)) (tb:=fun _ E=>lawT K CW CF E 1) W rfl hr (pe_lam0 TB hcd hmT hu1 (fr_in (sc:=defScope sLaw) (by decide +kernel) rfl)) (fun _=>lawB 1) (fun _=>lawS 1) (fun pins σ H s I _=>cells_of I (caps_in (sc:=defScope sLaw) I.ok (by decide +kernel) (by decide +kernel) rfl rfl)) (fun _ f c' dV A outer s H E hr=>law_body O_all 1 f c' dV A outer s H E hr)) (pe_tup (pa_cons pe_str (pa_cons (pe_tup (pa_cons (pv 10) pa_nil)) pa_nil))) (nomark _)) (pss_one (ps_ret pe_bl)) pss_nil)))))))))))))))
  (pss_one (ps_ret pe_bl)))),?_⟩
 refine⟨_,rfl,by show 4≤sizeLine; decide,fun rw_ hrw => ?_⟩
 have apt:Apt K ⟨rw_,a,ns⟩:=by
  rcases sq with (h | ⟨o,h⟩) | h
  ·exact .inl (ne_of_none h hrw)
  ·exact .inl (ne_of_none h hrw)
  ·exact .inr fun H=>.inr h
 have d0:Draw K ⟨rw_,a,ns⟩ (upd H rw_ (.lst [.ref a,.int 0,.int 0,.int 0])):=⟨0,0,0,upd_same,(same_new hrw _).seq sq,apt,by decide,by decide,by decide⟩
 have tb0:=tb.ext (same_new hrw (.lst [.ref a,.int 0,.int 0,.int 0]))
 generalize upd H rw_ (.lst [.ref a,.int 0,.int 0,.int 0])=H0 at d0 tb0 ⊢
 obtain⟨r,hr0⟩:∃ r:RD,r=⟨rw_,a,ns⟩:=⟨_,rfl⟩
 have er:r.r=rw_:=by rw [hr0]
 rw [← hr0] at d0
 clear hr0
 subst er
 try dsimp only [gName]
 refine⟨_,rfl,by decide,by decide,for_range (lo:=0) (n:=5) (fun i σ H'=>∃ x2 x3 x4 x5 x6 x7 x8 x9 x10 x11 x12,σ=[some (.ref a),some (.ref r.r),x2,x3,x4,x5,x6,x7,x8,x9,x10,x11,x12]∧Draw K r H'∧Tabs Ts H') ⟨none,none,none,none,none,none,none,none,none,none,none,rfl,d0,tb0⟩ ?_ ?_⟩
 ·rintro i σ H1 hi ⟨x2,x3,x4,x5,x6,x7,x8,x9,x10,x11,x12,rfl,d1,tb1⟩
  try dsimp only [gName]
  refine⟨_,rfl,r,4,2000,rfl,d1,tb1,by decide,by decide,by decide,by decide,fun H2 t d2 tb2 out => ?_⟩
  obtain⟨pa,wl,am,pvs,us,ws,prog,fm,j,ps,nd,tv0,ht,hpa,hpg,C,fst,one,hj,nwl,hwl,hws,wok,_⟩:=out
  obtain⟨fn,hfn,e1,an,e2⟩:=nds_back C.n hj
  have e1:ps=fn.ps:=e1
  subst e1
  have face:=(C.g.fn j fn hfn).1
  have pr:PrI H2 pa fm:=⟨pvs,prog,hpa,hpg,C.g,one,C.n,C.n.len⟩
  have wa:=whAll_good hws wok
  try dsimp only [gName]
  refine⟨t,_,rfl,SqT.of ht,rfl,_,_,rfl,_,_,rfl,_,_,rfl,_,_,rfl,rfl,?_⟩
  refine⟨_,rfl,pa,_,rfl,.inr (SqT.of hpa),?_⟩
  try dsimp only [gName]
  have lpf:pvs.length=fm.length:=by rw [hpg.len,C.n.len]
  refine seq_restS (fun σ' H'=>∃ oth:Int,σ'=[some (.ref a),some (.ref r.r),some (.int (0+(i:Int))),some (.ref pa),some (.int (j:Int)),some (.ref wl),some (.ref am.m),some (.int (pvs.length:Int)),some (.int oth),x9,x10,x11,x12]∧FnNo fm oth∧Drawn K r H2 H') ?rest fun nx => ?now
  case now =>
   refine⟨_,rfl,_,rfl,_,rfl,r,99,rfl,d2,by decide,by decide,fun k1 H3 a3 b3 g3=>⟨_,_,rfl,rfl,_,_,rfl,rfl,_,_,rfl,rfl,_,rfl,r,99,rfl,g3.d,by decide,by decide,fun k2 H4 a4 b4 g4=>⟨_,_,rfl,rfl,by show 4≤sizeLine; decide,fun l hl=>⟨_,rfl,r,4,rfl,(Drawn.new g4.d hl).d,by decide,by decide,fun k3 H5 a5 b5 g5 => ?_⟩⟩⟩⟩
   have g34:=(g3.trans g4).trans (Drawn.new (o:=.lst [.int (pvs.length:Int),.int ((pvs.length:Int)+k1),.int (0 - 1),.int (0 - 1 - k2)]) g4.d hl)
   have el:H5 l=some (.lst [.int (pvs.length:Int),.int ((pvs.length:Int)+k1),.int (0 - 1),.int (0 - 1 - k2)]):=by
    obtain⟨o,ho⟩:=g4.d.ref
    exact g5.s _ _ (fun z=>by
     rw [z,ho] at hl
     cases hl) upd_same
   have hv:∃ v:Int,atI [V.int (pvs.length:Int),.int ((pvs.length:Int)+k1),.int (0 - 1),.int (0 - 1 - k2)] k3=some (.int v)∧FnNo fm v:=by
    have hk:k3=0∨k3=1∨k3=2∨k3=3:=by omega
    rcases hk with rfl | rfl | rfl | rfl
    ·exact⟨_,rfl,fun z=>by omega⟩
    ·exact⟨_,rfl,fun z=>by omega⟩
    ·exact⟨_,rfl,fun z=>by omega⟩
    ·exact⟨_,rfl,fun z=>by omega⟩
   obtain⟨v,hv,no⟩:=hv
   exact⟨l,_,_,_,rfl,rfl,SqL.of el,hv,nx _ _ ⟨v,rfl,no,g34.trans g5⟩⟩
  case rest =>
  rintro σ3 H3 ⟨oth,rfl,no,g3⟩
  have k3:=KX.x g3.s
  have d3:=g3.d
  have tb3:=tabs_X g3.s d2 tb2
  clear g3
  
  refine seq_restS (fun σ' H'=>σ'=[some (.ref a),some (.ref r.r),some (.int (0+(i:Int))),some (.ref pa),some (.int (j:Int)),some (.ref wl),some (.ref am.m),some (.int (pvs.length:Int)),some (.int oth),x9,x10,x11,x12]∧KX r.r H2 H'∧Draw K r H'∧Tabs Ts H') ?rest fun nx => ?now
  case now =>
   refine⟨_,rfl,_,rfl,_,rfl,by show 0≤sizeLine; decide,fun z hz=>⟨by show 2≤sizeLine; decide,fun t9 ht9 => ?_⟩⟩
   have s4:=same_new hz (.tup [])
   have e4:upd H3 z (.tup []) z=some (.tup []):=upd_same
   generalize upd H3 z (.tup [])=H4 at s4 e4 ht9 ⊢
   have s5:=same_new ht9 (.tup [.str "function", .ref z])
   have s35:=s4.trans s5
   refine⟨pa,wl,t9,oth,fm,.fn,rfl,(pr.ik (k3.ik d2)).same s35,no,⟨z,.inl upd_same,.inl (s5 _ _ e4)⟩,tb3.ext s35,fun H6 e6 tb6=>⟨_,rfl,ite2 (fun z=>nomatch z) (fun _ => ?_)⟩⟩
   exact nx _ _ ⟨rfl,(k3.trans (.s s35)).trans (.e e6),draw_ik (d3.same s35) e6,tb6⟩
  case rest =>
  rintro σ4 H4 ⟨rfl,k4,d4,tb4⟩
  clear k3 d3 tb3
  refine seq_restS (fun σ' H'=>σ'=[some (.ref a),some (.ref r.r),some (.int (0+(i:Int))),some (.ref pa),some (.int (j:Int)),some (.ref wl),some (.ref am.m),some (.int (pvs.length:Int)),some (.int oth),x9,x10,x11,x12]∧KX r.r H2 H'∧Draw K r H'∧Tabs Ts H') ?rest fun nx => ?now
  case now =>
   refine⟨tb4,fun f5 c5 H5 e5 n5 tb5 hf5 l5 q5=>⟨(),f5,c5,.none,[],rfl,⟨l5,q5,.none⟩,⟨.fn,fun E rf=>⟨_,rfl,_,rfl,by show 0≤sizeLine; decide,fun l6 hl6=>⟨pa,l6,oth,fm,.fn,rfl,?_,no,rf.same (same_new hl6 _)⟩⟩,fun H6 v6 s6 wo => ?_⟩⟩⟩
   ·exact (pr.ik ((k4.trans (.e e5)).ik d2)).same (same_new hl6 _)
   refine⟨by show 0≤sizeLine; decide,fun z hz=>⟨by show 2≤sizeLine; decide,fun t9 ht9 => ?_⟩⟩
   have s7:=same_new hz (.tup [])
   have e7:upd H6 z (.tup []) z=some (.tup []):=upd_same
   generalize upd H6 z (.tup [])=H7 at s7 e7 ht9 ⊢
   have s8:=same_new ht9 (.tup [.str "function", .ref z])
   have s68:=s7.trans s8
   obtain⟨t6,rfl,du⟩:=wordDue wo s68
   have du2:DueIn (upd H7 t9 (.tup [.str "function", .ref z])) t9 .fn:=⟨z,.inl upd_same,.inl (s8 _ _ e7)⟩
   refine⟨_,_,du.dp,du2.dp,due_shaped _,due_shaped _,_,rfl,?_⟩
   rw [due_eq]
   refine ite2 (fun z=>nomatch z) (fun _ => ?_)
   have s58:=s6.trans s68
   exact nx _ _ ⟨rfl,(k4.trans (.e e5)).trans (.s s58),(draw_ik d4 e5).same s58,tb5.ext s58⟩
  case rest =>
  rintro σ5 H5 ⟨rfl,k5,d5,tb5⟩
  clear k4 d4 tb4
  obtain⟨fa,pv,bv,hfa,efa,pti,_⟩:=hpg.gf j hfn
  obtain⟨pt,po,xs,rfl,ept,hdn,pin⟩:=pti.ex
  obtain⟨px,prest,eps⟩:=fst fn (List.mem_of_getElem? hfn)
  have lxs:=pin.len
  have l1:1≤fn.ps.length:=by rw [eps]; simp
  have l4:=face.few
  have ik5:=k5.ik d2
  have hpa5:=ik5.t _ _ hpa
  refine seq_restS (fun σ' H'=>σ'=[some (.ref a),some (.ref r.r),some (.int (0+(i:Int))),some (.ref pa),some (.int (j:Int)),some (.ref wl),some (.ref am.m),some (.int (pvs.length:Int)),some (.int oth),some (.ref pt),x10,x11,x12]∧H'=H5) ?rest fun nx => ?now
  case now =>
   exact⟨_,rfl,_,rfl,pa,_,_,_,rfl,rfl,SqT.of hpa5,atI_nat hfa,fa,_,_,_,rfl,rfl,SqT.of (ik5.t _ _ efa),at0,nx _ _ ⟨rfl,rfl⟩⟩
  case rest =>
  rintro σ6 H6 ⟨rfl,rfl⟩
  refine seq_restS (fun σ' H'=>∃ n:Nat,n < fn.ps.length∧σ'=[some (.ref a),some (.ref r.r),some (.int (0+(i:Int))),some (.ref pa),some (.int (j:Int)),some (.ref wl),some (.ref am.m),some (.int (pvs.length:Int)),some (.int oth),some (.ref pt),some (.int (n:Int)),x11,x12]∧KX r.r H2 H'∧Draw K r H'∧Tabs Ts H') ?rest fun nx => ?now
  case now =>
   refine⟨_,rfl,_,rfl,pt,_,rfl,.inr (SqT.frz (ik5.f _ _ _ ept)),r,(xs.length:Int),rfl,d5,by omega,by omega,fun k1 H7 a7 b7 g7 => ?_⟩
   refine nx _ _ ⟨k1.toNat,by omega,by rw [Int.toNat_of_nonneg a7]; rfl,k5.trans (.x g7.s),g7.d,tabs_X g7.s d5 tb5⟩
  case rest =>
  rintro σ7 H7 ⟨n,hn,rfl,k7,d7,tb7⟩
  clear k5 d5 tb5 ik5 hpa5
  have ik7:=k7.ik d2
  obtain⟨⟨xn,dn⟩,ep⟩:∃ p,fn.ps[n]? = some p:=⟨_,List.getElem?_eq_getElem hn⟩
  have hdn:(fn.ps.map (·.2))[n]? = some dn:=by rw [List.getElem?_map,ep]; rfl
  obtain⟨pe,epe,hpe⟩:∃ pe,xs[n]? = some (.ref pe)∧H2 pe=some (.tup [.int xn,dV dn]):=by
   have hx:xs[n]? = some xs[n]:=List.getElem?_eq_getElem (by omega)
   obtain⟨b,x',d',e1,e2,e3⟩:=pin.get n hx
   rw [ep] at e2
   cases e2
   exact⟨b,by rw [hx,e1],e3⟩
  have dn3:dn≤3:=(face.lo _ (List.mem_of_getElem? ep)).2.2
  have lus:us.length=fn.ps.length:=by
   have:=wa.1
   rw [List.length_map] at this
   exact this
  have hwl7:=k7 _ _ nwl hwl (fun _ z=>nomatch z)
  refine seq_restS (fun σ' H'=>∃ (bl:Addr) (v:V),σ'=[some (.ref a),some (.ref r.r),some (.int (0+(i:Int))),some (.ref pa),some (.int (j:Int)),some (.ref wl),some (.ref am.m),some (.int (pvs.length:Int)),some (.int oth),some (.ref pt),some (.int (n:Int)),some (.ref bl),x12]∧KX r.r H2 H'∧Draw K r H'∧Tabs Ts H'∧bl≠r.r∧H' bl=some (.lst (us.take n++[v]++us.drop (n+1)))∧Wh H' dn v false) ?rest fun nx => ?now
  case now =>
   refine⟨_,rfl,_,rfl,_,rfl,wl,us,rfl,SqL.of hwl7,fun la hla => ?_⟩
   rw [cut_take]
   have s8:=same_new hla (.lst (us.take n))
   have e8:upd H7 la (.lst (us.take n)) la=some (.lst (us.take n)):=upd_same
   have d8:=d7.same s8
   have tb8:=tb7.ext s8
   generalize upd H7 la (.lst (us.take n))=H8 at s8 e8 d8 tb8 ⊢
   have k8:=k7.trans (.s s8)
   have ik8:=k8.ik d2
   refine⟨_,rfl,_,rfl,_,rfl,pt,_,_,_,rfl,rfl,SqT.frz (ik8.f _ _ _ ept),atI_nat epe,pe,_,_,_,rfl,rfl,SqT.of (ik8.t _ _ hpe),at1,r,dn,rfl,d8,by omega,dn3,fun v H9 g9 wh9=>⟨by show 1≤sizeLine; decide,fun lb hlb => ?_⟩⟩
   have nla:la≠r.r:=fun z=>by
    obtain⟨o,ho⟩:=d7.ref
    rw [z,ho] at hla
    cases hla
   have e9:=g9.s _ _ nla e8
   have d9:=g9.d
   have tb9:=tabs_X g9.s d8 tb8
   have k9:=k8.trans (.x g9.s)
   have s10:=same_new hlb (.lst [v])
   have e10:upd H9 lb (.lst [v]) lb=some (.lst [v]):=upd_same
   have d10:=d9.same s10
   have tb10:=tb9.ext s10
   have k10:=k9.trans (.s s10)
   replace e9:=s10 _ _ e9
   replace wh9:=wh9.ik (IK.of s10)
   generalize upd H9 lb (.lst [v])=H10 at e9 e10 d10 tb10 k10 wh9 ⊢
   refine⟨la,lb,_,_,rfl,rfl,e9,e10,?_,fun lc hlc => ?_⟩
   ·rw [List.length_take]
    exact Nat.le_of_lt (small1000 (by show min n us.length+1≤1000; omega))
   have s11:=same_new hlc (.lst (us.take n++[v]))
   have e11:upd H10 lc (.lst (us.take n++[v])) lc=some (.lst (us.take n++[v])):=upd_same
   have d11:=d10.same s11
   have tb11:=tb10.ext s11
   have k11:=k10.trans (.s s11)
   have wh11:=wh9.ik (IK.of s11)
   generalize upd H10 lc (.lst (us.take n++[v]))=H11 at e11 d11 tb11 k11 wh11 ⊢
   refine⟨_,rfl,_,rfl,_,_,rfl,rfl,_,rfl,wl,us,rfl,SqL.of (k11 _ _ nwl hwl (fun _ z=>nomatch z)),fun ld hld => ?_⟩
   rw [cut_drop]
   have s12:=same_new hld (.lst (us.drop (n+1)))
   have e12:upd H11 ld (.lst (us.drop (n+1))) ld=some (.lst (us.drop (n+1))):=upd_same
   replace e11:=s12 _ _ e11
   have d12:=d11.same s12
   have tb12:=tb11.ext s12
   have k12:=k11.trans (.s s12)
   have wh12:=wh11.ik (IK.of s12)
   generalize upd H11 ld (.lst (us.drop (n+1)))=H12 at e11 e12 d12 tb12 k12 wh12 ⊢
   refine⟨lc,ld,_,_,rfl,rfl,e11,e12,?_,fun bl hbl => ?_⟩
   ·rw [List.length_append,List.length_take,List.length_drop]
    exact Nat.le_of_lt (small1000 (by show min n us.length+1+(us.length - (n+1))≤1000; omega))
   have s13:=same_new hbl (.lst (us.take n++[v]++us.drop (n+1)))
   refine nx _ _ ⟨bl,v,rfl,k12.trans (.s s13),d12.same s13,tb12.ext s13,fun z => ?_,upd_same,wh12.ik (IK.of s13)⟩
   obtain⟨o,ho⟩:=d12.ref
   rw [z,ho] at hbl
   cases hbl
  case rest =>
  rintro σ8 H8 ⟨bl,v,rfl,k8,d8,tb8,nbl,ebl,wh8⟩
  clear k7 d7 tb7 ik7 hwl7
  refine seq_restS (fun σ' H'=>σ'=[some (.ref a),some (.ref r.r),some (.int (0+(i:Int))),some (.ref pa),some (.int (j:Int)),some (.ref wl),some (.ref am.m),some (.int (pvs.length:Int)),some (.int oth),some (.ref pt),some (.int (n:Int)),some (.ref bl),x12]∧KX r.r H2 H'∧Draw K r H'∧Tabs Ts H'∧H' bl=some (.lst (us.take n++[v]++us.drop (n+1)))∧Wh H' dn v false) ?rest fun nx => ?now
  case now =>
   refine⟨_,rfl,_,rfl,_,rfl,_,rfl,by show 1≤sizeLine; decide,fun z hz=>⟨by show 2≤sizeLine; decide,fun t9 ht9 => ?_⟩⟩
   have s0:Same H8 H8:=.refl _
   have s1:=same_new hz (.tup [.int (n:Int)])
   have e1:upd H8 z (.tup [.int (n:Int)]) z=some (.tup [.int (n:Int)]):=upd_same
   generalize upd H8 z (.tup [.int (n:Int)])=G1 at s1 e1 ht9 ⊢
   have s2:=same_new ht9 (.tup [.str "worth", .ref z])
   have s3:=s0.trans (s1.trans s2)
   have kk:=k8.trans (.s s3)
   have ik:=kk.ik d2
   refine⟨pa,bl,t9,(j:Int),fm,.wo n,rfl,pr.ik ik,⟨j,_,_,rfl,hj,(s3 _ _ ebl),by rw [List.length_append,List.length_append,List.length_take,List.length_drop]; show min n us.length+1+(us.length - (n+1))≤100; omega,whAll_odd (wa.ik ik) hdn (wh8.ik (IK.of s3)),fun q hq=>(face.lo q hq).2.2,l4⟩,⟨z,.inl upd_same,.inl (s2 _ _ e1)⟩,tb8.ext s3,fun H6 e6 tb6=>⟨_,rfl,ite2 (fun z=>nomatch z) (fun _ => ?_)⟩⟩
   exact nx _ _ ⟨rfl,kk.trans (.e e6),draw_ik (d8.same s3) e6,tb6,e6 _ _ (s3 _ _ ebl) (fun _ z=>nomatch z),(wh8.ik (IK.of s3)).ik (ikE e6)⟩
  case rest =>
  rintro σ9 H9 ⟨rfl,k9,d9,tb9,ebl',wh9⟩
  clear k8 d8 tb8 wh8 ebl
  have ebl:=ebl'
  clear ebl'
  refine seq_restS (fun σ' H'=>σ'=[some (.ref a),some (.ref r.r),some (.int (0+(i:Int))),some (.ref pa),some (.int (j:Int)),some (.ref wl),some (.ref am.m),some (.int (pvs.length:Int)),some (.int oth),some (.ref pt),some (.int (n:Int)),some (.ref bl),x12]∧KX r.r H2 H'∧Draw K r H'∧Tabs Ts H'∧H' bl=some (.lst (us.take n++[v]++us.drop (n+1)))∧Wh H' dn v false) ?rest fun nx => ?now
  case now =>
   refine⟨_,rfl,_,rfl,_,rfl,_,rfl,_,rfl,wl,us,rfl,SqL.of (k9 _ _ nwl hwl (fun _ z=>nomatch z)),fun l9 hl9 => ?_⟩
   rw [cut_take]
   refine⟨_,rfl,by show 1≤sizeLine; decide,fun z hz=>⟨by show 2≤sizeLine; decide,fun t9 ht9 => ?_⟩⟩
   have s0:=same_new hl9 (.lst (us.take n))
   have el:upd H9 l9 (.lst (us.take n)) l9=some (.lst (us.take n)):=upd_same
   generalize upd H9 l9 (.lst (us.take n))=G0 at s0 el hz ht9 ⊢
   have s1:=same_new hz (.tup [.int (n:Int)])
   have e1:upd G0 z (.tup [.int (n:Int)]) z=some (.tup [.int (n:Int)]):=upd_same
   generalize upd G0 z (.tup [.int (n:Int)])=G1 at s1 e1 ht9 ⊢
   have s2:=same_new ht9 (.tup [.str "worth", .ref z])
   have s3:=s0.trans (s1.trans s2)
   have kk:=k9.trans (.s s3)
   have ik:=kk.ik d2
   refine⟨pa,l9,t9,(j:Int),fm,.wo n,rfl,pr.ik ik,⟨j,_,_,rfl,hj,(s2 _ _ (s1 _ _ el)),by rw [List.length_take]; omega,whAll_few (wa.ik ik) (by rw [List.length_map]; exact hn),fun q hq=>(face.lo q hq).2.2,l4⟩,⟨z,.inl upd_same,.inl (s2 _ _ e1)⟩,tb9.ext s3,fun H6 e6 tb6=>⟨_,rfl,ite2 (fun z=>nomatch z) (fun _ => ?_)⟩⟩
   exact nx _ _ ⟨rfl,kk.trans (.e e6),draw_ik (d9.same s3) e6,tb6,e6 _ _ (s3 _ _ ebl) (fun _ z=>nomatch z),(wh9.ik (IK.of s3)).ik (ikE e6)⟩
  case rest =>
  rintro σ10 H10 ⟨rfl,k10,d10,tb10,ebl',wh10⟩
  clear k9 d9 tb9 wh9 ebl
  have ebl:=ebl'
  clear ebl'
  refine seq_restS (fun σ' H'=>σ'=[some (.ref a),some (.ref r.r),some (.int (0+(i:Int))),some (.ref pa),some (.int (j:Int)),some (.ref wl),some (.ref am.m),some (.int (pvs.length:Int)),some (.int oth),some (.ref pt),some (.int (n:Int)),some (.ref bl),x12]∧KX r.r H2 H'∧Draw K r H'∧Tabs Ts H'∧H' bl=some (.lst (us.take n++[v]++us.drop (n+1)))∧Wh H' dn v false) ?rest fun nx => ?now
  case now =>
   refine⟨_,rfl,_,rfl,_,rfl,by show 1≤sizeLine; decide,fun l8 hl8=>⟨wl,l8,_,_,rfl,rfl,same_new hl8 _ _ _ (k10 _ _ nwl hwl (fun _ z=>nomatch z)),upd_same,Nat.le_of_lt (small1000 (by show us.length+1≤1000; omega)),fun l9 hl9 => ?_⟩⟩
   have s0:=(same_new hl8 (.lst [.int 0])).trans (same_new hl9 (.lst (us++[.int 0])))
   have el:upd (upd H10 l8 (.lst [.int 0])) l9 (.lst (us++[.int 0])) l9=some (.lst (us++[.int 0])):=upd_same
   generalize upd (upd H10 l8 (.lst [.int 0])) l9 (.lst (us++[.int 0]))=G0 at s0 el ⊢
   refine⟨_,rfl,pt,_,rfl,.inr (SqT.frz (s0 _ _ ((k10.ik d2).f _ _ _ ept))),by show 1≤sizeLine; decide,fun z hz=>⟨by show 2≤sizeLine; decide,fun t9 ht9 => ?_⟩⟩
   have s1:=same_new hz (.tup [.int (xs.length:Int)])
   have e1:upd G0 z (.tup [.int (xs.length:Int)]) z=some (.tup [.int (xs.length:Int)]):=upd_same
   generalize upd G0 z (.tup [.int (xs.length:Int)])=G1 at s1 e1 ht9 ⊢
   have s2:=same_new ht9 (.tup [.str "worth", .ref z])
   have s3:=s0.trans (s1.trans s2)
   have kk:=k10.trans (.s s3)
   have ik:=kk.ik d2
   refine⟨pa,l9,t9,(j:Int),fm,.wo xs.length,rfl,pr.ik ik,⟨j,_,_,rfl,hj,(s2 _ _ (s1 _ _ el)),by rw [List.length_append]; show us.length+1≤100; omega,(by have:=whAll_more (wa.ik ik) (v:=V.int 0); rw [List.length_map,← lxs] at this; exact this),fun q hq=>(face.lo q hq).2.2,l4⟩,⟨z,.inl upd_same,.inl (s2 _ _ e1)⟩,tb10.ext s3,fun H6 e6 tb6=>⟨_,rfl,ite2 (fun z=>nomatch z) (fun _ => ?_)⟩⟩
   exact nx _ _ ⟨rfl,kk.trans (.e e6),draw_ik (d10.same s3) e6,tb6,e6 _ _ (s3 _ _ ebl) (fun _ z=>nomatch z),(wh10.ik (IK.of s3)).ik (ikE e6)⟩
  case rest =>
  rintro σ11 H11 ⟨rfl,k11,d11,tb11,ebl',wh11⟩
  clear k10 d10 tb10 wh10 ebl
  have ebl:=ebl'
  clear ebl'
  refine seq_restS (fun σ' H'=>∃ (ah:Addr) (m:Nat),σ'=[some (.ref a),some (.ref r.r),some (.int (0+(i:Int))),some (.ref pa),some (.int (j:Int)),some (.ref wl),some (.ref am.m),some (.int (pvs.length:Int)),some (.int oth),some (.ref pt),some (.int (n:Int)),some (.ref bl),some (.ref ah)]∧m≤30∧KX r.r H2 H'∧Draw K r H'∧Tabs Ts H'∧H' bl=some (.lst (us.take n++[v]++us.drop (n+1)))∧Wh H' dn v false∧H' ah=some (.lst (List.replicate m (.ref wl)))) ?rest fun nx => ?now
  case now =>
   refine⟨_,rfl,by show 1≤sizeLine; decide,fun l8 hl8=>⟨_,rfl,r,20,rfl,d11.same (same_new hl8 (.lst [.ref wl])),by decide,by decide,fun k1 H12 a12 b12 g12 => ?_⟩⟩
   have s8:=same_new hl8 (.lst [.ref wl])
   have nl8:l8≠r.r:=fun z=>by
    obtain⟨o,ho⟩:=d11.ref
    rw [z,ho] at hl8
    cases hl8
   have e12:=g12.s _ _ nl8 upd_same
   have k12:=(k11.trans (.s s8)).trans (.x g12.s)
   have tb12:=tabs_X g12.s (d11.same s8) (tb11.ext s8)
   have ebl12:=g12.s _ _ nbl (s8 _ _ ebl)
   have wh12:=(wh11.ik (IK.of s8)).ik ((KX.x g12.s).ik (d11.same s8))
   refine⟨_,_,rfl,rfl,l8,1+k1,_,rfl,rfl,e12,by omega,by omega,?_,fun ah hah => ?_⟩
   ·exact Nat.le_of_lt (small1000 (by show 1*(1+k1).toNat≤1000; omega))
   rw [rep_flat]
   have s13:=same_new hah (.lst (List.replicate (1+k1).toNat (V.ref wl)))
   exact nx _ _ ⟨ah,(1+k1).toNat,rfl,by omega,k12.trans (.s s13),g12.d.same s13,tb12.ext s13,s13 _ _ ebl12,wh12.ik (IK.of s13),upd_same⟩
  case rest =>
  rintro σ12 H12 ⟨ah,m,rfl,m30,k12,d12,tb12,ebl12,wh12,eah⟩
  clear k11 d11 tb11 ebl wh11
  refine⟨tb12,fun f5 c5 H5 e5 n5 tb5 hf5 l5 q5=>⟨(),f5,c5,.none,[],rfl,⟨l5,q5,.none⟩,⟨.wo n,fun E rf => ?_,fun H6 v6 s6 wo => ?_⟩⟩⟩
  ·have k5:=k12.trans (.e e5)
   have ebl5:=e5 _ _ ebl12 (fun _ z=>nomatch z)
   have eah5:=e5 _ _ eah (fun _ z=>nomatch z)
   have wh5:=wh12.ik (ikE e5)
   have hwl5:=k5 _ _ nwl hwl (fun _ z=>nomatch z)
   refine⟨_,rfl,_,rfl,_,rfl,_,rfl,_,rfl,_,rfl,wl,us,rfl,SqL.of hwl5,fun l7 hl7=>⟨by show 2≤sizeLine; decide,fun l8 hl8 => ?_⟩⟩
   have s7:=(same_new hl7 (.lst (cutV us none (some 0)))).trans (same_new hl8 (.lst [.ref bl,.ref l7]))
   refine⟨ah,l8,_,_,rfl,rfl,s7 _ _ eah5,upd_same,?_,fun ml hml => ?_⟩
   ·rw [List.length_replicate]
    exact Nat.le_of_lt (small1000 (by show m+2≤1000; omega))
   have s9:=s7.trans (same_new hml (.lst (List.replicate m (.ref wl)++[.ref bl,.ref l7])))
   have ik9:=(k5.trans (.s s9)).ik d2
   refine⟨pa,ml,(j:Int),fm,.wo n,rfl,pr.ik ik9,⟨j,_,_,rfl,hj,upd_same,fun q hq=>(face.lo q hq).2.2,l4,m,fun i9 v9 hi9 hv9 => ?_,bl,_,?_,s9 _ _ ebl5,?_,whAll_odd (wa.ik ik9) hdn (wh5.ik (IK.of s9))⟩,rf.same s9⟩
   ·rw [List.getElem?_append_left (by rw [List.length_replicate]; exact hi9),List.getElem?_replicate,if_pos hi9] at hv9
    cases hv9
    exact⟨wl,us,rfl,s9 _ _ hwl5,by omega,wa.ik ik9⟩
   ·rw [List.getElem?_append_right (by rw [List.length_replicate]; exact Nat.le_refl _),List.length_replicate,Nat.sub_self]
    rfl
   ·rw [List.length_append,List.length_append,List.length_take,List.length_drop]
    show min n us.length+1+(us.length - (n+1))≤100
    omega
  ·refine⟨_,rfl,by show 1≤sizeLine; decide,fun z hz=>⟨by show 2≤sizeLine; decide,fun t9 ht9 => ?_⟩⟩
   have s7:=same_new hz (.tup [.int (n:Int)])
   have e7:upd H6 z (.tup [.int (n:Int)]) z=some (.tup [.int (n:Int)]):=upd_same
   generalize upd H6 z (.tup [.int (n:Int)])=H7 at s7 e7 ht9 ⊢
   have s8:=same_new ht9 (.tup [.str "worth", .ref z])
   have s68:=s7.trans s8
   obtain⟨t6,rfl,du⟩:=wordDue wo s68
   have du2:DueIn (upd H7 t9 (.tup [.str "worth", .ref z])) t9 (.wo n):=⟨z,.inl upd_same,.inl (s8 _ _ e7)⟩
   refine⟨_,_,du.dp,du2.dp,due_shaped _,due_shaped _,_,rfl,?_⟩
   rw [due_eq]
   refine ite2 (fun z=>nomatch z) (fun _ => ?_)
   have s58:=s6.trans s68
   exact⟨_,_,_,_,_,_,_,_,_,_,_,rfl,(draw_ik d12 e5).same s58,tb5.ext s58⟩
 ·rintro σ H1 _
  exact q _
end
end NR
namespace NR
open PySem PySem.Spec PyProof.Rows L2
abbrev sLawLeaf:Stmt:=top 137
theorem scsLawLeaf:FnScope ["_law_row_here", "_law_depth", "_law_known", "_law_some", "_law_name"] ["_law_row_here", "_law_depth", "_law_known"] (defScope sLawLeaf):=⟨rfl,rfl,rfl,by decide +kernel,rfl,by decide +kernel,by decide +kernel⟩
section
variable {P:Program}{w:World}{K:PySem.W.Frag}{mg:Str→Option Value}{base:Heap}{f:Addr}{fd:FuncData}
theorem ok_leaf_step {n:Nat}{fs:List (List Nat×Nat)} (F:FnP K "_law_leaf" sLawLeaf f fd) (O_taken:Okf P w K mg base CX0 (n+1) "_law_taken" ["_law_row_here", "_law_many"] (spTaken K))
  (O_leaf:Okf P w K mg base CX0 (n+1) "_law_leaf" ["_law_row_here", "_law_depth", "_law_known"] (spLeaf K fs n)) (z_len:mg "len" = none) (z_sorted:mg "sorted" = none) :
  FnOk P w K mg base CX0 (n+2) f fd ["_law_row_here", "_law_depth", "_law_known"] (spLeaf K fs (n+1)):=by
 have sc:=scsLawLeaf
 refine F.ok sc (fun vs H Q E h => ?_) (fun cdv A outer s H vs Q E hr h => ?_)
 ·obtain⟨r,a,d,ρ,rfl,_⟩:=h
  rfl
 have hu:=hu_of hr
 obtain⟨r,kn,d,ρ,rfl,dr,kw,hd,h3,q⟩:=h
 obtain⟨l,ekn,ok⟩:=kw
 refine⟨_,(pss_cons (ps_set (i:=3) sc.nd rfl (.inl rfl) (pe_callB (cr_sortedK K) rfl z_sorted (by decide +kernel) (pa_cons (pe_lock (pe_lc (own:=[("_law_name", 4)]) (by rfl) sc.nd (pi_keys (pv 2)) (blkOk_by (own:=[("_law_name", 4)]) (N:=["_law_row_here", "_law_depth", "_law_known", "_law_some", "_law_name"]) (sc:=defScope sLawLeaf) (by decide +kernel)) (fun _ _ _ _ _=>(pg_name (i:=4) sc.nd rfl (.inl rfl))) (fun _ _ _ _ _=>(pts_one (pt_cmpR op_eq (pe_dget hu (pv 2) (pv 4) (fun _ _=>rfl)) (pv 1) (nomark _)))) (fun _ _ _ _ _=>(pv 4)))) pa_nil)))
  (pss_cons (ps_if (PW.pt (pw_and (pt_cmpR (op_neDK K hr.units) (pv 3) (pe_lst pa_nil) (nomark _)) (pw_and1 (pt_cmpR op_gt (pe_c O_taken hr rfl pass0 (pa_cons (pv 0) (pa_cons pe_int pa_nil))) pe_int (nomark _))))) (pss_one (ps_ret (pe_tup (pa_cons pe_str (pa_cons (pe_ix (ix_listK K) (pv 3) (pe_c O_taken hr rfl pass0 (pa_cons (pv 0) (pa_cons (pe_callB (call_lenK K) rfl z_len PySem.boot_len (pa_cons (pv 3) pa_nil)) pa_nil))) (fun _ _=>rfl)) pa_nil))))) pss_nil)
  (pss_cons (ps_if (pt_cmpR op_eq (pv 1) pe_int (nomark _)) (pss_one (ps_ret (pe_tup (pa_cons pe_str (pa_cons (pe_ix (ix_listK K) (pe_lst (pa_cons (pe_c O_taken hr rfl pass0 (pa_cons (pv 0) (pa_cons pe_int pa_nil))) (pa_cons (pe_c O_taken hr rfl pass0 (pa_cons (pv 0) (pa_cons pe_int pa_nil))) (pa_cons (pe_c O_taken hr rfl pass0 (pa_cons (pv 0) (pa_cons pe_int pa_nil))) pa_nil)))) (pe_c O_taken hr rfl pass0 (pa_cons (pv 0) (pa_cons pe_int pa_nil))) (fun _ _=>rfl)) pa_nil))))) pss_nil)
  (pss_cons (ps_if (PW.pt (pw_and (pt_cmpR op_eq (pv 1) pe_int (nomark _)) (pw_and1 (pt_cmpR op_eq (pe_c O_taken hr rfl pass0 (pa_cons (pv 0) (pa_cons pe_int pa_nil))) pe_int (nomark _))))) (pss_one (ps_ret (pe_tup (pa_cons pe_str (pa_cons (pe_tup (pa_cons pe_str (pa_cons (pe_c O_taken hr rfl pass0 (pa_cons (pv 0) (pa_cons pe_int pa_nil))) pa_nil))) pa_nil))))) pss_nil)
  (pss_one (ps_ret (pe_tup (pa_cons pe_str (pa_cons (pe_c O_leaf hr rfl pass0 (pa_cons (pv 0) (pa_cons (pe_op op_sub (pv 1) pe_int) (pa_cons (pv 2) pa_nil)))) pa_nil))))))))),?_⟩
 refine⟨kn,_,ekn,trivial,fun od=>⟨_,rfl,kn,od,rfl,.inl ⟨_,upd_same,fun D hD => ?_⟩⟩⟩
 have hDk:D≠kn:=fun z=>by
  rw [z,upd_same] at hD
  cases hD
 have hD0:H D=none:=by
  rw [upd_ne hDk] at hD
  exact hD
 refine lc_it walk_keys (fun i H'=>∃ ns:List Int,H'=upd (upd H kn (.frz od (.dK (l.map kvOf)))) D (.lst (ns.map V.int))∧ns.length≤i∧∀ x∈ns,(x,d)∈l) ⟨[],rfl,Nat.le_refl _,fun x hx=>by cases hx⟩ ?_ ?_ ?_
 ·rintro i H' hi ⟨ns,rfl,_⟩
  rw [upd_ne hDk.symm,upd_same]
 ·rintro i x H1 H2 hi ⟨ns,rfl,hl,hns⟩ ⟨rfl,k,v,hk,rfl⟩
  rw [List.length_map] at hi
  rw [List.getElem?_map,List.getElem?_eq_getElem hi] at hk
  have hk2:kvOf l[i]=(k,v):=Option.some.inj hk
  have hm:l[i]∈l:=List.getElem_mem hi
  cases hk2
  refine⟨rfl,?_⟩
  refine⟨_,rfl,_,rfl,kn,_,rfl,.inl ⟨_,Sum.inl l[i].1,.inr ⟨od,by rw [upd_ne hDk.symm,upd_same]⟩,rfl,(valV_kn (d:=l[i].2) ok.nd hm).symm⟩,_,rfl,rfl,_,rfl,?_⟩
  refine ite2 (fun c => ?_) (fun c => ?_)
  ·have c1:V.int (l[i].2:Int)=V.int (d:Int):=of_decide_eq_true c
   have c2:l[i].2=d:=by
    injection c1 with c1
    omega
   refine⟨_,rfl,_,upd_same,?_,ns++[l[i].1],?_,?_,?_⟩
   ·rw [List.length_map]
    have:=ok.few
    exact small1000 (by omega)
   ·rw [upd_upd,List.map_append]
    rfl
   ·rw [List.length_append]
    exact Nat.succ_le_succ hl
   ·intro x hx
    rcases List.mem_append.mp hx with hx | hx
    ·exact hns x hx
    ·rw [List.mem_singleton.mp hx,← c2]
     exact hm
  ·exact⟨ns,rfl,Nat.le_succ_of_le hl,hns⟩
 rintro H1 ⟨ns,rfl,hl,hns⟩
 rw [List.length_map] at hl
 refine⟨by rw [upd_ne hDk.symm,upd_same],?_⟩
 have hf:=ok.few
 generalize eH1:upd (upd (upd H kn (.frz od (.dK (l.map kvOf)))) D (.lst (ns.map V.int))) kn (.dK (l.map kvOf))=H1
 have s1:Same H H1:=fun b o hb=>by
  rw [← eH1]
  by_cases e:b=kn
  ·rw [e,upd_same,← ekn,← e]
   exact hb
  ·rw [upd_ne e,upd_ne (ne_of_none hb hD0),upd_ne e]
   exact hb
 have eD:H1 D=some (.lst (ns.map V.int)):=by
  rw [← eH1,upd_ne hDk,upd_same]
 refine⟨D,ns,rfl,SqL.of eD,by omega,fun ns' p pm _ hp => ?_⟩
 have s2:Same H (upd H1 p (.lst (ns'.map V.int))):=s1.trans (same_new hp _)
 have hmem:∀ x∈ns',(x,d)∈l:=fun x hx=>hns x (pm.mem_iff.mp hx)
 have hlen:ns'.length≤20:=by
  rw [pm.length_eq]
  omega
 have kn2:Known (upd H1 p (.lst (ns'.map V.int))) kn ρ:=⟨l,s2 _ _ ekn,ok⟩
 have ep:upd H1 p (.lst (ns'.map V.int)) p=some (.lst (ns'.map V.int)):=upd_same
 generalize upd H1 p (.lst (ns'.map V.int))=H2 at s2 kn2 ep ⊢
 have d2:Draw K r H2:=dr.same s2
 have g2:Drawn K r H H2:=dr.drawn s2
 dsimp only [gName]
 refine if_rest (fun H3=>Drawn K r H2 H3) (fun H3 g3 => ?_) (fun rest => ?_)
 ·have d3:=g3.d
  have kn3:=g3.known d2 kn2
  have g3':=g2.trans g3
  refine⟨_,rfl,rfl,_,rfl,?_⟩
  refine ite2 (fun c => ?_) (fun c => ?_)
  ·have c1:V.int (d:Int)=V.int 0:=of_decide_eq_true c
   have c2:d=0:=by
    injection c1 with c1
    omega
   subst c2
   refine⟨_,rfl,r,4,rfl,d3,by decide,by decide,fun k1 H4 a1 b1 g4=>⟨_,rfl,r,4,rfl,g4.d,by decide,by decide,fun k2 H5 a2 b2 g5=>⟨_,rfl,r,10007,rfl,g5.d,by decide,by decide,fun k3 H6 a3 b3 g6 => ?_⟩⟩⟩
   refine⟨by show 3≤sizeLine; decide,fun t ht=>⟨_,rfl,r,3,rfl,(Drawn.new g6.d ht).d,by decide,by decide,fun k4 H7 a4 b4 g7 => ?_⟩⟩
   have gt:=Drawn.new (o:=.lst [.int k1,.int k2,.int k3]) g6.d ht
   have et:H7 t=some (.lst [.int k1,.int k2,.int k3]):=by
    obtain⟨o,ho⟩:=g6.d.ref
    exact g7.s _ _ (fun z=>by
     rw [z,ho] at ht
     cases ht) upd_same
   have hv:∃ n:Int,atI [V.int k1,V.int k2,V.int k3] k4=some (.int n)∧0≤n∧n≤10006:=by
    have hk:k4=0∨k4=1∨k4=2:=by omega
    rcases hk with rfl | rfl | rfl
    ·exact⟨k1,rfl,a1,by omega⟩
    ·exact⟨k2,rfl,a2,by omega⟩
    ·exact⟨k3,rfl,a3,by omega⟩
   obtain⟨n,hn,n0,n1⟩:=hv
   refine⟨t,_,_,_,rfl,rfl,SqL.of et,hn,by show 2≤sizeLine; decide,fun p2 hp2 => ?_⟩
   refine q _ _ (.node .num n []) (((((g3'.trans g4).trans g5).trans g6).trans (gt.trans g7)).trans (Drawn.new g7.d hp2)) (.leaf rfl upd_same) (.num n0 n1) ?_ ?_
   ·simp [Ex.hgt,hgts]
   ·simp [Ex.size,sizes]
  ·have c2:d≠0:=fun z=>c (decide_eq_true (by rw [z]; rfl))
   obtain⟨e,rfl⟩:∃ e,d=e+1:=⟨d - 1,by omega⟩
   dsimp only [tNext]
   refine if_rest (fun H4=>Drawn K r H3 H4) (fun H4 g4 => ?_) (fun rest2 => ?_)
   ·refine⟨_,rfl,_,rfl,_,_,rfl,rfl,_,rfl,r,kn,e,ρ,by show [V.ref r,V.int (((e+1:Nat):Int) - 1),V.ref kn]=_; rw [show (((e+1:Nat):Int) - 1)=(e:Int) by omega],g4.d,g4.known d3 kn3,by omega,by omega,fun v H5 x g5 ti ty hh hz => ?_⟩
    refine⟨by show 2≤sizeLine; decide,fun p2 hp2 => ?_⟩
    refine q _ _ (.node .one (-1) [x]) (((g3'.trans g4).trans g5).trans (Drawn.new g5.d hp2)) (.bare rfl upd_same (.cons (ti.mono (TK.of (same_new hp2 _))) .nil)) (.one ty (by omega)) ?_ ?_
    ·simp only [Ex.hgt,hgts]
     omega
    ·simp only [Ex.size,sizes]
     omega
   ·refine⟨_,rfl,rfl,_,rfl,?_⟩
    refine ite2 (fun c => ?_) (fun c => ?_)
    ·have c1:V.int ((e+1:Nat):Int)=V.int 1:=of_decide_eq_true c
     have c2:e=0:=by
      injection c1 with c1
      omega
     subst c2
     refine⟨_,rfl,r,2,rfl,d3,by decide,by decide,fun k1 H4 a1 b1 g4=>⟨rfl,_,rfl,?_⟩⟩
     refine ite2 (fun c => ?_) (fun c=>rest2 H4 g4)
     refine⟨_,rfl,r,5,rfl,g4.d,by decide,by decide,fun k2 H5 a2 b2 g5=>⟨by show 2≤sizeLine; decide,fun p2 hp2=>⟨by show 2≤sizeLine; decide,fun p3 hp3 => ?_⟩⟩⟩
     have g6:=Drawn.new (o:=.tup [.str "num", .int k2]) g5.d hp2
     refine q _ _ (.node .upto (-1) [.node .num k2 []]) ((((g3'.trans g4).trans g5).trans g6).trans (Drawn.new g6.d hp3)) (.bare rfl upd_same (.cons (.leaf rfl ((same_new hp3 _) _ _ upd_same)) .nil)) (.upto (.num a2 (by omega))) ?_ ?_
     ·simp [Ex.hgt,hgts]
     ·simp [Ex.size,sizes]
    ·exact ite2 (fun z=>nomatch z) (fun _=>rest2 H3 (.refl d3))
 ·refine⟨_,rfl,by show 0≤sizeLine; decide,fun e0 he0=>⟨.list (ns'.map PyData.int),.list [],.lst (SqL.of (same_new he0 _ _ _ ep)) (dpInts ns'),.lst (SqL.of upd_same) .nil,?_,rfl,_,rfl,?_⟩⟩
  ·exact shapedInts ns'
  cases ns' with
  | nil =>
   refine ite2 (fun c => ?_) (fun c => ?_)
   ·exact absurd c (by decide)
   ·exact ite2 (fun z=>nomatch z) (fun _=>rest _ (Drawn.new d2 he0))
  | cons y ys =>
   have g3:=Drawn.new (o:=.lst []) d2 he0
   refine ite2 (fun c => ?_) (fun c => ?_)
   ·refine⟨_,rfl,r,5,rfl,g3.d,by decide,by decide,fun k1 H4 a1 b1 g4=>⟨_,_,rfl,rfl,_,rfl,?_⟩⟩
    refine ite2 (fun c => ?_) (fun c=>rest H4 (g3.trans g4))
    obtain⟨rp,rx,rl,rr,_⟩:=d2.ex
    have np:p≠r.r:=ne_of ep rr (by intro z; cases z)
    have ep4:H4 p=some (.lst ((y::ys).map V.int)):=g4.s _ _ np (g3.s _ _ np ep)
    have hl0:((y::ys).map V.int).length=ys.length+1:=by simp
    refine⟨_,rfl,_,rfl,_,rfl,p,_,rfl,.inl (SqL.of ep4),r,_,rfl,g4.d,by rw [hl0]; omega,by rw [hl0]; simp only [List.length_cons] at hlen; omega,fun k2 H5 a2 b2 g5 => ?_⟩
    rw [hl0] at b2
    have ep5:H5 p=some (.lst ((y::ys).map V.int)):=g5.s _ _ np ep4
    have hk:k2.toNat < (y::ys).length:=by
     simp only [List.length_cons]
     omega
    have ev:atI ((y::ys).map V.int) k2=some (.int (y::ys)[k2.toNat]):=by
     have ek:k2=((k2.toNat:Nat):Int):=by omega
     have:=atI_nat (xs:=(y::ys).map V.int) (j:=k2.toNat) (v:=.int (y::ys)[k2.toNat]) (by rw [List.getElem?_map,List.getElem?_eq_getElem hk]; rfl)
     rw [← ek] at this
     exact this
    have hm:((y::ys)[k2.toNat],d)∈l:=hmem _ (List.getElem_mem hk)
    have lo:=ok.lo _ hm
    refine⟨p,_,_,_,rfl,rfl,SqL.of ep5,ev,by show 2≤sizeLine; decide,fun p2 hp2 => ?_⟩
    refine q _ _ (.node .name (y::ys)[k2.toNat] []) (((g2.trans g3).trans g4).trans (g5.trans (Drawn.new g5.d hp2))) (.leaf rfl upd_same) (.name lo.1 lo.2.1 (ok.ok _ hm) h3) ?_ ?_
    ·simp only [Ex.hgt,hgts]
     omega
    ·simp only [Ex.size,sizes]
     omega
   ·exact ite2 (fun z=>nomatch z) (fun _=>rest _ g3)
end
abbrev sLawBound:Stmt:=top 139
theorem scsLawBound:FnScope ["_law_row_here", "_law_m", "_law_word_here", "_law_depth", "_law_deep", "_law_known", "_law_told", "_law_first", "_law_name", "_law_inner"] ["_law_row_here", "_law_m", "_law_word_here", "_law_depth", "_law_deep", "_law_known", "_law_told"] (defScope sLawBound):=⟨rfl,rfl,rfl,by decide +kernel,rfl,by decide +kernel,by decide +kernel⟩
section
variable {P:Program}{w:World}{K:PySem.W.Frag}{mg:Str→Option Value}{base:Heap}{f:Addr}{fd:FuncData}
theorem ok_bound {n k:Nat}{fs:List (List Nat×Nat)} {own:Nat}(F:FnP K "_law_bound" sLawBound f fd) (hk:1≤k) (O_taken:Okf P w K mg base CX0 k "_law_taken" ["_law_row_here", "_law_many"] (spTaken K))
  (O_tree:Okf P w K mg base CX0 k "_law_tree" ["_law_row_here", "_law_m", "_law_depth", "_law_deep", "_law_known"] (spTree K fs own n)) (z_dict:mg "dict" = none) (z_int:mg "int" = none) :
  FnOk P w K mg base CX0 (k+1) f fd ["_law_row_here", "_law_m", "_law_word_here", "_law_depth", "_law_deep", "_law_known", "_law_told"] (spBound K fs own (n+1)):=by
 have sc:=scsLawBound
 refine F.ok sc (fun vs H Q E h => ?_) (fun cdv A outer s H vs Q E hr h => ?_)
 ·obtain⟨r,m,a,w,d,t,deep,ρ,rfl,_⟩:=h
  rfl
 have hu:=hu_of hr
 obtain⟨r,m,a,wd,d,t,deep,ρ,rfl,hw,dr,G,kw,hd,ht,ho,h1,h2,q⟩:=h
 refine⟨_,(pss_cons (ps_set (i:=7) sc.nd rfl (.inl rfl) (pe_c O_tree hr rfl pass0 (pa_cons (pv 0) (pa_cons (pv 1) (pa_cons (pv 3) (pa_cons (pe_op op_sub (pv 4) pe_int) (pa_cons (pv 5) pa_nil)))))))
  (pss_cons (ps_set (i:=8) sc.nd rfl (.inl rfl) (pe_c O_taken hr rfl pass0 (pa_cons (pv 0) (pa_cons pe_int pa_nil))))
  (pss_cons (ps_set (i:=9) sc.nd rfl (.inl rfl) (pe_callTy call_dictD rfl z_dict (by decide +kernel) (pa_cons (pv 5) pa_nil)))
  (pss_cons (ps_dput hu (pv 9) (pv 8) (pe_op op_sub (pv 3) (pe_callTy call_int1 rfl z_int (by decide +kernel) (pa_cons (pe_cmpR op_ne (pv 2) pe_str (nomark _)) pa_nil))) rfl)
  (pss_one (ps_ret (pe_tup (pa_cons (pv 2) (pa_cons (pv 8) (pa_cons (pv 7) (pa_cons (pe_c O_tree hr rfl pass0 (pa_cons (pv 0) (pa_cons (pv 1) (pa_cons (pv 6) (pa_cons (pe_op op_sub (pv 4) pe_int) (pa_cons (pv 9) pa_nil)))))) pa_nil))))))))))),?_⟩
 refine⟨_,rfl,_,rfl,_,rfl,_,rfl,_,_,rfl,rfl,_,rfl,r,m,a,d,deep - 1,ρ,rfl,dr,G,kw,hd,by omega,fun v1 H1 e1 g1 ti1 ty1 hh1 => ?_⟩
 have kw1:=g1.known dr kw
 have G1:=g1.gen dr G
 refine⟨_,rfl,r,20,rfl,g1.d,by decide,by decide,fun x H2 x0 x1 g2 => ?_⟩
 obtain⟨l,el,ok⟩:=g2.known g1.d kw1
 refine⟨_,rfl,a,_,rfl,.inl el,fun p hp => ?_⟩
 have g3:=Drawn.new (o:=.dK (l.map kvOf)) g2.d hp
 obtain⟨l',el',ok'⟩:=putK_kn (x:=x) (d:=d - wd.off) ok x0 (by omega) (by omega)
 have hv:((d:Int) - (if (!decide (V.str wd.str=V.str "let"))=true then 1 else 0))=((d - wd.off:Nat):Int):=by
  have hx:(if (!decide (V.str wd.str=V.str "let"))=true then (1:Int) else 0)=(wd.off:Int):=by
   revert hw
   cases wd <;> intro hw <;> first | (cases hw; done) | rfl | decide
  rw [hx]
  omega
 refine⟨_,rfl,_,rfl,rfl,.inr ⟨_,rfl,_,_,rfl,rfl,_,rfl,_,rfl,p,_,rfl,DPut.k (k:=Sum.inl x) upd_same ?_,?_⟩⟩
 ·rw [List.length_map]
  have:=ok.few
  exact small1000 (by omega)
 rw [upd_upd]
 have e1':putK (l.map kvOf) (Sum.inl x) (V.int ((d:Int) - (if (!decide (V.str wd.str=V.str "let"))=true then 1 else 0)))=l'.map kvOf:=by
  rw [hv]
  exact el'
 dsimp only
 rw [e1']
 have g4:=Drawn.new (o:=.dK (l'.map kvOf)) g2.d hp
 have kw4:Known (upd H2 p (.dK (l'.map kvOf))) p (ups ρ x (d - wd.off)):=⟨l',upd_same,ok'⟩
 have G4:=g4.gen g2.d (g2.gen g1.d G1)
 refine⟨_,rfl,_,rfl,_,rfl,_,rfl,_,rfl,_,rfl,_,rfl,_,_,rfl,rfl,_,rfl,r,m,p,t,deep - 1,_,rfl,g4.d,G4,kw4,ht,by omega,fun v2 H5 e2 g5 ti2 ty2 hh2 => ?_⟩
 refine⟨by show 4≤sizeLine; decide,fun p2 hp2 => ?_⟩
 have tk1:=(g2.tk g1.d).trans ((g4.tk g2.d).trans ((g5.tk g4.d).trans (TK.of (same_new hp2 (.tup [.str wd.str,.int x,v1,v2])))))
 exact q _ _ x e1 e2 ((g1.trans g2).trans ((g4.trans g5).trans (Drawn.new g5.d hp2))) (.bind hw upd_same (.cons (ti1.mono tk1) (.cons (ti2.mono (TK.of (same_new hp2 _))) .nil))) x0 (by omega) ty1 ty2 (hgt2 hh1 hh2)
end
abbrev sLawAny:Stmt:=top 140
theorem scsLawAny:FnScope ["_law_row_here", "_law_m", "_law_depth", "_law_deep", "_law_known", "_law_way", "_law_first", "_law_calls", "_law_which", "_law_k", "_law_one"] ["_law_row_here", "_law_m", "_law_depth", "_law_deep", "_law_known"] (defScope sLawAny):=⟨rfl,rfl,rfl,by decide +kernel,rfl,by decide +kernel,by decide +kernel⟩
section
variable {P:Program}{w:World}{K:PySem.W.Frag}{mg:Str→Option Value}{base:Heap}{f:Addr}{fd:FuncData}
theorem ok_any {n k:Nat}{fs:List (List Nat×Nat)} {own:Nat}(F:FnP K "_law_any" sLawAny f fd) (O_taken:Okf P w K mg base CX0 k "_law_taken" ["_law_row_here", "_law_many"] (spTaken K))
  (O_tree:Okf P w K mg base CX0 k "_law_tree" ["_law_row_here", "_law_m", "_law_depth", "_law_deep", "_law_known"] (spTree K fs own n))
  (O_bound:Okf P w K mg base CX0 k "_law_bound" ["_law_row_here", "_law_m", "_law_word_here", "_law_depth", "_law_deep", "_law_known", "_law_told"] (spBound K fs own (n+1)))
  (O_leaf:Okf P w K mg base CX0 k "_law_leaf" ["_law_row_here", "_law_depth", "_law_known"] (spLeaf K (fs.take own) 4))
  (z_len:mg "len" = none) (z_range:mg "range" = none) (z_tuple:mg "tuple" = none) :
  FnOk P w K mg base CX0 (k+1) f fd ["_law_row_here", "_law_m", "_law_depth", "_law_deep", "_law_known"] (spAny K fs own (n+1)):=by
 have sc:=scsLawAny
 refine F.ok sc (fun vs H Q E h => ?_) (fun cdv A outer s H vs Q E hr h => ?_)
 ·obtain⟨r,m,a,d,deep,ρ,rfl,_⟩:=h
  rfl
 have hu:=hu_of hr
 obtain⟨r,m,a,d,deep,ρ,rfl,dr,G,kw,hd,h1,h2,q⟩:=h
 refine⟨_,(pss_cons (ps_set (i:=5) sc.nd rfl (.inl rfl) (pe_c O_taken hr rfl pass0 (pa_cons (pv 0) (pa_cons pe_int pa_nil))))
  (pss_cons (ps_if (pt_cmpR op_lt (pv 5) pe_int (nomark _)) (pss_cons (ps_set (i:=6) sc.nd rfl (.inl rfl) (pe_c O_tree hr rfl pass0 (pa_cons (pv 0) (pa_cons (pv 1) (pa_cons pe_int (pa_cons (pe_op op_sub (pv 3) pe_int) (pa_cons (pv 4) pa_nil)))))))
  (pss_one (ps_ret (pe_tup (pa_cons pe_str (pa_cons (pv 6) (pa_cons (pe_c O_tree hr rfl pass0 (pa_cons (pv 0) (pa_cons (pv 1) (pa_cons (pv 2) (pa_cons (pe_op op_sub (pv 3) pe_int) (pa_cons (pv 4) pa_nil)))))) (pa_cons (pe_c O_tree hr rfl pass0 (pa_cons (pv 0) (pa_cons (pv 1) (pa_cons (pv 2) (pa_cons (pe_op op_sub (pv 3) pe_int) (pa_cons (pv 4) pa_nil)))))) pa_nil)))))))) pss_nil)
  (pss_cons (ps_if (pt_cmpR op_lt (pv 5) pe_int (nomark _)) (pss_one (ps_ret (pe_c O_bound hr rfl pass0 (pa_cons (pv 0) (pa_cons (pv 1) (pa_cons pe_str (pa_cons (pe_c O_taken hr rfl pass0 (pa_cons (pv 0) (pa_cons pe_int pa_nil))) (pa_cons (pv 3) (pa_cons (pv 4) (pa_cons (pv 2) pa_nil)))))))))) pss_nil)
  (pss_cons (ps_if (PW.pt (pw_and (pt_cmpR op_lt (pv 5) pe_int (nomark _)) (pw_and1 (pt_cmpR op_lt (pv 2) pe_int (nomark _))))) (pss_cons (ps_set (i:=6) sc.nd rfl (.inl rfl) (pe_c O_tree hr rfl pass0 (pa_cons (pv 0) (pa_cons (pv 1) (pa_cons (pe_op op_add (pv 2) pe_int) (pa_cons (pe_op op_sub (pv 3) pe_int) (pa_cons (pv 4) pa_nil)))))))
  (pss_one (ps_ret (pe_tup (pa_cons pe_str (pa_cons (pv 6) (pa_cons (pe_c O_tree hr rfl pass0 (pa_cons (pv 0) (pa_cons (pv 1) (pa_cons pe_int (pa_cons (pe_op op_sub (pv 3) pe_int) (pa_cons (pv 4) pa_nil)))))) pa_nil))))))) pss_nil)
  (pss_cons (ps_setLc (i:=7) (own:=[("_law_k", 9)]) (by rfl) sc.nd rfl rfl (sw_true rfl rfl rfl (by decide +kernel)) (pi_range1 rfl z_range (pa_cons (pe_callB (call_lenK K) rfl z_len PySem.boot_len (pa_cons (pe_dget hu (pv 1) pe_str (fun _ _=>rfl)) pa_nil)) pa_nil)) (blkOk_by (own:=[("_law_k", 9)]) (N:=["_law_row_here", "_law_m", "_law_depth", "_law_deep", "_law_known", "_law_way", "_law_first", "_law_calls", "_law_which", "_law_k", "_law_one"]) (sc:=defScope sLawAny) (by decide +kernel)) (fun _ _ _ _ _=>(pg_name (i:=9) sc.nd rfl (.inl rfl))) (fun _ _ _ _ _=>(pts_one (PW.pt (pw_and (pt_cmpR op_eq (pe_ix (ix_tupK K) (pe_ix (ix_listK K) (pe_dget hu (pv 1) pe_str (fun _ _=>rfl)) (pv 9) (fun _ _=>rfl)) pe_int (fun _ _=>rfl)) (pv 2) (nomark _)) (pw_and1 (PW.pt (pw_or (pt_cmpR op_ne (pv 9) (pe_dget hu (pv 1) pe_str (fun _ _=>rfl)) (nomark _)) (pw_or1 (pt_cmpR op_gt (pe_dget hu (pv 1) pe_str (fun _ _=>rfl)) pe_int (nomark _)))))))))) (fun _ _ _ _ _=>(pv 9)))
  (pss_cons (ps_if (pt_cmpR (op_eqDK K hr.units) (pv 7) (pe_lst pa_nil) (nomark _)) (pss_one (ps_ret (pe_c O_leaf hr rfl pass0 (pa_cons (pv 0) (pa_cons (pv 2) (pa_cons (pv 4) pa_nil)))))) pss_nil)
  (pss_cons (ps_set (i:=8) sc.nd rfl (.inl rfl) (pe_ix (ix_listK K) (pv 7) (pe_c O_taken hr rfl pass0 (pa_cons (pv 0) (pa_cons (pe_callB (call_lenK K) rfl z_len PySem.boot_len (pa_cons (pv 7) pa_nil)) pa_nil))) (fun _ _=>rfl)))
  (pss_cons (ps_if (pt_cmpR op_eq (pv 8) (pe_dget hu (pv 1) pe_str (fun _ _=>rfl)) (nomark _)) (pss_one (ps_dput hu (pv 1) pe_str pe_int rfl)) pss_nil)
  (pss_one (ps_ret (pe_tup (pa_cons pe_str (pa_cons (pv 8) (pa_cons (pe_callTy (call_tupleK K) rfl z_tuple (by decide +kernel) (pa_cons (pe_lc (own:=[("_law_one", 10)]) (by rfl) sc.nd (pi_tupK K (pe_ix (ix_tupK K) (pe_ix (ix_listK K) (pe_dget hu (pv 1) pe_str (fun _ _=>rfl)) (pv 8) (fun _ _=>rfl)) pe_int (fun _ _=>rfl))) (blkOk_by (own:=[("_law_one", 10)]) (N:=["_law_row_here", "_law_m", "_law_depth", "_law_deep", "_law_known", "_law_way", "_law_first", "_law_calls", "_law_which", "_law_k", "_law_one"]) (sc:=defScope sLawAny) (by decide +kernel)) (fun _ _ _ _ _=>(pg_name (i:=10) sc.nd rfl (.inl rfl))) (fun _ _ _ _ _=>pts_nil) (fun _ _ _ _ _=>(pe_c O_tree hr rfl pass0 (pa_cons (pv 0) (pa_cons (pv 1) (pa_cons (pv 10) (pa_cons (pe_op op_sub (pv 3) pe_int) (pa_cons (pv 4) pa_nil)))))))) pa_nil)) pa_nil)))))))))))))),?_⟩
 refine⟨_,rfl,r,8,rfl,dr,by decide,by decide,fun k0 H1 k0a k0b g1 => ?_⟩
 have d1:=g1.d
 have G1:=g1.gen dr G
 have kw1:=g1.known dr kw
 refine⟨_,rfl,_,_,rfl,rfl,_,rfl,ite2 (fun c => ?_) (fun c => ?_)⟩
 ·
  refine⟨_,rfl,_,rfl,_,rfl,_,_,rfl,rfl,_,rfl,r,m,a,0,deep - 1,ρ,rfl,d1,G1,kw1,by omega,by omega,fun v1 H2 e1 g2 ti1 ty1 hh1 => ?_⟩
  have G2:=g2.gen d1 G1
  have kw2:=g2.known d1 kw1
  refine⟨_,rfl,_,rfl,_,rfl,_,rfl,_,rfl,_,_,rfl,rfl,_,rfl,r,m,a,d,deep - 1,ρ,rfl,g2.d,G2,kw2,hd,by omega,fun v2 H3 e2 g3 ti2 ty2 hh2 => ?_⟩
  have G3:=g3.gen g2.d G2
  have kw3:=g3.known g2.d kw2
  refine⟨_,rfl,_,rfl,_,rfl,_,rfl,_,_,rfl,rfl,_,rfl,r,m,a,d,deep - 1,ρ,rfl,g3.d,G3,kw3,hd,by omega,fun v3 H4 e3 g4 ti3 ty3 hh3 => ?_⟩
  refine⟨by show 4≤sizeLine; decide,fun p2 hp2 => ?_⟩
  have t5:=TK.of (same_new hp2 (.tup [.str "if", v1,v2,v3]))
  have t4:=(g4.tk g3.d).trans t5
  have t3:=(g3.tk g2.d).trans t4
  exact q _ _ (.node .ite (-1) [e1,e2,e3]) ((g1.trans g2).trans ((g3.trans g4).trans (Drawn.new g4.d hp2))) (.bare rfl upd_same (.cons (ti1.mono t3) (.cons (ti2.mono t4) (.cons (ti3.mono t5) .nil)))) (.ite ty1 ty2 ty3) (hgt3 hh1 hh2 hh3)
 refine⟨_,rfl,_,_,rfl,rfl,_,rfl,ite2 (fun c => ?_) (fun c => ?_)⟩
 ·
  refine⟨_,rfl,_,rfl,_,rfl,r,4,rfl,d1,by decide,by decide,fun k1 H2 k1a k1b g2 => ?_⟩
  obtain⟨c1,rfl⟩:∃ c1:Nat,k1=(c1:Int):=⟨k1.toNat,by omega⟩
  refine⟨_,rfl,_,rfl,_,rfl,r,m,a,.elet,c1,d,deep,ρ,rfl,rfl,g2.d,g2.gen d1 G1,g2.known d1 kw1,by omega,hd,Nat.zero_le _,h1,h2,fun v H3 x e1 e2 g3 ti x0 x1 ty1 ty2 hh => ?_⟩
  exact q _ _ _ ((g1.trans g2).trans g3) ti (.elet x0 x1 ty1 ty2) hh
 dsimp only [tNext]
 refine if_rest (fun H2=>H2=H1) (fun H2 e2 => ?_) (fun rest => ?_)
 ·subst e2
  obtain⟨fl,xs,em,efl,fi,nfl⟩:=G1.ex
  have lenx:xs.length=own+1:=by rw [fi.len,G1.len]
  have hf5:=G1.few
  refine⟨_,rfl,m,_,rfl,dget em val_faces,fl,xs,rfl,.inl (SqL.of efl),_,rfl,by omega,by omega,fun D hD => ?_⟩
  have hDm:D≠m:=(ne_of_none em hD).symm
  have hDf:D≠fl:=(ne_of_none efl hD).symm
  refine lc_range (lo:=0) (n:=xs.length) (fun i H'=>∃ ks:List Nat,H'=upd H2 D (.lst (ks.map dV))∧ks.length≤i∧∀ k∈ks,k < own∧∃ ds,fs[k]? = some (ds,d)) ⟨[],rfl,Nat.le_refl _,fun x hx=>by cases hx⟩ ?_ ?_
  ·rintro i H' hi ⟨ks,rfl,hl,hks⟩
   obtain⟨⟨ds,d'⟩,hfs⟩:∃ p,fs[i]? = some p:=⟨fs[i]'(by rw [← fi.len]; exact hi),List.getElem?_eq_getElem _⟩
   obtain⟨fa,fb,hx,ea,eb⟩:=fi.get i hfs
   have em':upd H2 D (.lst (ks.map dV)) m=some _:=(upd_ne hDm.symm).trans em
   have efl':upd H2 D (.lst (ks.map dV)) fl=some _:=(upd_ne hDf.symm).trans efl
   have ea':upd H2 D (.lst (ks.map dV)) fa=some _:=(upd_ne (ne_of_none ea hD)).trans ea
   have hat:atI xs (0+(i:Int))=some (.ref fa):=by
    rw [Int.zero_add]
    exact atI_nat hx
   refine⟨rfl,?_⟩
   refine⟨_,rfl,m,_,rfl,dget em' val_faces,_,rfl,fl,xs,_,_,rfl,rfl,SqL.of efl',hat,fa,_,_,_,rfl,rfl,SqT.of ea',rfl,_,rfl,rfl,_,rfl,?_⟩
   refine ite2 (fun c => ?_) (fun c => ?_)
   ·have c1:V.int (d':Int)=V.int (d:Int):=of_decide_eq_true c
    have c2:d'=d:=by
     injection c1 with c1
     omega
    subst c2
    refine⟨_,rfl,_,rfl,m,_,rfl,dget em' val_own,rfl,_,rfl,?_⟩
    refine ite2 (fun c => ?_) (fun c => ?_)
    ·have c4:¬ (V.int (0+(i:Int))=V.int (own:Int)):=by simpa using c
     have c5:i < own:=by
      have:i≠own:=fun z=>c4 (by rw [z,Int.zero_add])
      omega
     refine ite2 (fun _ => ?_) (fun z=>absurd rfl z)
     refine⟨_,rfl,_,upd_same,?_,ks++[i],?_,?_,?_⟩
     ·rw [List.length_map]
      exact small1000 (by omega)
     ·rw [upd_upd,List.map_append,Int.zero_add]
      rfl
     ·rw [List.length_append]
      exact Nat.succ_le_succ hl
     ·intro x hx
      rcases List.mem_append.mp hx with hx | hx
      ·exact hks x hx
      ·rw [List.mem_singleton.mp hx]
       exact⟨c5,ds,hfs⟩
    ·refine⟨_,rfl,m,_,rfl,dget em' val_left,_,_,rfl,rfl,_,rfl,?_⟩
     exact ite2 (fun z=>absurd z (by decide)) (fun _=>⟨ks,rfl,Nat.le_succ_of_le hl,hks⟩)
   ·exact ite2 (fun z=>nomatch z) (fun _=>⟨ks,rfl,Nat.le_succ_of_le hl,hks⟩)
  rintro H3 ⟨ks,rfl,hl,hks⟩
  have s3:Same H2 (upd H2 D (.lst (ks.map dV))):=same_new hD _
  have eD:upd H2 D (.lst (ks.map dV)) D=some (.lst (ks.map dV)):=upd_same
  generalize upd H2 D (.lst (ks.map dV))=H3 at s3 eD ⊢
  have g3:Drawn K r H2 H3:=d1.drawn s3
  have G3:=g3.gen d1 G1
  have kw3:=g3.known d1 kw1
  refine⟨_,rfl,by show 0≤sizeLine; decide,fun e0 he0=>⟨.list ((ks.map fun (k:Nat)=>(k:Int)).map PyData.int),.list [],.lst (SqL.of (same_new he0 _ _ _ eD)) ?_,.lst (SqL.of upd_same) .nil,shapedInts _,rfl,_,rfl,?_⟩⟩
  ·have e:ks.map dV=(ks.map fun (k:Nat)=>(k:Int)).map V.int:=by
    rw [List.map_map]
    rfl
   rw [e]
   exact dpInts _
  have g4:=Drawn.new (o:=.lst []) g3.d he0
  have G4:=g4.gen g3.d G3
  have kw4:=g4.known g3.d kw3
  have nDr:D≠r.r:=by
   obtain⟨o,ho⟩:=d1.ref
   exact (ne_of_none ho hD).symm
  have eD4:=g4.s _ _ nDr eD
  generalize upd H3 e0 (.lst [])=H4 at g4 G4 kw4 eD4 ⊢
  cases ks with
  | nil =>
   refine ite2 (fun _ => ?_) (fun c=>absurd rfl c)
   refine⟨_,rfl,_,rfl,_,rfl,r,a,d,ρ,rfl,g4.d,kw4,by omega,hd,fun v H5 e g5 ti ty hh _ => ?_⟩
   exact q _ _ e (((g1.trans g3).trans g4).trans g5) ti ty (by omega)
  | cons y ys =>
   refine ite2 (fun c=>Bool.noConfusion (show false=true from c)) (fun _ => ?_)
   have hlen:((y::ys).map dV).length=ys.length+1:=by simp
   have hl2:ys.length+1≤6:=by
    have:=hl
    simp only [List.length_cons] at this
    omega
   refine⟨_,rfl,_,rfl,_,rfl,D,_,rfl,.inl (SqL.of eD4),r,_,rfl,g4.d,by rw [hlen]; omega,by rw [hlen]; omega,fun k2 H5 a2 b2 g5 => ?_⟩
   rw [hlen] at b2
   have eD5:=g5.s _ _ nDr eD4
   have hk:k2.toNat < (y::ys).length:=by
    simp only [List.length_cons]
    omega
   have ev:atI ((y::ys).map dV) k2=some (dV (y::ys)[k2.toNat]):=by
    have ek:k2=((k2.toNat:Nat):Int):=by omega
    have:=atI_nat (xs:=(y::ys).map dV) (j:=k2.toNat) (v:=dV (y::ys)[k2.toNat]) (by rw [List.getElem?_map,List.getElem?_eq_getElem hk]; rfl)
    rw [← ek] at this
    exact this
   obtain⟨hk1,ds,hfs⟩:=hks _ (List.getElem_mem hk)
   generalize (y::ys)[k2.toNat]=kk at ev hk1 hfs
   have G5:=g5.gen g4.d G4
   have kw5:=g5.known g4.d kw4
   have g25:Drawn K r H H5:=((g1.trans g3).trans g4).trans g5
   obtain⟨fl5,xs5,em5,efl5,fi5,nfl5⟩:=G5.ex
   obtain⟨fa,fb,hx,ea,eb⟩:=fi5.get kk hfs
   have lo:=G5.lo _ (List.mem_of_getElem? hfs)
   refine⟨D,_,_,_,rfl,rfl,SqL.of eD5,ev,?_⟩
   refine⟨_,rfl,_,rfl,m,_,rfl,dget em5 val_own,rfl,_,rfl,?_⟩
   refine ite2 (fun c => ?_) (fun _ => ?_)
   ·have c1:V.int (kk:Int)=V.int (own:Int):=of_decide_eq_true c
    injection c1 with c1
    omega
   refine⟨_,rfl,_,rfl,m,_,rfl,dget em5 val_faces,_,rfl,fl5,xs5,_,_,rfl,rfl,SqL.of efl5,atI_nat hx,fa,_,_,_,rfl,rfl,SqT.of ea,rfl,fb,rfl,⟨_,SqT.of eb⟩,fun D2 hD2 => ?_⟩
   have nD2r:D2≠r.r:=by
    obtain⟨o,ho⟩:=g5.d.ref
    exact (ne_of_none ho hD2).symm
   refine lc_tup (K:=K) (a:=fb) (xs:=ds.map dV) (fun i H'=>∃ vs es,H' D2=some (.lst vs)∧vs.length=i∧Drawn K r H5 H'∧TIns H' vs es∧Tys (fs.take own) ρ es (ds.take i)∧hgts es≤n+4) ⟨[],[],upd_same,rfl,Drawn.new g5.d hD2,.nil,.nil,Nat.zero_le _⟩ ?_ ?_ ?_
   ·rintro i H' hi ⟨vs,es,e1,e2,g6,_⟩
    exact SqT.of (g6.tk g5.d _ _ eb)
   ·rintro i x H' hx2 ⟨vs,es,e1,e2,g6,ti,ty,hh⟩
    have hi:i < ds.length:=by
     have:=(List.getElem?_eq_some_iff.mp hx2).1
     rw [List.length_map] at this
     exact this
    rw [List.getElem?_map,List.getElem?_eq_getElem hi] at hx2
    have hx3:x=dV ds[i]:=(Option.some.inj hx2).symm
    subst hx3
    refine⟨rfl,?_⟩
    dsimp only [tYes,gName]
    rw [if_pos rfl]
    refine⟨_,rfl,_,rfl,_,rfl,_,rfl,_,_,rfl,rfl,_,rfl,r,m,a,ds[i],deep - 2,ρ,rfl,g6.d,g6.gen g5.d G5,g6.known g5.d kw5,lo.2.2 _ (List.getElem_mem hi),by omega,fun v H7 e g7 ti2 ty2 hh2 => ?_⟩
    have eD7:=g7.s _ _ nD2r e1
    have tk8:TK H7 (upd H7 D2 (.lst (vs++[v]))):=TK.lst eD7
    refine⟨vs,eD7,?_,vs++[v],es++[e],upd_same,?_,?_,?_,?_,?_⟩
    ·rw [e2]
     have lo4:ds.length≤4:=lo.2.1
     exact small1000 (by omega)
    ·rw [List.length_append,e2]
     rfl
    ·exact (g6.trans g7).put g5.d hD2
    ·exact (ti.mono ((g7.tk g6.d).trans tk8)).snoc (ti2.mono tk8)
    ·rw [List.take_succ,List.getElem?_eq_getElem hi]
     exact ty.snoc ty2
    ·exact hgts_snoc hh hh2
   ·rintro H6 ⟨vs,es,e1,e2,g6,ti,ty,hh⟩
    rw [List.length_map] at e2 ty
    rw [List.take_length] at ty
    refine⟨D2,_,rfl,.inl ⟨SqL.of e1,fun l hl=>⟨by show 3≤sizeLine; decide,fun p2 hp2 => ?_⟩⟩⟩
    have g7:=Drawn.new (o:=.tup vs) g6.d hl
    have g8:=Drawn.new (o:=.tup [.str "call", dV kk,.ref l]) g7.d hp2
    have t8:=(g7.tk g6.d).trans (g8.tk g7.d)
    refine q _ _ (.node .call (kk:Int) es) ((g25.trans g6).trans (g7.trans g8)) (.call upd_same ((same_new hp2 _) _ _ upd_same) (ti.mono t8)) (.call (by omega) ?_ ty) ?_
    ·rw [List.getElem?_take,if_pos hk1]
     exact hfs
    ·simp only [Ex.hgt]
     omega
 ·refine⟨_,rfl,_,_,rfl,rfl,_,rfl,?_⟩
  refine ite2 (fun c => ?_) (fun c => ?_)
  ·refine⟨_,rfl,_,_,rfl,rfl,_,rfl,?_⟩
   refine ite2 (fun c => ?_) (fun c=>rest H1 rfl)
   have c1:(d:Int) < 3:=of_decide_eq_true c
   refine⟨_,rfl,_,rfl,_,rfl,_,_,rfl,rfl,_,rfl,_,_,rfl,rfl,_,rfl,r,m,a,d+1,deep - 1,ρ,rfl,d1,G1,kw1,by omega,by omega,fun v1 H2 e1 g2 ti1 ty1 hh1 => ?_⟩
   have G2:=g2.gen d1 G1
   have kw2:=g2.known d1 kw1
   refine⟨_,rfl,_,rfl,_,rfl,_,rfl,_,_,rfl,rfl,_,rfl,r,m,a,0,deep - 1,ρ,rfl,g2.d,G2,kw2,by omega,by omega,fun v2 H3 e2 g3 ti2 ty2 hh2 => ?_⟩
   refine⟨by show 3≤sizeLine; decide,fun p2 hp2 => ?_⟩
   have t4:=TK.of (same_new hp2 (.tup [.str "pick", v1,v2]))
   have t3:=(g3.tk g2.d).trans t4
   exact q _ _ (.node .pick (-1) [e1,e2]) ((g1.trans g2).trans (g3.trans (Drawn.new g3.d hp2))) (.bare rfl upd_same (.cons (ti1.mono t3) (.cons (ti2.mono t4) .nil))) (.pick ty1 ty2) (hgt2 hh1 hh2)
  ·exact ite2 (fun z=>nomatch z) (fun _=>rest H1 rfl)
end
abbrev sLawNumber:Stmt:=top 138
theorem scsLawNumber:FnScope ["_law_row_here", "_law_m", "_law_deep", "_law_known", "_law_way", "_law_word_here"] ["_law_row_here", "_law_m", "_law_deep", "_law_known"] (defScope sLawNumber):=⟨rfl,rfl,rfl,by decide +kernel,rfl,by decide +kernel,by decide +kernel⟩
section
variable {P:Program}{w:World}{K:PySem.W.Frag}{mg:Str→Option Value}{base:Heap}{f:Addr}{fd:FuncData}
theorem ok_number {n k:Nat}{fs:List (List Nat×Nat)} {own:Nat}(F:FnP K "_law_number" sLawNumber f fd) (O_taken:Okf P w K mg base CX0 k "_law_taken" ["_law_row_here", "_law_many"] (spTaken K))
  (O_tree:Okf P w K mg base CX0 k "_law_tree" ["_law_row_here", "_law_m", "_law_depth", "_law_deep", "_law_known"] (spTree K fs own n))
  (O_any:Okf P w K mg base CX0 k "_law_any" ["_law_row_here", "_law_m", "_law_depth", "_law_deep", "_law_known"] (spAny K fs own (n+1))) :
  FnOk P w K mg base CX0 (k+1) f fd ["_law_row_here", "_law_m", "_law_deep", "_law_known"] (spNumber K fs own (n+1)):=by
 have sc:=scsLawNumber
 refine F.ok sc (fun vs H Q E h => ?_) (fun cdv A outer s H vs Q E hr h => ?_)
 ·obtain⟨r,m,a,deep,ρ,rfl,_⟩:=h
  rfl
 obtain⟨r,m,a,deep,ρ,rfl,dr,G,kw,h1,h2,q⟩:=h
 refine⟨_,(pss_cons (ps_set (i:=4) sc.nd rfl (.inl rfl) (pe_c O_taken hr rfl pass0 (pa_cons (pv 0) (pa_cons pe_int pa_nil))))
  (pss_cons (ps_if (pt_cmpR op_lt (pv 4) pe_int (nomark _)) (pss_cons (ps_set (i:=5) sc.nd rfl (.inl rfl) (pe_ix (ix_listK K) (pe_lst (pa_cons pe_str (pa_cons pe_str (pa_cons pe_str (pa_cons pe_str (pa_cons pe_str pa_nil)))))) (pv 4) (fun _ _=>rfl)))
  (pss_one (ps_ret (pe_tup (pa_cons (pv 5) (pa_cons (pe_c O_tree hr rfl pass0 (pa_cons (pv 0) (pa_cons (pv 1) (pa_cons pe_int (pa_cons (pe_op op_sub (pv 2) pe_int) (pa_cons (pv 3) pa_nil)))))) (pa_cons (pe_c O_tree hr rfl pass0 (pa_cons (pv 0) (pa_cons (pv 1) (pa_cons pe_int (pa_cons (pe_op op_sub (pv 2) pe_int) (pa_cons (pv 3) pa_nil)))))) pa_nil))))))) pss_nil)
  (pss_cons (ps_if (pt_cmpR op_lt (pv 4) pe_int (nomark _)) (pss_one (ps_ret (pe_tup (pa_cons pe_str (pa_cons (pe_c O_tree hr rfl pass0 (pa_cons (pv 0) (pa_cons (pv 1) (pa_cons (pe_op op_add pe_int (pe_c O_taken hr rfl pass0 (pa_cons (pv 0) (pa_cons pe_int pa_nil)))) (pa_cons (pe_op op_sub (pv 2) pe_int) (pa_cons (pv 3) pa_nil)))))) pa_nil))))) pss_nil)
  (pss_cons (ps_if (pt_cmpR op_lt (pv 4) pe_int (nomark _)) (pss_one (ps_ret (pe_tup (pa_cons pe_str (pa_cons (pe_c O_tree hr rfl pass0 (pa_cons (pv 0) (pa_cons (pv 1) (pa_cons pe_int (pa_cons (pe_op op_sub (pv 2) pe_int) (pa_cons (pv 3) pa_nil)))))) pa_nil))))) pss_nil)
  (pss_one (ps_ret (pe_c O_any hr rfl pass0 (pa_cons (pv 0) (pa_cons (pv 1) (pa_cons pe_int (pa_cons (pv 2) (pa_cons (pv 3) pa_nil)))))))))))),?_⟩
 refine⟨_,rfl,r,12,rfl,dr,by decide,by decide,fun k0 H1 k0a k0b g1 => ?_⟩
 have d1:=g1.d
 have G1:=g1.gen dr G
 have kw1:=g1.known dr kw
 refine⟨_,rfl,_,_,rfl,rfl,_,rfl,ite2 (fun c => ?_) (fun c => ?_)⟩
 ·have c1:k0 < 5:=of_decide_eq_true c
  refine⟨by show 5≤sizeLine; decide,fun p hp => ?_⟩
  have g2:=Drawn.new (o:=.lst [.str "plus", .str "minus", .str "times", .str "less", .str "same"]) d1 hp
  have G2:=g2.gen d1 G1
  have kw2:=g2.known d1 kw1
  obtain⟨wd,hw,hat⟩:∃ wd:W,(wd=.plus∨wd=.minus∨wd=.times∨wd=.less∨wd=.same)∧atI [V.str "plus", V.str "minus", V.str "times", V.str "less", V.str "same"] k0=some (.str wd.str):=by
   have hk:k0=0∨k0=1∨k0=2∨k0=3∨k0=4:=by omega
   rcases hk with rfl | rfl | rfl | rfl | rfl
   ·exact⟨.plus,by simp,rfl⟩
   ·exact⟨.minus,by simp,rfl⟩
   ·exact⟨.times,by simp,rfl⟩
   ·exact⟨.less,by simp,rfl⟩
   ·exact⟨.same,by simp,rfl⟩
  have hl3:wd.lay=3:=by
   rcases hw with rfl | rfl | rfl | rfl | rfl <;> rfl
  refine⟨_,rfl,p,_,_,_,rfl,rfl,SqL.of upd_same,hat,?_⟩
  refine⟨_,rfl,_,rfl,_,rfl,_,rfl,_,_,rfl,rfl,_,rfl,r,m,a,0,deep - 1,ρ,rfl,g2.d,G2,kw2,by omega,by omega,fun v1 H3 e1 g3 ti1 ty1 hh1 => ?_⟩
  have G3:=g3.gen g2.d G2
  have kw3:=g3.known g2.d kw2
  refine⟨_,rfl,_,rfl,_,rfl,_,_,rfl,rfl,_,rfl,r,m,a,0,deep - 1,ρ,rfl,g3.d,G3,kw3,by omega,by omega,fun v2 H4 e2 g4 ti2 ty2 hh2 => ?_⟩
  refine⟨by show 3≤sizeLine; decide,fun p2 hp2 => ?_⟩
  have t5:=TK.of (same_new hp2 (.tup [.str wd.str,v1,v2]))
  have t4:=(g4.tk g3.d).trans t5
  exact q _ _ (.node wd (-1) [e1,e2]) ((g1.trans g2).trans ((g3.trans g4).trans (Drawn.new g4.d hp2))) (.bare hl3 upd_same (.cons (ti1.mono t4) (.cons (ti2.mono t5) .nil))) (.two hw ty1 ty2) (hgt2 hh1 hh2)
 refine⟨_,rfl,_,_,rfl,rfl,_,rfl,ite2 (fun c => ?_) (fun c => ?_)⟩
 ·refine⟨_,rfl,_,rfl,_,rfl,r,3,rfl,d1,by decide,by decide,fun k1 H2 k1a k1b g2 => ?_⟩
  obtain⟨c1,rfl⟩:∃ c1:Nat,k1=(c1:Int):=⟨k1.toNat,by omega⟩
  refine⟨_,_,rfl,rfl,_,rfl,_,_,rfl,rfl,_,rfl,r,m,a,c1+1,deep - 1,ρ,by show [V.ref r.r,V.ref m,V.int (1+(c1:Int)),V.int (deep - 1),V.ref a]=_; rw [show (1:Int)+(c1:Int)=((c1+1:Nat):Int) by omega],g2.d,g2.gen d1 G1,g2.known d1 kw1,by omega,by omega,fun v1 H3 e1 g3 ti1 ty1 hh1 => ?_⟩
  refine⟨by show 2≤sizeLine; decide,fun p2 hp2 => ?_⟩
  exact q _ _ (.node .len (-1) [e1]) ((g1.trans g2).trans (g3.trans (Drawn.new g3.d hp2))) (.bare rfl upd_same (.cons (ti1.mono (TK.of (same_new hp2 _))) .nil)) (.len ty1) (hgt1 hh1)
 refine⟨_,rfl,_,_,rfl,rfl,_,rfl,ite2 (fun c => ?_) (fun c => ?_)⟩
 ·refine⟨_,rfl,_,rfl,_,rfl,_,_,rfl,rfl,_,rfl,r,m,a,1,deep - 1,ρ,rfl,d1,G1,kw1,by omega,by omega,fun v1 H3 e1 g3 ti1 ty1 hh1 => ?_⟩
  refine⟨by show 2≤sizeLine; decide,fun p2 hp2 => ?_⟩
  exact q _ _ (.node .sum (-1) [e1]) (g1.trans (g3.trans (Drawn.new g3.d hp2))) (.bare rfl upd_same (.cons (ti1.mono (TK.of (same_new hp2 _))) .nil)) (.sum ty1) (hgt1 hh1)
 refine⟨_,rfl,_,rfl,_,rfl,_,rfl,r,m,a,0,deep,ρ,rfl,d1,G1,kw1,by omega,h1,h2,fun v H3 e g3 ti ty hh => ?_⟩
 exact q _ _ e (g1.trans g3) ti ty hh
end
abbrev sLawTree:Stmt:=top 141
theorem scsLawTree:FnScope ["_law_row_here", "_law_m", "_law_depth", "_law_deep", "_law_known", "_law_way", "_law_word_here"] ["_law_row_here", "_law_m", "_law_depth", "_law_deep", "_law_known"] (defScope sLawTree):=⟨rfl,rfl,rfl,by decide +kernel,rfl,by decide +kernel,by decide +kernel⟩
section
variable {P:Program}{w:World}{K:PySem.W.Frag}{mg:Str→Option Value}{base:Heap}{f:Addr}{fd:FuncData}
theorem ok_tree {n k:Nat}{spT:Sp}{fs:List (List Nat×Nat)} {own:Nat}(F:FnP K "_law_tree" sLawTree f fd) (O_taken:Okf P w K mg base CX0 k "_law_taken" ["_law_row_here", "_law_many"] (spTaken K))
  (hT:1≤n→spT=spTree K fs own (n - 1)) (O_tree:Okf P w K mg base CX0 k "_law_tree" ["_law_row_here", "_law_m", "_law_depth", "_law_deep", "_law_known"] spT)
  (O_any:Okf P w K mg base CX0 k "_law_any" ["_law_row_here", "_law_m", "_law_depth", "_law_deep", "_law_known"] (spAny K fs own n))
  (O_number:Okf P w K mg base CX0 k "_law_number" ["_law_row_here", "_law_m", "_law_deep", "_law_known"] (spNumber K fs own n))
  (O_bound:Okf P w K mg base CX0 k "_law_bound" ["_law_row_here", "_law_m", "_law_word_here", "_law_depth", "_law_deep", "_law_known", "_law_told"] (spBound K fs own n))
  (O_leaf:Okf P w K mg base CX0 k "_law_leaf" ["_law_row_here", "_law_depth", "_law_known"] (spLeaf K (fs.take own) 4)) (z_int:mg "int" = none) :
  FnOk P w K mg base CX0 (k+1) f fd ["_law_row_here", "_law_m", "_law_depth", "_law_deep", "_law_known"] (spTree K fs own n):=by
 have sc:=scsLawTree
 refine F.ok sc (fun vs H Q E h => ?_) (fun cdv A outer s H vs Q E hr h => ?_)
 ·obtain⟨r,m,a,d,deep,ρ,rfl,_⟩:=h
  rfl
 obtain⟨r,m,a,d,deep,ρ,rfl,dr,G,kw,hd,h2,q⟩:=h
 refine⟨_,(pss_cons (ps_if (pt_cmpR op_lt (pv 3) pe_int (nomark _)) (pss_one (ps_ret (pe_c O_leaf hr rfl pass0 (pa_cons (pv 0) (pa_cons (pv 2) (pa_cons (pv 4) pa_nil)))))) pss_nil)
  (pss_cons (ps_if (pt_cmpR op_eq (pv 2) pe_int (nomark _)) (pss_one (ps_ret (pe_c O_number hr rfl pass0 (pa_cons (pv 0) (pa_cons (pv 1) (pa_cons (pv 3) (pa_cons (pv 4) pa_nil))))))) pss_nil)
  (pss_cons (ps_set (i:=5) sc.nd rfl (.inl rfl) (pe_c O_taken hr rfl pass0 (pa_cons (pv 0) (pa_cons pe_int pa_nil))))
  (pss_cons (ps_if (pt_cmpR op_lt (pv 5) pe_int (nomark _)) (pss_one (ps_ret (pe_c O_bound hr rfl pass0 (pa_cons (pv 0) (pa_cons (pv 1) (pa_cons pe_str (pa_cons (pe_op op_add pe_int (pe_c O_taken hr rfl pass0 (pa_cons (pv 0) (pa_cons pe_int pa_nil)))) (pa_cons (pv 3) (pa_cons (pv 4) (pa_cons (pe_op op_sub (pv 2) pe_int) pa_nil)))))))))) pss_nil)
  (pss_cons (ps_if (pt_cmpR op_eq (pv 5) pe_int (nomark _)) (pss_one (ps_ret (pe_c O_bound hr rfl pass0 (pa_cons (pv 0) (pa_cons (pv 1) (pa_cons pe_str (pa_cons (pv 2) (pa_cons (pv 3) (pa_cons (pv 4) (pa_cons pe_int pa_nil)))))))))) pss_nil)
  (pss_cons (ps_if (pt_cmpR op_eq (pv 5) pe_int (nomark _)) (pss_one (ps_ret (pe_tup (pa_cons pe_str (pa_cons (pe_c O_tree hr rfl pass0 (pa_cons (pv 0) (pa_cons (pv 1) (pa_cons (pv 2) (pa_cons (pe_op op_sub (pv 3) pe_int) (pa_cons (pv 4) pa_nil)))))) (pa_cons (pe_c O_tree hr rfl pass0 (pa_cons (pv 0) (pa_cons (pv 1) (pa_cons (pv 2) (pa_cons (pe_op op_sub (pv 3) pe_int) (pa_cons (pv 4) pa_nil)))))) pa_nil)))))) pss_nil)
  (pss_cons (ps_if (PW.pt (pw_and (pt_cmpR op_eq (pv 5) pe_int (nomark _)) (pw_and1 (pt_cmpR op_lt (pv 2) pe_int (nomark _))))) (pss_one (ps_ret (pe_tup (pa_cons pe_str (pa_cons (pe_c O_tree hr rfl pass0 (pa_cons (pv 0) (pa_cons (pv 1) (pa_cons (pe_op op_add (pv 2) pe_int) (pa_cons (pe_op op_sub (pv 3) pe_int) (pa_cons (pv 4) pa_nil)))))) pa_nil))))) pss_nil)
  (pss_cons (ps_if (pt_cmpR op_eq (pv 5) pe_int (nomark _)) (pss_one (ps_ret (pe_tup (pa_cons pe_str (pa_cons (pe_c O_tree hr rfl pass0 (pa_cons (pv 0) (pa_cons (pv 1) (pa_cons (pe_op op_sub (pv 2) pe_int) (pa_cons (pe_op op_sub (pv 3) pe_int) (pa_cons (pv 4) pa_nil)))))) pa_nil))))) pss_nil)
  (pss_cons (ps_if (PW.pt (pw_and (pt_cmpR op_lt (pv 5) pe_int (nomark _)) (pw_and1 (pt_cmpR op_eq (pv 2) pe_int (nomark _))))) (pss_cons (ps_set (i:=6) sc.nd rfl (.inl rfl) (pe_ix (ix_listK K) (pe_lst (pa_cons pe_str (pa_cons pe_str pa_nil))) (pe_op op_sub (pv 5) pe_int) (fun _ _=>rfl)))
  (pss_one (ps_ret (pe_tup (pa_cons (pv 6) (pa_cons (pe_c O_tree hr rfl pass0 (pa_cons (pv 0) (pa_cons (pv 1) (pa_cons (pe_ix (ix_listK K) (pe_lst (pa_cons pe_int (pa_cons pe_int pa_nil))) (pe_callTy call_int1 rfl z_int (by decide +kernel) (pa_cons (pe_cmpR op_eq (pv 6) pe_str (nomark _)) pa_nil)) (fun _ _=>rfl)) (pa_cons (pe_op op_sub (pv 3) pe_int) (pa_cons (pv 4) pa_nil)))))) pa_nil)))))) pss_nil)
  (pss_one (ps_ret (pe_c O_any hr rfl pass0 (pa_cons (pv 0) (pa_cons (pv 1) (pa_cons (pv 2) (pa_cons (pv 3) (pa_cons (pv 4) pa_nil))))))))))))))))),?_⟩
 refine⟨_,rfl,_,_,rfl,rfl,_,rfl,ite2 (fun c => ?_) (fun c => ?_)⟩
 ·refine⟨_,rfl,_,rfl,_,rfl,r,a,d,ρ,rfl,dr,kw,by omega,hd,fun v H5 e g5 ti ty hh _ => ?_⟩
  exact q _ _ e g5 ti ty (by omega)
 have h1:1≤deep:=by
  have:¬ deep < 1:=fun z=>c (decide_eq_true z)
  omega
 obtain⟨n,rfl⟩:∃ n',n=n'+1:=⟨n - 1,by omega⟩
 have hT1:=hT (by omega)
 subst hT1
 refine⟨_,rfl,rfl,_,rfl,ite2 (fun c => ?_) (fun c => ?_)⟩
 ·have c1:V.int (d:Int)=V.int 0:=of_decide_eq_true c
  have c2:d=0:=by
   injection c1 with c1
   omega
  subst c2
  refine⟨_,rfl,_,rfl,_,rfl,_,rfl,r,m,a,deep,ρ,rfl,dr,G,kw,h1,h2,fun v H3 e g3 ti ty hh => ?_⟩
  exact q _ _ e g3 ti ty hh
 have d0:d≠0:=fun z=>c (decide_eq_true (by rw [z]; rfl))
 obtain⟨d,rfl⟩:∃ d',d=d'+1:=⟨d - 1,by omega⟩
 refine⟨_,rfl,r,13,rfl,dr,by decide,by decide,fun k0 H1 k0a k0b g1 => ?_⟩
 have d1:=g1.d
 have G1:=g1.gen dr G
 have kw1:=g1.known dr kw
 have eqk:∀ {j:Int},decide (V.int k0=V.int j)=true→k0=j:=fun z=>by
  have z1:=of_decide_eq_true z
  injection z1
 refine⟨_,rfl,_,_,rfl,rfl,_,rfl,ite2 (fun c => ?_) (fun c5 => ?_)⟩
 ·refine⟨_,rfl,_,rfl,_,rfl,r,3,rfl,d1,by decide,by decide,fun k1 H2 k1a k1b g2 => ?_⟩
  obtain⟨c1,rfl⟩:∃ c1:Nat,k1=(c1:Int):=⟨k1.toNat,by omega⟩
  refine⟨_,_,rfl,rfl,_,rfl,_,rfl,_,rfl,_,_,rfl,rfl,r,m,a,.each,c1+1,d,deep,ρ,?_,rfl,g2.d,g2.gen d1 G1,g2.known d1 kw1,by omega,by omega,by show 1≤c1+1; omega,h1,h2,fun v H3 x e1 e2 g3 ti x0 x1 ty1 ty2 hh => ?_⟩
  ·show [V.ref r.r,V.ref m,V.str "each", V.int (1+(c1:Int)),V.int deep,V.ref a,V.int (((d+1:Nat):Int) - 1)]=_
   rw [show (1:Int)+(c1:Int)=((c1+1:Nat):Int) by omega,show (((d+1:Nat):Int) - 1)=(d:Int) by omega]
   rfl
  exact q _ _ _ ((g1.trans g2).trans g3) ti (.each x0 x1 ty1 ty2 (by omega)) hh
 refine⟨_,rfl,rfl,_,rfl,ite2 (fun c => ?_) (fun c6 => ?_)⟩
 ·refine⟨_,rfl,_,rfl,_,rfl,_,rfl,_,rfl,r,m,a,.whr,d+1,0,deep,ρ,rfl,rfl,d1,G1,kw1,by omega,by omega,by show 1≤d+1; omega,h1,h2,fun v H3 x e1 e2 g3 ti x0 x1 ty1 ty2 hh => ?_⟩
  exact q _ _ _ (g1.trans g3) ti (.whr x0 x1 ty1 ty2) hh
 refine⟨_,rfl,rfl,_,rfl,ite2 (fun c => ?_) (fun c7 => ?_)⟩
 ·refine⟨_,rfl,_,rfl,_,rfl,_,rfl,_,_,rfl,rfl,_,rfl,r,m,a,d+1,deep - 1,ρ,rfl,d1,G1,kw1,hd,by omega,fun v1 H3 e1 g3 ti1 ty1 hh1 => ?_⟩
  have G3:=g3.gen d1 G1
  have kw3:=g3.known d1 kw1
  refine⟨_,rfl,_,rfl,_,rfl,_,rfl,_,_,rfl,rfl,_,rfl,r,m,a,d+1,deep - 1,ρ,rfl,g3.d,G3,kw3,hd,by omega,fun v2 H4 e2 g4 ti2 ty2 hh2 => ?_⟩
  refine⟨by show 3≤sizeLine; decide,fun p2 hp2 => ?_⟩
  have t5:=TK.of (same_new hp2 (.tup [.str "put", v1,v2]))
  have t4:=(g4.tk g3.d).trans t5
  exact q _ _ (.node .put (-1) [e1,e2]) (g1.trans ((g3.trans g4).trans (Drawn.new g4.d hp2))) (.bare rfl upd_same (.cons (ti1.mono t4) (.cons (ti2.mono t5) .nil))) (.put ty1 ty2) (hgt2 hh1 hh2)
 dsimp only [tNext]
 refine if_rest (fun H2=>H2=H1∧(k0=7→2≤d)) (fun H2 e2 => ?_) (fun rest => ?_)
 ·obtain⟨e2,e7⟩:=e2
  subst e2
  refine⟨_,rfl,rfl,_,rfl,ite2 (fun c => ?_) (fun c8 => ?_)⟩
  ·refine⟨_,rfl,_,rfl,_,rfl,_,_,rfl,rfl,_,rfl,_,_,rfl,rfl,_,rfl,r,m,a,d,deep - 1,ρ,?_,d1,G1,kw1,by omega,by omega,fun v1 H3 e1 g3 ti1 ty1 hh1 => ?_⟩
   ·show [V.ref r.r,V.ref m,V.int (((d+1:Nat):Int) - 1),V.int (deep - 1),V.ref a]=_
    rw [show (((d+1:Nat):Int) - 1)=(d:Int) by omega]
   refine⟨by show 2≤sizeLine; decide,fun p2 hp2 => ?_⟩
   exact q _ _ (.node .one (-1) [e1]) (g1.trans (g3.trans (Drawn.new g3.d hp2))) (.bare rfl upd_same (.cons (ti1.mono (TK.of (same_new hp2 _))) .nil)) (.one ty1 (by omega)) (hgt1 hh1)
  dsimp only [tNext]
  refine if_rest (fun H3=>H3=H2) (fun H3 e3 => ?_) (fun rest => ?_)
  ·subst e3
   refine⟨_,rfl,_,rfl,_,rfl,_,rfl,_,rfl,r,m,a,d+1,deep,ρ,rfl,d1,G1,kw1,hd,h1,h2,fun v H3 e g3 ti ty hh => ?_⟩
   exact q _ _ e (g1.trans g3) ti ty hh
  ·refine⟨_,rfl,_,_,rfl,rfl,_,rfl,ite2 (fun c => ?_) (fun c => ?_)⟩
   ·have c11:k0 < 11:=of_decide_eq_true c
    refine⟨_,rfl,rfl,_,rfl,ite2 (fun c => ?_) (fun c=>rest H2 rfl)⟩
    have cd:d=0:=by
     have z1:V.int ((d+1:Nat):Int)=V.int 1:=of_decide_eq_true c
     injection z1 with z1
     omega
    subst cd
    have k9:k0=9∨k0=10:=by
     have n5:¬ k0 < 5:=fun z=>c5 (decide_eq_true z)
     have n1:k0≠5:=fun z=>c6 (decide_eq_true (congrArg V.int z))
     have n2:k0≠6:=fun z=>c7 (decide_eq_true (congrArg V.int z))
     have n3:k0≠8:=fun z=>c8 (decide_eq_true (congrArg V.int z))
     have n4:k0≠7:=fun z=>by
      have:=e7 z
      omega
     omega
    refine⟨by show 2≤sizeLine; decide,fun p hp => ?_⟩
    have g2:=Drawn.new (o:=.lst [.str "upto", .str "sums"]) d1 hp
    have G2:=g2.gen d1 G1
    have kw2:=g2.known d1 kw1
    rcases k9 with rfl | rfl
    ·refine⟨_,rfl,_,_,rfl,rfl,p,_,_,_,rfl,rfl,SqL.of upd_same,rfl,?_⟩
     refine⟨_,rfl,_,rfl,_,rfl,by show 2≤sizeLine; decide,fun p3 hp3 => ?_⟩
     have g3:=Drawn.new (o:=.lst [.int 0,.int 1]) g2.d hp3
     refine⟨_,rfl,rfl,.inr ⟨_,rfl,p3,_,_,_,rfl,rfl,SqL.of upd_same,rfl,_,rfl,_,_,rfl,rfl,_,rfl,r,m,a,0,deep - 1,ρ,rfl,g3.d,g3.gen g2.d G2,g3.known g2.d kw2,by omega,by omega,fun v1 H4 e1 g4 ti1 ty1 hh1 => ?_⟩⟩
     refine⟨by show 2≤sizeLine; decide,fun p2 hp2 => ?_⟩
     exact q _ _ (.node .upto (-1) [e1]) ((g1.trans g2).trans ((g3.trans g4).trans (Drawn.new g4.d hp2))) (.bare rfl upd_same (.cons (ti1.mono (TK.of (same_new hp2 _))) .nil)) (.upto ty1) (hgt1 hh1)
    ·refine⟨_,rfl,_,_,rfl,rfl,p,_,_,_,rfl,rfl,SqL.of upd_same,rfl,?_⟩
     refine⟨_,rfl,_,rfl,_,rfl,by show 2≤sizeLine; decide,fun p3 hp3 => ?_⟩
     have g3:=Drawn.new (o:=.lst [.int 0,.int 1]) g2.d hp3
     refine⟨_,rfl,rfl,.inr ⟨_,rfl,p3,_,_,_,rfl,rfl,SqL.of upd_same,rfl,_,rfl,_,_,rfl,rfl,_,rfl,r,m,a,1,deep - 1,ρ,rfl,g3.d,g3.gen g2.d G2,g3.known g2.d kw2,by omega,by omega,fun v1 H4 e1 g4 ti1 ty1 hh1 => ?_⟩⟩
     refine⟨by show 2≤sizeLine; decide,fun p2 hp2 => ?_⟩
     exact q _ _ (.node .sums (-1) [e1]) ((g1.trans g2).trans ((g3.trans g4).trans (Drawn.new g4.d hp2))) (.bare rfl upd_same (.cons (ti1.mono (TK.of (same_new hp2 _))) .nil)) (.sums ty1) (hgt1 hh1)
   ·exact ite2 (fun z=>nomatch z) (fun _=>rest H2 rfl)
 ·refine⟨_,rfl,rfl,_,rfl,ite2 (fun c => ?_) (fun c => ?_)⟩
  ·have k7:=eqk c
   refine⟨_,rfl,_,_,rfl,rfl,_,rfl,ite2 (fun c => ?_) (fun c=>rest H1 ⟨rfl,fun _ => ?_⟩)⟩
   rotate_left
   ·have:¬ ((d+1:Nat):Int) < 3:=fun z=>c (decide_eq_true z)
    omega
   have c3:((d+1:Nat):Int) < 3:=of_decide_eq_true c
   refine⟨_,rfl,_,rfl,_,rfl,_,_,rfl,rfl,_,rfl,_,_,rfl,rfl,_,rfl,r,m,a,d+2,deep - 1,ρ,rfl,d1,G1,kw1,by omega,by omega,fun v1 H3 e1 g3 ti1 ty1 hh1 => ?_⟩
   refine⟨by show 2≤sizeLine; decide,fun p2 hp2 => ?_⟩
   exact q _ _ (.node .flat (-1) [e1]) (g1.trans (g3.trans (Drawn.new g3.d hp2))) (.bare rfl upd_same (.cons (ti1.mono (TK.of (same_new hp2 _))) .nil)) (.flat ty1) (hgt1 hh1)
  ·exact ite2 (fun z=>nomatch z) (fun _=>rest H1 ⟨rfl,fun z=>absurd (decide_eq_true (congrArg V.int z)) c⟩)
end
abbrev sLawParts:Stmt:=top 134
theorem scsLawParts:FnScope ["_law_tree_here"] ["_law_tree_here"] (defScope sLawParts):=⟨rfl,rfl,rfl,by decide +kernel,rfl,by decide +kernel,by decide +kernel⟩
section
variable {P:Program}{w:World}{K:PySem.W.Frag}{mg:Str→Option Value}{base:Heap}{f:Addr}{fd:FuncData}
theorem ok_parts (F:FnP K "_law_parts" sLawParts f fd):FnOk P w K mg base CX0 1 f fd ["_law_tree_here"] (spParts K):=by
 have sc:=scsLawParts
 refine F.ok sc (fun vs H Q E h => ?_) (fun cdv A outer s H vs Q E hr h => ?_)
 ·obtain⟨v,w,n,ps,rfl,_⟩:=h
  rfl
 obtain⟨v,wd,n,ps,rfl,ti,q⟩:=h
 refine⟨_,(pss_cons (ps_if (pt_cmpR (op_inK K) (pe_ix (ix_tupK K) (pv 0) pe_int (fun _ _=>rfl)) (pe_tup (pa_cons pe_str (pa_cons pe_str pa_nil))) (by rfl)) (pss_one (ps_ret (pe_tup pa_nil))) pss_nil)
  (pss_cons (ps_if (pt_cmpR op_eq (pe_ix (ix_tupK K) (pv 0) pe_int (fun _ _=>rfl)) pe_str (nomark _)) (pss_one (ps_ret (pe_ix (ix_tupK K) (pv 0) pe_int (fun _ _=>rfl)))) pss_nil)
  (pss_one (ps_ret (pe_ifExp (pt_cmpR (op_inK K) (pe_ix (ix_tupK K) (pv 0) pe_int (fun _ _=>rfl)) (pe_tup (pa_cons pe_str (pa_cons pe_str (pa_cons pe_str pa_nil)))) (by rfl)) (pe_slice (sl_tupK K) (pv 0) (po_some pe_int) po_none) (pe_slice (sl_tupK K) (pv 0) (po_some pe_int) po_none)))))),?_⟩
 have key:∃ a xs,v=.ref a∧H a=some (.tup (.str wd.str::xs)):=by
  cases ti with
  | leaf _ h=>exact⟨_,_,rfl,h⟩
  | bind _ h _=>exact⟨_,_,rfl,h⟩
  | call h _ _=>exact⟨_,_,rfl,h⟩
  | bare _ h _=>exact⟨_,_,rfl,h⟩
 obtain⟨a,xs,rfl,ea⟩:=key
 refine⟨_,rfl,a,_,_,_,rfl,rfl,SqT.of ea,at0,by show 2≤sizeLine; decide,fun p1 hp1 => ?_⟩
 refine⟨p1,_,rfl,.inr (SqT.of upd_same),rfl,rfl,_,rfl,?_⟩
 have s1:=same_new hp1 (.tup [.str "num", .str "name"])
 generalize upd H p1 (.tup [.str "num", .str "name"])=H1 at s1 ⊢
 have ea1:=s1 _ _ ea
 show if inV (.str wd.str) [.str "num", .str "name"]=true then _ else _
 rw [in_leaf]
 refine ite2 (fun c => ?_) (fun c => ?_)
 ·have c1:wd.lay=0:=of_decide_eq_true c
  refine⟨by show 0≤sizeLine; decide,fun p hp => ?_⟩
  have hps:ps=[]:=by
   cases ti with
   | leaf _ _=>rfl
   | bind l _ _=>rw [l] at c1; cases c1
   | call _ _ _=>cases c1
   | bare l _ _=>rw [l] at c1; cases c1
  subst hps
  exact q p _ [] (s1.trans (same_new hp _)) upd_same .nil
 have c0:wd.lay≠0:=fun z=>c (decide_eq_true z)
 refine⟨_,rfl,a,_,_,_,rfl,rfl,SqT.of ea1,at0,rfl,_,rfl,?_⟩
 show if decide (V.str wd.str=V.str "call")=true then _ else _
 rw [eq_call]
 refine ite2 (fun c => ?_) (fun c => ?_)
 ·have c1:wd.lay=2:=of_decide_eq_true c
  cases ti with
  | leaf l _=>rw [l] at c1; cases c1
  | bind l _ _=>rw [l] at c1; cases c1
  | bare l _ _=>rw [l] at c1; cases c1
  | @call _ b n ys ps h hb tis =>
   refine⟨_,rfl,a,_,_,_,rfl,rfl,SqT.of (s1 _ _ h),rfl,?_⟩
   exact q b _ ys s1 (s1 _ _ hb) (tis.mono (TK.of s1))
 have c2:wd.lay≠2:=fun z=>c (decide_eq_true z)
 refine⟨_,rfl,a,_,_,_,rfl,rfl,SqT.of ea1,at0,by show 3≤sizeLine; decide,fun p2 hp2 => ?_⟩
 refine⟨p2,_,rfl,.inr (SqT.of upd_same),rfl,rfl,_,rfl,?_⟩
 have s2:=s1.trans (same_new hp2 (.tup [.str "let", .str "each", .str "where"]))
 generalize upd H1 p2 (.tup [.str "let", .str "each", .str "where"])=H2 at s2 ⊢
 show if inV (.str wd.str) [.str "let", .str "each", .str "where"]=true then _ else _
 rw [in_bind]
 refine ite2 (fun c => ?_) (fun c => ?_)
 ·have c1:wd.lay=1:=of_decide_eq_true c
  cases ti with
  | leaf l _=>rw [l] at c1; cases c1
  | call _ _ _=>cases c1
  | bare l _ _=>rw [l] at c1; cases c1
  | @bind _ _ n ys ps l h tis =>
   refine⟨_,rfl,_,rfl,a,_,rfl,SqT.of (s2 _ _ h),not2 _ _ _,fun p hp => ?_⟩
   rw [cut2]
   exact q p _ ys (s2.trans (same_new hp _)) upd_same (tis.mono (TK.of (s2.trans (same_new hp _))))
 ·have c1:wd.lay≠1:=fun z=>c (decide_eq_true z)
  cases ti with
  | leaf l _=>exact absurd l c0
  | call _ _ _=>exact absurd rfl c2
  | bind l _ _=>exact absurd l c1
  | @bare _ _ ys ps l h tis =>
   refine⟨_,rfl,_,rfl,a,_,rfl,SqT.of (s2 _ _ h),not1 _ _,fun p hp => ?_⟩
   rw [cut1]
   exact q p _ ys (s2.trans (same_new hp _)) upd_same (tis.mono (TK.of (s2.trans (same_new hp _))))
end
abbrev sLawSize:Stmt:=top 135
theorem scsLawSize:FnScope ["_law_tree_here", "_law_part"] ["_law_tree_here"] (defScope sLawSize):=⟨rfl,rfl,rfl,by decide +kernel,rfl,by decide +kernel,by decide +kernel⟩
section
variable {P:Program}{w:World}{K:PySem.W.Frag}{mg:Str→Option Value}{base:Heap}{f:Addr}{fd:FuncData}
theorem ok_size_step {n:Nat}(F:FnP K "_law_size" sLawSize f fd) (O_parts:Okf P w K mg base CX0 (n+1) "_law_parts" ["_law_tree_here"] (spParts K))
  (O_size:Okf P w K mg base CX0 (n+1) "_law_size" ["_law_tree_here"] (spSize K n)) (z_sum:mg "sum" = none):FnOk P w K mg base CX0 (n+2) f fd ["_law_tree_here"] (spSize K (n+1)):=by
 have sc:=scsLawSize
 refine F.ok sc (fun vs H Q E h => ?_) (fun cdv A outer s H vs Q E hr h => ?_)
 ·obtain⟨v,e,rfl,_⟩:=h
  rfl
 obtain⟨v,e,rfl,ti,hh,hs,q⟩:=h
 obtain⟨wd,nn,ps⟩:=e
 have hs':ps.length≤4∧fews ps:=hs
 have hh':1+hgts ps≤n+1:=hh
 refine⟨_,(pss_one (ps_ret (pe_op op_add pe_int (pe_callB (cr_sumK K rfl) rfl z_sum (by decide +kernel) (pa_cons (pe_lc (own:=[("_law_part", 1)]) (by rfl) sc.nd (pi_tupK K (pe_c O_parts hr rfl pass0 (pa_cons (pv 0) pa_nil))) (blkOk_by (own:=[("_law_part", 1)]) (N:=["_law_tree_here", "_law_part"]) (sc:=defScope sLawSize) (by decide +kernel)) (fun _ _ _ _ _=>(pg_name (i:=1) sc.nd rfl (.inl rfl))) (fun _ _ _ _ _=>pts_nil) (fun _ _ _ _ _=>(pe_c O_size hr rfl pass0 (pa_cons (pv 1) pa_nil)))) pa_nil))))),?_⟩
 refine⟨_,rfl,v,wd,nn,ps,rfl,ti,fun p H1 xs s1 ep tis=>⟨p,rfl,⟨_,SqT.of ep⟩,fun D hD => ?_⟩⟩
 have tl:=tis.len
 refine lc_tup (K:=K) (a:=p) (xs:=xs) (fun i H'=>∃ ns:List Int,H' D=some (.lst (ns.map V.int))∧Same H1 H'∧ns=(ps.take i).map (fun e=>(e.size:Int))) ⟨[],upd_same,same_new hD _,rfl⟩ ?_ ?_ ?_
 ·rintro i H' hi ⟨ns,e1,s2,e2⟩
  exact SqT.of (s2 _ _ ep)
 ·rintro i x H' hx ⟨ns,e1,s2,e2⟩
  obtain⟨e,he,ti2⟩:=tis.get i hx
  have hi:=(List.getElem?_eq_some_iff.mp he).1
  have sm:=size_mem he
  refine⟨rfl,?_⟩
  dsimp only [tYes,gName]
  rw [if_pos rfl]
  refine⟨_,rfl,x,e,rfl,ti2.mono (TK.of s2),by omega,fews_mem hs'.2 he,fun H3 s3 => ?_⟩
  refine⟨_,s3 _ _ e1,?_,ns++[(e.size:Int)],?_,same_put (s2.trans s3) hD,?_⟩
  ·have l1:=hs'.1
   rw [List.length_map,e2,List.length_map,List.length_take]
   exact small1000 (by omega)
  ·rw [upd_same,List.map_append]
   rfl
  ·rw [e2,List.take_succ,he,List.map_append]
   rfl
 ·rintro H2 ⟨ns,e1,s2,e2⟩
  rw [tl,List.take_length] at e2
  refine⟨D,ns,rfl,SqL.of e1,_,_,rfl,rfl,?_⟩
  have e3:(1+ns.sum:Int)=((Ex.node wd nn ps).size:Int):=by
   rw [e2,sum_sizes]
   simp only [Ex.size]
   omega
  show Q (.int (1+ns.sum)) H2
  rw [e3]
  exact q _ (s1.trans s2)
end
abbrev sLawWithin:Stmt:=top 136
theorem scsLawWithin:FnScope ["_law_tree_here", "_law_part"] ["_law_tree_here"] (defScope sLawWithin):=⟨rfl,rfl,rfl,by decide +kernel,rfl,by decide +kernel,by decide +kernel⟩
section
variable {P:Program}{w:World}{K:PySem.W.Frag}{mg:Str→Option Value}{base:Heap}{f:Addr}{fd:FuncData}
theorem ok_within_step {n:Nat}(F:FnP K "_law_within" sLawWithin f fd) (O_parts:Okf P w K mg base CX0 (n+1) "_law_parts" ["_law_tree_here"] (spParts K))
  (O_within:Okf P w K mg base CX0 (n+1) "_law_within" ["_law_tree_here"] (spWithin K n)) (z_max:mg "max" = none):FnOk P w K mg base CX0 (n+2) f fd ["_law_tree_here"] (spWithin K (n+1)):=by
 have sc:=scsLawWithin
 refine F.ok sc (fun vs H Q E h => ?_) (fun cdv A outer s H vs Q E hr h => ?_)
 ·obtain⟨v,e,rfl,_⟩:=h
  rfl
 obtain⟨v,e,rfl,ti,hh,hs,q⟩:=h
 obtain⟨wd,nn,ps⟩:=e
 have hs':ps.length≤4∧fews ps:=hs
 have hh':1+hgts ps≤n+1:=hh
 refine⟨_,(pss_one (ps_ret (pe_callB (cr_maxK K rfl) rfl z_max (by decide +kernel) (pa_cons (pe_op op_cat (pe_lst (pa_cons pe_int pa_nil)) (pe_lc (own:=[("_law_part", 1)]) (by rfl) sc.nd (pi_tupK K (pe_c O_parts hr rfl pass0 (pa_cons (pv 0) pa_nil))) (blkOk_by (own:=[("_law_part", 1)]) (N:=["_law_tree_here", "_law_part"]) (sc:=defScope sLawWithin) (by decide +kernel)) (fun _ _ _ _ _=>(pg_name (i:=1) sc.nd rfl (.inl rfl))) (fun _ _ _ _ _=>pts_nil) (fun _ _ _ _ _=>(pe_op op_add pe_int (pe_c O_within hr rfl pass0 (pa_cons (pv 1) pa_nil)))))) pa_nil)))),?_⟩
 refine⟨by show 1≤sizeLine; decide,fun p0 hp0 => ?_⟩
 have s0:=same_new hp0 (.lst [.int 0])
 have ep0:upd H p0 (.lst [.int 0]) p0=some (.lst [.int 0]):=upd_same
 generalize upd H p0 (.lst [.int 0])=H0 at s0 ep0 ⊢
 refine⟨_,rfl,v,wd,nn,ps,rfl,ti.mono (TK.of s0),fun p H1 xs s1 ep tis=>⟨p,rfl,⟨_,SqT.of ep⟩,fun D hD => ?_⟩⟩
 have tl:=tis.len
 refine lc_tup (K:=K) (a:=p) (xs:=xs) (fun i H'=>∃ ns:List Int,H' D=some (.lst (ns.map V.int))∧Same H1 H'∧ns=(ps.take i).map (fun e=>(e.hgt:Int))) ⟨[],upd_same,same_new hD _,rfl⟩ ?_ ?_ ?_
 ·rintro i H' hi ⟨ns,e1,s2,e2⟩
  exact SqT.of (s2 _ _ ep)
 ·rintro i x H' hx ⟨ns,e1,s2,e2⟩
  obtain⟨e,he,ti2⟩:=tis.get i hx
  have hi:=(List.getElem?_eq_some_iff.mp he).1
  have sm:=size_mem he
  have pos:=e.hgt_pos
  refine⟨rfl,?_⟩
  dsimp only [tYes,gName]
  rw [if_pos rfl]
  refine⟨_,rfl,x,e,rfl,ti2.mono (TK.of s2),by omega,fews_mem hs'.2 he,fun H3 s3 => ?_⟩
  refine⟨_,_,rfl,rfl,_,s3 _ _ e1,?_,ns++[(e.hgt:Int)],?_,same_put (s2.trans s3) hD,?_⟩
  ·have l1:=hs'.1
   rw [List.length_map,e2,List.length_map,List.length_take]
   exact small1000 (by omega)
  ·rw [upd_same,List.map_append]
   have e5:(1+((e.hgt - 1:Nat):Int))=(e.hgt:Int):=by omega
   show some (HO.lst (ns.map V.int++[V.int (1+((e.hgt - 1:Nat):Int))]))=_
   rw [e5]
   rfl
  ·rw [e2,List.take_succ,he,List.map_append]
   rfl
 ·rintro H2 ⟨ns,e1,s2,e2⟩
  rw [tl,List.take_length] at e2
  have l1:=hs'.1
  have nl:ns.length=ps.length:=by rw [e2,List.length_map]
  refine⟨p0,D,_,_,rfl,rfl,s2 _ _ (s1 _ _ ep0),e1,?_,fun p3 hp3 => ?_⟩
  ·rw [List.length_map,nl]
   refine le2 ?_
   show 1+ps.length≤1000
   omega
  have e6:([V.int 0]++ns.map V.int)=(0::ns).map V.int:=rfl
  rw [e6]
  refine⟨p3,0::ns,rfl,SqL.of upd_same,by simp,fun m hm hmax => ?_⟩
  have e7:m=((hgts ps:Nat):Int):=by
   rw [e2] at hm hmax
   exact max_hgts ps m hm hmax
  show Q (.int m) _
  rw [e7]
  have e8:(Ex.node wd nn ps).hgt - 1=hgts ps:=by
   simp only [Ex.hgt]
   omega
  have:=q (upd H2 p3 (.lst ((0::ns).map V.int))) (((s0.trans s1).trans s2).trans (same_new hp3 _))
  rw [e8] at this
  exact this
end
abbrev sLawFace:Stmt:=top 142
theorem scsLawFace:FnScope ["_law_row_here", "_law_names", "_law_k", "_law_name", "_law_params"] ["_law_row_here"] (defScope sLawFace):=⟨rfl,rfl,rfl,by decide +kernel,rfl,by decide +kernel,by decide +kernel⟩
section
variable {P:Program}{w:World}{K:PySem.W.Frag}{mg:Str→Option Value}{base:Heap}{f:Addr}{fd:FuncData}
theorem ok_face {k:Nat}(F:FnP K "_law_face" sLawFace f fd) (O_taken:Okf P w K mg base CX0 k "_law_taken" ["_law_row_here", "_law_many"] (spTaken K))
  (z_len:mg "len" = none) (z_range:mg "range" = none) (z_tuple:mg "tuple" = none) (z_int:mg "int" = none):FnOk P w K mg base CX0 (k+1) f fd ["_law_row_here"] (spFace K):=by
 have sc:=scsLawFace
 refine F.ok sc (fun vs H Q E h => ?_) (fun cdv A outer s H vs Q E hr h => ?_)
 ·obtain⟨r,rfl,_⟩:=h
  rfl
 obtain⟨r,rfl,dr,q⟩:=h
 refine⟨_,PSs.nox (pss_cons (ps_set (i:=1) sc.nd rfl (.inr rfl) (pe_lst (pa_cons (pe_c O_taken hr rfl pass0 (pa_cons (pv 0) (pa_cons pe_int pa_nil))) pa_nil)))
  (pss_cons (ps_for PassesOwn.never rfl (pi_range1 rfl z_range (pa_cons (pe_c O_taken hr rfl pass0 (pa_cons (pv 0) (pa_cons pe_int pa_nil))) pa_nil)) (pg_name (i:=2) sc.nd rfl (.inl rfl)) (pss_cons (ps_set (i:=3) sc.nd rfl (.inl rfl) (pe_c O_taken hr rfl pass0 (pa_cons (pv 0) (pa_cons pe_int pa_nil))))
  (pss_one (ps_set (i:=1) sc.nd rfl (.inr rfl) (pe_op op_cat (pv 1) (pe_op op_rep (pe_lst (pa_cons (pv 3) pa_nil)) (pe_callTy call_int1 rfl z_int (by decide +kernel) (pa_cons (pe_cmpR (op_notInK K) (pv 3) (pv 1) (by rfl)) pa_nil))))))))
  (pss_cons (ps_setLc (i:=4) (own:=[("_law_k", 2)]) (by rfl) sc.nd rfl rfl (sw_true rfl rfl rfl (by decide +kernel)) (pi_range1 rfl z_range (pa_cons (pe_callB (call_lenK K) rfl z_len PySem.boot_len (pa_cons (pv 1) pa_nil)) pa_nil)) (blkOk_by (own:=[("_law_k", 2)]) (N:=["_law_row_here", "_law_names", "_law_k", "_law_name", "_law_params"]) (sc:=defScope sLawFace) (by decide +kernel)) (fun _ _ _ _ _=>(pg_name (i:=2) sc.nd rfl (.inl rfl))) (fun _ _ _ _ _=>pts_nil) (fun _ _ _ _ _=>(pe_tup (pa_cons (pe_ix (ix_listK K) (pv 1) (pv 2) (fun _ _=>rfl)) (pa_cons (pe_ix (ix_listK K) (pe_lst (pa_cons pe_int (pa_cons (pe_c O_taken hr rfl pass0 (pa_cons (pv 0) (pa_cons pe_int pa_nil))) pa_nil))) (pe_callTy call_int1 rfl z_int (by decide +kernel) (pa_cons (pe_cmpR op_gt (pv 2) pe_int (nomark _)) pa_nil)) (fun _ _=>rfl)) pa_nil)))))
  (pss_one (ps_ret (pe_tup (pa_cons (pe_callTy (call_tupleF K) rfl z_tuple (by decide +kernel) (pa_cons (pv 4) pa_nil)) (pa_cons (pe_c O_taken hr rfl pass0 (pa_cons (pv 0) (pa_cons pe_int pa_nil))) pa_nil)))))))),?_⟩
 refine⟨_,rfl,r,20,rfl,dr,by decide,by decide,fun k0 H1 k0a k0b g1=>⟨by show 1≤sizeLine; decide,fun l0 hl0 => ?_⟩⟩
 have g2:=Drawn.new (o:=.lst [.int k0]) g1.d hl0
 refine⟨_,rfl,r,4,rfl,g2.d,by decide,by decide,fun m H3 ma mb g3=>⟨_,rfl,by omega,by omega,?_⟩⟩
 have nl0:l0≠r.r:=by
  obtain⟨o,ho⟩:=g1.d.ref
  exact (ne_of_none ho hl0).symm
 have g13:Drawn K r H H3:=(g1.trans g2).trans g3
 have e0:H3 l0=some (.lst ([k0].map V.int)):=g3.s _ _ nl0 upd_same
 refine for_range (lo:=0) (n:=m.toNat) (fun i σ H'=>∃ (l:Addr) (ns:List Int) (x2 x3:Option V),σ=[some (.ref r.r),some (.ref l),x2,x3,none]∧Drawn K r H H'∧H' l=some (.lst (ns.map V.int))∧l≠r.r∧ns.Nodup∧0 < ns.length∧ns.length≤i+1∧∀ x∈ns,0≤x∧x≤19)
  ⟨l0,[k0],none,none,rfl,g13,e0,nl0,by simp,by simp,by simp,fun x hx=>by rw [List.mem_singleton.mp hx]; omega⟩ ?_ ?_
 ·rintro i σ H4 hi ⟨l,ns,x2,x3,rfl,g4,el,nl,nd,np,nle,nb⟩
  refine⟨_,rfl,r,20,rfl,g4.d,by decide,by decide,fun x H5 xa xb g5 => ?_⟩
  have el5:=g5.s _ _ nl el
  refine⟨_,rfl,_,rfl,by show 1≤sizeLine; decide,fun l1 hl1 => ?_⟩
  have g6:=Drawn.new (o:=.lst [.int x]) g5.d hl1
  have nl1:l1≠r.r:=by
   obtain⟨o,ho⟩:=g5.d.ref
   exact (ne_of_none ho hl1).symm
  have el6:=g6.s _ _ nl el5
  refine⟨_,rfl,_,rfl,l,_,rfl,.inl (SqL.of el6),rfl,allFlat_int ns,.inr ⟨_,rfl,?_⟩⟩
  have hin:(if true=true then !inV (V.int x) (ns.map V.int) else inV (V.int x) (ns.map V.int)) = !decide (x∈ns):=by
   rw [if_pos rfl,inV_int]
  rw [hin]
  refine⟨l1,_,_,rfl,rfl,upd_same,?_,?_,?_,fun l2 hl2 => ?_⟩
  ·split <;> decide
  ·split <;> decide
  ·split
   ·show 1*1≤sizeLine
    decide
   ·show 1*0≤sizeLine
    decide
  have g7:=Drawn.new (o:=.lst (List.replicate (if (!decide (x∈ns))=true then (1:Int) else 0).toNat [V.int x]).flatten) g6.d hl2
  have nl2:l2≠r.r:=by
   obtain⟨o,ho⟩:=g6.d.ref
   exact (ne_of_none ho hl2).symm
  refine⟨l,l2,_,_,rfl,rfl,g7.s _ _ nl el6,upd_same,?_,fun l3 hl3 => ?_⟩
  ·refine le2 ?_
   rw [List.length_map]
   split
   ·show ns.length+1≤1000
    omega
   ·show ns.length+0≤1000
    omega
  have g8:=Drawn.new (o:=.lst (ns.map V.int++(List.replicate (if (!decide (x∈ns))=true then (1:Int) else 0).toNat [V.int x]).flatten)) g7.d hl3
  have nl3:l3≠r.r:=by
   obtain⟨o,ho⟩:=g7.d.ref
   exact (ne_of_none ho hl3).symm
  by_cases c:x∈ns
  ·refine⟨l3,ns,_,_,rfl,(g4.trans g5).trans (g6.trans (g7.trans g8)),?_,nl3,nd,np,by omega,nb⟩
   rw [upd_same]
   simp [c]
  ·refine⟨l3,ns++[x],_,_,rfl,(g4.trans g5).trans (g6.trans (g7.trans g8)),?_,nl3,?_,by simp,?_,?_⟩
   ·rw [upd_same]
    simp [c]
   ·refine List.nodup_append.mpr ⟨nd,by simp,fun a ha b hb => ?_⟩
    rw [List.mem_singleton.mp hb]
    exact fun z=>c (z ▸ ha)
   ·rw [List.length_append]
    exact Nat.succ_le_succ nle
   ·intro y hy
    rcases List.mem_append.mp hy with hy | hy
    ·exact nb y hy
    ·rw [List.mem_singleton.mp hy]
     omega
 rintro σ H4 ⟨l,ns,x2,x3,rfl,g4,el,nl,nd,np,nle,nb⟩
 have len4:ns.length≤4:=by omega
 refine⟨_,rfl,l,_,rfl,.inl (SqL.of el),_,rfl,by omega,?_,fun D hD => ?_⟩
 ·rw [List.length_map]
  omega
 have nD:D≠r.r:=by
  obtain⟨o,ho⟩:=g4.d.ref
  exact (ne_of_none ho hD).symm
 have hlen:(ns.map V.int).length=ns.length:=List.length_map _
 refine lc_range (lo:=0) (n:=(ns.map V.int).length) (fun i H'=>∃ vs qs,H' D=some (.lst vs)∧vs.length=i∧Drawn K r H4 H'∧PIns H' vs qs∧qs.map (·.1)=ns.take i∧(∀ p∈qs,p.2≤3)∧(∀ p,qs[0]? = some p→p.2=0))
  ⟨[],[],upd_same,rfl,Drawn.new g4.d hD,.nil,rfl,fun p hp=>by (cases hp),fun p hp=>by simp at hp⟩ ?_ ?_
 ·rintro i H5 hi ⟨vs,qs,eD,ev,g5,pi,en,h3,h0⟩
  rw [hlen] at hi
  refine⟨rfl,?_⟩
  dsimp only [tYes,gName]
  rw [if_pos rfl]
  have hat:atI (ns.map V.int) (0+(i:Int))=some (.int ns[i]):=by
   rw [Int.zero_add]
   exact atI_nat (by rw [List.getElem?_map,List.getElem?_eq_getElem hi]; rfl)
  refine⟨_,rfl,_,rfl,l,_,_,_,rfl,rfl,SqL.of (g5.s _ _ nl el),hat,?_⟩
  refine⟨_,rfl,r,4,rfl,g5.d,by decide,by decide,fun kd H6 ka kb g6=>⟨by show 2≤sizeLine; decide,fun l5 hl5 => ?_⟩⟩
  obtain⟨kd,rfl⟩:∃ c1:Nat,kd=(c1:Int):=⟨kd.toNat,by omega⟩
  have g7:=Drawn.new (o:=.lst [.int 0,.int (kd:Int)]) g6.d hl5
  refine⟨_,rfl,_,_,rfl,rfl,.inr ⟨_,rfl,l5,_,_,dV (if i=0 then 0 else kd),rfl,rfl,SqL.of upd_same,?_,by show 2≤sizeLine; decide,fun l6 hl6 => ?_⟩⟩
  ·by_cases c:i=0
   ·subst c
    rfl
   ·have c2:(0:Int) < 0+(i:Int):=by omega
    rw [if_neg c,decide_eq_true c2]
    rfl
  have g8:=Drawn.new (o:=.tup [.int ns[i],dV (if i=0 then 0 else kd)]) g7.d hl6
  have g58:Drawn K r H5 (upd (upd H6 l5 (.lst [.int 0,.int (kd:Int)])) l6 (.tup [.int ns[i],dV (if i=0 then 0 else kd)])):=g6.trans (g7.trans g8)
  have tk9:=TK.lst (ys:=vs++[.ref l6]) (g58.s _ _ nD eD)
  refine⟨vs,g58.s _ _ nD eD,?_,vs++[.ref l6],qs++[(ns[i],if i=0 then 0 else kd)],upd_same,?_,?_,?_,?_,?_,?_⟩
  ·rw [ev]
   exact small1000 (by omega)
  ·rw [List.length_append,ev]
   rfl
  ·exact (g5.trans g58).put g4.d hD
  ·exact (pi.mono ((g58.tk g5.d).trans tk9)).snoc (tk9 _ _ upd_same)
  ·rw [List.map_append,en,List.take_succ,List.getElem?_eq_getElem hi]
   rfl
  ·intro p hp
   rcases List.mem_append.mp hp with hp | hp
   ·exact h3 p hp
   ·rw [List.mem_singleton.mp hp]
    show (if i=0 then 0 else kd)≤3
    split <;> omega
  ·intro p hp
   cases qs with
   | nil =>
    have l0:i=0:=by
     have:=pi.len
     rw [ev] at this
     exact this
    have e9:p=(ns[i],if i=0 then 0 else kd):=(Option.some.inj hp).symm
    rw [e9]
    show (if i=0 then 0 else kd)=0
    rw [if_pos l0]
   | cons z zs=>exact h0 p (by simpa using hp)
 ·rintro H5 ⟨vs,qs,eD,ev,g5,pi,en,h3,h0⟩
  rw [hlen,List.take_length] at en
  refine⟨_,rfl,D,_,rfl,SqL.of eD,fun pt o hpt hdn => ?_⟩
  have g6:=Drawn.new (o:=.frz o (.tup vs)) g5.d hpt
  refine⟨_,rfl,r,4,rfl,g6.d,by decide,by decide,fun d H7 da db g7=>⟨by show 2≤sizeLine; decide,fun t ht => ?_⟩⟩
  obtain⟨d,rfl⟩:∃ c1:Nat,d=(c1:Int):=⟨d.toNat,by omega⟩
  have g8:=Drawn.new (o:=.tup [.ref pt,dV d]) g7.d ht
  have npt:pt≠r.r:=by
   obtain⟨o',ho⟩:=g5.d.ref
   exact (ne_of_none ho hpt).symm
  have tk:=(g6.tk g5.d).trans ((g7.tk g6.d).trans (g8.tk g7.d))
  refine q _ _ qs d ((g4.trans g5).trans (g6.trans (g7.trans g8))) ⟨t,pt,o,vs,rfl,upd_same,g8.s _ _ npt (g7.s _ _ npt upd_same),hdn,pi.mono tk⟩ ⟨by rw [en]; exact nd,fun p hp => ?_,?_,by omega⟩ ?_
  ·have hm:p.1∈ns:=by
    rw [← en]
    exact List.mem_map.mpr ⟨p,hp,rfl⟩
   have:=nb _ hm
   exact⟨this.1,this.2,h3 p hp⟩
  ·have:(qs.map (·.1)).length=ns.length:=by rw [en]
   rw [List.length_map] at this
   omega
  ·cases qs with
   | nil =>
    have:([]:List Int)=ns:=en
    rw [← this] at np
    cases np
   | cons z zs =>
    obtain⟨z1,z2⟩:=z
    have:z2=0:=h0 (z1,z2) rfl
    exact⟨z1,zs,by rw [this]⟩
end
structure BI (K:PySem.W.Frag) (r:RD) (H0 H:Hp) (m:Addr) (fs:List (List Nat×Nat)) (own:Nat) (kn:Addr) (ps:List (Int×Nat)) (pt:Addr) (o:Obj) (pvs:List V):Prop where
 g:Drawn K r H0 H
 G:Gen H r m fs own
 kn:H kn=some (.dK (ps.map kvOf))
 fr:H pt=some (.frz o (.tup pvs))
 pin:PIns H pvs ps
theorem BI.step {K:PySem.W.Frag}{r:RD}{H0 H H':Hp}{m:Addr}{fs:List (List Nat×Nat)} {own:Nat}{kn:Addr}{ps:List (Int×Nat)} {pt:Addr}{o:Obj}{pvs:List V}(B:BI K r H0 H m fs own kn ps pt o pvs) (g:Drawn K r H H'):BI K r H0 H' m fs own kn ps pt o pvs:=by
 obtain⟨p,x,l,h,_⟩:=B.g.d.ex
 exact⟨B.g.trans g,g.gen B.g.d B.G,g.s _ _ (ne_of B.kn h (by intro z; cases z)) B.kn,g.s _ _ (ne_of B.fr h (by intro z; cases z)) B.fr,B.pin.mono (g.tk B.g.d)⟩
theorem put_left {a b:V}:putK ([(Sum.inr "faces", a),(Sum.inr "own", b),(Sum.inr "left", .int 0)]:List (Key×V)) (Sum.inr "left") (.int 0)=([(Sum.inr "faces", a),(Sum.inr "own", b),(Sum.inr "left", .int 0)]:List (Key×V)):=by rfl
abbrev sLawBody:Stmt:=top 143
theorem scsLawBody:FnScope ["_law_row_here", "_law_m", "_law_face_here", "_law_itself", "_law_params", "_law_told", "_law_known", "_law_deep", "_law_first", "_law_some", "_law_call", "_law_free", "_law_inner", "_law_rest", "_law_body_here", "_law_row_up", "_law_name", "_law_depth"] ["_law_row_here", "_law_m", "_law_face_here", "_law_itself"] (defScope sLawBody):=⟨rfl,rfl,rfl,by decide +kernel,rfl,by decide +kernel,by decide +kernel⟩
section
variable {P:Program}{w:World}{K:PySem.W.Frag}{mg:Str→Option Value}{base:Heap}{f:Addr}{k:Nat}{fs:List (List Nat×Nat)} {own:Nat}{cdv:Value}{A:Around}{outer:List Env}{s:Shared}{H:Hp}{E:XK}{Q:VK}
 {r:RD}{m kn pt t a0:Addr}{o:Obj}{vrest:List V}{x0:Int}{prest:List (Int×Nat)} {d:Nat}{k1:Int}
abbrev XB (P:Program) (w:World) (K:PySem.W.Frag) (mg:Str→Option Value) (base:Heap) (f:Addr) (cdv:Value) (A:Around) (outer:List Env) (s:Shared) (H:Hp) (E:XK):Cx:=(cxOf CX0 P w K mg base ["_law_row_here", "_law_m", "_law_face_here", "_law_itself", "_law_params", "_law_told", "_law_known", "_law_deep", "_law_first", "_law_some", "_law_call", "_law_free", "_law_inner", "_law_rest", "_law_body_here", "_law_row_up", "_law_name", "_law_depth"] "_law_body" (defScope sLawBody) f cdv A outer s H E).nox
def RD14 (K:PySem.W.Frag) (r:RD) (H:Hp) (m pt t a0:Addr) (o:Obj) (vrest:List V) (x0:Int) (prest:List (Int×Nat)) (d:Nat) (fs:List (List Nat×Nat)) (own:Nat) (σ':L2.St) (H':Hp):Prop:=∃ (kn:Addr) (k1:Int) (p1 p6 p7 inn:Addr) (y:Int) (rv:V) (re:Ex) (x14 x15:Option V),σ'=[some (.ref r.r),some (.ref m),some (.ref t),some (.bl true),some (.ref pt),some (dV d),some (.ref kn),some (.int (2+k1)),some (.ref p1),some (.ref p6),some (.ref p7),some (.int y),some (.ref inn),some rv,x14,x15,none,none]∧0≤k1∧k1 < 3 ∧
  BI K r H H' m fs own kn ((x0,0)::prest) pt o (.ref a0::vrest)∧TIn H' (.ref p1) (.node .name x0 [])∧TIn H' rv re∧Ty fs (envOf ((x0,0)::prest)) re d∧SelfOk (own:Int) 2 re∧re.hgt≤11
theorem body_d (hr:Room k (XB P w K mg base f cdv A outer s H E).A) (O_taken:Okf P w K mg base CX0 k "_law_taken" ["_law_row_here", "_law_many"] (spTaken K))
  (O_tree:Okf P w K mg base CX0 k "_law_tree" ["_law_row_here", "_law_m", "_law_depth", "_law_deep", "_law_known"] (spTree K fs own 4))
  (z_dict:mg "dict" = none) (z_range:mg "range" = none) (z_tuple:mg "tuple" = none) (FO:FaceOk ((x0,0)::prest) d) (few:own≤5) (hfs:fs[own]? = some (((x0,0)::prest).map (·.2),d))
  (q:∀ (v:V) (H':Hp) (e:Ex),Drawn K r H H'→TIn H' v e→Ty fs (envOf ((x0,0)::prest)) e d→SelfOk (own:Int) 3 e→e.hgt≤12→Q v H') :
  ∃ t14,PSs (XB P w K mg base f cdv A outer s H E) ((defBody sLawBody).drop 14) t14∧∀ σ' H',RD14 K r H m pt t a0 o vrest x0 prest d fs own σ' H'→t14 { nx:=fun _ H'=>Q .non H',rt:=Q } σ' H':=by
 have sc:=scsLawBody
 have hu:=hu_of hr
 have lenown:(fs.take own).length≤own:=by
  rw [List.length_take]
  omega
 have lo0:=FO.lo (x0,0) (List.mem_cons_self ..)
 refine⟨_,pss_one (ps_ret (pe_tup (pa_cons pe_str (pa_cons (pe_tup (pa_cons pe_str (pa_cons (pe_tup (pa_cons pe_str (pa_cons pe_int pa_nil))) (pa_cons (pv 8) pa_nil)))) (pa_cons (pv 13) (pa_cons (pe_c O_tree hr rfl pass0 (pa_cons (pv 0) (pa_cons (pv 1) (pa_cons (pv 5) (pa_cons (pe_op op_sub (pv 7) pe_int) (pa_cons (pv 6) pa_nil)))))) pa_nil)))))),?_⟩
 rintro σ' Hz ⟨kn,k1,p1,p6,p7,inn,y,rv,re,x14,x15,rfl,k1a,k1b,Bz,tfz,trz,tyz,sz,hz⟩
 refine⟨by show 2≤sizeLine; decide,fun q1 hq1=>⟨_,rfl,by show 3≤sizeLine; decide,fun q2 hq2 => ?_⟩⟩
 have z1:=Drawn.new (o:=.tup [.str "num", .int 0]) Bz.g.d hq1
 have C1:=Bz.step z1
 have z2:=Drawn.new (o:=.tup [.str "less", .ref q1,.ref p1]) C1.g.d hq2
 have C2:=C1.step z2
 have tless:TIn (upd (upd Hz q1 (.tup [.str "num", .int 0])) q2 (.tup [.str "less", .ref q1,.ref p1])) (.ref q2) (.node .less (-1) [.node .num 0 [],.node .name x0 []]):=.bare rfl upd_same (.cons (.leaf rfl (z2.tk C1.g.d _ _ upd_same)) (.cons (tfz.mono ((z1.tk Bz.g.d).trans (z2.tk C1.g.d))) .nil))
 have trz2:=trz.mono ((z1.tk Bz.g.d).trans (z2.tk C1.g.d))
 generalize upd (upd Hz q1 (.tup [.str "num", .int 0])) q2 (.tup [.str "less", .ref q1,.ref p1])=Hy at z2 C2 tless trz2 ⊢
 refine⟨_,rfl,_,rfl,_,rfl,_,rfl,_,rfl,_,_,rfl,rfl,_,rfl,r,m,kn,d,2+k1 - 1,_,rfl,C2.g.d,C2.G,⟨_,C2.kn,FO.kn⟩,FO.hd,by omega,fun v H15 e15 g15 ti15 ty15 hh15=>⟨by show 4≤sizeLine; decide,fun q3 hq3 => ?_⟩⟩
 have C3:=C2.step g15
 have z3:=Drawn.new (o:=.tup [.str "if", .ref q2,rv,v]) C3.g.d hq3
 have tk3:=(g15.tk C2.g.d).trans (z3.tk C3.g.d)
 refine q _ _ (.node .ite (-1) [.node .less (-1) [.node .num 0 [],.node .name x0 []],re,e15]) (C3.g.trans z3) (.bare rfl upd_same (.cons (tless.mono tk3) (.cons (trz2.mono tk3) (.cons (ti15.mono (z3.tk C3.g.d)) .nil)))) ?_ ?_ ?_
 ·exact .ite (.two (by simp) (.num (by decide) (by decide)) (.name lo0.1 lo0.2.1 (FO.kn.ok _ (List.mem_cons_self ..)) (by omega))) tyz (ty15.weak take_get fun _ _ z=>z)
 ·have hl:(Ex.node .less (-1) [.node .num 0 [],.node .name x0 []]).selfs (own:Int)=0:=rfl
  refine⟨?_,.all fun e he => ?_⟩
  ·rw [selfs_eq,selfss_cons,selfss_cons,selfss_cons,selfss_nil,ty15.noself lenown,if_neg (by rintro⟨z,_⟩; cases z)]
   have:=sz.le
   omega
  ·simp only [List.mem_cons,List.not_mem_nil,or_false] at he
   rcases he with rfl | rfl | rfl
   ·exact .zero hl
   ·exact sz.sh
   ·exact .zero (ty15.noself lenown)
 ·refine hgt3 (k:=11) ?_ hz (by omega)
  show 2≤11
  omega
def RD13 (K:PySem.W.Frag) (r:RD) (H:Hp) (m pt t a0:Addr) (o:Obj) (vrest:List V) (x0:Int) (prest:List (Int×Nat)) (d:Nat) (fs:List (List Nat×Nat)) (own:Nat) (σ':L2.St) (H14:Hp):Prop:=∃ (kn:Addr) (k1:Int) (p1 p3 p6 p7 p8 inn:Addr) (y:Int) (v13:V) (vs:List V) (args:List Ex) (e13:Ex) (l':List (Int×Nat)) (H11:Hp),σ'=[some (.ref r.r),some (.ref m),some (.ref t),some (.bl true),some (.ref pt),some (dV d),some (.ref kn),some (.int (2+k1)),some (.ref p1),some (.ref p6),some (.ref p7),some (.int y),some (.ref inn),some (.ref p8),none,none,none,none]∧0≤k1∧k1 < 3 ∧
  (BI K r H H11 m fs own kn ((x0,0)::prest) pt o (.ref a0::vrest)∧H11 inn=none∧Drawn K r H11 H14∧H14 inn=some (.dK (l'.map kvOf))∧l'.length≤20) ∧
  BI K r H H14 m fs own kn ((x0,0)::prest) pt o (.ref a0::vrest)∧TIn H14 (.ref p1) (.node .name x0 [])∧TIn H14 (.ref p8) (.node .elet y [.node .call (own:Int) args,e13])∧H14 p8=some (.tup [.str "let", .int y,.ref p7,v13]) ∧
  TIns H14 ([.ref p3]++vs) args∧H14 p6=some (.lst ([.ref p3]++vs))∧p6≠r.r∧inn≠r.r∧vs.length=(prest.map (·.2)).length ∧
  Ty fs (envOf ((x0,0)::prest)) (.node .elet y [.node .call (own:Int) args,e13]) d∧SelfOk (own:Int) 2 (Ex.node .elet y [.node .call (own:Int) args,e13])∧(Ex.node .elet y [.node .call (own:Int) args,e13]).hgt≤10 ∧
  Ty fs (envOf ((x0,0)::prest)) (.node .call (own:Int) args) d∧(Ex.node .call (own:Int) args).selfs (own:Int)=1∧(Ex.node .call (own:Int) args).hgt≤9∧envOf ((x0,0)::prest) y=none∧0≤y∧y≤19
theorem body_c (hr:Room k (XB P w K mg base f cdv A outer s H E).A) (O_taken:Okf P w K mg base CX0 k "_law_taken" ["_law_row_here", "_law_many"] (spTaken K))
  (O_tree:Okf P w K mg base CX0 k "_law_tree" ["_law_row_here", "_law_m", "_law_depth", "_law_deep", "_law_known"] (spTree K fs own 4))
  (z_dict:mg "dict" = none) (z_range:mg "range" = none) (z_tuple:mg "tuple" = none) (FO:FaceOk ((x0,0)::prest) d) (few:own≤5) (hfs:fs[own]? = some (((x0,0)::prest).map (·.2),d))
  (q:∀ (v:V) (H':Hp) (e:Ex),Drawn K r H H'→TIn H' v e→Ty fs (envOf ((x0,0)::prest)) e d→SelfOk (own:Int) 3 e→e.hgt≤12→Q v H') :
  ∃ t13,PSs (XB P w K mg base f cdv A outer s H E) ((defBody sLawBody).drop 13) t13∧∀ σ' H',RD13 K r H m pt t a0 o vrest x0 prest d fs own σ' H'→t13 { nx:=fun _ H'=>Q .non H',rt:=Q } σ' H':=by
 obtain⟨t14,p14,rest⟩:=body_d hr O_taken O_tree z_dict z_range z_tuple FO few hfs q (m:=m) (pt:=pt) (t:=t) (a0:=a0) (o:=o) (vrest:=vrest)
 have sc:=scsLawBody
 have hu:=hu_of hr
 have lenown:(fs.take own).length≤own:=by
  rw [List.length_take]
  omega
 have lo0:=FO.lo (x0,0) (List.mem_cons_self ..)
 have fewp:prest.length≤3:=by
  have:=FO.few
  simp only [List.length_cons] at this
  omega
 refine⟨_,(pss_cons (ps_if (PW.pt (pw_and (pt_cmpR op_gt (pv 5) pe_int (nomark _)) (pw_and1 (pt_cmpR op_eq (pe_c O_taken hr rfl pass0 (pa_cons (pv 0) (pa_cons pe_int pa_nil))) pe_int (nomark _))))) (pss_cons (ps_dput hu (pv 12) (pv 11) pe_int rfl)
  (pss_cons (ps_set (i:=14) sc.nd rfl (.inl rfl) (pe_tup (pa_cons pe_str (pa_cons (pe_dget hu (pv 1) pe_str (fun _ _=>rfl)) (pa_cons (pe_callTy (call_tupleK K) rfl z_tuple (by decide +kernel) (pa_cons (pe_op op_cat (pe_slice (sl_listK K) (pv 9) po_none (po_some pe_int)) (pe_slice (sl_listK K) (pv 9) (po_some pe_int) po_none)) pa_nil)) pa_nil)))))
  (pss_cons (ps_set (i:=15) sc.nd rfl (.inl rfl) (pe_tup (pa_cons pe_str (pa_cons (pe_tup (pa_cons pe_str (pa_cons (pe_op op_add pe_int (pe_c O_taken hr rfl pass0 (pa_cons (pv 0) (pa_cons pe_int pa_nil)))) pa_nil))) pa_nil))))
  (pss_cons (ps_set (i:=13) sc.nd rfl (.inl rfl) (pe_ifExp (pt_cmpR op_lt (pv 5) pe_int (nomark _)) (pe_tup (pa_cons pe_str (pa_cons (pv 11) (pa_cons (pv 15) (pa_cons (pv 14) pa_nil))))) (pv 13)))
  (pss_one (ps_set (i:=13) sc.nd rfl (.inl rfl) (pe_ifExp (pt_cmpR op_eq (pe_ix (ix_tupK K) (pv 13) pe_int (fun _ _=>rfl)) pe_str (nomark _)) (pe_tup (pa_cons pe_str (pa_cons (pv 13) pa_nil))) (pv 13)))))))) pss_nil)
  p14),?_⟩
 rintro σ' H14 ⟨kn,k1,p1,p3,p6,p7,p8,inn,y,v13,vs,args,e13,l',H11,rfl,k1a,k1b,⟨Bc,hinn,gcf,eif,few'⟩,Bf,tff,trest,erest,targsf,e6f,np6,nin,ev,tyrest,srest,hrest,tycall,scall,hcall,hρ,y0,y1⟩
 have nox:∀ (H':Hp),Drawn K r H14 H'→_:=fun H' g'=>rest _ H' ⟨kn,k1,p1,p6,p7,inn,y,.ref p8,_,none,none,rfl,k1a,k1b,Bf.step g',tff.mono (g'.tk Bf.g.d),trest.mono (g'.tk Bf.g.d),tyrest,srest,by omega⟩
 refine⟨_,rfl,_,_,rfl,rfl,_,rfl,?_⟩
 refine ite2 (fun c => ?_) (fun c=>ite2 (fun z=>nomatch z) (fun _=>nox H14 (.refl Bf.g.d)))
 have d0:0 < d:=by
  have:(0:Int) < (d:Int):=of_decide_eq_true c
  omega
 obtain⟨d,rfl⟩:∃ d',d=d'+1:=⟨d - 1,by omega⟩
 refine⟨_,rfl,r,2,rfl,Bf.g.d,by decide,by decide,fun k2 H15 k2a k2b g15=>⟨rfl,_,rfl,?_⟩⟩
 refine ite2 (fun c => ?_) (fun c=>nox H15 g15)
 have ei15:=g15.s _ _ nin eif
 refine⟨_,rfl,_,rfl,inn,_,rfl,DPut.k (k:=Sum.inl y) ei15 ?_,?_⟩
 ·rw [List.length_map]
  have:=few'
  exact small1000 (by omega)
 have B16:=Bc.step ((gcf.trans g15).put (o:=.dK (putK (l'.map kvOf) (Sum.inl y) (.int 0))) Bc.g.d hinn)
 have tk16:=(g15.tk Bf.g.d).trans (TK.dict (b:=putK (l'.map kvOf) (Sum.inl y) (.int 0)) ei15)
 have tf16:=tff.mono tk16
 have trest16:=trest.mono tk16
 have erest16:=tk16 _ _ erest
 have targs16:=targsf.mono tk16
 have e616:upd H15 inn (.dK (putK (l'.map kvOf) (Sum.inl y) (.int 0))) p6=some (.lst ([.ref p3]++vs)):=(upd_ne (ne_of e6f eif (by intro z; cases z))).trans (g15.s _ _ np6 e6f)
 generalize upd H15 inn (.dK (putK (l'.map kvOf) (Sum.inl y) (.int 0)))=H16 at B16 tk16 tf16 trest16 erest16 targs16 e616 ⊢
 clear g15 tk16 tff trest erest targsf e6f eif ei15 gcf nox Bf
 obtain⟨fl9,xs9,em9,efl9,fi9,nfl9⟩:=B16.G.ex
 refine⟨_,rfl,m,_,rfl,dget em9 val_own,_,rfl,_,rfl,p6,_,rfl,SqL.of e616,fun s1 hs1=>⟨_,rfl,_,rfl,p6,_,rfl,SqL.of (same_new hs1 _ _ _ e616),fun s2 hs2 => ?_⟩⟩
 clear em9 efl9 fi9 nfl9
 have ec1:cutV ([.ref p3]++vs) none (some 1)=[.ref p3]:=cut01 _ _
 have ec2:cutV ([.ref p3]++vs) (some 1) none=vs:=cut1 _ _
 rw [ec1] at hs2
 rw [ec1,ec2]
 have w1:=Drawn.new (o:=.lst [.ref p3]) B16.g.d hs1
 have C1:=B16.step w1
 have w2:=Drawn.new (o:=.lst vs) C1.g.d hs2
 have C2:=C1.step w2
 refine⟨s1,s2,_,_,rfl,rfl,w2.s _ _ (Drawn.ne B16.g.d hs1) upd_same,upd_same,?_,fun s3 hs3=>⟨s3,_,rfl,.inl ⟨SqL.of upd_same,fun s4 hs4=>⟨by show 3≤sizeLine; decide,fun s5 hs5 => ?_⟩⟩⟩⟩
 ·refine le2 ?_
  rw [ev,List.length_map]
  show 1+prest.length≤1000
  omega
 have w3:=Drawn.new (o:=.lst ([.ref p3]++vs)) C2.g.d hs3
 have C3:=C2.step w3
 have w4:=Drawn.new (o:=.tup ([.ref p3]++vs)) C3.g.d hs4
 have C4:=C3.step w4
 have w5:=Drawn.new (o:=.tup [.str "call", .int (own:Int),.ref s4]) C4.g.d hs5
 have C5:=C4.step w5
 have tk5:=((w1.tk B16.g.d).trans (w2.tk C1.g.d)).trans ((w3.tk C2.g.d).trans ((w4.tk C3.g.d).trans (w5.tk C4.g.d)))
 have tf17:=tf16.mono tk5
 have trest17:=trest16.mono tk5
 have erest17:=tk5 _ _ erest16
 have tb17:TIn (upd (upd (upd (upd (upd H16 s1 (.lst [.ref p3])) s2 (.lst vs)) s3 (.lst ([.ref p3]++vs))) s4 (.tup ([.ref p3]++vs))) s5 (.tup [.str "call", .int (own:Int),.ref s4])) (.ref s5) (.node .call (own:Int) args):=.call upd_same (w5.tk C4.g.d _ _ upd_same) (targs16.mono tk5)
 generalize upd (upd (upd (upd (upd H16 s1 (.lst [.ref p3])) s2 (.lst vs)) s3 (.lst ([.ref p3]++vs))) s4 (.tup ([.ref p3]++vs))) s5 (.tup [.str "call", .int (own:Int),.ref s4])=H17 at w5 C5 tk5 tf17 trest17 erest17 tb17 ⊢
 clear w1 w2 w3 w4 C1 C2 C3 C4 tf16 trest16 erest16 targs16 e616 B16 hs2 hs3 hs4
 refine⟨_,rfl,r,2,rfl,C5.g.d,by decide,by decide,fun k3 H18 k3a k3b g18=>⟨_,_,rfl,rfl,by show 2≤sizeLine; decide,fun u1 hu1=>⟨by show 2≤sizeLine; decide,fun u2 hu2 => ?_⟩⟩⟩
 have C6:=C5.step g18
 have w6:=Drawn.new (o:=.tup [.str "num", .int (1+k3)]) C6.g.d hu1
 have C7:=C6.step w6
 have w7:=Drawn.new (o:=.tup [.str "upto", .ref u1]) C7.g.d hu2
 have C8:=C7.step w7
 have tk8:=(g18.tk C5.g.d).trans ((w6.tk C6.g.d).trans (w7.tk C7.g.d))
 have tf19:=tf17.mono tk8
 have trest19:=trest17.mono tk8
 have erest19:=tk8 _ _ erest17
 have tb19:=tb17.mono tk8
 have tu19:TIn (upd (upd H18 u1 (.tup [.str "num", .int (1+k3)])) u2 (.tup [.str "upto", .ref u1])) (.ref u2) (.node .upto (-1) [.node .num (1+k3) []]):=.bare rfl upd_same (.cons (.leaf rfl (w7.tk C7.g.d _ _ upd_same)) .nil)
 generalize upd (upd H18 u1 (.tup [.str "num", .int (1+k3)])) u2 (.tup [.str "upto", .ref u1])=H19 at w7 C8 tk8 tf19 trest19 erest19 tb19 tu19 ⊢
 clear w6 C6 C7 tf17 trest17 erest17 tb17 g18 C5
 refine⟨_,rfl,_,_,rfl,rfl,_,rfl,ite2 (fun c => ?_) (fun c => ?_)⟩
 ·have d2:((d+1:Nat):Int) < 3:=of_decide_eq_true c
  refine⟨_,rfl,_,rfl,_,rfl,by show 4≤sizeLine; decide,fun x1 hx1 => ?_⟩
  have w8:=Drawn.new (o:=.tup [.str "each", .int y,.ref u2,.ref s5]) C8.g.d hx1
  have C9:=C8.step w8
  refine⟨_,rfl,x1,_,_,_,rfl,rfl,SqT.of upd_same,at0,rfl,_,rfl,ite2 (fun c => ?_) (fun c=>absurd rfl c)⟩
  refine⟨_,rfl,by show 2≤sizeLine; decide,fun x2 hx2 => ?_⟩
  have w9:=Drawn.new (o:=.tup [.str "flat", .ref x1]) C9.g.d hx2
  have tk10:=(w8.tk C8.g.d).trans (w9.tk C9.g.d)
  have tyb:Ty fs (ups (envOf ((x0,0)::prest)) y 0) (.node .call (own:Int) args) (d+1):=tycall.weak (fun _ _ z=>z) fun z c hz=>by
   unfold ups
   by_cases e:z=y
   ·rw [e,hρ] at hz
    cases hz
   ·rw [if_neg e]
    exact hz
  refine rest _ _ ⟨kn,k1,p1,p6,p7,inn,y,.ref x2,.node .flat (-1) [.node .each y [.node .upto (-1) [.node .num (1+k3) []],.node .call (own:Int) args]],_,_,rfl,k1a,k1b,C9.step w9,tf19.mono tk10,?_,?_,?_,?_⟩
  ·exact .bare rfl upd_same (.cons (.bind rfl (w9.tk C9.g.d _ _ upd_same) (.cons (tu19.mono tk10) (.cons (tb19.mono tk10) .nil))) .nil)
  ·exact .flat (.each (d1:=0) y0 y1 (.upto (.num (by omega) (by omega))) tyb (by omega))
  ·have hu0:(Ex.node .upto (-1) [.node .num (1+k3) []]).selfs (own:Int)=0:=rfl
   refine⟨?_,.all fun e he => ?_⟩
   ·rw [selfs_eq,selfss_cons,selfss_nil,selfs_eq,selfss_cons,selfss_cons,selfss_nil,scall]
    rw [hu0,if_neg (by rintro⟨z,_⟩; cases z),if_neg (by rintro⟨z,_⟩; cases z)]
    omega
   ·rw [List.mem_singleton.mp he]
    refine .all fun e he => ?_
    simp only [List.mem_cons,List.not_mem_nil,or_false] at he
    rcases he with rfl | rfl
    ·exact .zero hu0
    ·exact .own
  ·refine hgt1 (k:=10) (hgt2 (k:=9) ?_ hcall)
   show 2≤9
   omega
 ·refine⟨_,rfl,_,rfl,p8,_,_,_,rfl,rfl,SqT.of erest19,at0,rfl,_,rfl,ite2 (fun c=>absurd c (by decide)) (fun c => ?_)⟩
  exact⟨_,rfl,rest _ _ ⟨kn,k1,p1,p6,p7,inn,y,.ref p8,_,_,_,rfl,k1a,k1b,C8,tf19,trest19,tyrest,srest,by omega⟩⟩
def RD8 (K:PySem.W.Frag) (r:RD) (H:Hp) (m pt t a0:Addr) (o:Obj) (vrest:List V) (x0:Int) (prest:List (Int×Nat)) (d:Nat) (fs:List (List Nat×Nat)) (own:Nat) (σ':L2.St) (H9:Hp):Prop:=∃ (kn:Addr) (k1:Int) (p1 p3 p6:Addr) (vs:List V) (args:List Ex),σ'=[some (.ref r.r),some (.ref m),some (.ref t),some (.bl true),some (.ref pt),some (dV d),some (.ref kn),some (.int (2+k1)),some (.ref p1),some (.ref p6),none,none,none,none,none,none,none,none]∧0≤k1∧k1 < 3 ∧
  BI K r H H9 m fs own kn ((x0,0)::prest) pt o (.ref a0::vrest)∧TIn H9 (.ref p1) (.node .name x0 [])∧TIns H9 ([.ref p3]++vs) args∧H9 p6=some (.lst ([.ref p3]++vs))∧p6≠r.r∧vs.length=(prest.map (·.2)).length ∧
  Tys fs (envOf ((x0,0)::prest)) args (((x0,0)::prest).map (·.2))∧selfss (own:Int) args=0∧hgts args≤8
theorem body_b (hr:Room k (XB P w K mg base f cdv A outer s H E).A) (O_taken:Okf P w K mg base CX0 k "_law_taken" ["_law_row_here", "_law_many"] (spTaken K))
  (O_tree:Okf P w K mg base CX0 k "_law_tree" ["_law_row_here", "_law_m", "_law_depth", "_law_deep", "_law_known"] (spTree K fs own 4))
  (z_dict:mg "dict" = none) (z_range:mg "range" = none) (z_tuple:mg "tuple" = none) (FO:FaceOk ((x0,0)::prest) d) (few:own≤5) (hfs:fs[own]? = some (((x0,0)::prest).map (·.2),d))
  (q:∀ (v:V) (H':Hp) (e:Ex),Drawn K r H H'→TIn H' v e→Ty fs (envOf ((x0,0)::prest)) e d→SelfOk (own:Int) 3 e→e.hgt≤12→Q v H') :
  ∃ t8,PSs (XB P w K mg base f cdv A outer s H E) ((defBody sLawBody).drop 8) t8∧∀ σ' H',RD8 K r H m pt t a0 o vrest x0 prest d fs own σ' H'→t8 { nx:=fun _ H'=>Q .non H',rt:=Q } σ' H':=by
 obtain⟨t13,p13,rest⟩:=body_c hr O_taken O_tree z_dict z_range z_tuple FO few hfs q (m:=m) (pt:=pt) (t:=t) (a0:=a0) (o:=o) (vrest:=vrest)
 have sc:=scsLawBody
 have hu:=hu_of hr
 have lenown:(fs.take own).length≤own:=by
  rw [List.length_take]
  omega
 have lo0:=FO.lo (x0,0) (List.mem_cons_self ..)
 refine⟨_,(pss_cons (ps_set (i:=10) sc.nd rfl (.inl rfl) (pe_tup (pa_cons pe_str (pa_cons (pe_dget hu (pv 1) pe_str (fun _ _=>rfl)) (pa_cons (pe_callTy (call_tupleK K) rfl z_tuple (by decide +kernel) (pa_cons (pv 9) pa_nil)) pa_nil)))))
  (pss_cons (ps_set (i:=11) sc.nd rfl (.inl rfl) (pe_ix (ix_listK K) (pe_lc (own:=[("_law_name", 16)]) (by rfl) sc.nd (pi_range1 rfl z_range (pa_cons pe_int pa_nil)) (blkOk_by (own:=[("_law_name", 16)]) (N:=["_law_row_here", "_law_m", "_law_face_here", "_law_itself", "_law_params", "_law_told", "_law_known", "_law_deep", "_law_first", "_law_some", "_law_call", "_law_free", "_law_inner", "_law_rest", "_law_body_here", "_law_row_up", "_law_name", "_law_depth"]) (sc:=defScope sLawBody) (by decide +kernel)) (fun _ _ _ _ _=>(pg_name (i:=16) sc.nd rfl (.inl rfl))) (fun _ _ _ _ _=>(pts_one (pt_cmp (pc_dnotin hu (pv 16) (pv 6))))) (fun _ _ _ _ _=>(pv 16))) pe_int (fun _ _=>rfl)))
  (pss_cons (ps_set (i:=12) sc.nd rfl (.inl rfl) (pe_callTy call_dictD rfl z_dict (by decide +kernel) (pa_cons (pv 6) pa_nil)))
  (pss_cons (ps_dput hu (pv 12) (pv 11) (pv 5) rfl)
  (pss_cons (ps_set (i:=13) sc.nd rfl (.inl rfl) (pe_tup (pa_cons pe_str (pa_cons (pv 11) (pa_cons (pv 10) (pa_cons (pe_c O_tree hr rfl pass0 (pa_cons (pv 0) (pa_cons (pv 1) (pa_cons (pv 5) (pa_cons (pe_op op_sub (pv 7) pe_int) (pa_cons (pv 12) pa_nil)))))) pa_nil))))))
  p13))))),?_⟩
 rintro σ' H9 ⟨kn,k1,p1,p3,p6,vs,args,rfl,k1a,k1b,B9,tf9,targs9,e69,np6,ev,tyargs,sargs,hargs⟩
 obtain⟨fl9,xs9,em9,efl9,fi9,nfl9⟩:=B9.G.ex
 refine⟨_,rfl,m,_,rfl,dget em9 val_own,_,rfl,p6,_,rfl,.inl ⟨SqL.of e69,fun l1 hl1=>⟨by show 3≤sizeLine; decide,fun p7 hp7 => ?_⟩⟩⟩
 clear em9 efl9 fi9 nfl9
 have ga:=Drawn.new (o:=.tup ([.ref p3]++vs)) B9.g.d hl1
 have Ba:=B9.step ga
 have gb:=Drawn.new (o:=.tup [.str "call", .int (own:Int),.ref l1]) Ba.g.d hp7
 have Bb:=Ba.step gb
 have tkb:=(ga.tk B9.g.d).trans (gb.tk Ba.g.d)
 have tfb:=tf9.mono tkb
 have tcall:TIn (upd (upd H9 l1 (.tup ([.ref p3]++vs))) p7 (.tup [.str "call", .int (own:Int),.ref l1])) (.ref p7) (.node .call (own:Int) args):=.call upd_same (gb.tk Ba.g.d _ _ upd_same) (targs9.mono tkb)
 have e6b:=(ga.trans gb).s _ _ np6 e69
 generalize upd (upd H9 l1 (.tup ([.ref p3]++vs))) p7 (.tup [.str "call", .int (own:Int),.ref l1])=H10 at gb Bb tkb tfb tcall e6b ⊢
 have targsb:=targs9.mono tkb
 clear ga Ba B9 tf9 e69 targs9
 have hcall:(Ex.node .call (own:Int) args).hgt≤9:=by
  simp only [Ex.hgt]
  omega
 have tycall:Ty fs (envOf ((x0,0)::prest)) (.node .call (own:Int) args) d:=.call (by omega) hfs tyargs
 have scall:(Ex.node .call (own:Int) args).selfs (own:Int)=1:=by
  rw [selfs_eq,sargs,if_pos ⟨rfl,rfl⟩]
 
 refine⟨20,rfl,by decide,by decide,fun D2 hD2 => ?_⟩
 have nD2:D2≠r.r:=Drawn.ne Bb.g.d hD2
 refine lc_range (lo:=0) (n:=20) (fun i H'=>∃ ns:List Int,H'=upd H10 D2 (.lst (ns.map V.int))∧ns.length≤i∧(∀ x∈ns,0≤x∧x≤19∧∀ p∈(x0,0)::prest,p.1≠x)∧∀ j:Nat,j < i→(j:Int)∈ns∨∃ p∈(x0,0)::prest,p.1=(j:Int))
  ⟨[],rfl,Nat.le_refl _,fun x hx=>by (cases hx),fun j hj=>absurd hj (Nat.not_lt_zero _)⟩ ?_ ?_
 ·rintro i H' hi ⟨ns,rfl,hl,hb,hj⟩
  have ekn:upd H10 D2 (.lst (ns.map V.int)) kn=some (.dK (((x0,0)::prest).map kvOf)):=(upd_ne (ne_of_none Bb.kn hD2)).trans Bb.kn
  refine⟨rfl,?_⟩
  refine⟨_,rfl,_,rfl,kn,_,rfl,DGet.k (k:=Sum.inl (0+(i:Int))) ekn,_,rfl,?_⟩
  rw [valV_some,Int.zero_add]
  refine ite2 (fun c => ?_) (fun c => ?_)
  ·have c1:∀ p∈(x0,0)::prest,p.1≠(i:Int):=fun p hp e=>by
    have:((x0,0)::prest).any (fun p=>decide (p.1=(i:Int)))=true:=List.any_eq_true.mpr ⟨p,hp,decide_eq_true e⟩
    rw [this] at c
    cases c
   refine⟨_,rfl,_,upd_same,?_,ns++[(i:Int)],?_,?_,?_,?_⟩
   ·rw [List.length_map]
    exact small1000 (by omega)
   ·rw [upd_upd,List.map_append]
    rfl
   ·rw [List.length_append]
    exact Nat.succ_le_succ hl
   ·intro x hx
    rcases List.mem_append.mp hx with hx | hx
    ·exact hb x hx
    ·rw [List.mem_singleton.mp hx]
     exact⟨by omega,by omega,c1⟩
   ·intro j hj2
    by_cases e:j=i
    ·exact .inl (List.mem_append.mpr (.inr (by rw [e]; exact List.mem_singleton.mpr rfl)))
    ·rcases hj j (by omega) with h | h
     ·exact .inl (List.mem_append.mpr (.inl h))
     ·exact .inr h
  ·refine⟨ns,rfl,Nat.le_succ_of_le hl,hb,fun j hj2 => ?_⟩
   by_cases e:j=i
   ·right
    have c2:((x0,0)::prest).any (fun p=>decide (p.1=(i:Int)))=true:=by
     cases e2:((x0,0)::prest).any (fun p=>decide (p.1=(i:Int))) with
     | true=>rfl
     | false =>
      rw [e2] at c
      exact absurd rfl c
    obtain⟨p,hp,hp2⟩:=List.any_eq_true.mp c2
    exact⟨p,hp,by rw [e]; exact of_decide_eq_true hp2⟩
   ·exact hj j (by omega)
 rintro H11 ⟨ns,rfl,hl,hb,hj⟩
 have hne:ns≠[]:=fun z=>by
  have h1:=sub_len (l1:=(List.range 20).map fun (j:Nat)=>(j:Int)) (l2:=((x0,0)::prest).map (·.1)) (range_map_nodup 20) fun x hx=>by
   obtain⟨j,hj1,rfl⟩:=List.mem_map.mp hx
   rcases hj j (List.mem_range.mp hj1) with h | ⟨p,hp,h⟩
   ·rw [z] at h
    cases h
   ·exact List.mem_map.mpr ⟨p,hp,h⟩
  rw [List.length_map,List.length_map,List.length_range] at h1
  have:=FO.few
  omega
 obtain⟨y,ys,ens⟩:∃ y ys,ns=y::ys:=by
  cases ns with
  | nil=>exact absurd rfl hne
  | cons y ys=>exact⟨y,ys,rfl⟩
 subst ens
 obtain⟨y0,y1,yn⟩:=hb y (List.mem_cons_self ..)
 have gc:=Drawn.new (o:=.lst ((y::ys).map V.int)) Bb.g.d hD2
 have Bc:=Bb.step gc
 have tfc:=tfb.mono (gc.tk Bb.g.d)
 have tcallc:=tcall.mono (gc.tk Bb.g.d)
 have targsc:=targsb.mono (gc.tk Bb.g.d)
 have e6c:=gc.s _ _ np6 e6b
 refine⟨D2,_,_,_,rfl,rfl,SqL.of upd_same,at0,?_⟩
 generalize upd H10 D2 (.lst ((y::ys).map V.int))=H11 at gc Bc tfc tcallc targsc e6c ⊢
 clear tfb tcall targsb e6b gb tkb
 have hρ:envOf ((x0,0)::prest) y=none:=envOf_none yn
 
 refine⟨_,rfl,kn,_,rfl,.inl Bc.kn,fun inn hinn => ?_⟩
 obtain⟨l',el',ok'⟩:=putK_kn (x:=y) (d:=d) FO.kn y0 y1 FO.hd
 refine⟨_,rfl,_,rfl,_,rfl,inn,_,rfl,DPut.k (k:=Sum.inl y) upd_same ?_,?_⟩
 ·rw [List.length_map]
  have:=FO.few
  exact small1000 (by omega)
 rw [upd_upd]
 have el2:putK (((x0,0)::prest).map kvOf) (Sum.inl y) (dV d)=l'.map kvOf:=el'
 rw [el2]
 have gd:=Drawn.new (o:=.dK (l'.map kvOf)) Bc.g.d hinn
 have Bd:=Bc.step gd
 have eid:upd H11 inn (.dK (l'.map kvOf)) inn=some (.dK (l'.map kvOf)):=upd_same
 have nin:inn≠r.r:=Drawn.ne Bc.g.d hinn
 have tfd:=tfc.mono (gd.tk Bc.g.d)
 have tcalld:=tcallc.mono (gd.tk Bc.g.d)
 have targsd:=targsc.mono (gd.tk Bc.g.d)
 have e6d:=gd.s _ _ np6 e6c
 generalize upd H11 inn (.dK (l'.map kvOf))=H12 at gd Bd eid tfd tcalld targsd e6d ⊢
 refine⟨_,rfl,_,rfl,_,rfl,_,rfl,_,rfl,_,rfl,_,_,rfl,rfl,_,rfl,r,m,inn,d,2+k1 - 1,_,rfl,Bd.g.d,Bd.G,⟨l',eid,ok'⟩,FO.hd,by omega,fun v13 H13 e13 ge ti13 ty13 hh13=>⟨by show 4≤sizeLine; decide,fun p8 hp8 => ?_⟩⟩
 have Be:=Bd.step ge
 have gf:=Drawn.new (o:=.tup [.str "let", .int y,.ref p7,v13]) Be.g.d hp8
 have Bf:=Be.step gf
 have tkf:=(ge.tk Bd.g.d).trans (gf.tk Be.g.d)
 have tff:=tfd.mono tkf
 have trest:TIn (upd H13 p8 (.tup [.str "let", .int y,.ref p7,v13])) (.ref p8) (.node .elet y [.node .call (own:Int) args,e13]):=.bind rfl upd_same (.cons (tcalld.mono tkf) (.cons (ti13.mono (gf.tk Be.g.d)) .nil))
 have erest:upd H13 p8 (.tup [.str "let", .int y,.ref p7,v13]) p8=some (.tup [.str "let", .int y,.ref p7,v13]):=upd_same
 have targsf:=targsd.mono tkf
 have e6f:=(ge.trans gf).s _ _ np6 e6d
 have eif:=(ge.trans gf).s _ _ nin eid
 have gcf:=gd.trans (ge.trans gf)
 generalize upd H13 p8 (.tup [.str "let", .int y,.ref p7,v13])=H14 at gf Bf tkf tff trest erest targsf e6f eif gcf ⊢
 clear tfd tcalld targsd e6d eid ge Be tfc tcallc targsc e6c
 have tyrest:Ty fs (envOf ((x0,0)::prest)) (.node .elet y [.node .call (own:Int) args,e13]) d:=.elet y0 y1 tycall (ty13.weak take_get fun _ _ z=>z)
 have srest:SelfOk (own:Int) 2 (Ex.node .elet y [.node .call (own:Int) args,e13]):=by
  refine⟨?_,.all fun e he => ?_⟩
  ·rw [selfs_eq,selfss_cons,selfss_cons,selfss_nil,scall,ty13.noself lenown,if_neg (by rintro⟨z,_⟩; cases z)]
   omega
  ·simp only [List.mem_cons,List.not_mem_nil,or_false] at he
   rcases he with rfl | rfl
   ·exact .own
   ·exact .zero (ty13.noself lenown)
 have hrest:(Ex.node .elet y [.node .call (own:Int) args,e13]).hgt≤10:=hgt2 hcall (by omega)
 exact rest _ _ ⟨kn,k1,p1,p3,p6,p7,p8,inn,y,v13,vs,args,e13,l',H11,rfl,k1a,k1b,⟨Bc,hinn,gcf,eif,ok'.few⟩,Bf,tff,trest,erest,targsf,e6f,np6,nin,ev,tyrest,srest,hrest,tycall,scall,hcall,hρ,y0,y1⟩
end
section
variable {P:Program}{w:World}{K:PySem.W.Frag}{mg:Str→Option Value}{base:Heap}{f:Addr}{fd:FuncData}
theorem ok_body {k:Nat}{fs:List (List Nat×Nat)} {own:Nat}(F:FnP K "_law_body" sLawBody f fd) (O_taken:Okf P w K mg base CX0 k "_law_taken" ["_law_row_here", "_law_many"] (spTaken K))
  (O_tree:Okf P w K mg base CX0 k "_law_tree" ["_law_row_here", "_law_m", "_law_depth", "_law_deep", "_law_known"] (spTree K fs own 4))
  (z_dict:mg "dict" = none) (z_range:mg "range" = none) (z_tuple:mg "tuple" = none):FnOk P w K mg base CX0 (k+1) f fd ["_law_row_here", "_law_m", "_law_face_here", "_law_itself"] (spBody K fs own):=by
 have sc:=scsLawBody
 refine F.ok sc (fun vs H Q E h => ?_) (fun cdv A outer s H vs Q E hr h => ?_)
 ·obtain⟨r,m,fv,b,ps,d,rfl,_⟩:=h
  rfl
 have hu:=hu_of hr
 obtain⟨r,m,fv,b,ps,d,rfl,dr,G,FI,FO,FT,hfs,q⟩:=h
 obtain⟨t,pt,o,pvs,rfl,et,ept,hdn,pin⟩:=FI.ex
 obtain⟨as,eas,prd⟩:=pin.paired (K:=K)
 have lenown:(fs.take own).length≤own:=by
  rw [List.length_take]
  omega
 have few:=G.few
 obtain⟨x0,prest,eps⟩:=FT
 subst eps
 have key:∃ a0 vrest,pvs=.ref a0::vrest:=by
  cases pin with
  | cons h r=>exact⟨_,_,rfl⟩
 obtain⟨a0,vrest,epv⟩:=key
 subst epv
 obtain⟨t8,p8,rest⟩:=body_b (cdv:=cdv) (A:=A) (outer:=outer) (s:=s) (H:=H) (E:=E) (f:=f) hr O_taken O_tree z_dict z_range z_tuple FO few hfs q (m:=m) (pt:=pt) (t:=t) (a0:=a0) (o:=o) (vrest:=vrest)
 refine⟨_,PSs.nox (pss_cons (ps_asg (pv 2) (pg_tupK K (n:=2) rfl (pgs_cons (pg_name (i:=4) sc.nd rfl (.inl rfl)) (pgs_cons (pg_name (i:=5) sc.nd rfl (.inl rfl)) pgs_nil))))
  (pss_cons (ps_set (i:=6) sc.nd rfl (.inr rfl) (pe_callTy (call_dictT K rfl) rfl z_dict (by decide +kernel) (pa_cons (pv 4) pa_nil)))
  (pss_cons (ps_set (i:=7) sc.nd rfl (.inl rfl) (pe_op op_add pe_int (pe_c O_taken hr rfl pass0 (pa_cons (pv 0) (pa_cons pe_int pa_nil)))))
  (pss_cons (ps_dput hu (pv 1) pe_str pe_int rfl)
  (pss_cons (ps_if (pt_not (pt_val (pv 3))) (pss_one (ps_ret (pe_c O_tree hr rfl pass0 (pa_cons (pv 0) (pa_cons (pv 1) (pa_cons (pv 5) (pa_cons (pv 7) (pa_cons (pv 6) pa_nil)))))))) pss_nil)
  (pss_cons (ps_set (i:=8) sc.nd rfl (.inl rfl) (pe_tup (pa_cons pe_str (pa_cons (pe_ix (ix_tupK K) (pe_ix (ix_tupK K) (pv 4) pe_int (fun _ _=>rfl)) pe_int (fun _ _=>rfl)) pa_nil))))
  (pss_cons (ps_set (i:=9) sc.nd rfl (.inl rfl) (pe_lst (pa_cons (pe_tup (pa_cons pe_str (pa_cons (pv 8) (pa_cons (pe_tup (pa_cons pe_str (pa_cons pe_int pa_nil))) pa_nil)))) pa_nil)))
  (pss_cons (ps_set (i:=9) sc.nd rfl (.inl rfl) (pe_op op_cat (pv 9) (pe_lc (own:=[("_law_name", 16),("_law_depth", 17)]) (by rfl) sc.nd (pi_tupK K (pe_slice (sl_tupK K) (pv 4) (po_some pe_int) po_none)) (blkOk_by (own:=[("_law_name", 16),("_law_depth", 17)]) (N:=["_law_row_here", "_law_m", "_law_face_here", "_law_itself", "_law_params", "_law_told", "_law_known", "_law_deep", "_law_first", "_law_some", "_law_call", "_law_free", "_law_inner", "_law_rest", "_law_body_here", "_law_row_up", "_law_name", "_law_depth"]) (sc:=defScope sLawBody) (by decide +kernel)) (fun _ _ _ _ _=>(pg_tupK K (n:=2) rfl (pgs_cons (pg_name (i:=16) sc.nd rfl (.inl rfl)) (pgs_cons (pg_name (i:=17) sc.nd rfl (.inl rfl)) pgs_nil)))) (fun _ _ _ _ _=>pts_nil) (fun _ _ _ _ _=>(pe_c O_tree hr rfl pass0 (pa_cons (pv 0) (pa_cons (pv 1) (pa_cons (pv 17) (pa_cons pe_int (pa_cons (pv 6) pa_nil))))))))))
  p8)))))))),?_⟩
 refine⟨_,rfl,t,_,rfl,SqT.of et,rfl,_,_,rfl,_,_,rfl,rfl,?_⟩
 refine⟨_,rfl,pt,o,as,_,rfl,by rw [← eas]; exact ept,hdn,prd,fun kn hkn => ?_⟩
 have em0:mergeK [] (((x0,0)::prest).map kvOf)=((x0,0)::prest).map kvOf:=mergeK_kn (acc:=[]) FO.nd
 rw [em0]
 have npt:pt≠kn:=ne_of_none ept hkn
 have gk:=Drawn.new (o:=.dK (((x0,0)::prest).map kvOf)) dr hkn
 have B1:BI K r H (upd H kn (.dK (((x0,0)::prest).map kvOf))) m fs own kn ((x0,0)::prest) pt o (.ref a0::vrest):=⟨gk,gk.gen dr G,upd_same,(upd_ne npt).trans ept,pin.mono (gk.tk dr)⟩
 generalize upd H kn (.dK (((x0,0)::prest).map kvOf))=H1 at B1 ⊢
 refine⟨_,rfl,r,3,rfl,B1.g.d,by decide,by decide,fun k1 H2 k1a k1b g2=>⟨_,_,rfl,rfl,?_⟩⟩
 have B2:=B1.step g2
 obtain⟨fl,xs,em,efl,fi,nfl⟩:=B2.G.ex
 refine⟨_,rfl,m,_,rfl,DPut.k (k:=Sum.inr "left") em (by show 3 < sizeLine; decide),?_⟩
 rw [put_left,upd_id em]
 clear em efl fi nfl fl xs
 refine⟨_,rfl,b,rfl,?_⟩
 cases b with
 | false =>
  refine ite2 (fun _ => ?_) (fun c=>absurd rfl c)
  refine⟨_,rfl,_,rfl,_,rfl,_,rfl,_,rfl,r,m,kn,d,2+k1,envOf ((x0,0)::prest),rfl,B2.g.d,B2.G,⟨_,B2.kn,FO.kn⟩,FO.hd,by omega,fun v H3 e g3 ti ty hh => ?_⟩
  exact q v H3 e (B2.g.trans g3) ti (ty.weak take_get fun _ _ z=>z) (.zero (ty.noself lenown)) (by omega)
 | true =>
 refine ite2 (fun c=>nomatch c) (fun _ => ?_)
 have ea2:H2 a0=some (.tup [.int x0,dV 0])∧PIns H2 vrest prest:=by
  cases B2.pin with
  | cons h r=>exact⟨h,r⟩
 have lo0:=FO.lo (x0,0) (List.mem_cons_self ..)
 refine⟨_,rfl,pt,_,_,_,rfl,rfl,SqT.fr B2.fr,at0,a0,_,_,_,rfl,rfl,SqT.of ea2.1,rfl,by show 2≤sizeLine; decide,fun p1 hp1 => ?_⟩
 have g3:=Drawn.new (o:=.tup [.str "name", .int x0]) B2.g.d hp1
 have B3:=B2.step g3
 have tf3:TIn (upd H2 p1 (.tup [.str "name", .int x0])) (.ref p1) (.node .name x0 []):=.leaf rfl upd_same
 generalize upd H2 p1 (.tup [.str "name", .int x0])=H3 at g3 B3 tf3 ⊢
 refine⟨_,rfl,by show 2≤sizeLine; decide,fun p2 hp2=>⟨by show 3≤sizeLine; decide,fun p3 hp3=>⟨by show 1≤sizeLine; decide,fun p4 hp4 => ?_⟩⟩⟩
 have g4:=Drawn.new (o:=.tup [.str "num", .int 1]) B3.g.d hp2
 have B4:=B3.step g4
 have g5:=Drawn.new (o:=.tup [.str "minus", .ref p1,.ref p2]) B4.g.d hp3
 have B5:=B4.step g5
 have g6:=Drawn.new (o:=.lst [.ref p3]) B5.g.d hp4
 have B6:=B5.step g6
 have tk56:=(g5.tk B4.g.d).trans (g6.tk B5.g.d)
 have tf6:=tf3.mono ((g4.tk B3.g.d).trans tk56)
 have tm6:TIn (upd (upd (upd H3 p2 (.tup [.str "num", .int 1])) p3 (.tup [.str "minus", .ref p1,.ref p2])) p4 (.lst [.ref p3])) (.ref p3) (.node .minus (-1) [.node .name x0 [],.node .num 1 []]) :=
  .bare rfl (g6.tk B5.g.d _ _ upd_same) (.cons tf6 (.cons (.leaf rfl (tk56 _ _ upd_same)) .nil))
 have ep4:(upd (upd (upd H3 p2 (.tup [.str "num", .int 1])) p3 (.tup [.str "minus", .ref p1,.ref p2])) p4 (.lst [.ref p3])) p4=some (.lst [.ref p3]):=upd_same
 have np4:p4≠r.r:=Drawn.ne B5.g.d hp4
 generalize upd (upd (upd H3 p2 (.tup [.str "num", .int 1])) p3 (.tup [.str "minus", .ref p1,.ref p2])) p4 (.lst [.ref p3])=H6 at g6 B6 tf6 tm6 ep4 ⊢
 clear g4 g5 tk56 B3 B4 B5 tf3
 
 refine⟨_,rfl,_,rfl,_,rfl,pt,_,rfl,SqT.fr B6.fr,not1 _ _,fun p5 hp5 => ?_⟩
 rw [cut1]
 have g7:=Drawn.new (o:=.tup vrest) B6.g.d hp5
 have B7:=B6.step g7
 have e57:upd H6 p5 (.tup vrest) p5=some (.tup vrest):=upd_same
 have tk7:=g7.tk B6.g.d
 have ep4':=g7.s _ _ np4 ep4
 generalize upd H6 p5 (.tup vrest)=H7 at g7 B7 e57 tk7 ep4' ⊢
 refine⟨p5,rfl,⟨_,SqT.of e57⟩,fun D hD => ?_⟩
 have nD:D≠r.r:=Drawn.ne B7.g.d hD
 have pr7:PIns H7 vrest prest:=by
  cases B7.pin with
  | cons h r=>exact r
 refine lc_tup (K:=K) (a:=p5) (xs:=vrest) (fun i H'=>∃ vs es,H' D=some (.lst vs)∧vs.length=i∧Drawn K r H7 H'∧TIns H' vs es∧Tys (fs.take own) (envOf ((x0,0)::prest)) es ((prest.map (·.2)).take i)∧hgts es≤8) ⟨[],[],upd_same,rfl,Drawn.new B7.g.d hD,.nil,.nil,Nat.zero_le _⟩ ?_ ?_ ?_
 ·rintro i H' hi ⟨vs,es,e1,e2,g8,_⟩
  exact SqT.of (g8.tk B7.g.d _ _ e57)
 ·rintro i x H' hx2 ⟨vs,es,e1,e2,g8,ti,ty,hh⟩
  obtain⟨pa,px,pd,rfl,hpx,hpa⟩:=pr7.get i hx2
  have hpm:=List.mem_of_getElem? hpx
  have plo:=FO.lo _ (List.mem_cons_of_mem _ hpm)
  have hi:i < prest.length:=(List.getElem?_eq_some_iff.mp hpx).1
  have fewp:prest.length≤3:=by
   have:=FO.few
   simp only [List.length_cons] at this
   omega
  have B8:=B7.step g8
  refine⟨pa,_,rfl,SqT.of (g8.tk B7.g.d _ _ hpa),rfl,_,_,rfl,_,_,rfl,rfl,rfl,?_⟩
  dsimp only [tYes,gName]
  rw [if_pos rfl]
  refine⟨_,rfl,_,rfl,_,rfl,_,rfl,r,m,kn,pd,1,_,rfl,g8.d,B8.G,⟨_,B8.kn,FO.kn⟩,plo.2.2,by decide,fun v H9 e g9 ti2 ty2 hh2 => ?_⟩
  have eD9:=g9.s _ _ nD e1
  have tk10:TK H9 (upd H9 D (.lst (vs++[v]))):=TK.lst eD9
  refine⟨vs,eD9,?_,vs++[v],es++[e],upd_same,?_,(g8.trans g9).put B7.g.d hD,?_,?_,hgts_snoc hh hh2⟩
  ·rw [e2]
   exact small1000 (by omega)
  ·rw [List.length_append,e2]
   rfl
  ·exact (ti.mono ((g9.tk g8.d).trans tk10)).snoc (ti2.mono tk10)
  ·rw [List.take_succ,List.getElem?_map,hpx]
   exact ty.snoc ty2
 rintro H8 ⟨vs,es,eD,ev,g8,tis,tys,hhs⟩
 have B8:=B7.step g8
 have lenr:vrest.length=(prest.map (·.2)).length:=by rw [pr7.len,List.length_map]
 rw [lenr] at ev
 rw [lenr,List.take_length] at tys
 have fewp:prest.length≤3:=by
  have:=FO.few
  simp only [List.length_cons] at this
  omega
 have ep8:H8 p4=some (.lst [.ref p3]):=g8.s _ _ np4 ep4'
 refine⟨p4,D,_,_,rfl,rfl,ep8,eD,?_,fun p6 hp6 => ?_⟩
 ·refine le2 ?_
  rw [ev,List.length_map]
  show 1+prest.length≤1000
  omega
 have g9:=Drawn.new (o:=.lst ([.ref p3]++vs)) B8.g.d hp6
 have B9:=B8.step g9
 have tk9:=g9.tk B8.g.d
 have np6:p6≠r.r:=Drawn.ne B8.g.d hp6
 have e69:upd H8 p6 (.lst ([.ref p3]++vs)) p6=some (.lst ([.ref p3]++vs)):=upd_same
 have tk69:=(tk7.trans (g8.tk B7.g.d)).trans tk9
 have tf9:=tf6.mono tk69
 have targs9:TIns (upd H8 p6 (.lst ([.ref p3]++vs))) ([.ref p3]++vs) (.node .minus (-1) [.node .name x0 [],.node .num 1 []]::es):=.cons (tm6.mono tk69) (tis.mono tk9)
 generalize upd H8 p6 (.lst ([.ref p3]++vs))=H9 at g9 B9 tk9 e69 tk69 tf9 targs9 ⊢
 clear tf6 tm6 ep4 ep4' ep8 g6 g7 tk7 e57
 have tyargs:Tys fs (envOf ((x0,0)::prest)) (.node .minus (-1) [.node .name x0 [],.node .num 1 []]::es) (((x0,0)::prest).map (·.2)) :=
  .cons (.two (by simp) (.name lo0.1 lo0.2.1 (FO.kn.ok _ (List.mem_cons_self ..)) (by omega)) (.num (by decide) (by decide))) (tys.weak take_get fun _ _ z=>z)
 have sargs:selfss (own:Int) (.node .minus (-1) [.node .name x0 [],.node .num 1 []]::es)=0:=by
  rw [selfss_cons,tys.noself lenown]
  rfl
 have hargs:hgts (.node .minus (-1) [.node .name x0 [],.node .num 1 []]::es)≤8:=by
  rw [hgts_cons]
  have:(Ex.node .minus (-1) [.node .name x0 [],.node .num 1 []]).hgt=2:=rfl
  omega
 exact rest _ _ ⟨kn,k1,p1,p3,p6,vs,_,rfl,k1a,k1b,B9,tf9,targs9,e69,np6,ev,tyargs,sargs,hargs⟩
end
def Std (K:PySem.W.Frag) (mg:Str→Option Value) (x:Str) (st:Stmt):Prop:=∃ f fd,FnP K x st f fd∧mg x=some (.ref f)
structure GenFacts (K:PySem.W.Frag) (mg:Str→Option Value):Prop where
 taken:Std K mg "_law_taken" sLawTaken
 parts:Std K mg "_law_parts" sLawParts
 size:Std K mg "_law_size" sLawSize
 within:Std K mg "_law_within" sLawWithin
 leaf:Std K mg "_law_leaf" sLawLeaf
 number:Std K mg "_law_number" sLawNumber
 bound:Std K mg "_law_bound" sLawBound
 any:Std K mg "_law_any" sLawAny
 tree:Std K mg "_law_tree" sLawTree
 face:Std K mg "_law_face" sLawFace
 body:Std K mg "_law_body" sLawBody
 program:Std K mg "_law_program" sLawProgram
 row:Std K mg "_law_row" sLawRow
 worths:Std K mg "_law_worths" sLawWorths
 z_len:mg "len" = none
 z_range:mg "range" = none
 z_tuple:mg "tuple" = none
 z_dict:mg "dict" = none
 z_int:mg "int" = none
 z_sorted:mg "sorted" = none
 z_sum:mg "sum" = none
 z_max:mg "max" = none
section
variable {P:Program}{w:World}{K:PySem.W.Frag}{mg:Str→Option Value}{base:Heap}
abbrev Ok (P:Program) (w:World) (K:PySem.W.Frag) (mg:Str→Option Value) (base:Heap):=Okf P w K mg base CX0
theorem okTaken (L:GenFacts K mg):Ok P w K mg base 1 "_law_taken" ["_law_row_here", "_law_many"] (spTaken K):=by
 obtain⟨f,fd,F,m⟩:=L.taken
 exact⟨f,fd,ok_taken F L.z_len,m,F.kp,F.bindsN fun _ _ _ _ _ _ us hl=>match us,hl with | [_,_],_=>rfl⟩
theorem okLeaf (L:GenFacts K mg) (fs:List (List Nat×Nat)):∀ n,Ok P w K mg base (n+1) "_law_leaf" ["_law_row_here", "_law_depth", "_law_known"] (spLeaf K fs n):=by
 obtain⟨f,fd,F,m⟩:=L.leaf
 have b:=F.bindsN (ps:=["_law_row_here", "_law_depth", "_law_known"]) fun _ _ _ _ _ _ us hl=>match us,hl with | [_,_,_],_=>rfl
 intro n
 induction n with
 | zero=>exact⟨f,fd,ok_never (fun vs H Q E h=>by
   obtain⟨r,a,d,ρ,_,_,_,h,_⟩:=h
   omega),m,F.kp,b⟩
 | succ n ih=>exact⟨f,fd,ok_leaf_step F ((okTaken L).mono (by omega)) ih L.z_len L.z_sorted,m,F.kp,b⟩
theorem okRow (L:GenFacts K mg):∀ n,Ok P w K mg base (n+1) "_law_row" ["_law_row_here", "_law_depth", "_law_most"] (spRow K n):=by
 obtain⟨f,fd,F,m⟩:=L.row
 have b:=F.bindsN (ps:=["_law_row_here", "_law_depth", "_law_most"]) fun _ _ _ _ _ _ us hl=>match us,hl with | [_,_,_],_=>rfl
 intro n
 induction n with
 | zero=>exact⟨f,fd,ok_never (fun vs H Q E h=>by
   obtain⟨r,d,most,_,_,h,_⟩:=h
   omega),m,F.kp,b⟩
 | succ n ih=>exact⟨f,fd,ok_row_step F ((okTaken L).mono (by omega)) ih L.z_range L.z_tuple,m,F.kp,b⟩
theorem okParts (L:GenFacts K mg):Ok P w K mg base 1 "_law_parts" ["_law_tree_here"] (spParts K):=by
 obtain⟨f,fd,F,m⟩:=L.parts
 exact⟨f,fd,ok_parts F,m,F.kp,F.bindsN fun _ _ _ _ _ _ us hl=>match us,hl with | [_],_=>rfl⟩
theorem okSize (L:GenFacts K mg):∀ n,Ok P w K mg base (n+1) "_law_size" ["_law_tree_here"] (spSize K n):=by
 obtain⟨f,fd,F,m⟩:=L.size
 have b:=F.bindsN (ps:=["_law_tree_here"]) fun _ _ _ _ _ _ us hl=>match us,hl with | [_],_=>rfl
 intro n
 induction n with
 | zero=>exact⟨f,fd,ok_never (fun vs H Q E h=>by
   obtain⟨v,e,_,_,h,_⟩:=h
   have:=e.hgt_pos
   omega),m,F.kp,b⟩
 | succ n ih=>exact⟨f,fd,ok_size_step F ((okParts L).mono (by omega)) ih L.z_sum,m,F.kp,b⟩
theorem okWithin (L:GenFacts K mg):∀ n,Ok P w K mg base (n+1) "_law_within" ["_law_tree_here"] (spWithin K n):=by
 obtain⟨f,fd,F,m⟩:=L.within
 have b:=F.bindsN (ps:=["_law_tree_here"]) fun _ _ _ _ _ _ us hl=>match us,hl with | [_],_=>rfl
 intro n
 induction n with
 | zero=>exact⟨f,fd,ok_never (fun vs H Q E h=>by
   obtain⟨v,e,_,_,h,_⟩:=h
   have:=e.hgt_pos
   omega),m,F.kp,b⟩
 | succ n ih=>exact⟨f,fd,ok_within_step F ((okParts L).mono (by omega)) ih L.z_max,m,F.kp,b⟩
abbrev psTree:List Str:=["_law_row_here", "_law_m", "_law_depth", "_law_deep", "_law_known"]
abbrev psBound:List Str:=["_law_row_here", "_law_m", "_law_word_here", "_law_depth", "_law_deep", "_law_known", "_law_told"]
theorem okTree (L:GenFacts K mg) (fs:List (List Nat×Nat)) (own:Nat):∀ n,Ok P w K mg base (6+4*n) "_law_tree" psTree (spTree K fs own n):=by
 obtain⟨ft,fdt,Ft,mt⟩:=L.tree
 obtain⟨fn,fdn,Fn,mn⟩:=L.number
 obtain⟨fb,fdb,Fb,mb⟩:=L.bound
 obtain⟨fy,fdy,Fy,my⟩:=L.any
 have bt:=Ft.bindsN (ps:=psTree) fun _ _ _ _ _ _ us hl=>match us,hl with | [_,_,_,_,_],_=>rfl
 have bn:=Fn.bindsN (ps:=["_law_row_here", "_law_m", "_law_deep", "_law_known"]) fun _ _ _ _ _ _ us hl=>match us,hl with | [_,_,_,_],_=>rfl
 have bb:=Fb.bindsN (ps:=psBound) fun _ _ _ _ _ _ us hl=>match us,hl with | [_,_,_,_,_,_,_],_=>rfl
 have bY:=Fy.bindsN (ps:=psTree) fun _ _ _ _ _ _ us hl=>match us,hl with | [_,_,_,_,_],_=>rfl
 intro n
 induction n with
 | zero =>
  refine⟨ft,fdt,ok_tree (n:=0) (spT:=fun _ _ _ _=>False) Ft ((okTaken L).mono (by omega)) (fun h=>absurd h (by omega)) ⟨ft,fdt,ok_never (fun vs H Q E h=>h),mt,Ft.kp,bt⟩
   ⟨fy,fdy,ok_never (fun vs H Q E h=>by
    obtain⟨r,m,a,d,deep,ρ,_,_,_,_,_,h1,h2,_⟩:=h
    omega),my,Fy.kp,bY⟩
   ⟨fn,fdn,ok_never (fun vs H Q E h=>by
    obtain⟨r,m,a,deep,ρ,_,_,_,_,h1,h2,_⟩:=h
    omega),mn,Fn.kp,bn⟩
   ⟨fb,fdb,ok_never (fun vs H Q E h=>by
    obtain⟨r,m,a,w,d,t,deep,ρ,_,_,_,_,_,_,_,_,h1,h2,_⟩:=h
    omega),mb,Fb.kp,bb⟩
   (okLeaf L _ 4) L.z_int,mt,Ft.kp,bt⟩
 | succ n ih =>
  have OB:Ok P w K mg base (7+4*n) "_law_bound" psBound (spBound K fs own (n+1)):=⟨fb,fdb,(ok_bound Fb (by omega) ((okTaken L).mono (by omega)) ih L.z_dict L.z_int).mono (by omega),mb,Fb.kp,bb⟩
  have OY:Ok P w K mg base (8+4*n) "_law_any" psTree (spAny K fs own (n+1)):=⟨fy,fdy,(ok_any (k:=7+4*n) Fy ((okTaken L).mono (by omega)) (ih.mono (by omega)) OB ((okLeaf L _ 4).mono (by omega)) L.z_len L.z_range L.z_tuple).mono (by omega),my,Fy.kp,bY⟩
  have ON:Ok P w K mg base (9+4*n) "_law_number" ["_law_row_here", "_law_m", "_law_deep", "_law_known"] (spNumber K fs own (n+1)):=⟨fn,fdn,(ok_number (k:=8+4*n) Fn ((okTaken L).mono (by omega)) (ih.mono (by omega)) OY).mono (by omega),mn,Fn.kp,bn⟩
  exact⟨ft,fdt,(ok_tree (k:=9+4*n) (n:=n+1) Ft ((okTaken L).mono (by omega)) (fun _=>rfl) (ih.mono (by omega)) (OY.mono (by omega)) ON (OB.mono (by omega)) ((okLeaf L _ 4).mono (by omega)) L.z_int).mono (by omega),mt,Ft.kp,bt⟩
theorem okProgram (L:GenFacts K mg):Ok P w K mg base 24 "_law_program" ["_law_row_here", "_law_most"] (spProgram K):=by
 obtain⟨f,fd,F,m⟩:=L.program
 obtain⟨fb,fdb,Fb,mb⟩:=L.body
 obtain⟨fc,fdc,Fc,mc⟩:=L.face
 obtain⟨fl,fdl,Fl,ml⟩:=L.leaf
 have bl:=Fl.bindsN (ps:=["_law_row_here", "_law_depth", "_law_known"]) fun _ _ _ _ _ _ us hl=>match us,hl with | [_,_,_],_=>rfl
 have bb:=Fb.bindsN (ps:=["_law_row_here", "_law_m", "_law_face_here", "_law_itself"]) fun _ _ _ _ _ _ us hl=>match us,hl with | [_,_,_,_],_=>rfl
 have bc:=Fc.bindsN (ps:=["_law_row_here"]) fun _ _ _ _ _ _ us hl=>match us,hl with | [_],_=>rfl
 have b:=F.bindsN (ps:=["_law_row_here", "_law_most"]) fun _ _ _ _ _ _ us hl=>match us,hl with | [_,_],_=>rfl
 have OB:Ok P w K mg base 23 "_law_body" ["_law_row_here", "_law_m", "_law_face_here", "_law_itself"] (spBodyE K):=⟨fb,fdb,FnOk.ex fun i=>ok_body (k:=22) Fb ((okTaken L).mono (by omega)) (okTree L i.1 i.2 4) L.z_dict L.z_range L.z_tuple,mb,Fb.kp,bb⟩
 have OC:Ok P w K mg base 23 "_law_face" ["_law_row_here"] (spFace K):=⟨fc,fdc,ok_face (k:=22) Fc ((okTaken L).mono (by omega)) L.z_len L.z_range L.z_tuple L.z_int,mc,Fc.kp,bc⟩
 have OL:Ok P w K mg base 23 "_law_leaf" ["_law_row_here", "_law_depth", "_law_known"] (spLeafE K):=by
  refine⟨fl,fdl,FnOk.ex fun i => ?_,ml,Fl.kp,bl⟩
  exact (ok_leaf_step (n:=3) Fl ((okTaken L).mono (by omega)) (okLeaf L i 3) L.z_len L.z_sorted).mono (by omega)
 exact⟨f,fd,ok_program (k:=23) F ((okTaken L).mono (by omega)) OC OB ((okSize L 12).mono (by omega)) ((okWithin L 12).mono (by omega)) OL L.z_dict L.z_range L.z_tuple,m,F.kp,b⟩
theorem okWorths (L:GenFacts K mg):Ok P w K mg base 6 "_law_worths" ["_law_row_here", "_law_program_here", "_law_which"] (spWorths K):=by
 obtain⟨f,fd,F,m⟩:=L.worths
 exact⟨f,fd,ok_worths (k:=5) F ((okTaken L).mono (by omega)) (okRow L 4),m,F.kp,F.bindsN fun _ _ _ _ _ _ us hl=>match us,hl with | [_,_,_],_=>rfl⟩
end
end NR
namespace NR
open PySem PySem.Spec PyProof.Rows L2 LamX
structure Cz (w:World) (K:PySem.W.Frag) (h:Heap) (mg:Str→Option Value):Prop where
 X:K.In h
 G:h.Ns mainGlobals mg
 c:He.SaysX NH.fa NH.fn NH.tsT NH.tfT NH.exB w h K
 n:NH.nfT.map (fun d=>NH.fnC K d.at_)=NH.nfT.map NH.valC
section
variable {P:Program}{w:World}{K:PySem.W.Frag}{mg:Str→Option Value}{base h:Heap}
theorem Cz.z_len (Z:Cz w K h mg):mg "len" = none:=He.free_ok Z.X Z.G (Z.c.t.d.fact 0 (f:=.free "len") rfl)
theorem Cz.z_range (Z:Cz w K h mg):mg "range" = none:=He.free_ok Z.X Z.G (Z.c.t.d.fact 1 (f:=.free "range") rfl)
theorem Cz.z_tuple (Z:Cz w K h mg):mg "tuple" = none:=He.free_ok Z.X Z.G (Z.c.t.d.fact 2 (f:=.free "tuple") rfl)
theorem Cz.z_list (Z:Cz w K h mg):mg "list" = none:=He.free_ok Z.X Z.G (Z.c.t.d.fact 3 (f:=.free "list") rfl)
theorem Cz.z_dict (Z:Cz w K h mg):mg "dict" = none:=He.free_ok Z.X Z.G (Z.c.t.d.fact 4 (f:=.free "dict") rfl)
theorem Cz.z_int (Z:Cz w K h mg):mg "int" = none:=He.free_ok Z.X Z.G (Z.c.t.d.fact 5 (f:=.free "int") rfl)
theorem Cz.z_sorted (Z:Cz w K h mg):mg "sorted" = none:=He.free_ok Z.X Z.G (Z.c.t.d.fact 6 (f:=.free "sorted") rfl)
theorem Cz.z_sum (Z:Cz w K h mg):mg "sum" = none:=He.free_ok Z.X Z.G (Z.c.t.d.fact 7 (f:=.free "sum") rfl)
theorem Cz.z_max (Z:Cz w K h mg):mg "max" = none:=He.free_ok Z.X Z.G (Z.c.t.d.fact 8 (f:=.free "max") rfl)
theorem Cz.z_min (Z:Cz w K h mg):mg "min" = none:=He.free_ok Z.X Z.G (Z.c.t.d.fact 9 (f:=.free "min") rfl)
theorem Cz.z_isinstance (Z:Cz w K h mg):mg "isinstance" = none:=He.free_ok Z.X Z.G (Z.c.t.d.fact 10 (f:=.free "isinstance") rfl)
theorem Cz.z_str (Z:Cz w K h mg):mg "str" = none:=He.free_ok Z.X Z.G (Z.c.t.d.fact 11 (f:=.free "str") rfl)
theorem Cz.z_bool (Z:Cz w K h mg):mg "bool" = none:=He.free_ok Z.X Z.G (Z.c.t.d.fact 12 (f:=.free "bool") rfl)
theorem Cz.z_set (Z:Cz w K h mg):mg "set" = none:=He.free_ok Z.X Z.G (Z.c.t.d.fact 13 (f:=.free "set") rfl)
theorem Cz.z_all (Z:Cz w K h mg):mg "all" = none:=He.free_ok Z.X Z.G (Z.c.t.d.fact 14 (f:=.free "all") rfl)
theorem Cz.z_enumerate (Z:Cz w K h mg):mg "enumerate" = none:=He.free_ok Z.X Z.G (Z.c.t.d.fact 15 (f:=.free "enumerate") rfl)
theorem Cz.g_is_number (Z:Cz w K h mg):mg "is_number" = some (.ref (He.ga K "is_number")):=He.glo_ok Z.X Z.G (Z.c.t.d.fact 18 (f:=.glo "is_number") rfl)
theorem Cz.g_depth_of (Z:Cz w K h mg):mg "depth_of" = some (.ref (He.ga K "depth_of")):=He.glo_ok Z.X Z.G (Z.c.t.d.fact 33 (f:=.glo "depth_of") rfl)
theorem Cz.g_last_number (Z:Cz w K h mg):mg "last_number" = some (.ref (He.ga K "last_number")):=He.glo_ok Z.X Z.G (Z.c.t.d.fact 34 (f:=.glo "last_number") rfl)
theorem Cz.g_has_shape (Z:Cz w K h mg):mg "has_shape" = some (.ref (He.ga K "has_shape")):=He.glo_ok Z.X Z.G (Z.c.t.d.fact 35 (f:=.glo "has_shape") rfl)
theorem Cz.g_number_of (Z:Cz w K h mg):mg "number_of" = some (.ref (He.ga K "number_of")):=He.glo_ok Z.X Z.G (Z.c.t.d.fact 36 (f:=.glo "number_of") rfl)
theorem Cz.g_parts_of (Z:Cz w K h mg):mg "parts_of" = some (.ref (He.ga K "parts_of")):=He.glo_ok Z.X Z.G (Z.c.t.d.fact 37 (f:=.glo "parts_of") rfl)
theorem Cz.g_has_face (Z:Cz w K h mg):mg "has_face" = some (.ref (He.ga K "has_face")):=He.glo_ok Z.X Z.G (Z.c.t.d.fact 38 (f:=.glo "has_face") rfl)
theorem Cz.g_is_param (Z:Cz w K h mg):mg "is_param" = some (.ref (He.ga K "is_param")):=He.glo_ok Z.X Z.G (Z.c.t.d.fact 39 (f:=.glo "is_param") rfl)
theorem Cz.g_told_faces (Z:Cz w K h mg):mg "told_faces" = some (.ref (He.ga K "told_faces")):=He.glo_ok Z.X Z.G (Z.c.t.d.fact 40 (f:=.glo "told_faces") rfl)
theorem Cz.g_form_of (Z:Cz w K h mg):mg "form_of" = some (.ref (He.ga K "form_of")):=He.glo_ok Z.X Z.G (Z.c.t.d.fact 41 (f:=.glo "form_of") rfl)
theorem Cz.g_forms_of (Z:Cz w K h mg):mg "forms_of" = some (.ref (He.ga K "forms_of")):=He.glo_ok Z.X Z.G (Z.c.t.d.fact 42 (f:=.glo "forms_of") rfl)
theorem Cz.g_is_worth (Z:Cz w K h mg):mg "is_worth" = some (.ref (He.ga K "is_worth")):=He.glo_ok Z.X Z.G (Z.c.t.d.fact 43 (f:=.glo "is_worth") rfl)
theorem Cz.g_refuse_no_function (Z:Cz w K h mg):mg "refuse_no_function" = some (.ref (He.ga K "refuse_no_function")):=He.glo_ok Z.X Z.G (Z.c.t.d.fact 44 (f:=.glo "refuse_no_function") rfl)
theorem Cz.g_refuse_bad_worths (Z:Cz w K h mg):mg "refuse_bad_worths" = some (.ref (He.ga K "refuse_bad_worths")):=He.glo_ok Z.X Z.G (Z.c.t.d.fact 45 (f:=.glo "refuse_bad_worths") rfl)
theorem Cz.g_run (Z:Cz w K h mg):mg "run" = some (.ref (He.ga K "run")):=He.glo_ok Z.X Z.G (Z.c.t.d.fact 46 (f:=.glo "run") rfl)
theorem Cz.g_good_forms (Z:Cz w K h mg):mg "good_forms" = some (.ref (He.ga K "good_forms")):=He.glo_ok Z.X Z.G (Z.c.t.d.fact 47 (f:=.glo "good_forms") rfl)
theorem Cz.g_run_all (Z:Cz w K h mg):mg "run_all" = some (.ref (He.ga K "run_all")):=He.glo_ok Z.X Z.G (Z.c.t.d.fact 48 (f:=.glo "run_all") rfl)
theorem Cz.g_run_flat (Z:Cz w K h mg):mg "run_flat" = some (.ref (He.ga K "run_flat")):=He.glo_ok Z.X Z.G (Z.c.t.d.fact 49 (f:=.glo "run_flat") rfl)
theorem Cz.g_run_trimmed (Z:Cz w K h mg):mg "run_trimmed" = some (.ref (He.ga K "run_trimmed")):=He.glo_ok Z.X Z.G (Z.c.t.d.fact 50 (f:=.glo "run_trimmed") rfl)
theorem Cz.g__law_taken (Z:Cz w K h mg):mg "_law_taken" = some (.ref (He.ga K "_law_taken")):=He.glo_ok Z.X Z.G (Z.c.t.d.fact 51 (f:=.glo "_law_taken") rfl)
theorem Cz.g__law_parts (Z:Cz w K h mg):mg "_law_parts" = some (.ref (He.ga K "_law_parts")):=He.glo_ok Z.X Z.G (Z.c.t.d.fact 52 (f:=.glo "_law_parts") rfl)
theorem Cz.g__law_size (Z:Cz w K h mg):mg "_law_size" = some (.ref (He.ga K "_law_size")):=He.glo_ok Z.X Z.G (Z.c.t.d.fact 53 (f:=.glo "_law_size") rfl)
theorem Cz.g__law_within (Z:Cz w K h mg):mg "_law_within" = some (.ref (He.ga K "_law_within")):=He.glo_ok Z.X Z.G (Z.c.t.d.fact 54 (f:=.glo "_law_within") rfl)
theorem Cz.g__law_leaf (Z:Cz w K h mg):mg "_law_leaf" = some (.ref (He.ga K "_law_leaf")):=He.glo_ok Z.X Z.G (Z.c.t.d.fact 55 (f:=.glo "_law_leaf") rfl)
theorem Cz.g__law_number (Z:Cz w K h mg):mg "_law_number" = some (.ref (He.ga K "_law_number")):=He.glo_ok Z.X Z.G (Z.c.t.d.fact 56 (f:=.glo "_law_number") rfl)
theorem Cz.g__law_bound (Z:Cz w K h mg):mg "_law_bound" = some (.ref (He.ga K "_law_bound")):=He.glo_ok Z.X Z.G (Z.c.t.d.fact 57 (f:=.glo "_law_bound") rfl)
theorem Cz.g__law_any (Z:Cz w K h mg):mg "_law_any" = some (.ref (He.ga K "_law_any")):=He.glo_ok Z.X Z.G (Z.c.t.d.fact 58 (f:=.glo "_law_any") rfl)
theorem Cz.g__law_tree (Z:Cz w K h mg):mg "_law_tree" = some (.ref (He.ga K "_law_tree")):=He.glo_ok Z.X Z.G (Z.c.t.d.fact 59 (f:=.glo "_law_tree") rfl)
theorem Cz.g__law_face (Z:Cz w K h mg):mg "_law_face" = some (.ref (He.ga K "_law_face")):=He.glo_ok Z.X Z.G (Z.c.t.d.fact 60 (f:=.glo "_law_face") rfl)
theorem Cz.g__law_body (Z:Cz w K h mg):mg "_law_body" = some (.ref (He.ga K "_law_body")):=He.glo_ok Z.X Z.G (Z.c.t.d.fact 61 (f:=.glo "_law_body") rfl)
theorem Cz.g__law_program (Z:Cz w K h mg):mg "_law_program" = some (.ref (He.ga K "_law_program")):=He.glo_ok Z.X Z.G (Z.c.t.d.fact 62 (f:=.glo "_law_program") rfl)
theorem Cz.g__law_row (Z:Cz w K h mg):mg "_law_row" = some (.ref (He.ga K "_law_row")):=He.glo_ok Z.X Z.G (Z.c.t.d.fact 63 (f:=.glo "_law_row") rfl)
theorem Cz.g__law_worths (Z:Cz w K h mg):mg "_law_worths" = some (.ref (He.ga K "_law_worths")):=He.glo_ok Z.X Z.G (Z.c.t.d.fact 64 (f:=.glo "_law_worths") rfl)
theorem Cz.g__law_started (Z:Cz w K h mg):mg "_law_started" = some (.ref (He.ga K "_law_started")):=He.glo_ok Z.X Z.G (Z.c.t.d.fact 65 (f:=.glo "_law_started") rfl)
theorem Cz.g__law_called (Z:Cz w K h mg):mg "_law_called" = some (.ref (He.ga K "_law_called")):=He.glo_ok Z.X Z.G (Z.c.t.d.fact 66 (f:=.glo "_law_called") rfl)
theorem Cz.g__law_done (Z:Cz w K h mg):mg "_law_done" = some (.ref (He.ga K "_law_done")):=He.glo_ok Z.X Z.G (Z.c.t.d.fact 67 (f:=.glo "_law_done") rfl)
theorem Cz.g__law_entered (Z:Cz w K h mg):mg "_law_entered" = some (.ref (He.ga K "_law_entered")):=He.glo_ok Z.X Z.G (Z.c.t.d.fact 68 (f:=.glo "_law_entered") rfl)
theorem Cz.g__law_gone (Z:Cz w K h mg):mg "_law_gone" = some (.ref (He.ga K "_law_gone")):=He.glo_ok Z.X Z.G (Z.c.t.d.fact 69 (f:=.glo "_law_gone") rfl)
theorem Cz.g__law_simple (Z:Cz w K h mg):mg "_law_simple" = some (.ref (He.ga K "_law_simple")):=He.glo_ok Z.X Z.G (Z.c.t.d.fact 70 (f:=.glo "_law_simple") rfl)
theorem Cz.g__law_run (Z:Cz w K h mg):mg "_law_run" = some (.ref (He.ga K "_law_run")):=He.glo_ok Z.X Z.G (Z.c.t.d.fact 71 (f:=.glo "_law_run") rfl)
theorem Cz.g__law_in_one (Z:Cz w K h mg):mg "_law_in_one" = some (.ref (He.ga K "_law_in_one")):=He.glo_ok Z.X Z.G (Z.c.t.d.fact 72 (f:=.glo "_law_in_one") rfl)
theorem Cz.g__law_word (Z:Cz w K h mg):mg "_law_word" = some (.ref (He.ga K "_law_word")):=He.glo_ok Z.X Z.G (Z.c.t.d.fact 73 (f:=.glo "_law_word") rfl)
theorem Cz.g__law_run_of (Z:Cz w K h mg):mg "_law_run_of" = some (.ref (He.ga K "_law_run_of")):=He.glo_ok Z.X Z.G (Z.c.t.d.fact 74 (f:=.glo "_law_run_of") rfl)
theorem Cz.g__law_odd (Z:Cz w K h mg):mg "_law_odd" = some (.ref (He.ga K "_law_odd")):=He.glo_ok Z.X Z.G (Z.c.t.d.fact 75 (f:=.glo "_law_odd") rfl)
theorem Cz.g__law_is_refused (Z:Cz w K h mg):mg "_law_is_refused" = some (.ref (He.ga K "_law_is_refused")):=He.glo_ok Z.X Z.G (Z.c.t.d.fact 76 (f:=.glo "_law_is_refused") rfl)
theorem Cz.g_law (Z:Cz w K h mg):mg "law" = some (.ref (He.ga K "law")):=He.glo_ok Z.X Z.G (Z.c.t.d.fact 77 (f:=.glo "law") rfl)
theorem Cz.g_Node (Z:Cz w K h mg):mg "Node" = some (.ref (He.ga K "Node")):=He.glo_ok Z.X Z.G (Z.c.t.d.fact 78 (f:=.glo "Node") rfl)
theorem Cz.g_Form (Z:Cz w K h mg):mg "Form" = some (.ref (He.ga K "Form")):=He.glo_ok Z.X Z.G (Z.c.t.d.fact 79 (f:=.glo "Form") rfl)
theorem Cz.g_Look (Z:Cz w K h mg):mg "Look" = some (.ref (He.ga K "Look")):=He.glo_ok Z.X Z.G (Z.c.t.d.fact 80 (f:=.glo "Look") rfl)
theorem Cz.g_LENGTHS (Z:Cz w K h mg):mg "LENGTHS" = some (.ref (He.ga K "LENGTHS")):=He.glo_ok Z.X Z.G (Z.c.t.d.fact 81 (f:=.glo "LENGTHS") rfl)
theorem Cz.g_RULES (Z:Cz w K h mg):mg "RULES" = some (.ref (He.ga K "RULES")):=He.glo_ok Z.X Z.G (Z.c.t.d.fact 82 (f:=.glo "RULES") rfl)
theorem Cz.g_NUMBERED (Z:Cz w K h mg):mg "NUMBERED" = some (.ref (He.ga K "NUMBERED")):=He.glo_ok Z.X Z.G (Z.c.t.d.fact 83 (f:=.glo "NUMBERED") rfl)
theorem Cz.g_BadWorth (Z:Cz w K h mg):mg "BadWorth" = some (.ref (He.ga K "BadWorth")):=He.glo_ok Z.X Z.G (Z.c.t.d.fact 119 (f:=.glo "BadWorth") rfl)
theorem Cz.z_super (Z:Cz w K h mg):mg "super" = none:=He.free_ok Z.X Z.G (Z.c.t.d.fact 121 (f:=.free "super") rfl)
theorem Cz.g_NestError (Z:Cz w K h mg):mg "NestError" = some (.ref (He.ga K "NestError")):=He.glo_ok Z.X Z.G (Z.c.t.d.fact 122 (f:=.glo "NestError") rfl)
theorem Cz.z_ValueError (Z:Cz w K h mg):mg "ValueError" = none:=He.free_ok Z.X Z.G (Z.c.t.d.fact 123 (f:=.free "ValueError") rfl)
theorem Cz.g_BadProgram (Z:Cz w K h mg):mg "BadProgram" = some (.ref (He.ga K "BadProgram")):=He.glo_ok Z.X Z.G (Z.c.t.d.fact 124 (f:=.glo "BadProgram") rfl)
theorem Cz.g_BadText (Z:Cz w K h mg):mg "BadText" = some (.ref (He.ga K "BadText")):=He.glo_ok Z.X Z.G (Z.c.t.d.fact 125 (f:=.glo "BadText") rfl)
theorem Cz.g_NoFunction (Z:Cz w K h mg):mg "NoFunction" = some (.ref (He.ga K "NoFunction")):=He.glo_ok Z.X Z.G (Z.c.t.d.fact 126 (f:=.glo "NoFunction") rfl)
theorem Cz.i_LAST_NUMBER (Z:Cz w K h mg):∃ t,mg "LAST_NUMBER" = some (.int (10006) t):=He.int_ok Z.X Z.G (Z.c.t.d.fact 85 (f:=.int "LAST_NUMBER" (10006)) rfl)
theorem Cz.i_MOST_ITEMS (Z:Cz w K h mg):∃ t,mg "MOST_ITEMS" = some (.int (40) t):=He.int_ok Z.X Z.G (Z.c.t.d.fact 86 (f:=.int "MOST_ITEMS" (40)) rfl)
theorem Cz.i_MOST_DEPTH (Z:Cz w K h mg):∃ t,mg "MOST_DEPTH" = some (.int (3) t):=He.int_ok Z.X Z.G (Z.c.t.d.fact 87 (f:=.int "MOST_DEPTH" (3)) rfl)
theorem Cz.i_MOST_FUNCTIONS (Z:Cz w K h mg):∃ t,mg "MOST_FUNCTIONS" = some (.int (6) t):=He.int_ok Z.X Z.G (Z.c.t.d.fact 88 (f:=.int "MOST_FUNCTIONS" (6)) rfl)
theorem Cz.i_MOST_PARAMS (Z:Cz w K h mg):∃ t,mg "MOST_PARAMS" = some (.int (4) t):=He.int_ok Z.X Z.G (Z.c.t.d.fact 89 (f:=.int "MOST_PARAMS" (4)) rfl)
theorem Cz.i_LAST_NAME (Z:Cz w K h mg):∃ t,mg "LAST_NAME" = some (.int (19) t):=He.int_ok Z.X Z.G (Z.c.t.d.fact 90 (f:=.int "LAST_NAME" (19)) rfl)
theorem Cz.i_LAST_PLACE (Z:Cz w K h mg):∃ t,mg "LAST_PLACE" = some (.int (59) t):=He.int_ok Z.X Z.G (Z.c.t.d.fact 91 (f:=.int "LAST_PLACE" (59)) rfl)
theorem Cz.i_MOST_WITHIN (Z:Cz w K h mg):∃ t,mg "MOST_WITHIN" = some (.int (12) t):=He.int_ok Z.X Z.G (Z.c.t.d.fact 92 (f:=.int "MOST_WITHIN" (12)) rfl)
theorem Cz.i_NO_DEPTH (Z:Cz w K h mg):∃ t,mg "NO_DEPTH" = some (.int (-1) t):=He.int_ok Z.X Z.G (Z.c.t.d.fact 94 (f:=.int "NO_DEPTH" (-1)) rfl)
theorem Cz.pl_NoFunction (Z:Cz w K h mg):PySem.W.excIn K (He.ga K "NoFunction") He.veBase "ValueError.__new__" = true∧PySem.W.keepIn K (.ref (He.ga K "NoFunction"))=true∧PySem.W.subIn K (.ref (He.ga K "NoFunction")) (.type "BaseException")=some true∧PySem.W.typeIn K (.ref (He.ga K "NoFunction"))=some (.type "type"):=He.exc_ok (Z.c.t.d.fact 127 (f:=.exc "NoFunction") rfl)
theorem Cz.xm_BadWorth_NestError (Z:Cz w K h mg):PySem.W.exmOne K (.ref (He.ga K "BadWorth")) (.ref (He.ga K "NestError"))=some true:=He.exm_ok (Z.c.t.d.fact 128 (f:=.exm "BadWorth" "NestError" true) rfl)
theorem Cz.xm_NoFunction_NestError (Z:Cz w K h mg):PySem.W.exmOne K (.ref (He.ga K "NoFunction")) (.ref (He.ga K "NestError"))=some true:=He.exm_ok (Z.c.t.d.fact 129 (f:=.exm "NoFunction" "NestError" true) rfl)
theorem Cz.na_BadWorth_number (Z:Cz w K h mg):PySem.W.findIn K (.ref (He.ga K "BadWorth")) "number" = some none:=He.noat_ok (Z.c.t.d.fact 120 (f:=.noat "BadWorth" "number") rfl)
theorem Cz.f_is_number (Z:Cz w K h mg):∃ fd,FnP K "is_number" sIsNumber (He.ga K "is_number") fd:=Z.c.t.d.def_ 0 (d:=NH.dOf "is_number" 11) rfl
theorem Cz.f_of_num (Z:Cz w K h mg):∃ fd,FnP K "of_num" sOfNum (He.ga K "of_num") fd:=Z.c.t.d.def_ 1 (d:=NH.dOf "of_num" 33) rfl
theorem Cz.f_of_two_numbers (Z:Cz w K h mg):∃ fd,FnP K "of_two_numbers" sOfTwoNumbers (He.ga K "of_two_numbers") fd:=Z.c.t.d.def_ 2 (d:=NH.dOf "of_two_numbers" 34) rfl
theorem Cz.f_of_if (Z:Cz w K h mg):∃ fd,FnP K "of_if" sOfIf (He.ga K "of_if") fd:=Z.c.t.d.def_ 3 (d:=NH.dOf "of_if" 35) rfl
theorem Cz.f_of_let (Z:Cz w K h mg):∃ fd,FnP K "of_let" sOfLet (He.ga K "of_let") fd:=Z.c.t.d.def_ 4 (d:=NH.dOf "of_let" 36) rfl
theorem Cz.f_of_upto_depths (Z:Cz w K h mg):∃ fd,FnP K "of_upto" sOfUpto (He.ga K "of_upto_depths") fd:=Z.c.t.d.def_ 5 (d:=NH.dAs "of_upto_depths" "of_upto" 37) rfl
theorem Cz.f_of_len_depths (Z:Cz w K h mg):∃ fd,FnP K "of_len" sOfLen (He.ga K "of_len_depths") fd:=Z.c.t.d.def_ 6 (d:=NH.dAs "of_len_depths" "of_len" 39) rfl
theorem Cz.f_of_sum_depths (Z:Cz w K h mg):∃ fd,FnP K "of_sum" sOfSum (He.ga K "of_sum_depths") fd:=Z.c.t.d.def_ 7 (d:=NH.dAs "of_sum_depths" "of_sum" 41) rfl
theorem Cz.f_of_sums_depths (Z:Cz w K h mg):∃ fd,FnP K "of_sums" sOfSums (He.ga K "of_sums_depths") fd:=Z.c.t.d.def_ 8 (d:=NH.dAs "of_sums_depths" "of_sums" 43) rfl
theorem Cz.f_of_one_depths (Z:Cz w K h mg):∃ fd,FnP K "of_one" sOfOne (He.ga K "of_one_depths") fd:=Z.c.t.d.def_ 9 (d:=NH.dAs "of_one_depths" "of_one" 45) rfl
theorem Cz.f_of_pick_depths (Z:Cz w K h mg):∃ fd,FnP K "of_pick" sOfPick (He.ga K "of_pick_depths") fd:=Z.c.t.d.def_ 10 (d:=NH.dAs "of_pick_depths" "of_pick" 47) rfl
theorem Cz.f_of_put_depths (Z:Cz w K h mg):∃ fd,FnP K "of_put" sOfPut (He.ga K "of_put_depths") fd:=Z.c.t.d.def_ 11 (d:=NH.dAs "of_put_depths" "of_put" 49) rfl
theorem Cz.f_of_flat_depths (Z:Cz w K h mg):∃ fd,FnP K "of_flat" sOfFlat (He.ga K "of_flat_depths") fd:=Z.c.t.d.def_ 12 (d:=NH.dAs "of_flat_depths" "of_flat" 51) rfl
theorem Cz.f_of_each (Z:Cz w K h mg):∃ fd,FnP K "of_each" sOfEach (He.ga K "of_each") fd:=Z.c.t.d.def_ 13 (d:=NH.dOf "of_each" 53) rfl
theorem Cz.f_of_where (Z:Cz w K h mg):∃ fd,FnP K "of_where" sOfWhere (He.ga K "of_where") fd:=Z.c.t.d.def_ 14 (d:=NH.dOf "of_where" 54) rfl
theorem Cz.f_depth_of (Z:Cz w K h mg):∃ fd,FnP K "depth_of" sDepthOf (He.ga K "depth_of") fd:=Z.c.t.d.def_ 15 (d:=NH.dOf "depth_of" 56) rfl
theorem Cz.f_last_number (Z:Cz w K h mg):∃ fd,FnP K "last_number" sLastNumber (He.ga K "last_number") fd:=Z.c.t.d.def_ 16 (d:=NH.dOf "last_number" 66) rfl
theorem Cz.f_has_shape (Z:Cz w K h mg):∃ fd,FnP K "has_shape" sHasShape (He.ga K "has_shape") fd:=Z.c.t.d.def_ 17 (d:=NH.dOf "has_shape" 67) rfl
theorem Cz.f_number_of (Z:Cz w K h mg):∃ fd,FnP K "number_of" sNumberOf (He.ga K "number_of") fd:=Z.c.t.d.def_ 18 (d:=NH.dOf "number_of" 68) rfl
theorem Cz.f_parts_of (Z:Cz w K h mg):∃ fd,FnP K "parts_of" sPartsOf (He.ga K "parts_of") fd:=Z.c.t.d.def_ 19 (d:=NH.dOf "parts_of" 69) rfl
theorem Cz.f_has_face (Z:Cz w K h mg):∃ fd,FnP K "has_face" sHasFace (He.ga K "has_face") fd:=Z.c.t.d.def_ 20 (d:=NH.dOf "has_face" 75) rfl
theorem Cz.f_is_param (Z:Cz w K h mg):∃ fd,FnP K "is_param" sIsParam (He.ga K "is_param") fd:=Z.c.t.d.def_ 21 (d:=NH.dOf "is_param" 76) rfl
theorem Cz.f_told_faces (Z:Cz w K h mg):∃ fd,FnP K "told_faces" sToldFaces (He.ga K "told_faces") fd:=Z.c.t.d.def_ 22 (d:=NH.dOf "told_faces" 77) rfl
theorem Cz.f_form_of (Z:Cz w K h mg):∃ fd,FnP K "form_of" sFormOf (He.ga K "form_of") fd:=Z.c.t.d.def_ 23 (d:=NH.dOf "form_of" 78) rfl
theorem Cz.f_forms_of (Z:Cz w K h mg):∃ fd,FnP K "forms_of" sFormsOf (He.ga K "forms_of") fd:=Z.c.t.d.def_ 24 (d:=NH.dOf "forms_of" 79) rfl
theorem Cz.f_is_worth (Z:Cz w K h mg):∃ fd,FnP K "is_worth" sIsWorth (He.ga K "is_worth") fd:=Z.c.t.d.def_ 25 (d:=NH.dOf "is_worth" 81) rfl
theorem Cz.f_refuse_no_function (Z:Cz w K h mg):∃ fd,FnP K "refuse_no_function" sRefuseNoFunction (He.ga K "refuse_no_function") fd:=Z.c.t.d.def_ 26 (d:=NH.dOf "refuse_no_function" 82) rfl
theorem Cz.f_refuse_bad_worths (Z:Cz w K h mg):∃ fd,FnP K "refuse_bad_worths" sRefuseBadWorths (He.ga K "refuse_bad_worths") fd:=Z.c.t.d.def_ 27 (d:=NH.dOf "refuse_bad_worths" 83) rfl
theorem Cz.f_run (Z:Cz w K h mg):∃ fd,FnP K "run" sRun (He.ga K "run") fd:=Z.c.t.d.def_ 28 (d:=NH.dOf "run" 86) rfl
theorem Cz.f_good_forms (Z:Cz w K h mg):∃ fd,FnP K "good_forms" sGoodForms (He.ga K "good_forms") fd:=Z.c.t.d.def_ 29 (d:=NH.dOf "good_forms" 122) rfl
theorem Cz.f_run_all (Z:Cz w K h mg):∃ fd,FnP K "run_all" sRunAll (He.ga K "run_all") fd:=Z.c.t.d.def_ 30 (d:=NH.dOf "run_all" 125) rfl
theorem Cz.f_run_flat (Z:Cz w K h mg):∃ fd,FnP K "run_flat" sRunFlat (He.ga K "run_flat") fd:=Z.c.t.d.def_ 31 (d:=NH.dOf "run_flat" 126) rfl
theorem Cz.f_run_trimmed (Z:Cz w K h mg):∃ fd,FnP K "run_trimmed" sRunTrimmed (He.ga K "run_trimmed") fd:=Z.c.t.d.def_ 32 (d:=NH.dOf "run_trimmed" 131) rfl
theorem Cz.f__law_taken (Z:Cz w K h mg):∃ fd,FnP K "_law_taken" sLawTaken (He.ga K "_law_taken") fd:=Z.c.t.d.def_ 33 (d:=NH.dOf "_law_taken" 133) rfl
theorem Cz.f__law_parts (Z:Cz w K h mg):∃ fd,FnP K "_law_parts" sLawParts (He.ga K "_law_parts") fd:=Z.c.t.d.def_ 34 (d:=NH.dOf "_law_parts" 134) rfl
theorem Cz.f__law_size (Z:Cz w K h mg):∃ fd,FnP K "_law_size" sLawSize (He.ga K "_law_size") fd:=Z.c.t.d.def_ 35 (d:=NH.dOf "_law_size" 135) rfl
theorem Cz.f__law_within (Z:Cz w K h mg):∃ fd,FnP K "_law_within" sLawWithin (He.ga K "_law_within") fd:=Z.c.t.d.def_ 36 (d:=NH.dOf "_law_within" 136) rfl
theorem Cz.f__law_leaf (Z:Cz w K h mg):∃ fd,FnP K "_law_leaf" sLawLeaf (He.ga K "_law_leaf") fd:=Z.c.t.d.def_ 37 (d:=NH.dOf "_law_leaf" 137) rfl
theorem Cz.f__law_number (Z:Cz w K h mg):∃ fd,FnP K "_law_number" sLawNumber (He.ga K "_law_number") fd:=Z.c.t.d.def_ 38 (d:=NH.dOf "_law_number" 138) rfl
theorem Cz.f__law_bound (Z:Cz w K h mg):∃ fd,FnP K "_law_bound" sLawBound (He.ga K "_law_bound") fd:=Z.c.t.d.def_ 39 (d:=NH.dOf "_law_bound" 139) rfl
theorem Cz.f__law_any (Z:Cz w K h mg):∃ fd,FnP K "_law_any" sLawAny (He.ga K "_law_any") fd:=Z.c.t.d.def_ 40 (d:=NH.dOf "_law_any" 140) rfl
theorem Cz.f__law_tree (Z:Cz w K h mg):∃ fd,FnP K "_law_tree" sLawTree (He.ga K "_law_tree") fd:=Z.c.t.d.def_ 41 (d:=NH.dOf "_law_tree" 141) rfl
theorem Cz.f__law_face (Z:Cz w K h mg):∃ fd,FnP K "_law_face" sLawFace (He.ga K "_law_face") fd:=Z.c.t.d.def_ 42 (d:=NH.dOf "_law_face" 142) rfl
theorem Cz.f__law_body (Z:Cz w K h mg):∃ fd,FnP K "_law_body" sLawBody (He.ga K "_law_body") fd:=Z.c.t.d.def_ 43 (d:=NH.dOf "_law_body" 143) rfl
theorem Cz.f__law_program (Z:Cz w K h mg):∃ fd,FnP K "_law_program" sLawProgram (He.ga K "_law_program") fd:=Z.c.t.d.def_ 44 (d:=NH.dOf "_law_program" 144) rfl
theorem Cz.f__law_row (Z:Cz w K h mg):∃ fd,FnP K "_law_row" sLawRow (He.ga K "_law_row") fd:=Z.c.t.d.def_ 45 (d:=NH.dOf "_law_row" 145) rfl
theorem Cz.f__law_worths (Z:Cz w K h mg):∃ fd,FnP K "_law_worths" sLawWorths (He.ga K "_law_worths") fd:=Z.c.t.d.def_ 46 (d:=NH.dOf "_law_worths" 146) rfl
theorem Cz.f__law_started (Z:Cz w K h mg):∃ fd,FnP K "_law_started" sLawStarted (He.ga K "_law_started") fd:=Z.c.t.d.def_ 47 (d:=NH.dOf "_law_started" 147) rfl
theorem Cz.f__law_called (Z:Cz w K h mg):∃ fd,FnP K "_law_called" sLawCalled (He.ga K "_law_called") fd:=Z.c.t.d.def_ 48 (d:=NH.dOf "_law_called" 148) rfl
theorem Cz.f__law_done (Z:Cz w K h mg):∃ fd,FnP K "_law_done" sLawDone (He.ga K "_law_done") fd:=Z.c.t.d.def_ 49 (d:=NH.dOf "_law_done" 149) rfl
theorem Cz.f__law_entered (Z:Cz w K h mg):∃ fd,FnP K "_law_entered" sLawEntered (He.ga K "_law_entered") fd:=Z.c.t.d.def_ 50 (d:=NH.dOf "_law_entered" 150) rfl
theorem Cz.f__law_gone (Z:Cz w K h mg):∃ fd,FnP K "_law_gone" sLawGone (He.ga K "_law_gone") fd:=Z.c.t.d.def_ 51 (d:=NH.dOf "_law_gone" 151) rfl
theorem Cz.f__law_simple (Z:Cz w K h mg):∃ fd,FnP K "_law_simple" sLawSimple (He.ga K "_law_simple") fd:=Z.c.t.d.def_ 52 (d:=NH.dOf "_law_simple" 152) rfl
theorem Cz.l__law_simple (Z:Cz w K h mg):∃ fd,FunL K "_law_simple" sLawSimple (He.ga K "_law_simple") fd (He.cT K ("_law_simple", none)).1∧FnP K "_law_simple" sLawSimple (He.ga K "_law_simple") fd:=by
 obtain⟨fd,F⟩:=Z.f__law_simple
 obtain⟨oc,od,dV,kV,doc,pm,an,cdv,ct,osl,rfl,lk,hcd,_,_⟩:=id F.ex
 obtain⟨c,rfl⟩:=He.codeIn_ref hcd
 have e:(He.cT K ("_law_simple", none)).1=c:=He.codeOf_eq lk rfl
 refine⟨_,⟨oc,od,dV,kV,doc,pm,an,ct,osl,?_,lk,?_⟩,F⟩
 ·rw [e]
 ·rw [e]
  exact hcd
theorem Cz.f__law_run (Z:Cz w K h mg):∃ fd,FnP K "_law_run" sLawRun (He.ga K "_law_run") fd:=Z.c.t.d.def_ 53 (d:=NH.dOf "_law_run" 153) rfl
theorem Cz.f__law_in_one (Z:Cz w K h mg):∃ fd,FnP K "_law_in_one" sLawInOne (He.ga K "_law_in_one") fd:=Z.c.t.d.def_ 54 (d:=NH.dOf "_law_in_one" 154) rfl
theorem Cz.f__law_word (Z:Cz w K h mg):∃ fd,FnP K "_law_word" sLawWord (He.ga K "_law_word") fd:=Z.c.t.d.def_ 55 (d:=NH.dOf "_law_word" 155) rfl
theorem Cz.f__law_run_of (Z:Cz w K h mg):∃ fd,FnP K "_law_run_of" sLawRunOf (He.ga K "_law_run_of") fd:=Z.c.t.d.def_ 56 (d:=NH.dOf "_law_run_of" 156) rfl
theorem Cz.f__law_odd (Z:Cz w K h mg):∃ fd,FnP K "_law_odd" sLawOdd (He.ga K "_law_odd") fd:=Z.c.t.d.def_ 57 (d:=NH.dOf "_law_odd" 157) rfl
theorem Cz.f__law_is_refused (Z:Cz w K h mg):∃ fd,FnP K "_law_is_refused" sLawIsRefused (He.ga K "_law_is_refused") fd:=Z.c.t.d.def_ 58 (d:=NH.dOf "_law_is_refused" 158) rfl
theorem Cz.l__law_is_refused (Z:Cz w K h mg):∃ fd,FunL K "_law_is_refused" sLawIsRefused (He.ga K "_law_is_refused") fd (He.cT K ("_law_is_refused", none)).1∧FnP K "_law_is_refused" sLawIsRefused (He.ga K "_law_is_refused") fd:=by
 obtain⟨fd,F⟩:=Z.f__law_is_refused
 obtain⟨oc,od,dV,kV,doc,pm,an,cdv,ct,osl,rfl,lk,hcd,_,_⟩:=id F.ex
 obtain⟨c,rfl⟩:=He.codeIn_ref hcd
 have e:(He.cT K ("_law_is_refused", none)).1=c:=He.codeOf_eq lk rfl
 refine⟨_,⟨oc,od,dV,kV,doc,pm,an,ct,osl,?_,lk,?_⟩,F⟩
 ·rw [e]
 ·rw [e]
  exact hcd
theorem Cz.f_law (Z:Cz w K h mg):∃ fd,FnP K "law" sLaw (He.ga K "law") fd:=Z.c.t.d.def_ 59 (d:=NH.dOf "law" 159) rfl
theorem Cz.l_law (Z:Cz w K h mg):∃ fd,FunL K "law" sLaw (He.ga K "law") fd (He.cT K ("law", none)).1∧FnP K "law" sLaw (He.ga K "law") fd:=by
 obtain⟨fd,F⟩:=Z.f_law
 obtain⟨oc,od,dV,kV,doc,pm,an,cdv,ct,osl,rfl,lk,hcd,_,_⟩:=id F.ex
 obtain⟨c,rfl⟩:=He.codeIn_ref hcd
 have e:(He.cT K ("law", none)).1=c:=He.codeOf_eq lk rfl
 refine⟨_,⟨oc,od,dV,kV,doc,pm,an,ct,osl,?_,lk,?_⟩,F⟩
 ·rw [e]
 ·rw [e]
  exact hcd
theorem Cz.f_Nodeinit (Z:Cz w K h mg):∃ fd,FnM K "__init__" "Node.__init__" sNodeInit (He.ma K (He.ga K "Node") "__init__") fd:=Z.c.t.d.def_ 60 (d:=NH.mOf "Node" "__init__" "Node.__init__" 71 0) rfl
theorem Cz.m_Nodeinit (Z:Cz w K h mg):Mk K (He.ga K "Node") (He.ma K (He.ga K "Node") "__init__"):=He.mkr_ok (Z.c.t.d.fact 96 (f:=.mkr "Node") rfl)
theorem Cz.f_Forminit (Z:Cz w K h mg):∃ fd,FnM K "__init__" "Form.__init__" sFormInit (He.ma K (He.ga K "Form") "__init__") fd:=Z.c.t.d.def_ 61 (d:=NH.mOf "Form" "__init__" "Form.__init__" 73 0) rfl
theorem Cz.m_Forminit (Z:Cz w K h mg):Mk K (He.ga K "Form") (He.ma K (He.ga K "Form") "__init__"):=He.mkr_ok (Z.c.t.d.fact 104 (f:=.mkr "Form") rfl)
theorem Cz.f_Lookinit (Z:Cz w K h mg):∃ fd,FnM K "__init__" "Look.__init__" sLookInit (He.ma K (He.ga K "Look") "__init__") fd:=Z.c.t.d.def_ 62 (d:=NH.mOf "Look" "__init__" "Look.__init__" 74 0) rfl
theorem Cz.m_Lookinit (Z:Cz w K h mg):Mk K (He.ga K "Look") (He.ma K (He.ga K "Look") "__init__"):=He.mkr_ok (Z.c.t.d.fact 109 (f:=.mkr "Look") rfl)
theorem Cz.f_Lookrefuse_if (Z:Cz w K h mg):∃ fd,FnM K "refuse_if" "Look.refuse_if" sLookRefuseIf (He.ma K (He.ga K "Look") "refuse_if") fd:=Z.c.t.d.def_ 63 (d:=NH.mOf "Look" "refuse_if" "Look.refuse_if" 74 1) rfl
theorem Cz.m_Lookrefuse_if (Z:Cz w K h mg):Meth K (He.ga K "Look") "refuse_if" (He.ma K (He.ga K "Look") "refuse_if"):=He.meth_ok (Z.c.t.d.fact 114 (f:=.meth "Look" "refuse_if") rfl)
theorem Cz.f_Looknode_of (Z:Cz w K h mg):∃ fd,FnM K "node_of" "Look.node_of" sLookNodeOf (He.ma K (He.ga K "Look") "node_of") fd:=Z.c.t.d.def_ 64 (d:=NH.mOf "Look" "node_of" "Look.node_of" 74 2) rfl
theorem Cz.m_Looknode_of (Z:Cz w K h mg):Meth K (He.ga K "Look") "node_of" (He.ma K (He.ga K "Look") "node_of"):=He.meth_ok (Z.c.t.d.fact 115 (f:=.meth "Look" "node_of") rfl)
theorem Cz.f_Lookmay_call (Z:Cz w K h mg):∃ fd,FnM K "may_call" "Look.may_call" sLookMayCall (He.ma K (He.ga K "Look") "may_call") fd:=Z.c.t.d.def_ 65 (d:=NH.mOf "Look" "may_call" "Look.may_call" 74 3) rfl
theorem Cz.m_Lookmay_call (Z:Cz w K h mg):Meth K (He.ga K "Look") "may_call" (He.ma K (He.ga K "Look") "may_call"):=He.meth_ok (Z.c.t.d.fact 116 (f:=.meth "Look" "may_call") rfl)
theorem Cz.f_Lookparts_that_name (Z:Cz w K h mg):∃ fd,FnM K "parts_that_name" "Look.parts_that_name" sLookPartsThatName (He.ma K (He.ga K "Look") "parts_that_name") fd:=Z.c.t.d.def_ 66 (d:=NH.mOf "Look" "parts_that_name" "Look.parts_that_name" 74 4) rfl
theorem Cz.m_Lookparts_that_name (Z:Cz w K h mg):Meth K (He.ga K "Look") "parts_that_name" (He.ma K (He.ga K "Look") "parts_that_name"):=He.meth_ok (Z.c.t.d.fact 117 (f:=.meth "Look" "parts_that_name") rfl)
theorem Cz.f_Lookdepth_told (Z:Cz w K h mg):∃ fd,FnM K "depth_told" "Look.depth_told" sLookDepthTold (He.ma K (He.ga K "Look") "depth_told") fd:=Z.c.t.d.def_ 67 (d:=NH.mOf "Look" "depth_told" "Look.depth_told" 74 5) rfl
theorem Cz.m_Lookdepth_told (Z:Cz w K h mg):Meth K (He.ga K "Look") "depth_told" (He.ma K (He.ga K "Look") "depth_told"):=He.meth_ok (Z.c.t.d.fact 118 (f:=.meth "Look" "depth_told") rfl)
theorem Cz.c_Node (Z:Cz w K h mg):NdC K (He.ga K "Node"):=⟨He.cls_ok (Z.c.t.d.fact 95 (f:=.cls "Node") rfl),He.noat_ok (Z.c.t.d.fact 97 (f:=.noat "Node" "word") rfl),He.noat_ok (Z.c.t.d.fact 98 (f:=.noat "Node" "function") rfl),He.noat_ok (Z.c.t.d.fact 99 (f:=.noat "Node" "place") rfl),He.noat_ok (Z.c.t.d.fact 100 (f:=.noat "Node" "number") rfl),He.noat_ok (Z.c.t.d.fact 101 (f:=.noat "Node" "parts") rfl),He.noat_ok (Z.c.t.d.fact 102 (f:=.noat "Node" "depth") rfl)⟩
theorem Cz.c_Form (Z:Cz w K h mg):FmC K (He.ga K "Form"):=⟨He.cls_ok (Z.c.t.d.fact 103 (f:=.cls "Form") rfl),He.noat_ok (Z.c.t.d.fact 105 (f:=.noat "Form" "names") rfl),He.noat_ok (Z.c.t.d.fact 106 (f:=.noat "Form" "depths") rfl),He.noat_ok (Z.c.t.d.fact 107 (f:=.noat "Form" "body") rfl)⟩
theorem Cz.c_Look (Z:Cz w K h mg):LkC K (He.ga K "Look"):=⟨He.cls_ok (Z.c.t.d.fact 108 (f:=.cls "Look") rfl),He.noat_ok (Z.c.t.d.fact 110 (f:=.noat "Look" "known") rfl),He.noat_ok (Z.c.t.d.fact 111 (f:=.noat "Look" "function") rfl),He.noat_ok (Z.c.t.d.fact 112 (f:=.noat "Look" "looked_at") rfl),He.noat_ok (Z.c.t.d.fact 113 (f:=.noat "Look" "calls_itself") rfl)⟩
theorem Cz.ex (Z:Cz w K h mg):(NH.errB K "BadWorth" "BadWorth.__init__" PySem.Challenge.pw_nestrows_k02_functions_and_worths_refuse.main.file=true)∧(decide (PySem.W.kitOne K (.ref (He.ga K "BadWorth")) (.ref (He.ga K "BadProgram"))=some false)=true)∧(decide (PySem.W.kitOne K (.ref (He.ga K "BadWorth")) (.ref (He.ga K "BadText"))=some false)=true)∧(decide (PySem.W.kitOne K (.ref (He.ga K "BadWorth")) (.ref (He.ga K "BadWorth"))=some true)=true)∧(decide (PySem.W.kitOne K (.ref (He.ga K "BadWorth")) (.ref (He.ga K "NoFunction"))=some false)=true)∧(decide (PySem.W.kitOne K (.ref (He.ga K "BadWorth")) (.type "ValueError")=some true)=true)∧(decide (PySem.W.kitOne K (.ref (He.ga K "NoFunction")) (.ref (He.ga K "BadProgram"))=some false)=true)∧(decide (PySem.W.kitOne K (.ref (He.ga K "NoFunction")) (.ref (He.ga K "BadText"))=some false)=true)∧(decide (PySem.W.kitOne K (.ref (He.ga K "NoFunction")) (.ref (He.ga K "BadWorth"))=some false)=true)∧(decide (PySem.W.kitOne K (.ref (He.ga K "NoFunction")) (.ref (He.ga K "NoFunction"))=some true)=true)∧(decide (PySem.W.kitOne K (.ref (He.ga K "NoFunction")) (.type "ValueError")=some true)=true)∧(L2.xfB K (He.ga K "NoFunction")=true)∧(He.eqO (PySem.W.findIn K (.ref (He.ga K "NoFunction")) "__class__") (some (some (.builtin "object.__class__")))=true)∧(decide (PySem.W.mroIn K (He.ga K "NoFunction") (.type "object")=some true)=true)∧(decide ((He.cT K ("_law_is_refused", none)).2≠(He.cT K ("_law_simple", none)).2)=true)∧(decide ((He.cT K ("law", none)).2≠(He.cT K ("_law_simple", none)).2)=true)∧(decide ((He.cT K ("law", none)).2≠(He.cT K ("_law_is_refused", none)).2)=true)∧(He.valsB K (He.ga K "LENGTHS") NH.tLengths=true)∧(He.valsB K (He.ga K "RULES") NH.tRules=true)∧(He.tupB K "NUMBERED" NH.uNumbered=true):=by
 have h0:=Z.c.more
 obtain⟨a0,h1⟩:=He.ba h0
 obtain⟨a1,h2⟩:=He.ba h1
 obtain⟨a2,h3⟩:=He.ba h2
 obtain⟨a3,h4⟩:=He.ba h3
 obtain⟨a4,h5⟩:=He.ba h4
 obtain⟨a5,h6⟩:=He.ba h5
 obtain⟨a6,h7⟩:=He.ba h6
 obtain⟨a7,h8⟩:=He.ba h7
 obtain⟨a8,h9⟩:=He.ba h8
 obtain⟨a9,h10⟩:=He.ba h9
 obtain⟨a10,h11⟩:=He.ba h10
 obtain⟨a11,h12⟩:=He.ba h11
 obtain⟨a12,h13⟩:=He.ba h12
 obtain⟨a13,h14⟩:=He.ba h13
 obtain⟨a14,h15⟩:=He.ba h14
 obtain⟨a15,h16⟩:=He.ba h15
 obtain⟨a16,h17⟩:=He.ba h16
 obtain⟨a17,h18⟩:=He.ba h17
 obtain⟨a18,h19⟩:=He.ba h18
 exact⟨a0,a1,a2,a3,a4,a5,a6,a7,a8,a9,a10,a11,a12,a13,a14,a15,a16,a17,a18,h19⟩
theorem Cz.x1 (Z:Cz w K h mg):PySem.W.kitOne K (.ref (He.ga K "BadWorth")) (.ref (He.ga K "BadProgram"))=some false:=of_decide_eq_true (Z.ex.2.1)
theorem Cz.x2 (Z:Cz w K h mg):PySem.W.kitOne K (.ref (He.ga K "BadWorth")) (.ref (He.ga K "BadText"))=some false:=of_decide_eq_true (Z.ex.2.2.1)
theorem Cz.x3 (Z:Cz w K h mg):PySem.W.kitOne K (.ref (He.ga K "BadWorth")) (.ref (He.ga K "BadWorth"))=some true:=of_decide_eq_true (Z.ex.2.2.2.1)
theorem Cz.x4 (Z:Cz w K h mg):PySem.W.kitOne K (.ref (He.ga K "BadWorth")) (.ref (He.ga K "NoFunction"))=some false:=of_decide_eq_true (Z.ex.2.2.2.2.1)
theorem Cz.x5 (Z:Cz w K h mg):PySem.W.kitOne K (.ref (He.ga K "BadWorth")) (.type "ValueError")=some true:=of_decide_eq_true (Z.ex.2.2.2.2.2.1)
theorem Cz.x6 (Z:Cz w K h mg):PySem.W.kitOne K (.ref (He.ga K "NoFunction")) (.ref (He.ga K "BadProgram"))=some false:=of_decide_eq_true (Z.ex.2.2.2.2.2.2.1)
theorem Cz.x7 (Z:Cz w K h mg):PySem.W.kitOne K (.ref (He.ga K "NoFunction")) (.ref (He.ga K "BadText"))=some false:=of_decide_eq_true (Z.ex.2.2.2.2.2.2.2.1)
theorem Cz.x8 (Z:Cz w K h mg):PySem.W.kitOne K (.ref (He.ga K "NoFunction")) (.ref (He.ga K "BadWorth"))=some false:=of_decide_eq_true (Z.ex.2.2.2.2.2.2.2.2.1)
theorem Cz.x9 (Z:Cz w K h mg):PySem.W.kitOne K (.ref (He.ga K "NoFunction")) (.ref (He.ga K "NoFunction"))=some true:=of_decide_eq_true (Z.ex.2.2.2.2.2.2.2.2.2.1)
theorem Cz.x10 (Z:Cz w K h mg):PySem.W.kitOne K (.ref (He.ga K "NoFunction")) (.type "ValueError")=some true:=of_decide_eq_true (Z.ex.2.2.2.2.2.2.2.2.2.2.1)
theorem Cz.x11 (Z:Cz w K h mg):L2.xfB K (He.ga K "NoFunction")=true:=Z.ex.2.2.2.2.2.2.2.2.2.2.2.1
theorem Cz.x12 (Z:Cz w K h mg):He.eqO (PySem.W.findIn K (.ref (He.ga K "NoFunction")) "__class__") (some (some (.builtin "object.__class__")))=true:=Z.ex.2.2.2.2.2.2.2.2.2.2.2.2.1
theorem Cz.x13 (Z:Cz w K h mg):PySem.W.mroIn K (He.ga K "NoFunction") (.type "object")=some true:=of_decide_eq_true (Z.ex.2.2.2.2.2.2.2.2.2.2.2.2.2.1)
theorem Cz.x14 (Z:Cz w K h mg):(He.cT K ("_law_is_refused", none)).2≠(He.cT K ("_law_simple", none)).2:=of_decide_eq_true (Z.ex.2.2.2.2.2.2.2.2.2.2.2.2.2.2.1)
theorem Cz.x15 (Z:Cz w K h mg):(He.cT K ("law", none)).2≠(He.cT K ("_law_simple", none)).2:=of_decide_eq_true (Z.ex.2.2.2.2.2.2.2.2.2.2.2.2.2.2.2.1)
theorem Cz.x16 (Z:Cz w K h mg):(He.cT K ("law", none)).2≠(He.cT K ("_law_is_refused", none)).2:=of_decide_eq_true (Z.ex.2.2.2.2.2.2.2.2.2.2.2.2.2.2.2.2.1)
theorem Cz.numT (Z:Cz w K h mg) (H:Hp):SqT K H (He.ga K "NUMBERED") numW:=He.tupB_ok (Z.ex.2.2.2.2.2.2.2.2.2.2.2.2.2.2.2.2.2.2.2) H
theorem Cz.lenTb (Z:Cz w K h mg):Tbl K w (He.ga K "LENGTHS") gLen:=by
 refine⟨Z.c.t.tab 0,fun x v hv => ?_⟩
 cases hv
 cases x with
 | num=>exact He.valsB_ok (Z.ex.2.2.2.2.2.2.2.2.2.2.2.2.2.2.2.2.2.1) (q:=("num", .int 2)) (List.mem_of_getElem? (i:=0) rfl)
 | name=>exact He.valsB_ok (Z.ex.2.2.2.2.2.2.2.2.2.2.2.2.2.2.2.2.2.1) (q:=("name", .int 2)) (List.mem_of_getElem? (i:=1) rfl)
 | plus=>exact He.valsB_ok (Z.ex.2.2.2.2.2.2.2.2.2.2.2.2.2.2.2.2.2.1) (q:=("plus", .int 3)) (List.mem_of_getElem? (i:=2) rfl)
 | minus=>exact He.valsB_ok (Z.ex.2.2.2.2.2.2.2.2.2.2.2.2.2.2.2.2.2.1) (q:=("minus", .int 3)) (List.mem_of_getElem? (i:=3) rfl)
 | times=>exact He.valsB_ok (Z.ex.2.2.2.2.2.2.2.2.2.2.2.2.2.2.2.2.2.1) (q:=("times", .int 3)) (List.mem_of_getElem? (i:=4) rfl)
 | less=>exact He.valsB_ok (Z.ex.2.2.2.2.2.2.2.2.2.2.2.2.2.2.2.2.2.1) (q:=("less", .int 3)) (List.mem_of_getElem? (i:=5) rfl)
 | same=>exact He.valsB_ok (Z.ex.2.2.2.2.2.2.2.2.2.2.2.2.2.2.2.2.2.1) (q:=("same", .int 3)) (List.mem_of_getElem? (i:=6) rfl)
 | ite=>exact He.valsB_ok (Z.ex.2.2.2.2.2.2.2.2.2.2.2.2.2.2.2.2.2.1) (q:=("if", .int 4)) (List.mem_of_getElem? (i:=7) rfl)
 | elet=>exact He.valsB_ok (Z.ex.2.2.2.2.2.2.2.2.2.2.2.2.2.2.2.2.2.1) (q:=("let", .int 4)) (List.mem_of_getElem? (i:=8) rfl)
 | upto=>exact He.valsB_ok (Z.ex.2.2.2.2.2.2.2.2.2.2.2.2.2.2.2.2.2.1) (q:=("upto", .int 2)) (List.mem_of_getElem? (i:=9) rfl)
 | len=>exact He.valsB_ok (Z.ex.2.2.2.2.2.2.2.2.2.2.2.2.2.2.2.2.2.1) (q:=("len", .int 2)) (List.mem_of_getElem? (i:=10) rfl)
 | sum=>exact He.valsB_ok (Z.ex.2.2.2.2.2.2.2.2.2.2.2.2.2.2.2.2.2.1) (q:=("sum", .int 2)) (List.mem_of_getElem? (i:=11) rfl)
 | sums=>exact He.valsB_ok (Z.ex.2.2.2.2.2.2.2.2.2.2.2.2.2.2.2.2.2.1) (q:=("sums", .int 2)) (List.mem_of_getElem? (i:=12) rfl)
 | one=>exact He.valsB_ok (Z.ex.2.2.2.2.2.2.2.2.2.2.2.2.2.2.2.2.2.1) (q:=("one", .int 2)) (List.mem_of_getElem? (i:=13) rfl)
 | pick=>exact He.valsB_ok (Z.ex.2.2.2.2.2.2.2.2.2.2.2.2.2.2.2.2.2.1) (q:=("pick", .int 3)) (List.mem_of_getElem? (i:=14) rfl)
 | put=>exact He.valsB_ok (Z.ex.2.2.2.2.2.2.2.2.2.2.2.2.2.2.2.2.2.1) (q:=("put", .int 3)) (List.mem_of_getElem? (i:=15) rfl)
 | flat=>exact He.valsB_ok (Z.ex.2.2.2.2.2.2.2.2.2.2.2.2.2.2.2.2.2.1) (q:=("flat", .int 2)) (List.mem_of_getElem? (i:=16) rfl)
 | each=>exact He.valsB_ok (Z.ex.2.2.2.2.2.2.2.2.2.2.2.2.2.2.2.2.2.1) (q:=("each", .int 4)) (List.mem_of_getElem? (i:=17) rfl)
 | whr=>exact He.valsB_ok (Z.ex.2.2.2.2.2.2.2.2.2.2.2.2.2.2.2.2.2.1) (q:=("where", .int 4)) (List.mem_of_getElem? (i:=18) rfl)
 | call=>exact He.valsB_ok (Z.ex.2.2.2.2.2.2.2.2.2.2.2.2.2.2.2.2.2.1) (q:=("call", .int 3)) (List.mem_of_getElem? (i:=19) rfl)
def gRul (K:PySem.W.Frag):W→Option V
 | .num=>some (.ref (He.ga K "of_num"))
 | .plus=>some (.ref (He.ga K "of_two_numbers"))
 | .minus=>some (.ref (He.ga K "of_two_numbers"))
 | .times=>some (.ref (He.ga K "of_two_numbers"))
 | .less=>some (.ref (He.ga K "of_two_numbers"))
 | .same=>some (.ref (He.ga K "of_two_numbers"))
 | .ite=>some (.ref (He.ga K "of_if"))
 | .elet=>some (.ref (He.ga K "of_let"))
 | .upto=>some (.ref (He.ga K "of_upto_depths"))
 | .len=>some (.ref (He.ga K "of_len_depths"))
 | .sum=>some (.ref (He.ga K "of_sum_depths"))
 | .sums=>some (.ref (He.ga K "of_sums_depths"))
 | .one=>some (.ref (He.ga K "of_one_depths"))
 | .pick=>some (.ref (He.ga K "of_pick_depths"))
 | .put=>some (.ref (He.ga K "of_put_depths"))
 | .flat=>some (.ref (He.ga K "of_flat_depths"))
 | .each=>some (.ref (He.ga K "of_each"))
 | .whr=>some (.ref (He.ga K "of_where"))
 | _=>none
theorem Cz.rulTb (Z:Cz w K h mg):Tbl K w (He.ga K "RULES") (gRul K):=by
 refine⟨Z.c.t.tab 1,fun x v hv => ?_⟩
 cases x with
 | num =>
  cases hv
  exact He.valsB_ok (Z.ex.2.2.2.2.2.2.2.2.2.2.2.2.2.2.2.2.2.2.1) (q:=("num", .glo "of_num")) (List.mem_of_getElem? (i:=0) rfl)
 | plus =>
  cases hv
  exact He.valsB_ok (Z.ex.2.2.2.2.2.2.2.2.2.2.2.2.2.2.2.2.2.2.1) (q:=("plus", .glo "of_two_numbers")) (List.mem_of_getElem? (i:=1) rfl)
 | minus =>
  cases hv
  exact He.valsB_ok (Z.ex.2.2.2.2.2.2.2.2.2.2.2.2.2.2.2.2.2.2.1) (q:=("minus", .glo "of_two_numbers")) (List.mem_of_getElem? (i:=2) rfl)
 | times =>
  cases hv
  exact He.valsB_ok (Z.ex.2.2.2.2.2.2.2.2.2.2.2.2.2.2.2.2.2.2.1) (q:=("times", .glo "of_two_numbers")) (List.mem_of_getElem? (i:=3) rfl)
 | less =>
  cases hv
  exact He.valsB_ok (Z.ex.2.2.2.2.2.2.2.2.2.2.2.2.2.2.2.2.2.2.1) (q:=("less", .glo "of_two_numbers")) (List.mem_of_getElem? (i:=4) rfl)
 | same =>
  cases hv
  exact He.valsB_ok (Z.ex.2.2.2.2.2.2.2.2.2.2.2.2.2.2.2.2.2.2.1) (q:=("same", .glo "of_two_numbers")) (List.mem_of_getElem? (i:=5) rfl)
 | ite =>
  cases hv
  exact He.valsB_ok (Z.ex.2.2.2.2.2.2.2.2.2.2.2.2.2.2.2.2.2.2.1) (q:=("if", .glo "of_if")) (List.mem_of_getElem? (i:=6) rfl)
 | elet =>
  cases hv
  exact He.valsB_ok (Z.ex.2.2.2.2.2.2.2.2.2.2.2.2.2.2.2.2.2.2.1) (q:=("let", .glo "of_let")) (List.mem_of_getElem? (i:=7) rfl)
 | upto =>
  cases hv
  exact He.valsB_ok (Z.ex.2.2.2.2.2.2.2.2.2.2.2.2.2.2.2.2.2.2.1) (q:=("upto", .glo "of_upto_depths")) (List.mem_of_getElem? (i:=8) rfl)
 | len =>
  cases hv
  exact He.valsB_ok (Z.ex.2.2.2.2.2.2.2.2.2.2.2.2.2.2.2.2.2.2.1) (q:=("len", .glo "of_len_depths")) (List.mem_of_getElem? (i:=9) rfl)
 | sum =>
  cases hv
  exact He.valsB_ok (Z.ex.2.2.2.2.2.2.2.2.2.2.2.2.2.2.2.2.2.2.1) (q:=("sum", .glo "of_sum_depths")) (List.mem_of_getElem? (i:=10) rfl)
 | sums =>
  cases hv
  exact He.valsB_ok (Z.ex.2.2.2.2.2.2.2.2.2.2.2.2.2.2.2.2.2.2.1) (q:=("sums", .glo "of_sums_depths")) (List.mem_of_getElem? (i:=11) rfl)
 | one =>
  cases hv
  exact He.valsB_ok (Z.ex.2.2.2.2.2.2.2.2.2.2.2.2.2.2.2.2.2.2.1) (q:=("one", .glo "of_one_depths")) (List.mem_of_getElem? (i:=12) rfl)
 | pick =>
  cases hv
  exact He.valsB_ok (Z.ex.2.2.2.2.2.2.2.2.2.2.2.2.2.2.2.2.2.2.1) (q:=("pick", .glo "of_pick_depths")) (List.mem_of_getElem? (i:=13) rfl)
 | put =>
  cases hv
  exact He.valsB_ok (Z.ex.2.2.2.2.2.2.2.2.2.2.2.2.2.2.2.2.2.2.1) (q:=("put", .glo "of_put_depths")) (List.mem_of_getElem? (i:=14) rfl)
 | flat =>
  cases hv
  exact He.valsB_ok (Z.ex.2.2.2.2.2.2.2.2.2.2.2.2.2.2.2.2.2.2.1) (q:=("flat", .glo "of_flat_depths")) (List.mem_of_getElem? (i:=15) rfl)
 | each =>
  cases hv
  exact He.valsB_ok (Z.ex.2.2.2.2.2.2.2.2.2.2.2.2.2.2.2.2.2.2.1) (q:=("each", .glo "of_each")) (List.mem_of_getElem? (i:=16) rfl)
 | whr =>
  cases hv
  exact He.valsB_ok (Z.ex.2.2.2.2.2.2.2.2.2.2.2.2.2.2.2.2.2.2.1) (q:=("where", .glo "of_where")) (List.mem_of_getElem? (i:=17) rfl)
 | name=>cases hv
 | call=>cases hv
theorem Cz.r_of_num (Z:Cz w K h mg) {x:W}(hg:gRul K x=some (.ref (He.ga K "of_num"))) (hS:((·=.num):W→Prop) x):∃ (fa:Addr) (fd:FuncData) (S:W→Prop),gRul K x=some (.ref fa)∧FnOk P w K mg base CX0 1 fa fd ["depths"] (spOf S)∧S x∧PySem.W.keepIn K (.ref fa)=true∧Binds K fd ["depths"] []:=by
 obtain⟨fd,F⟩:=Z.f_of_num
 obtain⟨t0,h0⟩:=Z.i_NO_DEPTH
 obtain⟨t1,h1⟩:=Z.i_MOST_DEPTH
 exact⟨_,fd,_,hg,ok_of_num F h0 h1,hS,F.kp,F.bindsN fun _ _ _ _ _ _ us hl=>match us,hl with | [_],_=>rfl⟩
theorem Cz.r_of_two_numbers (Z:Cz w K h mg) {x:W}(hg:gRul K x=some (.ref (He.ga K "of_two_numbers"))) (hS:(isTwo:W→Prop) x):∃ (fa:Addr) (fd:FuncData) (S:W→Prop),gRul K x=some (.ref fa)∧FnOk P w K mg base CX0 1 fa fd ["depths"] (spOf S)∧S x∧PySem.W.keepIn K (.ref fa)=true∧Binds K fd ["depths"] []:=by
 obtain⟨fd,F⟩:=Z.f_of_two_numbers
 obtain⟨t0,h0⟩:=Z.i_NO_DEPTH
 obtain⟨t1,h1⟩:=Z.i_MOST_DEPTH
 exact⟨_,fd,_,hg,ok_of_two_numbers F h0 h1,hS,F.kp,F.bindsN fun _ _ _ _ _ _ us hl=>match us,hl with | [_],_=>rfl⟩
theorem Cz.r_of_if (Z:Cz w K h mg) {x:W}(hg:gRul K x=some (.ref (He.ga K "of_if"))) (hS:((·=.ite):W→Prop) x):∃ (fa:Addr) (fd:FuncData) (S:W→Prop),gRul K x=some (.ref fa)∧FnOk P w K mg base CX0 1 fa fd ["depths"] (spOf S)∧S x∧PySem.W.keepIn K (.ref fa)=true∧Binds K fd ["depths"] []:=by
 obtain⟨fd,F⟩:=Z.f_of_if
 obtain⟨t0,h0⟩:=Z.i_NO_DEPTH
 obtain⟨t1,h1⟩:=Z.i_MOST_DEPTH
 exact⟨_,fd,_,hg,ok_of_if F h0 h1,hS,F.kp,F.bindsN fun _ _ _ _ _ _ us hl=>match us,hl with | [_],_=>rfl⟩
theorem Cz.r_of_let (Z:Cz w K h mg) {x:W}(hg:gRul K x=some (.ref (He.ga K "of_let"))) (hS:((·=.elet):W→Prop) x):∃ (fa:Addr) (fd:FuncData) (S:W→Prop),gRul K x=some (.ref fa)∧FnOk P w K mg base CX0 1 fa fd ["depths"] (spOf S)∧S x∧PySem.W.keepIn K (.ref fa)=true∧Binds K fd ["depths"] []:=by
 obtain⟨fd,F⟩:=Z.f_of_let
 obtain⟨t0,h0⟩:=Z.i_NO_DEPTH
 obtain⟨t1,h1⟩:=Z.i_MOST_DEPTH
 exact⟨_,fd,_,hg,ok_of_let F h0 h1,hS,F.kp,F.bindsN fun _ _ _ _ _ _ us hl=>match us,hl with | [_],_=>rfl⟩
theorem Cz.r_of_upto_depths (Z:Cz w K h mg) {x:W}(hg:gRul K x=some (.ref (He.ga K "of_upto_depths"))) (hS:((·=.upto):W→Prop) x):∃ (fa:Addr) (fd:FuncData) (S:W→Prop),gRul K x=some (.ref fa)∧FnOk P w K mg base CX0 1 fa fd ["depths"] (spOf S)∧S x∧PySem.W.keepIn K (.ref fa)=true∧Binds K fd ["depths"] []:=by
 obtain⟨fd,F⟩:=Z.f_of_upto_depths
 obtain⟨t0,h0⟩:=Z.i_NO_DEPTH
 obtain⟨t1,h1⟩:=Z.i_MOST_DEPTH
 exact⟨_,fd,_,hg,ok_of_upto F h0 h1,hS,F.kp,F.bindsN fun _ _ _ _ _ _ us hl=>match us,hl with | [_],_=>rfl⟩
theorem Cz.r_of_len_depths (Z:Cz w K h mg) {x:W}(hg:gRul K x=some (.ref (He.ga K "of_len_depths"))) (hS:((·=.len):W→Prop) x):∃ (fa:Addr) (fd:FuncData) (S:W→Prop),gRul K x=some (.ref fa)∧FnOk P w K mg base CX0 1 fa fd ["depths"] (spOf S)∧S x∧PySem.W.keepIn K (.ref fa)=true∧Binds K fd ["depths"] []:=by
 obtain⟨fd,F⟩:=Z.f_of_len_depths
 obtain⟨t0,h0⟩:=Z.i_NO_DEPTH
 obtain⟨t1,h1⟩:=Z.i_MOST_DEPTH
 exact⟨_,fd,_,hg,ok_of_len F h0 h1,hS,F.kp,F.bindsN fun _ _ _ _ _ _ us hl=>match us,hl with | [_],_=>rfl⟩
theorem Cz.r_of_sum_depths (Z:Cz w K h mg) {x:W}(hg:gRul K x=some (.ref (He.ga K "of_sum_depths"))) (hS:((·=.sum):W→Prop) x):∃ (fa:Addr) (fd:FuncData) (S:W→Prop),gRul K x=some (.ref fa)∧FnOk P w K mg base CX0 1 fa fd ["depths"] (spOf S)∧S x∧PySem.W.keepIn K (.ref fa)=true∧Binds K fd ["depths"] []:=by
 obtain⟨fd,F⟩:=Z.f_of_sum_depths
 obtain⟨t0,h0⟩:=Z.i_NO_DEPTH
 obtain⟨t1,h1⟩:=Z.i_MOST_DEPTH
 exact⟨_,fd,_,hg,ok_of_sum F h0 h1,hS,F.kp,F.bindsN fun _ _ _ _ _ _ us hl=>match us,hl with | [_],_=>rfl⟩
theorem Cz.r_of_sums_depths (Z:Cz w K h mg) {x:W}(hg:gRul K x=some (.ref (He.ga K "of_sums_depths"))) (hS:((·=.sums):W→Prop) x):∃ (fa:Addr) (fd:FuncData) (S:W→Prop),gRul K x=some (.ref fa)∧FnOk P w K mg base CX0 1 fa fd ["depths"] (spOf S)∧S x∧PySem.W.keepIn K (.ref fa)=true∧Binds K fd ["depths"] []:=by
 obtain⟨fd,F⟩:=Z.f_of_sums_depths
 obtain⟨t0,h0⟩:=Z.i_NO_DEPTH
 obtain⟨t1,h1⟩:=Z.i_MOST_DEPTH
 exact⟨_,fd,_,hg,ok_of_sums F h0 h1,hS,F.kp,F.bindsN fun _ _ _ _ _ _ us hl=>match us,hl with | [_],_=>rfl⟩
theorem Cz.r_of_one_depths (Z:Cz w K h mg) {x:W}(hg:gRul K x=some (.ref (He.ga K "of_one_depths"))) (hS:((·=.one):W→Prop) x):∃ (fa:Addr) (fd:FuncData) (S:W→Prop),gRul K x=some (.ref fa)∧FnOk P w K mg base CX0 1 fa fd ["depths"] (spOf S)∧S x∧PySem.W.keepIn K (.ref fa)=true∧Binds K fd ["depths"] []:=by
 obtain⟨fd,F⟩:=Z.f_of_one_depths
 obtain⟨t0,h0⟩:=Z.i_NO_DEPTH
 obtain⟨t1,h1⟩:=Z.i_MOST_DEPTH
 exact⟨_,fd,_,hg,ok_of_one F h0 h1,hS,F.kp,F.bindsN fun _ _ _ _ _ _ us hl=>match us,hl with | [_],_=>rfl⟩
theorem Cz.r_of_pick_depths (Z:Cz w K h mg) {x:W}(hg:gRul K x=some (.ref (He.ga K "of_pick_depths"))) (hS:((·=.pick):W→Prop) x):∃ (fa:Addr) (fd:FuncData) (S:W→Prop),gRul K x=some (.ref fa)∧FnOk P w K mg base CX0 1 fa fd ["depths"] (spOf S)∧S x∧PySem.W.keepIn K (.ref fa)=true∧Binds K fd ["depths"] []:=by
 obtain⟨fd,F⟩:=Z.f_of_pick_depths
 obtain⟨t0,h0⟩:=Z.i_NO_DEPTH
 obtain⟨t1,h1⟩:=Z.i_MOST_DEPTH
 exact⟨_,fd,_,hg,ok_of_pick F h0 h1,hS,F.kp,F.bindsN fun _ _ _ _ _ _ us hl=>match us,hl with | [_],_=>rfl⟩
theorem Cz.r_of_put_depths (Z:Cz w K h mg) {x:W}(hg:gRul K x=some (.ref (He.ga K "of_put_depths"))) (hS:((·=.put):W→Prop) x):∃ (fa:Addr) (fd:FuncData) (S:W→Prop),gRul K x=some (.ref fa)∧FnOk P w K mg base CX0 1 fa fd ["depths"] (spOf S)∧S x∧PySem.W.keepIn K (.ref fa)=true∧Binds K fd ["depths"] []:=by
 obtain⟨fd,F⟩:=Z.f_of_put_depths
 obtain⟨t0,h0⟩:=Z.i_NO_DEPTH
 obtain⟨t1,h1⟩:=Z.i_MOST_DEPTH
 exact⟨_,fd,_,hg,ok_of_put F h0 h1,hS,F.kp,F.bindsN fun _ _ _ _ _ _ us hl=>match us,hl with | [_],_=>rfl⟩
theorem Cz.r_of_flat_depths (Z:Cz w K h mg) {x:W}(hg:gRul K x=some (.ref (He.ga K "of_flat_depths"))) (hS:((·=.flat):W→Prop) x):∃ (fa:Addr) (fd:FuncData) (S:W→Prop),gRul K x=some (.ref fa)∧FnOk P w K mg base CX0 1 fa fd ["depths"] (spOf S)∧S x∧PySem.W.keepIn K (.ref fa)=true∧Binds K fd ["depths"] []:=by
 obtain⟨fd,F⟩:=Z.f_of_flat_depths
 obtain⟨t0,h0⟩:=Z.i_NO_DEPTH
 obtain⟨t1,h1⟩:=Z.i_MOST_DEPTH
 exact⟨_,fd,_,hg,ok_of_flat F h0 h1,hS,F.kp,F.bindsN fun _ _ _ _ _ _ us hl=>match us,hl with | [_],_=>rfl⟩
theorem Cz.r_of_each (Z:Cz w K h mg) {x:W}(hg:gRul K x=some (.ref (He.ga K "of_each"))) (hS:((·=.each):W→Prop) x):∃ (fa:Addr) (fd:FuncData) (S:W→Prop),gRul K x=some (.ref fa)∧FnOk P w K mg base CX0 1 fa fd ["depths"] (spOf S)∧S x∧PySem.W.keepIn K (.ref fa)=true∧Binds K fd ["depths"] []:=by
 obtain⟨fd,F⟩:=Z.f_of_each
 obtain⟨t0,h0⟩:=Z.i_NO_DEPTH
 obtain⟨t1,h1⟩:=Z.i_MOST_DEPTH
 exact⟨_,fd,_,hg,ok_of_each F h0 h1,hS,F.kp,F.bindsN fun _ _ _ _ _ _ us hl=>match us,hl with | [_],_=>rfl⟩
theorem Cz.r_of_where (Z:Cz w K h mg) {x:W}(hg:gRul K x=some (.ref (He.ga K "of_where"))) (hS:((·=.whr):W→Prop) x):∃ (fa:Addr) (fd:FuncData) (S:W→Prop),gRul K x=some (.ref fa)∧FnOk P w K mg base CX0 1 fa fd ["depths"] (spOf S)∧S x∧PySem.W.keepIn K (.ref fa)=true∧Binds K fd ["depths"] []:=by
 obtain⟨fd,F⟩:=Z.f_of_where
 obtain⟨t0,h0⟩:=Z.i_NO_DEPTH
 obtain⟨t1,h1⟩:=Z.i_MOST_DEPTH
 exact⟨_,fd,_,hg,ok_of_where F h0 h1,hS,F.kp,F.bindsN fun _ _ _ _ _ _ us hl=>match us,hl with | [_],_=>rfl⟩
theorem Cz.rls (Z:Cz w K h mg):Rls P w K mg base 1 (gRul K):=fun x ds d hd=>by
 cases x with
 | num=>exact Z.r_of_num rfl rfl
 | plus=>exact Z.r_of_two_numbers rfl (by unfold isTwo; simp)
 | minus=>exact Z.r_of_two_numbers rfl (by unfold isTwo; simp)
 | times=>exact Z.r_of_two_numbers rfl (by unfold isTwo; simp)
 | less=>exact Z.r_of_two_numbers rfl (by unfold isTwo; simp)
 | same=>exact Z.r_of_two_numbers rfl (by unfold isTwo; simp)
 | ite=>exact Z.r_of_if rfl rfl
 | elet=>exact Z.r_of_let rfl rfl
 | upto=>exact Z.r_of_upto_depths rfl rfl
 | len=>exact Z.r_of_len_depths rfl rfl
 | sum=>exact Z.r_of_sum_depths rfl rfl
 | sums=>exact Z.r_of_sums_depths rfl rfl
 | one=>exact Z.r_of_one_depths rfl rfl
 | pick=>exact Z.r_of_pick_depths rfl rfl
 | put=>exact Z.r_of_put_depths rfl rfl
 | flat=>exact Z.r_of_flat_depths rfl rfl
 | each=>exact Z.r_of_each rfl rfl
 | whr=>exact Z.r_of_where rfl rfl
 | name=>cases hd with
  | two h=>simp at h
 | call=>cases hd with
  | two h=>simp at h
theorem oclB_ok {K:PySem.W.Frag}{C:Addr}(h:NH.oclB K C=true):∃ nm q N bs bm sn sub ab col dd k0 k1 k2 k3 k5,K.lookup C=some (excClassObj nm q C N bs bm true sn sub ab col dd k0 k1 k2 k3 k5 "ValueError.__new__")∧PySem.HandSPX.refsVE bm=true∧PySem.W.alongIn K "__init__" bm=some (some (.builtin "ValueError.__init__")):=by
 unfold NH.oclB at h
 split at h
 ·rename_i t dd cd sl hC
  obtain⟨h1,h2⟩:=He.ba h
  obtain rfl:=of_decide_eq_true h1
  split at h2
  ·rename_i C' bm k0 k1 k2 k3 n k5 hm hs
   obtain⟨e1,h2⟩:=He.ba h2
   obtain⟨e2,h2⟩:=He.ba h2
   obtain⟨e3,h2⟩:=He.ba h2
   obtain⟨e4,h2⟩:=He.ba h2
   obtain⟨e5,e6⟩:=He.ba h2
   obtain rfl:=of_decide_eq_true e1
   obtain rfl:=of_decide_eq_true e2
   obtain⟨nm,bs,mro,ns,qn,hd,sn,sub,ab,col,del⟩:=cd
   dsimp only at hm e3 e4
   have e3:del=false:=by simpa using e3
   subst hm e3 e4
   have hsl:sl=#[k0,k1,k2,k3,some (.builtin "ValueError.__new__"),k5]:=by
    obtain⟨l⟩:=sl
    simp only at hs
    rw [hs]
   subst hsl
   exact⟨_,_,_,_,_,_,_,_,_,_,_,_,_,_,_,hC,e5,He.eqO_ok e6⟩
  ·cases h2
 ·cases h
theorem cellB_ok {K:PySem.W.Frag}{p:Str×Option Str}{q file:Str}{C:Addr}{d:He.FnD}(h:NH.cellB K p q file C=true) (e:NH.fnC K p=NH.valC d):∃ (c cc:Addr) (od:Option Addr) (sl:Array (Option Value)) (doc pm ctv:Value),
  K.lookup (He.fAd K p)=some ⟨.type "function", od,.func (PySem.W.fnX d.name d.qual d.params d.body d.scope [(("__class__" : Str),cc)] .none .none doc pm none (.ref c) ctv),sl⟩∧PySem.W.codeIn K (.ref c) q=true ∧
  (∃ (cl:Value) (d:Option Addr) (sl:Array (Option Value)) (vs:Array Value) (z:Str) (t:Tok),K.lookup c=some ⟨cl,d,.fields vs,sl⟩∧vs[2]? = some (.str z t)∧(file == z)=true) ∧
  ∃ (cl:Value) (d:Option Addr) (sl:Array (Option Value)),K.lookup cc=some ⟨cl,d,.cell (some (.ref C)),sl⟩:=by
 unfold NH.cellB at h
 unfold NH.fnC NH.valC at e
 split at h
 ·rename_i t od fd sl hl
  rw [hl] at e
  obtain⟨h1,h2⟩:=He.ba h
  obtain rfl:=of_decide_eq_true h1
  obtain⟨h3,h4⟩:=He.ba h2
  obtain⟨h5,h6⟩:=He.ba h4
  obtain⟨n1,n2,n3,n4,n5,n6,n7,n8,n9,n10,n11,n12,n13,n14,n15⟩:=fd
  simp only [Option.some.injEq,Prod.mk.injEq] at e
  obtain⟨r1,r2,r3,r4,r5,r6,r7,r8,r9,r10⟩:=e
  dsimp only at h3 h5 h6
  subst r1 r2 r3 r4 r5 r6 r7 r8 r9 r10
  split at h3
  ·rename_i y cc
   obtain⟨h7,h8⟩:=He.ba h3
   obtain rfl:=of_decide_eq_true h7
   split at h8
   ·rename_i cl dd C' sl' hcc
    obtain rfl:=of_decide_eq_true h8
    split at h6
    ·rename_i c
     split at h6
     ·rename_i cl2 d2 vs sl2 hlc
      split at h6
      ·rename_i z tz hz
       exact⟨c,cc,od,sl,_,_,_,hl,h5,⟨_,_,_,_,_,_,hlc,hz,h6⟩,⟨_,_,_,hcc⟩⟩
      ·cases h6
     ·cases h6
    ·cases h6
   ·cases h8
  ·cases h3
 ·cases h
theorem Cz.e_BadWorth (Z:Cz w K h mg) (hP:P.main.file=PySem.Challenge.pw_nestrows_k02_functions_and_worths_refuse.main.file) (hT:(P.main.scope.names.lookup ("super" : Str)).isSome=false):OexC K (He.ga K "BadWorth")∧ExcC K (He.ga K "BadWorth")∧XfC K (He.ga K "BadWorth")∧(PySem.W.findIn K (.ref (He.ga K "BadWorth")) "__init__" = some (some (.ref (He.fAd K ("BadWorth", some "__init__")))))∧(PySem.W.typeIn K (.ref (He.fAd K ("BadWorth", some "__init__")))=some (.type "function")) ∧
  ∃ (c cc:Addr) (fd:FuncData),SupF K P mg (He.fAd K ("BadWorth", some "__init__")) (nfBw c cc) (He.ga K "BadWorth") cc fd:=by
 have h0:=Z.ex.1
 obtain⟨b0,h1⟩:=He.ba h0
 obtain⟨b1,h2⟩:=He.ba h1
 obtain⟨b2,h3⟩:=He.ba h2
 obtain⟨b3,h4⟩:=He.ba h3
 obtain⟨b4,h5⟩:=He.ba h4
 obtain⟨b5,h6⟩:=He.ba h5
 obtain⟨b6,h7⟩:=He.ba h6
 obtain⟨b7,h8⟩:=He.ba h7
 obtain⟨b8,h9⟩:=He.ba h8
 obtain⟨b9,h10⟩:=He.ba h9
 obtain⟨b10,h11⟩:=He.ba h10
 obtain⟨b11,h12⟩:=He.ba h11
 obtain⟨b12,h13⟩:=He.ba h12
 obtain⟨b13,h14⟩:=He.ba h13
 have xf:=L2.xfB_ok b5
 obtain⟨nm,q,N,bs,bm,sn,sub,ab,col,dd,k0,k1,k2,k3,k5,hC,hv,hal⟩:=oclB_ok b0
 have en:NH.fnC K ("BadWorth", some "__init__")=NH.valC ⟨("BadWorth", some "__init__"), "__init__", "BadWorth.__init__", defArgs (inClass (top 61) 0),defBody (inClass (top 61) 0),defScope (inClass (top 61) 0)⟩:=by
  have e2:=congrArg (fun l:List NH.FnC=>l[0]?) Z.n
  exact Option.some.inj e2
 obtain⟨c,cc,od,sl,doc,pm,ctv,hl,hcd,hf,hcc⟩:=cellB_ok b1 en
 refine⟨⟨⟨nm,q,N,bs,bm,sn,sub,ab,col,dd,k0,k1,k2,k3,k5,hC,hv⟩,He.eqO_ok b2,xf.exC,of_decide_eq_true b3,b4⟩,⟨xf.ga,xf.gg,xf.exC,xf.hdC,He.eqO_ok b6,He.eqO_ok b7,of_decide_eq_true b8,of_decide_eq_true b9⟩,xf,He.eqO_ok b12,of_decide_eq_true b13,c,cc,NdefX.NF.fd (nfBw c cc) doc pm ctv,?_⟩
 exact⟨⟨od,sl,doc,pm,ctv,rfl,hl⟩,hcd,by rw [hP]; exact hf,rfl,hcc,⟨nm,q,N,bs,bm,sn,sub,ab,col,dd,k0,k1,k2,k3,k5,hC,hal⟩,of_decide_eq_true b10,of_decide_eq_true b11,He.eqO_ok h14,Z.z_super,hT⟩
end
section
variable {P:Program}{w:World}{K:PySem.W.Frag}{mg:Str→Option Value}{base h:Heap}
theorem Cz.o_isnum (Z:Cz w K h mg):Okf P w K mg base CX0 1 "is_number" ["value", "last"] spIsNum:=by
 obtain⟨fd,F⟩:=Z.f_is_number
 exact⟨_,fd,ok_isnum F Z.z_isinstance Z.z_int Z.z_bool,Z.g_is_number,F.kp,F.bindsN fun _ _ _ _ _ _ us hl=>match us,hl with | [_,_],_=>rfl⟩
theorem Cz.o_last (Z:Cz w K h mg):Okf P w K mg base CX0 1 "last_number" ["word"] spLast:=by
 obtain⟨fd,F⟩:=Z.f_last_number
 obtain⟨t0,h0⟩:=Z.i_LAST_NUMBER
 obtain⟨t1,h1⟩:=Z.i_MOST_FUNCTIONS
 obtain⟨t2,h2⟩:=Z.i_LAST_NAME
 exact⟨_,fd,ok_last F h0 h1 h2,Z.g_last_number,F.kp,F.bindsN fun _ _ _ _ _ _ us hl=>match us,hl with | [_],_=>rfl⟩
theorem Cz.o_numof (Z:Cz w K h mg):Okf P w K mg base CX0 1 "number_of" ["expression"] (spNumOf K):=by
 obtain⟨fd,F⟩:=Z.f_number_of
 exact⟨_,fd,ok_numof F Z.g_NUMBERED Z.numT,Z.g_number_of,F.kp,F.bindsN fun _ _ _ _ _ _ us hl=>match us,hl with | [_],_=>rfl⟩
theorem Cz.o_partsof (Z:Cz w K h mg):Okf P w K mg base CX0 1 "parts_of" ["expression"] (spPartsOf K):=by
 obtain⟨fd,F⟩:=Z.f_parts_of
 exact⟨_,fd,ok_partsof F Z.g_NUMBERED Z.numT Z.z_list,Z.g_parts_of,F.kp,F.bindsN fun _ _ _ _ _ _ us hl=>match us,hl with | [_],_=>rfl⟩
theorem Cz.o_depth (Z:Cz w K h mg):Okf P w K mg base CX0 2 "depth_of" ["word", "depths"] spDepth:=by
 obtain⟨fd,F⟩:=Z.f_depth_of
 exact⟨_,fd,ok_depth F Z.g_RULES Z.rulTb Z.rls,Z.g_depth_of,F.kp,F.bindsN fun _ _ _ _ _ _ us hl=>match us,hl with | [_,_],_=>rfl⟩
theorem Cz.o_shape (Z:Cz w K h mg):Okf P w K mg base CX0 2 "has_shape" ["expression"] (spShape K):=by
 obtain⟨fd,F⟩:=Z.f_has_shape
 exact⟨_,fd,ok_shape F Z.g_NUMBERED Z.numT Z.g_LENGTHS Z.lenTb Z.o_isnum Z.o_last Z.z_isinstance Z.z_tuple Z.z_len Z.z_str,Z.g_has_shape,F.kp,F.bindsN fun _ _ _ _ _ _ us hl=>match us,hl with | [_],_=>rfl⟩
theorem Cz.o_Node (Z:Cz w K h mg):Okc P w K mg base CX0 1 "Node" (He.ga K "Node") ["self", "word", "function", "place", "number", "parts", "depth"] (spNode (He.ga K "Node")):=by
 obtain⟨fd,F⟩:=Z.f_Nodeinit
 exact⟨_,fd,ok_node F Z.c_Node,Z.m_Nodeinit,F.bindsN fun _ _ _ _ _ _ us hl=>match us,hl with | [_,_,_,_,_,_,_],_=>rfl,Z.g_Node⟩
theorem Cz.o_Look (Z:Cz w K h mg):Okc P w K mg base CX0 1 "Look" (He.ga K "Look") ["self", "known", "function"] (spLook (He.ga K "Look")):=by
 obtain⟨fd,F⟩:=Z.f_Lookinit
 exact⟨_,fd,ok_look F Z.c_Look,Z.m_Lookinit,F.bindsN fun _ _ _ _ _ _ us hl=>match us,hl with | [_,_,_],_=>rfl,Z.g_Look⟩
theorem Cz.o_Form (Z:Cz w K h mg):Okc P w K mg base CX0 1 "Form" (He.ga K "Form") ["self", "names", "depths", "body"] (spForm (He.ga K "Form")):=by
 obtain⟨fd,F⟩:=Z.f_Forminit
 exact⟨_,fd,ok_form F Z.c_Form,Z.m_Forminit,F.bindsN fun _ _ _ _ _ _ us hl=>match us,hl with | [_,_,_,_],_=>rfl,Z.g_Form⟩
theorem Cz.o_refuse (Z:Cz w K h mg):Okm P w K mg base CX0 1 (He.ga K "Look") "refuse_if" ["self", "wrong", "place", "word"] spRefuse:=by
 obtain⟨fd,F⟩:=Z.f_Lookrefuse_if
 exact⟨_,fd,ok_refuse F,Z.m_Lookrefuse_if,F.bindsN fun _ _ _ _ _ _ us hl=>match us,hl with | [_,_,_,_],_=>rfl,Z.c_Look.cl⟩
theorem Cz.o_may (Z:Cz w K h mg):Okm P w K mg base CX0 1 (He.ga K "Look") "may_call" ["self", "called", "many"] (spMay K (He.ga K "Look")):=by
 obtain⟨fd,F⟩:=Z.f_Lookmay_call
 exact⟨_,fd,ok_may F Z.c_Look Z.z_len,Z.m_Lookmay_call,F.bindsN fun _ _ _ _ _ _ us hl=>match us,hl with | [_,_,_],_=>rfl,Z.c_Look.cl⟩
theorem Cz.o_told (Z:Cz w K h mg):Okm P w K mg base CX0 3 (He.ga K "Look") "depth_told" ["self", "word", "number", "parts", "names"] (spTold K (He.ga K "Look") (He.ga K "Node")):=by
 obtain⟨fd,F⟩:=Z.f_Lookdepth_told
 obtain⟨t0,h0⟩:=Z.i_NO_DEPTH
 exact⟨_,fd,ok_told F Z.c_Look Z.c_Node Z.o_depth h0 Z.z_list,Z.m_Lookdepth_told,F.bindsN fun _ _ _ _ _ _ us hl=>match us,hl with | [_,_,_,_,_],_=>rfl,Z.c_Look.cl⟩
theorem Cz.o_nodeof (Z:Cz w K h mg):∀ n,Okm P w K mg base CX0 (3+2*n) (He.ga K "Look") "node_of" ["self", "expression", "names", "within"] (spNodeOf (He.ga K "Look") (He.ga K "Node") n):=by
 obtain⟨fd,F⟩:=Z.f_Looknode_of
 obtain⟨fd2,F2⟩:=Z.f_Lookparts_that_name
 obtain⟨t0,h0⟩:=Z.i_LAST_PLACE
 obtain⟨t1,h1⟩:=Z.i_MOST_WITHIN
 obtain⟨t2,h2⟩:=Z.i_NO_DEPTH
 have b:Binds K fd ["self", "expression", "names", "within"] []:=F.bindsN fun _ _ _ _ _ _ us hl=>match us,hl with | [_,_,_,_],_=>rfl
 have b2:Binds K fd2 ["self", "expression", "place", "names", "within"] []:=F2.bindsN fun _ _ _ _ _ _ us hl=>match us,hl with | [_,_,_,_,_],_=>rfl
 intro n
 induction n with
 | zero =>
  refine⟨_,fd,ok_never (fun vs H Q E h => ?_),Z.m_Looknode_of,b,Z.c_Look.cl⟩
  obtain⟨a,dx,kn,nm,v,fn,p,b,wi,fs,ρ,e,nd,_,_,_,_,_,h,_⟩:=h
  have:=e.hgt_pos
  omega
 | succ n ih =>
  have OT:Okm P w K mg base CX0 (3+2*n+1) (He.ga K "Look") "parts_that_name" ["self", "expression", "place", "names", "within"] (spThat (He.ga K "Look") (He.ga K "Node") n):=⟨_,fd2,ok_that F2 Z.c_Node (Z.o_refuse.mono (by omega)) ih,Z.m_Lookparts_that_name,b2,Z.c_Look.cl⟩
  refine⟨_,fd,FnOk.mono (ok_nodeof (k:=3+2*n) F Z.c_Look Z.c_Node (by omega) (Z.o_refuse.mono (by omega)) (Z.o_may.mono (by omega)) (ih.mono (by omega)) OT (Z.o_told.mono (by omega)) (Z.o_Node.mono (by omega)) (Z.o_shape.mono (by omega)) (Z.o_numof.mono (by omega)) (Z.o_partsof.mono (by omega)) h0 h1 h2 Z.z_len) (by omega),Z.m_Looknode_of,b,Z.c_Look.cl⟩
theorem Cz.o_param (Z:Cz w K h mg):Okf P w K mg base CX0 2 "is_param" ["param"] spParam:=by
 obtain⟨fd,F⟩:=Z.f_is_param
 obtain⟨t0,h0⟩:=Z.i_LAST_NAME
 obtain⟨t1,h1⟩:=Z.i_MOST_DEPTH
 exact⟨_,fd,ok_param F Z.o_isnum h0 h1 Z.z_isinstance Z.z_tuple Z.z_len,Z.g_is_param,F.kp,F.bindsN fun _ _ _ _ _ _ us hl=>match us,hl with | [_],_=>rfl⟩
theorem Cz.o_hasface (Z:Cz w K h mg):Okf P w K mg base CX0 3 "has_face" ["function"] (spHasFace K):=by
 obtain⟨fd,F⟩:=Z.f_has_face
 obtain⟨t0,h0⟩:=Z.i_MOST_PARAMS
 obtain⟨t1,h1⟩:=Z.i_MOST_DEPTH
 exact⟨_,fd,ok_hasface F (Z.o_isnum.mono (by omega)) Z.o_param h0 h1 Z.z_isinstance Z.z_tuple Z.z_len Z.z_all Z.z_set,Z.g_has_face,F.kp,F.bindsN fun _ _ _ _ _ _ us hl=>match us,hl with | [_],_=>rfl⟩
theorem Cz.o_faces (Z:Cz w K h mg):Okf P w K mg base CX0 4 "told_faces" ["program"] (spFaces K):=by
 obtain⟨fd,F⟩:=Z.f_told_faces
 obtain⟨t0,h0⟩:=Z.i_MOST_FUNCTIONS
 exact⟨_,fd,ok_faces F Z.o_hasface h0 Z.z_len Z.z_enumerate Z.z_tuple,Z.g_told_faces,F.kp,F.bindsN fun _ _ _ _ _ _ us hl=>match us,hl with | [_],_=>rfl⟩
theorem Cz.o_formof (Z:Cz w K h mg):Okf P w K mg base CX0 30 "form_of" ["function", "at", "told"] (spFormOf K (He.ga K "Form") (He.ga K "Node")):=by
 obtain⟨fd,F⟩:=Z.f_form_of
 exact⟨_,fd,ok_formof (k:=28) F Z.c_Look Z.c_Form Z.c_Node (Z.o_Look.mono (by omega)) (Z.o_Form.mono (by omega)) (Z.o_nodeof 13) (Z.o_refuse.mono (by omega)) Z.z_dict,Z.g_form_of,F.kp,F.bindsN fun _ _ _ _ _ _ us hl=>match us,hl with | [_,_,_],_=>rfl⟩
theorem Cz.o_forms (Z:Cz w K h mg):Okf P w K mg base CX0 31 "forms_of" ["program"] (spForms K (He.ga K "Form") (He.ga K "Node")):=by
 obtain⟨fd,F⟩:=Z.f_forms_of
 exact⟨_,fd,ok_forms (k:=30) F (Z.o_faces.mono (by omega)) Z.o_formof Z.z_enumerate,Z.g_forms_of,F.kp,F.bindsN fun _ _ _ _ _ _ us hl=>match us,hl with | [_],_=>rfl⟩
theorem Oke.mono {j k:Nat}{x:Str}{C:Addr}{ps:List Str}{sp:Sp}(O:Oke P w K mg base j x C ps sp) (h:j≤k):Oke P w K mg base k x C ps sp:=by
 obtain⟨fI,fd,a,b,F,c⟩:=O.ex
 exact⟨O.T,⟨fI,fd,a,b,F.mono h,c⟩,O.m⟩
theorem Cz.o_BW (Z:Cz w K h mg) (hP:P.main.file=PySem.Challenge.pw_nestrows_k02_functions_and_worths_refuse.main.file) (hS:(P.main.scope.names.lookup ("super" : Str)).isSome=false):Oke P w K mg base 1 "BadWorth" (He.ga K "BadWorth") ["self", "number"] (spBw (He.ga K "BadWorth")):=by
 obtain⟨T,_,_,e1,e2,c,cc,fd,M⟩:=Z.e_BadWorth hP hS
 obtain⟨_,_,_,_,_,rfl,_⟩:=id M.fn
 exact⟨T,⟨_,_,e1,e2,ok_bwinit M T Z.na_BadWorth_number,.all fun us hl=>match us,hl with | [_,_],_=>rfl⟩,Z.g_BadWorth⟩
theorem Cz.nfc (Z:Cz w K h mg):NfC K mg (He.ga K "NoFunction"):=by
 obtain⟨a,b,c,d⟩:=Z.pl_NoFunction
 exact⟨Z.g_NoFunction,b,a,c,d⟩
theorem Cz.x_isnum (Z:Cz w K h mg):Okf P w K mg base CX0 1 "is_number" ["value", "last"] spIsNumX:=by
 obtain⟨fd,F⟩:=Z.f_is_number
 exact⟨_,fd,ok_isnumX F Z.z_isinstance Z.z_int Z.z_bool,Z.g_is_number,F.kp,F.bindsN fun _ _ _ _ _ _ us hl=>match us,hl with | [_,_],_=>rfl⟩
theorem Cz.x_wh (Z:Cz w K h mg):∀ n,Okf P w K mg base CX0 (1+n) "is_worth" ["value", "depth"] (spWh n):=by
 obtain⟨fd,F⟩:=Z.f_is_worth
 obtain⟨t0,h0⟩:=Z.i_LAST_NUMBER
 obtain⟨t1,h1⟩:=Z.i_MOST_ITEMS
 have b:Binds K fd ["value", "depth"] []:=F.bindsN fun _ _ _ _ _ _ us hl=>match us,hl with | [_,_],_=>rfl
 intro n
 induction n with
 | zero =>
  refine⟨_,fd,ok_never (fun vs H Q E h => ?_),Z.g_is_worth,F.kp,b⟩
  obtain⟨v,d,b,_,_,h,_⟩:=h
  omega
 | succ n ih=>exact⟨_,fd,FnOk.mono (ok_wh F (Z.x_isnum.mono (by omega)) ih h0 h1 Z.z_isinstance Z.z_tuple Z.z_len Z.z_all) (by omega),Z.g_is_worth,F.kp,b⟩
theorem Cz.x_nofn (Z:Cz w K h mg):Okf P w K mg base (CX P w) 2 "refuse_no_function" ["forms", "which"] (spNoFnX (He.ga K "NoFunction")):=by
 obtain⟨fd,F⟩:=Z.f_refuse_no_function
 exact⟨_,fd,ok_nofnX F Z.nfc Z.x_isnum Z.z_len,Z.g_refuse_no_function,F.kp,F.bindsN fun _ _ _ _ _ _ us hl=>match us,hl with | [_,_],_=>rfl⟩
theorem Cz.x_badw (Z:Cz w K h mg) (hP:P.main.file=PySem.Challenge.pw_nestrows_k02_functions_and_worths_refuse.main.file) (hS:(P.main.scope.names.lookup ("super" : Str)).isSome=false):Okf P w K mg base (CX P w) 7 "refuse_bad_worths" ["depths", "worths"] (spBadWX (He.ga K "BadWorth") (He.ga K "NoFunction")):=by
 obtain⟨fd,F⟩:=Z.f_refuse_bad_worths
 exact⟨_,fd,ok_badwX (k:=5) F (Z.x_wh 4) ((Z.o_BW hP hS).mono (by omega)) Z.z_range Z.z_max Z.z_len,Z.g_refuse_bad_worths,F.kp,F.bindsN fun _ _ _ _ _ _ us hl=>match us,hl with | [_,_],_=>rfl⟩
theorem Cz.x_run (Z:Cz w K h mg) (hP:P.main.file=PySem.Challenge.pw_nestrows_k02_functions_and_worths_refuse.main.file) (hS:(P.main.scope.names.lookup ("super" : Str)).isSome=false):Okf P w K mg base (CX P w) 32 "run" ["program", "which", "worths"] (spRunX (He.ga K "BadWorth") (He.ga K "NoFunction")):=by
 obtain⟨fd,F⟩:=Z.f_run
 exact⟨_,fd,ok_runX (k:=31) F Z.c_Form Z.o_forms (Z.x_nofn.mono (by omega)) ((Z.x_badw hP hS).mono (by omega)),Z.g_run,F.kp,F.bindsN fun _ _ _ _ _ _ us hl=>match us,hl with | [_,_,_],_=>rfl⟩
theorem Cz.x_good (Z:Cz w K h mg) (hP:P.main.file=PySem.Challenge.pw_nestrows_k02_functions_and_worths_refuse.main.file) (hS:(P.main.scope.names.lookup ("super" : Str)).isSome=false):Okf P w K mg base (CX P w) 32 "good_forms" ["program", "which", "many"] (spManyX (He.ga K "BadWorth") (He.ga K "NoFunction")):=by
 obtain⟨fd,F⟩:=Z.f_good_forms
 exact⟨_,fd,ok_goodX (k:=31) F Z.c_Form Z.o_forms (Z.x_nofn.mono (by omega)) ((Z.x_badw hP hS).mono (by omega)),Z.g_good_forms,F.kp,F.bindsN fun _ _ _ _ _ _ us hl=>match us,hl with | [_,_,_],_=>rfl⟩
theorem Cz.x_all (Z:Cz w K h mg) (hP:P.main.file=PySem.Challenge.pw_nestrows_k02_functions_and_worths_refuse.main.file) (hS:(P.main.scope.names.lookup ("super" : Str)).isSome=false):Okf P w K mg base (CX P w) 33 "run_all" ["program", "which", "many"] (spManyX (He.ga K "BadWorth") (He.ga K "NoFunction")):=by
 obtain⟨fd,F⟩:=Z.f_run_all
 exact⟨_,fd,ok_runallX (k:=32) F (Z.x_good hP hS),Z.g_run_all,F.kp,F.bindsN fun _ _ _ _ _ _ us hl=>match us,hl with | [_,_,_],_=>rfl⟩
theorem Cz.x_flat (Z:Cz w K h mg) (hP:P.main.file=PySem.Challenge.pw_nestrows_k02_functions_and_worths_refuse.main.file) (hS:(P.main.scope.names.lookup ("super" : Str)).isSome=false):Okf P w K mg base (CX P w) 34 "run_flat" ["program", "which", "worths"] (spRunX (He.ga K "BadWorth") (He.ga K "NoFunction")):=by
 obtain⟨fd,F⟩:=Z.f_run_flat
 exact⟨_,fd,ok_runflatX (k:=33) F (Z.x_all hP hS),Z.g_run_flat,F.kp,F.bindsN fun _ _ _ _ _ _ us hl=>match us,hl with | [_,_,_],_=>rfl⟩
theorem Cz.x_trim (Z:Cz w K h mg) (hP:P.main.file=PySem.Challenge.pw_nestrows_k02_functions_and_worths_refuse.main.file) (hS:(P.main.scope.names.lookup ("super" : Str)).isSome=false):Okf P w K mg base (CX P w) 33 "run_trimmed" ["program", "which", "worths"] (spRunX (He.ga K "BadWorth") (He.ga K "NoFunction")):=by
 obtain⟨fd,F⟩:=Z.f_run_trimmed
 exact⟨_,fd,ok_runtrimX (k:=32) F (Z.x_good hP hS),Z.g_run_trimmed,F.kp,F.bindsN fun _ _ _ _ _ _ us hl=>match us,hl with | [_,_,_],_=>rfl⟩
theorem Cz.o_taken (Z:Cz w K h mg):Okf P w K mg base CX0 1 "_law_taken" ["_law_row_here", "_law_many"] (spTaken K):=by
 obtain⟨fd,F⟩:=Z.f__law_taken
 exact⟨_,fd,ok_taken F Z.z_len,Z.g__law_taken,F.kp,F.bindsN fun _ _ _ _ _ _ us hl=>match us,hl with | [_,_],_=>rfl⟩
theorem Cz.std {x:Str}{st:Stmt}(e:∃ fd,FnP K x st (He.ga K x) fd) (m:mg x=some (.ref (He.ga K x))):Std K mg x st:=by
 obtain⟨fd,F⟩:=e
 exact⟨_,fd,F,m⟩
theorem Cz.gen (Z:Cz w K h mg):GenFacts K mg:=⟨Cz.std Z.f__law_taken Z.g__law_taken,Cz.std Z.f__law_parts Z.g__law_parts,Cz.std Z.f__law_size Z.g__law_size,Cz.std Z.f__law_within Z.g__law_within,Cz.std Z.f__law_leaf Z.g__law_leaf,Cz.std Z.f__law_number Z.g__law_number,Cz.std Z.f__law_bound Z.g__law_bound,Cz.std Z.f__law_any Z.g__law_any,Cz.std Z.f__law_tree Z.g__law_tree,Cz.std Z.f__law_face Z.g__law_face,Cz.std Z.f__law_body Z.g__law_body,Cz.std Z.f__law_program Z.g__law_program,Cz.std Z.f__law_row Z.g__law_row,Cz.std Z.f__law_worths Z.g__law_worths,Z.z_len,Z.z_range,Z.z_tuple,Z.z_dict,Z.z_int,Z.z_sorted,Z.z_sum,Z.z_max⟩
theorem Cz.o_odd (Z:Cz w K h mg):∀ n,Okf P w K mg base CX0 (8+n) "_law_odd" ["_law_row_here", "_law_depth"] (spOdd K n):=by
 obtain⟨fd,F⟩:=Z.f__law_odd
 have b:Binds K fd ["_law_row_here", "_law_depth"] []:=F.bindsN fun _ _ _ _ _ _ us hl=>match us,hl with | [_,_],_=>rfl
 have row:∀ k,5≤k→Okf P w K mg base CX0 k "_law_row" ["_law_row_here", "_law_depth", "_law_most"] (spRow K 4):=fun k hk=>(okRow Z.gen 4).mono hk
 intro n
 induction n with
 | zero =>
  refine⟨_,fd,ok_never (fun vs H Q E h => ?_),Z.g__law_odd,F.kp,b⟩
  obtain⟨r,d,_,_,h,_⟩:=h
  omega
 | succ n ih=>exact⟨_,fd,ok_odd (k:=8+n) F (Z.o_taken.mono (by omega)) (row _ (by omega)) ih,Z.g__law_odd,F.kp,b⟩
def tsZ (K:PySem.W.Frag):List (Addr×Str):=[((He.cT K ("_law_simple", none)).2,lamQ "_law_simple"),((He.cT K ("_law_is_refused", none)).2,lamQ "_law_is_refused"),((He.cT K ("law", none)).2,lamQ "law")]
theorem mem__law_simple (K:PySem.W.Frag):((He.cT K ("_law_simple", none)).2,lamQ "_law_simple")∈tsZ K:=by
 unfold tsZ
 simp
theorem Cz.hu__law_simple (Z:Cz w K h mg):∀ p∈tsZ K,p.1=(He.cT K ("_law_simple", none)).2→p.2=lamQ "_law_simple" := fun p hp e=>by
 unfold tsZ at hp
 simp only [List.mem_cons,List.not_mem_nil,or_false] at hp
 rcases hp with rfl | rfl | rfl
 ·rfl
 ·exact absurd e (Z.x14)
 ·exact absurd e (Z.x15)
theorem mem__law_is_refused (K:PySem.W.Frag):((He.cT K ("_law_is_refused", none)).2,lamQ "_law_is_refused")∈tsZ K:=by
 unfold tsZ
 simp
theorem Cz.hu__law_is_refused (Z:Cz w K h mg):∀ p∈tsZ K,p.1=(He.cT K ("_law_is_refused", none)).2→p.2=lamQ "_law_is_refused" := fun p hp e=>by
 unfold tsZ at hp
 simp only [List.mem_cons,List.not_mem_nil,or_false] at hp
 rcases hp with rfl | rfl | rfl
 ·exact absurd e (Z.x14.symm)
 ·rfl
 ·exact absurd e (Z.x16)
theorem mem_law (K:PySem.W.Frag):((He.cT K ("law", none)).2,lamQ "law")∈tsZ K:=by
 unfold tsZ
 simp
theorem Cz.hu_law (Z:Cz w K h mg):∀ p∈tsZ K,p.1=(He.cT K ("law", none)).2→p.2=lamQ "law" := fun p hp e=>by
 unfold tsZ at hp
 simp only [List.mem_cons,List.not_mem_nil,or_false] at hp
 rcases hp with rfl | rfl | rfl
 ·exact absurd e (Z.x15.symm)
 ·exact absurd e (Z.x16.symm)
 ·rfl
theorem Cz.word (Z:Cz w K h mg) (hP:P.main.file=PySem.Challenge.pw_nestrows_k02_functions_and_worths_refuse.main.file) (hS:(P.main.scope.names.lookup ("super" : Str)).isSome=false):WordO K mg (He.ga K "NestError") (He.ga K "BadProgram") (He.ga K "BadText") (He.ga K "BadWorth") (He.ga K "NoFunction"):=by
 obtain⟨fd,F⟩:=Z.f__law_word
 obtain⟨_,E1,X1,_⟩:=Z.e_BadWorth hP hS
 have xf:=L2.xfB_ok (Z.x11)
 have E2:ExcC K (He.ga K "NoFunction"):=⟨xf.ga,xf.gg,xf.exC,xf.hdC,He.eqO_ok (Z.x12),E1.hn,E1.ht,Z.x13⟩
 exact⟨⟨Z.g_NestError,Z.g_BadProgram,Z.g_BadText,Z.g_BadWorth,Z.g_NoFunction,Z.z_isinstance,Z.z_ValueError,E1,E2,X1,Z.na_BadWorth_number,Z.x1,Z.x2,Z.x3,Z.x4,Z.x5,Z.x6,Z.x7,Z.x8,Z.x9,Z.x10,Z.xm_BadWorth_NestError,Z.xm_NoFunction_NestError⟩,⟨_,fd,Z.g__law_word,F,F.bindsN fun _ _ _ _ _ _ us hl=>match us,hl with | [_],_=>rfl⟩⟩
theorem Cz.o_inone (Z:Cz w K h mg):Okf P w K mg base CX0 1 "_law_in_one" ["_law_first"] spInOne:=by
 obtain⟨fd,F⟩:=Z.f__law_in_one
 exact⟨_,fd,ok_inone F,Z.g__law_in_one,F.kp,F.bindsN fun _ _ _ _ _ _ us hl=>match us,hl with | [_],_=>rfl⟩
theorem Cz.o_simple (Z:Cz w K h mg) (TB:∀ p∈NH.tfT.map (He.cT K),TabB base mg p.1 p.2):Okf P w K mg base CX0 4 "_law_simple" ["_law_m", "_law_at", "_law_tree_here", "_law_some"] (spSimple P w (tsZ K)):=by
 obtain⟨fd,FL,F⟩:=Z.l__law_simple
 exact⟨_,fd,ok_simple FL (TB (He.cT K ("_law_simple", none)) (by unfold NH.tfT; simp)) (mem__law_simple K) Z.hu__law_simple (Z.o_inone.mono (by omega)) Z.z_int Z.z_list Z.z_len Z.z_range Z.z_min Z.z_sum Z.z_tuple,Z.g__law_simple,F.kp,F.bindsN fun _ _ _ _ _ _ us hl=>match us,hl with | [_,_,_,_],_=>rfl⟩
theorem Cz.o_called (Z:Cz w K h mg) (TB:∀ p∈NH.tfT.map (He.cT K),TabB base mg p.1 p.2) {prog:List Fn}{fm:List (List (Int×Nat)×Nd)} {tg:Nat→Nat→Nat}(C:PgC prog fm):Okg P w K mg base CX0 558 "_law_called" ["_law_m", "_law_which", "_law_worths_here", "_law_chain", "_law_active"] (spCal P w (tsZ K) prog fm tg 558):=by
 obtain⟨fd_done,F_done⟩:=Z.f__law_done
 obtain⟨fd_gone,F_gone⟩:=Z.f__law_gone
 obtain⟨fd_entered,F_entered⟩:=Z.f__law_entered
 obtain⟨fd_called,F_called⟩:=Z.f__law_called
 exact (ok_group C F_done Z.g__law_done F_done.kp (F_done.bindsN fun _ _ _ _ _ _ us hl=>match us,hl with | [_,_,_,_,_],_=>rfl) F_gone Z.g__law_gone F_gone.kp (F_gone.bindsN fun _ _ _ _ _ _ us hl=>match us,hl with | [_,_,_,_,_,_],_=>rfl) F_entered Z.g__law_entered F_entered.kp (F_entered.bindsN fun _ _ _ _ _ _ us hl=>match us,hl with | [_,_,_,_,_],_=>rfl) F_called Z.g__law_called F_called.kp (F_called.bindsN fun _ _ _ _ _ _ us hl=>match us,hl with | [_,_,_,_,_],_=>rfl) ((okSize Z.gen 12).mono (by omega)) ((okParts Z.gen).mono (by omega)) ((Z.o_simple TB).mono (by omega)) Z.z_dict Z.z_len Z.z_tuple Z.z_list Z.z_int Z.z_max Z.z_range 558).2.2.2
theorem Cz.o_started (Z:Cz w K h mg):Okf P w K mg base CX0 2 "_law_started" ["_law_program_here", "_law_fuel"] (spStarted P w K):=by
 obtain⟨fd,F⟩:=Z.f__law_started
 exact⟨_,fd,ok_started (k:=1) F Z.z_len,Z.g__law_started,F.kp,F.bindsN fun _ _ _ _ _ _ us hl=>match us,hl with | [_,_],_=>rfl⟩
theorem Cz.o_lrun (Z:Cz w K h mg) (TB:∀ p∈NH.tfT.map (He.cT K),TabB base mg p.1 p.2):Okf P w K mg base CX0 188 "_law_run" ["_law_program_here", "_law_which", "_law_worths_here", "_law_fuel"] (spRunA P w K (tsZ K)):=by
 obtain⟨fd,F⟩:=Z.f__law_run
 exact⟨_,fd,fnok_any (p:=fun i:PgX=>PgC i.prog i.fm) fun i hi=>ok_runl hi F (Z.o_started.mono (by omega)) (Z.o_called TB hi) Z.z_len,Z.g__law_run,F.kp,F.bindsN fun _ _ _ _ _ _ us hl=>match us,hl with | [_,_,_,_],_=>rfl⟩
theorem Cz.o_lrunof (Z:Cz w K h mg) (TB:∀ p∈NH.tfT.map (He.cT K),TabB base mg p.1 p.2):Okf P w K mg base CX0 189 "_law_run_of" ["_law_row_here", "_law_most", "_law_fuel"] (spRunOf P w K (tsZ K)):=by
 obtain⟨fd,F⟩:=Z.f__law_run_of
 exact⟨_,fd,ok_runof F (Z.o_taken.mono (by omega)) ((okProgram Z.gen).mono (by omega)) ((okWorths Z.gen).mono (by omega)) (Z.o_lrun TB) Z.z_len Z.z_range Z.z_int,Z.g__law_run_of,F.kp,F.bindsN fun _ _ _ _ _ _ us hl=>match us,hl with | [_,_,_],_=>rfl⟩
theorem Cz.o_isr (Z:Cz w K h mg) (hP:P.main.file=PySem.Challenge.pw_nestrows_k02_functions_and_worths_refuse.main.file) (hS:(P.main.scope.names.lookup ("super" : Str)).isSome=false) (TB:∀ p∈NH.tfT.map (He.cT K),TabB base mg p.1 p.2):Okf P w K mg base CX0 37 "_law_is_refused" ["_law_program_here", "_law_which", "_law_worths_here", "_law_due"] (spIsR (tsZ K)):=by
 obtain⟨fd,FL,F⟩:=Z.l__law_is_refused
 have tb:=TB (He.cT K ("_law_is_refused", none)) (by unfold NH.tfT; simp)
 exact⟨_,fd,ok_isr (k:=34) FL tb (mem__law_is_refused K) Z.hu__law_is_refused (Z.word hP hS) ((Z.x_run hP hS).mono (by omega)) (Z.x_flat hP hS) ((Z.x_trim hP hS).mono (by omega)) ((Z.x_all hP hS).mono (by omega)),Z.g__law_is_refused,F.kp,F.bindsN fun _ _ _ _ _ _ us hl=>match us,hl with | [_,_,_,_],_=>rfl⟩
end
end NR
set_option maxHeartbeats 0
namespace NR
open PySem PySem.Spec PyProof.Rows L2 LamX
theorem Cz.law_ok {P:Program}{w:World}{K:PySem.W.Frag}{mg:Str→Option Value}{h:Heap}(Z:Cz w K h mg) (hP:P.main.file=PySem.Challenge.pw_nestrows_k02_functions_and_worths_refuse.main.file) (hS:(P.main.scope.names.lookup ("super" : Str)).isSome=false):∃ fd:FuncData,(∀ (s:Shared) (v:Value),BindsTo s fd ⟨[v],[]⟩ [("_law_script", v)])∧∀ base:Heap,(∀ p∈NH.tfT.map (He.cT K),TabB base mg p.1 p.2)→FnOk P w K mg base CX0 190 (He.ga K "law") fd ["_law_script"] (spLaw K (tsZ K)):=by
 obtain⟨fd,FL,F⟩:=Z.l_law
 have b:=FunD.bindsA (ps:=["_law_script"]) F fun _ _ _ _ _ _ us hl=>match us,hl with | [_],_=>rfl
 exact⟨fd,fun s v=>b s [v] rfl,fun base TB=>ok_law (k:=187) FL (TB (He.cT K ("law", none)) (by unfold NH.tfT; simp)) (mem_law K) Z.hu_law (Z.word hP hS) (Z.o_taken.mono (by omega)) (Z.o_lrunof TB) ((Z.o_odd 4).mono (by omega)) ((Z.o_isr hP hS TB).mono (by omega)) ((Z.x_all hP hS).mono (by omega)) Z.z_range Z.z_len⟩
end NR
open PySem PySem.W PySem.Calls PyProof.Rows
theorem PySem.Challenge.cw_nestrows_k02_functions_and_worths_refuse_holds : PySem.Challenge.rw_nestrows_k02_functions_and_worths_refuse.Holds := by
 refine NH.red fun said => ?_
 refine HandSHeadRun.head_any (r:=OpenLaw.row PySem.Challenge.rw_nestrows_k02_functions_and_worths_refuse) (q:=view (OpenLaw.row PySem.Challenge.rw_nestrows_k02_functions_and_worths_refuse).prog [159]) (H:=NH.hk) (ob:=NH.ob) (M:=12000) (loose:=NH.names) (d:=HandSHeadRun.topDef (OpenLaw.row PySem.Challenge.rw_nestrows_k02_functions_and_worths_refuse).prog 159) (kwd:=[]) NH.ob_eq
  (by kernel_rfl) (fun s=>by kernel_rfl) NH.run (by kernel_rfl) (by kernel_rfl) (by kernel_rfl) (by rfl) (by first | assumption | decide +kernel) (by decide +kernel) NH.h_bare ?hw ?hc
 case hw=>w_witness2
 case hc =>
  refine LamX.walk_ofTsE (l:=PySem.Challenge.rw_nestrows_k02_functions_and_worths_refuse) (n:=63) (k:=190) (x := "_law_script") (CX:=fun _=>L2.CX0) rfl (by decide) (by kernel_rfl) ⟨rfl,by decide,by decide⟩ ?F (fun _ _ _ _ _ z=>z)
  intro w mg fa h Y G hmg0
  obtain⟨K,KX,c⟩:=Y
  have Z:NR.Cz w K h mg:=⟨KX,G,c.x,c.c⟩
  have hmg:mg ("law" : PySem.Str)=some (.ref fa):=by
   have e:(HandSHeadRun.topDef (OpenLaw.row PySem.Challenge.rw_nestrows_k02_functions_and_worths_refuse).prog 159).name=("law" : PySem.Str):=by kernel_rfl
   rw [← e]
   exact hmg0
  have e:=hmg.symm.trans Z.g_law
  cases e
  obtain⟨fd,hb,hF⟩:=Z.law_ok (P:=(PySem.Challenge.rw_nestrows_k02_functions_and_worths_refuse).prog) (by kernel_rfl) (by kernel_rfl)
  refine⟨K,KX,fd,NH.tfT.map (He.cT K),NR.spLaw K (NR.tsZ K),fun p hp => ?_,fun p hp => ?_,fun p hp => ?_,hb,fun H a ns hl _ hT hS=>⟨a,ns,rfl,hS,fun p hp => ?_,fun _=>rfl⟩,fun base _ _ TB=>hF base TB⟩
  ·obtain⟨q,hq,rfl⟩:=List.mem_map.mp hp
   exact Z.c.empty q hq
  ·obtain⟨q,hq,rfl⟩:=List.mem_map.mp hp
   exact Z.c.out q hq
  ·obtain⟨q,hq,rfl⟩:=List.mem_map.mp hp
   exact PySem.W.codeHd_of_K KX (Z.c.hd q hq)
  ·unfold NR.tsZ at hp
   simp only [List.mem_cons,List.not_mem_nil,or_false] at hp
   rcases hp with rfl | rfl | rfl
   ·exact LamX.TabS.nil (hT _ (List.mem_map.mpr ⟨("_law_simple", none),by unfold NH.tfT; simp,rfl⟩))
   ·exact LamX.TabS.nil (hT _ (List.mem_map.mpr ⟨("_law_is_refused", none),by unfold NH.tfT; simp,rfl⟩))
   ·exact LamX.TabS.nil (hT _ (List.mem_map.mpr ⟨("law", none),by unfold NH.tfT; simp,rfl⟩))
