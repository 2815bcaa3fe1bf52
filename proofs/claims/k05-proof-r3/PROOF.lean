import PyProof.Rows.All
import Wide.All
import OpenK.AllK
import Wide.FinOn
import HandS.ForMost
import KE.KSuper
import HandS.Star
import HandS.ClsMeth
import KE.KExcSuper
import HandS.ExcInit
import HandS.Defaults
import KE.GoesMore
import KE.GoesEnum
import HandS.Walk
import HandS.IsInst
import HandS.FStr
import HandS.RaiseMore
import PyProof.CallFns
import PyProof.Rows.RuleN_abs
import KE.KParD
import HandS.ListItems
import HandS.Conv
import HandS.DictComp
import KE.KDictKeyed
import HandS.ForExc
import HandS.Property
import HandS.Strs
import OpenK.KMeth
import HandS.Small
import HandS.ExcIs
import HandS.Steps
import HandS.ExcField
import KE.KExcIs
import HandS.Lambda
import OpenK.KMore
import HandS.ListEq
import PyProof.NeKinds
import KE.KEqDict
import HandS.More
import PyProof.InstEq
import HandS.Head0
import HandS.Head1
import HandS.Head2
import HandS.HeadEnd
import HandS.HeadHook1
import HandS.HeadHook2
import HandS.HeadHook4
import HandS.HeadWalk
import HandS.EndTab
import PySem.Challenge.RW_shapetypes_k05_names_and_sizes
set_option Elab.async false
set_option Elab.async false
set_option linter.all false
set_option maxRecDepth 100000
set_option maxHeartbeats 0
/-! ==== the head, run ==== -/
namespace K5
open PySem PySem.Spec PyProof.Rows L2
def topS (i : Nat) : Stmt := PySem.Challenge.pw_shapetypes_k05_names_and_sizes.main.body.getD i (.Pass ⟨0, 0, 0, 0⟩)
abbrev sBrief : Stmt := topS 3
abbrev sIW : Stmt := inClass (topS 9) 0
abbrev sUN : Stmt := inClass (topS 10) 0
abbrev sIsName : Stmt := topS 30
abbrev sIsFree : Stmt := topS 31
def LET : Str := "ABCDEFGHIJKLMNOPQRSTUVWXYZabcdefghijklmnopqrstuvwxyz"
def SGN : Str := "ABCDEFGHIJKLMNOPQRSTUVWXYZabcdefghijklmnopqrstuvwxyz0123456789_"
abbrev sMark : Stmt := topS 71
abbrev sDecl : Stmt := inClass (topS 68) 1
abbrev sKind : Stmt := inClass (topS 69) 0
abbrev sRole : Stmt := inClass (topS 70) 1
abbrev sKOf : Stmt := inClass (topS 69) 1
abbrev sROf : Stmt := inClass (topS 70) 2
abbrev sSpots : Stmt := topS 77
abbrev sCheck : Stmt := topS 94
abbrev sMarksOf : Stmt := topS 90
abbrev sTuples : Stmt := topS 91
abbrev sSigs : Stmt := topS 92
abbrev sPlan : Stmt := inClass (topS 89) 0
abbrev planF : List Str := ["order", "ranked", "ranks", "marked", "_declared", "_tuples", "_signatures", "_methods", "_spots", "_templates"]
abbrev sNum : Stmt := inClass (topS 56) 0
abbrev sAtomN : Stmt := inClass (topS 56) 1
abbrev sUses : Stmt := inClass (topS 60) 0
abbrev sBook : Stmt := inClass (topS 63) 0
abbrev bookF : List Str := ["plan", "bits", "kept", "_atom_rows", "_atom_numbers", "_atom_objects", "_shape_numbers", "_shape_objects", "_split", "_seen", "_seen_size", "_groups", "_allowed", "_moves", "_fixed",
  "outcomes", "member_rows", "good", "regions", "far", "jumps", "flows", "_questions", "_question_numbers", "_question_pairs", "_pairs", "_pair_numbers", "_steps"]
abbrev sCW : Stmt := topS 95
abbrev sPlaces : Stmt := topS 79
abbrev sPlacesA : Stmt := topS 82
abbrev sCM : Stmt := topS 84
abbrev sWorld : Stmt := inClass (topS 102) 2
abbrev worldF : List Str := ["_declarations", "_kinds", "_roles", "_declared", "_plan", "_book", "_least"]
abbrev sWOf : Stmt := inClass (topS 102) 3
abbrev sWHas : Stmt := inClass (topS 102) 7
abbrev sWGet : Stmt := inClass (topS 102) 8
abbrev sMixed : Stmt := topS 104
abbrev sFolded : Stmt := topS 105
abbrev sDraw : Stmt := topS 106
abbrev sBegun : Stmt := topS 107
abbrev sMixup : Stmt := topS 108
abbrev sDoub : Stmt := topS 109
abbrev sTold : Stmt := topS 110
abbrev sDue : Stmt := topS 112
abbrev sNew : Stmt := topS 113
abbrev sRow : Stmt := topS 111
abbrev sRead : Stmt := topS 114
abbrev sRight : Stmt := topS 115
abbrev sLaw : Stmt := topS 116
end K5
namespace Hf
open PySem PySem.Spec PyProof.Rows L2 He
abbrev FnV : Type := Option (Str × Str × Arguments × FuncBody × Scope × Addr × List Str × Addr)
def fnV (K : PySem.W.Frag) (a : Addr) : FnV := match K.lookup a with
  | some ⟨_, _, .func fd, _⟩ => some (fd.name, fd.qualname, fd.params, fd.body, fd.scope, fd.globals, fd.closure.map (·.1), fd.builtins)
  | _ => none
/-- a def: where, its names, its statement, its closure's names -/
structure Df where
  at_ : PySem.W.Frag → Addr
  name : Str
  qual : Str
  st : Stmt
  clo : List Str := []
def Df.val (d : Df) : FnV := some (d.name, d.qual, defArgs d.st, .stmts (defBody d.st), defScope d.st, mainGlobals, d.clo, builtinsNs)
def isNoneB : Value → Bool
  | .none => true
  | _ => false
def funB (K : PySem.W.Frag) (a : Addr) (q : Str) : Bool := PySem.W.keepIn K (.ref a) && (match K.lookup a with
  | some ⟨_, _, .func fd, _⟩ => PySem.W.codeIn K fd.code q && isNoneB fd.defaults
  | _ => false)
def codeAt (K : PySem.W.Frag) (a : Addr) : Addr := match K.lookup a with
  | some ⟨_, _, .func fd, _⟩ => (match fd.code with
    | .ref c => c
    | _ => 0)
  | _ => 0
/-- a def with super's cell -/
def funXB (K : PySem.W.Frag) (a D : Addr) (q file : Str) (dvs : List V) : Bool := PySem.W.keepIn K (.ref a) && ((PySem.W.clsIn K D).isSome && (match K.lookup a with
  | some ⟨_, _, .func fd, _⟩ => PySem.W.codeIn K fd.code q && (dflB K fd.defaults dvs && ((match fd.closure with
    | [(_, cc)] => (match K.lookup cc with
      | some ⟨_, _, .cell (some (.ref D')), _⟩ => decide (D' = D)
      | _ => false)
    | _ => false) && (match fd.code with
    | .ref cda => (match K.lookup cda with
      | some ⟨_, _, .fields vs, _⟩ => (match (vs[2]? : Option Value) with
        | some (.str f _) => file == f
        | _ => false)
      | _ => false)
    | _ => false)))
  | _ => false))
def clsB (K : PySem.W.Frag) (C : Addr) : Bool := PySem.W.plainGet K C Str.empty && (PySem.W.hasDictIn K C && (PySem.W.plainOver K C && eqO (PySem.W.findIn K (.ref C) "__setattr__") (some (some (.builtin "object.__setattr__")))))
def insB (K : PySem.W.Frag) (C : Addr) (fs : List Str) : Bool := clsB K C && fs.all fun f => eqO (PySem.W.findIn K (.ref C) f) (some none)
def dcB (K : PySem.W.Frag) : Bool := eqO (PySem.W.specialIn K (.builtin "object.__class__") "__get__") (some (some (.builtin "getset_descriptor.__get__"))) && decide (PySem.W.takesIn K (.builtin "object.__class__") = some true)
def instB (K : PySem.W.Frag) (C : Addr) : Bool := clsB K C && (eqO (PySem.W.findIn K (.ref C) "__class__") (some (some (.builtin "object.__class__"))) && (dcB K && decide (PySem.W.mroIn K C (.type "object") = some true)))
def mkB (K : PySem.W.Frag) (C : Addr) : Bool := PySem.W.makesIn K C && (eqO (PySem.W.findIn K (.ref C) "__init__") (some (some (.ref (ma K C "__init__")))) && (PySem.W.isFn K (.ref (ma K C "__init__")) && PySem.W.keepIn K (.ref C)))
def methB (K : PySem.W.Frag) (C : Addr) (m : Str) : Bool := eqO (PySem.W.findIn K (.ref C) m) (some (some (.ref (ma K C m)))) && (PySem.W.isFn K (.ref (ma K C m)) && PySem.W.keepIn K (.ref (ma K C m)))
def opB (K : PySem.W.Frag) (C : Addr) (m : Str) : Bool := eqO (PySem.W.findIn K (.ref C) m) (some (some (.ref (ma K C m)))) && (PySem.W.isFn K (.ref (ma K C m)) && PySem.W.fnIn K (ma K C m))
/-- what a record holds: a property's getter, a classmethod's def -/
def rg (K : PySem.W.Frag) (C : Addr) (f : Str) (T : String) : Addr := match PySem.W.recIn K (ma K C f) T with
  | some (.ref g :: _) => g
  | _ => 0
def recB (K : PySem.W.Frag) (C : Addr) (f : Str) (T : String) : Bool := match PySem.W.recIn K (ma K C f) T with
  | some (.ref _ :: _) => true
  | _ => false
def propB (K : PySem.W.Frag) (C : Addr) (f : Str) : Bool := eqO (PySem.W.findIn K (.ref C) f) (some (some (.ref (ma K C f)))) && (eqO (PySem.W.specialIn K (.ref (ma K C f)) "__get__") (some (some (.builtin "property.__get__"))) && (decide (PySem.W.takesIn K (.ref (ma K C f)) = some true) && recB K C f "property"))
def creadB (K : PySem.W.Frag) (C : Addr) : Bool := PySem.W.readsIn K C (.type "type") && eqO (PySem.W.specialIn K (.ref C) "__getattribute__") (some (some (.builtin "type.__getattribute__")))
def cvalB (K : PySem.W.Frag) (C : Addr) (f : Str) (i : Int) : Bool := match PySem.W.findCls K (.ref C) (.type "type") f with
  | some (.val (.int j _)) => decide (j = i)
  | _ => false
def cmetB (K : PySem.W.Frag) (C : Addr) (m : Str) : Bool := (match PySem.W.findCls K (.ref C) (.type "type") m with
  | some (.get (.builtin n) (.ref p) .none (.ref C')) => decide (n = "classmethod.__get__") && (decide (p = ma K C m) && decide (C' = C))
  | _ => false) && (recB K C m "classmethod" && PySem.W.fnIn K (rg K C m "classmethod"))
def sf (K : PySem.W.Frag) (C D : Addr) (m : Str) : Addr := match PySem.W.ks_superIn K C D m with
  | some (some (.ref f)) => f
  | _ => 0
def supB (K : PySem.W.Frag) (C D : Addr) (m : Str) : Bool := eqO (PySem.W.ks_superIn K C D m) (some (some (.ref (sf K C D m)))) && (decide (PySem.W.typeIn K (.ref (sf K C D m)) = some (.type "function")) && (PySem.W.fnIn K (sf K C D m) && decide (PySem.W.mroIn K C (.ref D) = some true)))
def oexB (K : PySem.W.Frag) (C : Addr) : Bool := (match K.lookup C with
  | some ⟨.type t, _, .cls cd, sl⟩ => decide (t = "type") && (match cd.mro, sl.toList with
    | .ref C' :: bm, [_, _, _, _, some (.builtin n), _] => decide (C' = C) && (decide (n = "ValueError.__new__") && (!cd.hasDel && (cd.hasDict && PySem.HandSPX.refsVE bm)))
    | _, _ => false)
  | _ => false) && (eqO (PySem.W.findIn K (.ref C) "__setattr__") (some (some (.builtin "object.__setattr__"))) && (decide (PySem.W.subIn K (.ref C) (.type "BaseException") = some true) && (decide (PySem.W.typeIn K (.ref C) = some (.type "type")) && PySem.W.keepIn K (.ref C))))
def supvB (K : PySem.W.Frag) (C : Addr) : Bool := eqO (PySem.W.ks_superIn K C C "__init__") (some (some (.builtin "ValueError.__init__"))) && (decide (PySem.W.subIn K (.ref C) (.type "ValueError") = some true) && decide (PySem.W.mroIn K C (.ref C) = some true))
def exccB (K : PySem.W.Frag) (C : Addr) : Bool := L2.xfB K C && (eqO (PySem.W.findIn K (.ref C) "__class__") (some (some (.builtin "object.__class__"))) && (dcB K && decide (PySem.W.mroIn K C (.type "object") = some true)))
def raiB (K : PySem.W.Frag) (C : Addr) : Bool := eqO (PySem.W.findIn K (.ref C) "__init__") (some (some (.ref (ma K C "__init__")))) && decide (PySem.W.typeIn K (.ref (ma K C "__init__")) = some (.type "function"))
def noB (K : PySem.W.Frag) (C : Addr) (fs : List Str) : Bool := fs.all fun f => eqO (PySem.W.findIn K (.ref C) f) (some none)
def kitB (K : PySem.W.Frag) (t c : Value) (b : Bool) : Bool := decide (PySem.W.kitOne K t c = some b)
def exmB (K : PySem.W.Frag) (t c : Value) : Bool := decide (PySem.W.exmOne K t c = some true)
def neB (K : PySem.W.Frag) (C : Addr) : Bool := decide (PySem.W.mroIn K C (.type "object") = some true) && (eqO (PySem.W.findIn K (.ref C) "__eq__") (some (some (.builtin "object.__eq__"))) && eqO (PySem.W.findIn K (.ref C) "__ne__") (some (some (.builtin "object.__ne__"))))
def tupObB (K : PySem.W.Frag) (a : Addr) : Bool := match K.lookup a with
  | some ⟨.type t, none, _, _⟩ => decide (t = "tuple")
  | _ => false
end Hf
namespace K5
open PySem PySem.Spec PyProof.Rows L2 He Hf
abbrev gC (x : Str) (K : PySem.W.Frag) : Addr := ga K x
def dG (x : Str) (st : Stmt) : Df := ⟨fun K => ga K x, x, x, st, []⟩
def dM (C m q : Str) (st : Stmt) : Df := ⟨fun K => ma K (ga K C) m, m, q, st, []⟩
def dX (C m q : Str) (st : Stmt) : Df := ⟨fun K => ma K (ga K C) m, m, q, st, [("__class__" : Str)]⟩
def dR (C m q : Str) (T : String) (st : Stmt) : Df := ⟨fun K => rg K (ga K C) m T, m, q, st, []⟩
def fns1 : List Df := [dG "brief" sBrief, dG "is_name" sIsName, dG "is_free_name" sIsFree, dG "is_mark" sMark, dG "spots_of" sSpots, dG "check_names" sCheck, dG "marks_of" sMarksOf, dG "tuples_of" sTuples, dG "signatures_of" sSigs, dG "check_ways" sCW, dG "places_of" sPlaces, dG "places_of_all" sPlacesA, dG "check_marks" sCM]
def fns2 : List Df := [dG "_law_mixed" sMixed, dG "_law_folded" sFolded, dG "_law_draw" sDraw, dG "_law_begun" sBegun, dG "_law_mixed_up" sMixup, dG "_law_doubled" sDoub, dG "_law_told" sTold, dG "_law_row" sRow, dG "_law_due" sDue, dG "_law_new" sNew, dG "_law_read_right" sRead, dG "_law_right" sRight, dG "law" sLaw]
def fns3 : List Df := [⟨fun K => sf K (ga K "Kind") (ga K "Kind") "__init__", "__init__", "Declaration.__init__", sDecl, []⟩, ⟨fun K => sf K (ga K "Role") (ga K "Role") "__init__", "__init__", "Declaration.__init__", sDecl, []⟩, dM "Plan" "__init__" "Plan.__init__" sPlan,
  ⟨fun K => sf K (ga K "Book") (ga K "Uses") "__init__", "__init__", "Numbering.__init__", sNum, []⟩, dM "Book" "atom_number" "Numbering.atom_number" sAtomN, dM "World" "__init__" "World.__init__" sWorld, dM "World" "__contains__" "World.__contains__" sWHas, dM "World" "__getitem__" "World.__getitem__" sWGet]
def fns4 : List Df := [dR "Kind" "of" "Kind.of" "classmethod" sKOf, dR "Role" "of" "Role.of" "classmethod" sROf, dR "World" "of" "World.of" "classmethod" sWOf, dR "Kind" "name" "Kind.name" "property" (inClass (topS 69) 2), dR "Kind" "methods" "Kind.methods" "property" (inClass (topS 69) 3), dR "Role" "name" "Role.name" "property" (inClass (topS 70) 3), dR "Role" "methods" "Role.methods" "property" (inClass (topS 70) 4), dR "Role" "marks" "Role.marks" "property" (inClass (topS 70) 5),
  dR "World" "declarations" "World.declarations" "property" (inClass (topS 102) 4), dR "World" "kinds" "World.kinds" "property" (inClass (topS 102) 5), dR "World" "roles" "World.roles" "property" (inClass (topS 102) 6)]
def fns5 : List Df := [dX "InvalidWorld" "__init__" "InvalidWorld.__init__" sIW, dX "UnknownName" "__init__" "UnknownName.__init__" sUN, dX "Kind" "__init__" "Kind.__init__" sKind, dX "Role" "__init__" "Role.__init__" sRole, ⟨fun K => sf K (ga K "Book") (ga K "Book") "__init__", "__init__", "Uses.__init__", sUses, [("__class__" : Str)]⟩, dX "Book" "__init__" "Book.__init__" sBook]
def fnsP : List Df := fns1 ++ (fns2 ++ (fns3 ++ fns4))
def fnsA : List Df := fnsP ++ fns5
abbrev prg : Program := PySem.Challenge.pw_shapetypes_k05_names_and_sizes
def frees : List Str := ["isinstance", "str", "int", "len", "repr", "abs", "enumerate", "tuple", "sorted", "max", "range", "list", "all", "super"]
def globs : List Str := ["Declaration", "Kind", "Role", "World", "Plan", "Book", "Uses", "Numbering", "InvalidWorld", "UnknownName", "ShapetypesError", "MARKS"]
def globF : List Str := ["brief", "is_name", "is_free_name", "is_mark", "spots_of", "check_names", "marks_of", "tuples_of", "signatures_of", "check_ways", "places_of", "places_of_all", "check_marks"]
def globL : List Str := ["_law_mixed", "_law_folded", "_law_draw", "_law_begun", "_law_mixed_up", "_law_doubled", "_law_told", "_law_row", "_law_due", "_law_new", "_law_read_right", "_law_right", "law"]
def intL : List (Str × Int) := [("MAX_SHOWN", 40), ("MAX_NAME", 20), ("ENTRY_SIZE", 400)]
def strL : List (Str × Str) := [("LETTERS", LET), ("SIGNS", SGN), ("NEVER", "Never"), ("OBJECT", "Object")]
def exA (K : PySem.W.Frag) : Bool := (frees.all fun x => (Fa.free x).ok K) && ((globs.all fun x => (Fa.glo x).ok K) && ((globF.all fun x => (Fa.glo x).ok K) && ((globL.all fun x => (Fa.glo x).ok K) && ((intL.all fun q => (Fa.int q.1 q.2).ok K) && ((strL.all fun q => (Fa.str q.1 q.2).ok K) && eqO (PySem.W.nsIn K cStatics "thirdparty.any") (some none))))))
def exB (K : PySem.W.Frag) : Bool := fnsP.all fun d => funB K (d.at_ K) d.qual && PySem.W.keepIn K (.ref (d.at_ K))
def exC (K : PySem.W.Frag) : Bool := funXB K (ma K (ga K "InvalidWorld") "__init__") (ga K "InvalidWorld") "InvalidWorld.__init__" prg.main.file [.non] && (funXB K (ma K (ga K "UnknownName") "__init__") (ga K "UnknownName") "UnknownName.__init__" prg.main.file [] && (funXB K (ma K (ga K "Kind") "__init__") (ga K "Kind") "Kind.__init__" prg.main.file [] &&
  (funXB K (ma K (ga K "Role") "__init__") (ga K "Role") "Role.__init__" prg.main.file [] && (funXB K (sf K (ga K "Book") (ga K "Book") "__init__") (ga K "Uses") "Uses.__init__" prg.main.file [] && funXB K (ma K (ga K "Book") "__init__") (ga K "Book") "Book.__init__" prg.main.file []))))
def exD (K : PySem.W.Frag) : Bool := instB K (ga K "Kind") && (instB K (ga K "Role") && (instB K (ga K "World") && (insB K (ga K "Kind") ["_name", "_methods"] && (insB K (ga K "Role") ["_name", "_methods", "_marks"] && (insB K (ga K "World") worldF && (insB K (ga K "Plan") planF && insB K (ga K "Book") bookF))))))
def exE (K : PySem.W.Frag) : Bool := mkB K (ga K "Kind") && (mkB K (ga K "Role") && (mkB K (ga K "World") && (mkB K (ga K "Plan") && (mkB K (ga K "Book") && (methB K (ga K "Book") "atom_number" && (opB K (ga K "World") "__getitem__" && (opB K (ga K "World") "__contains__" && (neB K (ga K "Kind") && neB K (ga K "Role")))))))))
def exF (K : PySem.W.Frag) : Bool := propB K (ga K "Kind") "name" && (propB K (ga K "Kind") "methods" && (propB K (ga K "Role") "name" && (propB K (ga K "Role") "methods" && (propB K (ga K "Role") "marks" && (propB K (ga K "World") "declarations" && (propB K (ga K "World") "kinds" && propB K (ga K "World") "roles"))))))
def exG (K : PySem.W.Frag) : Bool := creadB K (ga K "Kind") && (creadB K (ga K "Role") && (creadB K (ga K "World") && (creadB K (ga K "Declaration") && (cvalB K (ga K "Declaration") "MAX_METHODS" 5 && (cvalB K (ga K "Role") "MAX_PARAMETERS" 2 && (cvalB K (ga K "World") "MAX_KINDS" 12 && (cvalB K (ga K "World") "MAX_ROLES" 8 &&
  (cmetB K (ga K "Kind") "of" && (cmetB K (ga K "Role") "of" && cmetB K (ga K "World") "of")))))))))
def exH (K : PySem.W.Frag) : Bool := supB K (ga K "Kind") (ga K "Kind") "__init__" && (supB K (ga K "Role") (ga K "Role") "__init__" && (supB K (ga K "Book") (ga K "Uses") "__init__" && supB K (ga K "Book") (ga K "Book") "__init__"))
def exI (K : PySem.W.Frag) : Bool := oexB K (ga K "InvalidWorld") && (oexB K (ga K "UnknownName") && (supvB K (ga K "InvalidWorld") && (supvB K (ga K "UnknownName") && (exccB K (ga K "InvalidWorld") && (exccB K (ga K "UnknownName") && (raiB K (ga K "InvalidWorld") && (raiB K (ga K "UnknownName") && (noB K (ga K "InvalidWorld") ["rule", "item"] && noB K (ga K "UnknownName") ["word"]))))))))
def exJ (K : PySem.W.Frag) : Bool := kitB K (.ref (ga K "Kind")) (.ref (ga K "Kind")) true && (kitB K (.ref (ga K "Kind")) (.ref (ga K "Role")) false && (kitB K (.ref (ga K "Role")) (.ref (ga K "Kind")) false && (kitB K (.ref (ga K "Role")) (.ref (ga K "Role")) true && (kitB K (.ref (ga K "World")) (.ref (ga K "Kind")) false && (kitB K (.ref (ga K "World")) (.ref (ga K "Role")) false && (kitB K (.ref (ga K "World")) (.ref (ga K "World")) true &&
  (kitB K (.ref (ga K "InvalidWorld")) (.ref (ga K "InvalidWorld")) true && (kitB K (.ref (ga K "UnknownName")) (.ref (ga K "InvalidWorld")) false && (kitB K (.ref (ga K "UnknownName")) (.ref (ga K "UnknownName")) true &&
  (exmB K (.ref (ga K "InvalidWorld")) (.ref (ga K "ShapetypesError")) && (exmB K (.ref (ga K "UnknownName")) (.ref (ga K "ShapetypesError")) && (["NoneType", "str", "tuple", "bool", "list"].all fun t => kitB K (.type t) (.ref (ga K "Kind")) false && kitB K (.type t) (.ref (ga K "Role")) false))))))))))))
def exK (K : PySem.W.Frag) : Bool := tupB K "MARKS" [.str "none", .str "out", .str "in", .str "both"] && tupObB K (ga K "MARKS")
abbrev tab5 (K : PySem.W.Frag) (x : Str) : Addr := tabOf K (codeAt K (ga K x))
def exL (K : PySem.W.Frag) : Bool := decide (tab5 K "_law_read_right" ≠ tab5 K "_law_right") && (decide (tab5 K "_law_read_right" ≠ tab5 K "law") && decide (tab5 K "_law_right" ≠ tab5 K "law"))
def ex5 (K : PySem.W.Frag) : Bool := exA K && (exB K && (exC K && (exD K && (exE K && (exF K && (exG K && (exH K && (exI K && (exJ K && (exK K && exL K))))))))))
def tfs : List Str := ["_law_read_right", "_law_right", "law"]
def tb5 (g : Addr → Option Obj) (K : PySem.W.Frag) : Bool := tfs.all fun x => PySem.W.codeHdIn K (codeAt K (ga K x)) (tab5 K x) && (match g (tab5 K x) with
  | some o => emptyTab o
  | none => false)
/-- where to look: names, classes, what stands in them, defs' code and cells -/
def clsNs (g : Addr → Option Obj) (a : Addr) : List Addr := match g a with
  | some ⟨_, _, .cls cd, _⟩ => [cd.ns]
  | _ => []
def nsVals (g : Addr → Option Obj) (a : Addr) : List Addr := match g a with
  | some ⟨_, _, .dict es _, _⟩ => es.toList.flatMap fun e => refV e.val
  | _ => []
def isCode : Value → Bool
  | .type t => decide (t = "code")
  | _ => false
def obRefs (g : Addr → Option Obj) (a : Addr) : List Addr := match g a with
  | some ⟨_, _, .func fd, _⟩ => refV fd.code ++ (refV fd.defaults ++ fd.closure.map (·.2))
  | some ⟨c, _, .fields vs, _⟩ => if isCode c = true then [] else vs.toList.flatMap refV
  | _ => []
def as5 (g : Addr → Option Obj) : List Addr :=
  let s1 := (globs ++ (globF ++ globL)).map (ga (frG g [mainGlobals, cStatics]))
  let s2 := s1.flatMap (clsNs g)
  let s3 := s2.flatMap (nsVals g)
  let s4 := (s1 ++ s3).flatMap (obRefs g)
  let s5 := s4.flatMap (obRefs g)
  [mainGlobals, cStatics] ++ (s1 ++ (s2 ++ (s3 ++ (s4 ++ s5))))
def fr5 (g : Addr → Option Obj) : PySem.W.Frag := frT g (as5 g)
abbrev R5 : PySem.W.OpenRow := PySem.W.OpenLaw.row PySem.Challenge.rw_shapetypes_k05_names_and_sizes
def nms0 : List PySem.Str := ["_wall", "MAX_SHOWN", "brief", "ShapetypesError", "InvalidAtom", "InvalidShape", "InvalidText", "InvalidDeclaration", "InvalidWorld", "UnknownName", "WrongArguments", "InvalidUse", "NotAllowed", "KIND_SET_MARKS", "MAX_NAMES", "Facts", "facts_of", "fillings_of", "Key", "key_of", "renumbered", "MAX_NAME", "LETTERS", "SIGNS", "NEVER"]
def nms1 : List PySem.Str := ["OBJECT", "is_name", "is_free_name", "MAX_TEXT", "MAX_DEPTH", "read_tree", "read_atoms", "read_atom", "read_arguments", "word_end", "split_text", "write_text", "is_less", "place_of", "ascending", "Atom", "Shape", "shape_of_tree", "ENTRY_SIZE", "NUMBER_SIZE", "KEY_SIZE", "MAX_SEEN", "spots_in", "Numbering", "GROUP_SIZE"]
def nms2 : List PySem.Str := ["SHARED", "Uses", "MAX_KEPT", "Book", "MARKS", "Way", "Method", "Declaration", "Kind", "Role", "is_mark", "OUT", "IN", "BOTH", "Place", "spots_of", "parameter_in", "places_of", "places_of_parameters", "places_of_result", "places_of_all", "demanded", "check_marks", "Template", "wanted_kinds"]
def nms3 : List PySem.Str := ["filling", "Plan", "marks_of", "tuples_of", "signatures_of", "check_names", "check_ways", "check_way", "is_right_result", "is_right", "is_right_argument", "MAX_RESTING", "World", "_law_mixed", "_law_folded", "_law_draw", "_law_begun", "_law_mixed_up", "_law_doubled", "_law_told", "_law_row", "_law_due", "_law_new", "_law_read_right", "_law_right"]
def nmsA : List PySem.Str := nms0 ++ (nms1 ++ (nms2 ++ nms3))
noncomputable abbrev end5 (w : World) (os : OsState) : Option PySem.W.SharedT := HandSHeadRun.endF (HandSHeadRun.stepQ (HandSHeadRun.denQ HandSHeadRun.tabQ) R5.prog w) 20000 R5.prog w os
theorem run5L (w : World) (os : OsState) : (end5 w os).map (fun s => HandSHeadRun.looksF R5.prog (PySem.W.boot_heap w.params) s.abs) = some true := by
  kernel_rfl
theorem run5S (w : World) (os : OsState) : (end5 w os).map (fun s => HandSHeadRun.seenQ (PySem.W.view R5.prog [116]) nmsA (importedModules R5.prog.main.body) (fun s => PySem.W.xlAt (PySem.W.view R5.prog [116]) [] s && PySem.W.recOk R5.toRowW.records s) s.abs) = some (PySem.W.openGood (PySem.W.view R5.prog [116]) nmsA) := by
  kernel_rfl
def exP1 (K : PySem.W.Frag) : Bool := exA K && (exB K && exC K)
def exP2 (K : PySem.W.Frag) : Bool := exD K && (exE K && (exF K && (exG K && (exH K && (exI K && (exJ K && (exK K && exL K)))))))
theorem run5A (w : World) (os : OsState) : (end5 w os).map (fun s => exP1 (fr5 (HandSHeadRun.getT s))) = some true := by
  kernel_rfl
theorem run5B (w : World) (os : OsState) : (end5 w os).map (fun s => exP2 (fr5 (HandSHeadRun.getT s))) = some true := by
  kernel_rfl
theorem run5T (w : World) (os : OsState) : (end5 w os).map (fun s => tb5 (HandSHeadRun.getT s) (fr5 (HandSHeadRun.getT s))) = some true := by
  kernel_rfl
theorem run5N (w : World) (os : OsState) : (end5 w os).map (fun s => fnsA.map fun d => fnV (fr5 (HandSHeadRun.getT s)) (d.at_ (fr5 (HandSHeadRun.getT s)))) = some (fnsA.map Df.val) := by
  kernel_rfl
end K5
set_option maxHeartbeats 200000

/-! ==== HA ==== -/
set_option Elab.async false
set_option linter.all false
set_option maxRecDepth 100000
/-! General words: a def by its name, frames of heaps, the drawing state of a law. -/
namespace Sh
open PySem L2

/-- a def that stands under a module's name and keeps its promise -/
structure Got (P : Program) (w : World) (K : PySem.W.Frag) (mg : Str → Option Value) (base : Heap) (CX : CXT) (x : Str) (ps : List Str) (k : Nat) (sp : Sp) : Prop where
  ex : ∃ (f : Addr) (fd : FuncData), mg x = some (.ref f) ∧ PySem.W.keepIn K (.ref f) = true ∧ Binds K fd ps [] ∧ FnOk P w K mg base CX k f fd ps sp
theorem pe_got {X : Cx} {CX : CXT} {x : Str} {ps : List Str} {k j : Nat} {sp : Sp} {E : XK} {e : Expr} {es : List Expr} {t : TA} {p pos : Pos} (G : Got X.prog X.w X.K X.mg X.base CX x ps k sp) (hr : Room j X.A) (hk : k ≤ j)
    (hx : Passes CX X E) (ha : PA X (e :: es) t) (hg : Gl X x := by rfl) 
    (hd : (x == ("__debug__" : Str)) = false := by decide) (he : starEach (e :: es) X.env = (false, eval e X.env) :: starEach es X.env := by rfl) (hpl : (backTo pos (starEach es X.env)).any (·.1) = false := by rfl) : PE X (.Call (.Name x p) (e :: es) [] pos) (tCall sp [] E t) := by
  obtain ⟨f, fd, h1, h2, h3, h4⟩ := G.ex
  exact pe_call h4 (hr.mono hk) hg h1 h2 h3 .nil hx ha hd he hpl
/-- what stood stands, but at two places -/
def Kp (m g : Addr) (H H' : Hp) : Prop := ∀ b o, b ≠ m → b ≠ g → H b = some o → H' b = some o
theorem Kp.refl {m g : Addr} {H : Hp} : Kp m g H H := fun _ _ _ _ e => e
theorem Kp.trans {m g : Addr} {H H1 H2 : Hp} (a : Kp m g H H1) (b : Kp m g H1 H2) : Kp m g H H2 := fun x o h1 h2 e => b x o h1 h2 (a x o h1 h2 e)
theorem Kp.new {m g p : Addr} {o : HO} {H H' : Hp} (a : Kp m g H H') (hp : H' p = none) : Kp m g H (upd H' p o) := fun x u h1 h2 e => by
  have q := a x u h1 h2 e
  rw [upd_ne (ne_of_none q hp)]
  exact q
theorem Kp.upd_m {m g : Addr} {o : HO} {H H' : Hp} (a : Kp m g H H') : Kp m g H (upd H' m o) := fun x u h1 h2 e => by
  rw [upd_ne h1]; exact a x u h1 h2 e
theorem Kp.upd_g {m g : Addr} {o : HO} {H H' : Hp} (a : Kp m g H H') : Kp m g H (upd H' g o) := fun x u h1 h2 e => by
  rw [upd_ne h2]; exact a x u h1 h2 e
/-- a place that was free before and was stored to since -/
theorem Kp.old {m g p : Addr} {o : HO} {H H' : Hp} (a : Kp m g H H') (hp : H p = none) : Kp m g H (upd H' p o) := fun x u h1 h2 e => by
  have q := a x u h1 h2 e
  have n : x ≠ p := fun z => by rw [z, hp] at e; cases e
  rw [upd_ne n]
  exact q

theorem _root_.L2.Same.new {H H' : Hp} {p : Addr} {o : HO} (a : Same H H') (hp : H' p = none) : Same H (upd H' p o) := fun x u e => by
  have q := a x u e
  rw [upd_ne (ne_of_none q hp)]
  exact q
theorem _root_.L2.Same.old {H H' : Hp} {p : Addr} {o : HO} (a : Same H H') (hp : H p = none) : Same H (upd H' p o) := fun x u e => by
  rw [upd_ne (ne_of_none e hp)]
  exact a x u e
theorem _root_.L2.Same.kp {m g : Addr} {H H' : Hp} (a : Same H H') : Kp m g H H' := fun b o _ _ e => a b o e
/-- the state from which a law's numbers are drawn: the dict at m, its lists at c and g; at most b numbers have been drawn -/
def Dr (H : Hp) (m c g : Addr) (b : Nat) : Prop := ∃ (cs gs : List Int) (n : Int), 0 ≤ n ∧ n ≤ b ∧
  H m = some (.dK [(.inr "cells", .ref c), (.inr "great", .ref g), (.inr "spot", .int n)]) ∧ H c = some (.lst (cs.map V.int)) ∧ H g = some (.lst (gs.map V.int)) ∧
  cs.length = 64 ∧ (∀ x ∈ cs, 0 ≤ x ∧ x < 2147483647) ∧ gs.length ≤ 63 ∧ (∀ x ∈ gs, 0 ≤ x)
theorem map_int_ne {cs gs : List Int} (h : cs.length ≠ gs.length) : (HO.lst (cs.map V.int)) ≠ .lst (gs.map V.int) := fun e => by
  injection e with e
  have := congrArg List.length e
  rw [List.length_map, List.length_map] at this
  exact h this
theorem Dr.ne {H : Hp} {m c g : Addr} {b : Nat} (d : Dr H m c g b) : m ≠ c ∧ m ≠ g ∧ c ≠ g := by
  obtain ⟨cs, gs, n, _, _, h1, h2, h3, h4, _, h5, _⟩ := d
  refine ⟨ne_of h1 h2 (fun e => nomatch e), ne_of h1 h3 (fun e => nomatch e), ne_of h2 h3 (map_int_ne (by omega))⟩
theorem Dr.mono {H : Hp} {m c g : Addr} {b b' : Nat} (d : Dr H m c g b) (h : b ≤ b') : Dr H m c g b' := by
  obtain ⟨cs, gs, n, h0, hb, r⟩ := d
  exact ⟨cs, gs, n, h0, by omega, r⟩
/-- the state stands where all that stood stands -/
theorem Dr.new {H : Hp} {m c g p : Addr} {o : HO} {b : Nat} (d : Dr H m c g b) (hp : H p = none) : Dr (upd H p o) m c g b := by
  obtain ⟨cs, gs, n, h0, hb, h1, h2, h3, r⟩ := d
  exact ⟨cs, gs, n, h0, hb, by rw [upd_ne (ne_of_none h1 hp)]; exact h1, by rw [upd_ne (ne_of_none h2 hp)]; exact h2, by rw [upd_ne (ne_of_none h3 hp)]; exact h3, r⟩
theorem Dr.other {H : Hp} {m c g p : Addr} {o : HO} {b : Nat} (d : Dr H m c g b) (n1 : p ≠ m) (n2 : p ≠ c) (n3 : p ≠ g) : Dr (upd H p o) m c g b := by
  obtain ⟨cs, gs, n, h0, hb, h1, h2, h3, r⟩ := d
  exact ⟨cs, gs, n, h0, hb, by rw [upd_ne n1.symm]; exact h1, by rw [upd_ne n2.symm]; exact h2, by rw [upd_ne n3.symm]; exact h3, r⟩

theorem at_int {xs : List Int} {r : Int} (h0 : 0 ≤ r) (h1 : r < xs.length) : ∃ x ∈ xs, atI (xs.map V.int) r = some (.int x) ∧ ixN (xs.map V.int).length r = some r.toNat := by
  obtain ⟨j, rfl⟩ : ∃ j : Nat, r = (j : Int) := ⟨r.toNat, by omega⟩
  have hj : j < xs.length := by omega
  refine ⟨xs[j], List.getElem_mem hj, atI_nat (by rw [List.getElem?_map, List.getElem?_eq_getElem hj]; rfl), ?_⟩
  unfold ixN
  rw [if_pos h0, if_pos (by rw [List.length_map]; exact h1)]
theorem dp_ints {K : PySem.W.Frag} {H : Hp} : ∀ ns : List Int, DpAll K H (ns.map V.int) (ns.map PyData.int)
  | [] => .nil
  | n :: r => .cons (.int n) (dp_ints r)
theorem ints_at {ns : List Int} {i : Nat} {z : V} (ez : (ns.map V.int)[i]? = some z) : ∃ u, ns[i]? = some u ∧ z = V.int u := by
  rw [List.getElem?_map] at ez
  cases e : ns[i]? with
  | none => rw [e] at ez; cases ez
  | some u => rw [e] at ez; exact ⟨u, rfl, (Option.some.inj ez).symm⟩
theorem k_cg : ¬ ((Sum.inr "cells" : Key) = (Sum.inr "great" : Key)) := by decide +kernel
theorem k_cs : ¬ ((Sum.inr "cells" : Key) = (Sum.inr "spot" : Key)) := by decide +kernel
theorem k_gs : ¬ ((Sum.inr "great" : Key) = (Sum.inr "spot" : Key)) := by decide +kernel
theorem k_sg : ¬ ((Sum.inr "spot" : Key) = (Sum.inr "great" : Key)) := fun e => k_gs e.symm
theorem key_cells (x y z : V) : valV [((.inr "cells" : Key), x), (.inr "great", y), (.inr "spot", z)] (.inr "cells") = some x := valV_pos rfl
theorem key_great (x y z : V) : valV [((.inr "cells" : Key), x), (.inr "great", y), (.inr "spot", z)] (.inr "great") = some y := by
  rw [valV_neg (show ¬ ((.inr "cells" : Key), x).1 = _ from k_cg)]; exact valV_pos rfl
theorem key_spot (x y z : V) : valV [((.inr "cells" : Key), x), (.inr "great", y), (.inr "spot", z)] (.inr "spot") = some z := by
  rw [valV_neg (show ¬ ((.inr "cells" : Key), x).1 = _ from k_cs), valV_neg (show ¬ ((.inr "great" : Key), y).1 = _ from k_gs)]; exact valV_pos rfl
theorem put_spot (x y z u : V) : putK [((.inr "cells" : Key), x), (.inr "great", y), (.inr "spot", z)] (.inr "spot") u = [((.inr "cells" : Key), x), (.inr "great", y), (.inr "spot", u)] := by
  unfold putK
  have h : (([((.inr "cells" : Key), x), (.inr "great", y), (.inr "spot", z)] : List (Key × V)).any fun kv => decide (kv.1 = .inr "spot")) = true := by
    rw [valV_any, key_spot]; rfl
  rw [if_pos h]
  simp only [List.map_cons, List.map_nil, if_neg k_cs, if_neg k_gs, if_true]
theorem put_great (x y z u : V) : putK [((.inr "cells" : Key), x), (.inr "great", y), (.inr "spot", z)] (.inr "great") u = [((.inr "cells" : Key), x), (.inr "great", u), (.inr "spot", z)] := by
  unfold putK
  have h : (([((.inr "cells" : Key), x), (.inr "great", y), (.inr "spot", z)] : List (Key × V)).any fun kv => decide (kv.1 = .inr "great")) = true := by
    rw [valV_any, key_great]; rfl
  rw [if_pos h]
  simp only [List.map_cons, List.map_nil, if_neg k_cg, if_neg k_sg, if_true]
theorem merge_begun (x y z : V) : mergeK [] [((.inr "cells" : Key), x), (.inr "great", y), (.inr "spot", z)] = [((.inr "cells" : Key), x), (.inr "great", y), (.inr "spot", z)] := by
  simp only [mergeK, List.foldl_cons, List.foldl_nil]
  rw [putK_new (kvs := []) _ rfl]
  rw [putK_new (kvs := [] ++ [(_, _)]) _ (by show valV [(_, _)] _ = none; rw [valV_neg (show ¬ ((.inr "cells" : Key), x).1 = _ from k_cg)]; rfl)]
  rw [putK_new _ (by show valV [(_, _), (_, _)] _ = none; rw [valV_neg (show ¬ ((.inr "cells" : Key), x).1 = _ from k_cs), valV_neg (show ¬ ((.inr "great" : Key), y).1 = _ from k_gs)]; rfl)]
  rfl
theorem dr_cells {H : Hp} {m : Addr} {x y z : V} (h : H m = some (.dK [(.inr "cells", x), (.inr "great", y), (.inr "spot", z)])) : DGet H m (.str "cells") (some x) := by
  have q := DGet.k (k := .inr "cells") h
  rw [key_cells] at q
  exact q
theorem dr_great {H : Hp} {m : Addr} {x y z : V} (h : H m = some (.dK [(.inr "cells", x), (.inr "great", y), (.inr "spot", z)])) : DGet H m (.str "great") (some y) := by
  have q := DGet.k (k := .inr "great") h
  rw [key_great] at q
  exact q
theorem dr_spot {H : Hp} {m : Addr} {x y z : V} (h : H m = some (.dK [(.inr "cells", x), (.inr "great", y), (.inr "spot", z)])) : DGet H m (.str "spot") (some z) := by
  have q := DGet.k (k := .inr "spot") h
  rw [key_spot] at q
  exact q
theorem dp_spot {H : Hp} {m : Addr} {x y z v : V} (h : H m = some (.dK [(.inr "cells", x), (.inr "great", y), (.inr "spot", z)])) : DPut H m (.str "spot") v (upd H m (.dK [(.inr "cells", x), (.inr "great", y), (.inr "spot", v)])) := by
  have q := DPut.k (k := .inr "spot") (v := v) h (by show 3 < sizeLine; decide)
  rw [put_spot] at q
  exact q
end Sh

/-! ==== SuA ==== -/
set_option Elab.async false
set_option linter.all false
set_option maxRecDepth 100000
set_option maxHeartbeats 2000000
/-! A def with the cell of its class (super() without arguments), its first statement super().m(e, ..). -/
namespace SuX
open PySem PySem.Spec PyProof.Rows L2 StX ClX
abbrev kFn := @PySem.W.ksFn
abbrev kEnv := @PySem.W.ksEnv
/-- the scope of such a def -/
structure ScX (N P : List Str) (sc : Scope) : Prop where
  kind : sc.kind = .function
  co : sc.isCoroutine = false
  gen : sc.isGenerator = false
  nd : N.Nodup
  pre : N.take P.length = P
  par : ∀ x ∈ P, sc.names.lookup x = some .local
  nocell : ∀ y ∈ sc.names, y.2 ≠ .cell
  free : ∀ y ∈ sc.names, y.2 = .free → y.1 = "__class__"
def cxX (CX : CXT) (P : Program) (w : World) (K : PySem.W.Frag) (mg : Str → Option Value) (base : Heap) (N : List Str) (qual : Str) (scope : Scope) (f : Addr) (cd : Value) (cc : Addr) (A : Around) (outer : List Env) (s : Shared) (H : Hp) (E : XK) : Cx where
  prog := P
  w := w
  K := K
  mg := mg
  base := base
  A := A.deeper (kEnv qual scope s.heap.objs.size f cd cc)
  N := N
  s_0 := s
  H_0 := H
  env := kEnv qual scope s.heap.objs.size f cd cc
  outer := outer
  stack := kEnv qual scope s.heap.objs.size f cd cc :: outer
  ex := []
  calm := true
  fn := fun x => x != "__class__"
  pn := []
  xe := fun e s' => wpAny (model P w) (A.deeper (kEnv qual scope s.heap.objs.size f cd cc)) (leaving (kEnv qual scope s.heap.objs.size f cd cc) e) (fun _ s'' => CX outer H s E e s'') (fun e' s'' => CX outer H s E e' s'') s'
theorem cl_look {x : Str} {cc c : Addr} (h : List.lookup x [(("__class__" : Str), cc)] = some c) : x = "__class__" ∧ c = cc := by
  rw [List.lookup_cons] at h
  by_cases e : x = "__class__"
  · subst e
    simp at h
    exact ⟨rfl, h.symm⟩
  · have e' : (x == ("__class__" : Str)) = false := by simpa using e
    rw [e'] at h
    cases h
theorem rev_zip : ∀ {ps : List Str} {us : List Value} {i : Nat} {x : Str} {u : Value}, ps.Nodup → ps[i]? = some x → us[i]? = some u → (ps.zip us).reverse.lookup x = some u
  | [], _, _, _, _, _, h, _ => by simp at h
  | p :: ps, [], i, x, u, _, _, h => by simp at h
  | p :: ps, v :: us, 0, x, u, nd, h1, h2 => by
    simp at h1 h2
    subst h1 h2
    rw [List.zip_cons_cons, List.reverse_cons, List.lookup_append]
    have : (ps.zip us).reverse.lookup p = none := by
      rw [List.lookup_eq_none_iff]
      rintro ⟨a, b⟩ hm
      have hm := List.mem_reverse.mp hm
      have ha := (List.of_mem_zip hm).1
      have hn := (List.nodup_cons.mp nd).1
      simp
      rintro rfl
      exact hn ha
    rw [this]
    simp
  | p :: ps, v :: us, i + 1, x, u, nd, h1, h2 => by
    rw [List.zip_cons_cons, List.reverse_cons, List.lookup_append, rev_zip (i := i) (List.nodup_cons.mp nd).2 (by simpa using h1) (by simpa using h2)]
    rfl
section
variable {CX : CXT} {P : Program} {w : World} {K : PySem.W.Frag} {mg : Str → Option Value} {base : Heap} {k : Nat} {f cc D : Addr} {name qual : Str} {params : Arguments} {body : List Stmt} {scope : Scope} {dV kV doc pm cdv ct oc cl : Value} {an od cld : Option Addr}
  {osl csl : Array (Option Value)} {N ps : List Str} {sp : Sp} {A : Around} {outer : List Env} {s : Shared} {H : Hp} {E : XK}
theorem inv_startX {h1 : Heap} {tk : Nat} {us : List Value} {vs : List V} (S : ScX N ps scope) (hd : A.handled = none) (e0 : Env0 P w K mg base A outer s H) (hl : vs.length = ps.length) (r : Vals vs us)
    (hcell : K.lookup cc = some ⟨cl, cld, .cell (some (.ref D)), csl⟩)
    (hns : h1.Ns s.heap.objs.size (fun x => (ps.zip us).reverse.lookup x)) (hk : ∀ b o, s.heap.get? b = some o → h1.get? b = some o) :
    Inv (cxX CX P w K mg base N qual scope f cdv cc A outer s H E) [] (L2.start N vs) H { s with heap := h1, toks := tk } := by
  have hpl : ps.length ≤ N.length := by have := congrArg List.length S.pre; rw [List.length_take] at this; omega
  have noA : ∀ b : Addr, b ∉ (cxX CX P w K mg base N qual scope f cdv cc A outer s H E).ex := fun b z => absurd (show b ∈ ([] : List Addr) from z) (by simp)
  have kb := e0.mod.kin _ _ hcell
  have kc := e0.bs _ _ kb
  refine ⟨⟨e0.mod, S.kind, rfl, rfl, Nat.le_refl _, fun y z c h1 h2 => ?_, fun y hy => ?_, fun y c hf h => ?_, fun _ => hd, Around.frames_deeper e0.frames, .inr ⟨rfl, rfl⟩, fun b z => absurd z (noA b), e0.bs, e0.bsz, fun b _ _ => noA b, fun b z => absurd z (noA b), e0.funs, e0.frf⟩,
    rfl, e0.bare, Un.kept hk, ⟨_, hns, fun i y v h1 h2 h3 => ?_⟩, fun y c h => ?_, e0.hok.fresh (Nat.le_refl _), fun y c h => ?_, fun p hp => absurd (show p ∈ ([] : List (Addr × Obj)) from hp) (by simp), e0.hok.kept hk, ?_⟩
  · rw [(cl_look h1).1, (cl_look h2).1]
  · have hy : scope.names.lookup y = some .cell ∨ scope.names.lookup y = some .free := hy
    rcases hy with hy | hy
    · exact absurd rfl (S.nocell _ (PySem.mem_of_lookup hy))
    · have := S.free _ (PySem.mem_of_lookup hy) rfl
      simp only at this
      subst this
      exact ⟨cc, rfl⟩
  · have := (cl_look h).1
    subst this
    exact absurd (show (("__class__" : Str) != "__class__") = true from hf) (by decide +kernel)
  · have hi : i < vs.length := by
      unfold L2.start at h2
      by_cases hi : i < vs.length
      · exact hi
      · rw [List.getElem?_append_right (by simpa using hi)] at h2
        rw [List.getElem?_replicate] at h2
        split at h2 <;> cases h2
    have ha : vs[i]? = some v := by
      unfold L2.start at h2
      rw [List.getElem?_append_left (by simpa using hi), List.getElem?_map] at h2
      cases e : vs[i]? with
      | none => rw [e] at h2; cases h2
      | some a => rw [e] at h2; cases h2; rfl
    obtain ⟨u, hu, rv⟩ := r.get ha
    have hp : ps[i]? = some y := by
      rw [← S.pre, List.getElem?_take_of_lt (by omega)]; exact h1
    have ndP : ps.Nodup := by rw [← S.pre]; exact S.nd.sublist (List.take_sublist _ _)
    exact ⟨u, rv, .inl ⟨S.par y (List.mem_of_getElem? hp), rev_zip ndP hp hu⟩⟩
  · obtain ⟨e1, e2⟩ := cl_look h
    subst e2
    exact ⟨_, _, hk _ _ kc.1, rfl⟩
  · obtain ⟨e1, e2⟩ := cl_look h
    subst e2
    exact kc.2
  · unfold L2.start
    show _ = N.length
    rw [List.length_append, List.length_map, List.length_replicate]
    omega
/-- a block at the top of its def's body -/
def PAt (X : Cx) (body st : List Stmt) (t : TS) : Prop := ∀ (pins : List (Addr × Obj)) (s : Shared) (σ : L2.St) (H : Hp) (D : Ends), Inv X pins σ H s → t D σ H → PySem.wpAt (model X.prog X.w) X.A (.func body X.env) (execs st X.env) (SP X pins D) X.xe s
theorem run_sup {args : Args} {Q : VK} {G : List V → Hp → Prop} (lk : K.lookup f = some ⟨oc, od, .func (kFn name qual params body scope dV kV doc pm an cdv ct cc), osl⟩) (hcd : PySem.W.codeIn K cdv qual = true)
    (hcell : K.lookup cc = some ⟨cl, cld, .cell (some (.ref D)), csl⟩) (S : ScX N ps scope) (hr : Room (k + 1) A) (e0 : Env0 P w K mg base A outer s H) (hb : Bnd CX P w K mg base (kFn name qual params body scope dV kV doc pm an cdv ct cc) args ps A outer s H E G)
    (hbody : ∀ (s2 : Shared) (H2 : Hp) (vs : List V), G vs H2 → Room k (A.deeper (kEnv qual scope s2.heap.objs.size f cdv cc)) →
      ∃ t, PAt (cxX CX P w K mg base N qual scope f cdv cc A outer s2 H2 E) body body t ∧ t { nx := fun _ H' => Q .non H', rt := Q } (L2.start N vs) H2) : codeAny (model P w) A (.call (.ref f) args) (CR CX outer P w H s Q E) s := by
  have KX : K.In s.heap := e0.mod.kin.keeps fun b o e => (e0.bs b o e).1
  refine codeAny_call_function hr.depth (KX _ _ lk) rfl S.co S.gen rfl (PySem.W.codeRec_of KX hcd) ?_
  refine hb _ _ _ fun s2 H2 vs us e2 un ho hx r hl g => ?_
  have lim : s2.heap.NoLimit := e0.mod.nolimit.keeps fun b o e => (e2.bs b o e).1
  have hloc : ∀ y ∈ ps.zip us, scope.names.lookup y.1 = some .local := fun y hy => S.par y.1 (List.of_mem_zip hy).1
  refine wpAny_newFunctionEnv S.nocell hloc (fun h0 hns hsb => ?_) S.kind
  have kk : ∀ b o, s2.heap.get? b = some o → h0.get? b = some o := fun b o e => hsb.extBut b o (Nat.ne_of_lt (Heap.lt_size e)) (Heap.get?_push_of_some _ e)
  refine ⟨lim.keeps kk, PySem.ks_codeAny_funcAt ?_⟩
  obtain ⟨t, ht, hq⟩ := hbody s2 H2 vs g (hr.deeper _)
  have I : Inv (cxX CX P w K mg base N qual scope f cdv cc A outer s2 H2 E) [] (L2.start N vs) H2 { s2 with heap := h0, toks := s2.toks + (ps.zip us).length } := inv_startX S hr.hd e2 hl r hcell hns kk
  refine PySem.ks_wpAt_mono (ht [] _ _ _ _ I hq) (fun fl s' hs => ?_) fun e s' hs => ?_
  · have fin : ∀ {σ' : L2.St} {H' : Hp} {v' : V} {u' : Value}, Inv (cxX CX P w K mg base N qual scope f cdv cc A outer s2 H2 E) [] σ' H' s' → RelV v' u' → Q v' H' → CE outer P w H s Q u' s' :=
      fun {σ' H' v' u'} J rv' q => ⟨v', H', J.os.trans ho, J.bare, un.trans J.base, J.hok, rv', q⟩
    cases fl with
    | ret u' =>
      obtain ⟨v', σ', H', J, rv', q⟩ := hs
      exact fin J rv' q
    | next =>
      obtain ⟨σ', H', J, q⟩ := hs
      exact fin (v' := V.non) (u' := Value.none) J rfl q
    | brk =>
      obtain ⟨_, _, _, q⟩ := hs
      exact False.elim q
    | cont =>
      obtain ⟨_, _, _, q⟩ := hs
      exact False.elim q
  · exact wpAny_mono hs (fun _ s'' z => hx e s'' z) fun e' s'' z => hx e' s'' z
end
section
variable {X : Cx} {body rest : List Stmt} {st : Stmt} {t1 t2 : TS}
/-- the first statement by its place, the rest by its rules -/
theorem pat_cons (h1 : ∀ (pins : List (Addr × Obj)) (s : Shared) (σ : L2.St) (H : Hp) (D : Ends), Inv X pins σ H s → t1 D σ H → PySem.wpAt (model X.prog X.w) X.A (.func body X.env) (exec st X.env) (SP X pins D) X.xe s) (h2 : PSs X rest t2) :
    PAt X body (st :: rest) (tSeq t1 t2) := fun pins s σ H D I h => by
  refine PySem.ks_wpAt_execs_cons (PySem.ks_wpAt_mono (h1 pins s σ H _ I h) (fun fl s' hs => ?_) fun _ _ z => z)
  cases fl with
  | next =>
    obtain ⟨σ', H', J, q⟩ := hs
    exact PySem.wpAt_of_wpAny (h2.run pins s' σ' H' D J q)
  | ret u => exact hs
  | brk => exact hs
  | cont => exact hs
end
/-! ### super().m(e, ..) -/
/-- what the text says: the def at f (its code at cda), its class D by the cell cc; instances of C -/
structure SupF (X : Cx) (C D f cda cc : Addr) (qual sn : Str) (scope : Scope) (L : Addr) : Prop where
  env : X.env = kEnv qual scope L f (.ref cda) cc
  fn : ∃ oc od fd osl ar, X.K.lookup f = some ⟨oc, od, .func fd, osl⟩ ∧ (fd.params.posonlyargs ++ fd.params.args).head? = some ar ∧ ar.arg = sn
  code : ∃ ccl cdd vs ccs file tf, X.K.lookup cda = some ⟨ccl, cdd, .fields vs, ccs⟩ ∧ vs[2]? = some (.str file tf) ∧ ((X.prog.main.file : Str) == file) = true
  cell : ∃ cl cld csl, X.K.lookup cc = some ⟨cl, cld, .cell (some (.ref D)), csl⟩
  cls : ∃ cd, PySem.W.clsIn X.K D = some cd
  sub : PySem.W.mroIn X.K C (.ref D) = some true
  sup : X.mg "super" = none
  top : (X.prog.main.scope.names.lookup ("super" : Str)).isSome = false
  nS : scope.names.lookup ("super" : Str) = some .globalImplicit
  nC : scope.names.lookup ("__class__" : Str) = some .free
  nX : X.N[0]? = some sn
  lX : scope.names.lookup sn = some .local
  tp : PySem.W.nsIn X.K cStatics "thirdparty.any" = some none
/-- super().m of an instance of C, from D: the def f2 -/
structure SupM (K : PySem.W.Frag) (C D f2 : Addr) (m : Str) : Prop where
  met : PySem.W.ks_superIn K C D m = some (some (.ref f2))
  ty : PySem.W.typeIn K (.ref f2) = some (.type "function")
  fi : PySem.W.fnIn K f2 = true
  nm : (m == ("__class__" : Str)) = false
theorem clsIn_obj {K : PySem.W.Frag} {h : Heap} {D : Addr} {cd : ClassData} (X : K.In h) (hD : PySem.W.clsIn K D = some cd) : ∃ oD, h.get? D = some oD ∧ oD.data = .cls cd := by
  unfold PySem.W.clsIn at hD
  split at hD
  · rename_i c d cd' sl ho
    cases hD
    exact ⟨_, X _ _ ho, rfl⟩
  · cases hD
section
variable {X : Cx} {C D f cda cc f2 L : Addr} {qual m sn : Str} {scope : Scope} {pins : List (Addr × Obj)} {σ : L2.St} {H : Hp} {s : Shared}
/-- super() gives the record, a pin -/
theorem sup_base {body : List Stmt} {p0 p1 : Pos} {attr : Str} {whole : Sem Value} {x : Addr} {ox : Obj} {odx : Option Obj} {Q : Value → Shared → Prop} {E : Value → Shared → Prop} (T : SupF X C D f cda cc qual sn scope L) (hat : (attr == ("__class__" : Str)) = false) (I : Inv X pins σ H s)
    (hx : σ[0]? = some (some (.ref x))) (J : PySem.W.InstAt s.heap x ox C odx) (h : ∀ s', Inv X ((s.heap.objs.size, PySem.W.ks_superObj D x C) :: pins) σ H s' → Q (.ref s.heap.objs.size) s') :
    PySem.wpAt (model X.prog X.w) X.A (.func body X.env) (attributeBase (.Call (.Name "super" p0) [] [] p1) attr X.env whole) Q E s := by
  obtain ⟨oc, od, fd, osl, ar, hf, hp, rfl⟩ := T.fn
  obtain ⟨ccl, cdd, vs, ccs, file, tf, hcode, hvs, hfile⟩ := T.code
  obtain ⟨cl, cld, csl, hcell⟩ := T.cell
  obtain ⟨cdD, hD⟩ := T.cls
  obtain ⟨oD, hD1, hD2⟩ := clsIn_obj I.kIn hD
  obtain ⟨mb, hb1, hb2⟩ := I.mod.blt
  have KI := I.kIn
  obtain ⟨mm, hn, hl⟩ := I.loc
  obtain ⟨u, ru, lu⟩ := hl 0 ar.arg (.ref x) T.nX hx (.inl (by rw [T.env]; exact T.lX))
  obtain rfl : u = Value.ref x := ru
  have lu : mm ar.arg = some (.ref x) := by
    rcases lu with ⟨_, e⟩ | ⟨e, _⟩
    · exact e
    · rw [T.env] at e
      have e' : scope.names.lookup ar.arg = some .cell ∨ scope.names.lookup ar.arg = some .free := e
      rw [T.lX] at e'
      rcases e' with z | z <;> cases z
  have hks : X.env.kindOf "super" = some .globalImplicit := by rw [T.env]; exact T.nS
  have hkc : X.env.kindOf "__class__" = some .free := by rw [T.env]; exact T.nC
  have hfu : X.env.func = some f := by rw [T.env]
  have hco : X.env.code = .ref cda := by rw [T.env]
  have hkk : X.env.scope.kind = .function := I.ok.kind
  have hcl : X.env.cells.lookup ("__class__" : Str) = some cc := by rw [T.env]; rfl
  have hka : X.env.kindOf ar.arg = some .local := by rw [T.env]; exact T.lX
  refine PySem.ks_wpAt_super_base hks hkc hat hfu (KI _ _ hf) rfl hp hco (KI _ _ hcode) rfl hvs hfile T.top ?_
  refine PySem.W.ks_loadName_global hkk hks (Calls.loadGlobal_builtin (by rw [I.ok.glob]; exact I.mod.glob.keeps I.bk) T.sup (by rw [I.ok.blt]; exact hb1.keeps I.bk) ((hb2 _ (by decide +kernel)).trans (by decide +kernel)) ⟨rfl, ?_⟩)
  refine wpAny_loadName_free hkk hkc hcl ⟨_, KI _ _ hcell, rfl⟩ ?_
  refine wpAny_loadName_local hkk hka hn lu ?_
  obtain ⟨hh, g, d, t, os⟩ := s
  refine PySem.ks_wpAny_isType_cls hD1 hD2 ⟨rfl, ?_⟩
  refine PySem.ks_wpAny_call_super hD1 hD2 J.at_ J.cls (fun c e => ?_) (PySem.W.looks_mroIn KI T.sub) (fun h' e k => ?_)
  · have := J.no
    unfold PySem.W.notCls at this
    rw [e] at this
    exact Bool.noConfusion this
  · exact h _ (pin_new I k (Nat.le_refl _) e (fun v z => nomatch z))
theorem fn_obj {K : PySem.W.Frag} {h : Heap} {f2 : Addr} (X : K.In h) (ht : PySem.W.typeIn K (.ref f2) = some (.type "function")) : ∃ o, h.get? f2 = some o ∧ o.cls = .type "function" := by
  have ht' : (K.lookup f2).map (·.cls) = some (.type "function") := ht
  cases z : K.lookup f2 with
  | none => rw [z] at ht'; cases ht'
  | some o => rw [z] at ht'; exact ⟨o, X _ _ z, Option.some.inj ht'⟩
theorem sup_meth {pl : Sem Bool} {so x dx : Addr} {fs : List (Str × V)} {Q : Value × List Value → Shared → Prop} {E : Value → Shared → Prop} {A : Around} (htp : PySem.W.nsIn X.K cStatics "thirdparty.any" = some none) (T : SupM X.K C D f2 m) (I : Inv X ((so, PySem.W.ks_superObj D x C) :: pins) σ H s)
    (ho : H x = some (.ins C dx fs)) (h : ∀ s', Inv X ((s.heap.objs.size, PySem.W.methodObj (.ref f2) (.ref x)) :: pins) σ H s' → Q (.ref s.heap.objs.size, []) s') :
    wpAny (model X.prog X.w) A (getMethod (.ref so) m pl) Q E s := by
  have KI := I.kIn
  obtain ⟨mA, O, _⟩ := ins_get I.hok ho
  obtain ⟨odx, J, _⟩ := O.look
  have hm := T.met
  cases hc : PySem.W.clsIn X.K C with
  | none => unfold PySem.W.ks_superIn at hm; rw [hc] at hm; cases hm
  | some cd =>
    unfold PySem.W.ks_superIn at hm
    rw [hc] at hm
    obtain ⟨of, hof, hofc⟩ := fn_obj KI T.ty
    have hso := pin_at I
    obtain ⟨hh, g, d, t, os⟩ := s
    refine PySem.ks_wpAny_getMethod_super hso (PySem.W.looks_opaque KI htp) (l₀ := cd.mro) ?_ rfl KI hm hof hofc (PySem.W.ks_ne KI J hc) T.nm ?_
    · exact fun A Q E s k q => wpAny_bind ((PySem.W.looks_clsIn KI hc) A _ E s k (wpAny_pure q))
    · exact h _ (met_new (unpin I))
/-- super().m(e, ..), a statement -/
def tSup (C : Addr) (sp : Sp) (E : XK) (ta : TA) : TS := fun D σ H => ∃ (x dx : Addr) (fs : List (Str × V)), σ[0]? = some (some (.ref x)) ∧ H x = some (.ins C dx fs) ∧ ta σ H fun vs H1 => sp (.ref x :: vs) H1 (fun _ H2 => D.nx σ H2) E
theorem st_sup {CX : CXT} {k : Nat} {sp : Sp} {E : XK} {e : Expr} {es : List Expr} {ta : TA} {body : List Stmt} {p0 p1 apos pos p2 : Pos} {pl : Sem Bool} (T : SupF X C D f cda cc qual sn scope L) (TM : SupM X.K C D f2 m) (F : FnR X.prog X.w X.K X.mg X.base CX k f2 sp) (hr : Room k X.A) (hx : Passes CX X E) (ha : PA X (e :: es) ta)
    (hi : interactive X.env = false := by rfl) (hs : swapsWith (.Call (.Attribute (.Call (.Name "super" p0) [] [] p1) m apos) (e :: es) [] pos) none p2.line X.env = pure false := by rfl)
    (hst : starEach (e :: es) X.env = (false, eval e X.env) :: starEach es X.env := by rfl) (hpl : (backTo pos (starEach es X.env)).any (·.1) = false := by rfl)
    (ht : eval (.Call (.Attribute (.Call (.Name "super" p0) [] [] p1) m apos) (e :: es) [] pos) X.env = (do
      let ov ← attributeBase (.Call (.Name "super" p0) [] [] p1) m X.env (eval (.Call (.Name "super" p0) [] [] p1) X.env)
      standAt apos.atName
      let (f, first) ← holding [ov] (getMethod ov m pl)
      callWith pos f first (backTo pos (starEach (e :: es) X.env)) []) := by rfl) :
    ∀ (pins : List (Addr × Obj)) (s : Shared) (σ : L2.St) (H : Hp) (D' : Ends), Inv X pins σ H s → tSup C sp E ta D' σ H → PySem.wpAt (model X.prog X.w) X.A (.func body X.env) (exec (.Expr (.Call (.Attribute (.Call (.Name "super" p0) [] [] p1) m apos) (e :: es) [] pos) p2) X.env) (SP X pins D') X.xe s := by
  intro pins s σ H D' I h
  obtain ⟨x, dx, fs, h1, h2, q⟩ := h
  obtain ⟨mA, O, _⟩ := ins_get I.hok h2
  obtain ⟨odx, J, _⟩ := O.look
  refine PySem.ks_wpAt_Expr_any (PySem.ks_wpAt_MethodCall (pl := pl) (sup_base T TM.nm I h1 J fun s1 I1 => ?_) ht) hi hs
  refine sup_meth T.tp TM I1 h2 fun s2 I2 => ?_
  refine callwith_cm I2 (base_none I1 (Nat.le_refl _)) TM.fi (thn (ha.run pos _ s2 σ H _ I2 q) fun us s3 ⟨vs, H2, I3, rv, q2⟩ => ⟨⟨pin_at I3, I3.kIn⟩, ?_⟩) hst hpl
  exact thn (run_cm (E := E) (Q := fun _ H2 => D'.nx σ H2) F hr hx I3 rv q2) fun v s' ⟨w, H', I', _, q'⟩ => ⟨σ, H', I', q'⟩
end
end SuX

/-! ==== SuE ==== -/
set_option Elab.async false
set_option linter.all false
set_option maxRecDepth 100000
set_option maxHeartbeats 2000000
/-! super().__init__(e) in an own exception's __init__ (the built-in ValueError.__init__ is found). -/
namespace SuX
open PySem PySem.Spec PyProof.Rows L2 StX ClX
structure SupV (K : PySem.W.Frag) (C D : Addr) : Prop where
  met : PySem.W.ks_superIn K C D "__init__" = some (some (.builtin "ValueError.__init__"))
  sub : PySem.W.subIn K (.ref C) (.type "ValueError") = some true
section
variable {X : Cx} {C D f cda cc L : Addr} {qual m sn : Str} {scope : Scope} {pins : List (Addr × Obj)} {σ : L2.St} {H : Hp} {s : Shared}
abbrev mw (x : Addr) : Obj := PySem.W.kxs_mw "ValueError.__init__" x
theorem supE_meth {pl : Sem Bool} {so x : Addr} {ox : Obj} {odx : Option Obj} {Q : Value × List Value → Shared → Prop} {E : Value → Shared → Prop} {A : Around} (htp : PySem.W.nsIn X.K cStatics "thirdparty.any" = some none) (T : SupV X.K C D) (I : Inv X ((so, PySem.W.ks_superObj D x C) :: pins) σ H s)
    (J : PySem.W.InstAt s.heap x ox C odx) (h : ∀ s', Inv X ((s.heap.objs.size, mw x) :: pins) σ H s' → Q (.ref s.heap.objs.size, []) s') :
    wpAny (model X.prog X.w) A (getMethod (.ref so) "__init__" pl) Q E s := by
  have KI := I.kIn
  have hI : PySem.W.Looks (model X.prog X.w) s.heap (isInstance (.ref x) (.type "ValueError")) true := J.type.andThen (PySem.W.looks_subIn KI T.sub)
  have hm := T.met
  cases hc : PySem.W.clsIn X.K C with
  | none => unfold PySem.W.ks_superIn at hm; rw [hc] at hm; cases hm
  | some cd =>
    unfold PySem.W.ks_superIn at hm
    rw [hc] at hm
    have hso := pin_at I
    obtain ⟨hh, g, d, t, os⟩ := s
    refine PySem.W.kxs_getMethod PySem.W.kxs_ValueError hso (PySem.W.looks_opaque KI htp) (l₀ := cd.mro) ?_ rfl KI hm hI (PySem.W.ks_ne KI J hc) (by decide +kernel) ?_
    · exact fun A Q E s k q => wpAny_bind ((PySem.W.looks_clsIn KI hc) A _ E s k (wpAny_pure q))
    · exact h _ (pin_new (unpin I) (fun _ _ z => Heap.get?_push_of_some _ z) (Nat.le_refl _) (Heap.get?_push_size hh rfl) (fun v z => nomatch z))
/-- the record called -/
theorem call_mw {u a : Addr} {us : List Value} {Q : Value → Shared → Prop} {A : Around} {E : Value → Shared → Prop} (T : OexC X.K C) (I : Inv X pins σ H s) (hu : s.heap.get? u = some (mw a)) (e : H a = some (exo a C none)) (hl : us.length ≤ sizeLine) (h : ∀ s', Inv X pins σ H s' → Q .none s') :
    wpAny (model X.prog X.w) A (call (.ref u) us) Q E s := by
  obtain ⟨nm, q, N, bs, bm, sn, sub, ab, col, dd, k0, k1, k2, k3, k5, hC, hbm⟩ := T.cls
  obtain ⟨t1, ho⟩ := exo_at I.hok e
  have KI := I.kIn
  obtain ⟨hp, g, d, t, os⟩ := s
  have FB := F.excBase_ValueError
  refine wpAny_call (codeAny_of_tree ?_)
  show wpAny _ A.in1 (callAny (.ref u) ⟨us, []⟩) _ _ _
  simp only [callAny]
  refine wpAny_bind (wpAny_load hu ?_)
  simp only [mw, PySem.W.kxs_mw, show (Value.type "method-wrapper" == Value.type "method" || Value.type "method-wrapper" == Value.type "builtin_function_or_method" || Value.type "method-wrapper" == Value.type "method-wrapper") = true by decide, if_true]
  refine PySem.W.KFB.if_so (by decide) ?_
  refine wpAny_bind (PySem.W.check_bound_init FB.toExcCallFacts (KI _ _ hC) ho rfl ?_)
  refine wpAny_bind (wpAny_pure (wpAny_pure ?_))
  refine ⟨plainId_quiet FB.init.plain _, codeAny_builtin FB.initEntry ?_⟩
  refine PySem.W.exc_init_tree (cls := .ref C) (t0 := t1) (dv := none) (c2 := .none) (c3 := .none) (b4 := .bool false) ho hl fun h' k hx _ => ?_
  have J := I.write (t' := t) (x := a) (e := a) (o := exo a C none) (by rw [e]; exact True.intro) (.inl rfl) k ⟨_, hx⟩ (exo_ok hx)
  have eu : upd H a (exo a C none) = H := by
    funext b
    by_cases hb : b = a
    · rw [hb, upd_same, e]
    · rw [upd_ne hb]
  rw [eu] at J
  exact h _ J
/-- super().__init__(e, ..), a statement, of an exception that is being made -/
def tSupE (K : PySem.W.Frag) (C : Addr) (ta : TA) : TS := fun D σ H => ∃ x : Addr, σ[0]? = some (some (.ref x)) ∧ H x = some (exo x C none) ∧ ta σ H fun vs H1 => vs.length ≤ 1000 ∧ H1 x = some (exo x C none) ∧ D.nx σ H1
theorem st_supE {e : Expr} {es : List Expr} {ta : TA} {body : List Stmt} {p0 p1 apos pos p2 : Pos} {pl : Sem Bool} (T : SupF X C D f cda cc qual sn scope L) (TV : SupV X.K C D) (TC : OexC X.K C) (ha : PA X (e :: es) ta)
    (hi : interactive X.env = false := by rfl) (hs : swapsWith (.Call (.Attribute (.Call (.Name "super" p0) [] [] p1) "__init__" apos) (e :: es) [] pos) none p2.line X.env = pure false := by rfl)
    (hst : starEach (e :: es) X.env = (false, eval e X.env) :: starEach es X.env := by rfl) (hpl : (backTo pos (starEach es X.env)).any (·.1) = false := by rfl)
    (ht : eval (.Call (.Attribute (.Call (.Name "super" p0) [] [] p1) "__init__" apos) (e :: es) [] pos) X.env = (do
      let ov ← attributeBase (.Call (.Name "super" p0) [] [] p1) "__init__" X.env (eval (.Call (.Name "super" p0) [] [] p1) X.env)
      standAt apos.atName
      let (f, first) ← holding [ov] (getMethod ov "__init__" pl)
      callWith pos f first (backTo pos (starEach (e :: es) X.env)) []) := by rfl) :
    ∀ (pins : List (Addr × Obj)) (s : Shared) (σ : L2.St) (H : Hp) (D' : Ends), Inv X pins σ H s → tSupE X.K C ta D' σ H → PySem.wpAt (model X.prog X.w) X.A (.func body X.env) (exec (.Expr (.Call (.Attribute (.Call (.Name "super" p0) [] [] p1) "__init__" apos) (e :: es) [] pos) p2) X.env) (SP X pins D') X.xe s := by
  intro pins s σ H D' I h
  obtain ⟨x, h1, h2, q⟩ := h
  obtain ⟨t1, hox⟩ := exo_at I.hok h2
  have J : PySem.W.InstAt s.heap x { cls := .ref C, dict := none, data := .fields #[.ref t1, .none, .none, .none, .bool false, .none] } C none := ⟨hox, rfl, rfl, trivial⟩
  refine PySem.ks_wpAt_Expr_any (PySem.ks_wpAt_MethodCall (pl := pl) (sup_base T (by decide +kernel) I h1 J fun s1 I1 => ?_) ht) hi hs
  obtain ⟨t2, hox2⟩ := exo_at I1.hok h2
  have J2 : PySem.W.InstAt s1.heap x { cls := .ref C, dict := none, data := .fields #[.ref t2, .none, .none, .none, .bool false, .none] } C none := ⟨hox2, rfl, rfl, trivial⟩
  refine supE_meth T.tp TV I1 J2 fun s2 I2 => ?_
  have z : wpAny (model X.prog X.w) X.A (spliced (backTo pos (starEach (e :: es) X.env))) (fun vs s₁ => PySem.W.KxsAt "ValueError.__init__" s1.heap.objs.size x s₁.heap ∧ wpAny (model X.prog X.w) X.A (call (.ref s1.heap.objs.size) ([] ++ vs)) (fun _ s' => ∃ σ' H', Inv X pins σ' H' s' ∧ D'.nx σ' H') X.xe s₁) X.xe s2 :=
    thn (ha.run pos _ s2 σ H _ I2 q) fun us s3 ⟨vs, H2, I3, rv, hl, hx, q2⟩ => ⟨pin_at I3, call_mw TC (unpin I3) (pin_at I3) hx (by rw [List.nil_append, ← rv.length, sizeLine_eq]; omega) fun s4 I4 => ⟨σ, H2, I4, q2⟩⟩
  show wpAny _ _ (callWith pos (.ref s1.heap.objs.size) [] (backTo pos (starEach (e :: es) X.env)) []) _ _ _
  rw [hst] at z ⊢
  refine PySem.W.kxs_callWith (i := "ValueError.__init__") (x := x) (by show (false || (backTo pos (starEach es X.env)).any (·.1)) = false; rw [hpl]; rfl) ?_
  exact Calls.evalArgs_plain z
end
end SuX

/-! ==== SuB ==== -/
set_option Elab.async false
set_option linter.all false
set_option maxRecDepth 100000
set_option maxHeartbeats 2000000
/-! Defs with the cell of their class: their promises. -/
namespace SuX
open PySem PySem.Spec PyProof.Rows L2 StX ClX
section
variable {CX : CXT} {P : Program} {w : World} {K : PySem.W.Frag} {mg : Str → Option Value} {base : Heap} {k : Nat} {f cc D : Addr} {name qual : Str} {params : Arguments} {body : List Stmt} {scope : Scope} {dV kV doc pm cdv ct oc cl : Value} {an od cld : Option Addr}
  {osl csl : Array (Option Value)} {N ps : List Str} {sp : Sp}
/-- a def with fixed parameters -/
theorem fn_sup (lk : K.lookup f = some ⟨oc, od, .func (kFn name qual params body scope dV kV doc pm an cdv ct cc), osl⟩) (hcd : PySem.W.codeIn K cdv qual = true)
    (hcell : K.lookup cc = some ⟨cl, cld, .cell (some (.ref D)), csl⟩) (S : ScX N ps scope) (len : ∀ vs H Q E, sp vs H Q E → vs.length = ps.length)
    (hbody : ∀ (A : Around) (outer : List Env) (s : Shared) (H : Hp) (vs : List V) (Q : VK) (E : XK), Room k (A.deeper (kEnv qual scope s.heap.objs.size f cdv cc)) → sp vs H Q E →
      ∃ t, PAt (cxX CX P w K mg base N qual scope f cdv cc A outer s H E) body body t ∧ t { nx := fun _ H' => Q .non H', rt := Q } (L2.start N vs) H) :
    FnOk P w K mg base CX (k + 1) f (kFn name qual params body scope dV kV doc pm an cdv ct cc) ps sp := by
  refine ⟨len, fun A outer s H args us vs Q E hr e0 hb r hsp => ?_⟩
  have hl := len _ _ _ _ hsp
  refine run_sup (D := D) lk hcd hcell S hr e0 (G := fun xs H2 => xs = vs ∧ H2 = H) (fun A' Ex Q' h => hb _ _ _ _ (h s H vs us e0 Un.refl rfl (fun _ _ z => z) r hl ⟨rfl, rfl⟩)) fun s2 H2 xs ⟨ex, eH⟩ hr' => ?_
  subst ex eH
  exact hbody A outer s2 _ _ Q E hr' hsp
/-- def f(a, .., *v) -/
theorem fn_supstar {pv : Str} (lk : K.lookup f = some ⟨oc, od, .func (kFn name qual params body scope dV kV doc pm an cdv ct cc), osl⟩) (hcd : PySem.W.codeIn K cdv qual = true)
    (hcell : K.lookup cc = some ⟨cl, cld, .cell (some (.ref D)), csl⟩) (S : ScX N (ps ++ [pv]) scope) (hCX : CXUp CX)
    (hb : ∀ us rest : List Value, us.length = ps.length → bindArgs (kFn name qual params body scope dV kV doc pm an cdv ct cc) ⟨us ++ rest, []⟩ = (newTuple rest >>= fun t => pure (ps.zip us ++ [(pv, t)])))
    (hbody : ∀ (A : Around) (outer : List Env) (s : Shared) (H : Hp) (vs : List V) (Q : VK) (E : XK), Room k (A.deeper (kEnv qual scope s.heap.objs.size f cdv cc)) → sp vs H Q E →
      ∃ t, PAt (cxX CX P w K mg base N qual scope f cdv cc A outer s H E) body body t ∧ t { nx := fun _ H' => Q .non H', rt := Q } (L2.start N vs) H) :
    FnR P w K mg base CX (k + 1) f (fun vs H Q E => ∃ ws rest, vs = ws ++ rest ∧ ws.length = ps.length ∧ rest.length ≤ sizeLine ∧ ∀ p, H p = Option.none → sp (ws ++ [V.ref p]) (upd H p (.tup rest)) Q E) := by
  intro A outer s H us vs Q E hr e0 r hsp
  obtain ⟨ws, rest, ev, hl, hz, hq⟩ := hsp
  subst ev
  obtain ⟨u1, u2, eu, r1, r2⟩ := vals_split r
  subst eu
  have hn : H s.heap.objs.size = Option.none := e0.hok.fresh (Nat.le_refl _)
  have hl1 : u1.length = ps.length := by rw [← r1.length]; exact hl
  have hl2 : u2.length ≤ sizeLine := by rw [← r2.length]; exact hz
  refine run_sup (D := D) lk hcd hcell S hr e0 (G := fun xs H2 => ∃ p, H p = Option.none ∧ xs = ws ++ [V.ref p] ∧ H2 = upd H p (.tup rest)) (fun A' Ex Q' h => ?_) fun s2 H2 xs ⟨p, hp, ex, eH⟩ hr' => ?_
  · rw [hb u1 u2 hl1]
    refine wpAny_bind (wpAny_newTuple (wpAny_pure ?_) hl2)
    have new : ObjOk P w (upd H s.heap.objs.size (.tup rest)) (s.heap.push ({ cls := .type "tuple", data := .seq u2.toArray } : Obj)) s.heap.objs.size (.tup rest) := ⟨hz, u2, r2, ⟨_, Heap.get?_push_size _ rfl, rfl, _, rfl⟩⟩
    have un := un_laid (fs := frs outer) (s := s) (o := ({ cls := .type "tuple", data := .seq u2.toArray } : Obj)) (u := .tup rest) hn
    have z := h _ _ (ws ++ [V.ref s.heap.objs.size]) (u1 ++ [Value.ref s.heap.objs.size]) (env0_laid e0 new) un rfl (fun e s' => hCX outer s H _ _ E e s' un (fun b o q => Heap.get?_push_of_some _ q) rfl) (r1.append (.cons rfl .nil))
      (by rw [List.length_append, List.length_append, hl] <;> rfl) ⟨_, hn, rfl, rfl⟩
    rw [List.zip_append hl1.symm] at z
    exact z
  · subst ex eH
    exact hbody A outer s2 _ _ Q E hr' (hq p hp)
end
end SuX

/-! ==== SuC ==== -/
set_option Elab.async false
set_option linter.all false
set_option maxRecDepth 100000
set_option maxHeartbeats 2000000
/-! Defs with the cell of their class, by their facts. -/
namespace SuX
open PySem PySem.Spec PyProof.Rows L2 StX ClX
/-- a def of the class at D as the top has left it, its cell with it -/
structure FunX (P : Program) (K : PySem.W.Frag) (x qual : Str) (st : Stmt) (dvs : List V) (D f : Addr) (fd : FuncData) : Prop where
  ex : ∃ (oc : Value) (od : Option Addr) (dV kV doc pm : Value) (an : Option Addr) (cda cc : Addr) (ct : Value) (osl : Array (Option Value)) (cl : Value) (cld : Option Addr) (csl : Array (Option Value)) (ccl : Value) (cdd : Option Addr) (vs : Array Value) (ccs : Array (Option Value)) (file : Str) (tf : Tok),
    fd = kFn x qual (defArgs st) (defBody st) (defScope st) dV kV doc pm an (.ref cda) ct cc ∧ K.lookup f = some ⟨oc, od, .func fd, osl⟩ ∧ PySem.W.codeIn K (.ref cda) qual = true ∧ DflV K dV dvs ∧
    K.lookup cc = some ⟨cl, cld, .cell (some (.ref D)), csl⟩ ∧ K.lookup cda = some ⟨ccl, cdd, .fields vs, ccs⟩ ∧ vs[2]? = some (.str file tf) ∧ ((P.main.file : Str) == file) = true
  kp : PySem.W.keepIn K (.ref f) = true
  cls : ∃ cd, PySem.W.clsIn K D = some cd
/-- what the text says of super itself -/
structure SupK (P : Program) (K : PySem.W.Frag) (mg : Str → Option Value) : Prop where
  sup : mg "super" = none
  top : (P.main.scope.names.lookup ("super" : Str)).isSome = false
  tp : PySem.W.nsIn K cStatics "thirdparty.any" = some none
/-- the names of such a def's scope -/
structure ScS (N ps : List Str) (sn : Str) (st : Stmt) : Prop where
  sc : ScX N ps (defScope st)
  hd : ∃ ar, ((defArgs st).posonlyargs ++ (defArgs st).args).head? = some ar ∧ ar.arg = sn
  nS : (defScope st).names.lookup ("super" : Str) = some .globalImplicit
  nC : (defScope st).names.lookup ("__class__" : Str) = some .free
  nX : N[0]? = some sn
  lX : (defScope st).names.lookup sn = some .local
section
variable {CX : CXT} {P : Program} {w : World} {K : PySem.W.Frag} {mg : Str → Option Value} {base : Heap} {k : Nat} {f D : Addr} {x qual sn : Str} {st : Stmt} {dvs : List V} {fd : FuncData} {N ps : List Str} {sp : Sp}
/-- what a body is handed -/
abbrev SupAll (CX : CXT) (P : Program) (w : World) (K : PySem.W.Frag) (mg : Str → Option Value) (base : Heap) (N : List Str) (qual sn : Str) (st : Stmt) (D f cda cc : Addr) (A : Around) (outer : List Env) (s : Shared) (H : Hp) (E : XK) : Prop :=
  ∀ C : Addr, PySem.W.mroIn K C (.ref D) = some true → SupF (cxX CX P w K mg base N qual (defScope st) f (.ref cda) cc A outer s H E) C D f cda cc qual sn (defScope st) s.heap.objs.size
theorem FunX.ok (F : FunX P K x qual st dvs D f fd) (T : SupK P K mg) (S : ScS N ps sn st) (len : ∀ vs H Q E, sp vs H Q E → vs.length = ps.length)
    (hbody : ∀ (cda cc : Addr) (A : Around) (outer : List Env) (s : Shared) (H : Hp) (vs : List V) (Q : VK) (E : XK), Room k (A.deeper (kEnv qual (defScope st) s.heap.objs.size f (.ref cda) cc)) → SupAll CX P w K mg base N qual sn st D f cda cc A outer s H E → sp vs H Q E →
      ∃ t, PAt (cxX CX P w K mg base N qual (defScope st) f (.ref cda) cc A outer s H E) (defBody st) (defBody st) t ∧ t { nx := fun _ H' => Q .non H', rt := Q } (L2.start N vs) H) :
    FnOk P w K mg base CX (k + 1) f fd ps sp := by
  obtain ⟨oc, od, dV, kV, doc, pm, an, cda, cc, ct, osl, cl, cld, csl, ccl, cdd, vs, ccs, file, tf, rfl, lk, hcd, _, hcell, hcode, hvs, hfile⟩ := F.ex
  obtain ⟨ar, hp, ha⟩ := S.hd
  exact fn_sup (D := D) lk hcd hcell S.sc len fun A outer s H vs' Q E hr hsp => hbody cda cc A outer s H vs' Q E hr
    (fun C hC => ⟨rfl, ⟨_, _, _, _, ar, lk, hp, ha⟩, ⟨_, _, _, _, _, _, hcode, hvs, hfile⟩, ⟨_, _, _, hcell⟩, F.cls, hC, T.sup, T.top, S.nS, S.nC, S.nX, S.lX, T.tp⟩) hsp
/-- def f(a, .., *v) -/
theorem FunX.star {pv : Str} (F : FunX P K x qual st [] D f fd) (T : SupK P K mg) (S : ScS N (ps ++ [pv]) sn st) (hCX : CXUp CX)
    (hb : ∀ (kV doc pm : Value) (an : Option Addr) (cdv ct : Value) (cc : Addr) (us rest : List Value), us.length = ps.length → bindArgs (kFn x qual (defArgs st) (defBody st) (defScope st) .none kV doc pm an cdv ct cc) ⟨us ++ rest, []⟩ = (newTuple rest >>= fun t => pure (ps.zip us ++ [(pv, t)])))
    (hbody : ∀ (cda cc : Addr) (A : Around) (outer : List Env) (s : Shared) (H : Hp) (vs : List V) (Q : VK) (E : XK), Room k (A.deeper (kEnv qual (defScope st) s.heap.objs.size f (.ref cda) cc)) → SupAll CX P w K mg base N qual sn st D f cda cc A outer s H E → sp vs H Q E →
      ∃ t, PAt (cxX CX P w K mg base N qual (defScope st) f (.ref cda) cc A outer s H E) (defBody st) (defBody st) t ∧ t { nx := fun _ H' => Q .non H', rt := Q } (L2.start N vs) H) :
    FnR P w K mg base CX (k + 1) f (fun vs H Q E => ∃ ws rest, vs = ws ++ rest ∧ ws.length = ps.length ∧ rest.length ≤ sizeLine ∧ ∀ p, H p = Option.none → sp (ws ++ [V.ref p]) (upd H p (.tup rest)) Q E) := by
  obtain ⟨oc, od, dV, kV, doc, pm, an, cda, cc, ct, osl, cl, cld, csl, ccl, cdd, vs, ccs, file, tf, rfl, lk, hcd, hdv, hcell, hcode, hvs, hfile⟩ := F.ex
  obtain ⟨ar, hp, ha⟩ := S.hd
  rcases hdv with ⟨_, rfl⟩ | ⟨e, _⟩
  · exact fn_supstar (D := D) lk hcd hcell S.sc hCX (hb _ _ _ _ _ _ _) fun A outer s H vs' Q E hr hsp => hbody cda cc A outer s H vs' Q E hr
      (fun C hC => ⟨rfl, ⟨_, _, _, _, ar, lk, hp, ha⟩, ⟨_, _, _, _, _, _, hcode, hvs, hfile⟩, ⟨_, _, _, hcell⟩, F.cls, hC, T.sup, T.top, S.nS, S.nC, S.nX, S.lX, T.tp⟩) hsp
  · exact absurd rfl e
end
end SuX

/-! ==== EnT ==== -/
set_option Elab.async false
set_option linter.all false
set_option maxRecDepth 100000
set_option maxHeartbeats 2000000
/-! enumerate(t), t a tuple. -/
namespace PySem
open AutoSeq1 (wpAny_loadPart')
theorem entup_meets (l : Addr) (items : Array Value) (n : Nat) (dct : Option Addr) (sl : Array (Option Value)) :
    Meets (Builtin.«enumerate.__new__» ⟨[.type "enumerate", .ref l], []⟩) (fun _ R s => s.heap.get? l = some { cls := .type "tuple", dict := dct, data := .seq items n, slots := sl } ∧
      R (.ok (.ret (.ref (s.heap.push { cls := .type "tuple_iterator", data := .fields #[.ref l, .int 0 0] }).objs.size)))
        { s with heap := (s.heap.push { cls := .type "tuple_iterator", data := .fields #[.ref l, .int 0 0] }).push { cls := .type "enumerate", data := .fields #[.none, .bool false, .ref s.heap.objs.size, rawInt 0, .none, .none] } }) :=
  .of_wp fun prog w A R s h => by
    obtain ⟨hp, g, d, tk, os⟩ := s
    obtain ⟨hl, h⟩ := h
    have hsub := sub_enumerate
    have hL : Heap.IsTuple (Shared.heap ⟨hp, g, d, tk, os⟩) l items := ⟨_, hl, rfl, n, rfl⟩
    wp_walk using wpAny_loadPart' hl
    refine wpAny_stack_any fun st => wpAny_pure ?_
    split
    · rename_i c _ _ _ _ _
      cases (c == Value.type "enumerate")
      · wp_walk using wpAny_loadPart' hl, wpAny_pyIter_tuple hL
        exact ⟨_, rfl, h⟩
      · wp_walk using wpAny_loadPart' hl, wpAny_pyIter_tuple hL
        exact ⟨_, rfl, h⟩
    · wp_walk using wpAny_loadPart' hl, wpAny_pyIter_tuple hL
      exact ⟨_, rfl, h⟩
section
variable {prog : Program} {w : World} {A : Around} {E : Value → Shared → Prop} {s : Shared}
theorem entup_call {l : Addr} {items : Array Value} {Q : Value → Shared → Prop} (hL : s.heap.IsTuple l items)
    (h : ∀ h', IsEnum h' (s.heap.objs.size + 1) s.heap.objs.size 0 .none → h'.IsTupleIter s.heap.objs.size l 0 → h'.objs.size = s.heap.objs.size + 2 →
      (∀ b o, s.heap.get? b = some o → h'.get? b = some o) → Q (.ref (s.heap.objs.size + 1)) { s with heap := h' }) :
    wpAny (model prog w) A (call (.type "enumerate") [.ref l]) Q E s := by
  obtain ⟨⟨c, dct, dt, sl⟩, hl, hc, n, hd⟩ := hL
  replace hc : c = .type "tuple" := hc
  replace hd : dt = .seq items n := hd
  subst hc hd
  refine callType_new F.called_enumerate (by decide) (F.typeCall_enumerate_1 _) (F.newCall_enumerate_1 _) (fun obj => F.args_object_init_2 obj _) F.entry_enumerate_new
    (entup_meets l items n dct sl) ⟨hl, ?_⟩
  have hz : (s.heap.push { cls := .type "tuple_iterator", data := .fields #[.ref l, .int 0 0] }).objs.size = s.heap.objs.size + 1 := Heap.size_push ..
  show _ ∧ _
  rw [hz]
  have he : IsEnum ((s.heap.push { cls := .type "tuple_iterator", data := .fields #[.ref l, .int 0 0] }).push
      { cls := .type "enumerate", data := .fields #[.none, .bool false, .ref s.heap.objs.size, rawInt 0, .none, .none] }) (s.heap.objs.size + 1) s.heap.objs.size 0 .none := by
    have := Heap.get?_push_size (s.heap.push { cls := .type "tuple_iterator", data := .fields #[.ref l, .int 0 0] })
      (o := { cls := .type "enumerate", data := .fields #[.none, .bool false, .ref s.heap.objs.size, rawInt 0, .none, .none] }) rfl
    rw [hz] at this; exact this
  refine ⟨⟨_, he, rfl⟩, h _ he ⟨_, Heap.get?_push_of_some _ (Heap.get?_push_size _ rfl), rfl, rfl⟩ (by rw [Heap.size_push, hz]) fun b o x => Heap.get?_push_of_some _ (Heap.get?_push_of_some _ x)⟩
theorem entup_end {e it l : Addr} {i : Nat} {items : Array Value} {old : Value} {Q : Option Value → Shared → Prop} (hh : A.handled = none)
    (he : IsEnum s.heap e it i old) (hit : s.heap.IsTupleIter it l i) (hl : s.heap.IsTuple l items) (hx : items[i]? = none)
    (hQ : ∀ h', Heap.ExtBut it s.heap h' → Q none { s with heap := h' }) : wpAny (model prog w) A (pyNext (.ref e)) Q E s := by
  have hT : s.TypeIs (.ref e) "enumerate" := ⟨_, he, rfl⟩
  unfold pyNext
  refine wpAny_bind (wpAny_attempt (wpAny_callSpecial?_slot (name := Str.ofString "__next__") hT F.slot_enumerate_next
    (wpAny_call_entry F.slot_enumerate_next hT F.entry_enumerate_next ?_ (F.args_enumerate_next_1 _))))
  show wpAny _ _ (field (.ref e) 2 >>= _) _ _ _
  refine wpAny_bind (wpAny_field he rfl (x := .ref it) rfl ?_)
  refine wpAny_bind (wpAny_nextOf_tuple_end (A := A.in1) hh hit hl hx fun h' x he' hx' => ?_)
  obtain ⟨o, ho, hc⟩ := hx'
  refine wpAny_bind (wpAny_isInstance (T := "StopIteration") (b := true) ⟨o, ho, hc⟩ isSubtype_stop ?_)
  exact wpAny_pure (hQ _ he')
end
end PySem
namespace SuX
open PySem PySem.Spec PyProof.Rows L2
/-- the tuple at a, each item in a new pair -/
def IteT (K : PySem.W.Frag) (a : Addr) : It :=
  ⟨fun i H => ∃ (xs : List V) (x : V), SqT K H a xs ∧ xs[i]? = some x, fun i H v H' => ∃ T x, v = .ref T ∧ H T = none ∧ H' = upd H T (.tup [.int (i : Nat), x]) ∧ ∀ xs, SqT K H a xs → xs[i]? = some x, fun i H => ∃ xs : List V, SqT K H a xs ∧ xs.length ≤ i⟩
theorem turn_enumT {P : Program} {w : World} {K : PySem.W.Frag} {elts : List Expr} {kk : Nat} {tpos : Pos} (a e it : Addr) :
    Turn P w K (.Tuple elts kk tpos) (IteT K a) [e, it] e (fun i h => (∃ old, IsEnum h e it ((i : Nat) : Int) old) ∧ h.IsTupleIter it a i ∧ e ≠ it) where
  mem := by simp
  obj := fun i h st b hb => by
    obtain ⟨⟨old, he⟩, ⟨o, ho, hc, hd⟩, _⟩ := st
    have e' : b = e ∨ b = it := by simpa using hb
    rcases e' with z | z
    · rw [z]; exact ⟨_, he, fun v q => nomatch q⟩
    · rw [z]; exact ⟨o, ho, fun v q => by rw [hd] at q; cases q⟩
  keep := fun i h h' st k => let ⟨⟨old, he⟩, hi, hne⟩ := st; ⟨⟨old, k e (by simp) _ he⟩, hi.at fun o q => k it (by simp) o q, hne⟩
  item := by
    intro X hP hw hK hc i pins s σ H E I hf st hg
    subst hP hw hK
    obtain ⟨⟨old, he⟩, hit, hne⟩ := st
    obtain ⟨xs, x, hq, hx⟩ := hg
    obtain ⟨its, rv, p, hz⟩ := I.tuple hq
    obtain ⟨u, hu, ru⟩ := rv.get hx
    have hel : e < s.heap.objs.size := Heap.lt_size he
    have hil : it < s.heap.objs.size := by obtain ⟨_, q, _⟩ := hit; exact Heap.lt_size q
    have hT : s.heap.IsTuple a its.toArray := p
    have hta : a ≠ it := by
      obtain ⟨o, q1, q2, q3⟩ := hit
      obtain ⟨o', z1, z2, z3⟩ := hT
      intro z
      rw [z, q1] at z1
      cases z1
      rw [q2] at z2
      exact absurd (Value.type.inj z2) (by decide)
    have hea : e ∉ [it, a] := by
      intro hm
      have hm : e = it ∨ e = a := by simpa using hm
      rcases hm with z | z
      · exact hne z
      · obtain ⟨o', z1, z2, z3⟩ := hT
        rw [← z, he] at z1
        cases z1
        exact absurd (Value.type.inj z2) (by decide)
    have hl : i < its.toArray.size := by
      have := (List.getElem?_eq_some_iff.mp hu).1
      simpa using this
    refine wpAny_pyNext_enum_itemD (n := its.toArray.size) (Draws.tuple (A := X.A.in1) (show X.A.in1.handled = none from I.ok.hd hc) it a hta its.toArray) he ⟨hit, hT⟩ hl hne hea fun y h' tk hy ho hst hTt hsz hk => ?_
    have ey : y = u := by
      have hy : its.toArray[i]? = some y := hy
      rw [show its.toArray[i]? = its[i]? by simp, hu] at hy
      exact (Option.some.inj hy).symm
    subst ey
    refine ⟨_, rfl, wpAny_letOwnedTupleGo_enum (s := { s with heap := h', toks := tk + 1 }) ho fun h'' he' sb => ?_⟩
    have hT2 : h''.get? s.heap.objs.size = some { cls := .type "tuple", data := .seq #[.int i tk, y] } := (sb.2 _ (Nat.ne_of_gt hel)).trans hTt
    have new : ObjOk X.prog X.w (upd H s.heap.objs.size (.tup [.int (i : Nat), x])) h'' s.heap.objs.size (.tup [.int (i : Nat), x]) :=
      ⟨by show 2 ≤ sizeLine; decide, [.int i tk, y], .cons ⟨_, rfl⟩ (.cons ru .nil), ⟨_, hT2, rfl, _, rfl⟩⟩
    have I1 : Inv X pins σ (upd H s.heap.objs.size (.tup [.int (i : Nat), x])) { s with heap := h'', toks := tk + 1 } :=
      I.turnedNew (ch := [e, it]) (fun b ob hb q => (sb.2 b (fun z => hb (by simp [z]))).trans (hk b ob (fun z => hb (by simp [z])) (fun z => hb (by simp [z])) q)) hf (Nat.le_refl _) new
    refine ⟨.ref s.heap.objs.size, _, I1, rfl, ⟨_, x, rfl, I.hok.fresh (Nat.le_refl _), rfl, fun ys hy => by rw [I.tuple_inj hy hq]; exact hx⟩, ⟨⟨y, ?_⟩, hst.1.at fun o q => (sb.2 it (Ne.symm hne)).trans q, hne⟩, fun b hb => ?_⟩
    · have e1 : ((i + 1 : Nat) : Int) = (i : Int) + 1 := by omega
      rw [e1]; exact he'
    · have hb' : b < s.heap.objs.size := by
        have e' : b = e ∨ b = it := by simpa using hb
        rcases e' with z | z
        · rw [z]; exact hel
        · rw [z]; exact hil
      rw [upd_ne (Nat.ne_of_lt hb')]
      exact (hf b hb).1
  done := by
    intro X hP hw hK hc i pins s σ H E I hf st hg
    subst hP hw hK
    obtain ⟨⟨old, he⟩, hit, hne⟩ := st
    obtain ⟨xs, hq, hx⟩ := hg
    obtain ⟨its, rv, p, hz⟩ := I.tuple hq
    obtain ⟨f0, f1, f2, f3, f4, f5⟩ := hf it (by simp)
    have hl := rv.length
    have hT : s.heap.IsTuple a its.toArray := p
    refine entup_end (I.ok.hd hc) he hit hT (by simp; omega) fun h' eb => ⟨rfl, I.turned (t' := s.toks) (fun b o hb q => eb b o hb q) f0 f1 f3 f4 f5⟩
  self := fun A i s Q E st h => let ⟨⟨_, he⟩, _⟩ := st; wpAny_pyIter_enum he h
def iEnumT (K : PySem.W.Frag) (ta : TA) : TI := fun σ H R => ta σ H fun vs H1 => ∃ a xs, vs = [.ref a] ∧ SqT K H1 a xs ∧ R (IteT K a) H1
theorem pi_enumT {X : Cx} {e : Expr} {ta : TA} {p pos tpos : Pos} {elts : List Expr} {kk : Nat} (hg : Gl X "enumerate") (hm : X.mg "enumerate" = none) (ha : PA X [e] ta) (hs : starEach [e] X.env = [(false, eval e X.env)] := by rfl) :
    PI X (.Tuple elts kk tpos) (.Call (.Name "enumerate" p) [e] [] pos) (iEnumT X.K ta) := by
  refine ⟨fun pins s σ H R I h => ?_⟩
  refine Call_ (ld_blt I hg hm boot_enumerate (PyProof.Rows.callWith_type1 (thn (ha.run pos pins s σ H _ I h) fun us s1 ⟨vs, H1, I1, r1, q1⟩ => ?_) hs rfl))
  obtain ⟨a, xs, ex, hq, q⟩ := q1
  subst ex
  cases r1 with
  | cons r rr =>
    cases rr
    cases r
    obtain ⟨its, rv, p', hz⟩ := I1.tuple hq
    refine entup_call (show s1.heap.IsTuple a its.toArray from p') fun h' he hit hsz hk => wpAny_pyIter_enum he ?_
    have I2 : Inv X pins σ H1 { s1 with heap := h' } := I1.kept (t' := s1.toks) hk
    refine ⟨s1.heap.objs.size + 1, [s1.heap.objs.size + 1, s1.heap.objs.size], _, _, H1, rfl, I2, turn_enumT a (s1.heap.objs.size + 1) s1.heap.objs.size, ⟨⟨.none, he⟩, hit, Nat.succ_ne_self _⟩, fun b hb => ?_, q⟩
    have e' : b = s1.heap.objs.size + 1 ∨ b = s1.heap.objs.size := by simpa using hb
    have hle : s1.heap.objs.size ≤ b := by
      rcases e' with z | z
      · rw [z]; exact Nat.le_add_right _ _
      · rw [z]; exact Nat.le_refl _
    exact I1.fpOk hle (I1.hok.fresh hle)
theorem walk_enumT {K : PySem.W.Frag} {a : Addr} {xs : List V} : Walk (IteT K a) xs.length (fun H => SqT K H a xs) (YPair (fun i => some (.int (i : Nat))) (fun i => xs[i]?)) := by
  refine ⟨fun i _ hi q => ⟨xs, xs[i], q, by simp [hi]⟩, fun _ q => ⟨xs, q, Nat.le_refl _⟩, fun i H v H' _ q y => ?_⟩
  obtain ⟨T, x, h1, h2, h3, h4⟩ := y
  exact ⟨T, .int (i : Nat), x, h1, h2, h3, rfl, h4 xs q⟩
end SuX

/-! ==== ErrR ==== -/
set_option Elab.async false
set_option linter.all false
set_option maxRecDepth 100000
set_option maxHeartbeats 2000000
/-! abs(True), repr of a text, of a bool. -/
namespace SuX
open PySem PySem.Spec PyProof.Rows L2
theorem abs_bool {prog : Program} {w : World} {A : Around} {E : Value → Shared → Prop} {s : Shared} {b : Bool} {Q : Value → Shared → Prop} (h : ∀ u tk, Q (.int (if b then 1 else 0) u) { s with toks := tk }) : wpAny (model prog w) A (call (.builtin "abs") [.bool b]) Q E s := by
  refine Calls.call_function_entry PyProof.Rows.kind_abs PyProof.Rows.plain_abs PyProof.Rows.entry_abs (PyProof.Rows.args_abs _) ?_
  unfold Builtin.«abs»
  refine wpAny_bind (m := oneArg "abs" _) (wpAny_pure ?_)
  refine wpAny_bind (m := callSpecial? (.bool b) (Str.ofString "__abs__")) (wpAny_callSpecial?_slot (name := Str.ofString "__abs__") (T := "bool") rfl F.slot_bool_abs (wpAny_call_entry F.slot_bool_abs (T := "bool") rfl F.entry_int_abs ?_ (F.args_int_abs_1 _)))
  obtain ⟨hp, g, d, tk, os⟩ := s
  cases b
  all_goals
    wp_walk
    exact ⟨_, rfl, wpAny_pure ⟨_, rfl, h _ _⟩⟩
section
variable {X : Cx}
theorem call_abs_bl : CallR X (.builtin "abs") (fun xs H Q => ∃ b : Bool, xs = [.bl b] ∧ Q (.int (if b then 1 else 0)) H) := by
  intro pins s σ H xs us Q I r h
  obtain ⟨b, rfl, q⟩ := h
  obtain ⟨u, rfl, r1⟩ := vals1 r
  obtain rfl : u = Value.bool b := r1
  exact abs_bool fun u tk => ⟨.int (if b then 1 else 0), H, I.tok _, ⟨_, rfl⟩, q⟩
theorem call_repr_str : CallR X (.builtin "repr") (fun xs H Q => ∃ z, xs = [.str z] ∧ (reprText z).length ≤ sizeLine ∧ Q (.str (reprText z)) H) := by
  intro pins s σ H xs us Q I r h
  obtain ⟨z, rfl, hz, q⟩ := h
  obtain ⟨u, rfl, t, rfl⟩ := vals1 r
  exact PySem.P.repr_of_str ⟨.str _, H, I.tok _, ⟨_, rfl⟩, q⟩ hz
theorem call_repr_bl : CallR X (.builtin "repr") (fun xs H Q => ∃ b : Bool, xs = [.bl b] ∧ Q (.str (if b then "True" else "False")) H) := by
  intro pins s σ H xs us Q I r h
  obtain ⟨b, rfl, q⟩ := h
  obtain ⟨u, rfl, r1⟩ := vals1 r
  obtain rfl : u = Value.bool b := r1
  refine PySem.P.repr_of_bool ?_
  cases b
  · exact ⟨.str "False", H, I.tok _, ⟨_, rfl⟩, q⟩
  · exact ⟨.str "True", H, I.tok _, ⟨_, rfl⟩, q⟩
/-- repr of a text, an int, a bool -/
def rRepr : List V → Hp → VK → Prop := fun xs H Q => (∃ z : Str, xs = [.str z] ∧ (reprText z).length ≤ sizeLine ∧ Q (.str (reprText z)) H) ∨ (∃ i : Int, xs = [.int i] ∧ i.natAbs.log2 < 1920 ∧ Q (.str (toString i)) H) ∨ (∃ b : Bool, xs = [.bl b] ∧ Q (.str (if b then "True" else "False")) H)
theorem call_repr3 : CallR X (.builtin "repr") rRepr := by
  intro pins s σ H xs us Q I r h
  rcases h with h | h | h
  · exact call_repr_str pins s σ H xs us Q I r h
  · exact SkE.call_repr_int pins s σ H xs us Q I r h
  · exact call_repr_bl pins s σ H xs us Q I r h
/-- abs of an int, a bool -/
def rAbs : List V → Hp → VK → Prop := fun xs H Q => (∃ i : Int, xs = [.int i] ∧ Q (.int (if i < 0 then -i else i)) H) ∨ (∃ b : Bool, xs = [.bl b] ∧ Q (.int (if b then 1 else 0)) H)
theorem call_abs2 : CallR X (.builtin "abs") rAbs := by
  intro pins s σ H xs us Q I r h
  rcases h with h | h
  · exact call_abs pins s σ H xs us Q I r h
  · exact call_abs_bl pins s σ H xs us Q I r h
end
end SuX

/-! ==== KwA ==== -/
set_option Elab.async false
set_option linter.all false
set_option maxRecDepth 100000
set_option maxHeartbeats 2000000
/-! Defs with *args and **kw, called with keywords. -/
namespace KwX
open PySem PySem.Spec PyProof.Rows L2 StX ClX SuX
/-- names with their values -/
abbrev KwV : List (Str × V) → List (Str × Value) → Prop := Paired fun p q => p.1 = q.1 ∧ RelV p.2 q.2
theorem KwV.names : ∀ {kvs : List (Str × V)} {kw : List (Str × Value)}, KwV kvs kw → kw.map (·.1) = kvs.map (·.1)
  | _, _, .nil => rfl
  | _, _, .cons a r => by rw [List.map_cons, List.map_cons, KwV.names r, a.1]
theorem KwV.kv : ∀ {kvs : List (Str × V)} {kw : List (Str × Value)}, KwV kvs kw → KV (kvs.map fun q => ((Sum.inr q.1 : Key), q.2)) (kw.map fun q => ((Sum.inr q.1 : Key), q.2))
  | _, _, .nil => .nil
  | _, _, .cons a r => .cons ⟨congrArg Sum.inr a.1, a.2⟩ (KwV.kv r)
section
variable {prog : Program} {w : World} {A : Around} {E : Value → Shared → Prop} {d : Addr}
theorem ns_put {s : Shared} {es : List DictEntry} {n : Nat} {k : Str} {v : Value} {Q : Unit → Shared → Prop} (D : s.heap.get? d = some (PySem.W.dictOf es n))
    (hs : ∀ e ∈ es, e.key.isStr k = false) (hr : ∀ e ∈ es, e.refKey = false)
    (h : ∀ h', h'.get? d = some (PySem.W.dictOf (es ++ [⟨PyData.keyHash w.params k, .str k s.toks, v⟩]) (n + 1)) → Heap.SameBut d s.heap h' → Q () { s with heap := h', toks := s.toks + 1 }) :
    wpAny (model prog w) A (nsSet d k v) Q E s := by
  have e1 : es.any (·.key.isStr k) = false := by
    cases q : es.any (·.key.isStr k) with
    | false => rfl
    | true => obtain ⟨e, he, z⟩ := List.any_eq_true.mp q; rw [hs e he] at z; cases z
  have e2 : es.any (·.refKey) = false := by
    cases q : es.any (·.refKey) with
    | false => rfl
    | true => obtain ⟨e, he, z⟩ := List.any_eq_true.mp q; rw [hr e he] at z; cases z
  have c : aRefKeyMayBeTheName k es.toArray = false := by
    rw [aRefKeyMayBeTheName_at, ← Array.any_toList, ← Array.any_toList]
    show (!es.any (·.key.isStr k) && es.any (·.refKey)) = false
    rw [e2, Bool.and_false]
  have e : Obj.putName k (PyData.keyHash w.params k) (.str k s.toks) v (PySem.W.dictOf es n) = PySem.W.dictOf (es ++ [⟨PyData.keyHash w.params k, .str k s.toks, v⟩]) (n + 1) := by
    rw [PySem.W.putName_dict, PySem.W.putL_new hs]
    show PySem.W.dictOf _ (if es.any (·.key.isStr k) then n else n + 1) = _
    rw [e1, if_neg Bool.false_ne_true]
  unfold nsSet
  refine wpAny_bind (wpAny_bind (wpAny_askSetting (wpAny_pure (wpAny_bind (wpAny_mkText (wpAny_bind (wpAny_loadPart D ?_)))))))
  dsimp only
  rw [c]
  have hf : (Obj.putName k (PyData.keyHash w.params k) (.str k s.toks) v (PySem.W.dictOf es n)).isFreed = false := by rw [e]; rfl
  exact wpAny_updatePart D (h _ ((Heap.get?_update_self _ D hf).trans (congrArg some e)) ⟨Heap.size_update _ _ _, fun b hb => Heap.get?_update_other _ _ (Ne.symm hb)⟩)
theorem kw_fill {Q : PUnit → Shared → Prop} : ∀ (ex : List (Str × Value)) (s : Shared) (es : List DictEntry) (n : Nat), s.heap.get? d = some (PySem.W.dictOf es n) →
    (∀ e ∈ es, ∀ x ∈ ex, e.key.isStr x.1 = false) → (∀ e ∈ es, e.refKey = false) → (ex.map (·.1)).Nodup →
    (∀ h' t, h'.get? d = some (PySem.W.dictOf (es ++ PySem.W.kwEs w.params s.toks ex) (n + ex.length)) → Heap.SameBut d s.heap h' → Q ⟨⟩ { s with heap := h', toks := t }) →
    wpAny (model prog w) A (forIn ex PUnit.unit fun x _ => (nsSet d x.1 x.2 >>= fun _ => pure (ForInStep.yield PUnit.unit))) Q E s
  | [], s, es, n, D, _, _, _, h => by
    rw [List.forIn_nil]
    refine wpAny_pure (h s.heap s.toks ?_ (.refl ..))
    show s.heap.get? d = some (PySem.W.dictOf (es ++ []) n)
    rw [List.append_nil]
    exact D
  | x :: r, s, es, n, D, hs, hr, hn, h => by
    obtain ⟨hn1, hn2⟩ := List.nodup_cons.mp (show (x.1 :: r.map (·.1)).Nodup from hn)
    rw [List.forIn_cons]
    refine wpAny_bind (wpAny_bind (ns_put D (fun e he => hs e he x (.head _)) hr fun h' D' S' => wpAny_pure ?_))
    show wpAny (model prog w) A (forIn r PUnit.unit fun x _ => (nsSet d x.1 x.2 >>= fun _ => pure (ForInStep.yield PUnit.unit))) Q E { s with heap := h', toks := s.toks + 1 }
    refine kw_fill r { s with heap := h', toks := s.toks + 1 } _ _ D' (fun e he y hy => ?_) (fun e he => ?_) hn2 fun h'' t D'' S'' => ?_
    · rcases List.mem_append.mp he with he | he
      · exact hs e he y (.tail _ hy)
      · obtain rfl := List.mem_singleton.mp he
        show (x.1 == y.1) = false
        exact beq_eq_false_iff_ne.mpr fun q => hn1 (by rw [q]; exact List.mem_map_of_mem hy)
    · rcases List.mem_append.mp he with he | he
      · exact hr e he
      · obtain rfl := List.mem_singleton.mp he
        rfl
    · have t2 : n + 1 + r.length = n + (r.length + 1) := by omega
      refine h h'' t ?_ (S'.trans S'')
      rw [t2, List.append_assoc] at D''
      exact D''
theorem kw_pairs : ∀ (ex : List (Str × Value)) (t : Tok), Pairs (mixKind prog w) (PySem.W.kwEs w.params t ex) (ex.map fun q => ((Sum.inr q.1 : Key), q.2))
  | [], _ => Pairs.nil
  | x :: r, t => Pairs.cons (mixKind_str prog w x.1 t) rfl (kw_pairs r (t + 1))
theorem kw_dict {h : Heap} {ex : List (Str × Value)} {t : Tok} {n : Nat} (e : h.get? d = some (PySem.W.dictOf (PySem.W.kwEs w.params t ex) n)) (hn : (ex.map (·.1)).Nodup) : h.DictOf (mixKind prog w) d (ex.map fun q => ((Sum.inr q.1 : Key), q.2)) := by
  refine ⟨_, (PySem.W.kwEs w.params t ex).toArray, n, e, ⟨rfl, rfl, rfl⟩, rfl, fun e he => ?_, kw_pairs ex t, ?_⟩
  · obtain ⟨k, u, hk, hh⟩ := PySem.W.kwEs_key ex t e (List.mem_toArray.mp he)
    exact ⟨.inr k, by rw [hk]; exact mixKind_str prog w k u, hh.trans rfl⟩
  · rw [List.map_map]
    have : (List.map ((fun x => x.1) ∘ fun q : Str × Value => ((Sum.inr q.1 : Key), q.2)) ex) = (ex.map (·.1)).map Sum.inr := by
      rw [List.map_map]
      rfl
    rw [this]
    exact List.Pairwise.map Sum.inr (fun a b q z => q (Sum.inr.inj z)) hn
end
section
variable {P : Program} {w : World} {K : PySem.W.Frag} {mg : Str → Option Value} {base : Heap} {A : Around} {outer : List Env} {s : Shared} {H : Hp}
theorem env0_ext {h' : Heap} {a : Addr} {u : HO} {tk : Nat} (e0 : Env0 P w K mg base A outer s H) (kp : ∀ b x, s.heap.get? b = some x → h'.get? b = some x) (ha : s.heap.objs.size ≤ a) (hz : s.heap.objs.size ≤ h'.objs.size) (new : ObjOk P w (upd H a u) h' a u) :
    Env0 P w K mg base A outer { s with heap := h', toks := tk } (upd H a u) := by
  refine ⟨e0.frames, e0.mod, fun b x e => ⟨kp b x (e0.bs b x e).1, ?_⟩, Nat.le_trans e0.bsz hz, Heap.FunFrames.of_keeps (fun b x e _ => ⟨x, kp b x e, rfl⟩) e0.funs, fun b hb => ?_, e0.hok.laid kp ha new, e0.bare⟩
  · rw [upd_ne (Nat.ne_of_lt (Nat.lt_of_lt_of_le (Heap.lt_size (e0.bs b x e).1) ha))]
    exact (e0.bs b x e).2
  · obtain ⟨_, x, hx, _⟩ := e0.funs.mem hb
    rw [upd_ne (Nat.ne_of_lt (Nat.lt_of_lt_of_le (Heap.lt_size hx) ha))]
    exact e0.frf b hb
end
/-- a callee's promise, keywords among what it is called with -/
def FnK (P : Program) (w : World) (K : PySem.W.Frag) (mg : Str → Option Value) (base : Heap) (CX : CXT) (k : Nat) (f : Addr) (sp : List V → List (Str × V) → Hp → VK → XK → Prop) : Prop :=
  ∀ (A : Around) (outer : List Env) (s : Shared) (H : Hp) (us : List Value) (vs : List V) (kw : List (Str × Value)) (kvs : List (Str × V)) (Q : VK) (E : XK), Room k A → Env0 P w K mg base A outer s H → Vals vs us → KwV kvs kw → sp vs kvs H Q E →
    codeAny (model P w) A (.call (.ref f) ⟨us, kw⟩) (CR CX outer P w H s Q E) s
/-- no name twice, none of a parameter -/
structure KwOk (ps ks : List Str) : Prop where
  nd : ks.Nodup
  ne : ∀ x ∈ ks, x ∉ ps
  two : ks.length ≤ 2
section
variable {CX : CXT} {P : Program} {w : World} {K : PySem.W.Frag} {mg : Str → Option Value} {base : Heap} {k : Nat} {f cc D : Addr} {name qual : Str} {params : Arguments} {body : List Stmt} {scope : Scope} {dV kV doc pm cdv ct oc cl : Value} {an od cld : Option Addr}
  {osl csl : Array (Option Value)} {N ps : List Str} {sp : Sp}
/-- def f(a, .., *v, **d) with the cell of its class -/
theorem fn_supkw {pv pd : Str} (lk : K.lookup f = some ⟨oc, od, .func (kFn name qual params body scope dV kV doc pm an cdv ct cc), osl⟩) (hcd : PySem.W.codeIn K cdv qual = true)
    (hcell : K.lookup cc = some ⟨cl, cld, .cell (some (.ref D)), csl⟩) (S : ScX N (ps ++ [pv, pd]) scope) (hCX : CXUp CX)
    (hb : ∀ (us rest : List Value) (kw : List (Str × Value)), us.length = ps.length → KwOk ps (kw.map (·.1)) → bindArgs (kFn name qual params body scope dV kV doc pm an cdv ct cc) ⟨us ++ rest, kw⟩ =
      (newTuple rest >>= fun t => (alloc (PySem.W.dictOf [] 0) : Sem Addr) >>= fun d => (forIn kw PUnit.unit fun x _ => (nsSet d x.1 x.2 >>= fun _ => pure (ForInStep.yield PUnit.unit))) >>= fun _ => pure (ps.zip us ++ [(pv, t), (pd, Value.ref d)])))
    (hbody : ∀ (A : Around) (outer : List Env) (s : Shared) (H : Hp) (vs : List V) (Q : VK) (E : XK), Room k (A.deeper (kEnv qual scope s.heap.objs.size f cdv cc)) → sp vs H Q E →
      ∃ t, PAt (cxX CX P w K mg base N qual scope f cdv cc A outer s H E) body body t ∧ t { nx := fun _ H' => Q .non H', rt := Q } (L2.start N vs) H) :
    FnK P w K mg base CX (k + 1) f (fun vs kvs H Q E => ∃ ws rest, vs = ws ++ rest ∧ ws.length = ps.length ∧ rest.length ≤ sizeLine ∧ KwOk ps (kvs.map (·.1)) ∧ ∀ p d, H p = Option.none → H d = Option.none → d ≠ p →
      sp (ws ++ [V.ref p, V.ref d]) (upd (upd H p (.tup rest)) d (.dK (kvs.map fun q => ((Sum.inr q.1 : Key), q.2)))) Q E) := by
  intro A outer s H us vs kw kvs Q E hr e0 r rk hsp
  obtain ⟨ws, rest, ev, hl, hz, hkw, hq⟩ := hsp
  subst ev
  obtain ⟨u1, u2, eu, r1, r2⟩ := vals_split r
  subst eu
  have hn : H s.heap.objs.size = Option.none := e0.hok.fresh (Nat.le_refl _)
  have hl1 : u1.length = ps.length := by rw [← r1.length]; exact hl
  have hl2 : u2.length ≤ sizeLine := by rw [← r2.length]; exact hz
  refine run_sup (D := D) lk hcd hcell S hr e0 (G := fun xs H2 => ∃ p d, H p = Option.none ∧ H d = Option.none ∧ d ≠ p ∧ xs = ws ++ [V.ref p, V.ref d] ∧ H2 = upd (upd H p (.tup rest)) d (.dK (kvs.map fun q => ((Sum.inr q.1 : Key), q.2)))) (fun A' Ex Q' h => ?_) fun s2 H2 xs ⟨p, d, hp, hd, hne, ex, eH⟩ hr' => ?_
  · rw [hb u1 u2 kw hl1 (by rw [rk.names]; exact hkw)]
    refine wpAny_bind (wpAny_newTuple (wpAny_bind (wpAny_alloc (wpAny_bind (kw_fill kw _ [] 0 (Heap.get?_push_size _ rfl) (fun _ z => nomatch z) (fun _ z => nomatch z) (by rw [rk.names]; exact hkw.nd) fun h' t D' S' => wpAny_pure ?_)))) hl2)
    have new : ObjOk P w (upd H s.heap.objs.size (.tup rest)) (s.heap.push ({ cls := .type "tuple", data := .seq u2.toArray } : Obj)) s.heap.objs.size (.tup rest) := ⟨hz, u2, r2, ⟨_, Heap.get?_push_size _ rfl, rfl, _, rfl⟩⟩
    have e1 := env0_laid e0 new
    have un1 := un_laid (fs := frs outer) (s := s) (o := ({ cls := .type "tuple", data := .seq u2.toArray } : Obj)) (u := .tup rest) hn
    have hn2 := e1.hok.fresh (Nat.le_refl _)
    have sz : (s.heap.push ({ cls := .type "tuple", data := .seq u2.toArray } : Obj)).objs.size = s.heap.objs.size + 1 := Heap.size_push _ _
    have kp : ∀ b x, (s.heap.push ({ cls := .type "tuple", data := .seq u2.toArray } : Obj)).get? b = some x → h'.get? b = some x := fun b x e => by
      rw [S'.2 b (Nat.ne_of_lt (Heap.lt_size e))]
      exact Heap.get?_push_of_some _ e
    have dok : ObjOk P w (upd (upd H s.heap.objs.size (.tup rest)) (s.heap.push ({ cls := .type "tuple", data := .seq u2.toArray } : Obj)).objs.size (.dK (kvs.map fun q => ((Sum.inr q.1 : Key), q.2)))) h' (s.heap.push ({ cls := .type "tuple", data := .seq u2.toArray } : Obj)).objs.size
        (.dK (kvs.map fun q => ((Sum.inr q.1 : Key), q.2))) := by
      refine ⟨?_, beq_eq_false_iff_ne.mpr (Ne.symm (Nat.ne_of_lt (env0_big e1))), _, rk.kv, kw_dict D' (by rw [rk.names]; exact hkw.nd)⟩
      rw [List.length_map]
      have := hkw.two
      rw [List.length_map] at this
      rw [sizeLine_eq]
      omega
    have e2 := env0_ext (tk := t) e1 kp (Nat.le_refl _) (by rw [S'.1]; exact Nat.le_trans (Nat.le_succ _) (Nat.le_of_eq (Heap.size_push _ _).symm)) dok
    have un2 := un1.trans (Un.laid (fs := frs outer) (ex := []) (o := .dK (kvs.map fun q => ((Sum.inr q.1 : Key), q.2))) kp (Nat.le_refl _) hn2)
    have ne : (s.heap.push ({ cls := .type "tuple", data := .seq u2.toArray } : Obj)).objs.size ≠ s.heap.objs.size := by
      rw [sz]
      exact Nat.succ_ne_self _
    have hd : H (s.heap.push ({ cls := .type "tuple", data := .seq u2.toArray } : Obj)).objs.size = Option.none := e0.hok.fresh (by rw [sz]; exact Nat.le_succ _)
    have z := h _ _ (ws ++ [V.ref s.heap.objs.size, V.ref (s.heap.push ({ cls := .type "tuple", data := .seq u2.toArray } : Obj)).objs.size]) (u1 ++ [Value.ref s.heap.objs.size, Value.ref (s.heap.push ({ cls := .type "tuple", data := .seq u2.toArray } : Obj)).objs.size]) e2 un2 rfl
      (fun e s' => hCX outer s H _ _ E e s' un2 (fun b o q => kp _ _ (Heap.get?_push_of_some _ q)) rfl) (r1.append (.cons rfl (.cons rfl .nil))) (by rw [List.length_append, List.length_append, hl] <;> rfl) ⟨_, _, hn, hd, ne, rfl, rfl⟩
    rw [List.zip_append hl1.symm] at z
    exact z
  · subst ex eH
    exact hbody A outer s2 _ _ Q E hr' (hq p d hp hd hne)
end
end KwX

/-! ==== KwB ==== -/
set_option Elab.async false
set_option linter.all false
set_option maxRecDepth 100000
set_option maxHeartbeats 2000000
/-! f(e, .., **m): the keywords out of a dict of texts. -/
namespace KwX
open PySem PySem.Spec PyProof.Rows L2 StX ClX SuX
section
variable {prog : Program} {w : World} {A : Around} {E : Value → Shared → Prop} {s : Shared} {d : Addr}
/-- a new key, its hash known -/
theorem find_new {kvs : List (Key × Value)} {k : Key} {key : Value} {Q : Option Nat → Shared → Prop} (hkey : (mixKind prog w).is k key = true) (hm : s.heap.DictOf (mixKind prog w) d kvs) (hno : k ∉ kvs.map (·.1))
    (hQ : Q none s) : wpAny (model prog w) A (dictFind d key ((mixKind prog w).hash k)) Q E s := by
  obtain ⟨o, es, ep, ho, hc, hd, hk, hp, hn⟩ := hm
  have hidx : (es.findIdx? fun e => (mixKind prog w).is k e.key) = none := by
    have e1 : (es.findIdx? fun e => (mixKind prog w).is k e.key) = kvs.findIdx? fun kv => decide (kv.1 = k) := by
      rw [← hp.findIdx k]; obtain ⟨l⟩ := es; simp
    rw [e1, List.findIdx?_eq_none_iff]
    intro x hx
    exact decide_eq_false fun q => hno (List.mem_map.mpr ⟨x, hx, q⟩)
  refine wpAny_dictFind_of hkey ho hd hk ?_
  rw [hidx]
  exact hQ
theorem put_new {kvs : List (Key × Value)} {k : Key} {key v : Value} {Q : Unit → Shared → Prop} (hkey : (mixKind prog w).is k key = true) (hm : s.heap.DictOf (mixKind prog w) d kvs) (hno : k ∉ kvs.map (·.1)) (hsz : kvs.length ≤ sizeLine)
    (hQ : ∀ h', h'.DictOf (mixKind prog w) d (kvs ++ [(k, v)]) → Heap.SameBut d s.heap h' → Q () { s with heap := h' }) :
    wpAny (model prog w) A (dictPut d ((mixKind prog w).hash k) key v) Q E s := by
  obtain ⟨o, es, ep, ho, hc, hd, hk, hp, hn⟩ := id hm
  have hes : es.size ≤ sizeLine := by
    have e1 := hp.length
    have e2 : es.toList.length = es.size := by simp
    omega
  unfold dictPut
  refine wpAny_bind (find_new hkey hm hno ?_)
  refine wpAny_updateDictKeys (hz := hes) ho hd (hQ _ ⟨_, _, ep + 1, Heap.get?_update_self _ ho (Obj.isFreed_of_dict (Obj.data_mapDictKeys hd _)), hc.mapDictKeys _, Obj.data_mapDictKeys hd _, hk.push hkey _, ?_, ?_⟩ (Heap.SameBut.update ..))
  · have := hp.append hkey ((mixKind prog w).hash k) v
    obtain ⟨l⟩ := es
    simpa using this
  · rw [List.map_append, List.nodup_append]
    refine ⟨hn, by simp, ?_⟩
    intro a ha b hb
    simp only [List.map_cons, List.map_nil, List.mem_singleton] at hb
    subst hb
    exact fun e => hno (e ▸ ha)
theorem merge_kw {a : Addr} {more : List (Key × Value)} {Q : Unit → Shared → Prop} (hda : d ≠ a) (sm : (a == sysModules) = false) (hd : s.heap.DictOf (mixKind prog w) d []) (ha : s.heap.DictOf (mixKind prog w) a more)
    (hz : more.length ≤ sizeLine) (hQ : ∀ h', h'.DictOf (mixKind prog w) d more → Heap.SameBut d s.heap h' → Q () { s with heap := h' }) : wpAny (model prog w) A (mergeMapping d (.ref a) true) Q E s := by
  obtain ⟨od, esd, epd, hod, hcd, hdd, hkd, hpd, hnd⟩ := id hd
  obtain ⟨oo, eso, epo, hoo, hco, hdo, hko, hpo, hno⟩ := id ha
  have hT : s.TypeIs (.ref a) "dict" := ⟨oo, hoo, hco.1⟩
  have hlen : more.length = eso.size := by rw [← hpo.length]; simp
  have he : esd.isEmpty = true := by
    have := hpd.length
    rw [Array.isEmpty_iff_size_eq_zero]
    simpa using this
  unfold mergeMapping
  refine wpAny_bind (wpAny_isInstance (T := "dict") (U := "dict") (b := true) hT PySem.F.sub_dict_dict ?_)
  rw [if_pos rfl]
  refine wpAny_bind (wpAny_specialOf hT PySem.F.slot_dict_iter.lookup ?_)
  simp only [beq_self_eq_true]
  refine wpAny_bind (wpAny_pure ?_)
  dsimp only
  rw [sm]
  simp only [Bool.false_eq_true, if_false]
  refine wpAny_bind (wpAny_dictEntries hod hdd ?_)
  simp only [he, if_true]
  refine wpAny_bind (wpAny_dictEntries hoo hdo ?_)
  refine wpAny_bind (wpAny_of_eq (a := PUnit.unit) ?_ ?_)
  · rw [← Array.forIn_toList]
    refine forIn_yield_id _ fun e he c => ?_
    obtain ⟨k, hkey, _⟩ := hko e (Array.mem_toList_iff.mp he)
    rcases keyIs_shape hkey with ⟨i, t, _, q⟩ | ⟨x, t, _, q⟩
    · rw [q]
    · rw [q]
  refine wpAny_bind (wpAny_dictEntries hoo hdo ?_)
  refine wpAny_bind (wpAny_dictEpoch hoo hdo ?_)
  refine wpAny_bind ?_
  rw [List.range_eq_range']
  refine wpAny_forIn_list _
    (fun rest _ s' => ∃ h' i, s' = { s with heap := h' } ∧ rest = List.range' i (eso.size - i) ∧ i ≤ eso.size ∧ h'.DictOf (mixKind prog w) d (more.take i) ∧ h'.get? a = some oo ∧ Heap.SameBut d s.heap h')
    _ ?_ ?_ _ _ ⟨s.heap, 0, rfl, by simp, Nat.zero_le _, by simpa using hd, hoo, Heap.SameBut.refl _ _⟩
  · rintro x rest b s' ⟨h', i, rfl, hr, hi, hd', hoo', hs'⟩
    have hlt : i < eso.size := by
      rcases Nat.lt_or_ge i eso.size with h | h
      · exact h
      · rw [Nat.sub_eq_zero_of_le h] at hr; simp at hr
    obtain ⟨rfl, hrest⟩ : x = i ∧ rest = List.range' (i + 1) (eso.size - (i + 1)) := by
      have e : eso.size - i = (eso.size - (i + 1)) + 1 := by omega
      rw [e, List.range'_succ] at hr
      injection hr with h1 h2
      exact ⟨h1, h2⟩
    refine wpAny_bind (wpAny_dictEntries hoo' hdo ?_)
    rw [Array.getElem?_eq_getElem hlt]
    obtain ⟨kv, hkv⟩ : ∃ kv, more[x]? = some kv := ⟨more[x]'(by rw [hlen]; exact hlt), List.getElem?_eq_getElem _⟩
    obtain ⟨k, v⟩ := kv
    obtain ⟨hkey, hval⟩ := hpo.get? (e := eso[x]) (by simp [hlt]) hkv
    obtain ⟨k', hkey', hhash⟩ := hko eso[x] (Array.getElem_mem hlt)
    obtain rfl : k' = k := (mixKind prog w).inj _ _ _ hkey' hkey
    dsimp only
    rw [hhash, hval]
    have hfresh : k' ∉ (more.take x).map (·.1) := by
      intro z
      have e1 : (more.take (x + 1)).map (·.1) = (more.take x).map (·.1) ++ [k'] := by
        rw [List.take_succ, hkv, List.map_append]
        rfl
      have e2 : ((more.take (x + 1)).map (·.1)).Nodup := by
        rw [List.map_take]
        exact hno.sublist (List.take_sublist _ _)
      rw [e1, List.nodup_append] at e2
      exact e2.2.2 k' z k' (by simp) rfl
    have hmx : (more.take x).length ≤ sizeLine := by
      rw [List.length_take]
      omega
    refine wpAny_bind (wpAny_holding (wpAny_bind (find_new (s := { s with heap := h' }) hkey hd' hfresh ?_)))
    simp only [Option.isSome_none, Bool.false_eq_true, if_false]
    refine put_new (s := { s with heap := h' }) hkey hd' hfresh hmx fun h'' hd'' hs'' => ?_
    have hoo'' : h''.get? a = some oo := (hs''.2 a (Ne.symm hda)).trans hoo'
    refine wpAny_bind (wpAny_dictEpoch hoo'' hdo ?_)
    rw [if_neg (by simp)]
    refine wpAny_pure ⟨h'', x + 1, rfl, hrest, hlt, ?_, hoo'', hs'.trans hs''⟩
    rw [List.take_succ, hkv]
    exact hd''
  · rintro b s' ⟨h', i, rfl, hr, hi, hd', hoo', hs'⟩
    have hin : i = eso.size := by
      rcases Nat.lt_or_ge i eso.size with h | h
      · have e : eso.size - i = (eso.size - (i + 1)) + 1 := by omega
        rw [e, List.range'_succ] at hr; exact nomatch hr
      · exact Nat.le_antisymm hi h
    refine wpAny_pure (hQ h' ?_ hs')
    rw [hin, ← hlen, List.take_length] at hd'; exact hd'
end
end KwX

/-! ==== KwC ==== -/
set_option Elab.async false
set_option linter.all false
set_option maxRecDepth 100000
set_option maxHeartbeats 2000000
/-! f(e, .., **m), further. -/
namespace KwX
open PySem PySem.Spec PyProof.Rows L2 StX ClX SuX
section
variable {prog : Program} {w : World} {A : Around} {E : Value → Shared → Prop} {s : Shared} {d : Addr}
theorem evalArgs_kw1 {M : Model} {f : Value} {y x : Sem Value} {rest : List (Bool × Sem Value)} {Q : Args → Shared → Prop}
    (h : wpAny M A (spliced ((false, y) :: rest)) (fun us s1 => wpAny M A (mergedKeywords f [(none, x)]) (fun d s2 => wpAny M A (keywordsIn f d) (fun kw s3 => Q ⟨us, kw⟩ s3) E s2) E s1) E s) :
    wpAny M A (evalArgs f true ((false, y) :: rest) [(none, x)]) Q E s := by
  unfold evalArgs
  show wpAny M A (spliced ((false, y) :: rest) >>= _) Q E s
  refine wpAny_bind (wpAny_mono h (fun us s1 h1 => ?_) fun _ _ z => z)
  refine wpAny_holding ?_
  rw [if_neg (by simp)]
  refine wpAny_bind (wpAny_mono h1 (fun d s2 h2 => ?_) fun _ _ z => z)
  refine wpAny_bind (wpAny_pure ?_)
  refine wpAny_bind (wpAny_holding (wpAny_mono h2 (fun kw s3 h3 => ?_) fun _ _ z => z))
  exact wpAny_pure h3
theorem merged_one {f : Value} {x : Sem Value} {Q : Addr → Shared → Prop}
    (h : wpAny (model prog w) A x (fun v s1 => wpAny (model prog w) A (mergeMapping s.heap.objs.size v true) (fun _ s2 => Q s.heap.objs.size s2) (fun _ _ => False) s1) E { s with heap := s.heap.push (PySem.W.dictOf [] 0) }) :
    wpAny (model prog w) A (mergedKeywords f [(none, x)]) Q E s := by
  unfold mergedKeywords
  refine wpAny_bind (wpAny_alloc ?_)
  refine wpAny_bind (wpAny_holding (wpAny_bind ?_))
  rw [List.forIn_cons]
  refine wpAny_bind (wpAny_bind (wpAny_of_eq (a := ()) rfl ?_))
  refine wpAny_bind (wpAny_mono h (fun v s1 h1 => ?_) fun _ _ z => z)
  refine wpAny_bind (wpAny_onRaise (wpAny_holding (wpAny_tryCatch (wpAny_onRaise (wpAny_mono h1 (fun _ s2 h2 => ?_) fun _ _ z => z.elim)))))
  refine wpAny_pure ?_
  show wpAny (model prog w) A (forIn [] _ _) _ _ _
  rw [List.forIn_nil]
  exact wpAny_pure (wpAny_of_eq (a := ()) rfl (wpAny_pure h2))
theorem kw_loop {F : DictEntry → List (Str × Value) → Sem (ForInStep (List (Str × Value)))} (hF : ∀ e x t acc, e.key = Value.str x t → F e acc = pure (.yield (acc ++ [(x, e.val)]))) :
    ∀ (l : List DictEntry) (kvs : List (Str × V)) (vs : List (Key × Value)) (acc : List (Str × Value)) (Q : List (Str × Value) → Shared → Prop), Pairs (mixKind prog w) l vs → KV (kvs.map fun q => ((Sum.inr q.1 : Key), q.2)) vs →
      (∀ kw, KwV kvs kw → Q (acc ++ kw) s) → wpAny (model prog w) A (forIn l acc F) Q E s
  | [], kvs, vs, acc, Q, p, r, h => by
    cases p
    cases kvs with
    | nil =>
      rw [List.forIn_nil]
      have := h [] .nil
      rw [List.append_nil] at this
      exact wpAny_pure this
    | cons a b => cases r
  | e :: l, kvs, vs, acc, Q, p, r, h => by
    cases kvs with
    | nil => cases r; cases p
    | cons q kvs =>
      cases r with
      | @cons a b _ vs' ra rr =>
      cases p with
      | cons hk hv ht =>
        obtain ⟨bk, bv⟩ := b
        obtain rfl : Sum.inr q.1 = bk := ra.1
        have hk : keyIs (Sum.inr q.1) e.key = true := hk
        rcases keyIs_shape hk with ⟨i, t, z, _⟩ | ⟨x, t, z, ek⟩
        · exact nomatch z
        · obtain rfl : q.1 = x := Sum.inr.inj z
          rw [List.forIn_cons, hF e q.1 t acc ek]
          refine wpAny_bind (wpAny_pure ?_)
          refine kw_loop hF l kvs vs' _ Q ht rr fun kw hkw => ?_
          have := h ((q.1, e.val) :: kw) (.cons ⟨rfl, by rw [hv]; exact ra.2⟩ hkw)
          rw [List.append_assoc]
          exact this
theorem kw_in {f : Value} {kvs : List (Str × V)} {vs : List (Key × Value)} {Q : List (Str × Value) → Shared → Prop} (hd : s.heap.DictOf (mixKind prog w) d vs) (rel : KV (kvs.map fun q => ((Sum.inr q.1 : Key), q.2)) vs) (h : ∀ kw, KwV kvs kw → Q kw s) :
    wpAny (model prog w) A (keywordsIn f d) Q E s := by
  obtain ⟨o, es, ep, ho, hc, hdd, hk, hp, hn⟩ := id hd
  unfold keywordsIn
  refine wpAny_bind (wpAny_dictEntries ho hdd ?_)
  refine wpAny_bind ?_
  rw [← Array.forIn_toList]
  refine kw_loop (fun e x t acc ek => ?_) es.toList kvs vs [] _ hp rel fun kw hkw => wpAny_pure (h kw hkw)
  rw [ek]
end
end KwX

/-! ==== KwD ==== -/
set_option Elab.async false
set_option linter.all false
set_option maxRecDepth 100000
set_option maxHeartbeats 2000000
/-! cls(e, .., *y, **z), C(e, .., k = v) of a class whose __init__ has **kw; cls(e, .., *y). -/
namespace KwX
open PySem PySem.Spec PyProof.Rows L2 StX ClX SuX
theorem call_kw {M : Model} {A : Around} {E : Value → Shared → Prop} {s : Shared} {K : PySem.W.Frag} {f : Value} {first : List Value} {pos : Pos} {Q : Value → Shared → Prop} {args : List (Bool × Sem Value)} {x : Sem Value} (hk : PySem.W.keepIn K f = true)
    (h : wpAny M A (evalArgs f true args [(none, x)]) (fun a s₁ => K.In s₁.heap ∧ wpAny M A (call f (first ++ a.pos) a.kw) Q E s₁) E s) : wpAny M A (callWith pos f first args [(none, x)]) Q E s := by
  unfold callWith
  refine wpAny_bind (wpAny_holding (wpAny_mono h (fun a s₁ h₁ => wpAny_bind (wpAny_standAt ?_)) fun _ _ x => x))
  obtain ⟨k, hk', L⟩ := PySem.W.keeps_K (M := M) hk _ h₁.1
  have e : (args.any (·.1) || [((none : Option Str), x)].any (·.1.isNone)) = true := by simp
  simp only [e]
  refine wpAny_bind (L.here ?_)
  have tail : ∀ {t : Sem Value}, wpAny M A t Q E s₁ → wpAny M A (t >>= fun r => holding [r] point >>= fun _ => pure r) Q E s₁ :=
    fun ht => wpAny_bind (wpAny_mono ht (fun r s₂ hr => wpAny_bind (wpAny_holding (wpAny_point (wpAny_pure hr)))) fun _ _ x => x)
  have marked (mk : Value) : wpAny M A (callMarked mk f (first ++ a.pos) a.kw) Q E s₁ := by unfold callMarked; exact PySem.Calls.wpAny_keep h₁.2
  rcases hk' with rfl | rfl | rfl <;> dsimp only <;> first | exact tail (marked _) | exact tail (PySem.wpAny_operating h₁.2)
section
variable {X : Cx} {CX : CXT} {k i : Nat} {f C : Addr} {sp : Sp} {spk : List V → List (Str × V) → Hp → VK → XK → Prop} {E : XK} {x : Str} {e z : Expr} {es : List Expr} {tz : TE} {t tk : TA} {p kpos pos : Pos} {kws : List Keyword}
theorem run_mkK {pins : List (Addr × Obj)} {σ : L2.St} {H : Hp} {s : Shared} {Q : VK} {us : List Value} {vs : List V} {kw : List (Str × Value)} {kvs : List (Str × V)} (M : Mk X.K C f) (F : FnK X.prog X.w X.K X.mg X.base CX k f spk) (hr : Room (k + 1) X.A) (hx : Passes CX X E)
    (I : Inv X pins σ H s) (r : Vals vs us) (rk : KwV kvs kw)
    (h : ∀ x dx, H x = Option.none → H dx = Option.none → dx ≠ x → spk (V.ref x :: vs) kvs (upd (upd H dx (.own x)) x (.ins C dx [])) (fun v H2 => v = .non ∧ Q (.ref x) H2) E) :
    wpAny (model X.prog X.w) X.A (call (.ref C) us kw) (EP X pins σ Q) X.xe s := by
  have hq := h (s.heap.objs.size + 1) s.heap.objs.size (I.hok.fresh (Nat.le_succ _)) (I.hok.fresh (Nat.le_refl _)) (Nat.ne_of_lt (Nat.lt_succ_self _))
  have I2 := Inv.made (C := C) I
  have r2 : Vals (V.ref (s.heap.objs.size + 1) :: vs) (Value.ref (s.heap.objs.size + 1) :: us) := .cons rfl r
  refine wpAny_call (make_map (f := f) I.kIn M.makes M.init (beq_iff_eq.mp M.fn) (codeAny_mono (F _ X.stack _ _ (Value.ref (s.heap.objs.size + 1) :: us) _ kw _ _ E (hr.make C us kw) (I2.env0.make C us kw) r2 rk hq) fun r s' hq' => ?_))
  cases r with
  | error e => exact hx pins σ _ _ e s' I2 hq'
  | ok fl =>
    cases fl with
    | ret u =>
      obtain ⟨v, H', I3, rv, ev, q3⟩ := I2.after hq'
      subst ev
      exact ⟨rv, ⟨V.ref (s.heap.objs.size + 1), H', I3, rfl, q3⟩⟩
    | next => exact False.elim hq'
    | brk => exact False.elim hq'
    | cont => exact False.elim hq'
abbrev kD (kvs : List (Str × V)) : List (Key × V) := kvs.map fun q => ((Sum.inr q.1 : Key), q.2)
/-- cls(e, .., *y, **z), cls in slot i -/
def tMkLK (i : Nat) (C : Addr) (spk : List V → List (Str × V) → Hp → VK → XK → Prop) (E : XK) (t : TA) (tz : TE) : TE := fun σ H Q => σ[i]? = some (some (.ref C)) ∧ t σ H fun vs H1 => ∀ d, H1 d = none → tz σ (upd H1 d (.dK [])) fun y H2 => ∃ m kvs, y = .ref m ∧ m ≠ d ∧
  H2 m = some (.dK (kD kvs)) ∧ H2 d = some (.dK []) ∧ ∀ x dx, upd H2 d (.dK (kD kvs)) x = none → upd H2 d (.dK (kD kvs)) dx = none → dx ≠ x →
    spk (.ref x :: vs) kvs (upd (upd (upd H2 d (.dK (kD kvs))) dx (.own x)) x (.ins C dx [])) (fun v H3 => v = .non ∧ Q (.ref x) H3) E
theorem pe_mkLK (M : Mk X.K C f) (F : FnK X.prog X.w X.K X.mg X.base CX k f spk) (hr : Room (k + 1) X.A) (hN : X.N[i]? = some x) (hv : Vis X.env.scope x) (hx : Passes CX X E) (ha : PA X (e :: es) t) (hz : PE X z tz)
    (hdb : (x == ("__debug__" : Str)) = false := by decide) (hcd : (x == ("__classdict__" : Str)) = false := by decide) (he : starEach (e :: es) X.env = (false, eval e X.env) :: starEach es X.env := by rfl) :
    PE X (.Call (.Name x p) (e :: es) [⟨none, z, kpos⟩] pos) (tMkLK i C spk E t tz) := by
  refine ⟨fun pins s σ H Q I h => ?_⟩
  obtain ⟨hs, ht⟩ := h
  refine wpAny_Call_Name_kw (thn ((pe_var (pos := p) hN hv hdb hcd).run pins s σ H (fun v H1 => v = .ref C ∧ H1 = H) I ⟨.ref C, hs, rfl, rfl⟩) fun u s1 ⟨v, H1, I1, r1, q1⟩ => ?_)
  obtain ⟨rfl, rfl⟩ := q1
  cases r1
  show wpAny _ _ (callWith pos (.ref C) [] (backTo pos (starEach (e :: es) X.env)) [(none, do let v ← eval z X.env; standAt pos; pure v)]) _ _ _
  refine call_kw M.kp ?_
  have hsp := ha.run pos pins s1 σ _ _ I1 ht
  rw [he] at hsp ⊢
  refine evalArgs_kw1 (thn hsp fun us s2 ⟨vs, H2, I2, r, q⟩ => ?_)
  refine merged_one ?_
  have hd0 : H2 s2.heap.objs.size = none := I2.hok.fresh (Nat.le_refl _)
  have I3 := I2.laid (a := s2.heap.objs.size) (o := .dK []) (h' := s2.heap.push (PySem.W.dictOf [] 0)) (t' := s2.toks) (fun _ _ q => Heap.get?_push_of_some _ q) (Nat.le_refl _) (dk_empty s2.heap I2.big)
  refine wpAny_bind (thn (hz.run pins _ σ _ _ I3 (q _ hd0)) fun v s3 ⟨y, H3, I4, r4, m, kvs, ey, hmd, hm, hd, q4⟩ => wpAny_bind (wpAny_standAt (wpAny_pure ?_)))
  subst ey
  obtain rfl : v = Value.ref m := r4
  obtain ⟨z1, sm, vs1, rel1, dd1⟩ := dk_of I4.hok hm
  obtain ⟨z2, sd, vs2, rel2, dd2⟩ := dk_of I4.hok hd
  cases rel2
  have hzl : vs1.length ≤ sizeLine := by rw [← rel1.length]; exact z1
  refine merge_kw (Ne.symm hmd) sm dd2 dd1 hzl fun h' dd' hs' => ?_
  have I5 := d_write (t' := s3.toks) I4 (by rw [hd]; exact True.intro) hs' (let ⟨q, _, _, hq, _⟩ := dd'; ⟨q, hq⟩) (dk_new z1 sd rel1 dd')
  refine kw_in dd' rel1 fun kw hkw => ⟨I5.kIn, ?_⟩
  exact run_mkK M F hr hx I5 r hkw q4
/-- cls(e, .., *y), cls in slot i -/
def tMkL (i : Nat) (C : Addr) (sp : Sp) (E : XK) (t : TA) : TE := fun σ H Q => σ[i]? = some (some (.ref C)) ∧ tMakeR C sp E t σ H Q
theorem pe_mkL (M : Mk X.K C f) (F : FnR X.prog X.w X.K X.mg X.base CX k f sp) (hr : Room (k + 1) X.A) (hN : X.N[i]? = some x) (hv : Vis X.env.scope x) (hx : Passes CX X E) (ha : PA X (e :: es) t)
    (hdb : (x == ("__debug__" : Str)) = false := by decide) (hcd : (x == ("__classdict__" : Str)) = false := by decide) (he : starEach (e :: es) X.env = (false, eval e X.env) :: starEach es X.env := by rfl)
    (hst : (backTo pos (starEach es X.env)).any (·.1) = true := by rfl) :
    PE X (.Call (.Name x p) (e :: es) [] pos) (tMkL i C sp E t) := by
  refine ⟨fun pins s σ H Q I h => ?_⟩
  obtain ⟨hs, ht⟩ := h
  refine wpAny_Call_Name_kw (thn ((pe_var (pos := p) hN hv hdb hcd).run pins s σ H (fun v H1 => v = .ref C ∧ H1 = H) I ⟨.ref C, hs, rfl, rfl⟩) fun u s1 ⟨v, H1, I1, r1, q1⟩ => ?_)
  obtain ⟨rfl, rfl⟩ := q1
  cases r1
  refine PySem.W.callWith_S2 (h₀ := X.base) I.ok.mod.kin M.kp (thn (ha.run pos pins s1 σ _ _ I1 ht) fun us s2 ⟨vs, H2, I2, r, q⟩ => ⟨I2.kIn, ?_⟩) he hst
  exact run_makeR M F hr hx I2 r q
/-- cls(*y), cls in slot i -/
def tMkS (i : Nat) (C : Addr) (sp : Sp) (E : XK) (te : TE) (K : PySem.W.Frag) : TE := fun σ H Q => σ[i]? = some (some (.ref C)) ∧ te σ H fun y H1 => ∃ a xs, y = V.ref a ∧ (SqT K H1 a xs ∨ SqL K H1 a xs) ∧ ∀ x dx, H1 x = none → H1 dx = none → dx ≠ x →
  sp (.ref x :: xs) (upd (upd H1 dx (.own x)) x (.ins C dx [])) (fun v H3 => v = .non ∧ Q (.ref x) H3) E
theorem pe_mkS {te : TE} {sp_ : Pos} (M : Mk X.K C f) (F : FnR X.prog X.w X.K X.mg X.base CX k f sp) (hr : Room (k + 1) X.A) (hN : X.N[i]? = some x) (hv : Vis X.env.scope x) (hx : Passes CX X E) (he : PE X e te)
    (hdb : (x == ("__debug__" : Str)) = false := by decide) (hcd : (x == ("__classdict__" : Str)) = false := by decide) (hst : starEach [.Starred e sp_] X.env = [(true, eval e X.env)] := by rfl) :
    PE X (.Call (.Name x p) [.Starred e sp_] [] pos) (tMkS i C sp E te X.K) := by
  refine ⟨fun pins s σ H Q I h => ?_⟩
  obtain ⟨hs, ht⟩ := h
  refine wpAny_Call_Name_kw (thn ((pe_var (pos := p) hN hv hdb hcd).run pins s σ H (fun v H1 => v = .ref C ∧ H1 = H) I ⟨.ref C, hs, rfl, rfl⟩) fun u s1 ⟨v, H1, I1, r1, q1⟩ => ?_)
  obtain ⟨rfl, rfl⟩ := q1
  cases r1
  refine PySem.W.callWith_S (h₀ := X.base) I.ok.mod.kin M.kp (thn (he.run pins s1 σ _ _ I1 ht) fun v s2 ⟨y, H2, I2, ry, a, xs, ey, hxs, q⟩ => ?_) hst
  subst ey
  obtain rfl : v = Value.ref a := ry
  exact star_any I2 hxs fun us s3 I3 rv => ⟨I3.kIn, run_makeR M F hr hx I3 rv q⟩
/-- C(e, .., k = v, ..) -/
def tMkK (C : Addr) (spk : List V → List (Str × V) → Hp → VK → XK → Prop) (E : XK) (ks : List Str) (t tk : TA) : TE := fun σ H Q => t σ H fun vs H1 => tk σ H1 fun zs H2 => zs.length = ks.length ∧
  ∀ x dx, H2 x = none → H2 dx = none → dx ≠ x → spk (.ref x :: vs) (ks.zip zs) (upd (upd H2 dx (.own x)) x (.ins C dx [])) (fun v H3 => v = .non ∧ Q (.ref x) H3) E
theorem kwv_zip : ∀ {ks : List Str} {zs : List V} {ws : List Value}, Vals zs ws → KwV (ks.zip zs) (ks.zip ws)
  | [], _, _, _ => .nil
  | _ :: _, [], _, .nil => .nil
  | _ :: ks, _ :: _, _ :: _, .cons a r => .cons ⟨rfl, a⟩ (kwv_zip r)
theorem pe_mkK {ks : List Str} (M : Mk X.K C f) (F : FnK X.prog X.w X.K X.mg X.base CX k f spk) (hr : Room (k + 1) X.A) (hg : Gl X x) (hm : X.mg x = some (.ref C)) (hx : Passes CX X E)
    (ha : PA X (e :: es) t) (hkw : PK X kws tk) (hall : (backToKw pos (keywordEach kws X.env)).all (·.1.isSome) = true := by rfl) (hks : (backToKw pos (keywordEach kws X.env)).filterMap (·.1) = ks := by rfl)
    (hdb : (x == ("__debug__" : Str)) = false := by decide) (he : starEach (e :: es) X.env = (false, eval e X.env) :: starEach es X.env := by rfl)
    (hpl : ((backTo pos (starEach (e :: es) X.env)).any (·.1) || (backToKw pos (keywordEach kws X.env)).any (·.1.isNone)) = false := by rfl) :
    PE X (.Call (.Name x p) (e :: es) kws pos) (tMkK C spk E ks t tk) := by
  refine ⟨fun pins s σ H Q I h => ?_⟩
  refine wpAny_Call_Name_kw (ld_glob I hg hm ?_ hdb)
  refine PySem.W.callWith_KW (h₀ := X.base) I.ok.mod.kin M.kp hall (thn (ha.run pos pins s σ H _ I h) fun us s1 ⟨vs, H1, I1, r, q⟩ => ?_) hpl he
  refine thn (hkw.run pos pins s1 σ H1 _ I1 q) fun ws s2 ⟨zs, H2, I2, rz, l2, q2⟩ => ⟨I2.kIn, ?_⟩
  rw [hks]
  exact run_mkK M F hr hx I2 r (kwv_zip rz) q2
theorem FnK.plain {P : Program} {w : World} {K : PySem.W.Frag} {mg : Str → Option Value} {base : Heap} (F : FnK P w K mg base CX k f spk) : FnR P w K mg base CX k f (fun vs H Q E => spk vs [] H Q E) :=
  fun A outer s H us vs Q E hr e0 r hs => F A outer s H us vs [] [] Q E hr e0 r .nil hs
end
end KwX

/-! ==== KwE ==== -/
set_option Elab.async false
set_option linter.all false
set_option maxRecDepth 100000
set_option maxHeartbeats 2000000
/-! What def f(self, name, *v, **d) binds, keywords among what it is called with. -/
namespace KwX
open PySem PySem.Spec PyProof.Rows L2 StX ClX SuX
theorem bind_two {fd : FuncData} {av ad : Arg} (h1 : fd.params.posonlyargs = []) (h2 : fd.params.args.map (·.arg) = (["self", "name"] : List Str)) (h3 : fd.params.kwonlyargs = []) (h4 : fd.params.vararg = some av) (h5 : fd.params.kwarg = some ad) (hd : fd.defaults = .none) :
    ∀ (us rest : List Value) (kw : List (Str × Value)), us.length = 2 → KwOk ["self", "name"] (kw.map (·.1)) → bindArgs fd ⟨us ++ rest, kw⟩ =
      (newTuple rest >>= fun t => (alloc (PySem.W.dictOf [] 0) : Sem Addr) >>= fun d => (forIn kw PUnit.unit fun x _ => (nsSet d x.1 x.2 >>= fun _ => pure (ForInStep.yield PUnit.unit))) >>= fun _ => pure ((["self", "name"] : List Str).zip us ++ [(av.arg, t), (ad.arg, Value.ref d)])) := by
  intro us rest kw hl hk
  match us, hl with
  | [u, v], _ =>
    have hc : ∀ x, x ∉ (["self", "name"] : List Str) → ((["self", "name"] : List Str).contains x) = false := fun x hx => by
      cases q : (["self", "name"] : List Str).contains x with
      | false => rfl
      | true => exact absurd (List.contains_iff_mem.mp q) hx
    unfold bindArgs
    simp only [h1, h2, h3, h4, h5, hd, List.map_nil, List.nil_append]
    have h15 : ∀ n, n ≤ 2 → ¬ (n > sizeLine + 1) := fun n hn => by rw [sizeLine_eq]; omega
    match kw, hk with
    | [], hk =>
      cases rest with
      | nil => rfl
      | cons r rs => rfl
    | [q1], hk =>
      have c1 := hc q1.1 (hk.ne q1.1 (by simp))
      rw [List.forIn_cons]
      simp only [c1, List.contains_nil, Bool.or_false, Bool.false_eq_true, if_false, Option.isSome_some, if_true]
      cases rest with
      | nil => rfl
      | cons r rs => rfl
    | [q1, q2], hk =>
      have c1 := hc q1.1 (hk.ne q1.1 (by simp))
      have c2 := hc q2.1 (hk.ne q2.1 (by simp))
      rw [List.forIn_cons]
      simp only [c1, List.contains_nil, Bool.or_false, Bool.false_eq_true, if_false, Option.isSome_some, if_true]
      simp only [pure_bind]
      rw [List.forIn_cons]
      simp only [c2, List.contains_nil, Bool.or_false, Bool.false_eq_true, if_false, Option.isSome_some, if_true]
      cases rest with
      | nil => rfl
      | cons r rs => rfl
    | _ :: _ :: _ :: _, hk => exact absurd hk.two (by simp)
section
variable {CX : CXT} {P : Program} {w : World} {K : PySem.W.Frag} {mg : Str → Option Value} {base : Heap} {k : Nat} {f D : Addr} {x qual sn : Str} {st : Stmt} {fd : FuncData} {N : List Str} {sp : Sp}
/-- def f(self, name, *v, **d), its cell with it -/
theorem _root_.SuX.FunX.starkw {av ad : Arg} (F : FunX P K x qual st [] D f fd) (T : SupK P K mg) (S : ScS N ["self", "name", av.arg, ad.arg] sn st) (hCX : CXUp CX)
    (h1 : (defArgs st).posonlyargs = []) (h2 : (defArgs st).args.map (·.arg) = (["self", "name"] : List Str)) (h3 : (defArgs st).kwonlyargs = []) (h4 : (defArgs st).vararg = some av) (h5 : (defArgs st).kwarg = some ad)
    (hbody : ∀ (cda cc : Addr) (A : Around) (outer : List Env) (s : Shared) (H : Hp) (vs : List V) (Q : VK) (E : XK), Room k (A.deeper (kEnv qual (defScope st) s.heap.objs.size f (.ref cda) cc)) → SupAll CX P w K mg base N qual sn st D f cda cc A outer s H E → sp vs H Q E →
      ∃ t, PAt (cxX CX P w K mg base N qual (defScope st) f (.ref cda) cc A outer s H E) (defBody st) (defBody st) t ∧ t { nx := fun _ H' => Q .non H', rt := Q } (L2.start N vs) H) :
    FnK P w K mg base CX (k + 1) f (fun vs kvs H Q E => ∃ ws rest, vs = ws ++ rest ∧ ws.length = 2 ∧ rest.length ≤ sizeLine ∧ KwOk ["self", "name"] (kvs.map (·.1)) ∧ ∀ p d, H p = Option.none → H d = Option.none → d ≠ p →
      sp (ws ++ [V.ref p, V.ref d]) (upd (upd H p (.tup rest)) d (.dK (kvs.map fun q => ((Sum.inr q.1 : Key), q.2)))) Q E) := by
  obtain ⟨oc, od, dV, kV, doc, pm, an, cda, cc, ct, osl, cl, cld, csl, ccl, cdd, vs, ccs, file, tf, rfl, lk, hcd, hdv, hcell, hcode, hvs, hfile⟩ := F.ex
  obtain ⟨ar, hp, ha⟩ := S.hd
  rcases hdv with ⟨_, rfl⟩ | ⟨e, _⟩
  · exact fn_supkw (D := D) (ps := ["self", "name"]) (pv := av.arg) (pd := ad.arg) lk hcd hcell S.sc hCX (bind_two h1 h2 h3 h4 h5 rfl) fun A outer s H vs' Q E hr hsp => hbody cda cc A outer s H vs' Q E hr
      (fun C hC => ⟨rfl, ⟨_, _, _, _, ar, lk, hp, ha⟩, ⟨_, _, _, _, _, _, hcode, hvs, hfile⟩, ⟨_, _, _, hcell⟩, F.cls, hC, T.sup, T.top, S.nS, S.nC, S.nX, S.lX, T.tp⟩) hsp
  · exact absurd rfl e
end
end KwX

/-! ==== TupI ==== -/
set_option Elab.async false
set_option linter.all false
set_option maxRecDepth 100000
set_option maxHeartbeats 2000000
/-! tuple(d.items()). -/
namespace TuI
open PySem PySem.Spec PyProof.Rows L2 LiI
section
variable {prog : Program} {w : World} {A : Around} {E : Value → Shared → Prop} {s : Shared} {K : Type} [DecidableEq K] {knd : KeyKind prog w K} {r d : Addr} {kvs : List (K × Value)} {ep : Nat}
theorem code_tuple_items {Q₁ : Value → Shared → Prop} (hh : A.handled = none) (hv : s.heap.IsItemsView r d) (hm : s.heap.DictAt knd d kvs ep) (hn : kvs.length ≤ sizeLine)
    (h : ∀ (h' : Heap) (tk : Nat) (as : List Addr), (∀ b o, s.heap.get? b = some o → h'.get? b = some o) → as.length = kvs.length → PySem.W.KdxG knd kvs s.heap.objs.size h' as →
      Q₁ (.ref h'.objs.size) { s with heap := h'.push { cls := .type "tuple", data := .seq (as.map Value.ref).toArray }, toks := tk }) :
    codeAny (model prog w) A (.call (.builtin "tuple.__new__") ⟨[.type "tuple", .ref r], []⟩) (wants Q₁ E) s := by
  refine codeAny_of_tree ?_
  show wpAny _ A.in1 (do checkBuiltinCall "tuple.__new__" ⟨[.type "tuple", .ref r], []⟩; again (.builtin "tuple.__new__" ⟨[.type "tuple", .ref r], []⟩)) _ _ s
  refine wpAny_bind (wpAny_of_eq (F.newCall_tuple_1 _) (wpAny_pure ⟨plainId_quiet F.plain_tuple_new _, codeAny_builtin F.entry_tuple_new ?_⟩))
  rw [Around.under_plainId F.plain_tuple_new _]
  have hsub := sub_tuple_self
  have hinit := init_tuple_lookup
  have hmh := madeHere_tuple
  have hTI : s.TypeIs (.ref r) "dict_items" := let ⟨o, ho, x⟩ := hv; ⟨o, ho, x.1⟩
  have hh1 : A.in1.handled = none := hh
  wp_walk using wpAny_typeOf hTI, PySem.W.kdx_collect (A := A.in1) hh1 hv hm hn
  intro h' tk as hk hl hG
  show wpAny _ _ (Builtin.Tuple.tupleExact (as.map Value.ref).toArray >>= fun v => ret v) _ _ _
  unfold Builtin.Tuple.tupleExact
  refine wpAny_bind (wpAny_newObj_type ?_ (by show (as.map Value.ref).toArray.size ≤ sizeLine; simp only [List.size_toArray, List.length_map]; omega))
  refine wpAny_pure ?_
  exact h h' tk as hk hl hG
theorem call_tuple_items {Q : Value → Shared → Prop} (hh : A.handled = none) (hv : s.heap.IsItemsView r d) (hm : s.heap.DictAt knd d kvs ep) (hn : kvs.length ≤ sizeLine)
    (h : ∀ (h' : Heap) (tk : Nat) (as : List Addr), (∀ b o, s.heap.get? b = some o → h'.get? b = some o) → as.length = kvs.length → PySem.W.KdxG knd kvs s.heap.objs.size h' as →
      Q (.ref h'.objs.size) { s with heap := h'.push { cls := .type "tuple", data := .seq (as.map Value.ref).toArray }, toks := tk }) :
    wpAny (model prog w) A (call (.type "tuple") [.ref r]) Q E s := by
  refine callType_codes (Q₁ := fun obj s₁ => s₁.TypeIs obj "tuple" ∧ Q obj s₁) F.called_tuple (F.typeCall_tuple_1 _) F.entry_object_init
    (code_tuple_items (A := A.in1) hh hv hm hn fun h' tk as hk hl hG => ⟨⟨_, Heap.get?_push_size _ rfl, rfl⟩, h h' tk as hk hl hG⟩) fun obj s₁ h₁ => ?_
  exact ⟨h₁.1, F.args_object_init_2 obj _, object_init_meets F.called_tuple.init.lookup F.called_tuple.made (by decide) prog w A.in1 _ s₁ ⟨h₁.1, rfl, h₁.2⟩⟩
end
def rItemsT : V → Hp → VK → Prop := fun x H Q => ∃ (d : Addr) (kvs : List (Key × V)), x = .ref d ∧ H d = some (.dK kvs) ∧
  ∀ (H' : Hp) (p : Addr) (ts : List Addr), (∀ b o, H b = some o → H' b = some o) → H p = none → (∀ t ∈ ts, H t = none) → p ∉ ts → H' p = some (.tup (ts.map V.ref)) → Paired (fun (t : Addr) (q : Key × V) => H' t = some (.tup [kV q.1, q.2])) ts kvs → Q (.ref p) H'
def tTupItems (te : TE) : TE := fun σ H Q => te σ H fun x H1 => rItemsT x H1 Q
section
variable {X : Cx} {e : Expr} {te : TE} {p apos cpos pos : Pos}
theorem tuples_laid {pins : List (Addr × Obj)} {σ : L2.St} {H : Hp} {s : Shared} {h' : Heap} {tk : Nat} {kvs : List (Key × V)} {vs : List (Key × Value)} {as : List Addr} (I : Inv X pins σ H s) (kv : KV kvs vs)
    (hk : ∀ b o, s.heap.get? b = some o → h'.get? b = some o) (hl : as.length = vs.length) (hG : PySem.W.KdxG (mixKind X.prog X.w) vs s.heap.objs.size h' as) :
    (∀ b o, H b = some o → putT H as kvs b = some o) ∧ (∀ t ∈ as, H t = none) ∧ Paired (fun (t : Addr) (q : Key × V) => putT H as kvs t = some (.tup [kV q.1, q.2])) as kvs ∧ Inv X pins σ (putT H as kvs) { s with heap := h', toks := tk } := by
  have lk : kvs.length = vs.length := Paired.length kv
  have nd : as.Nodup := List.Pairwise.imp (fun {a b} (h : a < b) => Nat.ne_of_lt h) hG.rise
  have new : ∀ t ∈ as, H t = none := fun t ht => I.hok.fresh (Nat.le_of_lt (hG.above t ht))
  have atP := putT_at as kvs H (by omega) nd
  have off : ∀ b, b ∉ as → putT H as kvs b = H b := fun b h1 => putT_off as kvs _ h1
  have low : ∀ b o, s.heap.get? b = some o → b ∉ as := fun b o e z => absurd (Heap.lt_size e) (Nat.not_lt.mpr (Nat.le_of_lt (hG.above b z)))
  have kp : ∀ b u, H b = some u → (putT H as kvs) b = some u := fun b u e => by
    rw [off b (fun z => by rw [new b z] at e; cases e)]
    exact e
  refine ⟨kp, new, atP, ?_⟩
  refine I.call' (ch := []) rfl ⟨fun b o q _ _ _ => hk b o q, fun b o q _ _ _ => ⟨o.slots, hk b o q⟩, fun b o q n _ => ?_, fun b o q _ => ⟨o, hk b o q⟩, fun b xs q => kp b _ q, fun b o u q => kp b _ q, fun b ps q => ⟨#[], by rw [kp b _ q]; simp⟩⟩ (fun b u q => ?_) I.bare fun b z => by simp at z
  · rw [off b (low b o q)]
    exact n
  · by_cases hb : b ∈ as
    · obtain ⟨j, pk, e1, e2, e3⟩ := paired_ix atP hb
      rw [e3] at q
      cases q
      obtain ⟨key, k, x, f1, f2, f3⟩ := hG.pairs j b e1
      obtain ⟨qv, g1, g2, g3⟩ := LiI.paired_get kv e2
      rw [f1] at g1
      cases g1
      have rk : RelV (kV pk.1) key := by
        rw [g2]
        exact relV_key (show keyIs k key = true from f2)
      exact ⟨by show 2 ≤ sizeLine; decide, [key, x], .cons rk (.cons g3 .nil), ⟨_, f3, rfl, _, rfl⟩⟩
    · rw [off b hb] at q
      exact (I.hok b u q).stay (fun d v _ y => hk d v y) (fun d y => kp d _ y) fun d xs y => kp d _ y
/-- tuple(e.items()) -/
theorem pe_tupItems (hc : X.calm = true) (he : PE X e te) (hg : Gl X "tuple") (hm : X.mg "tuple" = none) (hv : bootBuiltins "tuple" = some (.type "tuple")) (hbase : attributeBase e "items" X.env (eval e X.env) = eval e X.env := by rfl) (hline : (apos.endLine == cpos.line) = true := by rfl)
    (hs : starEach [.Call (.Attribute e "items" apos) [] [] cpos] X.env = (false, eval (.Call (.Attribute e "items" apos) [] [] cpos) X.env) :: starEach [] X.env := by rfl) :
    PE X (.Call (.Name "tuple" p) [.Call (.Attribute e "items" apos) [] [] cpos] [] pos) (tTupItems te) := by
  refine ⟨fun pins s σ H Q I hq => ?_⟩
  refine wpAny_Call_Name_kw (ld_blt I hg hm hv ?_)
  refine PyProof.Rows.callWith_type1 ?_ hs rfl
  rw [hs]
  show wpAny _ _ (spliced ((false, eval (.Call (.Attribute e "items" apos) [] [] cpos) X.env) :: backTo pos (starEach [] X.env))) _ _ s
  refine Calls.spliced_cons ?_
  refine wpAny_Call_method (T := "dict") (id := "dict.items") hbase rfl hline F.plainAttrs_dict F.slot_dict_items F.type_dict_items (thn (he.run pins s σ H _ I hq) fun u s1 ⟨x, H1, I1, rx, d, kvs, ex, hd, q⟩ => ?_)
  subst ex
  obtain rfl : u = Value.ref d := rx
  obtain ⟨hz, hs0, vs, kv, hdo⟩ := I1.hok d _ hd
  obtain ⟨ep, hat⟩ := hdo.dictAt
  have lk : kvs.length = vs.length := Paired.length kv
  have I2 : Inv X pins σ H1 { s1 with heap := s1.heap.push { cls := .type "dict_items", data := .fields #[.ref d] } } := I1.kept (t' := s1.toks) fun b ob q => Heap.get?_push_of_some _ q
  refine ⟨hdo.typeIs, hdo.mapOf.noDict, ?_⟩
  show wpAny _ _ (callWith cpos (.builtin "dict.items") [.ref d] [] []) _ X.xe s1
  refine method_meetsIn F.slot_dict_items F.entry_dict_items rfl (PySem.evalArgs_none ⟨rfl, hdo.typeIs, F.args_dict_items_1 _, _, meets_dict_items (mixKind X.prog X.w) d hs0, ⟨vs, hdo⟩, ?_⟩)
  refine Calls.spliced_nil ?_
  refine call_tuple_items (knd := mixKind X.prog X.w) (kvs := vs) (ep := ep) (I1.ok.hd hc) ⟨_, Heap.get?_push_size _ rfl, rfl, rfl⟩ (hat.push _) (by omega) fun h' tk as hk hl hG => ?_
  obtain ⟨k1, k3, k6, J⟩ := tuples_laid (tk := tk) I2 kv hk hl hG
  have hn := J.hok.fresh (Nat.le_refl _)
  have hbelow : s1.heap.objs.size ≤ h'.objs.size := by
    have := hk s1.heap.objs.size _ (Heap.get?_push_size _ rfl)
    exact Nat.le_of_lt (Heap.lt_size this)
  have J2 := J.laid (a := h'.objs.size) (o := .tup (as.map V.ref)) (t' := tk) (fun b o q => Heap.get?_push_of_some ({ cls := .type "tuple", data := .seq (as.map Value.ref).toArray } : Obj) q) (Nat.le_refl _)
    ⟨by rw [List.length_map]; omega, as.map Value.ref, LiI.vals_refs as, ⟨_, Heap.get?_push_size _ rfl, rfl, _, rfl⟩⟩
  have hpn : h'.objs.size ∉ as := fun z => by
    obtain ⟨j, pk, e1, e2, e3⟩ := paired_ix k6 z
    rw [hn] at e3
    cases e3
  refine ⟨.ref h'.objs.size, _, J2, rfl, q _ h'.objs.size as (fun b o e => ?_) (I1.hok.fresh hbelow) k3 hpn upd_same ?_⟩
  · rw [upd_ne (ne_of_none (k1 b o e) hn)]
    exact k1 b o e
  · refine PySem.Paired.mono (fun t q e => ?_) k6
    rw [upd_ne (ne_of_none e hn)]
    exact e
end
end TuI

/-! ==== Dc2 ==== -/
set_option Elab.async false
set_option linter.all false
set_option maxRecDepth 100000
set_option maxHeartbeats 4000000
/-! {k: v for t0 in i0 for t1 in i1}, the keys tuples. -/
namespace D2X
open PySem PySem.Spec PyProof.Rows L2
/-- what a turn of an iterator leaves: a state from which one may come back to the block -/
def Drawn1 (B : Cx) (ps : List (Addr × Obj)) (fp : List Addr) (tn : Nat → Heap → Prop) (i : Nat) (Kp : L2.St → Hp → Prop) (s2 : Shared) : Prop :=
  ∃ (ps2 : List (Addr × Obj)) (σ2 : L2.St) (H2 : Hp), Inv B ps2 σ2 H2 s2 ∧ Kp σ2 H2 ∧
    ∀ (σ9 : L2.St) (H9 : Hp) (s9 : Shared), Inv B ps2 σ9 H9 s9 → Inv B ps σ9 H9 s9 ∧ tn (i + 1) s9.heap ∧ ∀ b ∈ fp, H9 b = none
theorem draw {B : Cx} {ps : List (Addr × Obj)} {tg : Expr} {J : It} {fp : List Addr} {it : Addr} {tn : Nat → Heap → Prop} {g : TG} {σb : L2.St} {s : Shared} {H : Hp} {i : Nat} {Kp : L2.St → Hp → Prop}
    (T : Turn B.prog B.w B.K tg J fp it tn) (cal : B.calm = true) (hx : ∀ e s', B.xe e s' → False) (pg : PG B tg g) (I : Inv B ps σb H s) (ok : ∀ (σ' : L2.St) (H' : Hp) (s' : Shared), Inv B ps σ' H' s' → (∀ b ∈ fp, H' b = none) → ∀ b ∈ fp, FpOk B ps H' b)
    (st : tn i s.heap) (no : ∀ b ∈ fp, H b = none) (go : J.go i H) (h : ∀ x H', J.yld i H x H' → g x σb H' Kp) :
    wpAny (model B.prog B.w) B.A (pyNext (.ref it)) (fun r s1 => ∃ u, r = some u ∧ wpAny (model B.prog B.w) B.A (letOwnedTupleGo tg (.ref it) u) (fun _ s2 =>
      wpAny (model B.prog B.w) B.A (assign tg B.env u) (fun _ s3 => Drawn1 B ps fp tn i Kp s3) (fun _ _ => False) s2) (fun _ _ => False) s1) (fun _ _ => False) s := by
  refine thnF (T.item B rfl rfl rfl cal i ps s σb H (fun _ _ => False) I (ok _ _ _ I no) st go) ?_
  rintro r s1 ⟨u, hr, h1⟩
  refine ⟨u, hr, thnF h1 ?_⟩
  rintro _ s2 ⟨x, H2, I2, rx, yl, st2, no2⟩
  have here := T.obj _ _ st2
  refine wpAny_mono (pg.run _ s2 σb H2 x u _ (I2.pinned (ok _ _ _ I2 no2) here) rx (h x H2 yl)) (fun _ s3 q => ?_) fun e s' q => hx e s' q
  obtain ⟨σ3, H3, I3, k3⟩ := q
  refine ⟨_, σ3, H3, I3, k3, fun σ9 H9 s9 I9 => ?_⟩
  have held : ∀ b ∈ fp, ∀ o, s2.heap.get? b = some o → s9.heap.get? b = some o ∧ H9 b = none := fun b hb o e => by
    have p := I9.pin (b, o) (List.mem_append_right _ (List.mem_append_right _ (mem_pinsAt hb e)))
    exact ⟨p.1, p.2.1⟩
  refine ⟨I9.unpinned, T.keep _ _ _ st2 (fun b hb o e => (held b hb o e).1), fun b hb => ?_⟩
  obtain ⟨o, e, _⟩ := here b hb
  exact (held b hb o e).2
section
variable {prog : Program} {w : World} {A : Around} {R : Result → Shared → Prop} {kx vx t0 i0 t1 i1 : Expr} {scope : Scope} {pos : Pos} {it : Value} {D : Addr} {env : Env}
/-- the expression -/
abbrev dcE (kx vx t0 i0 t1 i1 : Expr) (scope : Scope) (pos : Pos) : Expr := .DictComp kx vx [⟨t0, i0, [], 0⟩, ⟨t1, i1, [], 0⟩] scope pos
abbrev noX : Value → Shared → Prop := fun _ _ => False
/-- first clause -/
theorem loop_out (hs : ∀ x, foldedSetIterable i1 env x = pure x) (J : Nat → Shared → Prop)
    (turn : ∀ n s, J n s → wpAny (model prog w) A (pyNext it) (fun r s1 => (r = none ∧ R (.ok .next) s1) ∨ ∃ v, r = some v ∧ wpAny (model prog w) A (letOwnedTupleGo t0 it v) (fun _ s2 => wpAny (model prog w) A (assign t0 env v) (fun _ s3 =>
      wpAny (model prog w) A (eval i1 env) (fun x s4 => wpAny (model prog w) A (pyIter x) (fun itv s5 => codeAny (model prog w) A (.compStart (dcE kx vx t0 i0 t1 i1 scope pos) 1 itv (.ref D) env) (fun r s' => match r with
        | .ok _ => ∃ m, m < n ∧ J m s'
        | .error _ => False) s5) noX s4) noX s3) noX s2) noX s1) noX s) (n : Nat) (s : Shared) (h : J n s) :
    codeAny (model prog w) A (.compLoop (dcE kx vx t0 i0 t1 i1 scope pos) 0 it (.ref D) env) R s := by
  have no : ∀ {α : Type} {t : Sem α} {Q : α → Shared → Prop} {E : Value → Shared → Prop} {s : Shared}, wpAny (model prog w) A t Q noX s → wpAny (model prog w) A t Q E s := fun q => wpAny_mono q (fun _ _ z => z) fun _ _ z => z.elim
  refine codeAny_loop rfl J (fun n s hJ => ?_) n h
  show wpAny _ A ((compTurn (dcE kx vx t0 i0 t1 i1 scope pos) 0 it (.ref D) env).onRaise (fun x => do noteFrame x env; theTreesLotGoes x)) _ _ s
  refine wpAny_noted ?_
  have shape : compTurn (dcE kx vx t0 i0 t1 i1 scope pos) 0 it (.ref D) env = (do
      standAt i0.pos
      match ← pyNext it with
      | none => pure (.done .next)
      | some v =>
        letOwnedTupleGo t0 it v
        assign t0 env v
        let x ← eval i1 env
        standAt i1.pos
        let x ← foldedSetIterable i1 env x
        let _ ← runOwn (.compStart (dcE kx vx t0 i0 t1 i1 scope pos) 1 (← holding [x] (pyIter x)) (.ref D) env) env
        again (.compLoop (dcE kx vx t0 i0 t1 i1 scope pos) 0 it (.ref D) env)) := by rfl
  rw [shape]
  refine wpAny_bind (wpAny_standAt (wpAny_bind (no (thn (turn n s hJ) fun r s1 q => ?_))))
  rcases q with ⟨rfl, q⟩ | ⟨v, rfl, q⟩
  · exact wpAny_pure q
  · refine wpAny_bind (no (thn q fun _ s2 q2 => wpAny_bind (no (thn q2 fun _ s3 q3 => wpAny_bind (no (thn q3 fun x s4 q4 => ?_))))))
    refine wpAny_bind (wpAny_standAt (wpAny_bind (wpAny_of_eq (hs x) (wpAny_bind (wpAny_holding (no (thn q4 fun itv s5 q5 => ?_)))))))
    refine wpAny_bind (wpAny_runOwn ?_)
    rw [Around.mark_none]
    refine codeAny_mono q5 fun r s' hr => ?_
    match r, hr with
    | .ok _, hr => exact wpAny_pure ⟨rfl, hr⟩
/-- second clause -/
theorem loop_in (J : Nat → Shared → Prop)
    (turn : ∀ n s, J n s → wpAny (model prog w) A (pyNext it) (fun r s1 => (r = none ∧ R (.ok .next) s1) ∨ ∃ v, r = some v ∧ wpAny (model prog w) A (letOwnedTupleGo t1 it v) (fun _ s2 => wpAny (model prog w) A (assign t1 env v) (fun _ s3 =>
      wpAny (model prog w) A (eval kx env) (fun kv s4 => wpAny (model prog w) A (eval vx env) (fun vv s5 => wpAny (model prog w) A (dictSet D kv vv) (fun _ s6 => ∃ m, m < n ∧ J m s6) noX s5) noX s4) noX s3) noX s2) noX s1) noX s) (n : Nat) (s : Shared) (h : J n s) :
    codeAny (model prog w) A (.compLoop (dcE kx vx t0 i0 t1 i1 scope pos) 1 it (.ref D) env) R s := by
  have no : ∀ {α : Type} {t : Sem α} {Q : α → Shared → Prop} {E : Value → Shared → Prop} {s : Shared}, wpAny (model prog w) A t Q noX s → wpAny (model prog w) A t Q E s := fun q => wpAny_mono q (fun _ _ z => z) fun _ _ z => z.elim
  refine codeAny_loop rfl J (fun n s hJ => ?_) n h
  show wpAny _ A ((compTurn (dcE kx vx t0 i0 t1 i1 scope pos) 1 it (.ref D) env).onRaise (fun x => do noteFrame x env; theTreesLotGoes x)) _ _ s
  refine wpAny_noted ?_
  have shape : compTurn (dcE kx vx t0 i0 t1 i1 scope pos) 1 it (.ref D) env = (do
      standAt i1.pos
      match ← pyNext it with
      | none => pure (.done .next)
      | some v =>
        letOwnedTupleGo t1 it v
        assign t1 env v
        (do
          let kv ← eval kx env
          let vv ← holding [kv] (eval vx env)
          standAt { kx.pos with endLine := vx.pos.endLine, endCol := vx.pos.endCol }
          holding [kv, vv] (dictSet D kv vv))
        again (.compLoop (dcE kx vx t0 i0 t1 i1 scope pos) 1 it (.ref D) env)) := by rfl
  rw [shape]
  refine wpAny_bind (wpAny_standAt (wpAny_bind (no (thn (turn n s hJ) fun r s1 q => ?_))))
  rcases q with ⟨rfl, q⟩ | ⟨v, rfl, q⟩
  · exact wpAny_pure q
  · refine wpAny_bind (no (thn q fun _ s2 q2 => wpAny_bind (no (thn q2 fun _ s3 q3 => ?_))))
    exact wpAny_bind (wpAny_bind (no (thn q3 fun kv s4 q4 => wpAny_bind (wpAny_holding (no (thn q4 fun vv s5 q5 => wpAny_bind (wpAny_standAt (wpAny_holding (no (thn q5 fun _ s6 q6 => wpAny_pure ⟨rfl, q6⟩))))))))))
theorem start_in {s : Shared} (h0 : codeAny (model prog w) A (.compLoop (dcE kx vx t0 i0 t1 i1 scope pos) 1 it (.ref D) env) R s)
    (h : wpAny (model prog w) A (pyIter it) (fun itv s' => codeAny (model prog w) A (.compLoop (dcE kx vx t0 i0 t1 i1 scope pos) 1 itv (.ref D) env) R s') noX s) :
    codeAny (model prog w) A (.compStart (dcE kx vx t0 i0 t1 i1 scope pos) 1 it (.ref D) env) R s := by
  refine codeAny_of_tree ?_
  show wpAny _ _ ((compStart (dcE kx vx t0 i0 t1 i1 scope pos) 1 it (.ref D) env).onRaise (fun x => do noteFrame x env; standAt theWindowsPlace)) _ _ s
  refine wpAny_notedAt ?_
  unfold compStart
  show wpAny _ _ (ask >>= _) _ _ s
  refine wpAny_bind (wpAny_askSetting (wpAny_ite ?_))
  split
  · exact wpAny_bind (wpAny_pure (wpAny_pure ⟨rfl, h0⟩))
  · refine wpAny_bind (wpAny_rule ?_)
    show wpAny _ _ (standAt i1.pos >>= _) _ _ s
    exact wpAny_bind (wpAny_standAt (wpAny_bind (wpAny_mono h (fun itv s' q => wpAny_pure ⟨rfl, q⟩) fun _ _ z => z.elim)))
end
section
variable {X : Cx}
/-- keys tuples of ints and texts; D the new dict; vs the block's names, vs1 those of the second target -/
def tDc2 (wi : TI) (g : TG) (wi1 : TI) (g1 : TG) (tk tv : TE) (vs vs1 : List Nat) : TE := fun σ H Q => wi σ H fun J H1 => ∀ D, H1 D = none → ∃ W : Nat → Nat → Hp → Prop, (∃ m, W 0 m (upd H1 D (.dT []))) ∧ ∀ i m H, W i m H →
  (J.stop i H ∧ Q (.ref D) H) ∨ (J.go i H ∧ ∃ Nx : Hp → Prop, (∀ H', Nx H' → ∃ m', m' < m ∧ W (i + 1) m' H') ∧ ∀ x H', J.yld i H x H' → g x (wipe σ vs) H' fun σ2 H2 => wipe σ2 vs = wipe σ vs ∧
    wi1 σ2 H2 fun J1 H4 => ∃ W1 : Nat → Nat → Hp → Prop, (∃ m, W1 0 m H4) ∧ ∀ j k H, W1 j k H →
      (J1.stop j H ∧ Nx H) ∨ (J1.go j H ∧ ∃ Ny : Hp → Prop, (∀ H', Ny H' → ∃ k', k' < k ∧ W1 (j + 1) k' H') ∧ ∀ x H', J1.yld j H x H' → g1 x (wipe σ2 vs1) H' fun σ3 H5 => wipe σ3 vs1 = wipe σ2 vs1 ∧
        tk σ3 H5 fun y H6 => tv σ3 H6 fun z H7 => ∃ (kvs : List (List Key × V)) (k : List Key) (a : Addr), y = .ref a ∧ H7 a = some (.tup (k.map kV)) ∧ H7 D = some (.dT kvs) ∧ kvs.length < sizeLine ∧ Ny (upd H7 D (.dT (putK kvs k z)))))
/-- d[t] = v by a comprehension, t a tuple -/
theorem set_tup {pins : List (Addr × Obj)} {σ : L2.St} {H : Hp} {s : Shared} {E : Value → Shared → Prop} {D a : Addr} {kvs : List (List Key × V)} {k : List Key} {v : V} {r : Value} {Q : Unit → Shared → Prop} (hu : X.A.units < cLine) (I : Inv X pins σ H s) (hD : H D = some (.dT kvs)) (ha : H a = some (.tup (k.map kV)))
    (hz : kvs.length < sizeLine) (rv : RelV v r) (h : ∀ s', Inv X pins σ (upd H D (.dT (putK kvs k v))) s' → Q () s') : wpAny (model X.prog X.w) X.A (dictSet D (.ref a) r) Q E s := by
  obtain ⟨z, hd, xs, rel, dd⟩ := dt_of I.hok hD
  have hxs : xs.length ≤ sizeLine := by rw [← Paired.length rel]; exact z
  have hl : (putK kvs k v).length ≤ sizeLine := Nat.le_trans (length_putK kvs k v) hz
  refine wpAny_dictSet_heap (knd := tupleKind (mixKind X.prog X.w)) (hsz := hxs) hu (key_of I.hok ha) dd fun h' dd' hs => h _ ?_
  obtain ⟨q, es, ep, hq, h2, h3, h4, _, h5⟩ := dd'
  refine d_write I (by rw [hD]; exact True.intro) hs ⟨q, hq⟩ ⟨hl, hd, _, (rel.put k ha rv).keeps fun c ys ec => ?_, q, es, ep, hq, h2, h3, h4, h5⟩
  rw [upd_ne (ne_of ec hD (fun z => nomatch z))]
  exact ec
theorem pe_dc2 {kx vx t0 i0 t1 i1 : Expr} {scope : Scope} {pos : Pos} {own : List (Str × Nat)} {vs1 : List Nat} {wi wi1 : TI} {g g1 : TG} {tk tv : TE} (hu : X.A.units < cLine) (hc : X.calm = true) (hN : X.N.Nodup) (hi : PI X t0 i0 wi) (ok : BlkOk X.N X.env.scope scope own) (hv : ∀ i ∈ vs1, i ∈ own.map (·.2))
    (hg : ∀ (s : Shared) (H : Hp) (C : Addr) (cl : List (Str × Addr)) (fp : List Addr), PG (X.blk s H scope (compEnvC scope cl C X.env) fp) t0 g) (hi1 : ∀ (s : Shared) (H : Hp) (C : Addr) (cl : List (Str × Addr)) (fp : List Addr), PI (X.blk s H scope (compEnvC scope cl C X.env) fp) t1 i1 wi1)
    (hg1 : ∀ (s : Shared) (H : Hp) (C : Addr) (cl : List (Str × Addr)) (fp : List Addr), PG (X.blk s H scope (compEnvC scope cl C X.env) fp) t1 g1) (hk : ∀ (s : Shared) (H : Hp) (C : Addr) (cl : List (Str × Addr)) (fp : List Addr), PE (X.blk s H scope (compEnvC scope cl C X.env) fp) kx tk)
    (hw : ∀ (s : Shared) (H : Hp) (C : Addr) (cl : List (Str × Addr)) (fp : List Addr), PE (X.blk s H scope (compEnvC scope cl C X.env) fp) vx tv) (hs : ∀ x, foldedSetIterable i0 X.env x = pure x := by intro _; rfl) (hs1 : ∀ env x, foldedSetIterable i1 env x = pure x := by intro _ _; rfl) :
    PE X (dcE kx vx t0 i0 t1 i1 scope pos) (tDc2 wi g wi1 g1 tk tv (own.map (·.2)) vs1) := by
  refine ⟨fun pins s σ H Q I h => ?_⟩
  rw [arm_eval_DictComp]
  have captured : ∀ y ∈ scope.names, y.2 = .free → ∃ c, X.env.cells.lookup y.1 = some c := fun y hy e => (ok.free y hy e).elim (fun k => I.ok.has _ (.inl k)) fun k => I.ok.has _ (.inr k)
  refine wpAny_comprehension_free rfl hs (closure_ok captured) ok.kind (fun y hy e => by rw [ok.uniq y hy, e]) (thn (hi.run pins s σ H _ I h) fun xv s1 hx => thn hx fun itv s2 h2 => ?_)
  obtain ⟨it, fp, tn, J, H2, rfl, I2, T, st2, f2, q⟩ := h2
  refine wpAny_newObj_type (newEnv_comp ?_)
  have I3 := I2.laid (a := s2.heap.objs.size) (o := .dT []) (h' := s2.heap.push { cls := .type "dict", data := .dict #[] }) (t' := s2.toks) (fun _ _ z => Heap.get?_push_of_some _ z) (Nat.le_refl _) (dt_empty s2.heap I2.big)
  obtain ⟨W, ⟨m0, w0⟩, turn⟩ := q s2.heap.objs.size (I2.hok.fresh (Nat.le_refl _))
  have low : ∀ b ∈ fp, b < s2.heap.objs.size := fun b hb => let ⟨o, e, _⟩ := T.obj _ _ st2 b hb; Heap.lt_size e
  have f3 : ∀ b ∈ fp, FpOk X pins (upd H2 s2.heap.objs.size (.dT [])) b ∧ b < (s2.heap.push ({ cls := .type "dict", data := .dict #[] } : Obj)).objs.size := fun b hb => by
    refine ⟨⟨?_, (f2 b hb).2⟩, by rw [Heap.size_push]; exact Nat.lt_succ_of_lt (low b hb)⟩
    rw [upd_ne (Nat.ne_of_lt (low b hb))]
    exact (f2 b hb).1
  have I4 := block_start I3 ok hN f3
  have st4 : tn 0 (pushCells ((s2.heap.push ({ cls := .type "dict", data := .dict #[] } : Obj)).push ({ cls := .type "dict", data := .dict #[] } : Obj)) scope.names) := T.keep _ _ _ st2 fun b _ o e => pushCells_keeps _ _ _ _ (Heap.get?_push_of_some _ (Heap.get?_push_of_some _ e))
  generalize hC : (s2.heap.push ({ cls := .type "dict", data := .dict #[] } : Obj)).objs.size = C at I4
  have goal : codeAny (model X.prog X.w) X.A (.compStart (dcE kx vx t0 i0 t1 i1 scope pos) 0 (.ref it) (.ref s2.heap.objs.size) (compEnvC scope (cellsFrom (C + 1) scope.names (cloFrom X.env.cells scope.names [])) C X.env)) (compPost (model X.prog X.w) X.A X.xe none (EP X pins σ Q) (.ref s2.heap.objs.size) C)
      { s2 with heap := pushCells ((s2.heap.push ({ cls := .type "dict", data := .dict #[] } : Obj)).push ({ cls := .type "dict", data := .dict #[] } : Obj)) scope.names } := by
    generalize hce : compEnvC scope (cellsFrom (C + 1) scope.names (cloFrom X.env.cells scope.names [])) C X.env = ce at I4 ⊢
    have cL : ce.locals = C := by subst hce; rfl
    have pg := hg { s2 with heap := s2.heap.push { cls := .type "dict", data := .dict #[] } } (upd H2 s2.heap.objs.size (.dT [])) C (cellsFrom (C + 1) scope.names (cloFrom X.env.cells scope.names [])) fp
    have pi1 := hi1 { s2 with heap := s2.heap.push { cls := .type "dict", data := .dict #[] } } (upd H2 s2.heap.objs.size (.dT [])) C (cellsFrom (C + 1) scope.names (cloFrom X.env.cells scope.names [])) fp
    have pg1 := hg1 { s2 with heap := s2.heap.push { cls := .type "dict", data := .dict #[] } } (upd H2 s2.heap.objs.size (.dT [])) C (cellsFrom (C + 1) scope.names (cloFrom X.env.cells scope.names [])) fp
    have pk := hk { s2 with heap := s2.heap.push { cls := .type "dict", data := .dict #[] } } (upd H2 s2.heap.objs.size (.dT [])) C (cellsFrom (C + 1) scope.names (cloFrom X.env.cells scope.names [])) fp
    have pw := hw { s2 with heap := s2.heap.push { cls := .type "dict", data := .dict #[] } } (upd H2 s2.heap.objs.size (.dT [])) C (cellsFrom (C + 1) scope.names (cloFrom X.env.cells scope.names [])) fp
    rw [hce] at pg pi1 pg1 pk pw
    have okf : ∀ (σ' : L2.St) (H' : Hp) (s' : Shared), Inv (X.blk { s2 with heap := s2.heap.push { cls := .type "dict", data := .dict #[] } } (upd H2 s2.heap.objs.size (.dT [])) scope ce fp) [] σ' H' s' → (∀ b ∈ fp, H' b = none) →
        ∀ b ∈ fp, FpOk (X.blk { s2 with heap := s2.heap.push { cls := .type "dict", data := .dict #[] } } (upd H2 s2.heap.objs.size (.dT [])) scope ce fp) [] H' b :=
      fun σ' H' s' I' hn b hb => ⟨hn b hb, (I'.ok.exf b hb).1, I'.ok.exfs b hb, .inl hb, fun x c e => (I'.ok.exf b hb).2 x c e, fun p hp => absurd (show p ∈ ([] : List (Addr × Obj)) from hp) (by simp)⟩
    have outer : codeAny (model X.prog X.w) X.A (.compLoop (dcE kx vx t0 i0 t1 i1 scope pos) 0 (.ref it) (.ref s2.heap.objs.size) ce) (compPost (model X.prog X.w) X.A X.xe none (EP X pins σ Q) (.ref s2.heap.objs.size) C)
        { s2 with heap := pushCells ((s2.heap.push ({ cls := .type "dict", data := .dict #[] } : Obj)).push ({ cls := .type "dict", data := .dict #[] } : Obj)) scope.names } := by
      refine loop_out (hs1 ce) (fun n s' => ∃ i H', Inv (X.blk { s2 with heap := s2.heap.push { cls := .type "dict", data := .dict #[] } } (upd H2 s2.heap.objs.size (.dT [])) scope ce fp) [] (wipe σ (own.map (·.2))) H' s' ∧ tn i s'.heap ∧ (∀ b ∈ fp, H' b = none) ∧ W i n H') ?_ m0 _
        ⟨0, _, I4, st4, fun b hb => (f3 b hb).1.1, w0⟩
      rintro n s5 ⟨i, H5, I5, st5, n5, w5⟩
      rcases turn i n H5 w5 with ⟨stop, qq⟩ | ⟨go, Nx, hNx, step⟩
      · refine thnF (T.done (X.blk { s2 with heap := s2.heap.push { cls := .type "dict", data := .dict #[] } } (upd H2 s2.heap.objs.size (.dT [])) scope ce fp) rfl rfl rfl hc i [] s5 _ H5 noX I5 (okf _ _ _ I5 n5) st5 stop) fun r s6 ⟨hr, I6⟩ => .inl ⟨hr, ?_⟩
        have I7 : Inv X pins σ H5 s6 := I3.call' (ch := fp) I6.os I6.base I6.hok I6.bare fun b hb => ⟨(f3 b hb).1.2.2.2.1, (f3 b hb).1.2.1, (f3 b hb).1.2.2.2.2.1, (f3 b hb).1.2.2.2.2.2⟩
        have nC : H5 C = none := by
          have z : H5 ce.locals = none := I6.free
          rw [cL] at z
          exact z
        obtain ⟨m, hn, _⟩ := I6.loc
        have hn : s6.heap.Ns ce.locals m := hn
        rw [cL] at hn
        refine ⟨m, hn, fun h'' sb => ?_⟩
        obtain ⟨f0, f1, f2', f3', f4, f5⟩ := I3.fpOk (b := C) (Nat.le_of_eq hC) nC
        exact ⟨.ref _, H5, I7.turned (t' := s6.toks) (fun b o hb e => (sb.2 b hb).trans e) f0 f1 f3' f4 f5, rfl, qq⟩
      · refine thnF (draw (B := X.blk { s2 with heap := s2.heap.push { cls := .type "dict", data := .dict #[] } } (upd H2 s2.heap.objs.size (.dT [])) scope ce fp) T hc (fun _ _ z => z) pg I5 okf st5 n5 go step) fun r s6 ⟨u, hr, h6⟩ => .inr ⟨u, hr, ?_⟩
        refine thnF h6 fun _ s7 h7 => thnF h7 fun _ s8 ⟨ps2, σ8, H8, I8, ⟨hw8, q8⟩, back⟩ => ?_
        refine thnF (pi1.run ps2 s8 σ8 H8 _ I8 q8) fun xv1 s9 hx1 => thnF hx1 fun itv1 s10 h10 => ?_
        obtain ⟨it1, fp1, tn1, J1, H10, rfl, I10, T1, st10, f10, W1, ⟨m1, w1⟩, turn1⟩ := h10
        -- from the inner loop's slots back to the block's
        have home : ∀ (σ9 : L2.St) (H9 : Hp) (s9 : Shared), Inv (X.blk { s2 with heap := s2.heap.push { cls := .type "dict", data := .dict #[] } } (upd H2 s2.heap.objs.size (.dT [])) scope ce fp) ps2 σ9 H9 s9 → σ9 = wipe σ8 vs1 → Nx H9 → ∃ m, m < n ∧ ∃ i H', Inv (X.blk { s2 with heap := s2.heap.push { cls := .type "dict", data := .dict #[] } } (upd H2 s2.heap.objs.size (.dT [])) scope ce fp) [] (wipe σ (own.map (·.2))) H' s9 ∧ tn i s9.heap ∧ (∀ b ∈ fp, H' b = none) ∧ W i m H' := by
          rintro σ9 H9 s9 I9 rfl nx
          obtain ⟨m', hm, w'⟩ := hNx H9 nx
          obtain ⟨I9', t9, n9⟩ := back _ _ _ I9
          refine ⟨m', hm, i + 1, H9, I9'.weak (by rw [wipe_length, wipe_length, ← wipe_length σ8 (own.map (·.2)), hw8, wipe_length]) (fun j v e => ?_), t9, n9, w'⟩
          rw [← hw8] at e
          obtain ⟨e1, e2⟩ := wipe_some e
          rw [wipe_out fun z => e2 (hv j z)]
          exact e1
        have okf1 : ∀ (σ' : L2.St) (H' : Hp) (s' : Shared), Inv (X.blk { s2 with heap := s2.heap.push { cls := .type "dict", data := .dict #[] } } (upd H2 s2.heap.objs.size (.dT [])) scope ce fp) ps2 σ' H' s' → (∀ b ∈ fp1, H' b = none) → ∀ b ∈ fp1, FpOk (X.blk { s2 with heap := s2.heap.push { cls := .type "dict", data := .dict #[] } } (upd H2 s2.heap.objs.size (.dT [])) scope ce fp) ps2 H' b := fun _ H' _ _ hn b hb => ⟨hn b hb, (f10 b hb).2⟩
        have inner : codeAny (model X.prog X.w) X.A (.compLoop (dcE kx vx t0 i0 t1 i1 scope pos) 1 (.ref it1) (.ref s2.heap.objs.size) ce) (fun r s' => match r with
            | .ok _ => ∃ m, m < n ∧ ∃ i H', Inv (X.blk { s2 with heap := s2.heap.push { cls := .type "dict", data := .dict #[] } } (upd H2 s2.heap.objs.size (.dT [])) scope ce fp) [] (wipe σ (own.map (·.2))) H' s' ∧ tn i s'.heap ∧ (∀ b ∈ fp, H' b = none) ∧ W i m H'
            | .error _ => False) s10 := by
          refine loop_in (fun k s' => ∃ j H', Inv (X.blk { s2 with heap := s2.heap.push { cls := .type "dict", data := .dict #[] } } (upd H2 s2.heap.objs.size (.dT [])) scope ce fp) ps2 (wipe σ8 vs1) H' s' ∧ tn1 j s'.heap ∧ (∀ b ∈ fp1, H' b = none) ∧ W1 j k H') ?_ m1 _ ⟨0, H10, I10.weak (wipe_length _ _) (fun j v e => (wipe_some e).1), st10, fun b hb => (f10 b hb).1, w1⟩
          rintro k s11 ⟨j, H11, I11, st11, n11, w11⟩
          rcases turn1 j k H11 w11 with ⟨stop1, nx⟩ | ⟨go1, Ny, hNy, step1⟩
          · exact thnF (T1.done (X.blk { s2 with heap := s2.heap.push { cls := .type "dict", data := .dict #[] } } (upd H2 s2.heap.objs.size (.dT [])) scope ce fp) rfl rfl rfl hc j ps2 s11 _ H11 noX I11 (okf1 _ _ _ I11 n11) st11 stop1) fun r s12 ⟨hr, I12⟩ => .inl ⟨hr, home _ _ _ I12 rfl nx⟩
          · refine thnF (draw (B := X.blk { s2 with heap := s2.heap.push { cls := .type "dict", data := .dict #[] } } (upd H2 s2.heap.objs.size (.dT [])) scope ce fp) T1 hc (fun _ _ z => z) pg1 I11 okf1 st11 n11 go1 step1) fun r s12 ⟨u1, hr, h12⟩ => .inr ⟨u1, hr, ?_⟩
            refine thnF h12 fun _ s13 h13 => thnF h13 fun _ s14 ⟨ps3, σ14, H14, I14, ⟨hw14, q14⟩, back1⟩ => ?_
            refine thnF (pk.run ps3 s14 σ14 H14 _ I14 q14) fun kv s15 ⟨yk, H15, I15, r15, q15⟩ => ?_
            refine thnF (pw.run ps3 s15 σ14 H15 _ I15 q15) fun vv s16 ⟨yv, H16, I16, r16, kvs, key, ak, ek, hak, hD, hz, ny⟩ => ?_
            subst ek
            obtain rfl : kv = Value.ref ak := r15
            refine set_tup (X := X.blk { s2 with heap := s2.heap.push { cls := .type "dict", data := .dict #[] } } (upd H2 s2.heap.objs.size (.dT [])) scope ce fp) hu I16 hD hak hz r16 fun s17 I17 => ?_
            obtain ⟨k', hk', w'⟩ := hNy _ ny
            obtain ⟨I18, t18, n18⟩ := back1 _ _ _ I17
            refine ⟨k', hk', j + 1, _, I18.weak (by rw [← hw14, wipe_length]) (fun l v e => ?_), t18, n18, w'⟩
            rw [← hw14] at e
            exact (wipe_some e).1
        exact start_in inner (T1.self X.A 0 _ _ _ st10 inner)
    exact codeAny_compStart_dict outer (T.self X.A 0 _ _ _ st4 outer)
  exact goal
end
end D2X

/-! ==== NkD ==== -/
set_option Elab.async false
set_option linter.all false
set_option maxRecDepth 100000
set_option maxHeartbeats 2000000
/-! Dicts whose keys are (text, ()). -/
namespace NkX
open PySem PySem.Spec PyProof.Rows L2
abbrev zk (z : Str) : NestedKey := .tup [.text z, .tup []]
/-- a key's tuple, its value -/
abbrev NkL := List (Str × Addr × V)
/-- such a dict as an object of its own: what stands in its cell -/
def nkd (P : Program) (w : World) (d : Addr) (kvs : NkL) : HO := .ext fun h => (d == sysModules) = false ∧ kvs.length ≤ sizeLine ∧ ∃ xs : List (NestedKey × Addr × Value), Paired (fun (p : Str × Addr × V) (q : NestedKey × Addr × Value) => q.1 = zk p.1 ∧ q.2.1 = p.2.1 ∧ RelV p.2.2 q.2.2) kvs xs ∧
  ∃ o es ep, h.get? d = some o ∧ o.ExactDict ∧ o.data = .dict es ep ∧ es.toList = xs.map (entryOfKey (nestedKind P w)) ∧ (xs.map (·.1)).Nodup
/-- the tuples of the keys stand -/
def KeyAt (H : Hp) (z : Str) (a : Addr) : Prop := ∃ m, H a = some (.tup [.str z, .ref m]) ∧ H m = some (.tup [])
def KeysAt (H : Hp) (kvs : NkL) : Prop := ∀ p ∈ kvs, KeyAt H p.1 p.2.1
theorem KeyAt.same {H H' : Hp} {z : Str} {a : Addr} (s : ∀ b xs, H b = some (.tup xs) → H' b = some (.tup xs)) (k : KeyAt H z a) : KeyAt H' z a := let ⟨m, h1, h2⟩ := k; ⟨m, s _ _ h1, s _ _ h2⟩
theorem nkd_ok {P : Program} {w : World} {H : Hp} {h : Heap} {d : Addr} {kvs : NkL} {xs : List (NestedKey × Addr × Value)} (hd : (d == sysModules) = false) (hz : kvs.length ≤ sizeLine) (r : Paired (fun (p : Str × Addr × V) (q : NestedKey × Addr × Value) => q.1 = zk p.1 ∧ q.2.1 = p.2.1 ∧ RelV p.2.2 q.2.2) kvs xs)
    (m : h.DictOfH (nestedKind P w) d xs) : ObjOk P w H h d (nkd P w d kvs) := by
  obtain ⟨o, es, ep, h1, h2, h3, h4, h5, h6⟩ := m
  refine ⟨⟨hd, hz, xs, r, o, es, ep, h1, h2, h3, h4, h6⟩, ⟨o, h1⟩, fun g1 g2 q k => ?_⟩
  obtain ⟨a, b, ys, r', o', es', ep', e1, e2⟩ := q
  exact ⟨a, b, ys, r', o', es', ep', k _ e1, e2⟩
section
variable {X : Cx} {pins : List (Addr × Obj)} {σ : L2.St} {H : Hp} {s : Shared} {d a : Addr} {kvs : NkL} {z : Str}
theorem key_is (I : Inv X pins σ H s) (k : KeyAt H z a) : (nestedKind X.prog X.w).is s.heap (zk z) a := by
  obtain ⟨m, h1, h2⟩ := k
  obtain ⟨_, its, r, o, e1, e2, n, e3⟩ := (show ObjOk X.prog X.w H s.heap a (.tup [.str z, .ref m]) from I.hok a _ h1)
  obtain ⟨_, its2, r2, o2, g1, g2, n2, g3⟩ := (show ObjOk X.prog X.w H s.heap m (.tup []) from I.hok m _ h2)
  cases r2
  cases r with
  | @cons x y _ _ r1 r' =>
    cases r' with
    | @cons x' y' _ _ r3 r4 =>
      cases r4
      obtain ⟨t, rfl⟩ := r1
      obtain rfl : y' = Value.ref m := r3
      refine ⟨.tup e1 e2 e3 (.cons (.text z t) (.cons (.tup g1 g2 g3 .nil) .nil)), by simp [NestedKey.depth, NestedKey.depthAll]⟩
def look (z : Str) (kvs : NkL) : Option V := (kvs.find? fun p => decide (p.1 = z)).map (·.2.2)
abbrev NkR : NkL → List (NestedKey × Addr × Value) → Prop := Paired (fun (p : Str × Addr × V) (q : NestedKey × Addr × Value) => q.1 = zk p.1 ∧ q.2.1 = p.2.1 ∧ RelV p.2.2 q.2.2)
theorem zk_inj {z y : Str} (h : zk z = zk y) : z = y := by
  injection h with h1
  injection h1 with h2 _
  injection h2
theorem at_none : ∀ {kvs : NkL} {xs : List (NestedKey × Addr × Value)}, NkR kvs xs → look z kvs = none → atKey xs (zk z) = none
  | _, _, .nil, _ => rfl
  | p :: kvs, q :: xs, .cons a r, h => by
    by_cases e : p.1 = z
    · simp [look, List.find?_cons, e] at h
    · have e' : ¬ q.1 = zk z := fun u => e (zk_inj (a.1.symm.trans u))
      have h' : look z kvs = none := by
        simpa [look, List.find?_cons, e] using h
      have := at_none r h'
      simpa [atKey, List.find?_cons, e'] using this
theorem at_some {v : V} : ∀ {kvs : NkL} {xs : List (NestedKey × Addr × Value)}, NkR kvs xs → look z kvs = some v → ∃ p, atKey xs (zk z) = some p ∧ RelV v p.2
  | _, _, .nil, h => by cases h
  | p :: kvs, q :: xs, .cons a r, h => by
    by_cases e : p.1 = z
    · have ev : p.2.2 = v := by simpa [look, List.find?_cons, e] using h
      have eq : q.1 = zk z := by rw [a.1, e]
      exact ⟨q.2, by simp [atKey, List.find?_cons, eq], by rw [← ev]; exact a.2.2⟩
    · have e' : ¬ q.1 = zk z := fun u => e (zk_inj (a.1.symm.trans u))
      have h' : look z kvs = some v := by simpa [look, List.find?_cons, e] using h
      obtain ⟨p', h1, h2⟩ := at_some r h'
      exact ⟨p', by simpa [atKey, List.find?_cons, e'] using h1, h2⟩
theorem nk_rd (I : Inv X pins σ H s) (e : H d = some (nkd X.prog X.w d kvs)) (ks : KeysAt H kvs) : (d == sysModules) = false ∧ kvs.length ≤ sizeLine ∧ ∃ xs, NkR kvs xs ∧ s.heap.DictOfH (nestedKind X.prog X.w) d xs := by
  obtain ⟨⟨hd, hz, xs, r, o, es, ep, h1, h2, h3, h4, h6⟩, _, _⟩ := (show ObjOk X.prog X.w H s.heap d (nkd X.prog X.w d kvs) from I.hok d _ e)
  refine ⟨hd, hz, xs, r, o, es, ep, h1, h2, h3, h4, fun x hx => ?_, h6⟩
  obtain ⟨j, hj⟩ := List.getElem?_of_mem hx
  have all : ∀ {kvs : NkL} {xs : List (NestedKey × Addr × Value)}, NkR kvs xs → KeysAt H kvs → ∀ x ∈ xs, (nestedKind X.prog X.w).is s.heap x.1 x.2.1 := by
    intro kvs xs r
    induction r with
    | nil => intro _ x hx; cases hx
    | cons a r ih =>
      intro ks x hx
      rcases List.mem_cons.mp hx with rfl | hx
      · rw [a.1, a.2.1]
        exact key_is I (ks _ (by simp))
      · exact ih (fun p hp => ks p (List.mem_cons_of_mem _ hp)) x hx
  exact all r ks x hx
end
section
variable {X : Cx} {o i e value : Expr} {pos pos' : Pos} {td ty tv : TE}
def tNkNotIn (P : Program) (w : World) (ty td : TE) : TE := fun σ H Q => ty σ H fun y H1 => td σ H1 fun x H2 => ∃ (a d : Addr) (kvs : NkL) (z : Str), y = .ref a ∧ x = .ref d ∧ H2 d = some (nkd P w d kvs) ∧ KeysAt H2 kvs ∧ KeyAt H2 z a ∧ Q (.bl (!(look z kvs).isSome)) H2
theorem room_nk {A : Around} {P : Program} {w : World} {k : Nat} (hr : Room k A) : (nestedKind P w).room A.in1 := by
  have := hr.units
  show A.units + 1 + 8 < cLine
  omega
theorem pc_nknotin {k : Nat} (hr : Room k X.A) (hi : PE X i ty) (ho : PE X o td) : PC X .NotIn i o (tNkNotIn X.prog X.w ty td) := by
  refine ⟨fun pins s σ H Q I h => thn (hi.run pins s σ H _ I h) fun iv s1 h1 => ?_⟩
  obtain ⟨y, H1, I1, ry, h1⟩ := h1
  refine thn (ho.run pins s1 σ H1 _ I1 h1) fun u s2 h2 => ?_
  obtain ⟨x, H2, I2, rx, a, d, kvs, z, rfl, rfl, e, ks, ka, q⟩ := h2
  obtain rfl : iv = Value.ref a := ry
  obtain rfl : u = Value.ref d := rx
  obtain ⟨hd, hz, xs, r, m⟩ := nk_rd I2 e ks
  refine notIn_keyed (room_nk hr) (key_is I2 ka) hd ⟨xs, m, rfl⟩ ⟨.bl _, H2, I2.tok _, ?_, q⟩
  rw [valueAt_pairsH, Option.isSome_map]
  cases hk : look z kvs with
  | none => rw [at_none r hk]; rfl
  | some v => obtain ⟨p, h1, _⟩ := at_some r hk; rw [h1]; rfl
def tNkGet (P : Program) (w : World) (td ty : TE) : TE := fun σ H Q => td σ H fun x H1 => ty σ H1 fun y H2 => ∃ (a d : Addr) (kvs : NkL) (z : Str) (v : V), x = .ref d ∧ y = .ref a ∧ H2 d = some (nkd P w d kvs) ∧ KeysAt H2 kvs ∧ KeyAt H2 z a ∧ look z kvs = some v ∧ Q v H2
theorem pe_nkget {k : Nat} (hr : Room k X.A) (ho : PE X o td) (hi : PE X i ty) (hs : NoSl i) : PE X (.Subscript o i pos) (tNkGet X.prog X.w td ty) := by
  refine ⟨fun pins s σ H Q I h => subD_of PySem.F.slot_dict_getitem.lookup hs (thn (ho.run pins s σ H _ I h) fun u s1 h1 => ?_)⟩
  obtain ⟨x, H1, I1, rx, h1⟩ := h1
  refine thn (hi.run pins s1 σ H1 _ I1 h1) fun iv s2 h2 => ?_
  obtain ⟨y, H2, I2, ry, a, d, kvs, z, v, rfl, rfl, e, ks, ka, hv, q⟩ := h2
  obtain rfl : iv = Value.ref a := ry
  obtain rfl : u = Value.ref d := rx
  obtain ⟨hd, hz, xs, r, m⟩ := nk_rd I2 e ks
  obtain ⟨p, hp, rp⟩ := at_some r hv
  exact ⟨m.typeIs, wpAny_getItem_heap (room_nk hr) (key_is I2 ka) m hp ⟨v, H2, I2.tok _, rp, q⟩⟩
def sNkPut (P : Program) (w : World) (td ty tv : TE) : TS := fun D σ H => tv σ H fun v H1 => td σ H1 fun x H2 => ty σ H2 fun y H3 => ∃ (a d : Addr) (kvs : NkL) (z : Str), x = .ref d ∧ y = .ref a ∧ H3 d = some (nkd P w d kvs) ∧ KeysAt H3 kvs ∧ KeyAt H3 z a ∧ look z kvs = none ∧ kvs.length < sizeLine ∧
  D.nx σ (upd H3 d (nkd P w d (kvs ++ [(z, a, v)])))
theorem nkr_snoc {a : Addr} {z : Str} {v : V} {u : Value} (rv : RelV v u) : ∀ {kvs : NkL} {xs : List (NestedKey × Addr × Value)}, NkR kvs xs → NkR (kvs ++ [(z, a, v)]) (xs ++ [(zk z, a, u)])
  | _, _, .nil => .cons ⟨rfl, rfl, rv⟩ .nil
  | _, _, .cons a r => .cons a (nkr_snoc rv r)
theorem ps_nkput {k : Nat} (hr : Room k X.A) (ho : PE X o td) (hi : PE X i ty) (hv : PE X value tv) (hs : swapsWith value (some (.Subscript o i pos')) pos.line X.env = pure false := by rfl) : PS X (.Assign [.Subscript o i pos'] value pos) (sNkPut X.prog X.w td ty tv) := by
  refine ⟨fun pins s σ H D I h => wpAny_Assign_Subscript (thn (hv.run pins s σ H _ I h) fun r s1 h1 => ?_) hs⟩
  obtain ⟨v, H1, I1, rv, h1⟩ := h1
  refine thn (ho.run pins s1 σ H1 _ I1 h1) fun u s2 h2 => ?_
  obtain ⟨x, H2, I2, rx, h2⟩ := h2
  refine thn (hi.run pins s2 σ H2 _ I2 h2) fun iv s3 h3 => ?_
  obtain ⟨y, H3, I3, ry, a, d, kvs, z, rfl, rfl, e, ks, ka, hk, hlen, q⟩ := h3
  obtain rfl : iv = Value.ref a := ry
  obtain rfl : u = Value.ref d := rx
  obtain ⟨hd, hz, xs, rr, m⟩ := nk_rd I3 e ks
  refine wpAny_setItem_heap (hsz := by rw [← Paired.length rr]; exact hz) (room_nk hr) (key_is I3 ka) m fun h' m' sb => ?_
  rw [storedH_new (at_none rr hk)] at m'
  have hq : ∃ q, h'.get? d = some q := let ⟨q, _, _, hq, _⟩ := m'; ⟨q, hq⟩
  exact ⟨σ, _, d_write I3 (by rw [e]; exact True.intro) sb hq (nkd_ok hd (by rw [List.length_append]; exact hlen) (nkr_snoc rv rr) m'), q⟩
def tNkNew (P : Program) (w : World) : TE := fun _ H Q => ∀ p, H p = none → Q (.ref p) (upd H p (nkd P w p []))
theorem pe_nknew : PE X (.Dict [] [] pos) (tNkNew X.prog X.w) := by
  refine ⟨fun pins s σ H Q I h => wpAny_Dict_empty ?_⟩
  refine ⟨.ref s.heap.objs.size, _, I.laid (a := s.heap.objs.size) (o := nkd X.prog X.w s.heap.objs.size []) (t' := s.toks) (fun _ _ q => Heap.get?_push_of_some _ q) (Nat.le_refl _) (nkd_ok ?_ (Nat.zero_le _) .nil (Heap.DictOfH.new s.heap)), rfl, h _ (I.hok.fresh (Nat.le_refl _))⟩
  exact beq_eq_false_iff_ne.mpr (Ne.symm (Nat.ne_of_lt I.big))
end
end NkX

/-! ==== P5a ==== -/
set_option Elab.async false
set_option linter.all false
set_option maxRecDepth 100000
set_option maxHeartbeats 4000000
/-! k05: brief, the exceptions. -/
namespace K5
open PySem PySem.Spec PyProof.Rows L2 StX ClX SuX Sh
/-- a value whose short telling is known to end -/
inductive Shown (K : PySem.W.Frag) (H : Hp) : V → Prop where
  | str (z : Str) (h0 : z.length ≤ sizeLine) (h : (reprText z).length ≤ 1000) : Shown K H (.str z)
  | int (i : Int) : Shown K H (.int i)
  | bl (b : Bool) : Shown K H (.bl b)
  | non : Shown K H .non
  | ref (a : Addr) (t : Value) (ty : TyX K H (.ref a) t) (h1 : PySem.W.kitOne K t (.type "str") = some false) (h2 : PySem.W.kitOne K t (.type "int") = some false) : Shown K H (.ref a)
def spBrief (K : PySem.W.Frag) : Sp := fun vs H Q _ => ∃ v, vs = [v] ∧ Shown K H v ∧ ∀ y : Str, y.length ≤ 1000 → Q (.str y) H
/-- the built-ins that the text calls -/
structure Blt (mg : Str → Option Value) : Prop where
  isinstance : mg "isinstance" = none
  str : mg "str" = none
  int : mg "int" = none
  len : mg "len" = none
  repr : mg "repr" = none
  abs : mg "abs" = none
theorem int_short {i : Int} (h : (if i < 0 then -i else i) < 1000000) : (Str.ofString (toString i)).length ≤ 1000 := by
  have h2 : i.natAbs < 10 ^ 6 := by
    split at h <;> omega
  have e := int_text_length_le10 (k := 6) (by decide) h2
  rw [PySem.ofString_length]
  omega
theorem int_log {i : Int} (h : (if i < 0 then -i else i) < 1000000) : i.natAbs.log2 < 1920 := by
  have h2 : i.natAbs < 1000000 := by
    split at h <;> omega
  by_cases z : i.natAbs = 0
  · rw [z]; decide
  · have := (Nat.log2_lt (k := 20) z).mpr (Nat.lt_of_lt_of_le h2 (by decide))
    omega
theorem idn {c A B : Prop} [Decidable c] (h : ¬ c) (hb : B) : if decide c = true then A else B := by
  rw [decide_eq_false h]; exact iteF hb
theorem idp {c A B : Prop} [Decidable c] (h : c) (ha : A) : if decide c = true then A else B := by
  rw [decide_eq_true h]; exact iteT ha
section
variable {P : Program} {w : World} {K : PySem.W.Frag} {mg : Str → Option Value} {base : Heap}
theorem scBrief : FnScope ["value"] ["value"] (defScope sBrief) := ⟨rfl, rfl, rfl, by decide +kernel, rfl, by decide +kernel, by decide +kernel⟩
theorem ok_brief {f : Addr} {fd : FuncData} (F : Fun K "brief" "brief" sBrief f fd) (B : Blt mg) {tM : Tok} (gM : mg "MAX_SHOWN" = some (.int 40 tM)) : FnOk P w K mg base CX0 1 f fd ["value"] (spBrief K) := by
  refine F.ok scBrief (fun vs H Q E h => ?_) (fun cdv A outer s H vs Q E hr h => ?_)
  · obtain ⟨v, rfl, _⟩ := h
    rfl
  · obtain ⟨v, rfl, hv, k⟩ := h
    refine ⟨_, pss_cons (ps_if (PW.pt (pw_and (pt_val (pe_callB call_isi (by rfl) B.isinstance (by decide +kernel) (pa_cons (pv 0) (pa_cons (pe_bltn (v := .ty "str") (by rfl) B.str (by decide +kernel) rfl) pa_nil))))
        (pw_and1 (pt_cmpR op_le (pe_callB call_len_str (by rfl) B.len PySem.boot_len (pa_cons (pv 0) pa_nil)) (pe_glob (v := .int 40) rfl gM ⟨_, rfl⟩) (nomark _)))))
        (pss_one (ps_ret (pe_callB call_repr3 (by rfl) B.repr (by decide +kernel) (pa_cons (pv 0) pa_nil)))) pss_nil)
      (pss_cons (ps_if (PW.pt (pw_and (pt_val (pe_callB call_isi (by rfl) B.isinstance (by decide +kernel) (pa_cons (pv 0) (pa_cons (pe_bltn (v := .ty "int") (by rfl) B.int (by decide +kernel) rfl) pa_nil))))
        (pw_and1 (pt_cmpR op_lt (pe_callB call_abs2 (by rfl) B.abs (by decide +kernel) (pa_cons (pv 0) pa_nil)) pe_int (nomark _)))))
        (pss_one (ps_ret (pe_callB call_repr3 (by rfl) B.repr (by decide +kernel) (pa_cons (pv 0) pa_nil)))) pss_nil)
      (pss_cons (ps_if (pt_cmpR op_isN (pv 0) pe_non (nomark _)) (pss_one (ps_ret pe_str)) pss_nil)
      (pss_one (ps_ret pe_str)))), ?_⟩
    have big : (1000 : Nat) ≤ sizeLine := by rw [sizeLine_eq]; omega
    cases hv with
    | str z h0 h =>
      refine ⟨_, rfl, _, _, _, _, true, rfl, .ty "str", .base (.str z), kit_ty (by decide +kernel), _, rfl, iteT ?_⟩
      refine ⟨_, rfl, z, rfl, h0, _, _, rfl, rfl, _, rfl, ite2 (fun _ => ?_) (fun _ => ?_)⟩
      · exact ⟨_, rfl, .inl ⟨z, rfl, Nat.le_trans h big, k _ h⟩⟩
      · refine ⟨_, rfl, _, _, _, _, false, rfl, .ty "int", .base (.str z), kit_ty (by decide +kernel), _, rfl, iteF (iteF ?_)⟩
        exact ⟨_, rfl, rfl, _, rfl, idn (fun e => nomatch e) (k _ (by decide +kernel))⟩
    | int i =>
      refine ⟨_, rfl, _, _, _, _, false, rfl, .ty "str", .base (.int i), kit_ty (by decide +kernel), _, rfl, iteF (iteF ?_)⟩
      refine ⟨_, rfl, _, _, _, _, true, rfl, .ty "int", .base (.int i), kit_ty (by decide +kernel), _, rfl, iteT ?_⟩
      refine ⟨_, rfl, .inl ⟨i, rfl, _, _, rfl, rfl, _, rfl, ite2 (fun hl => ?_) (fun _ => ?_)⟩⟩
      · have hl := of_decide_eq_true hl
        exact ⟨_, rfl, .inr (.inl ⟨i, rfl, int_log hl, k _ (int_short hl)⟩)⟩
      · exact ⟨_, rfl, rfl, _, rfl, idn (fun e => nomatch e) (k _ (by decide +kernel))⟩
    | bl b =>
      refine ⟨_, rfl, _, _, _, _, false, rfl, .ty "str", .base (.bl b), kit_ty (by decide +kernel), _, rfl, iteF (iteF ?_)⟩
      refine ⟨_, rfl, _, _, _, _, true, rfl, .ty "int", .base (.bl b), kit_ty (by decide +kernel), _, rfl, iteT ?_⟩
      refine ⟨_, rfl, .inr ⟨b, rfl, _, _, rfl, rfl, _, rfl, ?_⟩⟩
      refine idp (by cases b <;> decide) ?_
      exact ⟨_, rfl, .inr (.inr ⟨b, rfl, k _ (by cases b <;> decide +kernel)⟩)⟩
    | non =>
      refine ⟨_, rfl, _, _, _, _, false, rfl, .ty "str", .base .non, kit_ty (by decide +kernel), _, rfl, iteF (iteF ?_)⟩
      refine ⟨_, rfl, _, _, _, _, false, rfl, .ty "int", .base .non, kit_ty (by decide +kernel), _, rfl, iteF (iteF ?_)⟩
      exact ⟨_, rfl, rfl, _, rfl, idp rfl (k _ (by decide +kernel))⟩
    | ref a t ty h1 h2 =>
      refine ⟨_, rfl, _, _, _, _, false, rfl, .ty "str", ty, h1, _, rfl, iteF (iteF ?_)⟩
      refine ⟨_, rfl, _, _, _, _, false, rfl, .ty "int", ty, h2, _, rfl, iteF (iteF ?_)⟩
      exact ⟨_, rfl, rfl, _, rfl, idn (fun e => nomatch e) (k _ (by decide +kernel))⟩
end
end K5

/-! ==== P5b ==== -/
set_option Elab.async false
set_option linter.all false
set_option maxRecDepth 100000
set_option maxHeartbeats 4000000
/-! k05: the exceptions' __init__. -/
namespace K5
open PySem PySem.Spec PyProof.Rows L2 StX ClX SuX Sh
theorem ssIW : ScS ["self", "rule", "item"] ["self", "rule", "item"] "self" sIW := ⟨⟨rfl, rfl, rfl, by decide +kernel, rfl, by decide +kernel, by decide +kernel, by decide +kernel⟩, ⟨_, rfl, rfl⟩, by decide +kernel, by decide +kernel, rfl, by decide +kernel⟩
theorem ssUN : ScS ["self", "word"] ["self", "word"] "self" sUN := ⟨⟨rfl, rfl, rfl, by decide +kernel, rfl, by decide +kernel, by decide +kernel, by decide +kernel⟩, ⟨_, rfl, rfl⟩, by decide +kernel, by decide +kernel, rfl, by decide +kernel⟩
/-- an own exception class as the top has left it -/
structure ExcK (K : PySem.W.Frag) (C : Addr) : Prop where
  oex : OexC K C
  sv : SupV K C C
  mro : PySem.W.mroIn K C (.ref C) = some true
def spIW (K : PySem.W.Frag) (C : Addr) : Sp := fun vs H Q _ => ∃ (a : Addr) (r i : V), vs = [.ref a, r, i] ∧ H a = some (exo a C none) ∧ Shown K H r ∧ Shown K H i ∧
  ∀ d, H d = none → d ≠ a → Q .non (upd (upd (upd H d (exd d [("rule", r)])) a (exo a C (some d))) d (exd d [("item", i), ("rule", r)]))
def spUN (K : PySem.W.Frag) (C : Addr) : Sp := fun vs H Q _ => ∃ (a : Addr) (r : V), vs = [.ref a, r] ∧ H a = some (exo a C none) ∧ Shown K H r ∧
  ∀ d, H d = none → d ≠ a → Q .non (upd (upd H d (exd d [("word", r)])) a (exo a C (some d)))
section
variable {P : Program} {w : World} {K : PySem.W.Frag} {mg : Str → Option Value} {base : Heap}
theorem ok_iw {f C : Addr} {fd : FuncData} {dvs : List V} (F : FunX P K "__init__" "InvalidWorld.__init__" sIW dvs C f fd) (T : SupK P K mg) (X : ExcK K C) (nR : PySem.W.findIn K (.ref C) "rule" = some none) (nI : PySem.W.findIn K (.ref C) "item" = some none)
    (G : Got P w K mg base CX0 "brief" ["value"] 1 (spBrief K)) : FnOk P w K mg base CX0 2 f fd ["self", "rule", "item"] (spIW K C) := by
  refine F.ok T ssIW (fun vs H Q E h => ?_) (fun cda cc A outer s H vs Q E hr ST h => ?_)
  · obtain ⟨a, r, i, rfl, _⟩ := h
    rfl
  · obtain ⟨a, r, i, rfl, ha, sr, si, k⟩ := h
    refine ⟨_, pat_cons (st_supE (ST C X.mro) X.sv X.oex (pa_cons (pe_joined (.cons pe_str (.cons (pe_fmt (pe_got G hr (by decide) pass0 (pa_cons (pv 1) pa_nil))) (.cons pe_str (.cons (pe_fmt (pe_got G hr (by decide) pass0 (pa_cons (pv 2) pa_nil))) .nil))))) pa_nil))
      (pss_cons (ps_ost (pv 0) (pv 1)) (pss_one (ps_ost (pv 0) (pv 2)))), ?_⟩
    refine ⟨a, rfl, ha, ?_⟩
    have big : (1000000 : Nat) ≤ sizeLine := by rw [sizeLine_eq]; omega
    refine ⟨_, rfl, by show _ ≤ sizeLine; decide +kernel, r, rfl, r, rfl, sr, fun y hy => .inl ⟨y, rfl, by omega, _, rfl, ?_, ?_⟩⟩
    · rw [Str.length_append]
      have : (Str.empty ++ ("not a world: " : Str)).length = 13 := by decide +kernel
      omega
    refine ⟨_, rfl, ?_, i, rfl, i, rfl, si, fun z hz => .inl ⟨z, rfl, by omega, _, rfl, ?_, ?_⟩⟩
    · rw [Str.length_append, Str.length_append]
      have : (Str.empty ++ ("not a world: " : Str)).length = 13 := by decide +kernel
      have : (", " : Str).length = 2 := by decide +kernel
      omega
    · rw [Str.length_append, Str.length_append, Str.length_append]
      have : (Str.empty ++ ("not a world: " : Str)).length = 13 := by decide +kernel
      have : (", " : Str).length = 2 := by decide +kernel
      omega
    refine ⟨by show 1 ≤ 1000; decide, ha, ?_⟩
    refine ⟨r, rfl, .ref a, rfl, a, C, rfl, X.oex, nR, .inl ⟨ha, fun d hd hne => ?_⟩⟩
    refine ⟨i, rfl, .ref a, rfl, a, C, rfl, X.oex, nI, .inr ⟨d, _, upd_same, by rw [upd_ne hne, upd_same], by show 1 ≤ 900; decide, ?_⟩⟩
    exact k d hd hne
theorem ok_un {f C : Addr} {fd : FuncData} {dvs : List V} (F : FunX P K "__init__" "UnknownName.__init__" sUN dvs C f fd) (T : SupK P K mg) (X : ExcK K C) (nR : PySem.W.findIn K (.ref C) "word" = some none)
    (G : Got P w K mg base CX0 "brief" ["value"] 1 (spBrief K)) : FnOk P w K mg base CX0 2 f fd ["self", "word"] (spUN K C) := by
  refine F.ok T ssUN (fun vs H Q E h => ?_) (fun cda cc A outer s H vs Q E hr ST h => ?_)
  · obtain ⟨a, r, rfl, _⟩ := h
    rfl
  · obtain ⟨a, r, rfl, ha, sr, k⟩ := h
    refine ⟨_, pat_cons (st_supE (ST C X.mro) X.sv X.oex (pa_cons (pe_joined (.cons pe_str (.cons (pe_fmt (pe_got G hr (by decide) pass0 (pa_cons (pv 1) pa_nil))) .nil))) pa_nil)) (pss_one (ps_ost (pv 0) (pv 1))), ?_⟩
    refine ⟨a, rfl, ha, ?_⟩
    have big : (1000000 : Nat) ≤ sizeLine := by rw [sizeLine_eq]; omega
    refine ⟨_, rfl, by show _ ≤ sizeLine; decide +kernel, r, rfl, r, rfl, sr, fun y hy => .inl ⟨y, rfl, by omega, _, rfl, ?_, ?_⟩⟩
    · rw [Str.length_append]
      have : (Str.empty ++ ("unknown name: " : Str)).length = 14 := by decide +kernel
      omega
    refine ⟨by show 1 ≤ 1000; decide, ha, ?_⟩
    refine ⟨r, rfl, .ref a, rfl, a, C, rfl, X.oex, nR, .inl ⟨ha, fun d hd hne => ?_⟩⟩
    exact k d hd hne
end
end K5

/-! ==== P5c ==== -/
set_option Elab.async false
set_option linter.all false
set_option maxRecDepth 100000
set_option maxHeartbeats 4000000
/-! k05: names. -/
namespace K5
open PySem PySem.Spec PyProof.Rows L2 StX ClX SuX Sh
def headB (z : Str) : Bool := match z.cps[0]? with
  | some c => decide (c ∈ LET.cps.toList)
  | none => false
/-- whether a text is a name -/
def nameB (z : Str) : Bool := decide (1 ≤ (z.length : Int)) && decide ((z.length : Int) ≤ 20) && !decide (V.str z = V.str "Never") && headB z && z.cps.toList.all fun c => decide (c ∈ SGN.cps.toList)
/-- the module's constants that is_name reads -/
structure NmK (mg : Str → Option Value) : Prop where
  most : ∃ t, mg "MAX_NAME" = some (.int 20 t)
  letters : ∃ t, mg "LETTERS" = some (.str LET t)
  signs : ∃ t, mg "SIGNS" = some (.str SGN t)
  never : ∃ t, mg "NEVER" = some (.str "Never" t)
  object : ∃ t, mg "OBJECT" = some (.str "Object" t)
  all : mg "all" = none
/-- a value that is no text -/
def NoText (K : PySem.W.Frag) (H : Hp) (v : V) : Prop := ∃ t, TyX K H v t ∧ PySem.W.kitOne K t (.type "str") = some false
def spIsName (K : PySem.W.Frag) : Sp := fun vs H Q _ => (∃ z : Str, vs = [.str z] ∧ z.length ≤ sizeLine ∧ ∀ H', Same H H' → Q (.bl (nameB z)) H') ∨ (∃ v, vs = [v] ∧ NoText K H v ∧ Q (.bl false) H)
section
variable {P : Program} {w : World} {K : PySem.W.Frag} {mg : Str → Option Value} {base : Heap}
theorem scIsName : FnScope ["value", "sign"] ["value"] (defScope sIsName) := ⟨rfl, rfl, rfl, by decide +kernel, rfl, by decide +kernel, by decide +kernel⟩
theorem ok_isname {f : Addr} {fd : FuncData} (F : Fun K "is_name" "is_name" sIsName f fd) (B : Blt mg) (M : NmK mg) : FnOk P w K mg base CX0 1 f fd ["value"] (spIsName K) := by
  refine F.ok scIsName (fun vs H Q E h => ?_) (fun cdv A outer s H vs Q E hr h => ?_)
  · rcases h with ⟨v, rfl, _⟩ | ⟨v, rfl, _⟩ <;> rfl
  · obtain ⟨t1, g1⟩ := M.most
    obtain ⟨t2, g2⟩ := M.letters
    obtain ⟨t3, g3⟩ := M.signs
    obtain ⟨t4, g4⟩ := M.never
    refine ⟨_, pss_cons (ps_if (PW.pt (pw_or (pt_not (pt_val (pe_callB call_isi (by rfl) B.isinstance (by decide +kernel) (pa_cons (pv 0) (pa_cons (pe_bltn (v := .ty "str") (by rfl) B.str (by decide +kernel) rfl) pa_nil)))))
        (pw_or (pt_not (pt_chain op_le op_le pe_int (pe_callB call_len_str (by rfl) B.len PySem.boot_len (pa_cons (pv 0) pa_nil)) (pe_glob (v := .int 20) rfl g1 ⟨_, rfl⟩)))
        (pw_or1 (pt_cmpR op_eq (pv 0) (pe_glob (v := .str "Never") rfl g4 ⟨_, rfl⟩) (nomark _))))))
        (pss_one (ps_ret pe_bl)) pss_nil)
      (pss_one (ps_ret (pe_and (pe_cmpR op_in_sign (pe_item_str (pv 0) pe_int (fun _ _ => rfl)) (pe_glob (v := .str LET) rfl g2 ⟨_, rfl⟩) (by rfl))
        (pe_one (pe_callB (cr_all rfl) (by rfl) M.all (by decide +kernel) (pa_cons (pe_lc (own := [("sign", 1)]) (g := gName 1) (tt := tYes) rfl scIsName.nd (pi_str (pv 0)) (blkOk_by (N := ["value", "sign"]) (sc := defScope sIsName) (by decide +kernel))
          (fun _ _ _ _ _ => pg_name (i := 1) scIsName.nd rfl (Or.inl rfl)) (fun _ _ _ _ _ => pts_nil) (fun _ _ _ _ _ => pe_cmpR op_in_sign (pv 1) (pe_glob (v := .str SGN) rfl g3 ⟨_, rfl⟩) (by rfl))) pa_nil)))))), ?_⟩
    rcases h with ⟨z, rfl, hz, k⟩ | ⟨v, rfl, ⟨t, ty, kt⟩, k⟩
    · have kf : nameB z = false → Q (.bl false) H := fun e => by
        have := k H (Same.refl H)
        rw [e] at this
        exact this
      refine ⟨_, rfl, _, _, _, _, true, rfl, .ty "str", .base (.str z), kit_ty (by decide +kernel), _, rfl, iteF ?_⟩
      refine ⟨_, rfl, z, rfl, hz, _, _, rfl, rfl, _, rfl, ?_⟩
      by_cases h1' : 1 ≤ (z.length : Int)
      · rw [decide_eq_true h1']
        refine iteT ⟨_, _, rfl, rfl, _, rfl, ?_⟩
        by_cases h2 : (z.length : Int) ≤ 20
        · rw [decide_eq_true h2]
          refine iteF ⟨_, rfl, ?_⟩
          refine ⟨rfl, _, rfl, ?_⟩
          by_cases h3 : V.str z = V.str "Never"
          · rw [decide_eq_true h3]
            exact iteT (kf (by unfold nameB; rw [decide_eq_true h3]; simp))
          rw [decide_eq_false h3]
          refine iteF ?_
          have hsz : (0 : Nat) < z.cps.size := by
            have := h1'
            simp only [Str.length] at this
            omega
          have hc : z.cps[(0 : Int).toNat]? = some (z.cps[0]'hsz) := by simp [hsz]
          refine ⟨_, rfl, z, 0, _, rfl, rfl, by decide, by decide, by omega, hc, _, _, rfl, rfl, ?_⟩
          have hh : headB z = decide ((z.cps[0]'hsz) ∈ LET.cps.toList) := by
            unfold headB
            rw [show z.cps[0]? = some (z.cps[0]'hsz) by simp [hsz]]
          refine ⟨_, rfl, ?_⟩
          by_cases h4 : z.cps[0] ∈ LET.cps.toList
          · rw [decide_eq_true h4] at hh ⊢
            refine iteT ⟨_, rfl, z, rfl, fun D hD => ?_⟩
            refine lc_it walk_str (fun i H' => Same H H' ∧ H' D = some (.lst ((z.cps.toList.take i).map fun c => V.bl (decide (c ∈ SGN.cps.toList))))) ?_ (fun _ _ _ _ => trivial) ?_ ?_
            · exact ⟨(Same.refl H).old hD, by rw [upd_same]; rfl⟩
            · rintro i x H1 H2 hi ⟨s1, h1⟩ ⟨rfl, c, ec, rfl⟩
              have hi' : i < z.cps.toList.length := by rw [Array.length_toList]; exact hi
              have ec' : z.cps.toList[i]? = some c := by rw [Array.getElem?_toList]; exact ec
              refine ⟨rfl, _, rfl, c, SGN, rfl, rfl, _, h1, ?_, s1.old hD, ?_⟩
              · rw [List.length_map, List.length_take]
                have : z.cps.toList.length = z.length := rfl
                omega
              · rw [upd_same, List.take_succ, ec', List.map_append]
                rfl
            · rintro H1 ⟨s1, h1⟩
              refine ⟨D, z.cps.toList.map fun c => decide (c ∈ SGN.cps.toList), rfl, .inl (.inl ?_), ?_⟩
              · rw [h1, List.take_of_length_le (by simp), List.map_map]
                rfl
              · have e : (z.cps.toList.map fun c => decide (c ∈ SGN.cps.toList)).all id = nameB z := by
                  unfold nameB
                  rw [hh, decide_eq_true h1', decide_eq_true h2, decide_eq_false h3, List.all_map]
                  rfl
                rw [e]
                exact k H1 s1
          · rw [decide_eq_false h4] at hh ⊢
            exact iteF (kf (by unfold nameB; rw [hh]; simp))
        · rw [decide_eq_false h2]
          exact iteT (iteT (kf (by unfold nameB; rw [decide_eq_false h2]; simp)))
      · rw [decide_eq_false h1']
        exact iteF ⟨_, rfl, iteT (kf (by unfold nameB; rw [decide_eq_false h1']; simp))⟩
    · refine ⟨_, rfl, _, _, _, _, false, rfl, .ty "str", ty, kt, _, rfl, ?_⟩
      exact iteT (iteT k)
end
end K5

/-! ==== P5d ==== -/
set_option Elab.async false
set_option linter.all false
set_option maxRecDepth 100000
set_option maxHeartbeats 4000000
/-! k05: Declaration, Kind, Role made. -/
namespace K5
open PySem PySem.Spec PyProof.Rows L2 StX ClX SuX Sh KwX
/-- whether a text may name a declaration -/
def freeB (z : Str) : Bool := nameB z && !decide (V.str z = V.str "Object")
def spFree : Sp := fun vs H Q _ => ∃ z : Str, vs = [.str z] ∧ z.length ≤ sizeLine ∧ ∀ H', Same H H' → Q (.bl (freeB z)) H'
def markB (z : Str) : Bool := inV (.str z) [.str "none", .str "out", .str "in", .str "both"]
def spMark : Sp := fun vs H Q _ => ∃ z : Str, vs = [.str z] ∧ Q (.bl (markB z)) H
section
variable {P : Program} {w : World} {K : PySem.W.Frag} {mg : Str → Option Value} {base : Heap}
theorem scIsFree : FnScope ["value"] ["value"] (defScope sIsFree) := ⟨rfl, rfl, rfl, by decide +kernel, rfl, by decide +kernel, by decide +kernel⟩
theorem ok_isfree {f : Addr} {fd : FuncData} (F : Fun K "is_free_name" "is_free_name" sIsFree f fd) (M : NmK mg) (G : Got P w K mg base CX0 "is_name" ["value"] 1 (spIsName K)) : FnOk P w K mg base CX0 2 f fd ["value"] spFree := by
  refine F.ok scIsFree (fun vs H Q E h => ?_) (fun cdv A outer s H vs Q E hr h => ?_)
  · obtain ⟨z, rfl, _⟩ := h
    rfl
  · obtain ⟨t5, g5⟩ := M.object
    obtain ⟨z, rfl, hz, k⟩ := h
    refine ⟨_, pss_one (ps_ret (pe_and (pe_got G hr (by decide) pass0 (pa_cons (pv 0) pa_nil)) (pe_one (pe_cmpR op_ne (pv 0) (pe_glob (v := .str "Object") rfl g5 ⟨_, rfl⟩) (nomark _))))), ?_⟩
    refine ⟨_, rfl, .inl ⟨z, rfl, hz, fun H' s1 => ⟨_, rfl, ?_⟩⟩⟩
    have kk := k H' s1
    unfold freeB at kk
    cases hn : nameB z with
    | false =>
      rw [hn] at kk
      exact iteF kk
    | true =>
      rw [hn] at kk
      exact iteT ⟨_, rfl, rfl, kk⟩
theorem scMark : FnScope ["value"] ["value"] (defScope sMark) := ⟨rfl, rfl, rfl, by decide +kernel, rfl, by decide +kernel, by decide +kernel⟩
/-- the marks, as the top has left them -/
structure MarkK (K : PySem.W.Frag) (mg : Str → Option Value) (mk : Addr) : Prop where
  at_ : mg "MARKS" = some (.ref mk)
  tup : ∀ H, SqT K H mk [.str "none", .str "out", .str "in", .str "both"]
  obj : ∃ o, K.lookup mk = some o ∧ o.cls = .type "tuple" ∧ o.dict = none
theorem ok_ismark {f mk : Addr} {fd : FuncData} (F : Fun K "is_mark" "is_mark" sMark f fd) (B : Blt mg) (M : MarkK K mg mk) : FnOk P w K mg base CX0 1 f fd ["value"] spMark := by
  refine F.ok scMark (fun vs H Q E h => ?_) (fun cdv A outer s H vs Q E hr h => ?_)
  · obtain ⟨z, rfl, _⟩ := h
    rfl
  · obtain ⟨z, rfl, k⟩ := h
    refine ⟨_, pss_one (ps_ret (pe_and (pe_callB call_isi (by rfl) B.isinstance (by decide +kernel) (pa_cons (pv 0) (pa_cons (pe_bltn (v := .ty "str") (by rfl) B.str (by decide +kernel) rfl) pa_nil)))
      (pe_one (pe_cmpR op_in_seq (pv 0) (pe_glob (v := .ref mk) rfl M.at_ rfl) (by rfl))))), ?_⟩
    refine ⟨_, rfl, _, _, _, _, true, rfl, .ty "str", .base (.str z), kit_ty (by decide +kernel), _, rfl, iteT ?_⟩
    exact ⟨_, rfl, _, _, rfl, .inr (M.tup H), rfl, by decide, k⟩
end
end K5

/-! ==== P5e ==== -/
set_option Elab.async false
set_option linter.all false
set_option maxRecDepth 100000
set_option maxHeartbeats 4000000
/-! k05: Declaration, Kind, Role made. -/
namespace K5
open PySem PySem.Spec PyProof.Rows L2 StX ClX SuX Sh KwX TuI
/-- what stood stands, but at a -/
def But (a : Addr) (H H' : Hp) : Prop := ∀ b o, b ≠ a → H b = some o → H' b = some o
theorem But.refl (a : Addr) (H : Hp) : But a H H := fun _ _ _ e => e
theorem But.new {a p : Addr} {H H' : Hp} {o : HO} (k : But a H H') (hp : H' p = none) : But a H (upd H' p o) := fun b u hb e => by
  have := k b u hb e
  rw [upd_ne (ne_of_none this hp)]
  exact this
theorem But.at_ {a : Addr} {H H' : Hp} {o : HO} (k : But a H H') : But a H (upd H' a o) := fun b u hb e => by
  rw [upd_ne hb]
  exact k b u hb e
theorem But.same {a : Addr} {H H1 H2 : Hp} (k : But a H H1) (s : Same H1 H2) : But a H H2 := fun b u hb e => s b u (k b u hb e)
/-- what the top has left of Declaration -/
structure DeclK (K : PySem.W.Frag) (mg : Str → Option Value) (D : Addr) : Prop where
  at_ : mg "Declaration" = some (.ref D)
  rd : ∃ mc, CRead K D mc ∧ ∃ t, CVal K D mc "MAX_METHODS" (.int 5) (.int 5 t)
/-- an own class whose instances have these attributes -/
structure InsK (K : PySem.W.Frag) (C : Addr) (fs : List Str) : Prop where
  cls : Cls K C
  no : ∀ f ∈ fs, NoAttr K C f
def spDecl (K : PySem.W.Frag) : Sp := fun vs H Q _ => ∃ (a : Addr) (z : Str) (m C dx : Addr), vs = [.ref a, .str z, .ref m] ∧ H a = some (.ins C dx []) ∧ InsK K C ["_name", "_methods"] ∧ z.length ≤ sizeLine ∧ freeB z = true ∧ H m = some (.tup []) ∧
  ∀ H', But a H H' → H' a = some (.ins C dx [("_name", .str z), ("_methods", .ref m)]) → Q .non H'
/-- walks' builtins -/
structure Blw (mg : Str → Option Value) : Prop where
  enumerate : mg "enumerate" = none
  tuple : mg "tuple" = none
  sorted : mg "sorted" = none
  max : mg "max" = none
  range : mg "range" = none
  list : mg "list" = none
section
variable {P : Program} {w : World} {K : PySem.W.Frag} {mg : Str → Option Value} {base : Heap}
abbrev nDecl : List Str := ["self", "name", "methods", "known", "spot", "method"]
theorem scDecl : FnScope nDecl ["self", "name", "methods"] (defScope sDecl) := ⟨rfl, rfl, rfl, by decide +kernel, rfl, by decide +kernel, by decide +kernel⟩
theorem ok_decl {f D : Addr} {fd : FuncData} (F : Fun K "__init__" "Declaration.__init__" sDecl f fd) (B : Blt mg) (W : Blw mg) (DK : DeclK K mg D) (G : Got P w K mg base CX0 "is_free_name" ["value"] 2 spFree) :
    FnOk P w K mg base CX0 3 f fd ["self", "name", "methods"] (spDecl K) := by
  refine F.ok scDecl (fun vs H Q E h => ?_) (fun cdv A outer s H vs Q E hr h => ?_)
  · obtain ⟨a, z, m, C, dx, rfl, _⟩ := h
    rfl
  · obtain ⟨a, z, m, C, dx, rfl, ha, IK, hz, fz, hm, k⟩ := h
    obtain ⟨mc, cr, t5, cv⟩ := DK.rd
    refine ⟨_, pss_cons (ps_if (pt_not (pt_val (pe_got G hr (by decide) pass0 (pa_cons (pv 1) pa_nil)))) pss_never pss_nil)
      (pss_cons (ps_set (i := 3) scDecl.nd rfl (Or.inl rfl) pe_dnewK)
      (pss_cons (ps_for PassesOwn.never rfl (pi_enumT rfl W.enumerate (pa_cons (pv 2) pa_nil)) (pg_tup rfl (pgs_cons (pg_name (i := 4) scDecl.nd rfl (Or.inl rfl)) (pgs_cons (pg_name (i := 5) scDecl.nd rfl (Or.inl rfl)) pgs_nil))) pss_never)
      (pss_cons (ps_if (pt_cmpR op_gt (pe_callB call_len_seq (by rfl) B.len PySem.boot_len (pa_cons (pv 2) pa_nil)) (pe_cval (pe_glob (v := .ref D) rfl DK.at_ rfl)) (nomark _)) pss_never pss_nil)
      (pss_cons (ps_fld (pv 0) (pv 1) rfl) (pss_one (ps_fld (pv 0) (pv 2) rfl)))))), ?_⟩
    refine ⟨_, rfl, z, rfl, hz, fun H1 s1 => ⟨_, rfl, ?_⟩⟩
    rw [fz]
    refine iteF ?_
    intro d hd
    have nd : ∀ {b o}, H b = some o → upd H1 d (.dK []) b = some o := fun {b o} e => by rw [upd_ne (ne_of_none (s1 b o e) hd)]; exact s1 b o e
    refine ⟨_, rfl, m, [], rfl, .inl (.inl (nd hm)), ?_⟩
    refine for_it (walk_enumT (xs := [])) (fun _ σ' H' => σ' = (L2.start nDecl [V.ref a, V.str z, V.ref m]).set 3 (some (V.ref d)) ∧ H' = upd H1 d (.dK [])) ⟨rfl, rfl⟩ (fun _ _ _ _ q => by rw [q.2]; exact .inl (.inl (nd hm)))
      (fun i _ _ _ _ hi => absurd hi (Nat.not_lt_zero _)) ?_
    rintro σ' H' ⟨rfl, rfl⟩
    refine ⟨_, rfl, m, [], rfl, .inr (.inl (.inl (nd hm))), D, mc, _, _, rfl, cr, cv, _, _, rfl, rfl, _, rfl, iteF ?_⟩
    have ns : But a H (upd H1 d (.dK [])) := fun b o hb e => nd e
    refine ⟨_, rfl, _, rfl, a, C, dx, [], rfl, nd ha, IK.cls, IK.no _ (by simp), by decide, ?_⟩
    refine ⟨_, rfl, _, rfl, a, C, dx, _, rfl, upd_same, IK.cls, IK.no _ (by simp), by show 1 < 1000; decide, ?_⟩
    exact k _ ns.at_.at_ upd_same
end
end K5

/-! ==== P5f ==== -/
set_option Elab.async false
set_option linter.all false
set_option maxRecDepth 100000
set_option maxHeartbeats 4000000
/-! k05: Kind and Role made. -/
namespace K5
open PySem PySem.Spec PyProof.Rows L2 StX ClX SuX Sh KwX TuI
theorem raw0 {P : Program} {w : World} {K : PySem.W.Frag} {mg : Str → Option Value} {base : Heap} {CX : CXT} {k : Nat} {f : Addr} {fd : FuncData} {ps : List Str} {sp : Sp} (F : FnOk P w K mg base CX k f fd ps sp) (hb : Binds K fd ps []) : FnR P w K mg base CX k f sp :=
  (F.raw hb .nil).imp fun vs H Q E h => by rw [List.append_nil]; exact h
def spAt (K : PySem.W.Frag) (C : Addr) : Sp := fun vs H Q _ => ∃ (a : Addr) (z : Str) (m dx : Addr), vs = [.ref a, .str z, .ref m] ∧ H a = some (.ins C dx []) ∧ z.length ≤ sizeLine ∧ freeB z = true ∧ H m = some (.tup []) ∧
  ∀ H', But a H H' → H' a = some (.ins C dx [("_name", .str z), ("_methods", .ref m)]) → Q .non H'
theorem ssKind : ScS ["self", "name", "methods"] ["self", "name", "methods"] "self" sKind := ⟨⟨rfl, rfl, rfl, by decide +kernel, rfl, by decide +kernel, by decide +kernel, by decide +kernel⟩, ⟨_, rfl, rfl⟩, by decide +kernel, by decide +kernel, rfl, by decide +kernel⟩
abbrev nRole : List Str := ["self", "name", "methods", "marks", "parameter", "mark"]
theorem ssRole : ScS nRole ["self", "name", "methods", "marks"] "self" sRole := ⟨⟨rfl, rfl, rfl, by decide +kernel, rfl, by decide +kernel, by decide +kernel, by decide +kernel⟩, ⟨_, rfl, rfl⟩, by decide +kernel, by decide +kernel, rfl, by decide +kernel⟩
/-- facts of Kind or Role: super().__init__ from it is Declaration's -/
structure SubK (K : PySem.W.Frag) (C f2 : Addr) : Prop where
  sup : SupM K C C f2 "__init__"
  mro : PySem.W.mroIn K C (.ref C) = some true
/-- an object of Kind -/
def KindAt (C : Addr) (H : Hp) (x : Addr) (z : Str) : Prop := ∃ dx m, H x = some (.ins C dx [("_name", .str z), ("_methods", .ref m)]) ∧ H m = some (.tup [])
section
variable {P : Program} {w : World} {K : PySem.W.Frag} {mg : Str → Option Value} {base : Heap}
theorem ok_kind {f f2 C : Addr} {fd fd2 : FuncData} (F : FunX P K "__init__" "Kind.__init__" sKind [] C f fd) (T : SupK P K mg) (S : SubK K C f2) (IK : InsK K C ["_name", "_methods"]) (b2 : Binds K fd2 ["self", "name", "methods"] [])
    (F2 : FnOk P w K mg base CX0 3 f2 fd2 ["self", "name", "methods"] (spDecl K)) : FnR P w K mg base CX0 4 f (fun vs H Q E => ∃ ws rest, vs = ws ++ rest ∧ ws.length = 2 ∧ rest.length ≤ sizeLine ∧ ∀ p, H p = none → spAt K C (ws ++ [V.ref p]) (upd H p (.tup rest)) Q E) := by
  refine F.star (ps := ["self", "name"]) (pv := "methods") T ssKind cxUp_none (fun kV doc pm an cdv ct cc us rest hl => ?_) (fun cda cc A outer s H vs Q E hr ST h => ?_)
  · match us, hl with
    | [a, b], _ =>
      cases rest with
      | nil => rfl
      | cons r rs => rfl
  · obtain ⟨a, z, m, dx, rfl, ha, hz, fz, hm, k⟩ := h
    refine ⟨_, pat_cons (st_sup (ST C S.mro) S.sup (raw0 F2 b2) hr pass0 (pa_cons (pv 1) (pa_cons (pv 2) pa_nil))) pss_nil, ?_⟩
    exact ⟨a, dx, [], rfl, ha, _, rfl, _, rfl, a, z, m, C, dx, rfl, ha, IK, hz, fz, hm, fun H' b e => k H' b e⟩
def spKI (C : Addr) : Sp := fun vs H Q _ => ∃ (a : Addr) (z : Str) (dx : Addr), vs = [.ref a, .str z] ∧ H a = some (.ins C dx []) ∧ z.length ≤ sizeLine ∧ freeB z = true ∧ ∀ H', But a H H' → KindAt C H' a z → Q .non H'
theorem kind_init {f C : Addr} (F : FnR P w K mg base CX0 4 f (fun vs H Q E => ∃ ws rest, vs = ws ++ rest ∧ ws.length = 2 ∧ rest.length ≤ sizeLine ∧ ∀ p, H p = none → spAt K C (ws ++ [V.ref p]) (upd H p (.tup rest)) Q E)) : FnR P w K mg base CX0 4 f (spKI C) := by
  refine F.imp fun vs H Q E h => ?_
  obtain ⟨a, z, dx, rfl, ha, hz, fz, k⟩ := h
  refine ⟨[.ref a, .str z], [], rfl, rfl, Nat.zero_le _, fun p hp => ?_⟩
  have ap : a ≠ p := ne_of_none ha hp
  refine ⟨a, z, p, dx, rfl, by rw [upd_ne ap]; exact ha, hz, fz, upd_same, fun H' b e => k H' (fun q o hq e => b q o hq ?_) ⟨dx, p, e, b p _ (Ne.symm ap) upd_same⟩⟩
  rw [upd_ne (ne_of_none e hp)]
  exact e
theorem made_same {H1 H' : Hp} {x dx C : Addr} (hx : H1 x = none) (hd : H1 dx = none) (k : But x (upd (upd H1 dx (.own x)) x (.ins C dx [])) H') : Same H1 H' := fun b o e => by
  have nb : b ≠ x := ne_of_none e hx
  refine k b o nb ?_
  rw [upd_ne nb, upd_ne (ne_of_none e hd)]
  exact e
theorem scKOf : FnScope ["cls", "name", "methods"] ["cls", "name", "methods"] (defScope sKOf) := ⟨rfl, rfl, rfl, by decide +kernel, rfl, by decide +kernel, by decide +kernel⟩
def spKOf (C : Addr) : Sp := fun vs H Q _ => ∃ (z : Str) (m : Addr), vs = [.ref C, .str z, .ref m] ∧ H m = some (.tup []) ∧ z.length ≤ sizeLine ∧ freeB z = true ∧ ∀ H' x, Same H H' → H x = none → KindAt C H' x z → Q (.ref x) H'
theorem ok_kof {f fi C : Addr} {fd : FuncData} (F : Fun K "of" "Kind.of" sKOf f fd) (M : Mk K C fi) (FI : FnR P w K mg base CX0 4 fi (spKI C)) : FnOk P w K mg base CX0 6 f fd ["cls", "name", "methods"] (spKOf C) := by
  refine F.ok scKOf (fun vs H Q E h => ?_) (fun cdv A outer s H vs Q E hr h => ?_)
  · obtain ⟨z, m, rfl, _⟩ := h
    rfl
  · obtain ⟨z, m, rfl, hm, hz, fz, k⟩ := h
    refine ⟨_, pss_one (ps_ret (pe_mkL (i := 0) M FI hr rfl (Or.inl rfl) pass0 (pa_cons (pv 1) (pa_star (pv 2) pa_nil)))), ?_⟩
    refine ⟨rfl, _, rfl, _, rfl, m, [], rfl, .inl (.inl (.inl hm)), fun x dx hx hd ne => ?_⟩
    refine ⟨x, z, dx, rfl, upd_same, hz, fz, fun H' b ka => ⟨rfl, k H' x (made_same hx hd b) hx ka⟩⟩
theorem paired_map {α β γ : Type} {F : α → γ → Prop} {g : β → γ} : ∀ {xs : List α} {ys : List β}, Paired F xs (ys.map g) → Paired (fun x y => F x (g y)) xs ys
  | _, [], .nil => .nil
  | _, _ :: _, .cons a r => .cons a (paired_map r)
/-- name and mark -/
def MarkOk (q : Str × Str) : Prop := q.1.length ≤ sizeLine ∧ freeB q.1 = true ∧ markB q.2 = true
abbrev mkD (ms : List (Str × Str)) : List (Key × V) := ms.map fun q => ((Sum.inr q.1 : Key), V.str q.2)
def MarksAt (H : Hp) (t : Addr) (ms : List (Str × Str)) : Prop := ∃ ts : List Addr, H t = some (.tup (ts.map V.ref)) ∧ Paired (fun (x : Addr) (q : Str × Str) => H x = some (.tup [.str q.1, .str q.2])) ts ms
/-- what the top has left of Role -/
structure RoleK (K : PySem.W.Frag) (mg : Str → Option Value) (R : Addr) : Prop where
  at_ : mg "Role" = some (.ref R)
  rd : ∃ mc, CRead K R mc ∧ ∃ t, CVal K R mc "MAX_PARAMETERS" (.int 2) (.int 2 t)
def RoleAt (C : Addr) (H : Hp) (x : Addr) (z : Str) (ms : List (Str × Str)) : Prop := ∃ dx m t, H x = some (.ins C dx [("_name", .str z), ("_methods", .ref m), ("_marks", .ref t)]) ∧ H m = some (.tup []) ∧ MarksAt H t ms
def spRAt (K : PySem.W.Frag) (C : Addr) : Sp := fun vs H Q _ => ∃ (a : Addr) (z : Str) (m d dx : Addr) (ms : List (Str × Str)), vs = [.ref a, .str z, .ref m, .ref d] ∧ H a = some (.ins C dx []) ∧ z.length ≤ sizeLine ∧ freeB z = true ∧ H m = some (.tup []) ∧ H d = some (.dK (mkD ms)) ∧ (∀ q ∈ ms, MarkOk q) ∧ ms.length ≤ 2 ∧
  ∀ H' t, But a H H' → H' a = some (.ins C dx [("_name", .str z), ("_methods", .ref m), ("_marks", .ref t)]) → MarksAt H' t ms → Q .non H'
theorem role_body {f2 R : Addr} {fd2 : FuncData} (T : SupK P K mg) (S : SubK K R f2) (IK : InsK K R ["_name", "_methods", "_marks"]) (RK : RoleK K mg R) (B : Blt mg) (W : Blw mg) (b2 : Binds K fd2 ["self", "name", "methods"] [])
    (F2 : FnOk P w K mg base CX0 3 f2 fd2 ["self", "name", "methods"] (spDecl K)) (G : Got P w K mg base CX0 "is_free_name" ["value"] 2 spFree) (GM : Got P w K mg base CX0 "is_mark" ["value"] 1 spMark)
    {f cda cc : Addr} {A : Around} {outer : List Env} {s : Shared} {H : Hp} {vs : List V} {Q : VK} {E : XK} (hr : Room 3 (A.deeper (kEnv "Role.__init__" (defScope sRole) s.heap.objs.size f (.ref cda) cc))) (ST : SupAll CX0 P w K mg base nRole "Role.__init__" "self" sRole R f cda cc A outer s H E)
    (h : spRAt K R vs H Q E) : ∃ t, PAt (cxX CX0 P w K mg base nRole "Role.__init__" (defScope sRole) f (.ref cda) cc A outer s H E) (defBody sRole) (defBody sRole) t ∧ t { nx := fun _ H' => Q .non H', rt := Q } (L2.start nRole vs) H := by
  obtain ⟨a, z, m, d, dx, ms, rfl, ha, hz, fz, hm, hd, ok, two, k⟩ := h
  obtain ⟨mc, cr, t5, cv⟩ := RK.rd
  have IK2 : InsK K R ["_name", "_methods"] := ⟨IK.cls, fun f hf => IK.no f (show f ∈ (["_name", "_methods"] : List Str) ++ (["_marks"] : List Str) from List.mem_append_left _ hf)⟩
  refine ⟨_, pat_cons (st_sup (ST R S.mro) S.sup (raw0 F2 b2) hr pass0 (pa_cons (pv 1) (pa_cons (pv 2) pa_nil)))
    (PSs.nox (pss_cons (ps_lock (ps_for PassesOwn.never rfl (pi_items (pv 3)) (pg_tup rfl (pgs_cons (pg_name (i := 4) ssRole.sc.nd rfl (Or.inl rfl)) (pgs_cons (pg_name (i := 5) ssRole.sc.nd rfl (Or.inl rfl)) pgs_nil)))
      (pss_one (ps_if (PW.pt (pw_or (pt_not (pt_val (pe_got G hr (by decide) pass0 (pa_cons (pv 4) pa_nil)))) (pw_or1 (pt_not (pt_val (pe_got GM hr (by decide) pass0 (pa_cons (pv 5) pa_nil))))))) pss_never pss_nil))))
    (pss_cons (ps_if (pt_cmpR op_gt (pe_callB call_lenD (by rfl) B.len PySem.boot_len (pa_cons (pv 3) pa_nil)) (pe_cval (pe_glob (v := .ref R) rfl RK.at_ rfl)) (nomark _)) pss_never pss_nil)
    (pss_one (ps_fld (pv 0) (pe_tupItems rfl (pv 3) rfl W.tuple (by decide +kernel)) rfl))))), ?_⟩
  refine ⟨a, dx, [], rfl, ha, _, rfl, _, rfl, a, z, m, R, dx, rfl, ha, IK2, hz, fz, hm, fun H1 b1 e1 => ?_⟩
  have da : d ≠ a := fun q => by rw [q, ha] at hd; cases hd
  have hd1 : H1 d = some (.dK (mkD ms)) := b1 d _ da hd
  refine ⟨d, _, hd1, trivial, fun od => ?_⟩
  have nd2 : ∀ {H' : Hp}, Same (upd H1 d (.frz od (.dK (mkD ms)))) H' → But d H1 H' := fun {H'} s1 b o hb e => s1 b o (by rw [upd_ne hb]; exact e)
  refine ⟨_, rfl, d, od, mkD ms, rfl, upd_same, ?_⟩
  refine for_it walk_items (fun i σ' H' => (∃ v4 v5, σ' = [some (.ref a), some (.str z), some (.ref m), some (.ref d), v4, v5]) ∧ Same (upd H1 d (.frz od (.dK (mkD ms)))) H') ⟨⟨_, _, rfl⟩, Same.refl _⟩ (fun i σ' H' _ q => q.2 d _ upd_same) ?_ ?_
  · rintro i x σ' H2 H3 hi ⟨⟨v4, v5, rfl⟩, s1⟩ ⟨T, x, y, rfl, hT, rfl, ex, ey⟩
    obtain ⟨q, hq⟩ : ∃ q, ms[i]? = some q := ⟨_, List.getElem?_eq_getElem (by rw [List.length_map] at hi; exact hi)⟩
    have hD : (mkD ms)[i]? = some ((Sum.inr q.1 : Key), V.str q.2) := by rw [List.getElem?_map, hq]; rfl
    simp only [hD] at ex ey
    obtain rfl : V.str q.1 = x := Option.some.inj ex
    obtain rfl : V.str q.2 = y := Option.some.inj ey
    obtain ⟨q1, q2, q3⟩ := ok q (List.mem_of_getElem? hq)
    refine ⟨T, _, rfl, .inl (.inl upd_same), rfl, _, _, rfl, _, _, rfl, ⟨rfl, ?_⟩⟩
    refine ⟨_, rfl, q.1, rfl, q1, fun H4 s4 => ⟨_, rfl, ?_⟩⟩
    rw [q2]
    refine iteF ⟨_, rfl, q.2, rfl, _, rfl, ?_⟩
    rw [q3]
    refine iteF ⟨⟨_, _, rfl⟩, (s1.new hT).trans s4⟩
  · rintro σ' H2 ⟨⟨v4, v5, rfl⟩, s1⟩
    refine ⟨s1 d _ upd_same, _, rfl, d, mkD ms, rfl, upd_same, R, mc, _, _, rfl, cr, cv, _, _, rfl, rfl, _, rfl, ?_⟩
    rw [decide_eq_false (by rw [List.length_map]; omega)]
    refine iteF ?_
    refine ⟨_, rfl, d, mkD ms, rfl, upd_same, fun H3 t ts k1 k2 k3 k4 k5 k6 => ?_⟩
    have b2 : But d H1 H2 := nd2 s1
    have ea : H3 a = some (.ins R dx [("_name", .str z), ("_methods", .ref m)]) := k1 a _ (by rw [upd_ne (Ne.symm da)]; exact b2 a _ (Ne.symm da) e1)
    have hb : But a H H3 := fun b o hb e => by
      refine k1 b o ?_
      have e' := b1 b o hb e
      by_cases q : b = d
      · subst q
        rw [hd] at e
        cases e
        exact upd_same
      · rw [upd_ne q]
        exact b2 b o q e'
    refine ⟨_, rfl, a, R, dx, _, rfl, ea, IK.cls, IK.no _ (by simp), by show 2 < 1000; decide, ?_⟩
    have ta : ∀ {b o}, H3 b = some o → H1 b = none ∨ b = a ∨ True := fun _ => .inr (.inr trivial)
    have nt : t ≠ a := fun q => by rw [q, ea] at k5; cases k5
    refine k _ t hb.at_ upd_same ⟨ts, by rw [upd_ne nt]; exact k5, ?_⟩
    refine PySem.Paired.mono (fun x q e => ?_) (paired_map k6)
    rw [upd_ne (fun z => by rw [z, ea] at e; cases e)]
    exact e
end
end K5

/-! ==== P5g ==== -/
set_option Elab.async false
set_option linter.all false
set_option maxRecDepth 100000
set_option maxHeartbeats 4000000
/-! k05: Role made. -/
namespace K5
open PySem PySem.Spec PyProof.Rows L2 StX ClX SuX Sh KwX TuI
abbrev kvM (ms : List (Str × Str)) : List (Str × V) := ms.map fun q => (q.1, V.str q.2)
theorem kD_kvM (ms : List (Str × Str)) : kD (kvM ms) = mkD ms := by
  unfold kD kvM mkD
  rw [List.map_map]
  rfl
theorem kvM_names (ms : List (Str × Str)) : (kvM ms).map (·.1) = ms.map (·.1) := by
  unfold kvM
  rw [List.map_map]
  rfl
def spRI (R : Addr) : List V → List (Str × V) → Hp → VK → XK → Prop := fun vs kvs H Q _ => ∃ (a : Addr) (z : Str) (dx : Addr) (ms : List (Str × Str)), vs = [.ref a, .str z] ∧ kvs = kvM ms ∧ H a = some (.ins R dx []) ∧ z.length ≤ sizeLine ∧ freeB z = true ∧ (∀ q ∈ ms, MarkOk q) ∧ KwOk ["self", "name"] (ms.map (·.1)) ∧
  ∀ H', But a H H' → RoleAt R H' a z ms → Q .non H'
def spROf (R : Addr) : Sp := fun vs H Q _ => ∃ (z : Str) (m d : Addr) (ms : List (Str × Str)), vs = [.ref R, .str z, .ref m, .ref d] ∧ H m = some (.tup []) ∧ H d = some (.dK (mkD ms)) ∧ z.length ≤ sizeLine ∧ freeB z = true ∧ (∀ q ∈ ms, MarkOk q) ∧ KwOk ["self", "name"] (ms.map (·.1)) ∧
  ∀ H' x, Same H H' → H x = none → RoleAt R H' x z ms → Q (.ref x) H'
section
variable {P : Program} {w : World} {K : PySem.W.Frag} {mg : Str → Option Value} {base : Heap}
theorem role_init {f f2 R : Addr} {fd fd2 : FuncData} (F : FunX P K "__init__" "Role.__init__" sRole [] R f fd) (T : SupK P K mg) (S : SubK K R f2) (IK : InsK K R ["_name", "_methods", "_marks"]) (RK : RoleK K mg R) (B : Blt mg) (W : Blw mg) (b2 : Binds K fd2 ["self", "name", "methods"] [])
    (F2 : FnOk P w K mg base CX0 3 f2 fd2 ["self", "name", "methods"] (spDecl K)) (G : Got P w K mg base CX0 "is_free_name" ["value"] 2 spFree) (GM : Got P w K mg base CX0 "is_mark" ["value"] 1 spMark) : FnK P w K mg base CX0 4 f (spRI R) := by
  obtain ⟨av, e4, a4⟩ : ∃ av, (defArgs sRole).vararg = some av ∧ av.arg = "methods" := ⟨_, rfl, rfl⟩
  obtain ⟨ad, e5, a5⟩ : ∃ ad, (defArgs sRole).kwarg = some ad ∧ ad.arg = "marks" := ⟨_, rfl, rfl⟩
  have S' : ScS nRole ["self", "name", av.arg, ad.arg] "self" sRole := by rw [a4, a5]; exact ssRole
  have key := F.starkw (CX := CX0) (w := w) (mg := mg) (base := base) (k := 3) (sp := spRAt K R) T S' cxUp_none rfl rfl rfl e4 e5 fun cda cc A outer s H vs Q E hr ST h => role_body T S IK RK B W b2 F2 G GM hr ST h
  intro A outer s H us vs kw kvs Q E hr e0 r rk h
  refine key A outer s H us vs kw kvs Q E hr e0 r rk ?_
  obtain ⟨a, z, dx, ms, rfl, rfl, ha, hz, fz, ok, kok, k⟩ := h
  refine ⟨[.ref a, .str z], [], rfl, rfl, Nat.zero_le _, by rw [kvM_names]; exact kok, fun p d hp hd ne => ?_⟩
  have ap : a ≠ p := ne_of_none ha hp
  have ad' : a ≠ d := ne_of_none ha hd
  refine ⟨a, z, p, d, dx, ms, rfl, by rw [upd_ne ad', upd_ne ap]; exact ha, hz, fz, by rw [upd_ne (Ne.symm ne), upd_same], by rw [upd_same]; exact congrArg some (congrArg HO.dK (kD_kvM ms)), ok, by have := kok.two; rw [List.length_map] at this; exact this, fun H' t b e mk => ?_⟩
  refine k H' (fun q o hq e => b q o hq ?_) ⟨dx, p, t, e, b p _ (Ne.symm ap) (by rw [upd_ne (Ne.symm ne), upd_same]), mk⟩
  rw [upd_ne (ne_of_none e hd), upd_ne (ne_of_none e hp)]
  exact e
theorem scROf : FnScope ["cls", "name", "methods", "marks"] ["cls", "name", "methods", "marks"] (defScope sROf) := ⟨rfl, rfl, rfl, by decide +kernel, rfl, by decide +kernel, by decide +kernel⟩
theorem ok_rof {f fi R : Addr} {fd : FuncData} (F : Fun K "of" "Role.of" sROf f fd) (M : Mk K R fi) (FI : FnK P w K mg base CX0 4 fi (spRI R)) : FnOk P w K mg base CX0 6 f fd ["cls", "name", "methods", "marks"] (spROf R) := by
  refine F.ok scROf (fun vs H Q E h => ?_) (fun cdv A outer s H vs Q E hr h => ?_)
  · obtain ⟨z, m, d, ms, rfl, _⟩ := h
    rfl
  · obtain ⟨z, m, d, ms, rfl, hm, hd, hz, fz, ok, kok, k⟩ := h
    refine ⟨_, pss_one (ps_ret (pe_mkLK (i := 0) M FI hr rfl (Or.inl rfl) pass0 (pa_cons (pv 1) (pa_star (pv 2) pa_nil)) (pv 3))), ?_⟩
    refine ⟨rfl, _, rfl, _, rfl, m, [], rfl, .inl (.inl (.inl hm)), fun d2 hd2 => ?_⟩
    have nd2 : d ≠ d2 := ne_of_none hd hd2
    refine ⟨_, rfl, d, kvM ms, rfl, nd2, by rw [upd_ne nd2, kD_kvM]; exact hd, upd_same, fun x dx hx hdx ne => ?_⟩
    refine ⟨x, z, dx, ms, rfl, rfl, upd_same, hz, fz, ok, kok, fun H' b ra => ⟨rfl, k H' x (fun q o e => made_same hx hdx b q o ?_) ?_ ra⟩⟩
    · have q2 : q ≠ d2 := ne_of_none e hd2
      rw [upd_ne q2, upd_ne q2]
      exact e
    · by_cases q : x = d2
      · rw [q, upd_same] at hx
        cases hx
      · rw [upd_ne q, upd_ne q] at hx
        exact hx
end
end K5

/-! ==== P5h ==== -/
set_option Elab.async false
set_option linter.all false
set_option maxRecDepth 100000
set_option maxHeartbeats 4000000
/-! k05: InvalidWorld and UnknownName raised. -/
namespace SuX
open PySem PySem.Spec PyProof.Rows L2 StX ClX
theorem FunX.binds1 {P : Program} {K : PySem.W.Frag} {x qual : Str} {st : Stmt} {dvs : List V} {D f : Addr} {fd : FuncData} {ps : List Str} (F : FunX P K x qual st dvs D f fd) (n j : Nat) (hd : dvs ≠ []) (hn : n + (dvs.length - j) = ps.length)
    (h : ∀ (T : Addr) (kV doc pm : Value) (an : Option Addr) (cdv ct : Value) (cc : Addr) (us its : List Value), us.length = n → its.length = dvs.length →
      ∃ k, bindArgs (kFn x qual (defArgs st) (defBody st) (defScope st) (.ref T) kV doc pm an cdv ct cc) ⟨us, []⟩ = seqItems? (.ref T) >>= k ∧ k (some its.toArray) = pure (ps.zip (us ++ its.drop j))) : ∃ ds, Vals (dvs.drop j) ds ∧ Binds K fd ps ds := by
  obtain ⟨oc, od, dV, kV, doc, pm, an, cda, cc, ct, osl, cl, cld, csl, ccl, cdd, vs, ccs, file, tf, rfl, lk, hcd, hD, hcell, hcode, hvs, hfile⟩ := F.ex
  rcases hD with ⟨e, _⟩ | ⟨_, T, o, its, m, rfl, lT, oT, rT⟩
  · exact absurd e hd
  · refine ⟨its.drop j, rT.drop j, fun s us X hlen => ?_⟩
    have l1 : its.length = dvs.length := rT.length.symm
    have l2 : us.length = n := by
      rw [List.length_append, List.length_drop, l1] at hlen
      omega
    obtain ⟨k, e1, e2⟩ := h T kV doc pm an (.ref cda) ct cc us its l2 l1
    refine BindsTo.of_looks fun M => ?_
    rw [e1]
    exact looks_items X lT oT (.of_pure e2)
end SuX
namespace K5
open PySem PySem.Spec PyProof.Rows L2 StX ClX SuX Sh KwX TuI
theorem tyOf_same {K : PySem.W.Frag} {H H' : Hp} (s : Same H H') : ∀ {v : V} {t : Value}, TyOf K H v t → TyOf K H' v t
  | _, _, .non => .non
  | _, _, .bl x => .bl x
  | _, _, .int i => .int i
  | _, _, .str x => .str x
  | _, _, .flt x => .flt x
  | _, _, .lst e => .lst (s _ _ e)
  | _, _, .frz e => .frz (s _ _ e)
  | _, _, .tup e => .tup (s _ _ e)
  | _, _, .dK e => .dK (s _ _ e)
  | _, _, .dT e => .dT (s _ _ e)
  | _, _, .ins e a b c d f => .ins (s _ _ e) a b c d f
theorem tyX_same {K : PySem.W.Frag} {H H' : Hp} (s : Same H H') : ∀ {v : V} {t : Value}, TyX K H v t → TyX K H' v t
  | _, _, .base h => .base (tyOf_same s h)
  | _, _, .byt b => .byt b
  | _, _, .set e => .set (s _ _ e)
  | _, _, .kList e c => .kList e c
  | _, _, .kTuple e c => .kTuple e c
  | _, _, .kDict e c => .kDict e c
  | _, _, .fTuple e => .fTuple (s _ _ e)
  | _, _, .fDict e => .fDict (s _ _ e)
theorem Shown.same {K : PySem.W.Frag} {H H' : Hp} (s : Same H H') : ∀ {v : V}, Shown K H v → Shown K H' v
  | _, .str z h0 h => .str z h0 h
  | _, .int i => .int i
  | _, .bl b => .bl b
  | _, .non => .non
  | _, .ref a t ty h1 h2 => .ref a t (tyX_same s ty) h1 h2
/-- an own exception class, to be raised: its __init__ and what is bound -/
structure RaiseK (P : Program) (w : World) (K : PySem.W.Frag) (mg : Str → Option Value) (base : Heap) (x : Str) (C : Addr) (k : Nat) (ps : List Str) (dvs : List V) (sp : Sp) : Prop where
  at_ : mg x = some (.ref C)
  oex : OexC K C
  ex : ∃ (fI : Addr) (fd : FuncData) (ds : List Value), PySem.W.findIn K (.ref C) "__init__" = some (some (.ref fI)) ∧ PySem.W.typeIn K (.ref fI) = some (.type "function") ∧ FnOk P w K mg base CX0 k fI fd ps sp ∧ Binds K fd ps ds ∧ Vals dvs ds
theorem exc_end {H1 : Hp} {a d : Addr} {u0 u1 : HO} {fs1 fs : List (Str × V)} (ha : H1 a = none) (ne : d ≠ a) :
    upd (del (upd (upd (upd (upd H1 a u0) d (exd d fs1)) a u1) d (exd d fs)) a) d (.xd fs) = upd H1 d (.xd fs) := by
  funext b
  by_cases hb : b = d
  · rw [hb, upd_same, upd_same]
  · rw [upd_ne hb, upd_ne hb]
    by_cases h : b = a
    · rw [h, del_same, ha]
    · rw [del_ne h, upd_ne hb, upd_ne h, upd_ne hb, upd_ne h]
theorem exc_end1 {H1 : Hp} {a d : Addr} {u0 u1 : HO} {fs : List (Str × V)} (ha : H1 a = none) (ne : d ≠ a) :
    upd (del (upd (upd (upd H1 a u0) d (exd d fs)) a u1) a) d (.xd fs) = upd H1 d (.xd fs) := by
  funext b
  by_cases hb : b = d
  · rw [hb, upd_same, upd_same]
  · rw [upd_ne hb, upd_ne hb]
    by_cases h : b = a
    · rw [h, del_same, ha]
    · rw [del_ne h, upd_ne h, upd_ne hb, upd_ne h]
section
variable {X : Cx} {C : Addr} {W : WX} {e : Expr} {es : List Expr} {ta : TA} {dvs : List V} {p pos pos' : Pos} {x : Str} {k : Nat} {ps : List Str} {sp : Sp}
theorem ps_rk (R : RaiseK X.prog X.w X.K X.mg X.base x C k ps dvs sp) (hc : X.calm = true) (hr : Room (k + 1) X.A) (tk : Takes X W) (hg : Gl X x) (ha : PA X (e :: es) ta) (hdb : (x == ("__debug__" : Str)) = false := by decide)
    (he : starEach (e :: es) X.env = (false, eval e X.env) :: starEach es X.env := by rfl) (hpl : (backTo pos (starEach es X.env)).any (·.1) = false := by rfl) :
    PS X (.Raise (some (.Call (.Name x p) (e :: es) [] pos)) none pos') (fun _ σ H => tMkO C sp dvs ta σ H fun cls d H' => W cls d σ H') := by
  obtain ⟨fI, fd, ds, h1, h2, h3, h4, h5⟩ := R.ex
  exact ps_raise hc tk (pmk_oex R.oex h1 h2 h3 hr h4 h5 (fun _ _ _ _ _ _ _ z => z.elim) hg R.at_ ha hdb he hpl)
end
theorem iw_end {K : PySem.W.Frag} {C : Addr} {dvs vs : List V} {H1 : Hp} {Q : XK} {r i : V} (e : vs ++ dvs = [r, i]) (sr : Shown K H1 r) (si : Shown K H1 i) (hl : vs.length ≤ 1000) (h : ∀ d, H1 d = none → Q (.ref C) (some d) (upd H1 d (.xd [("item", i), ("rule", r)]))) :
    vs.length ≤ 1000 ∧ ∀ a, H1 a = none → spIW K C (.ref a :: (vs ++ dvs)) (upd H1 a (exo a C none))
      (fun v H2 => v = .non ∧ ∃ (d : Addr) (fs : List (Str × V)), H2 a = some (exo a C (some d)) ∧ H2 d = some (exd d fs) ∧ H1 d = none ∧ Q (.ref C) (some d) (upd (del H2 a) d (.xd fs))) (fun _ _ _ => False) := by
  refine ⟨hl, fun a ha => ⟨a, r, i, by rw [e], upd_same, sr.same ((Same.refl H1).new ha), si.same ((Same.refl H1).new ha), fun d hd ne => ⟨rfl, d, _, ?_, upd_same, ?_, ?_⟩⟩⟩
  · rw [upd_ne (Ne.symm ne), upd_same]
  · rw [upd_ne ne] at hd
    exact hd
  · rw [exc_end ha ne]
    rw [upd_ne ne] at hd
    exact h d hd
theorem un_end {K : PySem.W.Frag} {C : Addr} {vs : List V} {H1 : Hp} {Q : XK} {r : V} (e : vs ++ [] = [r]) (sr : Shown K H1 r) (hl : vs.length ≤ 1000) (h : ∀ d, H1 d = none → Q (.ref C) (some d) (upd H1 d (.xd [("word", r)]))) :
    vs.length ≤ 1000 ∧ ∀ a, H1 a = none → spUN K C (.ref a :: (vs ++ [])) (upd H1 a (exo a C none))
      (fun v H2 => v = .non ∧ ∃ (d : Addr) (fs : List (Str × V)), H2 a = some (exo a C (some d)) ∧ H2 d = some (exd d fs) ∧ H1 d = none ∧ Q (.ref C) (some d) (upd (del H2 a) d (.xd fs))) (fun _ _ _ => False) := by
  refine ⟨hl, fun a ha => ⟨a, r, by rw [e], upd_same, sr.same ((Same.refl H1).new ha), fun d hd ne => ⟨rfl, d, [("word", r)], upd_same, ?_, ?_, ?_⟩⟩⟩
  · rw [upd_ne ne, upd_same]
  · rw [upd_ne ne] at hd
    exact hd
  · rw [exc_end1 ha ne]
    rw [upd_ne ne] at hd
    exact h d hd
end K5

/-! ==== P5i ==== -/
set_option Elab.async false
set_option linter.all false
set_option maxRecDepth 100000
set_option maxHeartbeats 4000000
/-! k05: properties, spots_of. -/
namespace L2
open PySem PySem.Spec PyProof.Rows
section
variable {J : It} {n : Nat} {G : Hp → Prop} {Y : Nat → Hp → V → Hp → Prop}
/-- a dict comprehension over it -/
theorem dc_it (w : Walk J n G Y) {g : TG} {tt : TT} {tk tv : TE} {vs : List Nat} {σ : St} {H1 : Hp} {D : Addr} {Qd : Hp → Prop} (Pv : Nat → Hp → Prop) (h0 : Pv 0 (upd H1 D (.dK []))) (hG : ∀ i H, i ≤ n → Pv i H → G H)
    (hs : ∀ i x H H', i < n → Pv i H → Y i H x H' → g x (wipe σ vs) H' fun σ2 H2 => wipe σ2 vs = wipe σ vs ∧ tt σ2 H2 fun b H3 =>
      if b = true then tk σ2 H3 fun y H4 => tv σ2 H4 fun z H5 => ∃ kvs k, y = kV k ∧ H5 D = some (.dK kvs) ∧ kvs.length < sizeLine ∧ Pv (i + 1) (upd H5 D (.dK (putK kvs k z))) else Pv (i + 1) H3) (hd : ∀ H, Pv n H → Qd H) :
    ∃ W : Nat → Nat → Hp → Prop, (∃ m, W 0 m (upd H1 D (.dK []))) ∧ ∀ i m H, W i m H →
      (J.stop i H ∧ Qd H) ∨ (J.go i H ∧ ∃ Nx : Hp → Prop, (∀ H', Nx H' → ∃ m', m' < m ∧ W (i + 1) m' H') ∧ ∀ x H', J.yld i H x H' → g x (wipe σ vs) H' fun σ2 H2 => wipe σ2 vs = wipe σ vs ∧ tt σ2 H2 fun b H3 =>
        if b = true then tk σ2 H3 fun y H4 => tv σ2 H4 fun z H5 => ∃ kvs k, y = kV k ∧ H5 D = some (.dK kvs) ∧ kvs.length < sizeLine ∧ Nx (upd H5 D (.dK (putK kvs k z))) else Nx H3) := by
  refine ⟨fun i m H => m = n - i ∧ i ≤ n ∧ Pv i H, ⟨n, by simp, Nat.zero_le _, h0⟩, ?_⟩
  rintro i m H ⟨rfl, hi, p⟩
  have q := hG i H hi p
  by_cases hlt : i < n
  · exact .inr ⟨w.goes i H hlt q, Pv (i + 1), fun H' p' => ⟨n - (i + 1), by omega, rfl, hlt, p'⟩, fun x H' y => hs i x H H' hlt p (w.yields i H x H' hlt q y)⟩
  · have e : i = n := by omega
    subst e
    exact .inl ⟨w.stops H q, hd H p⟩
end
end L2
namespace K5
open PySem PySem.Spec PyProof.Rows L2 StX ClX SuX Sh KwX TuI
/-- C's property f is the field fld -/
structure PropG (P : Program) (w : World) (K : PySem.W.Frag) (mg : Str → Option Value) (base : Heap) (C : Addr) (f fld : Str) : Prop where
  cls : Cls K C
  ex : ∃ p g fd, PropOf K C f p g ∧ Binds K fd ["self"] [] ∧ FnOk P w K mg base CX0 1 g fd ["self"] (getSp C fld)
def tPrp (S : List Addr) (fld : Str) (ta : TE) : TE := fun σ H Q => ta σ H fun x H1 => ∃ a C dx fs v, x = .ref a ∧ H1 a = some (.ins C dx fs) ∧ C ∈ S ∧ fs.lookup fld = some v ∧ Q v H1
theorem pe_prp {X : Cx} {e : Expr} {f fld : Str} {ta : TE} {pos : Pos} {S : List Addr} (cs : ∀ C ∈ S, PropG X.prog X.w X.K X.mg X.base C f fld) (hr : Room 2 X.A) (he : PE X e ta) (hab : attributeBase e f X.env (eval e X.env) = eval e X.env := by rfl) : PE X (.Attribute e f pos) (tPrp S fld ta) := by
  refine ⟨fun pins s σ H Q I h => ?_⟩
  refine attr_of hab (thn (he.run pins s σ H _ I h) fun u s1 ⟨x, H1, I1, rx, a, C, dx, fs, v, ex, ea, hC, hl, q⟩ => ?_)
  subst ex
  obtain rfl : u = Value.ref a := rx
  obtain ⟨p, g, fd, hp, hb, F⟩ := (cs C hC).ex
  exact getprop_ok (E := fun _ _ _ => False) I1 ea (cs C hC).cls hp F hr hb .nil (fun _ _ _ _ _ _ _ z => z.elim) ⟨a, dx, fs, v, rfl, ea, hl, q⟩
/-- what the top has left of an own class with instances -/
structure InstT (K : PySem.W.Frag) (C : Addr) : Prop where
  cls : Cls K C
  ha : PySem.W.findIn K (.ref C) "__class__" = some (some (.builtin "object.__class__"))
  hn : PySem.W.specialIn K (.builtin "object.__class__") "__get__" = some (some (.builtin "getset_descriptor.__get__"))
  htk : PySem.W.takesIn K (.builtin "object.__class__") = some true
  hm : PySem.W.mroIn K C (.type "object") = some true
theorem InstT.ty {K : PySem.W.Frag} {C a dx : Addr} {H : Hp} {fs : List (Str × V)} (T : InstT K C) (e : H a = some (.ins C dx fs)) : TyX K H (.ref a) (.ref C) := .base (.ins e T.cls T.ha T.hn T.htk T.hm)
/-- Kind and Role as the top has left them -/
structure DK (P : Program) (w : World) (K : PySem.W.Frag) (mg : Str → Option Value) (base : Heap) (KC RC : Addr) : Prop where
  gk : mg "Kind" = some (.ref KC)
  gr : mg "Role" = some (.ref RC)
  kind : InstT K KC
  role : InstT K RC
  kk : PySem.W.kitOne K (.ref KC) (.ref KC) = some true
  kr : PySem.W.kitOne K (.ref KC) (.ref RC) = some false
  rk : PySem.W.kitOne K (.ref RC) (.ref KC) = some false
  rr : PySem.W.kitOne K (.ref RC) (.ref RC) = some true
  name : ∀ C ∈ [KC, RC], PropG P w K mg base C "name" "_name"
  methods : ∀ C ∈ [KC, RC], PropG P w K mg base C "methods" "_methods"
  marks : ∀ C ∈ [RC], PropG P w K mg base C "marks" "_marks"
/-- a name that stands -/
def OkZ (z : Str) : Prop := z.length ≤ sizeLine ∧ freeB z = true ∧ (reprText z).length ≤ 1000
/-- a declaration, or what is none -/
inductive Dc where
  | kind (z : Str) | role (z : Str) (ms : List (Str × Str)) | odd (v : V)
def NotDecl (K : PySem.W.Frag) (KC RC : Addr) (H : Hp) (v : V) : Prop := ∃ t, TyX K H v t ∧ PySem.W.kitOne K t (.ref KC) = some false ∧ PySem.W.kitOne K t (.ref RC) = some false
def OkMs (ms : List (Str × Str)) : Prop := (∀ q ∈ ms, MarkOk q ∧ OkZ q.1) ∧ KwOk ["self", "name"] (ms.map (·.1))
def DcAt (K : PySem.W.Frag) (KC RC : Addr) (H : Hp) : Dc → V → Prop
  | .kind z, v => ∃ a, v = .ref a ∧ KindAt KC H a z ∧ OkZ z
  | .role z ms, v => ∃ a, v = .ref a ∧ RoleAt RC H a z ms ∧ OkZ z ∧ OkMs ms
  | .odd u, v => v = u ∧ NotDecl K KC RC H u
theorem KindAt.same {C : Addr} {H H' : Hp} {x : Addr} {z : Str} (s : Same H H') (k : KindAt C H x z) : KindAt C H' x z := by
  obtain ⟨dx, m, h1, h2⟩ := k
  exact ⟨dx, m, s _ _ h1, s _ _ h2⟩
theorem MarksAt.same {H H' : Hp} {t : Addr} {ms : List (Str × Str)} (s : Same H H') (k : MarksAt H t ms) : MarksAt H' t ms := by
  obtain ⟨ts, h1, h2⟩ := k
  exact ⟨ts, s _ _ h1, PySem.Paired.mono (fun x q e => s _ _ e) h2⟩
theorem RoleAt.same {C : Addr} {H H' : Hp} {x : Addr} {z : Str} {ms : List (Str × Str)} (s : Same H H') (k : RoleAt C H x z ms) : RoleAt C H' x z ms := by
  obtain ⟨dx, m, t, h1, h2, h3⟩ := k
  exact ⟨dx, m, t, s _ _ h1, s _ _ h2, h3.same s⟩
theorem DcAt.same {K : PySem.W.Frag} {KC RC : Addr} {H H' : Hp} (s : Same H H') : ∀ {d : Dc} {v : V}, DcAt K KC RC H d v → DcAt K KC RC H' d v
  | .kind _, _, ⟨a, e, k, o⟩ => ⟨a, e, k.same s, o⟩
  | .role _ _, _, ⟨a, e, k, o⟩ => ⟨a, e, k.same s, o⟩
  | .odd _, _, ⟨e, t, h1, h2⟩ => ⟨e, t, tyX_same s h1, h2⟩
/-- parameters with their places -/
def spotsG (i : Nat) (acc : List (Key × V)) : List (Str × Str) → List (Key × V)
  | [] => acc
  | q :: r => spotsG (i + 1) (putK acc (.inr q.1) (.int (i : Nat))) r
theorem spotsG_snoc (q : Str × Str) : ∀ (l : List (Str × Str)) (i : Nat) (acc : List (Key × V)), spotsG i acc (l ++ [q]) = putK (spotsG i acc l) (.inr q.1) (.int ((i + l.length : Nat) : Int))
  | [], i, acc => rfl
  | p :: l, i, acc => by
    show spotsG (i + 1) _ (l ++ [q]) = _
    rw [spotsG_snoc q l, List.length_cons, show i + 1 + l.length = i + (l.length + 1) by omega]
    rfl
theorem spotsG_len : ∀ (l : List (Str × Str)) (i : Nat) (acc : List (Key × V)), (spotsG i acc l).length ≤ acc.length + l.length
  | [], i, acc => Nat.le_refl _
  | p :: l, i, acc => by
    have h1 := spotsG_len l (i + 1) (putK acc (.inr p.1) (.int (i : Nat)))
    have h2 := length_putK acc (.inr p.1) (.int (i : Nat))
    show (spotsG (i + 1) _ l).length ≤ _
    rw [List.length_cons]
    omega
abbrev spotsK (ms : List (Str × Str)) : List (Key × V) := spotsG 0 [] ms
def dcMs : Dc → List (Str × Str)
  | .role _ ms => ms
  | _ => []
def spSpots (K : PySem.W.Frag) (KC RC : Addr) : Sp := fun vs H Q _ => ∃ v d, vs = [v] ∧ DcAt K KC RC H d v ∧ (∀ u, d ≠ .odd u) ∧ ∀ H' s, Same H H' → H s = none → H' s = some (.dK (spotsK (dcMs d))) → Q (.ref s) H'
section
variable {P : Program} {w : World} {K : PySem.W.Frag} {mg : Str → Option Value} {base : Heap} {KC RC : Addr}
abbrev nSpots : List Str := ["declaration", "spot", "parameter", "_"]
theorem scSpots : FnScope nSpots ["declaration"] (defScope sSpots) := ⟨rfl, rfl, rfl, by decide +kernel, rfl, by decide +kernel, by decide +kernel⟩
theorem ok_spots {f : Addr} {fd : FuncData} (F : Fun K "spots_of" "spots_of" sSpots f fd) (B : Blt mg) (W : Blw mg) (D : DK P w K mg base KC RC) : FnOk P w K mg base CX0 3 f fd ["declaration"] (spSpots K KC RC) := by
  refine F.ok scSpots (fun vs H Q E h => ?_) (fun cdv A outer s H vs Q E hr h => ?_)
  · obtain ⟨v, d, rfl, _⟩ := h
    rfl
  · obtain ⟨v, d, rfl, hd, no, k⟩ := h
    refine ⟨_, pss_cons (ps_if (pt_not (pt_val (pe_callB call_isi (by rfl) B.isinstance (by decide +kernel) (pa_cons (pv 0) (pa_cons (pe_glob (v := .ref RC) rfl D.gr rfl) pa_nil))))) (pss_one (ps_ret pe_dnewK)) pss_nil)
      (pss_one (ps_ret (pe_dc (own := [("spot", 1), ("parameter", 2), ("_", 3)]) (g := gTup K 2 (gCons (gName 1) (gCons (gTup K 2 (gCons (gName 2) (gCons (gName 3) gNil))) gNil))) (tt := tYes) rfl scSpots.nd
        (pi_enumT rfl W.enumerate (pa_cons (pe_prp (fld := "_marks") D.marks hr (pv 0)) pa_nil)) (blkOk_by (N := nSpots) (sc := defScope sSpots) (by decide +kernel))
        (fun _ _ _ _ _ => pg_tup rfl (pgs_cons (pg_name (i := 1) scSpots.nd rfl (Or.inl rfl)) (pgs_cons (pg_tup rfl (pgs_cons (pg_name (i := 2) scSpots.nd rfl (Or.inl rfl)) (pgs_cons (pg_name (i := 3) scSpots.nd rfl (Or.inl rfl)) pgs_nil))) pgs_nil)))
        (fun _ _ _ _ _ => pts_nil) (fun _ _ _ _ _ => pv 2) (fun _ _ _ _ _ => pv 1)))), ?_⟩
    cases d with
    | odd u => exact absurd rfl (no u)
    | kind z =>
      obtain ⟨a, rfl, ⟨dx, m, ha, hm⟩, oz⟩ := hd
      refine ⟨_, rfl, _, _, _, _, false, rfl, .own RC, D.kind.ty ha, D.kr, _, rfl, iteT ?_⟩
      intro dd hdd
      exact k _ dd ((Same.refl H).new hdd) hdd upd_same
    | role z ms =>
      obtain ⟨a, rfl, ⟨dx, m, t, ha, hm, ts, ht, hts⟩, oz, okm, kwo⟩ := hd
      refine ⟨_, rfl, _, _, _, _, true, rfl, .own RC, D.role.ty ha, D.rr, _, rfl, iteF ?_⟩
      refine ⟨_, rfl, a, RC, dx, _, _, rfl, ha, by simp, rfl, t, ts.map V.ref, rfl, .inl (.inl ht), fun dd hdd => ?_⟩
      have hl : ts.length = ms.length := Paired.length hts
      refine dc_it (walk_enumT (xs := ts.map V.ref)) (fun i H' => Same H H' ∧ H' dd = some (.dK (spotsG 0 [] (ms.take i)))) ⟨(Same.refl H).new hdd, upd_same⟩ (fun i H' _ q => .inl (.inl (q.1 t _ ht))) ?_ ?_
      · rintro i x H1 H2 hi ⟨s1, h1⟩ ⟨T, x, y, rfl, hT, rfl, ex, ey⟩
        obtain rfl : V.int (i : Nat) = x := Option.some.inj ex
        have ey' : (ts.map V.ref)[i]? = some y := ey
        rw [List.length_map] at hi
        obtain ⟨ti, hti⟩ : ∃ ti, ts[i]? = some ti := ⟨_, List.getElem?_eq_getElem hi⟩
        rw [List.getElem?_map, hti] at ey'
        obtain rfl : V.ref ti = y := Option.some.inj ey'
        obtain ⟨q, hq, htq⟩ := LiI.paired_get hts hti
        have nT : ti ≠ T := ne_of_none (s1 ti _ htq) hT
        refine ⟨T, _, rfl, .inl (.inl upd_same), rfl, _, _, rfl, _, _, rfl, ⟨ti, _, rfl, .inl (.inl (by rw [upd_ne nT]; exact s1 ti _ htq)), rfl, _, _, rfl, _, _, rfl, ⟨rfl, ⟨rfl, ?_⟩⟩⟩⟩
        have nd : dd ≠ T := ne_of_none h1 hT
        have two := kwo.two
        rw [List.length_map] at two
        refine ⟨rfl, _, rfl, _, rfl, _, .inr q.1, rfl, by rw [upd_ne nd]; exact h1, ?_, (s1.new hT).old hdd, ?_⟩
        · have := spotsG_len (ms.take i) 0 []
          rw [List.length_take, List.length_nil] at this
          rw [sizeLine_eq]
          omega
        · rw [upd_same, List.take_succ, hq]
          have e := spotsG_snoc q (ms.take i) 0 []
          have il : i < ms.length := by omega
          rw [List.length_take, Nat.zero_add, Nat.min_eq_left (by omega)] at e
          exact congrArg some (congrArg HO.dK e.symm)
      · rintro H1 ⟨s1, h1⟩
        rw [List.length_map, hl, List.take_length] at h1
        exact k H1 dd s1 hdd h1
end
end K5

/-! ==== P5j ==== -/
set_option Elab.async false
set_option linter.all false
set_option maxRecDepth 100000
set_option maxHeartbeats 4000000
/-! k05: check_names. -/
namespace L2
open PySem PySem.Spec PyProof.Rows
/-- an expression's new dict or list, locked from there on -/
def tFrz (td : TE) : TE := fun σ H Q => td σ H fun x H1 => ∃ d u, x = .ref d ∧ H1 d = some u ∧ Mut (some u) ∧ ∀ od, Q (.ref d) (upd H1 d (.frz od u))
theorem pe_frz {X : Cx} {e : Expr} {td : TE} (he : PE X e td) : PE X e (tFrz td) := by
  refine ⟨fun pins s σ H Q I h => ?_⟩
  refine thn (he.run pins s σ H _ I h) fun u s1 ⟨x, H1, I1, rx, d, o, ex, hd, mu, q⟩ => ?_
  obtain ⟨od, I2⟩ := I1.lock hd mu
  exact ⟨.ref d, _, I2, by rw [← ex]; exact rx, q od⟩
end L2
namespace K5
open PySem PySem.Spec PyProof.Rows L2 StX ClX SuX Sh KwX TuI
def dcName : Dc → Str
  | .kind z => z
  | .role z _ => z
  | .odd _ => ""
/-- rule 1, first half: what is told of the values from place i on -/
def namesA (i : Nat) (known : List Str) : List Dc → Option (Str × V)
  | [] => none
  | .odd _ :: _ => some ("declaration", .int (i : Nat))
  | d :: r => if dcName d ∈ known then some ("name", .str (dcName d)) else namesA (i + 1) (known ++ [dcName d]) r
/-- .. second half: the first parameter with the name of a declaration -/
def parsA (known : List Str) : List Str → Option (Str × V)
  | [] => none
  | p :: r => if p ∈ known then some ("name", .str p) else parsA known r
def parNames (ds : List Dc) : List Str := ds.flatMap fun d => (dcMs d).map (·.1)
def namesDue (ds : List Dc) : Option (Str × V) := (namesA 0 [] ds).or (parsA (ds.map dcName) (parNames ds))
abbrev knownD (ks : List Str) : List (Key × V) := ks.map fun z => ((Sum.inr z : Key), V.bl true)
theorem valV_known (ks : List Str) (z : Str) : (valV (knownD ks) (Sum.inr z)).isSome = decide (z ∈ ks) := by
  induction ks with
  | nil => rfl
  | cons a r ih =>
    by_cases h : a = z
    · subst h
      rw [show knownD (a :: r) = ((Sum.inr a : Key), V.bl true) :: knownD r from rfl, valV_pos rfl]
      simp
    · rw [show knownD (a :: r) = ((Sum.inr a : Key), V.bl true) :: knownD r from rfl, valV_neg (fun q => h (Sum.inr.inj q)), ih]
      have : (z ∈ a :: r) ↔ z ∈ r := ⟨fun q => by rcases List.mem_cons.mp q with e | e; exact absurd e.symm h; exact e, fun q => List.mem_cons_of_mem _ q⟩
      simp only [this]
theorem putK_known {ks : List Str} {z : Str} (h : z ∉ ks) : putK (knownD ks) (Sum.inr z) (V.bl true) = knownD (ks ++ [z]) := by
  have e : valV (knownD ks) (Sum.inr z) = none := by
    have := valV_known ks z
    rw [decide_eq_false h] at this
    cases q : valV (knownD ks) (Sum.inr z) with
    | none => rfl
    | some v => rw [q] at this; cases this
  rw [putK_new _ e]
  simp [knownD]
theorem spotsG_keys : ∀ (ms : List (Str × Str)) (i : Nat) (acc : List (Key × V)), (ms.map (·.1)).Nodup → (∀ q ∈ ms, valV acc (Sum.inr q.1) = none) → (spotsG i acc ms).map (·.1) = acc.map (·.1) ++ ms.map fun q => (Sum.inr q.1 : Key)
  | [], i, acc, _, _ => by simp [spotsG]
  | q :: r, i, acc, nd, h => by
    obtain ⟨n1, n2⟩ := List.nodup_cons.mp (show (q.1 :: r.map (·.1)).Nodup from nd)
    have e := putK_new (.int (i : Nat)) (h q (by simp))
    show (spotsG (i + 1) (putK acc (.inr q.1) (.int (i : Nat))) r).map (·.1) = _
    rw [spotsG_keys r (i + 1) _ n2 (fun p hp => ?_), e]
    · simp
    · rw [valV_put, if_neg (fun z => n1 (by rw [← Sum.inr.inj z]; exact List.mem_map_of_mem hp))]
      exact h p (List.mem_cons_of_mem _ hp)
theorem dc_fact {K : PySem.W.Frag} {KC RC : Addr} {H : Hp} : ∀ {d : Dc} {v : V}, DcAt K KC RC H d v → (∀ u, d ≠ .odd u) → ∃ (a C dx m : Addr) (fs : List (Str × V)), v = .ref a ∧ H a = some (.ins C dx fs) ∧ (C = KC ∨ C = RC) ∧ fs.lookup ("_name" : Str) = some (.str (dcName d)) ∧ fs.lookup ("_methods" : Str) = some (.ref m) ∧ H m = some (.tup []) ∧ OkZ (dcName d)
  | .kind z, _, ⟨a, e, ⟨dx, m, h1, h2⟩, o⟩, _ => ⟨a, KC, dx, m, _, e, h1, .inl rfl, rfl, rfl, h2, o⟩
  | .role z ms, _, ⟨a, e, ⟨dx, m, t, h1, h2, h3⟩, o, _⟩, _ => ⟨a, RC, dx, m, _, e, h1, .inr rfl, rfl, rfl, h2, o⟩
  | .odd u, _, _, no => absurd rfl (no u)
theorem namesA_step {i : Nat} {known : List Str} {d : Dc} {r : List Dc} (no : ∀ u, d ≠ .odd u) : namesA i known (d :: r) = if dcName d ∈ known then some (("name" : Str), .str (dcName d)) else namesA (i + 1) (known ++ [dcName d]) r := by
  cases d with
  | odd u => exact absurd rfl (no u)
  | kind z => rfl
  | role z ms => rfl
theorem namesA_odd : ∀ {ds : List Dc} {i : Nat} {ks : List Str}, namesA i ks ds = none → ∀ d ∈ ds, ∀ u, d ≠ .odd u
  | [], _, _, _, d, hd, _ => nomatch hd
  | .odd u :: r, i, ks, h, _, _, _ => by cases h
  | .kind z :: r, i, ks, h, d, hd, u => by
    rw [namesA_step (fun u e => by cases e)] at h
    split at h
    · cases h
    · rcases List.mem_cons.mp hd with e | hd
      · rw [e]; exact fun q => by cases q
      · exact namesA_odd h d hd u
  | .role z ms :: r, i, ks, h, d, hd, u => by
    rw [namesA_step (fun u e => by cases e)] at h
    split at h
    · cases h
    · rcases List.mem_cons.mp hd with e | hd
      · rw [e]; exact fun q => by cases q
      · exact namesA_odd h d hd u
theorem dc_keys {K : PySem.W.Frag} {KC RC : Addr} {H : Hp} : ∀ {d : Dc} {v : V}, DcAt K KC RC H d v → (spotsK (dcMs d)).map (·.1) = (dcMs d).map fun q => (Sum.inr q.1 : Key)
  | .kind z, _, _ => rfl
  | .odd u, _, _ => rfl
  | .role z ms, _, ⟨a, _, _, _, o⟩ => by
    have := spotsG_keys ms 0 [] o.2.nd (fun _ _ => rfl)
    exact this
theorem dc_pars {K : PySem.W.Frag} {KC RC : Addr} {H : Hp} : ∀ {d : Dc} {v : V}, DcAt K KC RC H d v → ∀ q ∈ dcMs d, OkZ q.1
  | .kind z, _, _, _, h => nomatch h
  | .odd u, _, _, _, h => nomatch h
  | .role z ms, _, ⟨a, _, _, _, o⟩, q, h => (o.1 q h).2
def spCheck (K : PySem.W.Frag) (KC RC IC : Addr) : Sp := fun vs H Q E => ∃ (t : Addr) (xs : List V) (ds : List Dc), vs = [.ref t] ∧ H t = some (.tup xs) ∧ Paired (fun d v => DcAt K KC RC H d v) ds xs ∧ xs.length < 1000 ∧
  (namesDue ds = none → ∀ H', Same H H' → Q .non H') ∧ (∀ r i, namesDue ds = some (r, i) → ∀ H' d, Same H H' → H d = none → H' d = some (.xd [("item", i), ("rule", .str r)]) → E (.ref IC) (some d) H')
set_option hygiene false in
local macro_rules | `(tactic| walk_at "check_tail") => `(tactic| (
  refine ⟨_, rfl, a, _, dx, fs, _, rfl, ha, hCm, l1, _, rfl, d0, _, rfl, DGet.k (k := Sum.inr (dcName dc)) h2, _, rfl, ?_⟩
  rw [valV_known]
  by_cases hk : dcName dc ∈ (ds.take i).map dcName
  · rw [decide_eq_true hk]
    rw [if_pos hk] at hn
    refine iteT ⟨_, rfl, a, _, dx, fs, _, rfl, ha, hCm, l1, ?_⟩
    refine iw_end rfl (sN.same s2) (.str _ oz.1 oz.2.2) (by show 2 ≤ 1000; decide) fun d hd => ?_
    exact k1 "name" _ (by unfold namesDue; rw [hn]; rfl) _ d (s2.new hd) (s2.free hd) upd_same
  · rw [decide_eq_false hk]
    rw [if_neg hk] at hn
    refine iteF ⟨_, rfl, _, rfl, a, _, dx, fs, _, rfl, ha, hCm, l1, d0, _, rfl, DPut.k (k := Sum.inr (dcName dc)) h2 ?_, ⟨⟨_, _, _, _, rfl⟩, s2.old hd0, ?_, ?_⟩⟩
    · rw [List.length_map, List.length_map, List.length_take, sizeLine_eq]
      omega
    · rw [upd_same, putK_known hk, tk]
    · rw [tk]
      exact hn))
section
variable {P : Program} {w : World} {K : PySem.W.Frag} {mg : Str → Option Value} {base : Heap} {KC RC IC : Addr}
abbrev nCheck : List Str := ["declarations", "known", "spot", "value", "declaration", "parameter"]
theorem scCheck : FnScope nCheck ["declarations"] (defScope sCheck) := ⟨rfl, rfl, rfl, by decide +kernel, rfl, by decide +kernel, by decide +kernel⟩
theorem ok_check {f : Addr} {fd : FuncData} (F : Fun K "check_names" "check_names" sCheck f fd) (B : Blt mg) (W : Blw mg) (D : DK P w K mg base KC RC) (R : RaiseK P w K mg base "InvalidWorld" IC 2 ["self", "rule", "item"] [] (spIW K IC))
    (G : Got P w K mg base CX0 "spots_of" ["declaration"] 3 (spSpots K KC RC)) : FnOk P w K mg base (L2.CX P w) 4 f fd ["declarations"] (spCheck K KC RC IC) := by
  refine F.okX scCheck (fun vs H Q E h => ?_) (fun cdv A outer s H vs Q E hr h => ?_)
  · obtain ⟨t, xs, ds, rfl, _⟩ := h
    rfl
  · obtain ⟨t, xs, ds, rfl, ht, hds, hlen, k0, k1⟩ := h
    have hu := hu_of hr
    have hr2 := hr.mono (show 2 ≤ 3 by decide)
    refine ⟨_, pss_cons (ps_set (i := 1) scCheck.nd rfl (Or.inl rfl) pe_dnewK)
      (pss_cons (ps_for (passes_of rfl) rfl (pi_enumT rfl W.enumerate (pa_cons (pv 0) pa_nil)) (pg_tup rfl (pgs_cons (pg_name (i := 2) scCheck.nd rfl (Or.inl rfl)) (pgs_cons (pg_name (i := 3) scCheck.nd rfl (Or.inl rfl)) pgs_nil)))
        (pss_cons (ps_if (PW.pt (pw_and (pt_not (pt_val (pe_callB call_isi (by rfl) B.isinstance (by decide +kernel) (pa_cons (pv 3) (pa_cons (pe_glob (v := .ref KC) rfl D.gk rfl) pa_nil))))) (pw_and1 (pt_not (pt_val (pe_callB call_isi (by rfl) B.isinstance (by decide +kernel) (pa_cons (pv 3) (pa_cons (pe_glob (v := .ref RC) rfl D.gr rfl) pa_nil))))))))
            (pss_one (ps_rk R rfl hr (takes_of rfl rfl rfl rfl) rfl (pa_cons pe_str (pa_cons (pv 2) pa_nil)))) pss_nil)
        (pss_cons (ps_if (pt_cmp (pc_din hu (pe_prp (fld := "_name") D.name hr2 (pv 3)) (pv 1))) (pss_one (ps_rk R rfl hr (takes_of rfl rfl rfl rfl) rfl (pa_cons pe_str (pa_cons (pe_prp (fld := "_name") D.name hr2 (pv 3)) pa_nil)))) pss_nil)
        (pss_one (ps_dput hu (pv 1) (pe_prp (fld := "_name") D.name hr2 (pv 3)) pe_bl rfl)))))
      (pss_one (ps_for (passes_of rfl) rfl (pi_tup (pv 0)) (pg_name (i := 4) scCheck.nd rfl (Or.inl rfl))
        (pss_one (ps_for (passes_of rfl) rfl (pi_keys (pe_frz (pe_got G hr (by decide) pass0 (pa_cons (pv 4) pa_nil)))) (pg_name (i := 5) scCheck.nd rfl (Or.inl rfl))
          (pss_one (ps_if (pt_cmp (pc_din hu (pv 5) (pv 1))) (pss_one (ps_rk R rfl hr (takes_of rfl rfl rfl rfl) rfl (pa_cons pe_str (pa_cons (pv 5) pa_nil)))) pss_nil))))))), ?_⟩
    intro d0 hd0
    have hl : ds.length = xs.length := Paired.length hds
    have sD : Shown K H (.str "declaration") := .str _ (by rw [sizeLine_eq]; decide +kernel) (by decide +kernel)
    have sN : Shown K H (.str "name") := .str _ (by rw [sizeLine_eq]; decide +kernel) (by decide +kernel)
    refine ⟨_, rfl, t, xs, rfl, .inl (.inl ((Same.refl H).new hd0 t _ ht)), ?_⟩
    refine for_it (walk_enumT (xs := xs)) (fun i σ' H' => (∃ v2 v3 v4 v5, σ' = [some (.ref t), some (.ref d0), v2, v3, v4, v5]) ∧ Same H H' ∧ H' d0 = some (.dK (knownD ((ds.take i).map dcName))) ∧ namesA 0 [] ds = namesA i ((ds.take i).map dcName) (ds.drop i))
      ⟨⟨_, _, _, _, rfl⟩, (Same.refl H).new hd0, upd_same, rfl⟩ (fun i σ' H' _ q => .inl (.inl (q.2.1 t _ ht))) ?_ ?_
    · rintro i x σ' H1 H2 hi ⟨⟨v2, v3, v4, v5, rfl⟩, s1, h1, hn⟩ ⟨T, x, y, rfl, hT, rfl, ex, ey⟩
      obtain rfl : V.int (i : Nat) = x := Option.some.inj ex
      have hi' : i < ds.length := by omega
      obtain ⟨dc, hdc⟩ : ∃ dc, ds[i]? = some dc := ⟨_, List.getElem?_eq_getElem hi'⟩
      obtain ⟨y', hy', hat⟩ := LiI.paired_get hds hdc
      obtain rfl : y' = y := Option.some.inj (hy'.symm.trans ey)
      have hdrop : ds.drop i = dc :: ds.drop (i + 1) := by
        rw [List.drop_eq_getElem_cons hi']
        rw [List.getElem?_eq_getElem hi'] at hdc
        rw [Option.some.inj hdc]
      rw [hdrop] at hn
      have s2 : Same H (upd H1 T (.tup [.int (i : Nat), y'])) := s1.new hT
      have nd : d0 ≠ T := ne_of_none h1 hT
      have h2 : upd H1 T (.tup [.int (i : Nat), y']) d0 = some (.dK (knownD ((ds.take i).map dcName))) := by rw [upd_ne nd]; exact h1
      have hat2 := hat.same s2
      refine ⟨T, _, rfl, .inl (.inl upd_same), rfl, _, _, rfl, _, _, rfl, ⟨rfl, ?_⟩⟩
      by_cases odd : ∃ u, dc = .odd u
      · obtain ⟨u, rfl⟩ := odd
        obtain ⟨rfl, tv, ty, q1, q2⟩ := hat2
        refine ⟨_, rfl, _, _, _, _, false, rfl, .own KC, ty, q1, _, rfl, iteT ?_⟩
        refine ⟨_, rfl, _, _, _, _, false, rfl, .own RC, ty, q2, _, rfl, iteT ?_⟩
        refine ⟨_, rfl, ?_⟩
        refine iw_end rfl (sD.same s2) (.int _) (by show 2 ≤ 1000; decide) fun d hd => ?_
        refine k1 "declaration" _ (by unfold namesDue; rw [hn]; rfl) _ d ?_ (s2.free hd) upd_same
        exact s2.new hd
      · have no : ∀ u, dc ≠ .odd u := fun u e => odd ⟨u, e⟩
        obtain ⟨a, C, dx, m, fs, rfl, ha, hC, l1, l2, hm, oz⟩ := dc_fact hat2 no
        have hCm : C ∈ [KC, RC] := by rcases hC with rfl | rfl <;> simp
        rw [namesA_step no] at hn
        have tk : (ds.take (i + 1)).map dcName = (ds.take i).map dcName ++ [dcName dc] := by
          rw [List.take_succ, hdc, List.map_append]
          rfl
        rcases hC with e | e
        · subst e
          refine ⟨_, rfl, _, _, _, _, true, rfl, .own _, D.kind.ty ha, D.kk, _, rfl, iteF (iteF ?_)⟩
          walk_at "check_tail"
        · subst e
          refine ⟨_, rfl, _, _, _, _, false, rfl, .own _, D.role.ty ha, D.rk, _, rfl, iteT ?_⟩
          refine ⟨_, rfl, _, _, _, _, true, rfl, .own _, D.role.ty ha, D.rr, _, rfl, iteF ?_⟩
          walk_at "check_tail"
    · rintro σ' H1 ⟨⟨v2, v3, v4, v5, rfl⟩, s1, h1, hn⟩
      rw [← hl, List.take_length] at h1
      rw [← hl, List.take_length, List.drop_length] at hn
      have hn : namesA 0 [] ds = none := hn
      have hdue : namesDue ds = parsA (ds.map dcName) (parNames ds) := by unfold namesDue; rw [hn]; rfl
      have nodd := namesA_odd hn
      refine ⟨_, rfl, t, rfl, ⟨xs, .inl (.inl (s1 t _ ht))⟩, ?_⟩
      refine for_it (walk_tup (xs := xs)) (fun i σ' H' => (∃ v2 v3 v4 v5, σ' = [some (.ref t), some (.ref d0), v2, v3, v4, v5]) ∧ Same H H' ∧ H' d0 = some (.dK (knownD (ds.map dcName))) ∧ parsA (ds.map dcName) (parNames ds) = parsA (ds.map dcName) (parNames (ds.drop i)))
        ⟨⟨_, _, _, _, rfl⟩, s1, h1, rfl⟩ (fun i σ' H' _ q => .inl (.inl (q.2.1 t _ ht))) ?_ ?_
      · rintro i x σ' H2 H3 hi ⟨⟨v2, v3, v4, v5, rfl⟩, s2, h2, hp⟩ ⟨rfl, ex⟩
        have hi' : i < ds.length := by omega
        obtain ⟨dc, hdc⟩ : ∃ dc, ds[i]? = some dc := ⟨_, List.getElem?_eq_getElem hi'⟩
        obtain ⟨y', hy', hat⟩ := LiI.paired_get hds hdc
        obtain rfl : y' = x := Option.some.inj (hy'.symm.trans ex)
        have hdrop : ds.drop i = dc :: ds.drop (i + 1) := by
          rw [List.drop_eq_getElem_cons hi']
          rw [List.getElem?_eq_getElem hi'] at hdc
          rw [Option.some.inj hdc]
        refine ⟨_, rfl, y', dc, rfl, hat.same s2, nodd dc (List.mem_of_getElem? hdc), fun H4 s0 sm hs0 hds0 => ?_⟩
        refine ⟨s0, _, rfl, hds0, trivial, fun od => ?_⟩
        have q0 : d0 ≠ s0 := ne_of_none h2 hs0
        have hfl : (spotsK (dcMs dc)).length = (dcMs dc).length := by
          have := congrArg List.length (dc_keys hat)
          rw [List.length_map, List.length_map] at this
          exact this
        refine ⟨s0, od, rfl, .inl ⟨_, upd_same, ?_⟩⟩
        refine for_it walk_keys (fun j σ' H' => (∃ v2 v3 v4 v5, σ' = [some (.ref t), some (.ref d0), v2, v3, v4, v5]) ∧ Same H H' ∧ H' d0 = some (.dK (knownD (ds.map dcName))) ∧ H' s0 = some (.frz od (.dK (spotsK (dcMs dc)))) ∧
            parsA (ds.map dcName) (parNames ds) = parsA (ds.map dcName) (((dcMs dc).map (·.1)).drop j ++ parNames (ds.drop (i + 1))))
          ⟨⟨_, _, _, _, rfl⟩, (s2.trans sm).old (s2.free hs0), by rw [upd_ne q0]; exact sm d0 _ h2, upd_same, by rw [hp, hdrop]; rfl⟩ (fun j σ' H' _ q => q.2.2.2.1) ?_ ?_
        · rintro j x σ' H5 H6 hj ⟨⟨v2, v3, v4, v5, rfl⟩, s5, h5, f5, p5⟩ ⟨rfl, kk, vv, ekv, rfl⟩
          have hj' : j < (dcMs dc).length := by omega
          obtain ⟨q, hq⟩ : ∃ q, (dcMs dc)[j]? = some q := ⟨_, List.getElem?_eq_getElem hj'⟩
          have hk : kk = Sum.inr q.1 := by
            have e1 : ((spotsK (dcMs dc)).map (·.1))[j]? = some kk := by rw [List.getElem?_map, ekv]; rfl
            rw [dc_keys hat, List.getElem?_map, hq] at e1
            exact (Option.some.inj e1).symm
          subst hk
          have oz := dc_pars hat q (List.mem_of_getElem? hq)
          have hdj : ((dcMs dc).map (·.1)).drop j = q.1 :: ((dcMs dc).map (·.1)).drop (j + 1) := by
            have hl2 : j < ((dcMs dc).map (·.1)).length := by rw [List.length_map]; exact hj'
            rw [List.drop_eq_getElem_cons hl2]
            rw [List.getElem?_eq_getElem hj'] at hq
            rw [List.getElem_map, Option.some.inj hq]
          rw [hdj] at p5
          refine ⟨_, rfl, _, rfl, d0, _, rfl, DGet.k (k := Sum.inr q.1) h5, _, rfl, ?_⟩
          rw [valV_known]
          by_cases hk : q.1 ∈ ds.map dcName
          · rw [decide_eq_true hk]
            refine iteT ⟨_, rfl, ?_⟩
            refine iw_end rfl (sN.same s5) (.str _ oz.1 oz.2.2) (by show 2 ≤ 1000; decide) fun d hd => ?_
            refine k1 "name" _ ?_ _ d (s5.new hd) (s5.free hd) upd_same
            rw [hdue, p5]
            show (if q.1 ∈ ds.map dcName then _ else _) = _
            rw [if_pos hk]
            rfl
          · rw [decide_eq_false hk]
            refine iteF ⟨⟨_, _, _, _, rfl⟩, s5, h5, f5, ?_⟩
            rw [p5]
            show (if q.1 ∈ ds.map dcName then _ else _) = _
            rw [if_neg hk]
            rfl
        · rintro σ' H5 ⟨⟨v2, v3, v4, v5, rfl⟩, s5, h5, f5, p5⟩
          refine ⟨⟨_, _, _, _, rfl⟩, s5, h5, ?_⟩
          rw [p5, hfl, List.drop_of_length_le (by rw [List.length_map]; exact Nat.le_refl _)]
          rfl
      · rintro σ' H2 ⟨⟨v2, v3, v4, v5, rfl⟩, s2, h2, hp⟩
        rw [← hl, List.drop_length] at hp
        exact k0 (hdue.trans hp) H2 s2
end
end K5

/-! ==== P5k ==== -/
set_option Elab.async false
set_option linter.all false
set_option maxRecDepth 100000
set_option maxHeartbeats 4000000
/-! k05: marks_of, tuples_of, signatures_of. -/
namespace K5
open PySem PySem.Spec PyProof.Rows L2 StX ClX SuX Sh KwX TuI D2X NkX
theorem pe_no {X : Cx} {e : Expr} : PE X e (fun _ _ _ => False) := ⟨fun _ _ _ _ _ _ h => h.elim⟩
theorem pi_no {X : Cx} {tg e : Expr} : PI X tg e (fun _ _ _ => False) := ⟨fun _ _ _ _ _ _ h => h.elim⟩
theorem pg_no {X : Cx} {tg : Expr} : PG X tg (fun _ _ _ _ => False) := ⟨fun _ _ _ _ _ _ _ _ _ h => h.elim⟩
def spMarksOf (K : PySem.W.Frag) (KC RC : Addr) : Sp := fun vs H Q _ => ∃ v d, vs = [v] ∧ DcAt K KC RC H d v ∧ (∀ u, d ≠ .odd u) ∧ ∀ H' t, Same H H' → Q (.ref t) H'
section
variable {P : Program} {w : World} {K : PySem.W.Frag} {mg : Str → Option Value} {base : Heap} {KC RC : Addr}
abbrev nMarksOf : List Str := ["declaration", "_", "mark"]
theorem scMarksOf : FnScope nMarksOf ["declaration"] (defScope sMarksOf) := ⟨rfl, rfl, rfl, by decide +kernel, rfl, by decide +kernel, by decide +kernel⟩
theorem ok_marksof {f : Addr} {fd : FuncData} (F : Fun K "marks_of" "marks_of" sMarksOf f fd) (B : Blt mg) (W : Blw mg) (D : DK P w K mg base KC RC) : FnOk P w K mg base CX0 3 f fd ["declaration"] (spMarksOf K KC RC) := by
  refine F.ok scMarksOf (fun vs H Q E h => ?_) (fun cdv A outer s H vs Q E hr h => ?_)
  · obtain ⟨v, d, rfl, _⟩ := h
    rfl
  · obtain ⟨v, d, rfl, hd, no, k⟩ := h
    refine ⟨_, pss_cons (ps_if (pt_not (pt_val (pe_callB call_isi (by rfl) B.isinstance (by decide +kernel) (pa_cons (pv 0) (pa_cons (pe_glob (v := .ref RC) rfl D.gr rfl) pa_nil))))) (pss_one (ps_ret (pe_tup pa_nil))) pss_nil)
      (pss_one (ps_ret (pe_callTy call_tuple_of (by rfl) W.tuple (by decide +kernel) (pa_cons (pe_lc (own := [("_", 1), ("mark", 2)]) (g := gTup K 2 (gCons (gName 1) (gCons (gName 2) gNil))) (tt := tYes) rfl scMarksOf.nd
        (pi_tup (pe_prp (fld := "_marks") D.marks hr (pv 0))) (blkOk_by (N := nMarksOf) (sc := defScope sMarksOf) (by decide +kernel))
        (fun _ _ _ _ _ => pg_tup rfl (pgs_cons (pg_name (i := 1) scMarksOf.nd rfl (Or.inl rfl)) (pgs_cons (pg_name (i := 2) scMarksOf.nd rfl (Or.inl rfl)) pgs_nil)))
        (fun _ _ _ _ _ => pts_nil) (fun _ _ _ _ _ => pv 2)) pa_nil)))), ?_⟩
    cases d with
    | odd u => exact absurd rfl (no u)
    | kind z =>
      obtain ⟨a, rfl, ⟨dx, m, ha, hm⟩, oz⟩ := hd
      refine ⟨_, rfl, _, _, _, _, false, rfl, .own RC, D.kind.ty ha, D.kr, _, rfl, iteT ?_⟩
      refine ⟨by show 0 ≤ sizeLine; exact Nat.zero_le _, fun t ht => k _ t ((Same.refl H).new ht)⟩
    | role z ms =>
      obtain ⟨a, rfl, ⟨dx, m, t, ha, hm, ts, ht, hts⟩, oz, okm, kwo⟩ := hd
      refine ⟨_, rfl, _, _, _, _, true, rfl, .own RC, D.role.ty ha, D.rr, _, rfl, iteF ?_⟩
      refine ⟨_, rfl, a, RC, dx, _, _, rfl, ha, by simp, rfl, t, rfl, ⟨ts.map V.ref, .inl (.inl ht)⟩, fun dd hdd => ?_⟩
      have hl : ts.length = ms.length := Paired.length hts
      have two := kwo.two
      rw [List.length_map] at two
      refine lc_it (walk_tup (xs := ts.map V.ref)) (fun i H' => Same H H' ∧ ∃ acc, H' dd = some (.lst acc) ∧ acc.length = i) ⟨(Same.refl H).new hdd, [], upd_same, rfl⟩ (fun i H' _ q => .inl (.inl (q.1 t _ ht))) ?_ ?_
      · rintro i x H1 H2 hi ⟨s1, acc, h1, hacc⟩ ⟨rfl, ex⟩
        rw [List.length_map] at hi
        obtain ⟨ti, hti⟩ : ∃ ti, ts[i]? = some ti := ⟨_, List.getElem?_eq_getElem hi⟩
        rw [List.getElem?_map, hti] at ex
        obtain rfl : V.ref ti = x := Option.some.inj ex
        obtain ⟨q, hq, htq⟩ := LiI.paired_get hts hti
        refine ⟨ti, _, rfl, .inl (.inl (s1 ti _ htq)), rfl, _, _, rfl, _, _, rfl, ⟨rfl, rfl, ?_⟩⟩
        refine ⟨_, rfl, acc, h1, by rw [hacc, sizeLine_eq]; omega, s1.old hdd, acc ++ [V.str q.2], upd_same, by rw [List.length_append, hacc]; rfl⟩
      · rintro H1 ⟨s1, acc, h1, hacc⟩
        exact ⟨dd, acc, rfl, .inl ⟨.inl (.inl h1), fun l hl => k _ l (s1.new hl)⟩⟩
end
end K5

/-! ==== P5l ==== -/
set_option Elab.async false
set_option linter.all false
set_option maxRecDepth 100000
set_option maxHeartbeats 4000000
/-! k05: tuples_of, signatures_of. -/
namespace L2
open PySem PySem.Spec PyProof.Rows
/-- any loop over a walk, by its turns: Pv by the turn and the heap -/
theorem it_gen {J : It} {n : Nat} {G : Hp → Prop} {Y : Nat → Hp → V → Hp → Prop} (wk : Walk J n G Y) {F : (Hp → Prop) → V → Hp → Prop} {H0 : Hp} {Qd : Hp → Prop} (Pv : Nat → Hp → Prop) (h0 : Pv 0 H0) (hG : ∀ i H, i ≤ n → Pv i H → G H)
    (hs : ∀ i x H H', i < n → Pv i H → Y i H x H' → F (Pv (i + 1)) x H') (hd : ∀ H, Pv n H → Qd H) :
    ∃ W : Nat → Nat → Hp → Prop, (∃ m, W 0 m H0) ∧ ∀ i m H, W i m H → (J.stop i H ∧ Qd H) ∨ (J.go i H ∧ ∃ Nx : Hp → Prop, (∀ H', Nx H' → ∃ m', m' < m ∧ W (i + 1) m' H') ∧ ∀ x H', J.yld i H x H' → F Nx x H') := by
  refine ⟨fun i m H => i + m = n ∧ Pv i H, ⟨n, Nat.zero_add n, h0⟩, fun i m H ⟨hm, p⟩ => ?_⟩
  have g := hG i H (by omega) p
  rcases Nat.eq_zero_or_pos m with e | e
  · subst e
    obtain rfl : i = n := hm
    exact .inl ⟨wk.stops H g, hd H p⟩
  · have hi : i < n := by omega
    exact .inr ⟨wk.goes i H hi g, Pv (i + 1), fun H' p' => ⟨m - 1, by omega, by omega, p'⟩, fun x H' y => hs i x H H' hi p (wk.yields i H x H' hi g y)⟩
end L2
namespace K5
open PySem PySem.Spec PyProof.Rows L2 StX ClX SuX Sh KwX TuI D2X NkX
/-- a list of tuples of texts -/
def RowAt (H : Hp) (r : Addr) (es : List (Addr × List Str)) : Prop := H r = some (.lst (es.map fun e => V.ref e.1)) ∧ ∀ e ∈ es, H e.1 = some (.tup (e.2.map V.str))
theorem RowAt.same {H H' : Hp} {r : Addr} {es : List (Addr × List Str)} (s : Same H H') (k : RowAt H r es) : RowAt H' r es := ⟨s _ _ k.1, fun e he => s _ _ (k.2 e he)⟩
/-- such a list as it grows at D -/
def RowOf (H : Hp) (D : Addr) (n : Nat) (H' : Hp) : Prop := Same H H' ∧ ∃ es, RowAt H' D es ∧ es.length = n
theorem RowOf.zero {H : Hp} {D : Addr} (hD : H D = none) : RowOf H D 0 (upd H D (.lst [])) := ⟨(Same.refl H).new hD, [], ⟨upd_same, fun _ h => nomatch h⟩, rfl⟩
theorem RowOf.grow {H H' : Hp} {D t : Addr} {n : Nat} {ts : List Str} (hD : H D = none) (k : RowOf H D n H') (ht : H' t = none) (hn : n < 1000) :
    ∃ acc, upd H' t (.tup (ts.map V.str)) D = some (.lst acc) ∧ acc.length < sizeLine ∧ RowOf H D (n + 1) (upd (upd H' t (.tup (ts.map V.str))) D (.lst (acc ++ [V.ref t]))) := by
  obtain ⟨s1, es, ⟨h1, h2⟩, hl⟩ := k
  have nt : D ≠ t := ne_of_none h1 ht
  refine ⟨_, by rw [upd_ne nt]; exact h1, by rw [List.length_map, hl, sizeLine_eq]; omega, (s1.new ht).old hD, es ++ [(t, ts)], ⟨by rw [upd_same, List.map_append]; rfl, fun e he => ?_⟩, by rw [List.length_append, hl]; rfl⟩
  rcases List.mem_append.mp he with he | he
  · have e1 := h2 e he
    have q1 : e.1 ≠ D := fun z => by rw [z, h1] at e1; cases e1
    rw [upd_ne q1, upd_ne (ne_of_none e1 ht)]
    exact e1
  · rw [List.mem_singleton.mp he, upd_ne (Ne.symm nt), upd_same]
def spTuples : Sp := fun vs H Q _ => ∃ (r : Addr) (zs : List Str), vs = [.ref r] ∧ H r = some (.lst (zs.map V.str)) ∧ zs.length ≤ 12 ∧
  ∀ H' T (rows : List (Addr × List (Addr × List Str))), Same H H' → H' T = some (.tup (rows.map fun r => V.ref r.1)) → (∀ row ∈ rows, RowAt H' row.1 row.2 ∧ row.2.length ≤ 144) → rows.length = 3 → Q (.ref T) H'
section
variable {P : Program} {w : World} {K : PySem.W.Frag} {mg : Str → Option Value} {base : Heap} {KC RC : Addr}
abbrev nTup : List Str := ["kinds", "kind", "other"]
theorem scTup : FnScope nTup ["kinds"] (defScope sTuples) := ⟨rfl, rfl, rfl, by decide +kernel, rfl, by decide +kernel, by decide +kernel⟩
theorem ok_tuples {f : Addr} {fd : FuncData} (F : Fun K "tuples_of" "tuples_of" sTuples f fd) : FnOk P w K mg base CX0 1 f fd ["kinds"] spTuples := by
  refine F.ok scTup (fun vs H Q E h => ?_) (fun cdv A outer s H vs Q E hr h => ?_)
  · obtain ⟨r, zs, rfl, _⟩ := h
    rfl
  · obtain ⟨r, zs, rfl, hz, hl, k⟩ := h
    refine ⟨_, pss_one (ps_ret (pe_tup (pa_cons (pe_lst (pa_cons (pe_tup pa_nil) pa_nil)) (pa_cons (pe_lc (own := [("kind", 1)]) (g := gName 1) (tt := tYes) rfl scTup.nd (pi_list (pv 0)) (blkOk_by (N := nTup) (sc := defScope sTuples) (by decide +kernel)) (fun _ _ _ _ _ => pg_name (i := 1) scTup.nd rfl (Or.inl rfl)) (fun _ _ _ _ _ => pts_nil) (fun _ _ _ _ _ => pe_tup (pa_cons (pv 1) pa_nil)))
      (pa_cons (pe_lc2 (own := [("kind", 1), ("other", 2)]) (vs1 := [2]) (wi1 := iList K (tVar 0)) (g := gName 1) (g1 := gName 2) (tt := tYes) (tt1 := tYes) rfl scTup.nd (pi_list (pv 0)) (blkOk_by (N := nTup) (sc := defScope sTuples) (by decide +kernel)) (by decide)
        (fun _ _ _ _ _ => pg_name (i := 1) scTup.nd rfl (Or.inl rfl)) (fun _ _ _ _ _ => pts_nil) (fun _ _ _ _ _ => pi_list (pv 0)) (fun _ _ _ _ _ => pg_name (i := 2) scTup.nd rfl (Or.inl rfl)) (fun _ _ _ _ _ => pts_nil)
        (fun _ _ _ _ _ => pe_tup (pa_cons (pv 1) (pa_cons (pv 2) pa_nil)))) pa_nil))))), ?_⟩
    refine ⟨Nat.zero_le _, fun e0 he0 => ⟨by show 1 ≤ sizeLine; decide, fun l0 hl0 => ?_⟩⟩
    have sq : ∀ {H'}, Same H H' → SqL K H' r (zs.map V.str) := fun s1 => .inl (.inl (s1 r _ hz))
    have s0 : Same H (upd (upd H e0 (.tup [])) l0 (.lst [.ref e0])) := ((Same.refl H).new he0).new hl0
    have row0 : RowAt (upd (upd H e0 (.tup [])) l0 (.lst [.ref e0])) l0 [(e0, [])] := ⟨upd_same, fun e he => by
      rw [List.mem_singleton.mp he, upd_ne (ne_of_none upd_same hl0), upd_same]
      rfl⟩
    have item : ∀ {i : Nat} {x : V}, (zs.map V.str)[i]? = some x → ∃ z, x = .str z := fun {i x} ex => by
      rw [List.getElem?_map] at ex
      cases q : zs[i]? with
      | none => rw [q] at ex; cases ex
      | some z => rw [q] at ex; exact ⟨z, (Option.some.inj ex).symm⟩
    refine ⟨_, rfl, r, rfl, ⟨_, sq s0⟩, fun D hD => ?_⟩
    refine it_gen (walk_list (xs := zs.map V.str)) (fun i H' => RowOf (upd (upd H e0 (.tup [])) l0 (.lst [.ref e0])) D i H') (RowOf.zero hD) (fun i H' _ q => sq (s0.trans q.1)) ?_ ?_
    · rintro i x H2 H3 hi hk ⟨rfl, ex⟩
      obtain ⟨z, rfl⟩ := item ex
      rw [List.length_map] at hi
      refine ⟨rfl, _, rfl, by show 1 ≤ sizeLine; decide, fun t ht => ?_⟩
      exact RowOf.grow (ts := [z]) hD hk ht (by omega)
    rintro H2 ⟨s2, es1, row1, hl1⟩
    rw [List.length_map] at hl1
    have s2' := s0.trans s2
    refine ⟨_, rfl, r, rfl, ⟨_, sq s2'⟩, fun D2 hD2 => ?_⟩
    refine it_gen (walk_list (xs := zs.map V.str)) (fun i H' => RowOf H2 D2 (i * zs.length) H') (by rw [Nat.zero_mul]; exact RowOf.zero hD2) (fun i H' _ q => sq (s2'.trans q.1)) ?_ ?_
    · rintro i x H3 H4 hi hk ⟨rfl, ex⟩
      obtain ⟨z, rfl⟩ := item ex
      rw [List.length_map] at hi
      refine ⟨rfl, _, rfl, r, rfl, ⟨_, sq (s2'.trans hk.1)⟩, ?_⟩
      refine it_gen (walk_list (xs := zs.map V.str)) (fun j H' => RowOf H2 D2 (i * zs.length + j) H') hk (fun j H' _ q => sq (s2'.trans q.1)) ?_ ?_
      · rintro j y H5 H6 hj hk5 ⟨rfl, ey⟩
        obtain ⟨y', rfl⟩ := item ey
        rw [List.length_map] at hj
        refine ⟨rfl, _, rfl, _, rfl, by show 2 ≤ sizeLine; decide, fun t ht => ?_⟩
        refine RowOf.grow (ts := [z, y']) hD2 hk5 ht ?_
        have := Nat.mul_le_mul (show i ≤ 11 by omega) hl
        have e : i * zs.length + j < 1000 := by omega
        exact e
      · rintro H5 hk5
        rw [List.length_map] at hk5
        rw [Nat.succ_mul]
        exact hk5
    rintro H3 ⟨s3, es2, row2, hl2⟩
    rw [List.length_map] at hl2
    refine ⟨by show 3 ≤ sizeLine; decide, fun T hT => ?_⟩
    have s3' := s2'.trans s3
    refine k _ T [(l0, [(e0, [])]), (D, es1), (D2, es2)] (s3'.new hT) (by rw [upd_same]; rfl) (fun row hrow => ?_) rfl
    have g : Same H3 (upd H3 T (.tup [.ref l0, .ref D, .ref D2])) := (Same.refl H3).new hT
    have hsq : zs.length * zs.length ≤ 144 := Nat.le_trans (Nat.mul_le_mul hl hl) (by decide)
    rcases List.mem_cons.mp hrow with rfl | hrow
    · exact ⟨(row0.same (s2.trans s3)).same g, by show 1 ≤ 144; decide⟩
    rcases List.mem_cons.mp hrow with rfl | hrow
    · exact ⟨(row1.same s3).same g, by show es1.length ≤ 144; omega⟩
    rw [List.mem_singleton.mp hrow]
    exact ⟨row2.same g, by show es2.length ≤ 144; omega⟩
def spSigs (K : PySem.W.Frag) (KC RC : Addr) : Sp := fun vs H Q _ => ∃ (t : Addr) (xs : List V) (ds : List Dc), vs = [.ref t] ∧ H t = some (.tup xs) ∧ Paired (fun d v => DcAt K KC RC H d v) ds xs ∧ (∀ d ∈ ds, ∀ u, d ≠ .odd u) ∧
  ∀ H' l, Same H H' → H l = none → H' l = some (.lst []) → Q (.ref l) H'
abbrev nSigs : List Str := ["declarations", "found", "declaration", "method", "name", "many", "each"]
theorem scSigs : FnScope nSigs ["declarations"] (defScope sSigs) := ⟨rfl, rfl, rfl, by decide +kernel, rfl, by decide +kernel, by decide +kernel⟩
theorem ok_sigs {f : Addr} {fd : FuncData} (F : Fun K "signatures_of" "signatures_of" sSigs f fd) (B : Blt mg) (W : Blw mg) (D : DK P w K mg base KC RC) : FnOk P w K mg base CX0 3 f fd ["declarations"] (spSigs K KC RC) := by
  refine F.ok scSigs (fun vs H Q E h => ?_) (fun cdv A outer s H vs Q E hr h => ?_)
  · obtain ⟨t, xs, ds, rfl, _⟩ := h
    rfl
  · obtain ⟨t, xs, ds, rfl, ht, hds, nodd, k⟩ := h
    refine ⟨_, pss_cons (ps_set (i := 1) scSigs.nd rfl (Or.inr rfl) pe_dnewK)
      (pss_cons (ps_for PassesOwn.never rfl (pi_tup (pv 0)) (pg_name (i := 2) scSigs.nd rfl (Or.inl rfl))
        (pss_one (ps_for PassesOwn.never rfl (pi_tup (pe_prp (fld := "_methods") D.methods hr (pv 2))) (pg_name (i := 3) scSigs.nd rfl (Or.inl rfl)) pss_never)))
      (pss_one (ps_ret (pe_lc2 (own := [("name", 4), ("many", 5)]) (vs1 := [5]) (wi1 := fun _ _ _ => False) (g := gName 4) (g1 := gName 5) (tt := tYes) (tt1 := tYes) (te := fun _ _ _ => False) rfl scSigs.nd
        (pi_list (pe_callB cr_sortedS (by rfl) W.sorted (by decide +kernel) (pa_cons (pe_lc (own := [("each", 6)]) (g := gName 6) (tt := tYes) rfl scSigs.nd (pi_keys (pe_frz (pv 1))) (blkOk_by (N := nSigs) (sc := defScope sSigs) (by decide +kernel)) (fun _ _ _ _ _ => pg_name (i := 6) scSigs.nd rfl (Or.inl rfl)) (fun _ _ _ _ _ => pts_nil)
          (fun _ _ _ _ _ => pe_callTy SkE.call_str_str (by rfl) B.str (by decide +kernel) (pa_cons (pv 6) pa_nil))) pa_nil)))
        (blkOk_by (N := nSigs) (sc := defScope sSigs) (by decide +kernel)) (by decide)
        (fun _ _ _ _ _ => pg_name (i := 4) scSigs.nd rfl (Or.inl rfl)) (fun _ _ _ _ _ => pts_nil) (fun _ _ _ _ _ => pi_no) (fun _ _ _ _ _ => pg_name (i := 5) scSigs.nd rfl (Or.inl rfl)) (fun _ _ _ _ _ => pts_nil) (fun _ _ _ _ _ => pe_no))))), ?_⟩
    intro d0 hd0
    have hl : ds.length = xs.length := Paired.length hds
    have s0 : Same H (upd H d0 (.dK [])) := (Same.refl H).new hd0
    refine ⟨_, rfl, t, rfl, ⟨xs, .inl (.inl (s0 t _ ht))⟩, ?_⟩
    refine for_it (walk_tup (xs := xs)) (fun i σ' H' => (∃ v2 v3 v4 v5 v6, σ' = [some (.ref t), some (.ref d0), v2, v3, v4, v5, v6]) ∧ H' = upd H d0 (.dK [])) ⟨⟨_, _, _, _, _, rfl⟩, rfl⟩ (fun i σ' H' _ q => by rw [q.2]; exact .inl (.inl (s0 t _ ht))) ?_ ?_
    · rintro i x σ' H2 H3 hi ⟨⟨v2, v3, v4, v5, v6, rfl⟩, rfl⟩ ⟨rfl, ex⟩
      have hi' : i < ds.length := by omega
      obtain ⟨dc, hdc⟩ : ∃ dc, ds[i]? = some dc := ⟨_, List.getElem?_eq_getElem hi'⟩
      obtain ⟨y', hy', hat⟩ := LiI.paired_get hds hdc
      obtain rfl : y' = x := Option.some.inj (hy'.symm.trans ex)
      obtain ⟨a, C, dx, m, fs, rfl, ha, hC, l1, l2, hm, oz⟩ := dc_fact (hat.same s0) (nodd dc (List.mem_of_getElem? hdc))
      refine ⟨_, rfl, a, C, dx, fs, _, rfl, ha, by rcases hC with rfl | rfl <;> simp, l2, m, rfl, ⟨[], .inl (.inl hm)⟩, ?_⟩
      refine for_it (walk_tup (xs := [])) (fun j σ' H' => (∃ v2 v3 v4 v5 v6, σ' = [some (.ref t), some (.ref d0), v2, v3, v4, v5, v6]) ∧ H' = upd H d0 (.dK [])) ⟨⟨_, _, _, _, _, rfl⟩, rfl⟩ (fun i σ' H' _ q => by rw [q.2]; exact .inl (.inl hm)) (fun j _ _ _ _ hj => absurd hj (Nat.not_lt_zero _)) ?_
      rintro σ' H' ⟨⟨v2, v3, v4, v5, v6, rfl⟩, rfl⟩
      exact ⟨⟨_, _, _, _, _, rfl⟩, rfl⟩
    · rintro σ' H2 ⟨⟨v2, v3, v4, v5, v6, rfl⟩, rfl⟩
      refine ⟨_, rfl, d0, _, rfl, upd_same, trivial, fun od => ⟨d0, od, rfl, .inl ⟨[], upd_same, fun D2 hD2 => ?_⟩⟩⟩
      have nd2 : d0 ≠ D2 := ne_of_none upd_same hD2
      refine it_gen (walk_keys (d := d0) (o := od) (kvs := [])) (fun _ H' => H' = upd (upd (upd H d0 (.dK [])) d0 (.frz od (.dK []))) D2 (.lst [])) rfl (fun _ _ _ q => by rw [q, upd_ne nd2, upd_same]) (fun j _ _ _ hj => absurd hj (Nat.not_lt_zero _)) ?_
      rintro H3 rfl
      refine ⟨D2, [], rfl, .inl (.inl upd_same), by decide, fun ys p perm _ hp => ?_⟩
      obtain rfl : ys = [] := List.Perm.eq_nil perm
      refine ⟨p, rfl, ⟨[], .inl (.inl upd_same)⟩, fun D3 hD3 => ?_⟩
      have np : p ≠ D3 := ne_of_none upd_same hD3
      refine it_gen (walk_list (xs := [])) (fun _ H' => H' = upd (upd (upd (upd (upd H d0 (.dK [])) d0 (.frz od (.dK []))) D2 (.lst [])) p (.lst [])) D3 (.lst [])) rfl (fun _ _ _ q => by rw [q]; exact .inl (.inl (by rw [upd_ne np, upd_same]))) (fun j _ _ _ hj => absurd hj (Nat.not_lt_zero _)) ?_
      rintro H3 rfl
      refine k _ D3 (((((s0.old hd0).new hD2).new hp).new hD3)) ?_ upd_same
      exact ((((s0.old hd0).new hD2).new hp).free hD3)
end
end K5

/-! ==== P5m ==== -/
set_option Elab.async false
set_option linter.all false
set_option maxRecDepth 100000
set_option maxHeartbeats 4000000
/-! k05: Plan made. -/
namespace K5
open PySem PySem.Spec PyProof.Rows L2 StX ClX SuX Sh KwX TuI D2X NkX
abbrev nPlan : List Str := ["self", "declarations", "declaration", "kind", "rank", "number", "pair", "row", "spot", "kinds"]
def kindsOf : List Dc → List Str
  | [] => []
  | .kind z :: r => z :: kindsOf r
  | _ :: r => kindsOf r
def PlanAt (C : Addr) (H : Hp) (x : Addr) (zs : List Str) : Prop := ∃ dx fs r, H x = some (.ins C dx fs) ∧ fs.lookup ("ranked" : Str) = some (.ref r) ∧ H r = some (.lst (zs.map V.str))
def spPlan (K : PySem.W.Frag) (KC RC PC : Addr) : Sp := fun vs H Q _ => ∃ (a dx t : Addr) (xs : List V) (ds : List Dc), vs = [.ref a, .ref t] ∧ H a = some (.ins PC dx []) ∧ H t = some (.tup xs) ∧ Paired (fun d v => DcAt K KC RC H d v) ds xs ∧ (∀ d ∈ ds, ∀ u, d ≠ .odd u) ∧ ds.length ≤ 20 ∧ (kindsOf ds).length ≤ 12 ∧
  ∀ H' zs, But a H H' → PlanAt PC H' a zs → zs.Perm (kindsOf ds) → Q .non H'
/-- a made instance as it grows -/
def Pl (H : Hp) (a C dx : Addr) (fs : List (Str × V)) (H' : Hp) : Prop := But a H H' ∧ H' a = some (.ins C dx fs)
theorem Pl.new {H H' : Hp} {a C dx p : Addr} {fs : List (Str × V)} {o : HO} (k : Pl H a C dx fs H') (hp : H' p = none) : Pl H a C dx fs (upd H' p o) := ⟨k.1.new hp, by rw [upd_ne (ne_of_none k.2 hp)]; exact k.2⟩
theorem Pl.same {H H' H2 : Hp} {a C dx : Addr} {fs : List (Str × V)} (k : Pl H a C dx fs H') (s : Same H' H2) : Pl H a C dx fs H2 := ⟨k.1.same s, s _ _ k.2⟩
theorem Pl.put {H H' : Hp} {a C dx : Addr} {fs fs' : List (Str × V)} (k : Pl H a C dx fs H') : Pl H a C dx fs' (upd H' a (.ins C dx fs')) := ⟨k.1.at_, upd_same⟩
theorem Pl.mut {H H' : Hp} {a C dx d : Addr} {fs : List (Str × V)} {o : HO} (k : Pl H a C dx fs H') (hd : H d = none) (ne : d ≠ a) : Pl H a C dx fs (upd H' d o) :=
  ⟨fun b u hb e => by rw [upd_ne (ne_of_none e hd)]; exact k.1 b u hb e, by rw [upd_ne (Ne.symm ne)]; exact k.2⟩
/-- nothing but the instance is written -/
theorem But.off {H H' : Hp} {a C dx : Addr} {b : Addr} {o : HO} (k : But a H H') (ha : H a = some (.ins C dx [])) (e : H b = some o) (ne : o ≠ .ins C dx []) : H' b = some o := k b o (fun z => ne (by rw [z, ha] at e; exact (Option.some.inj e).symm)) e
theorem DcAt.but {K : PySem.W.Frag} {KC RC C dx a : Addr} {H H' : Hp} (k : But a H H') (ha : H a = some (.ins C dx [])) : ∀ {d : Dc} {v : V}, (∀ u, d ≠ .odd u) → DcAt K KC RC H d v → DcAt K KC RC H' d v
  | .kind _, _, _, ⟨x, e, ⟨dx', m, h1, h2⟩, o⟩ => ⟨x, e, ⟨dx', m, k.off ha h1 (fun z => by injection z with _ _ z; cases z), k.off ha h2 (fun z => by cases z)⟩, o⟩
  | .role _ _, _, _, ⟨x, e, ⟨dx', m, t, h1, h2, ts, h3, h4⟩, o⟩ => ⟨x, e, ⟨dx', m, t, k.off ha h1 (fun z => by injection z with _ _ z; cases z), k.off ha h2 (fun z => by cases z), ts, k.off ha h3 (fun z => by cases z),
      PySem.Paired.mono (fun x q e => k.off ha e (fun z => by cases z)) h4⟩, o⟩
  | .odd u, _, no, _ => absurd rfl (no u)
theorem pair_but {K : PySem.W.Frag} {KC RC C dx a : Addr} {H H' : Hp} (k : But a H H') (ha : H a = some (.ins C dx [])) : ∀ {ds : List Dc} {xs : List V}, (∀ d ∈ ds, ∀ u, d ≠ .odd u) → Paired (fun d v => DcAt K KC RC H d v) ds xs → Paired (fun d v => DcAt K KC RC H' d v) ds xs
  | _, _, _, .nil => .nil
  | _, _, no, .cons h r => .cons (h.but k ha (no _ (by simp))) (pair_but k ha (fun d hd => no d (List.mem_cons_of_mem _ hd)) r)
theorem kindsOf_append : ∀ (a b : List Dc), kindsOf (a ++ b) = kindsOf a ++ kindsOf b
  | [], b => rfl
  | .kind z :: r, b => by show z :: kindsOf (r ++ b) = _; rw [kindsOf_append r b]; rfl
  | .role z ms :: r, b => kindsOf_append r b
  | .odd u :: r, b => kindsOf_append r b
section
variable {P : Program} {w : World} {K : PySem.W.Frag} {mg : Str → Option Value} {base : Heap} {KC RC PC : Addr}
theorem scPlan : FnScope nPlan ["self", "declarations"] (defScope sPlan) := ⟨rfl, rfl, rfl, by decide +kernel, rfl, by decide +kernel, by decide +kernel⟩
theorem ok_plan {f : Addr} {fd : FuncData} (F : Fun K "__init__" "Plan.__init__" sPlan f fd) (B : Blt mg) (W : Blw mg) (M : NmK mg) (D : DK P w K mg base KC RC) (IK : InsK K PC planF) (GM : Got P w K mg base CX0 "marks_of" ["declaration"] 3 (spMarksOf K KC RC))
    (GT : Got P w K mg base CX0 "tuples_of" ["kinds"] 1 spTuples) (GS : Got P w K mg base CX0 "signatures_of" ["declarations"] 3 (spSigs K KC RC)) : FnOk P w K mg base CX0 4 f fd ["self", "declarations"] (spPlan K KC RC PC) := by
  refine F.ok scPlan (fun vs H Q E h => ?_) (fun cdv A outer s H vs Q E hr h => ?_)
  · obtain ⟨a, dx, t, xs, ds, rfl, _⟩ := h
    rfl
  · obtain ⟨a, dx, t, xs, ds, rfl, ha, ht, hds, nodd, h20, h12, k⟩ := h
    obtain ⟨t5, g5⟩ := M.object
    have hu := hu_of hr
    have hr2 := hr.mono (show 2 ≤ 3 by decide)
    refine ⟨_, pss_cons (ps_fld (pv 0) (pe_callTy call_tuple_of (by rfl) W.tuple (by decide +kernel) (pa_cons (pe_lc (own := [("declaration", 2)]) (g := gName 2) (tt := tB (tCB (rIsi K) (tCons (tVar 2) (tCons (tC (.ref KC)) tNil)))) rfl scPlan.nd (pi_tup (pv 1)) (blkOk_by (N := nPlan) (sc := defScope sPlan) (by decide +kernel))
          (fun _ _ _ _ _ => pg_name (i := 2) scPlan.nd rfl (Or.inl rfl)) (fun _ _ _ _ _ => pts_one (pt_val (pe_callB call_isi (by rfl) B.isinstance (by decide +kernel) (pa_cons (pv 2) (pa_cons (pe_glob (v := .ref KC) rfl D.gk rfl) pa_nil))))) (fun _ _ _ _ _ => pe_prp (fld := "_name") D.name hr2 (pv 2))) pa_nil)) rfl)
      (pss_cons (ps_fld (pv 0) (pe_callB cr_sortedS (by rfl) W.sorted (by decide +kernel) (pa_cons (pe_lc (own := [("kind", 3)]) (g := gName 3) (tt := tYes) rfl scPlan.nd (pi_tup (pe_fld (pv 0) rfl)) (blkOk_by (N := nPlan) (sc := defScope sPlan) (by decide +kernel))
          (fun _ _ _ _ _ => pg_name (i := 3) scPlan.nd rfl (Or.inl rfl)) (fun _ _ _ _ _ => pts_nil) (fun _ _ _ _ _ => pe_callTy SkE.call_str_str (by rfl) B.str (by decide +kernel) (pa_cons (pv 3) pa_nil))) pa_nil)) rfl)
      (pss_cons (ps_fld (pv 0) (pe_dc (own := [("rank", 4), ("kind", 3)]) (g := gTup K 2 (gCons (gName 4) (gCons (gName 3) gNil))) (tt := tYes) rfl scPlan.nd (pi_enum rfl W.enumerate (pa_cons (pe_fld (pv 0) rfl) pa_nil)) (blkOk_by (N := nPlan) (sc := defScope sPlan) (by decide +kernel))
          (fun _ _ _ _ _ => pg_tup rfl (pgs_cons (pg_name (i := 4) scPlan.nd rfl (Or.inl rfl)) (pgs_cons (pg_name (i := 3) scPlan.nd rfl (Or.inl rfl)) pgs_nil))) (fun _ _ _ _ _ => pts_nil) (fun _ _ _ _ _ => pv 3) (fun _ _ _ _ _ => pv 4)) rfl)
      (pss_cons (ps_fld (pv 0) (pe_disp (pps_cons (pe_glob (v := .str "Object") rfl g5 ⟨_, rfl⟩) (pe_tup pa_nil) pps_nil) (by rfl) (by rfl) (fun z => by cases z) (by decide)) rfl)
      (pss_cons (ps_fld (pv 0) pe_dnewK rfl)
      (pss_cons (ps_for PassesOwn.never rfl (pi_tup (pv 1)) (pg_name (i := 2) scPlan.nd rfl (Or.inl rfl))
        (pss_cons (ps_dput hu (pe_fld (pv 0) rfl) (pe_prp (fld := "_name") D.name hr2 (pv 2)) (pv 2) rfl)
        (pss_one (ps_dput hu (pe_fld (pv 0) rfl) (pe_prp (fld := "_name") D.name hr2 (pv 2)) (pe_got GM hr (by decide) pass0 (pa_cons (pv 2) pa_nil)) rfl))))
      (pss_cons (ps_fld (pv 0) (pe_got GT hr (by decide) pass0 (pa_cons (pe_fld (pv 0) rfl) pa_nil)) rfl)
      (pss_cons (ps_fld (pv 0) (pe_got GS hr (by decide) pass0 (pa_cons (pv 1) pa_nil)) rfl)
      (pss_cons (ps_fld (pv 0) (pe_dc (own := [("number", 5), ("pair", 6)]) (g := gTup K 2 (gCons (gName 5) (gCons (gName 6) gNil))) (tt := tYes) (tk := fun _ _ _ => False) (tv := fun _ _ _ => False) rfl scPlan.nd (pi_enum rfl W.enumerate (pa_cons (pe_fld (pv 0) rfl) pa_nil)) (blkOk_by (N := nPlan) (sc := defScope sPlan) (by decide +kernel))
          (fun _ _ _ _ _ => pg_tup rfl (pgs_cons (pg_name (i := 5) scPlan.nd rfl (Or.inl rfl)) (pgs_cons (pg_name (i := 6) scPlan.nd rfl (Or.inl rfl)) pgs_nil))) (fun _ _ _ _ _ => pts_nil) (fun _ _ _ _ _ => pe_no) (fun _ _ _ _ _ => pe_no)) rfl)
      (pss_cons (ps_fld (pv 0) (pe_dc2 (own := [("row", 7), ("spot", 8), ("kinds", 9)]) (vs1 := [8, 9]) (g := gName 7) (wi1 := iEnum K (tCons (tVar 7) tNil)) (g1 := gTup K 2 (gCons (gName 8) (gCons (gName 9) gNil))) (tk := tVar 9) (tv := tVar 8) hr.units0 rfl scPlan.nd (pi_tup (pe_fld (pv 0) rfl)) (blkOk_by (N := nPlan) (sc := defScope sPlan) (by decide +kernel)) (by decide)
          (fun _ _ _ _ _ => pg_name (i := 7) scPlan.nd rfl (Or.inl rfl)) (fun _ _ _ _ _ => pi_enum rfl W.enumerate (pa_cons (pv 7) pa_nil))
          (fun _ _ _ _ _ => pg_tup rfl (pgs_cons (pg_name (i := 8) scPlan.nd rfl (Or.inl rfl)) (pgs_cons (pg_name (i := 9) scPlan.nd rfl (Or.inl rfl)) pgs_nil))) (fun _ _ _ _ _ => pv 9) (fun _ _ _ _ _ => pv 8)) rfl)
      (pss_one (ps_fld (pv 0) pe_dnewK rfl))))))))))), ?_⟩
    have hl : ds.length = xs.length := Paired.length hds
    have tt : ∀ {H'}, But a H H' → H' t = some (.tup xs) := fun b => b.off ha ht (fun z => by cases z)
    -- 1: order
    refine ⟨_, rfl, t, rfl, ⟨xs, .inl (.inl ht)⟩, fun D0 hD0 => ?_⟩
    refine it_gen (walk_tup (xs := xs)) (fun i H' => Same H H' ∧ H' D0 = some (.lst ((kindsOf (ds.take i)).map V.str)) ∧ (kindsOf (ds.take i)).length ≤ i) ⟨(Same.refl H).new hD0, upd_same, Nat.le_refl _⟩ (fun i H' _ q => .inl (.inl (q.1 t _ ht))) ?_ ?_
    · rintro i x H2 H3 hi ⟨s2, h2, hkl⟩ ⟨rfl, ex⟩
      have hi' : i < ds.length := by omega
      obtain ⟨dc, hdc⟩ : ∃ dc, ds[i]? = some dc := ⟨_, List.getElem?_eq_getElem hi'⟩
      obtain ⟨y', hy', hat⟩ := LiI.paired_get hds hdc
      obtain rfl : y' = x := Option.some.inj (hy'.symm.trans ex)
      have tk : ds.take (i + 1) = ds.take i ++ [dc] := by rw [List.take_succ, hdc]; rfl
      rw [tk, kindsOf_append]
      have hat2 := hat.same s2
      cases dc with
      | odd u => exact absurd rfl (nodd _ (List.mem_of_getElem? hdc) u)
      | kind z =>
        obtain ⟨b, rfl, ⟨dx', m, hb, hm⟩, oz⟩ := hat2
        refine ⟨rfl, _, rfl, _, _, _, _, true, rfl, .own KC, D.kind.ty hb, D.kk, _, rfl, iteT ?_⟩
        refine ⟨_, rfl, b, KC, dx', _, _, rfl, hb, by simp, rfl, _, h2, by rw [List.length_map, sizeLine_eq]; omega, s2.old hD0, by rw [upd_same, List.map_append]; rfl, by rw [List.length_append]; show _ + 1 ≤ _; omega⟩
      | role z ms =>
        obtain ⟨b, rfl, ⟨dx', m, tm, hb, hm, hmk⟩, oz⟩ := hat2
        refine ⟨rfl, _, rfl, _, _, _, _, false, rfl, .own KC, D.role.ty hb, D.rk, _, rfl, iteF ?_⟩
        have e0 : kindsOf [Dc.role z ms] = [] := rfl
        rw [e0, List.append_nil]
        exact ⟨s2, h2, by omega⟩
    rintro H1 ⟨s1, h1, _⟩
    rw [← hl, List.take_length] at h1
    refine ⟨D0, _, rfl, .inl ⟨.inl (.inl h1), fun o1 ho1 => ?_⟩⟩
    refine ⟨_, rfl, a, PC, dx, [], rfl, (s1.new ho1) a _ ha, IK.cls, IK.no _ (by simp), by decide, ?_⟩
    have p1 : Pl H a PC dx (putF "order" (.ref o1) []) (upd (upd H1 o1 (.tup ((kindsOf ds).map V.str))) a (.ins PC dx (putF "order" (.ref o1) []))) := Pl.put (fs := []) ⟨fun b o _ e => s1.new ho1 b o e, s1.new ho1 a _ ha⟩
    have oa : o1 ≠ a := fun z => by rw [z, s1 a _ ha] at ho1; cases ho1
    have ho : upd (upd H1 o1 (.tup ((kindsOf ds).map V.str))) a (.ins PC dx (putF "order" (.ref o1) [])) o1 = some (.tup ((kindsOf ds).map V.str)) := by rw [upd_ne oa, upd_same]
    generalize hG : upd (upd H1 o1 (.tup ((kindsOf ds).map V.str))) a (.ins PC dx (putF "order" (.ref o1) [])) = G1 at p1 ho
    clear hG
    -- 2: ranked
    refine ⟨_, rfl, a, PC, dx, _, _, rfl, p1.2, IK.cls, IK.no _ (by simp), rfl, o1, rfl, ⟨_, .inl (.inl ho)⟩, fun D1 hD1 => ?_⟩
    refine it_gen (walk_tup (xs := (kindsOf ds).map V.str)) (fun i H' => Same G1 H' ∧ H' D1 = some (.lst (((kindsOf ds).take i).map V.str))) ⟨(Same.refl G1).new hD1, upd_same⟩ (fun i H' _ q => .inl (.inl (q.1 o1 _ ho))) ?_ ?_
    · rintro i x H2 H3 hi ⟨s2, h2⟩ ⟨rfl, ex⟩
      rw [List.length_map] at hi
      obtain ⟨z, hz⟩ : ∃ z, (kindsOf ds)[i]? = some z := ⟨_, List.getElem?_eq_getElem hi⟩
      rw [List.getElem?_map, hz] at ex
      obtain rfl : V.str z = x := Option.some.inj ex
      refine ⟨rfl, _, rfl, z, rfl, _, h2, by rw [List.length_map, List.length_take, sizeLine_eq]; omega, s2.old hD1, ?_⟩
      rw [upd_same, List.take_succ, hz, List.map_append]
      rfl
    rintro H2 ⟨s2, h2⟩
    rw [List.length_map, List.take_length] at h2
    refine ⟨D1, kindsOf ds, rfl, .inl (.inl h2), by omega, fun zs r perm _ hr1 => ?_⟩
    have zl : zs.length ≤ 12 := by rw [perm.length_eq]; exact h12
    have p2 := (p1.same s2).new (o := .lst (zs.map V.str)) hr1
    have ra : r ≠ a := fun z => by rw [z, (p1.same s2).2] at hr1; cases hr1
    have Hr : H r = none := by
      cases q : H r with
      | none => rfl
      | some o => have := (p1.same s2).1 r o ra q; rw [this] at hr1; cases hr1
    refine ⟨_, rfl, a, PC, dx, _, rfl, p2.2, IK.cls, IK.no _ (by simp), by show 1 < 1000; decide, ?_⟩
    have p3 := Pl.put (fs' := putF "ranked" (.ref r) (putF "order" (.ref o1) [])) p2
    have hr3 : upd (upd H2 r (.lst (zs.map V.str))) a (.ins PC dx (putF "ranked" (.ref r) (putF "order" (.ref o1) []))) r = some (.lst (zs.map V.str)) := by rw [upd_ne ra, upd_same]
    generalize upd (upd H2 r (.lst (zs.map V.str))) a (.ins PC dx (putF "ranked" (.ref r) (putF "order" (.ref o1) []))) = G2 at p3 hr3
    -- 3: ranks
    refine ⟨_, rfl, a, PC, dx, _, _, rfl, p3.2, IK.cls, IK.no _ (by simp), rfl, r, _, rfl, .inl (.inl hr3), fun D3 hD3 => ?_⟩
    refine it_gen (walk_enum (xs := zs.map V.str)) (fun i H' => Same G2 H' ∧ ∃ kvs, H' D3 = some (.dK kvs) ∧ kvs.length ≤ i) ⟨(Same.refl G2).new hD3, [], upd_same, Nat.le_refl _⟩ (fun i H' _ q => .inl (.inl (q.1 r _ hr3))) ?_ ?_
    · rintro i x H2 H3 hi ⟨s2, kvs, h2, hk⟩ ⟨T, x1, y, rfl, hT, rfl, ex, ey⟩
      obtain rfl : V.int (i : Nat) = x1 := Option.some.inj ex
      rw [List.length_map] at hi
      obtain ⟨z, hz⟩ : ∃ z, zs[i]? = some z := ⟨_, List.getElem?_eq_getElem hi⟩
      have ey' : (zs.map V.str)[i]? = some y := ey
      rw [List.getElem?_map, hz] at ey'
      obtain rfl : V.str z = y := Option.some.inj ey'
      have nD : D3 ≠ T := ne_of_none h2 hT
      refine ⟨T, _, rfl, .inl (.inl upd_same), rfl, _, _, rfl, _, _, rfl, ⟨rfl, rfl, _, rfl, _, rfl, kvs, .inr z, rfl, by rw [upd_ne nD]; exact h2, by rw [sizeLine_eq]; omega, (s2.new hT).old hD3, _, upd_same, ?_⟩⟩
      have := length_putK kvs (Sum.inr z) (V.int (i : Nat))
      omega
    rintro H2 ⟨s2, _, h2, _⟩
    have p4 := p3.same s2
    have hr4 := s2 r _ hr3
    refine ⟨_, rfl, a, PC, dx, _, rfl, p4.2, IK.cls, IK.no _ (by simp), by show 2 < 1000; decide, ?_⟩
    have p5 := Pl.put (fs' := putF "ranks" (.ref D3) (putF "ranked" (.ref r) (putF "order" (.ref o1) []))) p4
    have hr5 : upd H2 a (.ins PC dx (putF "ranks" (.ref D3) (putF "ranked" (.ref r) (putF "order" (.ref o1) [])))) r = some (.lst (zs.map V.str)) := by rw [upd_ne ra]; exact hr4
    generalize upd H2 a (.ins PC dx (putF "ranks" (.ref D3) (putF "ranked" (.ref r) (putF "order" (.ref o1) [])))) = G3 at p5 hr5
    -- 4: marked
    intro pm hpm
    refine ⟨Nat.zero_le _, fun t0 ht0 => ?_⟩
    have m0 : pm ≠ t0 := ne_of_none upd_same ht0
    refine ⟨by rw [upd_ne m0, upd_same], [((Sum.inr "Object" : Key), .ref t0)], rfl, by show 1 ≤ 15; decide, ?_⟩
    have p6 := (p5.new (o := .dK []) hpm).new (o := .tup []) ht0
    have ma : pm ≠ a := fun z => by rw [z, p5.2] at hpm; cases hpm
    have Hm : H pm = none := by
      cases q : H pm with
      | none => rfl
      | some o => have := p5.1 pm o ma q; rw [this] at hpm; cases hpm
    have p7 := p6.mut (o := .dK (mergeK [] [((Sum.inr "Object" : Key), .ref t0)])) Hm ma
    have rm : r ≠ pm := fun z => by rw [← z, hr5] at hpm; cases hpm
    have rt0 : r ≠ t0 := fun z => by rw [← z, upd_ne rm, hr5] at ht0; cases ht0
    have hr7 : upd (upd (upd G3 pm (.dK [])) t0 (.tup [])) pm (.dK (mergeK [] [((Sum.inr "Object" : Key), .ref t0)])) r = some (.lst (zs.map V.str)) := by rw [upd_ne rm, upd_ne rt0, upd_ne rm]; exact hr5
    refine ⟨_, rfl, a, PC, dx, _, rfl, p7.2, IK.cls, IK.no _ (by simp), by show 3 < 1000; decide, ?_⟩
    have p8 := Pl.put (fs' := putF "marked" (.ref pm) (putF "ranks" (.ref D3) (putF "ranked" (.ref r) (putF "order" (.ref o1) [])))) p7
    have hr8 : upd (upd (upd (upd G3 pm (.dK [])) t0 (.tup [])) pm (.dK (mergeK [] [((Sum.inr "Object" : Key), .ref t0)]))) a (.ins PC dx (putF "marked" (.ref pm) (putF "ranks" (.ref D3) (putF "ranked" (.ref r) (putF "order" (.ref o1) []))))) r = some (.lst (zs.map V.str)) := by rw [upd_ne ra]; exact hr7
    have hm8 : upd (upd (upd (upd G3 pm (.dK [])) t0 (.tup [])) pm (.dK (mergeK [] [((Sum.inr "Object" : Key), .ref t0)]))) a (.ins PC dx (putF "marked" (.ref pm) (putF "ranks" (.ref D3) (putF "ranked" (.ref r) (putF "order" (.ref o1) []))))) pm = some (.dK (mergeK [] [((Sum.inr "Object" : Key), .ref t0)])) := by rw [upd_ne ma, upd_same]
    generalize upd (upd (upd (upd G3 pm (.dK [])) t0 (.tup [])) pm (.dK (mergeK [] [((Sum.inr "Object" : Key), .ref t0)]))) a (.ins PC dx (putF "marked" (.ref pm) (putF "ranks" (.ref D3) (putF "ranked" (.ref r) (putF "order" (.ref o1) []))))) = G4 at p8 hr8 hm8
    -- 5: _declared
    intro pd hpd
    have p9 := p8.new (o := .dK []) hpd
    have da : pd ≠ a := fun z => by rw [z, p8.2] at hpd; cases hpd
    have Hd : H pd = none := by
      cases q : H pd with
      | none => rfl
      | some o => have := p8.1 pd o da q; rw [this] at hpd; cases hpd
    refine ⟨_, rfl, a, PC, dx, _, rfl, p9.2, IK.cls, IK.no _ (by simp), by show 4 < 1000; decide, ?_⟩
    have dm : pd ≠ pm := fun z => by rw [z, hm8] at hpd; cases hpd
    have dr : pd ≠ r := fun z => by rw [z, hr8] at hpd; cases hpd
    have p10 := Pl.put (fs' := putF "_declared" (.ref pd) (putF "marked" (.ref pm) (putF "ranks" (.ref D3) (putF "ranked" (.ref r) (putF "order" (.ref o1) []))))) p9
    have hr10 : upd (upd G4 pd (.dK [])) a (.ins PC dx (putF "_declared" (.ref pd) (putF "marked" (.ref pm) (putF "ranks" (.ref D3) (putF "ranked" (.ref r) (putF "order" (.ref o1) [])))))) r = some (.lst (zs.map V.str)) := by rw [upd_ne ra, upd_ne (Ne.symm dr)]; exact hr8
    have hm10 : upd (upd G4 pd (.dK [])) a (.ins PC dx (putF "_declared" (.ref pd) (putF "marked" (.ref pm) (putF "ranks" (.ref D3) (putF "ranked" (.ref r) (putF "order" (.ref o1) [])))))) pm = some (.dK (mergeK [] [((Sum.inr "Object" : Key), .ref t0)])) := by rw [upd_ne ma, upd_ne (Ne.symm dm)]; exact hm8
    have hd10 : upd (upd G4 pd (.dK [])) a (.ins PC dx (putF "_declared" (.ref pd) (putF "marked" (.ref pm) (putF "ranks" (.ref D3) (putF "ranked" (.ref r) (putF "order" (.ref o1) [])))))) pd = some (.dK []) := by rw [upd_ne da, upd_same]
    generalize upd (upd G4 pd (.dK [])) a (.ins PC dx (putF "_declared" (.ref pd) (putF "marked" (.ref pm) (putF "ranks" (.ref D3) (putF "ranked" (.ref r) (putF "order" (.ref o1) [])))))) = G5 at p10 hr10 hm10 hd10
    -- 6: the loop
    refine ⟨_, rfl, t, rfl, ⟨xs, .inl (.inl (tt p10.1))⟩, ?_⟩
    refine for_it (walk_tup (xs := xs)) (fun i σ' H' => (∃ v2, σ' = [some (.ref a), some (.ref t), v2, none, none, none, none, none, none, none]) ∧ Pl H a PC dx (putF "_declared" (.ref pd) (putF "marked" (.ref pm) (putF "ranks" (.ref D3) (putF "ranked" (.ref r) (putF "order" (.ref o1) []))))) H' ∧
        H' r = some (.lst (zs.map V.str)) ∧ (∃ k1, H' pd = some (.dK k1) ∧ k1.length ≤ i) ∧ ∃ k2, H' pm = some (.dK k2) ∧ k2.length ≤ i + 1)
      ⟨⟨_, rfl⟩, p10, hr10, ⟨_, hd10, Nat.le_refl _⟩, _, hm10, Nat.le_refl _⟩ (fun i σ' H' _ q => .inl (.inl (tt q.2.1.1))) ?_ ?_
    · rintro i x σ' H2 H3 hi ⟨⟨v2, rfl⟩, q1, qr, ⟨k1, qd, kl1⟩, k2, qm, kl2⟩ ⟨rfl, ex⟩
      have hi' : i < ds.length := by omega
      obtain ⟨dc, hdc⟩ : ∃ dc, ds[i]? = some dc := ⟨_, List.getElem?_eq_getElem hi'⟩
      obtain ⟨y', hy', hat⟩ := LiI.paired_get hds hdc
      obtain rfl : y' = x := Option.some.inj (hy'.symm.trans ex)
      have no := nodd dc (List.mem_of_getElem? hdc)
      obtain ⟨b, C, dxb, m, fsb, rfl, hb, hC, l1, l2, hm, oz⟩ := dc_fact (hat.but q1.1 ha no) no
      have hCm : C ∈ [KC, RC] := by rcases hC with rfl | rfl <;> simp
      refine ⟨_, rfl, _, rfl, a, PC, dx, _, _, rfl, q1.2, IK.cls, IK.no _ (by simp), rfl, _, rfl, b, C, dxb, fsb, _, rfl, hb, hCm, l1, pd, _, rfl, DPut.k (k := Sum.inr (dcName dc)) qd (by rw [sizeLine_eq]; omega), ?_⟩
      have q2 := q1.mut (o := .dK (putK k1 (Sum.inr (dcName dc)) (.ref b))) Hd da
      have mr : pm ≠ r := fun z => rm z.symm
      have qm2 : upd H3 pd (.dK (putK k1 (Sum.inr (dcName dc)) (.ref b))) pm = some (.dK k2) := by rw [upd_ne (Ne.symm dm)]; exact qm
      have qr2 : upd H3 pd (.dK (putK k1 (Sum.inr (dcName dc)) (.ref b))) r = some (.lst (zs.map V.str)) := by rw [upd_ne (Ne.symm dr)]; exact qr
      refine ⟨_, rfl, .ref b, dc, rfl, hat.but q2.1 ha no, no, fun H4 tm s4 => ?_⟩
      have q4 := q2.same s4
      obtain ⟨b', C', dxb', m', fsb', e1, hb', hC', l1', l2', hm', oz'⟩ := dc_fact (hat.but q4.1 ha no) no
      have hCm' : C' ∈ [KC, RC] := by rcases hC' with rfl | rfl <;> simp
      refine ⟨_, rfl, a, PC, dx, _, _, rfl, q4.2, IK.cls, IK.no _ (by simp), rfl, _, rfl, b', C', dxb', fsb', _, e1, hb', hCm', l1', pm, _, rfl, DPut.k (k := Sum.inr (dcName dc)) (s4 pm _ qm2) (by rw [sizeLine_eq]; omega), ?_⟩
      refine ⟨⟨_, rfl⟩, q4.mut Hm ma, by rw [upd_ne rm]; exact s4 r _ qr2, ⟨putK k1 (Sum.inr (dcName dc)) (.ref b), ?_, ?_⟩, putK k2 (Sum.inr (dcName dc)) (.ref tm), upd_same, ?_⟩
      · rw [upd_ne dm]
        exact s4 pd _ upd_same
      · have := length_putK k1 (Sum.inr (dcName dc)) (.ref b)
        omega
      · have := length_putK k2 (Sum.inr (dcName dc)) (.ref tm)
        omega
    · rintro σ' H2 ⟨⟨v2, rfl⟩, q1, qr, ⟨k1, qd, kl1⟩, k2, qm, kl2⟩
      -- 7: tuples
      refine ⟨_, rfl, a, PC, dx, _, _, rfl, q1.2, IK.cls, IK.no _ (by simp), rfl, r, zs, rfl, qr, zl, fun H3 T rows s3 hT hrows hlen => ?_⟩
      have q3 := q1.same s3
      have Ta : T ≠ a := fun z => by rw [z, q3.2] at hT; cases hT
      refine ⟨_, rfl, a, PC, dx, _, rfl, q3.2, IK.cls, IK.no _ (by simp), by show 5 < 1000; decide, ?_⟩
      have q4 := Pl.put (fs' := putF "_tuples" (.ref T) (putF "_declared" (.ref pd) (putF "marked" (.ref pm) (putF "ranks" (.ref D3) (putF "ranked" (.ref r) (putF "order" (.ref o1) [])))))) q3
      have hr4' : upd H3 a (.ins PC dx (putF "_tuples" (.ref T) (putF "_declared" (.ref pd) (putF "marked" (.ref pm) (putF "ranks" (.ref D3) (putF "ranked" (.ref r) (putF "order" (.ref o1) []))))))) r = some (.lst (zs.map V.str)) := by rw [upd_ne ra]; exact s3 r _ qr
      have hT4 : upd H3 a (.ins PC dx (putF "_tuples" (.ref T) (putF "_declared" (.ref pd) (putF "marked" (.ref pm) (putF "ranks" (.ref D3) (putF "ranked" (.ref r) (putF "order" (.ref o1) []))))))) T = some (.tup (rows.map fun r => V.ref r.1)) := by rw [upd_ne Ta]; exact hT
      have hrow4 : ∀ row ∈ rows, RowAt (upd H3 a (.ins PC dx (putF "_tuples" (.ref T) (putF "_declared" (.ref pd) (putF "marked" (.ref pm) (putF "ranks" (.ref D3) (putF "ranked" (.ref r) (putF "order" (.ref o1) [])))))))) row.1 row.2 ∧ row.2.length ≤ 144 := fun row hrow => by
        obtain ⟨⟨g1, g2⟩, g3⟩ := hrows row hrow
        refine ⟨⟨by rw [upd_ne (fun z => by rw [z, q3.2] at g1; cases g1)]; exact g1, fun e he => ?_⟩, g3⟩
        have := g2 e he
        rw [upd_ne (fun z => by rw [z, q3.2] at this; cases this)]
        exact this
      generalize upd H3 a (.ins PC dx (putF "_tuples" (.ref T) (putF "_declared" (.ref pd) (putF "marked" (.ref pm) (putF "ranks" (.ref D3) (putF "ranked" (.ref r) (putF "order" (.ref o1) []))))))) = G6 at q4 hr4' hT4 hrow4
      -- 8: signatures
      refine ⟨_, rfl, t, xs, ds, rfl, tt q4.1, pair_but q4.1 ha nodd hds, nodd, fun H5 l s5 hl5 hll => ?_⟩
      have q6 := q4.same s5
      have la : l ≠ a := fun z => by rw [z, q6.2] at hll; cases hll
      refine ⟨_, rfl, a, PC, dx, _, rfl, q6.2, IK.cls, IK.no _ (by simp), by show 6 < 1000; decide, ?_⟩
      have q7 := Pl.put (fs' := putF "_signatures" (.ref l) (putF "_tuples" (.ref T) (putF "_declared" (.ref pd) (putF "marked" (.ref pm) (putF "ranks" (.ref D3) (putF "ranked" (.ref r) (putF "order" (.ref o1) []))))))) q6
      have up5 : ∀ {b o}, b ≠ a → G6 b = some o → upd H5 a (.ins PC dx (putF "_signatures" (.ref l) (putF "_tuples" (.ref T) (putF "_declared" (.ref pd) (putF "marked" (.ref pm) (putF "ranks" (.ref D3) (putF "ranked" (.ref r) (putF "order" (.ref o1) [])))))))) b = some o := fun {b o} hb e => by rw [upd_ne hb]; exact s5 b o e
      have hr7' := up5 ra hr4'
      have hT7 := up5 Ta hT4
      have hl7 : upd H5 a (.ins PC dx (putF "_signatures" (.ref l) (putF "_tuples" (.ref T) (putF "_declared" (.ref pd) (putF "marked" (.ref pm) (putF "ranks" (.ref D3) (putF "ranked" (.ref r) (putF "order" (.ref o1) [])))))))) l = some (.lst []) := by rw [upd_ne la]; exact hll
      have hrow7 : ∀ row ∈ rows, RowAt (upd H5 a (.ins PC dx (putF "_signatures" (.ref l) (putF "_tuples" (.ref T) (putF "_declared" (.ref pd) (putF "marked" (.ref pm) (putF "ranks" (.ref D3) (putF "ranked" (.ref r) (putF "order" (.ref o1) []))))))))) row.1 row.2 ∧ row.2.length ≤ 144 := fun row hrow => by
        obtain ⟨⟨g1, g2⟩, g3⟩ := hrow4 row hrow
        refine ⟨⟨up5 (fun z => by rw [z, q4.2] at g1; cases g1) g1, fun e he => ?_⟩, g3⟩
        have := g2 e he
        exact up5 (fun z => by rw [z, q4.2] at this; cases this) this
      have lkr : (putF "_signatures" (.ref l) (putF "_tuples" (.ref T) (putF "_declared" (.ref pd) (putF "marked" (.ref pm) (putF "ranks" (.ref D3) (putF "ranked" (.ref r) (putF "order" (.ref o1) []))))))).lookup ("ranked" : Str) = some (.ref r) := rfl
      have lks : (putF "_signatures" (.ref l) (putF "_tuples" (.ref T) (putF "_declared" (.ref pd) (putF "marked" (.ref pm) (putF "ranks" (.ref D3) (putF "ranked" (.ref r) (putF "order" (.ref o1) []))))))).lookup ("_signatures" : Str) = some (.ref l) := rfl
      have lkt : (putF "_signatures" (.ref l) (putF "_tuples" (.ref T) (putF "_declared" (.ref pd) (putF "marked" (.ref pm) (putF "ranks" (.ref D3) (putF "ranked" (.ref r) (putF "order" (.ref o1) []))))))).lookup ("_tuples" : Str) = some (.ref T) := rfl
      have lkn : (putF "_signatures" (.ref l) (putF "_tuples" (.ref T) (putF "_declared" (.ref pd) (putF "marked" (.ref pm) (putF "ranks" (.ref D3) (putF "ranked" (.ref r) (putF "order" (.ref o1) []))))))).length = 7 := rfl
      generalize (putF "_signatures" (.ref l) (putF "_tuples" (.ref T) (putF "_declared" (.ref pd) (putF "marked" (.ref pm) (putF "ranks" (.ref D3) (putF "ranked" (.ref r) (putF "order" (.ref o1) []))))))) = F7 at q7 hr7' hT7 hl7 hrow7 lkr lks lkt lkn
      generalize upd H5 a (.ins PC dx F7) = G7 at q7 hr7' hT7 hl7 hrow7
      -- 9: _methods
      refine ⟨_, rfl, a, PC, dx, F7, _, rfl, q7.2, IK.cls, IK.no _ (by simp), lks, l, [], rfl, .inl (.inl hl7), fun D5 hD5 => ?_⟩
      refine it_gen (walk_enum (xs := [])) (fun _ H' => H' = upd G7 D5 (.dK [])) rfl (fun _ _ _ q => by rw [q]; exact .inl (.inl (by rw [upd_ne (ne_of_none hl7 hD5)]; exact hl7))) (fun j _ _ _ hj => absurd hj (Nat.not_lt_zero _)) ?_
      rintro H8 rfl
      have q8 := q7.new (o := .dK []) hD5
      refine ⟨_, rfl, a, PC, dx, F7, rfl, q8.2, IK.cls, IK.no _ (by simp), by omega, ?_⟩
      have q9 := Pl.put (fs' := putF "_methods" (.ref D5) F7) q8
      have up9 : ∀ {b o}, b ≠ a → G7 b = some o → upd (upd G7 D5 (.dK [])) a (.ins PC dx (putF "_methods" (.ref D5) F7)) b = some o := fun {b o} hb e => by rw [upd_ne hb, upd_ne (ne_of_none e hD5)]; exact e
      have hr9 := up9 ra hr7'
      have hT9 := up9 Ta hT7
      have hrow9 : ∀ row ∈ rows, RowAt (upd (upd G7 D5 (.dK [])) a (.ins PC dx (putF "_methods" (.ref D5) F7))) row.1 row.2 ∧ row.2.length ≤ 144 := fun row hrow => by
        obtain ⟨⟨g1, g2⟩, g3⟩ := hrow7 row hrow
        refine ⟨⟨up9 (fun z => by rw [z, q7.2] at g1; cases g1) g1, fun e he => ?_⟩, g3⟩
        have := g2 e he
        exact up9 (fun z => by rw [z, q7.2] at this; cases this) this
      have lkr9 : (putF "_methods" (.ref D5) F7).lookup ("ranked" : Str) = some (.ref r) := by rw [lookup_putF, if_neg (by decide)]; exact lkr
      have lkt9 : (putF "_methods" (.ref D5) F7).lookup ("_tuples" : Str) = some (.ref T) := by rw [lookup_putF, if_neg (by decide)]; exact lkt
      have lkn9 : (putF "_methods" (.ref D5) F7).length ≤ 9 := by have := length_putF "_methods" (.ref D5) F7; omega
      generalize (putF "_methods" (.ref D5) F7) = F9 at q9 hr9 hT9 hrow9 lkr9 lkt9 lkn9
      generalize upd (upd G7 D5 (.dK [])) a (.ins PC dx F9) = G9 at q9 hr9 hT9 hrow9
      -- 10: _spots
      refine ⟨_, rfl, a, PC, dx, F9, _, rfl, q9.2, IK.cls, IK.no _ (by simp), lkt9, T, rfl, ⟨_, .inl (.inl hT9)⟩, fun D6 hD6 => ?_⟩
      refine it_gen (walk_tup (xs := rows.map fun r => V.ref r.1)) (fun i H' => Same G9 H' ∧ ∃ kvs, H' D6 = some (.dT kvs) ∧ kvs.length ≤ i * 144) ⟨(Same.refl G9).new hD6, [], upd_same, Nat.zero_le _⟩ (fun i H' _ q => .inl (.inl (q.1 T _ hT9))) ?_ ?_
      · rintro i x H2 H3 hi ⟨s2, kvs, h2, hk⟩ ⟨rfl, ex⟩
        rw [List.length_map] at hi
        obtain ⟨row, hrow⟩ : ∃ row, rows[i]? = some row := ⟨_, List.getElem?_eq_getElem hi⟩
        rw [List.getElem?_map, hrow] at ex
        obtain rfl : V.ref row.1 = x := Option.some.inj ex
        obtain ⟨⟨g1, g2⟩, g3⟩ := hrow9 row (List.mem_of_getElem? hrow)
        refine ⟨rfl, _, rfl, row.1, _, rfl, .inl (.inl (s2 _ _ g1)), ?_⟩
        refine it_gen (walk_enum (xs := row.2.map fun e => V.ref e.1)) (fun j H' => Same G9 H' ∧ ∃ kvs, H' D6 = some (.dT kvs) ∧ kvs.length ≤ i * 144 + j) ⟨s2, kvs, h2, hk⟩ (fun j H' _ q => .inl (.inl (q.1 _ _ g1))) ?_ ?_
        · rintro j y H4 H5' hj ⟨s4, kvs4, h4, hk4⟩ ⟨T4, x1, y1, rfl, hT4', rfl, ex4, ey4⟩
          rw [List.length_map] at hj
          obtain rfl : V.int (j : Nat) = x1 := Option.some.inj ex4
          obtain ⟨e, he⟩ : ∃ e, row.2[j]? = some e := ⟨_, List.getElem?_eq_getElem hj⟩
          have ey4' : (row.2.map fun e => V.ref e.1)[j]? = some y1 := ey4
          rw [List.getElem?_map, he] at ey4'
          obtain rfl : V.ref e.1 = y1 := Option.some.inj ey4'
          have te := s4 _ _ (g2 e (List.mem_of_getElem? he))
          have nD : D6 ≠ T4 := ne_of_none h4 hT4'
          refine ⟨T4, _, rfl, .inl (.inl upd_same), rfl, _, _, rfl, _, _, rfl, ⟨rfl, rfl, _, rfl, _, rfl, kvs4, e.2.map Sum.inr, e.1, rfl, ?_, by rw [upd_ne nD]; exact h4, ?_, (s4.new hT4').old hD6, _, upd_same, ?_⟩⟩
          · rw [upd_ne (ne_of_none te hT4'), List.map_map]
            exact te
          · have := Nat.mul_le_mul (show i ≤ 2 by omega) (Nat.le_refl 144)
            rw [sizeLine_eq]
            omega
          · have := length_putK kvs4 (e.2.map Sum.inr) (V.int (j : Nat))
            omega
        · rintro H4 ⟨s4, kvs4, h4, hk4⟩
          rw [List.length_map] at hk4
          exact ⟨s4, kvs4, h4, by rw [Nat.succ_mul]; omega⟩
      rintro H8 ⟨s8, _, _, _⟩
      have q10 := q9.same s8
      refine ⟨_, rfl, a, PC, dx, F9, rfl, q10.2, IK.cls, IK.no _ (by simp), by omega, ?_⟩
      have q11 := Pl.put (fs' := putF "_spots" (.ref D6) F9) q10
      -- 11: _templates
      intro D7 hD7
      have q12 := q11.new (o := .dK []) hD7
      have ln : (putF "_spots" (.ref D6) F9).length ≤ 10 := by have := length_putF "_spots" (.ref D6) F9; omega
      refine ⟨_, rfl, a, PC, dx, _, rfl, q12.2, IK.cls, IK.no _ (by simp), by omega, ?_⟩
      refine k _ zs q12.1.at_ ⟨dx, _, r, upd_same, ?_, ?_⟩ perm
      · rw [lookup_putF, if_neg (by decide), lookup_putF, if_neg (by decide)]
        exact lkr9
      · have h1 := s8 r _ hr9
        have h2 : upd H8 a (.ins PC dx (putF "_spots" (.ref D6) F9)) r = some (.lst (zs.map V.str)) := by rw [upd_ne ra]; exact h1
        rw [upd_ne ra, upd_ne (ne_of_none h2 hD7)]
        exact h2
end
end K5

/-! ==== P5n ==== -/
set_option Elab.async false
set_option linter.all false
set_option maxRecDepth 100000
set_option maxHeartbeats 4000000
/-! k05: Numbering, Uses, Book made. -/
namespace K5
open PySem PySem.Spec PyProof.Rows L2 StX ClX SuX Sh KwX TuI D2X NkX
theorem But.none {a p : Addr} {H H' : Hp} (k : But a H H') (hp : H' p = none) (ne : p ≠ a) : H p = none := by
  cases q : H p with
  | none => rfl
  | some o =>
    have := k p o ne q
    rw [hp] at this
    cases this
/-- the numbers of atoms as they stand -/
structure NumAt (P : Program) (w : World) (H : Hp) (BC a dx : Addr) (fs : List (Str × V)) (nd rl : Addr) (kvs : NkL) : Prop where
  ins : H a = some (.ins BC dx fs)
  lkn : fs.lookup ("_atom_numbers" : Str) = some (.ref nd)
  lkr : fs.lookup ("_atom_rows" : Str) = some (.ref rl)
  lkk : ∃ kk : Int, fs.lookup ("kept" : Str) = some (.int kk)
  num : H nd = some (nkd P w nd kvs)
  rows : ∃ rs, H rl = some (.lst rs) ∧ rs.length = kvs.length
  keys : KeysAt H kvs
  fit : kvs.length < 100
  few : fs.length < 100
theorem NumAt.same {P : Program} {w : World} {H H' : Hp} {BC a dx : Addr} {fs : List (Str × V)} {nd rl : Addr} {kvs : NkL} (s : Same H H') (N : NumAt P w H BC a dx fs nd rl kvs) : NumAt P w H' BC a dx fs nd rl kvs :=
  ⟨s _ _ N.ins, N.lkn, N.lkr, N.lkk, s _ _ N.num, let ⟨rs, h1, h2⟩ := N.rows; ⟨rs, s _ _ h1, h2⟩, fun p hp => (N.keys p hp).same fun b xs e => s b _ e, N.fit, N.few⟩
def spAtomN (P : Program) (w : World) (BC : Addr) : Sp := fun vs H Q _ => ∃ (a dx m nd rl : Addr) (z : Str) (fs : List (Str × V)) (kvs : NkL), vs = [.ref a, .str z, .ref m] ∧ NumAt P w H BC a dx fs nd rl kvs ∧ H m = some (.tup []) ∧ look z kvs = none ∧
  ∀ H' row v fs', (∀ b o, b ≠ a → b ≠ nd → b ≠ rl → H b = some o → H' b = some o) → (H' a = some (.ins BC dx fs') ∧ fs'.length ≤ fs.length + 1 ∧ (∀ f : Str, f ≠ "kept" → fs'.lookup f = fs.lookup f) ∧ (∃ kk : Int, fs'.lookup ("kept" : Str) = some (.int kk))) →
    H' nd = some (nkd P w nd (kvs ++ [(z, row, .int (kvs.length : Nat))])) → (∃ rs, H' rl = some (.lst rs) ∧ rs.length = kvs.length + 1) → KeyAt H' z row → Q v H'
section
variable {P : Program} {w : World} {K : PySem.W.Frag} {mg : Str → Option Value} {base : Heap} {BC : Addr}
abbrev nAtomN : List Str := ["self", "name", "arguments", "row"]
theorem scAtomN : FnScope nAtomN ["self", "name", "arguments"] (defScope sAtomN) := ⟨rfl, rfl, rfl, by decide +kernel, rfl, by decide +kernel, by decide +kernel⟩
theorem ok_atomn {f : Addr} {fd : FuncData} (F : Fun K "atom_number" "Numbering.atom_number" sAtomN f fd) (B : Blt mg) (IK : InsK K BC bookF) {tE : Tok} (gE : mg "ENTRY_SIZE" = some (.int 400 tE)) : FnOk P w K mg base CX0 1 f fd ["self", "name", "arguments"] (spAtomN P w BC) := by
  refine F.ok scAtomN (fun vs H Q E h => ?_) (fun cdv A outer s H vs Q E hr h => ?_)
  · obtain ⟨a, dx, m, nd, rl, z, fs, kvs, rfl, _⟩ := h
    rfl
  · obtain ⟨a, dx, m, nd, rl, z, fs, kvs, rfl, N, hm, hk, k⟩ := h
    refine ⟨_, pss_cons (ps_set (i := 3) scAtomN.nd rfl (Or.inl rfl) (pe_tup (pa_cons (pv 1) (pa_cons (pv 2) pa_nil))))
      (pss_cons (ps_if (pt_cmp (pc_nknotin hr (pv 3) (pe_fld (pv 0) rfl)))
        (pss_cons (ps_nkput hr (pe_fld (pv 0) rfl) (pv 3) (pe_callB call_len_seq (by rfl) B.len PySem.boot_len (pa_cons (pe_fld (pv 0) rfl) pa_nil)))
        (pss_cons (ps_expr (pe_bm PySem.F.plainAttrs_list PySem.F.slot_list_append PySem.F.type_list_append mt_append (pe_fld (pv 0) rfl) (pa_cons (pv 3) pa_nil)))
        (pss_one (ps_fldaug (pv 0) (pe_glob (v := .int 400) rfl gE ⟨_, rfl⟩) in_add)))) pss_nil)
      (pss_one (ps_ret (pe_nkget hr (pe_fld (pv 0) rfl) (pv 3) (fun _ _ => rfl))))), ?_⟩
    obtain ⟨ins, lkn, lkr, ⟨kk, lkk⟩, num, ⟨rs, hrl, rsl⟩, keys, fit, few⟩ := N
    refine ⟨_, rfl, _, rfl, by show 2 ≤ sizeLine; decide, fun row hrow => ?_⟩
    have s1 : Same H (upd H row (.tup [.str z, .ref m])) := (Same.refl H).new hrow
    have ka : KeyAt (upd H row (.tup [.str z, .ref m])) z row := ⟨m, upd_same, s1 m _ hm⟩
    have keys1 : KeysAt (upd H row (.tup [.str z, .ref m])) kvs := fun p hp => (keys p hp).same fun b xs e => s1 b _ e
    refine ⟨_, rfl, _, rfl, a, BC, dx, fs, _, rfl, s1 a _ ins, IK.cls, IK.no _ (by simp), lkn, row, nd, kvs, z, rfl, rfl, s1 nd _ num, keys1, ka, _, rfl, ?_⟩
    rw [hk]
    refine iteT ?_
    refine ⟨_, rfl, a, BC, dx, fs, _, rfl, s1 a _ ins, IK.cls, IK.no _ (by simp), lkr, rl, _, rfl, .inl (.inl (.inl (s1 rl _ hrl))), ?_⟩
    refine ⟨_, rfl, a, BC, dx, fs, _, rfl, s1 a _ ins, IK.cls, IK.no _ (by simp), lkn, _, rfl, row, nd, kvs, z, rfl, rfl, s1 nd _ num, keys1, ka, hk, by rw [sizeLine_eq]; omega, ?_⟩
    have na : nd ≠ a := fun e => by rw [e, ins] at num; cases num
    have nr : nd ≠ rl := fun e => by rw [e, hrl] at num; cases num
    have ra : rl ≠ a := fun e => by rw [e, ins] at hrl; cases hrl
    have hnr : row ≠ nd := (ne_of_none num hrow).symm
    have hrr : row ≠ rl := (ne_of_none hrl hrow).symm
    have hra : row ≠ a := (ne_of_none ins hrow).symm
    refine ⟨_, rfl, a, BC, dx, fs, _, rfl, by rw [upd_ne (Ne.symm na)]; exact s1 a _ ins, IK.cls, IK.no _ (by simp), lkr, .inl ⟨rfl, _, .inl (.inl (by rw [upd_ne (Ne.symm nr)]; exact s1 rl _ hrl))⟩, _, rfl, rl, _, _, rfl, rfl, by rw [upd_ne (Ne.symm nr)]; exact s1 rl _ hrl, by rw [rsl, sizeLine_eq]; omega, ?_⟩
    have ea : upd (upd (upd H row (.tup [.str z, .ref m])) nd (nkd P w nd (kvs ++ [(z, row, .int (rs.length : Nat))]))) rl (.lst (rs ++ [.ref row])) a = some (.ins BC dx fs) := by
      rw [upd_ne (Ne.symm ra), upd_ne (Ne.symm na), upd_ne (Ne.symm hra)]
      exact ins
    refine ⟨_, rfl, a, BC, dx, fs, _, rfl, ea, IK.cls, IK.no _ (by simp), lkk, kk, 400, rfl, rfl, dx, fs, ea, by omega, ?_⟩
    have keep : ∀ b o, b ≠ a → b ≠ nd → b ≠ rl → H b = some o → upd (upd (upd (upd H row (.tup [.str z, .ref m])) nd (nkd P w nd (kvs ++ [(z, row, .int (rs.length : Nat))]))) rl (.lst (rs ++ [.ref row]))) a (.ins BC dx (putF "kept" (.int (kk + 400)) fs)) b = some o := fun b o h1 h2 h3 e => by
      rw [upd_ne h1, upd_ne h3, upd_ne h2, upd_ne (ne_of_none e hrow)]
      exact e
    have tupk : ∀ b xs, H b = some (.tup xs) → upd (upd (upd (upd H row (.tup [.str z, .ref m])) nd (nkd P w nd (kvs ++ [(z, row, .int (rs.length : Nat))]))) rl (.lst (rs ++ [.ref row]))) a (.ins BC dx (putF "kept" (.int (kk + 400)) fs)) b = some (.tup xs) := fun b xs e =>
      keep b _ (fun q => by rw [q, ins] at e; cases e) (fun q => by rw [q, num] at e; cases e) (fun q => by rw [q, hrl] at e; cases e) e
    have lko : ∀ f : Str, f ≠ "kept" → (putF "kept" (.int (kk + 400)) fs).lookup f = fs.lookup f := fun f hf => by rw [lookup_putF, if_neg hf]
    have row4 : upd (upd (upd (upd H row (.tup [.str z, .ref m])) nd (nkd P w nd (kvs ++ [(z, row, .int (rs.length : Nat))]))) rl (.lst (rs ++ [.ref row]))) a (.ins BC dx (putF "kept" (.int (kk + 400)) fs)) row = some (.tup [.str z, .ref m]) := by
      rw [upd_ne hra, upd_ne hrr, upd_ne hnr, upd_same]
    have num4 : upd (upd (upd (upd H row (.tup [.str z, .ref m])) nd (nkd P w nd (kvs ++ [(z, row, .int (rs.length : Nat))]))) rl (.lst (rs ++ [.ref row]))) a (.ins BC dx (putF "kept" (.int (kk + 400)) fs)) nd = some (nkd P w nd (kvs ++ [(z, row, .int (rs.length : Nat))])) := by
      rw [upd_ne na, upd_ne nr, upd_same]
    have rl4 : upd (upd (upd (upd H row (.tup [.str z, .ref m])) nd (nkd P w nd (kvs ++ [(z, row, .int (rs.length : Nat))]))) rl (.lst (rs ++ [.ref row]))) a (.ins BC dx (putF "kept" (.int (kk + 400)) fs)) rl = some (.lst (rs ++ [.ref row])) := by
      rw [upd_ne ra, upd_same]
    have ka4 : KeyAt (upd (upd (upd (upd H row (.tup [.str z, .ref m])) nd (nkd P w nd (kvs ++ [(z, row, .int (rs.length : Nat))]))) rl (.lst (rs ++ [.ref row]))) a (.ins BC dx (putF "kept" (.int (kk + 400)) fs))) z row := ⟨m, row4, tupk m _ hm⟩
    have keys4 : KeysAt (upd (upd (upd (upd H row (.tup [.str z, .ref m])) nd (nkd P w nd (kvs ++ [(z, row, .int (rs.length : Nat))]))) rl (.lst (rs ++ [.ref row]))) a (.ins BC dx (putF "kept" (.int (kk + 400)) fs))) (kvs ++ [(z, row, .int (rs.length : Nat))]) := fun p hp => by
      rcases List.mem_append.mp hp with hp | hp
      · exact (keys p hp).same tupk
      · rw [List.mem_singleton.mp hp]
        exact ka4
    have lk4 : look z (kvs ++ [(z, row, .int (rs.length : Nat))]) = some (.int (rs.length : Nat)) := by
      have : kvs.find? (fun p => decide (p.1 = z)) = none := by
        cases q : kvs.find? (fun p => decide (p.1 = z)) with
        | none => rfl
        | some p => unfold look at hk; rw [q] at hk; cases hk
      unfold look
      rw [List.find?_append, this]
      simp
    refine ⟨_, rfl, a, BC, dx, _, _, rfl, upd_same, IK.cls, IK.no _ (by simp), by rw [lko _ (by decide)]; exact lkn, _, rfl, row, nd, _, z, _, rfl, rfl, num4, keys4, ka4, lk4, ?_⟩
    refine k _ row _ _ keep ⟨upd_same, length_putF _ _ _, lko, kk + 400, by rw [lookup_putF, if_pos rfl]⟩ (by rw [← rsl]; exact num4) ⟨_, rl4, by rw [List.length_append, rsl]; rfl⟩ ka4
def spNumI (n : Nat) (BC PC : Addr) : Sp := fun vs H Q _ => ∃ (a dx p : Addr) (zs : List Str), vs = [.ref a, .ref p] ∧ H a = some (.ins BC dx []) ∧ PlanAt PC H p zs ∧ zs.Nodup ∧ zs.length ≤ 12 ∧ ∀ H' fs, But a H H' → H' a = some (.ins BC dx fs) → fs.length ≤ n → Q .non H'
abbrev nNum : List Str := ["self", "plan", "kind"]
theorem scNum : FnScope nNum ["self", "plan"] (defScope sNum) := ⟨rfl, rfl, rfl, by decide +kernel, rfl, by decide +kernel, by decide +kernel⟩
theorem ok_num {f fm PC : Addr} {fd fdm : FuncData} (F : Fun K "__init__" "Numbering.__init__" sNum f fd) (IK : InsK K BC bookF) (IP : InsK K PC planF) (M : Meth K BC "atom_number" fm) (b : Binds K fdm ["self", "name", "arguments"] []) (G : FnOk P w K mg base CX0 1 fm fdm ["self", "name", "arguments"] (spAtomN P w BC)) :
    FnOk P w K mg base CX0 2 f fd ["self", "plan"] (spNumI 30 BC PC) := by
  refine F.ok scNum (fun vs H Q E h => ?_) (fun cdv A outer s H vs Q E hr h => ?_)
  · obtain ⟨a, dx, p, zs, rfl, _⟩ := h
    rfl
  · obtain ⟨a, dx, p, zs, rfl, ha, ⟨dp, fp, r, hp, lkr, hr0⟩, nd, zl, k⟩ := h
    refine ⟨_, pss_cons (ps_fld (pv 0) (pv 1) rfl) (pss_cons (ps_fld (pv 0) (pe_lst pa_nil) rfl) (pss_cons (ps_fld (pv 0) pe_int rfl) (pss_cons (ps_fld (pv 0) (pe_lst pa_nil) rfl) (pss_cons (ps_fld (pv 0) pe_nknew rfl) (pss_cons (ps_fld (pv 0) pe_dnewK rfl)
      (pss_cons (ps_fld (pv 0) pe_dnewK rfl) (pss_cons (ps_fld (pv 0) pe_dnewK rfl) (pss_cons (ps_fld (pv 0) pe_dnewK rfl) (pss_cons (ps_fld (pv 0) pe_dnewK rfl) (pss_cons (ps_fld (pv 0) pe_int rfl)
      (pss_one (ps_for PassesOwn.never rfl (pi_list (pe_fld (pv 1) rfl)) (pg_name (i := 2) scNum.nd rfl (Or.inl rfl)) (pss_one (ps_expr (pe_meth (pv 0) IK.cls M G hr b .nil pass0 (pa_cons (pv 2) (pa_cons (pe_tup pa_nil) pa_nil))))))))))))))))), ?_⟩
    have p0 : Pl H a BC dx [] H := ⟨But.refl a H, ha⟩
    refine ⟨_, rfl, _, rfl, a, BC, dx, _, rfl, p0.2, IK.cls, IK.no _ (by simp), by decide, ?_⟩
    refine ⟨Nat.zero_le _, fun l1 hl1 => ?_⟩
    have p1 := (Pl.put p0).new (o := .lst []) hl1
    refine ⟨_, rfl, a, BC, dx, _, rfl, p1.2, IK.cls, IK.no _ (by simp), by show 1 < 1000; decide, ?_⟩
    refine ⟨_, rfl, a, BC, dx, _, rfl, upd_same, IK.cls, IK.no _ (by simp), by show 2 < 1000; decide, ?_⟩
    refine ⟨Nat.zero_le _, fun rl hrl => ?_⟩
    have p3 := (Pl.put (Pl.put p1)).new (o := .lst []) hrl
    have rla : rl ≠ a := fun z => by rw [z, upd_same] at hrl; cases hrl
    refine ⟨_, rfl, a, BC, dx, _, rfl, p3.2, IK.cls, IK.no _ (by simp), by show 3 < 1000; decide, fun d4 hd4 => ?_⟩
    have e4 := hd4
    rw [upd_ne (fun z => by rw [z, upd_same] at hd4; cases hd4)] at e4
    have r4 : rl ≠ d4 := fun z => by rw [← z, upd_same] at e4; cases e4
    have d4a : d4 ≠ a := fun z => by rw [z, upd_same] at hd4; cases hd4
    have Hd4 : H d4 = none := (Pl.put p3).1.none hd4 d4a
    have Hrl : H rl = none := (Pl.put (Pl.put p1)).1.none hrl rla
    generalize hG : upd _ d4 _ = G
    have num4 : G d4 = some (nkd P w d4 []) := by rw [← hG, upd_same]; rfl
    have rl4 : G rl = some (.lst []) := by rw [← hG, upd_ne r4, upd_ne rla, upd_same]
    have p4 := (Pl.put p3).new (o := nkd P w d4 []) hd4
    rw [show upd _ d4 (nkd P w d4 []) = G from hG] at p4
    clear hG
    obtain ⟨b4, e4'⟩ := p4
    have p4 : Pl G a BC dx _ G := ⟨But.refl a G, e4'⟩
    refine ⟨_, rfl, a, BC, dx, _, rfl, p4.2, IK.cls, IK.no _ (by simp), by show 4 < 1000; decide, fun d5 hd5 => ?_⟩
    have p5 := (Pl.put p4).new (o := .dK []) hd5
    refine ⟨_, rfl, a, BC, dx, _, rfl, p5.2, IK.cls, IK.no _ (by simp), by show 5 < 1000; decide, fun d6 hd6 => ?_⟩
    have p6 := (Pl.put p5).new (o := .dK []) hd6
    refine ⟨_, rfl, a, BC, dx, _, rfl, p6.2, IK.cls, IK.no _ (by simp), by show 6 < 1000; decide, fun d7 hd7 => ?_⟩
    have p7 := (Pl.put p6).new (o := .dK []) hd7
    refine ⟨_, rfl, a, BC, dx, _, rfl, p7.2, IK.cls, IK.no _ (by simp), by show 7 < 1000; decide, fun d8 hd8 => ?_⟩
    have p8 := (Pl.put p7).new (o := .dK []) hd8
    refine ⟨_, rfl, a, BC, dx, _, rfl, p8.2, IK.cls, IK.no _ (by simp), by show 8 < 1000; decide, fun d9 hd9 => ?_⟩
    have p9 := (Pl.put p8).new (o := .dK []) hd9
    generalize hG9 : upd _ d9 (.dK []) = G9 at p9 ⊢
    clear hG9
    refine ⟨_, rfl, a, BC, dx, _, rfl, p9.2, IK.cls, IK.no _ (by simp), by show 9 < 1000; decide, ?_⟩
    refine ⟨_, rfl, a, BC, dx, _, rfl, upd_same, IK.cls, IK.no _ (by simp), by show 10 < 1000; decide, ?_⟩
    have pa_ : r ≠ a := fun z => by rw [z, ha] at hr0; cases hr0
    have qa : p ≠ a := fun z => by
      rw [z, ha] at hp
      cases Option.some.inj hp
      cases lkr
    have pz : But a H G9 := fun b o hb e => p9.1 b o hb (b4 b o hb e)
    have num9 := p9.1 d4 _ d4a num4
    have rl9 := p9.1 rl _ rla rl4
    have up : ∀ {b o F F'}, b ≠ a → G9 b = some o → upd (upd G9 a (.ins BC dx F)) a (.ins BC dx F') b = some o := fun {b o F F'} hb e => by rw [upd_ne hb, upd_ne hb]; exact e
    refine ⟨_, rfl, p, PC, dp, fp, _, rfl, up qa (pz p _ qa hp), IP.cls, IP.no _ (by simp), lkr, r, rfl, ⟨_, .inl (.inl (up pa_ (pz r _ pa_ hr0)))⟩, ?_⟩
    refine for_it (walk_list (xs := zs.map V.str)) (fun i σ' H' => (∃ v, σ' = [some (.ref a), some (.ref p), v]) ∧ But a H H' ∧ ∃ fs kvs, NumAt P w H' BC a dx fs d4 rl kvs ∧ kvs.length = i ∧ kvs.map (·.1) = zs.take i ∧ fs.length ≤ 11 + i ∧ fs.lookup ("atom_number" : Str) = none) ?_ (fun i σ' H' _ q => .inl (.inl (q.2.1 r _ pa_ hr0))) ?_ ?_
    · refine ⟨⟨_, rfl⟩, fun b o hb e => up hb (pz b o hb e), _, [], ⟨upd_same, rfl, rfl, ⟨0, rfl⟩, up d4a num9, ⟨[], up rla rl9, rfl⟩, (fun _ h => nomatch h), by decide, by show 11 < 100; decide⟩, rfl, rfl, Nat.le_refl _, rfl⟩
    · rintro i x σ' H2 H3 hi ⟨⟨v, rfl⟩, b2, fs, kvs, N, kl, km, hf, hno⟩ ⟨rfl, ex⟩
      rw [List.length_map] at hi
      obtain ⟨z, hz⟩ : ∃ z, zs[i]? = some z := ⟨_, List.getElem?_eq_getElem hi⟩
      rw [List.getElem?_map, hz] at ex
      obtain rfl : V.str z = x := Option.some.inj ex
      have hnew : look z kvs = none := by
        unfold look
        rw [List.find?_eq_none.mpr]
        · rfl
        · intro q hq e
          have e : q.1 = z := of_decide_eq_true e
          have h1 : z ∈ zs.take i := by rw [← km, ← e]; exact List.mem_map_of_mem hq
          obtain ⟨j, hj⟩ := List.getElem?_of_mem h1
          rw [List.getElem?_take] at hj
          split at hj
          · rename_i hji
            have := (List.getElem?_inj (show j < zs.length by omega) nd).mp (hj.trans hz.symm)
            omega
          · cases hj
      refine ⟨_, rfl, a, dx, fs, rfl, N.ins, hno, _, rfl, Nat.zero_le _, fun m hm => ?_⟩
      refine ⟨a, dx, m, d4, rl, z, fs, kvs, rfl, N.same ((Same.refl _).new hm), upd_same, hnew, fun H' row v' fs' keep e1 num' rows' ka => ?_⟩
      obtain ⟨e1, e2, e3, e4⟩ := e1
      have keep' : ∀ b o, b ≠ a → b ≠ d4 → b ≠ rl → H3 b = some o → H' b = some o := fun b o h1 h2 h3 e => keep b o h1 h2 h3 (by rw [upd_ne (ne_of_none e hm)]; exact e)
      obtain ⟨rs, hrs, _⟩ := N.rows
      have tupk : ∀ b xs, H3 b = some (.tup xs) → H' b = some (.tup xs) := fun b xs e => keep' b _ (fun q => by rw [q, N.ins] at e; cases e) (fun q => by rw [q, N.num] at e; cases e) (fun q => by rw [q, hrs] at e; cases e) e
      refine ⟨⟨_, rfl⟩, fun b o hb e => keep' b o hb (ne_of_none e Hd4) (ne_of_none e Hrl) (b2 b o hb e), fs', kvs ++ [(z, row, .int (kvs.length : Nat))],
        ⟨e1, by rw [e3 _ (by decide)]; exact N.lkn, by rw [e3 _ (by decide)]; exact N.lkr, e4, num', ?_, ?_, ?_, ?_⟩, ?_, ?_, by omega, by rw [e3 _ (by decide)]; exact hno⟩
      · obtain ⟨rs', g1, g2⟩ := rows'
        exact ⟨rs', g1, by rw [g2, List.length_append]; rfl⟩
      · intro q hq
        rcases List.mem_append.mp hq with hq | hq
        · exact (N.keys q hq).same tupk
        · rw [List.mem_singleton.mp hq]
          exact ka
      · rw [List.length_append]
        show kvs.length + 1 < 100
        omega
      · omega
      · rw [List.length_append, kl]
        rfl
      · rw [List.map_append, km, List.take_succ, hz]
        rfl
    · rintro σ' H2 ⟨⟨v, rfl⟩, b2, fs, kvs, N, _, _, hf, _⟩
      exact k H2 fs b2 N.ins (by rw [List.length_map] at hf; omega)
end
end K5

/-! ==== P5o ==== -/
set_option Elab.async false
set_option linter.all false
set_option maxRecDepth 100000
set_option maxHeartbeats 4000000
/-! k05: Uses, Book made. -/
namespace K5
open PySem PySem.Spec PyProof.Rows L2 StX ClX SuX Sh KwX TuI D2X NkX
theorem ssUses : ScS ["self", "plan"] ["self", "plan"] "self" sUses := ⟨⟨rfl, rfl, rfl, by decide +kernel, rfl, by decide +kernel, by decide +kernel, by decide +kernel⟩, ⟨_, rfl, rfl⟩, by decide +kernel, by decide +kernel, rfl, by decide +kernel⟩
theorem ssBook : ScS ["self", "plan"] ["self", "plan"] "self" sBook := ⟨⟨rfl, rfl, rfl, by decide +kernel, rfl, by decide +kernel, by decide +kernel, by decide +kernel⟩, ⟨_, rfl, rfl⟩, by decide +kernel, by decide +kernel, rfl, by decide +kernel⟩
/-- instances of C within a def of D: super().__init__ is the def at f2 -/
structure UpK (K : PySem.W.Frag) (C D f2 : Addr) : Prop where
  sup : SupM K C D f2 "__init__"
  mro : PySem.W.mroIn K C (.ref D) = some true
section
variable {P : Program} {w : World} {K : PySem.W.Frag} {mg : Str → Option Value} {base : Heap} {BC : Addr}
/-- one new dict or list more -/
theorem grow {H H' : Hp} {a dx d : Addr} {fs : List (Str × V)} {n : Nat} {f : Str} {o : HO} (p : Pl H a BC dx fs H') (hl : fs.length ≤ n) (hd : H' d = none) : Pl H a BC dx (putF f (.ref d) fs) (upd (upd H' d o) a (.ins BC dx (putF f (.ref d) fs))) ∧ (putF f (.ref d) fs).length ≤ n + 1 :=
  ⟨Pl.put (p.new hd), Nat.le_trans (length_putF _ _ _) (Nat.add_le_add_right hl 1)⟩
theorem ok_uses {f f2 UC PC : Addr} {fd fd2 : FuncData} (F : FunX P K "__init__" "Uses.__init__" sUses [] UC f fd) (T : SupK P K mg) (S : UpK K BC UC f2) (IK : InsK K BC bookF) (b2 : Binds K fd2 ["self", "plan"] []) (F2 : FnOk P w K mg base CX0 2 f2 fd2 ["self", "plan"] (spNumI 30 BC PC)) :
    FnOk P w K mg base CX0 3 f fd ["self", "plan"] (spNumI 34 BC PC) := by
  refine F.ok T ssUses (fun vs H Q E h => ?_) (fun cda cc A outer s H vs Q E hr ST h => ?_)
  · obtain ⟨a, dx, p, zs, rfl, _⟩ := h
    rfl
  · obtain ⟨a, dx, p, zs, rfl, ha, pl, nd, zl, k⟩ := h
    refine ⟨_, pat_cons (st_sup (ST BC S.mro) S.sup (raw0 F2 b2) hr pass0 (pa_cons (pv 1) pa_nil))
      (pss_cons (ps_fld (pv 0) pe_dnewK rfl) (pss_cons (ps_fld (pv 0) pe_dnewK rfl) (pss_cons (ps_fld (pv 0) pe_dnewK rfl) (pss_one (ps_fld (pv 0) pe_dnewK rfl))))), ?_⟩
    refine ⟨a, dx, [], rfl, ha, _, rfl, a, dx, p, zs, rfl, ha, pl, nd, zl, fun H1 fs b1 e1 hl => ?_⟩
    have p0 : Pl H a BC dx fs H1 := ⟨b1, e1⟩
    intro d1 hd1
    refine ⟨_, rfl, a, BC, dx, fs, rfl, (p0.new hd1).2, IK.cls, IK.no _ (by simp), by omega, ?_⟩
    obtain ⟨p1, l1⟩ := grow (f := "_groups") (o := .dK []) p0 hl hd1
    intro d2 hd2
    refine ⟨_, rfl, a, BC, dx, _, rfl, (p1.new hd2).2, IK.cls, IK.no _ (by simp), by omega, ?_⟩
    obtain ⟨p2, l2⟩ := grow (f := "_allowed") (o := .dK []) p1 l1 hd2
    intro d3 hd3
    refine ⟨_, rfl, a, BC, dx, _, rfl, (p2.new hd3).2, IK.cls, IK.no _ (by simp), by omega, ?_⟩
    obtain ⟨p3, l3⟩ := grow (f := "_moves") (o := .dK []) p2 l2 hd3
    intro d4 hd4
    refine ⟨_, rfl, a, BC, dx, _, rfl, (p3.new hd4).2, IK.cls, IK.no _ (by simp), by omega, ?_⟩
    obtain ⟨p4, l4⟩ := grow (f := "_fixed") (o := .dK []) p3 l3 hd4
    exact k _ _ p4.1 p4.2 l4
theorem ok_book {f f2 PC : Addr} {fd fd2 : FuncData} (F : FunX P K "__init__" "Book.__init__" sBook [] BC f fd) (T : SupK P K mg) (S : UpK K BC BC f2) (IK : InsK K BC bookF) (b2 : Binds K fd2 ["self", "plan"] []) (F2 : FnOk P w K mg base CX0 3 f2 fd2 ["self", "plan"] (spNumI 34 BC PC)) :
    FnOk P w K mg base CX0 4 f fd ["self", "plan"] (spNumI 47 BC PC) := by
  refine F.ok T ssBook (fun vs H Q E h => ?_) (fun cda cc A outer s H vs Q E hr ST h => ?_)
  · obtain ⟨a, dx, p, zs, rfl, _⟩ := h
    rfl
  · obtain ⟨a, dx, p, zs, rfl, ha, pl, nd, zl, k⟩ := h
    refine ⟨_, pat_cons (st_sup (ST BC S.mro) S.sup (raw0 F2 b2) hr pass0 (pa_cons (pv 1) pa_nil))
      (pss_cons (ps_fld (pv 0) pe_dnewK rfl) (pss_cons (ps_fld (pv 0) pe_dnewK rfl) (pss_cons (ps_fld (pv 0) pe_dnewK rfl) (pss_cons (ps_fld (pv 0) pe_dnewK rfl) (pss_cons (ps_fld (pv 0) pe_dnewK rfl) (pss_cons (ps_fld (pv 0) pe_dnewK rfl) (pss_cons (ps_fld (pv 0) pe_dnewK rfl) (pss_cons (ps_fld (pv 0) (pe_lst pa_nil) rfl) (pss_cons (ps_fld (pv 0) pe_dnewK rfl) (pss_cons (ps_fld (pv 0) pe_dnewK rfl) (pss_cons (ps_fld (pv 0) (pe_lst pa_nil) rfl) (pss_cons (ps_fld (pv 0) pe_dnewK rfl) (pss_one (ps_fld (pv 0) pe_dnewK rfl)))))))))))))), ?_⟩
    refine ⟨a, dx, [], rfl, ha, _, rfl, a, dx, p, zs, rfl, ha, pl, nd, zl, fun H1 fs b1 e1 hl => ?_⟩
    have p0 : Pl H a BC dx fs H1 := ⟨b1, e1⟩
    intro d1 hd1
    refine ⟨_, rfl, a, BC, dx, _, rfl, (p0.new hd1).2, IK.cls, IK.no _ (by simp), by omega, ?_⟩
    obtain ⟨p1, l1⟩ := grow (f := "outcomes") (o := .dK []) p0 hl hd1
    intro d2 hd2
    refine ⟨_, rfl, a, BC, dx, _, rfl, (p1.new hd2).2, IK.cls, IK.no _ (by simp), by omega, ?_⟩
    obtain ⟨p2, l2⟩ := grow (f := "member_rows") (o := .dK []) p1 l1 hd2
    intro d3 hd3
    refine ⟨_, rfl, a, BC, dx, _, rfl, (p2.new hd3).2, IK.cls, IK.no _ (by simp), by omega, ?_⟩
    obtain ⟨p3, l3⟩ := grow (f := "good") (o := .dK []) p2 l2 hd3
    intro d4 hd4
    refine ⟨_, rfl, a, BC, dx, _, rfl, (p3.new hd4).2, IK.cls, IK.no _ (by simp), by omega, ?_⟩
    obtain ⟨p4, l4⟩ := grow (f := "regions") (o := .dK []) p3 l3 hd4
    intro d5 hd5
    refine ⟨_, rfl, a, BC, dx, _, rfl, (p4.new hd5).2, IK.cls, IK.no _ (by simp), by omega, ?_⟩
    obtain ⟨p5, l5⟩ := grow (f := "far") (o := .dK []) p4 l4 hd5
    intro j1 hj1
    refine ⟨_, rfl, a, BC, dx, _, rfl, (p5.new hj1).2, IK.cls, IK.no _ (by simp), by omega, ?_⟩
    obtain ⟨q1, m1⟩ := grow (f := "jumps") (o := .dK []) p5 l5 hj1
    intro j2 hj2
    refine ⟨_, rfl, a, BC, dx, _, rfl, (q1.new hj2).2, IK.cls, IK.no _ (by simp), by omega, ?_⟩
    obtain ⟨q2, m2⟩ := grow (f := "flows") (o := .dK []) q1 m1 hj2
    refine ⟨Nat.zero_le _, fun d6 hd6 => ?_⟩
    refine ⟨_, rfl, a, BC, dx, _, rfl, (q2.new hd6).2, IK.cls, IK.no _ (by simp), by omega, ?_⟩
    obtain ⟨p6, l6⟩ := grow (f := "_questions") (o := .lst []) q2 m2 hd6
    intro d7 hd7
    refine ⟨_, rfl, a, BC, dx, _, rfl, (p6.new hd7).2, IK.cls, IK.no _ (by simp), by omega, ?_⟩
    obtain ⟨p7, l7⟩ := grow (f := "_question_numbers") (o := .dK []) p6 l6 hd7
    intro d8 hd8
    refine ⟨_, rfl, a, BC, dx, _, rfl, (p7.new hd8).2, IK.cls, IK.no _ (by simp), by omega, ?_⟩
    obtain ⟨p8, l8⟩ := grow (f := "_question_pairs") (o := .dK []) p7 l7 hd8
    refine ⟨Nat.zero_le _, fun d9 hd9 => ?_⟩
    refine ⟨_, rfl, a, BC, dx, _, rfl, (p8.new hd9).2, IK.cls, IK.no _ (by simp), by omega, ?_⟩
    obtain ⟨p9, l9⟩ := grow (f := "_pairs") (o := .lst []) p8 l8 hd9
    intro d10 hd10
    refine ⟨_, rfl, a, BC, dx, _, rfl, (p9.new hd10).2, IK.cls, IK.no _ (by simp), by omega, ?_⟩
    obtain ⟨p10, l10⟩ := grow (f := "_pair_numbers") (o := .dK []) p9 l9 hd10
    intro d11 hd11
    refine ⟨_, rfl, a, BC, dx, _, rfl, (p10.new hd11).2, IK.cls, IK.no _ (by simp), by omega, ?_⟩
    obtain ⟨p11, l11⟩ := grow (f := "_steps") (o := .dK []) p10 l10 hd11
    exact k _ _ p11.1 p11.2 l11
end
end K5

/-! ==== P5p ==== -/
set_option Elab.async false
set_option linter.all false
set_option maxRecDepth 100000
set_option maxHeartbeats 4000000
/-! k05: check_ways, places_of, places_of_all, check_marks. -/
namespace K5
open PySem PySem.Spec PyProof.Rows L2 StX ClX SuX Sh KwX TuI D2X NkX
/-- a tuple of declarations -/
def DeclsAt (K : PySem.W.Frag) (KC RC : Addr) (H : Hp) (t : Addr) (xs : List V) (ds : List Dc) : Prop := H t = some (.tup xs) ∧ Paired (fun d v => DcAt K KC RC H d v) ds xs ∧ (∀ d ∈ ds, ∀ u, d ≠ .odd u) ∧ ds.length ≤ 20
theorem DeclsAt.item {K : PySem.W.Frag} {KC RC : Addr} {H : Hp} {t : Addr} {xs : List V} {ds : List Dc} (D : DeclsAt K KC RC H t xs ds) {i : Nat} {x : V} (hx : xs[i]? = some x) : ∃ dc, ds[i]? = some dc ∧ DcAt K KC RC H dc x ∧ ∀ u, dc ≠ .odd u := by
  have hl : ds.length = xs.length := Paired.length D.2.1
  have hi : i < ds.length := by have := (List.getElem?_eq_some_iff.mp hx).1; omega
  obtain ⟨dc, hdc⟩ : ∃ dc, ds[i]? = some dc := ⟨_, List.getElem?_eq_getElem hi⟩
  obtain ⟨y, hy, hat⟩ := LiI.paired_get D.2.1 hdc
  obtain rfl : y = x := Option.some.inj (hy.symm.trans hx)
  exact ⟨dc, hdc, hat, D.2.2.1 dc (List.mem_of_getElem? hdc)⟩
def spCW (K : PySem.W.Frag) (KC RC : Addr) : Sp := fun vs H Q _ => ∃ (b t : Addr) (xs : List V) (ds : List Dc), vs = [.ref b, .ref t] ∧ DeclsAt K KC RC H t xs ds ∧ ∀ H', Same H H' → Q .non H'
def spPlaces (K : PySem.W.Frag) (KC RC : Addr) : Sp := fun vs H Q _ => ∃ v d, vs = [v] ∧ DcAt K KC RC H d v ∧ (∀ u, d ≠ .odd u) ∧ ∀ H' l, Same H H' → H l = none → H' l = some (.lst []) → Q (.ref l) H'
def spPlacesA (K : PySem.W.Frag) (KC RC : Addr) : Sp := fun vs H Q _ => ∃ (t : Addr) (xs : List V) (ds : List Dc), vs = [.ref t] ∧ DeclsAt K KC RC H t xs ds ∧ ∀ H' l, Same H H' → H l = none → H' l = some (.lst []) → Q (.ref l) H'
section
variable {P : Program} {w : World} {K : PySem.W.Frag} {mg : Str → Option Value} {base : Heap} {KC RC : Addr}
abbrev nCW : List Str := ["book", "declarations", "declaration", "spots", "method", "number", "way"]
theorem scCW : FnScope nCW ["book", "declarations"] (defScope sCW) := ⟨rfl, rfl, rfl, by decide +kernel, rfl, by decide +kernel, by decide +kernel⟩
theorem ok_cw {f : Addr} {fd : FuncData} (F : Fun K "check_ways" "check_ways" sCW f fd) (D : DK P w K mg base KC RC) (G : Got P w K mg base CX0 "spots_of" ["declaration"] 3 (spSpots K KC RC)) : FnOk P w K mg base CX0 4 f fd ["book", "declarations"] (spCW K KC RC) := by
  refine F.ok scCW (fun vs H Q E h => ?_) (fun cdv A outer s H vs Q E hr h => ?_)
  · obtain ⟨b, t, xs, ds, rfl, _⟩ := h
    rfl
  · obtain ⟨b, t, xs, ds, rfl, DA, k⟩ := h
    have ht := DA.1
    have hr2 := hr.mono (show 2 ≤ 3 by decide)
    refine ⟨_, pss_one (ps_for PassesOwn.never rfl (pi_tup (pv 1)) (pg_name (i := 2) scCW.nd rfl (Or.inl rfl)) (pss_cons (ps_set (i := 3) scCW.nd rfl (Or.inl rfl) (pe_got G hr (by decide) pass0 (pa_cons (pv 2) pa_nil)))
      (pss_one (ps_for PassesOwn.never rfl (pi_tup (pe_prp (fld := "_methods") D.methods hr2 (pv 2))) (pg_name (i := 4) scCW.nd rfl (Or.inl rfl)) pss_never)))), ?_⟩
    refine ⟨_, rfl, t, rfl, ⟨xs, .inl (.inl ht)⟩, ?_⟩
    refine for_it (walk_tup (xs := xs)) (fun i σ' H' => (∃ v2 v3 v4 v5 v6, σ' = [some (.ref b), some (.ref t), v2, v3, v4, v5, v6]) ∧ Same H H') ⟨⟨_, _, _, _, _, rfl⟩, Same.refl H⟩ (fun i σ' H' _ q => .inl (.inl (q.2 t _ ht))) ?_ (fun σ' H' q => k H' q.2)
    rintro i x σ' H2 H3 hi ⟨⟨v2, v3, v4, v5, v6, rfl⟩, s2⟩ ⟨rfl, ex⟩
    obtain ⟨dc, hdc, hat, no⟩ := DA.item ex
    refine ⟨_, rfl, x, dc, rfl, hat.same s2, no, fun H4 s0 sm hs0 hds0 => ?_⟩
    obtain ⟨a, C, dx, m, fs, rfl, ha, hC, l1, l2, hm, oz⟩ := dc_fact (hat.same (s2.trans sm)) no
    refine ⟨_, rfl, a, C, dx, fs, _, rfl, ha, by rcases hC with rfl | rfl <;> simp, l2, m, rfl, ⟨[], .inl (.inl hm)⟩, ?_⟩
    refine for_it (walk_tup (xs := [])) (fun _ σ' H' => (∃ v2 v3 v4 v5 v6, σ' = [some (.ref b), some (.ref t), v2, v3, v4, v5, v6]) ∧ H' = H4) ⟨⟨_, _, _, _, _, rfl⟩, rfl⟩ (fun i σ' H' _ q => by rw [q.2]; exact .inl (.inl hm)) (fun j _ _ _ _ hj => absurd hj (Nat.not_lt_zero _)) ?_
    rintro σ' H' ⟨q, rfl⟩
    exact ⟨q, s2.trans sm⟩
abbrev nPl : List Str := ["role", "spots", "told", "method", "number", "way", "at", "demand"]
theorem scPl : FnScope nPl ["role"] (defScope sPlaces) := ⟨rfl, rfl, rfl, by decide +kernel, rfl, by decide +kernel, by decide +kernel⟩
theorem ok_places {f : Addr} {fd : FuncData} (F : Fun K "places_of" "places_of" sPlaces f fd) (D : DK P w K mg base KC RC) (G : Got P w K mg base CX0 "spots_of" ["declaration"] 3 (spSpots K KC RC)) : FnOk P w K mg base CX0 4 f fd ["role"] (spPlaces K KC RC) := by
  refine F.ok scPl (fun vs H Q E h => ?_) (fun cdv A outer s H vs Q E hr h => ?_)
  · obtain ⟨v, d, rfl, _⟩ := h
    rfl
  · obtain ⟨v, d, rfl, hat, no, k⟩ := h
    have hr2 := hr.mono (show 2 ≤ 3 by decide)
    refine ⟨_, pss_cons (ps_set (i := 1) scPl.nd rfl (Or.inl rfl) (pe_got G hr (by decide) pass0 (pa_cons (pv 0) pa_nil))) (pss_cons (ps_set (i := 2) scPl.nd rfl (Or.inl rfl) (pe_lst pa_nil))
      (pss_cons (ps_for PassesOwn.never rfl (pi_tup (pe_prp (fld := "_methods") D.methods hr2 (pv 0))) (pg_name (i := 3) scPl.nd rfl (Or.inl rfl)) pss_never) (pss_one (ps_ret (pv 2))))), ?_⟩
    refine ⟨_, rfl, v, d, rfl, hat, no, fun H4 s0 sm hs0 hds0 => ⟨Nat.zero_le _, fun l hl => ?_⟩⟩
    have s5 := sm.new (o := .lst []) hl
    obtain ⟨a, C, dx, m, fs, rfl, ha, hC, l1, l2, hm, oz⟩ := dc_fact (hat.same s5) no
    refine ⟨_, rfl, a, C, dx, fs, _, rfl, ha, by rcases hC with rfl | rfl <;> simp, l2, m, rfl, ⟨[], .inl (.inl hm)⟩, ?_⟩
    refine for_it (walk_tup (xs := [])) (fun _ σ' H' => (∃ v1 v3 v4 v5 v6 v7, σ' = [some (.ref a), v1, some (.ref l), v3, v4, v5, v6, v7]) ∧ H' = upd H4 l (.lst [])) ⟨⟨_, _, _, _, _, _, rfl⟩, rfl⟩ (fun i σ' H' _ q => by rw [q.2]; exact .inl (.inl hm)) (fun j _ _ _ _ hj => absurd hj (Nat.not_lt_zero _)) ?_
    rintro σ' H' ⟨⟨v1, v3, v4, v5, v6, v7, rfl⟩, rfl⟩
    exact ⟨_, rfl, k _ l s5 (sm.free hl) upd_same⟩
abbrev nPA : List Str := ["declarations", "told", "declaration"]
theorem scPA : FnScope nPA ["declarations"] (defScope sPlacesA) := ⟨rfl, rfl, rfl, by decide +kernel, rfl, by decide +kernel, by decide +kernel⟩
theorem ok_placesa {f : Addr} {fd : FuncData} (F : Fun K "places_of_all" "places_of_all" sPlacesA f fd) (B : Blt mg) (D : DK P w K mg base KC RC) (G : Got P w K mg base CX0 "places_of" ["role"] 4 (spPlaces K KC RC)) : FnOk P w K mg base CX0 5 f fd ["declarations"] (spPlacesA K KC RC) := by
  refine F.ok scPA (fun vs H Q E h => ?_) (fun cdv A outer s H vs Q E hr h => ?_)
  · obtain ⟨t, xs, ds, rfl, _⟩ := h
    rfl
  · obtain ⟨t, xs, ds, rfl, DA, k⟩ := h
    have ht := DA.1
    refine ⟨_, pss_cons (ps_set (i := 1) scPA.nd rfl (Or.inl rfl) (pe_lst pa_nil))
      (pss_cons (ps_for PassesOwn.never rfl (pi_tup (pv 0)) (pg_name (i := 2) scPA.nd rfl (Or.inl rfl)) (pss_one (ps_if (pt_val (pe_callB call_isi (by rfl) B.isinstance (by decide +kernel) (pa_cons (pv 2) (pa_cons (pe_glob (v := .ref RC) rfl D.gr rfl) pa_nil))))
        (pss_one (ps_expr (pe_bm PySem.F.plainAttrs_list PySem.F.slot_list_extend PySem.F.type_list_extend mt_extend (pv 1) (pa_cons (pe_got G hr (by decide) pass0 (pa_cons (pv 2) pa_nil)) pa_nil)))) pss_nil)))
      (pss_one (ps_ret (pv 1)))), ?_⟩
    refine ⟨Nat.zero_le _, fun l hl => ?_⟩
    have s1 := (Same.refl H).new (o := .lst []) hl
    refine ⟨_, rfl, t, rfl, ⟨xs, .inl (.inl (s1 t _ ht))⟩, ?_⟩
    refine for_it (walk_tup (xs := xs)) (fun i σ' H' => (∃ v2, σ' = [some (.ref t), some (.ref l), v2]) ∧ Same H H' ∧ H' l = some (.lst [])) ⟨⟨_, rfl⟩, s1, upd_same⟩ (fun i σ' H' _ q => .inl (.inl (q.2.1 t _ ht))) ?_ ?_
    · rintro i x σ' H2 H3 hi ⟨⟨v2, rfl⟩, s2, h2⟩ ⟨rfl, ex⟩
      obtain ⟨dc, hdc, hat, no⟩ := DA.item ex
      have hat2 := hat.same s2
      cases dc with
      | odd u => exact absurd rfl (no u)
      | kind z =>
        obtain ⟨b, rfl, ⟨dx', m, hb, hm⟩, oz⟩ := hat2
        exact ⟨_, rfl, _, _, _, _, false, rfl, .own RC, D.kind.ty hb, D.kr, _, rfl, iteF ⟨⟨_, rfl⟩, s2, h2⟩⟩
      | role z ms =>
        obtain ⟨b, rfl, ⟨dx', m, tm, hb, hm, hmk⟩, oz⟩ := hat2
        refine ⟨_, rfl, _, _, _, _, true, rfl, .own RC, D.role.ty hb, D.rr, _, rfl, iteT ?_⟩
        refine ⟨_, rfl, .inl ⟨rfl, _, .inl (.inl h2)⟩, _, rfl, .ref b, .role z ms, rfl, hat.same s2, no, fun H4 l2 s4 hl2 hll => ?_⟩
        have nl : l2 ≠ l := fun z => by rw [z, h2] at hl2; cases hl2
        refine ⟨l, l2, [], [], rfl, rfl, s4 l _ h2, hll, Nat.zero_le _, ⟨⟨_, rfl⟩, ?_, upd_same⟩⟩
        exact (s2.trans s4).old hl
    · rintro σ' H2 ⟨⟨v2, rfl⟩, s2, h2⟩
      exact ⟨_, rfl, k H2 l s2 hl h2⟩
def mapFrom (i : Nat) : List (Str × Str) → List (Key × V)
  | [] => []
  | q :: r => ((Sum.inr q.1 : Key), .int (i : Nat)) :: mapFrom (i + 1) r
theorem mapFrom_get : ∀ (ms : List (Str × Str)) (i j : Nat), (mapFrom i ms)[j]? = (ms[j]?).map fun q => ((Sum.inr q.1 : Key), V.int ((i + j : Nat) : Int))
  | [], i, j => by simp [mapFrom]
  | q :: r, i, 0 => by simp [mapFrom]
  | q :: r, i, j + 1 => by
    show (mapFrom (i + 1) r)[j]? = _
    rw [mapFrom_get r (i + 1) j, show i + 1 + j = i + (j + 1) by omega]
    rfl
theorem spotsG_map : ∀ (ms : List (Str × Str)) (i : Nat) (acc : List (Key × V)), (ms.map (·.1)).Nodup → (∀ q ∈ ms, valV acc (Sum.inr q.1) = none) → spotsG i acc ms = acc ++ mapFrom i ms
  | [], i, acc, _, _ => by simp [spotsG, mapFrom]
  | q :: r, i, acc, nd, h => by
    obtain ⟨n1, n2⟩ := List.nodup_cons.mp (show (q.1 :: r.map (·.1)).Nodup from nd)
    have e := putK_new (.int (i : Nat)) (h q (by simp))
    show spotsG (i + 1) (putK acc (.inr q.1) (.int (i : Nat))) r = _
    rw [spotsG_map r (i + 1) _ n2 (fun p hp => ?_), e]
    · simp [mapFrom]
    · rw [valV_put, if_neg (fun z => n1 (by rw [← Sum.inr.inj z]; exact List.mem_map_of_mem hp))]
      exact h p (List.mem_cons_of_mem _ hp)
abbrev markL : List Str := ["none", "out", "in", "both"]
theorem mark_ix {z : Str} (h : markB z = true) : ∃ j : Nat, markL[j]? = some z ∧ ∀ m : Nat, m < j → markL[m]? ≠ some z := by
  by_cases h0 : z = "none"
  · exact ⟨0, by rw [h0]; rfl, fun m hm => absurd hm (Nat.not_lt_zero _)⟩
  by_cases h1 : z = "out"
  · refine ⟨1, by rw [h1]; rfl, fun m hm e => ?_⟩
    obtain rfl : m = 0 := by omega
    exact h0 (Option.some.inj e).symm
  by_cases h2 : z = "in"
  · refine ⟨2, by rw [h2]; rfl, fun m hm e => ?_⟩
    rcases (show m = 0 ∨ m = 1 by omega) with rfl | rfl
    · exact h0 (Option.some.inj e).symm
    · exact h1 (Option.some.inj e).symm
  by_cases h3 : z = "both"
  · refine ⟨3, by rw [h3]; rfl, fun m hm e => ?_⟩
    rcases (show m = 0 ∨ m = 1 ∨ m = 2 by omega) with rfl | rfl | rfl
    · exact h0 (Option.some.inj e).symm
    · exact h1 (Option.some.inj e).symm
    · exact h2 (Option.some.inj e).symm
  · exfalso
    unfold markB inV at h
    simp [h0, h1, h2, h3] at h
    have eqs : ∀ a : Str, eqV (V.str a) (V.str z) = true → z = a := fun a q => (beq_iff_eq.mp (show (a == z) = true from q)).symm
    rcases h with h | h | h | h
    · exact h0 (eqs _ h)
    · exact h1 (eqs _ h)
    · exact h2 (eqs _ h)
    · exact h3 (eqs _ h)
def spCM (K : PySem.W.Frag) (KC RC : Addr) : Sp := fun vs H Q _ => ∃ (t : Addr) (xs : List V) (ds : List Dc), vs = [.ref t] ∧ DeclsAt K KC RC H t xs ds ∧ ∀ H', Same H H' → Q .non H'
abbrev nCM : List Str := ["declarations", "demands", "declaration", "parameter", "spot", "place"]
theorem scCM : FnScope nCM ["declarations"] (defScope sCM) := ⟨rfl, rfl, rfl, by decide +kernel, rfl, by decide +kernel, by decide +kernel⟩
theorem ok_cm {f mk : Addr} {fd : FuncData} (F : Fun K "check_marks" "check_marks" sCM f fd) (MK : MarkK K mg mk) (D : DK P w K mg base KC RC) (G : Got P w K mg base CX0 "spots_of" ["declaration"] 3 (spSpots K KC RC)) (GA : Got P w K mg base CX0 "places_of_all" ["declarations"] 5 (spPlacesA K KC RC)) :
    FnOk P w K mg base CX0 6 f fd ["declarations"] (spCM K KC RC) := by
  refine F.ok scCM (fun vs H Q E h => ?_) (fun cdv A outer s H vs Q E hr h => ?_)
  · obtain ⟨t, xs, ds, rfl, _⟩ := h
    rfl
  · obtain ⟨t, xs, ds, rfl, DA, k⟩ := h
    have ht := DA.1
    have hu := hu_of hr
    have hr2 := hr.mono (show 2 ≤ 5 by decide)
    refine ⟨_, pss_cons (ps_set (i := 1) scCM.nd rfl (Or.inl rfl) pe_dnewT)
      (pss_cons (ps_for PassesOwn.never rfl (pi_tup (pv 0)) (pg_name (i := 2) scCM.nd rfl (Or.inl rfl))
        (pss_one (ps_for PassesOwn.never rfl (pi_items (pe_frz (pe_got G hr (by decide) pass0 (pa_cons (pv 2) pa_nil)))) (pg_tup rfl (pgs_cons (pg_name (i := 3) scCM.nd rfl (Or.inl rfl)) (pgs_cons (pg_name (i := 4) scCM.nd rfl (Or.inl rfl)) pgs_nil)))
          (pss_one (ps_dput hu (pv 1) (pe_tup (pa_cons (pe_prp (fld := "_name") D.name hr2 (pv 2)) (pa_cons (pv 4) pa_nil)))
            (pe_bm PySem.F.plainAttrs_tuple PySem.F.slot_tuple_index PySem.F.type_tuple_index mt_tup_index (pe_glob (v := .ref mk) rfl MK.at_ rfl) (pa_cons (pe_ix ix_tup (pe_ix ix_tup (pe_prp (fld := "_marks") D.marks hr2 (pv 2)) (pv 4) (fun _ _ => rfl)) pe_int (fun _ _ => rfl)) pa_nil)) rfl)))))
      (pss_one (ps_for PassesOwn.never rfl (pi_list (pe_got GA hr (by decide) pass0 (pa_cons (pv 0) pa_nil))) (pg_name (i := 5) scCM.nd rfl (Or.inl rfl)) pss_never))), ?_⟩
    intro dd hdd
    have s1 := (Same.refl H).new (o := .dT []) hdd
    refine ⟨_, rfl, t, rfl, ⟨xs, .inl (.inl (s1 t _ ht))⟩, ?_⟩
    refine for_it (walk_tup (xs := xs)) (fun i σ' H' => (∃ v2 v3 v4 v5, σ' = [some (.ref t), some (.ref dd), v2, v3, v4, v5]) ∧ Same H H' ∧ ∃ kvs, H' dd = some (.dT kvs) ∧ kvs.length ≤ i * 2) ⟨⟨_, _, _, _, rfl⟩, s1, [], upd_same, Nat.le_refl _⟩ (fun i σ' H' _ q => .inl (.inl (q.2.1 t _ ht))) ?_ ?_
    · rintro i x σ' H2 H3 hi ⟨⟨v2, v3, v4, v5, rfl⟩, s2, kvs, h2, hk⟩ ⟨rfl, ex⟩
      obtain ⟨dc, hdc, hat, no⟩ := DA.item ex
      have hl : ds.length = xs.length := Paired.length DA.2.1
      have h20 := DA.2.2.2
      refine ⟨_, rfl, x, dc, rfl, hat.same s2, no, fun H4 s0 sm hs0 hds0 => ?_⟩
      have q0 : dd ≠ s0 := ne_of_none h2 hs0
      refine ⟨s0, _, rfl, hds0, trivial, fun od => ⟨s0, od, _, rfl, upd_same, ?_⟩⟩
      refine for_it walk_items (fun j σ' H' => (∃ v3 v4 v5, σ' = [some (.ref t), some (.ref dd), some x, v3, v4, v5]) ∧ Same H H' ∧ H' s0 = some (.frz od (.dK (spotsK (dcMs dc)))) ∧ ∃ kvs, H' dd = some (.dT kvs) ∧ kvs.length ≤ i * 2 + j)
        ⟨⟨_, _, _, rfl⟩, (s2.trans sm).old (s2.free hs0), upd_same, kvs, by rw [upd_ne q0]; exact sm dd _ h2, hk⟩ (fun j σ' H' _ q => q.2.2.1) ?_ ?_
      · rintro j y σ' H5 H6 hj ⟨⟨v3, v4, v5, rfl⟩, s5, f5, kv5, h5, hk5⟩ ⟨T, y1, y2, rfl, hT, rfl, ey1, ey2⟩
        cases dc with
        | odd u => exact absurd rfl (no u)
        | kind z => exact absurd hj (Nat.not_lt_zero _)
        | role z ms =>
          have s6 : Same H (upd H5 T (.tup [y1, y2])) := s5.new hT
          obtain ⟨b, rfl, ⟨dx', m, tm, hb, hm, ts, ht', hts⟩, oz, okm, kwo⟩ := hat.same s6
          have esp : spotsK ms = mapFrom 0 ms := by
            have := spotsG_map ms 0 [] kwo.nd (fun _ _ => rfl)
            exact this
          have hj' : j < ms.length := by
            have e0 : (spotsK (dcMs (.role z ms))).length = ms.length := by
              have := congrArg List.length (dc_keys hat)
              rw [List.length_map, List.length_map] at this
              exact this
            omega
          obtain ⟨q, hq⟩ : ∃ q, ms[j]? = some q := ⟨_, List.getElem?_eq_getElem hj'⟩
          have hsj : (spotsK (dcMs (.role z ms)))[j]? = some ((Sum.inr q.1 : Key), V.int (j : Nat)) := by
            show (spotsK ms)[j]? = _
            rw [esp, mapFrom_get, hq, Nat.zero_add]
            rfl
          simp only [hsj] at ey1 ey2
          obtain rfl : V.str q.1 = y1 := Option.some.inj ey1
          obtain rfl : V.int (j : Nat) = y2 := Option.some.inj ey2
          have hl2 : ts.length = ms.length := Paired.length hts
          obtain ⟨ti, hti⟩ : ∃ ti, ts[j]? = some ti := ⟨_, List.getElem?_eq_getElem (by omega)⟩
          obtain ⟨q', hq', htq⟩ := LiI.paired_get hts hti
          obtain rfl : q' = q := Option.some.inj (hq'.symm.trans hq)
          refine ⟨T, _, rfl, .inl (.inl upd_same), rfl, _, _, rfl, _, _, rfl, ⟨rfl, ?_⟩⟩
          obtain ⟨mo, mo1, mo2, mo3⟩ := MK.obj
          obtain ⟨mj, mj1, mj2⟩ := mark_ix ((okm q' (List.mem_of_getElem? hq)).1.2.2)
          refine ⟨.inr (.inl ⟨rfl, mo, mo1, mo2, mo3⟩), _, rfl, b, RC, dx', _, _, rfl, hb, by simp, rfl, _, rfl, tm, ts.map V.ref, (j : Int), .ref ti, rfl, rfl, .inl (.inl ht'), atI_nat (by rw [List.getElem?_map, hti]; rfl), ?_⟩
          refine ⟨ti, _, 1, .str q'.2, rfl, rfl, .inl (.inl htq), atI_nat (j := 1) rfl, mk, markL, q'.2, mj, rfl, rfl, MK.tup _, mj1, mj2, ?_⟩
          refine ⟨_, rfl, _, rfl, b, RC, dx', _, _, rfl, hb, by simp, rfl, _, rfl, by show 2 ≤ sizeLine; decide, fun kt hkt => ?_⟩
          have nT : dd ≠ T := ne_of_none h5 hT
          have h6 : upd H5 T (.tup [.str q'.1, .int (j : Nat)]) dd = some (.dT kv5) := by rw [upd_ne nT]; exact h5
          have nk : dd ≠ kt := ne_of_none h6 hkt
          have hsT : s0 ≠ T := ne_of_none f5 hT
          have f6 : upd H5 T (.tup [.str q'.1, .int (j : Nat)]) s0 = some (.frz od (.dK (spotsK (dcMs (.role z ms))))) := by rw [upd_ne hsT]; exact f5
          have hk2 := length_putK kv5 [(Sum.inr z : Key), Sum.inl (j : Int)] (V.int (mj : Nat))
          have two := kwo.two
          rw [List.length_map] at two
          refine ⟨dd, _, rfl, DPut.t (k := [(Sum.inr z : Key), Sum.inl (j : Int)]) (by rw [upd_ne nk]; exact h6) upd_same (by rw [sizeLine_eq]; omega), ?_⟩
          refine ⟨⟨_, _, _, rfl⟩, (s6.new hkt).old hdd, ?_, _, upd_same, by omega⟩
          rw [upd_ne (Ne.symm q0), upd_ne (ne_of_none f6 hkt)]
          exact f6
      · rintro σ' H5 ⟨⟨v3, v4, v5, rfl⟩, s5, f5, kv5, h5, hk5⟩
        refine ⟨⟨_, _, _, _, rfl⟩, s5, kv5, h5, ?_⟩
        have e0 : (spotsK (dcMs dc)).length ≤ 2 := by
          have e1 := congrArg List.length (dc_keys hat)
          rw [List.length_map, List.length_map] at e1
          rw [e1]
          cases dc with
          | odd u => exact Nat.zero_le _
          | kind z => exact Nat.zero_le _
          | role z ms =>
            obtain ⟨_, _, _, _, _, kwo⟩ := hat
            have := kwo.two
            rw [List.length_map] at this
            exact this
        omega
    · rintro σ' H2 ⟨⟨v2, v3, v4, v5, rfl⟩, s2, kvs, h2, hk⟩
      refine ⟨_, rfl, t, xs, ds, rfl, ⟨s2 t _ ht, ?_, DA.2.2⟩, fun H3 l s3 hl hll => ⟨l, rfl, ⟨[], .inl (.inl hll)⟩, ?_⟩⟩
      · exact PySem.Paired.mono (fun d v h => h.same s2) DA.2.1
      · refine for_it (walk_list (xs := [])) (fun _ σ' H' => H' = H3) rfl (fun _ _ _ _ q => by rw [q]; exact .inl (.inl hll)) (fun j _ _ _ _ hj => absurd hj (Nat.not_lt_zero _)) ?_
        rintro σ' H' rfl
        exact k _ (s2.trans s3)
end
end K5

/-! ==== P5q ==== -/
set_option Elab.async false
set_option linter.all false
set_option maxRecDepth 100000
set_option maxHeartbeats 4000000
/-! k05: World made. -/
namespace K5
open PySem PySem.Spec PyProof.Rows L2 StX ClX SuX Sh KwX TuI D2X NkX
def rolesOf : List Dc → List Str
  | [] => []
  | .role z _ :: r => z :: rolesOf r
  | _ :: r => rolesOf r
theorem rolesOf_append : ∀ (a b : List Dc), rolesOf (a ++ b) = rolesOf a ++ rolesOf b
  | [], b => rfl
  | .role z ms :: r, b => by show z :: rolesOf (r ++ b) = _; rw [rolesOf_append r b]; rfl
  | .kind z :: r, b => rolesOf_append r b
  | .odd u :: r, b => rolesOf_append r b
/-- what World tells of the values -/
def worldDue (ds : List Dc) : Option (Str × V) := (namesDue ds).or (if (kindsOf ds).length > 12 ∨ (rolesOf ds).length > 8 then some ("size", .non) else none)
abbrev declD (ds : List Dc) (xs : List V) : List (Key × V) := (ds.zip xs).map fun p => ((Sum.inr (dcName p.1) : Key), p.2)
/-- a made world -/
def WorldAt (WC : Addr) (H : Hp) (x : Addr) (ds : List Dc) (xs : List V) : Prop := ∃ (dx t kt rt dd : Addr) (fs : List (Str × V)), H x = some (.ins WC dx fs) ∧ fs.lookup ("_declarations" : Str) = some (.ref t) ∧ H t = some (.tup xs) ∧ fs.lookup ("_kinds" : Str) = some (.ref kt) ∧ H kt = some (.tup ((kindsOf ds).map V.str)) ∧
  fs.lookup ("_roles" : Str) = some (.ref rt) ∧ H rt = some (.tup ((rolesOf ds).map V.str)) ∧ fs.lookup ("_declared" : Str) = some (.ref dd) ∧ H dd = some (.dK (declD ds xs))
theorem WorldAt.same {WC : Addr} {H H' : Hp} {x : Addr} {ds : List Dc} {xs : List V} (s : Same H H') (W : WorldAt WC H x ds xs) : WorldAt WC H' x ds xs := by
  obtain ⟨dx, t, kt, rt, dd, fs, h1, h2, h3, h4, h5, h6, h7, h8, h9⟩ := W
  exact ⟨dx, t, kt, rt, dd, fs, s _ _ h1, h2, s _ _ h3, h4, s _ _ h5, h6, s _ _ h7, h8, s _ _ h9⟩
theorem namesA_nodup : ∀ (ds : List Dc) (i : Nat) (known : List Str), namesA i known ds = none → (ds.map dcName).Nodup ∧ ∀ d ∈ ds, dcName d ∉ known
  | [], _, _, _ => ⟨List.nodup_nil, fun _ h => nomatch h⟩
  | d :: r, i, known, h => by
    have no : ∀ u, d ≠ .odd u := namesA_odd h d (by simp)
    rw [namesA_step no] at h
    split at h
    · cases h
    · rename_i hk
      obtain ⟨n1, n2⟩ := namesA_nodup r (i + 1) (known ++ [dcName d]) h
      refine ⟨List.nodup_cons.mpr ⟨fun hm => ?_, n1⟩, fun e he => ?_⟩
      · obtain ⟨e, he, q⟩ := List.mem_map.mp hm
        exact n2 e he (by rw [q]; simp)
      · rcases List.mem_cons.mp he with rfl | he
        · exact hk
        · exact fun z => n2 e he (List.mem_append_left _ z)
theorem counts : ∀ ds : List Dc, (∀ d ∈ ds, ∀ u, d ≠ .odd u) → (kindsOf ds).length + (rolesOf ds).length = ds.length
  | [], _ => rfl
  | .kind z :: r, no => by have := counts r (fun d hd => no d (List.mem_cons_of_mem _ hd)); show (kindsOf r).length + 1 + (rolesOf r).length = r.length + 1; omega
  | .role z ms :: r, no => by have := counts r (fun d hd => no d (List.mem_cons_of_mem _ hd)); show (kindsOf r).length + ((rolesOf r).length + 1) = r.length + 1; omega
  | .odd u :: r, no => absurd rfl (no _ (by simp) u)
theorem kinds_sub : ∀ ds : List Dc, (ds.map dcName).Nodup → (kindsOf ds).Nodup ∧ ∀ z ∈ kindsOf ds, z ∈ ds.map dcName
  | [], _ => ⟨List.nodup_nil, fun _ h => nomatch h⟩
  | .kind z :: r, nd => by
    obtain ⟨n1, n2⟩ := List.nodup_cons.mp (show (z :: r.map dcName).Nodup from nd)
    obtain ⟨m1, m2⟩ := kinds_sub r n2
    exact ⟨List.nodup_cons.mpr ⟨fun h => n1 (m2 z h), m1⟩, fun y hy => by
      rcases List.mem_cons.mp hy with rfl | hy
      · exact List.mem_cons_self
      · exact List.mem_cons_of_mem _ (m2 y hy)⟩
  | .role z ms :: r, nd => by
    obtain ⟨n1, n2⟩ := List.nodup_cons.mp (show (z :: r.map dcName).Nodup from nd)
    obtain ⟨m1, m2⟩ := kinds_sub r n2
    exact ⟨m1, fun y hy => List.mem_cons_of_mem _ (m2 y hy)⟩
  | .odd u :: r, nd => by
    obtain ⟨n1, n2⟩ := List.nodup_cons.mp (show ((("" : Str)) :: r.map dcName).Nodup from nd)
    obtain ⟨m1, m2⟩ := kinds_sub r n2
    exact ⟨m1, fun y hy => List.mem_cons_of_mem _ (m2 y hy)⟩
/-- what the top has left of World -/
structure WorldK (K : PySem.W.Frag) (mg : Str → Option Value) (WC : Addr) : Prop where
  at_ : mg "World" = some (.ref WC)
  rd : ∃ mc, CRead K WC mc ∧ (∃ t, CVal K WC mc "MAX_KINDS" (.int 12) (.int 12 t)) ∧ ∃ t, CVal K WC mc "MAX_ROLES" (.int 8) (.int 8 t)
def spWorldB (K : PySem.W.Frag) (KC RC IC WC : Addr) : Sp := fun vs H Q E => ∃ (a dx t : Addr) (xs : List V) (ds : List Dc), vs = [.ref a, .ref t] ∧ H a = some (.ins WC dx []) ∧ H t = some (.tup xs) ∧ Paired (fun d v => DcAt K KC RC H d v) ds xs ∧ xs.length < 1000 ∧
  (worldDue ds = none → ∀ H', But a H H' → WorldAt WC H' a ds xs → Q .non H') ∧ (∀ r i, worldDue ds = some (r, i) → ∀ H' d, But a H H' → H d = none → d ≠ a → H' d = some (.xd [("item", i), ("rule", .str r)]) → E (.ref IC) (some d) H')
section
variable {P : Program} {w : World} {K : PySem.W.Frag} {mg : Str → Option Value} {base : Heap} {KC RC IC WC PC BC : Addr}
abbrev nW : List Str := ["self", "declarations", "part"]
theorem scW : FnScope nW ["self", "declarations"] (defScope sWorld) := ⟨rfl, rfl, rfl, by decide +kernel, rfl, by decide +kernel, by decide +kernel⟩
theorem world_body {f fp fb fI : Addr} {fdp fdb : FuncData} (B : Blt mg) (W : Blw mg) (D : DK P w K mg base KC RC) (IK : InsK K WC worldF) (WK : WorldK K mg WC) (R1 : RaiseK P w K mg base "InvalidWorld" IC 2 ["self", "rule", "item"] [.non] (spIW K IC))
    (GC : Got P w K mg base (L2.CX P w) "check_names" ["declarations"] 4 (spCheck K KC RC IC)) (GW : Got P w K mg base CX0 "check_ways" ["book", "declarations"] 4 (spCW K KC RC)) (GM : Got P w K mg base CX0 "check_marks" ["declarations"] 6 (spCM K KC RC))
    (gP : mg "Plan" = some (.ref PC)) (MP : Mk K PC fp) (bP : Binds K fdp ["self", "declarations"] []) (FP : FnOk P w K mg base CX0 4 fp fdp ["self", "declarations"] (spPlan K KC RC PC))
    (gB : mg "Book" = some (.ref BC)) (MB : Mk K BC fb) (bB : Binds K fdb ["self", "plan"] []) (FB : FnOk P w K mg base CX0 4 fb fdb ["self", "plan"] (spNumI 47 BC PC))
    {cdv : Value} {A : Around} {outer : List Env} {s : Shared} {H : Hp} {vs : List V} {Q : VK} {E : XK} (hr : Room 6 (A.deeper (envOfC "World.__init__" (defScope sWorld) s.heap.objs.size f cdv))) (h : spWorldB K KC RC IC WC vs H Q E) :
    ∃ t, PSs (cxOf (L2.CX P w) P w K mg base nW "World.__init__" (defScope sWorld) f cdv A outer s H E) (defBody sWorld) t ∧ t { nx := fun _ H' => Q .non H', rt := Q } (L2.start nW vs) H := by
  obtain ⟨a, dx, t, xs, ds, rfl, ha, ht, hds, hlen, k0, k1⟩ := h
  obtain ⟨mc, cr, ⟨tk, cvk⟩, tr, cvr⟩ := WK.rd
  have hr2 := hr.mono (show 2 ≤ 6 by decide)
  have hr3 := hr.mono (show 3 ≤ 6 by decide)
  have hr5 := hr.mono (show 5 ≤ 6 by decide)
  refine ⟨_, pss_cons (ps_expr (pe_got GC hr (by decide) (passes_call (takes_of rfl rfl rfl rfl) (fun _ _ _ _ h => h)) (pa_cons (pv 1) pa_nil)))
    (pss_cons (ps_fld (pv 0) (pv 1) rfl)
    (pss_cons (ps_fld (pv 0) (pe_callTy call_tuple_of (by rfl) W.tuple (by decide +kernel) (pa_cons (pe_lc (own := [("part", 2)]) (g := gName 2) (tt := tB (tCB (rIsi K) (tCons (tVar 2) (tCons (tC (.ref KC)) tNil)))) rfl scW.nd (pi_tup (pv 1)) (blkOk_by (N := nW) (sc := defScope sWorld) (by decide +kernel))
          (fun _ _ _ _ _ => pg_name (i := 2) scW.nd rfl (Or.inl rfl)) (fun _ _ _ _ _ => pts_one (pt_val (pe_callB call_isi (by rfl) B.isinstance (by decide +kernel) (pa_cons (pv 2) (pa_cons (pe_glob (v := .ref KC) rfl D.gk rfl) pa_nil))))) (fun _ _ _ _ _ => pe_prp (fld := "_name") D.name hr2 (pv 2))) pa_nil)) rfl)
    (pss_cons (ps_fld (pv 0) (pe_callTy call_tuple_of (by rfl) W.tuple (by decide +kernel) (pa_cons (pe_lc (own := [("part", 2)]) (g := gName 2) (tt := tB (tCB (rIsi K) (tCons (tVar 2) (tCons (tC (.ref RC)) tNil)))) rfl scW.nd (pi_tup (pv 1)) (blkOk_by (N := nW) (sc := defScope sWorld) (by decide +kernel))
          (fun _ _ _ _ _ => pg_name (i := 2) scW.nd rfl (Or.inl rfl)) (fun _ _ _ _ _ => pts_one (pt_val (pe_callB call_isi (by rfl) B.isinstance (by decide +kernel) (pa_cons (pv 2) (pa_cons (pe_glob (v := .ref RC) rfl D.gr rfl) pa_nil))))) (fun _ _ _ _ _ => pe_prp (fld := "_name") D.name hr2 (pv 2))) pa_nil)) rfl)
    (pss_cons (ps_if (PW.pt (pw_or (pt_cmpR op_gt (pe_callB call_len_seq (by rfl) B.len PySem.boot_len (pa_cons (pe_fld (pv 0) rfl) pa_nil)) (pe_cval (pe_glob (v := .ref WC) rfl WK.at_ rfl)) (nomark _))
        (pw_or1 (pt_cmpR op_gt (pe_callB call_len_seq (by rfl) B.len PySem.boot_len (pa_cons (pe_fld (pv 0) rfl) pa_nil)) (pe_cval (pe_glob (v := .ref WC) rfl WK.at_ rfl)) (nomark _)))))
      (pss_one (ps_rk R1 rfl hr3 (takes_of rfl rfl rfl rfl) rfl (pa_cons pe_str pa_nil))) pss_nil)
    (pss_cons (ps_fld (pv 0) (pe_dc (own := [("part", 2)]) (g := gName 2) (tt := tYes) rfl scW.nd (pi_tup (pv 1)) (blkOk_by (N := nW) (sc := defScope sWorld) (by decide +kernel)) (fun _ _ _ _ _ => pg_name (i := 2) scW.nd rfl (Or.inl rfl)) (fun _ _ _ _ _ => pts_nil) (fun _ _ _ _ _ => pe_prp (fld := "_name") D.name hr2 (pv 2)) (fun _ _ _ _ _ => pv 2)) rfl)
    (pss_cons (ps_fld (pv 0) (pe_make MP FP hr5 rfl gP bP .nil pass0 (pa_cons (pv 1) pa_nil)) rfl)
    (pss_cons (ps_fld (pv 0) (pe_make MB FB hr5 rfl gB bB .nil pass0 (pa_cons (pe_fld (pv 0) rfl) pa_nil)) rfl)
    (pss_cons (ps_fld (pv 0) pe_non rfl)
    (pss_cons (ps_expr (pe_got GW hr (by decide) pass0 (pa_cons (pe_fld (pv 0) rfl) (pa_cons (pv 1) pa_nil))))
    (pss_one (ps_expr (pe_got GM hr (by decide) pass0 (pa_cons (pv 1) pa_nil))))))))))))), ?_⟩
  have hl : ds.length = xs.length := Paired.length hds
  have big : (13 : Nat) ≤ sizeLine := by rw [sizeLine_eq]; omega
  refine ⟨_, rfl, t, xs, ds, rfl, ht, hds, hlen, fun hn H1 s1 => ?_, fun r i hr1 H' d s2 hd e => k1 r i (by unfold worldDue; rw [hr1]; rfl) H' d (fun b o _ e => s2 b o e) hd (fun z => by rw [z, ha] at hd; cases hd) e⟩
  have nA : namesA 0 [] ds = none := by
    unfold namesDue at hn
    cases q : namesA 0 [] ds with
    | none => rfl
    | some v => rw [q] at hn; cases hn
  have nodd := namesA_odd nA
  have nod := (namesA_nodup ds 0 [] nA).1
  have p0 : Pl H a WC dx [] H1 := ⟨fun b o _ e => s1 b o e, s1 a _ ha⟩
  have tt : ∀ {H'}, But a H H' → H' t = some (.tup xs) := fun b => b.off ha ht (fun z => by cases z)
  have item : ∀ {i : Nat} {x : V} {H' : Hp}, But a H H' → xs[i]? = some x → ∃ dc, ds[i]? = some dc ∧ DcAt K KC RC H' dc x ∧ ∀ u, dc ≠ .odd u := fun {i x H'} bb hx => by
    have hi : i < ds.length := by have := (List.getElem?_eq_some_iff.mp hx).1; omega
    obtain ⟨dc, hdc⟩ : ∃ dc, ds[i]? = some dc := ⟨_, List.getElem?_eq_getElem hi⟩
    obtain ⟨y, hy, hat⟩ := LiI.paired_get hds hdc
    obtain rfl : y = x := Option.some.inj (hy.symm.trans hx)
    have no := nodd dc (List.mem_of_getElem? hdc)
    exact ⟨dc, hdc, hat.but bb ha no, no⟩
  -- declarations
  refine ⟨_, rfl, _, rfl, a, WC, dx, _, rfl, p0.2, IK.cls, IK.no _ (by simp), by decide, ?_⟩
  have p1 := Pl.put (fs' := putF "_declarations" (.ref t) []) p0
  generalize hG1 : upd H1 a _ = G1 at p1 ⊢
  clear hG1
  -- kinds
  refine ⟨_, rfl, t, rfl, ⟨xs, .inl (.inl (tt p1.1))⟩, fun D0 hD0 => ?_⟩
  refine it_gen (walk_tup (xs := xs)) (fun i H' => Same G1 H' ∧ H' D0 = some (.lst ((kindsOf (ds.take i)).map V.str)) ∧ (kindsOf (ds.take i)).length ≤ i) ⟨(Same.refl G1).new hD0, upd_same, Nat.le_refl _⟩ (fun i H' _ q => .inl (.inl (tt (p1.1.same q.1)))) ?_ ?_
  · rintro i x H2 H3 hi ⟨s2, h2, hkl⟩ ⟨rfl, ex⟩
    obtain ⟨dc, hdc, hat2, no⟩ := item (p1.1.same s2) ex
    have tkk : ds.take (i + 1) = ds.take i ++ [dc] := by rw [List.take_succ, hdc]; rfl
    rw [tkk, kindsOf_append]
    cases dc with
    | odd u => exact absurd rfl (no u)
    | kind z =>
      obtain ⟨b, rfl, ⟨dx', m, hb, hm⟩, oz⟩ := hat2
      refine ⟨rfl, _, rfl, _, _, _, _, true, rfl, .own KC, D.kind.ty hb, D.kk, _, rfl, iteT ?_⟩
      refine ⟨_, rfl, b, KC, dx', _, _, rfl, hb, by simp, rfl, _, h2, by rw [List.length_map, sizeLine_eq]; omega, s2.old hD0, by rw [upd_same, List.map_append]; rfl, by rw [List.length_append]; show _ + 1 ≤ _; omega⟩
    | role z ms =>
      obtain ⟨b, rfl, ⟨dx', m, tm, hb, hm, hmk⟩, oz⟩ := hat2
      refine ⟨rfl, _, rfl, _, _, _, _, false, rfl, .own KC, D.role.ty hb, D.rk, _, rfl, iteF ?_⟩
      have e0 : kindsOf [Dc.role z ms] = [] := rfl
      rw [e0, List.append_nil]
      exact ⟨s2, h2, by omega⟩
  rintro H2 ⟨s2, h2, _⟩
  rw [← hl, List.take_length] at h2
  refine ⟨D0, _, rfl, .inl ⟨.inl (.inl h2), fun kt hkt => ?_⟩⟩
  have p2 := (p1.same s2).new (o := .tup ((kindsOf ds).map V.str)) hkt
  have kta : kt ≠ a := fun z => by rw [z, (p1.same s2).2] at hkt; cases hkt
  refine ⟨_, rfl, a, WC, dx, _, rfl, p2.2, IK.cls, IK.no _ (by simp), by show 1 < 1000; decide, ?_⟩
  have p3 := Pl.put (fs' := putF "_kinds" (.ref kt) (putF "_declarations" (.ref t) [])) p2
  generalize hG2 : upd (upd H2 kt _) a _ = G2 at p3 ⊢
  have hk2 : G2 kt = some (.tup ((kindsOf ds).map V.str)) := by rw [← hG2, upd_ne kta, upd_same]
  clear hG2
  -- roles
  refine ⟨_, rfl, t, rfl, ⟨xs, .inl (.inl (tt p3.1))⟩, fun D1 hD1 => ?_⟩
  refine it_gen (walk_tup (xs := xs)) (fun i H' => Same G2 H' ∧ H' D1 = some (.lst ((rolesOf (ds.take i)).map V.str)) ∧ (rolesOf (ds.take i)).length ≤ i) ⟨(Same.refl G2).new hD1, upd_same, Nat.le_refl _⟩ (fun i H' _ q => .inl (.inl (tt (p3.1.same q.1)))) ?_ ?_
  · rintro i x H4 H5 hi ⟨s4, h4, hkl⟩ ⟨rfl, ex⟩
    obtain ⟨dc, hdc, hat2, no⟩ := item (p3.1.same s4) ex
    have tkk : ds.take (i + 1) = ds.take i ++ [dc] := by rw [List.take_succ, hdc]; rfl
    rw [tkk, rolesOf_append]
    cases dc with
    | odd u => exact absurd rfl (no u)
    | kind z =>
      obtain ⟨b, rfl, ⟨dx', m, hb, hm⟩, oz⟩ := hat2
      refine ⟨rfl, _, rfl, _, _, _, _, false, rfl, .own RC, D.kind.ty hb, D.kr, _, rfl, iteF ?_⟩
      have e0 : rolesOf [Dc.kind z] = [] := rfl
      rw [e0, List.append_nil]
      exact ⟨s4, h4, by omega⟩
    | role z ms =>
      obtain ⟨b, rfl, ⟨dx', m, tm, hb, hm, hmk⟩, oz⟩ := hat2
      refine ⟨rfl, _, rfl, _, _, _, _, true, rfl, .own RC, D.role.ty hb, D.rr, _, rfl, iteT ?_⟩
      refine ⟨_, rfl, b, RC, dx', _, _, rfl, hb, by simp, rfl, _, h4, by rw [List.length_map, sizeLine_eq]; omega, s4.old hD1, by rw [upd_same, List.map_append]; rfl, by rw [List.length_append]; show _ + 1 ≤ _; omega⟩
  rintro H4 ⟨s4, h4, _⟩
  rw [← hl, List.take_length] at h4
  refine ⟨D1, _, rfl, .inl ⟨.inl (.inl h4), fun rt hrt => ?_⟩⟩
  have p4 := (p3.same s4).new (o := .tup ((rolesOf ds).map V.str)) hrt
  have rta : rt ≠ a := fun z => by rw [z, (p3.same s4).2] at hrt; cases hrt
  have ktr : kt ≠ rt := fun z => by rw [← z, s4 kt _ hk2] at hrt; cases hrt
  refine ⟨_, rfl, a, WC, dx, _, rfl, p4.2, IK.cls, IK.no _ (by simp), by show 2 < 1000; decide, ?_⟩
  have p5 := Pl.put (fs' := putF "_roles" (.ref rt) (putF "_kinds" (.ref kt) (putF "_declarations" (.ref t) []))) p4
  generalize hG3 : upd (upd H4 rt _) a _ = G3 at p5 ⊢
  have hr3' : G3 rt = some (.tup ((rolesOf ds).map V.str)) := by rw [← hG3, upd_ne rta, upd_same]
  have hk3 : G3 kt = some (.tup ((kindsOf ds).map V.str)) := by rw [← hG3, upd_ne kta, upd_ne ktr]; exact s4 kt _ hk2
  clear hG3
  -- sizes
  have sS : ∀ H', Shown K H' (.str "size") := fun H' => .str _ (by rw [sizeLine_eq]; decide +kernel) (by decide +kernel)
  have tell : ((kindsOf ds).length > 12 ∨ (rolesOf ds).length > 8) → ∀ d, G3 d = none → E (.ref IC) (some d) (upd G3 d (.xd [("item", .non), ("rule", .str "size")])) := fun hc d hd => by
    have da : d ≠ a := fun z => by rw [z, p5.2] at hd; cases hd
    exact k1 "size" .non (by unfold worldDue; rw [hn, if_pos hc]; rfl) _ d (p5.1.new hd) (p5.1.none hd da) da upd_same
  refine ⟨_, rfl, a, WC, dx, _, _, rfl, p5.2, IK.cls, IK.no _ (by simp), rfl, kt, _, rfl, .inr (.inl (.inl hk3)), WC, mc, _, _, rfl, cr, cvk, _, _, rfl, rfl, _, rfl, ?_⟩
  by_cases h12 : (12 : Int) < (((kindsOf ds).map V.str).length : Int)
  · rw [decide_eq_true h12]
    rw [List.length_map] at h12
    exact iteT (iw_end rfl (sS _) .non (by show 1 ≤ 1000; decide) (tell (.inl (by omega))))
  rw [decide_eq_false h12]
  rw [List.length_map] at h12
  refine iteF ⟨_, rfl, a, WC, dx, _, _, rfl, p5.2, IK.cls, IK.no _ (by simp), rfl, rt, _, rfl, .inr (.inl (.inl hr3')), WC, mc, _, _, rfl, cr, cvr, _, _, rfl, rfl, _, rfl, ?_⟩
  by_cases h8 : (8 : Int) < (((rolesOf ds).map V.str).length : Int)
  · rw [decide_eq_true h8]
    rw [List.length_map] at h8
    exact iteT (iw_end rfl (sS _) .non (by show 1 ≤ 1000; decide) (tell (.inr (by omega))))
  rw [decide_eq_false h8]
  rw [List.length_map] at h8
  refine iteF ?_
  have none_ : worldDue ds = none := by unfold worldDue; rw [hn, if_neg (by omega)]; rfl
  have h20 : ds.length ≤ 20 := by have := counts ds nodd; omega
  clear tell
  -- declared
  refine ⟨_, rfl, t, rfl, ⟨xs, .inl (.inl (tt p5.1))⟩, fun dd hdd => ?_⟩
  refine it_gen (walk_tup (xs := xs)) (fun i H' => Same G3 H' ∧ H' dd = some (.dK (declD (ds.take i) (xs.take i)))) ⟨(Same.refl G3).new hdd, upd_same⟩ (fun i H' _ q => .inl (.inl (tt (p5.1.same q.1)))) ?_ ?_
  · rintro i x H6 H7 hi ⟨s6, h6⟩ ⟨rfl, ex⟩
    obtain ⟨dc, hdc, hat2, no⟩ := item (p5.1.same s6) ex
    obtain ⟨b, C, dxb, m, fsb, rfl, hb, hC, l1, l2, hm, oz⟩ := dc_fact hat2 no
    have zl : (ds.take i).length = (xs.take i).length := by rw [List.length_take, List.length_take, hl]
    have newk : valV (declD (ds.take i) (xs.take i)) (Sum.inr (dcName dc)) = none := by
      cases q : valV (declD (ds.take i) (xs.take i)) (Sum.inr (dcName dc)) with
      | none => rfl
      | some v =>
        exfalso
        have hin := valV_in q
        rw [List.map_map] at hin
        obtain ⟨pr, hpr, e⟩ := List.mem_map.mp hin
        have e' : dcName pr.1 = dcName dc := Sum.inr.inj e
        have h1 : pr.1 ∈ ds.take i := (List.of_mem_zip hpr).1
        obtain ⟨j, hj⟩ := List.getElem?_of_mem h1
        rw [List.getElem?_take] at hj
        split at hj
        · rename_i hji
          have g1 : (ds.map dcName)[j]? = some (dcName dc) := by rw [List.getElem?_map, hj, ← e']; rfl
          have g2 : (ds.map dcName)[i]? = some (dcName dc) := by rw [List.getElem?_map, hdc]; rfl
          have := (List.getElem?_inj (show j < (ds.map dcName).length by rw [List.length_map]; omega) nod).mp (g1.trans g2.symm)
          omega
        · cases hj
    refine ⟨rfl, _, rfl, b, C, dxb, fsb, _, rfl, hb, by rcases hC with rfl | rfl <;> simp, l1, _, rfl, _, .inr (dcName dc), rfl, h6, ?_, s6.old hdd, ?_⟩
    · rw [List.length_map, List.length_zip, List.length_take, List.length_take, sizeLine_eq]
      omega
    · rw [upd_same, putK_new _ newk, List.take_succ, List.take_succ, hdc, ex]
      show some (HO.dK _) = some (HO.dK (declD (ds.take i ++ [dc]) (xs.take i ++ [V.ref b])))
      unfold declD
      rw [List.zip_append zl, List.map_append]
      rfl
  rintro H6 ⟨s6, h6⟩
  rw [← hl, List.take_length, hl, List.take_length] at h6
  have dda : dd ≠ a := fun z => by rw [z, p5.2] at hdd; cases hdd
  have p6 := p5.same s6
  have b6 : But a G3 H6 := fun b o _ e => s6 b o e
  refine ⟨_, rfl, a, WC, dx, _, rfl, p6.2, IK.cls, IK.no _ (by simp), by show 3 < 1000; decide, ?_⟩
  have p7 := Pl.put (fs' := putF "_declared" (.ref dd) (putF "_roles" (.ref rt) (putF "_kinds" (.ref kt) (putF "_declarations" (.ref t) [])))) p6
  have b7 := b6.at_ (o := .ins WC dx (putF "_declared" (.ref dd) (putF "_roles" (.ref rt) (putF "_kinds" (.ref kt) (putF "_declarations" (.ref t) [])))))
  generalize hG7 : upd H6 a _ = G7 at p7 b7 ⊢
  have hd7 : G7 dd = some (.dK (declD ds xs)) := by rw [← hG7, upd_ne dda]; exact h6
  clear hG7
  -- the plan
  refine ⟨_, rfl, fun px pdx hpx hpdx pne => ?_⟩
  have sn : Same G7 (upd (upd G7 pdx (.own px)) px (.ins PC pdx [])) := fun b o e => by rw [upd_ne (ne_of_none e hpx), upd_ne (ne_of_none e hpdx)]; exact e
  refine ⟨px, pdx, t, xs, ds, rfl, upd_same, sn t _ (tt p7.1), PySem.Paired.mono (fun d v h => h.same sn) (pair_but p7.1 ha nodd hds), nodd, h20, by omega, fun H8 zs bt8 pl8 perm => ⟨rfl, ?_⟩⟩
  have s8 := made_same hpx hpdx bt8
  have p8 := p7.same s8
  have b8 := b7.same s8
  have hd8 := s8 dd _ hd7
  have pxa : px ≠ a := fun z => by rw [z, p7.2] at hpx; cases hpx
  obtain ⟨pdx', pfs, pr, g1, g2, g3⟩ := pl8
  have pra : pr ≠ a := fun z => by rw [z, p8.2] at g3; cases g3
  refine ⟨_, rfl, a, WC, dx, _, rfl, p8.2, IK.cls, IK.no _ (by simp), by show 4 < 1000; decide, ?_⟩
  have p9 := Pl.put (fs' := putF "_plan" (.ref px) (putF "_declared" (.ref dd) (putF "_roles" (.ref rt) (putF "_kinds" (.ref kt) (putF "_declarations" (.ref t) []))))) p8
  have b9 := b8.at_ (o := .ins WC dx (putF "_plan" (.ref px) (putF "_declared" (.ref dd) (putF "_roles" (.ref rt) (putF "_kinds" (.ref kt) (putF "_declarations" (.ref t) []))))))
  generalize hG9 : upd H8 a _ = G9 at p9 b9 ⊢
  have hd9 : G9 dd = some (.dK (declD ds xs)) := by rw [← hG9, upd_ne dda]; exact hd8
  have g1' : G9 px = some (.ins PC pdx' pfs) := by rw [← hG9, upd_ne pxa]; exact g1
  have g3' : G9 pr = some (.lst (zs.map V.str)) := by rw [← hG9, upd_ne pra]; exact g3
  clear hG9
  -- the book
  refine ⟨_, rfl, a, WC, dx, _, _, rfl, p9.2, IK.cls, IK.no _ (by simp), rfl, fun bx bdx hbx hbdx bne => ?_⟩
  have sb : Same G9 (upd (upd G9 bdx (.own bx)) bx (.ins BC bdx [])) := fun b o e => by rw [upd_ne (ne_of_none e hbx), upd_ne (ne_of_none e hbdx)]; exact e
  have kn := (kinds_sub ds nod).1
  refine ⟨bx, bdx, px, zs, rfl, upd_same, ⟨pdx', pfs, pr, sb _ _ g1', g2, sb _ _ g3'⟩, perm.nodup_iff.mpr kn, by rw [perm.length_eq]; omega, fun H10 bfs bt10 e10 _ => ⟨rfl, ?_⟩⟩
  have s10 := made_same hbx hbdx bt10
  have p10 := p9.same s10
  have b10 := b9.same s10
  have hd10 := s10 dd _ hd9
  refine ⟨_, rfl, a, WC, dx, _, rfl, p10.2, IK.cls, IK.no _ (by simp), by show 5 < 1000; decide, ?_⟩
  have p11 := Pl.put (fs' := putF "_book" (.ref bx) (putF "_plan" (.ref px) (putF "_declared" (.ref dd) (putF "_roles" (.ref rt) (putF "_kinds" (.ref kt) (putF "_declarations" (.ref t) [])))))) p10
  have b11 := b10.at_ (o := .ins WC dx (putF "_book" (.ref bx) (putF "_plan" (.ref px) (putF "_declared" (.ref dd) (putF "_roles" (.ref rt) (putF "_kinds" (.ref kt) (putF "_declarations" (.ref t) [])))))))
  refine ⟨_, rfl, a, WC, dx, _, rfl, p11.2, IK.cls, IK.no _ (by simp), by show 6 < 1000; decide, ?_⟩
  have p12 := Pl.put (fs' := putF "_least" V.non (putF "_book" (.ref bx) (putF "_plan" (.ref px) (putF "_declared" (.ref dd) (putF "_roles" (.ref rt) (putF "_kinds" (.ref kt) (putF "_declarations" (.ref t) []))))))) p11
  have b12 := b11.at_ (o := .ins WC dx (putF "_least" V.non (putF "_book" (.ref bx) (putF "_plan" (.ref px) (putF "_declared" (.ref dd) (putF "_roles" (.ref rt) (putF "_kinds" (.ref kt) (putF "_declarations" (.ref t) []))))))))
  generalize hG12 : upd (upd H10 a _) a _ = G12 at p12 b12 ⊢
  have hd12 : G12 dd = some (.dK (declD ds xs)) := by rw [← hG12, upd_ne dda, upd_ne dda]; exact hd10
  clear hG12
  have da : ∀ {H'}, Same G12 H' → DeclsAt K KC RC H' t xs ds := fun s' => ⟨s' t _ (tt p12.1), PySem.Paired.mono (fun d v h => h.same s') (pair_but p12.1 ha nodd hds), nodd, h20⟩
  refine ⟨_, rfl, a, WC, dx, _, _, rfl, p12.2, IK.cls, IK.no _ (by simp), rfl, _, rfl, bx, t, xs, ds, rfl, da (Same.refl _), fun H13 s13 => ?_⟩
  refine ⟨_, rfl, t, xs, ds, rfl, da s13, fun H14 s14 => ?_⟩
  have s' := s13.trans s14
  have b14 := b12.same s'
  exact k0 none_ H14 (p12.1.same s') ⟨dx, t, kt, rt, dd, _, s' a _ p12.2, rfl, s' t _ (tt p12.1), rfl, b14 kt _ kta hk3, rfl, b14 rt _ rta hr3', rfl, s' dd _ hd12⟩
end
end K5

/-! ==== OwnI ==== -/
set_option Elab.async false
set_option linter.all false
set_option maxRecDepth 100000
set_option maxHeartbeats 2000000
/-! o[i] by an own __getitem__, x in o by an own __contains__. -/
namespace OwX
open PySem PySem.Spec PyProof.Rows L2
section
variable {X : Cx} {CX : CXT} {k : Nat} {f C : Addr} {sp : Sp} {E : XK}
theorem run_in1 {pins : List (Addr × Obj)} {σ : L2.St} {H : Hp} {s : Shared} {Q : VK} {us : List Value} {vs : List V} (F : FnR X.prog X.w X.K X.mg X.base CX k f sp) (hr : Room (k + 1) X.A) (hx : Passes CX X E) (I : Inv X pins σ H s) (r : Vals vs us) (h : sp vs H Q E) :
    wpAny (model X.prog X.w) X.A.in1 (call (.ref f) us) (EP X pins σ Q) X.xe s := by
  refine wpAny_call (codeAny_mono (F X.A.in1 X.stack s H us vs Q E hr.in1 I.env0.in1 r h) fun r s' hq => ?_)
  match r, hq with
  | .error e, hq => exact hx pins σ H s e s' I hq
  | .ok (.ret u), hq => exact I.after hq
/-- the class's own def for an operator -/
structure OpDef (K : PySem.W.Frag) (C : Addr) (m : Str) (f : Addr) : Prop where
  at_ : PySem.W.findIn K (.ref C) m = some (some (.ref f))
  fn : PySem.W.isFn K (.ref f) = true
  fi : PySem.W.fnIn K f = true
variable {o i e : Expr} {to ti te : TE} {pos : Pos}
/-- o[i] -/
def tOwnSub (C : Addr) (sp : Sp) (E : XK) (to ti : TE) : TE := fun σ H Q => to σ H fun x H1 => ti σ H1 fun y H2 => ∃ a dx fs, x = .ref a ∧ H2 a = some (.ins C dx fs) ∧ sp [.ref a, y] H2 Q E
theorem pe_ownsub (G : OpDef X.K C "__getitem__" f) (F : FnR X.prog X.w X.K X.mg X.base CX k f sp) (hr : Room (k + 1) X.A) (hx : Passes CX X E) (ho : PE X o to) (hi : PE X i ti)
    (hsl : ∀ a v, subscripted i true (.ref a) v = runValue (.builtin "lifetime.subscript" ⟨[.ref a, v], []⟩) := by intro _ _; with_unfolding_all rfl) : PE X (.Subscript o i pos) (tOwnSub C sp E to ti) := by
  refine ⟨fun pins s σ H Q I h => Subscript_ (thn (ho.run pins s σ H _ I h) fun u s1 h1 => ?_)⟩
  obtain ⟨x, H1, I1, rx, h1⟩ := h1
  refine thn (hi.run pins s1 σ H1 _ I1 h1) fun v s2 h2 => ?_
  obtain ⟨y, H2, I2, ry, a, dx, fs, rfl, ha, q⟩ := h2
  obtain rfl : u = Value.ref a := rx
  obtain ⟨mA, O, _⟩ := ins_get I2.hok ha
  obtain ⟨od, J, _⟩ := O.look
  have XK := I2.kIn
  have hf := G.fi
  unfold PySem.W.fnIn at hf
  split at hf
  · rename_i lk
    unfold subscriptTail getitemInPython
    refine wpAny_bind (wpAny_bind (wpAny_bind (J.type.here ((PySem.W.looks_findIn XK G.at_).here ?_))))
    dsimp only
    refine wpAny_bind (wpAny_load (XK _ _ lk) (wpAny_pure ?_))
    dsimp only
    rw [hsl]
    refine wpAny_bind (wpAny_runValue (codeAny_builtin PySem.W.entry_sub ?_))
    unfold Builtin.«lifetime.subscript»
    refine wpAny_bind (PySem.W.special_fn XK J G.at_ (beq_iff_eq.mp G.fn) (thn (run_in1 (us := [.ref a, v]) (vs := [.ref a, y]) F hr hx I2 (.cons rfl (.cons ry .nil)) q) fun r s3 z => wpAny_pure ?_))
    exact wpAny_bind (PySem.wpAny_letTemporaryGo (wpAny_pure z))
  · cases hf
/-- e in o; e not in o -/
def tOwnIn (C : Addr) (sp : Sp) (E : XK) (neg : Bool) (te to : TE) : TE := fun σ H Q => te σ H fun y H1 => to σ H1 fun x H2 => ∃ a dx fs, x = .ref a ∧ H2 a = some (.ins C dx fs) ∧ sp [.ref a, y] H2 (fun v H3 => ∃ b, v = .bl b ∧ Q (.bl (if neg then !b else b)) H3) E
theorem own_has {pins : List (Addr × Obj)} {σ : L2.St} {H : Hp} {s : Shared} {a dx : Addr} {fs : List (Str × V)} {y : V} {u : Value} {Q : Bool → Hp → Prop} (G : OpDef X.K C "__contains__" f) (F : FnR X.prog X.w X.K X.mg X.base CX k f sp) (hr : Room k X.A) (hx : Passes CX X E) (I : Inv X pins σ H s)
    (ha : H a = some (.ins C dx fs)) (ry : RelV y u) (q : sp [.ref a, y] H (fun v H3 => ∃ b, v = .bl b ∧ Q b H3) E) : wpAny (model X.prog X.w) X.A (contains (.ref a) u) (fun b s' => ∃ H', Inv X pins σ H' s' ∧ Q b H') X.xe s := by
  obtain ⟨mA, O, _⟩ := ins_get I.hok ha
  obtain ⟨od, J, _⟩ := O.look
  unfold contains
  refine wpAny_holding (wpAny_bind (wpAny_bind (J.type.here ((PySem.W.looks_findIn I.kIn G.at_).here ?_))))
  rw [if_neg (by simp)]
  refine wpAny_bind (PySem.W.unlessNone_K I.kIn J G.at_ G.fn (thn (wpAny_call (run_fnR (us := [.ref a, u]) (vs := [.ref a, y]) F hr hx I (.cons rfl (.cons ry .nil)) q)) fun r s' z => ?_))
  obtain ⟨v, H', I', rv, b, rfl, qq⟩ := z
  obtain rfl : r = Value.bool b := rv
  exact wpAny_truthy_bool ⟨H', I', qq⟩
theorem pc_ownin (G : OpDef X.K C "__contains__" f) (F : FnR X.prog X.w X.K X.mg X.base CX k f sp) (hr : Room k X.A) (hx : Passes CX X E) (he : PE X e te) (ho : PE X o to) : PC X .In e o (tOwnIn C sp E false te to) := by
  refine ⟨fun pins s σ H Q I h => thn (he.run pins s σ H _ I h) fun u s1 h1 => ?_⟩
  obtain ⟨y, H1, I1, ry, h1⟩ := h1
  refine thn (ho.run pins s1 σ H1 _ I1 h1) fun v s2 h2 => ?_
  obtain ⟨x, H2, I2, rx, a, dx, fs, rfl, ha, q⟩ := h2
  obtain rfl : v = Value.ref a := rx
  refine wpAny_bind (thn (own_has (Q := fun b H3 => Q (.bl (if false then !b else b)) H3) G F hr hx I2 ha ry q) fun b s3 z => wpAny_pure ?_)
  obtain ⟨H3, I3, qq⟩ := z
  exact ⟨.bl b, H3, I3, rfl, qq⟩
theorem pc_ownnotin (G : OpDef X.K C "__contains__" f) (F : FnR X.prog X.w X.K X.mg X.base CX k f sp) (hr : Room k X.A) (hx : Passes CX X E) (he : PE X e te) (ho : PE X o to) : PC X .NotIn e o (tOwnIn C sp E true te to) := by
  refine ⟨fun pins s σ H Q I h => thn (he.run pins s σ H _ I h) fun u s1 h1 => ?_⟩
  obtain ⟨y, H1, I1, ry, h1⟩ := h1
  refine thn (ho.run pins s1 σ H1 _ I1 h1) fun v s2 h2 => ?_
  obtain ⟨x, H2, I2, rx, a, dx, fs, rfl, ha, q⟩ := h2
  obtain rfl : v = Value.ref a := rx
  show wpAny _ _ (contains (.ref a) u >>= fun r => pure (Value.bool (!r))) _ _ _
  refine wpAny_bind (thn (own_has (Q := fun b H3 => Q (.bl (if true then !b else b)) H3) G F hr hx I2 ha ry q) fun b s3 z => wpAny_pure ?_)
  obtain ⟨H3, I3, qq⟩ := z
  exact ⟨.bl (!b), H3, I3, rfl, qq⟩
end
end OwX

/-! ==== P5r ==== -/
set_option Elab.async false
set_option linter.all false
set_option maxRecDepth 100000
set_option maxHeartbeats 4000000
/-! k05: World(..), World.of, what a world answers. -/
namespace K5
open PySem PySem.Spec PyProof.Rows L2 StX ClX SuX Sh KwX TuI D2X NkX OwX
abbrev worldX (r : Str) (i : V) : HO := .xd [("item", i), ("rule", .str r)]
def spWI (K : PySem.W.Frag) (KC RC IC WC : Addr) : Sp := fun vs H Q E => ∃ (a dx : Addr) (xs : List V) (ds : List Dc), vs = .ref a :: xs ∧ H a = some (.ins WC dx []) ∧ Paired (fun d v => DcAt K KC RC H d v) ds xs ∧ xs.length < 1000 ∧
  (worldDue ds = none → ∀ H', But a H H' → WorldAt WC H' a ds xs → Q .non H') ∧ (∀ r i, worldDue ds = some (r, i) → ∀ H' d, But a H H' → H d = none → d ≠ a → H' d = some (worldX r i) → E (.ref IC) (some d) H')
def spWOf (K : PySem.W.Frag) (KC RC IC WC : Addr) : Sp := fun vs H Q E => ∃ (t : Addr) (xs : List V) (ds : List Dc), vs = [.ref WC, .ref t] ∧ H t = some (.tup xs) ∧ Paired (fun d v => DcAt K KC RC H d v) ds xs ∧ xs.length < 1000 ∧
  (worldDue ds = none → ∀ H' x, Same H H' → H x = none → WorldAt WC H' x ds xs → Q (.ref x) H') ∧ (∀ r i, worldDue ds = some (r, i) → ∀ H' d, Same H H' → H d = none → H' d = some (worldX r i) → E (.ref IC) (some d) H')
/-- a value that is no text -/
def NotStr (K : PySem.W.Frag) (H : Hp) (v : V) : Prop := ∃ t, TyX K H v t ∧ PySem.W.kitOne K t (.type "str") = some false
def spWHas (K : PySem.W.Frag) (WC : Addr) : Sp := fun vs H Q _ => ∃ (a : Addr) (v : V) (ds : List Dc) (xs : List V), vs = [.ref a, v] ∧ WorldAt WC H a ds xs ∧
  ∃ b, ((∃ z, v = .str z ∧ b = (decide (V.str z = V.str "Object") || (valV (declD ds xs) (.inr z)).isSome)) ∨ (NotStr K H v ∧ b = false)) ∧ Q (.bl b) H
def spWGet (K : PySem.W.Frag) (UC WC : Addr) : Sp := fun vs H Q E => ∃ (a : Addr) (v : V) (ds : List Dc) (xs : List V), vs = [.ref a, v] ∧ WorldAt WC H a ds xs ∧
  ((∃ z x, v = .str z ∧ valV (declD ds xs) (.inr z) = some x ∧ Q x H) ∨ (((∃ z, v = .str z ∧ valV (declD ds xs) (.inr z) = none) ∨ NotStr K H v) ∧ Shown K H v ∧ ∀ d, H d = none → E (.ref UC) (some d) (upd H d (.xd [("word", v)]))))
section
variable {P : Program} {w : World} {K : PySem.W.Frag} {mg : Str → Option Value} {base : Heap} {KC RC IC WC PC BC UC : Addr}
theorem fn_winit {f fp fb : Addr} {fd fdp fdb : FuncData} (F : Fun K "__init__" "World.__init__" sWorld f fd) (B : Blt mg) (W : Blw mg) (D : DK P w K mg base KC RC) (IK : InsK K WC worldF) (WK : WorldK K mg WC) (R1 : RaiseK P w K mg base "InvalidWorld" IC 2 ["self", "rule", "item"] [.non] (spIW K IC))
    (GC : Got P w K mg base (L2.CX P w) "check_names" ["declarations"] 4 (spCheck K KC RC IC)) (GW : Got P w K mg base CX0 "check_ways" ["book", "declarations"] 4 (spCW K KC RC)) (GM : Got P w K mg base CX0 "check_marks" ["declarations"] 6 (spCM K KC RC))
    (gP : mg "Plan" = some (.ref PC)) (MP : Mk K PC fp) (bP : Binds K fdp ["self", "declarations"] []) (FP : FnOk P w K mg base CX0 4 fp fdp ["self", "declarations"] (spPlan K KC RC PC))
    (gB : mg "Book" = some (.ref BC)) (MB : Mk K BC fb) (bB : Binds K fdb ["self", "plan"] []) (FB : FnOk P w K mg base CX0 4 fb fdb ["self", "plan"] (spNumI 47 BC PC)) :
    FnR P w K mg base (L2.CX P w) 7 f (spWI K KC RC IC WC) := by
  obtain ⟨oc, od, kV, doc, pm, an, cdv, ct, osl, rfl, lk, hcd⟩ := F.ex
  have key := fn_star (CX := L2.CX P w) (P := P) (w := w) (mg := mg) (base := base) (k := 6) (ps := ["self"]) (pv := "declarations") (sp := spWorldB K KC RC IC WC) lk hcd scW cxUp (bind_star1 (B := fun us => bindArgs _ ⟨us, []⟩) (fun _ => rfl) (fun _ _ _ => rfl))
    (fun A outer s H vs Q E hr h => world_body (f := f) (fI := f) B W D IK WK R1 GC GW GM gP MP bP FP gB MB bB FB hr h)
  intro A outer s H us vs Q E hr e0 r h
  refine key A outer s H us vs Q E hr e0 r ?_
  obtain ⟨a, dx, xs, ds, rfl, ha, hds, hlen, k0, k1⟩ := h
  refine ⟨[.ref a], xs, rfl, rfl, by rw [sizeLine_eq]; omega, fun p hp => ?_⟩
  have ap : a ≠ p := ne_of_none ha hp
  have up : ∀ {H'}, But a (upd H p (.tup xs)) H' → But a H H' := fun b q o hq e => b q o hq (by rw [upd_ne (ne_of_none e hp)]; exact e)
  refine ⟨a, dx, p, xs, ds, rfl, by rw [upd_ne ap]; exact ha, upd_same, PySem.Paired.mono (fun d v h => h.same ((Same.refl H).new hp)) hds, hlen, fun hn H' b W => k0 hn H' (up b) W, fun r i hr H' d b hd ne e => k1 r i hr H' d (up b) ?_ ne e⟩
  by_cases q : d = p
  · rw [q, upd_same] at hd
    cases hd
  · rw [upd_ne q] at hd
    exact hd
theorem scWOf : FnScope ["cls", "declarations"] ["cls", "declarations"] (defScope sWOf) := ⟨rfl, rfl, rfl, by decide +kernel, rfl, by decide +kernel, by decide +kernel⟩
theorem ok_wof {f fi : Addr} {fd : FuncData} (F : Fun K "of" "World.of" sWOf f fd) (M : Mk K WC fi) (FI : FnR P w K mg base (L2.CX P w) 7 fi (spWI K KC RC IC WC)) : FnOk P w K mg base (L2.CX P w) 9 f fd ["cls", "declarations"] (spWOf K KC RC IC WC) := by
  refine F.okX scWOf (fun vs H Q E h => ?_) (fun cdv A outer s H vs Q E hr h => ?_)
  · obtain ⟨t, xs, ds, rfl, _⟩ := h
    rfl
  · obtain ⟨t, xs, ds, rfl, ht, hds, hlen, k0, k1⟩ := h
    refine ⟨_, pss_one (ps_ret (pe_mkS (i := 0) M FI hr rfl (Or.inl rfl) (passes_call (takes_of rfl rfl rfl rfl) (fun _ _ _ _ h => h)) (pv 1))), ?_⟩
    refine ⟨rfl, _, rfl, t, xs, rfl, .inl (.inl (.inl ht)), fun x dx hx hdx ne => ?_⟩
    have sn : Same H (upd (upd H dx (.own x)) x (.ins WC dx [])) := fun b o e => by rw [upd_ne (ne_of_none e hx), upd_ne (ne_of_none e hdx)]; exact e
    refine ⟨x, dx, xs, ds, rfl, upd_same, PySem.Paired.mono (fun d v h => h.same sn) hds, hlen, fun hn H' b W => ⟨rfl, k0 hn H' x (made_same hx hdx b) hx W⟩, fun r i hr H' d b hd nd e => k1 r i hr H' d (made_same hx hdx b) (sn.free hd) e⟩
theorem scWHas : FnScope ["self", "x"] ["self", "x"] (defScope sWHas) := ⟨rfl, rfl, rfl, by decide +kernel, rfl, by decide +kernel, by decide +kernel⟩
theorem ok_whas {f : Addr} {fd : FuncData} (F : Fun K "__contains__" "World.__contains__" sWHas f fd) (B : Blt mg) (M : NmK mg) (IK : InsK K WC worldF) : FnOk P w K mg base CX0 1 f fd ["self", "x"] (spWHas K WC) := by
  refine F.ok scWHas (fun vs H Q E h => ?_) (fun cdv A outer s H vs Q E hr h => ?_)
  · obtain ⟨a, v, ds, xs, rfl, _⟩ := h
    rfl
  · obtain ⟨t5, g5⟩ := M.object
    have hu := hu_of hr
    obtain ⟨a, v, ds, xs, rfl, ⟨dx, t, kt, rt, dd, fs, h1, h2, h3, h4, h5, h6, h7, h8, h9⟩, b0, hk0, k⟩ := h
    refine ⟨_, pss_one (ps_ret (pe_and (pe_callB call_isi (by rfl) B.isinstance (by decide +kernel) (pa_cons (pv 1) (pa_cons (pe_bltn (v := .ty "str") (by rfl) B.str (by decide +kernel) rfl) pa_nil)))
      (pe_one (pe_or (pe_cmpR op_eq (pv 1) (pe_glob (v := .str "Object") rfl g5 ⟨_, rfl⟩) (nomark _)) (pe_one (pe_cmp (pc_din hu (pv 1) (pe_fld (pv 0) rfl)))))))), ?_⟩
    rcases hk0 with ⟨z, rfl, rfl⟩ | ⟨⟨ty, hty, hk⟩, rfl⟩
    · refine ⟨_, rfl, _, _, _, _, true, rfl, .ty "str", .base (.str z), kit_ty (by decide +kernel), _, rfl, iteT ?_⟩
      refine ⟨_, rfl, rfl, _, rfl, ?_⟩
      by_cases q : V.str z = V.str "Object"
      · rw [decide_eq_true q] at k ⊢
        exact iteT k
      · rw [decide_eq_false q] at k ⊢
        exact iteF ⟨_, rfl, _, rfl, a, WC, dx, _, _, rfl, h1, IK.cls, IK.no _ (by simp), h8, dd, _, rfl, .inl ⟨_, .inr z, .inl h9, rfl, rfl⟩, k⟩
    · exact ⟨_, rfl, _, _, _, _, false, rfl, .ty "str", hty, hk, _, rfl, iteF k⟩
theorem scWGet : FnScope ["self", "at"] ["self", "at"] (defScope sWGet) := ⟨rfl, rfl, rfl, by decide +kernel, rfl, by decide +kernel, by decide +kernel⟩
theorem ok_wget {f : Addr} {fd : FuncData} (F : Fun K "__getitem__" "World.__getitem__" sWGet f fd) (B : Blt mg) (IK : InsK K WC worldF) (R : RaiseK P w K mg base "UnknownName" UC 2 ["self", "word"] [] (spUN K UC)) : FnOk P w K mg base (L2.CX P w) 4 f fd ["self", "at"] (spWGet K UC WC) := by
  refine F.okX scWGet (fun vs H Q E h => ?_) (fun cdv A outer s H vs Q E hr h => ?_)
  · obtain ⟨a, v, ds, xs, rfl, _⟩ := h
    rfl
  · have hu := hu_of hr
    obtain ⟨a, v, ds, xs, rfl, ⟨dx, t, kt, rt, dd, fs, h1, h2, h3, h4, h5, h6, h7, h8, h9⟩, k⟩ := h
    refine ⟨_, pss_cons (ps_if (PW.pt (pw_or (pt_not (pt_val (pe_callB call_isi (by rfl) B.isinstance (by decide +kernel) (pa_cons (pv 1) (pa_cons (pe_bltn (v := .ty "str") (by rfl) B.str (by decide +kernel) rfl) pa_nil)))))
        (pw_or1 (pt_cmp (pc_dnotin hu (pv 1) (pe_fld (pv 0) rfl)))))) (pss_one (ps_rk R rfl hr (takes_of rfl rfl rfl rfl) rfl (pa_cons (pv 1) pa_nil))) pss_nil)
      (pss_one (ps_ret (pe_dget hu (pe_fld (pv 0) rfl) (pv 1) (fun _ _ => rfl)))), ?_⟩
    rcases k with ⟨z, x, rfl, hv, k⟩ | ⟨hv, sh, k⟩
    · refine ⟨_, rfl, _, _, _, _, true, rfl, .ty "str", .base (.str z), kit_ty (by decide +kernel), _, rfl, iteF ?_⟩
      refine ⟨_, rfl, _, rfl, a, WC, dx, _, _, rfl, h1, IK.cls, IK.no _ (by simp), h8, dd, _, rfl, .inl ⟨_, .inr z, .inl h9, rfl, rfl⟩, _, rfl, ?_⟩
      rw [hv]
      exact iteF ⟨_, rfl, a, WC, dx, _, _, rfl, h1, IK.cls, IK.no _ (by simp), h8, _, rfl, dd, x, rfl, .inl ⟨_, .inr z, .inl h9, rfl, hv.symm⟩, k⟩
    · have fin := un_end (C := UC) (vs := [v]) (Q := E) rfl sh (by show 1 ≤ 1000; decide) k
      rcases hv with ⟨z, rfl, hv⟩ | ⟨ty, hty, hk⟩
      · refine ⟨_, rfl, _, _, _, _, true, rfl, .ty "str", .base (.str z), kit_ty (by decide +kernel), _, rfl, iteF ?_⟩
        refine ⟨_, rfl, _, rfl, a, WC, dx, _, _, rfl, h1, IK.cls, IK.no _ (by simp), h8, dd, _, rfl, .inl ⟨_, .inr z, .inl h9, rfl, rfl⟩, _, rfl, ?_⟩
        rw [hv]
        exact iteT ⟨_, rfl, fin⟩
      · exact ⟨_, rfl, _, _, _, _, false, rfl, .ty "str", hty, hk, _, rfl, iteT ⟨_, rfl, fin⟩⟩
end
end K5

/-! ==== P5s ==== -/
set_option Elab.async false
set_option linter.all false
set_option maxRecDepth 100000
local macro_rules | `(tactic| walk_at "rd1") => `(tactic| first | (refine ⟨_, rfl, ?_⟩) | (refine ⟨_, _, rfl, rfl, ?_⟩) | (refine ⟨.inl ⟨by omega, by omega⟩, ?_⟩) | (refine ⟨.inr ⟨by omega, by omega⟩, ?_⟩) | (refine ⟨by omega, ?_⟩) | (refine ⟨⟨by omega, by omega⟩, ?_⟩))
local macro_rules | `(tactic| walk_at "rd") => `(tactic| repeat (walk_at "rd1"))
/-! k05: the numbers that the law draws. -/
namespace K5
open PySem L2 Sh
def mixed (c n : Int) : Int := ((c * (1 + 2 * n) * 48271) % 2147483647 + 7919 * n * n + 104729 * n)
def mixedV (c n : Int) : Int := ((mixed c n * 69621) % 2147483629) / 7
theorem mixedV_lt (c n : Int) : 0 ≤ mixedV c n ∧ mixedV c n < 2 ^ 31 := by
  unfold mixedV; omega
def spMixed : Sp := fun vs H Q _ => ∃ c n : Int, vs = [.int c, .int n] ∧ (0 ≤ c ∧ c < 2 ^ 60) ∧ (0 ≤ n ∧ n < 2 ^ 50) ∧ Q (.int (mixedV c n)) H
def spDraw : Sp := fun vs H Q _ => ∃ (m c g : Addr) (b : Nat) (top : Int), vs = [.ref m, .int top] ∧ Dr H m c g b ∧ b < 2 ^ 40 ∧ 1 ≤ top ∧ top < 2 ^ 20 ∧
  ∀ (H' : Hp) (v : Int), Dr H' m c g (b + 1) → Kp m g H H' → 0 ≤ v → v < top → Q (.int v) H'

section
variable {P : Program} {w : World} {K : PySem.W.Frag} {mg : Str → Option Value} {base : Heap}
theorem scMixed : FnScope ["_law_cell", "_law_n", "_law_turned"] ["_law_cell", "_law_n"] (defScope sMixed) := ⟨rfl, rfl, rfl, by decide +kernel, rfl, by decide +kernel, by decide +kernel⟩
theorem ok_mixed {f : Addr} {fd : FuncData} (F : Fun K "_law_mixed" "_law_mixed" sMixed f fd) : FnOk P w K mg base CX0 1 f fd ["_law_cell", "_law_n"] spMixed := by
  refine F.ok scMixed (fun vs H Q E h => ?_) (fun cdv A outer s H vs Q E hr h => ?_)
  · obtain ⟨c, n, rfl, _⟩ := h
    rfl
  · obtain ⟨c, n, rfl, hc, hn, k⟩ := h
    refine ⟨_, pss_cons (ps_set (i := 2) scMixed.nd rfl (Or.inl rfl)
        (pe_op op_add (pe_op op_add (pe_op op_mod (pe_op op_mul (pe_op op_mul (pv 0) (pe_op op_add pe_int (pe_op op_mul pe_int (pv 1)))) pe_int) pe_int)
          (pe_op op_mul (pe_op op_mul pe_int (pv 1)) (pv 1))) (pe_op op_mul pe_int (pv 1))))
      (pss_one (ps_ret (pe_op op_fdiv (pe_op op_mod (pe_op op_mul (pv 2) pe_int) pe_int) pe_int))), ?_⟩
    walk_at "rd"
    exact k
theorem scDraw : FnScope ["_law_m", "_law_top", "_law_n", "_law_at", "_law_cell"] ["_law_m", "_law_top"] (defScope sDraw) := ⟨rfl, rfl, rfl, by decide +kernel, rfl, by decide +kernel, by decide +kernel⟩
theorem ok_draw {f : Addr} {fd : FuncData} (F : Fun K "_law_draw" "_law_draw" sDraw f fd) (gl : mg "len" = none) (G : Got P w K mg base CX0 "_law_mixed" ["_law_cell", "_law_n"] 1 spMixed) : FnOk P w K mg base CX0 2 f fd ["_law_m", "_law_top"] spDraw := by
  refine F.ok scDraw (fun vs H Q E h => ?_) (fun cdv A outer s H vs Q E hr h => ?_)
  · obtain ⟨m, c, g, b, top, rfl, _⟩ := h
    rfl
  · obtain ⟨m, c, g, b, top, rfl, d, hb, t1, t2, k⟩ := h
    have hu := hu_of hr
    refine ⟨_, pss_cons (ps_set (i := 2) scDraw.nd rfl (Or.inl rfl) (pe_dget hu (pv 0) pe_str (fun _ _ => rfl)))
      (pss_cons (ps_dput hu (pv 0) pe_str (pe_op op_add (pv 2) pe_int) rfl)
      (pss_cons (ps_if (pt_cmpR (op_neD hr.units) (pe_dget hu (pv 0) pe_str (fun _ _ => rfl)) (pe_lst pa_nil) (nomark _))
        (pss_cons (ps_set (i := 3) scDraw.nd rfl (Or.inl rfl) (pe_op op_modN (pv 2) (pe_callB call_len_seq (by rfl) gl PySem.boot_len (pa_cons (pe_dget hu (pv 0) pe_str (fun _ _ => rfl)) pa_nil))))
        (pss_cons (ps_set (i := 4) scDraw.nd rfl (Or.inl rfl) (pe_ix ix_list (pe_dget hu (pv 0) pe_str (fun _ _ => rfl)) (pv 3) (fun _ _ => rfl)))
        (pss_one (ps_if (pt_cmpR op_gt (pv 4) pe_int (nomark _))
          (pss_cons (ps_asg (pe_op op_fdivN (pv 4) (pv 1)) (pg_sub (pe_dget hu (pv 0) pe_str (fun _ _ => rfl)) (pv 3) set_list))
          (pss_one (ps_ret (pe_op op_modN (pv 4) (pv 1))))) pss_nil)))) pss_nil)
      (pss_one (ps_ret (pe_op op_modN (pe_got G hr (by decide) pass0 (pa_cons (pe_got G hr (by decide) pass0 (pa_cons (pe_op op_add (pe_ix ix_list (pe_dget hu (pv 0) pe_str (fun _ _ => rfl)) (pe_op op_mod (pv 2) pe_int) (fun _ _ => rfl))
          (pe_op op_mul pe_int (pe_op op_fdiv (pv 2) pe_int))) (pa_cons (pv 2) pa_nil))) (pa_cons (pe_op op_add (pv 2) pe_int) pa_nil))) (pv 1)))))), ?_⟩
    obtain ⟨dm, dg, ds⟩ := d.ne
    obtain ⟨cs, gs, n, n0, nb, h1, h2, h3, l64, hcs, l63, hgs⟩ := d
    refine ⟨_, rfl, m, _, rfl, dr_spot h1, ?_⟩
    refine ⟨_, rfl, _, _, rfl, rfl, _, rfl, m, _, rfl, dp_spot h1, ?_⟩
    have e1 : ∀ {o : HO} {u : HO}, H c = some u → upd H m o c = some u := fun e => by rw [upd_ne dm.symm]; exact e
    have e2 : ∀ {o : HO} {u : HO}, H g = some u → upd H m o g = some u := fun e => by rw [upd_ne dg.symm]; exact e
    refine ⟨_, rfl, m, _, rfl, dr_great upd_same, Nat.zero_le _, fun p hp => ?_⟩
    have npm : m ≠ p := fun z => by rw [← z, upd_same] at hp; cases hp
    have hp0 : H p = none := by rw [upd_ne npm.symm] at hp; exact hp
    have npc : c ≠ p := ne_of_none h2 hp0
    have npg : g ≠ p := ne_of_none h3 hp0
    refine ⟨.list (gs.map PyData.int), .list [], .lst (.inl (.inl (Eq.trans (upd_ne npg) (e2 h3)))) (dp_ints gs), .lst (.inl (.inl upd_same)) .nil, PySem.W.ke_shaped_ints gs, rfl, _, rfl, ?_⟩
    have Hm : upd (upd H m (.dK [(.inr "cells", .ref c), (.inr "great", .ref g), (.inr "spot", .int (n + 1))])) p (.lst []) m = some (.dK [(.inr "cells", .ref c), (.inr "great", .ref g), (.inr "spot", .int (n + 1))]) := by rw [upd_ne npm]; exact upd_same
    have Hc : upd (upd H m (.dK [(.inr "cells", .ref c), (.inr "great", .ref g), (.inr "spot", .int (n + 1))])) p (.lst []) c = some (.lst (cs.map V.int)) := by rw [upd_ne npc]; exact e1 h2
    have Hg : upd (upd H m (.dK [(.inr "cells", .ref c), (.inr "great", .ref g), (.inr "spot", .int (n + 1))])) p (.lst []) g = some (.lst (gs.map V.int)) := by rw [upd_ne npg]; exact e2 h3
    have Hk : Kp m g H (upd (upd H m (.dK [(.inr "cells", .ref c), (.inr "great", .ref g), (.inr "spot", .int (n + 1))])) p (.lst [])) := (Kp.refl.upd_m).new hp
    generalize upd (upd H m (.dK [(.inr "cells", .ref c), (.inr "great", .ref g), (.inr "spot", .int (n + 1))])) p (.lst []) = H2 at Hm Hc Hg Hk ⊢
    clear hp
    have D2 : Dr H2 m c g (b + 1) := ⟨cs, gs, n + 1, by omega, by omega, Hm, Hc, Hg, l64, hcs, l63, hgs⟩
    -- the mixed number
    have mix : ∀ v3 v4 : Option V, tRet
          (tOp (rI (fun x j => j ≠ 0) fun i j => V.int (i.fmod j))
            (tCall spMixed [] E0
              (tCons
                (tCall spMixed [] E0
                  (tCons
                    (tOp (rI0 fun i j => V.int (i + j))
                      (tOp (rIxL K) (tDGet (tVar 0) (tC (V.str "cells"))) (tOp (rI (fun x j => 0 < j) fun i j => V.int (i % j)) (tVar 2) (tC (V.int 64))))
                      (tOp (rI CMul fun i j => V.int (i * j)) (tC (V.int 31)) (tOp (rI CDiv fun i j => V.int (i / j)) (tVar 2) (tC (V.int 64)))))
                    (tCons (tVar 2) tNil)))
                (tCons (tOp (rI0 fun i j => V.int (i + j)) (tVar 2) (tC (V.int 7))) tNil)))
            (tVar 1)) { nx := fun _ H' => Q .non H', rt := Q } ([some (.ref m), some (.int top), some (.int n), v3, v4] : St) H2 := by
      intro v3 v4
      obtain ⟨x, hm, hx, _⟩ := at_int (xs := cs) (r := n % 64) (by omega) (by omega)
      have hv := hcs x hm
      refine ⟨_, rfl, m, _, rfl, dr_cells Hm, _, rfl, _, _, rfl, rfl, by omega, c, _, _, _, rfl, rfl, .inl (.inl Hc), hx, ?_⟩
      refine ⟨_, rfl, _, _, rfl, rfl, ⟨by omega, by omega⟩, _, _, rfl, rfl, .inl ⟨by omega, by omega⟩, _, _, rfl, rfl, ?_⟩
      refine ⟨_, rfl, _, _, rfl, by omega, by omega, ?_⟩
      have b1 := mixedV_lt (x + 31 * (n / 64)) n
      generalize mixedV (x + 31 * (n / 64)) n = y at b1
      refine ⟨_, rfl, _, _, rfl, rfl, _, _, rfl, by omega, by omega, ?_⟩
      refine ⟨_, rfl, _, _, rfl, rfl, by omega, ?_⟩
      have f : (mixedV y (n + 7)).fmod top = mixedV y (n + 7) % top := Int.fmod_eq_emod_of_nonneg _ (by omega)
      refine k _ _ D2 Hk ?_ ?_
      · rw [f]; exact Int.emod_nonneg _ (by omega)
      · rw [f]; exact Int.emod_lt_of_pos _ (by omega)
    refine ite2 (fun hne => ?_) (fun _ => mix none none)
    have gne : gs ≠ [] := fun z => by subst z; exact absurd hne (by decide)
    have glen : 0 < gs.length := List.length_pos_iff.mpr gne
    refine ⟨_, rfl, _, rfl, m, _, rfl, dr_great Hm, g, _, rfl, .inl (.inl (.inl Hg)), _, _, rfl, rfl, by rw [List.length_map]; omega, ?_⟩
    have f1 : n.fmod ((gs.map V.int).length : Int) = n % (gs.length : Int) := by
      rw [List.length_map]; exact Int.fmod_eq_emod_of_nonneg _ (by omega)
    have q0 : 0 ≤ n % (gs.length : Int) := Int.emod_nonneg _ (by omega)
    have q1 : n % (gs.length : Int) < gs.length := Int.emod_lt_of_pos _ (by omega)
    dsimp only
    rw [f1]
    generalize n % (gs.length : Int) = r at q0 q1
    obtain ⟨x, hm, hx, hix⟩ := at_int q0 q1
    have hv := hgs x hm
    refine ⟨_, rfl, m, _, rfl, dr_great Hm, _, rfl, g, _, _, _, rfl, rfl, .inl (.inl Hg), hx, ?_⟩
    refine ⟨_, rfl, _, _, rfl, rfl, _, rfl, ?_⟩
    refine ite2 (fun _ => ?_) (fun _ => mix _ _)
    refine ⟨_, rfl, _, rfl, _, _, rfl, rfl, ⟨by omega, by omega⟩, ?_⟩
    refine ⟨_, rfl, m, _, rfl, dr_great Hm, _, rfl, g, _, _, _, rfl, rfl, Hg, hix, ?_⟩
    refine ⟨_, rfl, _, rfl, _, _, rfl, rfl, by omega, ?_⟩
    have fd : x.fdiv top = x / top := Int.fdiv_eq_ediv_of_nonneg _ (by omega)
    have fm : x.fmod top = x % top := Int.fmod_eq_emod_of_nonneg _ (by omega)
    refine k _ _ ⟨cs, gs.set r.toNat (x / top), n + 1, by omega, by omega, by rw [upd_ne dg]; exact Hm, by rw [upd_ne ds]; exact Hc, ?_, l64, hcs, by rw [List.length_set]; exact l63, ?_⟩ (Hk.upd_g) ?_ ?_
    · rw [upd_same]; dsimp only; rw [fd, List.map_set]
    · intro z hz
      rcases List.mem_or_eq_of_mem_set hz with h | h
      · exact hgs z h
      · rw [h]; exact Int.ediv_nonneg hv (by omega)
    · rw [fm]; exact Int.emod_nonneg _ (by omega)
    · rw [fm]; exact Int.emod_lt_of_pos _ (by omega)
end
def CellsOk (cs : List Int) : Prop := cs.length = 64 ∧ ∀ x ∈ cs, 0 ≤ x ∧ x < 2147483647
def spFolded (K : PySem.W.Frag) : Sp := fun vs H Q _ => ∃ (a : Addr) (ns : List Int), vs = [.ref a] ∧ SqL K H a (ns.map V.int) ∧ ns.length ≤ 63 ∧
  ∀ (H' : Hp) (p : Addr) (cs : List Int), Same H H' → H p = none → H' p = some (.lst (cs.map V.int)) → CellsOk cs → Q (.ref p) H'
theorem CellsOk.set {cs : List Int} (h : CellsOk cs) (j : Nat) {y : Int} (h0 : 0 ≤ y) (h1 : y < 2147483647) : CellsOk (cs.set j y) := by
  refine ⟨by rw [List.length_set]; exact h.1, fun z hz => ?_⟩
  rcases List.mem_or_eq_of_mem_set hz with q | q
  · exact h.2 z q
  · rw [q]; exact ⟨h0, h1⟩
section
variable {P : Program} {w : World} {K : PySem.W.Frag} {mg : Str → Option Value} {base : Heap}
abbrev nFolded : List Str := ["_law_script", "_law_found", "_law_n", "_law_cell"]
theorem scFolded : FnScope nFolded ["_law_script"] (defScope sFolded) := ⟨rfl, rfl, rfl, by decide +kernel, rfl, by decide +kernel, by decide +kernel⟩
theorem ok_folded {f : Addr} {fd : FuncData} (F : Fun K "_law_folded" "_law_folded" sFolded f fd) (ge : mg "enumerate" = none) (gr : mg "range" = none) : FnOk P w K mg base CX0 1 f fd ["_law_script"] (spFolded K) := by
  refine F.ok scFolded (fun vs H Q E h => ?_) (fun cdv A outer s H vs Q E hr h => ?_)
  · obtain ⟨a, ns, rfl, _⟩ := h
    rfl
  · obtain ⟨a, ns, rfl, hS, hl, k⟩ := h
    refine ⟨_, pss_cons (ps_setLc (i := 1) (own := [("_law_n", 2)]) (g := gName 2) (tt := tYes) rfl scFolded.nd rfl rfl (sw_true rfl rfl rfl (by decide +kernel)) (pi_range1 rfl gr (pa_cons pe_int pa_nil))
        (blkOk_by (N := nFolded) (sc := defScope sFolded) (by decide +kernel)) (fun _ _ _ _ _ => pg_name (i := 2) scFolded.nd rfl (Or.inl rfl)) (fun _ _ _ _ _ => pts_nil) (fun _ _ _ _ _ => pe_op op_add pe_int (pv 2)))
      (pss_cons (ps_for PassesOwn.never rfl (pi_enum rfl ge (pa_cons (pv 0) pa_nil)) (pg_tup rfl (pgs_cons (pg_name (i := 2) scFolded.nd rfl (Or.inl rfl)) (pgs_cons (pg_name (i := 3) scFolded.nd rfl (Or.inl rfl)) pgs_nil)))
        (pss_one (ps_asg (pe_op op_mod (pe_op op_add (pe_op op_mul (pe_ix ix_list (pv 1) (pe_op op_mod (pv 2) pe_int) (fun _ _ => rfl)) pe_int) (pv 3)) pe_int) (pg_sub (pv 1) (pe_op op_mod (pv 2) pe_int) set_list))))
      (pss_cons (ps_for PassesOwn.never rfl (pi_range2 rfl gr (pa_cons pe_int (pa_cons pe_int pa_nil))) (pg_name (i := 2) scFolded.nd rfl (Or.inl rfl))
        (pss_one (ps_asg (pe_op op_mod (pe_op op_add (pe_ix ix_list (pv 1) (pv 2) (fun _ _ => rfl)) (pe_op op_mul (pe_ix ix_list (pv 1) (pe_op op_sub (pv 2) pe_int) (fun _ _ => rfl)) pe_int)) pe_int) (pg_sub (pv 1) (pv 2) set_list))))
      (pss_one (ps_ret (pv 1))))), ?_⟩
    refine ⟨_, rfl, by decide, by decide, fun D hD => ?_⟩
    refine lc_range (n := 64) (fun i H' => Same H H' ∧ ∃ cs : List Int, cs.length = i ∧ (∀ x ∈ cs, 0 ≤ x ∧ x < 2147483647) ∧ H' D = some (.lst (cs.map V.int))) ?_ ?_ ?_
    · exact ⟨fun b o e => by rw [upd_ne (ne_of_none e hD)]; exact e, [], rfl, fun _ z => (nomatch z), upd_same⟩
    · rintro i H1 hi ⟨s1, cs, hc, hx, h1⟩
      refine ⟨rfl, _, rfl, _, _, rfl, rfl, _, h1, by rw [List.length_map, hc]; exact Nat.lt_trans hi (by decide), ?_⟩
      refine ⟨fun b o e => ?_, cs ++ [17 + (0 + (i : Int))], by rw [List.length_append, hc]; rfl, fun x hx' => ?_, by rw [upd_same]; dsimp only; rw [List.map_append]; rfl⟩
      · rw [upd_ne (ne_of_none e hD)]; exact s1 b o e
      · rcases List.mem_append.mp hx' with q | q
        · exact hx x q
        · rw [List.mem_singleton.mp q]; omega
    rintro H1 ⟨s1, cs, hc, hx, h1⟩
    refine ⟨_, rfl, a, _, rfl, s1.seq hS, ?_⟩
    refine for_it (walk_enum (xs := ns.map V.int)) (fun i σ H' => ∃ (cs : List Int) (v2 v3 : Option V), σ = [some (.ref a), some (.ref D), v2, v3] ∧ Same H H' ∧ CellsOk cs ∧ H' D = some (.lst (cs.map V.int)))
      ⟨cs, _, _, rfl, s1, ⟨hc, hx⟩, h1⟩ (fun i σ H' _ ⟨_, _, _, _, s2, _⟩ => s2.seq hS) ?_ ?_
    · rintro i x σ H1 H2 hi ⟨cs, v2, v3, rfl, s1, ok, h1⟩ ⟨T, y, z, rfl, hT, rfl, ey, ez⟩
      cases ey
      obtain ⟨u, _, rfl⟩ := ints_at ez
      have nDT : D ≠ T := ne_of_none h1 hT
      obtain ⟨x, hm, hx, hix⟩ := at_int (xs := cs) (r := (i : Int) % 64) (by omega) (by rw [ok.1]; omega)
      have hv := ok.2 x hm
      have h1' : upd H1 T (.tup [.int i, .int u]) D = some (.lst (cs.map V.int)) := by rw [upd_ne nDT]; exact h1
      refine ⟨T, _, rfl, .inl (.inl upd_same), rfl, _, _, rfl, _, _, rfl, ⟨rfl, ?_⟩⟩
      refine ⟨_, rfl, _, rfl, _, _, rfl, rfl, by omega, D, _, _, _, rfl, rfl, .inl (.inl h1'), hx, ?_⟩
      refine ⟨_, _, rfl, rfl, .inr ⟨by omega, by omega⟩, _, rfl, _, _, rfl, rfl, _, _, rfl, rfl, by omega, ?_⟩
      refine ⟨_, rfl, _, rfl, _, _, rfl, rfl, by omega, D, _, _, _, rfl, rfl, h1', hix, ?_⟩
      refine ⟨cs.set _ _, _, _, rfl, fun b o e => ?_, ok.set _ ?_ ?_, by rw [upd_same, List.map_set]⟩
      · rw [upd_ne (ne_of_none e hD), upd_ne (ne_of_none (s1 b o e) hT)]; exact s1 b o e
      · exact Int.emod_nonneg _ (by omega)
      · exact Int.emod_lt_of_pos _ (by omega)
    rintro σ H1 ⟨cs, v2, v3, rfl, s1, ok, h1⟩
    refine ⟨_, _, rfl, by omega, ?_⟩
    refine for_range (lo := 1) (n := 63) (fun i σ H' => ∃ (cs : List Int) (v2 v3 : Option V), σ = [some (.ref a), some (.ref D), v2, v3] ∧ Same H H' ∧ CellsOk cs ∧ H' D = some (.lst (cs.map V.int)))
      ⟨cs, _, _, rfl, s1, ok, h1⟩ ?_ ?_
    · rintro i σ H1 hi ⟨cs, v2, v3, rfl, s1, ok, h1⟩
      obtain ⟨x, hm, hx, hix⟩ := at_int (xs := cs) (r := 1 + (i : Int)) (by omega) (by rw [ok.1]; omega)
      obtain ⟨y, hm2, hx2, _⟩ := at_int (xs := cs) (r := 1 + (i : Int) - 1) (by omega) (by rw [ok.1]; omega)
      have hv := ok.2 x hm
      have hv2 := ok.2 y hm2
      refine ⟨_, rfl, _, rfl, D, _, _, _, rfl, rfl, .inl (.inl h1), hx, ?_⟩
      refine ⟨_, rfl, _, rfl, _, _, rfl, rfl, D, _, _, _, rfl, rfl, .inl (.inl h1), hx2, ?_⟩
      refine ⟨_, _, rfl, rfl, .inr ⟨by omega, by omega⟩, _, _, rfl, rfl, _, _, rfl, rfl, by omega, ?_⟩
      refine ⟨_, rfl, _, rfl, D, _, _, _, rfl, rfl, h1, hix, ?_⟩
      refine ⟨cs.set _ _, _, _, rfl, fun b o e => ?_, ok.set _ ?_ ?_, by rw [upd_same, List.map_set]⟩
      · rw [upd_ne (ne_of_none e hD)]; exact s1 b o e
      · exact Int.emod_nonneg _ (by omega)
      · exact Int.emod_lt_of_pos _ (by omega)
    · rintro σ H1 ⟨cs, v2, v3, rfl, s1, ok, h1⟩
      exact ⟨_, rfl, k _ D cs s1 hD h1 ok⟩

def spBegun (K : PySem.W.Frag) : Sp := fun vs H Q _ => ∃ (a : Addr) (ns : List Int), vs = [.ref a] ∧ SqL K H a (ns.map V.int) ∧ ns.length ≤ 63 ∧
  ∀ (H' : Hp) (m c g : Addr), Same H H' → H m = none → H c = none → H g = none → Dr H' m c g 0 → Q (.ref m) H'
abbrev nBegun : List Str := ["_law_script", "_law_m", "_law_cell"]
theorem scBegun : FnScope nBegun ["_law_script"] (defScope sBegun) := ⟨rfl, rfl, rfl, by decide +kernel, rfl, by decide +kernel, by decide +kernel⟩
theorem ok_begun {f : Addr} {fd : FuncData} (F : Fun K "_law_begun" "_law_begun" sBegun f fd) (G : Got P w K mg base CX0 "_law_folded" ["_law_script"] 1 (spFolded K)) : FnOk P w K mg base CX0 2 f fd ["_law_script"] (spBegun K) := by
  refine F.ok scBegun (fun vs H Q E h => ?_) (fun cdv A outer s H vs Q E hr h => ?_)
  · obtain ⟨a, ns, rfl, _⟩ := h
    rfl
  · obtain ⟨a, ns, rfl, hS, hl, k⟩ := h
    have hu := hu_of hr
    refine ⟨_, pss_cons (ps_set (i := 1) scBegun.nd rfl (Or.inl rfl) (pe_disp (pps_cons pe_str (pe_got G hr (by decide) pass0 (pa_cons (pv 0) pa_nil)) (pps_cons pe_str (pe_lst pa_nil) (pps_cons pe_str pe_int pps_nil))) (by rfl) (by rfl) (by simp) (by decide)))
      (pss_cons (ps_asg (pe_lc (own := [("_law_cell", 2)]) (g := gName 2) (tt := tYes) rfl scBegun.nd (pi_list (pv 0)) (blkOk_by (N := nBegun) (sc := defScope sBegun) (by decide +kernel)) (fun _ _ _ _ _ => pg_name (i := 2) scBegun.nd rfl (Or.inl rfl)) (fun _ _ _ _ _ => pts_nil)
          (fun _ _ _ _ _ => pe_ifExp (pt_cmpR op_ge (pv 2) (pe_op op_pow pe_int pe_int) (nomark _)) (pv 2) pe_int)) (pg_sub (pv 1) pe_str (set_dict hu)))
      (pss_one (ps_ret (pv 1)))), ?_⟩
    intro m hm
    have s0 : Same H (upd H m (.dK [])) := (Same.refl H).new hm
    refine ⟨_, rfl, a, ns, rfl, s0.seq hS, hl, fun H1 c cs s1 hc h1 ok => ?_⟩
    refine ⟨Nat.zero_le _, fun g hg => ?_⟩
    have hm1 := s1 _ _ (upd_same (H := H) (a := m) (o := .dK []))
    have nmg : m ≠ g := ne_of_none hm1 hg
    have ncg : c ≠ g := ne_of_none h1 hg
    have nmc : m ≠ c := fun z => by rw [← z, upd_same] at hc; cases hc
    have hc0 : H c = none := by rw [upd_ne nmc.symm] at hc; exact hc
    have hg0 : H g = none := (s0.trans s1).free hg
    refine ⟨by rw [upd_ne nmg]; exact hm1, [(.inr "cells", .ref c), (.inr "great", .ref g), (.inr "spot", .int 0)], rfl, (by show 3 ≤ 15; decide), ?_⟩
    rw [merge_begun]
    have s2 : Same H (upd (upd H1 g (.lst [])) m (.dK [(.inr "cells", .ref c), (.inr "great", .ref g), (.inr "spot", .int 0)])) := ((s0.trans s1).new hg).old hm
    refine ⟨_, rfl, a, rfl, ⟨_, s2.seq hS⟩, fun D hD => ?_⟩
    have Hm : upd (upd H1 g (.lst [])) m (.dK [(.inr "cells", .ref c), (.inr "great", .ref g), (.inr "spot", .int 0)]) m = some (.dK [(.inr "cells", .ref c), (.inr "great", .ref g), (.inr "spot", .int 0)]) := upd_same
    have Hc : upd (upd H1 g (.lst [])) m (.dK [(.inr "cells", .ref c), (.inr "great", .ref g), (.inr "spot", .int 0)]) c = some (.lst (cs.map V.int)) := by rw [upd_ne nmc.symm, upd_ne ncg]; exact h1
    generalize upd (upd H1 g (.lst [])) m (.dK [(.inr "cells", .ref c), (.inr "great", .ref g), (.inr "spot", .int 0)]) = H2 at s2 hD Hm Hc ⊢
    have nmD : m ≠ D := ne_of_none Hm hD
    have ncD : c ≠ D := ne_of_none Hc hD
    have hD0 : H D = none := s2.free hD
    refine lc_list (xs := ns.map V.int) (fun i H' => Same H2 H' ∧ ∃ gs : List Int, gs.length = i ∧ (∀ x ∈ gs, 0 ≤ x) ∧ H' D = some (.lst (gs.map V.int)))
      ⟨(Same.refl H2).new hD, [], rfl, fun _ z => (nomatch z), upd_same⟩ (fun i H' _ ⟨q, _⟩ => (s2.trans q).seq hS) ?_ ?_
    · rintro i x H3 hi ⟨s3, gs, lg, hgs, h3⟩
      obtain ⟨u, hu1, rfl⟩ := ints_at hi
      have hil : i < ns.length := (List.getElem?_eq_some_iff.mp hu1).1
      have more : ∀ y : Int, 0 ≤ y → Same H2 (upd H3 D (.lst (gs.map V.int ++ [.int y]))) ∧ ∃ gs' : List Int, gs'.length = i + 1 ∧ (∀ x ∈ gs', 0 ≤ x) ∧ upd H3 D (.lst (gs.map V.int ++ [.int y])) D = some (.lst (gs'.map V.int)) := by
        intro y hy
        refine ⟨s3.old hD, gs ++ [y], by rw [List.length_append, lg]; rfl, fun x hx => ?_, by rw [upd_same, List.map_append]; rfl⟩
        rcases List.mem_append.mp hx with q | q
        · exact hgs x q
        · rw [List.mem_singleton.mp q]; exact hy
      have sz : (gs.map V.int).length < sizeLine := by rw [List.length_map, lg]; exact Nat.lt_of_lt_of_le hil (Nat.le_trans hl (by decide))
      refine ⟨rfl, _, rfl, _, _, rfl, rfl, ⟨by decide, by decide, by decide⟩, _, _, rfl, rfl, _, rfl, ?_⟩
      refine ite2 (fun hge => ?_) (fun _ => ?_)
      · have hge : (10 : Int) ^ (18 : Int).toNat ≤ u := of_decide_eq_true hge
        have h0 : (0 : Int) ≤ u := Int.le_trans (by decide) hge
        exact ⟨_, rfl, _, h3, sz, more u h0⟩
      · exact ⟨_, h3, sz, more 0 (by decide)⟩
    · rintro H3 ⟨s3, gs, lg, hgs, h3⟩
      have q := DPut.k (k := .inr "great") (v := .ref D) (s3 _ _ Hm) (by show 3 < sizeLine; decide)
      rw [put_great] at q
      refine ⟨_, rfl, m, _, rfl, q, ?_⟩
      refine ⟨_, rfl, k _ m c D ((s2.trans s3).old hm) hm hc0 hD0 ⟨cs, gs, 0, by omega, by omega, upd_same, ?_, ?_, ok.1, ok.2, by rw [lg, List.length_map]; exact hl, hgs⟩⟩
      · rw [upd_ne nmc.symm]; exact s3 _ _ Hc
      · rw [upd_ne nmD.symm]; exact h3
end
end K5

/-! ==== P5t ==== -/
set_option Elab.async false
set_option linter.all false
set_option maxRecDepth 100000
set_option maxHeartbeats 4000000
/-! k05: the law's _law_mixed_up. -/
namespace K5
open PySem PySem.Spec PyProof.Rows L2 StX ClX SuX Sh KwX TuI D2X NkX OwX
def spMixup : Sp := fun vs H Q _ => ∃ (m c g L : Addr) (b : Nat) (xs : List V), vs = [.ref m, .ref L] ∧ Dr H m c g b ∧ b + xs.length < 2 ^ 40 ∧ H L = some (.lst xs) ∧ xs.length < 1000 ∧ L ≠ m ∧ L ≠ g ∧
  ∀ (H' : Hp) (p : Addr) (ys : List V), Dr H' m c g (b + xs.length) → Kp m g H H' → H p = none → H' p = some (.lst ys) → ys.Perm xs → Q (.ref p) H'
theorem erase_perm {α : Type} {xs : List α} {k : Nat} {y : α} (h : xs[k]? = some y) : (y :: xs.eraseIdx k).Perm xs := by
  induction xs generalizing k with
  | nil => cases h
  | cons x r ih =>
    cases k with
    | zero =>
      obtain rfl : x = y := Option.some.inj h
      exact List.Perm.refl _
    | succ k =>
      have h' : r[k]? = some y := h
      show (y :: x :: r.eraseIdx k).Perm (x :: r)
      exact (List.Perm.swap x y _).trans ((ih h').cons x)
section
variable {P : Program} {w : World} {K : PySem.W.Frag} {mg : Str → Option Value} {base : Heap}
abbrev nMixup : List Str := ["_law_m", "_law_things", "_law_stock", "_law_found", "_law_n"]
theorem scMixup : FnScope nMixup ["_law_m", "_law_things"] (defScope sMixup) := ⟨rfl, rfl, rfl, by decide +kernel, rfl, by decide +kernel, by decide +kernel⟩
theorem ok_mixup {f : Addr} {fd : FuncData} (F : Fun K "_law_mixed_up" "_law_mixed_up" sMixup f fd) (B : Blt mg) (W : Blw mg) (G : Got P w K mg base CX0 "_law_draw" ["_law_m", "_law_top"] 2 spDraw) : FnOk P w K mg base CX0 3 f fd ["_law_m", "_law_things"] spMixup := by
  refine F.ok scMixup (fun vs H Q E h => ?_) (fun cdv A outer s H vs Q E hr h => ?_)
  · obtain ⟨m, c, g, L, b, xs, rfl, _⟩ := h
    rfl
  · obtain ⟨m, c, g, L, b, xs, rfl, dr, hb, hL, hl, nm, ng, k⟩ := h
    refine ⟨_, pss_cons (ps_par (i := 2) (j := 3) rfl scMixup.nd rfl rfl (by decide) rfl rfl (pa_cons (pe_callTy call_list_of (by rfl) W.list (by decide +kernel) (pa_cons (pv 1) pa_nil)) (pa_cons (pe_lst pa_nil) pa_nil)) (by rfl))
      (pss_cons (ps_for PassesOwn.never rfl (pi_range1 rfl W.range (pa_cons (pe_callB call_len_seq (by rfl) B.len PySem.boot_len (pa_cons (pv 2) pa_nil)) pa_nil)) (pg_name (i := 4) scMixup.nd rfl (Or.inl rfl))
        (pss_one (ps_expr (pe_bm PySem.F.plainAttrs_list PySem.F.slot_list_append PySem.F.type_list_append mt_append (pv 3)
          (pa_cons (pe_bm PySem.F.plainAttrs_list PySem.F.slot_list_pop PySem.F.type_list_pop mt_popAt (pv 2) (pa_cons (pe_got G hr (by decide) pass0 (pa_cons (pv 0) (pa_cons (pe_callB call_len_seq (by rfl) B.len PySem.boot_len (pa_cons (pv 2) pa_nil)) pa_nil))) pa_nil)) pa_nil)))))
      (pss_one (ps_ret (pv 3)))), ?_⟩
    refine ⟨_, rfl, L, xs, rfl, .inl (.inl (.inl hL)), fun s hs => ⟨Nat.zero_le _, fun fo hfo => ⟨_, _, rfl, ?_⟩⟩⟩
    have nfs : fo ≠ s := fun z => by rw [z, upd_same] at hfo; cases hfo
    have hfo0 : H fo = none := by rw [upd_ne nfs] at hfo; exact hfo
    have kp0 : Kp m g H (upd (upd H s (.lst xs)) fo (.lst [])) := (Kp.refl.new hs).new hfo
    have dr0 : Dr (upd (upd H s (.lst xs)) fo (.lst [])) m c g (b + 0) := (dr.new hs).new hfo
    have hs0 : upd (upd H s (.lst xs)) fo (.lst []) s = some (.lst xs) := by rw [upd_ne (Ne.symm nfs), upd_same]
    have hf0 : upd (upd H s (.lst xs)) fo (.lst []) fo = some (.lst []) := upd_same
    generalize upd (upd H s (.lst xs)) fo (.lst []) = H1 at kp0 dr0 hs0 hf0 ⊢
    have dr' := dr
    obtain ⟨cs, gs, n, n0, nb, h1, h2, h3, l64, hcs, l63, hgs⟩ := dr'
    have sm : s ≠ m := (ne_of_none h1 hs).symm
    have sg : s ≠ g := (ne_of_none h3 hs).symm
    have sc : s ≠ c := (ne_of_none h2 hs).symm
    have fm : fo ≠ m := (ne_of_none h1 hfo0).symm
    have fg : fo ≠ g := (ne_of_none h3 hfo0).symm
    have fc : fo ≠ c := (ne_of_none h2 hfo0).symm
    refine ⟨_, rfl, s, _, rfl, .inl (.inl (.inl hs0)), _, rfl, by omega, by omega, ?_⟩
    rw [show ((xs.length : Int)).toNat = xs.length from Int.toNat_natCast _]
    refine for_range (lo := 0) (n := xs.length) (fun i σ' H' => ∃ (v4 : Option V) (st fd : List V), σ' = [some (.ref m), some (.ref L), some (.ref s), some (.ref fo), v4] ∧ Kp m g H H' ∧ Dr H' m c g (b + i) ∧ H' s = some (.lst st) ∧ H' fo = some (.lst fd) ∧ fd.length = i ∧ (st ++ fd).Perm xs)
      ⟨_, xs, [], rfl, kp0, dr0, hs0, hf0, rfl, by rw [List.append_nil]⟩ ?_ ?_
    · rintro i σ' H2 hi ⟨v4, st, fd, rfl, kp, d, hst, hfd, hli, pm⟩
      have le := pm.length_eq
      rw [List.length_append] at le
      refine ⟨_, rfl, .inl ⟨rfl, _, .inl (.inl hfd)⟩, _, rfl, .inl ⟨rfl, _, .inl (.inl hst)⟩, _, rfl, _, rfl, s, _, rfl, .inl (.inl (.inl hst)), ?_⟩
      refine ⟨m, c, g, b + i, _, rfl, d, by omega, by omega, by omega, fun H3 v d3 k3 v0 v1 => ?_⟩
      have hst3 := k3 s _ sm sg hst
      have hfd3 := k3 fo _ fm fg hfd
      obtain ⟨j, rfl⟩ : ∃ j : Nat, v = (j : Int) := ⟨v.toNat, by omega⟩
      have hj : j < st.length := by omega
      refine ⟨s, st, j, j, st[j], rfl, rfl, hst3, by omega, by omega, PySem.seqIndex_of (by omega) (by omega), List.getElem?_eq_getElem hj, ?_⟩
      refine ⟨fo, fd, _, rfl, rfl, by rw [upd_ne nfs]; exact hfd3, by rw [sizeLine_eq]; omega, ?_⟩
      refine ⟨_, st.eraseIdx j, fd ++ [st[j]], rfl, ?_, ?_, by rw [upd_ne (Ne.symm nfs), upd_same], upd_same, by rw [List.length_append, hli]; rfl, ?_⟩
      · exact ((kp.trans k3).old hs).old hfo0
      · exact (d3.other sm sc sg).other fm fc fg
      · refine List.Perm.trans ?_ pm
        refine List.Perm.trans ?_ ((erase_perm (List.getElem?_eq_getElem hj)).append_right fd)
        rw [← List.append_assoc]
        refine List.perm_append_comm.trans ?_
        exact List.Perm.refl _
    · rintro σ' H2 ⟨v4, st, fd, rfl, kp, d, hst, hfd, hli, pm⟩
      have le := pm.length_eq
      rw [List.length_append] at le
      obtain rfl : st = [] := List.length_eq_zero_iff.mp (by omega)
      exact ⟨_, rfl, k H2 fo fd d kp hfo0 hfd pm⟩
end
end K5

/-! ==== P5u ==== -/
set_option Elab.async false
set_option linter.all false
set_option maxRecDepth 100000
set_option maxHeartbeats 4000000
/-! k05: the law's _law_doubled. -/
namespace K5
open PySem PySem.Spec PyProof.Rows L2 StX ClX SuX Sh KwX TuI D2X NkX OwX
/-- a pair, as a tuple or as a list -/
def PairAt (k : Int) (H : Hp) (a : Addr) : Prop := ∃ v, H a = some (if k = 0 then .tup [v, v] else .lst [v, v])
def spDoub : Sp := fun vs H Q _ => ∃ k : Int, vs = [.int k] ∧ (k = 0 ∨ k = 1) ∧ ∀ H' a, Same H H' → H a = none → PairAt k H' a → Q (.ref a) H'
section
variable {P : Program} {w : World} {K : PySem.W.Frag} {mg : Str → Option Value} {base : Heap}
abbrev nDoub : List Str := ["_law_kind_of", "_law_found", "_law_n"]
theorem scDoub : FnScope nDoub ["_law_kind_of"] (defScope sDoub) := ⟨rfl, rfl, rfl, by decide +kernel, rfl, by decide +kernel, by decide +kernel⟩
theorem ok_doub {f : Addr} {fd : FuncData} (F : Fun K "_law_doubled" "_law_doubled" sDoub f fd) (W : Blw mg) : FnOk P w K mg base CX0 1 f fd ["_law_kind_of"] spDoub := by
  refine F.ok scDoub (fun vs H Q E h => ?_) (fun cdv A outer s H vs Q E hr h => ?_)
  · obtain ⟨k, rfl, _⟩ := h
    rfl
  · obtain ⟨k, rfl, hk, q⟩ := h
    refine ⟨_, pss_cons (ps_set (i := 1) scDoub.nd rfl (Or.inl rfl) (pe_tup pa_nil))
      (pss_cons (ps_for PassesOwn.never rfl (pi_range1 rfl W.range (pa_cons pe_int pa_nil)) (pg_name (i := 2) scDoub.nd rfl (Or.inl rfl))
        (pss_one (ps_set (i := 1) scDoub.nd rfl (Or.inl rfl) (pe_ix ix_list (pe_lst (pa_cons (pe_tup (pa_cons (pv 1) (pa_cons (pv 1) pa_nil))) (pa_cons (pe_lst (pa_cons (pv 1) (pa_cons (pv 1) pa_nil))) pa_nil))) (pv 0) (fun _ _ => rfl)))))
      (pss_one (ps_ret (pv 1)))), ?_⟩
    refine ⟨Nat.zero_le _, fun p0 hp0 => ?_⟩
    refine ⟨_, rfl, by decide, by decide, ?_⟩
    refine for_range (lo := 0) (n := 40) (fun i σ' H' => ∃ (v2 : Option V) (a : Addr), σ' = [some (.int k), some (.ref a), v2] ∧ Same H H' ∧ H a = none ∧ (i = 0 ∨ PairAt k H' a))
      ⟨_, p0, rfl, (Same.refl H).new hp0, hp0, .inl rfl⟩ ?_ ?_
    · rintro i σ' H1 hi ⟨v2, a, rfl, s1, ha, _⟩
      refine ⟨_, rfl, _, rfl, by show 2 ≤ _; rw [sizeLine_eq]; omega, fun p hp => ?_⟩
      refine ⟨_, rfl, _, rfl, by show 2 ≤ _; rw [sizeLine_eq]; omega, fun l hl => ⟨by show 2 ≤ _; rw [sizeLine_eq]; omega, fun b hb => ?_⟩⟩
      have s4 := ((s1.new hp).new hl).new (o := .lst [.ref p, .ref l]) hb
      have hl1 : H1 l = none := by
        by_cases z : l = p
        · rw [z, upd_same] at hl; cases hl
        · rw [upd_ne z] at hl; exact hl
      have np : p ≠ l := fun z => by rw [← z, upd_same] at hl; cases hl
      have npb : p ≠ b := fun z => by rw [← z, upd_ne np, upd_same] at hb; cases hb
      have nlb : l ≠ b := fun z => by rw [← z, upd_same] at hb; cases hb
      rcases hk with rfl | rfl
      · refine ⟨_, rfl, b, _, _, _, rfl, rfl, .inl (.inl upd_same), rfl, ?_⟩
        exact ⟨_, p, rfl, s4, s1.free hp, .inr ⟨V.ref a, by rw [upd_ne npb, upd_ne np, upd_same]; rfl⟩⟩
      · refine ⟨_, rfl, b, _, _, _, rfl, rfl, .inl (.inl upd_same), rfl, ?_⟩
        exact ⟨_, l, rfl, s4, s1.free hl1, .inr ⟨V.ref a, by rw [upd_ne nlb, upd_same]; rfl⟩⟩
    · rintro σ' H1 ⟨v2, a, rfl, s1, ha, h⟩
      rcases h with h | h
      · cases h
      · exact ⟨_, rfl, q H1 a s1 ha h⟩
end
end K5

/-! ==== TrK ==== -/
set_option Elab.async false
set_option linter.all false
set_option maxRecDepth 100000
set_option maxHeartbeats 2000000
/-! except C as e: the exception is an object of the heap from then on, also behind the suite. -/
namespace TrX
open PySem PySem.Spec PyProof.Rows L2
section
variable {X : Cx} {pins : List (Addr × Obj)} {σ : L2.St} {H : Hp} {s : Shared} {a : Addr} {cls : Value} {d : Option Addr} {oe : Obj} {vs : Array Value}
/-- a caught exception: its class, its dict -/
def exk (a : Addr) (cls : Value) (d : Option Addr) : HO := .ext fun h => ∃ (oe : Obj) (vs : Array Value), h.get? a = some oe ∧ Zc cls d oe ∧ oe.data = .fields vs
theorem exk_ok {P : Program} {w : World} {h : Heap} (e : h.get? a = some oe) (z : Zc cls d oe) (dd : oe.data = .fields vs) : ObjOk P w H h a (exk a cls d) :=
  ⟨⟨oe, vs, e, z, dd⟩, ⟨oe, e⟩, fun _ _ ⟨oe, vs, e, z, dd⟩ k => ⟨oe, vs, k oe e, z, dd⟩⟩
/-- an object that came since the entry is looked at from now on -/
theorem Inv.known (I : Inv X pins σ H s) (e : s.heap.get? a = some oe) (z : Zc cls d oe) (dd : oe.data = .fields vs) (na : H a = none) (h0 : X.s_0.heap.get? a = none) (nL : a ≠ X.env.locals) (hp : ∀ p ∈ X.pn ++ pins, p.1 ≠ a) : Inv X pins σ (upd H a (exk a cls d)) s where
  ok := I.ok
  os := I.os
  bare := I.bare
  base := {
    keep := I.base.keep
    slot := I.base.slot
    free := fun b o q n hx => by
      rw [upd_ne (fun z => by rw [z, h0] at q; cases q)]
      exact I.base.free b o q n hx
    there := I.base.there
    tups := fun b xs q => by
      have k := I.base.tups b xs q
      rw [upd_ne (ne_of_none k na)]
      exact k
    frzs := fun b o u q => by
      have k := I.base.frzs b o u q
      rw [upd_ne (ne_of_none k na)]
      exact k
    tbls := fun b ps q => by
      obtain ⟨m, k⟩ := I.base.tbls b ps q
      exact ⟨m, by rw [upd_ne (ne_of_none k na)]; exact k⟩ }
  loc := I.loc
  cell := I.cell
  free := by rw [upd_ne (Ne.symm nL)]; exact I.free
  freeC := fun x c hc => by
    rw [upd_ne fun z => ?_]
    · exact I.freeC x c hc
    · obtain ⟨v, o, ho, hd⟩ := I.cell x c hc
      rw [z, e] at ho
      cases ho
      rw [dd] at hd
      cases hd
  pin := fun p hm => by
    obtain ⟨p1, p2, p3⟩ := I.pin p hm
    exact ⟨p1, by rw [upd_ne (hp p hm)]; exact p2, p3⟩
  hok := fun b u hb => by
    by_cases q : b = a
    · subst q
      rw [upd_same] at hb
      cases hb
      exact exk_ok e z dd
    · rw [upd_ne q] at hb
      exact (I.hok b u hb).stay (fun c v _ k => k) (fun c k => by rw [upd_ne (ne_of_none k na)]; exact k) fun c xs k => by rw [upd_ne (ne_of_none k na)]; exact k
  len := I.len
theorem Inv.noSuite {pn' : List (Addr × Obj)} (I : Inv (X.suite a (X.pn ++ pins)) pn' σ H s) (ok : X.Ok) : Inv X pins σ H s :=
  ⟨ok, I.os, I.bare, I.base, I.loc, I.cell, I.free, I.freeC, fun p hp => I.pin p (List.mem_append_left _ hp), I.hok, I.len⟩
theorem Inv.inSuite (I : Inv X pins σ H s) (a : Addr) : Inv (X.suite a (X.pn ++ pins)) [] σ H s :=
  ⟨I.ok.suite _ _, I.os, I.bare, I.base, I.loc, I.cell, I.free, I.freeC, fun p hp => I.pin p (by rw [List.append_nil] at hp; exact hp), I.hok, I.len⟩
end
/-- what 'except x as n' wishes of an exception of the body: x takes it, slot i is n's; l slots -/
def wTrk (K : PySem.W.Frag) (c : Value) (i l : Nat) (ts : Addr → Value → Option Addr → TS) (D : Ends) : WX := fun cls d σ H =>
  PySem.W.exmOne K cls c = some true ∧ (σ.length = l → ∀ a, H a = none → ts a cls d { nx := fun σ' H' => D.nx (σ'.set i none) H', rt := D.rt, bk := fun σ' H' => D.bk (σ'.set i none) H', ct := fun σ' H' => D.ct (σ'.set i none) H' } (σ.set i (some (.ref a))) (upd H a (exk a cls d)))
section
variable {X : Cx} {x n : Str} {c : Value} {i : Nat} {body suite : List Stmt} {b₀ : Stmt} {np pos pos' : Pos} {tb : WX → TS} {ts : Addr → Value → Option Addr → TS}
/-- the ends of a tried body are the statement's -/
theorem ends_of_try {pins : List (Addr × Obj)} {D : Ends} {R : Value → Shared → Prop} {f : Flow} {s1 : Shared} (ok : X.Ok) (h : SP (X.tr (X.pn ++ pins) R) [] D f s1) :
    (match (generalizing := false) f with | .next => wpAny (model X.prog X.w) X.A (execs [] X.env) (SP X pins D) X.xe s1 | f => SP X pins D f s1) := by
  cases f with
  | ret u => exact let ⟨v, σ', H', J, r, q⟩ := h; ⟨v, σ', H', J.ofTry ok, r, q⟩
  | brk => exact let ⟨σ', H', J, q⟩ := h; ⟨σ', H', J.ofTry ok, q⟩
  | cont => exact let ⟨σ', H', J, q⟩ := h; ⟨σ', H', J.ofTry ok, q⟩
  | next => exact let ⟨σ', H', J, q⟩ := h; wpAny_execs_nil ⟨σ', H', J.ofTry ok, q⟩
/-- the suite's ends, its name gone -/
theorem ends_of_suite {pins : List (Addr × Obj)} {D : Ends} {a : Addr} {f : Flow} {s6 : Shared} (ok : X.Ok) (hN : X.N.Nodup) (hi : X.N[i]? = some n) (hln : X.env.kindOf n = some .local)
    (h : SP (X.suite a (X.pn ++ pins)) [] { nx := fun σ' H' => D.nx (σ'.set i none) H', rt := D.rt, bk := fun σ' H' => D.bk (σ'.set i none) H', ct := fun σ' H' => D.ct (σ'.set i none) H' } f s6) :
    wpAny (model X.prog X.w) X.A (do bindName X.env n .none; unbindBehindTheSuite X.env n pos') (fun _ s7 => SP X pins D f s7) X.xe s6 := by
  cases f with
  | ret u => exact let ⟨v, σ6, H6, J, r, q⟩ := h; gone_ok (Inv.noSuite J ok) hN hi hln fun s7 J7 => ⟨v, _, _, J7, r, q⟩
  | brk => exact let ⟨σ6, H6, J, q⟩ := h; gone_ok (Inv.noSuite J ok) hN hi hln fun s7 J7 => ⟨_, _, J7, q⟩
  | cont => exact let ⟨σ6, H6, J, q⟩ := h; gone_ok (Inv.noSuite J ok) hN hi hln fun s7 J7 => ⟨_, _, J7, q⟩
  | next => exact let ⟨σ6, H6, J, q⟩ := h; gone_ok (Inv.noSuite J ok) hN hi hln fun s7 J7 => ⟨_, _, J7, q⟩
theorem ps_try_trk (hs : X.stack = X.env :: X.outer) (hf : X.env.frame = some X.env.locals) (hex : X.ex = []) (hN : X.N.Nodup) (hi : X.N[i]? = some n) (hln : X.env.kindOf n = some .local) (hc : Names X x c)
    (hb : ∀ (W : WX) (pn : List (Addr × Obj)) (xe : Value → Shared → Prop), Takes (X.tr pn xe) W → PassesOwn (model X.prog X.w) X.A X.env xe → PSs (X.tr pn xe) body (tb W))
    (hsu : ∀ (a : Addr) (cls : Value) (d : Option Addr) (pn : List (Addr × Obj)), PSs (X.suite a pn) (b₀ :: suite) (ts a cls d)) :
    PS X (.Try body [.ExceptHandler (some (.Name x np)) (some n) (b₀ :: suite) pos'] [] [] pos) (fun D σ H => tb (wTrk X.K c i X.N.length ts D) D σ H) := by
  refine ⟨fun pins s σ H D I h => ?_⟩
  have ok := I.ok
  have frames : X.A.frames = some (X.env :: X.outer) := by rw [ok.frames, hs]
  refine wpAny_Try_except (wpAny_mono ((hb (wTrk X.K c i X.N.length ts D) (X.pn ++ pins) (fun e s₁ => wpAny (model X.prog X.w) X.A (noteFrame e X.env) (fun _ s₂ => wpAny (model X.prog X.w) X.A (setFlight e none) (fun _ s₃ =>
    wpAny (model X.prog X.w) X.A (handleBy e X.env [.ExceptHandler (some (.Name x np)) (some n) (b₀ :: suite) pos']) (SP X pins D) X.xe s₃) X.xe s₂) X.xe s₁) (fun u s' air => ?_) PassesOwn.looking).run [] s σ H D (I.toTry _) h) (fun f s1 r => by cases f <;> exact ends_of_try ok r) fun e s1 he => he)
  obtain ⟨a, B, sI, pins', τ, G, cls, d, rfl, J', nb, up, sky, na, os, ag, hm, go⟩ := air
  have J : Inv X pins τ G sI := J'.ofTry ok
  show wpAny (model X.prog X.w) X.A (noteFrame (.ref a) X.env) _ _ _
  refine Sky.land Zc.steady frames hf (by rw [← hs]; exact sky) fun h3 fl3 up3 => ?_
  have nf : a ∉ frs X.stack := fun z => by
    obtain ⟨oe, vs, e, _, dd⟩ := fl3.there
    rw [hs] at z
    obtain ⟨_, o', e', q⟩ := fl3.2.2.1.mem z
    rw [e] at e'
    cases e'
    exact q _ dd
  have nI : sI.heap.get? a = none := Option.eq_none_iff_forall_ne_some.mpr fun o e => by
    have := nb a o e nf
    rw [fl3.2.1] at this
    cases this
  have n0 : X.s_0.heap.get? a = none := Option.eq_none_iff_forall_ne_some.mpr fun o e => by
    obtain ⟨o', e'⟩ := J.base.there a o e (by rw [hex]; simp)
    rw [nI] at e'
    cases e'
  have npn : ∀ p ∈ X.pn ++ pins, p.1 ≠ a := fun p hp z => by
    have := (J.pin p hp).1
    rw [z, nI] at this
    cases this
  have nL : a ≠ X.env.locals := fun z => nf (by rw [hs]; exact List.mem_filterMap.mpr ⟨X.env, List.mem_cons_self, by rw [hf, z]⟩)
  have see : ∀ {h : Heap}, HandSPX.FlyingZ B (X.env :: X.outer) a (Zc cls d) h → s'.heap.UpToSlots h → Inv X pins τ (upd G a (exk a cls d)) { s' with heap := h } := fun {h} fl up' => by
    obtain ⟨oe, vs, e, z, dd⟩ := fl.there
    exact Inv.known (J.landed nb fl.1 (up.trans up') os ag) e z dd na n0 nL npn
  have J3 := Inv.inSuite (see fl3 up3) a
  obtain ⟨oe3, vs3, he3, hz3, hd3⟩ := fl3.there
  have LT : PySem.W.Looks (model X.prog X.w) h3 (typeOf (.ref a)) cls := fun A Q E s k q => wpAny_typeOf_ref (k _ _ he3) (by rw [hz3.1]; exact q)
  refine wpAny_handleBy_cons (codeAny_handlers_test ?_) (by intro q; cases q)
  have named : ∀ {Q : Value → Shared → Prop} {E : Value → Shared → Prop}, Q c { s' with heap := h3 } → wpAny (model X.prog X.w) (X.A.mark (some (.ref a))) (eval (.Name x np) X.env) Q E { s' with heap := h3 } := fun {Q E} q => by
    obtain ⟨hg, hdbg, hm | ⟨hm, hv, hnn⟩⟩ := hc
    · exact ld_glob (X := X.suite a (X.pn ++ pins)) J3 hg hm q hdbg
    · exact ld_blt (X := X.suite a (X.pn ++ pins)) J3 hg hm hv q hnn hdbg
  refine named ((PySem.W.exm_one (M := model X.prog X.w) J3.kIn LT hm).here (codeAny_handlers_suite_as (HandSPX.lands_againZ fl3 fun h4 fl4 up4 => ?_)))
  refine store_ok (X := X.suite a (X.pn ++ pins)) (v := .ref a) (Inv.inSuite (see fl4 (up3.trans up4)) a) hN hi (.inl hln) rfl (fun s5 S5 => ?_) (.inr hln)
  exact wpAny_mono ((hsu a cls d (X.pn ++ pins)).run [] s5 _ _ _ S5 (go J.len a na)) (fun f s6 r => ends_of_suite ok hN hi hln r) fun _ _ z => False.elim z
end
/-- e.f, e an exception that was caught -/
def tKf (C : Addr) (f : Str) (te : TE) : TE := fun σ H Q => te σ H fun x H1 => ∃ (a d : Addr) (fs : List (Str × V)) (v : V), x = .ref a ∧ H1 a = some (exk a (.ref C) (some d)) ∧ H1 d = some (.xd fs) ∧ fs.lookup f = some v ∧ Q v H1
/-- isinstance(e, c) -/
def rIsEk (K : PySem.W.Frag) : List V → Hp → VK → Prop := fun xs H Q => ∃ (a C d : Addr) (fs : List (Str × V)) (c : V) (cv : Value) (b : Bool), xs = [.ref a, c] ∧ ExcC K C ∧ H a = some (exk a (.ref C) (some d)) ∧ H d = some (.xd fs) ∧ (∀ u, RelV c u → u = cv) ∧ PySem.W.kitOne K (.ref C) cv = some b ∧ Q (.bl b) H
section
variable {X : Cx} {pins : List (Addr × Obj)} {σ : L2.St} {H : Hp} {s : Shared} {a d C : Addr} {fs : List (Str × V)}
theorem exk_inst (I : Inv X pins σ H s) (ha : H a = some (exk a (.ref C) (some d))) (hd : H d = some (.xd fs)) : ∃ (ox od : Obj) (mA : Str → Option Value), PySem.W.InstAt s.heap a ox C (some od) ∧ (∀ f, PySem.W.lookIn f od = some (mA f)) ∧ ∀ f, RelO (fs.lookup f) (mA f) := by
  obtain ⟨⟨oe, vs, e, z, dd⟩, _, _⟩ := I.hok a _ ha
  obtain ⟨mA, hns, hr⟩ := I.hok d _ hd
  obtain ⟨od, ho, hl⟩ := lookIn_ns hns
  exact ⟨oe, od, mA, ⟨e, z.1, by unfold PySem.W.notCls; rw [dd] <;> rfl, by rw [z.2]; exact ho⟩, hl, hr⟩
end
section
variable {X : Cx} {C : Addr} {n : Str} {e : Expr} {te : TE} {pos : Pos}
theorem pe_kf (T : XfC X.K C) (hno : PySem.W.findIn X.K (.ref C) n = some none) (he : PE X e te) (hb : attributeBase e n X.env (eval e X.env) = eval e X.env := by rfl) : PE X (.Attribute e n pos) (tKf C n te) := by
  refine ⟨fun pins s σ H Q I h => attr_of hb (thn (he.run pins s σ H _ I h) fun u s1 hh => ?_)⟩
  obtain ⟨x, H1, I1, rx, a, d, fs, v, rfl, ha, hd, l, q⟩ := hh
  obtain rfl : u = Value.ref a := rx
  obtain ⟨ox, od, mA, J, hl, hr⟩ := exk_inst I1 ha hd
  obtain ⟨u, hu, ru⟩ := RelO.some_of (v := v) (o := mA n) (by rw [← l]; exact hr n)
  exact HandSPX.exc_get I1.kIn J T.ga T.gg T.exC (PySem.W.findObj_own T.hdC hno rfl (by rw [hl, hu])) (handed_of ru) ⟨v, H1, I1.tok _, ru, q⟩
theorem kitx_exk {K : PySem.W.Frag} {D x : Addr} {ox : Obj} {od : Option Obj} (c : ExcC K D) : PySem.W.KitX K (.ref x) (.ref D) (fun h => PySem.W.InstAt h x ox D od) := by
  obtain ⟨cd, hcd, _⟩ := PySem.W.any_some c.hd
  have key : ∃ (oc : Value) (dd : Option Addr) (sl : Array (Option Value)), K.lookup D = some ⟨oc, dd, .cls cd, sl⟩ := by
    unfold PySem.W.clsIn at hcd
    split at hcd
    · rename_i oc dd cd' sl ho
      cases hcd
      exact ⟨oc, dd, sl, ho⟩
    · cases hcd
  obtain ⟨oc, dd, sl, ho⟩ := key
  refine ⟨fun _ _ _ I => I.type, fun M h X _ A Q E s k q => ?_, fun h tp dd' its m sl' X htp => ?_, fun {_ _ _ _ _ _} X I q => ?_⟩
  · unfold isType loadHead
    exact wpAny_bind (wpAny_loadPart (k _ _ (X _ _ ho)) (wpAny_pure q))
  · refine Bool.eq_false_iff.mpr fun z => ?_
    obtain rfl : D = tp := Value.ref.inj (beq_iff_eq.mp z)
    have := X _ _ ho
    rw [htp] at this
    cases this
  · exact PySem.W.kx_classE X I c.hg c.hk c.hs (PySem.W.findObj_dataE (by rw [hcd]; rfl) c.ha c.hn c.ht) c.hm q
theorem call_isEk : CallR X (.builtin "isinstance") (rIsEk X.K) := by
  intro pins s σ H xs us Q I r h
  obtain ⟨a, C, d, fs, c, cv, b, rfl, T, ha, hd, hcv, e, q⟩ := h
  obtain ⟨u1, u2, rfl, r1, r2⟩ := vals2 r
  cases r1
  obtain rfl := hcv _ r2
  obtain ⟨ox, od, mA, J, _, _⟩ := exk_inst I ha hd
  exact PySem.W.kia_one (kitx_exk T) I.kIn J e (fun z => nomatch z) fun tk => ⟨.bl b, H, I.tok tk, rfl, q⟩
/-- e is None -/
theorem op_isNon {Y : Cx} : OpR Y (compareOp .Is) rIsN := op_isN1
end
end TrX

/-! ==== P5v ==== -/
set_option Elab.async false
set_option linter.all false
set_option maxRecDepth 100000
set_option maxHeartbeats 4000000
/-! k05: the law's _law_told. -/
namespace K5
open PySem PySem.Spec PyProof.Rows L2 StX ClX SuX Sh KwX TuI D2X NkX OwX TrX LamX
/-- what the top has left of the error classes that the law tells apart -/
structure ErrK (K : PySem.W.Frag) (mg : Str → Option Value) (SE IC UC : Addr) : Prop where
  gS : mg "ShapetypesError" = some (.ref SE)
  gI : mg "InvalidWorld" = some (.ref IC)
  gU : mg "UnknownName" = some (.ref UC)
  mI : PySem.W.exmOne K (.ref IC) (.ref SE) = some true
  mU : PySem.W.exmOne K (.ref UC) (.ref SE) = some true
  cI : ExcC K IC
  cU : ExcC K UC
  fI : XfC K IC
  fU : XfC K UC
  nR : PySem.W.findIn K (.ref IC) "rule" = some none
  nI : PySem.W.findIn K (.ref IC) "item" = some none
  nW : PySem.W.findIn K (.ref UC) "word" = some none
  kII : PySem.W.kitOne K (.ref IC) (.ref IC) = some true
  kUI : PySem.W.kitOne K (.ref UC) (.ref IC) = some false
  kUU : PySem.W.kitOne K (.ref UC) (.ref UC) = some true
/-- what told makes of an error -/
def toldE (IC UC : Addr) (Q : VK) : XK := fun cls d H => ∃ dd, d = some dd ∧
  ((∃ r i, cls = .ref IC ∧ H dd = some (.xd [("item", i), ("rule", r)]) ∧ ∀ H' T, Same H H' → H T = none → H' T = some (.tup [r, i]) → Q (.ref T) H') ∨
   (∃ v, cls = .ref UC ∧ H dd = some (.xd [("word", v)]) ∧ ∀ H' T, Same H H' → H T = none → H' T = some (.tup [.str "unknown", v]) → Q (.ref T) H'))
def toldV (Q : VK) : VK := fun v H => ∀ H' l, Same H H' → H l = none → H' l = some (.lst [v]) → Q (.ref l) H'
def TTold5 (IC UC : Addr) : (XK → Hp → VK → Prop) → Hp → VK → Prop := fun tl H Q => ∀ H1, Same H H1 → ∀ Q' : VK, (∀ v H2, toldV Q v H2 → Q' v H2) → tl (toldE IC UC Q) H1 Q'
abbrev nTold : List Str := ["_law_call", "_law_error", "_law_found", "e"]
theorem scTold : FnScope nTold ["_law_call"] (defScope sTold) := ⟨rfl, rfl, rfl, by decide +kernel, rfl, by decide +kernel, by decide +kernel⟩
section
variable {X : Cx} {SE IC UC g : Addr} {cdg : Value} {q : Str}
theorem told5 (B : Blt X.mg) (K : ErrK X.K X.mg SE IC UC) : GivesTo X nTold "_law_told" (defScope sTold) g cdg (defBody sTold) "_law_call" q (TTold5 IC UC) := by
  intro f c' s H Q tl act hc h
  refine ⟨_, pss_cons (ps_asg (pe_tup (pa_cons pe_non (pa_cons pe_non pa_nil))) (pg_tup rfl (pgs_cons (pg_name (i := 1) scTold.nd rfl (Or.inl rfl)) (pgs_cons (pg_name (i := 2) scTold.nd rfl (Or.inl rfl)) pgs_nil))))
    (pss_cons (ps_try_trk (X := (cxOf C8.CX0 X.prog X.w X.K X.mg X.base nTold "_law_told" (defScope sTold) g cdg X.A X.stack s H C8.E0).nox) (c := .ref SE) (i := 3)
        (tb := fun W D σ H1 => ∃ Ech : XK, (∀ cls d σ' H', Ech cls d H' → W cls d σ' H') ∧ σ[0]? = some (some (.ref f)) ∧ H1 c' = some (CodeO c' q) ∧ tl Ech H1 fun v H2 => D.nx (σ.set 2 (some v)) H2)
        rfl rfl rfl scTold.nd rfl rfl ⟨rfl, by decide, .inl K.gS⟩ (fun W pn xe tk _ => ?_) (fun a cls d pn => pss_one (ps_set (i := 1) scTold.nd rfl (Or.inl rfl) (pv 3))))
    (pss_cons (ps_if (pt_cmpR op_isNon (pv 1) pe_non (nomark _)) (pss_one (ps_ret (pe_lst (pa_cons (pv 2) pa_nil)))) pss_nil)
    (pss_cons (ps_if (pt_val (pe_callB call_isEk (by rfl) B.isinstance (by decide +kernel) (pa_cons (pv 1) (pa_cons (pe_glob (v := .ref IC) rfl K.gI rfl) pa_nil)))) (pss_one (ps_ret (pe_tup (pa_cons (pe_kf K.fI K.nR (pv 1)) (pa_cons (pe_kf K.fI K.nI (pv 1)) pa_nil))))) pss_nil)
    (pss_one (ps_ret (pe_ifExp (pt_val (pe_callB call_isEk (by rfl) B.isinstance (by decide +kernel) (pa_cons (pv 1) (pa_cons (pe_glob (v := .ref UC) rfl K.gU rfl) pa_nil)))) (pe_tup (pa_cons pe_str (pa_cons (pe_kf K.fU K.nW (pv 1)) pa_nil))) (pe_tup (pa_cons pe_str (pa_cons pe_non pa_nil))))))))), ?_⟩
  · refine ⟨fun pins s' σ H' D I h' => ?_⟩
    obtain ⟨Ech, hW, h1, h2, h3⟩ := h'
    exact (pss_one (ps_set (i := 2) scTold.nd rfl (Or.inl rfl) (act W pn xe Ech _ _ tk hW))).run pins s' σ H' D I ⟨h1, h2, h3⟩
  · refine ⟨by show 2 ≤ _; rw [sizeLine_eq]; omega, fun T0 hT0 => ?_⟩
    have s0 : Same H (upd H T0 (.tup [.non, .non])) := (Same.refl H).new hT0
    refine ⟨T0, _, rfl, .inl (.inl upd_same), rfl, _, _, rfl, _, _, rfl, ⟨rfl, ?_⟩⟩
    refine ⟨toldE IC UC Q, fun cls d σ' H' he => ?_, rfl, s0 c' _ hc, ?_⟩
    · obtain ⟨dd, rfl, he⟩ := he
      have slots : σ'.length = 4 → ∃ v0 v1 v2 v3, σ' = [v0, v1, v2, v3] := fun hl => by
        match σ', hl with
        | [v0, v1, v2, v3], _ => exact ⟨v0, v1, v2, v3, rfl⟩
      rcases he with ⟨r, i, rfl, hd, k⟩ | ⟨v, rfl, hd, k⟩
      · refine ⟨K.mI, fun hl a ha => ?_⟩
        obtain ⟨v0, v1, v2, v3, rfl⟩ := slots hl
        have sa : Same H' (upd H' a (exk a (.ref IC) (some dd))) := (Same.refl H').new ha
        refine ⟨.ref a, rfl, ?_⟩
        refine ⟨.ref a, rfl, rfl, _, rfl, iteF ?_⟩
        refine ⟨.ref a, rfl, a, IC, dd, _, _, _, true, rfl, K.cI, upd_same, sa dd _ hd, fun u ru => ru, K.kII, _, rfl, iteT ?_⟩
        refine ⟨.ref a, rfl, a, dd, _, _, rfl, upd_same, sa dd _ hd, rfl, .ref a, rfl, a, dd, _, _, rfl, upd_same, sa dd _ hd, rfl, ?_⟩
        refine ⟨by show 2 ≤ _; rw [sizeLine_eq]; omega, fun T hT => k _ T (sa.new hT) (sa.free hT) upd_same⟩
      · refine ⟨K.mU, fun hl a ha => ?_⟩
        obtain ⟨v0, v1, v2, v3, rfl⟩ := slots hl
        have sa : Same H' (upd H' a (exk a (.ref UC) (some dd))) := (Same.refl H').new ha
        refine ⟨.ref a, rfl, ?_⟩
        refine ⟨.ref a, rfl, rfl, _, rfl, iteF ?_⟩
        refine ⟨.ref a, rfl, a, UC, dd, _, _, _, false, rfl, K.cU, upd_same, sa dd _ hd, fun u ru => ru, K.kUI, _, rfl, iteF ?_⟩
        refine ⟨.ref a, rfl, a, UC, dd, _, _, _, true, rfl, K.cU, upd_same, sa dd _ hd, fun u ru => ru, K.kUU, _, rfl, iteT ?_⟩
        refine ⟨.ref a, rfl, a, dd, _, _, rfl, upd_same, sa dd _ hd, rfl, ?_⟩
        refine ⟨by show 2 ≤ _; rw [sizeLine_eq]; omega, fun T hT => k _ T (sa.new hT) (sa.free hT) upd_same⟩
    · refine h _ s0 _ fun v H2 hv => ?_
      refine ⟨.non, rfl, rfl, _, rfl, iteT ?_⟩
      exact ⟨v, rfl, by show 1 ≤ _; rw [sizeLine_eq]; omega, fun l hl => hv _ l ((Same.refl H2).new hl) hl upd_same⟩
end
end K5

/-! ==== LamD ==== -/
set_option Elab.async false
set_option linter.all false
set_option maxRecDepth 100000
set_option maxHeartbeats 2000000
/-! A lambda with one parameter that has a default word, handed to a def that calls it without arguments. -/
namespace LamD
open PySem PySem.Spec PySem.Calls PyProof.Rows L2 LamX
abbrev dFn (q : Str) (params : Arguments) (body : Expr) (scope : Scope) (cl : List (Str × Addr)) (pm cdv ct dv : Value) : FuncData := { PySem.W.kla_fn "<lambda>" q params body scope cl pm cdv ct with defaults := dv }
abbrev dObj (q : Str) (params : Arguments) (body : Expr) (scope : Scope) (cl : List (Str × Addr)) (pm : Value) (c' : Addr) (ct dv : Value) : Obj := { cls := .type "function", data := .func (dFn q params body scope cl pm (.ref c') ct dv) }
section
variable {M : Model} {A : Around} {E : Value → Shared → Prop} {s : Shared} {name qual : Str} {params : Arguments} {body : Expr} {scope : Scope} {env : Env} {c P : Addr} {ps : Array Value} {pos : Pos} {firstLine : Nat} {mg : Str → Option Value}
  {clos : List (Str × Addr)} {Q : Value → Shared → Prop} {dv : Value}
/-- the tuple of the closure's cells, where there are any -/
theorem cells_made {α : Type} {k : Value → Sem α} {Q : α → Shared → Prop} (h : ∀ (v : Value) (h1 : Heap), (∀ b o, s.heap.get? b = some o → h1.get? b = some o) → s.heap.objs.size ≤ h1.objs.size → wpAny M A (k v) Q E { s with heap := h1 }) :
    wpAny M A (if clos.isEmpty = true then (pure Value.none >>= k) else (newTextTuple ((clos.mergeSort fun a b => a.1.cps.toList ≤ b.1.cps.toList).map (.ref ·.2)) >>= k)) Q E s := by
  cases clos with
  | nil => exact wpAny_bind (wpAny_pure (h .none s.heap (fun _ _ e => e) (Nat.le_refl _)))
  | cons q r => exact wpAny_bind (wpAny_newTextTuple (h _ _ (fun b o e => Heap.get?_push_of_some _ e) (by rw [Heap.size_push]; omega)))
theorem fn_made (hcl : closureFor scope env = pure clos) (hge0 : env.globals = mainGlobals) (hg : s.heap.Ns mainGlobals mg) (hcode : env.code = .ref c) (C : PySem.W.CodeHd s.heap c P) (hP : s.heap.get? P = some (PySem.W.tabObj ps)) (ht : TriplesOk ps.toList)
    (hgP : mainGlobals ≠ P) (hb : s.heap.BuiltinsAt mg P)
    (hit : ∀ (c' : Value) (ctv : Value) (h' : Heap), codeAmong pos ps.toList = some c' → (∀ b o, s.heap.get? b = some o → h'.get? b = some o) → s.heap.objs.size ≤ h'.objs.size →
      ∀ tk, Q (.ref h'.objs.size) { s with heap := h'.push { cls := .type "function", data := .func { PySem.W.kla_fn name qual params body scope clos ((mg "__name__").getD .none) c' ctv with defaults := dv } }, toks := tk })
    (new : ∀ c' ctv h' tk, codeAmong pos ps.toList = none → Heap.ExtBut P s.heap h' → s.heap.objs.size ≤ c' → c' < h'.objs.size → h'.CodeRec (.ref c') qual → h'.get? P = some (PySem.W.tabObj (ps ++ #[rawInt pos.line, rawInt pos.col, .ref c'])) →
      Q (.ref h'.objs.size) { s with heap := h'.push { cls := .type "function", data := .func { PySem.W.kla_fn name qual params body scope clos ((mg "__name__").getD .none) (.ref c') ctv with defaults := dv } }, toks := tk }) :
    wpAny M A (makeTail name qual params (.expr body) scope env dv .none none pos firstLine) Q E s := by
  obtain ⟨bm, ob, hbm, hne0, _, hneP, hbo, hcls, hdict, hdata⟩ := hb
  unfold makeTail
  rw [hcl, hge0]
  refine wpAny_bind (wpAny_pure ?_)
  dsimp only
  refine cells_made fun ctv h1 k1 z1 => ?_
  have hg1 : h1.Ns mainGlobals mg := hg.keeps k1
  have C1 : PySem.W.CodeHd h1 c P := C.keeps k1
  have hP1 := k1 _ _ hP
  cases hc : codeAmong pos ps.toList with
  | none =>
    refine wpAny_bind (wpAny_functionCodeX (s := { s with heap := h1 }) hcode (C1.code hP1 ht) (C1.tab hP1) hc fun c' h' tk hx hge hlt _ hrec htb _ => ?_)
    have hg' : h'.Ns mainGlobals mg := hg1.extBut hx hgP
    refine wpAny_bind (wpAny_builtinsFor hg' hbm hne0 (hx _ _ hneP (k1 _ _ hbo)) hcls hdict hdata (wpAny_bind (wpAny_nsGet hg' ?_)))
    exact wpAny_bind (wpAny_pure (wpAny_newObj_type (new c' ctv h' tk hc (fun b o hb e => hx b o hb (k1 b o e)) (Nat.le_trans z1 hge) hlt hrec htb.2) (by size_fits)))
  | some cv =>
    refine wpAny_bind (wpAny_functionCode_hit (s := { s with heap := h1 }) hcode (C1.code hP1 ht) hc ?_)
    refine wpAny_bind (wpAny_builtinsFor hg1 hbm hne0 (k1 _ _ hbo) hcls hdict hdata (wpAny_bind (wpAny_nsGet hg1 ?_)))
    exact wpAny_bind (wpAny_pure (wpAny_newObj_type (hit cv ctv h1 hc k1 z1 s.toks) (by size_fits)))
end
section
variable {X : Cx} {pins : List (Addr × Obj)} {σ : L2.St} {H : Hp} {s : Shared}
/-- no frame of ours is at a place that is new -/
theorem noFrame (I : Inv X pins σ H s) : ∀ f, s.heap.objs.size ≤ f → f ∉ frs X.stack := fun f hf z => by
  rcases List.mem_cons.mp (I.stkSub _ z) with rfl | e
  · exact absurd I.lt (Nat.not_lt.mpr hf)
  · exact I.nofs hf e
/-- the table's row for the code object at c, which may be an old one -/
theorem Tabs.row {T : List (Addr × Str)} {H H1 : Hp} {P c : Addr} {q : Str} {ps : Array Value} {pos : Pos} (hT : Tabs T H) (hu : ∀ p ∈ T, p.1 = P → p.2 = q) (hP : H P = some (.tbl ps)) (ht : TriplesOk ps.toList) (ha : ∀ (pos : Pos) (cv : Value), codeAmong pos ps.toList = some cv → ∃ c, cv = .ref c ∧ H c = some (CodeO c q))
    (e1 : H1 P = some (.tbl (ps ++ #[rawInt pos.line, rawInt pos.col, .ref c]))) (e2 : H1 c = some (CodeO c q)) (k : ∀ b o, b ≠ P → H b = some o → H1 b = some o) : Tabs T H1 := fun p hp => by
  have keep : ∀ c0, H c0 = some (CodeO c0 p.2) → H1 c0 = some (CodeO c0 p.2) := fun c0 e => k c0 _ (fun z => codeO_ne ps (Option.some.inj (e.symm.trans (by rw [z]; exact hP)))) e
  by_cases hb : p.1 = P
  · have eq := hu p hp hb
    have eL : (ps ++ #[rawInt pos.line, rawInt pos.col, .ref c]).toList = ps.toList ++ [rawInt pos.line, rawInt pos.col, .ref c] := by simp
    refine ⟨_, by rw [hb]; exact e1, by rw [eL]; exact PySem.TriplesOk_snoc _ _ _ _ ht, fun p' cv hcv => ?_⟩
    rw [eL] at hcv
    rw [eq] at keep ⊢
    rcases among_app _ ht hcv with z | z
    · obtain ⟨c0, a1, a2⟩ := ha p' cv z
      exact ⟨c0, a1, keep c0 a2⟩
    · exact ⟨c, z, e2⟩
  · obtain ⟨ps', a1, a2, a3⟩ := hT p hp
    exact ⟨ps', k _ _ hb a1, a2, fun p' cv hcv => let ⟨c0, b1, b2⟩ := a3 p' cv hcv; ⟨c0, b1, keep c0 b2⟩⟩
theorem lam_makeD {T : List (Addr × Str)} {c P : Addr} {params : Arguments} {body dx : Expr} {scope : Scope} {pos : Pos} {v : V} {E : Value → Shared → Prop} {Q : Value → Shared → Prop} (I : Inv X pins σ H s) (TB : TabB X.base X.mg c P) (hcode : X.env.code = .ref c)
    (hm : (P, X.env.qual ++ "<lambda>") ∈ T) (hu : ∀ p ∈ T, p.1 = P → p.2 = X.env.qual ++ "<lambda>") (hT : Tabs T H) (hdef : defaultsOf params X.env = ([eval dx X.env], [])) (he : PE X dx (tC v)) (hxe : E = X.xe) (hfree : ∀ y ∈ scope.names, y.2 = .free → ∃ c, X.env.cells.lookup y.1 = some c)
    (h : ∀ (f c' t : Addr) (pm ctv : Value) (H1 : Hp) (s' : Shared), Inv X pins σ H1 s' → ExtN H H1 → Tabs T H1 → H1 t = some (.tup [v]) →
      s'.heap.get? f = some (dObj (X.env.qual ++ "<lambda>") params body scope (cloFrom X.env.cells scope.names []) pm c' ctv (.ref t)) → H1 f = none → f ∉ frs X.stack → H1 c' = some (CodeO c' (X.env.qual ++ "<lambda>")) → Q (.ref f) s') :
    wpAny (model X.prog X.w) X.A (eval (.Lambda params body scope pos) X.env) Q E s := by
  subst hxe
  rw [arm_eval_Lambda, hdef]
  show wpAny _ _ (do let dv ← evalAll [eval dx X.env]; let kdv ← holding dv (evalAllOpt []); makeFunction "<lambda>" (X.env.qual ++ "<lambda>") params (.expr body) scope X.env dv kdv [] pos pos.line) _ _ _
  refine wpAny_bind (wpAny_bind (thn (he.run pins s σ H (fun y H1 => y = v ∧ H1 = H) I ⟨rfl, rfl⟩) fun u s1 ⟨y, H1, I1, r1, ey, eH⟩ => wpAny_bind (wpAny_holding (wpAny_pure (wpAny_pure ?_)))))
  subst ey
  rw [eH] at I1
  refine wpAny_bind (wpAny_holding (wpAny_pure ?_))
  rw [makeFunction_eq]
  simp only [List.zip_nil_right, List.filterMap_nil, List.isEmpty_nil, List.isEmpty_cons, if_true, Bool.false_eq_true, if_false, pure_bind]
  refine wpAny_bind (wpAny_newTextTuple ?_)
  have nt : H s1.heap.objs.size = none := I1.hok.fresh (Nat.le_refl _)
  have I2 : Inv X pins σ (upd H s1.heap.objs.size (.tup [y])) { s1 with heap := s1.heap.push { cls := .type "tuple", data := .seq [u].toArray } } :=
    I1.laid (t' := s1.toks) (fun b o e => Heap.get?_push_of_some _ e) (Nat.le_refl _) ⟨by show 1 ≤ _; rw [sizeLine_eq]; omega, [u], .cons r1 .nil, IsTup.new _ _⟩
  have T2 : Tabs T (upd H s1.heap.objs.size (.tup [y])) := hT.ext fun b o e => by rw [upd_ne (ne_of_none e nt)]; exact e
  have x2 : ExtN H (upd H s1.heap.objs.size (.tup [y])) := ExtN.of fun b o e => by rw [upd_ne (ne_of_none e nt)]; exact e
  have ht2 : upd H s1.heap.objs.size (.tup [y]) s1.heap.objs.size = some (.tup [y]) := upd_same
  generalize hs2 : ({ s1 with heap := s1.heap.push { cls := .type "tuple", data := .seq [u].toArray } } : Shared) = s2 at I2 ⊢
  generalize hH2 : upd H s1.heap.objs.size (.tup [y]) = H2 at I2 T2 x2 ht2
  generalize s1.heap.objs.size = t at ht2 ⊢
  obtain ⟨ps, hP, ht, ha⟩ := T2 _ hm
  have hP' : s2.heap.get? P = some (PySem.W.tabObj ps) := I2.hok P _ hP
  refine fn_made (mg := X.mg) (c := c) (P := P) (ps := ps) (closure_ok hfree) I2.ok.glob (I2.mod.glob.keeps I2.bk) hcode (TB.code.keeps I2.bk) hP' ht TB.gP (TB.bm.keeps I2.bk) (fun cv ctv h' hc hx hsz tk => ?_) fun c' ctv h' tk hc hx hge hlt hrec htb => ?_
  · obtain ⟨c', rfl, hco⟩ := ha pos cv hc
    have I3 : Inv X pins σ H2 { s2 with heap := h'.push (dObj (X.env.qual ++ "<lambda>") params body scope (cloFrom X.env.cells scope.names []) ((X.mg "__name__").getD .none) c' ctv (.ref t)), toks := tk } := I2.kept fun b o e => Heap.get?_push_of_some _ (hx b o e)
    exact h h'.objs.size c' t ((X.mg "__name__").getD .none) ctv H2 _ I3 x2 T2 ht2 (Heap.get?_push_size _ rfl) (I2.hok.fresh hsz) (noFrame I2 _ hsz) hco
  · obtain ⟨c2, oc, vs, tt, e2, hoc, hd, hv⟩ := hrec
    cases e2
    have hsz : s2.heap.objs.size ≤ h'.objs.size := Nat.le_trans hge (Nat.le_of_lt hlt)
    have nC : H2 c' = none := I2.hok.fresh hge
    have I3 := inv_table (t' := tk) (more := #[rawInt pos.line, rawInt pos.col, .ref c']) (h' := h'.push (dObj (X.env.qual ++ "<lambda>") params body scope (cloFrom X.env.cells scope.names []) ((X.mg "__name__").getD .none) c' ctv (.ref t))) I2 hP
      (fun b o hb e => Heap.get?_push_of_some _ (hx b o hb e)) (Heap.get?_push_of_some _ htb) hge ⟨oc, vs, tt, Heap.get?_push_of_some _ hoc, hd, hv⟩
    have k : ∀ b o, b ≠ P → H2 b = some o → upd (upd H2 P (.tbl (ps ++ #[rawInt pos.line, rawInt pos.col, .ref c']))) c' (CodeO c' (X.env.qual ++ "<lambda>")) b = some o := fun b o hb e => by
      rw [upd_ne (ne_of_none e nC), upd_ne hb]
      exact e
    have x3 : ExtN H2 (upd (upd H2 P (.tbl (ps ++ #[rawInt pos.line, rawInt pos.col, .ref c']))) c' (CodeO c' (X.env.qual ++ "<lambda>"))) := fun b o e n => k b o (fun z => n ps (Option.some.inj (e.symm.trans (by rw [z]; exact hP)))) e
    refine h h'.objs.size c' t ((X.mg "__name__").getD .none) ctv _ _ I3 (x2.trans x3) (Tabs.row T2 hu hP ht ha (by rw [upd_ne (ne_of_none hP nC), upd_same]) upd_same k) (x3 t _ ht2 fun _ z => by cases z) (Heap.get?_push_size _ rfl) ?_ (noFrame I2 _ hsz) upd_same
    rw [upd_ne (Nat.ne_of_gt hlt), upd_ne (Nat.ne_of_gt (Nat.lt_of_lt_of_le (Heap.lt_size hP') hsz))]
    exact I2.hok.fresh hsz
end
/-- its scope: one name of its own, p, that is none of the maker's -/
structure LamP (N : List Str) (sc scope : Scope) (p : Str) : Prop where
  kind : scope.kind = .function
  co : scope.isCoroutine = false
  gen : scope.isGenerator = false
  cell : ∀ y ∈ scope.names, y.2 ≠ .cell
  own : ∀ y ∈ scope.names, y.2 = .local → y.1 ∉ N
  free : ∀ y ∈ scope.names, y.2 = .free → sc.names.lookup y.1 = some .cell ∨ sc.names.lookup y.1 = some .free
  par : scope.names.lookup p = some .local
def lamPB (N : List Str) (sc scope : Scope) (p : Str) : Bool :=
  decide (scope.kind = .function) && !scope.isCoroutine && !scope.isGenerator && decide (scope.names.lookup p = some .local) && scope.names.all fun y => !decide (y.2 = .cell) && (!decide (y.2 = .local) || !decide (y.1 ∈ N)) && (!decide (y.2 = .free) || decide (sc.names.lookup y.1 = some .cell) || decide (sc.names.lookup y.1 = some .free))
theorem lamP_by {N : List Str} {sc scope : Scope} {p : Str} (h : lamPB N sc scope p = true) : LamP N sc scope p := by
  unfold lamPB at h
  simp only [Bool.and_eq_true, Bool.or_eq_true, Bool.not_eq_true', decide_eq_true_eq, decide_eq_false_iff_not, List.all_eq_true] at h
  obtain ⟨⟨⟨⟨h1, h2⟩, h3⟩, h4⟩, h5⟩ := h
  exact ⟨h1, h2, h3, fun y hy => (h5 y hy).1.1, fun y hy e => (h5 y hy).1.2.resolve_left fun k => k e, fun y hy e => ((h5 y hy).2.elim (fun k => k.elim (fun k => absurd e k) .inl) .inr), h4⟩
section
variable {X : Cx} {pins : List (Addr × Obj)} {σ : L2.St} {H HZ : Hp} {s s1 : Shared}
theorem LamP.has {scope : Scope} {p : Str} (L : LamP X.N X.env.scope scope p) (ok : X.Ok) : ∀ y ∈ scope.names, y.2 = .free → ∃ c, X.env.cells.lookup y.1 = some c := fun y hy e => ok.has _ (L.free y hy e)
theorem lam_startP {A : Around} {outer : List Env} {E : XK} {scope : Scope} {f c' : Addr} {h₁ : Heap} {tk : Nat} {p : Str} {m : Str → Option Value} (I : Inv X pins σ H s) (L : LamP X.N X.env.scope scope p) (e0 : Env0 X.prog X.w X.K X.mg X.base A outer s1 HZ) (hd : A.handled = none)
    (un : Un (frs X.stack) [] H HZ s.heap s1.heap) (hns : h₁.Ns s1.heap.objs.size m) (kp : ∀ b o, s1.heap.get? b = some o → h₁.get? b = some o) :
    Inv (lamCx X A outer s1 HZ E scope f c') [] σ HZ { s1 with heap := h₁, toks := tk } := by
  have hfree := L.has I.ok
  have up : ∀ {y c}, (cloFrom X.env.cells scope.names []).lookup y = some c → X.env.cells.lookup y = some c := fun {y c} e => by
    rcases cloFrom_mem (PySem.mem_of_lookup e) with hm | ⟨h1, rfl⟩
    · cases hm
    · obtain ⟨c1, hc⟩ := hfree _ h1 rfl
      have hc : X.env.cells.lookup y = some c1 := hc
      rw [hc] <;> rfl
  have down : ∀ {y}, scope.names.lookup y = some .free → ∃ c, (cloFrom X.env.cells scope.names []).lookup y = some c := fun {y} hl => mem_lookup (cloFrom_has (cells := X.env.cells) (acc := []) (PySem.mem_of_lookup hl))
  have still : ∀ {c : Addr} {v : Option Value}, H c = none → s.heap.IsCell c v → h₁.IsCell c v := fun {c v} n ⟨o, ho, hd⟩ =>
    let ⟨sl, q⟩ := un.any ho n (by simp)
    ⟨_, kp _ _ q, hd⟩
  have none_ : ∀ b : Addr, b ∉ (lamCx X A outer s1 HZ E scope f c').ex := fun b z => absurd (show b ∈ ([] : List Addr) from z) (by simp)
  exact {
    ok := ⟨e0.mod, L.kind, rfl, rfl, Nat.le_refl _, fun y z c e1 e2 => I.ok.inj y z c (up e1) (up e2),
      fun y hy => (show scope.names.lookup y = some .cell ∨ scope.names.lookup y = some .free from hy).elim (fun k => absurd rfl (L.cell _ (PySem.mem_of_lookup k))) down,
      fun y c z _ => absurd (show false = true from z) Bool.false_ne_true, fun _ => hd, Around.frames_deeper e0.frames, .inr ⟨rfl, rfl⟩, fun b z => absurd z (none_ b), e0.bs, e0.bsz, fun b _ _ => none_ b, fun b z => absurd z (none_ b), e0.funs, e0.frf⟩
    os := rfl
    bare := e0.bare
    base := Un.kept kp
    loc := ⟨m, hns, fun i y v e1 e2 e3 => by
      rcases (show Vis scope y from e3) with k | k | k
      · exact absurd (List.mem_of_getElem? e1) (L.own _ (PySem.mem_of_lookup k) rfl)
      · exact absurd rfl (L.cell _ (PySem.mem_of_lookup k))
      · obtain ⟨m', hn, hl⟩ := I.loc
        have fr := L.free _ (PySem.mem_of_lookup k) rfl
        obtain ⟨w', r, q⟩ := hl i y v e1 e2 (fr.elim (fun k => .inr (.inl k)) fun k => .inr (.inr k))
        obtain ⟨c2, h2⟩ := down k
        refine ⟨w', r, .inr ⟨.inr k, c2, h2, ?_⟩⟩
        rcases q with ⟨k', _⟩ | ⟨_, c3, e', z⟩
        · have k3 : X.env.scope.names.lookup y = some .local := k'
          rcases fr with k2 | k2 <;> exact absurd (k3.symm.trans (show X.env.scope.names.lookup y = _ from k2)) (by simp)
        · rw [up h2] at e'
          cases e'
          exact still (I.freeC y _ (up h2)) z⟩
    cell := fun y c e => let ⟨w', z⟩ := I.cell y c (up e); ⟨w', still (I.freeC y c (up e)) z⟩
    free := e0.hok.fresh (Nat.le_refl _)
    freeC := fun y c e => by
      obtain ⟨v, o, ho, hd⟩ := I.cell y c (up e)
      exact un.free c o ho (I.freeC y c (up e)) (by simp)
    pin := fun q hq => absurd (show q ∈ ([] : List (Addr × Obj)) ++ [] from hq) (by simp)
    hok := e0.hok.kept kp
    len := I.len }
end
section
variable {X : Cx} {pins : List (Addr × Obj)} {σ : L2.St} {H : Hp} {s : Shared}
/-- what the lambda binds, called without arguments: its default -/
def BindD (q : Str) (params : Arguments) (body : Expr) (scope : Scope) (p : Str) : Prop := ∀ (cl : List (Str × Addr)) (pm cdv ct : Value) (t : Addr) (u : Value), ∃ k, bindArgs (dFn q params body scope cl pm cdv ct (.ref t)) ⟨[], []⟩ = seqItems? (.ref t) >>= k ∧ k (some #[u]) = pure [(p, u)]
/-- x(), in the def that got the lambda -/
theorem pe_actD {CXg : CXT} {Eg : XK} {Ng : List Str} {qg : Str} {sg : Scope} {g f c' t : Addr} {cdg pm ctv : Value} {params : Arguments} {body : Expr} {scope : Scope} {k i : Nat} {a p : Str} {v : V} {pn : List (Addr × Obj)} {xe : Value → Shared → Prop} {W : WX} {E : XK} {tb : TE} {p1 p2 : Pos}
    (I : Inv X pins σ H s) (L : LamP X.N X.env.scope scope p) (hf : s.heap.get? f = some (dObj (X.env.qual ++ "<lambda>") params body scope (cloFrom X.env.cells scope.names []) pm c' ctv (.ref t))) (hfn : H f = none) (hfr : f ∉ frs X.stack) (htv : H t = some (.tup [v]))
    (hbind : BindD (X.env.qual ++ "<lambda>") params body scope p)
    (tk : Takes ((cxOf CXg X.prog X.w X.K X.mg X.base Ng qg sg g cdg X.A X.stack s H Eg).tr pn xe) W) (hW : ∀ cls d σ' H', E cls d H' → W cls d σ' H') (hr : Room (k + 1) (X.A.deeper (envOfC qg sg s.heap.objs.size g cdg)))
    (hbody : ∀ (A : Around) (outer : List Env) (s : Shared) (H : Hp), Room k (A.deeper (lamEnv X scope s.heap.objs.size f c')) → PE (lamCx X A outer s H E scope f c') body tb)
    (hN : Ng[i]? = some a) (hv : Vis sg a) (hd : (a == ("__debug__" : Str)) = false := by decide) (hcd : (a == ("__classdict__" : Str)) = false := by decide) :
    PE ((cxOf CXg X.prog X.w X.K X.mg X.base Ng qg sg g cdg X.A X.stack s H Eg).tr pn xe) (.Call (.Name a p1) [] [] p2)
      (fun σZ HZ Q => σZ[i]? = some (some (.ref f)) ∧ HZ c' = some (CodeO c' (X.env.qual ++ "<lambda>")) ∧ tb σ HZ Q) := by
  refine ⟨fun pinsZ sZ σZ HZ Q IZ ⟨hs, hc, ht⟩ => ?_⟩
  refine wpAny_Call_Name_kw (thn ((pe_var (pos := p1) (i := i) hN hv hd hcd).run pinsZ sZ σZ HZ (fun v H1 => v = .ref f ∧ H1 = HZ) IZ ⟨.ref f, hs, rfl, rfl⟩) fun u s1 ⟨v1, H1, I1, r1, ev, eH⟩ => ?_)
  subst ev
  rw [eH] at I1
  obtain rfl : u = Value.ref f := r1
  have un : Un (frs X.stack) [] H HZ s.heap s1.heap := I1.base
  have fHere := un.keep f _ hf hfn hfr (by simp)
  obtain ⟨⟨oc, vs, tt, hoc, hdc, hvc⟩, _, _⟩ := I1.hok c' _ hc
  obtain ⟨_, its, rits, oT, gT, _, nT, dT⟩ := I1.hok t _ (un.tups t _ htv)
  obtain ⟨w, rfl, rw_⟩ := rits.one
  obtain ⟨kk, e1, e2⟩ := hbind (cloFrom X.env.cells scope.names []) pm (.ref c') ctv t w
  refine PySem.W.callWith_F0 ⟨_, _, _, _, fHere⟩ (wpAny_call (codeAny_mono (R := CR (L2.CX X.prog X.w) (envOfC qg sg s.heap.objs.size g cdg :: X.stack) X.prog X.w HZ s1 Q E) ?_ fun r s' hq => ?_))
  · refine PySem.W.kla_callFunE hr.depth fHere rfl L.co L.gen rfl ⟨c', oc, vs, tt, rfl, hoc, hdc, hvc⟩ ?_
    rw [show bindArgs (dFn (X.env.qual ++ "<lambda>") params body scope (cloFrom X.env.cells scope.names []) pm (.ref c') ctv (.ref t)) ⟨[] ++ [], []⟩ = _ from e1]
    refine wpAny_bind (wpAny_seqItems gT dT ?_)
    rw [show kk (some [w].toArray) = _ from e2]
    refine wpAny_pure (wpAny_newFunctionEnv L.cell (fun y hy => by rw [List.mem_singleton.mp hy]; exact L.par) (fun h₁ hns hsb => ⟨I1.nolimit.fresh _ hsb, ?_⟩) L.kind)
    show codeAny _ _ (.expr body (lamEnv X scope s1.heap.objs.size f c')) _ _
    have J := lam_startP (A := X.A.deeper (envOfC qg sg s.heap.objs.size g cdg)) (E := E) (f := f) (c' := c') (tk := s1.toks + [(p, w)].length) I L I1.env0 hr.hd un hns fun b o e => hsb.extBut b o (Nat.ne_of_lt (Heap.lt_size e)) (Heap.get?_push_of_some _ e)
    exact PySem.W.kla_codeExpr (wpAny_mono ((hbody _ _ s1 HZ (hr.deeper _)).run [] _ _ HZ Q J ht) (fun v s' ⟨w', H', J', rv, q⟩ => ⟨w', H', J'.os, J'.bare, J'.base, J'.hok, rv, q⟩) fun _ _ hq => hq)
  · match r, hq with
    | .error e, hq => exact passes_call tk hW pinsZ σZ HZ s1 e s' I1 hq
    | .ok (.ret u), hq => exact I1.after hq
/-- x(lambda p=..: body) -/
theorem pe_lamcallD {T : List (Addr × Str)} {TT : (XK → Hp → VK → Prop) → Hp → VK → Prop} {x a p : Str} {g c P : Addr} {k : Nat} {pg : Arguments} {bg : List Stmt} {sg : Scope} {dV kV doc pm cdv ct oc : Value} {an od : Option Addr} {osl : Array (Option Value)} {Ng : List Str}
    {params : Arguments} {body dx : Expr} {v : V} {scope : Scope} {t : XK → TE} {px lpos pos : Pos} (hg : Gl X x) (hm : X.mg x = some (.ref g)) (hk : PySem.W.keepIn X.K (.ref g) = true)
    (lk : X.K.lookup g = some ⟨oc, od, .func (PySem.W.fnOf x x pg bg sg dV kV doc pm an cdv ct), osl⟩) (hcg : PySem.W.codeIn X.K cdv x = true) (hb : L2.Binds X.K (PySem.W.fnOf x x pg bg sg dV kV doc pm an cdv ct) [a] []) (Sg : FnScope Ng [a] sg) (hNg : Ng[0]? = some a) (hva : Vis sg a)
    (hG : GivesTo X Ng x sg g cdv bg a (X.env.qual ++ "<lambda>") TT)
    (TB : TabB X.base X.mg c P) (hcode : X.env.code = .ref c) (hmT : (P, X.env.qual ++ "<lambda>") ∈ T) (hu : ∀ p ∈ T, p.1 = P → p.2 = X.env.qual ++ "<lambda>") (hr : Room (k + 2) X.A) (L : LamP X.N X.env.scope scope p) (hdef : defaultsOf params X.env = ([eval dx X.env], [])) (he : PE X dx (tC v))
    (hbind : BindD (X.env.qual ++ "<lambda>") params body scope p)
    (hbody : ∀ (A : Around) (outer : List Env) (s : Shared) (H : Hp) (E : XK) (f c' : Addr), Room k (A.deeper (lamEnv X scope s.heap.objs.size f c')) → PE (lamCx X A outer s H E scope f c') body (t E))
    (hdb : (x == ("__debug__" : Str)) = false := by decide) (hd : (a == ("__debug__" : Str)) = false := by decide) (hcd : (a == ("__classdict__" : Str)) = false := by decide) :
    PE X (.Call (.Name x px) [.Lambda params body scope lpos] [] pos) (tLam T TT t) := by
  refine ⟨fun pins s σ H Q I ⟨hT, h⟩ => wpAny_Call_Name_kw (ld_glob I hg hm (PySem.W.callWith_K (h₀ := X.base) I.ok.mod.kin hk ?_ (by rfl) (by rfl)) hdb)⟩
  show wpAny _ _ (spliced ((false, eval (.Lambda params body scope lpos) X.env) :: backTo pos (starEach [] X.env))) _ _ s
  refine Calls.spliced_cons (lam_makeD I TB hcode hmT hu hT hdef he rfl (L.has I.ok) fun f c' t0 pm' ctv H1 s' I1 eN T1 ht hf hfn hfr hco => Calls.spliced_nil ⟨I1.kIn, ?_⟩)
  refine wpAny_call (codeAny_mono (run_ofS (CX := C8.CX0) (E := C8.E0) (Q := Q) (H := H1) (N := Ng) (ps := [a]) (us := [.ref f]) (vs := [.ref f]) lk hcg Sg hr I1.env0 (hb s' [.ref f] I1.kIn rfl) (.cons rfl .nil) rfl fun hr' => ?_) fun r s2 hq => ?_)
  · obtain ⟨t', ht', hq'⟩ := hG f c' s' H1 Q (fun E H' Q' => t E σ H' Q') (fun W pn xe E p1 p2 tk hW => pe_actD (i := 0) I1 L hf hfn hfr ht hbind tk hW hr' (fun A outer s H hr2 => hbody A outer s H E f c' hr2) hNg hva hd hcd) hco (h H1 eN T1)
    exact ⟨t', ht'.nox, hq'⟩
  · match r, hq with
    | .ok (.ret u), hq => exact I1.after hq
end
end LamD

/-! ==== CmK ==== -/
set_option Elab.async false
set_option linter.all false
set_option maxRecDepth 100000
set_option maxHeartbeats 2000000
/-! C.m(k = v, ..), m a classmethod of C. -/
namespace CmX
open PySem PySem.Spec PyProof.Rows L2 ClX
/-- n keywords -/
def tCmK (C : Addr) (n : Nat) (sp : Sp) (E : XK) (ta : TE) (tk : TA) : TE := fun σ H Q => ta σ H fun x H1 => x = .ref C ∧ tk σ H1 fun zs H2 => zs.length = n ∧ sp (.ref C :: zs) H2 Q E
section
variable {X : Cx} {CX : CXT} {k : Nat} {C p g : Addr} {mc : Value} {sp : Sp} {E : XK} {o : Expr} {kws : List Keyword} {m : Str} {pos apos : Pos} {ta : TE} {tk : TA} {pl : Sem Bool} {fd : FuncData} {ps ks : List Str}
theorem pe_cmK (he : PE X o ta) (r : CRead X.K C mc) (c : CMet X.K C mc m p g) (F : FnOk X.prog X.w X.K X.mg X.base CX k g fd ps sp) (hr : Room k X.A) (hx : Passes CX X E) (hkw : PK X kws tk)
    (hb : ∀ us ws : List Value, us.length = 1 → ws.length = ks.length → bindArgs fd ⟨us, ks.zip ws⟩ = pure (ps.zip (us ++ ws)))
    (hall : (backToKw pos (keywordEach kws X.env)).all (·.1.isSome) = true := by rfl) (hks : (backToKw pos (keywordEach kws X.env)).filterMap (·.1) = ks := by rfl)
    (hpl : ((backTo pos (starEach [] X.env)).any (·.1) || (backToKw pos (keywordEach kws X.env)).any (·.1.isNone)) = false := by rfl)
    (ht : eval (.Call (.Attribute o m apos) [] kws pos) X.env = (do
      let ov ← eval o X.env
      standAt apos.atName
      let (f, first) ← holding [ov] (getMethod ov m pl)
      callWith pos f first (backTo pos (starEach [] X.env)) (backToKw pos (keywordEach kws X.env))) := by rfl) :
    PE X (.Call (.Attribute o m apos) [] kws pos) (tCmK C ks.length sp E ta tk) := by
  refine ⟨fun pins s σ H Q I h => ?_⟩
  refine PySem.W.methodCall_KW (pl := pl) (thn (he.run pins s σ H _ I h) fun u s1 ⟨x, H1, I1, rx, ex, q⟩ => ?_) ht
  subst ex
  obtain rfl : u = Value.ref C := rx
  refine getmethcm_ok I1 r c fun s2 I2 => ?_
  refine PySem.W.callWith_of hpl (PySem.W.keeps_M c.fi) (evalArgs_kw2_nil hall (thn (hkw.run pos _ s2 σ H1 _ I2 q) fun ws s3 ⟨zs, H2, I3, rz, l, q2⟩ => ⟨⟨pin_at I3, I3.kIn⟩, ?_⟩))
  rw [hks]
  have lw : ws.length = ks.length := rz.length.symm.trans l
  refine thn (Q := EP X ((s1.heap.objs.size, PySem.W.methodObj (.ref g) (.ref C)) :: pins) σ Q) (wpAny_call (PySem.W.method_call (pin_at I3) (codeAny_mono (F.run X.A X.stack s3 H2 ⟨[.ref C], ks.zip ws⟩ (.ref C :: ws) (.ref C :: zs) Q E hr I3.env0 (BindsTo.of_eq (hb [.ref C] ws rfl lw)) (.cons rfl rz) q2) fun r s' hq => ?_))) fun _ _ y => unpinE y
  match r, hq with
  | .error e, hq => exact hx _ σ H2 s3 e s' I3 hq
  | .ok (.ret u), hq => exact I3.after hq
end
end CmX

/-! ==== P5w ==== -/
set_option Elab.async false
set_option linter.all false
set_option maxRecDepth 100000
set_option maxHeartbeats 4000000
/-! k05: a row of the law, and what is due for it. -/
namespace K5
open PySem PySem.Spec PyProof.Rows L2 StX ClX SuX Sh KwX TuI D2X NkX OwX TrX
/-- an entry of a row: name, words, declaration -/
def EntAt (H : Hp) (e : Addr) (d : Dc) (x : V) : Prop := match d with
  | .kind z => H e = some (.lst [.str z, .non, x])
  | .role z ms => ∃ a, H e = some (.lst [.str z, .ref a, x]) ∧ H a = some (.lst ((ms.map (·.1)).map V.str))
  | .odd _ => ∃ wv, H e = some (.lst [.non, wv, x])
theorem EntAt.same {H H' : Hp} {e : Addr} {d : Dc} {x : V} (s : Same H H') (h : EntAt H e d x) : EntAt H' e d x := by
  cases d with
  | kind z => exact s e _ h
  | role z ms => exact let ⟨a, h1, h2⟩ := h; ⟨a, s e _ h1, s a _ h2⟩
  | odd u => exact let ⟨wv, h1⟩ := h; ⟨wv, s e _ h1⟩
/-- a row -/
structure RwAt (K : PySem.W.Frag) (KC RC : Addr) (H : Hp) (R : Addr) (es : List Addr) (ds : List Dc) (xs : List V) : Prop where
  at_ : H R = some (.lst (es.map V.ref))
  le : es.length = ds.length
  lx : xs.length = ds.length
  small : ds.length < 1000
  ent : ∀ (i : Nat) (d : Dc), ds[i]? = some d → ∃ e x, es[i]? = some e ∧ xs[i]? = some x ∧ EntAt H e d x ∧ DcAt K KC RC H d x
theorem RwAt.same {K : PySem.W.Frag} {KC RC : Addr} {H H' : Hp} {R : Addr} {es : List Addr} {ds : List Dc} {xs : List V} (s : Same H H') (h : RwAt K KC RC H R es ds xs) : RwAt K KC RC H' R es ds xs :=
  ⟨s R _ h.at_, h.le, h.lx, h.small, fun i d hd => let ⟨e, x, h1, h2, h3, h4⟩ := h.ent i d hd; ⟨e, x, h1, h2, h3.same s, h4.same s⟩⟩
/-- the entry that a loop over the row gives -/
theorem RwAt.get {K : PySem.W.Frag} {KC RC : Addr} {H : Hp} {R : Addr} {es : List Addr} {ds : List Dc} {xs : List V} (h : RwAt K KC RC H R es ds xs) {i : Nat} {y : V} (hy : (es.map V.ref)[i]? = some y) : ∃ d e x, ds[i]? = some d ∧ y = .ref e ∧ xs[i]? = some x ∧ EntAt H e d x ∧ DcAt K KC RC H d x := by
  have hi : i < ds.length := by
    have := (List.getElem?_eq_some_iff.mp hy).1
    rw [List.length_map, h.le] at this
    exact this
  obtain ⟨e, x, h1, h2, h3, h4⟩ := h.ent i ds[i] (List.getElem?_eq_getElem hi)
  rw [List.getElem?_map, h1] at hy
  exact ⟨ds[i], e, x, List.getElem?_eq_getElem hi, (Option.some.inj hy).symm, h2, h3, h4⟩
/-- the first item of an entry -/
theorem EntAt.name {H : Hp} {e : Addr} {d : Dc} {x : V} (h : EntAt H e d x) (no : ∀ u, d ≠ .odd u) : ∃ wv, H e = some (.lst [.str (dcName d), wv, x]) := by
  cases d with
  | kind z => exact ⟨_, h⟩
  | role z ms => exact let ⟨a, h1, _⟩ := h; ⟨_, h1⟩
  | odd u => exact absurd rfl (no u)
/-- the second -/
theorem EntAt.words {H : Hp} {e : Addr} {d : Dc} {x : V} (h : EntAt H e d x) (no : ∀ u, d ≠ .odd u) : ∃ nv wv, H e = some (.lst [nv, wv, x]) ∧ ((wv = .non ∧ dcMs d = [] ∧ ∃ z, d = .kind z) ∨ ∃ a, wv = .ref a ∧ H a = some (.lst (((dcMs d).map (·.1)).map V.str)) ∧ ∃ z ms, d = .role z ms) := by
  cases d with
  | kind z => exact ⟨_, _, h, .inl ⟨rfl, rfl, z, rfl⟩⟩
  | role z ms => exact let ⟨a, h1, h2⟩ := h; ⟨_, _, h1, .inr ⟨a, rfl, h2, z, ms, rfl⟩⟩
  | odd u => exact absurd rfl (no u)
set_option hygiene false in
local macro_rules | `(tactic| walk_at "due_tail") => `(tactic| (
  refine for_it (walk_list (xs := ws.map V.str)) (fun j σ' H' => (∃ v2 v3 v4 v5, σ' = [some (.ref R), some (.ref d0), v2, v3, v4, v5]) ∧ Same H H' ∧ H' d0 = some (.dK (knownD (ds.map dcName))) ∧ (∃ L', H' L' = some (.lst (ws.map V.str))) ∧ Same H4 H' ∧ parsA (ds.map dcName) (parNames ds) = parsA (ds.map dcName) (ws.drop j ++ parNames (ds.drop (i + 1))))
    ⟨⟨_, _, _, _, rfl⟩, sL, h4, ⟨_, hL⟩, Same.refl _, p4⟩ (fun j σ' H' _ q => .inl (.inl (q.2.2.2.2.1 _ _ hL))) ?_ ?_
  · rintro j x σ' H5 H6 hj ⟨⟨v2, v3, v4, v5, rfl⟩, s5, h5, f5, g5, p5⟩ ⟨rfl, ew⟩
    have hj' : j < ws.length := by rw [List.length_map] at hj; exact hj
    rw [List.getElem?_map, List.getElem?_eq_getElem hj'] at ew
    obtain rfl : V.str ws[j] = x := Option.some.inj ew
    rw [List.drop_eq_getElem_cons hj'] at p5
    refine ⟨_, rfl, _, rfl, d0, _, rfl, DGet.k (k := Sum.inr ws[j]) h5, _, rfl, ?_⟩
    rw [valV_known]
    by_cases hk : ws[j] ∈ ds.map dcName
    · rw [decide_eq_true hk]
      have p6 : parsA (ds.map dcName) (parNames ds) = some (("name" : Str), V.str ws[j]) := by rw [p5]; exact if_pos hk
      exact iteT ⟨_, rfl, by show 2 ≤ _; rw [sizeLine_eq]; omega, fun T' hT' => k1 "name" _ (by unfold worldDue namesDue; rw [hn, p6]; rfl) _ T' (s5.new hT') (s5.free hT') upd_same⟩
    · rw [decide_eq_false hk]
      exact iteF ⟨⟨_, _, _, _, rfl⟩, s5, h5, f5, g5, by rw [p5]; exact if_neg hk⟩
  · rintro σ' H5 ⟨⟨v2, v3, v4, v5, rfl⟩, s5, h5, f5, g5, p5⟩
    rw [List.length_map, List.drop_length] at p5
    exact ⟨⟨_, _, _, _, rfl⟩, s5, h5, p5⟩))
def spDue (K : PySem.W.Frag) (KC RC : Addr) : Sp := fun vs H Q _ => ∃ (R : Addr) (es : List Addr) (ds : List Dc) (xs : List V), vs = [.ref R] ∧ RwAt K KC RC H R es ds xs ∧
  (worldDue ds = none → ∀ H', Same H H' → Q .non H') ∧ (∀ r i, worldDue ds = some (r, i) → ∀ H' T, Same H H' → H T = none → H' T = some (.tup [.str r, i]) → Q (.ref T) H')
abbrev nDue : List Str := ["_law_row_here", "_law_known", "_law_n", "_law_one", "_law_word", "_law_tall"]
theorem scDue : FnScope nDue ["_law_row_here"] (defScope sDue) := ⟨rfl, rfl, rfl, by decide +kernel, rfl, by decide +kernel, by decide +kernel⟩
section
variable {P : Program} {w : World} {K : PySem.W.Frag} {mg : Str → Option Value} {base : Heap} {KC RC : Addr}
theorem ok_due {f : Addr} {fd : FuncData} (F : Fun K "_law_due" "_law_due" sDue f fd) (B : Blt mg) (W : Blw mg) : FnOk P w K mg base CX0 1 f fd ["_law_row_here"] (spDue K KC RC) := by
  refine F.ok scDue (fun vs H Q E h => ?_) (fun cdv A outer s H vs Q E hr h => ?_)
  · obtain ⟨R, es, ds, xs, rfl, _⟩ := h
    rfl
  · have hu := hu_of hr
    obtain ⟨R, es, ds, xs, rfl, row, k0, k1⟩ := h
    refine ⟨_, pss_cons (ps_set (i := 1) scDue.nd rfl (Or.inl rfl) pe_dnewK)
      (pss_cons (ps_for PassesOwn.never rfl (pi_enum rfl W.enumerate (pa_cons (pv 0) pa_nil)) (pg_tup rfl (pgs_cons (pg_name (i := 2) scDue.nd rfl (Or.inl rfl)) (pgs_cons (pg_name (i := 3) scDue.nd rfl (Or.inl rfl)) pgs_nil)))
        (pss_cons (ps_if (pt_cmpR op_isNon (pe_ix ix_list (pv 3) pe_int (fun _ _ => rfl)) pe_non (nomark _)) (pss_one (ps_ret (pe_tup (pa_cons pe_str (pa_cons (pv 2) pa_nil))))) pss_nil)
        (pss_cons (ps_if (pt_cmp (pc_din hu (pe_ix ix_list (pv 3) pe_int (fun _ _ => rfl)) (pv 1))) (pss_one (ps_ret (pe_tup (pa_cons pe_str (pa_cons (pe_ix ix_list (pv 3) pe_int (fun _ _ => rfl)) pa_nil))))) pss_nil)
        (pss_one (ps_dput hu (pv 1) (pe_ix ix_list (pv 3) pe_int (fun _ _ => rfl)) pe_bl rfl)))))
      (pss_cons (ps_for PassesOwn.never rfl (pi_list (pv 0)) (pg_name (i := 3) scDue.nd rfl (Or.inl rfl))
        (pss_one (ps_for PassesOwn.never rfl (pi_list (pe_ifExp (pt_cmpR op_notN1 (pe_ix ix_list (pv 3) pe_int (fun _ _ => rfl)) pe_non (nomark _)) (pe_ix ix_list (pv 3) pe_int (fun _ _ => rfl)) (pe_lst pa_nil))) (pg_name (i := 4) scDue.nd rfl (Or.inl rfl))
          (pss_one (ps_if (pt_cmp (pc_din hu (pv 4) (pv 1))) (pss_one (ps_ret (pe_tup (pa_cons pe_str (pa_cons (pv 4) pa_nil))))) pss_nil)))))
      (pss_cons (ps_set (i := 5) scDue.nd rfl (Or.inl rfl) (pe_callB call_len_seq (by rfl) B.len PySem.boot_len (pa_cons (pe_lc (own := [("_law_one", 3)]) (g := gName 3) (tt := tB (tOp rIsN (tOp (rIxL K) (tVar 3) (tC (.int 1))) (tC .non))) rfl scDue.nd (pi_list (pv 0)) (blkOk_by (N := nDue) (sc := defScope sDue) (by decide +kernel))
          (fun _ _ _ _ _ => pg_name (i := 3) scDue.nd rfl (Or.inl rfl)) (fun _ _ _ _ _ => pts_one (pt_cmpR op_isNon (pe_ix ix_list (pv 3) pe_int (fun _ _ => rfl)) pe_non (nomark _))) (fun _ _ _ _ _ => pe_int)) pa_nil)))
      (pss_one (ps_ret (pe_ifExp (PW.pt (pw_or (pt_cmpR op_gt (pv 5) pe_int (nomark _)) (pw_or1 (pt_cmpR op_gt (pe_op op_sub (pe_callB call_len_seq (by rfl) B.len PySem.boot_len (pa_cons (pv 0) pa_nil)) (pv 5)) pe_int (nomark _)))))
          (pe_tup (pa_cons pe_str (pa_cons pe_non pa_nil))) pe_non)))))), ?_⟩
    intro d0 hd0
    have hle : (es.map V.ref).length = ds.length := by rw [List.length_map, row.le]
    refine ⟨_, rfl, R, _, rfl, .inl (.inl ((Same.refl H).new hd0 R _ row.at_)), ?_⟩
    refine for_it (walk_enum (xs := es.map V.ref)) (fun i σ' H' => (∃ v2 v3 v4 v5, σ' = [some (.ref R), some (.ref d0), v2, v3, v4, v5]) ∧ Same H H' ∧ H' d0 = some (.dK (knownD ((ds.take i).map dcName))) ∧ namesA 0 [] ds = namesA i ((ds.take i).map dcName) (ds.drop i))
      ⟨⟨_, _, _, _, rfl⟩, (Same.refl H).new hd0, upd_same, rfl⟩ (fun i σ' H' _ q => .inl (.inl (q.2.1 R _ row.at_))) ?_ ?_
    · rintro i x σ' H1 H2 hi ⟨⟨v2, v3, v4, v5, rfl⟩, s1, h1, hn⟩ ⟨T, x, y, rfl, hT, rfl, ex, ey⟩
      obtain rfl : V.int (i : Nat) = x := Option.some.inj ex
      obtain ⟨dc, e, xv, hdc, rfl, hxv, ent, hat⟩ := (row.same s1).get ey
      have hi' : i < ds.length := (List.getElem?_eq_some_iff.mp hdc).1
      have hdrop : ds.drop i = dc :: ds.drop (i + 1) := by
        rw [List.drop_eq_getElem_cons hi']
        rw [List.getElem?_eq_getElem hi'] at hdc
        rw [Option.some.inj hdc]
      rw [hdrop] at hn
      have s2 : Same H (upd H1 T (.tup [.int (i : Nat), .ref e])) := s1.new hT
      have ent2 : EntAt (upd H1 T (.tup [.int (i : Nat), .ref e])) e dc xv := ent.same ((Same.refl H1).new hT)
      have nd : d0 ≠ T := ne_of_none h1 hT
      have h2 : upd H1 T (.tup [.int (i : Nat), .ref e]) d0 = some (.dK (knownD ((ds.take i).map dcName))) := by rw [upd_ne nd]; exact h1
      refine ⟨T, _, rfl, .inl (.inl upd_same), rfl, _, _, rfl, _, _, rfl, ⟨rfl, ?_⟩⟩
      generalize upd H1 T (.tup [.int (i : Nat), .ref e]) = H2 at s2 ent2 h2 ⊢
      by_cases odd : ∃ u, dc = .odd u
      · obtain ⟨u, rfl⟩ := odd
        obtain ⟨wv, he⟩ := ent2
        refine ⟨_, rfl, e, _, _, _, rfl, rfl, .inl (.inl he), rfl, rfl, _, rfl, iteT ?_⟩
        exact ⟨_, rfl, by show 2 ≤ _; rw [sizeLine_eq]; omega, fun T' hT' => k1 "declaration" _ (by unfold worldDue namesDue; rw [hn]; rfl) _ T' (s2.new hT') (s2.free hT') upd_same⟩
      · have no : ∀ u, dc ≠ .odd u := fun u q => odd ⟨u, q⟩
        obtain ⟨wv, he⟩ := ent2.name no
        rw [namesA_step no] at hn
        have tk : (ds.take (i + 1)).map dcName = (ds.take i).map dcName ++ [dcName dc] := by
          rw [List.take_succ, hdc, List.map_append]
          rfl
        refine ⟨_, rfl, e, _, _, _, rfl, rfl, .inl (.inl he), rfl, rfl, _, rfl, iteF ?_⟩
        refine ⟨_, rfl, e, _, _, _, rfl, rfl, .inl (.inl he), rfl, _, rfl, d0, _, rfl, DGet.k (k := Sum.inr (dcName dc)) h2, _, rfl, ?_⟩
        rw [valV_known]
        by_cases hk : dcName dc ∈ (ds.take i).map dcName
        · rw [decide_eq_true hk]
          rw [if_pos hk] at hn
          exact iteT ⟨_, rfl, e, _, _, _, rfl, rfl, .inl (.inl he), rfl, by show 2 ≤ _; rw [sizeLine_eq]; omega, fun T' hT' => k1 "name" _ (by unfold worldDue namesDue; rw [hn]; rfl) _ T' (s2.new hT') (s2.free hT') upd_same⟩
        · rw [decide_eq_false hk]
          rw [if_neg hk] at hn
          refine iteF ⟨_, rfl, _, rfl, e, _, _, _, rfl, rfl, .inl (.inl he), rfl, d0, _, rfl, DPut.k (k := Sum.inr (dcName dc)) h2 ?_, ⟨⟨_, _, _, _, rfl⟩, s2.old hd0, ?_, ?_⟩⟩
          · rw [List.length_map, List.length_map, List.length_take, sizeLine_eq]
            have := row.small
            omega
          · rw [upd_same, putK_known hk, tk]
          · rw [tk]
            exact hn
    rintro σ' H1 ⟨⟨v2, v3, v4, v5, rfl⟩, s1, h1, hn⟩
    rw [hle, List.take_length] at h1
    rw [hle, List.take_length, List.drop_length] at hn
    have hn : namesA 0 [] ds = none := hn
    have nodd := namesA_odd hn
    refine ⟨_, rfl, R, rfl, ⟨_, .inl (.inl (s1 R _ row.at_))⟩, ?_⟩
    refine for_it (walk_list (xs := es.map V.ref)) (fun i σ' H' => (∃ v2 v3 v4 v5, σ' = [some (.ref R), some (.ref d0), v2, v3, v4, v5]) ∧ Same H H' ∧ H' d0 = some (.dK (knownD (ds.map dcName))) ∧ parsA (ds.map dcName) (parNames ds) = parsA (ds.map dcName) (parNames (ds.drop i)))
      ⟨⟨_, _, _, _, rfl⟩, s1, h1, rfl⟩ (fun i σ' H' _ q => .inl (.inl (q.2.1 R _ row.at_))) ?_ ?_
    · rintro i x σ' H2 H3 hi ⟨⟨v2, v3, v4, v5, rfl⟩, s2, h2, hp⟩ ⟨rfl, ex⟩
      obtain ⟨dc, e, xv, hdc, rfl, hxv, ent, hat⟩ := (row.same s2).get ex
      have hi' : i < ds.length := (List.getElem?_eq_some_iff.mp hdc).1
      have hdrop : ds.drop i = dc :: ds.drop (i + 1) := by
        rw [List.drop_eq_getElem_cons hi']
        rw [List.getElem?_eq_getElem hi'] at hdc
        rw [Option.some.inj hdc]
      have no := nodd dc (List.mem_of_getElem? hdc)
      obtain ⟨nv, wv, he, hw⟩ := ent.words no
      have hp0 : parsA (ds.map dcName) (parNames ds) = parsA (ds.map dcName) ((dcMs dc).map (·.1) ++ parNames (ds.drop (i + 1))) := by rw [hp, hdrop]; rfl
      rcases hw with ⟨rfl, hm, z, rfl⟩ | ⟨a, rfl, ha, z, ms, rfl⟩
      · refine ⟨_, rfl, e, _, _, _, rfl, rfl, .inl (.inl he), rfl, rfl, _, rfl, iteF ⟨Nat.zero_le _, fun L hL0 => ⟨L, rfl, ⟨[], .inl (.inl upd_same)⟩, ?_⟩⟩⟩
        have sL : Same H (upd H3 L (.lst [])) := s2.new hL0
        have h4 : upd H3 L (.lst []) d0 = some (.dK (knownD (ds.map dcName))) := by rw [upd_ne (ne_of_none h2 hL0)]; exact h2
        have hL : upd H3 L (.lst []) L = some (.lst ((([] : List Str)).map V.str)) := upd_same
        have p4 : parsA (ds.map dcName) (parNames ds) = parsA (ds.map dcName) (([] : List Str) ++ parNames (ds.drop (i + 1))) := hp0
        generalize upd H3 L (.lst []) = H4 at sL h4 hL ⊢
        generalize ([] : List Str) = ws at hL p4
        walk_at "due_tail"
      · refine ⟨_, rfl, e, _, _, _, rfl, rfl, .inl (.inl he), rfl, rfl, _, rfl, iteT ⟨_, rfl, e, _, _, _, rfl, rfl, .inl (.inl he), rfl, a, rfl, ⟨_, .inl (.inl ha)⟩, ?_⟩⟩
        have sL := s2
        have h4 := h2
        have hL := ha
        have p4 := hp0
        generalize H3 = H4 at *
        generalize (dcMs (.role z ms)).map (·.1) = ws at hL p4
        walk_at "due_tail"
    · rintro σ' H2 ⟨⟨v2, v3, v4, v5, rfl⟩, s2, h2, hp⟩
      rw [hle, List.drop_length] at hp
      have hdue : worldDue ds = if (kindsOf ds).length > 12 ∨ (rolesOf ds).length > 8 then some (("size" : Str), V.non) else none := by unfold worldDue namesDue; rw [hn, hp]; rfl
      refine ⟨_, rfl, R, rfl, ⟨_, .inl (.inl (s2 R _ row.at_))⟩, fun D hD => ?_⟩
      refine lc_it (walk_list (xs := es.map V.ref)) (fun i H' => Same H2 H' ∧ ∃ acc, H' D = some (.lst acc) ∧ acc.length = (kindsOf (ds.take i)).length ∧ acc.length ≤ i) ⟨(Same.refl H2).new hD, [], upd_same, rfl, Nat.zero_le _⟩ (fun i H' _ q => .inl (.inl (q.1 R _ (s2 R _ row.at_)))) ?_ ?_
      · rintro i x H3 H4 hi ⟨s3, acc, hacc, hlen, hli⟩ ⟨rfl, ex⟩
        obtain ⟨dc, e, xv, hdc, rfl, hxv, ent, hat⟩ := (row.same (s2.trans s3)).get ex
        have no := nodd dc (List.mem_of_getElem? hdc)
        obtain ⟨nv, wv, he, hw⟩ := ent.words no
        have hi' : i < ds.length := (List.getElem?_eq_some_iff.mp hdc).1
        have tkk : ds.take (i + 1) = ds.take i ++ [dc] := by rw [List.take_succ, hdc]; rfl
        have sm := row.small
        rw [tkk, kindsOf_append]
        rcases hw with ⟨rfl, hm, z, rfl⟩ | ⟨a, rfl, ha, z, ms, rfl⟩
        · refine ⟨rfl, _, rfl, e, _, _, _, rfl, rfl, .inl (.inl he), rfl, rfl, _, rfl, iteT ⟨acc, hacc, by rw [sizeLine_eq]; omega, s3.old hD, _, upd_same, ?_, ?_⟩⟩
          · rw [List.length_append, List.length_append, hlen]; rfl
          · rw [List.length_append]; show _ + 1 ≤ _; omega
        · refine ⟨rfl, _, rfl, e, _, _, _, rfl, rfl, .inl (.inl he), rfl, rfl, _, rfl, iteF ⟨s3, acc, hacc, ?_, by omega⟩⟩
          rw [List.length_append, hlen]; rfl
      rintro H3 ⟨s3, acc, hacc, hlen, _⟩
      rw [hle, List.take_length] at hlen
      have cnt := counts ds nodd
      have s23 := s2.trans s3
      refine ⟨D, _, rfl, .inl (.inl (.inl hacc)), ?_⟩
      have two : ∀ T, H3 T = none → ((kindsOf ds).length > 12 ∨ (rolesOf ds).length > 8) → Q (.ref T) (upd H3 T (.tup [.str "size", .non])) := fun T hT hc => k1 "size" .non (by rw [hdue, if_pos hc]) _ T (s23.new hT) (s23.free hT) upd_same
      refine ⟨_, rfl, _, _, rfl, rfl, _, rfl, ?_⟩
      by_cases h12 : (12 : Int) < (acc.length : Int)
      · rw [decide_eq_true h12]
        exact iteT (iteT ⟨by show 2 ≤ _; rw [sizeLine_eq]; omega, fun T hT => two T hT (.inl (by omega))⟩)
      · rw [decide_eq_false h12]
        refine iteF ⟨_, rfl, R, _, rfl, .inl (.inl (.inl (s23 R _ row.at_))), _, rfl, _, _, rfl, rfl, _, _, rfl, rfl, _, rfl, ?_⟩
        rw [hle]
        by_cases h8 : (8 : Int) < (ds.length : Int) - (acc.length : Int)
        · rw [decide_eq_true h8]
          exact iteT ⟨by show 2 ≤ _; rw [sizeLine_eq]; omega, fun T hT => two T hT (.inr (by omega))⟩
        · rw [decide_eq_false h8]
          exact iteF (k0 (by rw [hdue, if_neg (by omega)]) _ s23)
end
end K5

/-! ==== EqN ==== -/
set_option Elab.async false
set_option linter.all false
set_option maxRecDepth 100000
set_option maxHeartbeats 2000000
/-! A list of anything compared with an empty list. -/
namespace EqN
open PySem PySem.Spec PyProof.Rows L2
section
variable {X : Cx} {pins : List (Addr × Obj)} {σ : L2.St} {H : Hp} {s : Shared}
/-- l == [] (neg: l != []) -/
def rNil (neg : Bool) : R2 := fun x y H Q => ∃ a b xs, x = .ref a ∧ y = .ref b ∧ H a = some (.lst xs) ∧ H b = some (.lst []) ∧ Q (.bl (if neg then !xs.isEmpty else xs.isEmpty)) H
theorem two_lists (I : Inv X pins σ H s) {a b : Addr} {xs : List V} (ha : H a = some (.lst xs)) (hb : H b = some (.lst [])) : ∃ (us : List Value) (n m : Nat), xs.length = us.length ∧ s.heap.get? a = some { cls := .type "list", data := .seq us.toArray n } ∧ s.heap.get? b = some { cls := .type "list", data := .seq #[] m } := by
  obtain ⟨_, us, n, r, e⟩ := I.hok a _ ha
  obtain ⟨_, ws, m, r2, e2⟩ := I.hok b _ hb
  cases r2
  exact ⟨us, n, m, r.length, e, e2⟩
theorem nil_of {xs : List V} {us : List Value} (h : xs.length = us.length) : xs.isEmpty = us.isEmpty := by
  cases xs <;> cases us <;> first | rfl | cases h
theorem op_eqNil (hu : X.A.units < cLine) : OpR X (compareOp .Eq) (rNil false) := by
  rintro pins s σ H x y v u Q I rx ry ⟨a, b, xs, rfl, rfl, ha, hb, q⟩
  cases rx
  cases ry
  obtain ⟨us, n, m, hl, e, e2⟩ := two_lists I ha hb
  have q : Q (.bl xs.isEmpty) H := q
  rw [nil_of hl] at q
  have L1 : s.heap.IsList a us.toArray := ⟨_, e, rfl, _, rfl⟩
  have L2 : s.heap.IsList b #[] := ⟨_, e2, rfl, _, rfl⟩
  cases us with
  | nil => exact SeqAt.RcAt.lists (e := fun _ => true) L1 L2 rfl hu (fun j h1 _ => absurd h1 (Nat.not_lt_zero j)) X.prog X.w _ _ ⟨.bl true, H, I, rfl, q⟩
  | cons u r => exact SeqAt.RcAt.lists_lengths L1 L2 (by simp) hu X.prog X.w _ _ ⟨.bl false, H, I, rfl, q⟩
theorem op_neNil (hu : X.A.units < cLine) : OpR X (compareOp .NotEq) (rNil true) := by
  rintro pins s σ H x y v u Q I rx ry ⟨a, b, xs, rfl, rfl, ha, hb, q⟩
  cases rx
  cases ry
  obtain ⟨us, n, m, hl, e, e2⟩ := two_lists I ha hb
  have q : Q (.bl (!xs.isEmpty)) H := q
  rw [nil_of hl] at q
  have L1 : s.heap.IsList a us.toArray := ⟨_, e, rfl, _, rfl⟩
  have L2 : s.heap.IsList b #[] := ⟨_, e2, rfl, _, rfl⟩
  cases us with
  | nil => exact SeqAt.RcNeAt.lists (e := fun _ => true) L1 L2 rfl hu (fun j h1 _ => absurd h1 (Nat.not_lt_zero j)) X.prog X.w _ _ ⟨.bl false, H, I, rfl, q⟩
  | cons u r => exact SeqAt.RcNeAt.lists_lengths L1 L2 (by simp) hu X.prog X.w _ _ ⟨.bl true, H, I, rfl, q⟩
/-- a text, or an object that is compared with itself -/
def Plain : V → Prop
  | .str _ => True
  | .ref _ => True
  | _ => False
/-- two tuples of the same items: t != u -/
def rNeT : R2 := fun x y H Q => ∃ a b xs, x = .ref a ∧ y = .ref b ∧ H a = some (.tup xs) ∧ H b = some (.tup xs) ∧ (∀ v ∈ xs, Plain v) ∧ Q (.bl false) H
theorem plain_eq {A : Around} {v : V} {u1 u2 : Value} (p : Plain v) (r1 : RelV v u1) (r2 : RelV v u2) : SeqAt.EqAt A s u1 u2 true := by
  cases v with
  | str z =>
    obtain ⟨t1, rfl⟩ : ∃ t, u1 = .str z t := r1
    obtain ⟨t2, rfl⟩ : ∃ t, u2 = .str z t := r2
    have h := SeqAt.EqAt.str_str (A := A) (s := s) z t1 z t2
    rw [beq_self_eq_true] at h
    exact h
  | ref a =>
    cases r1
    cases r2
    exact SeqAt.EqAt.same _
  | _ => exact p.elim
theorem vals_at : ∀ {xs : List V} {us : List Value}, Vals xs us → ∀ (j : Nat) (h : j < us.length), ∃ v ∈ xs, xs[j]? = some v ∧ RelV v us[j]
  | _, _, .cons (a := a) r rs, 0, _ => ⟨a, List.mem_cons_self, rfl, r⟩
  | _, _, .cons (a := a) r rs, j + 1, h =>
    let ⟨v, hm, e, k⟩ := vals_at rs j (Nat.lt_of_succ_lt_succ h)
    ⟨v, List.mem_cons_of_mem _ hm, e, k⟩
theorem op_neTup (hu : X.A.units < cLine) : OpR X (compareOp .NotEq) rNeT := by
  rintro pins s σ H x y v u Q I rx ry ⟨a, b, xs, rfl, rfl, ha, hb, hp, q⟩
  cases rx
  cases ry
  obtain ⟨_, us, r, t⟩ := I.hok a _ ha
  obtain ⟨_, ws, r2, t2⟩ := I.hok b _ hb
  have hl : us.length = ws.length := r.length.symm.trans r2.length
  refine SeqAt.RcNeAt.tuples (e := fun _ => true) t t2 hu (fun j h1 h2 => ?_) X.prog X.w _ _ ?_
  · obtain ⟨v, hm, e, k⟩ := vals_at r j h1
    obtain ⟨v2, _, e2, k2⟩ := vals_at r2 j h2
    obtain rfl : v = v2 := Option.some.inj (e.symm.trans e2)
    exact plain_eq (hp v hm) k k2
  · have : (!((List.range (min us.toArray.size ws.toArray.size)).all (fun _ => true) && us.toArray.size == ws.toArray.size)) = false := by simp [hl]
    rw [this]
    exact ⟨.bl false, H, I, rfl, q⟩
end
end EqN

/-! ==== P5x ==== -/
set_option Elab.async false
set_option linter.all false
set_option maxRecDepth 100000
set_option maxHeartbeats 4000000
/-! k05: the law's _law_new. -/
namespace StX
open PySem PySem.Spec PyProof.Rows L2
/-- C() -/
theorem pe_makeR0 {X : Cx} {CX : CXT} {k : Nat} {f C : Addr} {sp : Sp} {E : XK} {x : Str} {p pos : Pos} (M : Mk X.K C f) (F : FnR X.prog X.w X.K X.mg X.base CX k f sp) (hr : Room (k + 1) X.A) (hg : Gl X x) (hm : X.mg x = some (.ref C)) (hx : Passes CX X E) (hdb : (x == ("__debug__" : Str)) = false := by decide) :
    PE X (.Call (.Name x p) [] [] pos) (tMakeR C sp E tNil) :=
  ⟨fun pins s σ H Q I h => wpAny_Call_Name_kw (ld_glob I hg hm (PySem.W.callWith_K0 I.kIn M.kp (run_makeR (us := []) (vs := []) M F hr hx I .nil h)) hdb)⟩
end StX
namespace K5
open PySem PySem.Spec PyProof.Rows L2 StX ClX SuX Sh KwX TuI D2X NkX OwX TrX EqN
def spNew (K : PySem.W.Frag) (KC RC IC WC : Addr) : Sp := fun vs H Q E => ∃ (L : Addr) (xs : List V) (ds : List Dc), vs = [.ref L] ∧ H L = some (.lst xs) ∧ Paired (fun d v => DcAt K KC RC H d v) ds xs ∧ xs.length < 10 ∧
  (worldDue ds = none → ∀ H' x, Same H H' → H x = none → WorldAt WC H' x ds xs → Q (.ref x) H') ∧ (∀ r i, worldDue ds = some (r, i) → ∀ H' d, Same H H' → H d = none → H' d = some (worldX r i) → E (.ref IC) (some d) H')
section
variable {P : Program} {w : World} {K : PySem.W.Frag} {mg : Str → Option Value} {base : Heap} {KC RC IC WC : Addr}
/-- a world made of values, in a heap that grew -/
theorem make_world {H H1 : Hp} {xs : List V} {ds : List Dc} {Q : VK} {E : XK} (s1 : Same H H1) (hds : Paired (fun d v => DcAt K KC RC H d v) ds xs) (hlen : xs.length < 1000)
    (k0 : worldDue ds = none → ∀ H' x, Same H H' → H x = none → WorldAt WC H' x ds xs → Q (.ref x) H') (k1 : ∀ r i, worldDue ds = some (r, i) → ∀ H' d, Same H H' → H d = none → H' d = some (worldX r i) → E (.ref IC) (some d) H') :
    ∀ x dx, H1 x = none → H1 dx = none → dx ≠ x → spWI K KC RC IC WC (.ref x :: xs) (upd (upd H1 dx (.own x)) x (.ins WC dx [])) (fun v H3 => v = .non ∧ Q (.ref x) H3) E := fun x dx hx hdx ne => by
  have sn : Same H1 (upd (upd H1 dx (.own x)) x (.ins WC dx [])) := fun b o e => by rw [upd_ne (ne_of_none e hx), upd_ne (ne_of_none e hdx)]; exact e
  exact ⟨x, dx, xs, ds, rfl, upd_same, PySem.Paired.mono (fun d v h => h.same (s1.trans sn)) hds, hlen, fun hn H' b W => ⟨rfl, k0 hn H' x (s1.trans (made_same hx hdx b)) (s1.free hx) W⟩, fun r i hr H' d b hd nd e => k1 r i hr H' d (s1.trans (made_same hx hdx b)) (s1.free (sn.free hd)) e⟩
theorem scNew : FnScope ["_law_r"] ["_law_r"] (defScope sNew) := ⟨rfl, rfl, rfl, by decide +kernel, rfl, by decide +kernel, by decide +kernel⟩






theorem ok_new {f fi : Addr} {fd : FuncData} (F : Fun K "_law_new" "_law_new" sNew f fd) (B : Blt mg) (gW : mg "World" = some (.ref WC)) (M : Mk K WC fi) (FI : FnR P w K mg base (L2.CX P w) 7 fi (spWI K KC RC IC WC)) : FnOk P w K mg base (L2.CX P w) 9 f fd ["_law_r"] (spNew K KC RC IC WC) := by
  refine F.okX scNew (fun vs H Q E h => ?_) (fun cdv A outer s H vs Q E hr h => ?_)
  · obtain ⟨L, xs, ds, rfl, _⟩ := h
    rfl
  · obtain ⟨L, xs, ds, rfl, hL, hds, hlen, k0, k1⟩ := h
    have hu := hu_of hr
    refine ⟨_, pss_cons (ps_if (pt_cmpR op_lt (pe_callB call_len_seq (by rfl) B.len PySem.boot_len (pa_cons (pv 0) pa_nil)) pe_int (nomark _))
        (pss_cons (ps_if (pt_cmpR op_lt (pe_callB call_len_seq (by rfl) B.len PySem.boot_len (pa_cons (pv 0) pa_nil)) pe_int (nomark _))
            (pss_one (ps_ret (pe_ifExp (pt_cmpR (op_eqNil (Nat.lt_of_succ_lt hu)) (pv 0) (pe_lst pa_nil) (nomark _)) (pe_makeR0 M FI hr rfl gW (passes_call (takes_of rfl rfl rfl rfl) (fun _ _ _ _ h => h))) ((pe_makeR M FI hr rfl gW (passes_call (takes_of rfl rfl rfl rfl) (fun _ _ _ _ h => h)) (pa_cons (pe_ix ix_list (pv 0) pe_int (fun _ _ => rfl)) pa_nil)))))) pss_nil)
          (pss_one (ps_ret (pe_ifExp (pt_cmpR op_eq (pe_callB call_len_seq (by rfl) B.len PySem.boot_len (pa_cons (pv 0) pa_nil)) pe_int (nomark _)) ((pe_makeR M FI hr rfl gW (passes_call (takes_of rfl rfl rfl rfl) (fun _ _ _ _ h => h)) (pa_cons (pe_ix ix_list (pv 0) pe_int (fun _ _ => rfl)) (pa_cons (pe_ix ix_list (pv 0) pe_int (fun _ _ => rfl)) pa_nil)))) ((pe_makeR M FI hr rfl gW (passes_call (takes_of rfl rfl rfl rfl) (fun _ _ _ _ h => h)) (pa_cons (pe_ix ix_list (pv 0) pe_int (fun _ _ => rfl)) (pa_cons (pe_ix ix_list (pv 0) pe_int (fun _ _ => rfl)) (pa_cons (pe_ix ix_list (pv 0) pe_int (fun _ _ => rfl)) pa_nil))))))))) pss_nil)
      (pss_cons (ps_if (pt_cmpR op_lt (pe_callB call_len_seq (by rfl) B.len PySem.boot_len (pa_cons (pv 0) pa_nil)) pe_int (nomark _)) (pss_one (ps_ret (pe_ifExp (pt_cmpR op_eq (pe_callB call_len_seq (by rfl) B.len PySem.boot_len (pa_cons (pv 0) pa_nil)) pe_int (nomark _)) ((pe_makeR M FI hr rfl gW (passes_call (takes_of rfl rfl rfl rfl) (fun _ _ _ _ h => h)) (pa_cons (pe_ix ix_list (pv 0) pe_int (fun _ _ => rfl)) (pa_cons (pe_ix ix_list (pv 0) pe_int (fun _ _ => rfl)) (pa_cons (pe_ix ix_list (pv 0) pe_int (fun _ _ => rfl)) (pa_cons (pe_ix ix_list (pv 0) pe_int (fun _ _ => rfl)) pa_nil)))))) ((pe_makeR M FI hr rfl gW (passes_call (takes_of rfl rfl rfl rfl) (fun _ _ _ _ h => h)) (pa_cons (pe_ix ix_list (pv 0) pe_int (fun _ _ => rfl)) (pa_cons (pe_ix ix_list (pv 0) pe_int (fun _ _ => rfl)) (pa_cons (pe_ix ix_list (pv 0) pe_int (fun _ _ => rfl)) (pa_cons (pe_ix ix_list (pv 0) pe_int (fun _ _ => rfl)) (pa_cons (pe_ix ix_list (pv 0) pe_int (fun _ _ => rfl)) pa_nil)))))))))) pss_nil)
      (pss_cons (ps_if (pt_cmpR op_eq (pe_callB call_len_seq (by rfl) B.len PySem.boot_len (pa_cons (pv 0) pa_nil)) pe_int (nomark _)) (pss_one (ps_ret ((pe_makeR M FI hr rfl gW (passes_call (takes_of rfl rfl rfl rfl) (fun _ _ _ _ h => h)) (pa_cons (pe_ix ix_list (pv 0) pe_int (fun _ _ => rfl)) (pa_cons (pe_ix ix_list (pv 0) pe_int (fun _ _ => rfl)) (pa_cons (pe_ix ix_list (pv 0) pe_int (fun _ _ => rfl)) (pa_cons (pe_ix ix_list (pv 0) pe_int (fun _ _ => rfl)) (pa_cons (pe_ix ix_list (pv 0) pe_int (fun _ _ => rfl)) (pa_cons (pe_ix ix_list (pv 0) pe_int (fun _ _ => rfl)) pa_nil)))))))))) pss_nil)
      (pss_cons (ps_if (pt_cmpR op_eq (pe_callB call_len_seq (by rfl) B.len PySem.boot_len (pa_cons (pv 0) pa_nil)) pe_int (nomark _)) (pss_one (ps_ret ((pe_makeR M FI hr rfl gW (passes_call (takes_of rfl rfl rfl rfl) (fun _ _ _ _ h => h)) (pa_cons (pe_ix ix_list (pv 0) pe_int (fun _ _ => rfl)) (pa_cons (pe_ix ix_list (pv 0) pe_int (fun _ _ => rfl)) (pa_cons (pe_ix ix_list (pv 0) pe_int (fun _ _ => rfl)) (pa_cons (pe_ix ix_list (pv 0) pe_int (fun _ _ => rfl)) (pa_cons (pe_ix ix_list (pv 0) pe_int (fun _ _ => rfl)) (pa_cons (pe_ix ix_list (pv 0) pe_int (fun _ _ => rfl)) (pa_cons (pe_ix ix_list (pv 0) pe_int (fun _ _ => rfl)) pa_nil))))))))))) pss_nil)
      (pss_cons (ps_if (pt_cmpR op_eq (pe_callB call_len_seq (by rfl) B.len PySem.boot_len (pa_cons (pv 0) pa_nil)) pe_int (nomark _)) (pss_one (ps_ret ((pe_makeR M FI hr rfl gW (passes_call (takes_of rfl rfl rfl rfl) (fun _ _ _ _ h => h)) (pa_cons (pe_ix ix_list (pv 0) pe_int (fun _ _ => rfl)) (pa_cons (pe_ix ix_list (pv 0) pe_int (fun _ _ => rfl)) (pa_cons (pe_ix ix_list (pv 0) pe_int (fun _ _ => rfl)) (pa_cons (pe_ix ix_list (pv 0) pe_int (fun _ _ => rfl)) (pa_cons (pe_ix ix_list (pv 0) pe_int (fun _ _ => rfl)) (pa_cons (pe_ix ix_list (pv 0) pe_int (fun _ _ => rfl)) (pa_cons (pe_ix ix_list (pv 0) pe_int (fun _ _ => rfl)) (pa_cons (pe_ix ix_list (pv 0) pe_int (fun _ _ => rfl)) pa_nil)))))))))))) pss_nil)
      (pss_one (ps_ret ((pe_makeR M FI hr rfl gW (passes_call (takes_of rfl rfl rfl rfl) (fun _ _ _ _ h => h)) (pa_cons (pe_ix ix_list (pv 0) pe_int (fun _ _ => rfl)) (pa_cons (pe_ix ix_list (pv 0) pe_int (fun _ _ => rfl)) (pa_cons (pe_ix ix_list (pv 0) pe_int (fun _ _ => rfl)) (pa_cons (pe_ix ix_list (pv 0) pe_int (fun _ _ => rfl)) (pa_cons (pe_ix ix_list (pv 0) pe_int (fun _ _ => rfl)) (pa_cons (pe_ix ix_list (pv 0) pe_int (fun _ _ => rfl)) (pa_cons (pe_ix ix_list (pv 0) pe_int (fun _ _ => rfl)) (pa_cons (pe_ix ix_list (pv 0) pe_int (fun _ _ => rfl)) (pa_cons (pe_ix ix_list (pv 0) pe_int (fun _ _ => rfl)) pa_nil))))))))))))))))), ?_⟩
    have mk := make_world (IC := IC) (WC := WC) (Q := Q) (E := E) (Same.refl H) hds (by omega) k0 k1
    match xs, hlen with
    | [], _ =>
      (refine ⟨_, rfl, L, _, rfl, .inl (.inl (.inl hL)), _, _, rfl, rfl, _, rfl, iteT ?_⟩)
      (refine ⟨_, rfl, L, _, rfl, .inl (.inl (.inl hL)), _, _, rfl, rfl, _, rfl, iteT ?_⟩)
      refine ⟨_, rfl, Nat.zero_le _, fun l hl => ⟨L, l, _, rfl, rfl, ((Same.refl H).new hl) L _ hL, upd_same, _, rfl, iteT ?_⟩⟩
      exact make_world ((Same.refl H).new hl) hds (by show 0 < 1000; decide) k0 k1
    | [_], _ =>
      (refine ⟨_, rfl, L, _, rfl, .inl (.inl (.inl hL)), _, _, rfl, rfl, _, rfl, iteT ?_⟩)
      (refine ⟨_, rfl, L, _, rfl, .inl (.inl (.inl hL)), _, _, rfl, rfl, _, rfl, iteT ?_⟩)
      refine ⟨_, rfl, Nat.zero_le _, fun l hl => ⟨L, l, _, rfl, rfl, ((Same.refl H).new hl) L _ hL, upd_same, _, rfl, iteF ?_⟩⟩
      refine ⟨_, rfl, L, _, _, _, rfl, rfl, .inl (.inl (((Same.refl H).new hl) L _ hL)), rfl, ?_⟩
      exact make_world ((Same.refl H).new hl) hds (by show 1 < 1000; decide) k0 k1
    | [_, _], _ => (refine ⟨_, rfl, L, _, rfl, .inl (.inl (.inl hL)), _, _, rfl, rfl, _, rfl, iteT ?_⟩); (refine ⟨_, rfl, L, _, rfl, .inl (.inl (.inl hL)), _, _, rfl, rfl, _, rfl, iteF ?_⟩); (refine ⟨_, rfl, L, _, rfl, .inl (.inl (.inl hL)), rfl, _, rfl, iteT ?_⟩); (repeat (refine ⟨_, rfl, L, _, _, _, rfl, rfl, .inl (.inl hL), rfl, ?_⟩)); exact mk
    | [_, _, _], _ => (refine ⟨_, rfl, L, _, rfl, .inl (.inl (.inl hL)), _, _, rfl, rfl, _, rfl, iteT ?_⟩); (refine ⟨_, rfl, L, _, rfl, .inl (.inl (.inl hL)), _, _, rfl, rfl, _, rfl, iteF ?_⟩); (refine ⟨_, rfl, L, _, rfl, .inl (.inl (.inl hL)), rfl, _, rfl, iteF ?_⟩); (repeat (refine ⟨_, rfl, L, _, _, _, rfl, rfl, .inl (.inl hL), rfl, ?_⟩)); exact mk
    | [_, _, _, _], _ => (refine ⟨_, rfl, L, _, rfl, .inl (.inl (.inl hL)), _, _, rfl, rfl, _, rfl, iteF ?_⟩); (refine ⟨_, rfl, L, _, rfl, .inl (.inl (.inl hL)), _, _, rfl, rfl, _, rfl, iteT ?_⟩); (refine ⟨_, rfl, L, _, rfl, .inl (.inl (.inl hL)), rfl, _, rfl, iteT ?_⟩); (repeat (refine ⟨_, rfl, L, _, _, _, rfl, rfl, .inl (.inl hL), rfl, ?_⟩)); exact mk
    | [_, _, _, _, _], _ => (refine ⟨_, rfl, L, _, rfl, .inl (.inl (.inl hL)), _, _, rfl, rfl, _, rfl, iteF ?_⟩); (refine ⟨_, rfl, L, _, rfl, .inl (.inl (.inl hL)), _, _, rfl, rfl, _, rfl, iteT ?_⟩); (refine ⟨_, rfl, L, _, rfl, .inl (.inl (.inl hL)), rfl, _, rfl, iteF ?_⟩); (repeat (refine ⟨_, rfl, L, _, _, _, rfl, rfl, .inl (.inl hL), rfl, ?_⟩)); exact mk
    | [_, _, _, _, _, _], _ => (refine ⟨_, rfl, L, _, rfl, .inl (.inl (.inl hL)), _, _, rfl, rfl, _, rfl, iteF ?_⟩); (refine ⟨_, rfl, L, _, rfl, .inl (.inl (.inl hL)), _, _, rfl, rfl, _, rfl, iteF ?_⟩); (refine ⟨_, rfl, L, _, rfl, .inl (.inl (.inl hL)), rfl, _, rfl, iteT ?_⟩); (repeat (refine ⟨_, rfl, L, _, _, _, rfl, rfl, .inl (.inl hL), rfl, ?_⟩)); exact mk
    | [_, _, _, _, _, _, _], _ => (refine ⟨_, rfl, L, _, rfl, .inl (.inl (.inl hL)), _, _, rfl, rfl, _, rfl, iteF ?_⟩); (refine ⟨_, rfl, L, _, rfl, .inl (.inl (.inl hL)), _, _, rfl, rfl, _, rfl, iteF ?_⟩); (refine ⟨_, rfl, L, _, rfl, .inl (.inl (.inl hL)), rfl, _, rfl, iteF ?_⟩); (refine ⟨_, rfl, L, _, rfl, .inl (.inl (.inl hL)), rfl, _, rfl, iteT ?_⟩); (repeat (refine ⟨_, rfl, L, _, _, _, rfl, rfl, .inl (.inl hL), rfl, ?_⟩)); exact mk
    | [_, _, _, _, _, _, _, _], _ => (refine ⟨_, rfl, L, _, rfl, .inl (.inl (.inl hL)), _, _, rfl, rfl, _, rfl, iteF ?_⟩); (refine ⟨_, rfl, L, _, rfl, .inl (.inl (.inl hL)), _, _, rfl, rfl, _, rfl, iteF ?_⟩); (refine ⟨_, rfl, L, _, rfl, .inl (.inl (.inl hL)), rfl, _, rfl, iteF ?_⟩); (refine ⟨_, rfl, L, _, rfl, .inl (.inl (.inl hL)), rfl, _, rfl, iteF ?_⟩); (refine ⟨_, rfl, L, _, rfl, .inl (.inl (.inl hL)), rfl, _, rfl, iteT ?_⟩); (repeat (refine ⟨_, rfl, L, _, _, _, rfl, rfl, .inl (.inl hL), rfl, ?_⟩)); exact mk
    | [_, _, _, _, _, _, _, _, _], _ => (refine ⟨_, rfl, L, _, rfl, .inl (.inl (.inl hL)), _, _, rfl, rfl, _, rfl, iteF ?_⟩); (refine ⟨_, rfl, L, _, rfl, .inl (.inl (.inl hL)), _, _, rfl, rfl, _, rfl, iteF ?_⟩); (refine ⟨_, rfl, L, _, rfl, .inl (.inl (.inl hL)), rfl, _, rfl, iteF ?_⟩); (refine ⟨_, rfl, L, _, rfl, .inl (.inl (.inl hL)), rfl, _, rfl, iteF ?_⟩); (refine ⟨_, rfl, L, _, rfl, .inl (.inl (.inl hL)), rfl, _, rfl, iteF ?_⟩); (repeat (refine ⟨_, rfl, L, _, _, _, rfl, rfl, .inl (.inl hL), rfl, ?_⟩)); exact mk
    | _ :: _ :: _ :: _ :: _ :: _ :: _ :: _ :: _ :: _ :: _, h => exact absurd h (by simp)
end
end K5

/-! ==== P5yA ==== -/
set_option Elab.async false
set_option linter.all false
set_option maxRecDepth 100000
set_option maxHeartbeats 4000000
/-! k05: the heap but for what the draws write; names and words of a row. -/
namespace K5
open PySem PySem.Spec PyProof.Rows L2 StX ClX SuX Sh KwX TuI D2X NkX OwX TrX EqN
/-- the heap without the draws' own objects -/
def rm (m g : Addr) (H : Hp) : Hp := fun b => if b = m ∨ b = g then none else H b
section
variable {m g a p : Addr} {H H' : Hp} {o : HO}
theorem rm_at (h1 : a ≠ m) (h2 : a ≠ g) : rm m g H a = H a := if_neg fun z => z.elim h1 h2
theorem rm_same : Same (rm m g H) H := fun b o e => by
  by_cases h : b = m ∨ b = g
  · have : rm m g H b = none := if_pos h
    rw [this] at e
    cases e
  · rw [rm, if_neg h] at e
    exact e
theorem Kp.rm (k : Kp m g H H') : Same (rm m g H) (rm m g H') := fun b o e => by
  by_cases h : b = m ∨ b = g
  · have : K5.rm m g H b = none := if_pos h
    rw [this] at e
    cases e
  · rw [K5.rm, if_neg h] at e ⊢
    exact k b o (fun z => h (.inl z)) (fun z => h (.inr z)) e
theorem Same.rm (k : Same H H') : Same (rm m g H) (rm m g H') := Kp.rm fun b o _ _ e => k b o e
theorem rm_upd (h1 : p ≠ m) (h2 : p ≠ g) : rm m g (upd H p o) = upd (rm m g H) p o := by
  funext b
  by_cases hb : b = p
  · rw [hb, rm_at h1 h2, upd_same, upd_same]
  · rw [upd_ne hb]
    unfold rm
    rw [upd_ne hb]
theorem rm_none (h : H a = none) : rm m g H a = none := by
  unfold rm
  rw [h]
  split <;> rfl
/-- an object that is no dict and no list is none of the draws' -/
theorem rm_of {ks : List (Key × V)} {xs : List V} (hm : H m = some (.dK ks)) (hg : H g = some (.lst xs)) (e : H a = some o) (n1 : ∀ ks, o ≠ .dK ks) (n2 : ∀ xs, o ≠ .lst xs) : rm m g H a = some o := by
  rw [rm_at]
  · exact e
  · exact fun z => n1 ks (Option.some.inj (e.symm.trans (by rw [z]; exact hm)))
  · exact fun z => n2 xs (Option.some.inj (e.symm.trans (by rw [z]; exact hg)))
theorem dr_two {c : Addr} {b : Nat} (d : Dr H m c g b) : ∃ ks xs, H m = some (.dK ks) ∧ H g = some (.lst xs) := let ⟨_, _, _, _, _, h1, _, h3, _⟩ := d; ⟨_, _, h1, h3⟩
theorem KindAt.rm {C x c : Addr} {z : Str} {b : Nat} (d : Dr H m c g b) (k : KindAt C H x z) : KindAt C (rm m g H) x z := by
  obtain ⟨ks, xs, h1, h2⟩ := dr_two d
  obtain ⟨dx, mm, k1, k2⟩ := k
  exact ⟨dx, mm, rm_of h1 h2 k1 (fun _ z => by cases z) (fun _ z => by cases z), rm_of h1 h2 k2 (fun _ z => by cases z) (fun _ z => by cases z)⟩
theorem RoleAt.rm {C x c : Addr} {z : Str} {ms : List (Str × Str)} {b : Nat} (d : Dr H m c g b) (k : RoleAt C H x z ms) : RoleAt C (rm m g H) x z ms := by
  obtain ⟨ks, xs, h1, h2⟩ := dr_two d
  obtain ⟨dx, mm, t, k1, k2, ts, k3, k4⟩ := k
  exact ⟨dx, mm, t, rm_of h1 h2 k1 (fun _ z => by cases z) (fun _ z => by cases z), rm_of h1 h2 k2 (fun _ z => by cases z) (fun _ z => by cases z), ts, rm_of h1 h2 k3 (fun _ z => by cases z) (fun _ z => by cases z),
    PySem.Paired.mono (fun x q e => rm_of h1 h2 e (fun _ z => by cases z) (fun _ z => by cases z)) k4⟩
end
/-! ### names and words -/
abbrev kNm (n : Nat) : Str := ("K" : Str) ++ (toString (n : Int) : String)
abbrev rNm (n : Nat) : Str := ("R" : Str) ++ (toString (n : Int) : String)
abbrev tNm (n : Nat) : Str := ("t" : Str) ++ (toString (n : Int) : String)
/-- what a name of a row bears -/
structure NmOk (z : Str) : Prop where
  ok : OkZ z
  ns : z ≠ "self"
  nn : z ≠ "name"
def nmB (z : Str) : Bool := decide (z.length ≤ 15) && freeB z && decide ((reprText z).length ≤ 1000) && decide (z ≠ "self") && decide (z ≠ "name")
theorem nm_by {z : Str} (h : nmB z = true) : NmOk z := by
  unfold nmB at h
  simp only [Bool.and_eq_true, decide_eq_true_eq] at h
  obtain ⟨⟨⟨⟨h1, h2⟩, h3⟩, h4⟩, h5⟩ := h
  exact ⟨⟨by rw [sizeLine_eq]; omega, h2, h3⟩, h4, h5⟩
/-- none of the names by which the law asks a world in vain -/
def NotT (z : Str) : Prop := z ≠ "T" ∧ z ≠ "k0" ∧ z ≠ "K99"
instance {z : Str} : Decidable (NotT z) := inferInstanceAs (Decidable (_ ∧ _))
def NotD : Dc → Prop
  | .kind z => NotT z
  | .role z _ => NotT z
  | .odd _ => True
theorem nmK : ∀ n : Fin 15, nmB (kNm n) = true ∧ NotT (kNm n) := by decide +kernel
theorem nmR : ∀ n : Fin 10, nmB (rNm n) = true ∧ NotT (rNm n) := by decide +kernel
theorem nmT : ∀ n : Fin 10, nmB (tNm n) = true ∧ tNm n ≠ "T" := by decide +kernel
theorem nmT0 : nmB "T" = true := by decide +kernel
theorem nmU0 : nmB "U" = true ∧ ("U" : Str) ≠ "T" := by decide +kernel
/-- the words of an entry -/
def WdOk (l : List Str) : Prop := l = [] ∨ (∃ x, l = [x] ∧ NmOk x) ∨ ∃ x, l = [("T" : Str), x] ∧ NmOk x ∧ x ≠ "T"
theorem WdOk.each {l : List Str} (h : WdOk l) : ∀ z ∈ l, NmOk z := by
  rcases h with rfl | ⟨x, rfl, hx⟩ | ⟨x, rfl, hx, _⟩
  · exact fun _ z => nomatch z
  · exact fun z hz => by rw [List.mem_singleton.mp hz]; exact hx
  · intro z hz
    rcases List.mem_cons.mp hz with rfl | hz
    · exact nm_by nmT0
    · rw [List.mem_singleton.mp hz]; exact hx
theorem WdOk.kw {l : List Str} (h : WdOk l) : KwOk ["self", "name"] l := by
  refine ⟨?_, fun z hz hm => ?_, ?_⟩
  · rcases h with rfl | ⟨x, rfl, hx⟩ | ⟨x, rfl, hx, hn⟩
    · exact List.nodup_nil
    · simp
    · refine List.nodup_cons.mpr ⟨fun z => hn (List.mem_singleton.mp z).symm, by simp⟩
  · have k := h.each z hz
    rcases List.mem_cons.mp hm with e | e
    · exact k.ns e
    · exact k.nn (List.mem_singleton.mp e)
  · rcases h with rfl | ⟨x, rfl, hx⟩ | ⟨x, rfl, hx, hn⟩ <;> simp
theorem WdOk.last {l : List Str} (h : WdOk l) (hne : l ≠ []) {z : Str} (hz : NmOk z) (ht : z ≠ "T") : WdOk (l.dropLast ++ [z]) := by
  rcases h with rfl | ⟨x, rfl, hx⟩ | ⟨x, rfl, hx, hn⟩
  · exact absurd rfl hne
  · exact .inr (.inl ⟨z, rfl, hz⟩)
  · exact .inr (.inr ⟨z, rfl, hz, ht⟩)
/-- words with their marks make the marks of a role -/
theorem WdOk.ms {ms : List (Str × Str)} (h : WdOk (ms.map (·.1))) (hm : ∀ q ∈ ms, markB q.2 = true) : OkMs ms :=
  ⟨fun q hq => let k := h.each q.1 (List.mem_map_of_mem hq); ⟨⟨k.ok.1, k.ok.2.1, hm q hq⟩, k.ok⟩, h.kw⟩
end K5

/-! ==== P5y ==== -/
set_option Elab.async false
set_option linter.all false
set_option maxRecDepth 100000
set_option maxHeartbeats 8000000
/-! k05: a row drawn. -/
namespace K5
open PySem PySem.Spec PyProof.Rows L2 StX ClX SuX Sh KwX TuI D2X NkX OwX TrX EqN
abbrev nRow : List Str := ["_law_m", "_law_row_here", "_law_odds", "_law_tall", "_law_wide", "_law_n", "_law_words", "_law_again", "_law_spot", "_law_other", "_law_way", "_law_one", "_law_plan", "_law_word"]
theorem scRow : FnScope nRow ["_law_m"] (defScope sRow) := ⟨rfl, rfl, rfl, by decide +kernel, rfl, by decide +kernel, by decide +kernel⟩
theorem passN {P : Program} {w : World} {X : Cx} : Passes (L2.CX P w) X (fun _ _ _ => False) := fun _ _ _ _ _ _ _ h => by
  obtain ⟨_, _, _, _, _, _, _, _, _, _, _, _, _, z⟩ := h





def spRow (K : PySem.W.Frag) (KC RC : Addr) : Sp := fun vs H Q _ => ∃ (m c g : Addr) (b : Nat), vs = [.ref m] ∧ Dr H m c g b ∧ b + 1000 < 2 ^ 40 ∧
  ∀ (H' : Hp) (R : Addr) (es : List Addr) (ds : List Dc) (xs : List V), Kp m g H H' → Dr H' m c g (b + 1000) → RwAt K KC RC (rm m g H') R es ds xs → (∀ d ∈ ds, NotD d) → Q (.ref R) H'
theorem dr_same {H H' : Hp} {m c g : Addr} {b : Nat} (s : Same H H') (d : Dr H m c g b) : Dr H' m c g b := by
  obtain ⟨cs, gs, n, n0, nb, h1, h2, h3, r⟩ := d
  exact ⟨cs, gs, n, n0, nb, s _ _ h1, s _ _ h2, s _ _ h3, r⟩
theorem kp_same {H H' : Hp} {m g : Addr} (s : Same H H') : Kp m g H H' := fun b o _ _ e => s b o e
theorem dr_ne {H : Hp} {m c g p : Addr} {b : Nat} (d : Dr H m c g b) (hp : H p = none) : p ≠ m ∧ p ≠ g := by
  obtain ⟨ks, xs, h1, h2⟩ := dr_two d
  exact ⟨(ne_of_none h1 hp).symm, (ne_of_none h2 hp).symm⟩
/-- one of four numbers -/
theorem at4 {a b c d i lo hi : Int} (h0 : 0 ≤ i) (h1 : i < 4) (ha : lo ≤ a ∧ a ≤ hi) (hb : lo ≤ b ∧ b ≤ hi) (hc : lo ≤ c ∧ c ≤ hi) (hd : lo ≤ d ∧ d ≤ hi) : ∃ v : Int, atI [V.int a, V.int b, V.int c, V.int d] i = some (.int v) ∧ lo ≤ v ∧ v ≤ hi := by
  have e : i = 0 ∨ i = 1 ∨ i = 2 ∨ i = 3 := by omega
  rcases e with rfl | rfl | rfl | rfl
  · exact ⟨a, rfl, ha⟩
  · exact ⟨b, rfl, hb⟩
  · exact ⟨c, rfl, hc⟩
  · exact ⟨d, rfl, hd⟩
def NmV (nv : V) : Prop := nv = .non ∨ ∃ z, nv = .str z ∧ NmOk z ∧ NotT z
def WdV (m g R : Addr) (G : Hp) (wv : V) : Prop := wv = .non ∨ ∃ (a : Addr) (l : List Str), wv = .ref a ∧ a ≠ m ∧ a ≠ g ∧ a ≠ R ∧ G a = some (.lst (l.map V.str)) ∧ WdOk l
/-- an entry that is being built -/
def BEnt (K : PySem.W.Frag) (KC RC m g R : Addr) (B0 G : Hp) (e : Addr) : Prop := ∃ nv wv v, G e = some (.lst [nv, wv, v]) ∧ NmV nv ∧ WdV m g R G wv ∧ NotDecl K KC RC B0 v
/-- a row that is being built -/
structure Bld (K : PySem.W.Frag) (KC RC m g R : Addr) (H B0 G : Hp) (es : List Addr) : Prop where
  at_ : G R = some (.lst (es.map V.ref))
  nd : es.Nodup
  ent : ∀ e ∈ es, BEnt K KC RC m g R B0 G e
  new : ∀ e ∈ es, H e = none ∧ B0 e = none ∧ e ≠ R ∧ e ≠ m ∧ e ≠ g
section
variable {K : PySem.W.Frag} {KC RC m g R : Addr} {H B0 G G' : Hp} {es : List Addr}
theorem words_ne {l : List Str} (h : WdOk l) {a b c : V} : (l.map V.str) ≠ [a, b, c] := fun z => by
  have := congrArg List.length z
  rw [List.length_map] at this
  have two := h.kw.two
  simp at this
  omega
theorem WdV.keep {wv : V} (k : Kp m g G G') (h : WdV m g R G wv) : WdV m g R G' wv := by
  rcases h with h | ⟨a, l, h1, h2, h3, h4, h5, h6⟩
  · exact .inl h
  · exact .inr ⟨a, l, h1, h2, h3, h4, k a _ h2 h3 h5, h6⟩
theorem Bld.keep (nR : R ≠ m ∧ R ≠ g) (k : Kp m g G G') (h : Bld K KC RC m g R H B0 G es) : Bld K KC RC m g R H B0 G' es :=
  ⟨k R _ nR.1 nR.2 h.at_, h.nd, fun e he => let ⟨nv, wv, v, h1, h2, h3, h4⟩ := h.ent e he; ⟨nv, wv, v, k e _ (h.new e he).2.2.2.1 (h.new e he).2.2.2.2 h1, h2, h3.keep k, h4⟩, h.new⟩
/-- an entry is put at the end -/
theorem Bld.push (h : Bld K KC RC m g R H B0 G es) {e : Addr} {nv wv v : V} (he : G e = none) (h1 : NmV nv) (h2 : WdV m g R G wv) (h3 : NotDecl K KC RC B0 v) (n : H e = none ∧ B0 e = none ∧ e ≠ m ∧ e ≠ g) :
    Bld K KC RC m g R H B0 (upd (upd G e (.lst [nv, wv, v])) R (.lst ((es ++ [e]).map V.ref))) (es ++ [e]) := by
  have eR : e ≠ R := (ne_of_none h.at_ he).symm
  have wd : ∀ {w}, WdV m g R G w → WdV m g R (upd (upd G e (.lst [nv, wv, v])) R (.lst ((es ++ [e]).map V.ref))) w := fun {w} hw => by
    rcases hw with hw | ⟨a, l, a1, a2, a3, a4, a5, a6⟩
    · exact .inl hw
    · exact .inr ⟨a, l, a1, a2, a3, a4, by rw [upd_ne a4, upd_ne (ne_of_none a5 he)]; exact a5, a6⟩
  refine ⟨upd_same, List.nodup_append.mpr ⟨h.nd, by simp, fun x hx y hy z => ?_⟩, fun x hx => ?_, fun x hx => ?_⟩
  · obtain ⟨_, _, _, q, _⟩ := h.ent x hx
    rw [z, List.mem_singleton.mp hy, he] at q
    cases q
  · rcases List.mem_append.mp hx with hx | hx
    · obtain ⟨a, b, d, q1, q2, q3, q4⟩ := h.ent x hx
      exact ⟨a, b, d, by rw [upd_ne (h.new x hx).2.2.1, upd_ne (ne_of_none q1 he)]; exact q1, q2, wd q3, q4⟩
    · rw [List.mem_singleton.mp hx]
      exact ⟨nv, wv, v, by rw [upd_ne eR, upd_same], h1, wd h2, h3⟩
  · rcases List.mem_append.mp hx with hx | hx
    · exact h.new x hx
    · rw [List.mem_singleton.mp hx]
      exact ⟨n.1, n.2.1, eR, n.2.2.1, n.2.2.2⟩
/-- an entry is written anew -/
theorem Bld.set (h : Bld K KC RC m g R H B0 G es) {e : Addr} (he : e ∈ es) {nv wv v : V} (h1 : NmV nv) (h2 : WdV m g R G wv) (h3 : NotDecl K KC RC B0 v) : Bld K KC RC m g R H B0 (upd G e (.lst [nv, wv, v])) es := by
  obtain ⟨a0, b0, d0, q0, _⟩ := h.ent e he
  have wd : ∀ {w}, WdV m g R G w → WdV m g R (upd G e (.lst [nv, wv, v])) w := fun {w} hw => by
    rcases hw with hw | ⟨a, l, a1, a2, a3, a4, a5, a6⟩
    · exact .inl hw
    · refine .inr ⟨a, l, a1, a2, a3, a4, ?_, a6⟩
      rw [upd_ne fun z => ?_]
      · exact a5
      · rw [z, q0] at a5
        exact words_ne a6 (HO.lst.inj (Option.some.inj a5)).symm
  refine ⟨by rw [upd_ne (Ne.symm (h.new e he).2.2.1)]; exact h.at_, h.nd, fun x hx => ?_, h.new⟩
  by_cases z : x = e
  · rw [z]
    exact ⟨nv, wv, v, upd_same, h1, wd h2, h3⟩
  · obtain ⟨a, b, d, q1, q2, q3, q4⟩ := h.ent x hx
    exact ⟨a, b, d, by rw [upd_ne z]; exact q1, q2, wd q3, q4⟩
end
theorem perm_map {α β : Type} {f : α → β} {ys zs : List β} (h : ys.Perm zs) : ∀ es : List α, zs = es.map f → ∃ es2 : List α, ys = es2.map f ∧ es2.Perm es := by
  induction h with
  | nil => exact fun es e => ⟨[], rfl, by rw [List.map_eq_nil_iff.mp e.symm]⟩
  | cons x _ ih =>
    intro es e
    match es, e with
    | y :: r, e =>
      obtain ⟨h1, h2⟩ := List.cons.inj e
      obtain ⟨es2, e2, p2⟩ := ih r h2
      exact ⟨y :: es2, by rw [e2, h1]; rfl, p2.cons y⟩
  | swap x y l =>
    intro es e
    match es, e with
    | a :: b :: r, e =>
      obtain ⟨h1, h2⟩ := List.cons.inj e
      obtain ⟨h3, h4⟩ := List.cons.inj h2
      exact ⟨b :: a :: r, by rw [h1, h3, h4]; rfl, List.Perm.swap a b r⟩
  | trans _ _ ih1 ih2 =>
    intro es e
    obtain ⟨es2, e2, p2⟩ := ih2 es e
    obtain ⟨es3, e3, p3⟩ := ih1 es2 e2
    exact ⟨es3, e3, p3.trans p2⟩
theorem at_ref {es : List Addr} {r : Int} (h0 : 0 ≤ r) (h1 : r < es.length) : ∃ e ∈ es, es[r.toNat]? = some e ∧ atI (es.map V.ref) r = some (.ref e) ∧ ixN (es.map V.ref).length r = some r.toNat := by
  obtain ⟨j, rfl⟩ : ∃ j : Nat, r = (j : Int) := ⟨r.toNat, by omega⟩
  have hj : j < es.length := by omega
  refine ⟨es[j], List.getElem_mem hj, List.getElem?_eq_getElem hj, atI_nat (by rw [List.getElem?_map, List.getElem?_eq_getElem hj]; rfl), ?_⟩
  unfold ixN
  rw [List.length_map]
  simp [hj]
section
variable {K : PySem.W.Frag} {KC RC m g R R2 : Addr} {H B0 G G' : Hp} {es es2 : List Addr}
/-- the row as another list -/
theorem Bld.move (h : Bld K KC RC m g R H B0 G es) (k : Kp m g G G') (n2 : G R2 = none) (hat : G' R2 = some (.lst (es2.map V.ref))) (pm : es2.Perm es) : Bld K KC RC m g R2 H B0 G' es2 := by
  refine ⟨hat, pm.nodup_iff.mpr h.nd, fun e he => ?_, fun e he => ?_⟩
  · have he' := pm.mem_iff.mp he
    obtain ⟨nv, wv, v, h1, h2, h3, h4⟩ := h.ent e he'
    refine ⟨nv, wv, v, k e _ (h.new e he').2.2.2.1 (h.new e he').2.2.2.2 h1, h2, ?_, h4⟩
    rcases h3 with h3 | ⟨a, l, a1, a2, a3, a4, a5, a6⟩
    · exact .inl h3
    · exact .inr ⟨a, l, a1, a2, a3, ne_of_none a5 n2, k a _ a2 a3 a5, a6⟩
  · have he' := pm.mem_iff.mp he
    obtain ⟨_, _, _, h1, _⟩ := h.ent e he'
    obtain ⟨n1, n3, n4, n5⟩ := h.new e he'
    exact ⟨n1, n3, ne_of_none h1 n2, n5⟩
end
section
variable {K : PySem.W.Frag} {KC RC m g R : Addr} {H B0 G : Hp} {es : List Addr}
/-- a new entry in the place of another -/
theorem Bld.swap (h : Bld K KC RC m g R H B0 G es) {e : Addr} {nv wv v : V} {k : Nat} (he : G e = none) (h1 : NmV nv) (h2 : WdV m g R G wv) (h3 : NotDecl K KC RC B0 v) (n : H e = none ∧ B0 e = none ∧ e ≠ m ∧ e ≠ g) :
    Bld K KC RC m g R H B0 (upd (upd G e (.lst [nv, wv, v])) R (.lst ((es.map V.ref).set k (.ref e)))) (es.set k e) := by
  have ps := h.push he h1 h2 h3 n
  have fresh : e ∉ es := fun z => by
    obtain ⟨_, _, _, q, _⟩ := h.ent e z
    rw [he] at q
    cases q
  have sub : ∀ x ∈ es.set k e, x ∈ es ++ [e] := fun x hx => by
    rcases List.mem_or_eq_of_mem_set hx with z | z
    · exact List.mem_append_left _ z
    · rw [z]; simp
  have cg : ∀ x, x ≠ R → upd (upd G e (.lst [nv, wv, v])) R (.lst ((es.map V.ref).set k (.ref e))) x = upd (upd G e (.lst [nv, wv, v])) R (.lst ((es ++ [e]).map V.ref)) x := fun x hx => by rw [upd_ne hx, upd_ne hx]
  refine ⟨by rw [upd_same, List.map_set], ?_, fun x hx => ?_, fun x hx => ps.new x (sub x hx)⟩
  · by_cases hk : k < es.length
    · rw [List.set_eq_take_append_cons_drop, if_pos hk]
      have nd := h.nd
      rw [← List.take_append_drop k es] at nd
      obtain ⟨n1, n2, n3⟩ := List.nodup_append.mp nd
      have n2' : (es.drop (k + 1)).Nodup := by
        rw [List.drop_eq_getElem_cons hk] at n2
        exact (List.nodup_cons.mp n2).2
      refine List.nodup_append.mpr ⟨n1, List.nodup_cons.mpr ⟨fun z => fresh (List.mem_of_mem_drop z), n2'⟩, fun a ha b hb => ?_⟩
      rcases List.mem_cons.mp hb with rfl | hb
      · exact fun z => fresh (List.mem_of_mem_take (z ▸ ha))
      · refine n3 a ha b ?_
        rw [List.drop_eq_getElem_cons hk]
        exact List.mem_cons_of_mem _ hb
    · rw [List.set_eq_of_length_le (by omega)]
      exact h.nd
  · obtain ⟨a, b, d, q1, q2, q3, q4⟩ := ps.ent x (sub x hx)
    refine ⟨a, b, d, by rw [cg x (ps.new x (sub x hx)).2.2.1]; exact q1, q2, ?_, q4⟩
    rcases q3 with q3 | ⟨w, l, a1, a2, a3, a4, a5, a6⟩
    · exact .inl q3
    · exact .inr ⟨w, l, a1, a2, a3, a4, by rw [cg w a4]; exact a5, a6⟩
end
theorem cut_last (xs : List V) : cutV xs none (some (-1)) = xs.dropLast := by
  unfold cutV
  rw [HT.sIx_none]
  have e : HT.sIx xs.length xs.length (some (-1)) = xs.length - 1 := by
    show (if (-1 : Int) < 0 then ((-1 : Int) + (xs.length : Int)).toNat else min (-1 : Int).toNat xs.length) = xs.length - 1
    rw [if_pos (by omega)]
    omega
  rw [e, List.drop_zero, Nat.sub_zero, List.dropLast_eq_take]
theorem at_any {vs : List V} {r : Int} (h0 : 0 ≤ r) (h1 : r < vs.length) : ∃ v ∈ vs, atI vs r = some v := by
  obtain ⟨j, rfl⟩ : ∃ j : Nat, r = (j : Int) := ⟨r.toNat, by omega⟩
  have hj : j < vs.length := by omega
  exact ⟨vs[j], List.getElem_mem hj, atI_nat (List.getElem?_eq_getElem hj)⟩
/-- an entry that is done -/
def DoneE (K : PySem.W.Frag) (KC RC m g : Addr) (B0 G : Hp) (e : Addr) : Dc → V → Prop
  | .kind z, x => G e = some (.lst [.str z, .non, x]) ∧ ∃ a, x = .ref a ∧ KindAt KC G a z ∧ OkZ z
  | .role z ms, x => ∃ l, G e = some (.lst [.str z, .ref l, x]) ∧ l ≠ m ∧ l ≠ g ∧ G l = some (.lst ((ms.map (·.1)).map V.str)) ∧ ∃ a, x = .ref a ∧ RoleAt RC G a z ms ∧ OkZ z ∧ OkMs ms
  | .odd u, x => ∃ wv, G e = some (.lst [.non, wv, x]) ∧ x = u ∧ NotDecl K KC RC B0 u
section
variable {K : PySem.W.Frag} {KC RC m g c : Addr} {B0 G G' : Hp} {e e' : Addr} {b : Nat} {d : Dc} {x : V}
theorem DoneE.keep (dr : Dr G m c g b) (k : ∀ b o, b ≠ m → b ≠ g → b ≠ e' → G b = some o → G' b = some o) (h3 : ∃ x y z, G e' = some (.lst [x, y, z])) (n1 : e ≠ e') (n2 : e ≠ m) (n3 : e ≠ g) (h : DoneE K KC RC m g B0 G e d x) : DoneE K KC RC m g B0 G' e d x := by
  obtain ⟨ks, xs, hm, hg⟩ := dr_two dr
  obtain ⟨p1, p2, p3, he'⟩ := h3
  have ki : ∀ {a : Addr} {o : HO}, G a = some o → (∀ ks, o ≠ .dK ks) → (∀ xs, o ≠ .lst xs) → G' a = some o := fun {a o} q m1 m2 =>
    k a o (fun z => m1 ks (Option.some.inj (q.symm.trans (by rw [z]; exact hm)))) (fun z => m2 xs (Option.some.inj (q.symm.trans (by rw [z]; exact hg)))) (fun z => m2 [p1, p2, p3] (Option.some.inj (q.symm.trans (by rw [z]; exact he')))) q
  cases d with
  | kind z =>
    obtain ⟨h1, a, rfl, ⟨dx, mm, k1, k2⟩, oz⟩ := h
    exact ⟨k e _ n2 n3 n1 h1, a, rfl, ⟨dx, mm, ki k1 (fun _ z => by cases z) (fun _ z => by cases z), ki k2 (fun _ z => by cases z) (fun _ z => by cases z)⟩, oz⟩
  | role z ms =>
    obtain ⟨l, h1, l1, l2, l3, a, rfl, ⟨dx, mm, t, k1, k2, ts, k3, k4⟩, oz, om⟩ := h
    refine ⟨l, k e _ n2 n3 n1 h1, l1, l2, k l _ l1 l2 (fun z => ?_) l3, a, rfl, ⟨dx, mm, t, ki k1 (fun _ z => by cases z) (fun _ z => by cases z), ki k2 (fun _ z => by cases z) (fun _ z => by cases z), ts, ki k3 (fun _ z => by cases z) (fun _ z => by cases z),
      PySem.Paired.mono (fun x q e => ki e (fun _ z => by cases z) (fun _ z => by cases z)) k4⟩, oz, om⟩
    rw [z, he'] at l3
    have len := congrArg List.length (HO.lst.inj (Option.some.inj l3))
    have two := om.2.two
    rw [List.length_map] at len
    simp at len
    simp at two
    omega
  | odd u =>
    obtain ⟨wv, h1, h2⟩ := h
    exact ⟨wv, k e _ n2 n3 n1 h1, h2⟩
/-- .. in the heap without the draws' objects -/
theorem DoneE.out (dr : Dr G m c g b) (sB : Same B0 G) (nB : ∀ b o, B0 b = some o → b ≠ m ∧ b ≠ g) (n2 : e ≠ m) (n3 : e ≠ g) (h : DoneE K KC RC m g B0 G e d x) : EntAt (rm m g G) e d x ∧ DcAt K KC RC (rm m g G) d x := by
  cases d with
  | kind z =>
    obtain ⟨h1, a, rfl, k, oz⟩ := h
    exact ⟨(rm_at n2 n3).trans h1, a, rfl, KindAt.rm dr k, oz⟩
  | role z ms =>
    obtain ⟨l, h1, l1, l2, l3, a, rfl, k, oz, om⟩ := h
    exact ⟨⟨l, (rm_at n2 n3).trans h1, (rm_at l1 l2).trans l3⟩, a, rfl, RoleAt.rm dr k, oz, om⟩
  | odd u =>
    obtain ⟨wv, h1, rfl, t, h2, h3⟩ := h
    exact ⟨⟨wv, (rm_at n2 n3).trans h1⟩, rfl, t, tyX_same (fun b o q => (rm_at (nB b o q).1 (nB b o q).2).trans (sB b o q)) h2, h3⟩
end
/-- what is no declaration -/
structure OddF (K : PySem.W.Frag) (KC RC WC : Addr) : Prop where
  ty : ∀ t : String, t = "NoneType" ∨ t = "str" ∨ t = "tuple" ∨ t = "bool" ∨ t = "list" → PySem.W.kitOne K (.type t) (.ref KC) = some false ∧ PySem.W.kitOne K (.type t) (.ref RC) = some false
  wi : InstT K WC
  wk : PySem.W.kitOne K (.ref WC) (.ref KC) = some false ∧ PySem.W.kitOne K (.ref WC) (.ref RC) = some false
theorem due_nil : worldDue [] = none := by decide
section
variable {P : Program} {w : World} {K : PySem.W.Frag} {mg : Str → Option Value} {base : Heap} {KC RC IC WC : Addr}
theorem ok_row {f fk fw pk gk pr gr : Addr} {mk mr : Value} {fd : FuncData} (F : Fun K "_law_row" "_law_row" sRow f fd) (B : Blt mg) (W : Blw mg) (D : DK P w K mg base KC RC) (GD : Got P w K mg base CX0 "_law_draw" ["_law_m", "_law_top"] 2 spDraw) (GM : Got P w K mg base CX0 "_law_mixed_up" ["_law_m", "_law_things"] 3 spMixup)
    (GB : Got P w K mg base CX0 "_law_doubled" ["_law_kind_of"] 1 spDoub) (MK : Mk K KC fk) (FK : FnR P w K mg base CX0 4 fk (spKI KC)) (gW : mg "World" = some (.ref WC)) (MW : Mk K WC fw) (FW : FnR P w K mg base (L2.CX P w) 7 fw (spWI K KC RC IC WC))
    (rK : CRead K KC mk) (cK : CMet K KC mk "of" pk gk) (FKo : FnR P w K mg base CX0 6 gk (spKOf KC)) (rR : CRead K RC mr) (cR : CMet K RC mr "of" pr gr) (FRo : FnR P w K mg base CX0 6 gr (spROf RC)) (O : OddF K KC RC WC) :
    FnOk P w K mg base CX0 9 f fd ["_law_m"] (spRow K KC RC) := by
  refine F.ok scRow (fun vs H Q E h => by obtain ⟨m, c, g, b, rfl, _⟩ := h; rfl) (fun cdv A outer s H vs Q E hr h => ?_)
  obtain ⟨m, c, g, b, rfl, dr, hb, k⟩ := h
  have hu := hu_of hr
  have hr5 := hr.mono (show 5 ≤ 8 by decide)
  have hr6 := hr.mono (show 6 ≤ 8 by decide)
  refine ⟨_, pss_cons (ps_par (i := 1) (j := 2) rfl scRow.nd rfl rfl (by decide) rfl rfl (pa_cons (pe_lst pa_nil) (pa_cons (pe_lst (pa_cons pe_non (pa_cons pe_str (pa_cons (pe_tup pa_nil) (pa_cons pe_bl (pa_cons (pe_got GB hr (by decide) pass0 (pa_cons pe_int pa_nil))
        (pa_cons (pe_lst (pa_cons (pe_makeR MK FK hr5 rfl D.gk pass0 (pa_cons pe_str pa_nil)) pa_nil)) (pa_cons (pe_makeR0 MW FW hr rfl gW passN) pa_nil)))))))) pa_nil)) (by rfl))
    (pss_cons (ps_set (i := 3) scRow.nd rfl (Or.inl rfl) ((pe_ix ix_list (pe_lst (pa_cons ((pe_got GD hr (by decide) pass0 (pa_cons (pv 0) (pa_cons (pe_int (i := 6)) pa_nil)))) (pa_cons ((pe_got GD hr (by decide) pass0 (pa_cons (pv 0) (pa_cons (pe_int (i := 10)) pa_nil)))) (pa_cons (pe_op op_add pe_int ((pe_got GD hr (by decide) pass0 (pa_cons (pv 0) (pa_cons (pe_int (i := 3)) pa_nil))))) (pa_cons ((pe_got GD hr (by decide) pass0 (pa_cons (pv 0) (pa_cons (pe_int (i := 13)) pa_nil)))) pa_nil))))) ((pe_got GD hr (by decide) pass0 (pa_cons (pv 0) (pa_cons (pe_int (i := 4)) pa_nil)))) (fun _ _ => rfl))))
    (pss_cons (ps_set (i := 4) scRow.nd rfl (Or.inl rfl) ((pe_ix ix_list (pe_lst (pa_cons ((pe_got GD hr (by decide) pass0 (pa_cons (pv 0) (pa_cons (pe_int (i := 4)) pa_nil)))) (pa_cons ((pe_got GD hr (by decide) pass0 (pa_cons (pv 0) (pa_cons (pe_int (i := 5)) pa_nil)))) (pa_cons (pe_op op_add pe_int ((pe_got GD hr (by decide) pass0 (pa_cons (pv 0) (pa_cons (pe_int (i := 2)) pa_nil))))) (pa_cons ((pe_got GD hr (by decide) pass0 (pa_cons (pv 0) (pa_cons (pe_int (i := 9)) pa_nil)))) pa_nil))))) ((pe_got GD hr (by decide) pass0 (pa_cons (pv 0) (pa_cons (pe_int (i := 4)) pa_nil)))) (fun _ _ => rfl))))
    (pss_cons (ps_for PassesOwn.never rfl (pi_range1 rfl W.range (pa_cons (pv 3) pa_nil)) ((pg_name (i := 5) scRow.nd rfl (Or.inl rfl))) (pss_one (ps_expr (pe_bm PySem.F.plainAttrs_list PySem.F.slot_list_append PySem.F.type_list_append mt_append (pv 1) (pa_cons (pe_lst (pa_cons (pe_op op_add_str pe_str (pe_callTy call_str_int (by rfl) B.str (by decide +kernel) (pa_cons (pv 5) pa_nil))) (pa_cons pe_non (pa_cons pe_non pa_nil)))) pa_nil)))))
    (pss_cons (ps_for PassesOwn.never rfl (pi_range1 rfl W.range (pa_cons (pv 4) pa_nil)) ((pg_name (i := 5) scRow.nd rfl (Or.inl rfl)))
      (pss_cons (ps_set (i := 6) scRow.nd rfl (Or.inl rfl) ((pe_ix ix_list (pe_lst (pa_cons (pe_lst (pa_cons pe_str pa_nil)) (pa_cons (pe_lst (pa_cons pe_str (pa_cons pe_str pa_nil))) (pa_cons (pe_lst pa_nil) (pa_cons (pe_lst (pa_cons (pe_op op_add_str pe_str (pe_callTy call_str_int (by rfl) B.str (by decide +kernel) (pa_cons (pv 5) pa_nil))) pa_nil)) (pa_cons (pe_lst (pa_cons pe_str pa_nil)) pa_nil)))))) ((pe_got GD hr (by decide) pass0 (pa_cons (pv 0) (pa_cons (pe_int (i := 5)) pa_nil)))) (fun _ _ => rfl))))
      (pss_one (ps_expr (pe_bm PySem.F.plainAttrs_list PySem.F.slot_list_append PySem.F.type_list_append mt_append (pv 1) (pa_cons (pe_lst (pa_cons (pe_op op_add_str pe_str (pe_callTy call_str_int (by rfl) B.str (by decide +kernel) (pa_cons (pv 5) pa_nil))) (pa_cons (pv 6) (pa_cons pe_non pa_nil)))) pa_nil))))))
    (pss_cons (ps_set (i := 1) scRow.nd rfl (Or.inl rfl) (pe_got GM hr (by decide) pass0 (pa_cons (pv 0) (pa_cons (pv 1) pa_nil))))
    (pss_cons (ps_for PassesOwn.never rfl (pi_range1 rfl W.range (pa_cons ((pe_got GD hr (by decide) pass0 (pa_cons (pv 0) (pa_cons (pe_int (i := 3)) pa_nil)))) pa_nil)) ((pg_name (i := 7) scRow.nd rfl (Or.inl rfl)))
      (pss_one (ps_if (pt_cmpR (op_neNil (Nat.lt_of_succ_lt hu)) (pv 1) (pe_lst pa_nil) (nomark _))
        (pss_cons (ps_par (i := 8) (j := 9) rfl scRow.nd rfl rfl (by decide) rfl rfl (pa_cons ((pe_got GD hr (by decide) pass0 (pa_cons (pv 0) (pa_cons ((pe_callB call_len_seq (by rfl) B.len PySem.boot_len (pa_cons (pv 1) pa_nil))) pa_nil)))) (pa_cons ((pe_got GD hr (by decide) pass0 (pa_cons (pv 0) (pa_cons ((pe_callB call_len_seq (by rfl) B.len PySem.boot_len (pa_cons (pv 1) pa_nil))) pa_nil)))) pa_nil)) (by rfl))
        (pss_cons (ps_set (i := 10) scRow.nd rfl (Or.inl rfl) ((pe_got GD hr (by decide) pass0 (pa_cons (pv 0) (pa_cons (pe_int (i := 4)) pa_nil)))))
        (pss_one (ps_if (pt_cmpR op_eq (pv 10) pe_int (nomark _)) (pss_one (ps_asg ((pe_ix ix_list ((pe_ix ix_list (pv 1) (pv 9) (fun _ _ => rfl))) pe_int (fun _ _ => rfl))) (pg_sub ((pe_ix ix_list (pv 1) (pv 8) (fun _ _ => rfl))) pe_int set_list)))
          (pss_one (ps_if (PW.pt (pw_and (pt_cmpR op_eq (pv 10) pe_int (nomark _)) (pw_and (pt_cmpR op_notN1 ((pe_ix ix_list ((pe_ix ix_list (pv 1) (pv 8) (fun _ _ => rfl))) pe_int (fun _ _ => rfl))) pe_non (nomark _)) (pw_and (pt_cmpR (op_neNil (Nat.lt_of_succ_lt hu)) ((pe_ix ix_list ((pe_ix ix_list (pv 1) (pv 8) (fun _ _ => rfl))) pe_int (fun _ _ => rfl))) (pe_lst pa_nil) (nomark _)) (pw_and1 (pt_cmpR op_notN1 ((pe_ix ix_list ((pe_ix ix_list (pv 1) (pv 9) (fun _ _ => rfl))) pe_int (fun _ _ => rfl))) pe_non (nomark _)))))))
            (pss_one (ps_asg (pe_op op_cat (pe_slice sl_list ((pe_ix ix_list ((pe_ix ix_list (pv 1) (pv 8) (fun _ _ => rfl))) pe_int (fun _ _ => rfl))) po_none (po_some (pe_un un_neg pe_int))) (pe_lst (pa_cons ((pe_ix ix_list ((pe_ix ix_list (pv 1) (pv 9) (fun _ _ => rfl))) pe_int (fun _ _ => rfl))) pa_nil))) (pg_sub ((pe_ix ix_list (pv 1) (pv 8) (fun _ _ => rfl))) pe_int set_list)))
            (pss_one (ps_if (pt_cmpR op_eq (pv 10) pe_int (nomark _)) (pss_one (ps_asg (pe_lst (pa_cons pe_non (pa_cons pe_non (pa_cons ((pe_ix ix_list (pv 2) ((pe_got GD hr (by decide) pass0 (pa_cons (pv 0) (pa_cons ((pe_callB call_len_seq (by rfl) B.len PySem.boot_len (pa_cons (pv 2) pa_nil))) pa_nil)))) (fun _ _ => rfl))) pa_nil)))) (pg_sub (pv 1) (pv 8) set_list))) pss_nil)))))))) pss_nil)))
    (pss_cons (ps_for PassesOwn.never rfl (pi_list (pv 1)) ((pg_name (i := 11) scRow.nd rfl (Or.inl rfl)))
      (pss_one (ps_if (pt_cmpR op_notN1 ((pe_ix ix_list (pv 11) pe_int (fun _ _ => rfl))) pe_non (nomark _))
        (pss_cons (ps_set (i := 12) scRow.nd rfl (Or.inl rfl) pe_dnewK)
        (pss_cons (ps_for PassesOwn.never rfl (pi_list (pe_ifExp (pt_cmpR op_notN1 ((pe_ix ix_list (pv 11) pe_int (fun _ _ => rfl))) pe_non (nomark _)) ((pe_ix ix_list (pv 11) pe_int (fun _ _ => rfl))) (pe_lst pa_nil))) ((pg_name (i := 13) scRow.nd rfl (Or.inl rfl)))
          (pss_one (ps_dput hu (pv 12) (pv 13) ((pe_ix ix_list (pe_lst (pa_cons pe_str (pa_cons pe_str (pa_cons pe_str (pa_cons pe_str pa_nil))))) ((pe_got GD hr (by decide) pass0 (pa_cons (pv 0) (pa_cons (pe_int (i := 4)) pa_nil)))) (fun _ _ => rfl))) rfl)))
        (pss_one (ps_asg (pe_ifExp (pt_cmpR op_isNon ((pe_ix ix_list (pv 11) pe_int (fun _ _ => rfl))) pe_non (nomark _)) (pe_cmeth (pe_glob (v := .ref KC) rfl D.gk rfl) rK cK FKo hr6 pass0 (pa_cons ((pe_ix ix_list (pv 11) pe_int (fun _ _ => rfl))) (pa_cons (pe_tup pa_nil) pa_nil)))
            (pe_cmeth (pe_glob (v := .ref RC) rfl D.gr rfl) rR cR FRo hr6 pass0 (pa_cons ((pe_ix ix_list (pv 11) pe_int (fun _ _ => rfl))) (pa_cons (pe_tup pa_nil) (pa_cons (pv 12) pa_nil))))) (pg_sub (pv 11) pe_int set_list))))) pss_nil)))
    (pss_one (ps_ret (pv 1)))))))))), ?_⟩
  have lines : ∀ {n : Nat}, n ≤ 1000 → n ≤ sizeLine := fun h => by rw [sizeLine_eq]; omega
  refine ⟨Nat.zero_le _, fun R hR => ⟨Nat.zero_le _, fun T0 hT0 => ⟨0, rfl, .inl rfl, fun H1 dd s1 hdd pd => fun kx kdx hkx hkdx kne => ⟨kx, "A", kdx, rfl, upd_same, lines (by decide), by decide +kernel, fun H2 bt ka => ⟨rfl, lines (by show 1 ≤ 1000; decide), fun lk hlk => fun wx wdx hwx hwdx wne =>
    ⟨wx, wdx, [], [], rfl, upd_same, .nil, by decide, fun _ H3 bw wa => ⟨rfl, lines (by show 7 ≤ 1000; decide), fun od hod => ⟨_, _, rfl, ?_⟩⟩, fun r i e => by rw [due_nil] at e; cases e⟩⟩⟩⟩⟩⟩
  have hR0 : H R = none := hR
  have sR : Same H (upd H R (.lst [])) := (Same.refl H).new hR
  have s0 : Same H (upd (upd H R (.lst [])) T0 (.tup [])) := sR.new hT0
  have s2 : Same H1 H2 := made_same hkx hkdx bt
  have s2' : Same H2 (upd H2 lk (.lst [.ref kx])) := (Same.refl H2).new hlk
  have s3 : Same (upd H2 lk (.lst [.ref kx])) H3 := made_same hwx hwdx bw
  have s4 : Same H3 (upd H3 od (.lst [.non, .str "A", .ref T0, .bl true, .ref dd, .ref lk, .ref wx])) := (Same.refl H3).new hod
  have t1 := s3.trans s4
  have t2 := s2'.trans t1
  have t3 := s2.trans t2
  have t4 := s1.trans t3
  have t5 := s0.trans t4
  have dr4 := dr_same t5 dr
  have nR := dr_ne dr hR
  have hR4 : upd H3 od (.lst [.non, .str "A", .ref T0, .bl true, .ref dd, .ref lk, .ref wx]) R = some (.lst []) := t4 R _ (((Same.refl _).new hT0) R _ upd_same)
  have hT4 := t4 T0 _ (upd_same (H := upd H R (.lst [])) (a := T0) (o := .tup []))
  obtain ⟨dv, hdv⟩ := pd
  have hdv4 := t3 dd _ hdv
  have hlk4 := t1 lk _ (upd_same (H := H2) (a := lk) (o := .lst [.ref kx]))
  obtain ⟨wd, wt, wk, wr, wdd, wfs, hw, _⟩ := wa
  have hw4 := s4 wx _ hw
  have hod4 : upd H3 od (.lst [.non, .str "A", .ref T0, .bl true, .ref dd, .ref lk, .ref wx]) od = some (.lst [.non, .str "A", .ref T0, .bl true, .ref dd, .ref lk, .ref wx]) := upd_same
  have hod0 : H od = none := (((s0.trans s1).trans s2).trans (s2'.trans s3)).free hod
  have hlk0 : H lk = none := ((s0.trans s1).trans s2).free hlk
  have oR : od ≠ R := fun z => by
    have := s3 R _ (s2' R _ (s2 R _ (s1 R _ (((Same.refl (upd H R (.lst []))).new hT0) R _ upd_same))))
    rw [← z, hod] at this
    cases this
  have nod := dr_ne dr hod0
  have nlk := dr_ne dr hlk0
  generalize upd H3 od (.lst [.non, .str "A", .ref T0, .bl true, .ref dd, .ref lk, .ref wx]) = H4 at t5 dr4 hR4 hT4 hdv4 hlk4 hw4 hod4 ⊢
  obtain ⟨B0, hB0⟩ : ∃ B0 : Hp, B0 = fun b => if b = R then none else rm m g H4 b := ⟨_, rfl⟩
  have bAt : ∀ b, b ≠ R → b ≠ m → b ≠ g → B0 b = H4 b := fun b h1 h2 h3 => by rw [hB0]; exact (if_neg h1).trans (rm_at h2 h3)
  have nB : ∀ b o, B0 b = some o → b ≠ R ∧ b ≠ m ∧ b ≠ g := fun b o e => by
    refine ⟨fun z => ?_, fun z => ?_, fun z => ?_⟩ <;> (rw [hB0] at e; subst z; simp [rm] at e)
  have sB : Same B0 H4 := fun b o e => let ⟨h1, h2, h3⟩ := nB b o e; (bAt b h1 h2 h3).symm.trans e
  have odds : ∀ v ∈ [V.non, .str "A", .ref T0, .bl true, .ref dd, .ref lk, .ref wx], NotDecl K KC RC B0 v := by
    obtain ⟨ks, xs, h1, h2⟩ := dr_two dr4
    have ofB : ∀ {v : V} {t : String}, TyX K B0 v (.type t) → (t = "NoneType" ∨ t = "str" ∨ t = "tuple" ∨ t = "bool" ∨ t = "list") → NotDecl K KC RC B0 v := fun ty ht => ⟨_, ty, (O.ty _ ht).1, (O.ty _ ht).2⟩
    have no : ∀ {a : Addr} {o : HO}, H4 a = some o → (∀ ks, o ≠ .dK ks) → (∀ xs, o ≠ .lst xs) → B0 a = some o := fun {a o} e n1 n2 => by
      rw [bAt a (fun z => n2 _ (Option.some.inj (e.symm.trans (by rw [z]; exact hR4)))) (fun z => n1 _ (Option.some.inj (e.symm.trans (by rw [z]; exact h1)))) (fun z => n2 _ (Option.some.inj (e.symm.trans (by rw [z]; exact h2))))]
      exact e
    intro v hv
    simp only [List.mem_cons, List.not_mem_nil, or_false] at hv
    rcases hv with rfl | rfl | rfl | rfl | rfl | rfl | rfl
    · exact ofB (.base .non) (by simp)
    · exact ofB (.base (.str _)) (by simp)
    · exact ofB (.base (.tup (no hT4 (fun _ z => by cases z) (fun _ z => by cases z)))) (by simp)
    · exact ofB (.base (.bl _)) (by simp)
    · exact ofB (.base (.tup (no hdv4 (fun _ z => by cases z) (fun _ z => by cases z)))) (by simp)
    · exact ofB (.base (.lst (by rw [bAt lk (fun z => by rw [z, hR4] at hlk4; simp at hlk4) nlk.1 nlk.2]; exact hlk4))) (by simp)
    · exact ⟨_, O.wi.ty (no hw4 (fun _ z => by cases z) (fun _ z => by cases z)), O.wk.1, O.wk.2⟩
  have olen : ([V.non, .str "A", .ref T0, .bl true, .ref dd, .ref lk, .ref wx] : List V).length = 7 := rfl
  have non0 : NotDecl K KC RC B0 .non := ⟨_, .base .non, (O.ty _ (.inl rfl)).1, (O.ty _ (.inl rfl)).2⟩
  have hodB : B0 od = some (.lst [.non, .str "A", .ref T0, .bl true, .ref dd, .ref lk, .ref wx]) := (bAt od oR nod.1 nod.2).trans hod4
  generalize ([V.non, .str "A", .ref T0, .bl true, .ref dd, .ref lk, .ref wx] : List V) = ods at hodB odds olen hod4
  clear hT4 hdv4 hlk4 hw4 hw s4 t1 t2 t3 t4 hod s3 hwx hwdx bw hlk s2' hkx hkdx bt s2 hdd s1 hT0 s0 sR hdv hB0 bAt hod4
  have kp4 : Kp m g H H4 := kp_same t5
  have keep : ∀ {G G' : Hp}, Same B0 G → Kp m g G G' → Same B0 G' := fun s k b o e => k b o (nB b o e).2.1 (nB b o e).2.2 (s b o e)
  -- tall
  refine ⟨_, rfl, m, c, g, b, _, rfl, dr4, by omega, by omega, by omega, fun H5 v1 d5 k5 l1 u1 => ?_⟩
  refine ⟨_, rfl, m, c, g, _, _, rfl, d5, by omega, by omega, by omega, fun H6 v2 d6 k6 l2 u2 => ?_⟩
  refine ⟨_, rfl, m, c, g, _, _, rfl, d6, by omega, by omega, by omega, fun H7 v3 d7 k7 l3 u3 => ⟨_, _, rfl, rfl, ?_⟩⟩
  refine ⟨_, rfl, m, c, g, _, _, rfl, d7, by omega, by omega, by omega, fun H8 v4 d8 k8 l4 u4 => ⟨lines (by show 4 ≤ 1000; decide), fun p hp => ?_⟩⟩
  have np := dr_ne d8 hp
  refine ⟨_, rfl, m, c, g, _, _, rfl, d8.new hp, by omega, by omega, by omega, fun H9 vi d9 k9 l5 u5 => ?_⟩
  obtain ⟨tall, hat, tl, tu⟩ := at4 (lo := 0) (hi := 14) l5 u5 (a := v1) (b := v2) (c := 12 + v3) (d := v4) (by omega) (by omega) (by omega) (by omega)
  refine ⟨p, _, _, _, rfl, rfl, .inl (.inl (k9 p _ np.1 np.2 upd_same)), hat, ?_⟩
  have kq : Kp m g H4 H9 := ((((k5.trans k6).trans k7).trans k8).new hp).trans k9
  have hR9 := kq R _ nR.1 nR.2 hR4
  have sB9 := keep sB kq
  have kp9 := kp4.trans kq
  have dq9 : Dr H9 m c g (b + 5) := d9
  clear hat hp np hR4 sB kp4 dr4 kq k5 k6 k7 k8 k9 d5 d6 d7 d8 d9 l1 u1 l2 u2 l3 u3 l4 u4 l5 u5
  -- wide
  refine ⟨_, rfl, m, c, g, _, _, rfl, dq9, by omega, by omega, by omega, fun H10 w1 d5 k5 l1 u1 => ?_⟩
  refine ⟨_, rfl, m, c, g, _, _, rfl, d5, by omega, by omega, by omega, fun H11 w2 d6 k6 l2 u2 => ?_⟩
  refine ⟨_, rfl, m, c, g, _, _, rfl, d6, by omega, by omega, by omega, fun H12 w3 d7 k7 l3 u3 => ⟨_, _, rfl, rfl, ?_⟩⟩
  refine ⟨_, rfl, m, c, g, _, _, rfl, d7, by omega, by omega, by omega, fun H13 w4 d8 k8 l4 u4 => ⟨lines (by show 4 ≤ 1000; decide), fun p2 hp => ?_⟩⟩
  have np := dr_ne d8 hp
  refine ⟨_, rfl, m, c, g, _, _, rfl, d8.new hp, by omega, by omega, by omega, fun H14 wi d9 k9 l5 u5 => ?_⟩
  obtain ⟨wide, hat, wl, wu⟩ := at4 (lo := 0) (hi := 9) l5 u5 (a := w1) (b := w2) (c := 8 + w3) (d := w4) (by omega) (by omega) (by omega) (by omega)
  refine ⟨p2, _, _, _, rfl, rfl, .inl (.inl (k9 p2 _ np.1 np.2 upd_same)), hat, ?_⟩
  have kq : Kp m g H9 H14 := ((((k5.trans k6).trans k7).trans k8).new hp).trans k9
  have hR := kq R _ nR.1 nR.2 hR9
  have sB := keep sB9 kq
  have kp := kp9.trans kq
  have dq : Dr H14 m c g (b + 10) := d9
  clear hat hp np hR9 sB9 kp9 dq9 kq k5 k6 k7 k8 k9 d5 d6 d7 d8 d9 l1 u1 l2 u2 l3 u3 l4 u4 l5 u5
  -- the kinds
  have nRc : R ≠ c := fun z => by
    obtain ⟨_, _, _, _, _, _, hc, _⟩ := dr
    rw [← z, hR0] at hc
    cases hc
  have bR : B0 R = none := Option.eq_none_iff_forall_ne_some.mpr fun o e => (nB R o e).1 rfl
  have b14 : Bld K KC RC m g R H B0 H14 [] := ⟨hR, List.nodup_nil, (fun _ z => nomatch z), (fun _ z => nomatch z)⟩
  have frees : ∀ {G : Hp} {e : Addr}, Kp m g H G → Dr G m c g 0 ∨ True → e ≠ m → e ≠ g → G e = none → H e = none := fun {G e} k _ n1 n2 he => by
    cases q : H e with
    | none => rfl
    | some o =>
      rw [k e o n1 n2 q] at he
      cases he
  obtain ⟨tn, rfl⟩ : ∃ tn : Nat, tall = (tn : Int) := ⟨tall.toNat, by omega⟩
  obtain ⟨wn, rfl⟩ : ∃ wn : Nat, wide = (wn : Int) := ⟨wide.toNat, by omega⟩
  refine ⟨_, rfl, _, rfl, by omega, by omega, ?_⟩
  rw [show ((tn : Int)).toNat = tn from Int.toNat_natCast _]
  refine for_range (lo := 0) (n := tn) (fun i σ' G => ∃ (v5 : Option V) (es : List Addr), σ' = [some (.ref m), some (.ref R), some (.ref od), some (.int (tn : Int)), some (.int (wn : Int)), v5, none, none, none, none, none, none, none, none] ∧ Kp m g H G ∧ Dr G m c g (b + 10) ∧ Same B0 G ∧ Bld K KC RC m g R H B0 G es ∧ es.length = i)
    ⟨_, [], rfl, kp, dq, sB, b14, rfl⟩ ?_ ?_
  · rintro i σ' G hi ⟨v5, es, rfl, kpG, dG, sG, bG, hl⟩
    rw [Int.zero_add]
    have hlog : ((i : Int)).natAbs.log2 < 1920 := by
      have : ((i : Int)).natAbs < 1000000 := by omega
      exact Nat.lt_of_le_of_lt (Nat.log2_le_self _) (by omega)
    have kk := nmK ⟨i, by omega⟩
    have ok := nm_by kk.1
    refine ⟨_, rfl, .inl ⟨rfl, _, .inl (.inl bG.at_)⟩, _, rfl, _, rfl, hlog, _, _, rfl, rfl, ?_, lines (by show 3 ≤ 1000; decide), fun e he => ?_⟩
    · have := ok.ok.1
      rw [PySem.Str.length_append] at this
      exact this
    have ne := dr_ne dG he
    have eR : R ≠ e := ne_of_none bG.at_ he
    refine ⟨R, es.map V.ref, .ref e, rfl, rfl, by rw [upd_ne eR]; exact bG.at_, by rw [List.length_map, sizeLine_eq]; omega, ?_⟩
    refine ⟨_, es ++ [e], rfl, (kpG.new he).old hR0, ?_, ?_, ?_, by rw [List.length_append, hl]; rfl⟩
    · exact (dG.new he).other nR.1 nRc nR.2
    · exact (sG.new he).old bR
    · have z := bG.push (nv := .str (kNm i)) (wv := .non) (v := .non) he (.inr ⟨_, rfl, ok, kk.2⟩) (.inl rfl) non0 ⟨frees kpG (.inr trivial) ne.1 ne.2 he, sG.free he, ne.1, ne.2⟩
      rw [List.map_append] at z
      exact z
  rintro σ' H15 ⟨v5, es0, rfl, kp15, d15, s15, b15, hl0⟩
  -- the roles
  refine ⟨_, rfl, _, rfl, by omega, by omega, ?_⟩
  rw [show ((wn : Int)).toNat = wn from Int.toNat_natCast _]
  refine for_range (lo := 0) (n := wn) (fun i σ' G => ∃ (v5 v6 : Option V) (es : List Addr), σ' = [some (.ref m), some (.ref R), some (.ref od), some (.int (tn : Int)), some (.int (wn : Int)), v5, v6, none, none, none, none, none, none, none] ∧ Kp m g H G ∧ Dr G m c g (b + 10 + i) ∧ Same B0 G ∧ Bld K KC RC m g R H B0 G es ∧ es.length = tn + i)
    ⟨_, _, es0, rfl, kp15, d15, s15, b15, hl0⟩ ?_ ?_
  · rintro i σ' G hi ⟨v5, v6, es, rfl, kpG, dG, sG, bG, hl⟩
    rw [Int.zero_add]
    have hlog : ((i : Int)).natAbs.log2 < 1920 := by
      have : ((i : Int)).natAbs < 1000000 := by omega
      exact Nat.lt_of_le_of_lt (Nat.log2_le_self _) (by omega)
    have kk := nmR ⟨i, by omega⟩
    have ok := nm_by kk.1
    have kt := nmT ⟨i, by omega⟩
    have okt := nm_by kt.1
    refine ⟨lines (by show 1 ≤ 1000; decide), fun a1 h1 => ⟨lines (by show 2 ≤ 1000; decide), fun a2 h2 => ⟨Nat.zero_le _, fun a3 h3 => ⟨_, rfl, _, rfl, hlog, _, _, rfl, rfl, ?_, lines (by show 1 ≤ 1000; decide), fun a4 h4 => ⟨lines (by show 1 ≤ 1000; decide), fun a5 h5 => ⟨lines (by show 5 ≤ 1000; decide), fun p hp => ?_⟩⟩⟩⟩⟩⟩
    · have := okt.ok.1
      rw [PySem.Str.length_append] at this
      exact this
    have f1 : upd G a1 (.lst [V.str "T"]) a1 = some (.lst [V.str "T"]) := upd_same
    have e1 : Same G (upd G a1 (.lst [V.str "T"])) := (Same.refl G).new h1
    generalize upd G a1 (.lst [V.str "T"]) = A1 at f1 e1 h2 h3 h4 h5 hp ⊢
    have f2 : upd A1 a2 (.lst [V.str "T", V.str "U"]) a2 = some (.lst [V.str "T", V.str "U"]) := upd_same
    have e2 : Same A1 (upd A1 a2 (.lst [V.str "T", V.str "U"])) := (Same.refl A1).new h2
    generalize upd A1 a2 (.lst [V.str "T", V.str "U"]) = A2 at f2 e2 h3 h4 h5 hp ⊢
    have f3 : upd A2 a3 (.lst []) a3 = some (.lst []) := upd_same
    have e3 : Same A2 (upd A2 a3 (.lst [])) := (Same.refl A2).new h3
    generalize upd A2 a3 (.lst []) = A3 at f3 e3 h4 h5 hp ⊢
    have f4 : upd A3 a4 (.lst [V.str (tNm i)]) a4 = some (.lst [V.str (tNm i)]) := upd_same
    have e4 : Same A3 (upd A3 a4 (.lst [V.str (tNm i)])) := (Same.refl A3).new h4
    generalize upd A3 a4 (.lst [V.str (tNm i)]) = A4 at f4 e4 h5 hp ⊢
    have f5 : upd A4 a5 (.lst [V.str "T"]) a5 = some (.lst [V.str "T"]) := upd_same
    have e5 : Same A4 (upd A4 a5 (.lst [V.str "T"])) := (Same.refl A4).new h5
    generalize upd A4 a5 (.lst [V.str "T"]) = A5 at f5 e5 hp ⊢
    have fp : upd A5 p (.lst [.ref a1, .ref a2, .ref a3, .ref a4, .ref a5]) p = some (.lst [.ref a1, .ref a2, .ref a3, .ref a4, .ref a5]) := upd_same
    have ep : Same A5 (upd A5 p (.lst [.ref a1, .ref a2, .ref a3, .ref a4, .ref a5])) := (Same.refl A5).new hp
    generalize upd A5 p (.lst [.ref a1, .ref a2, .ref a3, .ref a4, .ref a5]) = A6 at fp ep ⊢
    have g5 := e5.trans ep
    have g4 := e4.trans g5
    have g3 := e3.trans g4
    have g2 := e2.trans g3
    have g1 := e1.trans g2
    have np := dr_ne dG ((((e1.trans e2).trans e3).trans e4).trans e5 |>.free hp)
    refine ⟨_, rfl, m, c, g, _, _, rfl, dr_same g1 dG, by omega, by omega, by omega, fun G7 v d7 k7 lo hi5 => ?_⟩
    have wd : ∃ (a : Addr) (l : List Str), atI [V.ref a1, .ref a2, .ref a3, .ref a4, .ref a5] v = some (.ref a) ∧ G a = none ∧ A6 a = some (.lst (l.map V.str)) ∧ WdOk l := by
      have t1 : WdOk ["T"] := .inr (.inl ⟨_, rfl, nm_by nmT0⟩)
      have e : v = 0 ∨ v = 1 ∨ v = 2 ∨ v = 3 ∨ v = 4 := by omega
      rcases e with rfl | rfl | rfl | rfl | rfl
      · exact ⟨a1, ["T"], rfl, h1, g2 _ _ f1, t1⟩
      · exact ⟨a2, ["T", "U"], rfl, e1.free h2, g3 _ _ f2, .inr (.inr ⟨_, rfl, nm_by nmU0.1, nmU0.2⟩)⟩
      · exact ⟨a3, [], rfl, (e1.trans e2).free h3, g4 _ _ f3, .inl rfl⟩
      · exact ⟨a4, [tNm i], rfl, ((e1.trans e2).trans e3).free h4, g5 _ _ f4, .inr (.inl ⟨_, rfl, okt⟩)⟩
      · exact ⟨a5, ["T"], rfl, (((e1.trans e2).trans e3).trans e4).free h5, ep _ _ f5, t1⟩
    obtain ⟨wa, wl, hat, hwa, hwl, okw⟩ := wd
    have nw := dr_ne dG hwa
    have kq : Kp m g G G7 := (kp_same g1).trans k7
    have b7 := bG.keep nR kq
    have kp7 := kpG.trans kq
    have s7 := keep sG kq
    have w7 : WdV m g R G7 (.ref wa) := .inr ⟨wa, wl, rfl, nw.1, nw.2, (ne_of_none bG.at_ hwa).symm, k7 wa _ nw.1 nw.2 hwl, okw⟩
    refine ⟨p, _, _, _, rfl, rfl, .inl (.inl (k7 p _ np.1 np.2 fp)), hat, ?_⟩
    refine ⟨_, rfl, .inl ⟨rfl, _, .inl (.inl b7.at_)⟩, _, rfl, _, rfl, hlog, _, _, rfl, rfl, ?_, _, rfl, lines (by show 3 ≤ 1000; decide), fun e he => ?_⟩
    · have := ok.ok.1
      rw [PySem.Str.length_append] at this
      exact this
    have ne := dr_ne d7 he
    have eR : R ≠ e := ne_of_none b7.at_ he
    refine ⟨R, es.map V.ref, .ref e, rfl, rfl, by rw [upd_ne eR]; exact b7.at_, by rw [List.length_map, sizeLine_eq]; omega, ?_⟩
    refine ⟨_, _, es ++ [e], rfl, (kp7.new he).old hR0, ?_, ?_, ?_, by rw [List.length_append, hl]; show _ + 1 = _; omega⟩
    · have := (d7.new (o := .lst [.str (rNm i), .ref wa, .non]) he).other (o := .lst (es.map V.ref ++ [.ref e])) nR.1 nRc nR.2
      exact this
    · exact (s7.new he).old bR
    · have z := b7.push (nv := .str (rNm i)) (wv := .ref wa) (v := .non) he (.inr ⟨_, rfl, ok, kk.2⟩) w7 non0 ⟨frees kp7 (.inr trivial) ne.1 ne.2 he, s7.free he, ne.1, ne.2⟩
      rw [List.map_append] at z
      exact z
  rintro σ' H16 ⟨v5, v6, es1, rfl, kp16, d16, s16, b16, hl1⟩
  -- mixed up
  have nRs := nR
  refine ⟨_, rfl, _, rfl, m, c, g, R, _, _, rfl, d16, by rw [List.length_map]; omega, b16.at_, by rw [List.length_map]; omega, nR.1, nR.2, fun H17 R2 ys d17 k17 hn17 hys pm => ?_⟩
  obtain ⟨es2, rfl, pm2⟩ := perm_map pm es1 rfl
  have b17 := b16.move k17 hn17 hys pm2
  have hl2 : es2.length = tn + wn := by rw [pm2.length_eq, hl1]
  have nR2 := dr_ne d16 hn17
  have hR20 : H R2 = none := frees kp16 (.inr trivial) nR2.1 nR2.2 hn17
  have bR2 : B0 R2 = none := s16.free hn17
  have nR2c : R2 ≠ c := fun z => by
    obtain ⟨_, _, _, _, _, _, hc, _⟩ := d16
    rw [← z, hn17] at hc
    cases hc
  have kp17 := kp16.trans k17
  have s17 := keep s16 k17
  rw [List.length_map, hl1] at d17
  clear b16 hys pm pm2 hl1 k17 kp16 s16 d16 hn17
  -- once more
  refine ⟨_, rfl, m, c, g, _, _, rfl, d17, by omega, by omega, by omega, fun H18 ag d18 k18 ag0 ag1 => ?_⟩
  have b18 := b17.keep nR2 k18
  have kp18 := kp17.trans k18
  have s18 := keep s17 k18
  clear b17 kp17 s17 k18
  obtain ⟨an, rfl⟩ : ∃ an : Nat, ag = (an : Int) := ⟨ag.toNat, by omega⟩
  refine ⟨_, rfl, by omega, by omega, ?_⟩
  rw [show ((an : Int)).toNat = an from Int.toNat_natCast _]
  refine for_range (lo := 0) (n := an) (fun i σ' G => ∃ (v7 v8 v9 v10 : Option V) (es : List Addr), σ' = [some (.ref m), some (.ref R2), some (.ref od), some (.int (tn : Int)), some (.int (wn : Int)), v5, v6, v7, v8, v9, v10, none, none, none] ∧ Kp m g H G ∧ Dr G m c g (b + 50 + wn + tn + 5 * i) ∧ Same B0 G ∧ Bld K KC RC m g R2 H B0 G es ∧ es.length = tn + wn)
    ⟨_, _, _, _, es2, rfl, kp18, d18.mono (by omega), s18, b18, hl2⟩ ?_ ?_
  · rintro i σ' G hi ⟨v7, v8, v9, v10, es, rfl, kpG, dG, sG, bG, hl⟩
    refine ⟨_, rfl, Nat.zero_le _, fun l hln => ⟨R2, l, _, rfl, rfl, by rw [upd_ne (ne_of_none bG.at_ hln)]; exact bG.at_, upd_same, _, rfl, ?_⟩⟩
    have nl := dr_ne dG hln
    have kl : Kp m g G (upd G l (.lst [])) := Kp.refl.new hln
    have dl := dG.new (o := .lst []) hln
    have bl := bG.keep nR2 kl
    have sl := keep sG kl
    have kpl := kpG.trans kl
    generalize upd G l (.lst []) = G0 at kl dl bl sl kpl ⊢
    by_cases hes : es = []
    · subst hes
      exact iteF ⟨_, _, _, _, [], rfl, kpl, dl.mono (by omega), sl, bl, hl⟩
    have hne : (es.map V.ref).isEmpty = false := by
      cases es with
      | nil => exact absurd rfl hes
      | cons _ _ => rfl
    have hpos : 0 < es.length := List.length_pos_iff.mpr hes
    show if (if true = true then !(es.map V.ref).isEmpty else (es.map V.ref).isEmpty) = true then _ else _
    rw [hne]
    refine iteT ?_
    refine ⟨_, rfl, _, rfl, R2, _, rfl, .inl (.inl (.inl bl.at_)), m, c, g, _, _, rfl, dl, by omega, by rw [List.length_map]; omega, by rw [List.length_map]; omega, fun G1 sp d1 k1 sp0 sp1 => ?_⟩
    have b1 := bl.keep nR2 k1
    refine ⟨_, rfl, _, rfl, R2, _, rfl, .inl (.inl (.inl b1.at_)), m, c, g, _, _, rfl, d1, by omega, by rw [List.length_map]; omega, by rw [List.length_map]; omega, fun G2 ot d2 k2 ot0 ot1 => ⟨_, _, rfl, ?_⟩⟩
    refine ⟨_, rfl, m, c, g, _, _, rfl, d2, by omega, by omega, by omega, fun G3 wy d3 k3 wy0 wy1 => ?_⟩
    rw [List.length_map] at sp1 ot1
    have kk := (k1.trans k2).trans k3
    have b3 := bl.keep nR2 kk
    have s3 := keep sl kk
    have kp3 := kpl.trans kk
    obtain ⟨eo, hoe, hog, hoa, hoi⟩ := at_ref ot0 ot1
    obtain ⟨ee, hee, heg, hea, hei⟩ := at_ref sp0 sp1
    obtain ⟨no, wo, vo, qo1, qo2, qo3, qo4⟩ := b3.ent eo hoe
    obtain ⟨ne, we, ve, qe1, qe2, qe3, qe4⟩ := b3.ent ee hee
    refine ⟨_, rfl, rfl, _, rfl, ?_⟩
    have hc : ∀ x, H x = none → x ≠ c := fun x hx z => by
      obtain ⟨_, _, _, _, _, _, hcc, _⟩ := dr
      rw [z, hcc] at hx
      cases hx
    obtain ⟨en1, en2, en3, en4, en5⟩ := b3.new ee hee
    by_cases hw0 : wy = 0
    · rw [decide_eq_true (show V.int wy = V.int 0 from by rw [hw0])]
      refine iteT ⟨_, rfl, _, rfl, R2, _, _, _, rfl, rfl, .inl (.inl b3.at_), hoa, eo, _, _, _, rfl, rfl, .inl (.inl qo1), rfl, _, rfl, _, rfl, R2, _, _, _, rfl, rfl, .inl (.inl b3.at_), hea, ee, _, _, _, rfl, rfl, qe1, rfl, ?_⟩
      exact ⟨_, _, _, _, es, rfl, kp3.old en1, (d3.other en4 (hc _ en1) en5).mono (by omega), s3.old en2, b3.set hee qo2 qe3 qe4, hl⟩
    rw [decide_eq_false (show ¬ V.int wy = V.int 0 from fun z => hw0 (V.int.inj z))]
    refine iteF ⟨_, rfl, rfl, _, rfl, ?_⟩
    by_cases hw1 : wy = 1
    · rw [decide_eq_true (show V.int wy = V.int 1 from by rw [hw1])]
      have last : ∀ {G5 : Hp}, Same G3 G5 → ∃ (v7 v8 v9 v10 : Option V) (es : List Addr), [some (V.ref m), some (V.ref R2), some (V.ref od), some (V.int (tn : Int)), some (V.int (wn : Int)), v5, v6, some (V.int (0 + (i : Int))), some (V.int sp), some (V.int ot), some (V.int wy), none, none, none] = [some (V.ref m), some (V.ref R2), some (V.ref od), some (V.int (tn : Int)), some (V.int (wn : Int)), v5, v6, v7, v8, v9, v10, none, none, none] ∧ Kp m g H G5 ∧ Dr G5 m c g (b + 50 + wn + tn + 5 * (i + 1)) ∧ Same B0 G5 ∧ Bld K KC RC m g R2 H B0 G5 es ∧ es.length = tn + wn :=
        fun {G5} sm => ⟨_, _, _, _, es, rfl, kp3.trans (kp_same sm), (dr_same sm d3).mono (by omega), s3.trans sm, b3.keep nR2 (kp_same sm), hl⟩
      have w2 : ¬ V.int wy = V.int 2 := fun z => by
        have := V.int.inj z
        omega
      refine iteT ⟨_, rfl, _, rfl, R2, _, _, _, rfl, rfl, .inl (.inl b3.at_), hea, ee, _, _, _, rfl, rfl, .inl (.inl qe1), rfl, rfl, _, rfl, ?_⟩
      rcases qe3 with rfl | ⟨a, l0, rfl, am, ag, aR, al, aw⟩
      · refine iteF (iteF ⟨_, rfl, rfl, _, rfl, ?_⟩)
        rw [decide_eq_false w2]
        exact iteF (last (Same.refl _))
      refine iteT ⟨_, rfl, _, rfl, R2, _, _, _, rfl, rfl, .inl (.inl b3.at_), hea, ee, _, _, _, rfl, rfl, .inl (.inl qe1), rfl, Nat.zero_le _, fun l2 hl2 => ⟨a, l2, _, rfl, rfl, by rw [upd_ne (ne_of_none al hl2)]; exact al, upd_same, _, rfl, ?_⟩⟩
      have sm : Same G3 (upd G3 l2 (.lst [])) := (Same.refl G3).new hl2
      generalize upd G3 l2 (.lst []) = G4 at sm ⊢
      show if (if true = true then !(l0.map V.str).isEmpty else (l0.map V.str).isEmpty) = true then _ else _
      by_cases hl0 : l0 = []
      · subst hl0
        refine iteF (iteF ⟨_, rfl, rfl, _, rfl, ?_⟩)
        rw [decide_eq_false w2]
        exact iteF (last sm)
      have hne0 : (l0.map V.str).isEmpty = false := by
        cases l0 with
        | nil => exact absurd rfl hl0
        | cons _ _ => rfl
      rw [hne0]
      refine iteT ⟨_, rfl, _, rfl, R2, _, _, _, rfl, rfl, .inl (.inl (sm R2 _ b3.at_)), hoa, eo, _, _, _, rfl, rfl, .inl (.inl (sm eo _ qo1)), rfl, rfl, _, rfl, ?_⟩
      rcases qo2 with rfl | ⟨z, rfl, zok, zT⟩
      · refine iteF ⟨_, rfl, rfl, _, rfl, ?_⟩
        rw [decide_eq_false w2]
        exact iteF (last sm)
      refine iteT ⟨_, rfl, _, rfl, R2, _, _, _, rfl, rfl, .inl (.inl (sm R2 _ b3.at_)), hea, ee, _, _, _, rfl, rfl, .inl (.inl (sm ee _ qe1)), rfl, _, rfl, _, rfl, a, _, rfl, .inl (.inl (sm a _ al)), fun p hp => ?_⟩
      rw [cut_last]
      have fp : upd G4 p (.lst (l0.map V.str).dropLast) p = some (.lst (l0.map V.str).dropLast) := upd_same
      have sp' : Same G4 (upd G4 p (.lst (l0.map V.str).dropLast)) := (Same.refl G4).new hp
      generalize upd G4 p (.lst (l0.map V.str).dropLast) = G5 at fp sp' ⊢
      have s5 := sm.trans sp'
      refine ⟨_, rfl, _, rfl, R2, _, _, _, rfl, rfl, .inl (.inl (s5 R2 _ b3.at_)), hoa, eo, _, _, _, rfl, rfl, .inl (.inl (s5 eo _ qo1)), rfl, lines (by show 1 ≤ 1000; decide), fun q hq => ⟨p, q, _, _, rfl, rfl, by rw [upd_ne (ne_of_none fp hq)]; exact fp, upd_same, ?_, fun n hn => ?_⟩⟩
      · have two := aw.kw.two
        rw [List.length_dropLast, List.length_map, sizeLine_eq]
        show _ + 1 ≤ _
        omega
      have s6 : Same G3 (upd (upd G5 q (.lst [.str z])) n (.lst ((l0.map V.str).dropLast ++ [.str z]))) := (s5.new hq).new hn
      have fn : upd (upd G5 q (.lst [.str z])) n (.lst ((l0.map V.str).dropLast ++ [.str z])) n = some (.lst ((l0.map V.str).dropLast ++ [.str z])) := upd_same
      have n0 : G3 n = none := (s5.new (o := .lst [.str z]) hq).free hn
      generalize upd (upd G5 q (.lst [.str z])) n (.lst ((l0.map V.str).dropLast ++ [.str z])) = G6 at s6 fn ⊢
      have nn := dr_ne d3 n0
      have b6 := b3.keep nR2 (kp_same s6)
      refine ⟨_, rfl, _, rfl, R2, _, _, _, rfl, rfl, .inl (.inl b6.at_), hea, ee, _, _, _, rfl, rfl, s6 ee _ qe1, rfl, ?_⟩
      have wv6 : WdV m g R2 G6 (.ref n) := .inr ⟨n, l0.dropLast ++ [z], rfl, nn.1, nn.2, (ne_of_none b3.at_ n0).symm, by rw [fn, List.map_append, List.map_dropLast]; rfl, aw.last hl0 zok zT.1⟩
      exact ⟨_, _, _, _, es, rfl, (kp3.trans (kp_same s6)).old en1, ((dr_same s6 d3).other en4 (hc _ en1) en5).mono (by omega), (s3.trans s6).old en2, b6.set hee qe2 wv6 qe4, hl⟩
    rw [decide_eq_false (show ¬ V.int wy = V.int 1 from fun z => hw1 (V.int.inj z))]
    refine iteF (iteF ⟨_, rfl, rfl, _, rfl, ?_⟩)
    by_cases hw2 : wy = 2
    · rw [decide_eq_true (show V.int wy = V.int 2 from by rw [hw2])]
      have hod3 := s3 od _ hodB
      refine iteT ⟨_, rfl, _, rfl, _, rfl, od, _, rfl, .inl (.inl (.inl hod3)), m, c, g, _, _, rfl, d3, by omega, by rw [olen]; decide, by rw [olen]; decide, fun G4 ov d4 k4 ov0 ov1 => ?_⟩
      obtain ⟨v, hv, hva⟩ := at_any ov0 ov1
      have hod4 := k4 od _ nod.1 nod.2 hod3
      refine ⟨od, _, _, _, rfl, rfl, .inl (.inl hod4), hva, lines (by show 3 ≤ 1000; decide), fun e2 he2 => ?_⟩
      have b4 := b3.keep nR2 k4
      have s4 := keep s3 k4
      have kp4 := kp3.trans k4
      have n2 := dr_ne d4 he2
      have e2R : R2 ≠ e2 := ne_of_none b4.at_ he2
      refine ⟨_, rfl, _, rfl, R2, _, _, _, rfl, rfl, by rw [upd_ne e2R]; exact b4.at_, hei, ?_⟩
      exact ⟨_, _, _, _, es.set sp.toNat e2, rfl, (kp4.new he2).old hR20, ((d4.new he2).other nR2.1 nR2c nR2.2).mono (by omega), (s4.new he2).old bR2, b4.swap he2 (.inl rfl) (.inl rfl) (odds v hv) ⟨frees kp4 (.inr trivial) n2.1 n2.2 he2, s4.free he2, n2.1, n2.2⟩, by rw [List.length_set]; exact hl⟩
    · rw [decide_eq_false (show ¬ V.int wy = V.int 2 from fun z => hw2 (V.int.inj z))]
      exact iteF ⟨_, _, _, _, es, rfl, kp3, d3.mono (by omega), s3, b3, hl⟩
  rintro σ' H19 ⟨v7, v8, v9, v10, es3, rfl, kp19, d19, s19, b19, hl3⟩
  -- the declarations
  refine ⟨_, rfl, R2, rfl, ⟨_, .inl (.inl b19.at_)⟩, ?_⟩
  refine for_it (walk_list (xs := es3.map V.ref)) (fun i σ' G => ∃ (v11 v12 v13 : Option V) (ds : List Dc) (xs : List V), σ' = [some (.ref m), some (.ref R2), some (.ref od), some (.int (tn : Int)), some (.int (wn : Int)), v5, v6, v7, v8, v9, v10, v11, v12, v13] ∧ Kp m g H G ∧ Dr G m c g (b + 100 + wn + tn + 2 * i) ∧ Same B0 G ∧ G R2 = some (.lst (es3.map V.ref)) ∧
      (ds.length = i ∧ ∀ d ∈ ds, NotD d) ∧ xs.length = i ∧ (∀ (j : Nat) (d : Dc), ds[j]? = some d → ∃ e x, es3[j]? = some e ∧ xs[j]? = some x ∧ DoneE K KC RC m g B0 G e d x) ∧ ∀ (j : Nat) (e : Addr), i ≤ j → es3[j]? = some e → BEnt K KC RC m g R2 B0 G e)
    ⟨_, _, _, [], [], rfl, kp19, d19.mono (by omega), s19, b19.at_, ⟨rfl, fun _ z => nomatch z⟩, rfl, (fun j d hd => by simp at hd), fun j e _ he => b19.ent e (List.mem_of_getElem? he)⟩ (fun i σ' G _ q => by obtain ⟨_, _, _, _, _, _, _, _, _, q, _⟩ := q; exact .inl (.inl q)) ?_ ?_
  · rintro i x σ' G0 G hi ⟨v11, v12, v13, ds, xs, rfl, kpG, dG, sG, hat, ⟨hd, hnt⟩, hx, hdone, hrest⟩ ⟨rfl, ex⟩
    have hi' : i < es3.length := by rw [List.length_map] at hi; exact hi
    obtain ⟨e, hei⟩ : ∃ e, es3[i]? = some e := ⟨_, List.getElem?_eq_getElem hi'⟩
    rw [List.getElem?_map, hei] at ex
    obtain rfl : V.ref e = x := Option.some.inj ex
    obtain ⟨nv, wv, v, q1, q2, q3, q4⟩ := hrest i e (Nat.le_refl _) hei
    obtain ⟨en1, en2, en3, en4, en5⟩ := b19.new e (List.mem_of_getElem? hei)
    have next : ∀ {G' : Hp} {d : Dc} {x : V} (v12' v13' : Option V), Kp m g H G' → Dr G' m c g (b + 100 + wn + tn + 2 * (i + 1)) → Same B0 G' → (∀ b o, b ≠ m → b ≠ g → b ≠ e → G b = some o → G' b = some o) → DoneE K KC RC m g B0 G' e d x → NotD d →
        ∃ (v11 v12 v13 : Option V) (ds : List Dc) (xs : List V), [some (V.ref m), some (V.ref R2), some (V.ref od), some (V.int (tn : Int)), some (V.int (wn : Int)), v5, v6, v7, v8, v9, v10, some (V.ref e), v12', v13'] = [some (V.ref m), some (V.ref R2), some (V.ref od), some (V.int (tn : Int)), some (V.int (wn : Int)), v5, v6, v7, v8, v9, v10, v11, v12, v13] ∧ Kp m g H G' ∧ Dr G' m c g (b + 100 + wn + tn + 2 * (i + 1)) ∧ Same B0 G' ∧ G' R2 = some (.lst (es3.map V.ref)) ∧
          (ds.length = i + 1 ∧ ∀ d ∈ ds, NotD d) ∧ xs.length = i + 1 ∧ (∀ (j : Nat) (d : Dc), ds[j]? = some d → ∃ e x, es3[j]? = some e ∧ xs[j]? = some x ∧ DoneE K KC RC m g B0 G' e d x) ∧ ∀ (j : Nat) (e : Addr), i + 1 ≤ j → es3[j]? = some e → BEnt K KC RC m g R2 B0 G' e := fun {G' d x} v12' v13' kp' d' s' k' done' nt' => by
      refine ⟨_, _, _, ds ++ [d], xs ++ [x], rfl, kp', d', s', k' R2 _ nR2.1 nR2.2 (Ne.symm en3) hat, ⟨by rw [List.length_append, hd]; rfl, fun y hy => (List.mem_append.mp hy).elim (hnt y) fun hy => by rw [List.mem_singleton.mp hy]; exact nt'⟩, by rw [List.length_append, hx]; rfl, fun j dj hj => ?_, fun j ej hji hej => ?_⟩
      · by_cases hlt : j < i
        · rw [List.getElem?_append_left (by omega)] at hj
          obtain ⟨e1, x1, a1, a2, a3⟩ := hdone j dj hj
          obtain ⟨_, _, _, m1, m2⟩ := b19.new e1 (List.mem_of_getElem? a1)
          refine ⟨e1, x1, a1, by rw [List.getElem?_append_left (by omega)]; exact a2, a3.keep dG k' ⟨_, _, _, q1⟩ (fun z => ?_) m1 m2⟩
          have := (List.getElem?_inj (show j < es3.length by omega) b19.nd).mp (a1.trans (by rw [z, hei]))
          omega
        · have hj2 : j < (ds ++ [d]).length := (List.getElem?_eq_some_iff.mp hj).1
          rw [List.length_append, hd] at hj2
          have ji : j = i := by
            have : j < i + 1 := hj2
            omega
          subst ji
          rw [List.getElem?_append_right (by omega), hd, Nat.sub_self] at hj
          obtain rfl : d = dj := Option.some.inj hj
          exact ⟨e, x, hei, by rw [List.getElem?_append_right (by omega), hx, Nat.sub_self]; rfl, done'⟩
      · obtain ⟨nv', wv', v', r1, r2, r3, r4⟩ := hrest j ej (by omega) hej
        obtain ⟨_, _, _, m1, m2⟩ := b19.new ej (List.mem_of_getElem? hej)
        have ne : ej ≠ e := fun z => by
          have := (List.getElem?_inj hi' b19.nd).mp (hei.trans (by rw [← z, hej]))
          omega
        refine ⟨nv', wv', v', k' ej _ m1 m2 ne r1, r2, ?_, r4⟩
        rcases r3 with r3 | ⟨a, l, a1, a2, a3, a4, a5, a6⟩
        · exact .inl r3
        · refine .inr ⟨a, l, a1, a2, a3, a4, k' a _ a2 a3 (fun z => ?_) a5, a6⟩
          rw [z, q1] at a5
          exact words_ne a6 (HO.lst.inj (Option.some.inj a5)).symm
    rcases q2 with rfl | ⟨z, rfl, zok, zT⟩
    · refine ⟨_, rfl, e, _, _, _, rfl, rfl, .inl (.inl q1), rfl, rfl, _, rfl, iteF ?_⟩
      exact next (d := .odd v) (x := v) _ _ kpG (dG.mono (by omega)) sG (fun b o _ _ _ q => q) ⟨wv, q1, rfl, q4⟩ trivial
    refine ⟨_, rfl, e, _, _, _, rfl, rfl, .inl (.inl q1), rfl, rfl, _, rfl, iteT fun d0 hd0 => ?_⟩
    have s0 : Same G (upd G d0 (.dK [])) := (Same.refl G).new hd0
    have f0 : upd G d0 (.dK []) d0 = some (.dK (mkD [])) := upd_same
    have n0 := dr_ne dG hd0
    generalize upd G d0 (.dK []) = G1 at s0 f0 ⊢
    rcases q3 with rfl | ⟨a, l, rfl, am, ag, aR, al, aw⟩
    · refine ⟨_, rfl, e, _, _, _, rfl, rfl, .inl (.inl (s0 e _ q1)), rfl, rfl, _, rfl, iteF ⟨Nat.zero_le _, fun L hL => ⟨L, rfl, ⟨[], .inl (.inl upd_same)⟩, ?_⟩⟩⟩
      have s1 : Same G (upd G1 L (.lst [])) := s0.new hL
      have fL : upd G1 L (.lst []) L = some (.lst []) := upd_same
      generalize upd G1 L (.lst []) = G2 at s1 fL ⊢
      refine for_it (walk_list (xs := [])) (fun j σ' H' => σ' = [some (V.ref m), some (V.ref R2), some (V.ref od), some (V.int (tn : Int)), some (V.int (wn : Int)), v5, v6, v7, v8, v9, v10, some (V.ref e), some (V.ref d0), v13] ∧ H' = G2) ⟨rfl, rfl⟩ (fun j σ' H' _ q => by rw [q.2]; exact .inl (.inl fL)) (fun j x σ' H5 H6 hj => absurd hj (Nat.not_lt_zero j)) ?_
      rintro σ' G3 ⟨rfl, rfl⟩
      refine ⟨_, rfl, e, _, _, _, rfl, rfl, .inl (.inl (s1 e _ q1)), rfl, rfl, _, rfl, iteT ⟨rfl, _, rfl, e, _, _, _, rfl, rfl, .inl (.inl (s1 e _ q1)), rfl, Nat.zero_le _, fun t ht => ⟨z, t, rfl, upd_same, zok.ok.1, zok.ok.2.1, fun G4 kx sk hkx ka => ?_⟩⟩⟩
      have s4 : Same G G4 := (s1.new ht).trans sk
      refine ⟨_, rfl, e, _, _, _, rfl, rfl, s4 e _ q1, rfl, ?_⟩
      obtain ⟨kd, km, k1, k2⟩ := ka
      have ne1 : kx ≠ e := fun w => by rw [w, s4 e _ q1] at k1; cases k1
      have ne2 : km ≠ e := fun w => by rw [w, s4 e _ q1] at k2; cases k2
      exact next (d := .kind z) (x := .ref kx) _ _ ((kpG.trans (kp_same s4)).old en1) (((dr_same s4 dG).other en4 (fun w => by obtain ⟨_, _, _, _, _, _, hcc, _⟩ := dr; rw [w, hcc] at en1; cases en1) en5).mono (by omega)) ((sG.trans s4).old en2)
        (fun b o h1 h2 h3 q => by rw [upd_ne h3]; exact s4 b o q) ⟨upd_same, kx, rfl, ⟨kd, km, by rw [upd_ne ne1]; exact k1, by rw [upd_ne ne2]; exact k2⟩, zok.ok⟩ zT
    · refine ⟨_, rfl, e, _, _, _, rfl, rfl, .inl (.inl (s0 e _ q1)), rfl, rfl, _, rfl, iteT ⟨_, rfl, e, _, _, _, rfl, rfl, .inl (.inl (s0 e _ q1)), rfl, a, rfl, ⟨_, .inl (.inl (s0 a _ al))⟩, ?_⟩⟩
      refine for_it (walk_list (xs := l.map V.str)) (fun j σ' H' => ∃ (v13 : Option V) (ms : List (Str × Str)), σ' = [some (V.ref m), some (V.ref R2), some (V.ref od), some (V.int (tn : Int)), some (V.int (wn : Int)), v5, v6, v7, v8, v9, v10, some (V.ref e), some (V.ref d0), v13] ∧ ms.map (·.1) = l.take j ∧ (∀ q ∈ ms, markB q.2 = true) ∧ H' d0 = some (.dK (mkD ms)) ∧ Kp m g G H' ∧ Dr H' m c g (b + 100 + wn + tn + 2 * i + j))
        ⟨_, [], rfl, rfl, (fun q hq => by cases hq), f0, kp_same s0, dr_same s0 dG⟩ (fun j σ' H' _ q => by obtain ⟨_, _, _, _, _, _, q, _⟩ := q; exact .inl (.inl (q a _ am ag al))) ?_ ?_
      · rintro j x σ' H5 H6 hj ⟨v13', ms, rfl, hms, hmk, hd5, k5, d5⟩ ⟨rfl, ew⟩
        have two := aw.kw.two
        have hj' : j < l.length := by rw [List.length_map] at hj; exact hj
        rw [List.getElem?_map, List.getElem?_eq_getElem hj'] at ew
        obtain rfl : V.str l[j] = x := Option.some.inj ew
        refine ⟨lines (by show 4 ≤ 1000; decide), fun p hp => ?_⟩
        have np := dr_ne d5 hp
        have hd6 : upd H6 p (.lst [V.str "none", .str "out", .str "in", .str "both"]) d0 = some (.dK (mkD ms)) := by rw [upd_ne (ne_of_none hd5 hp)]; exact hd5
        refine ⟨_, rfl, m, c, g, _, _, rfl, d5.new hp, by omega, by omega, by omega, fun H7 vi d7 k7 lo hi4 => ?_⟩
        obtain ⟨mk, hat4, hmk4⟩ : ∃ mk : Str, atI [V.str "none", .str "out", .str "in", .str "both"] vi = some (.str mk) ∧ markB mk = true := by
          have ev : vi = 0 ∨ vi = 1 ∨ vi = 2 ∨ vi = 3 := by omega
          rcases ev with rfl | rfl | rfl | rfl
          · exact ⟨_, rfl, by decide +kernel⟩
          · exact ⟨_, rfl, by decide +kernel⟩
          · exact ⟨_, rfl, by decide +kernel⟩
          · exact ⟨_, rfl, by decide +kernel⟩
        have newk : valV (mkD ms) (Sum.inr l[j]) = none := by
          cases q : valV (mkD ms) (Sum.inr l[j]) with
          | none => rfl
          | some v =>
            exfalso
            have hin := valV_in q
            rw [List.map_map] at hin
            obtain ⟨pr, hpr, e1⟩ := List.mem_map.mp hin
            have e2 : pr.1 = l[j] := Sum.inr.inj e1
            have h1 : l[j] ∈ l.take j := by rw [← hms, ← e2]; exact List.mem_map_of_mem hpr
            obtain ⟨jj, hjj⟩ := List.getElem?_of_mem h1
            rw [List.getElem?_take] at hjj
            split at hjj
            · have := (List.getElem?_inj hj' aw.kw.nd).mp ((List.getElem?_eq_getElem hj').trans hjj.symm)
              omega
            · cases hjj
        have lms : ms.length ≤ 2 := by
          have := congrArg List.length hms
          rw [List.length_map, List.length_take] at this
          omega
        refine ⟨p, _, _, _, rfl, rfl, .inl (.inl (k7 p _ np.1 np.2 upd_same)), hat4, _, rfl, _, rfl, d0, _, rfl, DPut.k (k := Sum.inr l[j]) (k7 d0 _ n0.1 n0.2 hd6) (by rw [List.length_map, sizeLine_eq]; omega), ?_⟩
        refine ⟨_, ms ++ [(l[j], mk)], rfl, ?_, ?_, ?_, ?_, ?_⟩
        · rw [List.map_append, hms, List.take_succ, List.getElem?_eq_getElem hj']
          rfl
        · intro q hq
          rcases List.mem_append.mp hq with hq | hq
          · exact hmk q hq
          · rw [List.mem_singleton.mp hq]
            exact hmk4
        · rw [upd_same, putK_new _ newk]
          show some (HO.dK _) = some (HO.dK ((ms ++ [(l[j], mk)]).map _))
          rw [List.map_append]
          rfl
        · exact ((k5.new hp).trans k7).old hd0
        · exact d7.other n0.1 (fun w => by
            obtain ⟨_, _, _, _, _, _, hcc, _⟩ := dG
            rw [← w, hd0] at hcc
            cases hcc) n0.2
      rintro σ' H5 ⟨v13', ms, rfl, hms, hmk, hd5, k5, d5⟩
      rw [List.length_map, List.take_length] at hms
      rw [List.length_map] at d5
      have two := aw.kw.two
      have om : OkMs ms := WdOk.ms (by rw [hms]; exact aw) hmk
      have e5 := k5 e _ en4 en5 q1
      refine ⟨_, rfl, e, _, _, _, rfl, rfl, .inl (.inl e5), rfl, rfl, _, rfl, iteF ⟨rfl, _, rfl, e, _, _, _, rfl, rfl, .inl (.inl e5), rfl, Nat.zero_le _, fun t ht => ⟨_, rfl, z, t, d0, ms, rfl, upd_same, by rw [upd_ne (ne_of_none hd5 ht)]; exact hd5, zok.ok.1, zok.ok.2.1, fun q hq => (om.1 q hq).1, om.2, fun G4 rx sk hrx ra => ?_⟩⟩⟩
      have s4 : Same H5 G4 := ((Same.refl H5).new ht).trans sk
      have k4 : Kp m g G G4 := k5.trans (kp_same s4)
      refine ⟨_, rfl, e, _, _, _, rfl, rfl, s4 e _ e5, rfl, ?_⟩
      obtain ⟨rd, rmm, rt, r1, r2, ts, r3, r4⟩ := ra
      have off : ∀ {x : Addr} {o : HO}, G4 x = some o → (∀ xs, o ≠ .lst xs) → ∀ u, upd G4 e u x = some o := fun {x o} q no u => by
        rw [upd_ne fun w => no _ (Option.some.inj (q.symm.trans (by rw [w]; exact s4 e _ e5)))]
        exact q
      have ae : a ≠ e := fun w => by
        rw [w, q1] at al
        exact words_ne aw (HO.lst.inj (Option.some.inj al)).symm
      refine next (d := .role z ms) (x := .ref rx) _ _ ((kpG.trans k4).old en1) (((dr_same s4 d5).other en4 (fun w => by obtain ⟨_, _, _, _, _, _, hcc, _⟩ := dr; rw [w, hcc] at en1; cases en1) en5).mono (by omega)) ((keep sG k4).old en2)
        (fun b o h1 h2 h3 q => by rw [upd_ne h3]; exact k4 b o h1 h2 q) ⟨a, upd_same, am, ag, ?_, rx, rfl, ⟨rd, rmm, rt, off r1 (fun _ z => by cases z) _, off r2 (fun _ z => by cases z) _, ts, off r3 (fun _ z => by cases z) _, PySem.Paired.mono (fun x q h => off h (fun _ z => by cases z) _) r4⟩, zok.ok, om⟩ zT
      rw [upd_ne ae, hms]
      exact k4 a _ am ag al
  · rintro σ' G ⟨v11, v12, v13, ds, xs, rfl, kpG, dG, sG, hat, ⟨hd, hnt⟩, hx, hdone, _⟩
    rw [List.length_map] at hd hx dG
    refine ⟨_, rfl, k G R2 es3 ds xs kpG (dG.mono (by omega)) ⟨(rm_at nR2.1 nR2.2).trans hat, hd.symm, hx.trans hd.symm, by omega, fun i d hdi => ?_⟩ hnt⟩
    obtain ⟨e, x, h1, h2, h3⟩ := hdone i d hdi
    obtain ⟨_, _, _, ne1, ne2⟩ := b19.new e (List.mem_of_getElem? h1)
    obtain ⟨o1, o2⟩ := h3.out dG sG (fun b o q => (nB b o q).2) ne1 ne2
    exact ⟨e, x, h1, h2, o1, o2⟩
end
end K5

/-! ==== EqS ==== -/
set_option Elab.async false
set_option linter.all false
set_option maxRecDepth 100000
set_option maxHeartbeats 2000000
/-! Anything plain, a list, a tuple, an empty dict compared with a text. -/
namespace EqN
open PySem PySem.Spec PyProof.Rows L2
section
variable {X : Cx}
/-- what x == a text gives -/
def EqSX (H : Hp) (x y : V) (b : Bool) : Prop := (scal x y = true ∧ b = decide (x = y)) ∨ (b = false ∧ ∃ a z, x = .ref a ∧ y = .str z ∧ ((∃ xs, H a = some (.lst xs)) ∨ (∃ xs, H a = some (.tup xs)) ∨ ∃ kvs, H a = some (.dK kvs)))
/-- x == a text -/
def rEqS : R2 := fun x y H Q => ∃ b, EqSX H x y b ∧ Q (.bl b) H
theorem str_declines_dict (b : Str) (u : Tok) (l : Addr) (dd : Option Addr) (es : Array DictEntry) (n : Nat) (sl : Array (Option Value)) :
    Meets (Builtin.«str.__eq__» ⟨[.str b u, .ref l], []⟩) (fun _ R s => s.heap.get? l = some { cls := .type "dict", dict := dd, data := .dict es n, slots := sl } ∧ R (.ok (.ret .notImplemented)) s) :=
  .of_wp fun prog w A R s h => by obtain ⟨hp, g, d, tk, os⟩ := s; obtain ⟨hl, h⟩ := h; wp_walk using AutoSeq1.wpAny_loadPart' hl, wpAny_load hl; exact ⟨_, rfl, h⟩
theorem rc_dict_str {A : Around} {s : Shared} {a : Addr} {dd : Option Addr} {es : Array DictEntry} {n : Nat} {sl : Array (Option Value)} (z : Str) (t : Tok) (ho : s.heap.get? a = some { cls := .type "dict", dict := dd, data := .dict es n, slots := sl }) (hu : A.units < cLine) : SeqAt.RcAt A s (.ref a) (.str z t) false := fun prog w E Q h => by
  have ty : s.TypeIs (.ref a) "dict" := ⟨_, ho, rfl⟩
  refine SeqAt.rc_eq_decline_or (k := false) ty (typeIs_str s z t) (by decide) F.sub_str_dict F.slot_dict_eq F.slot_str_eq_refl (fun Q' hq => ?_) (fun Q' hq => ?_) (fun _ hq => wpAny_of_eq (rfl : isSame (.ref a) (.str z t) = pure false) hq) (.inr hu) h
  · refine wpAny_call_entry F.slot_dict_eq ty F.entry_dict_eq ?_ (F.args_dict_eq_2 _ _)
    show wpAny _ _ (Builtin.Dict.dictSlotArgs "__eq__" ⟨[.ref a, .str z t], []⟩ >>= _) _ _ s
    refine wpAny_bind ?_
    unfold Builtin.Dict.dictSlotArgs
    refine wpAny_bind (wpAny_notOrdered_dict ty ?_)
    show wpAny _ _ (pure (Value.ref a, Value.str z t)) _ _ s
    refine wpAny_pure ?_
    refine wpAny_bind (wpAny_isInstance (T := "str") (typeIs_str s z t) F.sub_str_dict ?_)
    simp only [Bool.not_false, if_true]
    refine wpAny_bind (wpAny_rule (wpAny_bind (wpAny_pure (wpAny_pure ⟨_, rfl, hq⟩))))
  · exact call_meets F.slot_str_eq_refl (typeIs_str s z t) F.entry_str_eq (F.args_str_eq_2 _ _) (str_declines_dict z t a dd es n sl) ⟨ho, hq⟩
theorem op_eqS (hu : X.A.units < cLine) : OpR X (compareOp .Eq) rEqS := by
  rintro pins s σ H x y v u Q I rx ry ⟨b, h, q⟩
  rcases h with ⟨h1, rfl⟩ | ⟨rfl, a, z, rfl, rfl, h⟩
  · exact op_eq pins s σ H x y v u Q I rx ry ⟨h1, q⟩
  · cases rx
    obtain ⟨t, rfl⟩ : ∃ t, u = .str z t := ry
    rcases h with ⟨xs, h⟩ | ⟨xs, h⟩ | ⟨kvs, h⟩
    · obtain ⟨_, us, n, r, e⟩ := I.hok a _ h
      exact SeqAt.RcAt.list_str z t ⟨_, e, rfl, _, rfl⟩ hu X.prog X.w _ _ ⟨.bl false, H, I, rfl, q⟩
    · obtain ⟨_, us, r, e⟩ := I.hok a _ h
      exact SeqAt.RcAt.tuple_str z t e hu X.prog X.w _ _ ⟨.bl false, H, I, rfl, q⟩
    · obtain ⟨_, _, vs, _, ⟨⟨cls, dd, data, sl⟩, es, n, ho, hc, hd, _⟩⟩ := I.hok a _ h
      obtain ⟨hc, _⟩ := hc
      simp only at hc hd
      subst hc hd
      exact rc_dict_str z t ho hu X.prog X.w _ _ ⟨.bl false, H, I, rfl, q⟩
/-- repr(True), repr(False) -/
theorem call_repr_bl : CallR X (.builtin "repr") (fun xs H Q => ∃ b : Bool, xs = [.bl b] ∧ Q (.str (if b then "True" else "False")) H) := by
  intro pins s σ H xs us Q I r h
  obtain ⟨b, rfl, q⟩ := h
  obtain ⟨u, rfl, hu⟩ := vals1 r
  cases (show u = Value.bool b from hu)
  exact PySem.P.repr_of_bool ⟨.str _, H, I.tok _, ⟨_, rfl⟩, q⟩
end
end EqN

/-! ==== EqO ==== -/
set_option Elab.async false
set_option linter.all false
set_option maxRecDepth 100000
set_option maxHeartbeats 2000000
/-! An instance of an own class compared with itself by !=, where the class and its bases say nothing of it. -/
namespace EqO
open PySem PySem.Spec PyProof.Rows PySem.SeqAt L2
/-- what is known of such a class -/
structure NeK (K : PySem.W.Frag) (C : Addr) : Prop where
  mro : PySem.W.mroIn K C (.type "object") = some true
  eq : PySem.W.findIn K (.ref C) "__eq__" = some (some (.builtin "object.__eq__"))
  ne : PySem.W.findIn K (.ref C) "__ne__" = some (some (.builtin "object.__ne__"))
section
variable {prog : Program} {w : World} {A : Around} {E : Value → Shared → Prop} {s : Shared} {K : PySem.W.Frag} {x C : Addr} {ox : Obj} {od : Option Obj}
theorem call_eq_self {Q : Value → Shared → Prop} (X : K.In s.heap) (I : PySem.W.InstAt s.heap x ox C od) (G : NeK K C) (hq : Q (.bool true) s) : wpAny (model prog w) A (call (.builtin "object.__eq__") [.ref x, .ref x]) Q E s :=
  wpAny_call (codeAny_call_builtin F.cmp_object.eq.plain F.cmpEntry_eq (PySem.W.check_slot F.cmpKind_eq F.cmpSplit_eq (I.type.andThen (PySem.W.looks_mroIn X G.mro)) (F.cmpArgs_eq _ _) (objEq_entry_same hq)))
theorem ne_entry {Q : Fin → Shared → Prop} (hu : A.units < cLine) (X : K.In s.heap) (I : PySem.W.InstAt s.heap x ox C od) (G : NeK K C) (hq : Q (.done (.ret (.bool false))) s) : wpAny (model prog w) A (Builtin.«object.__ne__» ⟨[.ref x, .ref x], []⟩) Q E s := by
  unfold Builtin.«object.__ne__»
  repeat (first | with_reducible refine wpAny_cRoomFor hu ?_ | with_reducible refine HN.ifBound_objEq X I G.eq ?_ | with_reducible refine call_eq_self X I G ?_ | wp_step)
  exact hq
theorem try_ne {Q : Option Value → Shared → Prop} (hu : A.units + 1 < cLine) (X : K.In s.heap) (I : PySem.W.InstAt s.heap x ox C od) (G : NeK K C) (hq : Q (some (.bool false)) s) : wpAny (model prog w) A (tryCompare (.ref x) "__ne__" (.ref x)) Q E s := by
  have h : ∀ {R : Value → Shared → Prop}, R (.bool false) s → wpAny (model prog w) A (call (.builtin "object.__ne__") ([.ref x] ++ [.ref x])) R E s := fun {R} r =>
    wpAny_call (codeAny_call_builtin F.cmp_object.ne.plain F.cmpEntry_ne (PySem.W.check_slot F.cmpKind_ne F.cmpSplit_ne (I.type.andThen (PySem.W.looks_mroIn X G.mro)) (F.cmpArgs_ne _ _) (ne_entry (A := A.in1) hu X I G r)))
  unfold tryCompare
  refine wpAny_bind ?_
  simp only [callSpecialIfBound?, bindSpecialIfBound?]
  refine wpAny_holding (wpAny_bind (wpAny_bind (wpAny_bind (I.type.here ((PySem.W.looks_findIn X G.ne).here ?_)))))
  refine wpAny_bind (wpAny_askSetting (wpAny_ite ?_))
  split
  · exact wpAny_bind (wpAny_of_eq (F.cmp_object.ne.bind _) (wpAny_pure (wpAny_bind (h (wpAny_pure (wpAny_pure hq))))))
  · exact wpAny_tryCatch (wpAny_bind (wpAny_of_eq (F.cmp_object.ne.bind _) (wpAny_pure (wpAny_bind (h (wpAny_pure (wpAny_pure hq)))))))
theorem rc_ne_self {Q : Value → Shared → Prop} (hu : A.units + 1 < cLine) (X : K.In s.heap) (I : PySem.W.InstAt s.heap x ox C od) (G : NeK K C) (hq : Q (.bool false) s) : wpAny (model prog w) A (compareOp .NotEq (.ref x) (.ref x)) Q E s := by
  show wpAny (model prog w) A (richCompare .NotEq (.ref x) (.ref x)) Q E s
  simp only [richCompare, cmpInfo_NotEq, oneThing_ref]
  refine wpAny_holding (wpAny_bind (wpAny_cRoomFor (Nat.lt_of_succ_lt hu) ?_))
  refine wpAny_bind (I.type.here (wpAny_bind (I.type.here ?_)))
  rw [if_neg (by simp)]
  refine wpAny_bind (wpAny_pure ?_)
  simp only [Bool.false_eq_true, if_false]
  exact wpAny_bind (m := tryCompare (.ref x) _ (.ref x)) (try_ne hu X I G (wpAny_pure hq))
end
/-- o != o -/
def rNeO (K : PySem.W.Frag) : R2 := fun x y H Q => ∃ a C dx fs, x = .ref a ∧ y = .ref a ∧ H a = some (.ins C dx fs) ∧ NeK K C ∧ Q (.bl false) H
theorem op_neO {X : Cx} (hu : X.A.units + 1 < cLine) : OpR X (compareOp .NotEq) (rNeO X.K) := by
  rintro pins s σ H x y v u Q I rx ry ⟨a, C, dx, fs, rfl, rfl, ha, G, q⟩
  cases rx
  cases ry
  obtain ⟨mA, O, _⟩ := ins_get I.hok ha
  obtain ⟨od, J, _⟩ := O.look
  exact rc_ne_self hu I.kIn J G ⟨.bl false, H, I, rfl, q⟩
end EqO

/-! ==== EqL ==== -/
set_option Elab.async false
set_option linter.all false
set_option maxRecDepth 100000
set_option maxHeartbeats 2000000
/-! Two lists of as many tuples, all of the same flat items, compared by ==. -/
namespace EqO
open PySem PySem.Spec PyProof.Rows PySem.SeqAt L2 EqN
/-- l == m -/
def rEqLT : R2 := fun x y H Q => ∃ (a b : Addr) (as bs : List Addr) (t : List V), x = .ref a ∧ y = .ref b ∧ H a = some (.lst (as.map V.ref)) ∧ H b = some (.lst (bs.map V.ref)) ∧ as.length = bs.length ∧ (∀ p ∈ as, H p = some (.tup t)) ∧ (∀ p ∈ bs, H p = some (.tup t)) ∧ (∀ v ∈ t, flatB v = true) ∧ Q (.bl true) H
section
variable {X : Cx} {pins : List (Addr × Obj)} {σ : L2.St} {H : Hp} {s : Shared} {A : Around}
theorem eqAt_tup (I : Inv X pins σ H s) (hu : A.units < cLine) {p q : Addr} {t : List V} (hp : H p = some (.tup t)) (hq : H q = some (.tup t)) (hf : ∀ v ∈ t, flatB v = true) : EqAt A s (.ref p) (.ref q) true := by
  by_cases e : p = q
  · subst e
    exact EqAt.same _
  obtain ⟨_, us, r, t1⟩ := I.hok p _ hp
  obtain ⟨_, ws, r2, t2⟩ := I.hok q _ hq
  have hl : us.length = ws.length := r.length.symm.trans r2.length
  have h := RcAt.tuples (e := fun _ => true) t1 t2 hu (fun j h1 h2 => by
    obtain ⟨v, hm, e1, k⟩ := vals_at r j h1
    obtain ⟨v2, _, e2, k2⟩ := vals_at r2 j h2
    obtain rfl : v = v2 := Option.some.inj (e1.symm.trans e2)
    exact eqAt_same k k2 (hf v hm))
  have eq : ((List.range (min us.toArray.size ws.toArray.size)).all (fun _ => true) && us.toArray.size == ws.toArray.size) = true := by simp [hl]
  rw [eq] at h
  exact EqAt.of_refs e h
theorem refs_at : ∀ {as : List Addr} {us : List Value}, Vals (as.map V.ref) us → ∀ (j : Nat) (h : j < us.length), ∃ p ∈ as, us[j] = .ref p
  | [], _, .nil, _, h => absurd h (Nat.not_lt_zero _)
  | a :: as, _ :: _, .cons r rs, 0, _ => ⟨a, List.mem_cons_self, r⟩
  | a :: as, _ :: _, .cons r rs, j + 1, h =>
    let ⟨p, hm, e⟩ := refs_at rs j (Nat.lt_of_succ_lt_succ h)
    ⟨p, List.mem_cons_of_mem _ hm, e⟩
theorem op_eqLT (hu : X.A.units + 1 < cLine) : OpR X (compareOp .Eq) rEqLT := by
  rintro pins s σ H x y v u Q I rx ry ⟨a, b, as, bs, t, rfl, rfl, ha, hb, hl, hp, hq, hf, q⟩
  cases rx
  cases ry
  obtain ⟨_, us, n, r, e⟩ := I.hok a _ ha
  obtain ⟨_, ws, m, r2, e2⟩ := I.hok b _ hb
  have L1 : s.heap.IsList a us.toArray := ⟨_, e, rfl, _, rfl⟩
  have L2 : s.heap.IsList b ws.toArray := ⟨_, e2, rfl, _, rfl⟩
  have hsz : us.toArray.size = ws.toArray.size := by
    rw [List.size_toArray, List.size_toArray, ← r.length, ← r2.length, List.length_map, List.length_map, hl]
  refine RcAt.lists (e := fun _ => true) L1 L2 hsz (Nat.lt_of_succ_lt hu) (fun j h1 h2 => ?_) X.prog X.w _ _ ?_
  · obtain ⟨p, hm, e3⟩ := refs_at r j (by simpa using h1)
    obtain ⟨p', hm', e4⟩ := refs_at r2 j (by simpa using h2)
    have k := eqAt_tup (A := X.A.in1) I hu (hp p hm) (hq p' hm') hf
    rw [← e3, ← e4] at k
    simpa using k
  · rw [show ((List.range us.toArray.size).all fun _ => true) = true from List.all_eq_true.mpr fun _ _ => rfl]
    exact ⟨.bl true, H, I, rfl, q⟩
end
end EqO

/-! ==== P5zA ==== -/
set_option Elab.async false
set_option linter.all false
set_option maxRecDepth 100000
set_option maxHeartbeats 4000000
/-! k05: lambdas handed to _law_told. -/
namespace K5
open PySem PySem.Spec PyProof.Rows L2 StX ClX SuX Sh KwX TuI D2X NkX OwX TrX EqN LamX LamD
/-- a def whose code object is known -/
structure FunK (K : PySem.W.Frag) (x qual : Str) (st : Stmt) (f : Addr) (fd : FuncData) (c : Addr) : Prop where
  ex : ∃ (oc : Value) (od : Option Addr) (kV doc pm : Value) (an : Option Addr) (ct : Value) (osl : Array (Option Value)),
    fd = PySem.W.fnOf x qual (defArgs st) (defBody st) (defScope st) .none kV doc pm an (.ref c) ct ∧ K.lookup f = some ⟨oc, od, .func fd, osl⟩ ∧ PySem.W.codeIn K (.ref c) qual = true
  kp : PySem.W.keepIn K (.ref f) = true
/-- the def _law_told -/
structure TellK (P : Program) (w : World) (K : PySem.W.Frag) (mg : Str → Option Value) (base : Heap) (SE IC UC : Addr) : Prop where
  ex : ∃ (g : Addr) (fd : FuncData), mg "_law_told" = some (.ref g) ∧ Fun K "_law_told" "_law_told" sTold g fd ∧ Binds K fd ["_law_call"] []
  bl : Blt mg
  er : ErrK K mg SE IC UC
section
variable {P : Program} {w : World} {K : PySem.W.Frag} {mg : Str → Option Value} {base : Heap}
theorem FunK.okX {x qual : Str} {st : Stmt} {f c : Addr} {fd : FuncData} {N ps : List Str} {k : Nat} {sp : Sp} (F : FunK K x qual st f fd c) (S : FnScope N ps (defScope st)) (len : ∀ vs H Q E, sp vs H Q E → vs.length = ps.length)
    (hbody : ∀ (A : Around) (outer : List Env) (s : Shared) (H : Hp) (vs : List V) (Q : VK) (E : XK), Room k (A.deeper (envOfC qual (defScope st) s.heap.objs.size f (.ref c))) → sp vs H Q E →
      ∃ t, PSs (cxOf CX0 P w K mg base N qual (defScope st) f (.ref c) A outer s H E).nox (defBody st) t ∧ t { nx := fun _ H' => Q .non H', rt := Q } (start N vs) H) : FnOk P w K mg base CX0 (k + 1) f fd ps sp := by
  obtain ⟨oc, od, kV, doc, pm, an, ct, osl, rfl, lk, hcd⟩ := F.ex
  refine fn_of lk hcd S len fun A outer s H vs Q E hr hsp => ?_
  obtain ⟨t, h, q⟩ := hbody A outer s H vs Q E hr hsp
  exact ⟨t, h.nox, q⟩
variable {X : Cx} {SE IC UC : Addr}
theorem visTold : Vis (defScope sTold) "_law_call" := .inl (by rfl)
/-- _law_told(lambda: body) -/
theorem pe_told {T : List (Addr × Str)} {c p : Addr} {k : Nat} {params : Arguments} {body : Expr} {scope : Scope} {t : XK → TE} {px lpos pos : Pos} (hg : Gl X "_law_told") (G : TellK X.prog X.w X.K X.mg X.base SE IC UC)
    (TB : TabB X.base X.mg c p) (hcode : X.env.code = .ref c) (hmT : (p, X.env.qual ++ "<lambda>") ∈ T) (hu : ∀ q ∈ T, q.1 = p → q.2 = X.env.qual ++ "<lambda>") (hr : Room (k + 2) X.A) (L : LamS X.env.scope scope) (hdef : defaultsOf params X.env = ([], []))
    (hbind : ∀ (q : Str) (cl : List (Str × Addr)) (pm cv ctv : Value), bindArgs (PySem.W.kla_fn "<lambda>" q params body scope cl pm cv ctv) ⟨[], []⟩ = pure [])
    (hbody : ∀ (A : Around) (outer : List Env) (s : Shared) (H : Hp) (E : XK) (f c' : Addr), Room k (A.deeper (lamEnv X scope s.heap.objs.size f c')) → PE (lamCx X A outer s H E scope f c') body (t E)) :
    PE X (.Call (.Name "_law_told" px) [.Lambda params body scope lpos] [] pos) (tLam T (TTold5 IC UC) t) := by
  obtain ⟨g, fd, hm, F, hb⟩ := G.ex
  obtain ⟨oc, od, kV, doc, pm, an, cdv, ct, osl, rfl, lk, hcd⟩ := F.ex
  exact pe_lamcall hg hm F.kp lk hcd hb scTold rfl visTold (told5 (X := X) (SE := SE) G.bl G.er) TB hcode hmT hu hr L hdef hbind hbody
/-- _law_told(lambda n = ..: body) -/
theorem pe_toldD {T : List (Addr × Str)} {c p : Addr} {n : Str} {k : Nat} {params : Arguments} {body dx : Expr} {v : V} {scope : Scope} {t : XK → TE} {px lpos pos : Pos} (hg : Gl X "_law_told") (G : TellK X.prog X.w X.K X.mg X.base SE IC UC)
    (TB : TabB X.base X.mg c p) (hcode : X.env.code = .ref c) (hmT : (p, X.env.qual ++ "<lambda>") ∈ T) (hu : ∀ q ∈ T, q.1 = p → q.2 = X.env.qual ++ "<lambda>") (hr : Room (k + 2) X.A) (L : LamP X.N X.env.scope scope n) (hdef : defaultsOf params X.env = ([eval dx X.env], [])) (he : PE X dx (tC v))
    (hbind : BindD (X.env.qual ++ "<lambda>") params body scope n)
    (hbody : ∀ (A : Around) (outer : List Env) (s : Shared) (H : Hp) (E : XK) (f c' : Addr), Room k (A.deeper (lamEnv X scope s.heap.objs.size f c')) → PE (lamCx X A outer s H E scope f c') body (t E)) :
    PE X (.Call (.Name "_law_told" px) [.Lambda params body scope lpos] [] pos) (tLam T (TTold5 IC UC) t) := by
  obtain ⟨g, fd, hm, F, hb⟩ := G.ex
  obtain ⟨oc, od, kV, doc, pm, an, cdv, ct, osl, rfl, lk, hcd⟩ := F.ex
  exact pe_lamcallD hg hm F.kp lk hcd hb scTold rfl visTold (told5 (X := X) (SE := SE) G.bl G.er) TB hcode hmT hu hr L hdef he hbind hbody
end
end K5

/-! ==== P5zB ==== -/
set_option Elab.async false
set_option linter.all false
set_option maxRecDepth 100000
set_option maxHeartbeats 4000000
/-! k05: the heap without the tables of code objects. -/
namespace K5
open PySem PySem.Spec PyProof.Rows L2 StX ClX SuX Sh KwX TuI D2X NkX OwX TrX EqN LamX LamD
def noTbl : HO → Bool
  | .tbl _ => false
  | _ => true
def nt (H : Hp) : Hp := fun b => match H b with
  | some o => if noTbl o then some o else none
  | none => none
section
variable {H H' : Hp} {a : Addr} {o : HO}
theorem nt_of (e : H a = some o) (n : noTbl o = true) : nt H a = some o := by
  unfold nt
  rw [e]
  exact if_pos n
theorem nt_some (e : nt H a = some o) : H a = some o ∧ noTbl o = true := by
  unfold nt at e
  split at e
  · rename_i u hu
    split at e
    · rename_i h
      cases e
      exact ⟨hu, h⟩
    · cases e
  · cases e
theorem nt_same : Same (nt H) H := fun b o e => (nt_some e).1
theorem nt_none (e : H a = none) : nt H a = none := by
  unfold nt
  rw [e]
theorem ExtN.nt (k : ExtN H H') : Same (nt H) (nt H') := fun b o e => by
  obtain ⟨h, n⟩ := nt_some e
  exact nt_of (k b o h fun ps z => by subst z; cases n) n
theorem ntS (k : Same H H') : Same (nt H) (nt H') := ExtN.nt (ExtN.of k)
theorem nt_id : Same (nt H) (nt (nt H)) := fun b o e => nt_of e (nt_some e).2
variable {K : PySem.W.Frag} {KC RC C : Addr} {z : Str} {ms : List (Str × Str)} {v x : V} {t : Value} {d : Dc} {e : Addr}
theorem TyX.nt : TyX K H v t → TyX K (nt H) v t
  | .base h => .base (match v, t, h with
    | _, _, .non => .non
    | _, _, .bl x => .bl x
    | _, _, .int i => .int i
    | _, _, .str x => .str x
    | _, _, .flt x => .flt x
    | _, _, .lst e => .lst (nt_of e rfl)
    | _, _, .frz e => .frz (nt_of e rfl)
    | _, _, .tup e => .tup (nt_of e rfl)
    | _, _, .dK e => .dK (nt_of e rfl)
    | _, _, .dT e => .dT (nt_of e rfl)
    | _, _, .ins e a b c d f => .ins (nt_of e rfl) a b c d f)
  | .byt b => .byt b
  | .set e => .set (nt_of e rfl)
  | .kList e c => .kList e c
  | .kTuple e c => .kTuple e c
  | .kDict e c => .kDict e c
  | .fTuple e => .fTuple (nt_of e rfl)
  | .fDict e => .fDict (nt_of e rfl)
theorem KindAt.nt (k : KindAt C H a z) : KindAt C (nt H) a z := by
  obtain ⟨dx, m, h1, h2⟩ := k
  exact ⟨dx, m, nt_of h1 rfl, nt_of h2 rfl⟩
theorem RoleAt.nt (k : RoleAt C H a z ms) : RoleAt C (nt H) a z ms := by
  obtain ⟨dx, m, t, h1, h2, ts, h3, h4⟩ := k
  exact ⟨dx, m, t, nt_of h1 rfl, nt_of h2 rfl, ts, nt_of h3 rfl, PySem.Paired.mono (fun x q e => nt_of e rfl) h4⟩
theorem DcAt.nt : ∀ {d : Dc} {v : V}, DcAt K KC RC H d v → DcAt K KC RC (nt H) d v
  | .kind _, _, ⟨a, e, k, o⟩ => ⟨a, e, k.nt, o⟩
  | .role _ _, _, ⟨a, e, k, o⟩ => ⟨a, e, k.nt, o⟩
  | .odd _, _, ⟨e, t, h1, h2⟩ => ⟨e, t, K5.TyX.nt h1, h2⟩
theorem EntAt.nt (h : EntAt H e d x) : EntAt (nt H) e d x := by
  cases d with
  | kind z => exact nt_of h rfl
  | role z ms => exact let ⟨a, h1, h2⟩ := h; ⟨a, nt_of h1 rfl, nt_of h2 rfl⟩
  | odd u => exact let ⟨wv, h1⟩ := h; ⟨wv, nt_of h1 rfl⟩
theorem RwAt.nt {R : Addr} {es : List Addr} {ds : List Dc} {xs : List V} (h : RwAt K KC RC H R es ds xs) : RwAt K KC RC (nt H) R es ds xs :=
  ⟨nt_of h.at_ rfl, h.le, h.lx, h.small, fun i d hd => let ⟨e, x, h1, h2, h3, h4⟩ := h.ent i d hd; ⟨e, x, h1, h2, h3.nt, h4.nt⟩⟩
theorem WorldAt.nt {WC x : Addr} {ds : List Dc} {xs : List V} (W : WorldAt WC H x ds xs) : WorldAt WC (nt H) x ds xs := by
  obtain ⟨dx, t, kt, rt, dd, fs, h1, h2, h3, h4, h5, h6, h7, h8, h9⟩ := W
  exact ⟨dx, t, kt, rt, dd, fs, nt_of h1 rfl, h2, nt_of h3 rfl, h4, nt_of h5 rfl, h6, nt_of h7 rfl, h8, nt_of h9 rfl⟩
end
/-- a new object, and the tables -/
theorem Tabs.new {T : List (Addr × Str)} {H : Hp} {p : Addr} {o : HO} (t : Tabs T H) (hp : H p = none) : Tabs T (upd H p o) := t.ext fun b u e => by rw [upd_ne (ne_of_none e hp)]; exact e
end K5

/-! ==== P5z ==== -/
set_option Elab.async false
set_option linter.all false
set_option maxRecDepth 100000
set_option maxHeartbeats 4000000
/-! k05: the law's _law_read_right. -/
namespace K5
open PySem PySem.Spec PyProof.Rows L2 StX ClX SuX Sh KwX TuI D2X NkX OwX TrX EqN LamX LamD EqO
abbrev nRead : List Str := ["_law_world_so", "_law_row_here", "_law_one", "_law_told_here", "_law_box", "_law_odd"]
theorem scRead : FnScope nRead ["_law_world_so", "_law_row_here"] (defScope sRead) := ⟨rfl, rfl, rfl, by decide +kernel, rfl, by decide +kernel, by decide +kernel⟩
/-- what the top has left of World's answers -/
structure WOps (P : Program) (w : World) (K : PySem.W.Frag) (mg : Str → Option Value) (base : Heap) (KC RC UC WC : Addr) : Prop where
  decl : ∀ C ∈ [WC], PropG P w K mg base C "declarations" "_declarations"
  kinds : ∀ C ∈ [WC], PropG P w K mg base C "kinds" "_kinds"
  roles : ∀ C ∈ [WC], PropG P w K mg base C "roles" "_roles"
  get : ∃ f, OpDef K WC "__getitem__" f ∧ FnR P w K mg base (L2.CX P w) 4 f (spWGet K UC WC)
  has : ∃ f, OpDef K WC "__contains__" f ∧ FnR P w K mg base CX0 1 f (spWHas K WC)
  nk : NeK K KC
  nr : NeK K RC
/-- a value by which a world is asked in vain -/
def OddV (H : Hp) (v : V) : Prop := (∃ z, v = .str z ∧ z ∈ ([("Object" : Str), "T", "k0", "K99", ""] : List Str)) ∨ v = .non ∨ v = .bl true ∨ v = .int 0 ∨ ∃ a, v = .ref a ∧ ((∃ xs, H a = some (.tup xs)) ∨ (∃ xs, H a = some (.lst xs)) ∨ ∃ kvs, H a = some (.dK kvs))
theorem OddV.same {H H' : Hp} {v : V} (s : Same H H') : OddV H v → OddV H' v
  | .inl h => .inl h
  | .inr (.inl h) => .inr (.inl h)
  | .inr (.inr (.inl h)) => .inr (.inr (.inl h))
  | .inr (.inr (.inr (.inl h))) => .inr (.inr (.inr (.inl h)))
  | .inr (.inr (.inr (.inr ⟨a, e, .inl ⟨xs, h⟩⟩))) => .inr (.inr (.inr (.inr ⟨a, e, .inl ⟨xs, s _ _ h⟩⟩)))
  | .inr (.inr (.inr (.inr ⟨a, e, .inr (.inl ⟨xs, h⟩)⟩))) => .inr (.inr (.inr (.inr ⟨a, e, .inr (.inl ⟨xs, s _ _ h⟩)⟩)))
  | .inr (.inr (.inr (.inr ⟨a, e, .inr (.inr ⟨xs, h⟩)⟩))) => .inr (.inr (.inr (.inr ⟨a, e, .inr (.inr ⟨xs, s _ _ h⟩)⟩)))
theorem OddV.nt {H : Hp} {v : V} : OddV H v → OddV (nt H) v
  | .inl h => .inl h
  | .inr (.inl h) => .inr (.inl h)
  | .inr (.inr (.inl h)) => .inr (.inr (.inl h))
  | .inr (.inr (.inr (.inl h))) => .inr (.inr (.inr (.inl h)))
  | .inr (.inr (.inr (.inr ⟨a, e, .inl ⟨xs, h⟩⟩))) => .inr (.inr (.inr (.inr ⟨a, e, .inl ⟨xs, nt_of h rfl⟩⟩)))
  | .inr (.inr (.inr (.inr ⟨a, e, .inr (.inl ⟨xs, h⟩)⟩))) => .inr (.inr (.inr (.inr ⟨a, e, .inr (.inl ⟨xs, nt_of h rfl⟩)⟩)))
  | .inr (.inr (.inr (.inr ⟨a, e, .inr (.inr ⟨xs, h⟩)⟩))) => .inr (.inr (.inr (.inr ⟨a, e, .inr (.inr ⟨xs, nt_of h rfl⟩)⟩)))
/-- what is told of such a value: its [ ] ends in an error, `in` and == "Object" agree -/
structure OddF5 (K : PySem.W.Frag) (D : List (Key × V)) (H : Hp) (v : V) (b : Bool) : Prop where
  sh : Shown K H v
  ge : (∃ z, v = .str z ∧ valV D (.inr z) = none) ∨ NotStr K H v
  hs : (∃ z, v = .str z ∧ (decide (V.str z = V.str "Object") || (valV D (.inr z)).isSome) = b) ∨ (NotStr K H v ∧ b = false)
  eq : EqSX H v (.str "Object") b
theorem shown_odd : ∀ z ∈ ([("Object" : Str), "T", "k0", "K99", ""] : List Str), z.length ≤ 1000 ∧ (reprText z).length ≤ 1000 := by decide +kernel
theorem OddV.facts {K : PySem.W.Frag} {D : List (Key × V)} {H : Hp} {v : V} (hD : ∀ z ∈ ([("Object" : Str), "T", "k0", "K99", ""] : List Str), valV D (.inr z) = none) (h : OddV H v) : ∃ b, OddF5 K D H v b := by
  rcases h with ⟨z, rfl, hz⟩ | rfl | rfl | rfl | ⟨a, rfl, h⟩
  · obtain ⟨h1, h2⟩ := shown_odd z hz
    refine ⟨_, .str z (by rw [sizeLine_eq]; omega) h2, .inl ⟨z, rfl, hD z hz⟩, .inl ⟨z, rfl, rfl⟩, .inl ⟨rfl, ?_⟩⟩
    rw [hD z hz]
    exact Bool.or_false _
  · exact ⟨false, .non, .inr ⟨_, .base .non, kit_ty (by decide +kernel)⟩, .inr ⟨⟨_, .base .non, kit_ty (by decide +kernel)⟩, rfl⟩, .inl ⟨rfl, rfl⟩⟩
  · exact ⟨false, .bl _, .inr ⟨_, .base (.bl _), kit_ty (by decide +kernel)⟩, .inr ⟨⟨_, .base (.bl _), kit_ty (by decide +kernel)⟩, rfl⟩, .inl ⟨rfl, rfl⟩⟩
  · exact ⟨false, .int _, .inr ⟨_, .base (.int _), kit_ty (by decide +kernel)⟩, .inr ⟨⟨_, .base (.int _), kit_ty (by decide +kernel)⟩, rfl⟩, .inl ⟨rfl, rfl⟩⟩
  · rcases h with ⟨xs, h⟩ | ⟨xs, h⟩ | ⟨kvs, h⟩
    · exact ⟨false, .ref a _ (.base (.tup h)) (kit_ty (by decide +kernel)) (kit_ty (by decide +kernel)), .inr ⟨_, .base (.tup h), kit_ty (by decide +kernel)⟩, .inr ⟨⟨_, .base (.tup h), kit_ty (by decide +kernel)⟩, rfl⟩, .inr ⟨rfl, a, _, rfl, rfl, .inr (.inl ⟨xs, h⟩)⟩⟩
    · exact ⟨false, .ref a _ (.base (.lst h)) (kit_ty (by decide +kernel)) (kit_ty (by decide +kernel)), .inr ⟨_, .base (.lst h), kit_ty (by decide +kernel)⟩, .inr ⟨⟨_, .base (.lst h), kit_ty (by decide +kernel)⟩, rfl⟩, .inr ⟨rfl, a, _, rfl, rfl, .inl ⟨xs, h⟩⟩⟩
    · exact ⟨false, .ref a _ (.base (.dK h)) (kit_ty (by decide +kernel)) (kit_ty (by decide +kernel)), .inr ⟨_, .base (.dK h), kit_ty (by decide +kernel)⟩, .inr ⟨⟨_, .base (.dK h), kit_ty (by decide +kernel)⟩, rfl⟩, .inr ⟨rfl, a, _, rfl, rfl, .inr (.inr ⟨kvs, h⟩)⟩⟩
theorem valV_decl : ∀ {ds : List Dc} {xs : List V} {i : Nat} {d : Dc} {x : V}, (ds.map dcName).Nodup → ds[i]? = some d → xs[i]? = some x → valV (declD ds xs) (.inr (dcName d)) = some x
  | [], _, _, _, _, _, h, _ => by cases h
  | _ :: _, [], _, _, _, _, _, h => by cases h
  | d0 :: ds, x0 :: xs, 0, d, x, _, h1, h2 => by
    obtain rfl : d0 = d := Option.some.inj h1
    obtain rfl : x0 = x := Option.some.inj h2
    exact valV_pos rfl
  | d0 :: ds, x0 :: xs, i + 1, d, x, nd, h1, h2 => by
    obtain ⟨n1, n2⟩ := List.nodup_cons.mp (show (dcName d0 :: ds.map dcName).Nodup from nd)
    have h1 : ds[i]? = some d := h1
    have h2 : xs[i]? = some x := h2
    have ne : ¬ ((Sum.inr (dcName d0) : Key), x0).1 = Sum.inr (dcName d) := fun z => n1 (by rw [show dcName d0 = dcName d from Sum.inr.inj z]; exact List.mem_map_of_mem (List.mem_of_getElem? h1))
    show valV (((Sum.inr (dcName d0) : Key), x0) :: declD ds xs) _ = _
    rw [valV_neg ne]
    exact valV_decl n2 h1 h2
theorem valV_gone {ds : List Dc} {xs : List V} {z : Str} (h : ∀ d ∈ ds, dcName d ≠ z) : valV (declD ds xs) (.inr z) = none := by
  cases q : valV (declD ds xs) (Sum.inr z) with
  | none => rfl
  | some v =>
    exfalso
    have hin := valV_in q
    rw [List.map_map] at hin
    obtain ⟨pr, hpr, e⟩ := List.mem_map.mp hin
    exact h pr.1 (List.of_mem_zip hpr).1 (Sum.inr.inj e)
theorem due_names {ds : List Dc} (h : worldDue ds = none) : (ds.map dcName).Nodup ∧ ∀ d ∈ ds, ∀ u, d ≠ .odd u := by
  have hn : namesDue ds = none := by
    unfold worldDue at h
    cases q : namesDue ds with
    | none => rfl
    | some v => rw [q] at h; cases h
  have nA : namesA 0 [] ds = none := by
    unfold namesDue at hn
    cases q : namesA 0 [] ds with
    | none => rfl
    | some v => rw [q] at hn; cases hn
  exact ⟨(namesA_nodup ds 0 [] nA).1, namesA_odd nA⟩
/-- the third item of an entry -/
theorem EntAt.third {H : Hp} {e : Addr} {d : Dc} {x : V} (h : EntAt H e d x) : ∃ nv wv, H e = some (.lst [nv, wv, x]) := by
  cases d with
  | kind z => exact ⟨_, _, h⟩
  | role z ms => exact let ⟨a, h1, _⟩ := h; ⟨_, _, h1⟩
  | odd u => exact let ⟨wv, h1⟩ := h; ⟨_, _, h1⟩
section
variable {K : PySem.W.Frag} {KC RC R : Addr} {H : Hp} {es : List Addr} {ds : List Dc} {xs : List V}
theorem row_oks (row : RwAt K KC RC H R es ds xs) (no : ∀ d ∈ ds, ∀ u, d ≠ .odd u) : ∀ d ∈ ds, OkZ (dcName d) := fun d hd => by
  obtain ⟨i, hi⟩ := List.getElem?_of_mem hd
  obtain ⟨e, x, _, _, _, h⟩ := row.ent i d hi
  cases d with
  | kind z => exact let ⟨_, _, _, o⟩ := h; o
  | role z ms => exact let ⟨_, _, _, o, _⟩ := h; o
  | odd u => exact absurd rfl (no _ hd u)
theorem row_plain (row : RwAt K KC RC H R es ds xs) (no : ∀ d ∈ ds, ∀ u, d ≠ .odd u) : ∀ v ∈ xs, Plain v := fun v hv => by
  obtain ⟨i, hi⟩ := List.getElem?_of_mem hv
  have hl : i < ds.length := by have := (List.getElem?_eq_some_iff.mp hi).1; rw [row.lx] at this; exact this
  obtain ⟨e, x, _, hx, _, h⟩ := row.ent i ds[i] (List.getElem?_eq_getElem hl)
  obtain rfl : x = v := Option.some.inj (hx.symm.trans hi)
  have := no _ (List.getElem_mem hl)
  generalize ds[i] = d at h this
  cases d with
  | kind z => obtain ⟨a, rfl, _⟩ := h; exact True.intro
  | role z ms => obtain ⟨a, rfl, _⟩ := h; exact True.intro
  | odd u => exact absurd rfl (this u)
end
/-- a list is no table -/
theorem tabs_lst {T : List (Addr × Str)} {H : Hp} {a : Addr} {xs : List V} {o : HO} (t : Tabs T H) (ha : H a = some (.lst xs)) : Tabs T (upd H a o) := fun p hp => by
  obtain ⟨ps, h1, h2, h3⟩ := t p hp
  refine ⟨ps, by rw [upd_ne (ne_of h1 ha (fun z => by cases z))]; exact h1, h2, fun pos cv hc => ?_⟩
  obtain ⟨c, e1, e2⟩ := h3 pos cv hc
  exact ⟨c, e1, by rw [upd_ne (ne_of e2 ha (fun z => by cases z))]; exact e2⟩
theorem op_notNon {Y : Cx} : OpR Y (compareOp .IsNot) rNotN := op_notN1
/-- where the tables of the law's defs stand -/
def spRead (K : PySem.W.Frag) (KC RC WC : Addr) (T : List (Addr × Str)) : Sp := fun vs H Q _ => ∃ (x R : Addr) (es : List Addr) (ds : List Dc) (xs : List V), vs = [.ref x, .ref R] ∧ WorldAt WC H x ds xs ∧ RwAt K KC RC H R es ds xs ∧ worldDue ds = none ∧ (∀ d ∈ ds, NotD d) ∧ Tabs T H ∧
  ∀ H', ExtN H H' → Tabs T H' → Q (.bl true) H'
section
variable {P : Program} {w : World} {K : PySem.W.Frag} {mg : Str → Option Value} {base : Heap} {KC RC SE IC UC WC : Addr}




theorem ok_read {f c p : Addr} {T : List (Addr × Str)} {fd : FuncData} (F : FunK K "_law_read_right" "_law_read_right" sRead f fd c) (B : Blt mg) (W : Blw mg) (D : DK P w K mg base KC RC) (TK : TellK P w K mg base SE IC UC) (TB : TabB base mg c p) (hmT : (p, ("_law_read_right.<locals>.<lambda>" : Str)) ∈ T) (hu0 : ∀ q ∈ T, q.1 = p → q.2 = ("_law_read_right.<locals>.<lambda>" : Str))
    (GB : Got P w K mg base CX0 "_law_doubled" ["_law_kind_of"] 1 spDoub) (O : WOps P w K mg base KC RC UC WC) : FnOk P w K mg base CX0 8 f fd ["_law_world_so", "_law_row_here"] (spRead K KC RC WC T) := by
  obtain ⟨fg, GG, FG⟩ := O.get
  obtain ⟨fh, GH, FH⟩ := O.has
  refine F.okX scRead (fun vs H Q E h => by obtain ⟨x, R, es, ds, xs, rfl, _⟩ := h; rfl) (fun A outer s H vs Q E hr h => ?_)
  obtain ⟨x, R, es, ds, xs, rfl, wa, row, due, nott, tabs, k⟩ := h
  have hu := hu_of hr
  have hu1 := Nat.lt_of_succ_lt hu
  have hr2 := hr.mono (show 2 ≤ 7 by decide)
  have hr1 := hr.mono (show 1 ≤ 7 by decide)
  have hr5 := hr.mono (show 5 ≤ 7 by decide)
  refine ⟨_, pss_cons (ps_if (pt_cmpR (op_neTup hu1) (pe_prp (fld := "_declarations") O.decl hr2 (pv 0)) ((pe_callTy call_tuple_of (by rfl) W.tuple (by decide +kernel) (pa_cons (pe_lc (own := [("_law_one", 2)]) (g := gName 2) (te := tOp (rIxL K) (tVar 2) (tC (.int 2))) (tt := tYes) rfl scRead.nd (pi_list (pv 1)) (blkOk_by (N := nRead) (sc := defScope sRead) (by decide +kernel)) (fun _ _ _ _ _ => (pg_name (i := 2) scRead.nd rfl (Or.inl rfl))) (fun _ _ _ _ _ => pts_nil) (fun _ _ _ _ _ => (pe_ix ix_list (pv 2) pe_int (fun _ _ => rfl)))) pa_nil))) (nomark _)) (pss_one (ps_ret pe_bl)) pss_nil)
    (pss_cons (ps_if (pt_cmpR (op_neTup hu1) (pe_prp (fld := "_kinds") O.kinds hr2 (pv 0)) ((pe_callTy call_tuple_of (by rfl) W.tuple (by decide +kernel) (pa_cons (pe_lc (own := [("_law_one", 2)]) (g := gName 2) (te := tOp (rIxL K) (tVar 2) (tC (.int 0))) (tt := tB (tOp rIsN (tOp (rIxL K) (tVar 2) (tC (.int 1))) (tC .non))) rfl scRead.nd (pi_list (pv 1)) (blkOk_by (N := nRead) (sc := defScope sRead) (by decide +kernel)) (fun _ _ _ _ _ => (pg_name (i := 2) scRead.nd rfl (Or.inl rfl))) (fun _ _ _ _ _ => pts_one (pt_cmpR op_isNon ((pe_ix ix_list (pv 2) pe_int (fun _ _ => rfl))) pe_non (nomark _))) (fun _ _ _ _ _ => (pe_ix ix_list (pv 2) pe_int (fun _ _ => rfl)))) pa_nil))) (nomark _)) (pss_one (ps_ret pe_bl)) pss_nil)
    (pss_cons (ps_if (pt_cmpR (op_neTup hu1) (pe_prp (fld := "_roles") O.roles hr2 (pv 0)) ((pe_callTy call_tuple_of (by rfl) W.tuple (by decide +kernel) (pa_cons (pe_lc (own := [("_law_one", 2)]) (g := gName 2) (te := tOp (rIxL K) (tVar 2) (tC (.int 0))) (tt := tB (tOp rNotN (tOp (rIxL K) (tVar 2) (tC (.int 1))) (tC .non))) rfl scRead.nd (pi_list (pv 1)) (blkOk_by (N := nRead) (sc := defScope sRead) (by decide +kernel)) (fun _ _ _ _ _ => (pg_name (i := 2) scRead.nd rfl (Or.inl rfl))) (fun _ _ _ _ _ => pts_one (pt_cmpR op_notNon ((pe_ix ix_list (pv 2) pe_int (fun _ _ => rfl))) pe_non (nomark _))) (fun _ _ _ _ _ => (pe_ix ix_list (pv 2) pe_int (fun _ _ => rfl)))) pa_nil))) (nomark _)) (pss_one (ps_ret pe_bl)) pss_nil)
    (pss_cons (ps_for PassesOwn.never rfl (pi_list (pv 1)) ((pg_name (i := 2) scRead.nd rfl (Or.inl rfl)))
      (pss_one (ps_if (PW.pt (pw_or (pt_cmpR (op_neO hu) (pe_ownsub GG FG hr5 passN (pv 0) ((pe_ix ix_list (pv 2) pe_int (fun _ _ => rfl)))) ((pe_ix ix_list (pv 2) pe_int (fun _ _ => rfl))) (nomark _)) (pw_or1 (pt_cmp (pc_ownnotin GH FH hr1 pass0 ((pe_ix ix_list (pv 2) pe_int (fun _ _ => rfl))) (pv 0)))))) (pss_one (ps_ret pe_bl)) pss_nil)))
    (pss_cons (ps_for PassesOwn.never rfl (pi_tup (pe_tup (pa_cons pe_str (pa_cons pe_str (pa_cons pe_str (pa_cons pe_str (pa_cons pe_str (pa_cons pe_non (pa_cons pe_bl (pa_cons pe_int (pa_cons (pe_tup (pa_cons pe_str pa_nil)) (pa_cons (pe_lst (pa_cons pe_str pa_nil)) (pa_cons pe_dnewK (pa_cons (pe_got GB hr (by decide) pass0 (pa_cons pe_int pa_nil)) (pa_cons (pe_got GB hr (by decide) pass0 (pa_cons pe_int pa_nil)) pa_nil))))))))))))))) (pg_name (i := 5) scRead.nd rfl (Or.inr rfl))
      (pss_cons (ps_set (i := 3) scRead.nd rfl (Or.inl rfl) ((pe_told rfl TK TB rfl hmT hu0 hr (show LamS (defScope sRead) _ from lamS_by (by decide +kernel)) rfl (fun _ _ _ _ _ => rfl) (t := fun E => tOwnSub WC (spWGet K UC WC) E (tVar 0) (tVar 5)) (fun A outer s H E f c' hr' => pe_ownsub GG FG hr' (passes_call (takes_of rfl rfl rfl rfl) (fun _ _ _ _ h => h)) (pv 0) (pv 5)))))
      (pss_one (ps_if (PW.pt (pw_or (pt_not (pt_val (pe_callB call_isi (by rfl) B.isinstance (by decide +kernel) (pa_cons (pv 3) (pa_cons (pe_bltn (v := .ty "tuple") (by rfl) W.tuple (by decide +kernel) rfl) pa_nil)))))
          (pw_or (pt_cmpR op_ne (pe_ix ix_tup (pv 3) pe_int (fun _ _ => rfl)) pe_str (nomark _))
          (pw_or1 (pt_cmpR op_ne (pe_callB EqN.call_repr_bl (by rfl) B.repr (by decide +kernel) (pa_cons (pe_cmp (pc_ownin GH FH hr1 pass0 (pv 5) (pv 0))) pa_nil)) (pe_callB EqN.call_repr_bl (by rfl) B.repr (by decide +kernel) (pa_cons (pe_cmpR (op_eqS hu1) (pv 5) pe_str (nomark _)) pa_nil)) (nomark _))))))
        (pss_one (ps_ret pe_bl)) pss_nil))))
    (pss_cons (ps_set (i := 4) scRead.nd rfl (Or.inr rfl) (pe_lst (pa_cons pe_str pa_nil)))
    (pss_cons (ps_set (i := 3) scRead.nd rfl (Or.inl rfl) ((pe_told rfl TK TB rfl hmT hu0 hr (show LamS (defScope sRead) _ from lamS_by (by decide +kernel)) rfl (fun _ _ _ _ _ => rfl) (t := fun E => tOwnSub WC (spWGet K UC WC) E (tVar 0) (tVar 4)) (fun A outer s H E f c' hr' => pe_ownsub GG FG hr' (passes_call (takes_of rfl rfl rfl rfl) (fun _ _ _ _ h => h)) (pv 0) (pv 4)))))
    (pss_cons (ps_expr (pe_bm PySem.F.plainAttrs_list PySem.F.slot_list_append PySem.F.type_list_append mt_append (pv 4) (pa_cons pe_str pa_nil)))
    (pss_one (ps_ret (pe_cmpR (op_eqD hr.units) (pv 3) (pe_tup (pa_cons pe_str (pa_cons (pe_lst (pa_cons pe_str (pa_cons pe_str pa_nil))) pa_nil))) (nomark _))))))))))), ?_⟩
  have due0 := due
  have hle : (es.map V.ref).length = ds.length := by rw [List.length_map, row.le]
  obtain ⟨nod, nodd⟩ := due_names due
  have oks := row_oks row nodd
  have hpl := row_plain row nodd
  have kpl : ∀ l : List Str, ∀ v ∈ l.map V.str, Plain v := fun l v hv => by
    obtain ⟨z, _, rfl⟩ := List.mem_map.mp hv
    exact True.intro
  have wa0 := wa
  obtain ⟨dx, t, kt, rt, dd, fs, w1, w2, w3, w4, w5, w6, w7, w8, w9⟩ := wa
  have sm := row.small
  -- declarations
  refine ⟨_, rfl, x, WC, dx, fs, _, rfl, w1, by simp, w2, ?_⟩
  refine ⟨_, rfl, R, rfl, ⟨_, .inl (.inl row.at_)⟩, fun D1 hD1 => ?_⟩
  refine lc_it (walk_list (xs := es.map V.ref)) (fun i H' => Same H H' ∧ H' D1 = some (.lst (xs.take i))) ⟨(Same.refl H).new hD1, by rw [upd_same]; rfl⟩ (fun i H' _ q => .inl (.inl (q.1 R _ row.at_))) ?_ ?_
  · rintro i y H2 H3 hi ⟨s2, h2⟩ ⟨rfl, ey⟩
    obtain ⟨d, e, xv, hd, rfl, hx, ent, hat⟩ := (row.same s2).get ey
    obtain ⟨nv, wv, he⟩ := ent.third
    refine ⟨rfl, _, rfl, e, _, _, _, rfl, rfl, .inl (.inl he), rfl, _, h2, ?_, s2.old hD1, ?_⟩
    · rw [List.length_take, sizeLine_eq]; omega
    · rw [upd_same, List.take_succ, hx]; rfl
  rintro H1 ⟨s1, h1⟩
  rw [hle, ← row.lx, List.take_length] at h1
  refine ⟨D1, _, rfl, .inl ⟨.inl (.inl h1), fun o1 ho1 => ?_⟩⟩
  have q1 := s1.new (o := .tup xs) ho1
  refine ⟨t, o1, xs, rfl, rfl, q1 t _ w3, upd_same, hpl, _, rfl, iteF ?_⟩
  generalize upd H1 o1 (.tup xs) = G1 at q1 ⊢
  clear h1 ho1 s1 hD1
  -- kinds
  refine ⟨_, rfl, x, WC, dx, fs, _, rfl, q1 x _ w1, by simp, w4, ?_⟩
  refine ⟨_, rfl, R, rfl, ⟨_, .inl (.inl (q1 R _ row.at_))⟩, fun D1 hD1 => ?_⟩
  refine lc_it (walk_list (xs := es.map V.ref)) (fun i H' => Same G1 H' ∧ H' D1 = some (.lst ((kindsOf (ds.take i)).map V.str)) ∧ (kindsOf (ds.take i)).length ≤ i) ⟨(Same.refl G1).new hD1, by rw [upd_same]; rfl, Nat.le_refl _⟩ (fun i H' _ q => .inl (.inl ((q1.trans q.1) R _ row.at_))) ?_ ?_
  · rintro i y H2 H3 hi ⟨s2, h2, hk⟩ ⟨rfl, ey⟩
    obtain ⟨d, e, xv, hd, rfl, hx, ent, hat⟩ := (row.same (q1.trans s2)).get ey
    have no := nodd d (List.mem_of_getElem? hd)
    have tkk : ds.take (i + 1) = ds.take i ++ [d] := by rw [List.take_succ, hd]; rfl
    rw [tkk, kindsOf_append]
    cases d with
    | kind z =>
      refine ⟨rfl, _, rfl, e, _, _, _, rfl, rfl, .inl (.inl ent), rfl, rfl, _, rfl, iteT ⟨_, rfl, e, _, _, _, rfl, rfl, .inl (.inl ent), rfl, _, h2, ?_, s2.old hD1, ?_, ?_⟩⟩
      · rw [List.length_map, sizeLine_eq]; omega
      · rw [upd_same, List.map_append]; rfl
      · rw [List.length_append]; show _ + 1 ≤ _; omega
    | role z ms =>
      obtain ⟨a, he, ha⟩ := ent
      refine ⟨rfl, _, rfl, e, _, _, _, rfl, rfl, .inl (.inl he), rfl, rfl, _, rfl, iteF ⟨s2, ?_, ?_⟩⟩
      · rw [h2, show kindsOf [Dc.role z ms] = [] from rfl, List.append_nil]
      · rw [show kindsOf [Dc.role z ms] = [] from rfl, List.append_nil]; omega
    | odd u => exact absurd rfl (no u)
  rintro H1 ⟨s1, h1, _⟩
  rw [hle, List.take_length] at h1
  refine ⟨D1, _, rfl, .inl ⟨.inl (.inl h1), fun o1 ho1 => ?_⟩⟩
  have q2 := (q1.trans s1).new (o := .tup ((kindsOf ds).map V.str)) ho1
  refine ⟨kt, o1, _, rfl, rfl, q2 kt _ w5, upd_same, kpl _, _, rfl, iteF ?_⟩
  generalize upd H1 o1 (.tup ((kindsOf ds).map V.str)) = G2 at q2 ⊢
  clear h1 ho1 s1 hD1
  -- roles
  refine ⟨_, rfl, x, WC, dx, fs, _, rfl, q2 x _ w1, by simp, w6, ?_⟩
  refine ⟨_, rfl, R, rfl, ⟨_, .inl (.inl (q2 R _ row.at_))⟩, fun D1 hD1 => ?_⟩
  refine lc_it (walk_list (xs := es.map V.ref)) (fun i H' => Same G2 H' ∧ H' D1 = some (.lst ((rolesOf (ds.take i)).map V.str)) ∧ (rolesOf (ds.take i)).length ≤ i) ⟨(Same.refl G2).new hD1, by rw [upd_same]; rfl, Nat.le_refl _⟩ (fun i H' _ q => .inl (.inl ((q2.trans q.1) R _ row.at_))) ?_ ?_
  · rintro i y H2 H3 hi ⟨s2, h2, hk⟩ ⟨rfl, ey⟩
    obtain ⟨d, e, xv, hd, rfl, hx, ent, hat⟩ := (row.same (q2.trans s2)).get ey
    have no := nodd d (List.mem_of_getElem? hd)
    have tkk : ds.take (i + 1) = ds.take i ++ [d] := by rw [List.take_succ, hd]; rfl
    rw [tkk, rolesOf_append]
    cases d with
    | kind z =>
      refine ⟨rfl, _, rfl, e, _, _, _, rfl, rfl, .inl (.inl ent), rfl, rfl, _, rfl, iteF ⟨s2, ?_, ?_⟩⟩
      · rw [h2, show rolesOf [Dc.kind z] = [] from rfl, List.append_nil]
      · rw [show rolesOf [Dc.kind z] = [] from rfl, List.append_nil]; omega
    | role z ms =>
      obtain ⟨a, he, ha⟩ := ent
      refine ⟨rfl, _, rfl, e, _, _, _, rfl, rfl, .inl (.inl he), rfl, rfl, _, rfl, iteT ⟨_, rfl, e, _, _, _, rfl, rfl, .inl (.inl he), rfl, _, h2, ?_, s2.old hD1, ?_, ?_⟩⟩
      · rw [List.length_map, sizeLine_eq]; omega
      · rw [upd_same, List.map_append]; rfl
      · rw [List.length_append]; show _ + 1 ≤ _; omega
    | odd u => exact absurd rfl (no u)
  rintro H1 ⟨s1, h1, _⟩
  rw [hle, List.take_length] at h1
  refine ⟨D1, _, rfl, .inl ⟨.inl (.inl h1), fun o1 ho1 => ?_⟩⟩
  have q3 := (q2.trans s1).new (o := .tup ((rolesOf ds).map V.str)) ho1
  refine ⟨rt, o1, _, rfl, rfl, q3 rt _ w7, upd_same, kpl _, _, rfl, iteF ?_⟩
  generalize upd H1 o1 (.tup ((rolesOf ds).map V.str)) = G3 at q3 ⊢
  clear h1 ho1 s1 hD1 q1 q2
  -- each entry
  refine ⟨_, rfl, R, rfl, ⟨_, .inl (.inl (q3 R _ row.at_))⟩, ?_⟩
  refine for_it (walk_list (xs := es.map V.ref)) (fun i σ' H' => (∃ v2, σ' = [some (.ref x), some (.ref R), v2, none, none, none]) ∧ H' = G3) ⟨⟨_, rfl⟩, rfl⟩ (fun i σ' H' _ q => by rw [q.2]; exact .inl (.inl (q3 R _ row.at_))) ?_ ?_
  · rintro i y σ' H2 H3 hi ⟨⟨v2, rfl⟩, rfl⟩ ⟨rfl, ey⟩
    obtain ⟨d, e, xv, hd, rfl, hx, ent, hat⟩ := (row.same q3).get ey
    have no := nodd d (List.mem_of_getElem? hd)
    obtain ⟨wv, he⟩ := ent.name no
    have hval := valV_decl nod hd hx
    have own : ∃ a C dx' fs', xv = .ref a ∧ H3 a = some (.ins C dx' fs') ∧ NeK K C := by
      cases d with
      | kind z => exact let ⟨a, e1, ⟨dx', m, h1, _⟩, _⟩ := hat; ⟨a, KC, dx', _, e1, h1, O.nk⟩
      | role z ms => exact let ⟨a, e1, ⟨dx', m, t, h1, _⟩, _⟩ := hat; ⟨a, RC, dx', _, e1, h1, O.nr⟩
      | odd u => exact absurd rfl (no u)
    obtain ⟨a, C, dx', fs', rfl, ha, hN⟩ := own
    refine ⟨_, rfl, _, rfl, e, _, _, _, rfl, rfl, .inl (.inl he), rfl, x, dx, fs, rfl, q3 x _ w1, x, _, ds, xs, rfl, wa0.same q3, .inl ⟨_, _, rfl, hval, ?_⟩⟩
    refine ⟨_, rfl, e, _, _, _, rfl, rfl, .inl (.inl he), rfl, a, C, dx', fs', rfl, rfl, ha, hN, _, rfl, iteF ?_⟩
    refine ⟨_, rfl, e, _, _, _, rfl, rfl, .inl (.inl he), rfl, _, rfl, x, dx, fs, rfl, q3 x _ w1, x, _, ds, xs, rfl, wa0.same q3, _, .inl ⟨_, rfl, rfl⟩, _, rfl, _, rfl, ?_⟩
    rw [hval]
    show if (!(decide (V.str (dcName d) = V.str "Object") || true)) = true then _ else _
    rw [Bool.or_true]
    exact iteF ⟨⟨_, rfl⟩, rfl⟩
  rintro σ' H2 ⟨⟨v2, rfl⟩, rfl⟩
  have hgone : ∀ z ∈ ([("Object" : Str), "T", "k0", "K99", ""] : List Str), valV (declD ds xs) (.inr z) = none := fun z hz => valV_gone fun d hd e => by
    have ok := oks d hd
    have nd := nott d hd
    have nt' : NotT (dcName d) := by
      cases d with
      | kind z => exact nd
      | role z ms => exact nd
      | odd u => exact absurd rfl (nodd _ hd u)
    rw [e] at ok nt'
    simp only [List.mem_cons, List.not_mem_nil, or_false] at hz
    rcases hz with rfl | rfl | rfl | rfl | rfl
    · exact absurd ok.2.1 (by decide +kernel)
    · exact nt'.1 rfl
    · exact nt'.2.1 rfl
    · exact nt'.2.2 rfl
    · exact absurd ok.2.1 (by decide +kernel)
  have one : (1 : Nat) ≤ sizeLine := by rw [sizeLine_eq]; omega
  refine ⟨one, fun p1 hp1 => ⟨one, fun l1 hl1 => fun d1 hd1 => ⟨0, rfl, .inl rfl, fun Ha a1 sa ha pa => ⟨1, rfl, .inr rfl, fun Hb a2 sb hb pb => ⟨by show 13 ≤ _; rw [sizeLine_eq]; omega, fun tp htp => ⟨tp, rfl, ⟨_, .inl (.inl upd_same)⟩, ?_⟩⟩⟩⟩⟩⟩
  have fp : upd H2 p1 (.tup [.str "K0"]) p1 = some (.tup [.str "K0"]) := upd_same
  have sp : Same H2 (upd H2 p1 (.tup [.str "K0"])) := (Same.refl H2).new hp1
  generalize upd H2 p1 (.tup [.str "K0"]) = Hp1 at fp sp hl1 hd1 sa
  have fl : upd Hp1 l1 (.lst [.str "K0"]) l1 = some (.lst [.str "K0"]) := upd_same
  have sl : Same Hp1 (upd Hp1 l1 (.lst [.str "K0"])) := (Same.refl Hp1).new hl1
  generalize upd Hp1 l1 (.lst [.str "K0"]) = Hp2 at fl sl hd1 sa
  have fd' : upd Hp2 d1 (.dK []) d1 = some (.dK []) := upd_same
  have sd : Same Hp2 (upd Hp2 d1 (.dK [])) := (Same.refl Hp2).new hd1
  generalize upd Hp2 d1 (.dK []) = Hp3 at fd' sd sa
  obtain ⟨va, pa⟩ := pa
  obtain ⟨vb, pb⟩ := pb
  have st : Same Hb (upd Hb tp (.tup [.str "Object", .str "T", .str "k0", .str "K99", .str "", .non, .bl true, .int 0, .ref p1, .ref l1, .ref d1, .ref a1, .ref a2])) := (Same.refl Hb).new htp
  have ft : upd Hb tp (.tup [.str "Object", .str "T", .str "k0", .str "K99", .str "", .non, .bl true, .int 0, .ref p1, .ref l1, .ref d1, .ref a1, .ref a2]) tp = some (.tup [.str "Object", .str "T", .str "k0", .str "K99", .str "", .non, .bl true, .int 0, .ref p1, .ref l1, .ref d1, .ref a1, .ref a2]) := upd_same
  have c5 := sb.trans st
  have c4 := sa.trans c5
  have c3 := sd.trans c4
  have c2 := sl.trans c3
  have q4 := q3.trans (sp.trans c2)
  have its : ∀ v ∈ ([.str "Object", .str "T", .str "k0", .str "K99", .str "", .non, .bl true, .int 0, .ref p1, .ref l1, .ref d1, .ref a1, .ref a2] : List V), OddV (upd Hb tp (.tup [.str "Object", .str "T", .str "k0", .str "K99", .str "", .non, .bl true, .int 0, .ref p1, .ref l1, .ref d1, .ref a1, .ref a2])) v := by
    intro v hv
    simp only [List.mem_cons, List.not_mem_nil, or_false] at hv
    rcases hv with rfl | rfl | rfl | rfl | rfl | rfl | rfl | rfl | rfl | rfl | rfl | rfl | rfl
    · exact .inl ⟨_, rfl, by simp⟩
    · exact .inl ⟨_, rfl, by simp⟩
    · exact .inl ⟨_, rfl, by simp⟩
    · exact .inl ⟨_, rfl, by simp⟩
    · exact .inl ⟨_, rfl, by simp⟩
    · exact .inr (.inl rfl)
    · exact .inr (.inr (.inl rfl))
    · exact .inr (.inr (.inr (.inl rfl)))
    · exact .inr (.inr (.inr (.inr ⟨_, rfl, .inl ⟨_, c2 _ _ fp⟩⟩)))
    · exact .inr (.inr (.inr (.inr ⟨_, rfl, .inr (.inl ⟨_, c3 _ _ fl⟩)⟩)))
    · exact .inr (.inr (.inr (.inr ⟨_, rfl, .inr (.inr ⟨_, c4 _ _ fd'⟩)⟩)))
    · exact .inr (.inr (.inr (.inr ⟨_, rfl, .inl ⟨_, c5 _ _ pa⟩⟩)))
    · exact .inr (.inr (.inr (.inr ⟨_, rfl, .inr (.inl ⟨_, st _ _ pb⟩)⟩)))
  generalize upd Hb tp (.tup [.str "Object", .str "T", .str "k0", .str "K99", .str "", .non, .bl true, .int 0, .ref p1, .ref l1, .ref d1, .ref a1, .ref a2]) = H5 at q4 its ft ⊢
  generalize ([.str "Object", .str "T", .str "k0", .str "K99", .str "", .non, .bl true, .int 0, .ref p1, .ref l1, .ref d1, .ref a1, .ref a2] : List V) = items at its ft ⊢
  clear c2 c3 c4 c5 sp sl sd sa sb st fp fl fd' pa pb hp1 hl1 hd1 htp ha hb q3
  have t5 : Tabs T H5 := tabs.ext q4
  have w1' := nt_of (q4 x _ w1) rfl
  have wa5 := (wa0.same q4).nt
  refine for_it (walk_tup (xs := items)) (fun i σ' H' => (∃ v2 v3 v5, σ' = [some (.ref x), some (.ref R), v2, v3, none, v5]) ∧ ExtN H5 H' ∧ Tabs T H') ⟨⟨_, _, _, rfl⟩, ExtN.refl _, t5⟩ (fun i σ' H' _ q => .inl (.inl (q.2.1 tp _ ft (fun _ z => by cases z)))) ?_ ?_
  · rintro i v σ' H6 H7 hi ⟨⟨v2, v3, v5, rfl⟩, e6, t6⟩ ⟨rfl, ev⟩
    have ov := (its v (List.mem_of_getElem? ev)).nt
    refine ⟨t6, fun H8 e8 t8 H9 s9 Q' hQ' => ?_⟩
    have S9 : Same (nt H5) H9 := (K5.ExtN.nt ((e6.trans e8).trans (ExtN.of s9))).trans nt_same
    obtain ⟨b, of⟩ := (ov.same S9).facts (K := K) hgone
    refine ⟨_, rfl, _, rfl, x, dx, fs, rfl, S9 x _ w1', x, v, ds, xs, rfl, wa5.same S9, .inr ⟨of.ge, of.sh, fun d hd => ⟨d, rfl, .inr ⟨v, rfl, upd_same, fun H10 tt s10 htt ett => ?_⟩⟩⟩⟩
    have s9' : Same H9 H10 := fun b o e => s10 b o (by rw [upd_ne (ne_of_none e hd)]; exact e)
    have S10 := S9.trans s9'
    obtain ⟨b, of⟩ := (ov.same S10).facts (K := K) hgone
    refine ⟨_, rfl, _, _, _, _, true, rfl, .ty "tuple", .base (.tup ett), kit_ty (by decide +kernel), _, rfl, iteF ?_⟩
    refine ⟨_, rfl, tt, _, _, _, rfl, rfl, .inl (.inl ett), rfl, rfl, _, rfl, ?_⟩
    rw [show (!decide (V.str ("unknown" : Str) = V.str "unknown")) = false from by rw [decide_eq_true rfl]; rfl]
    have hasb : (∃ z, v = .str z ∧ b = (decide (V.str z = V.str "Object") || (valV (declD ds xs) (.inr z)).isSome)) ∨ (NotStr K H10 v ∧ b = false) := by
      rcases of.hs with ⟨z, h1, h2⟩ | h
      · exact .inl ⟨z, h1, h2.symm⟩
      · exact .inr h
    refine iteF ⟨_, rfl, _, rfl, x, dx, fs, rfl, S10 x _ w1', x, v, ds, xs, rfl, wa5.same S10, b, hasb, ?_⟩
    refine ⟨_, rfl, b, rfl, ?_⟩
    refine ⟨_, rfl, b, of.eq, b, rfl, rfl, _, rfl, ?_⟩
    rw [decide_eq_true rfl]
    exact iteF ⟨⟨_, _, _, rfl⟩, ((e6.trans e8).trans (ExtN.of s9)).trans (ExtN.of s9'), (t8.ext s9).ext s9'⟩
  · rintro σ' H6 ⟨⟨v2, v3, v5, rfl⟩, e6, t6⟩
    -- the list
    refine ⟨one, fun bx hbx => ?_⟩
    have fb : upd H6 bx (.lst [.str "K0"]) bx = some (.lst [.str "K0"]) := upd_same
    have e7 : ExtN H6 (upd H6 bx (.lst [.str "K0"])) := ExtN.of ((Same.refl H6).new hbx)
    have t7 : Tabs T (upd H6 bx (.lst [.str "K0"])) := K5.Tabs.new t6 hbx
    generalize upd H6 bx (.lst [.str "K0"]) = H7 at fb e7 t7 ⊢
    refine ⟨t7, fun H8 e8 t8 H9 s9 Q' hQ' => ?_⟩
    have e9 : ExtN H7 H9 := e8.trans (ExtN.of s9)
    have S9 : Same (nt H5) H9 := (K5.ExtN.nt ((e6.trans e7).trans e9)).trans nt_same
    have fb9 := e9 bx _ fb (fun _ z => by cases z)
    refine ⟨_, rfl, _, rfl, x, dx, fs, rfl, S9 x _ w1', x, .ref bx, ds, xs, rfl, wa5.same S9, .inr ⟨.inr ⟨_, .base (.lst fb9), kit_ty (by decide +kernel)⟩, .ref bx _ (.base (.lst fb9)) (kit_ty (by decide +kernel)) (kit_ty (by decide +kernel)), fun d hd => ⟨d, rfl, .inr ⟨_, rfl, upd_same, fun H10 tt s10 htt ett => ?_⟩⟩⟩⟩
    have s9' : Same H9 H10 := fun b o e => s10 b o (by rw [upd_ne (ne_of_none e hd)]; exact e)
    have fb10 := s9' bx _ fb9
    have nb : bx ≠ tt := ne_of fb10 ett (fun z => by cases z)
    refine ⟨_, rfl, .inl ⟨rfl, _, .inl (.inl fb10)⟩, bx, _, _, rfl, rfl, fb10, by show 1 < _; rw [sizeLine_eq]; omega, ?_⟩
    have ett' : upd H10 bx (.lst [.str "K0", .str "K1"]) tt = some (.tup [.str "unknown", .ref bx]) := by rw [upd_ne (Ne.symm nb)]; exact ett
    refine ⟨_, rfl, by show 2 ≤ _; rw [sizeLine_eq]; omega, fun l2 hl2 => ⟨by show 2 ≤ _; rw [sizeLine_eq]; omega, fun t2 ht2 => ?_⟩⟩
    have nl : bx ≠ l2 := fun z => by rw [← z, upd_same] at hl2; cases hl2
    have ntl : tt ≠ l2 := ne_of_none ett' hl2
    have nbt : bx ≠ t2 := fun z => by rw [← z, upd_ne nl, upd_same] at ht2; cases ht2
    have ntt : tt ≠ t2 := fun z => by rw [← z, upd_ne ntl] at ht2; exact absurd (ett'.symm.trans ht2) nofun
    have nlt : l2 ≠ t2 := fun z => by rw [← z, upd_same] at ht2; cases ht2
    refine ⟨.tuple [.str "unknown", .list [.str "K0", .str "K1"]], .tuple [.str "unknown", .list [.str "K0", .str "K1"]],
      .tup (.inl (.inl (by rw [upd_ne ntt, upd_ne ntl]; exact ett'))) (.cons (.str _) (.cons (.lst (.inl (.inl (by rw [upd_ne nbt, upd_ne nl, upd_same]; rfl))) (.cons (.str _) (.cons (.str _) .nil))) .nil)),
      .tup (.inl (.inl upd_same)) (.cons (.str _) (.cons (.lst (.inl (.inl (by rw [upd_ne nlt, upd_same]))) (.cons (.str _) (.cons (.str _) .nil))) .nil)), by decide +kernel, by decide +kernel, ?_⟩
    rw [show PyData.eqv (.tuple [.str "unknown", .list [.str "K0", .str "K1"]]) (.tuple [.str "unknown", .list [.str "K0", .str "K1"]]) = true from by decide +kernel]
    have eH : ExtN H H6 := (ExtN.of q4).trans e6
    refine k _ (fun b o e n => ?_) (K5.Tabs.new (K5.Tabs.new (tabs_lst (((t8.ext s9).ext s9')) fb10) hl2) ht2)
    have g6 := eH b o e n
    have g10 := s9' b o (e9 b o (e7 b o g6 n) n)
    have nbx : b ≠ bx := ne_of_none g6 hbx
    have g11 : upd H10 bx (.lst [.str "K0", .str "K1"]) b = some o := by rw [upd_ne nbx]; exact g10
    have nbl : b ≠ l2 := ne_of_none g11 hl2
    rw [upd_ne (fun z => by rw [← z, upd_ne nbl] at ht2; exact absurd (g11.symm.trans ht2) nofun), upd_ne nbl]
    exact g11
end
end K5

/-! ==== P5zC ==== -/
set_option Elab.async false
set_option linter.all false
set_option maxRecDepth 100000
set_option maxHeartbeats 4000000
/-! k05: the law's _law_right. -/
namespace K5
open PySem PySem.Spec PyProof.Rows L2 StX ClX SuX Sh KwX TuI D2X NkX OwX TrX EqN LamX LamD EqO CmX
abbrev nRight : List Str := ["_law_row_here", "_law_due_here", "_law_told_here", "_law_found", "_law_some", "_law_one"]
theorem scRight : FnScope nRight ["_law_row_here"] (defScope sRight) := ⟨rfl, rfl, rfl, by decide +kernel, rfl, by decide +kernel, by decide +kernel⟩
/-- what is due, as _law_due tells it -/
def DueR (ds : List Dc) (H : Hp) (v : V) : Prop := match worldDue ds with
  | none => v = .non
  | some (r, i) => ∃ T, v = .ref T ∧ H T = some (.tup [.str r, i])
/-- what a call of World gives, as _law_told tells it -/
def ToldR (WC : Addr) (ds : List Dc) (xs : List V) (H : Hp) (v : V) : Prop := match worldDue ds with
  | none => ∃ l x, v = .ref l ∧ H l = some (.lst [.ref x]) ∧ WorldAt WC H x ds xs
  | some (r, i) => ∃ T, v = .ref T ∧ H T = some (.tup [.str r, i])
section
variable {WC : Addr} {ds : List Dc} {xs : List V} {H H' : Hp} {v : V}
theorem DueR.same (s : Same H H') (h : DueR ds H v) : DueR ds H' v := by
  unfold DueR at h ⊢
  split at h
  · exact h
  · obtain ⟨T, e, h⟩ := h
    exact ⟨T, e, s _ _ h⟩
theorem DueR.nt (h : DueR ds H v) : DueR ds (nt H) v := by
  unfold DueR at h ⊢
  split at h
  · exact h
  · obtain ⟨T, e, h⟩ := h
    exact ⟨T, e, nt_of h rfl⟩
theorem ToldR.same (s : Same H H') (h : ToldR WC ds xs H v) : ToldR WC ds xs H' v := by
  unfold ToldR at h ⊢
  split at h
  · obtain ⟨l, x, e, h1, h2⟩ := h
    exact ⟨l, x, e, s _ _ h1, h2.same s⟩
  · obtain ⟨T, e, h⟩ := h
    exact ⟨T, e, s _ _ h⟩
theorem ToldR.nt (h : ToldR WC ds xs H v) : ToldR WC ds xs (nt H) v := by
  unfold ToldR at h ⊢
  split at h
  · obtain ⟨l, x, e, h1, h2⟩ := h
    exact ⟨l, x, e, nt_of h1 rfl, h2.nt⟩
  · obtain ⟨T, e, h⟩ := h
    exact ⟨T, e, nt_of h rfl⟩
/-- a list of two is written -/
theorem ToldR.upd2 {L : Addr} {a b : V} {o : HO} (hL : H L = some (.lst [a, b])) (h : ToldR WC ds xs H v) : ToldR WC ds xs (upd H L o) v := by
  have off : ∀ {c : Addr} {u : HO}, H c = some u → u ≠ .lst [a, b] → upd H L o c = some u := fun {c u} e n => by
    rw [upd_ne fun z => n (Option.some.inj (e.symm.trans (by rw [z]; exact hL)))]
    exact e
  unfold ToldR at h ⊢
  split at h
  · obtain ⟨l, x, e, h1, dx, t, kt, rt, dd, fs, w1, w2, w3, w4, w5, w6, w7, w8, w9⟩ := h
    exact ⟨l, x, e, off h1 (fun z => by cases z), dx, t, kt, rt, dd, fs, off w1 (fun z => by cases z), w2, off w3 (fun z => by cases z), w4, off w5 (fun z => by cases z), w6, off w7 (fun z => by cases z), w8, off w9 (fun z => by cases z)⟩
  · obtain ⟨T, e, h⟩ := h
    exact ⟨T, e, off h (fun z => by cases z)⟩
variable {K : PySem.W.Frag} {KC RC IC UC R : Addr} {es : List Addr} {Q Q' : VK} {E : XK} {H7 Hc : Hp}
theorem row_paired (row : RwAt K KC RC H R es ds xs) : Paired (fun d v => DcAt K KC RC H d v) ds xs := by
  have go : ∀ (ds : List Dc) (xs : List V), xs.length = ds.length → (∀ (i : Nat) (d : Dc), ds[i]? = some d → ∃ x, xs[i]? = some x ∧ DcAt K KC RC H d x) → Paired (fun d v => DcAt K KC RC H d v) ds xs := by
    intro ds
    induction ds with
    | nil =>
      intro xs h _
      obtain rfl : xs = [] := List.length_eq_zero_iff.mp h
      exact .nil
    | cons d r ih =>
      intro xs h hp
      match xs, h with
      | x :: xr, h =>
        refine .cons ?_ (ih xr (by simpa using h) fun i d' hd => hp (i + 1) d' hd)
        obtain ⟨y, hy, hd⟩ := hp 0 d rfl
        obtain rfl : x = y := Option.some.inj hy
        exact hd
  exact go ds xs row.lx fun i d hd => let ⟨_, x, _, h2, _, h4⟩ := row.ent i d hd; ⟨x, h2, h4⟩
theorem due_fin (row : RwAt K KC RC H R es ds xs) (k : ∀ Hd dv, Same H Hd → DueR ds Hd dv → Q dv Hd) : spDue K KC RC [.ref R] H Q E :=
  ⟨R, es, ds, xs, rfl, row, fun hn H' s => k H' .non s (by unfold DueR; rw [hn]), fun r i hr H' T s hT e => k H' (.ref T) s (by unfold DueR; rw [hr]; exact ⟨T, rfl, e⟩)⟩
/-- the two ways of a call that _law_told takes -/
theorem told_fin (s7 : Same H7 Hc) (hQ' : ∀ v H2, toldV Q v H2 → Q' v H2) (fin : ∀ H' v, Same H7 H' → ToldR WC ds xs H' v → Q v H') :
    (worldDue ds = none → ∀ H' x, Same Hc H' → Hc x = none → WorldAt WC H' x ds xs → Q' (.ref x) H') ∧ (∀ r i, worldDue ds = some (r, i) → ∀ H' d, Same Hc H' → Hc d = none → H' d = some (worldX r i) → toldE IC UC Q (.ref IC) (some d) H') :=
  ⟨fun hn H' x s hx W => hQ' _ _ fun H'' l s2 hl e => fin H'' (.ref l) ((s7.trans s).trans s2) (by unfold ToldR; rw [hn]; exact ⟨l, x, rfl, e, W.same s2⟩),
   fun r i hr H' d s hd e => ⟨d, rfl, .inl ⟨.str r, i, rfl, e, fun H'' T s2 hT eT => fin H'' (.ref T) ((s7.trans s).trans s2) (by unfold ToldR; rw [hr]; exact ⟨T, rfl, eT⟩)⟩⟩⟩
theorem wof_fin {o : Addr} (ho : Hc o = some (.tup xs)) (row : RwAt K KC RC Hc R es ds xs) (s7 : Same H7 Hc) (hQ' : ∀ v H2, toldV Q v H2 → Q' v H2) (fin : ∀ H' v, Same H7 H' → ToldR WC ds xs H' v → Q v H') : spWOf K KC RC IC WC [.ref WC, .ref o] Hc Q' (toldE IC UC Q) := by
  obtain ⟨f1, f2⟩ := told_fin (IC := IC) (UC := UC) s7 hQ' fin
  exact ⟨o, xs, ds, rfl, ho, row_paired row, by rw [row.lx]; exact row.small, f1, f2⟩
theorem new_fin {S : Addr} (hS : Hc S = some (.lst xs)) (h10 : xs.length < 10) (row : RwAt K KC RC Hc R es ds xs) (s7 : Same H7 Hc) (hQ' : ∀ v H2, toldV Q v H2 → Q' v H2) (fin : ∀ H' v, Same H7 H' → ToldR WC ds xs H' v → Q v H') : spNew K KC RC IC WC [.ref S] Hc Q' (toldE IC UC Q) := by
  obtain ⟨f1, f2⟩ := told_fin (IC := IC) (UC := UC) s7 hQ' fin
  exact ⟨S, xs, ds, rfl, hS, row_paired row, h10, f1, f2⟩
end
theorem namesA_flat : ∀ (ds : List Dc) (i : Nat) (known : List Str) {r : Str} {v : V}, namesA i known ds = some (r, v) → flatB v = true
  | [], _, _, _, _, h => by cases h
  | .odd _ :: _, i, _, _, _, h => by cases h; rfl
  | .kind z :: ds, i, known, _, _, h => by
    have h : (if dcName (.kind z) ∈ known then some (("name" : Str), V.str (dcName (.kind z))) else namesA (i + 1) (known ++ [dcName (.kind z)]) ds) = _ := h
    split at h
    · cases h; rfl
    · exact namesA_flat ds _ _ h
  | .role z ms :: ds, i, known, _, _, h => by
    have h : (if dcName (.role z ms) ∈ known then some (("name" : Str), V.str (dcName (.role z ms))) else namesA (i + 1) (known ++ [dcName (.role z ms)]) ds) = _ := h
    split at h
    · cases h; rfl
    · exact namesA_flat ds _ _ h
theorem parsA_flat (known : List Str) : ∀ (l : List Str) {r : Str} {v : V}, parsA known l = some (r, v) → flatB v = true
  | [], _, _, h => by cases h
  | p :: l, _, _, h => by
    have h : (if p ∈ known then some (("name" : Str), V.str p) else parsA known l) = _ := h
    split at h
    · cases h; rfl
    · exact parsA_flat known l h
theorem due_flat {ds : List Dc} {r : Str} {v : V} (h : worldDue ds = some (r, v)) : flatB v = true := by
  unfold worldDue namesDue at h
  cases q : namesA 0 [] ds with
  | some u =>
    rw [q] at h
    obtain rfl : u = (r, v) := Option.some.inj h
    exact namesA_flat ds _ _ q
  | none =>
    rw [q] at h
    cases q2 : parsA (ds.map dcName) (parNames ds) with
    | some u =>
      rw [q2] at h
      obtain rfl : u = (r, v) := Option.some.inj h
      exact parsA_flat _ _ q2
    | none =>
      rw [q2] at h
      have h : (if (kindsOf ds).length > 12 ∨ (rolesOf ds).length > 8 then some (("size" : Str), V.non) else none) = some (r, v) := h
      split at h
      · cases h; rfl
      · cases h
theorem all_tups {H : Hp} {t : List V} : ∀ {vs : List V}, (∀ v ∈ vs, ∃ T, v = .ref T ∧ H T = some (.tup t)) → ∃ as : List Addr, vs = as.map V.ref ∧ ∀ p ∈ as, H p = some (.tup t)
  | [], _ => ⟨[], rfl, fun _ h => nomatch h⟩
  | v :: vs, h => by
    obtain ⟨T, e, hT⟩ := h v List.mem_cons_self
    obtain ⟨as, e2, h2⟩ := all_tups fun u hu => h u (List.mem_cons_of_mem _ hu)
    exact ⟨T :: as, by rw [e, e2]; rfl, fun p hp => (List.mem_cons.mp hp).elim (fun z => by rw [z]; exact hT) (h2 p)⟩
def spRight (K : PySem.W.Frag) (KC RC : Addr) (T : List (Addr × Str)) : Sp := fun vs H Q _ => ∃ (R : Addr) (es : List Addr) (ds : List Dc) (xs : List V), vs = [.ref R] ∧ RwAt K KC RC H R es ds xs ∧ (∀ d ∈ ds, NotD d) ∧ Tabs T H ∧
  ∀ H', ExtN H H' → Tabs T H' → Q (.bl true) H'
section
variable {P : Program} {w : World} {K : PySem.W.Frag} {mg : Str → Option Value} {base : Heap} {KC RC SE IC UC WC : Addr}

set_option hygiene false in
local macro_rules | `(tactic| walk_at "right_tail") => `(tactic| (
  have S7 : Same (nt G0) C1 := (K5.ExtN.nt e7).trans nt_same
  have e08 : ExtN H C1 := e00.trans e7
  cases hw : worldDue ds with
  | some ri =>
    obtain ⟨r, i⟩ := ri
    have dn := dueN.same S7
    unfold DueR at dn
    rw [hw] at dn
    obtain ⟨TD, rfl, hTD⟩ := dn
    have fl := due_flat hw
    obtain ⟨as, rfl, has⟩ := all_tups (t := [.str r, i]) (H := C1) (vs := vs) fun v hm => by
      have := hv v hm
      unfold ToldR at this
      rw [hw] at this
      exact this
    rw [List.length_map] at h3
    refine ⟨_, rfl, rfl, _, rfl, iteT ?_⟩
    refine ⟨_, rfl, _, rfl, lines (by show 1 ≤ 1000; decide), fun l hl => ⟨_, rfl, L, _, rfl, .inl (.inl (.inl (by rw [upd_ne (ne_of_none fL1 hl)]; exact fL1))), ?_⟩⟩
    refine ⟨l, _, [.ref TD], rfl, rfl, upd_same, by rw [List.length_map]; omega, by rw [List.length_map]; omega, by rw [List.length_map]; show 1 * (((as.length : Nat) : Int)).toNat ≤ _; rw [sizeLine_eq]; omega, fun p hp => ?_⟩
    have s8 : Same C1 (upd (upd C1 l (.lst [.ref TD])) p (.lst (List.replicate (((as.map V.ref).length : Nat) : Int).toNat [V.ref TD]).flatten)) := ((Same.refl C1).new hl).new hp
    refine ⟨L, p, as, List.replicate as.length TD, [.str r, i], rfl, rfl, s8 L _ fL1, ?_, by rw [List.length_replicate], fun q hq => s8 q _ (has q hq), fun q hq => ?_, fun v hm => ?_, ?_⟩
    · rw [upd_same, List.length_map]
      show some (HO.lst (List.replicate (((as.length : Nat) : Int)).toNat [V.ref TD]).flatten) = _
      rw [Int.toNat_natCast, List.map_replicate, rep_flat]
    · rw [List.eq_of_mem_replicate hq]
      exact s8 TD _ hTD
    · simp only [List.mem_cons, List.not_mem_nil, or_false] at hm
      rcases hm with rfl | rfl
      · rfl
      · exact fl
    · exact k _ (e08.trans (ExtN.of s8)) (t7.ext s8)
  | none =>
    have dn := dueN
    unfold DueR at dn
    rw [hw] at dn
    subst dn
    have wn := nt_of fL1 rfl
    have hvn : ∀ v ∈ vs, ∃ l x, v = .ref l ∧ nt C1 l = some (.lst [.ref x]) ∧ WorldAt WC (nt C1) x ds xs := fun v hm => by
      have := (hv v hm).nt
      unfold ToldR at this
      rw [hw] at this
      exact this
    refine ⟨_, rfl, rfl, _, rfl, iteF ⟨_, rfl, L, rfl, ⟨_, .inl (.inl fL1)⟩, ?_⟩⟩
    refine for_it (walk_list (xs := vs)) (fun i σ' H' => (∃ v3, σ' = [some (.ref R), some .non, some (.ref L), v3, some (.ref S), none]) ∧ ExtN C1 H' ∧ Tabs T H') ⟨⟨_, rfl⟩, ExtN.refl _, t7⟩ (fun i σ' H' _ q => .inl (.inl (q.2.1 L _ fL1 (fun _ z => by cases z)))) ?_ ?_
    · rintro i v σ' D1 D2 hi ⟨⟨v3, rfl⟩, e9, t9⟩ ⟨rfl, ev⟩
      obtain ⟨l, x, rfl, hl, W⟩ := hvn v (List.mem_of_getElem? ev)
      have S9 : Same (nt C1) D2 := (K5.ExtN.nt e9).trans nt_same
      have S90 : Same (nt G0) D2 := (K5.ExtN.nt (e7.trans e9)).trans nt_same
      have hl9 := S9 l _ hl
      have W9 := W.same S9
      obtain ⟨wdx, wt, wkt, wrt, wdd, wfs, w1, _⟩ := id W9
      refine ⟨_, rfl, _, _, _, _, true, rfl, .ty "list", .base (.lst hl9), kit_ty (by decide +kernel), _, rfl, iteF ?_⟩
      refine ⟨_, rfl, l, _, _, _, rfl, rfl, .inl (.inl hl9), rfl, _, _, _, _, true, rfl, .own WC, iW.ty w1, kW, _, rfl, iteF ?_⟩
      refine ⟨_, rfl, l, _, _, _, rfl, rfl, .inl (.inl hl9), rfl, _, rfl, x, R, es, ds, xs, rfl, W9, rowN.same S90, hw, nott, t9, fun D3 e10 t10 => ⟨_, rfl, iteF ⟨⟨_, rfl⟩, e9.trans e10, t10⟩⟩⟩
    · rintro σ' D1 ⟨⟨v3, rfl⟩, e9, t9⟩
      exact k _ (e08.trans e9) t9))
theorem rep_flat (v : V) : ∀ n : Nat, (List.replicate n [v]).flatten = List.replicate n v
  | 0 => rfl
  | n + 1 => by rw [List.replicate_succ, List.flatten_cons, rep_flat v n]; rfl
theorem ok_right {f c p pw gw : Addr} {mw : Value} {T : List (Addr × Str)} {fd fdw : FuncData} (F : FunK K "_law_right" "_law_right" sRight f fd c) (B : Blt mg) (W : Blw mg) (TK : TellK P w K mg base SE IC UC) (TB : TabB base mg c p) (hmT : (p, ("_law_right.<locals>.<lambda>" : Str)) ∈ T) (hu0 : ∀ q ∈ T, q.1 = p → q.2 = ("_law_right.<locals>.<lambda>" : Str))
    (GD : Got P w K mg base CX0 "_law_due" ["_law_row_here"] 1 (spDue K KC RC)) (gW : mg "World" = some (.ref WC)) (iW : InstT K WC) (kW : PySem.W.kitOne K (.ref WC) (.ref WC) = some true) (rW : CRead K WC mw) (cW : CMet K WC mw "of" pw gw) (FW : FnOk P w K mg base (L2.CX P w) 9 gw fdw ["cls", "declarations"] (spWOf K KC RC IC WC)) (bW : Binds K fdw ["cls", "declarations"] [])
    (bWk : ∀ us ws : List Value, us.length = 1 → ws.length = 1 → bindArgs fdw ⟨us, ([("declarations" : Str)]).zip ws⟩ = pure (([("cls" : Str), "declarations"]).zip (us ++ ws)))
    (GN : Got P w K mg base (L2.CX P w) "_law_new" ["_law_r"] 9 (spNew K KC RC IC WC)) (GR : Got P w K mg base CX0 "_law_read_right" ["_law_world_so", "_law_row_here"] 8 (spRead K KC RC WC T)) : FnOk P w K mg base CX0 12 f fd ["_law_row_here"] (spRight K KC RC T) := by
  refine F.okX scRight (fun vs H Q E h => by obtain ⟨R, es, ds, xs, rfl, _⟩ := h; rfl) (fun A outer s H vs Q E hr h => ?_)
  obtain ⟨R, es, ds, xs, rfl, row, nott, tabs, k⟩ := h
  have hu := hu_of hr
  have hu1 := Nat.lt_of_succ_lt hu
  refine ⟨_, pss_cons (ps_asg (pe_tup (pa_cons (pe_lc (own := [("_law_one", 5)]) (g := gName 5) (te := tOp (rIxL K) (tVar 5) (tC (.int 2))) (tt := tYes) rfl scRight.nd (pi_list (pv 0)) (blkOk_by (N := nRight) (sc := defScope sRight) (by decide +kernel)) (fun _ _ _ _ _ => (pg_name (i := 5) scRight.nd rfl (Or.inl rfl))) (fun _ _ _ _ _ => pts_nil) (fun _ _ _ _ _ => pe_ix ix_list (pv 5) pe_int (fun _ _ => rfl)))
        (pa_cons (pe_got GD hr (by decide) pass0 (pa_cons (pv 0) pa_nil)) pa_nil))) (pg_tup rfl (pgs_cons (pg_name (i := 4) scRight.nd rfl (Or.inr rfl)) (pgs_cons ((pg_name (i := 1) scRight.nd rfl (Or.inl rfl))) pgs_nil))))
    (pss_cons (ps_set (i := 2) scRight.nd rfl (Or.inl rfl) (pe_lst (pa_cons
        (pe_told rfl TK TB rfl hmT hu0 hr (show LamS (defScope sRight) _ from lamS_by (by decide +kernel)) rfl (fun _ _ _ _ _ => rfl) (t := fun E => tCMeth WC (spWOf K KC RC IC WC) E (tC (.ref WC)) (tCons (tCB (fun xs H Q => ∃ p ys, xs = [.ref p] ∧ ((SqL K H p ys ∧ ∀ l, H l = none → Q (.ref l) (upd H l (.tup ys))) ∨ (SqT K H p ys ∧ Q (.ref p) H))) (tCons (tVar 4) tNil)) tNil))
          (fun A outer s H E f c' hr' => pe_cmeth (pe_glob (v := .ref WC) rfl gW rfl) rW cW (raw0 FW bW) hr' (passes_call (takes_of rfl rfl rfl rfl) (fun _ _ _ _ h => h)) (pa_cons (pe_callTy call_tuple_of (by rfl) W.tuple (by decide +kernel) (pa_cons (pv 4) pa_nil)) pa_nil)))
        (pa_cons (pe_toldD rfl TK TB rfl hmT hu0 hr (show LamP nRight (defScope sRight) _ "_law_n" from lamP_by (by decide +kernel)) rfl pe_int (fun _ _ _ _ _ _ => ⟨_, rfl, rfl⟩) (t := fun E => tCmK WC 1 (spWOf K KC RC IC WC) E (tC (.ref WC)) (tCons (tCB (fun xs H Q => ∃ p ys, xs = [.ref p] ∧ ((SqL K H p ys ∧ ∀ l, H l = none → Q (.ref l) (upd H l (.tup ys))) ∨ (SqT K H p ys ∧ Q (.ref p) H))) (tCons (tVar 4) tNil)) tNil))
          (fun A outer s H E f c' hr' => pe_cmK (ks := [("declarations" : Str)]) (pe_glob (v := .ref WC) rfl gW rfl) rW cW FW hr' (passes_call (takes_of rfl rfl rfl rfl) (fun _ _ _ _ h => h)) (pk_cons (pe_callTy call_tuple_of (by rfl) W.tuple (by decide +kernel) (pa_cons (pv 4) pa_nil)) pk_nil) bWk)) pa_nil))))
    (pss_cons (ps_if (pt_cmpR op_lt (pe_callB call_len_seq (by rfl) B.len PySem.boot_len (pa_cons (pv 4) pa_nil)) pe_int (nomark _))
        (pss_one (ps_expr (pe_bm PySem.F.plainAttrs_list PySem.F.slot_list_append PySem.F.type_list_append mt_append (pv 2) (pa_cons
          (pe_told rfl TK TB rfl hmT hu0 hr (show LamS (defScope sRight) _ from lamS_by (by decide +kernel)) rfl (fun _ _ _ _ _ => rfl) (t := fun E => tCall (spNew K KC RC IC WC) [] E (tCons (tVar 4) tNil))
            (fun A outer s H E f c' hr' => pe_got GN hr' (by decide) (passes_call (takes_of rfl rfl rfl rfl) (fun _ _ _ _ h => h)) (pa_cons (pv 4) pa_nil))) pa_nil)))) pss_nil)
    (pss_cons (ps_if (pt_cmpR op_notNon (pv 1) pe_non (nomark _)) (pss_one (ps_ret (pe_cmpR (op_eqLT hu) (pv 2) (pe_op op_rep (pe_lst (pa_cons (pv 1) pa_nil)) (pe_callB call_len_seq (by rfl) B.len PySem.boot_len (pa_cons (pv 2) pa_nil))) (nomark _)))) pss_nil)
    (pss_cons (ps_for PassesOwn.never rfl (pi_list (pv 2)) ((pg_name (i := 3) scRight.nd rfl (Or.inl rfl)))
      (pss_one (ps_if (PW.pt (pw_or (pt_not (pt_val (pe_callB call_isi (by rfl) B.isinstance (by decide +kernel) (pa_cons (pv 3) (pa_cons (pe_bltn (v := .ty "list") (by rfl) W.list (by decide +kernel) rfl) pa_nil)))))
          (pw_or (pt_not (pt_val (pe_callB call_isi (by rfl) B.isinstance (by decide +kernel) (pa_cons (pe_ix ix_list (pv 3) pe_int (fun _ _ => rfl)) (pa_cons (pe_glob (v := .ref WC) rfl gW rfl) pa_nil)))))
          (pw_or1 (pt_not (pt_val (pe_got GR hr (by decide) pass0 (pa_cons (pe_ix ix_list (pv 3) pe_int (fun _ _ => rfl)) (pa_cons (pv 0) pa_nil)))))))))
        (pss_one (ps_ret pe_bl)) pss_nil)))
    (pss_one (ps_ret pe_bl)))))), ?_⟩
  have hle : (es.map V.ref).length = ds.length := by rw [List.length_map, row.le]
  have sm := row.small
  have lines : ∀ {n : Nat}, n ≤ 1000 → n ≤ sizeLine := fun h => by rw [sizeLine_eq]; omega
  -- the declarations, what is due
  refine ⟨_, rfl, R, rfl, ⟨_, .inl (.inl row.at_)⟩, fun S hS => ?_⟩
  refine lc_it (walk_list (xs := es.map V.ref)) (fun i H' => Same H H' ∧ H' S = some (.lst (xs.take i))) ⟨(Same.refl H).new hS, by rw [upd_same]; rfl⟩ (fun i H' _ q => .inl (.inl (q.1 R _ row.at_))) ?_ ?_
  · rintro i y H2 H3 hi ⟨s2, h2⟩ ⟨rfl, ey⟩
    obtain ⟨d, e, xv, hd, rfl, hx, ent, hat⟩ := (row.same s2).get ey
    obtain ⟨nv, wv, he⟩ := ent.third
    refine ⟨rfl, _, rfl, e, _, _, _, rfl, rfl, .inl (.inl he), rfl, _, h2, ?_, s2.old hS, ?_⟩
    · rw [List.length_take, sizeLine_eq]; omega
    · rw [upd_same, List.take_succ, hx]; rfl
  rintro H1 ⟨s1, h1⟩
  rw [hle, ← row.lx, List.take_length] at h1
  refine ⟨_, rfl, ?_⟩
  dsimp only [tNil]
  refine due_fin (row.same s1) fun Hd dv sd hdv => ⟨lines (by show 2 ≤ 1000; decide), fun T0 hT0 => ?_⟩
  have q0 := (s1.trans sd).new (o := .tup [.ref S, dv]) hT0
  have hS0 : upd Hd T0 (.tup [.ref S, dv]) S = some (.lst xs) := by rw [upd_ne (ne_of_none (sd S _ h1) hT0)]; exact sd S _ h1
  have due0 : DueR ds (upd Hd T0 (.tup [.ref S, dv])) dv := hdv.same ((Same.refl Hd).new hT0)
  refine ⟨T0, _, rfl, .inl (.inl upd_same), rfl, _, _, rfl, _, _, rfl, ⟨rfl, ?_⟩⟩
  generalize upd Hd T0 (.tup [.ref S, dv]) = G0 at q0 hS0 due0 ⊢
  clear hT0 hdv h1 s1 sd hS
  have tabs0 : Tabs T G0 := tabs.ext q0
  have rowN := (row.same q0).nt
  have dueN := due0.nt
  have hSN := nt_of hS0 rfl
  have e00 : ExtN H G0 := ExtN.of q0
  -- the first call
  refine ⟨tabs0, fun A1 e1 t1 A2 s2 Q1 hQ1 => ?_⟩
  have S2 : Same (nt G0) A2 := (K5.ExtN.nt (e1.trans (ExtN.of s2))).trans nt_same
  refine ⟨rfl, _, rfl, S, _, rfl, .inl ⟨.inl (.inl (S2 S _ hSN)), fun o ho => ?_⟩⟩
  refine wof_fin upd_same (rowN.same (S2.new ho)) ((Same.refl A2).new ho) hQ1 fun A3 v1 s3 told1 => ?_
  have e3 : ExtN G0 A3 := (e1.trans (ExtN.of s2)).trans (ExtN.of s3)
  have t3 : Tabs T A3 := (t1.ext s2).ext s3
  clear ho hQ1
  -- the second
  refine ⟨t3, fun B1 e1' t1' B2 s2' Q1 hQ1 => ?_⟩
  have E2 : ExtN A3 B2 := e1'.trans (ExtN.of s2')
  have S2 : Same (nt G0) B2 := (K5.ExtN.nt (e3.trans E2)).trans nt_same
  refine ⟨rfl, _, rfl, S, _, rfl, .inl ⟨.inl (.inl (S2 S _ hSN)), fun o ho => ⟨rfl, ?_⟩⟩⟩
  refine wof_fin upd_same (rowN.same (S2.new ho)) ((Same.refl B2).new ho) hQ1 fun B3 v2 s3' told2 => ?_
  have e5 : ExtN A3 B3 := E2.trans (ExtN.of s3')
  have t5 : Tabs T B3 := (t1'.ext s2').ext s3'
  have told1' : ToldR WC ds xs B3 v1 := told1.nt.same ((K5.ExtN.nt e5).trans nt_same)
  clear ho hQ1 told1
  refine ⟨lines (by show 2 ≤ 1000; decide), fun L hL => ?_⟩
  have sL : Same B3 (upd B3 L (.lst [v1, v2])) := (Same.refl B3).new hL
  have fL : upd B3 L (.lst [v1, v2]) L = some (.lst [v1, v2]) := upd_same
  have t6 : Tabs T (upd B3 L (.lst [v1, v2])) := t5.ext sL
  have e6 : ExtN G0 (upd B3 L (.lst [v1, v2])) := (e3.trans e5).trans (ExtN.of sL)
  have g1 := told1'.same sL
  have g2 := told2.same sL
  have nL0 : nt G0 L = none := by
    cases q : nt G0 L with
    | none => rfl
    | some o =>
      have := (nt_some ((K5.ExtN.nt (e3.trans e5)) L o q)).1
      rw [hL] at this
      cases this
  generalize upd B3 L (.lst [v1, v2]) = C0 at fL t6 e6 g1 g2 ⊢
  clear sL hL told1' told2 t5 e5 t3 e3 t1' t1 e1 e1' s2 s2' s3 s3' S2 E2
  have S6 : Same (nt G0) C0 := (K5.ExtN.nt e6).trans nt_same
  refine ⟨_, rfl, S, _, rfl, .inl (.inl (.inl (S6 S _ hSN))), _, _, rfl, rfl, _, rfl, ?_⟩
  have hv0 : ∀ v ∈ [v1, v2], ToldR WC ds xs C0 v := fun v hm => by
    simp only [List.mem_cons, List.not_mem_nil, or_false] at hm
    rcases hm with rfl | rfl
    · exact g1
    · exact g2
  by_cases h10 : (xs.length : Int) < 10
  · rw [decide_eq_true h10]
    refine iteT ⟨_, rfl, .inl ⟨rfl, _, .inl (.inl fL)⟩, t6, fun A1 e1 t1 A2 s2 Q1 hQ1 => ?_⟩
    have E2 : ExtN C0 A2 := e1.trans (ExtN.of s2)
    have S2 : Same (nt G0) A2 := (K5.ExtN.nt (e6.trans E2)).trans nt_same
    refine ⟨_, rfl, ?_⟩
    dsimp only [tNil]
    refine new_fin (S2 S _ hSN) (by omega) (rowN.same S2) (Same.refl A2) hQ1 fun A3 v3 s3 told3 => ?_
    have E3 : ExtN C0 A3 := E2.trans (ExtN.of s3)
    have fL3 := E3 L _ fL (fun _ z => by cases z)
    refine ⟨L, _, _, rfl, rfl, fL3, by show 2 < _; rw [sizeLine_eq]; omega, ?_⟩
    have hv3 : ∀ v ∈ [v1, v2] ++ [v3], ToldR WC ds xs (upd A3 L (.lst ([v1, v2] ++ [v3]))) v := fun v hm => by
      rcases List.mem_append.mp hm with hm | hm
      · exact ((hv0 v hm).nt.same ((K5.ExtN.nt E3).trans nt_same)).upd2 fL3
      · rw [List.mem_singleton.mp hm]
        exact told3.upd2 fL3
    have t7 : Tabs T (upd A3 L (.lst ([v1, v2] ++ [v3]))) := tabs_lst ((t1.ext s2).ext s3) fL3
    have e7 : ExtN G0 (upd A3 L (.lst ([v1, v2] ++ [v3]))) := fun b o q n => by
      have nb : b ≠ L := fun z => by
        rw [z] at q
        rw [nt_of q (by cases o <;> first | rfl | exact absurd rfl (n _))] at nL0
        cases nL0
      rw [upd_ne nb]
      exact (e6.trans E3) b o q n
    have fL1 : upd A3 L (.lst ([v1, v2] ++ [v3])) L = some (.lst ([v1, v2] ++ [v3])) := upd_same
    have h3 : ([v1, v2] ++ [v3]).length ≤ 3 := Nat.le_refl _
    generalize [v1, v2] ++ [v3] = vs at hv3 fL1 h3 t7 e7 ⊢
    have hv := hv3
    generalize upd A3 L (.lst vs) = C1 at fL1 hv e7 t7 ⊢
    walk_at "right_tail"
  · rw [decide_eq_false h10]
    refine iteF ?_
    obtain ⟨vs, hvs⟩ : ∃ vs : List V, vs = [v1, v2] := ⟨_, rfl⟩
    have h3 : vs.length ≤ 3 := by rw [hvs]; show 2 ≤ 3; decide
    rw [← hvs] at fL hv0
    have fL1 := fL
    have hv := hv0
    have e7 := e6
    have t7 := t6
    generalize C0 = C1 at fL1 hv e7 t7 ⊢
    walk_at "right_tail"
end
end K5

/-! ==== P5zD ==== -/
set_option Elab.async false
set_option linter.all false
set_option maxRecDepth 100000
set_option maxHeartbeats 4000000
/-! k05: the law itself. -/
namespace K5
open PySem PySem.Spec PyProof.Rows L2 StX ClX SuX Sh KwX TuI D2X NkX OwX TrX EqN LamX LamD EqO CmX
abbrev nLaw : List Str := ["_law_script", "_law_m", "_law_turn", "_law_told_here", "_law_a", "_law_other", "_law_role"]
theorem scLaw : FnScope nLaw ["_law_script"] (defScope sLaw) := ⟨rfl, rfl, rfl, by decide +kernel, rfl, by decide +kernel, by decide +kernel⟩
def spLaw (K : PySem.W.Frag) (T : List (Addr × Str)) : Sp := fun vs H Q _ => ∃ (a : Addr) (ns : List Int), vs = [.ref a] ∧ SqL K H a (ns.map V.int) ∧ ns.length ≤ 63 ∧ Tabs T H ∧ ∀ H', Q (.bl true) H'
theorem tabs_kp {T : List (Addr × Str)} {H H' : Hp} {m c g : Addr} {b : Nat} (t : Tabs T H) (d : Dr H m c g b) (k : Kp m g H H') : Tabs T H' := fun p hp => by
  obtain ⟨ks, xs, hm, hg⟩ := dr_two d
  obtain ⟨ps, h1, h2, h3⟩ := t p hp
  have ke : ∀ {a : Addr} {o : HO}, H a = some o → (∀ ks, o ≠ .dK ks) → (∀ xs, o ≠ .lst xs) → H' a = some o := fun {a o} e n1 n2 => k a o (fun z => n1 ks (Option.some.inj (e.symm.trans (by rw [z]; exact hm)))) (fun z => n2 xs (Option.some.inj (e.symm.trans (by rw [z]; exact hg)))) e
  refine ⟨ps, ke h1 (fun _ z => by cases z) (fun _ z => by cases z), h2, fun pos cv hc => ?_⟩
  obtain ⟨c, e1, e2⟩ := h3 pos cv hc
  exact ⟨c, e1, ke e2 (fun _ z => by cases z) (fun _ z => by cases z)⟩
theorem dr_ext {H H' : Hp} {m c g : Addr} {b : Nat} (s : ExtN H H') (d : Dr H m c g b) : Dr H' m c g b := by
  obtain ⟨cs, gs, n, n0, nb, h1, h2, h3, r⟩ := d
  exact ⟨cs, gs, n, n0, nb, s _ _ h1 (fun _ z => by cases z), s _ _ h2 (fun _ z => by cases z), s _ _ h3 (fun _ z => by cases z), r⟩
section
variable {K : PySem.W.Frag} {KC RC IC UC WC : Addr} {Q Q' : VK} {H7 Hc : Hp} {ds : List Dc} {xs : List V}
theorem wi_fin (hds : Paired (fun d v => DcAt K KC RC Hc d v) ds xs) (hlen : xs.length < 1000) (s7 : Same H7 Hc) (hQ' : ∀ v H2, toldV Q v H2 → Q' v H2) (fin : ∀ H' v, Same H7 H' → ToldR WC ds xs H' v → Q v H') :
    ∀ x dx, Hc x = none → Hc dx = none → dx ≠ x → spWI K KC RC IC WC (.ref x :: xs) (upd (upd Hc dx (.own x)) x (.ins WC dx [])) (fun v H3 => v = .non ∧ Q' (.ref x) H3) (toldE IC UC Q) := by
  obtain ⟨f1, f2⟩ := told_fin (IC := IC) (UC := UC) s7 hQ' fin
  exact make_world (Same.refl Hc) hds hlen f1 f2
theorem told_tup {H : Hp} {v : V} {r : Str} {i : V} (hw : worldDue ds = some (r, i)) (h : ToldR WC ds xs H v) : ∃ T, v = .ref T ∧ H T = some (.tup [.str r, i]) := by
  unfold ToldR at h
  rw [hw] at h
  exact h
end
section
variable {P : Program} {w : World} {K : PySem.W.Frag} {mg : Str → Option Value} {base : Heap} {KC RC SE IC UC WC : Addr}



theorem ok_law {f c p fi fk fr : Addr} {mw : Value} {T : List (Addr × Str)} {fd : FuncData} (F : FunK K "law" "law" sLaw f fd c) (B : Blt mg) (W : Blw mg) (D : DK P w K mg base KC RC) (TK : TellK P w K mg base SE IC UC) (TB : TabB base mg c p) (hmT : (p, ("law.<locals>.<lambda>" : Str)) ∈ T) (hu0 : ∀ q ∈ T, q.1 = p → q.2 = ("law.<locals>.<lambda>" : Str))
    (GB : Got P w K mg base CX0 "_law_begun" ["_law_script"] 2 (spBegun K)) (GR : Got P w K mg base CX0 "_law_row" ["_law_m"] 9 (spRow K KC RC)) (GX : Got P w K mg base CX0 "_law_right" ["_law_row_here"] 12 (spRight K KC RC T))
    (MK : Mk K KC fk) (FK : FnR P w K mg base CX0 4 fk (spKI KC)) (MR : Mk K RC fr) (FR : FnK P w K mg base CX0 4 fr (spRI RC)) (gW : mg "World" = some (.ref WC)) (MW : Mk K WC fi) (FW : FnR P w K mg base (L2.CX P w) 7 fi (spWI K KC RC IC WC))
    (O : WOps P w K mg base KC RC UC WC) (OD : OddF K KC RC WC) (rd : CRead K WC mw) (ck : ∃ t, CVal K WC mw "MAX_KINDS" (.int 12) (.int 12 t)) (cr : ∃ t, CVal K WC mw "MAX_ROLES" (.int 8) (.int 8 t)) : FnOk P w K mg base CX0 13 f fd ["_law_script"] (spLaw K T) := by
  obtain ⟨fg, GG, FG⟩ := O.get
  obtain ⟨fh, GH, FH⟩ := O.has
  obtain ⟨tk, ck⟩ := ck
  obtain ⟨tr, cr⟩ := cr
  refine F.okX scLaw (fun vs H Q E h => by obtain ⟨a, ns, rfl, _⟩ := h; rfl) (fun A outer s H vs Q E hr h => ?_)
  obtain ⟨a, ns, rfl, hS, hlen, tabs, k⟩ := h
  have hu := hu_of hr
  have hu1 := Nat.lt_of_succ_lt hu
  have hr10 := hr.mono (show 10 ≤ 12 by decide)
  have hr8 := hr.mono (show 8 ≤ 12 by decide)
  have hr5 := hr.mono (show 5 ≤ 12 by decide)
  have hr2 := hr.mono (show 2 ≤ 12 by decide)
  have hr1 := hr.mono (show 1 ≤ 12 by decide)
  refine ⟨_, pss_cons (ps_set (i := 1) scLaw.nd rfl (Or.inl rfl) (pe_got GB hr (by decide) pass0 (pa_cons (pv 0) pa_nil)))
    (pss_cons (ps_for PassesOwn.never rfl (pi_range1 rfl W.range (pa_cons pe_int pa_nil)) (pg_name (i := 2) scLaw.nd rfl (Or.inl rfl))
      (pss_one (ps_if (pt_not (pt_val (pe_got GX hr (by decide) pass0 (pa_cons (pe_got GR hr (by decide) pass0 (pa_cons (pv 1) pa_nil)) pa_nil)))) (pss_one (ps_ret pe_bl)) pss_nil)))
    (pss_cons (ps_asg (pe_tup (pa_cons (pe_makeR MK FK hr5 rfl D.gk pass0 (pa_cons pe_str pa_nil)) (pa_cons (pe_mkK (ks := [("T" : Str)]) MR FR hr5 rfl D.gr pass0 (pa_cons pe_str pa_nil) (pk_cons pe_str pk_nil)) (pa_cons (pe_makeR MR FR.plain hr5 rfl D.gr pass0 (pa_cons pe_str pa_nil)) pa_nil))))
        (pg_tup rfl (pgs_cons (pg_name (i := 4) scLaw.nd rfl (Or.inr rfl)) (pgs_cons (pg_name (i := 6) scLaw.nd rfl (Or.inr rfl)) (pgs_cons (pg_name (i := 5) scLaw.nd rfl (Or.inr rfl)) pgs_nil)))))
    (pss_cons (ps_set (i := 3) scLaw.nd rfl (Or.inl rfl) (pe_lst (pa_cons
        (pe_told rfl TK TB rfl hmT hu0 hr10 ((show LamS (defScope sLaw) _ from lamS_by (by decide +kernel))) rfl (fun _ _ _ _ _ => rfl) (t := fun E => tMakeR WC (spWI K KC RC IC WC) E (tCons (tVar 4) (tCons (tVar 6) (tCons (tVar 5) tNil))))
          (fun A outer s H E f c' hr' => pe_makeR MW FW hr' rfl gW ((passes_call (takes_of rfl rfl rfl rfl) (fun _ _ _ _ h => h))) (pa_cons (pv 4) (pa_cons (pv 6) (pa_cons (pv 5) pa_nil)))))
        (pa_cons (pe_toldD rfl TK TB rfl hmT hu0 hr10 ((show LamP nLaw (defScope sLaw) _ "_law_n" from lamP_by (by decide +kernel))) rfl pe_int (fun _ _ _ _ _ _ => ⟨_, rfl, rfl⟩) (t := fun E => tMakeR WC (spWI K KC RC IC WC) E (tCons (tVar 4) (tCons (tVar 5) (tCons (tVar 4) (tCons (tC .non) tNil)))))
          (fun A outer s H E f c' hr' => pe_makeR MW FW hr' rfl gW ((passes_call (takes_of rfl rfl rfl rfl) (fun _ _ _ _ h => h))) (pa_cons (pv 4) (pa_cons (pv 5) (pa_cons (pv 4) (pa_cons pe_non pa_nil)))))) pa_nil))))
    (pss_cons (ps_set (i := 3) scLaw.nd rfl (Or.inl rfl) (pe_op op_cat (pv 3) (pe_lst (pa_cons
        (pe_told rfl TK TB rfl hmT hu0 hr10 ((show LamS (defScope sLaw) _ from lamS_by (by decide +kernel))) rfl (fun _ _ _ _ _ => rfl) (t := fun E => tMakeR WC (spWI K KC RC IC WC) E (tCons (tVar 6) (tCons (tC .non) (tCons (tVar 5) tNil))))
          (fun A outer s H E f c' hr' => pe_makeR MW FW hr' rfl gW ((passes_call (takes_of rfl rfl rfl rfl) (fun _ _ _ _ h => h))) (pa_cons (pv 6) (pa_cons pe_non (pa_cons (pv 5) pa_nil)))))
        (pa_cons (pe_toldD rfl TK TB rfl hmT hu0 hr10 ((show LamP nLaw (defScope sLaw) _ "_law_n" from lamP_by (by decide +kernel))) rfl pe_int (fun _ _ _ _ _ _ => ⟨_, rfl, rfl⟩) (t := fun E => tMakeR WC (spWI K KC RC IC WC) E (tCons (tMkK RC (spRI RC) E0 [("S" : Str)] (tCons (tC (.str "S")) tNil) (tCons (tC (.str "in")) tNil)) tNil))
          (fun A outer s H E f c' hr' => pe_makeR MW FW hr' rfl gW ((passes_call (takes_of rfl rfl rfl rfl) (fun _ _ _ _ h => h))) (pa_cons (pe_mkK (ks := [("S" : Str)]) MR FR (hr'.mono (by decide)) rfl D.gr pass0 (pa_cons pe_str pa_nil) (pk_cons pe_str pk_nil)) pa_nil))) pa_nil)))))
    (pss_cons (ps_if (pt_cmpR (op_neD hr.units) (pv 3) (pe_lst (pa_cons (pe_tup (pa_cons pe_str (pa_cons pe_str pa_nil))) (pa_cons (pe_tup (pa_cons pe_str (pa_cons pe_str pa_nil))) (pa_cons (pe_tup (pa_cons pe_str (pa_cons pe_int pa_nil))) (pa_cons (pe_tup (pa_cons pe_str (pa_cons pe_str pa_nil))) pa_nil))))) (nomark _)) (pss_one (ps_ret pe_bl)) pss_nil)
    (pss_one (ps_ret (pe_cmpR (op_eqD hr.units) (pe_lst (pa_cons (pe_cval (pe_glob (v := .ref WC) rfl gW rfl)) (pa_cons (pe_cval (pe_glob (v := .ref WC) rfl gW rfl)) (pa_cons (pe_prp (fld := "_declarations") O.decl hr2 (pe_makeR0 MW FW hr8 rfl gW passN)) (pa_cons (pe_cmp (pc_ownin GH FH hr1 pass0 pe_str (pe_makeR0 MW FW hr8 rfl gW passN))) pa_nil)))))
        (pe_lst (pa_cons pe_int (pa_cons pe_int (pa_cons (pe_tup pa_nil) (pa_cons pe_bl pa_nil))))) (nomark _))))))))), ?_⟩
  have lines : ∀ {n : Nat}, n ≤ 1000 → n ≤ sizeLine := fun h => by rw [sizeLine_eq]; omega
  refine ⟨_, rfl, a, ns, rfl, hS, hlen, fun H1 m cc g s1 hm hc hg d0 => ?_⟩
  have t1 : Tabs T H1 := tabs.ext s1
  refine ⟨_, rfl, by decide, by decide, ?_⟩
  refine for_range (lo := 0) (n := 16) (fun i σ' H' => (∃ v2, σ' = [some (.ref a), some (.ref m), v2, none, none, none, none]) ∧ Dr H' m cc g (1000 * i) ∧ Tabs T H') ⟨⟨_, rfl⟩, d0, t1⟩ ?_ ?_
  · rintro i σ' H2 hi ⟨⟨v2, rfl⟩, d2, t2⟩
    refine ⟨_, rfl, m, cc, g, _, rfl, d2, by omega, fun H3 R es ds xs kp d3 row nott => ?_⟩
    refine ⟨R, es, ds, xs, rfl, row.same rm_same, nott, tabs_kp t2 d2 kp, fun H4 e4 t4 => ⟨_, rfl, iteF ⟨⟨_, rfl⟩, (dr_ext e4 d3).mono (by omega), t4⟩⟩⟩
  rintro σ' H2 ⟨⟨v2, rfl⟩, d2, t2⟩
  have okA : NmOk "A" := nm_by (by decide +kernel)
  have okS : NmOk "S" := nm_by (by decide +kernel)
  have okT : NmOk "T" := nm_by nmT0
  have m1 : OkMs [(("T" : Str), ("out" : Str))] := WdOk.ms (.inr (.inl ⟨_, rfl, okT⟩)) (fun q hq => by rw [List.mem_singleton.mp hq]; decide +kernel)
  have m2 : OkMs [(("S" : Str), ("in" : Str))] := WdOk.ms (.inr (.inl ⟨_, rfl, okS⟩)) (fun q hq => by rw [List.mem_singleton.mp hq]; decide +kernel)
  have m0 : OkMs [] := WdOk.ms (.inl rfl) (fun q hq => nomatch hq)
  refine fun ka kad hka hkad kne => ⟨ka, "A", kad, rfl, upd_same, okA.ok.1, okA.ok.2.1, fun H3 b3 at3 => ⟨rfl, ?_⟩⟩
  have s3 : Same H2 H3 := made_same hka hkad b3
  refine ⟨rfl, fun ra rad hra hrad rne => ⟨ra, "S", rad, _, rfl, rfl, upd_same, okS.ok.1, okS.ok.2.1, fun q hq => (m1.1 q hq).1, m1.2, fun H4 b4 at4 => ⟨rfl, ?_⟩⟩⟩
  have s4 : Same H3 H4 := made_same hra hrad b4
  refine fun oa oad hoa hoad one => ⟨oa, "T", oad, [], rfl, rfl, upd_same, okT.ok.1, okT.ok.2.1, fun q hq => (nomatch hq), m0.2, fun H5 b5 at5 => ⟨rfl, lines (by show 3 ≤ 1000; decide), fun T0 hT0 => ?_⟩⟩
  have s5 : Same H4 H5 := made_same hoa hoad b5
  refine ⟨T0, _, rfl, .inl (.inl upd_same), rfl, _, _, rfl, _, _, rfl, _, _, rfl, ⟨rfl, ?_⟩⟩
  have sG : Same H5 (upd H5 T0 (.tup [.ref ka, .ref ra, .ref oa])) := (Same.refl H5).new hT0
  have kA := (at3.same ((s4.trans s5).trans sG)).nt
  have kR := (at4.same (s5.trans sG)).nt
  have kO := (at5.same sG).nt
  have tG : Tabs T (upd H5 T0 (.tup [.ref ka, .ref ra, .ref oa])) := t2.ext (((s3.trans s4).trans s5).trans sG)
  generalize upd H5 T0 (.tup [.ref ka, .ref ra, .ref oa]) = G0 at kA kR kO tG ⊢
  clear sG hT0 s5 b5 at5 s4 b4 at4 s3 b3 at3 hka hkad hra hrad hoa hoad
  have dA : ∀ {X : Hp}, Same (nt G0) X → DcAt K KC RC X (.kind "A") (.ref ka) := fun s => ⟨ka, rfl, kA.same s, okA.ok⟩
  have dR : ∀ {X : Hp}, Same (nt G0) X → DcAt K KC RC X (.role "S" [("T", "out")]) (.ref ra) := fun s => ⟨ra, rfl, kR.same s, okS.ok, m1⟩
  have dO : ∀ {X : Hp}, Same (nt G0) X → DcAt K KC RC X (.role "T" []) (.ref oa) := fun s => ⟨oa, rfl, kO.same s, okT.ok, m0⟩
  have dN : ∀ {X : Hp}, DcAt K KC RC X (.odd .non) .non := fun {X} => ⟨rfl, _, .base .non, (OD.ty _ (.inl rfl)).1, (OD.ty _ (.inl rfl)).2⟩
  have w1 : worldDue [.kind "A", .role "S" [("T", "out")], .role "T" []] = some (("name" : Str), V.str "T") := by decide +kernel
  have w2 : worldDue [.kind "A", .role "T" [], .kind "A", .odd .non] = some (("name" : Str), V.str "A") := by decide +kernel
  have w3 : worldDue [.role "S" [("T", "out")], .odd .non, .role "T" []] = some (("declaration" : Str), V.int 1) := by decide +kernel
  have w4 : worldDue [.role "S" [("S", "in")]] = some (("name" : Str), V.str "S") := by decide +kernel
  -- the first call
  refine ⟨tG, fun A1 e1 t1 A2 s2 Q1 hQ1 => ?_⟩
  have S2 : Same (nt G0) A2 := (K5.ExtN.nt (e1.trans (ExtN.of s2))).trans nt_same
  refine ⟨_, rfl, _, rfl, _, rfl, ?_⟩
  refine wi_fin (.cons (dA S2) (.cons (dR S2) (.cons (dO S2) .nil))) (by show 3 < 1000; decide) (Same.refl A2) hQ1 fun A3 v1 s3 told1 => ?_
  obtain ⟨T1, rfl, h1⟩ := told_tup w1 told1
  have e3 : ExtN G0 A3 := (e1.trans (ExtN.of s2)).trans (ExtN.of s3)
  have t3 : Tabs T A3 := (t1.ext s2).ext s3
  clear told1 hQ1 S2 s2 s3 e1 t1
  -- the second
  refine ⟨t3, fun B1 e1 t1 B2 s2 Q1 hQ1 => ?_⟩
  have S2 : Same (nt G0) B2 := (K5.ExtN.nt (e3.trans (e1.trans (ExtN.of s2)))).trans nt_same
  refine ⟨_, rfl, _, rfl, _, rfl, ?_⟩
  refine wi_fin (.cons (dA S2) (.cons (dO S2) (.cons (dA S2) (.cons dN .nil)))) (by show 4 < 1000; decide) (Same.refl B2) hQ1 fun B3 v2 s3 told2 => ?_
  obtain ⟨T2, rfl, h2⟩ := told_tup w2 told2
  have e4 : ExtN A3 B3 := (e1.trans (ExtN.of s2)).trans (ExtN.of s3)
  have t4 : Tabs T B3 := (t1.ext s2).ext s3
  have h1 := e4 T1 _ h1 (fun _ z => by cases z)
  have e5 := e3.trans e4
  clear told2 hQ1 S2 s2 s3 e1 t1 t3 e3 e4
  refine ⟨lines (by show 2 ≤ 1000; decide), fun L1 hL1 => ?_⟩
  have sL : Same B3 (upd B3 L1 (.lst [.ref T1, .ref T2])) := (Same.refl B3).new hL1
  have fL : upd B3 L1 (.lst [.ref T1, .ref T2]) L1 = some (.lst [.ref T1, .ref T2]) := upd_same
  have h1 := sL T1 _ h1
  have h2 := sL T2 _ h2
  have e5 := e5.trans (ExtN.of sL)
  have t5 := t4.ext sL
  generalize upd B3 L1 (.lst [.ref T1, .ref T2]) = C0 at fL h1 h2 e5 t5 ⊢
  clear sL hL1 t4
  refine ⟨_, rfl, ?_⟩
  -- the third
  refine ⟨t5, fun A1 e1 t1 A2 s2 Q1 hQ1 => ?_⟩
  have S2 : Same (nt G0) A2 := (K5.ExtN.nt (e5.trans (e1.trans (ExtN.of s2)))).trans nt_same
  refine ⟨_, rfl, _, rfl, ?_⟩
  refine wi_fin (.cons (dR S2) (.cons dN (.cons (dO S2) .nil))) (by show 3 < 1000; decide) (Same.refl A2) hQ1 fun A3 v3 s3 told3 => ?_
  obtain ⟨T3, rfl, h3⟩ := told_tup w3 told3
  have e6 : ExtN C0 A3 := (e1.trans (ExtN.of s2)).trans (ExtN.of s3)
  have t6 : Tabs T A3 := (t1.ext s2).ext s3
  have h1 := e6 T1 _ h1 (fun _ z => by cases z)
  have h2 := e6 T2 _ h2 (fun _ z => by cases z)
  have fL := e6 L1 _ fL (fun _ z => by cases z)
  clear told3 hQ1 S2 s2 s3 e1 t1 t5
  -- the fourth
  refine ⟨t6, fun B1 e1 t1 B2 s2 Q1 hQ1 => ?_⟩
  refine ⟨rfl, fun sa sad hsa hsad sne => ⟨sa, "S", sad, _, rfl, rfl, upd_same, okS.ok.1, okS.ok.2.1, fun q hq => (m2.1 q hq).1, m2.2, fun B3 b3 at3 => ⟨rfl, ?_⟩⟩⟩
  have s3 : Same B2 B3 := made_same hsa hsad b3
  have dS : DcAt K KC RC B3 (.role "S" [("S", "in")]) (.ref sa) := ⟨sa, rfl, at3, okS.ok, m2⟩
  dsimp only [tNil]
  refine wi_fin (.cons dS .nil) (by show 1 < 1000; decide) s3 hQ1 fun B4 v4 s4 told4 => ?_
  obtain ⟨T4, rfl, h4⟩ := told_tup w4 told4
  have e7 : ExtN A3 B4 := (e1.trans (ExtN.of s2)).trans (ExtN.of s4)
  have h1 := e7 T1 _ h1 (fun _ z => by cases z)
  have h2 := e7 T2 _ h2 (fun _ z => by cases z)
  have h3 := e7 T3 _ h3 (fun _ z => by cases z)
  have fL := e7 L1 _ fL (fun _ z => by cases z)
  clear told4 hQ1 s2 s3 s4 e1 t1 e6 e5 e7 hsa hsad b3 at3
  refine ⟨lines (by show 2 ≤ 1000; decide), fun L2 hL2 => ?_⟩
  refine ⟨L1, L2, _, _, rfl, rfl, by rw [upd_ne (ne_of_none fL hL2)]; exact fL, upd_same, lines (by show 4 ≤ 1000; decide), fun L hL => ?_⟩
  have f1 : ∀ {b : Addr} {o : HO}, B4 b = some o → upd (upd B4 L2 (.lst [.ref T3, .ref T4])) L (.lst ([.ref T1, .ref T2] ++ [.ref T3, .ref T4])) b = some o := fun e => ((Same.refl B4).new hL2).new hL _ _ e
  have h1 := f1 h1
  have h2 := f1 h2
  have h3 := f1 h3
  have h4 := f1 h4
  have fL : upd (upd B4 L2 (.lst [.ref T3, .ref T4])) L (.lst ([.ref T1, .ref T2] ++ [.ref T3, .ref T4])) L = some (.lst [.ref T1, .ref T2, .ref T3, .ref T4]) := upd_same
  generalize upd (upd B4 L2 (.lst [.ref T3, .ref T4])) L (.lst ([.ref T1, .ref T2] ++ [.ref T3, .ref T4])) = G1 at h1 h2 h3 h4 fL ⊢
  clear f1 hL hL2
  have two : (2 : Nat) ≤ sizeLine := lines (by decide)
  refine ⟨_, rfl, two, fun u1 hu1' => ⟨two, fun u2 hu2' => ⟨two, fun u3 hu3' => ⟨two, fun u4 hu4' => ⟨lines (by show 4 ≤ 1000; decide), fun M hM => ?_⟩⟩⟩⟩⟩
  have s1 : Same G1 (upd G1 u1 (.tup [.str "name", .str "T"])) := (Same.refl _).new hu1'
  have g1 : upd G1 u1 (.tup [.str "name", .str "T"]) u1 = some (.tup [.str "name", .str "T"]) := upd_same
  generalize upd G1 u1 (.tup [.str "name", .str "T"]) = X1 at s1 g1 hu2' hu3' hu4' hM ⊢
  have s2 : Same X1 (upd X1 u2 (.tup [.str "name", .str "A"])) := (Same.refl _).new hu2'
  have g2 : upd X1 u2 (.tup [.str "name", .str "A"]) u2 = some (.tup [.str "name", .str "A"]) := upd_same
  generalize upd X1 u2 (.tup [.str "name", .str "A"]) = X2 at s2 g2 hu3' hu4' hM ⊢
  have s3 : Same X2 (upd X2 u3 (.tup [.str "declaration", .int 1])) := (Same.refl _).new hu3'
  have g3 : upd X2 u3 (.tup [.str "declaration", .int 1]) u3 = some (.tup [.str "declaration", .int 1]) := upd_same
  generalize upd X2 u3 (.tup [.str "declaration", .int 1]) = X3 at s3 g3 hu4' hM ⊢
  have s4 : Same X3 (upd X3 u4 (.tup [.str "name", .str "S"])) := (Same.refl _).new hu4'
  have g4 : upd X3 u4 (.tup [.str "name", .str "S"]) u4 = some (.tup [.str "name", .str "S"]) := upd_same
  generalize upd X3 u4 (.tup [.str "name", .str "S"]) = X4 at s4 g4 hM ⊢
  have s5 : Same X4 (upd X4 M (.lst [.ref u1, .ref u2, .ref u3, .ref u4])) := (Same.refl _).new hM
  have g5 : upd X4 M (.lst [.ref u1, .ref u2, .ref u3, .ref u4]) M = some (.lst [.ref u1, .ref u2, .ref u3, .ref u4]) := upd_same
  generalize upd X4 M (.lst [.ref u1, .ref u2, .ref u3, .ref u4]) = X5 at s5 g5 ⊢
  have c4 := s4.trans s5
  have c3 := s3.trans c4
  have c2 := s2.trans c3
  have c1 := s1.trans c2
  have tp : ∀ {b : Addr} {r i : Str}, X5 b = some (.tup [.str r, .str i]) → Dp K X5 (.ref b) (.tuple [.str r, .str i]) := fun e => .tup (.inl (.inl e)) (.cons (.str _) (.cons (.str _) .nil))
  have ti : ∀ {b : Addr} {r : Str} {i : Int}, X5 b = some (.tup [.str r, .int i]) → Dp K X5 (.ref b) (.tuple [.str r, .int i]) := fun e => .tup (.inl (.inl e)) (.cons (.str _) (.cons (.int _) .nil))
  refine ⟨.list [.tuple [.str "name", .str "T"], .tuple [.str "name", .str "A"], .tuple [.str "declaration", .int 1], .tuple [.str "name", .str "S"]], .list [.tuple [.str "name", .str "T"], .tuple [.str "name", .str "A"], .tuple [.str "declaration", .int 1], .tuple [.str "name", .str "S"]],
    .lst (.inl (.inl (c1 L _ fL))) (.cons (tp (c1 _ _ h1)) (.cons (tp (c1 _ _ h2)) (.cons (ti (c1 _ _ h3)) (.cons (tp (c1 _ _ h4)) .nil)))),
    .lst (.inl (.inl g5)) (.cons (tp (c2 _ _ g1)) (.cons (tp (c3 _ _ g2)) (.cons (ti (c4 _ _ g3)) (.cons (tp (s5 _ _ g4)) .nil)))), by decide +kernel, by decide +kernel, _, rfl, ?_⟩
  rw [show PyData.eqv (.list [.tuple [.str "name", .str "T"], .tuple [.str "name", .str "A"], .tuple [.str "declaration", .int 1], .tuple [.str "name", .str "S"]]) (.list [.tuple [.str "name", .str "T"], .tuple [.str "name", .str "A"], .tuple [.str "declaration", .int 1], .tuple [.str "name", .str "S"]]) = true from by decide +kernel]
  refine iteF ?_
  refine ⟨WC, mw, _, _, rfl, rd, ck, WC, mw, _, _, rfl, rd, cr, fun wx wdx hwx hwdx wne => ⟨wx, wdx, [], [], rfl, upd_same, .nil, by decide, fun _ Y1 bw wa => ⟨rfl, ?_⟩, fun r i e => by rw [due_nil] at e; cases e⟩⟩
  obtain ⟨dx, t, kt, rt, dd, fs, q1, q2, q3, _⟩ := wa
  refine ⟨wx, WC, dx, fs, _, rfl, q1, by simp, q2, fun vx vdx hvx hvdx vne => ⟨vx, vdx, [], [], rfl, upd_same, .nil, by decide, fun _ Y2 bw2 wa2 => ⟨rfl, ?_⟩, fun r i e => by rw [due_nil] at e; cases e⟩⟩
  have y2 : Same Y1 Y2 := made_same hvx hvdx bw2
  have q3 := y2 t _ q3
  obtain ⟨dx2, _, _, _, _, fs2, p1, _⟩ := id wa2
  refine ⟨vx, dx2, fs2, rfl, p1, vx, .str "Object", [], [], rfl, wa2, true, .inl ⟨_, rfl, by rw [decide_eq_true rfl]; rfl⟩, true, rfl, lines (by show 4 ≤ 1000; decide), fun M1 hM1 => ?_⟩
  have k1 : upd Y2 M1 (.lst [.int 12, .int 8, .ref t, .bl true]) M1 = some (.lst [.int 12, .int 8, .ref t, .bl true]) := upd_same
  have q4 : upd Y2 M1 (.lst [.int 12, .int 8, .ref t, .bl true]) t = some (.tup []) := (Same.refl Y2).new hM1 t _ q3
  refine ⟨Nat.zero_le _, fun te hte => ⟨lines (by show 4 ≤ 1000; decide), fun M2 hM2 => ?_⟩⟩
  have z1 := (Same.refl _).new (o := .tup []) hte
  have z2 := z1.new (o := .lst [.int 12, .int 8, .ref te, .bl true]) hM2
  have q5 : upd (upd (upd Y2 M1 (.lst [.int 12, .int 8, .ref t, .bl true])) te (.tup [])) M2 (.lst [.int 12, .int 8, .ref te, .bl true]) te = some (.tup []) := (Same.refl _).new hM2 te _ upd_same
  refine ⟨.list [.int 12, .int 8, .tuple [], .bool true], .list [.int 12, .int 8, .tuple [], .bool true], .lst (.inl (.inl (z2 _ _ k1))) (.cons (.int _) (.cons (.int _) (.cons (.tup (.inl (.inl (z2 _ _ q4))) .nil) (.cons (.bl _) .nil)))),
    .lst (.inl (.inl upd_same)) (.cons (.int _) (.cons (.int _) (.cons (.tup (.inl (.inl q5)) .nil) (.cons (.bl _) .nil)))), by decide +kernel, by decide +kernel, ?_⟩
  rw [show PyData.eqv (.list [.int 12, .int 8, .tuple [], .bool true]) (.list [.int 12, .int 8, .tuple [], .bool true]) = true from by decide +kernel]
  exact k _
end
end K5

/-! ==== H5A ==== -/
set_option Elab.async false
set_option linter.all false
set_option maxRecDepth 100000
set_option maxHeartbeats 4000000
/-! What the head has left, by Bools over a part of the heap. -/
namespace Hf
open PySem PySem.Spec PyProof.Rows L2 StX ClX SuX OwX EqO He
/-! ### defs -/
theorem isNone_ok {v : Value} (h : isNoneB v = true) : v = .none := by cases v <;> first | rfl | cases h
/-- a def, its code's value told -/
theorem fun_all {K : PySem.W.Frag} {d : Df} (hc : d.clo = []) (e : fnV K (d.at_ K) = d.val) (b : funB K (d.at_ K) d.qual = true) : ∃ (oc : Value) (od : Option Addr) (kV doc pm : Value) (an : Option Addr) (cdv ct : Value) (osl : Array (Option Value)),
    K.lookup (d.at_ K) = some ⟨oc, od, .func (PySem.W.fnOf d.name d.qual (defArgs d.st) (defBody d.st) (defScope d.st) .none kV doc pm an cdv ct), osl⟩ ∧ PySem.W.codeIn K cdv d.qual = true ∧ PySem.W.keepIn K (.ref (d.at_ K)) = true := by
  obtain ⟨b1, b2⟩ := ba b
  unfold fnV at e
  cases q : K.lookup (d.at_ K) with
  | none => rw [q] at b2; cases b2
  | some o =>
    obtain ⟨oc, od, dt, osl⟩ := o
    rw [q] at b2 e
    cases dt with
    | func fd =>
      obtain ⟨n1, n2, n3, n4, n5, n6, n7, n8, n9, n10, n11, n12, n13, n14, n15⟩ := fd
      have e2 : (some (n1, n2, n3, n4, n5, n6, n7.map (·.1), n15) : FnV) = some (d.name, d.qual, defArgs d.st, .stmts (defBody d.st), defScope d.st, mainGlobals, d.clo, builtinsNs) := e
      rw [hc] at e2
      simp only [Option.some.injEq, Prod.mk.injEq, List.map_eq_nil_iff] at e2
      obtain ⟨h1, h2, h3, h4, h5, h6, h7, h8⟩ := e2
      subst h1 h2 h3 h4 h5 h6 h7 h8
      obtain ⟨c1, c2⟩ := ba (show (PySem.W.codeIn K n13 _ && isNoneB n8) = true from b2)
      obtain rfl := isNone_ok c2
      exact ⟨oc, od, n9, n10, n11, n12, n13, n14, osl, rfl, c1, b1⟩
    | _ => cases b2
theorem fun_of {K : PySem.W.Frag} {d : Df} (hc : d.clo = []) (e : fnV K (d.at_ K) = d.val) (b : funB K (d.at_ K) d.qual = true) : ∃ fd, Fun K d.name d.qual d.st (d.at_ K) fd := by
  obtain ⟨oc, od, kV, doc, pm, an, cdv, ct, osl, h1, h2, h3⟩ := fun_all hc e b
  exact ⟨_, fun_mk h1 h2 h3⟩
theorem funK_of {K : PySem.W.Frag} {d : Df} (hc : d.clo = []) (e : fnV K (d.at_ K) = d.val) (b : funB K (d.at_ K) d.qual = true) : ∃ fd, K5.FunK K d.name d.qual d.st (d.at_ K) fd (codeAt K (d.at_ K)) := by
  obtain ⟨oc, od, kV, doc, pm, an, cdv, ct, osl, h1, h2, h3⟩ := fun_all hc e b
  obtain ⟨c, rfl⟩ := codeIn_ref h2
  have hcode : codeAt K (d.at_ K) = c := by
    unfold codeAt
    rw [h1]
  exact ⟨_, ⟨⟨oc, od, kV, doc, pm, an, ct, osl, by rw [hcode], h1, by rw [hcode]; exact h2⟩, h3⟩⟩
theorem funX_of {P : Program} {K : PySem.W.Frag} {d : Df} {D : Addr} {dvs : List V} (hc : d.clo = [("__class__" : Str)]) (e : fnV K (d.at_ K) = d.val) (b : funXB K (d.at_ K) D d.qual P.main.file dvs = true) : ∃ fd, FunX P K d.name d.qual d.st dvs D (d.at_ K) fd := by
  obtain ⟨b1, b2⟩ := ba b
  obtain ⟨b3, b4⟩ := ba b2
  unfold fnV at e
  cases q : K.lookup (d.at_ K) with
  | none => rw [q] at b4; cases b4
  | some o =>
    obtain ⟨oc, od, dt, osl⟩ := o
    rw [q] at b4 e
    cases dt with
    | func fd =>
      obtain ⟨n1, n2, n3, n4, n5, n6, n7, n8, n9, n10, n11, n12, n13, n14, n15⟩ := fd
      have e2 : (some (n1, n2, n3, n4, n5, n6, n7.map (·.1), n15) : FnV) = some (d.name, d.qual, defArgs d.st, .stmts (defBody d.st), defScope d.st, mainGlobals, d.clo, builtinsNs) := e
      rw [hc] at e2
      simp only [Option.some.injEq, Prod.mk.injEq] at e2
      obtain ⟨h1, h2, h3, h4, h5, h6, h7, h8⟩ := e2
      subst h1 h2 h3 h4 h5 h6 h8
      obtain ⟨c1, c2⟩ := ba b4
      obtain ⟨c3, c4⟩ := ba c2
      obtain ⟨c5, c6⟩ := ba c4
      dsimp only at c1 c3 c5 c6
      split at c5
      · rename_i nm cc
        have hn : nm = ("__class__" : Str) := by
          have : [nm] = [("__class__" : Str)] := h7
          exact List.head_eq_of_cons_eq this
        subst hn
        split at c5
        · rename_i cl cld D' csl hcell
          have hD : D' = D := of_decide_eq_true c5
          subst hD
          split at c6
          · rename_i cda
            split at c6
            · rename_i ccl cdd vs ccs hcode
              split at c6
              · rename_i fl tf hfile
                obtain ⟨cd, hcd⟩ := Option.isSome_iff_exists.mp b3
                exact ⟨_, ⟨oc, od, n8, n9, n10, n11, n12, cda, cc, n14, osl, cl, cld, csl, ccl, cdd, vs, ccs, fl, tf, rfl, q, c1, dflB_ok c3, hcell, hcode, hfile, c6⟩, b1, cd, hcd⟩
              · cases c6
            · cases c6
          · cases c6
        · cases c5
      · cases c5
    | _ => cases b4
end Hf

/-! ==== H5B ==== -/
set_option Elab.async false
set_option linter.all false
set_option maxRecDepth 100000
set_option maxHeartbeats 4000000
namespace Hf
open PySem PySem.Spec PyProof.Rows L2 StX ClX SuX OwX EqO He K5
section
variable {K : PySem.W.Frag} {C : Addr}
/-! ### classes -/
theorem clsB_ok (h : clsB K C = true) : Cls K C := by
  obtain ⟨c1, c⟩ := ba h
  obtain ⟨c2, c⟩ := ba c
  obtain ⟨c3, c4⟩ := ba c
  exact ⟨c1, c2, c3, eqO_ok c4⟩
theorem insB_ok {fs : List Str} (h : insB K C fs = true) : InsK K C fs := by
  obtain ⟨c1, c2⟩ := ba h
  exact ⟨clsB_ok c1, fun f hf => eqO_ok (List.all_eq_true.mp c2 f hf)⟩
theorem instB_ok (h : instB K C = true) : InstT K C := by
  obtain ⟨c1, c⟩ := ba h
  obtain ⟨c2, c⟩ := ba c
  obtain ⟨c3, c4⟩ := ba c
  obtain ⟨c5, c6⟩ := ba c3
  exact ⟨clsB_ok c1, eqO_ok c2, eqO_ok c5, of_decide_eq_true c6, of_decide_eq_true c4⟩
theorem mkB_ok (h : mkB K C = true) : Mk K C (ma K C "__init__") := by
  obtain ⟨c1, c⟩ := ba h
  obtain ⟨c2, c⟩ := ba c
  obtain ⟨c3, c4⟩ := ba c
  exact ⟨c1, eqO_ok c2, c3, c4⟩
theorem methB_ok {m : Str} (h : methB K C m = true) : Meth K C m (ma K C m) := by
  obtain ⟨c1, c⟩ := ba h
  obtain ⟨c2, c3⟩ := ba c
  exact ⟨eqO_ok c1, c2, c3⟩
theorem opB_ok {m : Str} (h : opB K C m = true) : OpDef K C m (ma K C m) := by
  obtain ⟨c1, c⟩ := ba h
  obtain ⟨c2, c3⟩ := ba c
  exact ⟨eqO_ok c1, c2, c3⟩
theorem recB_ok {f : Str} {T : String} (h : recB K C f T = true) : ∃ rest, PySem.W.recIn K (ma K C f) T = some (.ref (rg K C f T) :: rest) := by
  unfold recB at h
  unfold rg
  split at h
  · rename_i g rest q
    rw [q]
    exact ⟨rest, rfl⟩
  · cases h
theorem propB_ok {f : Str} (h : propB K C f = true) : PropOf K C f (ma K C f) (rg K C f "property") := by
  obtain ⟨c1, c⟩ := ba h
  obtain ⟨c2, c⟩ := ba c
  obtain ⟨c3, c4⟩ := ba c
  exact ⟨eqO_ok c1, eqO_ok c2, of_decide_eq_true c3, recB_ok c4⟩
/-! ### what is read of a class -/
theorem creadB_ok (h : creadB K C = true) : CRead K C (.type "type") := by
  obtain ⟨c1, c2⟩ := ba h
  exact ⟨c1, eqO_ok c2⟩
theorem cvalB_ok {f : Str} {i : Int} (h : cvalB K C f i = true) : ∃ t, CVal K C (.type "type") f (.int i) (.int i t) := by
  unfold cvalB at h
  split at h
  · rename_i j t q
    obtain rfl : j = i := of_decide_eq_true h
    exact ⟨t, q, ⟨t, rfl⟩⟩
  · cases h
theorem cmetB_ok {m : Str} (h : cmetB K C m = true) : CMet K C (.type "type") m (ma K C m) (rg K C m "classmethod") := by
  obtain ⟨c1, c⟩ := ba h
  obtain ⟨c2, c3⟩ := ba c
  refine ⟨?_, recB_ok c2, c3⟩
  split at c1
  · rename_i n p C' q
    obtain ⟨h1, h2⟩ := ba c1
    obtain ⟨h3, h4⟩ := ba h2
    rw [q, of_decide_eq_true h1, of_decide_eq_true h3, of_decide_eq_true h4]
  · cases c1
/-! ### super -/
theorem supB_ok {D : Addr} {m : Str} (h : supB K C D m = true) (hm : (m == ("__class__" : Str)) = false) : SupM K C D (sf K C D m) m ∧ PySem.W.mroIn K C (.ref D) = some true := by
  obtain ⟨c1, c⟩ := ba h
  obtain ⟨c2, c⟩ := ba c
  obtain ⟨c3, c4⟩ := ba c
  exact ⟨⟨eqO_ok c1, of_decide_eq_true c2, c3, hm⟩, of_decide_eq_true c4⟩
/-! ### exceptions -/
theorem oexB_ok (h : oexB K C = true) : OexC K C := by
  obtain ⟨c1, c⟩ := ba h
  obtain ⟨c2, c⟩ := ba c
  obtain ⟨c3, c⟩ := ba c
  obtain ⟨c4, c5⟩ := ba c
  refine ⟨?_, eqO_ok c2, of_decide_eq_true c3, of_decide_eq_true c4, c5⟩
  cases q : K.lookup C with
  | none => rw [q] at c1; cases c1
  | some o =>
    obtain ⟨oc, od, dt, sl⟩ := o
    rw [q] at c1
    cases oc with
    | type t =>
      cases dt with
      | cls cd =>
        obtain ⟨h1, h2⟩ := ba c1
        obtain rfl : t = "type" := of_decide_eq_true h1
        split at h2
        · rename_i C' bm k0 k1 k2 k3 n k5 hm hs
          obtain ⟨h3, h4⟩ := ba h2
          obtain ⟨h5, h6⟩ := ba h4
          obtain ⟨h7, h8⟩ := ba h6
          obtain ⟨h9, h10⟩ := ba h8
          obtain rfl : C' = C := of_decide_eq_true h3
          obtain rfl : n = "ValueError.__new__" := of_decide_eq_true h5
          obtain ⟨nm, bs, mro, ns, qn, hd, sn, sub, ab, col, del⟩ := cd
          have g7 : del = false := by
            have : (!del) = true := h7
            cases del with
            | true => cases this
            | false => rfl
          have g9 : hd = true := h9
          dsimp only at hm
          subst hm g7 g9
          have hsl : sl = #[k0, k1, k2, k3, some (.builtin "ValueError.__new__"), k5] := by
            obtain ⟨l⟩ := sl
            simp only at hs
            rw [hs]
          subst hsl
          exact ⟨nm, qn, ns, bs, bm, sn, sub, ab, col, od, k0, k1, k2, k3, k5, rfl, h10⟩
        · cases h2
      | _ => cases c1
    | _ => cases c1
theorem exck_ok (h1 : oexB K C = true) (h2 : supvB K C = true) : ExcK K C := by
  obtain ⟨c1, c⟩ := ba h2
  obtain ⟨c2, c3⟩ := ba c
  exact ⟨oexB_ok h1, ⟨eqO_ok c1, of_decide_eq_true c2⟩, of_decide_eq_true c3⟩
theorem exccB_ok (h : exccB K C = true) : ExcC K C ∧ XfC K C := by
  obtain ⟨c1, c⟩ := ba h
  obtain ⟨c2, c⟩ := ba c
  obtain ⟨c3, c4⟩ := ba c
  obtain ⟨c5, c6⟩ := ba c3
  have x := L2.xfB_ok c1
  exact ⟨⟨x.ga, x.gg, x.exC, x.hdC, eqO_ok c2, eqO_ok c5, of_decide_eq_true c6, of_decide_eq_true c4⟩, x⟩
theorem noB_ok {fs : List Str} (h : noB K C fs = true) {f : Str} (hf : f ∈ fs) : PySem.W.findIn K (.ref C) f = some none := eqO_ok (List.all_eq_true.mp h f hf)
/-! ### more -/
theorem kitB_ok {t c : Value} {b : Bool} (h : kitB K t c b = true) : PySem.W.kitOne K t c = some b := of_decide_eq_true h
theorem exmB_ok {t c : Value} (h : exmB K t c = true) : PySem.W.exmOne K t c = some true := of_decide_eq_true h
theorem neB_ok (h : neB K C = true) : NeK K C := by
  obtain ⟨c1, c⟩ := ba h
  obtain ⟨c2, c3⟩ := ba c
  exact ⟨of_decide_eq_true c1, eqO_ok c2, eqO_ok c3⟩
theorem tupObB_ok {a : Addr} (h : tupObB K a = true) : ∃ o, K.lookup a = some o ∧ o.cls = .type "tuple" ∧ o.dict = none := by
  unfold tupObB at h
  split at h
  · rename_i t dt sl q
    exact ⟨_, q, congrArg Value.type (of_decide_eq_true h), rfl⟩
  · cases h
end
end Hf

/-! ==== H5C ==== -/
set_option Elab.async false
set_option linter.all false
set_option maxRecDepth 100000
set_option maxHeartbeats 0
/-! k05: the head. -/
namespace K5
open PySem PySem.Spec PyProof.Rows L2 StX ClX SuX Sh KwX He Hf
/-! ### facts -/
abbrev Al5 : Type := Bool × List Hf.FnV
def obs5 (g : Addr → Option Obj) : Al5 := (ex5 (fr5 g) && tb5 g (fr5 g), fnsA.map fun d => fnV (fr5 g) (d.at_ (fr5 g)))
def val5 : Al5 := (true, fnsA.map Df.val)
structure Says5 (h : Heap) (K : PySem.W.Frag) : Prop where
  ex : ex5 K = true
  fn : (fnsA.map fun d => fnV K (d.at_ K)) = fnsA.map Df.val
  hd : ∀ x ∈ tfs, PySem.W.codeHdIn K (codeAt K (ga K x)) (tab5 K x) = true
  out : ∀ x ∈ tfs, K.lookup (tab5 K x) = none
  empty : ∀ x ∈ tfs, h.get? (tab5 K x) = some { cls := .none, data := .fields #[] }
theorem tb5_ok {g : Addr → Option Obj} {K : PySem.W.Frag} (h : tb5 g K = true) {x : Str} (hx : x ∈ tfs) : PySem.W.codeHdIn K (codeAt K (ga K x)) (tab5 K x) = true ∧ ∃ o, g (tab5 K x) = some o ∧ emptyTab o = true := by
  have h0 : (PySem.W.codeHdIn K (codeAt K (ga K x)) (tab5 K x) && (match g (tab5 K x) with
    | some o => emptyTab o
    | none => false)) = true := List.all_eq_true.mp h x hx
  obtain ⟨h3, h4⟩ := ba h0
  refine ⟨h3, ?_⟩
  cases q : g (tab5 K x) with
  | none => rw [q] at h4; cases h4
  | some o => rw [q] at h4; exact ⟨o, rfl, h4⟩
theorem says5_gen {h : Heap} {K : PySem.W.Frag} (hK : ∀ a o, h.get? a = some o → emptyTab o = true → K.lookup a = none) (h1 : ex5 K = true) (h2 : tb5 h.get? K = true) (e2 : (fnsA.map fun d => fnV K (d.at_ K)) = fnsA.map Df.val) : Says5 h K :=
  ⟨h1, e2, fun x hx => (tb5_ok h2 hx).1, fun x hx => let ⟨_, o, q, z⟩ := tb5_ok h2 hx; hK _ o q z, fun x hx => let ⟨_, o, q, z⟩ := tb5_ok h2 hx; by rw [q, emptyTab_eq z]⟩
theorem says5_of {h : Heap} (e : obs5 h.get? = val5) : Says5 h (fr5 h.get?) := by
  unfold obs5 val5 at e
  injection e with e1 e2
  rw [Bool.and_eq_true] at e1
  exact says5_gen (fun a o q z => frT_none q z) e1.1 e1.2 e2
def hook5 : PySem.W.Hook where
  α := Al5
  obs := fun s => obs5 s.heap.get?
  val := fun _ => val5
  says := fun _ h => ∃ K : PySem.W.Frag, K.In h ∧ Says5 h K
  of := fun _ _ e => ⟨_, frT_in, says5_of e⟩
  keeps := fun _ _ _ ⟨K, hK, c⟩ k => ⟨K, PySem.W.Frag.In.keeps hK k, ⟨c.ex, c.fn, c.hd, c.out, fun x hx => k _ _ (c.empty x hx)⟩⟩
def ob5 (s : PySem.W.SharedT) : Al5 := obs5 (HandSHeadRun.getT s)
theorem ob5_eq (s : PySem.W.SharedT) : ob5 s = hook5.obs s.abs := by
  have e : HandSHeadRun.getT s = s.abs.heap.get? := funext (HandSHeadRun.getT_eq s)
  show obs5 (HandSHeadRun.getT s) = obs5 s.abs.heap.get?
  rw [e]
end K5

/-! ==== H5D2 ==== -/
set_option Elab.async false
set_option linter.all false
set_option maxRecDepth 100000
set_option maxHeartbeats 0
namespace K5
open PySem PySem.Spec PyProof.Rows L2 He Hf
/-- two looks at one run -/
theorem map_two {α β γ : Type} {o : Option α} {f : α → β} {g : α → γ} {b : β} {c : γ} (h1 : o.map f = some b) (h2 : o.map g = some c) : o.map (fun s => (f s, g s)) = some (b, c) := by
  cases o with
  | none => cases h1
  | some s =>
    have e1 : f s = b := Option.some.inj h1
    have e2 : g s = c := Option.some.inj h2
    rw [← e1, ← e2]
    rfl
theorem map_to {α β γ : Type} {o : Option α} {f : α → β} {g : α → γ} {b : β} {c : γ} (h : o.map f = some b) (k : ∀ s, f s = b → g s = c) : o.map g = some c := by
  cases o with
  | none => cases h
  | some s => exact congrArg some (k s (Option.some.inj h))
theorem obs5_of {g : Addr → Option Obj} (h1 : exP1 (fr5 g) = true) (h2 : exP2 (fr5 g) = true) (h3 : tb5 g (fr5 g) = true) (h4 : (fnsA.map fun d => fnV (fr5 g) (d.at_ (fr5 g))) = fnsA.map Df.val) : obs5 g = val5 := by
  unfold obs5 val5
  rw [h4]
  congr 1
  rw [Bool.and_eq_true]
  refine ⟨?_, h3⟩
  unfold exP1 at h1
  unfold exP2 at h2
  unfold ex5
  simp only [Bool.and_eq_true] at h1 h2 ⊢
  obtain ⟨a, b, c⟩ := h1
  obtain ⟨d, e, f, g, h, i, j, k, l⟩ := h2
  exact ⟨a, b, c, d, e, f, g, h, i, j, k, l⟩
theorem run5 (w : World) : HandSHeadRun.RunEq R5 (PySem.W.view R5.prog [116]) hook5 ob5 20000 nmsA w := fun os =>
  map_two (run5L w os) (map_two (run5S w os) (map_to (map_two (run5A w os) (map_two (run5B w os) (map_two (run5T w os) (run5N w os)))) fun s h => by
    injection h with h1 h
    injection h with h2 h
    injection h with h3 h4
    exact obs5_of h1 h2 h3 h4))
end K5

/-! ==== H5E ==== -/
set_option Elab.async false
set_option linter.all false
set_option maxRecDepth 100000
set_option maxHeartbeats 4000000
/-! k05: from the head's facts to the law's promise. -/
namespace K5
open PySem PySem.Spec PyProof.Rows L2 StX ClX SuX Sh KwX He Hf OwX EqO LamX LamD
section
variable {w : World} {K : PySem.W.Frag} {h base : Heap} {mg : Str → Option Value}
theorem fnA (c : Says5 h K) (i : Nat) {d : Df} (hd : fnsA[i]? = some d) : fnV K (d.at_ K) = d.val := by
  have e2 : (fnsA.map fun d => fnV K (d.at_ K))[i]? = (fnsA.map Df.val)[i]? := by rw [c.fn]
  rw [List.getElem?_map, List.getElem?_map, hd] at e2
  exact Option.some.inj e2
structure Ex5 (K : PySem.W.Frag) : Prop where
  a : exA K = true
  b : exB K = true
  c : exC K = true
  d : exD K = true
  e : exE K = true
  f : exF K = true
  g : exG K = true
  h : exH K = true
  i : exI K = true
  j : exJ K = true
  k : exK K = true
  l : exL K = true
theorem ex_all (h : ex5 K = true) : Ex5 K := by
  unfold ex5 at h
  simp only [Bool.and_eq_true] at h
  obtain ⟨a, b, c, d, e, f, g, h, i, j, k, l⟩ := h
  exact ⟨a, b, c, d, e, f, g, h, i, j, k, l⟩
theorem fnP (c : Says5 h K) (i : Nat) {d : Df} (hd : fnsP[i]? = some d) (hi : fnsA[i]? = some d) : fnV K (d.at_ K) = d.val ∧ funB K (d.at_ K) d.qual = true := by
  have q := List.all_eq_true.mp (ex_all c.ex).b d (List.mem_of_getElem? hd)
  rw [Bool.and_eq_true] at q
  exact ⟨fnA c i hi, q.1⟩
/-- the i-th plain def -/
theorem defP (c : Says5 h K) (i : Nat) {d : Df} (hd : fnsP[i]? = some d := by rfl) (hi : fnsA[i]? = some d := by rfl) (hc : d.clo = [] := by rfl) : ∃ fd, Fun K d.name d.qual d.st (d.at_ K) fd :=
  let ⟨e, b⟩ := fnP c i hd hi; fun_of hc e b
theorem defC (c : Says5 h K) (i : Nat) {d : Df} (hd : fnsP[i]? = some d := by rfl) (hi : fnsA[i]? = some d := by rfl) (hc : d.clo = [] := by rfl) : ∃ fd, FunK K d.name d.qual d.st (d.at_ K) fd (codeAt K (d.at_ K)) :=
  let ⟨e, b⟩ := fnP c i hd hi; funK_of hc e b
/-! ### names -/
structure Nm5 (mg : Str → Option Value) (K : PySem.W.Frag) : Prop where
  free : ∀ x ∈ frees, mg x = none
  glo : ∀ x ∈ globs, mg x = some (.ref (ga K x))
  glf : ∀ x ∈ globF, mg x = some (.ref (ga K x))
  gll : ∀ x ∈ globL, mg x = some (.ref (ga K x))
  int : ∀ q ∈ intL, ∃ t, mg q.1 = some (.int q.2 t)
  str : ∀ q ∈ strL, ∃ t, mg q.1 = some (.str q.2 t)
  tp : PySem.W.nsIn K cStatics "thirdparty.any" = some none
theorem nm_of (X : K.In h) (G : h.Ns mainGlobals mg) (e : exA K = true) : Nm5 mg K := by
  unfold exA at e
  simp only [Bool.and_eq_true] at e
  obtain ⟨a, b, c, d, f, g, t⟩ := e
  exact ⟨fun x hx => free_ok X G (List.all_eq_true.mp a x hx), fun x hx => glo_ok X G (List.all_eq_true.mp b x hx), fun x hx => glo_ok X G (List.all_eq_true.mp c x hx), fun x hx => glo_ok X G (List.all_eq_true.mp d x hx), fun q hq => int_ok X G (List.all_eq_true.mp f q hq), fun q hq => str_ok X G (List.all_eq_true.mp g q hq), eqO_ok t⟩
theorem blt_of (N : Nm5 mg K) : Blt mg := ⟨N.free _ (by decide +kernel), N.free _ (by decide +kernel), N.free _ (by decide +kernel), N.free _ (by decide +kernel), N.free _ (by decide +kernel), N.free _ (by decide +kernel)⟩
theorem blw_of (N : Nm5 mg K) : Blw mg := ⟨N.free _ (by decide +kernel), N.free _ (by decide +kernel), N.free _ (by decide +kernel), N.free _ (by decide +kernel), N.free _ (by decide +kernel), N.free _ (by decide +kernel)⟩
theorem nmk_of (N : Nm5 mg K) : NmK mg := ⟨N.int ("MAX_NAME", 20) (by decide +kernel), N.str ("LETTERS", LET) (by decide +kernel), N.str ("SIGNS", SGN) (by decide +kernel), N.str ("NEVER", "Never") (by decide +kernel), N.str ("OBJECT", "Object") (by decide +kernel), N.free _ (by decide +kernel)⟩
theorem supk_of (N : Nm5 mg K) : SupK prg K mg := ⟨N.free _ (by decide +kernel), by decide +kernel, N.tp⟩
theorem markk_of (N : Nm5 mg K) (e : exK K = true) : MarkK K mg (ga K "MARKS") := by
  unfold exK at e
  rw [Bool.and_eq_true] at e
  exact ⟨N.glo _ (by decide +kernel), fun H => tupB_ok e.1 H, tupObB_ok e.2⟩
theorem got_of {P : Program} {CX : CXT} {x : Str} {st : Stmt} {ps : List Str} {k : Nat} {sp : Sp} {fd : FuncData} (hm : mg x = some (.ref (ga K x))) (F : Fun K x x st (ga K x) fd) (hb : Binds K fd ps []) (ok : FnOk P w K mg base CX k (ga K x) fd ps sp) : Got P w K mg base CX x ps k sp :=
  ⟨_, fd, hm, F.kp, hb, ok⟩
/-! ### properties -/
theorem propg_of {C : Addr} {fld q : Str} {f : Str} {st : Stmt} {N : List Str} {p1 p2 p3 : Pos} {fd : FuncData} (hp : propB K C f = true) (F : Fun K f q st (rg K C f "property") fd) (S : FnScope N ["self"] (defScope st)) (hN : N[0]? = some ("self" : Str)) (hb : defBody st = [.Return (some (.Attribute (.Name "self" p1) fld p2)) p3])
    (cl : Cls K C) (n : NoAttr K C fld) (hbd : ∀ (kV doc pm : Value) (an : Option Addr) (cdv ct : Value) (us : List Value), us.length = (["self"] : List Str).length → bindArgs (PySem.W.fnOf f q (defArgs st) (defBody st) (defScope st) .none kV doc pm an cdv ct) ⟨us, []⟩ = pure ((["self"] : List Str).zip us)) : PropG prg w K mg base C f fld := by
  have b := F.binds (ps := ["self"]) hbd
  obtain ⟨oc, od, kV, doc, pm, an, cdv, ct, osl, rfl, lk, hcd⟩ := F.ex
  exact ⟨cl, _, _, _, propB_ok hp, b, fn_getter lk hcd S hN hb cl n⟩
end
end K5

/-! ==== H5F ==== -/
set_option Elab.async false
set_option linter.all false
set_option maxRecDepth 100000
set_option maxHeartbeats 4000000
/-! k05: each def's promise, from the head's facts. -/
namespace K5
open PySem PySem.Spec PyProof.Rows L2 StX ClX SuX Sh KwX He Hf OwX EqO LamX LamD
section
variable {w : World} {K : PySem.W.Frag} {h base : Heap} {mg : Str → Option Value}
abbrev KC5 (K : PySem.W.Frag) : Addr := ga K "Kind"
abbrev RC5 (K : PySem.W.Frag) : Addr := ga K "Role"
abbrev WC5 (K : PySem.W.Frag) : Addr := ga K "World"
abbrev PC5 (K : PySem.W.Frag) : Addr := ga K "Plan"
abbrev BC5 (K : PySem.W.Frag) : Addr := ga K "Book"
abbrev US5 (K : PySem.W.Frag) : Addr := ga K "Uses"
abbrev DC5 (K : PySem.W.Frag) : Addr := ga K "Declaration"
abbrev IC5 (K : PySem.W.Frag) : Addr := ga K "InvalidWorld"
abbrev UC5 (K : PySem.W.Frag) : Addr := ga K "UnknownName"
abbrev SE5 (K : PySem.W.Frag) : Addr := ga K "ShapetypesError"
theorem bindsX {P : Program} {x qual : Str} {st : Stmt} {dvs : List V} {D f : Addr} {fd : FuncData} {ps : List Str} (F : FunX P K x qual st dvs D f fd) (n j : Nat) (hd : dvs ≠ []) (hn : n + (dvs.length - j) = ps.length)
    (hb : ∀ (T : Addr) (kV doc pm : Value) (an : Option Addr) (cdv ct : Value) (cc : Addr) (us its : List Value), us.length = n → its.length = dvs.length →
      ∃ k, bindArgs (kFn x qual (defArgs st) (defBody st) (defScope st) (.ref T) kV doc pm an cdv ct cc) ⟨us, []⟩ = seqItems? (.ref T) >>= k ∧ k (some its.toArray) = pure (ps.zip (us ++ its.drop j))) : ∃ ds, Vals (dvs.drop j) ds ∧ Binds K fd ps ds := by
  obtain ⟨oc, od, dV, kV, doc, pm, an, cda, cc, ct, osl, cl, cld, csl, ccl, cdd, vs, ccs, file, tf, rfl, lk, hcd, hD, _⟩ := F.ex
  rcases hD with ⟨e, _⟩ | ⟨_, T, o, its, m, rfl, lT, oT, rT⟩
  · exact absurd e hd
  refine ⟨its.drop j, rT.drop j, fun s us X hl => ?_⟩
  have l1 : its.length = dvs.length := rT.length.symm
  have l2 : us.length = n := by
    rw [List.length_append, List.length_drop, l1] at hl
    omega
  obtain ⟨k, e1, e2⟩ := hb T kV doc pm an (.ref cda) ct cc us its l2 l1
  refine BindsTo.of_looks fun M => ?_
  rw [e1]
  exact looks_items X lT oT (.of_pure e2)
theorem bindsXN {P : Program} {x qual : Str} {st : Stmt} {D f : Addr} {fd : FuncData} {ps : List Str} (F : FunX P K x qual st [] D f fd)
    (hb : ∀ (kV doc pm : Value) (an : Option Addr) (cdv ct : Value) (cc : Addr) (us : List Value), us.length = ps.length → bindArgs (kFn x qual (defArgs st) (defBody st) (defScope st) .none kV doc pm an cdv ct cc) ⟨us, []⟩ = pure (ps.zip us)) : Binds K fd ps [] := by
  obtain ⟨oc, od, dV, kV, doc, pm, an, cda, cc, ct, osl, cl, cld, csl, ccl, cdd, vs, ccs, file, tf, rfl, lk, hcd, hD, _⟩ := F.ex
  rcases hD with ⟨_, rfl⟩ | ⟨e, _⟩
  · exact .all (hb kV doc pm an _ ct cc)
  · exact absurd rfl e
/-- names and errors -/
structure Q1 (w : World) (K : PySem.W.Frag) (mg : Str → Option Value) (base : Heap) : Prop where
  brief : Got prg w K mg base CX0 "brief" ["value"] 1 (spBrief K)
  isname : Got prg w K mg base CX0 "is_name" ["value"] 1 (spIsName K)
  isfree : Got prg w K mg base CX0 "is_free_name" ["value"] 2 spFree
  ismark : Got prg w K mg base CX0 "is_mark" ["value"] 1 spMark
  iw : ∃ fd, FnOk prg w K mg base CX0 2 (ma K (IC5 K) "__init__") fd ["self", "rule", "item"] (spIW K (IC5 K)) ∧ Binds K fd ["self", "rule", "item"] [] ∧ ∃ ds, Vals [V.non] ds ∧ Binds K fd ["self", "rule", "item"] ds
  un : ∃ fd, FnOk prg w K mg base CX0 2 (ma K (UC5 K) "__init__") fd ["self", "word"] (spUN K (UC5 K)) ∧ Binds K fd ["self", "word"] []
theorem q1_of (c : Says5 h K) (N : Nm5 mg K) : Q1 w K mg base := by
  have B := blt_of N
  have M := nmk_of N
  have E := ex_all c.ex
  have T := supk_of N
  have MK := markk_of N E.k
  obtain ⟨t40, g40⟩ := N.int ("MAX_SHOWN", 40) (by decide +kernel)
  obtain ⟨fd1, F1⟩ : ∃ fd, Fun K "brief" "brief" sBrief (ga K "brief") fd := defP c 0
  have G1 : Got prg w K mg base CX0 "brief" ["value"] 1 (spBrief K) := got_of (N.glf _ (by decide +kernel)) F1 (F1.binds fun _ _ _ _ _ _ us hl => match us, hl with | [_], _ => rfl) (ok_brief F1 B g40)
  obtain ⟨fd2, F2⟩ : ∃ fd, Fun K "is_name" "is_name" sIsName (ga K "is_name") fd := defP c 1
  have G2 : Got prg w K mg base CX0 "is_name" ["value"] 1 (spIsName K) := got_of (N.glf _ (by decide +kernel)) F2 (F2.binds fun _ _ _ _ _ _ us hl => match us, hl with | [_], _ => rfl) (ok_isname F2 B M)
  obtain ⟨fd3, F3⟩ : ∃ fd, Fun K "is_free_name" "is_free_name" sIsFree (ga K "is_free_name") fd := defP c 2
  obtain ⟨fd4, F4⟩ : ∃ fd, Fun K "is_mark" "is_mark" sMark (ga K "is_mark") fd := defP c 3
  have ec := E.c
  unfold exC at ec
  simp only [Bool.and_eq_true] at ec
  obtain ⟨x1, x2, x3, x4, x5, x6⟩ := ec
  have ei := E.i
  unfold exI at ei
  simp only [Bool.and_eq_true] at ei
  obtain ⟨i1, i2, i3, i4, i5, i6, i7, i8, i9, i10⟩ := ei
  obtain ⟨fd5, F5⟩ : ∃ fd, FunX prg K "__init__" "InvalidWorld.__init__" sIW [.non] (IC5 K) (ma K (IC5 K) "__init__") fd := funX_of (d := dX "InvalidWorld" "__init__" "InvalidWorld.__init__" sIW) rfl (fnA c 45 rfl) x1
  obtain ⟨fd6, F6⟩ : ∃ fd, FunX prg K "__init__" "UnknownName.__init__" sUN [] (UC5 K) (ma K (UC5 K) "__init__") fd := funX_of (d := dX "UnknownName" "__init__" "UnknownName.__init__" sUN) rfl (fnA c 46 rfl) x2
  refine ⟨G1, G2, got_of (N.glf _ (by decide +kernel)) F3 (F3.binds fun _ _ _ _ _ _ us hl => match us, hl with | [_], _ => rfl) (ok_isfree F3 M G2), got_of (N.glf _ (by decide +kernel)) F4 (F4.binds fun _ _ _ _ _ _ us hl => match us, hl with | [_], _ => rfl) (ok_ismark F4 B MK), ⟨fd5, ok_iw F5 T (exck_ok i1 i3) (noB_ok i9 (by decide +kernel)) (noB_ok i9 (by decide +kernel)) G1, ?_⟩, ⟨fd6, ok_un F6 T (exck_ok i2 i4) (noB_ok i10 (by decide +kernel)) G1, ?_⟩⟩
  · refine ⟨?_, ?_⟩
    · obtain ⟨ds, r, b⟩ := bindsX (ps := ["self", "rule", "item"]) F5 3 1 (by simp) rfl fun T kV doc pm an cdv ct cc us its h1 h2 => match us, its, h1, h2 with
        | [_, _, _], [_], _, _ => ⟨_, rfl, rfl⟩
      cases r
      exact b
    · exact bindsX (ps := ["self", "rule", "item"]) F5 2 0 (by simp) rfl fun T kV doc pm an cdv ct cc us its h1 h2 => match us, its, h1, h2 with
        | [_, _], [_], _, _ => ⟨_, rfl, rfl⟩
  · exact bindsXN F6 fun _ _ _ _ _ _ _ us hl => match us, hl with | [_, _], _ => rfl
/-- declarations -/
structure Q2 (w : World) (K : PySem.W.Frag) (mg : Str → Option Value) (base : Heap) : Prop where
  dk : DK prg w K mg base (KC5 K) (RC5 K)
  mkK : Mk K (KC5 K) (ma K (KC5 K) "__init__")
  mkR : Mk K (RC5 K) (ma K (RC5 K) "__init__")
  ki : FnR prg w K mg base CX0 4 (ma K (KC5 K) "__init__") (spKI (KC5 K))
  ri : FnK prg w K mg base CX0 4 (ma K (RC5 K) "__init__") (spRI (RC5 K))
  rk : CRead K (KC5 K) (.type "type")
  rr : CRead K (RC5 K) (.type "type")
  ck : CMet K (KC5 K) (.type "type") "of" (ma K (KC5 K) "of") (rg K (KC5 K) "of" "classmethod")
  cr : CMet K (RC5 K) (.type "type") "of" (ma K (RC5 K) "of") (rg K (RC5 K) "of" "classmethod")
  ko : FnR prg w K mg base CX0 6 (rg K (KC5 K) "of" "classmethod") (spKOf (KC5 K))
  ro : FnR prg w K mg base CX0 6 (rg K (RC5 K) "of" "classmethod") (spROf (RC5 K))
theorem prop_of (c : Says5 h K) (i : Nat) {C f q fld : Str} {st : Stmt} (hd : fnsP[i]? = some (dR C f q "property" st)) (hi : fnsA[i]? = some (dR C f q "property" st)) (hp : propB K (ga K C) f = true) (cl : Cls K (ga K C)) (n : NoAttr K (ga K C) fld) {p1 p2 p3 : Pos}
    (hb : defBody st = [.Return (some (.Attribute (.Name "self" p1) fld p2)) p3]) (S : FnScope ["self"] ["self"] (defScope st)) (hbd : ∀ (kV doc pm : Value) (an : Option Addr) (cdv ct : Value) (us : List Value), us.length = (["self"] : List Str).length → bindArgs (PySem.W.fnOf f q (defArgs st) (defBody st) (defScope st) .none kV doc pm an cdv ct) ⟨us, []⟩ = pure ((["self"] : List Str).zip us)) : PropG prg w K mg base (ga K C) f fld := by
  obtain ⟨fd, F⟩ : ∃ fd, Fun K f q st (rg K (ga K C) f "property") fd := defP c i hd hi rfl
  exact propg_of hp F S rfl hb cl n hbd
theorem q2_of (c : Says5 h K) (N : Nm5 mg K) (Q : Q1 w K mg base) : Q2 w K mg base := by
  have B := blt_of N
  have W := blw_of N
  have E := ex_all c.ex
  have T := supk_of N
  have ec := E.c
  unfold exC at ec
  simp only [Bool.and_eq_true] at ec
  obtain ⟨x1, x2, x3, x4, x5, x6⟩ := ec
  have ed := E.d
  unfold exD at ed
  simp only [Bool.and_eq_true] at ed
  obtain ⟨d1, d2, d3, d4, d5, d6, d7, d8⟩ := ed
  have ee := E.e
  unfold exE at ee
  simp only [Bool.and_eq_true] at ee
  obtain ⟨m1, m2, m3, m4, m5, m6, m7, m8, m9, m10⟩ := ee
  have ef := E.f
  unfold exF at ef
  simp only [Bool.and_eq_true] at ef
  obtain ⟨p1, p2, p3, p4, p5, p6, p7, p8⟩ := ef
  have eg := E.g
  unfold exG at eg
  simp only [Bool.and_eq_true] at eg
  obtain ⟨r1, r2, r3, r4, v1, v2, v3, v4, c1, c2, c3⟩ := eg
  have eh := E.h
  unfold exH at eh
  simp only [Bool.and_eq_true] at eh
  obtain ⟨s1, s2, s3, s4⟩ := eh
  have ej := E.j
  unfold exJ at ej
  simp only [Bool.and_eq_true] at ej
  obtain ⟨k1, k2, k3, k4, k5, k6, k7, k8, k9, k10, k11, k12, k13⟩ := ej
  have iK := insB_ok d4
  have iR := insB_ok d5
  obtain ⟨sm1, sr1⟩ := supB_ok s1 (by decide)
  obtain ⟨sm2, sr2⟩ := supB_ok s2 (by decide)
  have DKd : DeclK K mg (DC5 K) := ⟨N.glo _ (by decide +kernel), _, creadB_ok r4, cvalB_ok v1⟩
  have RKd : RoleK K mg (RC5 K) := ⟨N.glo _ (by decide +kernel), _, creadB_ok r2, cvalB_ok v2⟩
  have D : DK prg w K mg base (KC5 K) (RC5 K) := by
    refine ⟨N.glo _ (by decide +kernel), N.glo _ (by decide +kernel), instB_ok d1, instB_ok d2, kitB_ok k1, kitB_ok k2, kitB_ok k3, kitB_ok k4, fun C hC => ?_, fun C hC => ?_, fun C hC => ?_⟩
    · simp only [List.mem_cons, List.not_mem_nil, or_false] at hC
      rcases hC with rfl | rfl
      · exact prop_of c 37 (C := "Kind") rfl rfl p1 iK.cls (iK.no _ (by simp)) rfl ⟨rfl, rfl, rfl, by decide +kernel, rfl, by decide +kernel, by decide +kernel⟩ fun _ _ _ _ _ _ us hl => match us, hl with | [_], _ => rfl
      · exact prop_of c 39 (C := "Role") rfl rfl p3 iR.cls (iR.no _ (by simp)) rfl ⟨rfl, rfl, rfl, by decide +kernel, rfl, by decide +kernel, by decide +kernel⟩ fun _ _ _ _ _ _ us hl => match us, hl with | [_], _ => rfl
    · simp only [List.mem_cons, List.not_mem_nil, or_false] at hC
      rcases hC with rfl | rfl
      · exact prop_of c 38 (C := "Kind") rfl rfl p2 iK.cls (iK.no _ (by simp)) rfl ⟨rfl, rfl, rfl, by decide +kernel, rfl, by decide +kernel, by decide +kernel⟩ fun _ _ _ _ _ _ us hl => match us, hl with | [_], _ => rfl
      · exact prop_of c 40 (C := "Role") rfl rfl p4 iR.cls (iR.no _ (by simp)) rfl ⟨rfl, rfl, rfl, by decide +kernel, rfl, by decide +kernel, by decide +kernel⟩ fun _ _ _ _ _ _ us hl => match us, hl with | [_], _ => rfl
    · simp only [List.mem_cons, List.not_mem_nil, or_false] at hC
      subst hC
      exact prop_of c 41 (C := "Role") rfl rfl p5 iR.cls (iR.no _ (by simp)) rfl ⟨rfl, rfl, rfl, by decide +kernel, rfl, by decide +kernel, by decide +kernel⟩ fun _ _ _ _ _ _ us hl => match us, hl with | [_], _ => rfl
  obtain ⟨fa, Fa⟩ : ∃ fd, Fun K "__init__" "Declaration.__init__" sDecl (sf K (KC5 K) (KC5 K) "__init__") fd := defP c 26
  obtain ⟨fb, Fb⟩ : ∃ fd, Fun K "__init__" "Declaration.__init__" sDecl (sf K (RC5 K) (RC5 K) "__init__") fd := defP c 27
  have ba1 := Fa.binds (ps := ["self", "name", "methods"]) fun _ _ _ _ _ _ us hl => match us, hl with | [_, _, _], _ => rfl
  have bb1 := Fb.binds (ps := ["self", "name", "methods"]) fun _ _ _ _ _ _ us hl => match us, hl with | [_, _, _], _ => rfl
  have oa := ok_decl (P := prg) (w := w) (base := base) Fa B W DKd Q.isfree
  have ob := ok_decl (P := prg) (w := w) (base := base) Fb B W DKd Q.isfree
  obtain ⟨fk, Fk⟩ : ∃ fd, FunX prg K "__init__" "Kind.__init__" sKind [] (KC5 K) (ma K (KC5 K) "__init__") fd := funX_of (d := dX "Kind" "__init__" "Kind.__init__" sKind) rfl (fnA c 47 rfl) x3
  obtain ⟨fr, Fr⟩ : ∃ fd, FunX prg K "__init__" "Role.__init__" sRole [] (RC5 K) (ma K (RC5 K) "__init__") fd := funX_of (d := dX "Role" "__init__" "Role.__init__" sRole) rfl (fnA c 48 rfl) x4
  have KI := kind_init (ok_kind Fk T ⟨sm1, sr1⟩ iK ba1 oa)
  have RI := role_init Fr T ⟨sm2, sr2⟩ iR RKd B W bb1 ob Q.isfree Q.ismark
  obtain ⟨fo, Fo⟩ : ∃ fd, Fun K "of" "Kind.of" sKOf (rg K (KC5 K) "of" "classmethod") fd := defP c 34
  obtain ⟨fp, Fp⟩ : ∃ fd, Fun K "of" "Role.of" sROf (rg K (RC5 K) "of" "classmethod") fd := defP c 35
  exact ⟨D, mkB_ok m1, mkB_ok m2, KI, RI, creadB_ok r1, creadB_ok r2, cmetB_ok c1, cmetB_ok c2,
    raw0 (ok_kof Fo (mkB_ok m1) KI) (Fo.binds fun _ _ _ _ _ _ us hl => match us, hl with | [_, _, _], _ => rfl), raw0 (ok_rof Fp (mkB_ok m2) RI) (Fp.binds fun _ _ _ _ _ _ us hl => match us, hl with | [_, _, _, _], _ => rfl)⟩
end
end K5

/-! ==== H5G ==== -/
set_option Elab.async false
set_option linter.all false
set_option maxRecDepth 100000
set_option maxHeartbeats 8000000
/-! k05: the worlds, from the head's facts. -/
namespace K5
open PySem PySem.Spec PyProof.Rows L2 StX ClX SuX Sh KwX He Hf OwX EqO LamX LamD
section
variable {w : World} {K : PySem.W.Frag} {h base : Heap} {mg : Str → Option Value}
/-- worlds -/
structure Q3 (w : World) (K : PySem.W.Frag) (mg : Str → Option Value) (base : Heap) : Prop where
  gW : mg "World" = some (.ref (WC5 K))
  mkW : Mk K (WC5 K) (ma K (WC5 K) "__init__")
  wi : FnR prg w K mg base (L2.CX prg w) 7 (ma K (WC5 K) "__init__") (spWI K (KC5 K) (RC5 K) (IC5 K) (WC5 K))
  rW : CRead K (WC5 K) (.type "type")
  c12 : ∃ t, CVal K (WC5 K) (.type "type") "MAX_KINDS" (.int 12) (.int 12 t)
  c8 : ∃ t, CVal K (WC5 K) (.type "type") "MAX_ROLES" (.int 8) (.int 8 t)
  cW : CMet K (WC5 K) (.type "type") "of" (ma K (WC5 K) "of") (rg K (WC5 K) "of" "classmethod")
  wo : ∃ fd, FnOk prg w K mg base (L2.CX prg w) 9 (rg K (WC5 K) "of" "classmethod") fd ["cls", "declarations"] (spWOf K (KC5 K) (RC5 K) (IC5 K) (WC5 K)) ∧ Binds K fd ["cls", "declarations"] [] ∧ ∀ us ws : List Value, us.length = 1 → ws.length = 1 → bindArgs fd ⟨us, ([("declarations" : Str)]).zip ws⟩ = pure (([("cls" : Str), "declarations"]).zip (us ++ ws))
  ops : WOps prg w K mg base (KC5 K) (RC5 K) (UC5 K) (WC5 K)
  odd : OddF K (KC5 K) (RC5 K) (WC5 K)
  iW : InstT K (WC5 K)
  kW : PySem.W.kitOne K (.ref (WC5 K)) (.ref (WC5 K)) = some true
  er : ErrK K mg (SE5 K) (IC5 K) (UC5 K)
theorem q3_of (c : Says5 h K) (N : Nm5 mg K) (Q : Q1 w K mg base) (R : Q2 w K mg base) : Q3 w K mg base := by
  have B := blt_of N
  have W := blw_of N
  have M := nmk_of N
  have E := ex_all c.ex
  have T := supk_of N
  have D := R.dk
  have MK := markk_of N E.k
  have ec := E.c
  unfold exC at ec
  simp only [Bool.and_eq_true] at ec
  obtain ⟨x1, x2, x3, x4, x5, x6⟩ := ec
  have ed := E.d
  unfold exD at ed
  simp only [Bool.and_eq_true] at ed
  obtain ⟨d1, d2, d3, d4, d5, d6, d7, d8⟩ := ed
  have ee := E.e
  unfold exE at ee
  simp only [Bool.and_eq_true] at ee
  obtain ⟨m1, m2, m3, m4, m5, m6, m7, m8, m9, m10⟩ := ee
  have ef := E.f
  unfold exF at ef
  simp only [Bool.and_eq_true] at ef
  obtain ⟨p1, p2, p3, p4, p5, p6, p7, p8⟩ := ef
  have eg := E.g
  unfold exG at eg
  simp only [Bool.and_eq_true] at eg
  obtain ⟨r1, r2, r3, r4, v1, v2, v3, v4, c1, c2, c3⟩ := eg
  have eh := E.h
  unfold exH at eh
  simp only [Bool.and_eq_true] at eh
  obtain ⟨s1, s2, s3, s4⟩ := eh
  have ei := E.i
  unfold exI at ei
  simp only [Bool.and_eq_true] at ei
  obtain ⟨i1, i2, i3, i4, i5, i6, i7, i8, i9, i10⟩ := ei
  have ej := E.j
  unfold exJ at ej
  simp only [Bool.and_eq_true] at ej
  obtain ⟨k1, k2, k3, k4, k5, k6, k7, k8, k9, k10, k11, k12, k13⟩ := ej
  unfold raiB at i7 i8
  rw [Bool.and_eq_true] at i7 i8
  obtain ⟨fiw, oiw, biw, dsw, vdw, bdw⟩ := Q.iw
  obtain ⟨fun1, oun, bun⟩ := Q.un
  have R0 : RaiseK prg w K mg base "InvalidWorld" (IC5 K) 2 ["self", "rule", "item"] [] (spIW K (IC5 K)) := ⟨N.glo _ (by decide +kernel), oexB_ok i1, _, fiw, [], eqO_ok i7.1, of_decide_eq_true i7.2, oiw, biw, .nil⟩
  have R1 : RaiseK prg w K mg base "InvalidWorld" (IC5 K) 2 ["self", "rule", "item"] [.non] (spIW K (IC5 K)) := ⟨N.glo _ (by decide +kernel), oexB_ok i1, _, fiw, dsw, eqO_ok i7.1, of_decide_eq_true i7.2, oiw, bdw, vdw⟩
  have RU : RaiseK prg w K mg base "UnknownName" (UC5 K) 2 ["self", "word"] [] (spUN K (UC5 K)) := ⟨N.glo _ (by decide +kernel), oexB_ok i2, _, fun1, [], eqO_ok i8.1, of_decide_eq_true i8.2, oun, bun, .nil⟩
  have iW := insB_ok d6
  have iP := insB_ok d7
  have iB := insB_ok d8
  obtain ⟨smU, srU⟩ := supB_ok s3 (by decide)
  obtain ⟨smB, srB⟩ := supB_ok s4 (by decide)
  -- the rules
  obtain ⟨f1, F1⟩ : ∃ fd, Fun K "spots_of" "spots_of" sSpots (ga K "spots_of") fd := defP c 4
  have GS : Got prg w K mg base CX0 "spots_of" ["declaration"] 3 (spSpots K (KC5 K) (RC5 K)) := got_of (N.glf _ (by decide +kernel)) F1 (F1.binds fun _ _ _ _ _ _ us hl => match us, hl with | [_], _ => rfl) (ok_spots F1 B W D)
  obtain ⟨f2, F2⟩ : ∃ fd, Fun K "check_names" "check_names" sCheck (ga K "check_names") fd := defP c 5
  have GC : Got prg w K mg base (L2.CX prg w) "check_names" ["declarations"] 4 (spCheck K (KC5 K) (RC5 K) (IC5 K)) := got_of (N.glf _ (by decide +kernel)) F2 (F2.binds fun _ _ _ _ _ _ us hl => match us, hl with | [_], _ => rfl) (ok_check F2 B W D R0 GS)
  obtain ⟨f3, F3⟩ : ∃ fd, Fun K "marks_of" "marks_of" sMarksOf (ga K "marks_of") fd := defP c 6
  have GM : Got prg w K mg base CX0 "marks_of" ["declaration"] 3 (spMarksOf K (KC5 K) (RC5 K)) := got_of (N.glf _ (by decide +kernel)) F3 (F3.binds fun _ _ _ _ _ _ us hl => match us, hl with | [_], _ => rfl) (ok_marksof F3 B W D)
  obtain ⟨f4, F4⟩ : ∃ fd, Fun K "tuples_of" "tuples_of" sTuples (ga K "tuples_of") fd := defP c 7
  have GT : Got prg w K mg base CX0 "tuples_of" ["kinds"] 1 spTuples := got_of (N.glf _ (by decide +kernel)) F4 (F4.binds fun _ _ _ _ _ _ us hl => match us, hl with | [_], _ => rfl) (ok_tuples F4)
  obtain ⟨f5, F5⟩ : ∃ fd, Fun K "signatures_of" "signatures_of" sSigs (ga K "signatures_of") fd := defP c 8
  have GG : Got prg w K mg base CX0 "signatures_of" ["declarations"] 3 (spSigs K (KC5 K) (RC5 K)) := got_of (N.glf _ (by decide +kernel)) F5 (F5.binds fun _ _ _ _ _ _ us hl => match us, hl with | [_], _ => rfl) (ok_sigs F5 B W D)
  obtain ⟨f6, F6⟩ : ∃ fd, Fun K "check_ways" "check_ways" sCW (ga K "check_ways") fd := defP c 9
  have GW : Got prg w K mg base CX0 "check_ways" ["book", "declarations"] 4 (spCW K (KC5 K) (RC5 K)) := got_of (N.glf _ (by decide +kernel)) F6 (F6.binds fun _ _ _ _ _ _ us hl => match us, hl with | [_, _], _ => rfl) (ok_cw F6 D GS)
  obtain ⟨f7, F7⟩ : ∃ fd, Fun K "places_of" "places_of" sPlaces (ga K "places_of") fd := defP c 10
  have GP : Got prg w K mg base CX0 "places_of" ["role"] 4 (spPlaces K (KC5 K) (RC5 K)) := got_of (N.glf _ (by decide +kernel)) F7 (F7.binds fun _ _ _ _ _ _ us hl => match us, hl with | [_], _ => rfl) (ok_places F7 D GS)
  obtain ⟨f8, F8⟩ : ∃ fd, Fun K "places_of_all" "places_of_all" sPlacesA (ga K "places_of_all") fd := defP c 11
  have GPA : Got prg w K mg base CX0 "places_of_all" ["declarations"] 5 (spPlacesA K (KC5 K) (RC5 K)) := got_of (N.glf _ (by decide +kernel)) F8 (F8.binds fun _ _ _ _ _ _ us hl => match us, hl with | [_], _ => rfl) (ok_placesa F8 B D GP)
  obtain ⟨f9, F9⟩ : ∃ fd, Fun K "check_marks" "check_marks" sCM (ga K "check_marks") fd := defP c 12
  have GCM : Got prg w K mg base CX0 "check_marks" ["declarations"] 6 (spCM K (KC5 K) (RC5 K)) := got_of (N.glf _ (by decide +kernel)) F9 (F9.binds fun _ _ _ _ _ _ us hl => match us, hl with | [_], _ => rfl) (ok_cm F9 MK D GS GPA)
  -- the plan and the book
  obtain ⟨fp, FP⟩ : ∃ fd, Fun K "__init__" "Plan.__init__" sPlan (ma K (PC5 K) "__init__") fd := defP c 28
  have bP := FP.binds (ps := ["self", "declarations"]) fun _ _ _ _ _ _ us hl => match us, hl with | [_, _], _ => rfl
  have oP := ok_plan (P := prg) (w := w) (base := base) FP B W M D iP GM GT GG
  obtain ⟨fa, FA⟩ : ∃ fd, Fun K "atom_number" "Numbering.atom_number" sAtomN (ma K (BC5 K) "atom_number") fd := defP c 30
  have bA := FA.binds (ps := ["self", "name", "arguments"]) fun _ _ _ _ _ _ us hl => match us, hl with | [_, _, _], _ => rfl
  obtain ⟨t400, g400⟩ := N.int ("ENTRY_SIZE", 400) (by decide +kernel)
  have oA := ok_atomn (P := prg) (w := w) (base := base) FA B iB g400
  obtain ⟨fn, FN⟩ : ∃ fd, Fun K "__init__" "Numbering.__init__" sNum (sf K (BC5 K) (US5 K) "__init__") fd := defP c 29
  have bN := FN.binds (ps := ["self", "plan"]) fun _ _ _ _ _ _ us hl => match us, hl with | [_, _], _ => rfl
  have oN := ok_num (P := prg) (w := w) (base := base) (PC := PC5 K) FN iB iP (methB_ok m6) bA oA
  obtain ⟨fu, FU⟩ : ∃ fd, FunX prg K "__init__" "Uses.__init__" sUses [] (US5 K) (sf K (BC5 K) (BC5 K) "__init__") fd := funX_of (d := ⟨fun K => sf K (ga K "Book") (ga K "Book") "__init__", "__init__", "Uses.__init__", sUses, [("__class__" : Str)]⟩) rfl (fnA c 49 rfl) x5
  have bU := bindsXN (ps := ["self", "plan"]) FU fun _ _ _ _ _ _ _ us hl => match us, hl with | [_, _], _ => rfl
  have oU := ok_uses (P := prg) (w := w) (base := base) (PC := PC5 K) FU T ⟨smU, srU⟩ iB bN oN
  obtain ⟨fb, FB⟩ : ∃ fd, FunX prg K "__init__" "Book.__init__" sBook [] (BC5 K) (ma K (BC5 K) "__init__") fd := funX_of (d := dX "Book" "__init__" "Book.__init__" sBook) rfl (fnA c 50 rfl) x6
  have bB := bindsXN (ps := ["self", "plan"]) FB fun _ _ _ _ _ _ _ us hl => match us, hl with | [_, _], _ => rfl
  have oB := ok_book (P := prg) (w := w) (base := base) (PC := PC5 K) FB T ⟨smB, srB⟩ iB bU oU
  -- the world
  have gW : mg "World" = some (.ref (WC5 K)) := N.glo _ (by decide +kernel)
  have WK : WorldK K mg (WC5 K) := ⟨gW, _, creadB_ok r3, cvalB_ok v3, cvalB_ok v4⟩
  obtain ⟨fw, FW⟩ : ∃ fd, Fun K "__init__" "World.__init__" sWorld (ma K (WC5 K) "__init__") fd := defP c 31
  have wi := fn_winit (P := prg) (w := w) (base := base) FW B W D iW WK R1 GC GW GCM (N.glo _ (by decide +kernel)) (mkB_ok m4) bP oP (N.glo _ (by decide +kernel)) (mkB_ok m5) bB oB
  obtain ⟨fo, FO⟩ : ∃ fd, Fun K "of" "World.of" sWOf (rg K (WC5 K) "of" "classmethod") fd := defP c 36
  have bO := FO.binds (ps := ["cls", "declarations"]) fun _ _ _ _ _ _ us hl => match us, hl with | [_, _], _ => rfl
  have oO := ok_wof (P := prg) (w := w) (base := base) FO (mkB_ok m3) wi
  obtain ⟨fh, FH⟩ : ∃ fd, Fun K "__contains__" "World.__contains__" sWHas (ma K (WC5 K) "__contains__") fd := defP c 32
  obtain ⟨fg, FG⟩ : ∃ fd, Fun K "__getitem__" "World.__getitem__" sWGet (ma K (WC5 K) "__getitem__") fd := defP c 33
  have pr : ∀ {f q fld : Str} {st : Stmt} (i : Nat), fnsP[i]? = some (dR "World" f q "property" st) → fnsA[i]? = some (dR "World" f q "property" st) → propB K (ga K "World") f = true → fld ∈ worldF → (∃ p1 p2 p3 : Pos, defBody st = [.Return (some (.Attribute (.Name "self" p1) fld p2)) p3]) → FnScope ["self"] ["self"] (defScope st) →
      (∀ (kV doc pm : Value) (an : Option Addr) (cdv ct : Value) (us : List Value), us.length = (["self"] : List Str).length → bindArgs (PySem.W.fnOf f q (defArgs st) (defBody st) (defScope st) .none kV doc pm an cdv ct) ⟨us, []⟩ = pure ((["self"] : List Str).zip us)) → ∀ C ∈ [WC5 K], PropG prg w K mg base C f fld :=
    fun {f q fld st} i h1 h2 h3 h4 ⟨p1, p2, p3, h5⟩ h6 h7 C hC => by
      rw [List.mem_singleton.mp hC]
      exact prop_of c i h1 h2 h3 iW.cls (iW.no _ h4) h5 h6 h7
  have ops : WOps prg w K mg base (KC5 K) (RC5 K) (UC5 K) (WC5 K) := by
    refine ⟨pr 42 rfl rfl p6 (by simp) ⟨_, _, _, rfl⟩ ⟨rfl, rfl, rfl, by decide +kernel, rfl, by decide +kernel, by decide +kernel⟩ (fun _ _ _ _ _ _ us hl => match us, hl with | [_], _ => rfl), pr 43 rfl rfl p7 (by simp) ⟨_, _, _, rfl⟩ ⟨rfl, rfl, rfl, by decide +kernel, rfl, by decide +kernel, by decide +kernel⟩ (fun _ _ _ _ _ _ us hl => match us, hl with | [_], _ => rfl),
      pr 44 rfl rfl p8 (by simp) ⟨_, _, _, rfl⟩ ⟨rfl, rfl, rfl, by decide +kernel, rfl, by decide +kernel, by decide +kernel⟩ (fun _ _ _ _ _ _ us hl => match us, hl with | [_], _ => rfl), ⟨_, opB_ok m7, ?_⟩, ⟨_, opB_ok m8, ?_⟩, neB_ok m9, neB_ok m10⟩
    · exact raw0 (ok_wget FG B iW RU) (FG.binds fun _ _ _ _ _ _ us hl => match us, hl with | [_, _], _ => rfl)
    · exact raw0 (ok_whas FH B M iW) (FH.binds fun _ _ _ _ _ _ us hl => match us, hl with | [_, _], _ => rfl)
  have bK : ∀ us ws : List Value, us.length = 1 → ws.length = 1 → bindArgs fo ⟨us, ([("declarations" : Str)]).zip ws⟩ = pure (([("cls" : Str), "declarations"]).zip (us ++ ws)) := by
    obtain ⟨oc, od, kV, doc, pm, an, cdv, ct, osl, rfl, lk, hcd⟩ := FO.ex
    exact fun us ws h1 h2 => match us, ws, h1, h2 with | [_], [_], _, _ => rfl
  have nt5 : ∀ t : String, t = "NoneType" ∨ t = "str" ∨ t = "tuple" ∨ t = "bool" ∨ t = "list" → PySem.W.kitOne K (.type t) (.ref (KC5 K)) = some false ∧ PySem.W.kitOne K (.type t) (.ref (RC5 K)) = some false := fun t ht => by
    have hm : t ∈ ["NoneType", "str", "tuple", "bool", "list"] := by
      simp only [List.mem_cons, List.not_mem_nil, or_false]
      exact ht
    have := List.all_eq_true.mp k13 t hm
    rw [Bool.and_eq_true] at this
    exact ⟨kitB_ok this.1, kitB_ok this.2⟩
  obtain ⟨ei1, ei2⟩ := exccB_ok i5
  obtain ⟨eu1, eu2⟩ := exccB_ok i6
  exact ⟨gW, mkB_ok m3, wi, creadB_ok r3, cvalB_ok v3, cvalB_ok v4, cmetB_ok c3, ⟨fo, oO, bO, bK⟩, ops, ⟨nt5, instB_ok d3, kitB_ok k5, kitB_ok k6⟩, instB_ok d3, kitB_ok k7,
    ⟨N.glo _ (by decide +kernel), N.glo _ (by decide +kernel), N.glo _ (by decide +kernel), exmB_ok k11, exmB_ok k12, ei1, eu1, ei2, eu2, noB_ok i9 (by decide +kernel), noB_ok i9 (by decide +kernel), noB_ok i10 (by decide +kernel), kitB_ok k8, kitB_ok k9, kitB_ok k10⟩⟩
end
end K5

/-! ==== H5H ==== -/
set_option Elab.async false
set_option linter.all false
set_option maxRecDepth 100000
set_option maxHeartbeats 8000000
/-! k05: the law, from the head's facts. -/
namespace K5
open PySem PySem.Spec PyProof.Rows L2 StX ClX SuX Sh KwX He Hf OwX EqO LamX LamD
section
variable {w : World} {K : PySem.W.Frag} {h : Heap} {mg : Str → Option Value}
abbrev cs5 (K : PySem.W.Frag) : List (Addr × Addr) := tfs.map fun x => (codeAt K (ga K x), tab5 K x)
abbrev T5 (K : PySem.W.Frag) : List (Addr × Str) := [(tab5 K "_law_read_right", ("_law_read_right.<locals>.<lambda>" : Str)), (tab5 K "_law_right", ("_law_right.<locals>.<lambda>" : Str)), (tab5 K "law", ("law.<locals>.<lambda>" : Str))]
theorem law_at (X : K.In h) (G : h.Ns mainGlobals mg) (c : Says5 h K) : LawAtS PySem.Challenge.rw_shapetypes_k05_names_and_sizes w K CX0 13 63 "_law_script" mg (ga K "law") h := by
  have E := ex_all c.ex
  have N := nm_of X G E.a
  have B := blt_of N
  have W := blw_of N
  have el := E.l
  unfold exL at el
  simp only [Bool.and_eq_true, decide_eq_true_eq] at el
  obtain ⟨l1, l2, l3⟩ := el
  obtain ⟨fl, FL⟩ : ∃ fd, FunK K "law" "law" sLaw (ga K "law") fd (codeAt K (ga K "law")) := defC c 25
  obtain ⟨fr, FR⟩ : ∃ fd, FunK K "_law_right" "_law_right" sRight (ga K "_law_right") fd (codeAt K (ga K "_law_right")) := defC c 24
  obtain ⟨fd, FD⟩ : ∃ fd, FunK K "_law_read_right" "_law_read_right" sRead (ga K "_law_read_right") fd (codeAt K (ga K "_law_read_right")) := defC c 23
  obtain ⟨fr', FR'⟩ : ∃ fd, Fun K "_law_right" "_law_right" sRight (ga K "_law_right") fd := defP c 24
  obtain ⟨fd', FD'⟩ : ∃ fd, Fun K "_law_read_right" "_law_read_right" sRead (ga K "_law_read_right") fd := defP c 23
  have hu1 : ∀ q ∈ T5 K, q.1 = tab5 K "_law_read_right" → q.2 = ("_law_read_right.<locals>.<lambda>" : Str) := fun q hq e => by
    simp only [List.mem_cons, List.not_mem_nil, or_false] at hq
    rcases hq with rfl | rfl | rfl
    · rfl
    · exact absurd e.symm l1
    · exact absurd e.symm l2
  have hu2 : ∀ q ∈ T5 K, q.1 = tab5 K "_law_right" → q.2 = ("_law_right.<locals>.<lambda>" : Str) := fun q hq e => by
    simp only [List.mem_cons, List.not_mem_nil, or_false] at hq
    rcases hq with rfl | rfl | rfl
    · exact absurd e l1
    · rfl
    · exact absurd e.symm l3
  have hu3 : ∀ q ∈ T5 K, q.1 = tab5 K "law" → q.2 = ("law.<locals>.<lambda>" : Str) := fun q hq e => by
    simp only [List.mem_cons, List.not_mem_nil, or_false] at hq
    rcases hq with rfl | rfl | rfl
    · exact absurd e l2
    · exact absurd e l3
    · rfl
  refine ⟨fl, cs5 K, spLaw K (T5 K), fun p hp => ?_, fun p hp => ?_, fun p hp => ?_, fun s u => ?_, fun H a ns hl hb ht hS => ⟨a, ns, rfl, hS, hl, fun p hp => ?_, fun _ => rfl⟩, fun base KB nb TB => ?_⟩
  · obtain ⟨x, hx, rfl⟩ := List.mem_map.mp hp
    exact c.empty x hx
  · obtain ⟨x, hx, rfl⟩ := List.mem_map.mp hp
    exact c.out x hx
  · obtain ⟨x, hx, rfl⟩ := List.mem_map.mp hp
    exact PySem.W.codeHd_of_K X (c.hd x hx)
  · obtain ⟨oc, od, kV, doc, pm, an, ct, osl, rfl, lk, hcd⟩ := FL.ex
    exact .of_eq (by rfl)
  · simp only [List.mem_cons, List.not_mem_nil, or_false] at hp
    rcases hp with rfl | rfl | rfl
    · exact TabS.nil (ht (codeAt K (ga K "_law_read_right"), tab5 K "_law_read_right") (List.mem_map_of_mem (f := fun x => (codeAt K (ga K x), tab5 K x)) (show ("_law_read_right" : Str) ∈ tfs by decide +kernel)))
    · exact TabS.nil (ht (codeAt K (ga K "_law_right"), tab5 K "_law_right") (List.mem_map_of_mem (f := fun x => (codeAt K (ga K x), tab5 K x)) (show ("_law_right" : Str) ∈ tfs by decide +kernel)))
    · exact TabS.nil (ht (codeAt K (ga K "law"), tab5 K "law") (List.mem_map_of_mem (f := fun x => (codeAt K (ga K x), tab5 K x)) (show ("law" : Str) ∈ tfs by decide +kernel)))
  have tb : ∀ {x : Str}, x ∈ tfs → TabB base mg (codeAt K (ga K x)) (tab5 K x) := fun {x} hx => TB (codeAt K (ga K x), tab5 K x) (List.mem_map_of_mem (f := fun x => (codeAt K (ga K x), tab5 K x)) hx)
  have Q := q1_of (w := w) (base := base) c N
  have R := q2_of c N Q
  have S := q3_of c N Q R
  obtain ⟨ft, FT⟩ : ∃ fd, Fun K "_law_told" "_law_told" sTold (ga K "_law_told") fd := defP c 19
  have TK : TellK prg w K mg base (SE5 K) (IC5 K) (UC5 K) := ⟨⟨_, ft, N.gll _ (by decide +kernel), FT, FT.binds fun _ _ _ _ _ _ us hl => match us, hl with | [_], _ => rfl⟩, B, S.er⟩
  obtain ⟨f1, F1⟩ : ∃ fd, Fun K "_law_mixed" "_law_mixed" sMixed (ga K "_law_mixed") fd := defP c 13
  have G1 : Got prg w K mg base CX0 "_law_mixed" ["_law_cell", "_law_n"] 1 spMixed := got_of (N.gll _ (by decide +kernel)) F1 (F1.binds fun _ _ _ _ _ _ us hl => match us, hl with | [_, _], _ => rfl) (ok_mixed F1)
  obtain ⟨f2, F2⟩ : ∃ fd, Fun K "_law_folded" "_law_folded" sFolded (ga K "_law_folded") fd := defP c 14
  have G2 : Got prg w K mg base CX0 "_law_folded" ["_law_script"] 1 (spFolded K) := got_of (N.gll _ (by decide +kernel)) F2 (F2.binds fun _ _ _ _ _ _ us hl => match us, hl with | [_], _ => rfl) (ok_folded F2 W.enumerate W.range)
  obtain ⟨f3, F3⟩ : ∃ fd, Fun K "_law_draw" "_law_draw" sDraw (ga K "_law_draw") fd := defP c 15
  have G3 : Got prg w K mg base CX0 "_law_draw" ["_law_m", "_law_top"] 2 spDraw := got_of (N.gll _ (by decide +kernel)) F3 (F3.binds fun _ _ _ _ _ _ us hl => match us, hl with | [_, _], _ => rfl) (ok_draw F3 B.len G1)
  obtain ⟨f4, F4⟩ : ∃ fd, Fun K "_law_begun" "_law_begun" sBegun (ga K "_law_begun") fd := defP c 16
  have G4 : Got prg w K mg base CX0 "_law_begun" ["_law_script"] 2 (spBegun K) := got_of (N.gll _ (by decide +kernel)) F4 (F4.binds fun _ _ _ _ _ _ us hl => match us, hl with | [_], _ => rfl) (ok_begun F4 G2)
  obtain ⟨f5, F5⟩ : ∃ fd, Fun K "_law_mixed_up" "_law_mixed_up" sMixup (ga K "_law_mixed_up") fd := defP c 17
  have G5 : Got prg w K mg base CX0 "_law_mixed_up" ["_law_m", "_law_things"] 3 spMixup := got_of (N.gll _ (by decide +kernel)) F5 (F5.binds fun _ _ _ _ _ _ us hl => match us, hl with | [_, _], _ => rfl) (ok_mixup F5 B W G3)
  obtain ⟨f6, F6⟩ : ∃ fd, Fun K "_law_doubled" "_law_doubled" sDoub (ga K "_law_doubled") fd := defP c 18
  have G6 : Got prg w K mg base CX0 "_law_doubled" ["_law_kind_of"] 1 spDoub := got_of (N.gll _ (by decide +kernel)) F6 (F6.binds fun _ _ _ _ _ _ us hl => match us, hl with | [_], _ => rfl) (ok_doub F6 W)
  obtain ⟨f7, F7⟩ : ∃ fd, Fun K "_law_row" "_law_row" sRow (ga K "_law_row") fd := defP c 20
  have G7 : Got prg w K mg base CX0 "_law_row" ["_law_m"] 9 (spRow K (KC5 K) (RC5 K)) := got_of (N.gll _ (by decide +kernel)) F7 (F7.binds fun _ _ _ _ _ _ us hl => match us, hl with | [_], _ => rfl) (ok_row F7 B W R.dk G3 G5 G6 R.mkK R.ki S.gW S.mkW S.wi R.rk R.ck R.ko R.rr R.cr R.ro S.odd)
  obtain ⟨f8, F8⟩ : ∃ fd, Fun K "_law_due" "_law_due" sDue (ga K "_law_due") fd := defP c 21
  have G8 : Got prg w K mg base CX0 "_law_due" ["_law_row_here"] 1 (spDue K (KC5 K) (RC5 K)) := got_of (N.gll _ (by decide +kernel)) F8 (F8.binds fun _ _ _ _ _ _ us hl => match us, hl with | [_], _ => rfl) (ok_due F8 B W)
  obtain ⟨f9, F9⟩ : ∃ fd, Fun K "_law_new" "_law_new" sNew (ga K "_law_new") fd := defP c 22
  have G9 : Got prg w K mg base (L2.CX prg w) "_law_new" ["_law_r"] 9 (spNew K (KC5 K) (RC5 K) (IC5 K) (WC5 K)) := got_of (N.gll _ (by decide +kernel)) F9 (F9.binds fun _ _ _ _ _ _ us hl => match us, hl with | [_], _ => rfl) (ok_new F9 B S.gW S.mkW S.wi)
  have hm1 : (tab5 K "_law_read_right", ("_law_read_right.<locals>.<lambda>" : Str)) ∈ T5 K := List.mem_cons_self
  have hm2 : (tab5 K "_law_right", ("_law_right.<locals>.<lambda>" : Str)) ∈ T5 K := List.mem_cons_of_mem _ List.mem_cons_self
  have hm3 : (tab5 K "law", ("law.<locals>.<lambda>" : Str)) ∈ T5 K := List.mem_cons_of_mem _ (List.mem_cons_of_mem _ List.mem_cons_self)
  have okD := ok_read (P := prg) (w := w) FD B W R.dk TK (tb (by decide +kernel)) hm1 hu1 G6 S.ops
  have GX1 : Got prg w K mg base CX0 "_law_read_right" ["_law_world_so", "_law_row_here"] 8 (spRead K (KC5 K) (RC5 K) (WC5 K) (T5 K)) := ⟨_, fd, N.gll _ (by decide +kernel), FD.kp, by
    obtain ⟨oc, od, kV, doc, pm, an, ct, osl, rfl, lk, hcd⟩ := FD.ex
    exact .all fun us hl => match us, hl with | [_, _], _ => rfl, okD⟩
  obtain ⟨fo, oO, bO, bK⟩ := S.wo
  have okR := ok_right (P := prg) (w := w) FR B W TK (tb (by decide +kernel)) hm2 hu2 G8 S.gW S.iW S.kW S.rW S.cW oO bO bK G9 GX1
  have GX2 : Got prg w K mg base CX0 "_law_right" ["_law_row_here"] 12 (spRight K (KC5 K) (RC5 K) (T5 K)) := ⟨_, fr, N.gll _ (by decide +kernel), FR.kp, by
    obtain ⟨oc, od, kV, doc, pm, an, ct, osl, rfl, lk, hcd⟩ := FR.ex
    exact .all fun us hl => match us, hl with | [_], _ => rfl, okR⟩
  exact ok_law FL B W R.dk TK (tb (by decide +kernel)) hm3 hu3 G4 G7 GX2 R.mkK R.ki R.mkR R.ri S.gW S.mkW S.wi S.ops S.odd S.rW S.c12 S.c8
end
end K5

/-! ==== H5Z ==== -/
set_option Elab.async false
set_option linter.all false
set_option maxRecDepth 100000
set_option maxHeartbeats 0
open PySem PySem.W PySem.Calls PyProof.Rows
theorem PySem.Challenge.cw_shapetypes_k05_names_and_sizes_holds : PySem.Challenge.rw_shapetypes_k05_names_and_sizes.Holds := by
  w_on; o_law
  refine HandSHeadRun.head_any (r := OpenLaw.row PySem.Challenge.rw_shapetypes_k05_names_and_sizes) (q := view (OpenLaw.row PySem.Challenge.rw_shapetypes_k05_names_and_sizes).prog [116]) (H := K5.hook5) (ob := K5.ob5) (M := 20000) (loose := K5.nmsA) (d := HandSHeadRun.topDef (OpenLaw.row PySem.Challenge.rw_shapetypes_k05_names_and_sizes).prog 116) (kwd := []) K5.ob5_eq
    (by kernel_rfl) (fun s => by kernel_rfl) K5.run5 (by kernel_rfl) (by kernel_rfl) (by kernel_rfl) (by rfl) (by first | assumption | decide +kernel) (by decide +kernel) ⟨rfl, rfl, rfl, rfl, rfl, by decide +kernel⟩ ?hw ?hc
  case hw => w_witness2
  case hc =>
    refine LamX.walk_ofTsE (l := PySem.Challenge.rw_shapetypes_k05_names_and_sizes) (n := 63) (k := 13) (x := "_law_script") (CX := fun _ => L2.CX0) rfl (by decide) (by kernel_rfl) ⟨rfl, by decide, by decide⟩ ?F (fun _ _ _ _ _ z => z)
    intro w mg fa h Y G hmg0
    obtain ⟨K, KX, c⟩ := Y
    have e : (HandSHeadRun.topDef (OpenLaw.row PySem.Challenge.rw_shapetypes_k05_names_and_sizes).prog 116).name = ("law" : PySem.Str) := by kernel_rfl
    have hmg : mg ("law" : PySem.Str) = some (.ref fa) := by
      rw [← e]
      exact hmg0
    have hl : mg ("law" : PySem.Str) = some (.ref (He.ga K "law")) := (K5.nm_of KX G (K5.ex_all c.ex).a).gll _ (by decide +kernel)
    rw [hl] at hmg
    cases hmg
    exact ⟨K, KX, K5.law_at KX G c⟩
#print axioms PySem.Challenge.cw_shapetypes_k05_names_and_sizes_holds
