import PyProof.Rows.All
import Wide.All
import OpenK.AllK
import Wide.FinOn
import Lean
import PyProof.EqAt
import PyProof.EqKinds
import PyProof.TupleCall
import PyProof.NeKinds
import PyProof.Rows.SortRuns
import KE.KSortTup
import PySem.SetOps
import PyProof.SetScanFacts
import PyProof.SetKind
import PyProof.TupleKey
import PyProof.Rows.SetFrom
import PyProof.DictIter
import PyProof.FactsAll.set
import PyProof.CollectWalk
import PyProof.SetRoads
import PyProof.Draws
import PyProof.EnumMake
import PyProof.EnumFor
import PyProof.SumWalkG
import PyProof.WalksMore
import PyProof.StationsW
import PyProof.RulesTry
import PyProof.RulesAs
import PyProof.Rows.Catch
import PyProof.IsInstance
import PyProof.FString
import PyProof.ExcBaseAll.ValueError
import PyProof.MinMaxWalk
import PyProof.Rows.Range3
import PyProof.ConsumeWalk
import PyProof.ZipIter
import PyProof.Rows.ZipGen
import PyProof.ListMulRoad
import PyProof.ExcAttrAll.ValueError
import PyProof.IsiH_list
import PyProof.StrLoop
import PyProof.StrCalls2
import PyProof.StrLawsTight
import PyProof.StrLawsJoin
import PyProof.DictWalks
import PyProof.WalkInts
import PyProof.Rows.CallKwBuiltin
import KE.KMinBuiltin
import PyProof.FitsReplace
import PyProof.StrLawsChain
import PyProof.ExcClass2
import PyProof.NsDelKeeps
import PySem.Challenge.RW_tilefloor_k16_refusals_stand_apart
noncomputable section
set_option maxHeartbeats 4000000
set_option bootstrap.genMatcherCode false
set_option genSizeOf false
set_option Elab.async false
set_option linter.all false
set_option maxRecDepth 100000
set_option maxHeartbeats 4000000
namespace L2
open PySem PySem.Spec PyProof.Rows
def AH (s:Stmt):Arguments:=match s with
 |.FunctionDef _ a _ _ _ _ _ _ _ _=>a
 |_=>{ posonlyargs:=[],args:=[],vararg:=none,kwonlyargs:=[],kw_defaults:=[],kwarg:=none,defaults:=[] }
def AG (s:Stmt):List Stmt:=match s with
 |.FunctionDef _ _ b _ _ _ _ _ _ _=>b
 |_=>[]
def AB (s:Stmt):Scope:=match s with
 |.FunctionDef _ _ _ _ _ _ sc _ _ _=>sc
 |_=>{ kind:=.function,names:=[],isGenerator:=false,isCoroutine:=false }
end L2
namespace TF
open PySem PySem.Spec L2
open PyProof.Rows hiding St RelV
def BG (K:PySem.W.Frag) (C Dc:Addr):Bool:=match K.lookup C with
 |some ⟨_,_,.cls cd,_⟩=>cd.mro.contains (.ref Dc)
 |_=>false
abbrev BMV:List Value:=[.type "ValueError",.type "Exception",.type "BaseException",.type "object"]
def LV (K:PySem.W.Frag) (n:Str) (Fs:List Value):List Value->Bool
 |[]=>false
 |v::r=>(v::r)==Fs||(match v with
  |.ref A=>(match K.lookup A with
   |some ⟨_,_,.cls cd,_⟩=>PySem.W.nsOkIn K cd.ns&&PySem.W.nsIn K cd.ns n==some none
   |_=>false)&&LV K n Fs r
  |_=>false)
def NC (K:PySem.W.Frag) (n:Str) (Fs:List Value) (C:Addr):Bool:=match K.lookup C with
 |some ⟨_,_,.cls cd,_⟩=>LV K n Fs cd.mro
 |_=>false
def AR (K:PySem.W.Frag) (C Dc:Addr):Bool:=NC K "__getattribute__" BMV C&&NC K "__class__" BMV C&&NC K "__getattr__" BMV C&&(match K.lookup C with
 |some ⟨_,_,.cls cd,_⟩=>!cd.mro.contains (.ref Dc)
 |_=>false)
def top (i:Nat):Stmt:=PySem.Challenge.pw_tilefloor_k16_refusals_stand_apart.main.body.getD i (.Pass ⟨0,0,0,0⟩)
abbrev A9:Stmt:=top 11
abbrev BR:Stmt:=top 14
abbrev Bz:Stmt:=top 15
abbrev Bi:Stmt:=top 16
abbrev BU:Stmt:=top 17
abbrev BE:Stmt:=top 18
abbrev A5:Stmt:=top 19
abbrev Bo:Stmt:=top 20
abbrev Bq:Stmt:=top 21
abbrev AY:Stmt:=top 22
abbrev Bp:Stmt:=top 23
abbrev Ai:Stmt:=top 24
abbrev Be:Stmt:=top 29
abbrev Ah:Stmt:=top 31
abbrev B3:Stmt:=top 36
abbrev Cg:Stmt:=top 39
abbrev DJ:Stmt:=top 40
abbrev A2:Stmt:=top 42
abbrev BM:Stmt:=top 48
abbrev EK:Stmt:=top 49
abbrev Am:Stmt:=top 51
abbrev BW:Stmt:=top 52
abbrev By:Stmt:=top 55
abbrev B4:Stmt:=top 56
abbrev CK:Stmt:=top 57
abbrev Bg:Stmt:=top 59
abbrev BV:Stmt:=top 60
abbrev Ag:Stmt:=top 61
abbrev DV:Stmt:=top 62
section
def hOb (w:World) (a:Nat):Obj:=((PySem.W.openEnds treeTable PySem.Challenge.rw_tilefloor_k16_refusals_stand_apart.row.prog w 5874).bind fun s=>s.heap.get? a).getD { cls:=.none,data:=.plain }
def hO0:Obj:=⟨(PySem.Value.type "function"),(Option.none),.func (PySem.W.fnOf "neighbours" "neighbours" (AH A9) (AG A9) (AB A9) .none (.none) (.none) (PySem.Value.str (PySem.Str.ofString "tilefloor.floors") 303) (Option.none) (PySem.Value.ref 105) (.none)),(#[])⟩
def hO1:Obj:=⟨(PySem.Value.type "function"),(Option.none),.func (PySem.W.fnOf "reached" "reached" (AH Bp) (AG Bp) (AB Bp) .none (.none) (.none) (PySem.Value.str (PySem.Str.ofString "tilefloor.floors") 303) (Option.none) (PySem.Value.ref 183) (.none)),(#[])⟩
def hO2:Obj:=⟨(PySem.Value.type "function"),(Option.none),.func (PySem.W.fnOf "hangs_together" "hangs_together" (AH Ai) (AG Ai) (AB Ai) .none (.none) (.none) (PySem.Value.str (PySem.Str.ofString "tilefloor.floors") 303) (Option.none) (PySem.Value.ref 190) (.none)),(#[])⟩
def hO3:Obj:=⟨(PySem.Value.type "function"),(Option.none),.func (PySem.W.fnOf "is_plain" "is_plain" (AH Be) (AG Be) (AB Be) .none (.none) (.none) (PySem.Value.str (PySem.Str.ofString "tilefloor.floors") 303) (Option.none) (PySem.Value.ref 223) (.none)),(#[])⟩
def hO4:Obj:=⟨(PySem.Value.type "function"),(Option.none),.func (PySem.W.fnOf "is_number" "is_number" (AH BR) (AG BR) (AB BR) .none (.none) (.none) (PySem.Value.str (PySem.Str.ofString "tilefloor.floors") 303) (Option.none) (PySem.Value.ref 126) (.none)),(#[])⟩
def hO5:Obj:=⟨(PySem.Value.type "function"),(Option.none),.func (PySem.W.fnOf "is_pair" "is_pair" (AH Bz) (AG Bz) (AB Bz) .none (.none) (.none) (PySem.Value.str (PySem.Str.ofString "tilefloor.floors") 303) (Option.none) (PySem.Value.ref 133) (.none)),(#[])⟩
def hO6:Obj:=⟨(PySem.Value.type "function"),(Option.none),.func (PySem.W.fnOf "is_place" "is_place" (AH Bi) (AG Bi) (AB Bi) .none (.none) (.none) (PySem.Value.str (PySem.Str.ofString "tilefloor.floors") 303) (Option.none) (PySem.Value.ref 140) (.none)),(#[])⟩
def hO7:Obj:=⟨(PySem.Value.type "function"),(Option.none),.func (PySem.W.fnOf "is_square" "is_square" (AH BU) (AG BU) (AB BU) .none (.none) (.none) (PySem.Value.str (PySem.Str.ofString "tilefloor.floors") 303) (Option.none) (PySem.Value.ref 147) (.none)),(#[])⟩
def hO8:Obj:=⟨(PySem.Value.type "function"),(Option.none),.func (PySem.W.fnOf "is_rising" "is_rising" (AH A5) (AG A5) (AB A5) .none (.none) (.none) (PySem.Value.str (PySem.Str.ofString "tilefloor.floors") 303) (Option.none) (PySem.Value.ref 159) (.none)),(#[])⟩
def hO9:Obj:=⟨(PySem.Value.type "function"),(Option.none),.func (PySem.W.fnOf "is_stone" "is_stone" (AH BE) (AG BE) (AB BE) .none (.none) (.none) (PySem.Value.str (PySem.Str.ofString "tilefloor.floors") 303) (Option.none) (PySem.Value.ref 154) (.none)),(#[])⟩
def fI:Obj:=⟨(PySem.Value.type "function"),(Option.none),.func (PySem.W.fnOf "covered" "covered" (AH Bq) (AG Bq) (AB Bq) .none (.none) (.none) (PySem.Value.str (PySem.Str.ofString "tilefloor.floors") 303) (Option.none) (PySem.Value.ref 171) (.none)),(#[])⟩
def lq:Obj:=⟨(PySem.Value.type "function"),(Option.none),.func (PySem.W.fnOf "checked" "checked" (AH Bo) (AG Bo) (AB Bo) .none (.none) (.none) (PySem.Value.str (PySem.Str.ofString "tilefloor.floors") 303) (Option.none) (PySem.Value.ref 164) (.none)),(#[])⟩
def jF:Obj:=⟨(PySem.Value.type "function"),(Option.none),.func (PySem.W.fnOf "checked_laying" "checked_laying" (AH AY) (AG AY) (AB AY) .none (.none) (.none) (PySem.Value.str (PySem.Str.ofString "tilefloor.floors") 303) (Option.none) (PySem.Value.ref 176) (.none)),(#[])⟩
def jw:Obj:=⟨(PySem.Value.type "function"),(Option.none),.func (PySem.W.fnOf "steps" "steps" (AH Cg) (AG Cg) (AB Cg) .none (.none) (.none) (PySem.Value.str (PySem.Str.ofString "tilefloor.laying") 512) (Option.none) (PySem.Value.ref 268) (.none)),(#[])⟩
def fc:Obj:=⟨(PySem.Value.type "function"),(Option.none),.func (PySem.W.fnOf "ways" "ways" (AH DJ) (AG DJ) (AB DJ) .none (.none) (.none) (PySem.Value.str (PySem.Str.ofString "tilefloor.laying") 512) (Option.none) (PySem.Value.ref 273) (.none)),(#[])⟩
def iy:Obj:=⟨(PySem.Value.type "function"),(Option.none),.func (PySem.W.fnOf "all_layings" "all_layings" (AH A2) (AG A2) (AB A2) .none (.none) (.none) (PySem.Value.str (PySem.Str.ofString "tilefloor.laying") 512) (Option.none) (PySem.Value.ref 285) (.none)),(#[])⟩
def dz:Obj:=⟨(PySem.Value.type "function"),(Option.none),.func (PySem.W.fnOf "ring_at" "ring_at" (AH By) (AG By) (AB By) .none (.none) (.none) (PySem.Value.str (PySem.Str.ofString "tilefloor.turns") 628) (Option.none) (PySem.Value.ref 340) (.none)),(#[])⟩
def gS:Obj:=⟨(PySem.Value.type "function"),(Option.none),.func (PySem.W.fnOf "stones_along" "stones_along" (AH Am) (AG Am) (AB Am) .none (.none) (.none) (PySem.Value.str (PySem.Str.ofString "tilefloor.rings") 604) (Option.none) (PySem.Value.ref 323) (.none)),(#[])⟩
def j8:Obj:=⟨(PySem.Value.type "function"),(Option.none),.func (PySem.W.fnOf "has_all" "has_all" (AH BW) (AG BW) (AB BW) .none (.none) (.none) (PySem.Value.str (PySem.Str.ofString "tilefloor.rings") 604) (Option.none) (PySem.Value.ref 328) (.none)),(#[])⟩
def jh:Obj:=⟨(PySem.Value.type "function"),(Option.none),.func (PySem.W.fnOf "is_turn" "is_turn" (AH B4) (AG B4) (AB B4) .none (.none) (.none) (PySem.Value.str (PySem.Str.ofString "tilefloor.turns") 628) (Option.none) (PySem.Value.ref 347) (.none)),(#[])⟩
def jX:Obj:=⟨(PySem.Value.type "function"),(Option.none),.func (PySem.W.fnOf "turned" "turned" (AH CK) (AG CK) (AB CK) .none (.none) (.none) (PySem.Value.str (PySem.Str.ofString "tilefloor.turns") 628) (Option.none) (PySem.Value.ref 354) (.none)),(#[])⟩
def gG:Obj:=⟨(PySem.Value.type "function"),(Option.none),.func (PySem.W.fnOf "stones_in" "stones_in" (AH BM) (AG BM) (AB BM) .none (.none) (.none) (PySem.Value.str (PySem.Str.ofString "tilefloor.texts") 556) (Option.none) (PySem.Value.ref 309) (.none)),(#[])⟩
def jN:Obj:=⟨(PySem.Value.type "function"),(Option.none),.func (PySem.W.fnOf "read" "read" (AH EK) (AG EK) (AB EK) .none (.none) (.none) (PySem.Value.str (PySem.Str.ofString "tilefloor.texts") 556) (Option.none) (PySem.Value.ref 316) (.none)),(#[])⟩
def mB:Obj:=⟨(PySem.Value.type "function"),(Option.none),.func (PySem.W.fnOf "holds_squares" "holds_squares" (AH Ah) (AG Ah) (AB Ah) .none (.none) (.none) (PySem.Value.str (PySem.Str.ofString "tilefloor.heights") 455) (Option.none) (PySem.Value.ref 228) (.none)),(#[])⟩
def mI:Obj:=⟨(PySem.Value.type "function"),(Option.none),.func (PySem.W.fnOf "heights" "heights" (AH B3) (AG B3) (AB B3) .none (.none) (.none) (PySem.Value.str (PySem.Str.ofString "tilefloor.heights") 455) (Option.none) (PySem.Value.ref 261) (.none)),(#[])⟩
def gz:Obj:=⟨(PySem.Value.type "function"),(Option.none),.func (PySem.W.fnOf "_law_cell" "_law_cell" (AH Bg) (AG Bg) (AB Bg) .none (.none) (.none) (PySem.Value.str (PySem.Str.ofString "law_tilefloor_k16_refusals_stand_apart") 656) (Option.none) (PySem.Value.ref 361) (.none)),(#[])⟩
def mC:Obj:=⟨(PySem.Value.type "function"),(Option.none),.func (PySem.W.fnOf "_law_deed" "_law_deed" (AH BV) (AG BV) (AB BV) .none (.none) (.none) (PySem.Value.str (PySem.Str.ofString "law_tilefloor_k16_refusals_stand_apart") 656) (Option.none) (PySem.Value.ref 366) (.none)),(#[])⟩
def eD:Obj:=⟨(PySem.Value.type "function"),(Option.none),.func (PySem.W.fnOf "_law_kinds_of" "_law_kinds_of" (AH Ag) (AG Ag) (AB Ag) .none (.none) (.none) (PySem.Value.str (PySem.Str.ofString "law_tilefloor_k16_refusals_stand_apart") 656) (Option.none) (PySem.Value.ref 373) (.none)),(#[])⟩
def d9:Obj:=⟨(PySem.Value.type "function"),(Option.none),.func (PySem.W.fnOf "law" "law" (AH DV) (AG DV) (AB DV) .none (.none) (.none) (PySem.Value.str (PySem.Str.ofString "law_tilefloor_k16_refusals_stand_apart") 656) (Option.none) (PySem.Value.ref 378) (.none)),(#[])⟩
def hFn:PySem.W.Frag:=[(106,hO0),(184,hO1),(191,hO2),(224,hO3),(127,hO4),(134,hO5),(141,hO6),(148,hO7),(160,hO8),(155,hO9),(172,fI),(165,lq),(177,jF),(269,jw),(274,fc),(286,iy),(341,dz),(324,gS),(329,j8),(348,jh),(355,jX),(310,gG),(317,jN),(229,mB),(262,mI),(362,gz),(367,mC),(374,eD),(379,d9)]
def hOt:List Nat:=[2,3,15,22,23,24,25,28,35,36,37,40,47,48,49,52,59,60,61,64,71,72,73,76,83,84,85,88,95,96,97,100,102,103,105,107,109,110,112,113,114,116,117,119,120,121,123,124,126,128,130,131,133,135,137,138,140,142,144,145,147,149,151,152,154,156,159,161,164,166,168,169,171,173,176,178,180,181,183,185,187,188,190,192,195,196,197,199,200,202,203,204,206,207,209,210,211,213,214,216,217,218,220,221,223,225,228,230,232,233,235,236,237,239,240,242,243,244,246,247,249,250,251,253,254,256,257,258,261,263,265,266,268,270,273,275,277,278,280,281,282,285,287,289,290,292,293,294,297,298,299,302,303,304,306,307,309,311,313,314,316,318,320,321,323,325,328,330,333,334,335,337,338,340,342,344,345,347,349,351,352,354,356,358,359,361,363,366,368,370,371,373,375,378]
def hK (w:World):PySem.W.Frag:=hFn++hOt.map fun a=>(a,hOb w a)
def hAs:List Nat:=[106,184,191,224,127,134,141,148,160,155,172,165,177,269,274,286,341,324,329,348,355,310,317,229,262,362,367,374,379,2,3,15,22,23,24,25,28,35,36,37,40,47,48,49,52,59,60,61,64,71,72,73,76,83,84,85,88,95,96,97,100,102,103,105,107,109,110,112,113,114,116,117,119,120,121,123,124,126,128,130,131,133,135,137,138,140,142,144,145,147,149,151,152,154,156,159,161,164,166,168,169,171,173,176,178,180,181,183,185,187,188,190,192,195,196,197,199,200,202,203,204,206,207,209,210,211,213,214,216,217,218,220,221,223,225,228,230,232,233,235,236,237,239,240,242,243,244,246,247,249,250,251,253,254,256,257,258,261,263,265,266,268,270,273,275,277,278,280,281,282,285,287,289,290,292,293,294,297,298,299,302,303,304,306,307,309,311,313,314,316,318,320,321,323,325,328,330,333,334,335,337,338,340,342,344,345,347,349,351,352,354,356,358,359,361,363,366,368,370,371,373,375,378]
def hQ:Program:=PySem.W.view PySem.Challenge.pw_tilefloor_k16_refusals_stand_apart [1,2,3,4,5,6,7,9,10,11,12,13,14,15,16,17,18,19,20,21,22,23,24,25,26,27,28,29,31,32,33,34,35,36,38,39,40,41,42,44,45,46,47,48,49,51,52,53,55,56,57,59,60,61,62]
theorem BQ {w:World} {a:Addr} {o:Obj} (h:hFn.lookup a=some o):(hK w).lookup a=some o:=by
 show List.lookup a (hFn++_)=_
 rw [List.lookup_append,h];rfl
theorem hAs_ok (w:World):hAs=(hK w).map (·.1):=by kernel_rfl
def hXt (s:Shared):Bool:=PySem.W.xlAt hQ [] s&&PySem.W.recOk (PySem.W.RowW.records (PySem.W.OpenRow.toRowW (PySem.W.OpenLaw.row PySem.Challenge.rw_tilefloor_k16_refusals_stand_apart))) s
def hP (x:Str) (v:Option Value):Str×Option Value:=(x,v)
def hC (v:Value) (x:Str):Value×Str:=(v,x)
def hNs:List (Str×Option Value):=[hP "neighbours" (some (.ref 106)),hP "reached" (some (.ref 184)),hP "hangs_together" (some (.ref 191)),hP "is_plain" (some (.ref 224)),hP "is_number" (some (.ref 127)),hP "is_pair" (some (.ref 134)),hP "is_place" (some (.ref 141)),hP "is_square" (some (.ref 148)),hP "is_rising" (some (.ref 160)),hP "is_stone" (some (.ref 155)),hP "covered" (some (.ref 172)),hP "checked" (some (.ref 165)),hP "checked_laying" (some (.ref 177)),hP "steps" (some (.ref 269)),hP "ways" (some (.ref 274)),hP "all_layings" (some (.ref 286)),hP "ring_at" (some (.ref 341)),hP "stones_along" (some (.ref 324)),hP "has_all" (some (.ref 329)),hP "is_turn" (some (.ref 348)),hP "turned" (some (.ref 355)),hP "stones_in" (some (.ref 310)),hP "read" (some (.ref 317)),hP "holds_squares" (some (.ref 229)),hP "heights" (some (.ref 262)),hP "_law_cell" (some (.ref 362)),hP "_law_deed" (some (.ref 367)),hP "_law_kinds_of" (some (.ref 374)),hP "law" (some (.ref 379)),hP "len" none,hP "range" none,hP "min" none,hP "max" none,hP "tuple" none,hP "sum" none,hP "sorted" none,hP "isinstance" none,hP "list" none,hP "enumerate" none,hP "int" none,hP "bool" none,hP "all" none,hP "zip" none,hP "str" none,hP "LAST_LINE" (some (.int 7 (305))),hP "MOST_SQUARES" (some (.int 24 (307))),hP "MOST_SIGNS" (some (.int 72 (558))),hP "MOST_TOLD" (some (.int 200 (514))),hP "BadFloor" (some (.ref 37)),hP "BadLaying" (some (.ref 49)),hP "TooMany" (some (.ref 61)),hP "NoTurn" (some (.ref 73)),hP "NotPlain" (some (.ref 85)),hP "BadText" (some (.ref 97)),hP "FloorError" (some (.ref 24))]
def hCs:List (Value×Str):=[hC (PySem.Value.ref 105) "neighbours",hC (PySem.Value.ref 183) "reached",hC (PySem.Value.ref 190) "hangs_together",hC (PySem.Value.ref 223) "is_plain",hC (PySem.Value.ref 126) "is_number",hC (PySem.Value.ref 133) "is_pair",hC (PySem.Value.ref 140) "is_place",hC (PySem.Value.ref 147) "is_square",hC (PySem.Value.ref 159) "is_rising",hC (PySem.Value.ref 154) "is_stone",hC (PySem.Value.ref 171) "covered",hC (PySem.Value.ref 164) "checked",hC (PySem.Value.ref 176) "checked_laying",hC (PySem.Value.ref 268) "steps",hC (PySem.Value.ref 273) "ways",hC (PySem.Value.ref 285) "all_layings",hC (PySem.Value.ref 340) "ring_at",hC (PySem.Value.ref 323) "stones_along",hC (PySem.Value.ref 328) "has_all",hC (PySem.Value.ref 347) "is_turn",hC (PySem.Value.ref 354) "turned",hC (PySem.Value.ref 309) "stones_in",hC (PySem.Value.ref 316) "read",hC (PySem.Value.ref 228) "holds_squares",hC (PySem.Value.ref 261) "heights",hC (PySem.Value.ref 361) "_law_cell",hC (PySem.Value.ref 366) "_law_deed",hC (PySem.Value.ref 373) "_law_kinds_of",hC (PySem.Value.ref 378) "law"]
def hKs:List Nat:=[106,184,191,224,127,134,141,148,160,155,172,165,177,269,274,286,341,324,329,348,355,310,317,229,262,362,367,374,379]
def hXs:List Nat:=[37,49,61,73,85,97,24]
def hUs:List (Nat×Nat):=[(37,37),(37,24),(49,24),(61,24),(73,24),(85,24),(97,24)]
def hPs:List (Nat×Nat):=[(37,49),(37,61),(37,73),(37,85),(37,97),(49,37),(49,61),(49,73),(49,85),(49,97),(61,37),(61,49),(61,73),(61,85),(61,97),(73,37),(73,49),(73,61),(73,85),(73,97),(85,37),(85,49),(85,61),(85,73),(85,97),(97,37),(97,49),(97,61),(97,73),(97,85)]
def hB (K:PySem.W.Frag):Bool:=hNs.all (fun p=>PySem.W.nsIn K mainGlobals p.1==some p.2)&&hCs.all (fun p=>PySem.W.codeIn K p.1 p.2)&&hKs.all (fun a=>PySem.W.keepIn K (.ref a))&&hXs.all (fun a=>PySem.W.excIn K a [.type "ValueError",.type "Exception",.type "BaseException",.type "object"] "ValueError.__new__")&&hUs.all (fun p=>BG K p.1 p.2)&&hPs.all (fun p=>AR K p.1 p.2)
theorem ag {σ α1 α2 α3 α4 α5 α6 α7 α8 α9 β:Type} {o:Option σ} {f1:σ->α1} {f2:σ->α2} {f3:σ->α3} {f4:σ->α4} {f5:σ->α5} {f6:σ->α6} {f7:σ->α7} {f8:σ->α8} {f9:σ->α9} {y:σ->β} {a1:α1} {a2:α2} {a3:α3} {a4:α4} {a5:α5} {a6:α6} {a7:α7} {a8:α8} {a9:α9} {b:β}
  (h1:o.map f1=some a1) (h2:o.map (fun s=>(f2 s,f3 s))=some (a2,a3)) (h3:o.map (fun s=>(f4 s,f5 s,f6 s))=some (a4,a5,a6)) (h4:o.map (fun s=>(f7 s,f8 s,f9 s))=some (a7,a8,a9)) (h5:o.map y=some b) :
  o.map (fun s=>((f1 s,f2 s,f3 s,f4 s,f5 s,f6 s,f7 s,f8 s,f9 s),y s))=some ((a1,a2,a3,a4,a5,a6,a7,a8,a9),b):=by
 cases o with
 |none=>cases h1
 |some s=>cases h1;cases h2;cases h3;cases h4;cases h5;rfl
open PySem.W in
theorem hL1 (w:World):(openEnds treeTable PySem.Challenge.rw_tilefloor_k16_refusals_stand_apart.row.prog w 5874).map (fun s=>seen ((recsOf hQ).map (·.name)) (ownsOf hQ) [] { s with gens:=#[] })=some (expectedOf hQ):=by kernel_rfl
open PySem.W in
theorem hL2 (w:World):(openEnds treeTable PySem.Challenge.rw_tilefloor_k16_refusals_stand_apart.row.prog w 5874).map (fun s=>(s.heap.bltView,s.heap.keysOk (looseW hQ []) ((recsOf hQ).map (·.name)) ((litsOf hQ).map (·.1)) ((clssOf hQ (looseW hQ [])).map (·.name))&&s.heap.accountedOkI (importedModules PySem.Challenge.rw_tilefloor_k16_refusals_stand_apart.row.prog.main.body)&&s.heap.isNs mainGlobals&&s.heap.isNs builtinsNs&&tablesOk hQ s.heap&&hXt s&&(if true then s.gens.size==0 else !leftWithCleanup s.gens)))=some (bltViewBooted,true):=by kernel_rfl
open PySem.W in
theorem hL3 (w:World):(openEnds treeTable PySem.Challenge.rw_tilefloor_k16_refusals_stand_apart.row.prog w 5874).map (fun s=>(tabsOk hQ s,pinSeenD hQ (drecsOf hQ) s,plainSeenE hQ (looseW hQ []) s))=some (true,pinGoodD (drecsOf hQ),plainGoodE hQ (looseW hQ [])):=by kernel_rfl
open PySem.W in
theorem hL4 (w:World):(openEnds treeTable PySem.Challenge.rw_tilefloor_k16_refusals_stand_apart.row.prog w 5874).map (fun s=>(plainSeenD hQ [] s,wideSeen hQ s,clsSeenW hQ [] s))=some (plainGoodD hQ [],wideGood hQ,clsGoodW hQ []):=by kernel_rfl
open PySem.W in
theorem hL5 (w:World):(openEnds treeTable PySem.Challenge.rw_tilefloor_k16_refusals_stand_apart.row.prog w 5874).map (fun s=>hAs.map s.heap.get?)=some ((hK w).map fun p=>some p.2):=by kernel_rfl
theorem hLeft:PySem.W.LeftO PySem.Challenge.rw_tilefloor_k16_refusals_stand_apart.row.prog hQ [] hXt (fun s=>hAs.map s.heap.get?) (fun w=>(hK w).map fun p=>some p.2) 5874:=fun w=>ag (hL1 w) (hL2 w) (hL3 w) (hL4 w) (hL5 w)
theorem hB_ok (w:World):hB (hK w)=true:=by kernel_rfl
end
end TF
namespace L2
open PySem PySem.Spec PyProof.Rows
abbrev Key:=Sum Int Str
def XH:Key->Value->Bool
 |.inl k,v=>Value.isInt k v
 |.inr x,v=>Value.isStrOf x v
def gK (w:World):Key->Int
 |.inl k=>hashInt k
 |.inr x=>hashStr w x
theorem BP:∀{k:Key} {v:Value},XH k v=true->(∃i t,k=Sum.inl i/\v=Value.int i t)\/(∃x t,k=Sum.inr x/\v=Value.str x t)
 |.inl i,v,h=>by
  obtain ⟨t,e⟩:=Value.isInt_shape (k:=i) (v:=v) h
  exact .inl ⟨i,t,rfl,e⟩
 |.inr x,v,h=>by
  obtain ⟨t,e⟩:=Value.isStrOf_shape (x:=x) (v:=v) h
  exact .inr ⟨x,t,rfl,e⟩
theorem Y8 (a b:Int):decide ((Sum.inl a:Key)=Sum.inl b)=(a==b):=by
 by_cases e:a=b
 ·subst e;simp
 ·have h:¬(Sum.inl a:Key)=Sum.inl b:=fun q=>e (Sum.inl.inj q)
  rw [decide_eq_false h]
  exact (beq_eq_false_iff_ne.mpr e).symm
theorem YK (a b:Str):decide ((Sum.inr a:Key)=Sum.inr b)=decide (a=b):=by
 by_cases e:a=b
 ·subst e;simp
 ·have h:¬(Sum.inr a:Key)=Sum.inr b:=fun q=>e (Sum.inr.inj q)
  rw [decide_eq_false h,decide_eq_false e]
theorem Yc (a:Int) (b:Str):decide ((Sum.inl a:Key)=Sum.inr b)=false:=decide_eq_false (fun q=>nomatch q)
theorem YN (a:Str) (b:Int):decide ((Sum.inr a:Key)=Sum.inl b)=false:=decide_eq_false (fun q=>nomatch q)
def QW (prog:Program) (w:World):PySem.KeyKind prog w Key where
 is:=XH
 hash:=gK w
 inj:=fun v a b ha hb=>by
  rcases BP ha with ⟨i,t,rfl,rfl⟩|⟨x,t,rfl,rfl⟩
  ·rcases BP hb with ⟨j,u,rfl,e⟩|⟨y,u,rfl,e⟩
   ·injection e with e1 _;rw [e1]
   ·exact nomatch e
  ·rcases BP hb with ⟨j,u,rfl,e⟩|⟨y,u,rfl,e⟩
   ·exact nomatch e
   ·injection e with e1 _;rw [e1]
 byValue:=fun k v h=>by
  rcases BP h with ⟨i,t,rfl,rfl⟩|⟨x,t,rfl,rfl⟩<;>rfl
 pyHash:=fun hv h=>by
  rcases BP hv with ⟨i,t,rfl,rfl⟩|⟨x,t,rfl,rfl⟩
  ·exact wpAny_pyHash_int h
  ·exact wpAny_pyHash_str h
 eqBool:=fun hu hv h=>by
  rcases BP hu with ⟨i,t,rfl,rfl⟩|⟨x,t,rfl,rfl⟩
  ·rcases BP hv with ⟨j,u,rfl,rfl⟩|⟨y,u,rfl,rfl⟩
   ·rw [Y8]at h;exact wpAny_eqBool_int h
   ·rw [Yc]at h;exact SeqAt.EqAt.int_str i t y u _ _ _ _ h
  ·rcases BP hv with ⟨j,u,rfl,rfl⟩|⟨y,u,rfl,rfl⟩
   ·rw [YN]at h;exact SeqAt.EqAt.str_int x t j u _ _ _ _ h
   ·rw [YK]at h;exact wpAny_eqBool_str h
 «strs»:=fun k x t v h=>by
  rcases BP h with ⟨i,u,rfl,e⟩|⟨y,u,rfl,e⟩
  ·exact nomatch e
  ·injection e with e1 _
   subst e1
   cases v<;>rfl
inductive V where
 |non|bl (b:Bool)|int (i:Int)|str (x:Str)|byt (b:Array UInt8)|flt (b:UInt64)|ref (a:Addr)|ty (n:String)
 deriving DecidableEq
def RelV:V->Value->Prop
 |.non,u=>u=Value.none
 |.bl b,u=>u=Value.bool b
 |.int i,u=>∃t,u=Value.int i t
 |.str x,u=>∃t,u=Value.str x t
 |.byt b,u=>∃t,u=Value.bytes b t
 |.flt b,u=>∃t,u=Value.float b t
 |.ref a,u=>u=Value.ref a
 |.ty n,u=>u=Value.type n
abbrev Vals:List V->List Value->Prop:=Paired RelV
theorem Vals.length {xs:List V} {us:List Value} (r:Vals xs us):xs.length=us.length:=Paired.length r
theorem Vals.get:∀{xs:List V} {us:List Value} {i:Nat} {x:V},Vals xs us->xs[i]?=some x->∃u,us[i]?=some u/\RelV x u
 |_,_,_,_,.nil,e=>by simp at e
 |_,_,0,_,.cons r _,e=>by simp at e;subst e;exact ⟨_,rfl,r⟩
 |_,_,i+1,x,.cons _ t,e=>by
  obtain ⟨u,h1,h2⟩:=Vals.get (i:=i) (x:=x) t (by simpa using e)
  exact ⟨u,by simpa using h1,h2⟩
theorem Vals.append:∀{xs ys:List V} {us ws:List Value},Vals xs us->Vals ys ws->Vals (xs++ys) (us++ws)
 |_,_,_,_,.nil,s=>s
 |_,_,_,_,.cons r t,s=>.cons r (Vals.append t s)
theorem Vals.take:∀{xs:List V} {us:List Value} (n:Nat),Vals xs us->Vals (xs.take n) (us.take n)
 |_,_,0,_=>.nil
 |_,_,_+1,.nil=>.nil
 |_,_,n+1,.cons r t=>.cons r (Vals.take n t)
theorem Vals.drop:∀{xs:List V} {us:List Value} (n:Nat),Vals xs us->Vals (xs.drop n) (us.drop n)
 |_,_,0,r=>r
 |_,_,_+1,.nil=>.nil
 |_,_,n+1,.cons _ t=>Vals.drop n t
def XO:Option V->Option Value->Prop
 |some v,some u=>RelV v u
 |none,none=>True
 |_,_=>False
def KV {κ:Type}:List (κ×V)->List (κ×Value)->Prop:=Paired fun (p:κ×V) (q:κ×Value)=>p.1=q.1/\RelV p.2 q.2
def kV:Key->V
 |.inl i=>.int i
 |.inr x=>.str x
inductive HO where
  |lst (xs:List V)
  |tup (xs:List V)
  |dK (Ae:List (Key×V))|dT (Ae:List (List Key×V))
  |set (S:Int->Bool) (n:Nat)
  |ins (C dx:Addr) (fs:List (Str×V))
  |own (x:Addr)
  |xd (fs:List (Str×V))
  |met (f x:Addr)
  |rng (lo hi:Int)
  |frz (o:Obj) (u:HO)
  |tbl (ps:Array Value)
  |ext (φ:Heap->Prop)
abbrev Hp:=Addr->Option HO
def upd (H:Hp) (a:Addr) (o:HO):Hp:=fun b=>if b=a then some o else H b
theorem Bm {H:Hp} {a:Addr} {o:HO}:upd H a o a=some o:=by unfold upd;rw [if_pos rfl]
theorem AX {H:Hp} {a b:Addr} {o:HO} (h:b≠a):upd H a o b=H b:=by unfold upd;rw [if_neg h]
theorem AW {H:Hp} {a b:Addr} {o:HO} (h:H a=some o) (h':H b=none):a≠b:=by
 intro e;subst e;rw [h]at h';cases h'
section
variable (P:Program)(w:World)
def ObjOk (H:Hp) (h:Heap) (a:Addr):HO->Prop
 |.lst xs=>xs.length≤sizeLine/\∃(its:List Value) (n:Nat),Vals xs its/\h.get? a=some { cls:=.type "list",data:=.seq its.toArray n }
 |.tup xs=>xs.length≤sizeLine/\∃its:List Value,Vals xs its/\IsTup h a its.toArray
 |.dK Ae=>Ae.length≤sizeLine/\(a==sysModules)=false/\∃vs,KV Ae vs/\h.DictOf (QW P w) a vs
 |.dT Ae=>Ae.length≤sizeLine/\(a==sysModules)=false/\∃xs:List (List Key×Addr×Value),
   Paired (fun (p:List Key×V) (q:List Key×Addr×Value)=>p.1=q.1/\H q.2.1=some (.tup (p.1.map kV))/\RelV p.2 q.2.2) Ae xs ∧
   ∃o es ep,h.get? a=some o/\o.ExactDict/\o.data=.dict es ep/\es.toList=xs.map (entryOfKey (tupleKind (QW P w)))/\(xs.map (·.1)).Nodup
 |.set S n=>h.SetOf (intKind P w) a S n
 |.ins C dx fs=>H dx=some (.own a)/\fs.length≤1000/\dx≠a/\h.get? a=some (PySem.W.instObj C dx) ∧
   ∃mA,h.Ns1 dx mA/\(∀f,XO (fs.lookup f) (mA f))/\PySem.Within mA (fs.map (·.1))
 |.own _=>∃o,h.get? a=some o
 |.xd fs=>∃mA,h.Ns1 a mA/\∀f,XO (fs.lookup f) (mA f)
 |.rng lo hi=>∃t u v,h.get? a=some { cls:=.type "range",data:=.fields #[.int lo t,.int hi u,.int 1 v] }
 |.frz o u=>h.get? a=some o/\ObjOk H h a u
 |.tbl ps=>h.get? a=some { cls:=.none,data:=.fields ps }
 |.met f x=>h.get? a=some (PySem.W.methodObj (.ref f) (.ref x))
 |.ext φ=>φ h/\(∃o,h.get? a=some o)/\∀h1 h2:Heap,φ h1->(∀o,h1.get? a=some o->h2.get? a=some o)->φ h2
def HOk (H:Hp) (h:Heap):Prop:=∀a o,H a=some o->ObjOk P w H h a o
end
section
variable {P:Program}{w:World}{H H':Hp}{h h':Heap}{a:Addr}{o:HO}
theorem ObjOk.lt (x:ObjOk P w H h a o):a<h.objs.size:=by
 cases o with
 |lst xs=>obtain ⟨_,_,_,_,e⟩:=x;exact Heap.lt_size e
 |tup xs=>obtain ⟨_,_,_,p⟩:=x;exact p.lt
 |dK Ae=>obtain ⟨_,_,_,_,o,_,_,e,_⟩:=x;exact Heap.lt_size e
 |dT Ae=>obtain ⟨_,_,_,_,o,_,_,e,_⟩:=x;exact Heap.lt_size e
 |set S n=>obtain ⟨o,_,_,_,e,_⟩:=x;exact Heap.lt_size e
 |ins C dx fs=>obtain ⟨_,_,_,e,_⟩:=x;exact Heap.lt_size e
 |own y=>obtain ⟨_,e⟩:=x;exact Heap.lt_size e
 |xd fs=>obtain ⟨_,⟨_,_,_,e,_⟩,_⟩:=x;exact Heap.lt_size e
 |rng lo hi=>obtain ⟨_,_,_,e⟩:=x;exact Heap.lt_size e
 |frz ob u=>obtain ⟨e,_⟩:=x;exact Heap.lt_size e
 |tbl ps=>exact Heap.lt_size (show h.get? a=some _ from x)
 |met f y=>exact Heap.lt_size (show h.get? a=some _ from x)
 |ext φ=>obtain ⟨_,⟨_,e⟩,_⟩:=x;exact Heap.lt_size e
theorem Paired.mapP {α β:Type} {F G:α->β->Prop}:∀{l₁:List α} {l₂:List β},Paired F l₁ l₂->(∀a b,F a b->G a b)->Paired G l₁ l₂
 |_,_,.nil,_=>.nil
 |_,_,.cons r t,f=>.cons (f _ _ r) (Paired.mapP t f)
theorem ObjOk.stay (x:ObjOk P w H h a o) (k:∀b u,(b=a\/H b=some (.own a))->h.get? b=some u->h'.get? b=some u)
  (ho:∀b,H b=some (.own a)->H' b=some (.own a)) (ht:∀b xs,H b=some (.tup xs)->H' b=some (.tup xs)):ObjOk P w H' h' a o:=by
 induction o with
 |lst xs=>obtain ⟨z,its,n,r,e⟩:=x;exact ⟨z,its,n,r,k _ _ (.inl rfl) e⟩
 |tup xs=>obtain ⟨z,its,r,ob,e,c⟩:=x;exact ⟨z,its,r,ob,k _ _ (.inl rfl) e,c⟩
 |dK Ae=>obtain ⟨z,y,vs,r,ob,es,ep,e,c⟩:=x;exact ⟨z,y,vs,r,ob,es,ep,k _ _ (.inl rfl) e,c⟩
 |dT Ae=>
  obtain ⟨z,y,xs,r,ob,es,ep,e,c⟩:=x
  exact ⟨z,y,xs,Paired.mapP r fun p q z=>⟨z.1,ht _ _ z.2.1,z.2.2⟩,ob,es,ep,k _ _ (.inl rfl) e,c⟩
 |set S n=>obtain ⟨ob,es,ep,t,e,c⟩:=x;exact ⟨ob,es,ep,t,k _ _ (.inl rfl) e,c⟩
 |ins C dx fs=>
  obtain ⟨d,z,ne,e,mA,⟨od,es,ep,e2,c⟩,r⟩:=x
  exact ⟨ho _ d,z,ne,k _ _ (.inl rfl) e,mA,⟨od,es,ep,k _ _ (.inr d) e2,c⟩,r⟩
 |own y=>obtain ⟨ob,e⟩:=x;exact ⟨ob,k _ _ (.inl rfl) e⟩
 |xd fs=>obtain ⟨mA,⟨od,es,ep,e,c⟩,r⟩:=x;exact ⟨mA,⟨od,es,ep,k _ _ (.inl rfl) e,c⟩,r⟩
 |rng lo hi=>obtain ⟨t,u,v,e⟩:=x;exact ⟨t,u,v,k _ _ (.inl rfl) e⟩
 |frz ob u ih=>obtain ⟨e,q⟩:=x;exact ⟨k _ _ (.inl rfl) e,ih q⟩
 |tbl ps=>
  have e:h.get? a=some { cls:=.none,data:=.fields ps }:=x
  show h'.get? a=some { cls:=.none,data:=.fields ps }
  exact k a _ (.inl rfl) e
 |met f y=>
  have e:h.get? a=some (PySem.W.methodObj (.ref f) (.ref y)):=x
  show h'.get? a=some (PySem.W.methodObj (.ref f) (.ref y))
  exact k a _ (.inl rfl) e
 |ext φ=>obtain ⟨p,⟨o,e⟩,st⟩:=x;exact ⟨st _ _ p fun o q=>k _ _ (.inl rfl) q,⟨o,k _ _ (.inl rfl) e⟩,st⟩
theorem HOk.lt (x:HOk P w H h) (e:H a=some o):a<h.objs.size:=(x a o e).lt
theorem HOk.fresh (x:HOk P w H h) (e:h.objs.size≤a):H a=none:=by
 cases q:H a with
 |none=>rfl
 |some u=>exact absurd (Nat.lt_of_lt_of_le (x.lt q) e) (Nat.lt_irrefl _)
theorem HOk.kept (x:HOk P w H h) (k:∀b u,h.get? b=some u->h'.get? b=some u):HOk P w H h':=fun a o e=>
 (x a o e).stay (fun b u _ q=>k b u q) (fun _ q=>q) fun _ _ q=>q
theorem HOk.laid (x:HOk P w H h) (k:∀b u,h.get? b=some u->h'.get? b=some u) (hp:h.objs.size≤a) (new:ObjOk P w (upd H a o) h' a o):HOk P w (upd H a o) h':=fun b u e=>by
 have hn:=x.fresh hp
 by_cases hb:b=a
 ·subst hb;rw [Bm]at e;cases e;exact new
 ·rw [AX hb]at e
  exact (x b u e).stay (fun c v _ q=>k c v q) (fun c q=>by rw [AX (AW q hn)];exact q) fun c xs q=>by rw [AX (AW q hn)];exact q
end
def Rd (H:Hp) (a:Addr) (u:HO):Prop:=H a=some u\/∃o,H a=some (.frz o u)
theorem Rd.of {H:Hp} {a:Addr} {u:HO} (h:H a=some u):Rd H a u:=.inl h
theorem Rd.ok {P:Program} {w:World} {H:Hp} {h:Heap} {a:Addr} {u:HO} (r:Rd H a u) (x:HOk P w H h):ObjOk P w H h a u:=by
 rcases r with r|⟨o,r⟩
 ·exact x a u r
 ·obtain ⟨_,q⟩:=x a _ r
  exact q
def Mut:Option HO->Prop
 |some (.lst _)=>True
 |some (.dK _)=>True
 |some (.dT _)=>True
 |some (.set _ _)=>True
 |some (.ins _ _ _)=>True
 |some (.ext _)=>True
 |_=>False
section
variable {P:Program}{w:World}{H:Hp}{h h':Heap}{x e:Addr}{o':HO}
theorem HOk.write (ok:HOk P w H h) (mu:Mut (H x)) (he:e=x\/H e=some (.own x)) (k:∀b u,b≠e->h.get? b=some u->h'.get? b=some u) (ZL:∃u,h'.get? e=some u)
  (new:ObjOk P w (upd H x o') h' x o'):HOk P w (upd H x o') h':=fun b u q=>by
 have ar:∀c y,H c=some (.own y)->c≠x:=fun c y r z=>by subst z;rw [r]at mu;exact mu
 have ee:∀c xs,H c=some (.tup xs)->c≠x:=fun c xs r z=>by subst z;rw [r]at mu;exact mu
 by_cases hb:b=x
 ·subst hb;rw [Bm]at q;cases q;exact new
 ·rw [AX hb]at q
  by_cases hbe:b=e
  ·have q':H b=some (.own x):=by
    rcases he with z|z
    ·exact absurd (hbe.trans z) hb
    ·rw [hbe];exact z
   rw [q]at q';cases q'
   obtain ⟨v,hv⟩:=ZL
   exact ⟨v,by rw [hbe];exact hv⟩
  ·refine (ok b u q).stay (fun c v hc r=>k c v ?_ r) (fun c r=>by rw [AX (ar c b r)];exact r) fun c xs r=>by rw [AX (ee c xs r)];exact r
   rcases hc with rfl|hc
   ·exact hbe
   ·rintro rfl
    rcases he with z|z
    ·exact ar c b hc z
    ·rw [hc]at z;cases z;exact hb rfl
end
structure Un (fs ex:List Addr) (H H':Hp) (h h':Heap):Prop where
 keep:∀b o,h.get? b=some o->H b=none->b∉fs->b∉ex->h'.get? b=some o
 slot:∀b o,h.get? b=some o->H b=none->b∈fs->b∉ex->∃sl,h'.get? b=some { o with slots:=sl }
 free:∀b o,h.get? b=some o->H b=none->b∉ex->H' b=none
 there:∀b o,h.get? b=some o->b∉ex->∃o',h'.get? b=some o'
 tups:∀b xs,H b=some (.tup xs)->H' b=some (.tup xs)
 frzs:∀b o u,H b=some (.frz o u)->H' b=some (.frz o u)
 tbls:∀b ps,H b=some (.tbl ps)->∃more,H' b=some (.tbl (ps++more))
section
variable {fs rz ex vZ:List Addr}{H H1 H2:Hp}{h h1 h2 h':Heap}{a x e:Addr}{o:HO}
theorem Un.any (u:Un fs ex H H1 h h1) {b:Addr} {ob:Obj} (q:h.get? b=some ob) (n:H b=none) (hx:b∉ex):∃sl,h1.get? b=some { ob with slots:=sl }:=by
 by_cases hb:b∈fs
 ·exact u.slot b ob q n hb hx
 ·exact ⟨ob.slots,u.keep b ob q n hb hx⟩
theorem Un.trans (a:Un fs ex H H1 h h1) (b:Un fs ex H1 H2 h1 h2):Un fs ex H H2 h h2 where
 keep:=fun c ob q n hc hx=>b.keep c ob (a.keep c ob q n hc hx) (a.free c ob q n hx) hc hx
 slot:=fun c ob q n hc hx=>by
  obtain ⟨sl,e1⟩:=a.slot c ob q n hc hx
  obtain ⟨ZN,e2⟩:=b.slot c _ e1 (a.free c ob q n hx) hc hx
  exact ⟨ZN,e2⟩
 free:=fun c ob q n hx=>by
  obtain ⟨o',e1⟩:=a.there c ob q hx
  exact b.free c o' e1 (a.free c ob q n hx) hx
 there:=fun c ob q hx=>by
  obtain ⟨o',e1⟩:=a.there c ob q hx
  exact b.there c o' e1 hx
 tups:=fun c xs q=>b.tups c xs (a.tups c xs q)
 frzs:=fun c ob xs q=>b.frzs c ob xs (a.frzs c ob xs q)
 tbls:=fun c ps q=>by
  obtain ⟨m1,e1⟩:=a.tbls c ps q
  obtain ⟨m2,e2⟩:=b.tbls c _ e1
  exact ⟨m1++m2,by rw [e2,Array.append_assoc]⟩
theorem Un.kept (k:∀b u,h.get? b=some u->h'.get? b=some u):Un fs ex H H h h':=
 ⟨fun b ob q _ _ _=>k b ob q,fun b ob q _ _ _=>⟨ob.slots,k b ob q⟩,fun _ _ _ n _=>n,fun b ob q _=>⟨ob,k b ob q⟩,fun _ _ q=>q,fun _ _ _ q=>q,fun _ ps q=>⟨#[],by rw [q];simp⟩⟩
theorem Un.refl:Un fs ex H H h h:=Un.kept fun _ _ q=>q
theorem Un.laid (k:∀b u,h.get? b=some u->h'.get? b=some u) (hp:h.objs.size≤a) (hn:H a=none):Un fs ex H (upd H a o) h h' where
 keep:=fun b u q _ _ _=>k b u q
 slot:=fun b u q _ _ _=>⟨u.slots,k b u q⟩
 free:=fun b u q n _=>by rw [AX (Nat.ne_of_lt (Nat.lt_of_lt_of_le (Heap.lt_size q) hp))];exact n
 there:=fun b u q _=>⟨u,k b u q⟩
 tups:=fun b xs q=>by rw [AX (AW q hn)];exact q
 frzs:=fun b u xs q=>by rw [AX (AW q hn)];exact q
 tbls:=fun b ps q=>⟨#[],by rw [AX (AW q hn),q];simp⟩
theorem Un.write (mu:Mut (H x)) (he:e=x\/H e=some (.own x)) (k:∀b u,b≠e->h.get? b=some u->h'.get? b=some u) (ZL:∃u,h'.get? e=some u):Un fs ex H (upd H x o) h h':=by
 have hx:∀b,H b=none->b≠x:=fun b n z=>by subst z;rw [n]at mu;exact mu
 have hb:∀b,H b=none->b≠e:=fun b n z=>by
  subst z
  rcases he with r|r
  ·exact hx b n r
  ·rw [n]at r;cases r
 have hm:∀b u,H b=some u->¬Mut (some u)->b≠x:=fun b u q nm z=>by subst z;rw [q]at mu;exact nm mu
 refine ⟨fun b u q n _ _=>k b u (hb b n) q,fun b u q n _ _=>⟨u.slots,k b u (hb b n) q⟩,fun b u q n _=>by rw [AX (hx b n)];exact n,fun b u q _=>?_,
  fun b xs q=>by rw [AX (hm b _ q fun z=>z)];exact q,fun b u xs q=>by rw [AX (hm b _ q fun z=>z)];exact q,fun b ps q=>⟨#[],by rw [AX (hm b _ q fun z=>z),q];simp⟩⟩
 by_cases hbe:b=e
 ·subst hbe;exact ZL
 ·exact ⟨u,k b u hbe q⟩
end
def trk (h:Heap) (H:Hp):List Addr:=(List.range h.objs.size).filter fun a=>(H a).isSome
def Kl (h:Heap) (H:Hp):Heap:=PySem.W.hideAll h (trk h H)
theorem Qq (h:Heap) (H:Hp):(Kl h H).objs.size=h.objs.size:=PySem.W.hideAll_size _ _
theorem Sz {h:Heap} {H:Hp} {b:Addr} {o:Obj} (e:h.get? b=some o) (n:H b=none):(Kl h H).get? b=some o:=
 PySem.W.hideAll_get _ e fun hm=>by
  have q:(H b).isSome=true:=(List.mem_filter.mp hm).2
  rw [n]at q;simp at q
theorem VA {h:Heap} {H:Hp} {b:Addr} {o:Obj} (e:(Kl h H).get? b=some o):h.get? b=some o/\H b=none:=by
 have e':h.get? b=some o:=PySem.W.of_hideAll (trk h H) e
 refine ⟨e',?_⟩
 cases q:H b with
 |none=>rfl
 |some x=>
  have hm:b∈trk h H:=List.mem_filter.mpr ⟨List.mem_range.mpr (Heap.lt_size e'),by simp [q]⟩
  have z:(Kl h H).get? b=none:=PySem.W.hideAll_none (trk h H) hm
  rw [z]at e;cases e
def VW (g h:Heap) (L:Addr):List (Addr×Obj):=(List.range h.objs.size).filterMap fun a=>if a=L\/(g.get? a).isSome=true then none else (h.get? a).map fun o=>(a,o)
def rest (g h:Heap) (L d:Addr):List (Addr×Obj):=(VW g h L).filter fun p=>decide (p.1≠d)
structure Mod (K:PySem.W.Frag) (mg:Str->Option Value) (base:Heap):Prop where
 kin:K.In base
 glob:base.Ns mainGlobals mg
 blt:∃mb,base.Ns builtinsNs mb/\∀x:Str,x≠"__name__"->mb x=bootBuiltins x
 nolimit:base.NoLimit
structure Cx where
 prog:Program
 w:World
 K:PySem.W.Frag
 mg:Str->Option Value
 base:Heap
 A:Around
 N:List Str
 s₀:Shared
 H₀:Hp
 env:Env
 outer:List Env
 stack:List Env
 ex:List Addr
 fn:Str->Bool
 calm:Bool
 pn:List (Addr×Obj)
 xe:Value->Shared->Prop
def frs (l:List Env):List Addr:=l.filterMap (·.frame)
abbrev Cx.fs (X:Cx):List Addr:=frs X.outer
def Vis (sc:Scope) (x:Str):Prop:=sc.names.lookup x=some .local\/sc.names.lookup x=some .cell\/sc.names.lookup x=some .free
def Loc (sc:Scope) (x:Str):Prop:=sc.names.lookup x=some .local\/sc.names.lookup x=some .cell
def Zn (env:Env) (h:Heap) (m:Str->Option Value) (x:Str) (u:Value):Prop:=
 (env.kindOf x=some .local/\m x=some u)\/((env.kindOf x=some .cell\/env.kindOf x=some .free)/\∃c,env.cells.lookup x=some c/\h.IsCell c (some u))
structure Cx.Ok (X:Cx):Prop where
 mod:Mod X.K X.mg X.base
 kind:X.env.scope.kind=.function
 glob:X.env.globals=mainGlobals
 blt:X.env.builtins=builtinsNs
 above:X.s₀.heap.objs.size≤X.env.locals
 inj:∀x y c,X.env.cells.lookup x=some c->X.env.cells.lookup y=some c->x=y
 has:∀x,(X.env.kindOf x=some .cell\/X.env.kindOf x=some .free)->∃c,X.env.cells.lookup x=some c
 cab:∀x c,X.fn x=true->X.env.cells.lookup x=some c->X.s₀.heap.objs.size≤c
 hd:X.calm=true->X.A.handled=none
 frames:X.A.frames=some X.stack
 stk:X.stack=X.outer\/(X.stack=X.env::X.outer/\X.env.frame=some X.env.locals)
 exf:∀b∈X.ex,b≠X.env.locals/\∀x c,X.env.cells.lookup x=some c->c≠b
 bs:∀b o,X.base.get? b=some o->X.s₀.heap.get? b=some o/\X.H₀ b=none
 bsz:X.base.objs.size≤X.s₀.heap.objs.size
 noex:∀b o,X.base.get? b=some o->b∉X.ex
 exfs:∀b∈X.ex,b∉X.fs
 funs:X.s₀.heap.FunFrames X.base X.outer
 frf:∀b∈X.fs,X.H₀ b=none
structure Inv (X:Cx) (pins:List (Addr×Obj)) (σ:List (Option V)) (H:Hp) (s:Shared):Prop where
 ok:X.Ok
 os:s.os=X.s₀.os
 bare:AllBare s.gens
 base:Un X.fs X.ex X.H₀ H X.s₀.heap s.heap
 loc:∃m,s.heap.Ns X.env.locals m/\∀(i:Nat) (x:Str) (v:V),X.N[i]?=some x->σ[i]?=some (some v)->Vis X.env.scope x->∃u,RelV v u/\Zn X.env s.heap m x u
 cell:∀x c,X.env.cells.lookup x=some c->∃v,s.heap.IsCell c v
 free:H X.env.locals=none
 freeC:∀x c,X.env.cells.lookup x=some c->H c=none
 pin:∀p∈X.pn++pins,s.heap.get? p.1=some p.2/\H p.1=none/\p.1≠X.env.locals/\p.1∉X.fs/\∀v,p.2.data≠.cell v
 hok:HOk X.prog X.w H s.heap
 len:σ.length=X.N.length
section
variable {X:Cx}{pins:List (Addr×Obj)}{σ:List (Option V)}{H H':Hp}{s:Shared}{h':Heap}
theorem Cx.Ok.nofr (ok:X.Ok) {b:Addr} {o:Obj} (e:X.base.get? b=some o):b∉X.fs:=fun hb=>by
 have:=(ok.funs.mem hb).1
 rw [e]at this;cases this
theorem Inv.bs (I:Inv X pins σ H s):∀b o,X.base.get? b=some o->s.heap.get? b=some o/\H b=none:=fun b o e=>
 ⟨I.base.keep b o (I.ok.bs b o e).1 (I.ok.bs b o e).2 (I.ok.nofr e) (I.ok.noex b o e),I.base.free b o (I.ok.bs b o e).1 (I.ok.bs b o e).2 (I.ok.noex b o e)⟩
theorem Inv.bk (I:Inv X pins σ H s):∀b o,X.base.get? b=some o->s.heap.get? b=some o:=fun b o e=>(I.bs b o e).1
theorem Inv.mod (I:Inv X pins σ H s):Mod X.K X.mg X.base:=I.ok.mod
theorem Inv.kIn (I:Inv X pins σ H s):X.K.In s.heap:=I.ok.mod.kin.keeps I.bk
theorem Inv.nolimit (I:Inv X pins σ H s):s.heap.NoLimit:=I.ok.mod.nolimit.keeps I.bk
theorem Inv.fr (I:Inv X pins σ H s):∃m,Fr X.base X.env.locals s.heap m:=
 let ⟨m,hn,_⟩:=I.loc
 ⟨m,hn,I.bk,Nat.le_trans I.ok.bsz I.ok.above⟩
theorem Inv.lt (I:Inv X pins σ H s):X.env.locals<s.heap.objs.size:=let ⟨_,hn,_⟩:=I.loc;hn.lt
theorem Inv.sz (I:Inv X pins σ H s):X.s₀.heap.objs.size≤s.heap.objs.size:=Nat.le_trans I.ok.above (Nat.le_of_lt I.lt)
theorem Inv.nofs (I:Inv X pins σ H s) {a:Addr} (h:s.heap.objs.size≤a):a∉X.fs:=fun hb=>by
 obtain ⟨_,o,ho,_⟩:=I.ok.funs.mem hb
 exact absurd (Nat.lt_of_lt_of_le (Heap.lt_size ho) (Nat.le_trans I.sz h)) (Nat.lt_irrefl _)
theorem Inv.cne (I:Inv X pins σ H s):∀x c,X.env.cells.lookup x=some c->c≠X.env.locals:=fun x c e z=>by
 obtain ⟨v,o,ho,hd⟩:=I.cell x c e
 obtain ⟨m,⟨o',es,ep,Js,Wz,_⟩,_⟩:=I.loc
 rw [z,Js]at ho;cases ho;rw [Wz]at hd;cases hd
theorem Inv.funs (I:Inv X pins σ H s):s.heap.FunFrames X.base X.outer:=by
 have all:∀(l:List Env),(∀b∈frs l,b∈X.fs)->X.s₀.heap.FunFrames X.base l->s.heap.FunFrames X.base l:=by
  intro l
  induction l with
  |nil=>intro _ _;trivial
  |cons env r ih=>
   intro hs hl
   obtain ⟨hk,⟨L,o,hf,hn,ho,hd⟩,hr⟩:=hl
   have hL:L∈X.fs:=hs L (by unfold frs;rw [List.filterMap_cons,hf];exact List.mem_cons_self)
   obtain ⟨sl,e⟩:=I.base.slot L o ho (I.ok.frf L hL) hL fun z=>I.ok.exfs L z hL
   exact ⟨hk,⟨L,_,hf,hn,e,hd⟩,ih (fun b hb=>hs b (by unfold frs;rw [List.filterMap_cons,hf];exact List.mem_cons_of_mem _ hb)) hr⟩
 exact all X.outer (fun _ hb=>hb) I.ok.funs
theorem Inv.stack (I:Inv X pins σ H s):s.heap.FunFrames X.base X.stack:=by
 rcases I.ok.stk with e|⟨e,hf⟩
 ·rw [e];exact I.funs
 ·rw [e]
  obtain ⟨m,hn,_⟩:=I.loc
  refine .cons (by rw [I.ok.kind];decide) hf hn ?_ I.funs
  exact Heap.get?_none_of_le (Nat.le_trans I.ok.bsz I.ok.above)
theorem Inv.stkSub (I:Inv X pins σ H s):∀b∈frs X.stack,b∈X.env.locals::X.fs:=fun b hb=>by
 rcases I.ok.stk with e|⟨e,hf⟩
 ·rw [e]at hb;exact List.mem_cons_of_mem _ hb
 ·rw [e]at hb
  unfold frs at hb
  rw [List.filterMap_cons,hf]at hb
  exact hb
theorem Inv.stkFree (I:Inv X pins σ H s):∀b∈frs X.stack,H b=none:=fun b hb=>by
 rcases List.mem_cons.mp (I.stkSub b hb)with e|hb
 ·rw [e];exact I.free
 ·obtain ⟨_,o,ho,_⟩:=I.ok.funs.mem hb
  exact I.base.free b o ho (I.ok.frf b hb) fun z=>I.ok.exfs b z hb
theorem Inv.step {g':Array GenState} {t':Nat} {d':Drawn} {ch:List Addr} (I:Inv X pins σ H s)
  (Pq:∀b∈ch,(b∈X.ex\/X.s₀.heap.objs.size≤b)/\b≠X.env.locals/\(∀x c,X.env.cells.lookup x=some c->c≠b)/\∀p∈X.pn++pins,p.1≠b)
  (keep:∀b o,b≠X.env.locals->b∉X.fs->b∉ch->s.heap.get? b=some o->H b=none->h'.get? b=some o)
  (slot:∀b o,b≠X.env.locals->b∈X.fs->b∉ch->s.heap.get? b=some o->H b=none->∃sl,h'.get? b=some { o with slots:=sl }) (free:∀b o,b∉ch->s.heap.get? b=some o->H b=none->H' b=none)
  (there:∀b o,b∉ch->s.heap.get? b=some o->∃o',h'.get? b=some o')
  (tups:∀b xs,H b=some (.tup xs)->H' b=some (.tup xs)) (frzs:∀b o u,H b=some (.frz o u)->H' b=some (.frz o u)) (tbls:∀b ps,H b=some (.tbl ps)->∃more,H' b=some (.tbl (ps++more)))
  (ns:∀m,s.heap.Ns X.env.locals m->h'.Ns X.env.locals m) (hok:HOk X.prog X.w H' h') (hg:AllBare g') :
  Inv X pins σ H' { s with heap:=h',gens:=g',drawn:=d',toks:=t' }:=by
 have Ud:∀b o,X.s₀.heap.get? b=some o->b≠X.env.locals:=fun b o e=>Nat.ne_of_lt (Nat.lt_of_lt_of_le (Heap.lt_size e) I.ok.above)
 have dR:∀b o,X.s₀.heap.get? b=some o->b∉X.ex->b∉ch:=fun b o e hx hb=>by
  rcases (Pq b hb).1 with z|z
  ·exact hx z
  ·exact absurd (Nat.lt_of_lt_of_le (Heap.lt_size e) z) (Nat.lt_irrefl _)
 have cellK:∀x c,X.env.cells.lookup x=some c->∀v,s.heap.IsCell c v->h'.IsCell c v:=fun x c e v ⟨o,ho,hd⟩=>by
  have Ni:c∉ch:=fun z=>(Pq c z).2.2.1 x c e rfl
  by_cases hc:c∈X.fs
  ·obtain ⟨sl,q⟩:=slot c o (I.cne x c e) hc Ni ho (I.freeC x c e)
   exact ⟨_,q,hd⟩
  ·exact ⟨o,keep c o (I.cne x c e) hc Ni ho (I.freeC x c e),hd⟩
 refine ⟨I.ok,I.os,hg,⟨fun b o e n hb hx=>?_,fun b o e n hb hx=>?_,fun b o e n hx=>?_,fun b o e hx=>?_,fun b xs e=>tups b xs (I.base.tups b xs e),fun b o xs e=>frzs b o xs (I.base.frzs b o xs e),fun b ps e=>?_⟩,?_,fun x c e=>?_,?_,fun x c e=>?_,fun p hp=>?_,hok,I.len⟩
 ·exact keep b o (Ud b o e) hb (dR b o e hx) (I.base.keep b o e n hb hx) (I.base.free b o e n hx)
 ·obtain ⟨sl,e1⟩:=I.base.slot b o e n hb hx
  obtain ⟨ZN,e2⟩:=slot b _ (Ud b o e) hb (dR b o e hx) e1 (I.base.free b o e n hx)
  exact ⟨ZN,e2⟩
 ·obtain ⟨o',e1⟩:=I.base.there b o e hx
  exact free b o' (dR b o e hx) e1 (I.base.free b o e n hx)
 ·obtain ⟨o',e1⟩:=I.base.there b o e hx
  exact there b o' (dR b o e hx) e1
 ·obtain ⟨m1,e1⟩:=I.base.tbls b ps e
  obtain ⟨m2,e2⟩:=tbls b _ e1
  exact ⟨m1++m2,by rw [e2,Array.append_assoc]⟩
 ·obtain ⟨m,hn,hl⟩:=I.loc
  refine ⟨m,ns m hn,fun i x v e1 e2 e3=>?_⟩
  obtain ⟨u,r,l⟩:=hl i x v e1 e2 e3
  refine ⟨u,r,?_⟩
  rcases l with l|⟨k,c,e,z⟩
  ·exact .inl l
  ·exact .inr ⟨k,c,e,cellK x c e _ z⟩
 ·obtain ⟨v,z⟩:=I.cell x c e
  exact ⟨v,cellK x c e v z⟩
 ·obtain ⟨m,⟨o,_,_,ho,_⟩,_⟩:=I.loc
  exact free _ o (fun z=>(Pq _ z).2.1 rfl) ho I.free
 ·obtain ⟨v,o,ho,hd⟩:=I.cell x c e
  exact free c o (fun z=>(Pq c z).2.2.1 x c e rfl) ho (I.freeC x c e)
 ·obtain ⟨e,n,ne,nf,d⟩:=I.pin p hp
  have Ni:p.1∉ch:=fun z=>(Pq p.1 z).2.2.2 p hp rfl
  exact ⟨keep p.1 p.2 ne nf Ni e n,free p.1 p.2 Ni e n,ne,nf,d⟩
theorem Inv.un {t':Nat} (I:Inv X pins σ H s) (u:Un X.fs [] H H' s.heap h') (hok:HOk X.prog X.w H' h'):Inv X pins σ H' { s with heap:=h',toks:=t' }:=by
 obtain ⟨m,⟨o,es,ep,ho,r⟩,_⟩:=id I.loc
 obtain ⟨sl,hL⟩:=u.any ho I.free (by simp)
 exact I.step (g':=s.gens) (d':=s.drawn) (ch:=[]) (fun _ z=>nomatch z) (fun b o _ hb _ e n=>u.keep b o e n hb (by simp)) (fun b o _ hb _ e n=>u.slot b o e n hb (by simp)) (fun b o _ e n=>u.free b o e n (by simp)) (fun b o _ e=>u.there b o e (by simp)) u.tups u.frzs u.tbls (fun m' hm=>by
  obtain ⟨o',Hv,Vu,Js,r'⟩:=hm
  rw [ho]at Js;cases Js
  exact ⟨_,Hv,Vu,hL,r'⟩) hok I.bare
theorem Inv.call {g':Array GenState} {t':Nat} {d':Drawn} {ch:List Addr} (I:Inv X pins σ H s) (u:Un (frs X.stack) ch H H' s.heap h') (hok:HOk X.prog X.w H' h') (hg:AllBare g')
  (Pq:∀b∈ch,(b∈X.ex\/X.s₀.heap.objs.size≤b)/\b≠X.env.locals/\(∀x c,X.env.cells.lookup x=some c->c≠b)/\∀p∈X.pn++pins,p.1≠b) :
  Inv X pins σ H' { s with heap:=h',gens:=g',drawn:=d',toks:=t' }:=by
 obtain ⟨m,⟨o,es,ep,ho,r⟩,_⟩:=id I.loc
 obtain ⟨sl,hL⟩:=u.any ho I.free fun z=>(Pq _ z).2.1 rfl
 exact I.step (ch:=ch) Pq (fun b o hL hb hc e n=>u.keep b o e n (fun z=>(List.mem_cons.mp (I.stkSub b z)).elim hL hb) hc) (fun b o _ _ hc e n=>u.any e n hc) (fun b o hc e n=>u.free b o e n hc) (fun b o hc e=>u.there b o e hc) u.tups u.frzs u.tbls (fun m' hm=>by
  obtain ⟨o',Hv,Vu,Js,r'⟩:=hm
  rw [ho]at Js;cases Js
  exact ⟨_,Hv,Vu,hL,r'⟩) hok hg
theorem Inv.turned {t':Nat} {it:Addr} (I:Inv X pins σ H s) (k:∀b o,b≠it->s.heap.get? b=some o->h'.get? b=some o) (hn:H it=none) (hL:it≠X.env.locals)
  (h1:it∈X.ex\/X.s₀.heap.objs.size≤it) (h2:∀x c,X.env.cells.lookup x=some c->c≠it) (h3:∀p∈X.pn++pins,p.1≠it):Inv X pins σ H { s with heap:=h',toks:=t' }:=by
 have nr:∀b u,H b=some u->b≠it:=fun b u e z=>by rw [z,hn]at e;cases e
 refine I.step (g':=s.gens) (d':=s.drawn) (ch:=[it]) (fun b hb=>?_) (fun b o _ _ hc e _=>k b o (fun z=>hc (by simp [z])) e) (fun b o _ _ hc e _=>⟨o.slots,k b o (fun z=>hc (by simp [z])) e⟩) (fun _ _ _ _ n=>n)
  (fun b o hc e=>⟨o,k b o (fun z=>hc (by simp [z])) e⟩) (fun _ _ e=>e) (fun _ _ _ e=>e) (fun b ps e=>⟨#[],by rw [e];simp⟩) (fun m hm=>?_) (fun b u e=>?_) I.bare
 ·have e:b=it:=by simpa using hb
  subst e
  exact ⟨h1,hL,h2,h3⟩
 ·obtain ⟨o,es,ep,ho,r⟩:=hm
  exact ⟨o,es,ep,k _ o (Ne.symm hL) ho,r⟩
 ·refine (I.hok b u e).stay (fun c v hc q=>k c v ?_ q) (fun _ q=>q) fun _ _ q=>q
  rcases hc with z|z
  ·rw [z];exact nr b u e
  ·exact nr c _ z
theorem Inv.tok (I:Inv X pins σ H s) (t:Nat):Inv X pins σ H { s with toks:=t }:=I.un (h':=s.heap) (t':=t) Un.refl I.hok
theorem Inv.kept {t':Nat} (I:Inv X pins σ H s) (k:∀b u,s.heap.get? b=some u->h'.get? b=some u):Inv X pins σ H { s with heap:=h',toks:=t' }:=I.un (Un.kept k) (I.hok.kept k)
theorem Inv.laid {a:Addr} {o:HO} {t':Nat} (I:Inv X pins σ H s) (k:∀b u,s.heap.get? b=some u->h'.get? b=some u) (hp:s.heap.objs.size≤a) (new:ObjOk X.prog X.w (upd H a o) h' a o) :
  Inv X pins σ (upd H a o) { s with heap:=h',toks:=t' }:=I.un (Un.laid k hp (I.hok.fresh hp)) (I.hok.laid k hp new)
theorem Inv.write {x e:Addr} {o:HO} {t':Nat} (I:Inv X pins σ H s) (mu:Mut (H x)) (he:e=x\/H e=some (.own x)) (k:∀b u,b≠e->s.heap.get? b=some u->h'.get? b=some u) (ZL:∃u,h'.get? e=some u)
  (new:ObjOk X.prog X.w (upd H x o) h' x o):Inv X pins σ (upd H x o) { s with heap:=h',toks:=t' }:=I.un (Un.write mu he k ZL) (I.hok.write mu he k ZL new)
theorem Inv.pins_of {Wn:List (Addr×Obj)} (I:Inv X pins σ H s) (h:∀p∈Wn,s.heap.get? p.1=some p.2/\H p.1=none/\p.1≠X.env.locals/\p.1∉X.fs/\∀v,p.2.data≠.cell v):Inv X Wn σ H s:=
 ⟨I.ok,I.os,I.bare,I.base,I.loc,I.cell,I.free,I.freeC,fun p hp=>(List.mem_append.mp hp).elim (fun z=>I.pin p (List.mem_append_left _ z)) (h p),I.hok,I.len⟩
theorem ND {N:List Str} (hN:N.Nodup) {i j:Nat} {x:Str} (a:N[i]?=some x) (b:N[j]?=some x):i=j:=by
 obtain ⟨h1,e1⟩:=List.getElem?_eq_some_iff.mp a
 obtain ⟨h2,e2⟩:=List.getElem?_eq_some_iff.mp b
 exact (List.getElem_inj hN).mp (e1.trans e2.symm)
theorem KG {M:Model} {A:Around} {E:Value->Shared->Prop} {i:Nat} {x:Str} {v:V} {u:Value} {Q:Unit->Shared->Prop} (I:Inv X pins σ H s) (hN:X.N.Nodup) (hi:X.N[i]?=some x) (hx:Loc X.env.scope x) (r:RelV v u)
  (h:∀s',Inv X pins (σ.set i (some v)) H s'->(∃a,Heap.SameBut a s.heap s'.heap/\(a=X.env.locals\/X.env.cells.lookup x=some a))->Q () s') (hf:X.fn x=true\/X.env.scope.names.lookup x=some .local:=by first|exact .inl rfl|exact .inr rfl|assumption):wpAny M A (storeName X.env x u) Q E s:=by
 obtain ⟨m,hn,hl⟩:=id I.loc
 have O7:(X.env.scope.kind==.class||(X.env.scope.kind==.module&&X.env.locals != X.env.globals))=false:=by rw [I.ok.kind];rfl
 have hiσ:i<σ.length:=by rw [I.len];exact (List.getElem?_eq_some_iff.mp hi).1
 have cne:=I.cne
 have tracked:∀{a:Addr} {h':Heap},(∃o,s.heap.get? a=some o/\H a=none)->Heap.SameBut a s.heap h'->HOk X.prog X.w H h':=fun {a h'} ha hs b ob e=>by
  obtain ⟨_,_,Ha⟩:=ha
  refine (I.hok b ob e).stay (fun c w' hc q=>(hs.2 c ?_).trans q) (fun _ q=>q) fun _ _ q=>q
  rintro rfl
  rcases hc with rfl|hc
  ·rw [Ha]at e;cases e
  ·rw [Ha]at hc;cases hc
 rcases hx with hk|hk
 ·refine wpAny_storeName_local hk hn (fun h' VI hs=>?_) O7
  obtain ⟨oL,_,_,cj,_⟩:=id hn
  refine h _ ⟨I.ok,I.os,I.bare,⟨fun b o e n hb hx=>?_,fun b o e n hb hx=>?_,I.base.free,fun b o e hx=>?_,I.base.tups,I.base.frzs,I.base.tbls⟩,⟨_,VI,fun j y v' e1 e2 e3=>?_⟩,fun y c e=>?_,I.free,I.freeC,fun p hp=>?_,tracked ⟨oL,cj,I.free⟩ hs,by simpa using I.len⟩ ⟨_,hs,.inl rfl⟩
  ·exact (hs.2 b (Nat.ne_of_lt (Nat.lt_of_lt_of_le (Heap.lt_size e) I.ok.above))).trans (I.base.keep b o e n hb hx)
  ·obtain ⟨sl,e1⟩:=I.base.slot b o e n hb hx
   exact ⟨sl,(hs.2 b (Nat.ne_of_lt (Nat.lt_of_lt_of_le (Heap.lt_size e) I.ok.above))).trans e1⟩
  ·obtain ⟨o',e1⟩:=I.base.there b o e hx
   exact ⟨o',(hs.2 b (Nat.ne_of_lt (Nat.lt_of_lt_of_le (Heap.lt_size e) I.ok.above))).trans e1⟩
  ·by_cases hj:j=i
   ·subst hj
    rw [hi]at e1;cases e1
    rw [List.getElem?_set_self hiσ]at e2
    cases e2
    exact ⟨u,r,.inl ⟨hk,by simp⟩⟩
   ·rw [List.getElem?_set_ne (Ne.symm hj)]at e2
    obtain ⟨u',r',q⟩:=hl j y v' e1 e2 e3
    refine ⟨u',r',?_⟩
    rcases q with ⟨k,e⟩|⟨k,c,e,z⟩
    ·refine .inl ⟨k,?_⟩
     have:y≠x:=fun e=>hj (ND hN e1 (e▸hi))
     simp [this,e]
    ·exact .inr ⟨k,c,e,z.sameBut hs (cne y c e)⟩
  ·obtain ⟨w',z⟩:=I.cell y c e
   exact ⟨w',z.sameBut hs (cne y c e)⟩
  ·obtain ⟨e,n,ne,nf,d⟩:=I.pin p hp
   exact ⟨(hs.2 p.1 ne).trans e,n,ne,nf,d⟩
 ·have bO:X.fn x=true:=by
   rcases hf with z|z
   ·exact z
   ·rw [z]at hk;cases hk
  obtain ⟨c,hc⟩:=I.ok.has x (.inl hk)
  obtain ⟨w',z⟩:=I.cell x c hc
  refine wpAny_storeName_cell I.ok.kind hk hc z (fun h' TL hs=>?_)
  obtain ⟨oc,ZE,gL⟩:=id z
  refine h { s with heap:=h' } ⟨I.ok,I.os,I.bare,⟨fun b o e n hb hx=>?_,fun b o e n hb hx=>?_,I.base.free,fun b o e hx=>?_,I.base.tups,I.base.frzs,I.base.tbls⟩,⟨m,hn.sameBut hs (Ne.symm (cne x c hc)),fun j y v' e1 e2 e3=>?_⟩,fun y c' e=>?_,I.free,I.freeC,fun p hp=>?_,tracked ⟨oc,ZE,I.freeC x c hc⟩ hs,by simpa using I.len⟩ ⟨c,hs,.inr hc⟩
  ·exact (hs.2 b (Nat.ne_of_lt (Nat.lt_of_lt_of_le (Heap.lt_size e) (I.ok.cab x c bO hc)))).trans (I.base.keep b o e n hb hx)
  ·obtain ⟨sl,e1⟩:=I.base.slot b o e n hb hx
   exact ⟨sl,(hs.2 b (Nat.ne_of_lt (Nat.lt_of_lt_of_le (Heap.lt_size e) (I.ok.cab x c bO hc)))).trans e1⟩
  ·obtain ⟨o',e1⟩:=I.base.there b o e hx
   exact ⟨o',(hs.2 b (Nat.ne_of_lt (Nat.lt_of_lt_of_le (Heap.lt_size e) (I.ok.cab x c bO hc)))).trans e1⟩
  ·by_cases hj:j=i
   ·subst hj
    rw [hi]at e1;cases e1
    rw [List.getElem?_set_self hiσ]at e2
    cases e2
    exact ⟨u,r,.inr ⟨.inl hk,c,hc,TL⟩⟩
   ·rw [List.getElem?_set_ne (Ne.symm hj)]at e2
    obtain ⟨u',r',q⟩:=hl j y v' e1 e2 e3
    refine ⟨u',r',?_⟩
    rcases q with q|⟨k,c',e,z'⟩
    ·exact .inl q
    ·refine .inr ⟨k,c',e,z'.sameBut hs ?_⟩
     rintro rfl
     exact hj (ND hN e1 (I.ok.inj _ _ _ e hc▸hi))
  ·by_cases hcc:c'=c
   ·subst hcc;exact ⟨_,TL⟩
   ·obtain ⟨w2,z2⟩:=I.cell y c' e
    exact ⟨w2,z2.sameBut hs hcc⟩
  ·obtain ⟨e,n,ne,nf,d⟩:=I.pin p hp
   refine ⟨(hs.2 p.1 ?_).trans e,n,ne,nf,d⟩
   intro q
   rw [q,ZE]at e
   have q':oc=p.2:=Option.some.inj e
   exact d w' (by rw [<-q'];exact gL)
theorem Gr {M:Model} {A:Around} {E:Value->Shared->Prop} {i:Nat} {x:Str} {v:V} {u:Value} {Q:Unit->Shared->Prop} (I:Inv X pins σ H s) (hN:X.N.Nodup) (hi:X.N[i]?=some x) (hx:Loc X.env.scope x) (r:RelV v u)
  (h:∀s',Inv X pins (σ.set i (some v)) H s'->Q () s') (hf:X.fn x=true\/X.env.scope.names.lookup x=some .local:=by first|exact .inl rfl|exact .inr rfl|assumption):wpAny M A (storeName X.env x u) Q E s:=
 KG I hN hi hx r (fun s' I' _=>h s' I') hf
theorem Inv.call' {s':Shared} {ch:List Addr} (I:Inv X pins σ H s) (ho:s'.os=s.os) (u:Un (frs X.stack) ch H H' s.heap s'.heap) (hok:HOk X.prog X.w H' s'.heap) (hg:AllBare s'.gens)
  (Pq:∀b∈ch,(b∈X.ex\/X.s₀.heap.objs.size≤b)/\b≠X.env.locals/\(∀x c,X.env.cells.lookup x=some c->c≠b)/\∀p∈X.pn++pins,p.1≠b):Inv X pins σ H' s':=by
 obtain ⟨h',g',d',t',o'⟩:=s'
 have e:o'=s.os:=ho
 subst e
 exact I.call (g':=g') (t':=t') (d':=d') u hok hg Pq
end
abbrev XK:=Value->Option Addr->Hp->Prop
abbrev St:=List (Option V)
abbrev VK:=V->Hp->Prop
abbrev TE:=St->Hp->VK->Prop
abbrev TT:=St->Hp->(Bool->Hp->Prop)->Prop
abbrev TA:=St->Hp->(List V->Hp->Prop)->Prop
structure Ends where
 nx:St->Hp->Prop
 rt:VK
 bk:St->Hp->Prop:=fun _ _=>False
 ct:St->Hp->Prop:=fun _ _=>False
abbrev TS:=Ends->St->Hp->Prop
def EP (X:Cx) (pins:List (Addr×Obj)) (σ:St) (Q:VK) (u:Value) (s':Shared):Prop:=∃v H',Inv X pins σ H' s'/\RelV v u/\Q v H'
def TP (X:Cx) (pins:List (Addr×Obj)) (σ:St) (Q:Bool->Hp->Prop) (b:Bool) (s':Shared):Prop:=∃H',Inv X pins σ H' s'/\Q b H'
def AP (X:Cx) (pins:List (Addr×Obj)) (σ:St) (Q:List V->Hp->Prop) (us:List Value) (s':Shared):Prop:=∃vs H',Inv X pins σ H' s'/\Vals vs us/\Q vs H'
def SP (X:Cx) (pins:List (Addr×Obj)) (D:Ends) (f:Flow) (s':Shared):Prop:=
 match f with
 |.next=>∃σ' H',Inv X pins σ' H' s'/\D.nx σ' H'
 |.brk=>∃σ' H',Inv X pins σ' H' s'/\D.bk σ' H'
 |.cont=>∃σ' H',Inv X pins σ' H' s'/\D.ct σ' H'
 |.ret u=>∃v σ' H',Inv X pins σ' H' s'/\RelV v u/\D.rt v H'
def PE (X:Cx) (e:Expr) (t:TE):Prop:=
 ∀(pins:List (Addr×Obj)) (s:Shared) (σ:St) (H:Hp) (Q:VK),Inv X pins σ H s->t σ H Q->wpAny (model X.prog X.w) X.A (eval e X.env) (EP X pins σ Q) X.xe s
def PT (X:Cx) (e:Expr) (t:TT):Prop:=
 ∀(pins:List (Addr×Obj)) (s:Shared) (σ:St) (H:Hp) (Q:Bool->Hp->Prop),Inv X pins σ H s->t σ H Q->wpAny (model X.prog X.w) X.A (isTrue e X.env (eval e X.env)) (TP X pins σ Q) X.xe s
def PA (X:Cx) (es:List Expr) (t:TA):Prop:=
 ∀(pos:Pos) (pins:List (Addr×Obj)) (s:Shared) (σ:St) (H:Hp) (Q:List V->Hp->Prop),Inv X pins σ H s->t σ H Q->wpAny (model X.prog X.w) X.A (spliced (backTo pos (starEach es X.env))) (AP X pins σ Q) X.xe s
def PS (X:Cx) (st:Stmt) (t:TS):Prop:=
 ∀(pins:List (Addr×Obj)) (s:Shared) (σ:St) (H:Hp) (D:Ends),Inv X pins σ H s->t D σ H->wpAny (model X.prog X.w) X.A (exec st X.env) (SP X pins D) X.xe s
def PSs (X:Cx) (st:List Stmt) (t:TS):Prop:=
 ∀(pins:List (Addr×Obj)) (s:Shared) (σ:St) (H:Hp) (D:Ends),Inv X pins σ H s->t D σ H->wpAny (model X.prog X.w) X.A (execs st X.env) (SP X pins D) X.xe s
theorem thn {α:Type} {t:Sem α} {Q Q':α->Shared->Prop} {M:Model} {A:Around} {E:Value->Shared->Prop} {s:Shared} (h:wpAny M A t Q E s) (hQ:∀a s,Q a s->Q' a s):wpAny M A t Q' E s:=wpAny_mono h hQ fun _ _ x=>x
section
variable {X:Cx}
def kP (i:Nat):TE:=fun σ H Q=>∃v,σ[i]?=some (some v)/\Q v H
def tC (v:V):TE:=fun _ H Q=>Q v H
theorem Xi {i:Nat} {x:Str} {pos:Pos} (hN:X.N[i]?=some x) (hv:Vis X.env.scope x) (hd:(x==("__debug__":Str))=false:=by decide) (MO:(x==("__classdict__":Str))=false:=by decide):PE X (.Name x pos) (kP i):=by
 intro pins s σ H Q I h
 obtain ⟨v,e,h⟩:=h
 obtain ⟨m,hn,hl⟩:=I.loc
 obtain ⟨u,r,l⟩:=hl i x v hN e hv
 have fin:EP X pins σ Q u s:=⟨v,H,I,r,h⟩
 rcases l with ⟨hk,hm⟩|⟨hk,c,hc,W4⟩
 ·exact wpAny_Name (wpAny_loadName_local I.ok.kind hk hn hm fin) hd
 ·rcases hk with hk|hk
  ·exact wpAny_Name (wpAny_loadName_cell I.ok.kind hk hc W4 fin) hd
  ·exact wpAny_Name (wpAny_loadName_free I.ok.kind hk hc W4 fin MO) hd
theorem Ys {i j pos}:PE X (.Constant (.int i) j pos) (tC (.int i)):=fun _ _ _ H _ I h=>wpAny_Constant_int ⟨.int i,H,I.tok _,⟨_,rfl⟩,h⟩
theorem aG {b j pos}:PE X (.Constant (.bool b) j pos) (tC (.bl b)):=fun _ _ _ H _ I h=>Constant_bool ⟨.bl b,H,I,rfl,h⟩
theorem XQ {x j pos}:PE X (.Constant (.str x) j pos) (tC (.str x)):=fun _ _ _ H _ I h=>Calls.Constant_str ⟨.str x,H,I.tok _,⟨_,rfl⟩,h⟩
def Gl (X:Cx) (x:Str):Prop:=X.env.kindOf x=some .globalImplicit
theorem DX {E:Value->Shared->Prop} {pins:List (Addr×Obj)} {s:Shared} {σ:St} {H:Hp} {x:Str} {u:Value} {pos:Pos} {Q:Value->Shared->Prop} (I:Inv X pins σ H s) (hg:Gl X x) (hm:X.mg x=some u) (h:Q u s)
  (hd:(x==("__debug__":Str))=false:=by decide):wpAny (model X.prog X.w) X.A (eval (.Name x pos) X.env) Q E s:=
 Calls.Name_function_global I.ok.kind hg (Calls.loadGlobal_global (by rw [I.ok.glob];exact I.mod.glob.keeps I.bk) hm h) hd
theorem EV {E:Value->Shared->Prop} {pins:List (Addr×Obj)} {s:Shared} {σ:St} {H:Hp} {x:Str} {u:Value} {pos:Pos} {Q:Value->Shared->Prop} (I:Inv X pins σ H s) (hg:Gl X x) (hm:X.mg x=none) (hv:bootBuiltins x=some u) (h:Q u s)
  (hn:x≠"__name__":=by decide) (hd:(x==("__debug__":Str))=false:=by decide):wpAny (model X.prog X.w) X.A (eval (.Name x pos) X.env) Q E s:=by
 obtain ⟨mb,h1,h2⟩:=I.mod.blt
 exact Calls.Name_function_global I.ok.kind hg (Calls.loadGlobal_builtin (by rw [I.ok.glob];exact I.mod.glob.keeps I.bk) hm (by rw [I.ok.blt];exact h1.keeps I.bk) ((h2 x hn).trans hv) h) hd
theorem IL {x:Str} {v:V} {u:Value} {pos:Pos} (hg:Gl X x) (hm:X.mg x=some u) (r:RelV v u) (hd:(x==("__debug__":Str))=false:=by decide):PE X (.Name x pos) (tC v):=
 fun _ _ _ H _ I h=>DX I hg hm ⟨v,H,I,r,h⟩ hd
theorem Uk {x:Str} {v:V} {u:Value} {pos:Pos} (hg:Gl X x) (hm:X.mg x=none) (hv:bootBuiltins x=some u) (r:RelV v u) (hn:x≠"__name__":=by decide) (hd:(x==("__debug__":Str))=false:=by decide):PE X (.Name x pos) (tC v):=
 fun _ _ _ H _ I h=>EV I hg hm hv ⟨v,H,I,r,h⟩ hn hd
variable {a b:Expr}{ta tb:TE}{pos:Pos}
theorem JZ (b:Expr) {op:CmpOp} (h:op≠.In) (h2:op≠.NotIn):behindInMarks op b=false:=by
 have e1:(op==CmpOp.In)=false:=by cases op<;>first|rfl|exact absurd rfl h
 have e2:(op==CmpOp.NotIn)=false:=by cases op<;>first|rfl|exact absurd rfl h2
 cases b<;>simp [behindInMarks,e1,e2]
def tB (t:TE):TT:=fun σ H Q=>t σ H fun x H1=>∃c,x=.bl c/\Q c H1
variable {tA vy:TT}{rest:List Expr}
end
def SqL (K:PySem.W.Frag) (H:Hp) (a:Addr) (xs:List V):Prop:=
 Rd H a (.lst xs) ∨
  ∃(o:Obj) (its:Array Value) (n:Nat),K.lookup a=some o/\o.cls=.type "list"/\o.dict=none/\o.data=.seq its n/\its.size≤sizeLine/\Vals xs its.toList
def SqT (K:PySem.W.Frag) (H:Hp) (a:Addr) (xs:List V):Prop:=
 Rd H a (.tup xs) ∨
  ∃(o:Obj) (its:Array Value) (n:Nat),K.lookup a=some o/\o.cls=.type "tuple"/\o.data=.seq its n/\its.size≤sizeLine/\Vals xs its.toList
def kT:Value->Option V
 |.none=>some .non
 |.bool b=>some (.bl b)
 |.int i _=>some (.int i)
 |.str x _=>some (.str x)
 |.bytes b _=>some (.byt b)
 |.float b _=>some (.flt b)
 |.ref a=>some (.ref a)
 |.type n=>some (.ty n)
 |_=>none
theorem RelV.abs {x:V} {u:Value} (r:RelV x u):kT u=some x:=by
 cases x with
 |non=>cases r;rfl
 |bl _=>cases r;rfl
 |int _=>obtain ⟨t,rfl⟩:=r;rfl
 |str _=>obtain ⟨t,rfl⟩:=r;rfl
 |byt _=>obtain ⟨t,rfl⟩:=r;rfl
 |flt _=>obtain ⟨t,rfl⟩:=r;rfl
 |ref _=>cases r;rfl
 |ty _=>cases r;rfl
theorem RelV.inj {x y:V} {u:Value} (r:RelV x u) (q:RelV y u):x=y:=Option.some.inj (r.abs.symm.trans q.abs)
theorem Vals.inj:∀{xs ys:List V} {us:List Value},Vals xs us->Vals ys us->xs=ys
 |_,_,_,.nil,.nil=>rfl
 |_,_,_,.cons r t,.cons r' t'=>by rw [r.inj r',Vals.inj t t']
section
variable {X:Cx}{pins:List (Addr×Obj)}{σ:St}{H:Hp}{s:Shared}{a:Addr}{xs ys:List V}
theorem SqL.of {K:PySem.W.Frag} (h:H a=some (.lst xs)):SqL K H a xs:=.inl (.inl h)
theorem SqT.of {K:PySem.W.Frag} (h:H a=some (.tup xs)):SqT K H a xs:=.inl (.inl h)
theorem Inv.list (I:Inv X pins σ H s) (h:SqL X.K H a xs):∃its:List Value,Vals xs its/\PlainL s.heap a its.toArray/\xs.length≤sizeLine:=by
 rcases h with h|⟨o,its,n,hk,hc,hd,hs,hz,r⟩
 ·obtain ⟨z,its,n,r,e⟩:=h.ok I.hok
  exact ⟨its,r,⟨_,n,e,rfl,rfl,rfl⟩,z⟩
 ·refine ⟨its.toList,r,⟨o,n,I.kIn a o hk,hc,hd,by simpa using hs⟩,?_⟩
  have e:=r.length
  simp only [Array.length_toList]at e
  lia
theorem Inv.tuple (I:Inv X pins σ H s) (h:SqT X.K H a xs):∃its:List Value,Vals xs its/\IsTup s.heap a its.toArray/\xs.length≤sizeLine:=by
 rcases h with h|⟨o,its,n,hk,hc,hs,hz,r⟩
 ·obtain ⟨z,its,r,p⟩:=h.ok I.hok
  exact ⟨its,r,p,z⟩
 ·refine ⟨its.toList,r,⟨o,I.kIn a o hk,hc,n,by simpa using hs⟩,?_⟩
  have e:=r.length
  simp only [Array.length_toList]at e
  lia
theorem Inv.list_inj (I:Inv X pins σ H s) (h:SqL X.K H a xs) (h':SqL X.K H a ys):xs=ys:=by
 obtain ⟨its,r,⟨o,n,e,_,_,d⟩,_⟩:=I.list h
 obtain ⟨its',r',⟨o',n',e',_,_,d'⟩,_⟩:=I.list h'
 rw [e]at e';cases e'
 rw [d]at d'
 injection d' with d1 _
 have:its=its':=by simpa using congrArg Array.toList d1
 subst this
 exact r.inj r'
theorem Inv.tuple_inj (I:Inv X pins σ H s) (h:SqT X.K H a xs) (h':SqT X.K H a ys):xs=ys:=by
 obtain ⟨its,r,⟨o,e,_,n,d⟩,_⟩:=I.tuple h
 obtain ⟨its',r',⟨o',e',_,n',d'⟩,_⟩:=I.tuple h'
 rw [e]at e';cases e'
 rw [d]at d'
 injection d' with d1 _
 have:its=its':=by simpa using congrArg Array.toList d1
 subst this
 exact r.inj r'
end
abbrev Cx.wish (X:Cx) (E:Value->Shared->Prop):Cx:={ X with xe:=E }
abbrev Cx.nox (X:Cx):Cx:=X.wish fun _ _=>False
theorem Cx.Ok.wish {X:Cx} (ok:X.Ok) (E:Value->Shared->Prop):(X.wish E).Ok:=
 ⟨ok.mod,ok.kind,ok.glob,ok.blt,ok.above,ok.inj,ok.has,ok.cab,ok.hd,ok.frames,ok.stk,ok.exf,ok.bs,ok.bsz,ok.noex,ok.exfs,ok.funs,ok.frf⟩
theorem Cx.Ok.unwish {X:Cx} {E:Value->Shared->Prop} (ok:(X.wish E).Ok):X.Ok:=
 ⟨ok.mod,ok.kind,ok.glob,ok.blt,ok.above,ok.inj,ok.has,ok.cab,ok.hd,ok.frames,ok.stk,ok.exf,ok.bs,ok.bsz,ok.noex,ok.exfs,ok.funs,ok.frf⟩
section
variable {X:Cx}{pins:List (Addr×Obj)}{σ:St}{H:Hp}{s:Shared}{E:Value->Shared->Prop}
theorem Inv.wish (I:Inv X pins σ H s) (E:Value->Shared->Prop):Inv (X.wish E) pins σ H s:=⟨I.ok.wish E,I.os,I.bare,I.base,I.loc,I.cell,I.free,I.freeC,I.pin,I.hok,I.len⟩
theorem Inv.unwish (I:Inv (X.wish E) pins σ H s):Inv X pins σ H s:=⟨I.ok.unwish,I.os,I.bare,I.base,I.loc,I.cell,I.free,I.freeC,I.pin,I.hok,I.len⟩
theorem SP.unwish {D:Ends} {f:Flow} {s':Shared} (h:SP (X.wish E) pins D f s'):SP X pins D f s':=by
 cases f with
 |next=>obtain ⟨σ',H',I,q⟩:=h;exact ⟨σ',H',I.unwish,q⟩
 |brk=>obtain ⟨σ',H',I,q⟩:=h;exact ⟨σ',H',I.unwish,q⟩
 |cont=>obtain ⟨σ',H',I,q⟩:=h;exact ⟨σ',H',I.unwish,q⟩
 |ret u=>obtain ⟨v,σ',H',I,r,q⟩:=h;exact ⟨v,σ',H',I.unwish,r,q⟩
theorem PSs.nox {st:List Stmt} {t:TS} (h:PSs X.nox st t):PSs X st t:=fun pins s σ H D I hw=>
 wpAny_mono (h pins s σ H D (I.wish _) hw) (fun _ _ q=>q.unwish) fun _ _ z=>False.elim z
end
section
variable {X:Cx}{st:Stmt}{rest:List Stmt}{t u:TS}{e:Expr}{te:TE}{pos:Pos}
theorem Inv.quiet {pins:List (Addr×Obj)} {σ:St} {H:Hp} {s:Shared} (I:Inv X pins σ H s):interactive X.env=false:=by simp [interactive,I.ok.kind]
def aT (te:TE):TS:=fun D σ H=>te σ H fun _ H1=>D.nx σ H1
theorem QH (he:PE X e te) (hs:swapsWith e none pos.line X.env=pure false:=by rfl):PS X (.Expr e pos) (aT te):=by
 intro pins s σ H D I h
 exact wpAny_Expr_any (thn (he pins s σ H _ I h) fun v s1 ⟨x,H1,I1,r1,q1⟩=>⟨σ,H1,I1,q1⟩) I.quiet hs
end
abbrev TG:=V->St->Hp->(St->Hp->Prop)->Prop
abbrev TGs:=List V->St->Hp->(St->Hp->Prop)->Prop
def PG (X:Cx) (target:Expr) (t:TG):Prop:=
 ∀(pins:List (Addr×Obj)) (s:Shared) (σ:St) (H:Hp) (v:V) (u:Value) (Q:St->Hp->Prop),Inv X pins σ H s->RelV v u->t v σ H Q →
  wpAny (model X.prog X.w) X.A (assign target X.env u) (fun _ s'=>∃σ' H',Inv X pins σ' H' s'/\Q σ' H') X.xe s
def PGs (X:Cx) (ts:List Expr) (t:TGs):Prop:=
 ∀(pins:List (Addr×Obj)) (s:Shared) (σ:St) (H:Hp) (vs:List V) (us:List Value) (Q:St->Hp->Prop),Inv X pins σ H s->Vals vs us->t vs σ H Q →
  wpAny (model X.prog X.w) X.A (assignInOrder ((assignEach ts X.env).map (·.2)) us) (fun _ s'=>∃σ' H',Inv X pins σ' H' s'/\Q σ' H') X.xe s
section
variable {X:Cx}{pos:Pos}
def Wi (i:Nat):TG:=fun v σ H Q=>Q (σ.set i (some v)) H
theorem Kr {i:Nat} {x:Str} (hN:X.N.Nodup) (hi:X.N[i]?=some x) (hx:Loc X.env.scope x) (hf:X.fn x=true\/X.env.scope.names.lookup x=some .local:=by first|exact .inl rfl|exact .inr rfl|assumption):PG X (.Name x pos) (Wi i):=by
 intro pins s σ H v u Q I r h
 exact wpAny_assign_Name (Gr I hN hi hx r (fun s' I'=>⟨_,H,I',h⟩) hf)
def d7:TGs:=fun vs σ H Q=>vs=[]/\Q σ H
def cI (t:TG) (u:TGs):TGs:=fun vs σ H Q=>∃v r,vs=v::r/\t v σ H fun σ' H'=>u r σ' H' Q
theorem V0:PGs X [] d7:=by
 intro pins s σ H vs us Q I r h
 obtain ⟨e,h⟩:=h
 subst e
 cases r
 exact assignInOrder_nil ⟨σ,H,I,h⟩
theorem M5 {e:Expr} {es:List Expr} {t:TG} {u:TGs} (h1:PG X e t) (h2:PGs X es u)
  (hs:(assignEach (e::es) X.env).map (·.2)=assign e X.env::(assignEach es X.env).map (·.2):=by rfl):PGs X (e::es) (cI t u):=by
 intro pins s σ H vs us Q I r h
 obtain ⟨v,vr,e1,h⟩:=h
 subst e1
 cases r with
 |cons r rr=>
  rw [hs]
  refine assignInOrder_cons (thn (h1 pins s σ H _ _ _ I r h) fun _ s1 ⟨σ1,H1,I1,q1⟩=>?_)
  exact h2 pins s1 σ1 H1 _ _ Q I1 rr q1
def jQ (K:PySem.W.Frag) (n:Nat) (t:TGs):TG:=fun v σ H Q=>∃a xs,v=.ref a/\SqT K H a xs/\xs.length=n/\t xs σ H Q
theorem X3 {es:List Expr} {k:Nat} {t:TGs} {n:Nat} (hc:X.calm=true) (h:PGs X es t)
  (hn:(assignEach es X.env).length=n:=by rfl) (ES:(assignEach es X.env).findIdx? (·.1)=none:=by rfl):PG X (.Tuple es k pos) (jQ X.K n t):=by
 intro pins s σ H v u Q I r hw
 obtain ⟨a,xs,e1,hq,hl,hw⟩:=hw
 subst e1
 cases r
 obtain ⟨its,rv,ht,hz⟩:=I.tuple hq
 refine assign_Tuple_tuple (I.ok.hd hc) ht (by simp [hn,<-hl,rv.length]) ES fun h' hx=>?_
 have I1:Inv X pins σ H { s with heap:=h' }:=I.kept (t':=s.toks) fun b o e=>hx b o (Nat.ne_of_lt (Heap.lt_size e)) e
 exact h pins _ σ H xs _ Q I1 (by simpa using rv) hw
def jk (te:TE) (g:TG):TS:=fun D σ H=>te σ H fun x H1=>g x σ H1 D.nx
theorem OQ {i:Nat} {x:Str} {e:Expr} {te:TE} {pos':Pos} (hN:X.N.Nodup) (hi:X.N[i]?=some x) (hx:Loc X.env.scope x) (he:PE X e te) (hs:swapsWith e (some (.Name x pos')) pos.line X.env=pure false:=by rfl) (hf:X.fn x=true\/X.env.scope.names.lookup x=some .local:=by first|exact .inl rfl|exact .inr rfl|assumption) :
  PS X (.Assign [.Name x pos'] e pos) (jk te (Wi i)):=by
 intro pins s σ H D I h
 refine wpAny_Assign_Name (thn (he pins s σ H _ I h) fun v s1 ⟨y,H1,I1,r1,q1⟩=>?_) hs
 exact Gr I1 hN hi hx r1 (fun s2 I2=>⟨_,H1,I2,q1⟩) hf
end
structure It where
 go:Nat->Hp->Prop
 yld:Nat->Hp->V->Hp->Prop
 stop:Nat->Hp->Prop
def Ho (X:Cx) (pins:List (Addr×Obj)) (H:Hp) (b:Addr):Prop:=
 H b=none/\b≠X.env.locals/\b∉X.fs/\(b∈X.ex\/X.s₀.heap.objs.size≤b)/\(∀x c,X.env.cells.lookup x=some c->c≠b)/\∀p∈X.pn++pins,p.1≠b
theorem Inv.fpOk {X:Cx} {pins:List (Addr×Obj)} {σ:St} {H H':Hp} {s:Shared} {b:Addr} (I:Inv X pins σ H s) (hb:s.heap.objs.size≤b) (hn:H' b=none):Ho X pins H' b:=by
 refine ⟨hn,Nat.ne_of_gt (Nat.lt_of_lt_of_le I.lt hb),I.nofs hb,.inr (Nat.le_trans I.sz hb),fun x c e z=>?_,fun p hp z=>?_⟩
 ·obtain ⟨v,q⟩:=I.cell x c e
  exact absurd (Nat.lt_of_lt_of_le q.lt (by rw [z];exact hb)) (Nat.lt_irrefl _)
 ·exact absurd (Nat.lt_of_lt_of_le (Heap.lt_size (I.pin p hp).1) (by rw [z];exact hb)) (Nat.lt_irrefl _)
structure Turn (P:Program) (w:World) (K:PySem.W.Frag) (tg:Expr) (J:It) (fp:List Addr) (it:Addr) (tn:Nat->Heap->Prop):Prop where
 mem:it∈fp
 obj:∀i h,tn i h->∀b∈fp,∃o,h.get? b=some o/\∀v,o.data≠.cell v
 keep:∀i h h',tn i h->(∀b∈fp,∀o,h.get? b=some o->h'.get? b=some o)->tn i h'
 item:∀(X:Cx),X.prog=P->X.w=w->X.K=K->X.calm=true->∀(i:Nat) (pins:List (Addr×Obj)) (s:Shared) (σ:St) (H:Hp) (E:Value->Shared->Prop),Inv X pins σ H s->(∀b∈fp,Ho X pins H b)->tn i s.heap->J.go i H →
  wpAny (model P w) X.A (pyNext (.ref it)) (fun r s1=>∃u,r=some u ∧
   wpAny (model P w) X.A (letOwnedTupleGo tg (.ref it) u) (fun _ s2=>∃x H',Inv X pins σ H' s2/\RelV x u/\J.yld i H x H'/\tn (i+1) s2.heap/\∀b∈fp,H' b=none) E s1) E s
 done:∀(X:Cx),X.prog=P->X.w=w->X.K=K->X.calm=true->∀(i:Nat) (pins:List (Addr×Obj)) (s:Shared) (σ:St) (H:Hp) (E:Value->Shared->Prop),Inv X pins σ H s->(∀b∈fp,Ho X pins H b)->tn i s.heap->J.stop i H →
  wpAny (model P w) X.A (pyNext (.ref it)) (fun r s1=>r=none/\Inv X pins σ H s1) E s
 self:∀(A:Around) (i:Nat) (s:Shared) (Q:Value->Shared->Prop) (E:Value->Shared->Prop),tn i s.heap->Q (.ref it) s->wpAny (model P w) A (pyIter (.ref it)) Q E s
abbrev TI:=St->Hp->(It->Hp->Prop)->Prop
def PIE (X:Cx) (pins:List (Addr×Obj)) (σ:St) (tg:Expr) (R:It->Hp->Prop) (Zh:Value) (s2:Shared):Prop:=
 ∃(it:Addr) (fp:List Addr) (tn:Nat->Heap->Prop) (J:It) (H':Hp),Zh=.ref it/\Inv X pins σ H' s2/\Turn X.prog X.w X.K tg J fp it tn/\tn 0 s2.heap/\(∀b∈fp,Ho X pins H' b)/\R J H'
def PI (X:Cx) (tg iter:Expr) (wi:TI):Prop:=
 ∀(pins:List (Addr×Obj)) (s:Shared) (σ:St) (H:Hp) (R:It->Hp->Prop),Inv X pins σ H s->wi σ H R →
  wpAny (model X.prog X.w) X.A (eval iter X.env) (fun v s1=>wpAny (model X.prog X.w) X.A (pyIter v) (PIE X pins σ tg R) X.xe s1) X.xe s
theorem PR {M : Model} {A : Around} {E : Value → Shared → Prop} {s : Shared} {tg : Expr} {it : Addr} {u : Value} {o : Obj} {n : String} {vs : Array Value} {Q : Unit → Shared → Prop} (ho : s.heap.get? it = some o) (hc : o.cls = .type n) (hd : o.data = .fields vs)
    (hn : ["enumerate", "zip", "dict_itemiterator", "dict_reverseitemiterator", "odict_iterator", "itertools.zip_longest", "itertools.pairwise"].contains n = false) (hQ : Q () s) : wpAny M A (letOwnedTupleGo tg (.ref it) u) Q E s := by
  unfold letOwnedTupleGo
  cases tg <;> first
    | exact wpAny_pure hQ
    | (cases u <;> first
        | exact wpAny_pure hQ
        | (refine wpAny_bind (wpAny_load ho ?_)
           rw [hc, hd]
           show wpAny M A (if (["enumerate", "zip", "dict_itemiterator", "dict_reverseitemiterator", "odict_iterator", "itertools.zip_longest", "itertools.pairwise"].contains n && vs[0]? == some (rawInt _)) = true then _ else _) Q E s
           rw [if_neg (by intro h; rw [hn, Bool.false_and] at h; cases h)]
           exact wpAny_pure hQ))
def Itl (K:PySem.W.Frag) (a:Addr):It:=
 ⟨fun i H=>∃xs x,SqL K H a xs/\xs[i]?=some x,fun i H x H'=>H'=H/\∀xs,SqL K H a xs->xs[i]?=some x,fun i H=>∃xs,SqL K H a xs/\xs.length≤i⟩
def Itt (K:PySem.W.Frag) (a:Addr):It:=
 ⟨fun i H=>∃xs x,SqT K H a xs/\xs[i]?=some x,fun i H x H'=>H'=H/\∀xs,SqT K H a xs->xs[i]?=some x,fun i H=>∃xs,SqT K H a xs/\xs.length≤i⟩
def Itr (lo:Int) (n:Nat):It:=⟨fun i _=>i<n,fun i H x H'=>H'=H/\x=.int (lo+i),fun i _=>n≤i⟩
theorem Qk {P:Program} {w:World} {K:PySem.W.Frag} {tg:Expr} (a it:Addr):Turn P w K tg (Itl K a) [it] it (fun i h=>h.IsListIter it a i) where
 mem:=by simp
 obj:=fun i h st b hb=>by
  have e:b=it:=by simpa using hb
  subst e
  obtain ⟨o,e,c,d⟩:=st
  exact ⟨o,e,fun v z=>by rw [d]at z;cases z⟩
 keep:=fun i h h' st k=>st.at fun o e=>k it (by simp) o e
 item:=by
  intro X hP hw hK hc i pins s σ H E I hf st hg
  subst hP hw hK
  obtain ⟨xs,x,hq,hx⟩:=hg
  obtain ⟨its,rv,p,hz⟩:=I.list hq
  obtain ⟨u,hu,ru⟩:=rv.get hx
  obtain ⟨f0,f1,f2,f3,f4,f5⟩:=hf it (by simp)
  refine wpAny_pyNext_list_item st p.isList (x:=u) (by simpa using hu) fun h' AQ sb=>?_
  have I1:Inv X pins σ H { s with heap:=h' }:=I.turned (t':=s.toks) (fun b o hb e=>(sb.2 b hb).trans e) f0 f1 f3 f4 f5
  obtain ⟨o,e,c,d⟩:=id AQ
  exact ⟨u,rfl,PR (s:={ s with heap:=h' }) e c d (by decide) ⟨x,H,I1,ru,⟨rfl,fun ys hy=>by rw [I.list_inj hy hq];exact hx⟩,AQ,fun b hb=>(hf b hb).1⟩⟩
 done:=by
  intro X hP hw hK hc i pins s σ H E I hf st hg
  subst hP hw hK
  obtain ⟨xs,hq,hx⟩:=hg
  obtain ⟨its,rv,p,hz⟩:=I.list hq
  obtain ⟨f0,f1,f2,f3,f4,f5⟩:=hf it (by simp)
  have hl:=rv.length
  exact wpAny_pyNext_list_end (I.ok.hd hc) st p.isList (by simp;lia) fun h' eb=>⟨rfl,I.turned (t':=s.toks) (fun b o hb e=>eb b o hb e) f0 f1 f3 f4 f5⟩
 self:=fun _ _ _ _ _ st h=>wpAny_pyIter_listiter st h
theorem Nz {P:Program} {w:World} {K:PySem.W.Frag} {tg:Expr} (a it:Addr):Turn P w K tg (Itt K a) [it] it (fun i h=>h.IsTupleIter it a i) where
 mem:=by simp
 obj:=fun i h st b hb=>by
  have e:b=it:=by simpa using hb
  subst e
  obtain ⟨o,e,c,d⟩:=st
  exact ⟨o,e,fun v z=>by rw [d]at z;cases z⟩
 keep:=fun i h h' st k=>st.at fun o e=>k it (by simp) o e
 item:=by
  intro X hP hw hK hc i pins s σ H E I hf st hg
  subst hP hw hK
  obtain ⟨xs,x,hq,hx⟩:=hg
  obtain ⟨its,rv,p,hz⟩:=I.tuple hq
  obtain ⟨u,hu,ru⟩:=rv.get hx
  obtain ⟨f0,f1,f2,f3,f4,f5⟩:=hf it (by simp)
  refine wpAny_pyNext_tuple_item st (show s.heap.IsTuple a its.toArray from p) (x:=u) (by simpa using hu) fun h' AQ sb=>?_
  have I1:Inv X pins σ H { s with heap:=h' }:=I.turned (t':=s.toks) (fun b o hb e=>(sb.2 b hb).trans e) f0 f1 f3 f4 f5
  obtain ⟨o,e,c,d⟩:=id AQ
  exact ⟨u,rfl,PR (s:={ s with heap:=h' }) e c d (by decide) ⟨x,H,I1,ru,⟨rfl,fun ys hy=>by rw [I.tuple_inj hy hq];exact hx⟩,AQ,fun b hb=>(hf b hb).1⟩⟩
 done:=by
  intro X hP hw hK hc i pins s σ H E I hf st hg
  subst hP hw hK
  obtain ⟨xs,hq,hx⟩:=hg
  obtain ⟨its,rv,p,hz⟩:=I.tuple hq
  obtain ⟨f0,f1,f2,f3,f4,f5⟩:=hf it (by simp)
  have hl:=rv.length
  exact wpAny_pyNext_tuple_end (I.ok.hd hc) st (show s.heap.IsTuple a its.toArray from p) (by simp;lia) fun h' eb=>⟨rfl,I.turned (t':=s.toks) (fun b o hb e=>eb b o hb e) f0 f1 f3 f4 f5⟩
 self:=fun _ _ _ _ _ st h=>wpAny_pyIter_tupleiter st h
theorem N3 {P:Program} {w:World} {K:PySem.W.Frag} {tg:Expr} (it:Addr) (lo:Int) (n:Nat):Turn P w K tg (Itr lo n) [it] it (fun i h=>IsRangeIter h it (lo+(i:Nat)*1) ((n:Int)-(i:Nat)) 1) where
 mem:=by simp
 obj:=fun i h st b hb=>by
  have e:b=it:=by simpa using hb
  subst e
  exact ⟨_,st,fun v z=>by
   have z':Data.fields _=Data.cell v:=z
   cases z'⟩
 keep:=fun i h h' st k=>k it (by simp) _ st
 item:=by
  intro X hP hw hK hc i pins s σ H E I hf st hg
  subst hP hw hK
  obtain ⟨f0,f1,f2,f3,f4,f5⟩:=hf it (by simp)
  have W:=Walks.range (prog:=X.prog) (w:=X.w) (I.ok.hd hc) it lo 1 n
  refine W.item i s _ _ hg st fun v h' tk hv AQ kk=>?_
  obtain ⟨t,rfl⟩:=hv
  have I1:Inv X pins σ H { s with heap:=h',toks:=tk }:=I.turned (fun b o hb e=>kk b o (by simpa using hb) e) f0 f1 f3 f4 f5
  refine ⟨_,rfl,PR (s:={ s with heap:=h',toks:=tk }) (n:="range_iterator") AQ rfl rfl (by decide) ⟨.int (lo+i),H,I1,⟨t,?_⟩,⟨rfl,rfl⟩,AQ,fun b hb=>(hf b hb).1⟩⟩
  rw [Int.mul_one]
 done:=by
  intro X hP hw hK hc i pins s σ H E I hf st hg
  subst hP hw hK
  obtain ⟨f0,f1,f2,f3,f4,f5⟩:=hf it (by simp)
  exact wpAny_pyNext_range_end (I.ok.hd hc) st (by have:n≤i:=hg;lia) fun h' eb=>⟨rfl,I.turned (t':=s.toks) (fun b o hb e=>eb b o hb e) f0 f1 f3 f4 f5⟩
 self:=fun _ _ _ _ _ st h=>wpAny_pyIter_rangeiter st h
section
variable {X:Cx}{tg:Expr}
def Z0 (K:PySem.W.Frag) (tl:TE):TI:=fun σ H R=>tl σ H fun x H1=>∃a,x=.ref a/\(∃xs,SqL K H1 a xs)/\R (Itl K a) H1
def jd (K:PySem.W.Frag) (tl:TE):TI:=fun σ H R=>tl σ H fun x H1=>∃a,x=.ref a/\(∃xs,SqT K H1 a xs)/\R (Itt K a) H1
theorem Vl {l:Expr} {tl:TE} (hl:PE X l tl):PI X tg l (Z0 X.K tl):=by
 intro pins s σ H R I h
 refine thn (hl pins s σ H _ I h) fun v s1 ⟨x,H1,I1,r1,q1⟩=>?_
 obtain ⟨a,e,⟨xs,hq⟩,q⟩:=q1
 subst e
 cases r1
 obtain ⟨its,rv,p,hz⟩:=I1.list hq
 refine wpAny_pyIter_list p.isList ?_
 refine ⟨s1.heap.objs.size,[s1.heap.objs.size],_,_,H1,rfl,I1.kept (t':=s1.toks) fun b o e=>Heap.get?_push_of_some _ e,Qk a _,⟨_,Heap.get?_push_size _ rfl,rfl,rfl⟩,fun b hb=>?_,q⟩
 have e:b=s1.heap.objs.size:=by simpa using hb
 subst e
 exact I1.fpOk (Nat.le_refl _) (I1.hok.fresh (Nat.le_refl _))
theorem Ye {l:Expr} {tl:TE} (hl:PE X l tl):PI X tg l (jd X.K tl):=by
 intro pins s σ H R I h
 refine thn (hl pins s σ H _ I h) fun v s1 ⟨x,H1,I1,r1,q1⟩=>?_
 obtain ⟨a,e,⟨xs,hq⟩,q⟩:=q1
 subst e
 cases r1
 obtain ⟨its,rv,p,hz⟩:=I1.tuple hq
 refine wpAny_pyIter_tuple (show s1.heap.IsTuple a its.toArray from p) ?_
 refine ⟨s1.heap.objs.size,[s1.heap.objs.size],_,_,H1,rfl,I1.kept (t':=s1.toks) fun b o e=>Heap.get?_push_of_some _ e,Nz a _,⟨_,Heap.get?_push_size _ rfl,rfl,rfl⟩,fun b hb=>?_,q⟩
 have e:b=s1.heap.objs.size:=by simpa using hb
 subst e
 exact I1.fpOk (Nat.le_refl _) (I1.hok.fresh (Nat.le_refl _))
theorem Sa {pins:List (Addr×Obj)} {σ:St} {H:Hp} {s:Shared} {R:It->Hp->Prop} {E:Value->Shared->Prop} {lo hi:Int} {t u v:Tok} {tk:Nat} (I:Inv X pins σ H s) (h1:-(2 ^ 62)≤lo) (h2:lo<2 ^ 62) (h3:-(2 ^ 62)≤hi) (h4:hi<2 ^ 62)
  (q:R (Itr lo (hi-lo).toNat) H):wpAny (model X.prog X.w) X.A (pyIter (.ref s.heap.objs.size)) (PIE X pins σ tg R) E { s with heap:=s.heap.push { cls:=.type "range",data:=.fields #[.int lo t,.int hi u,.int 1 v] },toks:=tk }:=by
 refine wpAny_pyIter_range (IsRange.new ..) (small_one h1 h2 h3 h4) ?_
 have I1:Inv X pins σ H { s with heap:=s.heap.push { cls:=.type "range",data:=.fields #[.int lo t,.int hi u,.int 1 v] },toks:=tk }:=I.kept fun b o e=>Heap.get?_push_of_some _ e
 refine ⟨(s.heap.push { cls:=.type "range",data:=.fields #[.int lo t,.int hi u,.int 1 v] }).objs.size,[(s.heap.push { cls:=.type "range",data:=.fields #[.int lo t,.int hi u,.int 1 v] }).objs.size],_,_,H,rfl,
  I1.kept (t':=tk) fun b o e=>Heap.get?_push_of_some _ e,N3 _ lo (hi-lo).toNat,?_,fun b hb=>?_,q⟩
 ·have e1:lo+((0:Nat):Int)*1=lo:=by simp
  have e2:(((hi-lo).toNat:Nat):Int)-((0:Nat):Int)=Builtin.Range.rangeSize lo hi 1:=by rw [rangeSize_one];split<;>lia
  show IsRangeIter _ _ (lo+((0:Nat):Int)*1) ((((hi-lo).toNat:Nat):Int)-((0:Nat):Int)) 1
  rw [e1,e2]
  exact Heap.get?_push_size _ rfl
 ·have e:b=(s.heap.push { cls:=.type "range",data:=.fields #[.int lo t,.int hi u,.int 1 v] }).objs.size:=by simpa using hb
  subst e
  exact I1.fpOk (Nat.le_refl _) (I1.hok.fresh (Nat.le_refl _))
def cL (ta:TA):TI:=fun σ H R=>ta σ H fun vs H1=>∃j:Int,vs=[.int j]/\-(2 ^ 62)≤j/\j<2 ^ 62/\R (Itr 0 j.toNat) H1
theorem Rx {a:Expr} {ta:TA} {p pos:Pos} (hg:Gl X "range") (hm:X.mg "range"=none) (ha:PA X [a] ta) (hs:starEach [a] X.env=[(false,eval a X.env)]:=by rfl):PI X tg (.Call (.Name "range" p) [a] [] pos) (cL ta):=by
 intro pins s σ H R I h
 refine Call_ (EV I hg hm boot_range (PyProof.Rows.callWith_type1 (thn (ha pos pins s σ H _ I h) fun us s1 ⟨vs,H1,I1,r1,q1⟩=>?_) hs rfl))
 obtain ⟨j,e,q1,q2,q⟩:=q1
 subst e
 cases r1 with
 |cons r rr=>
  cases rr
  obtain ⟨t,rfl⟩:=r
  exact call_range_1 (Sa I1 (by lia) (by lia) q1 q2 (by simpa using q))
def LN (fp:List Addr) (h:Heap):List (Addr×Obj):=fp.filterMap fun b=>(h.get? b).map fun o=>(b,o)
theorem EM {fp:List Addr} {h:Heap} {b:Addr} {o:Obj} (hb:b∈fp) (e:h.get? b=some o):(b,o)∈LN fp h:=List.mem_filterMap.mpr ⟨b,hb,by rw [e];rfl⟩
theorem RM {fp:List Addr} {h:Heap} {p:Addr×Obj} (hp:p∈LN fp h):p.1∈fp/\h.get? p.1=some p.2:=by
 obtain ⟨b,hb,e⟩:=List.mem_filterMap.mp hp
 cases q:h.get? b with
 |none=>rw [q]at e;cases e
 |some o=>
  rw [q]at e
  have e':(b,o)=p:=Option.some.inj e
  subst e'
  exact ⟨hb,q⟩
theorem Inv.pinned {pins:List (Addr×Obj)} {σ:St} {H:Hp} {s:Shared} {fp:List Addr} (I:Inv X pins σ H s) (hf:∀b∈fp,Ho X pins H b) (ho:∀b∈fp,∃o,s.heap.get? b=some o/\∀v,o.data≠.cell v):Inv X (pins++LN fp s.heap) σ H s:=
 I.pins_of fun p hp=>(List.mem_append.mp hp).elim (fun z=>I.pin p (List.mem_append_right _ z)) fun z=>by
  obtain ⟨hb,e⟩:=RM z
  obtain ⟨f0,f1,f2,_⟩:=hf p.1 hb
  obtain ⟨o,e',d⟩:=ho p.1 hb
  rw [e]at e';cases e'
  exact ⟨e,f0,f1,f2,d⟩
theorem Inv.unpinned {pins pl:List (Addr×Obj)} {σ:St} {H:Hp} {s:Shared} (I:Inv X (pins++pl) σ H s):Inv X pins σ H s:=I.pins_of fun p hp=>I.pin p (List.mem_append_right _ (List.mem_append_left _ hp))
end
abbrev R2:=V->V->Hp->VK->Prop
def OpR (X:Cx) (f:Value->Value->Sem Value) (r:R2):Prop:=
 ∀(pins:List (Addr×Obj)) (s:Shared) (σ:St) (H:Hp) (x y:V) (v u:Value) (Q:VK),Inv X pins σ H s->RelV x v->RelV y u->r x y H Q →
  wpAny (model X.prog X.w) X.A (f v u) (EP X pins σ Q) X.xe s
def CP (X:Cx) (f:Value) (r:List V->Hp->VK->Prop):Prop:=
 ∀(pins:List (Addr×Obj)) (s:Shared) (σ:St) (H:Hp) (xs:List V) (us:List Value) (Q:VK),Inv X pins σ H s->Vals xs us->r xs H Q →
  wpAny (model X.prog X.w) X.A (call f us) (EP X pins σ Q) X.xe s
def tOp (r:R2) (ta tb:TE):TE:=fun σ H Q=>ta σ H fun x H1=>tb σ H1 fun y H2=>r x y H2 Q
def rI (C:Int->Int->Prop) (g:Int->Int->V):R2:=fun x y H Q=>∃i j,x=.int i/\y=.int j/\C i j/\Q (g i j) H
def rI0 (g:Int->Int->V):R2:=fun x y H Q=>∃i j,x=.int i/\y=.int j/\Q (g i j) H
section
variable {X:Cx}{a b c:Expr}{ta tb tc:TE}{pos:Pos}
theorem ZR (ha:PE X a ta) (hb:PE X b tb) {pins:List (Addr×Obj)} {s:Shared} {σ:St} {H:Hp} {R:V->V->Hp->Prop} (I:Inv X pins σ H s)
  (h:ta σ H fun x H1=>tb σ H1 fun y H2=>R x y H2) {Q:Value->Shared->Prop} {f:Value->Value->Sem Value}
  (hf:∀v u s2 x y H2,Inv X pins σ H2 s2->RelV x v->RelV y u->R x y H2->wpAny (model X.prog X.w) X.A (f v u) Q X.xe s2) :
  wpAny (model X.prog X.w) X.A (eval a X.env) (fun v s₁=>wpAny (model X.prog X.w) X.A (eval b X.env) (fun u s₂=>wpAny (model X.prog X.w) X.A (f v u) Q X.xe s₂) X.xe s₁) X.xe s:=by
 refine thn (ha pins s σ H _ I h) fun v s1 ⟨x,H1,I1,r1,q1⟩=>?_
 refine thn (hb pins s1 σ H1 _ I1 q1) fun u s2 ⟨y,H2,I2,r2,q2⟩=>?_
 exact hf v u s2 x y H2 I2 r1 r2 q2
theorem ae {op:Operator} {r:R2} (ho:OpR X (binaryOp op) r) (ha:PE X a ta) (hb:PE X b tb):PE X (.BinOp a op b pos) (tOp r ta tb):=by
 intro pins s σ H Q I h
 exact wpAny_BinOp (ZR ha hb I h fun v u s2 x y H2 I2 rx ry q=>ho pins s2 σ H2 x y v u Q I2 rx ry q)
theorem opI {f:Value->Value->Sem Value} {C:Int->Int->Prop} {g:Int->Int->Int}
  (rule:∀(i j:Int) (t u:Tok) (s:Shared) (Q:Value->Shared->Prop) (E:Value->Shared->Prop),C i j->Q (.int (g i j) s.toks) { s with toks:=s.toks+1 }->wpAny (model X.prog X.w) X.A (f (.int i t) (.int j u)) Q E s) :
  OpR X f (rI C fun i j=>.int (g i j)):=by
 intro pins s σ H x y v u Q I rx ry h
 obtain ⟨i,j,rfl,rfl,hc,q⟩:=h
 obtain ⟨t,rfl⟩:=rx
 obtain ⟨t',rfl⟩:=ry
 exact rule i j t t' s _ _ hc ⟨.int (g i j),H,I.tok _,⟨_,rfl⟩,q⟩
theorem Z5 {f:Value->Value->Sem Value} {g:Int->Int->Int}
  (rule:∀(i j:Int) (t u:Tok) (s:Shared) (Q:Value->Shared->Prop) (E:Value->Shared->Prop),Q (.int (g i j) s.toks) { s with toks:=s.toks+1 }->wpAny (model X.prog X.w) X.A (f (.int i t) (.int j u)) Q E s) :
  OpR X f (rI0 fun i j=>.int (g i j)):=by
 intro pins s σ H x y v u Q I rx ry h
 obtain ⟨i,j,rfl,rfl,q⟩:=h
 obtain ⟨t,rfl⟩:=rx
 obtain ⟨t',rfl⟩:=ry
 exact rule i j t t' s _ _ ⟨.int (g i j),H,I.tok _,⟨_,rfl⟩,q⟩
theorem YH {f:Value->Value->Sem Value} {g:Int->Int->Bool}
  (rule:∀(i j:Int) (t u:Tok) (s:Shared) (Q:Value->Shared->Prop) (E:Value->Shared->Prop),Q (.bool (g i j)) s->wpAny (model X.prog X.w) X.A (f (.int i t) (.int j u)) Q E s) :
  OpR X f (rI0 fun i j=>.bl (g i j)):=by
 intro pins s σ H x y v u Q I rx ry h
 obtain ⟨i,j,rfl,rfl,q⟩:=h
 obtain ⟨t,rfl⟩:=rx
 obtain ⟨t',rfl⟩:=ry
 exact rule i j t t' s _ _ ⟨.bl (g i j),H,I,rfl,q⟩
def aM (i j:Int):Prop:=0<j/\j<1073741824
theorem Yr:OpR X (binaryOp .Add) (rI0 fun i j=>.int (i+j)):=Z5 fun _ _ _ _ _ _ _ q=>add_int q
theorem Y2:OpR X (binaryOp .Sub) (rI0 fun i j=>.int (i-j)):=Z5 fun _ _ _ _ _ _ _ q=>sub_int q
theorem VH:OpR X (binaryOp .FloorDiv) (rI aM fun i j=>.int (i / j)):=opI fun i j _ _ _ _ _ hc q=>by
 have h1:(0:Int)<j:=hc.1
 have h2:j<1073741824:=hc.2
 exact floordiv_int (by lia) (by rw [Int.fdiv_eq_ediv_of_nonneg i (by lia)];exact q) (.inl (PyProof.noPylong_small (by lia)))
theorem Yd:OpR X (binaryOp .Mod) (rI (fun _ j=>0<j) fun i j=>.int (i%j)):=opI fun i j _ _ _ _ _ hc q=>by
 have h1:(0:Int)<j:=hc
 exact mod_int' (by lia) (by rw [Int.fmod_eq_emod_of_nonneg i (by lia)];exact q)
end
def fb:V->V->Bool
 |.non,.non=>true|.non,.int _=>true|.int _,.non=>true|.non,.bl _=>true|.bl _,.non=>true|.non,.str _=>true|.str _,.non=>true
 |.int _,.int _=>true|.bl _,.bl _=>true|.str _,.str _=>true|.byt _,.byt _=>true
 |.int _,.str _=>true|.str _,.int _=>true|.bl _,.str _=>true|.str _,.bl _=>true
 |_,_=>false
def rEq:R2:=fun x y H Q=>fb x y=true/\Q (.bl (decide (x=y))) H
theorem PZ {i j:Int}:decide (V.int i=V.int j)=(i==j):=by
 rw [Bool.eq_iff_iff]
 simp
theorem YJ {i j:Bool}:decide (V.bl i=V.bl j)=(i==j):=by
 rw [Bool.eq_iff_iff]
 simp
theorem PV {i j:Str}:decide (V.str i=V.str j)=(i==j):=by
 rw [Bool.eq_iff_iff]
 simp
theorem VD {i j:Array UInt8}:decide (V.byt i=V.byt j)=(i.toList==j.toList):=by
 rw [Bool.eq_iff_iff]
 cases i
 cases j
 simp
section
variable {X:Cx}{a b c:Expr}{ta tb tc:TE}{pos:Pos}
theorem CB {pins:List (Addr×Obj)} {σ:St} {H:Hp} {s:Shared} {Q:VK} {k k':Bool} (I:Inv X pins σ H s) (q:Q (.bl k) H) (e:k=k'):EP X pins σ Q (.bool k') s:=by
 subst e
 exact ⟨.bl k,H,I,rfl,q⟩
theorem Wu:OpR X (compareOp .Eq) rEq:=by
 intro pins s σ H x y v u Q I rx ry h
 obtain ⟨hs,q⟩:=h
 cases x with
 |non=>
  cases rx
  cases y with
  |non=>cases ry;exact PySem.EqNone.eq_none_none (CB I q (by simp))
  |bl j=>cases ry;exact PySem.EqNone.eq_none_bool (CB I q (by simp))
  |int j=>obtain ⟨t',rfl⟩:=ry;exact PySem.EqNone.eq_none_int (CB I q (by simp))
  |str j=>obtain ⟨t',rfl⟩:=ry;exact PySem.EqNone.eq_none_str (CB I q (by simp))
  |_=>exact absurd (show false=true from hs) Bool.false_ne_true
 |bl i=>
  cases rx
  cases y with
  |non=>cases ry;exact PySem.EqNone.eq_bool_none (CB I q (by simp))
  |bl j=>cases ry;exact eq_bool (CB I q YJ)
  |str j=>obtain ⟨t',rfl⟩:=ry;exact PySem.EqMixed.eq_bool_str (CB I q (by simp))
  |_=>exact absurd (show false=true from hs) Bool.false_ne_true
 |int i=>
  obtain ⟨t,rfl⟩:=rx
  cases y with
  |non=>cases ry;exact PySem.EqNone.eq_int_none (CB I q (by simp))
  |int j=>obtain ⟨t',rfl⟩:=ry;exact eq_int (CB I q PZ)
  |str j=>obtain ⟨t',rfl⟩:=ry;exact PySem.EqMixed.eq_int_str (CB I q (by simp))
  |_=>exact absurd (show false=true from hs) Bool.false_ne_true
 |str i=>
  obtain ⟨t,rfl⟩:=rx
  cases y with
  |non=>cases ry;exact PySem.EqNone.eq_str_none (CB I q (by simp))
  |bl j=>cases ry;exact PySem.EqMixed.eq_str_bool (CB I q (by simp))
  |int j=>obtain ⟨t',rfl⟩:=ry;exact PySem.EqMixed.eq_str_int (CB I q (by simp))
  |str j=>obtain ⟨t',rfl⟩:=ry;exact eq_str (CB I q PV)
  |_=>exact absurd (show false=true from hs) Bool.false_ne_true
 |byt i=>
  obtain ⟨t,rfl⟩:=rx
  cases y with
  |byt j=>obtain ⟨t',rfl⟩:=ry;exact PySem.W.eq_bytes (CB I q VD)
  |_=>exact absurd (show false=true from hs) Bool.false_ne_true
 |_=>cases y<;>exact absurd (show false=true from hs) Bool.false_ne_true
theorem cO:OpR X (compareOp .Lt) (rI0 fun i j=>.bl (decide (i<j))):=YH fun _ _ _ _ _ _ _ q=>lt_int q
theorem P6:OpR X (compareOp .LtE) (rI0 fun i j=>.bl (decide (i≤j))):=YH fun _ _ _ _ _ _ _ q=>le_int q
theorem Wq:OpR X (compareOp .Gt) (rI0 fun i j=>.bl (decide (j<i))):=YH fun _ _ _ _ _ _ _ q=>gt_int q
def bE (t:TE):TT:=fun σ H Q=>t σ H fun x H'=>∃k,x=.bl k/\Q k H'
def UA (r r':R2) (ta tb tc:TE):TE:=fun σ H Q=>ta σ H fun x H1=>tb σ H1 fun y H2=>r x y H2 fun z H3=>∃k,z=.bl k ∧
 (if k=true then tc σ H3 fun w' H4=>r' y w' H4 Q else Q (.bl false) H3)
theorem Sg {op X0:CmpOp} {r r':R2} (ho:OpR X (compareOp op) r) (Js:OpR X (compareOp X0) r') (ha:PE X a ta) (hb:PE X b tb) (hc:PE X c tc)
  (hm:lastMarks [op,X0] [b,c]=false:=by with_unfolding_all rfl):PE X (.Compare a [op,X0] [b,c] pos) (UA r r' ta tb tc):=by
 intro pins s σ H Q I h
 refine Compare_chain (thn (ha pins s σ H _ I h) fun v s1 ⟨x,H1,I1,r1,q1⟩=>chain_link (thn (hb pins s1 σ H1 _ I1 q1) fun u s2 ⟨y,H2,I2,r2,q2⟩=>
  thn (ho pins s2 σ H2 x y v u _ I2 r1 r2 q2) fun d s3 ⟨z,H3,I3,r3,k,e,q3⟩=>?_)) hm
 subst e
 cases r3
 refine wpAny_truthy_bool ?_
 cases k with
 |false=>exact ite_ff ⟨.bl false,H3,I3,rfl,q3⟩
 |true=>exact ite_tt (chain_last (thn (hc pins s3 σ H3 _ I3 q3) fun w' s4 ⟨z',H4,I4,r4,q4⟩=>Js pins s4 σ H4 y z' u w' Q I4 r2 r4 q4))
theorem SF {op X0:CmpOp} {r r':R2} (ho:OpR X (compareOp op) r) (Js:OpR X (compareOp X0) r') (ha:PE X a ta) (hb:PE X b tb) (hc:PE X c tc)
  (hm:lastMarks [op,X0] [b,c]=false:=by with_unfolding_all rfl):PT X (.Compare a [op,X0] [b,c] pos) (bE (UA r r' ta tb tc)):=by
 intro pins s σ H Q I h
 refine isTrue_chain (thn (ha pins s σ H _ I h) fun v s1 ⟨x,H1,I1,r1,q1⟩=>test_link (thn (hb pins s1 σ H1 _ I1 q1) fun u s2 ⟨y,H2,I2,r2,q2⟩=>
  thn (ho pins s2 σ H2 x y v u _ I2 r1 r2 q2) fun d s3 ⟨z,H3,I3,r3,k,e,q3⟩=>?_)) hm
 subst e
 cases r3
 refine wpAny_truthy_bool ?_
 cases k with
 |false=>
  obtain ⟨k',e',q'⟩:=q3
  cases e'
  exact ite_ff ⟨H3,I3,q'⟩
 |true=>
  refine ite_tt (test_last (thn (hc pins s3 σ H3 _ I3 q3) fun w' s4 ⟨z',H4,I4,r4,q4⟩=>thn (Js pins s4 σ H4 y z' u w' _ I4 r2 r4 q4) fun d' s5 ⟨z2,H5,I5,r5,k2,e2,q5⟩=>?_))
  subst e2
  cases r5
  exact wpAny_truthy_bool ⟨H5,I5,q5⟩
theorem IS:(sizeLine:Nat)<2 ^ 63:=by rw [sizeLine_eq];decide
theorem Hj {x:V} {us:List Value} (r:Vals [x] us):∃u,us=[u]/\RelV x u:=by
 cases r with
 |cons r1 r2=>cases r2;exact ⟨_,rfl,r1⟩
theorem Ke {x y:V} {us:List Value} (r:Vals [x,y] us):∃u w',us=[u,w']/\RelV x u/\RelV y w':=by
 cases r with
 |cons r1 r2=>
  cases r2 with
  |cons r3 r4=>cases r4;exact ⟨_,_,rfl,r1,r3⟩
end
structure ObjM (h:Heap) (x dx C:Addr) (mA:Str->Option Value):Prop where
 obj:h.get? x=some (PySem.W.instObj C dx)
 ns:h.Ns1 dx mA
 ne:dx≠x
theorem Rp {h:Heap} {dx:Addr} {mA:Str->Option Value} (n:h.Ns1 dx mA):∃od,h.get? dx=some od/\∀name,PySem.W.lookIn name od=some (mA name):=by
 obtain ⟨o,es,ep,ho,hd,hk,_,hm⟩:=n
 refine ⟨o,ho,fun name=>?_⟩
 have e:=hm name
 unfold nsFind findBy at e
 rw [<-Array.find?_toList]at e
 unfold PySem.W.lookIn
 rw [hd]
 dsimp only
 split
 ·rename_i y q
  rw [q]at e
  exact congrArg some e
 ·rename_i q
  rw [q]at e
  have a:es.toList.any (·.refKey)=false:=by
   rw [List.any_eq_false]
   intro y hy
   obtain ⟨z,t,fj⟩:=hk y (Array.mem_toList_iff.mp hy)
   simp [DictEntry.refKey,fj]
  have a':¬es.toList.any (·.refKey)=true:=by rw [a];exact Bool.false_ne_true
  rw [if_neg a']
  exact congrArg some e
theorem ObjM.look {h:Heap} {x dx C:Addr} {mA:Str->Option Value} (I:ObjM h x dx C mA):∃od,PySem.W.InstAt h x (PySem.W.instObj C dx) C (some od)/\∀name,PySem.W.lookIn name od=some (mA name):=
 let ⟨od,ho,hl⟩:=Rp I.ns
 ⟨od,⟨I.obj,rfl,rfl,ho⟩,hl⟩
section
variable {P:Program}{w:World}{H H':Hp}{h h':Heap}{a C dx:Addr}{fs rz:List (Str×V)}
theorem WV (hok:HOk P w H h) (e:H a=some (.ins C dx fs)):∃mA,ObjM h a dx C mA/\(∀f,XO (fs.lookup f) (mA f))/\PySem.Within mA (fs.map (·.1))/\fs.length≤1000/\H dx=some (.own a):=by
 obtain ⟨d,z,ne,ob,mA,n,r,q⟩:=(show ObjOk P w H h a (.ins C dx fs)from hok a _ e)
 exact ⟨mA,⟨ob,n,ne⟩,r,q,z,d⟩
end
structure Cls (K:PySem.W.Frag) (C:Addr):Prop where
 pg:PySem.W.plainGet K C Str.empty=true
 hd:PySem.W.hasDictIn K C=true
 po:PySem.W.plainOver K C=true
 sa:PySem.W.findIn K (.ref C) "__setattr__"=some (some (.builtin "object.__setattr__"))
theorem Cls.get {K:PySem.W.Frag} {C:Addr} (c:Cls K C) (f:Str):PySem.W.plainGet K C f=true:=c.pg
structure Con (K:PySem.W.Frag) (C:Addr) (f:Str) (v:V) (u:Value):Prop where
 at_:PySem.W.findIn K (.ref C) f=some (some u)
 rel:RelV v u
 get:PySem.W.specialIn K u "__get__"=some none
 cp:PySem.W.copiedNames.contains f=false
section
variable {X:Cx}{pins:List (Addr×Obj)}{σ:St}{H:Hp}{s:Shared}{A:Around}{E:Value->Shared->Prop}{Q:Value->Shared->Prop}{c:Value}{b:Bool}
inductive TyOf (K:PySem.W.Frag) (H:Hp):V->Value->Prop where
 |non:TyOf K H .non (.type "NoneType")
 |bl (x:Bool):TyOf K H (.bl x) (.type "bool")
 |int (i:Int):TyOf K H (.int i) (.type "int")
 |str (x:Str):TyOf K H (.str x) (.type "str")
 |flt (x:UInt64):TyOf K H (.flt x) (.type "float")
 |lst {a:Addr} {xs:List V} (e:H a=some (.lst xs)):TyOf K H (.ref a) (.type "list")
 |frz {a:Addr} {o:Obj} {xs:List V} (e:H a=some (.frz o (.lst xs))):TyOf K H (.ref a) (.type "list")
 |tup {a:Addr} {xs:List V} (e:H a=some (.tup xs)):TyOf K H (.ref a) (.type "tuple")
 |dK {a:Addr} {Ae:List (Key×V)} (e:H a=some (.dK Ae)):TyOf K H (.ref a) (.type "dict")
 |dT {a:Addr} {Ae:List (List Key×V)} (e:H a=some (.dT Ae)):TyOf K H (.ref a) (.type "dict")
 |ins {a C dx:Addr} {fs:List (Str×V)} (e:H a=some (.ins C dx fs)) (cl:Cls K C) (ha:PySem.W.findIn K (.ref C) "__class__"=some (some (.builtin "object.__class__")))
   (hn:PySem.W.specialIn K (.builtin "object.__class__") "__get__"=some (some (.builtin "getset_descriptor.__get__"))) (oA:PySem.W.takesIn K (.builtin "object.__class__")=some true)
   (hm:PySem.W.mroIn K C (.type "object")=some true):TyOf K H (.ref a) (.ref C)
theorem E7 {x:V} {u t:Value} (I:Inv X pins σ H s) (rx:RelV x u) (ty:TyOf X.K H x t) (e:PySem.W.kitOne X.K t c=some b) (h:∀tk,Q (.bool b) { s with toks:=tk }) :
  wpAny (model X.prog X.w) A (call (.builtin "isinstance") [u,c]) Q E s:=by
 cases ty with
 |non=>cases (show u=Value.none from rx);exact PySem.W.kia_one PySem.W.kitx_none I.kIn True.intro e (fun z=>nomatch z) h
 |bl y=>cases (show u=Value.bool y from rx);exact PySem.W.kia_one PySem.W.kitx_bool I.kIn True.intro e (fun z=>nomatch z) h
 |int i=>obtain ⟨t,q⟩:=(show ∃t,u=Value.int i t from rx);cases q;exact PySem.W.kia_one PySem.W.kitx_int I.kIn True.intro e (fun z=>nomatch z) h
 |str y=>obtain ⟨t,q⟩:=(show ∃t,u=Value.str y t from rx);cases q;exact PySem.W.kia_one PySem.W.kitx_str I.kIn True.intro e (fun z=>nomatch z) h
 |flt y=>obtain ⟨t,q⟩:=(show ∃t,u=Value.float y t from rx);cases q;exact PySem.W.kia_one PySem.W.kitx_float I.kIn True.intro e (fun z=>nomatch z) h
 |@lst a xs ea=>
  cases (show u=Value.ref a from rx)
  obtain ⟨_,_,n,_,h1⟩:=(show ObjOk X.prog X.w H s.heap a (.lst xs)from I.hok a _ ea)
  exact PySem.W.kia_one PySem.W.kitx_list I.kIn ⟨_,h1,rfl⟩ e (fun z=>nomatch z) h
 |@frz a ob xs ea=>
  cases (show u=Value.ref a from rx)
  obtain ⟨_,_,_,n,_,h1⟩:=(show ObjOk X.prog X.w H s.heap a (.frz ob (.lst xs))from I.hok a _ ea)
  exact PySem.W.kia_one PySem.W.kitx_list I.kIn ⟨_,h1,rfl⟩ e (fun z=>nomatch z) h
 |@tup a xs ea=>
  cases (show u=Value.ref a from rx)
  obtain ⟨_,_,_,p⟩:=(show ObjOk X.prog X.w H s.heap a (.tup xs)from I.hok a _ ea)
  obtain ⟨o,h1,h2,_⟩:=p
  exact PySem.W.kia_one PySem.W.kitx_tuple I.kIn ⟨o,h1,h2⟩ e (fun z=>nomatch z) h
 |@dK a Ae ea=>
  cases (show u=Value.ref a from rx)
  obtain ⟨_,_,vs,_,p⟩:=(show ObjOk X.prog X.w H s.heap a (.dK Ae)from I.hok a _ ea)
  obtain ⟨o,es,ep,h1,h2,_⟩:=p
  exact PySem.W.kia_one PySem.W.kitx_dict I.kIn ⟨o,h1,h2.1⟩ e (fun z=>nomatch z) h
 |@dT a Ae ea=>
  cases (show u=Value.ref a from rx)
  obtain ⟨_,_,xs,_,o,es,ep,h1,h2,_⟩:=(show ObjOk X.prog X.w H s.heap a (.dT Ae)from I.hok a _ ea)
  exact PySem.W.kia_one PySem.W.kitx_dict I.kIn ⟨o,h1,h2.1⟩ e (fun z=>nomatch z) h
 |@ins a C dx fs ea cl ha hn oA hm=>
  cases (show u=Value.ref a from rx)
  obtain ⟨mA,O,_⟩:=WV I.hok ea
  obtain ⟨od,J,_⟩:=O.look
  exact PySem.W.kia_one (PySem.W.kitx_own (cl.get _) cl.hd ha hn oA hm) I.kIn J e (fun z=>nomatch z) h
end
structure Room (k:Nat) (A:Around):Prop where
 hd:A.handled=none
 dp:A.depth+3*k+5<recursionLimit
 un:A.units+16*k+200<cLine
theorem Room.mono {j k:Nat} {A:Around} (r:Room k A) (h:j≤k):Room j A:=⟨r.hd,by have:=r.dp;lia,by have:=r.un;lia⟩
theorem Room.deeper {k:Nat} {A:Around} (r:Room (k+1) A) (env:Env):Room k (A.deeper env):=
 ⟨r.hd,by have:=r.dp;show A.depth+1+3*k+5<_;lia,by have:=r.un;show A.units+3+16*k+200<_;lia⟩
theorem Room.in1 {k:Nat} {A:Around} (r:Room (k+1) A):Room k A.in1:=
 ⟨r.hd,by have:=r.dp;show A.depth+3*k+5<_;lia,by have:=r.un;show A.units+1+16*k+200<_;lia⟩
theorem Room.depth {k:Nat} {A:Around} (r:Room k A):A.depth<recursionLimit:=by have:=r.dp;lia
theorem Room.units {k:Nat} {A:Around} (r:Room k A):A.units+64<cLine:=by have:=r.un;lia
def jr:TA:=fun _ H Q=>Q [] H
def ZY (ta:TE) (tr:TA):TA:=fun σ H Q=>ta σ H fun x H1=>tr σ H1 fun xs H2=>Q (x::xs) H2
section
variable {X:Cx}{e:Expr}{es:List Expr}{te:TE}{t:TA}{pos:Pos}
theorem Cr:PA X [] jr:=fun _ _ _ _ H Q I h=>Calls.spliced_nil ⟨[],H,I,.nil,h⟩
theorem BH (ha:PE X e te) (hr:PA X es t) (hs:starEach (e::es) X.env=(false,eval e X.env)::starEach es X.env:=by rfl):PA X (e::es) (ZY te t):=by
 intro pos pins s σ H Q I h
 rw [hs]
 show wpAny _ _ (spliced ((false,eval e X.env)::backTo pos (starEach es X.env))) _ _ s
 refine Calls.spliced_cons (thn (ha pins s σ H _ I h) fun u s1 ⟨x,H1,I1,r1,q1⟩=>?_)
 exact thn (hr pos pins s1 σ H1 _ I1 q1) fun us s2 ⟨xs,H2,I2,r2,q2⟩=>⟨x::xs,H2,I2,.cons r1 r2,q2⟩
def gE (t:TA):TE:=fun σ H Q=>t σ H fun xs H1=>xs.length≤sizeLine/\∀p,H1 p=none->Q (.ref p) (upd H1 p (.tup xs))
def gm (t:TA):TE:=fun σ H Q=>t σ H fun xs H1=>xs.length≤sizeLine/\∀p,H1 p=none->Q (.ref p) (upd H1 p (.lst xs))
theorem Yk {x1} (h:PA X es t):PE X (.Tuple es x1 pos) (gE t):=by
 intro pins s σ H Q I hq
 refine wpAny_Tuple_spliced (thn (h pos pins s σ H _ I hq) fun us s1 ⟨xs,H1,I1,r,z,q⟩=>⟨by rw [<-r.length];exact z,?_⟩)
 have hf:H1 s1.heap.objs.size=none:=I1.hok.fresh (Nat.le_refl _)
 refine ⟨.ref s1.heap.objs.size,upd H1 s1.heap.objs.size (.tup xs),I1.laid (t':=s1.toks) (fun b u e=>Heap.get?_push_of_some _ e) (Nat.le_refl _) ?_,rfl,q _ hf⟩
 exact ⟨z,us,r,⟨_,Heap.get?_push_size _ rfl,rfl,_,rfl⟩⟩
theorem Sl (h:PA X es t):PE X (.List es pos) (gm t):=by
 intro pins s σ H Q I hq
 refine wpAny_List_spliced (thn (h pos pins s σ H _ I hq) fun us s1 ⟨xs,H1,I1,r,z,q⟩=>⟨by rw [<-r.length];exact z,?_⟩)
 have hf:H1 s1.heap.objs.size=none:=I1.hok.fresh (Nat.le_refl _)
 refine ⟨.ref s1.heap.objs.size,upd H1 s1.heap.objs.size (.lst xs),I1.laid (t':=s1.toks) (fun b u e=>Heap.get?_push_of_some _ e) (Nat.le_refl _) ?_,rfl,q _ hf⟩
 exact ⟨z,us,0,r,Heap.get?_push_size _ rfl⟩
end
abbrev Sp:=List V->Hp->VK->XK->Prop
abbrev CXT:=List Env->Hp->Shared->XK->Value->Shared->Prop
structure Env0 (P:Program) (w:World) (K:PySem.W.Frag) (mg:Str->Option Value) (base:Heap) (A:Around) (outer:List Env) (s:Shared) (H:Hp):Prop where
 frames:A.frames=some outer
 mod:Mod K mg base
 bs:∀b o,base.get? b=some o->s.heap.get? b=some o/\H b=none
 bsz:base.objs.size≤s.heap.objs.size
 funs:s.heap.FunFrames base outer
 frf:∀b∈frs outer,H b=none
 hok:HOk P w H s.heap
 bare:AllBare s.gens
def CE (outer:List Env) (P:Program) (w:World) (H:Hp) (s:Shared) (Q:VK) (u:Value) (s':Shared):Prop:=
 ∃v H',s'.os=s.os/\AllBare s'.gens/\Un (frs outer) [] H H' s.heap s'.heap/\HOk P w H' s'.heap/\RelV v u/\Q v H'
def CR (CX:CXT) (outer:List Env) (P:Program) (w:World) (H:Hp) (s:Shared) (Q:VK) (E:XK) (r:Result) (s':Shared):Prop:=
 match r with
 |.ok (.ret u)=>CE outer P w H s Q u s'
 |.ok _=>False
 |.error e=>CX outer H s E e s'
structure FnOk (P:Program) (w:World) (K:PySem.W.Frag) (mg:Str->Option Value) (base:Heap) (CX:CXT) (k:Nat) (f:Addr) (fd:FuncData) (ps:List Str) (sp:Sp):Prop where
 len:∀vs H Q E,sp vs H Q E->vs.length=ps.length
 run:∀(A:Around) (outer:List Env) (s:Shared) (H:Hp) (args:Args) (us:List Value) (vs:List V) (Q:VK) (E:XK),Room k A->Env0 P w K mg base A outer s H->BindsTo s fd args (ps.zip us)->Vals vs us->sp vs H Q E →
  codeAny (model P w) A (.call (.ref f) args) (CR CX outer P w H s Q E) s
theorem Env0.in1 {P:Program} {w:World} {K:PySem.W.Frag} {mg:Str->Option Value} {base:Heap} {A:Around} {outer:List Env} {s:Shared} {H:Hp} (e:Env0 P w K mg base A outer s H) :
  Env0 P w K mg base A.in1 outer s H:=⟨e.frames,e.mod,e.bs,e.bsz,e.funs,e.frf,e.hok,e.bare⟩
section
variable {X:Cx}{pins:List (Addr×Obj)}{σ:St}{H:Hp}{s s':Shared}
theorem Inv.env0 (I:Inv X pins σ H s):Env0 X.prog X.w X.K X.mg X.base X.A X.stack s H:=
 ⟨I.ok.frames,I.ok.mod,I.bs,Nat.le_trans I.ok.bsz I.sz,I.stack,I.stkFree,I.hok,I.bare⟩
theorem Inv.after {Q:VK} {u:Value} (I:Inv X pins σ H s) (h:CE X.stack X.prog X.w H s Q u s'):EP X pins σ Q u s':=by
 obtain ⟨v,H',os,bare,un,hok,r,q⟩:=h
 obtain ⟨hh,g,d,t,qP⟩:=s'
 obtain rfl:qP=s.os:=os
 exact ⟨v,H',I.call (h':=hh) (g':=g) (d':=d) (t':=t) (ch:=[]) un hok bare (fun b z=>absurd z (by simp)),r,q⟩
end
def bP (sp:Sp) (Wj:List V) (E:XK) (t:TA):TE:=fun σ H Q=>t σ H fun vs H1=>sp (vs++Wj) H1 Q E
def Binds (K:PySem.W.Frag) (fd:FuncData) (ps:List Str) (ds:List Value):Prop:=
 ∀(s:Shared) (us:List Value),K.In s.heap->(us++ds).length=ps.length->BindsTo s fd ⟨us,[]⟩ (ps.zip (us++ds))
theorem Binds.all {K:PySem.W.Frag} {fd:FuncData} {ps:List Str} (h:∀us:List Value,us.length=ps.length->bindArgs fd ⟨us,[]⟩=pure (ps.zip us)):Binds K fd ps []:=fun s us _ hl=>by
 rw [List.append_nil]at hl ⊢
 exact .of_eq (h us hl)
def OH (CX:CXT) (X:Cx) (E:XK):Prop:=∀(pins:List (Addr×Obj)) (σ:St) (H:Hp) (s:Shared) (e:Value) (s':Shared),Inv X pins σ H s->CX X.stack H s E e s'->X.xe e s'
section
variable {X:Cx}{CX:CXT}{k:Nat}{f C:Addr}{fd:FuncData}{ps:List Str}{sp:Sp}{Wj:List V}{ds:List Value}{E:XK}{x m:Str}{p pos apos:Pos}{e o:Expr}{es:List Expr}{ta:TE}{t:TA}
theorem SJ {pins:List (Addr×Obj)} {σ:St} {H:Hp} {s:Shared} {Q:VK} {us:List Value} {vs:List V} (F:FnOk X.prog X.w X.K X.mg X.base CX k f fd ps sp) (hr:Room k X.A) (hb:Binds X.K fd ps ds) (hd:Vals Wj ds) (hx:OH CX X E)
  (I:Inv X pins σ H s) (r:Vals vs us) (h:sp (vs++Wj) H Q E):wpAny (model X.prog X.w) X.A (call (.ref f) us) (EP X pins σ Q) X.xe s:=by
 have r2:Vals (vs++Wj) (us++ds):=r.append hd
 have hl:(us++ds).length=ps.length:=by rw [<-r2.length];exact F.len _ _ _ _ h
 refine wpAny_call (codeAny_mono (F.run X.A X.stack s H ⟨us,[]⟩ (us++ds) (vs++Wj) Q E hr I.env0 (hb s us I.kIn hl) r2 h) fun r s' hq=>?_)
 cases r with
 |error e=>exact hx pins σ H s e s' I hq
 |ok fl=>
  cases fl with
  |ret u=>exact I.after hq
  |next=>exact False.elim hq
  |brk=>exact False.elim hq
  |cont=>exact False.elim hq
theorem Ul (F:FnOk X.prog X.w X.K X.mg X.base CX k f fd ps sp) (hr:Room k X.A) (hg:Gl X x) (hm:X.mg x=some (.ref f)) (hk:PySem.W.keepIn X.K (.ref f)=true) (hb:Binds X.K fd ps ds) (hd:Vals Wj ds) (hx:OH CX X E)
  (ha:PA X (e::es) t) (DQ:(x==("__debug__":Str))=false:=by decide) (he:starEach (e::es) X.env=(false,eval e X.env)::starEach es X.env:=by rfl) (hpl:(backTo pos (starEach es X.env)).any (·.1)=false:=by rfl) :
  PE X (.Call (.Name x p) (e::es) [] pos) (bP sp Wj E t):=by
 intro pins s σ H Q I h
 refine wpAny_Call_Name_kw (DX I hg hm ?_ DQ)
 refine PySem.W.callWith_K (h₀:=X.base) I.ok.mod.kin hk (thn (ha pos pins s σ H _ I h) fun us s1 ⟨vs,H1,I1,r,q⟩=>⟨I1.kIn,?_⟩) he hpl
 exact SJ F hr hb hd hx I1 r q
end
structure FnScope (N P:List Str) (sc:Scope):Prop where
 kind:sc.kind=.function
 co:sc.isCoroutine=false
 gen:sc.isGenerator=false
 nd:N.Nodup
 pre:N.take P.length=P
 par:∀x∈P,sc.names.lookup x=some .local\/sc.names.lookup x=some .cell
 nofree:∀y∈sc.names,y.2≠.free
theorem KZ {kindOf:Str->Option NameKind} {x:Str}:∀{binds:List (Str×Value)} {m:Str->Option Value},(∀v,(x,v)∉binds)->bindL kindOf binds m x=m x
 |[],_,_=>rfl
 |(n,v)::r,m,h=>by
  unfold bindL
  rw [KZ fun w hw=>h w (List.mem_cons_of_mem _ hw)]
  split
  ·have:x≠n:=by rintro rfl;exact h v List.mem_cons_self
   simp [this]
  ·rfl
theorem Kd {kindOf:Str->Option NameKind} {x:Str}:∀{binds:List (Str×Value)} {m:Str->Option Value},(∀v,(x,v)∉binds)->bindC kindOf binds m x=m x
 |[],_,_=>rfl
 |(n,v)::r,m,h=>by
  unfold bindC
  rw [Kd fun w hw=>h w (List.mem_cons_of_mem _ hw)]
  split
  ·rfl
  ·have:x≠n:=by rintro rfl;exact h v List.mem_cons_self
   simp [this]
theorem KJ {kindOf:Str->Option NameKind} {x:Str} {v:Value}:∀{P:List Str} {vs:List Value} {i:Nat} {m:Str->Option Value},P.Nodup->P[i]?=some x->vs[i]?=some v->kindOf x=some .local →
  bindL kindOf (P.zip vs) m x=some v
 |[],_,_,_,_,h,_,_=>by simp at h
 |_::_,[],_,_,_,_,h,_=>by simp at h
 |p::P,w::vs,0,m,nd,h1,h2,hk=>by
  simp at h1 h2;subst h1;subst h2
  show bindL kindOf ((p,w)::P.zip vs) m p=_
  unfold bindL
  rw [KZ fun v hv=>(List.nodup_cons.mp nd).1 (List.of_mem_zip hv).1,if_pos hk]
  simp
 |p::P,w::vs,i+1,m,nd,h1,h2,hk=>by
  show bindL kindOf ((p,w)::P.zip vs) m x=_
  unfold bindL
  exact KJ (i:=i) (List.nodup_cons.mp nd).2 (by simpa using h1) (by simpa using h2) hk
theorem Jz {kindOf:Str->Option NameKind} {x:Str} {v:Value}:∀{P:List Str} {vs:List Value} {i:Nat} {m:Str->Option Value},P.Nodup->P[i]?=some x->vs[i]?=some v->kindOf x≠some .local →
  bindC kindOf (P.zip vs) m x=some v
 |[],_,_,_,_,h,_,_=>by simp at h
 |_::_,[],_,_,_,_,h,_=>by simp at h
 |p::P,w::vs,0,m,nd,h1,h2,hk=>by
  simp at h1 h2;subst h1;subst h2
  show bindC kindOf ((p,w)::P.zip vs) m p=_
  unfold bindC
  rw [Kd fun v hv=>(List.nodup_cons.mp nd).1 (List.of_mem_zip hv).1,if_neg hk]
  simp
 |p::P,w::vs,i+1,m,nd,h1,h2,hk=>by
  show bindC kindOf ((p,w)::P.zip vs) m x=_
  unfold bindC
  exact Jz (i:=i) (List.nodup_cons.mp nd).2 (by simpa using h1) (by simpa using h2) hk
def start (N:List Str) (vs:List V):St:=vs.map some++List.replicate (N.length-vs.length) none
def Ct (CX:CXT) (P:Program) (w:World) (K:PySem.W.Frag) (mg:Str->Option Value) (base:Heap) (N:List Str) (qual:Str) (scope:Scope) (f:Addr) (cd:Value) (A:Around) (outer:List Env) (s:Shared) (H:Hp) (E:XK):Cx where
 prog:=P
 w:=w
 K:=K
 mg:=mg
 base:=base
 A:=A.deeper (envOfC qual scope s.heap.objs.size f cd)
 N:=N
 s₀:=s
 H₀:=H
 env:=envOfC qual scope s.heap.objs.size f cd
 outer:=outer
 stack:=envOfC qual scope s.heap.objs.size f cd::outer
 ex:=[]
 calm:=true
 fn:=fun _=>true
 pn:=[]
 xe:=fun e s'=>wpAny (model P w) (A.deeper (envOfC qual scope s.heap.objs.size f cd)) (leaving (envOfC qual scope s.heap.objs.size f cd) e) (fun _ Wy=>CX outer H s E e Wy) (fun e' Wy=>CX outer H s E e' Wy) s'
theorem MB {sc:Scope} {n:Nat} {x:Str} (h:sc.names.lookup x=some .cell):∃c,(cellsFrom n sc.names []).lookup x=some c:=by
 have q:=PySem.W.cellsFrom_some sc.names n [] (.inl h)
 exact Option.isSome_iff_exists.mp q
theorem Rg {CX:CXT} {P:Program} {w:World} {K:PySem.W.Frag} {mg:Str->Option Value} {base:Heap} {N ps:List Str} {qual:Str} {scope:Scope} {f:Addr} {cd:Value} {A:Around} {outer:List Env} {s s1:Shared} {H:Hp} {E:XK} {us:List Value} {vs:List V}
  (S:FnScope N ps scope) (hd:A.handled=none) (e0:Env0 P w K mg base A outer s H) (hl:vs.length=ps.length) (r:Vals vs us)
  (x:InCallC s s.heap.objs.size (bindL (envOfC qual scope s.heap.objs.size f cd).kindOf (ps.zip us) fun _=>none) (cellsFrom (s.heap.objs.size+1) scope.names []) (bindC (envOfC qual scope s.heap.objs.size f cd).kindOf (ps.zip us) fun _=>none) s1) :
  Inv (Ct CX P w K mg base N qual scope f cd A outer s H E) [] (start N vs) H s1:=by
 have hpl:ps.length≤N.length:=by have:=congrArg List.length S.pre;rw [List.length_take]at this;lia
 obtain ⟨h1,tk,rfl,hk⟩:=x.done
 have bB:∀b:Addr,b∉(Ct CX P w K mg base N qual scope f cd A outer s H E).ex:=fun b z=>absurd (show b∈([]:List Addr)from z) (by simp)
 refine ⟨⟨e0.mod,S.kind,rfl,rfl,Nat.le_refl _,fun y z c h1 h2=>?_,fun y hy=>?_,fun y c _ h=>?_,fun _=>hd,Around.frames_deeper e0.frames,.inr ⟨rfl,rfl⟩,fun b z=>absurd z (bB b),e0.bs,e0.bsz,fun b _ _=>bB b,fun b z=>absurd z (bB b),e0.funs,e0.frf⟩,
  rfl,e0.bare,Un.kept hk,⟨_,x.toInCall.ns,fun i y v h1 h2 h3=>?_⟩,fun y c h=>⟨_,x.cell y c h⟩,e0.hok.fresh (Nat.le_refl _),fun y c h=>?_,fun p hp=>absurd (show p∈([]:List (Addr×Obj))from hp) (by simp),e0.hok.kept hk,?_⟩
 ·exact name_of_addr x.apart (PySem.mem_of_lookup h1) (PySem.mem_of_lookup h2)
 ·have hy:scope.names.lookup y=some .cell\/scope.names.lookup y=some .free:=hy
  rcases hy with hy|hy
  ·exact MB hy
  ·exact absurd rfl (S.nofree _ (PySem.mem_of_lookup hy))
 ·exact Nat.le_of_lt (x.above y c (PySem.mem_of_lookup h))
 ·have hi:i<vs.length:=by
   unfold start at h2
   by_cases hi:i<vs.length
   ·exact hi
   ·rw [List.getElem?_append_right (by simpa using hi)]at h2
    rw [List.getElem?_replicate]at h2
    split at h2<;>cases h2
  have ha:vs[i]?=some v:=by
   unfold start at h2
   rw [List.getElem?_append_left (by simpa using hi),List.getElem?_map]at h2
   cases e:vs[i]? with
   |none=>rw [e]at h2;cases h2
   |some a=>rw [e]at h2;cases h2;rfl
  obtain ⟨u,hu,rv⟩:=r.get ha
  have hp:ps[i]?=some y:=by
   rw [<-S.pre,List.getElem?_take_of_lt (by lia)];exact h1
  have oQ:ps.Nodup:=by rw [<-S.pre];exact S.nd.sublist (List.take_sublist _ _)
  refine ⟨u,rv,?_⟩
  rcases S.par y (List.mem_of_getElem? hp)with k|k
  ·exact .inl ⟨k,KJ oQ hp hu k⟩
  ·obtain ⟨c,e⟩:=MB (n:=s.heap.objs.size+1) k
   refine .inr ⟨.inl k,c,e,?_⟩
   have q:=x.cell y c e
   rw [Jz oQ hp hu (by show scope.names.lookup y≠_;rw [k];decide)]at q
   exact q
 ·exact e0.hok.fresh (Nat.le_of_lt (x.above y c (PySem.mem_of_lookup h)))
 ·unfold start
  show _=N.length
  rw [List.length_append,List.length_map,List.length_replicate]
  lia
theorem Pe {CX:CXT} {P:Program} {w:World} {K:PySem.W.Frag} {mg:Str->Option Value} {base:Heap} {k:Nat} {f:Addr} {name qual:Str} {params:Arguments} {body:List Stmt} {scope:Scope} {dV kV doc pm A8 ct oc:Value} {an od:Option Addr}
  {SU:Array (Option Value)} {N ps:List Str} {sp:Sp} (lk:K.lookup f=some ⟨oc,od,.func (PySem.W.fnOf name qual params body scope dV kV doc pm an A8 ct),SU⟩) (MO:PySem.W.codeIn K A8 qual=true) (S:FnScope N ps scope)
  (len:∀vs H Q E,sp vs H Q E->vs.length=ps.length)
  (Td:∀(A:Around) (outer:List Env) (s:Shared) (H:Hp) (vs:List V) (Q:VK) (E:XK),Room k (A.deeper (envOfC qual scope s.heap.objs.size f A8))->sp vs H Q E →
   ∃t,PSs (Ct CX P w K mg base N qual scope f A8 A outer s H E) body t/\t { nx:=fun _ H'=>Q .non H',rt:=Q } (start N vs) H) :
  FnOk P w K mg base CX (k+1) f (PySem.W.fnOf name qual params body scope dV kV doc pm an A8 ct) ps sp:=by
 refine ⟨len,fun A outer s H args us vs Q E hr e0 hb r P1=>?_⟩
 have hl:=len _ _ _ _ P1
 have KX:K.In s.heap:=e0.mod.kin.keeps fun b o e=>(e0.bs b o e).1
 have lim:s.heap.NoLimit:=e0.mod.nolimit.keeps fun b o e=>(e0.bs b o e).1
 have cV:∀y∈ps.zip us,scope.names.lookup y.1=some .local\/(scope.names.lookup y.1=some .cell/\((cellsFrom (s.heap.objs.size+1) scope.names []).lookup y.1).isSome=true):=fun ⟨n,v⟩ hy=>by
  rcases S.par n (List.of_mem_zip hy).1 with q|q
  ·exact .inl q
  ·exact .inr ⟨q,PySem.W.cellsFrom_some _ _ _ (.inl q)⟩
 refine codeAny_call_function hr.depth (KX _ _ lk) rfl S.co S.gen rfl (PySem.W.codeRec_of KX MO) (hb _ _ _ _ ?_)
 refine wpAny_newFunctionEnv_cells S.kind cV fun env he s1 x=>?_
 subst he
 refine ⟨lim.keeps x.toInCall.keep,codeAny_func ?_⟩
 obtain ⟨t,ht,hq⟩:=Td A outer s H vs Q E (hr.deeper _) P1
 have I:Inv (Ct CX P w K mg base N qual scope f A8 A outer s H E) [] (start N vs) H s1:=Rg S hr.hd e0 hl r x
 refine wpAny_mono (ht [] s1 (start N vs) H _ I hq) (fun fl s' hs=>?_) fun e s' hs=>hs
 have fin:∀{σ':St} {H':Hp} {v:V} {u:Value},Inv (Ct CX P w K mg base N qual scope f A8 A outer s H E) [] σ' H' s'->RelV v u->Q v H'->CE outer P w H s Q u s':=
  fun {σ' H' v u} J rv q=>⟨v,H',J.os,J.bare,J.base,J.hok,rv,q⟩
 cases fl with
 |ret u=>
  obtain ⟨v,σ',H',J,rv,q⟩:=hs
  exact fin J rv q
 |next=>
  obtain ⟨σ',H',J,q⟩:=hs
  exact fin (v:=V.non) (u:=Value.none) J rfl q
 |brk=>
  obtain ⟨_,_,_,q⟩:=hs
  exact False.elim q
 |cont=>
  obtain ⟨_,_,_,q⟩:=hs
  exact False.elim q
section
variable {X:Cx}{x:Str}{p pos:Pos}{e:Expr}{es:List Expr}{t:TA}{id T:String}{r:List V->Hp->VK->Prop}
def tCB (r:List V->Hp->VK->Prop) (t:TA):TE:=fun σ H Q=>t σ H fun vs H1=>r vs H1 Q
theorem Dq (hc:CP X (.builtin id) r) (hg:Gl X x) (hm:X.mg x=none) (hv:bootBuiltins x=some (.builtin id)) (ha:PA X (e::es) t) (hn:x≠"__name__":=by decide) (DQ:(x==("__debug__":Str))=false:=by decide)
  (he:starEach (e::es) X.env=(false,eval e X.env)::starEach es X.env:=by rfl) (hpl:(backTo pos (starEach es X.env)).any (·.1)=false:=by rfl):PE X (.Call (.Name x p) (e::es) [] pos) (tCB r t):=by
 intro pins s σ H Q I h
 refine wpAny_Call_Name_kw (EV I hg hm hv ?_ hn DQ)
 exact PyProof.Rows.callWith_builtin1 (thn (ha pos pins s σ H _ I h) fun us s1 ⟨vs,H1,I1,r1,q1⟩=>hc pins s1 σ H1 vs us Q I1 r1 q1) he hpl
theorem Rl (hc:CP X (.type T) r) (hg:Gl X x) (hm:X.mg x=none) (hv:bootBuiltins x=some (.type T)) (ha:PA X (e::es) t) (hn:x≠"__name__":=by decide) (DQ:(x==("__debug__":Str))=false:=by decide)
  (he:starEach (e::es) X.env=(false,eval e X.env)::starEach es X.env:=by rfl) (hpl:(backTo pos (starEach es X.env)).any (·.1)=false:=by rfl):PE X (.Call (.Name x p) (e::es) [] pos) (tCB r t):=by
 intro pins s σ H Q I h
 refine wpAny_Call_Name_kw (EV I hg hm hv ?_ hn DQ)
 exact PyProof.Rows.callWith_type1 (thn (ha pos pins s σ H _ I h) fun us s1 ⟨vs,H1,I1,r1,q1⟩=>hc pins s1 σ H1 vs us Q I1 r1 q1) he hpl
end
end L2
namespace HT
open PySem PyProof.Rows
def lexLt:List Int->List Int->Bool
 |[],[]=>false
 |[],_::_=>true
 |_::_,[]=>false
 |x::xs,y::ys=>if x=y then lexLt xs ys else decide (x<y)
theorem lexLt_cons (x y:Int) (xs ys:List Int):lexLt (x::xs) (y::ys)=if x=y then lexLt xs ys else decide (x<y):=rfl
section
variable {prog:Program}{w:World}{A:Around}{E:Value->Shared->Prop}{s:Shared}
theorem cat_tup {t b:Addr} {vs ws:List Value} {Q:Value->Shared->Prop} (ht:IsTup s.heap t vs.toArray) (hb:IsTup s.heap b ws.toArray) (hv:vs≠[])
  (h1:ws=[]->Q (.ref t) s) (h2:ws≠[]->Q (.ref s.heap.objs.size) { s with heap:=s.heap.push { cls:=.type "tuple",data:=.seq (vs++ws).toArray } })
  (hsz:vs.length+ws.length≤sizeLine):wpAny (model prog w) A (binaryOp .Add (.ref t) (.ref b)) Q E s:=by
 obtain ⟨⟨cls,dd,data,sl⟩,ho,hc,n,hd⟩:=id ht
 obtain ⟨⟨XY,Ny,data2,KW⟩,OZ,RG,n2,hd2⟩:=id hb
 simp only at hc hd RG hd2
 subst hc hd RG hd2
 have e:vs.toArray++ws.toArray=(vs++ws).toArray:=by simp
 by_cases hw:ws=[]
 ·exact concat_meets ⟨_,ho,rfl⟩ ⟨_,OZ,rfl⟩ noFill_tuple_add seq_tuple_add PySem.F.slot_tuple_add PySem.F.entry_tuple_add (PySem.F.args_tuple_add_2 _ _)
   (tuple_addW1 t b vs.toArray ws.toArray n n2 dd Ny sl KW (by simpa using hv) (by simp [hw])) ⟨ho,OZ,h1 hw⟩
 ·refine concat_meets ⟨_,ho,rfl⟩ ⟨_,OZ,rfl⟩ noFill_tuple_add seq_tuple_add PySem.F.slot_tuple_add PySem.F.entry_tuple_add (PySem.F.args_tuple_add_2 _ _)
   (tuple_addW2 t b vs.toArray ws.toArray n n2 dd Ny sl KW (by simpa using hv) (by simpa using hw) (by rw [List.size_toArray,List.size_toArray];exact hsz)) ⟨ho,OZ,?_⟩
  rw [e]
  exact h2 hw
def sIx (n d:Nat):Option Int->Nat
 |none=>d
 |some v=>if v<0 then (v+(n:Int)).toNat else min v.toNat n
theorem sIx_none (n d:Nat):sIx n d none=d:=rfl
theorem sIx_nat (n d k:Nat):sIx n d (some (k:Int))=min k n:=by
 show (if (k:Int)<0 then ((k:Int)+(n:Int)).toNat else min (k:Int).toNat n)=min k n
 rw [if_neg (by lia),Int.toNat_natCast]
theorem Yt (n d:Nat) (hd:d≤n) (o:Option Int):sIx n d o≤n:=by
 cases o with
 |none=>exact hd
 |some v=>
  show (if v<0 then (v+(n:Int)).toNat else min v.toNat n)≤n
  by_cases hv:v<0
  ·rw [if_pos hv];lia
  ·rw [if_neg hv];exact Nat.min_le_right _ _
theorem P2 (v:Int) (n d:Nat):(if v<0 then max (v+(n:Int)) 0 else min v (n:Int))=((sIx n d (some v):Nat):Int):=by
 show (if v<0 then max (v+(n:Int)) 0 else min v (n:Int))=(((if v<0 then (v+(n:Int)).toNat else min v.toNat n):Nat):Int)
 by_cases hv:v<0
 ·simp only [if_pos hv];lia
 ·simp only [if_neg hv];lia
theorem Nq (lo hi:Option Int) (n:Nat):Builtin.Slice.sliceAdjust lo hi 1 (n:Int)=(((sIx n 0 lo:Nat):Int),((sIx n n hi:Nat):Int)):=by
 have h1:¬((1:Int)<0):=by lia
 unfold Builtin.Slice.sliceAdjust
 simp only [h1,if_false]
 refine Prod.ext ?_ ?_
 ·cases lo with
  |none=>rfl
  |some v=>exact P2 v n 0
 ·cases hi with
  |none=>rfl
  |some v=>exact P2 v n n
theorem OK (i j:Nat):Builtin.Slice.slicePlaces (i:Int) (j:Int) 1=j-i:=by
 unfold Builtin.Slice.slicePlaces
 have h1:(1:Int) > 0:=by lia
 simp only [h1,if_true,Int.ediv_one]
 split<;>lia
theorem Jc {v:Value} {o:Option Int} {Q:Option Int->Shared->Prop} (p:IsPart v o) (h:Q o s):wpAny (model prog w) A (Builtin.Slice.slicePartIndex v) Q E s:=by
 cases p with
 |none=>exact slicePart_none h
 |int i t=>exact slicePart_int h
theorem sliceApplied_gen {sl:Addr} {vl vu:Value} {lo hi:Option Int} {n:Nat} {Q:Int×Int×Nat->Shared->Prop} (hs:s.heap.IsSliceOf sl vl vu .none) (pl:IsPart vl lo) (pu:IsPart vu hi)
  (h:Q (((sIx n 0 lo:Nat):Int),1,sIx n n hi-sIx n 0 lo) s):wpAny (model prog w) A (Builtin.Slice.sliceApplied (.ref sl) (pure (n:Int))) Q E s:=by
 obtain ⟨os,Jo,dG,cU⟩:=id hs
 unfold Builtin.Slice.sliceApplied Builtin.Slice.sliceFields
 refine wpAny_bind (wpAny_bind (wpAny_field Jo cU (x:=vl) rfl (wpAny_bind (wpAny_field Jo cU (x:=vu) rfl (wpAny_bind (wpAny_field Jo cU (x:=.none) rfl (wpAny_pure ?_)))))))
 refine wpAny_bind (slicePart_none ?_)
 show wpAny _ _ (if ((1:Int)==0)=true then _ else _) _ _ s
 rw [if_neg (by decide)]
 refine wpAny_bind (Jc pl (wpAny_bind (Jc pu (wpAny_bind (wpAny_pure ?_)))))
 show wpAny _ _ (match Builtin.Slice.sliceAdjust lo hi 1 (n:Int)with|(lo,hi)=>pure (lo,(1:Int),Builtin.Slice.slicePlaces lo hi 1)) _ _ s
 rw [Nq lo hi n]
 show wpAny _ _ (pure (((sIx n 0 lo:Nat):Int),(1:Int),Builtin.Slice.slicePlaces ((sIx n 0 lo:Nat):Int) ((sIx n n hi:Nat):Int) 1)) _ _ s
 rw [OK]
 exact wpAny_pure h
theorem Tv (xs:Array Value) (i k:Nat):((List.range k).filterMap fun (m:Nat)=>xs[((i:Int)+(m:Int)*1).toNat]?).toArray=((xs.toList.drop i).take k).toArray:=by
 have e:(fun (m:Nat)=>xs[((i:Int)+(m:Int)*1).toNat]?)=fun m=>xs[i+m]?:=by
  funext m
  have:((i:Int)+(m:Int)*1).toNat=i+m:=by lia
  rw [this]
 rw [e]
 have:=pick_run xs i k
 rw [List.filterMap_map]at this
 have e2:((fun x=>xs[x]?) ∘ fun x=>i+x)=fun m=>xs[i+m]?:=rfl
 rw [e2]at this
 rw [this]
theorem getItem_tuple_cut {t sl:Addr} {items:Array Value} {vl vu:Value} {lo hi:Option Int} {Q:Value->Shared->Prop} (ht:IsTup s.heap t items) (hs:s.heap.IsSliceOf sl vl vu .none) (pl:IsPart vl lo) (pu:IsPart vu hi)
  (hw:¬(sIx items.size 0 lo=0/\sIx items.size items.size hi=items.size))
  (h:Q (.ref s.heap.objs.size) { s with heap:=s.heap.push { cls:=.type "tuple",data:=.seq ((items.toList.drop (sIx items.size 0 lo)).take (sIx items.size items.size hi-sIx items.size 0 lo)).toArray } })
  (hsz:items.size≤sizeLine):wpAny (model prog w) A (getItem (.ref t) (.ref sl)) Q E s:=by
 have Pz:sizeOk (.seq ((items.toList.drop (sIx items.size 0 lo)).take (sIx items.size items.size hi-sIx items.size 0 lo)).toArray):=by
  show ((items.toList.drop (sIx items.size 0 lo)).take (sIx items.size items.size hi-sIx items.size 0 lo)).toArray.size≤sizeLine
  rw [List.size_toArray,List.length_take,List.length_drop,Array.length_toList]
  lia
 have hj:sIx items.size items.size hi≤items.size:=Yt _ _ (Nat.le_refl _) hi
 obtain ⟨os,Jo,dG,cU⟩:=id hs
 have jM:s.TypeIs (.ref sl) "slice":=⟨os,Jo,dG⟩
 unfold getItem
 try with_reducible refine wpAny_holding ?_
 first|refine wpAny_bind (wpAny_pure ?_)|skip
 refine wpAny_bind (wpAny_sequenceKey ht.typeIs (by decide) ?_)
 refine wpAny_bind (wpAny_callSpecial?_slot (name:=Str.ofString "__getitem__") ht.typeIs PyProof.Rows.slot_tuple_getitem
  (wpAny_call_entry PyProof.Rows.slot_tuple_getitem ht.typeIs entry_tuple_getitem ?_ (args_tuple_getitem _ _)))
 show wpAny _ _ (Builtin.Tuple.tupleItemsOf (.ref t) >>= _) _ _ s
 refine wpAny_bind (tupleItemsOf_ ht ?_)
 refine wpAny_bind (wpAny_typeOf jM ?_)
 rw [if_pos (by decide)]
 refine wpAny_bind (sliceApplied_gen hs pl pu ?_)
 have uy:¬((((sIx items.size 0 lo:Nat):Int)==0&&(1:Int)==1&&(sIx items.size items.size hi-sIx items.size 0 lo)==items.size)=true):=by
  intro q
  rw [Bool.and_eq_true,Bool.and_eq_true]at q
  have q1:((sIx items.size 0 lo:Nat):Int)=0:=eq_of_beq q.1.1
  have q2:sIx items.size items.size hi-sIx items.size 0 lo=items.size:=eq_of_beq q.2
  exact hw ⟨by lia,by lia⟩
 show wpAny _ _ (if (((sIx items.size 0 lo:Nat):Int)==0&&(1:Int)==1&&(sIx items.size items.size hi-sIx items.size 0 lo)==items.size)=true then _ else _) _ _ s
 rw [if_neg uy,Tv]
 first
  |exact wpAny_bind (m:=Builtin.Tuple.tupleExact _) (wpAny_newObj_type (wpAny_pure ⟨_,rfl,wpAny_pure h⟩) Pz)
  |exact wpAny_bind (m:=Builtin.Tuple.tupleExact _) (wpAny_newObj_type (wpAny_bind (wpAny_pure (wpAny_pure ⟨_,rfl,wpAny_pure h⟩))) Pz)
  |exact wpAny_bind (wpAny_bind (m:=Builtin.Tuple.tupleExact _) (wpAny_newObj_type (wpAny_pure (wpAny_pure ⟨_,rfl,wpAny_pure h⟩)) Pz))
  |exact wpAny_bind (wpAny_bind (m:=Builtin.Tuple.tupleExact _) (wpAny_newObj_type (wpAny_pure ⟨_,rfl,wpAny_pure h⟩) Pz))
end
end HT
namespace L2
open PySem PySem.Spec PyProof.Rows
abbrev TO:=St->Hp->(Option Int->Hp->Prop)->Prop
def PO (X:Cx) (e:Option Expr) (t:TO):Prop:=
 ∀(pins:List (Addr×Obj)) (s:Shared) (σ:St) (H:Hp) (Q:Option Int->Hp->Prop),Inv X pins σ H s->t σ H Q →
  wpAny (model X.prog X.w) X.A (evalPart e X.env) (fun u s'=>∃o H',Inv X pins σ H' s'/\IsPart u o/\Q o H') X.xe s
def WY:TO:=fun _ H Q=>Q none H
def bV (t:TE):TO:=fun σ H Q=>t σ H fun x H1=>∃i,x=.int i/\Q (some i) H1
theorem Oa {ns:List Int}:∀{us:List Value},Vals (ns.map V.int) us->IntsAre us ns:=by
 induction ns with
 |nil=>intro us r;rw [List.map_nil]at r;cases r;exact .nil
 |cons n ns ih=>
  intro us r
  rw [List.map_cons]at r
  cases r with
  |cons r1 r2=>
   obtain ⟨t,e⟩:=r1
   subst e
   exact .cons n t (ih r2)
section
variable {X:Cx}{e:Expr}{te:TE}{lo hi:Option Expr}{tl th:TO}{pos p2:Pos}
theorem Vp:PO X none WY:=by
 intro pins s σ H Q I h
 rw [evalPart_none]
 exact wpAny_pure ⟨none,H,I,.none,h⟩
theorem VO (h:PE X e te):PO X (some e) (bV te):=by
 intro pins s σ H Q I hw
 rw [evalPart_some]
 refine thn (h pins s σ H _ I hw) fun u s1 ⟨x,H1,I1,r1,q1⟩=>?_
 obtain ⟨i,rfl,q⟩:=q1
 obtain ⟨t,rfl⟩:=r1
 exact ⟨some i,H1,I1,.int i t,q⟩
def SlR (X:Cx) (r:V->Option Int->Option Int->Hp->VK->Prop):Prop:=
 ∀(pins:List (Addr×Obj)) (s:Shared) (σ:St) (H:Hp) (x:V) (v vl vu:Value) (lo hi:Option Int) (sl:Addr) (Q:VK),Inv X pins σ H s->RelV x v->s.heap.IsSliceOf sl vl vu .none->IsPart vl lo->IsPart vu hi->r x lo hi H Q →
  ∃T id,typeLookup (.type T) "__getitem__"=pure (some (.builtin id))/\s.TypeIs v T/\wpAny (model X.prog X.w) X.A (getItem v (.ref sl)) (EP X pins σ Q) X.xe s
def tSl (r:V->Option Int->Option Int->Hp->VK->Prop) (te:TE) (tl th:TO):TE:=fun σ H Q=>te σ H fun x H1=>tl σ H1 fun l H2=>th σ H2 fun u H3=>r x l u H3 Q
theorem TH {r:V->Option Int->Option Int->Hp->VK->Prop} (hr:SlR X r) (he:PE X e te) (hl:PO X lo tl) (hu:PO X hi th):PE X (.Subscript e (.Slice lo hi none p2) pos) (tSl r te tl th):=by
 intro pins s σ H Q I h
 refine Subscript_ (thn (he pins s σ H _ I h) fun v s1 ⟨x,H1,I1,r1,q1⟩=>?_)
 refine wpAny_Slice (thn (hl pins s1 σ H1 _ I1 q1) fun vl s2 ⟨l,H2,I2,pl,q2⟩=>thn (hu pins s2 σ H2 _ I2 q2) fun vu s3 ⟨u,H3,I3,pu,q3⟩=>?_)
 rw [evalPart_none]
 refine wpAny_pure ?_
 have I4:Inv X pins σ H3 { s3 with heap:=s3.heap.push { cls:=.type "slice",data:=.fields #[vl,vu,.none] } }:=I3.kept (t':=s3.toks) fun b ob q=>Heap.get?_push_of_some _ q
 obtain ⟨T,id,hT,ht,hg⟩:=hr pins { s3 with heap:=s3.heap.push { cls:=.type "slice",data:=.fields #[vl,vu,.none] } } σ H3 x v vl vu l u s3.heap.objs.size Q I4 r1 (Heap.IsSliceOf.new ..) pl pu q3
 show wpAny (model X.prog X.w) X.A (subscriptTail e (.Slice lo hi none p2) v (.ref s3.heap.objs.size)) (EP X pins σ Q) X.xe { s3 with heap:=s3.heap.push { cls:=.type "slice",data:=.fields #[vl,vu,.none] } }
 exact tail_any (ops:=[.ref s3.heap.objs.size,v]) ht hT hg (by with_unfolding_all rfl)
def Jt (xs:List V) (lo hi:Option Int):List V:=(xs.drop (HT.sIx xs.length 0 lo)).take (HT.sIx xs.length xs.length hi-HT.sIx xs.length 0 lo)
theorem MW (xs:List V) (lo hi:Option Int):(Jt xs lo hi).length≤xs.length:=by
 unfold Jt
 rw [List.length_take,List.length_drop]
 lia
def jc (K:PySem.W.Frag):V->Option Int->Option Int->Hp->VK->Prop:=fun x lo hi H Q=>∃a xs,x=.ref a/\SqT K H a xs ∧
 ¬(HT.sIx xs.length 0 lo=0/\HT.sIx xs.length xs.length hi=xs.length)/\∀p,H p=none->Q (.ref p) (upd H p (.tup (Jt xs lo hi)))
theorem Xq:SlR X (jc X.K):=by
 intro pins s σ H x v vl vu lo hi sl Q I rx hs pl pu h
 obtain ⟨a,xs,rfl,hx,hw,q⟩:=h
 cases rx
 obtain ⟨its,r,ht,hz⟩:=I.tuple hx
 have hlen:its.toArray.size=xs.length:=by rw [List.size_toArray];exact r.length.symm
 refine ⟨"tuple",_,PyProof.Rows.slot_tuple_getitem.lookup,ht.typeIs,?_⟩
 refine HT.getItem_tuple_cut ht hs pl pu (by rw [hlen];exact hw) ?_ (by rw [hlen];exact hz)
 rw [hlen]
 refine ⟨.ref s.heap.objs.size,_,I.laid (t':=s.toks) (o:=.tup (Jt xs lo hi)) (fun b ob q=>Heap.get?_push_of_some _ q) (Nat.le_refl _) ?_,rfl,q _ (I.hok.fresh (Nat.le_refl _))⟩
 exact ⟨Nat.le_trans (MW xs lo hi) hz,_,(r.drop (HT.sIx xs.length 0 lo)).take (HT.sIx xs.length xs.length hi-HT.sIx xs.length 0 lo),IsTup.new _ _⟩
def aO (K:PySem.W.Frag):R2:=fun x y H Q=>∃a b xs ys,x=.ref a/\y=.ref b/\SqT K H a xs/\SqT K H b ys/\xs≠[]/\xs.length+ys.length≤sizeLine ∧
 (ys=[]->Q (.ref a) H)/\(ys≠[]->∀p,H p=none->Q (.ref p) (upd H p (.tup (xs++ys))))
theorem Vals.nil_iff {xs:List V} {us:List Value} (r:Vals xs us):us=[]↔xs=[]:=by
 cases r with
 |nil=>simp
 |cons _ _=>simp
theorem U2:OpR X (binaryOp .Add) (aO X.K):=by
 intro pins s σ H x y v u Q I rx ry h
 obtain ⟨a,b,xs,ys,rfl,rfl,ha,hb,hx,hz,q1,q2⟩:=h
 cases rx
 cases ry
 obtain ⟨its,r1,p1,_⟩:=I.tuple ha
 obtain ⟨HM,r2,p2,_⟩:=I.tuple hb
 refine HT.cat_tup p1 p2 (fun z=>hx (r1.nil_iff.mp z)) (fun z=>⟨.ref a,H,I,rfl,q1 (r2.nil_iff.mp z)⟩) (fun z=>?_) (by rw [<-r1.length,<-r2.length];exact hz)
 refine ⟨.ref s.heap.objs.size,_,I.laid (t':=s.toks) (o:=.tup (xs++ys)) (fun b ob q=>Heap.get?_push_of_some _ q) (Nat.le_refl _) ?_,rfl,q2 (fun w=>z (r2.nil_iff.mpr w)) _ (I.hok.fresh (Nat.le_refl _))⟩
 exact ⟨by rw [List.length_append];exact hz,_,r1.append r2,IsTup.new _ _⟩
end
def ixN (n:Nat) (i:Int):Option Nat:=if 0≤i then (if i<n then some i.toNat else none)else if -(n:Int)≤i then some (i+n).toNat else none
def atI {α:Type} (xs:List α) (i:Int):Option α:=(ixN xs.length i).bind fun j=>xs[j]?
theorem WL {n:Nat} {i:Int} {j:Nat} (h:ixN n i=some j):seqIndex? i n=some j/\j<n/\-(n:Int)≤i/\i<n:=by
 unfold ixN at h
 by_cases h0:0≤i
 ·rw [if_pos h0]at h
  by_cases h1:i<n
  ·rw [if_pos h1]at h
   have e:i.toNat=j:=Option.some.inj h
   exact ⟨by rw [seqIndex_of h0 h1,e],by lia,by lia,h1⟩
  ·rw [if_neg h1]at h;cases h
 ·rw [if_neg h0]at h
  by_cases h1:-(n:Int)≤i
  ·rw [if_pos h1]at h
   have e:(i+n).toNat=j:=Option.some.inj h
   exact ⟨by rw [seqIndex_neg (by lia) h1,e],by lia,h1,by lia⟩
  ·rw [if_neg h1]at h;cases h
theorem Pm {α:Type} {xs:List α} {i:Int} {v:α} (h:atI xs i=some v):∃j,seqIndex? i xs.length=some j/\xs[j]?=some v/\j<xs.length/\-(xs.length:Int)≤i/\i<xs.length:=by
 unfold atI at h
 cases e:ixN xs.length i with
 |none=>rw [e]at h;cases h
 |some j=>
  rw [e]at h
  obtain ⟨h1,h2,h3,h4⟩:=WL e
  exact ⟨j,h1,h,h2,h3,h4⟩
theorem IM {α:Type} {xs:List α} {j:Nat} {v:α} (h:xs[j]?=some v):atI xs (j:Int)=some v:=by
 have hj:j<xs.length:=(List.getElem?_eq_some_iff.mp h).1
 have e:ixN xs.length (j:Int)=some j:=by
  unfold ixN
  rw [if_pos (by lia),if_pos (by lia)];simp
 unfold atI;rw [e];exact h
def GL (b:Expr):Prop:=∀o i,subscripted b false o i=operate [o,i] (getItem o i)
def IxR (X:Cx) (r:R2):Prop:=
 ∀(value slice:Expr) (pins:List (Addr×Obj)) (s:Shared) (σ:St) (H:Hp) (x y:V) (v u:Value) (Q:VK),Inv X pins σ H s->RelV x v->RelV y u->r x y H Q →
  subscripted slice false v u=operate [v,u] (getItem v u)->wpAny (model X.prog X.w) X.A (subscriptTail value slice v u) (EP X pins σ Q) X.xe s
def MtR (X:Cx) (id:String) (r:V->List V->Hp->VK->Prop):Prop:=
 ∀(pins:List (Addr×Obj)) (s:Shared) (σ:St) (H:Hp) (x:V) (xs:List V) (v:Value) (us:List Value) (Q:VK),Inv X pins σ H s->RelV x v->Vals xs us->r x xs H Q →
  wpAny (model X.prog X.w) X.A (call (.builtin id) (v::us)) (EP X pins σ Q) X.xe s
section
variable {X:Cx}{a b:Expr}{ta tb:TE}{pos:Pos}
theorem Sd {r:R2} (hr:IxR X r) (ha:PE X a ta) (hb:PE X b tb) (hs:GL b):PE X (.Subscript a b pos) (tOp r ta tb):=by
 intro pins s σ H Q I h
 exact Subscript_ (ZR ha hb I h fun v u s2 x y H2 I2 rx ry q=>hr a b pins s2 σ H2 x y v u Q I2 rx ry q (hs _ _))
def iA (K:PySem.W.Frag):R2:=fun x y H Q=>∃p xs i v,x=.ref p/\y=.int i/\SqL K H p xs/\atI xs i=some v/\Q v H
def kg (K:PySem.W.Frag):R2:=fun x y H Q=>∃p xs i v,x=.ref p/\y=.int i/\SqT K H p xs/\atI xs i=some v/\Q v H
theorem QU:IxR X (iA X.K):=by
 intro value slice pins s σ H x y v u Q I rx ry h hs
 obtain ⟨p,xs,i,z,rfl,rfl,hq,he,q⟩:=h
 cases rx
 obtain ⟨t,rfl⟩:=ry
 obtain ⟨its,r,pl,hz⟩:=I.list hq
 obtain ⟨j,h1,h2,h3,h4,h5⟩:=Pm he
 obtain ⟨w,ew,U5⟩:=r.get h2
 have hl:=r.length
 have hn:=IS
 have fin:EP X pins σ Q w s:=⟨z,H,I,U5,q⟩
 by_cases h0:0≤i
 ·have hj:i.toNat=j:=by
   rw [seqIndex_of h0 h5]at h1
   exact Option.some.inj h1
  exact item_listR pl.isList h0 (by lia) (by rw [hj];simpa using ew) fin hs
 ·have hj:(i+(its.toArray.size:Int)).toNat=j:=by
   rw [seqIndex_neg (by lia) h4]at h1
   rw [List.size_toArray,<-hl]
   exact Option.some.inj h1
  exact subscriptTail_builtinR (x:=w) pl.isList.typeIs slot_list_getitem.lookup
   (wpAny_getItem_list_neg (Q:=fun r s'=>r=w/\EP X pins σ Q r s') pl.isList (by lia) (by rw [List.size_toArray]<;>lia) (by lia) (by rw [hj];simpa using ew) ⟨rfl,fin⟩) hs
theorem Yi:IxR X (kg X.K):=by
 intro value slice pins s σ H x y v u Q I rx ry h hs
 obtain ⟨p,xs,i,z,rfl,rfl,hq,he,q⟩:=h
 cases rx
 obtain ⟨t,rfl⟩:=ry
 obtain ⟨its,r,pl,hz⟩:=I.tuple hq
 obtain ⟨j,h1,h2,h3,h4,h5⟩:=Pm he
 obtain ⟨w,ew,U5⟩:=r.get h2
 have hl:=r.length
 have hn:=IS
 have fin:EP X pins σ Q w s:=⟨z,H,I,U5,q⟩
 exact subscriptTail_builtinR (x:=w) pl.typeIs slot_tuple_getitem.lookup
  (getItem_tuple (j:=j) (Q:=fun r s'=>r=w/\EP X pins σ Q r s') pl (by lia) (by lia) (by rw [List.size_toArray,<-hl];exact h1) (by simpa using ew) ⟨rfl,fin⟩) hs
def UY:V->Bool
 |.non=>true
 |.bl _=>true
 |.int _=>true
 |.str _=>true
 |_=>false
def eqV:V->V->Bool
 |.non,.non=>true
 |.bl a,.bl b=>a==b
 |.bl a,.int b=>(if a then 1 else 0)==b
 |.int a,.bl b=>a==(if b then 1 else 0)
 |.int a,.int b=>a==b
 |.str a,.str b=>a==b
 |_,_=>false
theorem YB {A:Around} {s:Shared} {y x:V} {u v:Value} (ry:RelV y u) (rx:RelV x v) (fy:UY y=true) (fx:UY x=true):SeqAt.EqAt A s u v (eqV y x):=by
 cases y with
 |non=>
  cases ry
  cases x with
  |non=>cases rx;exact SeqAt.EqAt.same _
  |bl b=>cases rx;exact SeqAt.EqAt.none_bool b
  |int b=>obtain ⟨t,rfl⟩:=rx;exact SeqAt.EqAt.none_int b t
  |str b=>obtain ⟨t,rfl⟩:=rx;exact SeqAt.EqAt.none_str b t
  |_=>exact absurd (show false=true from fx) Bool.false_ne_true
 |bl a=>
  cases ry
  cases x with
  |non=>cases rx;exact SeqAt.EqAt.bool_none a
  |bl b=>cases rx;exact SeqAt.EqAt.bool_bool a b
  |int b=>obtain ⟨t,rfl⟩:=rx;exact SeqAt.EqAt.bool_int a b t
  |str b=>obtain ⟨t,rfl⟩:=rx;exact SeqAt.EqAt.bool_str a b t
  |_=>exact absurd (show false=true from fx) Bool.false_ne_true
 |int a=>
  obtain ⟨t',rfl⟩:=ry
  cases x with
  |non=>cases rx;exact SeqAt.EqAt.int_none a t'
  |bl b=>cases rx;exact SeqAt.EqAt.int_bool a t' b
  |int b=>obtain ⟨t,rfl⟩:=rx;exact SeqAt.EqAt.int_int a t' b t
  |str b=>obtain ⟨t,rfl⟩:=rx;exact SeqAt.EqAt.int_str a t' b t
  |_=>exact absurd (show false=true from fx) Bool.false_ne_true
 |str a=>
  obtain ⟨t',rfl⟩:=ry
  cases x with
  |non=>cases rx;exact SeqAt.EqAt.str_none a t'
  |bl b=>cases rx;exact SeqAt.EqAt.str_bool a t' b
  |int b=>obtain ⟨t,rfl⟩:=rx;exact SeqAt.EqAt.str_int a t' b t
  |str b=>obtain ⟨t,rfl⟩:=rx;exact SeqAt.EqAt.str_str a t' b t
  |_=>exact absurd (show false=true from fx) Bool.false_ne_true
 |_=>exact absurd (show false=true from fy) Bool.false_ne_true
theorem Ky:CP X (.builtin "len") (fun xs H Q=>∃p ys,xs=[.ref p]/\(SqL X.K H p ys\/SqT X.K H p ys)/\Q (.int ys.length) H):=by
 intro pins s σ H xs us Q I r h
 obtain ⟨p,ys,rfl,hq,q⟩:=h
 obtain ⟨u,rfl,rx⟩:=Hj r
 cases rx
 have hn:=IS
 rcases hq with hq|hq
 ·obtain ⟨its,r',pl,hz⟩:=I.list hq
  have hlen:=r'.length
  exact Calls.call_len_list pl.isList (by simp only [List.size_toArray]<;>lia) ⟨.int ys.length,H,I.tok _,⟨s.toks+1,by rw [List.size_toArray,hlen]⟩,q⟩
 ·obtain ⟨its,r',pl,hz⟩:=I.tuple hq
  have hlen:=r'.length
  exact len_tuple pl (by simp only [List.size_toArray]<;>lia) ⟨.int ys.length,H,I.tok _,⟨s.toks+1,by rw [List.size_toArray,hlen]⟩,q⟩
theorem LG:CP X (.builtin "len") (fun xs H Q=>∃z,xs=[.str z]/\z.length≤sizeLine/\Q (.int z.length) H):=by
 intro pins s σ H xs us Q I r h
 obtain ⟨z,rfl,hz,q⟩:=h
 obtain ⟨u,rfl,t,rfl⟩:=Hj r
 have hn:=IS
 exact len_str (by lia) ⟨.int z.length,H,I.tok _,⟨_,rfl⟩,q⟩
theorem LU:CP X (.type "list") (fun xs H Q=>∃p ys,xs=[.ref p]/\(SqL X.K H p ys\/SqT X.K H p ys)/\∀l,H l=none->Q (.ref l) (upd H l (.lst ys))):=by
 intro pins s σ H xs us Q I r h
 obtain ⟨p,ys,rfl,hq,q⟩:=h
 obtain ⟨u,rfl,rx⟩:=Hj r
 cases rx
 have fin:∀(its:List Value),Vals ys its->ys.length≤sizeLine->∀(h':Heap) (c':Nat),(∀b o',s.heap.get? b=some o'->h'.get? b=some o') →
   h'.get? s.heap.objs.size=some { cls:=.type "list",dict:=none,data:=.seq its.toArray c',slots:=#[] }->EP X pins σ Q (.ref s.heap.objs.size) { s with heap:=h' }:=fun its r' hz h' c' kp e=>
  ⟨.ref s.heap.objs.size,_,I.laid (t':=s.toks) kp (Nat.le_refl _) (show ObjOk X.prog X.w _ h' _ (.lst ys)from ⟨hz,its,c',r',e⟩),rfl,q _ (I.hok.fresh (Nat.le_refl _))⟩
 rcases hq with hq|hq
 ·obtain ⟨its,r',pl,hz⟩:=I.list hq
  have hlen:=r'.length
  obtain ⟨o,ho,hc,n,hd⟩:=pl.isList
  exact call_list_seq p (.inl rfl) ho hc hd (fun h' c' kp e=>fin its r' hz h' c' kp e) (by simp only [List.size_toArray]<;>lia)
 ·obtain ⟨its,r',pl,hz⟩:=I.tuple hq
  have hlen:=r'.length
  obtain ⟨o,ho,hc,n,hd⟩:=pl
  exact call_list_seq p (.inr rfl) ho hc hd (fun h' c' kp e=>fin its r' hz h' c' kp e) (by simp only [List.size_toArray]<;>lia)
theorem FL:CP X (.type "tuple") (fun xs H Q=>∃p ys,xs=[.ref p]/\((SqL X.K H p ys/\∀l,H l=none->Q (.ref l) (upd H l (.tup ys)))\/(SqT X.K H p ys/\Q (.ref p) H))):=by
 intro pins s σ H xs us Q I r h
 obtain ⟨p,ys,rfl,h⟩:=h
 obtain ⟨u,rfl,rx⟩:=Hj r
 cases rx
 rcases h with ⟨hq,q⟩|⟨hq,q⟩
 ·obtain ⟨its,r',pl,hz⟩:=I.list hq
  have hlen:=r'.length
  refine call_tuple_list pl.isList (fun h' kp=>?_) (by simp only [List.size_toArray]<;>lia)
  have I1:Inv X pins σ H { s with heap:=h' }:=I.kept (t':=s.toks) kp
  have I2:Inv X pins σ (upd H h'.objs.size (.tup ys)) { s with heap:=h'.push { cls:=.type "tuple",data:=.seq its.toArray } }:=
   I1.laid (t':=s.toks) (fun b o e=>Heap.get?_push_of_some _ e) (Nat.le_refl _) (show ObjOk X.prog X.w _ _ _ (.tup ys)from ⟨hz,its,r',IsTup.new _ _⟩)
  exact ⟨.ref h'.objs.size,_,I2,rfl,q _ (I1.hok.fresh (Nat.le_refl _))⟩
 ·obtain ⟨its,r',pl,hz⟩:=I.tuple hq
  exact call_tuple_same pl ⟨.ref p,H,I,rfl,q⟩
def tyV (K:PySem.W.Frag) (T:String) (x:V) (H:Hp):Prop:=match x with
 |.str _=>T = "str"
 |.int _=>T = "int"
 |.ref p=>(T = "list"/\∃xs,SqL K H p xs)\/(T = "tuple"/\∃o,K.lookup p=some o/\o.cls=.type "tuple"/\o.dict=none) ∨
   (T = "dict"/\((∃Ae,H p=some (.dK Ae))\/∃Ae,H p=some (.dT Ae)))\/(T = "set"/\∃S n,H p=some (.set S n))
 |_=>False
theorem TB {pins:List (Addr×Obj)} {σ:St} {H:Hp} {s:Shared} {T:String} {x:V} {v:Value} (I:Inv X pins σ H s) (r:RelV x v) (ty:tyV X.K T x H) :
  s.TypeIs v T/\∀a,v=.ref a->∃ob,s.heap.get? a=some ob/\ob.dict=none:=by
 cases x with
 |str z=>
  obtain ⟨t,rfl⟩:=r
  cases (show T = "str" from ty)
  exact ⟨typeIs_str s z t,fun _ e=>nomatch e⟩
 |int i=>
  obtain ⟨t,rfl⟩:=r
  cases (show T = "int" from ty)
  exact ⟨typeIs_int s i t,fun _ e=>nomatch e⟩
 |ref p=>
  cases r
  rcases ty with ⟨rfl,xs,hq⟩|⟨rfl,o,hk,hc,hd⟩|⟨rfl,hk⟩|⟨rfl,S,n,hk⟩
  ·obtain ⟨its,_,pl,_⟩:=I.list hq
   refine ⟨pl.isList.typeIs,fun a e=>?_⟩
   cases e
   obtain ⟨o,n,e,c,hd,_⟩:=pl
   exact ⟨o,e,hd⟩
  ·refine ⟨⟨o,I.kIn p o hk,hc⟩,fun a e=>?_⟩
   cases e
   exact ⟨o,I.kIn _ o hk,hd⟩
  ·have z:∃o,s.heap.get? p=some o/\o.ExactDict:=by
    rcases hk with ⟨Ae,hk⟩|⟨Ae,hk⟩
    ·obtain ⟨_,_,_,_,o,_,_,e,ex,_⟩:=I.hok p _ hk
     exact ⟨o,e,ex⟩
    ·obtain ⟨_,_,_,_,o,_,_,e,ex,_⟩:=I.hok p _ hk
     exact ⟨o,e,ex⟩
   obtain ⟨o,e,ex⟩:=z
   refine ⟨⟨o,e,ex.1⟩,fun a e2=>?_⟩
   cases e2
   exact ⟨o,e,ex.2.1⟩
  ·obtain ⟨o,_,_,_,e,ex,_⟩:=I.hok p _ hk
   refine ⟨⟨o,e,ex.1⟩,fun a e2=>?_⟩
   cases e2
   exact ⟨o,e,ex.2.1⟩
 |_=>exact False.elim ty
def kd (K:PySem.W.Frag) (T:String) (r:V->List V->Hp->VK->Prop) (to:TE):TE:=fun σ H Q=>to σ H fun x H1=>tyV K T x H1/\r x [] H1 Q
def tBM (K:PySem.W.Frag) (T:String) (r:V->List V->Hp->VK->Prop) (to:TE) (t:TA):TE:=fun σ H Q=>to σ H fun x H1=>tyV K T x H1/\t σ H1 fun xs H2=>r x xs H2 Q
variable {o e:Expr}{es:List Expr}{to:TE}{t:TA}{name:Str}{apos Ay:Pos}{T id:String}{r:V->List V->Hp->VK->Prop}
theorem Xu (pa:PlainAttrs T) (slot:Slot T name id) (ec:typeOf (.builtin id)=pure (.type "method_descriptor")) (hm:MtR X id r) (ho:PE X o to)
  (Cm:attributeBase o name X.env (eval o X.env)=eval o X.env:=by rfl) (Eb:(apos.endLine==Ay.line)=true:=by rfl):PE X (.Call (.Attribute o name apos) [] [] Ay) (kd X.K T r to):=by
 intro pins s σ H Q I h
 refine wpAny_Call_method0_late Cm Eb (thn (ho pins s σ H _ I h) fun v s1 ⟨x,H1,I1,r1,ty,q1⟩=>?_)
 obtain ⟨h1,h2⟩:=TB I1 r1 ty
 exact ⟨T,id,pa,slot,ec,h1,h2,Calls.callWith_builtin rfl (PySem.evalArgs_none (hm pins s1 σ H1 x [] v [] Q I1 r1 .nil q1))⟩
theorem Wm (pa:PlainAttrs T) (slot:Slot T name id) (ec:typeOf (.builtin id)=pure (.type "method_descriptor")) (hm:MtR X id r) (ho:PE X o to) (ha:PA X (e::es) t)
  (Cm:attributeBase o name X.env (eval o X.env)=eval o X.env:=by rfl)
  (Nt:((backTo Ay (starEach (e::es) X.env)).all (fun x=>!x.1)&&(backToKw Ay (keywordEach [] X.env)).all (fun x=>x.1.isSome)
   && decide ((e::es).length+([]:List Keyword).length+(if ([]:List Keyword).isEmpty then 0 else 1)<30))=true:=by rfl)
  (Eb:(apos.endLine==Ay.line)=true:=by rfl) (hs:starEach (e::es) X.env=(false,eval e X.env)::starEach es X.env:=by rfl) (N2:(backTo Ay (starEach es X.env)).any (·.1)=false:=by rfl) :
  PE X (.Call (.Attribute o name apos) (e::es) [] Ay) (tBM X.K T r to t):=by
 intro pins s σ H Q I h
 refine wpAny_Call_method_late Cm Nt Eb rfl (thn (ho pins s σ H _ I h) fun v s1 ⟨x,H1,I1,r1,ty,q1⟩=>?_)
 obtain ⟨h1,h2⟩:=TB I1 r1 ty
 refine ⟨T,id,pa,slot,ec,h1,h2,?_⟩
 have hA:=ha Ay pins s1 σ H1 _ I1 q1
 rw [hs]at hA ⊢
 refine Calls.callWith_builtin (by show (false||(backTo Ay (starEach es X.env)).any (·.1))=false;rw [N2]<;>rfl) (Calls.evalArgs_plain ?_)
 exact thn hA fun us s2 ⟨vs,H2,I2,r2,q2⟩=>hm pins s2 σ H2 x vs v us Q I2 r1 r2 q2
end
def MtM (X:Cx) (id:String) (r:V->List V->Hp->VK->Prop):Prop:=
 ∀(pins:List (Addr×Obj)) (s:Shared) (σ:St) (H:Hp) (x:V) (xs:List V) (v:Value) (us:List Value) (Q:VK),Inv X pins σ H s->RelV x v->Vals xs us->r x xs H Q →
  wpAny (model X.prog X.w) X.A (call (.builtin id) (v::us)) (EP X pins σ Q) X.xe s
theorem Vals.one:∀{x:V} {us:List Value},Vals [x] us->∃u,us=[u]/\RelV x u
 |_,_,.cons r .nil=>⟨_,rfl,r⟩
theorem Vals.zero:∀{us:List Value},Vals [] us->us=[]
 |_,.nil=>rfl
theorem Vals.dropLast {xs:List V} {us:List Value} (h:Vals xs us):Vals xs.dropLast us.dropLast:=by
 induction h with
 |nil=>exact .nil
 |cons r t ih=>
  cases t with
  |nil=>exact .nil
  |cons q t'=>exact .cons r ih
theorem OC {α:Type} (l:List α):l.eraseIdx (l.length-1)=l.dropLast:=by
 induction l with
 |nil=>rfl
 |cons a r ih=>
  cases r with
  |nil=>rfl
  |cons b r=>
   have e:(a::b::r).length-1=((b::r).length-1)+1:=by
    have h1:(a::b::r).length=r.length+2:=rfl
    have h2:(b::r).length=r.length+1:=rfl
    lia
   rw [e,List.eraseIdx_cons_succ,ih]
   all_goals rfl
section
variable {X:Cx}{pins:List (Addr×Obj)}{σ:St}{H:Hp}{s:Shared}{l b:Addr}{xs ys zs:List V}
theorem Inv.lset {its its':List Value} {n:Nat} {f:Array Value->Array Value} {t':Nat} (I:Inv X pins σ H s) (hH:H l=some (.lst xs))
  (e:s.heap.get? l=some { cls:=.type "list",data:=.seq its.toArray n }) (hf:f its.toArray=its'.toArray) (hv:Vals ys its') (hz:ys.length≤sizeLine) :
  Inv X pins σ (upd H l (.lst ys)) { s with heap:=s.heap.update l (Obj.mapSeq f),toks:=t' }:=by
 have q:=PySem.IsL.update e f
 rw [hf]at q
 refine I.write (x:=l) (e:=l) (by rw [hH];exact trivial) (.inl rfl) (fun b' u hb hu=>(Heap.get?_update_other s.heap (Obj.mapSeq f) (Ne.symm hb)).trans hu) ⟨_,q⟩ ?_
 exact ⟨hz,its',_,hv,q⟩
theorem Inv.lnew {its:List Value} {t':Nat} (I:Inv X pins σ H s) (hv:Vals ys its) (hz:ys.length≤sizeLine) :
  Inv X pins σ (upd H s.heap.objs.size (.lst ys)) { s with heap:=s.heap.push { cls:=.type "list",data:=.seq its.toArray },toks:=t' }:=
 I.laid (fun _ _ q=>Heap.get?_push_of_some _ q) (Nat.le_refl _) ⟨hz,its,0,hv,Heap.get?_push_size _ rfl⟩
theorem Inv.fresh (I:Inv X pins σ H s):H s.heap.objs.size=none:=I.hok.fresh (Nat.le_refl _)
theorem Inv.lstM (I:Inv X pins σ H s) (hH:H l=some (.lst xs)):xs.length≤sizeLine/\∃(its:List Value) (n:Nat),Vals xs its/\xs.length=its.length/\s.heap.get? l=some { cls:=.type "list",data:=.seq its.toArray n }:=by
 obtain ⟨z,its,n,r,e⟩:=I.hok l _ hH
 exact ⟨z,its,n,r,r.length,e⟩
theorem SN {n:Nat} (h:n≤sizeLine):Builtin.List.listTooLong n=false:=by
 unfold Builtin.List.listTooLong
 exact decide_eq_false (by lia)
end
section
variable {X:Cx}
def Us:V->List V->Hp->VK->Prop:=fun x vs H Q=>∃l xs y,x=.ref l/\vs=[y]/\H l=some (.lst xs)/\xs.length<sizeLine/\Q .non (upd H l (.lst (xs++[y])))
theorem Kc:MtM X "list.append" Us:=by
 intro pins s σ H x vs v us Q I rx rv h
 obtain ⟨l,xs,y,rfl,rfl,hH,hz,q⟩:=h
 cases rx
 obtain ⟨u,rfl,ru⟩:=rv.one
 obtain ⟨z,its,n,r,hl,e⟩:=I.lstM hH
 refine call_meets F.slot_list_append ⟨_,e,rfl⟩ F.entry_list_append (F.args_list_append_2 _ _) (PySem.list_append l its.toArray n u (by rw [List.size_toArray];lia)) ⟨e,?_⟩
 refine ⟨.non,_,I.lset (its':=its++[u]) hH e (by simp) (r.append (.cons ru .nil)) ?_,rfl,q⟩
 rw [List.length_append,List.length_singleton]
 lia
def gg:V->List V->Hp->VK->Prop:=fun x vs H Q=>∃l xs y,x=.ref l/\vs=[]/\H l=some (.lst xs)/\xs[xs.length-1]?=some y/\Q y (upd H l (.lst xs.dropLast))
theorem XU:MtM X "list.pop" gg:=by
 intro pins s σ H x vs v us Q I rx rv h
 obtain ⟨l,xs,y,rfl,rfl,hH,hy,q⟩:=h
 cases rx
 have qD:=rv.zero
 subst qD
 obtain ⟨z,its,n,r,hl,e⟩:=I.lstM hH
 obtain ⟨u,hu,ru⟩:=r.get hy
 have Yw:its.toArray[its.toArray.size-1]?=some u:=by
  show its.toArray[its.length-1]?=some u
  rw [<-Array.getElem?_toList,<-hl]
  exact hu
 refine call_meets F.slot_list_pop ⟨_,e,rfl⟩ F.entry_list_pop (F.args_list_pop_1 _) (MeetsSeq.list_pop_last l its.toArray n u Yw (by rw [List.size_toArray];lia)) ⟨e,?_⟩
 refine ⟨y,_,I.lset (its':=its.dropLast) hH e ?_ r.dropLast ?_,ru,q⟩
 ·show its.toArray.eraseIdxIfInBounds (its.toArray.size-1)=its.dropLast.toArray
  rw [List.size_toArray,List.eraseIdxIfInBounds_toArray,OC]
 ·rw [List.length_dropLast]
  lia
def kL:R2:=fun x y H Q=>∃l b xs zs,x=.ref l/\y=.ref b/\H l=some (.lst xs)/\H b=some (.lst zs)/\xs.length+zs.length≤sizeLine/\∀p,H p=none->Q (.ref p) (upd H p (.lst (xs++zs)))
theorem YQ:OpR X (binaryOp .Add) kL:=by
 intro pins s σ H x y v u Q I rx ry h
 obtain ⟨l,b,xs,zs,rfl,rfl,hH,hB,hz,q⟩:=h
 cases rx
 cases ry
 obtain ⟨z,its,n,r,hl,e⟩:=I.lstM hH
 obtain ⟨z2,HM,n2,r2,SH,e2⟩:=I.lstM hB
 refine PySem.P.add_list e e2 ?_ (by rw [List.size_toArray,List.size_toArray];lia)
 have ea:its.toArray++HM.toArray=(its++HM).toArray:=by simp
 rw [ea]
 exact ⟨.ref _,_,I.lnew (t':=s.toks) (r.append r2) (by rw [List.length_append];lia),rfl,q _ I.fresh⟩
end
end L2
namespace Att
open PySem PySem.W PySem.Calls PyProof.Rows
theorem Ht {P:Params} {h:Heap}:∀(ns:List Int) (vs:List Value),WellAll P h vs (ns.map WData.int)->IntsAre vs ns:=by
 intro ns
 induction ns with
 |nil=>
  intro vs w
  rw [List.map_nil]at w
  cases w
  exact .nil
 |cons n ns ih=>
  intro vs w
  rw [List.map_cons]at w
  cases w with
  |cons a b=>
   cases a
   exact .cons _ _ (ih _ b)
theorem Qx {l:OpenLaw} {n:Nat} (hn:l.most=some n) {P:Params} {h:Heap} {args:List WData} {vals:List Value}
  (Gz:l.row.toRowW.claim.pre args=true) (iI:WellAll P h vals args) :
  ∃a vs ns,vals=[Value.ref a]/\args=[WData.list (ns.map WData.int)]/\h.get? a=some { cls:=.type "list",data:=.seq vs.toArray }/\IntsAre vs ns/\ns.length≤n:=by
 have pY:WShape.hasAll [] args [.list .int]=true:=(pre_splitW Gz).1
 have hc:l.pre.holds [] { args:=args }=true:=(pre_splitW Gz).2
 obtain ⟨d,r,rfl,h1,h2⟩:=hasAllW_cons pY
 obtain rfl:=hasAllW_nil h2
 obtain ⟨xs,rfl,h3⟩:=hasW_list h1
 obtain ⟨ns,rfl⟩:=items_int h3
 have hlen:ns.length≤n:=by
  unfold OpenLaw.pre at hc
  have h4:(WTm.not (.lt (.lit (.int (n:Int))) (.len (.arg 0)))).holds [] { args:=[.list (ns.map .int)] }=true:=by
   have h4:=(holds_andW hc).1
   rw [hn]at h4
   exact h4
  have h5:=condW_of h4 (w_not (w_lt w_lit (w_len_list (w_arg rfl))))
  rw [List.length_map]at h5
  refine Nat.le_of_not_lt fun q=>?_
  have q':(n:Int)<((ns.length:Nat):Int):=by lia
  first
   |(rw [decide_eq_true q']at h5;exact absurd h5 (by decide))
   |(simp at h5;lia)
 cases iI with
 |cons w1 w2=>
  cases w2
  cases w1 with
  |list ho Kv=>exact ⟨_,_,ns,rfl,rfl,ho,Ht ns _ Kv,hlen⟩
theorem Q0 (l:OpenLaw) (args:List WData):l.row.toRowW.claim.post args (.bool true) args=true:=
 postW_of (r:=l.row.toRowW) (X:=(true==true))
  (show WShape.has [] (.bool true) .bool=true by first|rfl|decide|simp [WShape.has,WShape.arms,WShape.armsAll])
  (show (WTm.eq .res (.lit (.bool true))).value [] { args:=args,res:=some (.bool true),after:=args }=some (.bool (true==true))from w_eq_bool (w_res rfl) w_lit) rfl
theorem attach_call {l:OpenLaw} {n:Nat} {q:Program} {loose:List Str} {XP:(Str->Option Value)->Heap->Prop} {YP:World->Heap->Prop} {d:DefRec}
  (hn:l.most=some n) (aK:d.params.defaults=[])
  (call:∀(w:World) (s₀ s₁:Shared) (mg mb:Str->Option Value) (fa:Addr) (o:Obj) (pm cd doc:Value) (a:Addr) (vs:List Value) (ns:List Int),
   Ground q loose [] XP w s₀ mg mb s₁.heap->YP w s₁.heap →
   s₁.heap.get? fa=some o->o.data=.func (docDef d.name d.params d.body d.scope pm cd doc)->s₁.heap.CodeRec cd d.name->mg d.name=some (.ref fa) →
   s₁.heap.get? a=some { cls:=.type "list",data:=.seq vs.toArray }->IntsAre vs ns->ns.length≤n->s₁.gens=#[] →
   codeAny (model l.prog w) callerA (.call (.ref fa) ⟨[.ref a],[]⟩) (fun r s'=>r=.ok (.ret (.bool true))/\OldK s₁.heap s'.heap/\s'.os=s₁.os/\AllBare s'.gens) s₁) :
  WalkO q loose XP YP l.row.toRowW d [] (fun f vs=>PySem.call f vs):=by
 intro w s₀ s₁ mg mb G Y fa o pm cd doc dV kV ho hd MO hD OV hg args vals as Gz u7 v3 iI fP
 obtain rfl:dV=.none:=Dflts.none hD aK
 obtain rfl:kV=.none:=Dflts.noKw hD
 obtain ⟨a,vs,ns,rfl,rfl,X7,hints,hlen⟩:=Qx hn Gz iI
 refine enter_call (codeAny_mono (call w s₀ s₁ mg mb fa o pm cd doc a vs ns G Y ho (fd_plain hd) MO OV X7 hints hlen hg) fun r s' hq=>?_)
 obtain ⟨rfl,h2,h3,h4⟩:=hq
 exact ⟨.inl ⟨.bool true,.bool true,[],rfl,fun _=>rfl,.bool true,Q0 l _,fun _=>⟨List.Pairwise.nil,fun _ hm=>(nomatch hm)⟩⟩,h2,h3,h4⟩
section
variable {prog:Program}{w:World}{A:Around}{E:Value->Shared->Prop}{s:Shared}{K:Frag}
def lR (h:Heap) (L d:Addr):List (Addr×Obj):=(List.range h.objs.size).filterMap fun a=>if a=L\/a=d then none else (h.get? a).map fun o=>(a,o)
end
end Att
namespace L2
open PySem PySem.Spec PyProof.Rows
theorem Kb:∀{vs:List Value} {ns:List Int},IntsAre vs ns->Vals (ns.map V.int) vs
 |_,_,.nil=>.nil
 |_,_,.cons n t h=>.cons ⟨t,rfl⟩ (Kb h)
def X8 (H:Hp):Prop:=∀b,H b=none\/∃o xs,H b=some (.frz o (.lst xs))
theorem T3 {P:Program} {w:World} {K:PySem.W.Frag} {mg mb:Str->Option Value} {CX:CXT} {k:Nat} {fa a:Addr} {fd:FuncData} {x:Str} {sp:Sp} {s₁:Shared} {vs:List Value} {ns:List Int}
  (KX:K.In s₁.heap) (Ue:s₁.heap.Ns mainGlobals mg) (hb:s₁.heap.Ns builtinsNs mb) (ui:∀x:Str,x≠"__name__"->mb x=bootBuiltins x) (jo:s₁.heap.NoLimit) (hg:s₁.gens=#[])
  (ha:s₁.heap.get? a=some { cls:=.type "list",data:=.seq vs.toArray }) (hi:IntsAre vs ns) (hl:ns.length≤sizeLine) (hr:Room k callerA)
  (F:∀base:Heap,K.In base->base.Ns mainGlobals mg->FnOk P w K mg base CX k fa fd [x] sp) (ZV:∀(s:Shared) (u:Value),BindsTo s fd ⟨[u],[]⟩ [(x,u)])
  (P1:∀H:Hp,X8 H->SqL K H a (ns.map V.int)->sp [.ref a] H (fun v _=>v=.bl true) fun _ _ _=>False)
  (kX:∀H e s',CX [] H s₁ (fun _ _ _=>False) e s'->False) :
  codeAny (model P w) callerA (.call (.ref fa) ⟨[.ref a],[]⟩) (fun r s'=>r=.ok (.ret (.bool true))/\OldK s₁.heap s'.heap/\s'.os=s₁.os/\AllBare s'.gens) s₁:=by
 have rv:=Kb hi
 have fv:=hi.length
 have core:∀H:Hp,X8 H->SqL K H a (ns.map V.int)->HOk P w H s₁.heap->(∀b,H b≠none->b=a)->(H a≠none->K.lookup a=none) →
   codeAny (model P w) callerA (.call (.ref fa) ⟨[.ref a],[]⟩) (fun r s'=>r=.ok (.ret (.bool true))/\OldK s₁.heap s'.heap/\s'.os=s₁.os/\AllBare s'.gens) s₁:=by
  intro H hO hS hok hA hK
  have QP:∀{b:Addr} {o:Obj},s₁.heap.get? b=some o->H b=none->(Kl s₁.heap H).get? b=some o:=fun e n=>Sz e n
  have bB:∀{b:Addr} {o:Obj} {es:Array DictEntry} {ep:Nat},s₁.heap.get? b=some o->o.data=.dict es ep->H b=none:=fun {b o es ep} e d=>by
   cases q:H b with
   |none=>rfl
   |some u=>
    have e':b=a:=hA b (by rw [q];simp)
    subst e'
    rw [ha]at e;cases e
    have d':Data.seq vs.toArray _=Data.dict es ep:=d
    cases d'
  have dc:∀{b:Addr} {m:Str->Option Value},s₁.heap.Ns b m->(Kl s₁.heap H).Ns b m:=fun {b m} ⟨o,es,ep,e,d,r⟩=>⟨o,es,ep,QP e (bB e d),d,r⟩
  have mj:K.In (Kl s₁.heap H):=fun b o e=>QP (KX b o e) (by
   cases q:H b with
   |none=>rfl
   |some u=>
    have e':b=a:=hA b (by rw [q];simp)
    subst e'
    rw [hK (by rw [q];simp)]at e;cases e)
  have hM:Mod K mg (Kl s₁.heap H):=⟨mj,dc Ue,⟨mb,dc hb,ui⟩,let ⟨mc,h1,h2⟩:=jo;⟨mc,dc h1,h2⟩⟩
  have e0:Env0 P w K mg (Kl s₁.heap H) callerA [] s₁ H:=⟨rfl,hM,fun b o e=>VA e,Nat.le_of_eq (Qq _ _),trivial,fun b hb=>absurd (show b∈([]:List Addr)from hb) (by simp),hok,.of_eq hg⟩
  refine codeAny_mono ((F _ mj (dc Ue)).run callerA [] s₁ H ⟨[.ref a],[]⟩ [.ref a] [.ref a] _ _ hr e0 (ZV s₁ (.ref a)) (.cons rfl .nil) (P1 H hO hS)) fun r s' h=>?_
  cases r with
  |error e=>exact (kX H e s' h).elim
  |ok fl=>
   cases fl with
   |next=>exact False.elim h
   |brk=>exact False.elim h
   |cont=>exact False.elim h
   |ret u=>
    obtain ⟨v,H',os,bare,un,iC,r',q⟩:=h
    have q':v=.bl true:=q
    subst q'
    obtain rfl:u=Value.bool true:=r'
    refine ⟨rfl,OldK.of_keep fun b o e=>?_,os,bare⟩
    cases q:H b with
    |none=>exact un.keep b o e q (by intro z;exact absurd (show b∈([]:List Addr)from z) (by simp)) (by simp)
    |some u=>
     rcases hO b with z|⟨ob,xs,z⟩
     ·rw [q]at z;cases z
     ·have z2:=un.frzs b ob _ z
      obtain ⟨e1,_⟩:=hok b _ z
      obtain ⟨e2,_⟩:=iC b _ z2
      rw [e]at e1;cases e1
      exact e2
 cases hk:K.lookup a with
 |some o=>
  have e:=KX a o hk
  rw [ha]at e
  cases e
  refine core (fun _=>none) (fun _=>.inl rfl) (.inr ⟨_,vs.toArray,_,hk,rfl,rfl,rfl,by rw [List.size_toArray,fv];exact hl,by simpa using rv⟩) (fun b u z=>by have z':(none:Option HO)=some u:=z;cases z') (fun b z=>absurd rfl z) fun z=>absurd rfl z
 |none=>
  refine core (fun b=>if b=a then some (.frz { cls:=.type "list",data:=.seq vs.toArray } (.lst (ns.map V.int)))else none) (fun b=>?_) (.inl (.inr ⟨{ cls:=.type "list",data:=.seq vs.toArray },if_pos rfl⟩)) (fun b u z=>?_) (fun b z=>?_) fun _=>hk
  ·by_cases hb:b=a
   ·exact .inr ⟨_,_,if_pos hb⟩
   ·exact .inl (if_neg hb)
  ·by_cases hb:b=a
   ·have z':=(if_pos hb).symm.trans z
    cases z'
    subst hb
    exact ⟨ha,by rw [List.length_map];exact hl,vs,_,rv,ha⟩
   ·have z':=(if_neg hb).symm.trans z
    cases z'
  ·by_cases hb:b=a
   ·exact hb
   ·exact absurd (if_neg hb) z
abbrev KOf {K:PySem.W.Frag} {h:Heap} (_:K.In h):PySem.W.Frag:=K
theorem walk_of {l:PySem.W.OpenLaw} {n k:Nat} {q:Program} {loose:List Str} {XP:(Str->Option Value)->Heap->Prop} {YP:World->Heap->Prop} {d:DefRec} {K:Params->PySem.W.Frag} {CX:World->CXT} {sp:World->Sp} {x:Str}
  (hn:l.most=some n) (Yb:n≤sizeLine) (aK:d.params.defaults=[]) (hr:Room k callerA)
  (hY:∀(w:World) (h:Heap),YP w h->(K w.params).In h)
  (F:∀(w:World) (mg:Str->Option Value) (fa:Addr) (h:Heap),(K w.params).In h->h.Ns mainGlobals mg->mg d.name=some (.ref fa) →
   ∃fd:FuncData,(∀(s:Shared) (u:Value),BindsTo s fd ⟨[u],[]⟩ [(x,u)]) ∧
    ∀base:Heap,(K w.params).In base->base.Ns mainGlobals mg->FnOk l.prog w (K w.params) mg base (CX w) k fa fd [x] (sp w))
  (P1:∀(w:World) (H:Hp) (a:Addr) (ns:List Int),ns.length≤n->X8 H->SqL (K w.params) H a (ns.map V.int)->sp w [.ref a] H (fun v _=>v=.bl true) fun _ _ _=>False)
  (kX:∀(w:World) (H:Hp) (s:Shared) (e:Value) (s':Shared),CX w [] H s (fun _ _ _=>False) e s'->False) :
  PySem.W.WalkO q loose XP YP l.row.toRowW d [] (fun f vs=>PySem.call f vs):=by
 refine Att.attach_call hn aK fun w s₀ s₁ mg mb fa o pm cd doc a vs ns G Y ho hd MO OV X7 hints hlen hg=>?_
 have KX:=hY w _ Y
 obtain ⟨fd,hb,hF⟩:=F w mg fa _ KX G.T.g OV
 exact T3 KX G.T.g G.T.b G.T.builtins G.T.nolimit hg X7 hints (Nat.le_trans hlen Yb) hr hF hb (fun H hO hS=>P1 w H a ns hlen hO hS) fun H e s'=>kX w H s₁ e s'
abbrev CX0:CXT:=fun _ _ _ _ _ _=>False
abbrev E0:XK:=fun _ _ _=>False
theorem Wb {X:Cx}:OH CX0 X E0:=fun _ _ _ _ _ _ _ h=>h.elim
structure Fun (K:PySem.W.Frag) (x qual:Str) (st:Stmt) (f:Addr) (fd:FuncData):Prop where
 ex:∃(oc:Value) (od:Option Addr) (kV doc pm:Value) (an:Option Addr) (A8 ct:Value) (SU:Array (Option Value)),
  fd=PySem.W.fnOf x qual (AH st) (AG st) (AB st) .none kV doc pm an A8 ct/\K.lookup f=some ⟨oc,od,.func fd,SU⟩/\PySem.W.codeIn K A8 qual=true
 kp:PySem.W.keepIn K (.ref f)=true
section
variable {P:Program}{w:World}{K:PySem.W.Frag}{mg:Str->Option Value}{base:Heap}
theorem Fun.ok {x qual:Str} {st:Stmt} {f:Addr} {fd:FuncData} {N ps:List Str} {k:Nat} {sp:Sp} (F:Fun K x qual st f fd) (S:FnScope N ps (AB st)) (len:∀vs H Q E,sp vs H Q E->vs.length=ps.length)
  (Td:∀(A8:Value) (A:Around) (outer:List Env) (s:Shared) (H:Hp) (vs:List V) (Q:VK) (E:XK),Room k (A.deeper (envOfC qual (AB st) s.heap.objs.size f A8))->sp vs H Q E →
   ∃t,PSs (Ct CX0 P w K mg base N qual (AB st) f A8 A outer s H E).nox (AG st) t/\t { nx:=fun _ H'=>Q .non H',rt:=Q } (start N vs) H):FnOk P w K mg base CX0 (k+1) f fd ps sp:=by
 obtain ⟨oc,od,kV,doc,pm,an,A8,ct,SU,rfl,lk,MO⟩:=F.ex
 refine Pe lk MO S len fun A outer s H vs Q E hr P1=>?_
 obtain ⟨t,h,q⟩:=Td A8 A outer s H vs Q E hr P1
 exact ⟨t,h.nox,q⟩
theorem Fun.binds {x qual:Str} {st:Stmt} {f:Addr} {fd:FuncData} {ps:List Str} (F:Fun K x qual st f fd)
  (h:∀(kV doc pm:Value) (an:Option Addr) (A8 ct:Value) (us:List Value),us.length=ps.length->bindArgs (PySem.W.fnOf x qual (AH st) (AG st) (AB st) .none kV doc pm an A8 ct) ⟨us,[]⟩=pure (ps.zip us)):Binds K fd ps []:=by
 obtain ⟨oc,od,kV,doc,pm,an,A8,ct,SU,rfl,lk,MO⟩:=F.ex
 exact .all (h kV doc pm an A8 ct)
theorem Au {x qual:Str} {st:Stmt} {f:Addr} {oc:Value} {od an:Option Addr} {SU:Array (Option Value)} {kV doc pm A8 ct:Value} (l:K.lookup f=some ⟨oc,od,.func (PySem.W.fnOf x qual (AH st) (AG st) (AB st) .none kV doc pm an A8 ct),SU⟩)
  (c:PySem.W.codeIn K A8 qual=true) (k:PySem.W.keepIn K (.ref f)=true):Fun K x qual st f (PySem.W.fnOf x qual (AH st) (AG st) (AB st) .none kV doc pm an A8 ct):=⟨⟨oc,od,kV,doc,pm,an,A8,ct,SU,rfl,l,c⟩,k⟩
end
theorem Gy {n:Nat} (h:n≤1000):n<sizeLine:=Nat.lt_of_le_of_lt h (by decide)
def Same (H H':Hp):Prop:=∀b o,H b=some o->H' b=some o
theorem Same.refl (H:Hp):Same H H:=fun _ _ h=>h
theorem Same.trans {H H1 H2:Hp} (a:Same H H1) (b:Same H1 H2):Same H H2:=fun c o h=>b c o (a c o h)
theorem Same.free {H H':Hp} (e:Same H H') {l:Addr} (h:H' l=Option.none):H l=Option.none:=by
 cases q:H l with
 |none=>rfl
 |some o=>
  rw [e l o q]at h
  cases h
theorem Same.seq {K:PySem.W.Frag} {H H':Hp} {a:Addr} {xs:List V} (e:Same H H') (h:SqL K H a xs):SqL K H' a xs:=by
 rcases h with (h|⟨o,h⟩)|h
 ·exact .inl (.inl (e _ _ h))
 ·exact .inl (.inr ⟨o,e _ _ h⟩)
 ·exact .inr h
end L2
namespace TF
open PySem PySem.Spec L2
open PyProof.Rows hiding St RelV
inductive Dat where
 |non|bl (b:Bool)|int (i:Int)|str (x:Str)|fn (a:Addr)|scr (ns:List Int)|tup (l:List Dat)|lst (l:List Dat)
mutual
def Rep (K:PySem.W.Frag) (H:Hp):Dat->V->Prop
 |.non,v=>v=.non
 |.bl b,v=>v=.bl b
 |.int i,v=>v=.int i
 |.str x,v=>v=.str x
 |.fn a,v=>v=.ref a
 |.scr ns,v=>∃a,v=.ref a/\SqL K H a (ns.map V.int)
 |.tup l,v=>∃a vs,v=.ref a/\SqT K H a vs/\RepL K H l vs
 |.lst l,v=>∃a vs,v=.ref a/\H a=some (.lst vs)/\RepL K H l vs
def RepL (K:PySem.W.Frag) (H:Hp):List Dat->List V->Prop
 |[],vs=>vs=[]
 |d::ds,vs=>∃v r,vs=v::r/\Rep K H d v/\RepL K H ds r
end
theorem Ar {K:PySem.W.Frag} {H H':Hp} {a:Addr} {xs:List V} (e:Same H H') (h:SqT K H a xs):SqT K H' a xs:=by
 rcases h with (h|⟨o,h⟩)|h
 ·exact .inl (.inl (e _ _ h))
 ·exact .inl (.inr ⟨o,e _ _ h⟩)
 ·exact .inr h
mutual
theorem Rep.same {K:PySem.W.Frag} {H H':Hp} (e:Same H H'):∀{d:Dat} {v:V},Rep K H d v->Rep K H' d v
 |.non,_,h=>by simpa [Rep]using h
 |.bl _,_,h=>by simpa [Rep]using h
 |.int _,_,h=>by simpa [Rep]using h
 |.str _,_,h=>by simpa [Rep]using h
 |.fn _,_,h=>by simpa [Rep]using h
 |.scr _,_,h=>by
  obtain ⟨a,h1,h2⟩:=(by simpa [Rep]using h:∃a,_=V.ref a/\SqL K H a _)
  rw [Rep];exact ⟨a,h1,e.seq h2⟩
 |.tup _,_,h=>by
  rw [Rep]at h ⊢
  obtain ⟨a,vs,h1,h2,h3⟩:=h
  exact ⟨a,vs,h1,Ar e h2,RepL.same e h3⟩
 |.lst _,_,h=>by
  rw [Rep]at h ⊢
  obtain ⟨a,vs,h1,h2,h3⟩:=h
  exact ⟨a,vs,h1,e _ _ h2,RepL.same e h3⟩
theorem RepL.same {K:PySem.W.Frag} {H H':Hp} (e:Same H H'):∀{ds:List Dat} {vs:List V},RepL K H ds vs->RepL K H' ds vs
 |[],_,h=>by rw [RepL]at h ⊢;exact h
 |_::_,_,h=>by
  rw [RepL]at h ⊢
  obtain ⟨v,r,h1,h2,h3⟩:=h
  exact ⟨v,r,h1,Rep.same e h2,RepL.same e h3⟩
end
theorem RepL.length {K:PySem.W.Frag} {H:Hp}:∀{ds:List Dat} {vs:List V},RepL K H ds vs->vs.length=ds.length
 |[],_,h=>by rw [RepL]at h;subst h;rfl
 |_::_,_,h=>by
  rw [RepL]at h
  obtain ⟨v,r,rfl,_,h3⟩:=h
  rw [List.length_cons,List.length_cons,RepL.length h3]
theorem RepL.get {K:PySem.W.Frag} {H:Hp}:∀{ds:List Dat} {vs:List V} {i:Nat} {d:Dat},RepL K H ds vs->ds[i]?=some d->∃v,vs[i]?=some v/\Rep K H d v
 |[],_,_,_,_,e=>by simp at e
 |_::_,_,0,_,h,e=>by
  rw [RepL]at h
  obtain ⟨v,r,rfl,h2,_⟩:=h
  simp at e;subst e;exact ⟨v,rfl,h2⟩
 |_::_,_,i+1,d,h,e=>by
  rw [RepL]at h
  obtain ⟨v,r,rfl,_,h3⟩:=h
  obtain ⟨u,h4,h5⟩:=RepL.get (i:=i) (d:=d) h3 (by simpa using e)
  exact ⟨u,by simpa using h4,h5⟩
theorem RepL.nil {K:PySem.W.Frag} {H:Hp}:RepL K H [] []:=by rw [RepL]
theorem RepL.cons {K:PySem.W.Frag} {H:Hp} {d:Dat} {ds:List Dat} {v:V} {vs:List V} (h:Rep K H d v) (t:RepL K H ds vs):RepL K H (d::ds) (v::vs):=by
 rw [RepL];exact ⟨v,vs,rfl,h,t⟩
theorem RepL.append {K:PySem.W.Frag} {H:Hp}:∀{ds es:List Dat} {vs us:List V},RepL K H ds vs->RepL K H es us->RepL K H (ds++es) (vs++us)
 |[],_,_,_,h,t=>by rw [RepL]at h;subst h;exact t
 |_::_,_,_,_,h,t=>by
  rw [RepL]at h
  obtain ⟨v,r,rfl,h2,h3⟩:=h
  exact RepL.cons h2 (RepL.append h3 t)
theorem RepL.drop {K:PySem.W.Frag} {H:Hp}:∀(n:Nat) {ds:List Dat} {vs:List V},RepL K H ds vs->RepL K H (ds.drop n) (vs.drop n)
 |0,_,_,h=>h
 |_+1,[],_,h=>by rw [RepL]at h;subst h;simpa using RepL.nil
 |n+1,_::_,_,h=>by
  rw [RepL]at h
  obtain ⟨v,r,rfl,_,h3⟩:=h
  exact RepL.drop n h3
theorem RepL.take {K:PySem.W.Frag} {H:Hp}:∀(n:Nat) {ds:List Dat} {vs:List V},RepL K H ds vs->RepL K H (ds.take n) (vs.take n)
 |0,_,_,_=>by simpa using RepL.nil
 |_+1,[],_,h=>by rw [RepL]at h;subst h;simpa using RepL.nil
 |n+1,_::_,_,h=>by
  rw [RepL]at h
  obtain ⟨v,r,rfl,h2,h3⟩:=h
  exact RepL.cons h2 (RepL.take n h3)
theorem RepL.ints {K:PySem.W.Frag} {H:Hp}:∀{ns:List Int} {vs:List V},RepL K H (ns.map Dat.int) vs->vs=ns.map V.int
 |[],_,h=>by rw [List.map_nil,RepL]at h;subst h;rfl
 |_::_,_,h=>by
  rw [List.map_cons,RepL]at h
  obtain ⟨v,r,rfl,h2,h3⟩:=h
  rw [Rep]at h2
  subst h2
  rw [RepL.ints h3];rfl
inductive OD where
 |lst (l:List Dat)
 |dct (Ae:List (Dat×Dat))
abbrev Gs:=Addr->Option OD
def g0:Gs:=fun _=>none
def put (G:Gs) (a:Addr) (o:OD):Gs:=fun b=>if b=a then some o else G b
def rel (G:Gs) (a:Addr):Gs:=fun b=>if b=a then none else G b
theorem AJ {G:Gs} {a:Addr} {o:OD}:put G a o a=some o:=by simp [put]
theorem Az {G:Gs} {a b:Addr} {o:OD} (h:b≠a):put G a o b=G b:=by simp [put,h]
theorem Co {G:Gs} {a:Addr}:rel G a a=none:=by simp [rel]
theorem Fe {G:Gs} {a b:Addr} (h:b≠a):rel G a b=G b:=by simp [rel,h]
theorem Cz {G:Gs} {a:Addr} {o:OD} (h:G a=none):rel (put G a o) a=G:=by
 funext b;by_cases e:b=a
 ·subst e;rw [Co,h]
 ·rw [Fe e,Az e]
theorem B0 {G:Gs} {a:Addr} {o u:OD}:put (put G a o) a u=put G a u:=by
 funext b;by_cases e:b=a
 ·subst e;rw [AJ,AJ]
 ·rw [Az e,Az e,Az e]
theorem UQ {G:Gs} {a b:Addr} {o u:OD} (h:a≠b):put (put G a o) b u=put (put G b u) a o:=by
 funext c;by_cases e:c=a
 ·subst e;rw [Az h,AJ,AJ]
 ·by_cases f:c=b
  ·subst f;rw [AJ,Az e,AJ]
  ·rw [Az f,Az e,Az e,Az f]
theorem JD {G:Gs} {a:Addr} {o:OD} (h:G a=some o):put G a o=G:=by
 funext b;by_cases e:b=a
 ·subst e;rw [AJ,h]
 ·rw [Az e]
def hid (H:Hp) (G:Gs):Hp:=fun b=>if (G b).isSome then none else H b
theorem QQ {H:Hp} {G:Gs} {b:Addr} {o:HO} (h:hid H G b=some o):G b=none/\H b=some o:=by
 unfold hid at h
 cases e:G b with
 |none=>rw [e]at h;exact ⟨rfl,by simpa using h⟩
 |some u=>rw [e]at h;simp at h
theorem G6 {H:Hp} {G:Gs} {b:Addr} {o:HO} (h1:G b=none) (h2:H b=some o):hid H G b=some o:=by
 unfold hid;rw [h1];simpa using h2
theorem AK {H:Hp} {G:Gs}:Same (hid H G) H:=fun _ _ h=>(QQ h).2
structure Ext (H:Hp) (G:Gs) (H':Hp) (G':Gs):Prop where
 keep:∀b o,H b=some o->G b=none->H' b=some o
 new:∀b,G' b≠none->G b≠none\/H b=none
theorem Ext.refl {H:Hp} {G:Gs}:Ext H G H G:=⟨fun _ _ h _=>h,fun _ h=>.inl h⟩
theorem Ext.hid {H H':Hp} {G G':Gs} (e:Ext H G H' G'):Same (hid H G) (hid H' G'):=fun b o h=>by
 obtain ⟨h1,h2⟩:=QQ h
 refine G6 ?_ (e.keep b o h2 h1)
 cases q:G' b with
 |none=>rfl
 |some u=>
  rcases e.new b (by rw [q];exact nofun)with z|z
  ·exact absurd h1 z
  ·rw [h2]at z;cases z
theorem Ext.trans {H H1 H2:Hp} {G G1 G2:Gs} (a:Ext H G H1 G1) (b:Ext H1 G1 H2 G2):Ext H G H2 G2:=by
 refine ⟨fun c o h h'=>?_,fun c h=>?_⟩
 ·have h1:=a.keep c o h h'
  refine b.keep c o h1 ?_
  cases q:G1 c with
  |none=>rfl
  |some u=>
   rcases a.new c (by rw [q];exact nofun)with z|z
   ·exact absurd h' z
   ·rw [h]at z;cases z
 ·rcases b.new c h with z|z
  ·exact a.new c z
  ·cases q:G c with
   |some u=>exact .inl nofun
   |none=>
    right
    cases r:H c with
    |none=>rfl
    |some o=>rw [a.keep c o r q]at z;cases z
theorem Ext.alloc {H:Hp} {G:Gs} {p:Addr} {o:HO} (h:H p=none):Ext H G (upd H p o) G:=
 ⟨fun b u e _=>by rw [AX (AW e h)];exact e,fun _ h=>.inl h⟩
def B9:Nat->Dat->Bool
 |_,.int _=>true
 |n+1,.tup l=>l.all (B9 n)
 |_,_=>false
mutual
def Hl:Dat->Int
 |.int i=>hashInt i
 |.tup l=>reduceHash (Builtin.Tuple.tupleHashOf (DT l))
 |_=>0
def DT:List Dat->List Int
 |[]=>[]
 |d::r=>Hl d::DT r
end
def jz (x:Dat×Addr×Value):DictEntry:=⟨Hl x.1,.ref x.2.1,x.2.2⟩
def LP (a:Addr) (xs:List (Dat×Addr×Value)) (h:Heap):Prop:=
 (a==sysModules)=false/\xs.length≤sizeLine/\(xs.map (·.1)).Nodup/\∃o es ep,h.get? a=some o/\o.ExactDict/\o.data=.dict es ep/\es.toList=xs.map jz
def HG (a:Addr) (xs:List (Dat×Addr×Value)):HO:=.ext (LP a xs)
def DRep (K:PySem.W.Frag) (H:Hp):List (Dat×Dat)->List (Dat×Addr×Value)->Prop
 |[],xs=>xs=[]
 |(k,d)::r,xs=>∃a u LQ,xs=(k,a,u)::LQ/\B9 6 k=true/\Rep K H k (.ref a)/\(∃v,RelV v u/\Rep K H d v)/\DRep K H r LQ
theorem DRep.same {K:PySem.W.Frag} {H H':Hp} (e:Same H H'):∀{Ae:List (Dat×Dat)} {xs:List (Dat×Addr×Value)},DRep K H Ae xs->DRep K H' Ae xs
 |[],_,h=>h
 |_::_,_,⟨a,u,LQ,h1,h2,h3,⟨v,h4,h5⟩,h6⟩=>⟨a,u,LQ,h1,h2,h3.same e,⟨v,h4,h5.same e⟩,DRep.same e h6⟩
section
variable (K:PySem.W.Frag)
def OwnOk (H:Hp) (G:Gs) (a:Addr):OD->Prop
 |.lst l=>∃vs,H a=some (.lst vs)/\RepL K (hid H G) l vs
 |.dct Ae=>∃xs,H a=some (HG a xs)/\DRep K (hid H G) Ae xs
def GOk (H:Hp) (G:Gs):Prop:=∀a o,G a=some o->OwnOk K H G a o
end
section
variable {K:PySem.W.Frag}{H H':Hp}{G G':Gs}{a p:Addr}
theorem OwnOk.there {o:OD} (h:OwnOk K H G a o):∃u,H a=some u:=by
 cases o with
 |lst l=>obtain ⟨vs,h,_⟩:=h;exact ⟨_,h⟩
 |dct Ae=>obtain ⟨xs,h,_⟩:=h;exact ⟨_,h⟩
theorem OwnOk.ext {o:OD} (h:OwnOk K H G a o) (e:Same (hid H G) (hid H' G')) (q:H' a=H a):OwnOk K H' G' a o:=by
 cases o with
 |lst l=>
  obtain ⟨vs,h1,h2⟩:=h
  exact ⟨vs,q.trans h1,h2.same e⟩
 |dct Ae=>
  obtain ⟨xs,h1,h2⟩:=h
  exact ⟨xs,q.trans h1,h2.same e⟩
theorem GOk.free (h:GOk K H G) (hp:H p=none):G p=none:=by
 cases q:G p with
 |none=>rfl
 |some o=>obtain ⟨u,e⟩:=(h p o q).there;rw [hp]at e;cases e
theorem GOk.alloc {o:HO} (h:GOk K H G) (hp:H p=none):GOk K (upd H p o) G:=fun b u q=>
 (h b u q).ext (Ext.alloc hp).hid (AX (by rintro rfl;rw [h.free hp]at q;cases q))
theorem cM:GOk K H g0:=fun _ _ h=>nomatch h
theorem Xj:hid H g0=H:=by funext b;simp [hid,g0]
end
abbrev Rho:=List (Option Dat)
structure Stt (X:Cx) (H:Hp) (σ:St) (ρ:Rho) (G:Gs):Prop where
 env:∀(i:Nat) d,ρ[i]?=some (some d)->∃v,σ[i]?=some (some v)/\Rep X.K (hid H G) d v
 len:ρ.length=σ.length
 own:GOk X.K H G
theorem Stt.ext {X:Cx} {H H':Hp} {σ:St} {ρ:Rho} {G G':Gs} (S:Stt X H σ ρ G) (e:Ext H G H' G') (o:GOk X.K H' G'):Stt X H' σ ρ G':=
 ⟨fun i d h=>let ⟨v,h1,h2⟩:=S.env i d h;⟨v,h1,h2.same e.hid⟩,S.len,o⟩
theorem Stt.set {X:Cx} {H:Hp} {σ:St} {ρ:Rho} {G:Gs} {i:Nat} {d:Dat} {v:V} (S:Stt X H σ ρ G) (r:Rep X.K (hid H G) d v):Stt X H (σ.set i (some v)) (ρ.set i (some d)) G:=by
 refine ⟨fun j e h=>?_,by rw [List.length_set,List.length_set,S.len],S.own⟩
 by_cases hj:i=j
 ·subst hj
  have hl:i<ρ.length:=by
   have:=(List.getElem?_eq_some_iff.mp h).1
   rwa [List.length_set]at this
  rw [List.getElem?_set_self hl]at h
  cases h
  exact ⟨v,by rw [List.getElem?_set_self (by rw [<-S.len];exact hl)],r⟩
 ·rw [List.getElem?_set_ne hj]at h
  rw [List.getElem?_set_ne hj]
  exact S.env j e h
section
variable (X:Cx)
def Po (H:Hp) (G:Gs) (Q:Dat->Gs->Prop):VK:=fun v H'=>∃d G',Ext H G H' G'/\GOk X.K H' G'/\Rep X.K (hid H' G') d v/\Q d G'
def PoT (H:Hp) (G:Gs) (Q:Bool->Gs->Prop):Bool->Hp->Prop:=fun b H'=>∃G',Ext H G H' G'/\GOk X.K H' G'/\Q b G'
def PoA (H:Hp) (G:Gs) (Q:List Dat->Gs->Prop):List V->Hp->Prop:=fun vs H'=>∃ds G',Ext H G H' G'/\GOk X.K H' G'/\RepL X.K (hid H' G') ds vs/\Q ds G'
def WE (ρ:Rho) (G:Gs) (e:Expr) (Q:Dat->Gs->Prop):Prop:=
 ∀(pins:List (Addr×Obj)) (s:Shared) (σ:St) (H:Hp),Inv X pins σ H s->Stt X H σ ρ G->wpAny (model X.prog X.w) X.A (eval e X.env) (EP X pins σ (Po X H G Q)) X.xe s
def WT (ρ:Rho) (G:Gs) (e:Expr) (Q:Bool->Gs->Prop):Prop:=
 ∀(pins:List (Addr×Obj)) (s:Shared) (σ:St) (H:Hp),Inv X pins σ H s->Stt X H σ ρ G->wpAny (model X.prog X.w) X.A (isTrue e X.env (eval e X.env)) (TP X pins σ (PoT X H G Q)) X.xe s
def WA (ρ:Rho) (G:Gs) (es:List Expr) (Q:List Dat->Gs->Prop):Prop:=
 ∀(pos:Pos) (pins:List (Addr×Obj)) (s:Shared) (σ:St) (H:Hp),Inv X pins σ H s->Stt X H σ ρ G->wpAny (model X.prog X.w) X.A (spliced (backTo pos (starEach es X.env))) (AP X pins σ (PoA X H G Q)) X.xe s
def PX (ρ:Rho) (G:Gs) (e:Expr) (d:Dat):Prop:=WE X ρ G e fun d' G'=>d'=d/\G'=G
def PXT (ρ:Rho) (G:Gs) (e:Expr) (b:Bool):Prop:=WT X ρ G e fun b' G'=>b'=b/\G'=G
def PXs (ρ:Rho) (G:Gs) (es:List Expr) (ds:List Dat):Prop:=WA X ρ G es fun d' G'=>d'=ds/\G'=G
end
theorem EP.mono {X:Cx} {pins:List (Addr×Obj)} {σ:St} {Q Q':VK} {u:Value} {s:Shared} (h:EP X pins σ Q u s) (k:∀v H,Q v H->Q' v H):EP X pins σ Q' u s:=
 let ⟨v,H,I,r,q⟩:=h;⟨v,H,I,r,k v H q⟩
theorem TP.mono {X:Cx} {pins:List (Addr×Obj)} {σ:St} {Q Q':Bool->Hp->Prop} {u:Bool} {s:Shared} (h:TP X pins σ Q u s) (k:∀v H,Q v H->Q' v H):TP X pins σ Q' u s:=
 let ⟨H,I,q⟩:=h;⟨H,I,k _ H q⟩
theorem AP.mono {X:Cx} {pins:List (Addr×Obj)} {σ:St} {Q Q':List V->Hp->Prop} {u:List Value} {s:Shared} (h:AP X pins σ Q u s) (k:∀v H,Q v H->Q' v H):AP X pins σ Q' u s:=
 let ⟨v,H,I,r,q⟩:=h;⟨v,H,I,r,k v H q⟩
theorem Po.mono {X:Cx} {H:Hp} {G:Gs} {Q Q':Dat->Gs->Prop} {v:V} {H':Hp} (h:Po X H G Q v H') (k:∀d G',Q d G'->Q' d G'):Po X H G Q' v H':=
 let ⟨d,G',e,o,r,q⟩:=h;⟨d,G',e,o,r,k d G' q⟩
theorem Po.trans {X:Cx} {H H1:Hp} {G G1:Gs} {Q:Dat->Gs->Prop} {v:V} {H':Hp} (e:Ext H G H1 G1) (h:Po X H1 G1 Q v H'):Po X H G Q v H':=
 let ⟨d,G',e',o,r,q⟩:=h;⟨d,G',e.trans e',o,r,q⟩
theorem PoT.trans {X:Cx} {H H1:Hp} {G G1:Gs} {Q:Bool->Gs->Prop} {v:Bool} {H':Hp} (e:Ext H G H1 G1) (h:PoT X H1 G1 Q v H'):PoT X H G Q v H':=
 let ⟨G',e',o,q⟩:=h;⟨G',e.trans e',o,q⟩
section
variable {X:Cx}{ρ:Rho}{G:Gs}{e a b:Expr}{es:List Expr}{d d' d1 d2:Dat}{ds:List Dat}{pos:Pos}
theorem Bw {t:TE} {Q:Dat->Gs->Prop} (h:PE X e t) (hq:∀σ H,Stt X H σ ρ G->t σ H (Po X H G Q)):WE X ρ G e Q:=fun pins s σ H I S=>h pins s σ H _ I (hq σ H S)
def tW (X:Cx) (e:Expr):TE:=fun σ H Q'=>∃ρ G R,WE X ρ G e R/\Stt X H σ ρ G/\∀v H',Po X H G R v H'->Q' v H'
theorem Ax:PE X e (tW X e):=fun pins s σ H Q I ⟨_,_,_,h,S,k⟩=>thn (h pins s σ H I S) fun _ _ q=>EP.mono q k
theorem ZM {t:TT} {Q:Bool->Gs->Prop} (h:PT X e t) (hq:∀σ H,Stt X H σ ρ G->t σ H (PoT X H G Q)):WT X ρ G e Q:=fun pins s σ H I S=>h pins s σ H _ I (hq σ H S)
theorem Wx {t:TA} {Q:List Dat->Gs->Prop} (h:PA X es t) (hq:∀σ H,Stt X H σ ρ G->t σ H (PoA X H G Q)):WA X ρ G es Q:=fun pos pins s σ H I S=>h pos pins s σ H _ I (hq σ H S)
def tWA (X:Cx) (es:List Expr):TA:=fun σ H Q'=>∃ρ G R,WA X ρ G es R/\Stt X H σ ρ G/\∀v H',PoA X H G R v H'->Q' v H'
theorem Lx:PA X es (tWA X es):=fun pos pins s σ H Q I ⟨_,_,_,h,S,k⟩=>thn (h pos pins s σ H I S) fun _ _ q=>AP.mono q k
theorem WE.mono {Q Q':Dat->Gs->Prop} (h:WE X ρ G e Q) (k:∀d G',Q d G'->Q' d G'):WE X ρ G e Q':=fun pins s σ H I S=>thn (h pins s σ H I S) fun _ _ q=>EP.mono q fun _ _ z=>Po.mono z k
theorem PX.we {Q:Dat->Gs->Prop} (h:PX X ρ G e d) (q:Q d G):WE X ρ G e Q:=WE.mono h fun _ _ ⟨h1,h2⟩=>by subst h1;subst h2;exact q
theorem PX.cast (h:PX X ρ G e d) (q:d=d'):PX X ρ G e d':=q▸h
theorem po1 {H H':Hp} {v:V} (e:Ext H G H' G) (o:GOk X.K H' G) (r:Rep X.K (hid H' G) d v):Po X H G (fun d' G'=>d'=d/\G'=G) v H':=⟨d,G,e,o,r,rfl,rfl⟩
theorem Bl {H:Hp} {v:V} (o:GOk X.K H G) (r:Rep X.K (hid H G) d v):Po X H G (fun d' G'=>d'=d/\G'=G) v H:=po1 Ext.refl o r
theorem AD (i:Nat) {x:Str} (hi:ρ[i]?=some (some d)) (hN:X.N[i]?=some x:=by rfl) (hv:Vis X.env.scope x:=by first|exact Or.inl rfl|exact Or.inr (Or.inl rfl)|exact Or.inr (Or.inr rfl)) (hd:(x==("__debug__":Str))=false:=by decide)
  (MO:(x==("__classdict__":Str))=false:=by decide):PX X ρ G (.Name x pos) d:=
 Bw (Xi hN hv hd MO) fun σ H S=>let ⟨v,h1,h2⟩:=S.env i d hi;⟨v,h1,Bl S.own h2⟩
theorem AI {i:Int} {j}:PX X ρ G (.Constant (.int i) j pos) (.int i):=Bw Ys fun σ H S=>Bl S.own rfl
theorem ME {i:Bool} {j}:PX X ρ G (.Constant (.bool i) j pos) (.bl i):=Bw aG fun σ H S=>Bl S.own rfl
theorem CN {x:Str} {j}:PX X ρ G (.Constant (.str x) j pos) (.str x):=Bw XQ fun σ H S=>Bl S.own rfl
theorem KH {op:Operator} {r:R2} (ho:OpR X (binaryOp op) r) (ha:PX X ρ G a d1) (hb:PX X ρ G b d2)
  (hr:∀(H:Hp) (x y:V) (Q:VK),GOk X.K H G->Rep X.K (hid H G) d1 x->Rep X.K (hid H G) d2 y->(∀v H',Po X H G (fun d' G'=>d'=d/\G'=G) v H'->Q v H')->r x y H Q):PX X ρ G (.BinOp a op b pos) d:=
 Bw (ae ho Ax Ax) fun σ H S=>⟨ρ,G,_,ha,S,fun x H1 ⟨_,_,e1,o1,r1,q1,B1⟩=>by
  subst q1;subst B1
  refine ⟨ρ,_,_,hb,S.ext e1 o1,fun y H2 ⟨_,_,e2,o2,r2,q2,EL⟩=>?_⟩
  subst q2;subst EL
  exact hr H2 x y _ o2 (r1.same e2.hid) r2 fun v H' z=>Po.trans (e1.trans e2) z⟩
end
mutual
def eqD:Dat->Dat->Bool
 |.non,.non=>true
 |.bl a,.bl b=>a==b
 |.bl a,.int b=>(if a then 1 else 0)==b
 |.int a,.bl b=>a==(if b then 1 else 0)
 |.int a,.int b=>a==b
 |.str a,.str b=>a==b
 |.tup l,.tup m=>eqL l m
 |.lst l,.lst m=>eqL l m
 |_,_=>false
def eqL:List Dat->List Dat->Bool
 |[],[]=>true
 |x::xs,y::ys=>eqD x y&&eqL xs ys
 |_,_=>false
end
def Ad:Dat->Bool
 |.non=>true|.bl _=>true|.int _=>true|.str _=>true|_=>false
def AF:Nat->Dat->Bool
 |0,d=>Ad d
 |n+1,.tup l=>l.all (AF n)
 |n+1,.lst l=>l.all (AF n)
 |_+1,d=>Ad d
theorem Ef {d:Dat} (h:Ad d=true):∀n,AF n d=true
 |0=>h
 |n+1=>by cases d<;>first|exact h|(simp [Ad]at h)
theorem He {d:Dat}:∀{n m:Nat},n≤m->AF n d=true->AF m d=true:=by
 intro n
 induction n generalizing d with
 |zero=>intro m _ h;exact Ef h m
 |succ n ih=>
  intro m hm h
  obtain ⟨k,rfl⟩:∃k,m=k+1:=⟨m-1,by lia⟩
  cases d<;>first|exact h|skip
  all_goals
   simp only [AF,List.all_eq_true]at h ⊢
   exact fun x hx=>ih (by lia) (h x hx)
theorem Ij:∀(n:Nat) (d:Dat),AF n d=true->eqD d d=true:=by
 intro n
 induction n with
 |zero=>intro d h;cases d<;>simp_all [AF,Ad,eqD]
 |succ n ih=>
  have hl:∀l:List Dat,l.all (AF n)=true->eqL l l=true:=by
   intro l
   induction l with
   |nil=>intro _;simp [eqL]
   |cons x r gZ=>
    intro h
    simp only [List.all_cons,Bool.and_eq_true]at h
    simp only [eqL,Bool.and_eq_true]
    exact ⟨ih x h.1,gZ h.2⟩
  intro d h
  cases d<;>simp_all [AF,Ad,eqD]
theorem D0:∀(l m:List Dat),eqL l m=((List.range (min l.length m.length)).all (fun j=>match l[j]?,m[j]? with|some x,some y=>eqD x y|_,_=>true)&&l.length==m.length)
 |[],[]=>by simp [eqL]
 |[],_::_=>by simp [eqL]
 |_::_,[]=>by simp [eqL]
 |x::l,y::m=>by
  rw [eqL,D0 l m,List.length_cons,List.length_cons,Nat.succ_min_succ,List.range_succ_eq_map,List.all_cons,List.all_map]
  simp only [List.getElem?_cons_zero,Function.comp_def,List.getElem?_cons_succ,Nat.succ_eq_add_one,Bool.and_assoc]
  congr 2
  rw [Bool.eq_iff_iff];simp
mutual
def AtH (h:Heap):Dat->Value->Prop
 |.non,u=>u=.none
 |.bl b,u=>u=.bool b
 |.int i,u=>∃t,u=.int i t
 |.str x,u=>∃t,u=.str x t
 |.fn a,u=>u=.ref a
 |.scr _,_=>False
 |.tup l,u=>∃a its,u=.ref a/\h.IsTuple a its.toArray/\AtL h l its
 |.lst l,u=>∃a its,u=.ref a/\h.IsList a its.toArray/\AtL h l its
def AtL (h:Heap):List Dat->List Value->Prop
 |[],us=>us=[]
 |d::ds,us=>∃u r,us=u::r/\AtH h d u/\AtL h ds r
end
theorem AtL.length {h:Heap}:∀{ds:List Dat} {us:List Value},AtL h ds us->us.length=ds.length
 |[],_,r=>by rw [AtL]at r;subst r;rfl
 |_::_,_,r=>by
  rw [AtL]at r
  obtain ⟨u,r,rfl,_,h3⟩:=r
  rw [List.length_cons,List.length_cons,AtL.length h3]
theorem AtL.get {h:Heap}:∀{ds:List Dat} {us:List Value} {i:Nat} {d:Dat},AtL h ds us->ds[i]?=some d->∃u,us[i]?=some u/\AtH h d u
 |[],_,_,_,_,e=>by simp at e
 |_::_,_,0,_,r,e=>by
  rw [AtL]at r
  obtain ⟨u,r,rfl,h2,_⟩:=r
  simp at e;subst e;exact ⟨u,rfl,h2⟩
 |_::_,_,i+1,d,r,e=>by
  rw [AtL]at r
  obtain ⟨u,r,rfl,_,h3⟩:=r
  obtain ⟨u',h4,h5⟩:=AtL.get (i:=i) (d:=d) h3 (by simpa using e)
  exact ⟨u',by simpa using h4,h5⟩
section
variable {X:Cx}{pins:List (Addr×Obj)}{σ:St}{H:Hp}{s:Shared}
mutual
theorem Rep.at (I:Inv X pins σ H s):∀{d:Dat} {v:V} {u:Value} {n:Nat},AF n d=true->Rep X.K H d v->RelV v u->AtH s.heap d u
 |.non,_,_,_,_,r,q=>by rw [Rep]at r;subst r;cases q;rw [AtH]
 |.bl _,_,_,_,_,r,q=>by rw [Rep]at r;subst r;cases q;rw [AtH]
 |.int _,_,_,_,_,r,q=>by rw [Rep]at r;subst r;rw [AtH];exact q
 |.str _,_,_,_,_,r,q=>by rw [Rep]at r;subst r;rw [AtH];exact q
 |.fn _,_,_,_,_,r,q=>by rw [Rep]at r;subst r;cases q;rw [AtH]
 |.scr _,_,_,n,p,_,_=>by cases n<;>simp [AF,Ad]at p
 |.tup l,_,_,n,p,r,q=>by
  rw [Rep]at r
  obtain ⟨a,vs,rfl,h1,h2⟩:=r
  cases q
  obtain ⟨its,rv,ht,_⟩:=I.tuple h1
  rw [AtH]
  refine ⟨a,its,rfl,ht,?_⟩
  cases n with
  |zero=>simp [AF,Ad]at p
  |succ n=>exact RepL.at I (n:=n) (by simpa [AF]using p) h2 rv
 |.lst l,_,_,n,p,r,q=>by
  rw [Rep]at r
  obtain ⟨a,vs,rfl,h1,h2⟩:=r
  cases q
  obtain ⟨its,rv,ht,_⟩:=I.list (SqL.of h1)
  rw [AtH]
  refine ⟨a,its,rfl,ht.isList,?_⟩
  cases n with
  |zero=>simp [AF,Ad]at p
  |succ n=>exact RepL.at I (n:=n) (by simpa [AF]using p) h2 rv
theorem RepL.at (I:Inv X pins σ H s):∀{ds:List Dat} {vs:List V} {us:List Value} {n:Nat},ds.all (AF n)=true->RepL X.K H ds vs->Vals vs us->AtL s.heap ds us
 |[],_,_,_,_,r,q=>by rw [RepL]at r;subst r;cases q;rw [AtL]
 |d::ds,_,_,n,p,r,q=>by
  rw [RepL]at r
  obtain ⟨v,r,rfl,h1,h2⟩:=r
  cases q with
  |cons q1 q2=>
   simp only [List.all_cons,Bool.and_eq_true]at p
   rw [AtL]
   exact ⟨_,_,rfl,Rep.at I p.1 h1 q1,RepL.at I p.2 h2 q2⟩
end
end
theorem AtH.flat {h:Heap} {d:Dat} {u:Value} (r:AtH h d u) (f:Ad d=true):∃v,RelV v u/\UY v=true/\∀(d':Dat) (u':Value) (v':V),Ad d'=true->AtH h d' u'->RelV v' u'->eqV v v'=eqD d d':=by
 cases d<;>simp only [Ad,Bool.false_eq_true]at f<;>rw [AtH]at r
 ·subst r
  refine ⟨.non,rfl,rfl,fun d' u' v' f' r' q'=>?_⟩
  cases d'<;>simp only [Ad,Bool.false_eq_true]at f'<;>rw [AtH]at r'<;>first|(subst r';cases v'<;>simp_all [RelV,eqV,eqD];done)|(obtain ⟨t,rfl⟩:=r';cases v'<;>simp_all [RelV,eqV,eqD])
 ·subst r
  refine ⟨.bl _,rfl,rfl,fun d' u' v' f' r' q'=>?_⟩
  cases d'<;>simp only [Ad,Bool.false_eq_true]at f'<;>rw [AtH]at r'<;>first|(subst r';cases v'<;>simp_all [RelV,eqV,eqD];done)|(obtain ⟨t,rfl⟩:=r';cases v'<;>simp_all [RelV,eqV,eqD])
 ·refine ⟨.int _,r,rfl,fun d' u' v' f' r' q'=>?_⟩
  cases d'<;>simp only [Ad,Bool.false_eq_true]at f'<;>rw [AtH]at r'<;>first|(subst r';cases v'<;>simp_all [RelV,eqV,eqD];done)|(obtain ⟨t,rfl⟩:=r';cases v'<;>simp_all [RelV,eqV,eqD])
 ·refine ⟨.str _,r,rfl,fun d' u' v' f' r' q'=>?_⟩
  cases d'<;>simp only [Ad,Bool.false_eq_true]at f'<;>rw [AtH]at r'<;>first|(subst r';cases v'<;>simp_all [RelV,eqV,eqD];done)|(obtain ⟨t,rfl⟩:=r';cases v'<;>simp_all [RelV,eqV,eqD])
theorem MJ {h:Heap} {a:Addr} {xs ys:Array Value} (h1:h.IsTuple a xs) (h2:h.IsList a ys):False:=by
 obtain ⟨o,e,c,_⟩:=h1
 obtain ⟨o',e',c',_⟩:=h2
 rw [e]at e';cases e'
 rw [c]at c';exact absurd c' (by decide)
theorem Rq {h:Heap} {a:Addr} {xs ys:List Value} (h1:h.IsTuple a xs.toArray) (h2:h.IsTuple a ys.toArray):xs=ys:=by
 obtain ⟨o,e,c,n,d⟩:=h1
 obtain ⟨o',e',c',n',d'⟩:=h2
 rw [e]at e';cases e'
 rw [d]at d'
 injection d' with d1 _
 simpa using congrArg Array.toList d1
theorem SY {h:Heap} {a:Addr} {xs ys:List Value} (h1:h.IsList a xs.toArray) (h2:h.IsList a ys.toArray):xs=ys:=by
 obtain ⟨o,e,c,n,d⟩:=h1
 obtain ⟨o',e',c',n',d'⟩:=h2
 rw [e]at e';cases e'
 rw [d]at d'
 injection d' with d1 _
 simpa using congrArg Array.toList d1
theorem AtH.inj {h:Heap}:∀(n:Nat) {d d':Dat} {u:Value},AF n d=true->AF n d'=true->AtH h d u->AtH h d' u->d=d':=by
 have flat:∀{d d':Dat} {u:Value},Ad d=true->Ad d'=true->AtH h d u->AtH h d' u->d=d':=by
  intro d d' u f f' r r'
  cases d<;>simp only [Ad,Bool.false_eq_true]at f<;>cases d'<;>simp only [Ad,Bool.false_eq_true]at f'<;>simp only [AtH]at r r' <;>
   first
   |rfl
   |(subst r;cases r';rfl)
   |(obtain ⟨t,rfl⟩:=r;obtain ⟨t',e⟩:=r';cases e;rfl)
   |(exfalso;subst r;cases r';done)
   |(exfalso;subst r;obtain ⟨t',e⟩:=r';cases e;done)
   |(exfalso;obtain ⟨t,rfl⟩:=r;cases r';done)
   |(exfalso;obtain ⟨t,rfl⟩:=r;obtain ⟨t',e⟩:=r';cases e;done)
 have P5:∀{d:Dat} {u:Value} {a:Addr},Ad d=true->AtH h d u->u=.ref a->False:=by
  intro d u a f r e
  subst e
  cases d<;>simp only [Ad,Bool.false_eq_true]at f<;>rw [AtH]at r<;>first|(cases r;done)|(obtain ⟨t,e⟩:=r;cases e;done)
 intro n
 induction n with
 |zero=>intro d d' u h h' r r';exact flat h h' r r'
 |succ n ih=>
  have hl:∀(l m:List Dat) (us:List Value),l.all (AF n)=true->m.all (AF n)=true->AtL h l us->AtL h m us->l=m:=by
   intro l
   induction l with
   |nil=>
    intro m us _ _ r r'
    rw [AtL]at r;subst r
    cases m with
    |nil=>rfl
    |cons y m=>rw [AtL]at r';obtain ⟨_,_,e,_⟩:=r';cases e
   |cons x l kW=>
    intro m us h h' r r'
    rw [AtL]at r
    obtain ⟨v,rr,rfl,r1,r2⟩:=r
    cases m with
    |nil=>rw [AtL]at r';cases r'
    |cons y m=>
     rw [AtL]at r'
     obtain ⟨v',vf,e,VE,U3⟩:=r'
     cases e
     simp only [List.all_cons,Bool.and_eq_true]at h h'
     rw [ih h.1 h'.1 r1 VE,kW m _ h.2 h'.2 r2 U3]
  intro d d' u h h' r r'
  by_cases f:Ad d=true
  ·by_cases f':Ad d'=true
   ·exact flat f f' r r'
   ·exfalso
    cases d'<;>simp [AF,Ad]at h' f'
    ·rw [AtH]at r';obtain ⟨a,_,e,_⟩:=r';exact P5 f r e
    ·rw [AtH]at r';obtain ⟨a,_,e,_⟩:=r';exact P5 f r e
  ·by_cases f':Ad d'=true
   ·exfalso
    cases d<;>simp [AF,Ad]at h f
    ·rw [AtH]at r;obtain ⟨a,_,e,_⟩:=r;exact P5 f' r' e
    ·rw [AtH]at r;obtain ⟨a,_,e,_⟩:=r;exact P5 f' r' e
   ·cases d<;>simp [AF,Ad]at h f<;>cases d'<;>simp [AF,Ad]at h' f'<;>simp only [AtH]at r r'<;>obtain ⟨a,xs,e1,t1,l1⟩:=r<;>obtain ⟨b,ys,e2,t2,l2⟩:=r'<;>subst e1<;>cases e2
    ·have:=Rq t1 t2
     subst this
     rw [hl _ _ _ (List.all_eq_true.mpr h) (List.all_eq_true.mpr h') l1 l2]
    ·exact (MJ t1 t2).elim
    ·exact (MJ t2 t1).elim
    ·have:=SY t1 t2
     subst this
     rw [hl _ _ _ (List.all_eq_true.mpr h) (List.all_eq_true.mpr h') l1 l2]
theorem Rep.inj {X:Cx} {pins:List (Addr×Obj)} {σ:St} {H:Hp} {s:Shared} (I:Inv X pins σ H s) (n:Nat) {d d':Dat} {v:V} {u:Value} (h:AF n d=true) (h':AF n d'=true) (r:Rep X.K H d v) (r':Rep X.K H d' v) (q:RelV v u):d=d':=
 AtH.inj n h h' (r.at I h q) (r'.at I h' q)
theorem Es {s:Shared}:∀(n:Nat) {A:Around} {d e:Dat} {u v:Value},AF n d=true->AF n e=true->AtH s.heap d u->AtH s.heap e v->A.units+n<cLine →
  SeqAt.EqAt A s u v (eqD d e)/\SeqAt.RcAt A s u v (eqD d e):=by
 have Wa:∀{A:Around} {d e:Dat} {u v:Value},Ad d=true->Ad e=true->AtH s.heap d u->AtH s.heap e v->SeqAt.EqAt A s u v (eqD d e)/\SeqAt.RcAt A s u v (eqD d e):=by
  intro A d e u v fd fe rd re
  constructor
  ·obtain ⟨x,hx,fx,h1⟩:=AtH.flat rd fd
   obtain ⟨y,hy,fy,_⟩:=AtH.flat re fe
   rw [<-h1 e v y fe re hy]
   exact YB hx hy fx fy
  ·cases d<;>simp only [Ad,Bool.false_eq_true]at fd<;>cases e<;>simp only [Ad,Bool.false_eq_true]at fe<;>simp only [AtH]at rd re<;>simp only [eqD]
   ·subst rd;subst re;exact SeqAt.RcAt.none_none
   ·subst rd;subst re;exact SeqAt.RcAt.none_bool _
   ·subst rd;obtain ⟨_,rfl⟩:=re;exact SeqAt.RcAt.none_int _ _
   ·subst rd;obtain ⟨_,rfl⟩:=re;exact SeqAt.RcAt.none_str _ _
   ·subst rd;subst re;exact SeqAt.RcAt.bool_none _
   ·subst rd;subst re;exact SeqAt.RcAt.bool_bool _ _
   ·subst rd;obtain ⟨_,rfl⟩:=re;exact SeqAt.RcAt.bool_int _ _ _
   ·subst rd;obtain ⟨_,rfl⟩:=re;exact SeqAt.RcAt.bool_str _ _ _
   ·obtain ⟨_,rfl⟩:=rd;subst re;exact SeqAt.RcAt.int_none _ _
   ·obtain ⟨_,rfl⟩:=rd;subst re;exact SeqAt.RcAt.int_bool _ _ _
   ·obtain ⟨_,rfl⟩:=rd;obtain ⟨_,rfl⟩:=re;exact SeqAt.RcAt.int_int _ _ _ _
   ·obtain ⟨_,rfl⟩:=rd;obtain ⟨_,rfl⟩:=re;exact SeqAt.RcAt.int_str _ _ _ _
   ·obtain ⟨_,rfl⟩:=rd;subst re;exact SeqAt.RcAt.str_none _ _
   ·obtain ⟨_,rfl⟩:=rd;subst re;exact SeqAt.RcAt.str_bool _ _ _
   ·obtain ⟨_,rfl⟩:=rd;obtain ⟨_,rfl⟩:=re;exact SeqAt.RcAt.str_int _ _ _ _
   ·obtain ⟨_,rfl⟩:=rd;obtain ⟨_,rfl⟩:=re;exact SeqAt.RcAt.str_str _ _ _ _
 intro n
 induction n with
 |zero=>intro A d e u v hd he rd re _;exact Wa hd he rd re
 |succ n ih=>
  intro A d e u v hd he rd re hu
  have Cu:A.units<cLine:=by lia
  have items:∀(l m:List Dat) (is js:List Value),l.all (AF n)=true->m.all (AF n)=true->AtL s.heap l is->AtL s.heap m js →
    ∀j (h1:j<is.toArray.size) (h2:j<js.toArray.size),SeqAt.EqAt A.in1 s is.toArray[j] js.toArray[j] ((fun j=>match l[j]?,m[j]? with|some x,some y=>eqD x y|_,_=>true) j):=by
   intro l m is js hl hm rl rm j h1 h2
   have Vd:j<is.length:=by simpa using h1
   have Ua:j<js.length:=by simpa using h2
   have l1:j<l.length:=by rw [<-rl.length];exact Vd
   have l2:j<m.length:=by rw [<-rm.length];exact Ua
   obtain ⟨u1,f1,q1⟩:=rl.get (List.getElem?_eq_getElem l1)
   obtain ⟨u2,f2,q2⟩:=rm.get (List.getElem?_eq_getElem l2)
   rw [List.getElem?_eq_getElem Vd]at f1
   rw [List.getElem?_eq_getElem Ua]at f2
   cases f1
   cases f2
   have hx:AF n l[j]=true:=List.all_eq_true.mp hl _ (List.getElem_mem l1)
   have hy:AF n m[j]=true:=List.all_eq_true.mp hm _ (List.getElem_mem l2)
   have:=(ih (A:=A.in1) hx hy q1 q2 (by show A.units+1+n<cLine;lia)).1
   simpa [List.getElem?_eq_getElem l1,List.getElem?_eq_getElem l2]using this
  by_cases fd:Ad d=true
  ·by_cases fe:Ad e=true
   ·exact Wa fd fe rd re
   ·cases e<;>simp [AF,Ad]at he fe
    ·rw [AtH]at re
     obtain ⟨b,js,rfl,tj,rm⟩:=re
     cases d<;>simp only [Ad,Bool.false_eq_true]at fd<;>rw [AtH]at rd
     ·subst rd;exact ⟨.none_tuple tj Cu,.none_tuple tj Cu⟩
     ·subst rd;exact ⟨.bool_tuple _ tj Cu,.bool_tuple _ tj Cu⟩
     ·obtain ⟨t,rfl⟩:=rd;exact ⟨.int_tuple _ _ tj Cu,.int_tuple _ _ tj Cu⟩
     ·obtain ⟨t,rfl⟩:=rd;exact ⟨.str_tuple _ _ tj Cu,.str_tuple _ _ tj Cu⟩
    ·rw [AtH]at re
     obtain ⟨b,js,rfl,tj,rm⟩:=re
     cases d<;>simp only [Ad,Bool.false_eq_true]at fd<;>rw [AtH]at rd
     ·subst rd;exact ⟨.none_list tj Cu,.none_list tj Cu⟩
     ·subst rd;exact ⟨.bool_list _ tj Cu,.bool_list _ tj Cu⟩
     ·obtain ⟨t,rfl⟩:=rd;exact ⟨.int_list _ _ tj Cu,.int_list _ _ tj Cu⟩
     ·obtain ⟨t,rfl⟩:=rd;exact ⟨.str_list _ _ tj Cu,.str_list _ _ tj Cu⟩
  ·cases d with
   |tup l=>
    have aL:=rd
    rw [AtH]at rd
    obtain ⟨a,is,rfl,ti,rl⟩:=rd
    cases e with
    |tup m=>
     have lX:=re
     rw [AtH]at re
     obtain ⟨b,js,rfl,tj,rm⟩:=re
     have rc:SeqAt.RcAt A s (.ref a) (.ref b) (eqD (.tup l) (.tup m)):=by
      have:=SeqAt.RcAt.tuples ti tj Cu (items l m is js (by simpa [AF]using hd) (by simpa [AF]using he) rl rm)
      rw [eqD,D0]
      have e1:is.toArray.size=l.length:=by rw [List.size_toArray,rl.length]
      have e2:js.toArray.size=m.length:=by rw [List.size_toArray,rm.length]
      rw [e1,e2]at this
      exact this
     refine ⟨?_,rc⟩
     by_cases NL:a=b
     ·subst NL
      have:=AtH.inj (n+1) hd he aL lX
      rw [<-this,Ij (n+1) _ hd]
      exact SeqAt.EqAt.same _
     ·exact SeqAt.EqAt.of_refs NL rc
    |lst m=>
     rw [AtH]at re
     obtain ⟨b,js,rfl,tj,rm⟩:=re
     exact ⟨.tuple_list ti tj Cu,.tuple_list ti tj Cu⟩
    |fn a=>simp [AF,Ad]at he
    |scr a=>simp [AF,Ad]at he
    |non=>rw [AtH]at re;subst re;exact ⟨.tuple_none ti Cu,.tuple_none ti Cu⟩
    |bl b=>rw [AtH]at re;subst re;exact ⟨.tuple_bool _ ti Cu,.tuple_bool _ ti Cu⟩
    |int b=>rw [AtH]at re;obtain ⟨t,rfl⟩:=re;exact ⟨.tuple_int _ _ ti Cu,.tuple_int _ _ ti Cu⟩
    |str b=>rw [AtH]at re;obtain ⟨t,rfl⟩:=re;exact ⟨.tuple_str _ _ ti Cu,.tuple_str _ _ ti Cu⟩
   |lst l=>
    have aL:=rd
    rw [AtH]at rd
    obtain ⟨a,is,rfl,ti,rl⟩:=rd
    cases e with
    |tup m=>
     rw [AtH]at re
     obtain ⟨b,js,rfl,tj,rm⟩:=re
     exact ⟨.list_tuple ti tj Cu,.list_tuple ti tj Cu⟩
    |lst m=>
     have lX:=re
     rw [AtH]at re
     obtain ⟨b,js,rfl,tj,rm⟩:=re
     have e1:is.toArray.size=l.length:=by rw [List.size_toArray,rl.length]
     have e2:js.toArray.size=m.length:=by rw [List.size_toArray,rm.length]
     have rc:SeqAt.RcAt A s (.ref a) (.ref b) (eqD (.lst l) (.lst m)):=by
      rw [eqD,D0]
      by_cases hsz:l.length=m.length
      ·have:=SeqAt.RcAt.lists ti tj (by rw [e1,e2,hsz]) Cu (items l m is js (by simpa [AF]using hd) (by simpa [AF]using he) rl rm)
       rw [e1]at this
       rw [hsz,Nat.min_self,beq_self_eq_true,Bool.and_true,<-hsz]
       exact this
      ·have:=SeqAt.RcAt.lists_lengths ti tj (by rw [e1,e2];simpa using hsz) Cu
       rw [show (l.length==m.length)=false by simpa using hsz,Bool.and_false]
       exact this
     refine ⟨?_,rc⟩
     by_cases NL:a=b
     ·subst NL
      have:=AtH.inj (n+1) hd he aL lX
      rw [<-this,Ij (n+1) _ hd]
      exact SeqAt.EqAt.same _
     ·exact SeqAt.EqAt.of_refs NL rc
    |fn a=>simp [AF,Ad]at he
    |scr a=>simp [AF,Ad]at he
    |non=>rw [AtH]at re;subst re;exact ⟨.list_none ti Cu,.list_none ti Cu⟩
    |bl b=>rw [AtH]at re;subst re;exact ⟨.list_bool _ ti Cu,.list_bool _ ti Cu⟩
    |int b=>rw [AtH]at re;obtain ⟨t,rfl⟩:=re;exact ⟨.list_int _ _ ti Cu,.list_int _ _ ti Cu⟩
    |str b=>rw [AtH]at re;obtain ⟨t,rfl⟩:=re;exact ⟨.list_str _ _ ti Cu,.list_str _ _ ti Cu⟩
   |fn a=>simp [AF,Ad]at hd
   |scr a=>simp [AF,Ad]at hd
   |non=>simp [Ad]at fd
   |bl a=>simp [Ad]at fd
   |int a=>simp [Ad]at fd
   |str a=>simp [Ad]at fd
section
variable {X:Cx}
def gT (K:PySem.W.Frag):R2:=fun x y H Q=>∃d e,Rep K H d x/\Rep K H e y/\AF 9 d=true/\AF 9 e=true/\Q (.bl (eqD d e)) H
theorem Yj (hu:X.A.units+9<cLine):OpR X (compareOp .Eq) (gT X.K):=by
 intro pins s σ H x y v u Q I rx ry h
 obtain ⟨d,e,rd,re,pd,pe,q⟩:=h
 exact (Es 9 pd pe (rd.at I pd rx) (re.at I pe ry) hu).2 _ _ _ _ ⟨.bl _,H,I,rfl,q⟩
def B6 (K:PySem.W.Frag) (H:Hp) (l:List Dat) (x:Dat) (u:Value):Bool:=
 open Classical in if h:∃d v,d∈l/\RelV v u/\Rep K H d v then eqD (Classical.choose h) x else false
theorem KO {pins:List (Addr×Obj)} {σ:St} {H:Hp} {s:Shared} (I:Inv X pins σ H s) {l:List Dat} {x d:Dat} {v:V} {u:Value} (hl:l.all (AF 8)=true) (hd:d∈l) (r:RelV v u) (q:Rep X.K H d v) :
  B6 X.K H l x u=eqD d x:=by
 have h:∃d v,d∈l/\RelV v u/\Rep X.K H d v:=⟨d,v,hd,r,q⟩
 unfold B6
 rw [dif_pos h]
 obtain ⟨v',h1,h2,h3⟩:=Classical.choose_spec h
 have e:v'=v:=h2.inj r
 subst e
 have p:=List.all_eq_true.mp hl
 rw [Rep.inj I 8 (p _ h1) (p _ hd) h3 q r]
theorem DC {pins:List (Addr×Obj)} {σ:St} {H:Hp} {s:Shared} (I:Inv X pins σ H s) {x:Dat} {L:List Dat} (hL:L.all (AF 8)=true) :
  ∀{l:List Dat} {vs:List V} {us:List Value},(∀d∈l,d∈L)->RepL X.K H l vs->Vals vs us->us.any (B6 X.K H L x)=l.any fun d=>eqD d x
 |[],_,_,_,rl,rv=>by rw [RepL]at rl;subst rl;cases rv;rfl
 |d::l,_,_,hs,rl,rv=>by
  rw [RepL]at rl
  obtain ⟨v,r,rfl,r1,r2⟩:=rl
  cases rv with
  |cons q1 q2=>
   rw [List.any_cons,List.any_cons,KO I hL (hs d List.mem_cons_self) q1 r1,DC I hL (fun e he=>hs e (List.mem_cons_of_mem _ he)) r2 q2]
theorem DL {pins:List (Addr×Obj)} {σ:St} {H:Hp} {s:Shared} (I:Inv X pins σ H s) {x:Dat} {y:V} {w:Value} {A:Around} (hx:AF 8 x=true) (rx:Rep X.K H x y) (ry:RelV y w) (hu:A.units+8<cLine) {L:List Dat} (hL:L.all (AF 8)=true) :
  ∀{l:List Dat} {vs:List V} {us:List Value},(∀d∈l,d∈L)->RepL X.K H l vs->Vals vs us->∀u∈us,SeqAt.EqAt A s u w (B6 X.K H L x u)
 |[],_,_,_,rl,rv,u,hm=>by rw [RepL]at rl;subst rl;cases rv;cases hm
 |d::l,_,_,hs,rl,rv,u,hm=>by
  rw [RepL]at rl
  obtain ⟨v,r,rfl,r1,r2⟩:=rl
  cases rv with
  |cons q1 q2=>
   rcases List.mem_cons.mp hm with e|hm
   ·subst e
    rw [KO I hL (hs d List.mem_cons_self) q1 r1]
    exact (Es 8 (List.all_eq_true.mp hL d (hs d List.mem_cons_self)) hx (r1.at I (List.all_eq_true.mp hL d (hs d List.mem_cons_self)) q1) (rx.at I hx ry) hu).1
   ·exact DL I hx rx ry hu hL (fun e he=>hs e (List.mem_cons_of_mem _ he)) r2 q2 u hm
def bM (K:PySem.W.Frag) (neg:Bool):R2:=fun x y H Q=>∃p vs d l,y=.ref p/\(H p=some (.lst vs)\/SqT K H p vs)/\RepL K H l vs/\Rep K H d x/\AF 8 d=true/\l.all (AF 8)=true/\Q (.bl (if neg then !(l.any fun e=>eqD e d)else l.any fun e=>eqD e d)) H
theorem UL (hu:X.A.units+9<cLine):OpR X (compareOp .In) (bM X.K false):=by
 intro pins s σ H x y v u Q I rx ry h
 obtain ⟨p,vs,d,l,rfl,hq,rl,rd,pd,pl,q⟩:=h
 cases ry
 have Im:X.A.in1.units+8<cLine:=by show X.A.units+1+8<cLine;lia
 rcases hq with hq|hq
 ·obtain ⟨its,r,Y6,hz⟩:=I.list (SqL.of hq)
  refine SeqAt.in_listAt (B6 X.K H l d) Y6.isList (fun w hw=>DL I pd rd rx Im pl (fun _ h=>h) rl r w (by simpa using hw)) ⟨.bl _,H,I,rfl,?_⟩
  rw [show its.toArray.any (B6 X.K H l d)=its.any (B6 X.K H l d) by simp,DC I pl (fun _ h=>h) rl r]
  exact q
 ·obtain ⟨its,r,Y6,hz⟩:=I.tuple hq
  refine SeqAt.in_tupleAt (B6 X.K H l d) Y6 (fun w hw=>DL I pd rd rx Im pl (fun _ h=>h) rl r w (by simpa using hw)) ⟨.bl _,H,I,rfl,?_⟩
  rw [show its.toArray.any (B6 X.K H l d)=its.any (B6 X.K H l d) by simp,DC I pl (fun _ h=>h) rl r]
  exact q
theorem Ra (hu:X.A.units+9<cLine):OpR X (compareOp .NotIn) (bM X.K true):=by
 intro pins s σ H x y v u Q I rx ry h
 obtain ⟨p,vs,d,l,rfl,hq,rl,rd,pd,pl,q⟩:=h
 cases ry
 have Im:X.A.in1.units+8<cLine:=by show X.A.units+1+8<cLine;lia
 rcases hq with hq|hq
 ·obtain ⟨its,r,Y6,hz⟩:=I.list (SqL.of hq)
  refine SeqAt.notIn_listAt (B6 X.K H l d) Y6.isList (fun w hw=>DL I pd rd rx Im pl (fun _ h=>h) rl r w (by simpa using hw)) ⟨.bl _,H,I,rfl,?_⟩
  rw [show its.toArray.any (B6 X.K H l d)=its.any (B6 X.K H l d) by simp,DC I pl (fun _ h=>h) rl r]
  exact q
 ·obtain ⟨its,r,Y6,hz⟩:=I.tuple hq
  refine SeqAt.notIn_tupleAt (B6 X.K H l d) Y6 (fun w hw=>DL I pd rd rx Im pl (fun _ h=>h) rl r w (by simpa using hw)) ⟨.bl _,H,I,rfl,?_⟩
  rw [show its.toArray.any (B6 X.K H l d)=its.any (B6 X.K H l d) by simp,DC I pl (fun _ h=>h) rl r]
  exact q
end
section
variable {X:Cx}{ρ:Rho}{G:Gs}{e a b c:Expr}{es:List Expr}{d d' d1 d2:Dat}{ds l m:List Dat}{pos:Pos}{i j k:Int}
theorem DI (ha:PX X ρ G a (.int i)) (hb:PX X ρ G b (.int j)):PX X ρ G (.BinOp a .Add b pos) (.int (i+j)):=KH Yr ha hb fun H x y Q o hx hy k=>⟨i,j,hx,hy,k _ _ (Bl o rfl)⟩
theorem Kq (ha:PX X ρ G a (.int i)) (hb:PX X ρ G b (.int j)):PX X ρ G (.BinOp a .Sub b pos) (.int (i-j)):=KH Y2 ha hb fun H x y Q o hx hy k=>⟨i,j,hx,hy,k _ _ (Bl o rfl)⟩
theorem TC (ha:PX X ρ G a (.int i)) (hb:PX X ρ G b (.int j)) (hc:0<j):PX X ρ G (.BinOp a .Mod b pos) (.int (i%j)):=KH Yd ha hb fun H x y Q o hx hy k=>⟨i,j,hx,hy,hc,k _ _ (Bl o rfl)⟩
theorem Ux (ha:PX X ρ G a (.int i)) (hb:PX X ρ G b (.int j)) (hc:aM i j):PX X ρ G (.BinOp a .FloorDiv b pos) (.int (i / j)):=KH VH ha hb fun H x y Q o hx hy k=>⟨i,j,hx,hy,hc,k _ _ (Bl o rfl)⟩
def PXC (X:Cx) (ρ:Rho) (G:Gs) (op:CmpOp) (a b:Expr) (d:Dat):Prop:=
 ∀(pins:List (Addr×Obj)) (s:Shared) (σ:St) (H:Hp),Inv X pins σ H s->Stt X H σ ρ G →
  wpAny (model X.prog X.w) X.A (eval a X.env) (fun v s₁=>wpAny (model X.prog X.w) X.A (eval b X.env) (fun u s₂=>wpAny (model X.prog X.w) X.A (compareOp op v u) (EP X pins σ (Po X H G fun d' G'=>d'=d/\G'=G)) X.xe s₂) X.xe s₁) X.xe s
theorem De {op:CmpOp} {r:R2} (ho:OpR X (compareOp op) r) (ha:PX X ρ G a d1) (hb:PX X ρ G b d2)
  (hr:∀(H:Hp) (x y:V) (Q:VK),GOk X.K H G->Rep X.K (hid H G) d1 x->Rep X.K (hid H G) d2 y->(∀v H',Po X H G (fun d' G'=>d'=d/\G'=G) v H'->Q v H')->r x y H Q):PXC X ρ G op a b d:=by
 intro pins s σ H I S
 refine thn (ha pins s σ H I S) fun v s1 ⟨x,H1,I1,rx,_,_,e1,o1,r1,q1,B1⟩=>?_
 subst q1;subst B1
 refine thn (hb pins s1 σ H1 I1 (S.ext e1 o1)) fun u s2 ⟨y,H2,I2,ry,_,_,e2,o2,r2,q2,EL⟩=>?_
 subst q2;subst EL
 exact ho pins s2 σ H2 x y v u _ I2 rx ry (hr H2 x y _ o2 (r1.same e2.hid) r2 fun v H' z=>Po.trans (e1.trans e2) z)
theorem MS {op:CmpOp} (h:PXC X ρ G op a b d) (hm:behindInMarks op b=false:=by first|exact JZ _ (by decide) (by decide)|rfl):PX X ρ G (.Compare a [op] [b] pos) d:=fun pins s σ H I S=>wpAny_Compare1 (h pins s σ H I S) hm
theorem CF {op:CmpOp} {p:Bool} (h:PXC X ρ G op a b (.bl p)) (hm:behindInMarks op b=false:=by first|exact JZ _ (by decide) (by decide)|rfl):PXT X ρ G (.Compare a [op] [b] pos) p:=by
 intro pins s σ H I S
 refine wpAny_isTrue_Compare1 (thn (h pins s σ H I S) fun v s1 h1=>thn h1 fun u s2 h2=>thn h2 fun c s3 ⟨x,H1,I1,r1,_,_,e1,o1,q1,q2,EL⟩=>?_) hm
 subst q2;subst EL
 cases (show x=V.bl p from q1)
 cases r1
 exact wpAny_truthy_bool ⟨H1,I1,_,e1,o1,rfl,rfl⟩
theorem Yq (ha:PX X ρ G a (.int i)) (hb:PX X ρ G b (.int j)):PXC X ρ G .Lt a b (.bl (decide (i<j))):=De cO ha hb fun H x y Q o hx hy k=>⟨i,j,hx,hy,k _ _ (Bl o rfl)⟩
theorem Th (ha:PX X ρ G a (.int i)) (hb:PX X ρ G b (.int j)):PXC X ρ G .Gt a b (.bl (decide (j<i))):=De Wq ha hb fun H x y Q o hx hy k=>⟨i,j,hx,hy,k _ _ (Bl o rfl)⟩
theorem Cd (ha:PX X ρ G a (.int i)) (hb:PX X ρ G b (.int j)):PXC X ρ G .Eq a b (.bl (i==j)):=
 De Wu ha hb fun H x y Q o hx hy k=>by
  cases (show x=V.int i from hx);cases (show y=V.int j from hy)
  exact ⟨rfl,by rw [PZ];exact k _ _ (Bl o rfl)⟩
theorem Xg (hu:X.A.units+9<cLine) (ha:PX X ρ G a d1) (hb:PX X ρ G b d2) (p1:AF 9 d1=true) (p2:AF 9 d2=true):PXC X ρ G .Eq a b (.bl (eqD d1 d2)):=
 De (Yj hu) ha hb fun H x y Q o hx hy k=>⟨d1,d2,hx.same AK,hy.same AK,p1,p2,k _ _ (Bl o rfl)⟩
theorem in_of {H:Hp} {K:PySem.W.Frag} {y:V} (hy:Rep K (hid H G) (.tup l) y\/Rep K (hid H G) (.lst l) y):∃p vs,y=.ref p/\(H p=some (.lst vs)\/SqT K H p vs)/\RepL K H l vs:=by
 rcases hy with hy|hy
 ·rw [Rep]at hy
  obtain ⟨p,vs,e,h1,h2⟩:=hy
  exact ⟨p,vs,e,.inr (Ar AK h1),h2.same AK⟩
 ·rw [Rep]at hy
  obtain ⟨p,vs,e,h1,h2⟩:=hy
  exact ⟨p,vs,e,.inl (AK _ _ h1),h2.same AK⟩
theorem La (hu:X.A.units+9<cLine) (ha:PX X ρ G a d1) (hb:PX X ρ G b d2) (hl:d2=.tup l\/d2=.lst l) (p1:AF 8 d1=true) (p2:l.all (AF 8)=true):PXC X ρ G .In a b (.bl (l.any fun e=>eqD e d1)):=
 De (UL hu) ha hb fun H x y Q o hx hy k=>by
  obtain ⟨p,vs,e,h1,h2⟩:=in_of (H:=H) (G:=G) (l:=l) (K:=X.K) (y:=y) (by rcases hl with z|z<;>subst z;exact .inl hy;exact .inr hy)
  exact ⟨p,vs,d1,l,e,h1,h2,hx.same AK,p1,p2,k _ _ (Bl o rfl)⟩
theorem RW (hu:X.A.units+9<cLine) (ha:PX X ρ G a d1) (hb:PX X ρ G b d2) (hl:d2=.tup l\/d2=.lst l) (p1:AF 8 d1=true) (p2:l.all (AF 8)=true):PXC X ρ G .NotIn a b (.bl (!(l.any fun e=>eqD e d1))):=
 De (Ra hu) ha hb fun H x y Q o hx hy k=>by
  obtain ⟨p,vs,e,h1,h2⟩:=in_of (H:=H) (G:=G) (l:=l) (K:=X.K) (y:=y) (by rcases hl with z|z<;>subst z;exact .inl hy;exact .inr hy)
  exact ⟨p,vs,d1,l,e,h1,h2,hx.same AK,p1,p2,k _ _ (Bl o rfl)⟩
theorem Fg {op} (h:PX X ρ G a d):PX X ρ G (.BoolOp op [a] pos) d:=fun pins s σ H I S=>BoolOp_one (h pins s σ H I S)
theorem Cs {rest:List Expr} {p q:Bool} (ha:PX X ρ G a (.bl p)) (hb:p=true->PX X ρ G (.BoolOp .And (b::rest) pos) (.bl q)):PX X ρ G (.BoolOp .And (a::b::rest) pos) (.bl (p&&q)):=by
 intro pins s σ H I S
 refine BoolOp_and (thn (ha pins s σ H I S) fun v s1 ⟨x,H1,I1,r1,_,_,e1,o1,rx,q1,B1⟩=>?_)
 subst q1;subst B1
 cases (show x=V.bl p from rx)
 cases r1
 refine wpAny_truthy_bool ?_
 cases p with
 |true=>exact thn (hb rfl pins s1 σ H1 I1 (S.ext e1 o1)) fun _ _ z=>EP.mono z fun _ _ y=>Po.trans e1 y
 |false=>exact ⟨.bl false,H1,I1,rfl,.bl false,_,e1,o1,rfl,rfl,rfl⟩
theorem cJ {rest:List Expr} {p q:Bool} (ha:PX X ρ G a (.bl p)) (hb:p=false->PX X ρ G (.BoolOp .Or (b::rest) pos) (.bl q)):PX X ρ G (.BoolOp .Or (a::b::rest) pos) (.bl (p||q)):=by
 intro pins s σ H I S
 refine BoolOp_or (thn (ha pins s σ H I S) fun v s1 ⟨x,H1,I1,r1,_,_,e1,o1,rx,q1,B1⟩=>?_)
 subst q1;subst B1
 cases (show x=V.bl p from rx)
 cases r1
 refine wpAny_truthy_bool ?_
 cases p with
 |false=>exact thn (hb rfl pins s1 σ H1 I1 (S.ext e1 o1)) fun _ _ z=>EP.mono z fun _ _ y=>Po.trans e1 y
 |true=>exact ⟨.bl true,H1,I1,rfl,.bl true,_,e1,o1,rfl,rfl,rfl⟩
theorem X5 {p:Bool} (ha:PX X ρ G a (.bl p)):PX X ρ G (.UnaryOp .Not a pos) (.bl (!p)):=by
 intro pins s σ H I S
 refine UnaryOp_ (thn (ha pins s σ H I S) fun v s1 ⟨x,H1,I1,r1,_,_,e1,o1,rx,q1,B1⟩=>?_)
 subst q1;subst B1
 cases (show x=V.bl p from rx)
 cases r1
 exact not_of (wpAny_truthy_bool ⟨.bl (!p),H1,I1,rfl,.bl (!p),_,e1,o1,rfl,rfl,rfl⟩)
def PXW (X:Cx) (ρ:Rho) (G:Gs) (e:Expr) (b:Bool):Prop:=
 ∀(whole:Sem Value) (pins:List (Addr×Obj)) (s:Shared) (σ:St) (H:Hp),Inv X pins σ H s->Stt X H σ ρ G->wpAny (model X.prog X.w) X.A (isTrue e X.env whole) (TP X pins σ (PoT X H G fun b' G'=>b'=b/\G'=G)) X.xe s
theorem PXW.t {p:Bool} (h:PXW X ρ G e p):PXT X ρ G e p:=fun pins s σ H I S=>h _ pins s σ H I S
theorem Ig {p:Bool} {Q:Bool->Gs->Prop} (h:PXT X ρ G e p) (q:Q p G):WT X ρ G e Q:=fun pins s σ H I S=>thn (h pins s σ H I S) fun _ _ z=>TP.mono z fun _ _ ⟨_,e,o,q1,q2⟩=>by
 subst q1;subst q2;exact ⟨_,e,o,q⟩
theorem Lv {p:Bool} (h:PXT X ρ G a p):PXW X ρ G (.BoolOp .And [a] pos) p:=by
 intro wh pins s σ H I S
 refine isTrue_and (thn (h pins s σ H I S) fun c s1 e=>?_)
 cases c with
 |true=>exact isTrue_and_nil e
 |false=>exact e
theorem Gq {p:Bool} (h:PXT X ρ G a p):PXW X ρ G (.BoolOp .Or [a] pos) p:=by
 intro wh pins s σ H I S
 refine isTrue_or (thn (h pins s σ H I S) fun c s1 e=>?_)
 cases c with
 |false=>exact isTrue_or_nil e
 |true=>exact e
theorem Qc {rest:List Expr} {p q:Bool} (ha:PXT X ρ G a p) (hb:p=true->PXW X ρ G (.BoolOp .And (b::rest) pos) q):PXW X ρ G (.BoolOp .And (a::b::rest) pos) (p&&q):=by
 intro wh pins s σ H I S
 refine isTrue_and (thn (ha pins s σ H I S) fun c s1 ⟨H1,I1,_,e1,o1,q1,q2⟩=>?_)
 subst q1;subst q2
 cases c with
 |true=>exact thn (hb rfl wh pins s1 σ H1 I1 (S.ext e1 o1)) fun _ _ z=>TP.mono z fun _ _ y=>PoT.trans e1 y
 |false=>exact ⟨H1,I1,_,e1,o1,rfl,rfl⟩
theorem Dh {rest:List Expr} {p q:Bool} (ha:PXT X ρ G a p) (hb:p=false->PXW X ρ G (.BoolOp .Or (b::rest) pos) q):PXW X ρ G (.BoolOp .Or (a::b::rest) pos) (p||q):=by
 intro wh pins s σ H I S
 refine isTrue_or (thn (ha pins s σ H I S) fun c s1 ⟨H1,I1,_,e1,o1,q1,q2⟩=>?_)
 subst q1;subst q2
 cases c with
 |false=>exact thn (hb rfl wh pins s1 σ H1 I1 (S.ext e1 o1)) fun _ _ z=>TP.mono z fun _ _ y=>PoT.trans e1 y
 |true=>exact ⟨H1,I1,_,e1,o1,rfl,rfl⟩
theorem A3 {p:Bool} (ha:PXT X ρ G a p):PXT X ρ G (.UnaryOp .Not a pos) (!p):=by
 intro pins s σ H I S
 refine isTrue_not (Q:=TP X pins σ (PoT X H G fun b' G'=>b'=(!p)/\G'=G)) (thn (ha pins s σ H I S) fun c s1 ⟨H1,I1,_,e1,o1,q1,q2⟩=>?_)
 subst q1;subst q2
 exact ⟨H1,I1,_,e1,o1,rfl,rfl⟩
theorem A6 {p:Bool} (h:PX X ρ G e (.bl p)) (he:∀whole,isTrue e X.env whole=(do let v <-whole;standAt e.pos;holding [v] (truthy v)):=by intro _;rfl):PXT X ρ G e p:=by
 intro pins s σ H I S
 refine isTrue_plain (thn (h pins s σ H I S) fun v s1 ⟨x,H1,I1,r1,_,_,e1,o1,rx,q1,B1⟩=>?_) (he _)
 subst q1;subst B1
 cases (show x=V.bl p from rx)
 cases r1
 exact wpAny_truthy_bool ⟨H1,I1,_,e1,o1,rfl,rfl⟩
theorem AE:PXs X ρ G [] []:=Wx Cr fun σ H S=>⟨[],G,Ext.refl,S.own,RepL.nil,rfl,rfl⟩
theorem AA (ha:PX X ρ G e d) (hr:PXs X ρ G es ds) (hs:starEach (e::es) X.env=(false,eval e X.env)::starEach es X.env:=by rfl):PXs X ρ G (e::es) (d::ds):=
 Wx (BH Ax Lx hs) fun σ H S=>⟨ρ,G,_,ha,S,fun x H1 ⟨_,_,e1,o1,r1,q1,B1⟩=>by
  subst q1;subst B1
  refine ⟨ρ,_,_,hr,S.ext e1 o1,fun xs H2 ⟨_,_,e2,o2,r2,q2,EL⟩=>?_⟩
  subst q2;subst EL
  exact ⟨_,_,e1.trans e2,o2,RepL.cons (r1.same e2.hid) r2,rfl,rfl⟩⟩
theorem GC {H:Hp} {p:Addr} {vs:List V} (o:GOk X.K H G) (hp:H p=none) (r:RepL X.K (hid H G) ds vs):Po X H G (fun d' G'=>d'=.tup ds/\G'=G) (.ref p) (upd H p (.tup vs)):=
 po1 (Ext.alloc hp) (o.alloc hp) (by rw [Rep];exact ⟨p,vs,rfl,SqT.of (G6 (o.free hp) Bm),r.same (Ext.alloc hp).hid⟩)
theorem GU {H:Hp} {p:Addr} {vs:List V} (o:GOk X.K H G) (hp:H p=none) (r:RepL X.K (hid H G) ds vs):Po X H G (fun d' G'=>d'=.lst ds/\G'=G) (.ref p) (upd H p (.lst vs)):=
 po1 (Ext.alloc hp) (o.alloc hp) (by rw [Rep];exact ⟨p,vs,rfl,G6 (o.free hp) Bm,r.same (Ext.alloc hp).hid⟩)
theorem Ab {x1} (h:PXs X ρ G es ds) (hz:ds.length≤1000:=by first|decide|(simp;done)):PX X ρ G (.Tuple es x1 pos) (.tup ds):=
 Bw (Yk Lx) fun σ H S=>⟨ρ,G,_,h,S,fun vs H1 ⟨_,_,e1,o1,r1,q1,B1⟩=>by
  subst q1;subst B1
  exact ⟨by rw [r1.length];exact Nat.le_of_lt (Gy hz),fun p hp=>Po.trans e1 (GC o1 hp r1)⟩⟩
theorem HB (h:PXs X ρ G es ds) (hz:ds.length≤1000:=by first|decide|(simp;done)):PX X ρ G (.List es pos) (.lst ds):=
 Bw (Sl Lx) fun σ H S=>⟨ρ,G,_,h,S,fun vs H1 ⟨_,_,e1,o1,r1,q1,B1⟩=>by
  subst q1;subst B1
  exact ⟨by rw [r1.length];exact Nat.le_of_lt (Gy hz),fun p hp=>Po.trans e1 (GU o1 hp r1)⟩⟩
theorem Y7 (ha:PX X ρ G a (.lst l)) (hb:PX X ρ G b (.lst m)) (hz:l.length+m.length≤sizeLine):PX X ρ G (.BinOp a .Add b pos) (.lst (l++m)):=
 KH YQ ha hb fun H x y Q o hx hy k=>by
  rw [Rep]at hx hy
  obtain ⟨p,vs,e1,h1,r1⟩:=hx
  obtain ⟨q,us,e2,h2,r2⟩:=hy
  exact ⟨p,q,vs,us,e1,e2,AK _ _ h1,AK _ _ h2,by rw [r1.length,r2.length];exact hz,fun t ht=>k _ _ (GU o ht (r1.append r2))⟩
theorem Pk {K:PySem.W.Frag} {H:Hp} {vs:List V} (r:RepL K H l vs) (h:atI l i=some d):∃v,atI vs i=some v/\Rep K H d v:=by
 unfold atI at h ⊢
 rw [r.length]
 cases q:ixN l.length i with
 |none=>rw [q]at h;cases h
 |some j=>rw [q]at h;exact r.get h
theorem BF (ha:PX X ρ G a (.tup l)) (hb:PX X ρ G b (.int i)) (hi:atI l i=some d) (hs:GL b:=by intro _ _;rfl):PX X ρ G (.Subscript a b pos) d:=
 Bw (Sd Yi Ax Ax hs) fun σ H S=>⟨ρ,G,_,ha,S,fun x H1 ⟨_,_,e1,o1,r1,q1,B1⟩=>by
  subst q1;subst B1
  refine ⟨ρ,_,_,hb,S.ext e1 o1,fun y H2 ⟨_,_,e2,o2,r2,q2,EL⟩=>?_⟩
  subst q2;subst EL
  have r1:=r1.same e2.hid
  rw [Rep]at r1
  obtain ⟨p,vs,e3,h3,r3⟩:=r1
  obtain ⟨v,h4,r4⟩:=Pk r3 hi
  exact ⟨p,vs,i,v,e3,r2,Ar AK h3,h4,Po.trans (e1.trans e2) (Bl o2 r4)⟩⟩
theorem K2 (ha:PX X ρ G a (.lst l)) (hb:PX X ρ G b (.int i)) (hi:atI l i=some d) (hs:GL b:=by intro _ _;rfl):PX X ρ G (.Subscript a b pos) d:=
 Bw (Sd QU Ax Ax hs) fun σ H S=>⟨ρ,G,_,ha,S,fun x H1 ⟨_,_,e1,o1,r1,q1,B1⟩=>by
  subst q1;subst B1
  refine ⟨ρ,_,_,hb,S.ext e1 o1,fun y H2 ⟨_,_,e2,o2,r2,q2,EL⟩=>?_⟩
  subst q2;subst EL
  have r1:=r1.same e2.hid
  rw [Rep]at r1
  obtain ⟨p,vs,e3,h3,r3⟩:=r1
  obtain ⟨v,h4,r4⟩:=Pk r3 hi
  exact ⟨p,vs,i,v,e3,r2,SqL.of (AK _ _ h3),h4,Po.trans (e1.trans e2) (Bl o2 r4)⟩⟩
theorem Ym {ns:List Int} {z:Int} (ha:PX X ρ G a (.scr ns)) (hb:PX X ρ G b (.int i)) (hi:atI ns i=some z) (hs:GL b:=by intro _ _;rfl):PX X ρ G (.Subscript a b pos) (.int z):=
 Bw (Sd QU Ax Ax hs) fun σ H S=>⟨ρ,G,_,ha,S,fun x H1 ⟨_,_,e1,o1,r1,q1,B1⟩=>by
  subst q1;subst B1
  refine ⟨ρ,_,_,hb,S.ext e1 o1,fun y H2 ⟨_,_,e2,o2,r2,q2,EL⟩=>?_⟩
  subst q2;subst EL
  have r1:=r1.same e2.hid
  rw [Rep]at r1
  obtain ⟨p,e3,h3⟩:=r1
  refine ⟨p,_,i,V.int z,e3,r2,Same.seq AK h3,?_,Po.trans (e1.trans e2) (Bl o2 rfl)⟩
  unfold atI at hi ⊢
  rw [List.length_map]
  cases q:ixN ns.length i with
  |none=>rw [q]at hi;cases hi
  |some j=>rw [q]at hi;show (ns.map V.int)[j]?=_;rw [List.getElem?_map,show ns[j]?=some z from hi];rfl⟩
theorem Er {f:Str} {id:String} {r:List V->Hp->VK->Prop} {p:Pos} (hc:CP X (.builtin id) r) (hg:Gl X f) (hm:X.mg f=none) (hv:bootBuiltins f=some (.builtin id)) (ha:PX X ρ G a d1)
  (hr:∀(H:Hp) (x:V) (Q:VK),GOk X.K H G->Rep X.K (hid H G) d1 x->(∀v H',Po X H G (fun d' G'=>d'=d/\G'=G) v H'->Q v H')->r [x] H Q)
  (hn:f≠"__name__":=by decide) (DQ:(f==("__debug__":Str))=false:=by decide) (he:starEach [a] X.env=(false,eval a X.env)::starEach [] X.env:=by rfl):PX X ρ G (.Call (.Name f p) [a] [] pos) d:=
 Bw (Dq hc hg hm hv (BH Ax Cr he) hn DQ he rfl) fun σ H S=>⟨ρ,G,_,ha,S,fun x H1 ⟨_,_,e1,o1,r1,q1,B1⟩=>by
  subst q1;subst B1
  exact hr H1 x _ o1 r1 fun v H' z=>Po.trans e1 z⟩
theorem Gw {f:Str} {T:String} {r:List V->Hp->VK->Prop} {p:Pos} (hc:CP X (.type T) r) (hg:Gl X f) (hm:X.mg f=none) (hv:bootBuiltins f=some (.type T)) (ha:PX X ρ G a d1)
  (hr:∀(H:Hp) (x:V) (Q:VK),GOk X.K H G->Rep X.K (hid H G) d1 x->(∀v H',Po X H G (fun d' G'=>d'=d/\G'=G) v H'->Q v H')->r [x] H Q)
  (hn:f≠"__name__":=by decide) (DQ:(f==("__debug__":Str))=false:=by decide) (he:starEach [a] X.env=(false,eval a X.env)::starEach [] X.env:=by rfl):PX X ρ G (.Call (.Name f p) [a] [] pos) d:=
 Bw (Rl hc hg hm hv (BH Ax Cr he) hn DQ he rfl) fun σ H S=>⟨ρ,G,_,ha,S,fun x H1 ⟨_,_,e1,o1,r1,q1,B1⟩=>by
  subst q1;subst B1
  exact hr H1 x _ o1 r1 fun v H' z=>Po.trans e1 z⟩
def O1 (G:Gs):Dat->Option Nat
 |.tup l=>some l.length
 |.lst l=>some l.length
 |.scr ns=>some ns.length
 |.fn p=>match G p with|some (.lst l)=>some l.length|_=>none
 |_=>none
theorem V6 {K:PySem.W.Frag} {H:Hp} {v:V} {n:Nat} (h:O1 G d=some n) (o:GOk K H G) (r:Rep K (hid H G) d v):∃p ys,v=.ref p/\(SqL K H p ys\/SqT K H p ys)/\ys.length=n:=by
 cases d<;>simp only [O1,Option.some.injEq,reduceCtorEq]at h<;>rw [Rep]at r
 ·split at h
  ·rename_i p l hG
   cases h
   obtain ⟨vs,h3,r3⟩:=o _ _ hG
   exact ⟨_,vs,r,.inl (SqL.of h3),r3.length⟩
  ·cases h
 ·obtain ⟨p,e,q⟩:=r
  exact ⟨p,_,e,.inl (Same.seq AK q),by rw [List.length_map];exact h⟩
 ·obtain ⟨p,vs,e,q,r⟩:=r
  exact ⟨p,vs,e,.inr (Ar AK q),by rw [r.length];exact h⟩
 ·obtain ⟨p,vs,e,q,r⟩:=r
  exact ⟨p,vs,e,.inl (SqL.of (AK _ _ q)),by rw [r.length];exact h⟩
theorem EY {n:Nat} {p:Pos} (hg:Gl X "len") (hm:X.mg "len"=none) (ha:PX X ρ G a d1) (h:O1 G d1=some n) (he:starEach [a] X.env=(false,eval a X.env)::starEach [] X.env:=by rfl):PX X ρ G (.Call (.Name "len" p) [a] [] pos) (.int n):=
 Er Ky hg hm PySem.boot_len ha (fun H x Q o r k=>by
  obtain ⟨q,ys,e,hq,hl⟩:=V6 h o r
  exact ⟨q,ys,by rw [e],hq,k _ _ (Bl o (by rw [hl];rfl))⟩) (he:=he)
theorem KS {p:Pos} (hg:Gl X "tuple") (hm:X.mg "tuple"=none) (hv:bootBuiltins "tuple"=some (.type "tuple")) (ha:PX X ρ G a (.lst l)) (he:starEach [a] X.env=(false,eval a X.env)::starEach [] X.env:=by rfl):PX X ρ G (.Call (.Name "tuple" p) [a] [] pos) (.tup l):=
 Gw FL hg hm hv ha (fun H x Q o r k=>by
  rw [Rep]at r
  obtain ⟨q,vs,e,h1,r1⟩:=r
  exact ⟨q,vs,by rw [e],.inl ⟨SqL.of (AK _ _ h1),fun t ht=>k _ _ (GC o ht r1)⟩⟩) (he:=he)
theorem S2 {p:Pos} (hg:Gl X "list") (hm:X.mg "list"=none) (hv:bootBuiltins "list"=some (.type "list")) (ha:PX X ρ G a (.tup l)) (he:starEach [a] X.env=(false,eval a X.env)::starEach [] X.env:=by rfl):PX X ρ G (.Call (.Name "list" p) [a] [] pos) (.lst l):=
 Gw LU hg hm hv ha (fun H x Q o r k=>by
  rw [Rep]at r
  obtain ⟨q,vs,e,h1,r1⟩:=r
  exact ⟨q,vs,by rw [e],.inr (Ar AK h1),fun t ht=>k _ _ (GU o ht r1)⟩) (he:=he)
end
structure DE where
 nx:Rho->Gs->Prop
 rt:Dat->Gs->Prop
 bk:Rho->Gs->Prop:=fun _ _=>False
 ct:Rho->Gs->Prop:=fun _ _=>False
def lft (X:Cx) (H:Hp) (G:Gs) (q:Rho->Gs->Prop):St->Hp->Prop:=fun σ' H'=>∃ρ' G',Ext H G H' G'/\Stt X H' σ' ρ' G'/\q ρ' G'
def Em (X:Cx) (H:Hp) (G:Gs) (D:DE):Ends where
 nx:=lft X H G D.nx
 rt:=Po X H G D.rt
 bk:=lft X H G D.bk
 ct:=lft X H G D.ct
def WS (X:Cx) (ρ:Rho) (G:Gs) (st:Stmt) (D:DE):Prop:=
 ∀(pins:List (Addr×Obj)) (s:Shared) (σ:St) (H:Hp),Inv X pins σ H s->Stt X H σ ρ G->wpAny (model X.prog X.w) X.A (exec st X.env) (SP X pins (Em X H G D)) X.xe s
def WSs (X:Cx) (ρ:Rho) (G:Gs) (st:List Stmt) (D:DE):Prop:=
 ∀(pins:List (Addr×Obj)) (s:Shared) (σ:St) (H:Hp),Inv X pins σ H s->Stt X H σ ρ G->wpAny (model X.prog X.w) X.A (execs st X.env) (SP X pins (Em X H G D)) X.xe s
theorem SP.le {X:Cx} {pins:List (Addr×Obj)} {D D':Ends} {f:Flow} {s:Shared} (h:SP X pins D f s) (h1:∀σ H,D.nx σ H->D'.nx σ H) (h2:∀v H,D.rt v H->D'.rt v H) (h3:∀σ H,D.bk σ H->D'.bk σ H) (h4:∀σ H,D.ct σ H->D'.ct σ H):SP X pins D' f s:=by
 cases f with
 |next=>obtain ⟨σ,H,I,q⟩:=h;exact ⟨σ,H,I,h1 _ _ q⟩
 |brk=>obtain ⟨σ,H,I,q⟩:=h;exact ⟨σ,H,I,h3 _ _ q⟩
 |cont=>obtain ⟨σ,H,I,q⟩:=h;exact ⟨σ,H,I,h4 _ _ q⟩
 |ret u=>obtain ⟨v,σ,H,I,r,q⟩:=h;exact ⟨v,σ,H,I,r,h2 _ _ q⟩
theorem Dr {X:Cx} {H H1:Hp} {G G1:Gs} {q:Rho->Gs->Prop} (e:Ext H G H1 G1) {σ:St} {H':Hp} (h:lft X H1 G1 q σ H'):lft X H G q σ H':=let ⟨ρ',G',e',S,q⟩:=h;⟨ρ',G',e.trans e',S,q⟩
theorem Iq {X:Cx} {H:Hp} {G:Gs} {q q':Rho->Gs->Prop} (k:∀ρ G,q ρ G->q' ρ G) {σ:St} {H':Hp} (h:lft X H G q σ H'):lft X H G q' σ H':=let ⟨ρ',G',e',S,q⟩:=h;⟨ρ',G',e',S,k _ _ q⟩
theorem SP.trans {X:Cx} {pins:List (Addr×Obj)} {D:DE} {f:Flow} {s:Shared} {H H1:Hp} {G G1:Gs} (e:Ext H G H1 G1) (h:SP X pins (Em X H1 G1 D) f s):SP X pins (Em X H G D) f s:=
 SP.le h (fun _ _ q=>Dr e q) (fun _ _ q=>Po.trans e q) (fun _ _ q=>Dr e q) (fun _ _ q=>Dr e q)
section
variable {X:Cx}{ρ:Rho}{G:Gs}{e a b c:Expr}{es:List Expr}{d d' d1 d2:Dat}{ds l m:List Dat}{pos:Pos}{D:DE}{rest body:List Stmt}{st:Stmt}
theorem Ac (h:D.nx ρ G):WSs X ρ G [] D:=fun pins s σ H I S=>wpAny_execs_nil ⟨σ,H,I,ρ,G,Ext.refl,S,h⟩
theorem Bt (h:WS X ρ G st { D with nx:=fun ρ' G'=>WSs X ρ' G' rest D }):WSs X ρ G (st::rest) D:=by
 intro pins s σ H I S
 refine wpAny_execs_cons (thn (h pins s σ H I S) fun f s1 q=>?_)
 cases f with
 |next=>
  obtain ⟨σ',H',I',ρ',G',e',S',q⟩:=q
  exact thn (q pins s1 σ' H' I' S') fun _ _ z=>SP.trans e' z
 |ret v=>exact q
 |brk=>exact q
 |cont=>exact q
theorem NR {t:TS} (h:PS X st t) (hq:∀σ H,Stt X H σ ρ G->t (Em X H G D) σ H):WS X ρ G st D:=fun pins s σ H I S=>h pins s σ H _ I (hq σ H S)
def cC (X:Cx) (st:List Stmt):TS:=fun D' σ H=>∃ρ G D,WSs X ρ G st D/\Stt X H σ ρ G/\(∀σ' H',(Em X H G D).nx σ' H'->D'.nx σ' H')/\(∀v H',(Em X H G D).rt v H'->D'.rt v H')/\(∀σ' H',(Em X H G D).bk σ' H'->D'.bk σ' H')/\(∀σ' H',(Em X H G D).ct σ' H'->D'.ct σ' H')
theorem Xo {st:List Stmt}:PSs X st (cC X st):=fun pins s σ H D' I ⟨ρ,G,D,h,S,h1,h2,h3,h4⟩=>thn (h pins s σ H I S) fun _ _ q=>SP.le q h1 h2 h3 h4
theorem WSs.mono {st:List Stmt} {D':DE} (h:WSs X ρ G st D) (h1:∀ρ G,D.nx ρ G->D'.nx ρ G) (h2:∀d G,D.rt d G->D'.rt d G) (h3:∀ρ G,D.bk ρ G->D'.bk ρ G) (h4:∀ρ G,D.ct ρ G->D'.ct ρ G):WSs X ρ G st D':=fun pins s σ H I S=>
 thn (h pins s σ H I S) fun _ _ q=>SP.le q (fun _ _ z=>Iq h1 z) (fun _ _ z=>Po.mono z h2) (fun _ _ z=>Iq h3 z) (fun _ _ z=>Iq h4 z)
theorem E2 (h:WE X ρ G e D.rt):WSs X ρ G (.Return (some e) pos::rest) D:=Bt fun pins s σ H I S=>
 wpAny_Return_some (thn (h pins s σ H I S) fun v s1 ⟨x,H1,I1,r1,q1⟩=>⟨x,σ,H1,I1,r1,q1⟩)
theorem Aj (h:PX X ρ G e d) (q:D.rt d G):WSs X ρ G (.Return (some e) pos::rest) D:=E2 (h.we q)
theorem Eu (i:Nat) {x:Str} {pos':Pos} (hN:X.N.Nodup) (h:WE X ρ G e fun d G'=>WSs X (ρ.set i (some d)) G' rest D) (hi:X.N[i]?=some x:=by rfl) (hx:Loc X.env.scope x:=by first|exact Or.inl rfl|exact Or.inr rfl)
  (hs:swapsWith e (some (.Name x pos')) pos.line X.env=pure false:=by rfl) (hf:X.fn x=true\/X.env.scope.names.lookup x=some .local:=by first|exact .inl rfl|exact .inr rfl|assumption):WSs X ρ G (.Assign [.Name x pos'] e pos::rest) D:=
 Bt (NR (OQ (i:=i) hN hi hx Ax hs hf) fun σ H S=>⟨ρ,G,_,h,S,fun v H' ⟨d,G',e',o',r',q'⟩=>⟨_,G',e',(S.ext e' o').set r',q'⟩⟩)
theorem CL (i:Nat) {x:Str} {pos':Pos} (hN:X.N.Nodup) (h:PX X ρ G e d) (q:WSs X (ρ.set i (some d)) G rest D) (hi:X.N[i]?=some x:=by rfl) (hx:Loc X.env.scope x:=by first|exact Or.inl rfl|exact Or.inr rfl)
  (hs:swapsWith e (some (.Name x pos')) pos.line X.env=pure false:=by rfl) (hf:X.fn x=true\/X.env.scope.names.lookup x=some .local:=by first|exact .inl rfl|exact .inr rfl|assumption):WSs X ρ G (.Assign [.Name x pos'] e pos::rest) D:=
 Eu i hN (h.we q) hi hx hs hf
def PGD (X:Cx) (tg:Expr) (f:Dat->Rho->Option Rho):Prop:=
 ∀(pins:List (Addr×Obj)) (s:Shared) (σ:St) (H:Hp) (v:V) (u:Value) (ρ ρ':Rho) (G:Gs) (d:Dat),Inv X pins σ H s->RelV v u->Stt X H σ ρ G->Rep X.K (hid H G) d v->f d ρ=some ρ' →
  wpAny (model X.prog X.w) X.A (assign tg X.env u) (fun _ s'=>∃σ' H',Inv X pins σ' H' s'/\Ext H G H' G/\Stt X H' σ' ρ' G) X.xe s
def Fb (i:Nat):Dat->Rho->Option Rho:=fun d ρ=>some (ρ.set i (some d))
def Hg (i j:Nat):Dat->Rho->Option Rho:=fun d ρ=>match d with
 |.tup [a,b]=>some ((ρ.set i (some a)).set j (some b))
 |_=>none
theorem CJ (i:Nat) {x:Str} (hN:X.N.Nodup) (hi:X.N[i]?=some x:=by rfl) (hx:Loc X.env.scope x:=by first|exact Or.inl rfl|exact Or.inr rfl) (hf:X.fn x=true\/X.env.scope.names.lookup x=some .local:=by first|exact .inl rfl|exact .inr rfl|assumption):PGD X (.Name x pos) (Fb i):=by
 intro pins s σ H v u ρ ρ' G d I r S q e
 cases e
 exact Kr hN hi hx hf pins s σ H v u (fun σ' H'=>Ext H G H' G/\Stt X H' σ' _ G) I r ⟨Ext.refl,S.set q⟩
theorem GP (i j:Nat) {x y:Str} {px py:Pos} {k:Nat} (hc:X.calm=true) (hN:X.N.Nodup) (hi:X.N[i]?=some x:=by rfl) (hj:X.N[j]?=some y:=by rfl) (hx:Loc X.env.scope x:=by first|exact Or.inl rfl|exact Or.inr rfl) (hy:Loc X.env.scope y:=by first|exact Or.inl rfl|exact Or.inr rfl)
  (uR:X.fn x=true\/X.env.scope.names.lookup x=some .local:=by first|exact .inl rfl|exact .inr rfl|assumption) (qz:X.fn y=true\/X.env.scope.names.lookup y=some .local:=by first|exact .inl rfl|exact .inr rfl|assumption):PGD X (.Tuple [.Name x px,.Name y py] k pos) (Hg i j):=by
 intro pins s σ H v u ρ ρ' G d I r S q e
 cases d<;>simp only [Hg,reduceCtorEq]at e
 rename_i l
 match l,e,q with
 |[a,b],e,q=>
  simp only [Option.some.injEq]at e
  subst e
  rw [Rep]at q
  obtain ⟨p,vs,rfl,h1,h2⟩:=q
  rw [RepL]at h2
  obtain ⟨v1,r1,rfl,q1,h2⟩:=h2
  rw [RepL]at h2
  obtain ⟨v2,r2,rfl,q2,h2⟩:=h2
  rw [RepL]at h2
  subst h2
  exact X3 (n:=2) hc (M5 (Kr hN hi hx uR) (M5 (Kr hN hj hy qz) V0)) rfl rfl pins s σ H (.ref p) u (fun σ' H'=>Ext H G H' G/\Stt X H' σ' _ G) I r
   ⟨p,[v1,v2],rfl,Ar AK h1,rfl,v1,[v2],rfl,v2,[],rfl,rfl,Ext.refl,(S.set q1).set q2⟩
 |[],e,_=>simp at e
 |[_],e,_=>simp at e
 |_::_::_::_,e,_=>simp at e
theorem WB {x y:List Stmt} (hc:WT X ρ G c fun p G'=>(p=true->WSs X ρ G' x { D with nx:=fun ρ' G'=>WSs X ρ' G' rest D })/\(p=false->WSs X ρ G' y { D with nx:=fun ρ' G'=>WSs X ρ' G' rest D })):WSs X ρ G (.If c x y pos::rest) D:=Bt fun pins s σ H I S=>by
 refine wpAny_If (thn (hc pins s σ H I S) fun p s1 ⟨H1,I1,G1,e1,o1,q1⟩=>?_)
 cases p with
 |true=>exact thn (q1.1 rfl pins s1 σ H1 I1 (S.ext e1 o1)) fun _ _ z=>SP.trans e1 z
 |false=>exact thn (q1.2 rfl pins s1 σ H1 I1 (S.ext e1 o1)) fun _ _ z=>SP.trans e1 z
theorem Cq {x y:List Stmt} {p:Bool} (hc:PXT X ρ G c p) (ht:p=true->WSs X ρ G x { D with nx:=fun ρ' G'=>WSs X ρ' G' rest D }) (hf:p=false->WSs X ρ G y { D with nx:=fun ρ' G'=>WSs X ρ' G' rest D }):WSs X ρ G (.If c x y pos::rest) D:=
 WB (Ig hc ⟨ht,hf⟩)
def Wk (K:PySem.W.Frag) (J:It) (H:Hp) (G:Gs) (l:List Dat):Prop:=
 ∀H' G',Ext H G H' G'->(∀(i:Nat) d,l[i]?=some d->J.go i H'/\∀x Uh,J.yld i H' x Uh->Ext H' G' Uh G'/\(GOk K H' G'->GOk K Uh G')/\(GOk K H' G'->Rep K (hid Uh G') d x))/\J.stop l.length H'
def WI (X:Cx) (ρ:Rho) (G:Gs) (tg iter:Expr) (Q:List Dat->Gs->Prop):Prop:=
 ∀(pins:List (Addr×Obj)) (s:Shared) (σ:St) (H:Hp),Inv X pins σ H s->Stt X H σ ρ G →
  wpAny (model X.prog X.w) X.A (eval iter X.env) (fun v s1=>wpAny (model X.prog X.w) X.A (pyIter v) (PIE X pins σ tg fun J H'=>∃l G',Ext H G H' G'/\GOk X.K H' G'/\Wk X.K J H' G' l/\Q l G') X.xe s1) X.xe s
theorem VZ {K:PySem.W.Frag} {H:Hp} {p:Addr} {vs:List V} (h:hid H G p=some (.lst vs)) (r:RepL K (hid H G) l vs):Wk K (Itl K p) H G l:=by
 intro H' G' e
 have h':=AK _ _ (e.hid _ _ h)
 refine ⟨fun i d hd=>?_,vs,SqL.of h',by rw [r.length];exact Nat.le_refl _⟩
 obtain ⟨v,hv,rv⟩:=r.get hd
 refine ⟨⟨vs,v,SqL.of h',hv⟩,fun x Uh ⟨e1,y⟩=>?_⟩
 subst e1
 have:=y vs (SqL.of h')
 rw [hv]at this
 cases this
 exact ⟨Ext.refl,fun o=>o,fun _=>rv.same e.hid⟩
theorem Yz {K:PySem.W.Frag} {H:Hp} {p:Addr} {vs:List V} (h:SqT K (hid H G) p vs) (r:RepL K (hid H G) l vs):Wk K (Itt K p) H G l:=by
 intro H' G' e
 have h':=Ar AK (Ar e.hid h)
 refine ⟨fun i d hd=>?_,vs,h',by rw [r.length];exact Nat.le_refl _⟩
 obtain ⟨v,hv,rv⟩:=r.get hd
 refine ⟨⟨vs,v,h',hv⟩,fun x Uh ⟨e1,y⟩=>?_⟩
 subst e1
 have:=y vs h'
 rw [hv]at this
 cases this
 exact ⟨Ext.refl,fun o=>o,fun _=>rv.same e.hid⟩
def Bc (lo:Int) (n:Nat):List Dat:=(List.range n).map fun i=>.int (lo+(i:Nat))
theorem Xv {K:PySem.W.Frag} {H:Hp} {lo:Int} {n:Nat}:Wk K (Itr lo n) H G (Bc lo n):=by
 intro H' G' e
 refine ⟨fun i d hd=>?_,by show n≤(Bc lo n).length;simp [Bc]⟩
 have hi:i<n:=by
  have:=(List.getElem?_eq_some_iff.mp hd).1
  simpa [Bc]using this
 refine ⟨hi,fun x Uh ⟨e1,e2⟩=>?_⟩
 subst e1;subst e2
 refine ⟨Ext.refl,fun o=>o,fun _=>?_⟩
 have:(Bc lo n)[i]?=some (.int (lo+i)):=by simp [Bc,hi]
 rw [this]at hd
 cases hd
 rfl
theorem JK {tg iter:Expr} {Q:List Dat->Gs->Prop} (h:WE X ρ G iter fun d G'=>∃l,d=.lst l/\Q l G'):WI X ρ G tg iter Q:=fun pins s σ H I S=>
 Vl Ax pins s σ H _ I ⟨ρ,G,_,h,S,fun x H1 ⟨d,G',e1,o1,r1,l,q1,q⟩=>by
  subst q1
  rw [Rep]at r1
  obtain ⟨p,vs,e2,h2,r2⟩:=r1
  exact ⟨p,e2,⟨vs,SqL.of (AK _ _ h2)⟩,l,G',e1,o1,VZ h2 r2,q⟩⟩
theorem VV {tg iter:Expr} {Q:List Dat->Gs->Prop} (h:WE X ρ G iter fun d G'=>∃l,d=.tup l/\Q l G'):WI X ρ G tg iter Q:=fun pins s σ H I S=>
 Ye Ax pins s σ H _ I ⟨ρ,G,_,h,S,fun x H1 ⟨d,G',e1,o1,r1,l,q1,q⟩=>by
  subst q1
  rw [Rep]at r1
  obtain ⟨p,vs,e2,h2,r2⟩:=r1
  exact ⟨p,e2,⟨vs,Ar AK h2⟩,l,G',e1,o1,Yz h2 r2,q⟩⟩
theorem WO {tg iter:Expr} {Q:List Dat->Gs->Prop} (h:PX X ρ G iter (.lst l)) (q:Q l G):WI X ρ G tg iter Q:=JK (h.we ⟨l,rfl,q⟩)
theorem LH {tg iter:Expr} {Q:List Dat->Gs->Prop} (h:PX X ρ G iter (.tup l)) (q:Q l G):WI X ρ G tg iter Q:=VV (h.we ⟨l,rfl,q⟩)
theorem J0 {tg:Expr} {Q:List Dat->Gs->Prop} {n:Int} {p:Pos} (hg:Gl X "range") (hm:X.mg "range"=none) (ha:PX X ρ G a (.int n)) (h1:-(2 ^ 62)≤n) (h2:n<2 ^ 62) (q:Q (Bc 0 n.toNat) G) (hs:starEach [a] X.env=[(false,eval a X.env)]:=by rfl):WI X ρ G tg (.Call (.Name "range" p) [a] [] pos) Q:=fun pins s σ H I S=>
 Rx hg hm (BH Ax Cr hs) hs pins s σ H _ I ⟨ρ,G,_,ha,S,fun x H1 ⟨_,_,e1,o1,r1,q1,B1⟩=>by
  subst q1;subst B1
  cases (show x=V.int n from r1)
  exact ⟨n,rfl,h1,h2,_,_,e1,o1,Xv,q⟩⟩
theorem Gg {tg iter:Expr} {f:Dat->Rho->Option Rho} (Pv:Nat->Rho->Gs->Prop) (hp:PassesOwn (model X.prog X.w) X.A X.env X.xe) (hc:X.calm=true) (hi:WI X ρ G tg iter fun l' G'=>l'=l/\Pv 0 ρ G') (hg:PGD X tg f)
  (hs:∀(i:Nat) d ρ' G',l[i]?=some d->Pv i ρ' G'->∃ρ'',f d ρ'=some ρ''/\WSs X ρ'' G' body { nx:=Pv (i+1),ct:=Pv (i+1),bk:=fun ρ' G'=>WSs X ρ' G' rest D,rt:=D.rt })
  (hd:∀ρ' G',Pv l.length ρ' G'->WSs X ρ' G' rest D) (Y3:∀x,foldedSetIterable iter X.env x=pure x:=by intro _;rfl):WSs X ρ G (.For tg iter body [] pos::rest) D:=Bt fun pins s σ H I S=>by
 refine wpAny_For (thn (hi pins s σ H I S) fun v s1 h1=>thn h1 fun Zh s2 h2=>?_) Y3
 obtain ⟨it,fp,tn,J,H2,e,I2,T,Ci,f2,l',G2,e2,o2,wk,q,p0⟩:=h2
 subst e;subst q
 have Og:∀{H':Hp},(∀b∈fp,H' b=none)->∀b∈fp,Ho X pins H' b:=fun hn b hb=>⟨hn b hb,(f2 b hb).2⟩
 refine codeAny_forLoop_any (fun n s'=>∃i σ' H' ρ' G',i+n=l'.length/\Inv X pins σ' H' s'/\tn i s'.heap/\(∀b∈fp,H' b=none)/\Ext H2 G2 H' G'/\Stt X H' σ' ρ' G'/\Pv i ρ' G') ?_ l'.length
  ⟨0,σ,H2,ρ,G2,Nat.zero_add _,I2,Ci,fun b hb=>(f2 b hb).1,Ext.refl,S.ext e2 o2,p0⟩
 rintro n s3 ⟨i,σ3,H3,ρ3,G3,hn,I3,FI,mZ,e3,S3,p3⟩
 obtain ⟨X1,fw⟩:=wk H3 G3 e3
 cases n with
 |zero=>
  have VI:i=l'.length:=by lia
  subst VI
  refine wpAny_passesOwn hp (thn (T.done X rfl rfl rfl hc _ pins s3 σ3 H3 X.xe I3 (Og mZ) FI fw) fun r s4 ⟨hr,I4⟩=>?_)
  subst hr
  exact wpAny_execs_nil ⟨σ3,H3,I4,ρ3,G3,e2.trans e3,S3,hd ρ3 G3 p3⟩
 |succ n=>
  have Bs:i<l'.length:=by lia
  obtain ⟨go,X1⟩:=X1 i _ (List.getElem?_eq_getElem Bs)
  obtain ⟨ρ4,vO,w4⟩:=hs i _ ρ3 G3 (List.getElem?_eq_getElem Bs) p3
  refine wpAny_passesOwn hp (thn (T.item X rfl rfl rfl hc i pins s3 σ3 H3 X.xe I3 (Og mZ) FI go) fun r s4 ⟨u,hr,h4⟩=>?_)
  subst hr
  refine wpAny_passesOwn hp (thn h4 fun _ s5 ⟨x,H5,I5,r5,y5,Xd,da⟩=>?_)
  obtain ⟨e5,o5,aU⟩:=X1 x H5 y5
  have eK:=aU S3.own
  have qJ:=I5.pinned (Og da) (T.obj _ _ Xd)
  refine wpAny_passesOwn hp (thn (hg _ s5 σ3 H5 x u ρ3 ρ4 G3 _ qJ r5 (S3.ext e5 (o5 S3.own)) eK vO) fun _ s6 ⟨σ6,H6,I6,e6,S6⟩=>?_)
  refine wpAny_passesOwn hp (thn (w4 _ s6 σ6 H6 I6 S6) fun f s7 q7=>?_)
  have again:∀{σ7:St} {H7:Hp},Inv X (pins++LN fp s5.heap) σ7 H7 s7->lft X H6 G3 (Pv (i+1)) σ7 H7->∃m,m<n+1/\∃i σ' H' ρ' G',i+m=l'.length/\Inv X pins σ' H' s7/\tn i s7.heap/\(∀b∈fp,H' b=none)/\Ext H2 G2 H' G'/\Stt X H' σ' ρ' G'/\Pv i ρ' G':=fun {σ7 H7} I7 ⟨ρ7,G7,e7,S7,p7⟩=>by
   refine ⟨n,Nat.lt_succ_self _,i+1,σ7,H7,ρ7,G7,by lia,I7.unpinned,T.keep _ _ _ Xd fun b hb o e=>(I7.pin (b,o) (List.mem_append_right _ (List.mem_append_right _ (EM hb e)))).1,fun b hb=>?_,(e3.trans (e5.trans (e6.trans e7))),S7,p7⟩
   obtain ⟨o,e,d⟩:=T.obj _ _ Xd b hb
   exact (I7.pin (b,o) (List.mem_append_right _ (List.mem_append_right _ (EM hb e)))).2.1
  have whole:Ext H G H6 G3:=e2.trans (e3.trans (e5.trans e6))
  cases f with
  |next=>obtain ⟨σ7,H7,I7,n7⟩:=q7;exact again I7 n7
  |cont=>obtain ⟨σ7,H7,I7,n7⟩:=q7;exact again I7 n7
  |brk=>obtain ⟨σ7,H7,I7,q7⟩:=q7;exact ⟨σ7,H7,I7.unpinned,Dr whole q7⟩
  |ret v=>obtain ⟨x7,σ7,H7,I7,r7,q7⟩:=q7;exact ⟨x7,σ7,H7,I7.unpinned,r7,Po.trans whole q7⟩
theorem RV (Pv:Nat->Rho->Gs->Prop) (hp:PassesOwn (model X.prog X.w) X.A X.env X.xe) {m0:Nat} (h0:Pv m0 ρ G)
  (hs:∀m ρ' G',Pv m ρ' G'->WT X ρ' G' c fun p Uj=>(p=true->WSs X ρ' Uj body { nx:=fun ρ2 G2=>∃m',m'<m/\Pv m' ρ2 G2,ct:=fun ρ2 G2=>∃m',m'<m/\Pv m' ρ2 G2,bk:=fun ρ' G'=>WSs X ρ' G' rest D,rt:=D.rt })/\(p=false->WSs X ρ' Uj rest D)) :
  WSs X ρ G (.While c body [] pos::rest) D:=Bt fun pins s σ H I S=>by
 refine wpAny_While (codeAny_whileLoop (fun n s'=>∃σ' H' ρ' G',Inv X pins σ' H' s'/\Ext H G H' G'/\Stt X H' σ' ρ' G'/\Pv n ρ' G') ?_ m0 ⟨σ,H,ρ,G,I,Ext.refl,S,h0⟩)
 rintro n s1 ⟨σ1,H1,ρ1,G1,I1,e1,S1,p1⟩
 refine wpAny_passesOwn hp (thn (hs n ρ1 G1 p1 pins s1 σ1 H1 I1 S1) fun p s2 ⟨H2,I2,G2,e2,o2,q2⟩=>?_)
 cases p with
 |true=>
  rw [if_pos rfl]
  refine wpAny_passesOwn hp (thn (q2.1 rfl pins s2 σ1 H2 I2 (S1.ext e2 o2)) fun f s3 q3=>?_)
  cases f with
  |next=>
   obtain ⟨σ3,H3,I3,ρ3,G3,e3,S3,m',hm,p3⟩:=q3
   exact ⟨m',hm,σ3,H3,ρ3,G3,I3,e1.trans (e2.trans e3),S3,p3⟩
  |cont=>
   obtain ⟨σ3,H3,I3,ρ3,G3,e3,S3,m',hm,p3⟩:=q3
   exact ⟨m',hm,σ3,H3,ρ3,G3,I3,e1.trans (e2.trans e3),S3,p3⟩
  |brk=>obtain ⟨σ3,H3,I3,q3⟩:=q3;exact ⟨σ3,H3,I3,Dr (e1.trans e2) q3⟩
  |ret v=>obtain ⟨x3,σ3,H3,I3,r3,q3⟩:=q3;exact ⟨x3,σ3,H3,I3,r3,Po.trans (e1.trans e2) q3⟩
 |false=>
  rw [if_neg Bool.false_ne_true]
  exact wpAny_execs_nil ⟨σ1,H2,I2,ρ1,G2,e1.trans e2,S1.ext e2 o2,q2.2 rfl⟩
theorem Pc {H:Hp} {p:Addr} {vs:List V} (o:GOk X.K H G) (hp:H p=none) (r:RepL X.K (hid H G) ds vs):Ext H G (upd H p (.lst vs)) (put G p (.lst ds))/\GOk X.K (upd H p (.lst vs)) (put G p (.lst ds)):=by
 have hG:=o.free hp
 have E:Ext H G (upd H p (.lst vs)) (put G p (.lst ds)):=⟨fun b u e _=>by rw [AX (AW e hp)];exact e,fun b h=>by
  by_cases hb:b=p
  ·subst hb;exact .inr hp
  ·rw [Az hb]at h;exact .inl h⟩
 refine ⟨E,fun b u q=>?_⟩
 by_cases hb:b=p
 ·subst hb
  rw [AJ]at q
  cases q
  exact ⟨vs,Bm,r.same E.hid⟩
 ·rw [Az hb]at q
  exact (o b u q).ext E.hid (AX hb)
theorem Hx {H:Hp} {p:Addr} {l:List Dat} {vs:List V} (o:GOk X.K H G) (hG:G p=some (.lst l)) (r:RepL X.K (hid H G) ds vs):Ext H G (upd H p (.lst vs)) (put G p (.lst ds))/\GOk X.K (upd H p (.lst vs)) (put G p (.lst ds)):=by
 have E:Ext H G (upd H p (.lst vs)) (put G p (.lst ds)):=⟨fun b u e h=>by
  have:b≠p:=by rintro rfl;rw [hG]at h;cases h
  rw [AX this];exact e,fun b h=>by
  by_cases hb:b=p
  ·subst hb;left;rw [hG];exact nofun
  ·rw [Az hb]at h;exact .inl h⟩
 refine ⟨E,fun b u q=>?_⟩
 by_cases hb:b=p
 ·subst hb
  rw [AJ]at q
  cases q
  exact ⟨vs,Bm,r.same E.hid⟩
 ·rw [Az hb]at q
  exact (o b u q).ext E.hid (AX hb)
theorem LF {H:Hp} {p:Addr} {l:List Dat} (o:GOk X.K H G) (hG:G p=some (.lst l)):Ext H G H (rel G p)/\GOk X.K H (rel G p)/\Rep X.K (hid H (rel G p)) (.lst l) (.ref p):=by
 have E:Ext H G H (rel G p):=⟨fun b u e _=>e,fun b h=>by
  by_cases hb:b=p
  ·subst hb;rw [Co]at h;exact absurd rfl h
  ·rw [Fe hb]at h;exact .inl h⟩
 refine ⟨E,fun b u q=>?_,?_⟩
 ·by_cases hb:b=p
  ·subst hb;rw [Co]at q;cases q
  ·rw [Fe hb]at q
   exact (o b u q).ext E.hid rfl
 ·obtain ⟨vs,h1,r1⟩:=o p _ hG
  rw [Rep]
  exact ⟨p,vs,rfl,G6 Co h1,r1.same E.hid⟩
theorem Ew (i:Nat) {x:Str} {pos':Pos} (hN:X.N.Nodup) (h:PXs X ρ G es ds) (q:∀p,G p=none->WSs X (ρ.set i (some (.fn p))) (put G p (.lst ds)) rest D) (hz:ds.length≤1000:=by first|decide|(simp;done)) (hi:X.N[i]?=some x:=by rfl) (hx:Loc X.env.scope x:=by first|exact Or.inl rfl|exact Or.inr rfl)
  (hs:swapsWith (.List es p2) (some (.Name x pos')) pos.line X.env=pure false:=by rfl) (hf:X.fn x=true\/X.env.scope.names.lookup x=some .local:=by first|exact .inl rfl|exact .inr rfl|assumption):WSs X ρ G (.Assign [.Name x pos'] (.List es p2) pos::rest) D:=
 Bt (NR (OQ (i:=i) hN hi hx (Sl Lx) hs hf) fun σ H S=>⟨ρ,G,_,h,S,fun vs H1 ⟨_,_,e1,o1,r1,q1,B1⟩=>by
  subst q1;subst B1
  refine ⟨by rw [r1.length];exact Nat.le_of_lt (Gy hz),fun p hp=>?_⟩
  obtain ⟨E,O⟩:=Pc o1 hp r1
  exact ⟨_,_,e1.trans E,Stt.set (d:=.fn p) (v:=.ref p) (S.ext (e1.trans E) O) rfl,q p (o1.free hp)⟩⟩)
theorem Cc {p:Addr} {apos Ay:Pos} (hx:PX X ρ G a (.fn p)) (h:PX X ρ G e d) (hG:G p=some (.lst l)) (hz:l.length<sizeLine) (q:WSs X ρ (put G p (.lst (l++[d]))) rest D)
  (Cm:attributeBase a "append" X.env (eval a X.env)=eval a X.env:=by rfl) (Eb:(apos.endLine==Ay.line)=true:=by rfl) (he:starEach [e] X.env=(false,eval e X.env)::starEach [] X.env:=by rfl)
  (Nt:((backTo Ay (starEach [e] X.env)).all (fun x=>!x.1)&&(backToKw Ay (keywordEach [] X.env)).all (fun x=>x.1.isSome)&&decide (([e]:List Expr).length+([]:List Keyword).length+(if ([]:List Keyword).isEmpty then 0 else 1)<30))=true:=by rfl)
  (hs:swapsWith (.Call (.Attribute a "append" apos) [e] [] Ay) none pos.line X.env=pure false:=by rfl):WSs X ρ G (.Expr (.Call (.Attribute a "append" apos) [e] [] Ay) pos::rest) D:=
 Bt (NR (QH (Wm PySem.F.plainAttrs_list PySem.F.slot_list_append PySem.F.type_list_append Kc Ax (BH Ax Cr he) Cm Nt Eb he rfl) hs) fun σ H S=>⟨ρ,G,_,hx,S,fun x H1 ⟨_,_,e1,o1,r1,q1,B1⟩=>by
  subst q1;subst B1
  cases (show x=V.ref p from r1)
  obtain ⟨fS,h1,_⟩:=o1 p _ hG
  refine ⟨.inl ⟨rfl,fS,SqL.of h1⟩,ρ,_,_,h,S.ext e1 o1,fun y H2 ⟨_,_,e2,o2,r2,q2,EL⟩=>?_⟩
  subst q2;subst EL
  obtain ⟨vs,h2,r3⟩:=o2 p _ hG
  refine ⟨p,vs,y,rfl,rfl,h2,by rw [r3.length];exact hz,?_⟩
  obtain ⟨E,O⟩:=Hx o2 hG (r3.append (RepL.cons r2 RepL.nil))
  exact ⟨ρ,_,(e1.trans e2).trans E,S.ext ((e1.trans e2).trans E) O,q⟩⟩)
theorem Md {p:Addr} (h:PX X ρ G e (.fn p)) (hG:G p=some (.lst l)) (q:D.rt (.lst l) (rel G p)):WSs X ρ G (.Return (some e) pos::rest) D:=
 E2 fun pins s σ H I S=>thn (h pins s σ H I S) fun v s1 z=>EP.mono z fun x H1 ⟨_,_,e1,o1,r1,q1,B1⟩=>by
  subst q1;subst B1
  cases (show x=V.ref p from r1)
  obtain ⟨E,O,R⟩:=LF o1 hG
  exact ⟨_,_,e1.trans E,O,R,q⟩
end
theorem Dv {α β:Type} {f:α->β->Sem (ForInStep β)} {g:β->α->β}:∀(l:List α) (c:β),(∀x∈l,∀c,f x c=pure (.yield (g c x)))->forIn l c f=(pure (l.foldl g c):Sem β)
 |[],_,_=>rfl
 |x::l,c,h=>by
  rw [List.forIn_cons,h x List.mem_cons_self,pure_bind]
  exact Dv l _ fun y hy=>h y (List.mem_cons_of_mem _ hy)
def clF (env:Env):List (Str×Addr)->Str×NameKind->List (Str×Addr):=fun cs x=>if (x.2==NameKind.free)=true then (x.1,(env.cells.lookup x.1).getD 0)::cs else cs
def Tf (scope:Scope) (env:Env):List (Str×Addr):=scope.names.foldl (clF env) []
theorem FQ {scope:Scope} {env:Env} (h:∀x∈scope.names,x.2=.free->∃c,env.cells.lookup x.1=some c):closureFor scope env=pure (Tf scope env):=by
 simp only [closureFor]
 rw [Dv (g:=clF env) scope.names [] (fun x hx c=>?_)]
 ·rfl
 ·obtain ⟨n,kind⟩:=x
  by_cases hk:kind=.free
  ·subst hk
   obtain ⟨a,ha⟩:=h _ hx rfl
   simp only [cellOf,clF,ha,beq_self_eq_true,if_true,Option.getD_some,pure_bind]
  ·have:(kind==NameKind.free)=false:=by simpa using hk
   simp only [clF,this,Bool.false_eq_true,if_false]
theorem Pj {env:Env} {x:Str} {c:Addr}:∀(l:List (Str×NameKind)) (cs:List (Str×Addr)),(x,c)∈l.foldl (clF env) cs->(x,c)∈cs\/((x,NameKind.free)∈l/\c=(env.cells.lookup x).getD 0)
 |[],_,h=>.inl h
 |(n,k)::l,cs,h=>by
  rcases Pj l _ h with h|⟨h1,h2⟩
  ·unfold clF at h
   by_cases hk:(k==NameKind.free)=true
   ·rw [if_pos hk]at h
    rcases List.mem_cons.mp h with e|h
    ·cases e
     exact .inr ⟨by rw [eq_of_beq hk];exact List.mem_cons_self,rfl⟩
    ·exact .inl h
   ·rw [if_neg hk]at h
    exact .inl h
  ·exact .inr ⟨List.mem_cons_of_mem _ h1,h2⟩
theorem QZ {env:Env} {x:Str}:∀(l:List (Str×NameKind)) (cs:List (Str×Addr)),((x,NameKind.free)∈l\/∃c,(x,c)∈cs)->∃c,(x,c)∈l.foldl (clF env) cs
 |[],_,h=>by
  rcases h with h|h
  ·cases h
  ·exact h
 |(n,k)::l,cs,h=>by
  refine QZ l _ ?_
  rcases h with h|⟨c,h⟩
  ·rcases List.mem_cons.mp h with e|h
   ·cases e
    right
    refine ⟨(env.cells.lookup x).getD 0,?_⟩
    unfold clF
    rw [if_pos (by rfl)]
    exact List.mem_cons_self
   ·exact .inl h
  ·right
   refine ⟨c,?_⟩
   unfold clF
   split
   ·exact List.mem_cons_of_mem _ h
   ·exact h
theorem JU {α:Type} {x:Str} {c:α}:∀{l:List (Str×α)},l.lookup x=some c->(x,c)∈l
 |[],h=>by simp at h
 |(n,k)::l,h=>by
  by_cases e:x=n
  ·subst e
   simp only [List.lookup_cons,beq_self_eq_true]at h
   cases h
   exact List.mem_cons_self
  ·have:(x==n)=false:=by simpa using e
   simp only [List.lookup_cons,this]at h
   exact List.mem_cons_of_mem _ (JU h)
theorem Ib {α:Type} {x:Str} {c:α}:∀{l:List (Str×α)},(x,c)∈l->∃c',l.lookup x=some c'
 |[],h=>by cases h
 |(n,k)::l,h=>by
  by_cases e:x=n
  ·subst e;exact ⟨k,by simp [List.lookup_cons]⟩
  ·have:(x==n)=false:=by simpa using e
   rcases List.mem_cons.mp h with q|q
   ·cases q;exact absurd rfl e
   ·obtain ⟨c',h'⟩:=Ib q
    exact ⟨c',by simpa [List.lookup_cons,this]using h'⟩
def As (X:Cx) (Nc:List Str) (scope:Scope) (C:Addr) (s:Shared) (H:Hp) (fp:List Addr):Cx where
 prog:=X.prog
 w:=X.w
 K:=X.K
 mg:=X.mg
 base:=X.base
 A:=X.A
 N:=Nc
 s₀:=s
 H₀:=H
 env:=compEnvC scope (Tf scope X.env) C X.env
 outer:=X.stack
 stack:=X.stack
 ex:=fp
 fn:=fun _=>false
 calm:=true
 pn:=[]
 xe:=fun _ _=>False
def Tg (psc:Scope) (PN:List Str) (scope:Scope) (Nc:List Str) (caps:List (Option Nat)):Bool:=
 decide (scope.kind=.function)&&scope.names.all (fun x=>decide (x.2≠.cell))&&scope.names.all (fun x=>decide (x.2=.local->scope.names.lookup x.1=some .local)) &&
 scope.names.all (fun x=>decide (x.2=.free->scope.names.lookup x.1=some .free/\(psc.names.lookup x.1=some .cell\/psc.names.lookup x.1=some .free)))&&decide Nc.Nodup&&decide (caps.length=Nc.length) &&
 (caps.zip Nc).all (fun q=>match q.1 with|none=>true|some j=>decide (PN[j]?=some q.2)&&decide ((q.2,NameKind.free)∈scope.names))
structure CompSc (X:Cx) (scope:Scope) (Nc:List Str) (caps:List (Option Nat)):Prop where
 kind:scope.kind=.function
 nocell:∀x∈scope.names,x.2≠.cell
 names:∀x∈scope.names,x.2=.local->scope.names.lookup x.1=some .local
 free:∀x∈scope.names,x.2=.free->X.env.kindOf x.1=some .cell\/X.env.kindOf x.1=some .free
 sole:∀x∈scope.names,x.2=.free->scope.names.lookup x.1=some .free
 nd:Nc.Nodup
 len:caps.length=Nc.length
 caps:∀(i j:Nat) (x:Str),caps[i]?=some (some j)->Nc[i]?=some x->X.N[j]?=some x/\(x,NameKind.free)∈scope.names
theorem Ei {X:Cx} {psc:Scope} {PN:List Str} {scope:Scope} {Nc:List Str} {caps:List (Option Nat)} (h:Tg psc PN scope Nc caps=true) (h1:X.env.scope=psc) (h2:X.N=PN):CompSc X scope Nc caps:=by
 unfold Tg at h
 simp only [Bool.and_eq_true,decide_eq_true_eq,List.all_eq_true]at h
 obtain ⟨⟨⟨⟨⟨⟨a,b⟩,c⟩,d⟩,e⟩,f⟩,g⟩:=h
 refine ⟨a,b,c,fun x hx hf=>?_,fun x hx hf=>(d x hx hf).1,e,f,fun i j x hi hj=>?_⟩
 ·have:=(d x hx hf).2
  show X.env.scope.names.lookup x.1=_\/X.env.scope.names.lookup x.1=_
  rw [h1];exact this
 ·have hm:(some j,x)∈caps.zip Nc:=List.mem_of_getElem? (i:=i) (by rw [List.getElem?_zip_eq_some];exact ⟨hi,hj⟩)
  have:=g _ hm
  simp only [Bool.and_eq_true,decide_eq_true_eq]at this
  rw [h2]
  exact this
def CI {α:Type} (caps:List (Option Nat)) (l:List (Option α)):List (Option α):=caps.map fun o=>o.bind fun j=>(l[j]?).join
theorem M6 {α:Type} {caps:List (Option Nat)} {l:List (Option α)} {i:Nat} {v:α} (h:(CI caps l)[i]?=some (some v)):∃j,caps[i]?=some (some j)/\l[j]?=some (some v):=by
 unfold CI at h
 rw [List.getElem?_map]at h
 cases q:caps[i]? with
 |none=>rw [q]at h;cases h
 |some o=>
  rw [q]at h
  cases o with
  |none=>simp at h
  |some j=>
   refine ⟨j,rfl,?_⟩
   simp only [Option.map_some,Option.bind_some,Option.some.injEq]at h
   cases z:l[j]? with
   |none=>rw [z]at h;simp at h
   |some u=>rw [z]at h;simp only [Option.join_some]at h;rw [h]
theorem Sv {α:Type} {caps:List (Option Nat)} {l:List (Option α)} {i j:Nat} {v:α} (h:caps[i]?=some (some j)) (h':l[j]?=some (some v)):(CI caps l)[i]?=some (some v):=by
 unfold CI
 rw [List.getElem?_map,h]
 simp [h']
section
variable {X:Cx}{pins:List (Addr×Obj)}{σ:St}{H:Hp}{s:Shared}{scope:Scope}{Nc:List Str}{caps:List (Option Nat)}{fp:List Addr}{ρ:Rho}{G:Gs}
theorem C3 (I:Inv X pins σ H s) (Sc:CompSc X scope Nc caps) {x:Str} {c:Addr} (h:(Tf scope X.env).lookup x=some c):X.env.cells.lookup x=some c/\(x,NameKind.free)∈scope.names:=by
 rcases Pj _ _ (JU h)with h|⟨h1,h2⟩
 ·cases h
 ·obtain ⟨c',hc⟩:=I.ok.has x (Sc.free _ h1 rfl)
  rw [hc]at h2
  exact ⟨by rw [hc,h2];rfl,h1⟩
theorem PK (I:Inv X pins σ H s) (Sc:CompSc X scope Nc caps) {x:Str} (h:(x,NameKind.free)∈scope.names):∃c,(Tf scope X.env).lookup x=some c/\X.env.cells.lookup x=some c:=by
 obtain ⟨c,hm⟩:=QZ (env:=X.env) scope.names [] (.inl h)
 obtain ⟨c',hc⟩:=Ib hm
 exact ⟨c',hc,(C3 I Sc hc).1⟩
theorem GQ {env:Env} {x:Str}:∀{names:List (Str×NameKind)} {k:NameKind},(names.map fun (n,k)=>if (k==NameKind.free&&env.scope.kind==.function&&env.kindOf n==some .cell)then (n,NameKind.cell)else (n,k)).lookup x=some k →
  ∃k',(x,k')∈names/\(k=k'\/(k'=.free/\k=.cell))
 |[],_,h=>by simp at h
 |(n,k0)::r,k,h=>by
  rw [List.map_cons]at h
  by_cases e:x=n
  ·subst e
   by_cases hc:(k0==NameKind.free&&env.scope.kind==.function&&env.kindOf x==some .cell)=true
   ·simp only [hc,if_true,List.lookup_cons,beq_self_eq_true]at h
    cases h
    simp only [Bool.and_eq_true]at hc
    exact ⟨k0,List.mem_cons_self,.inr ⟨eq_of_beq hc.1.1,rfl⟩⟩
   ·simp only [hc,Bool.false_eq_true,if_false,List.lookup_cons,beq_self_eq_true]at h
    cases h
    exact ⟨k0,List.mem_cons_self,.inl rfl⟩
  ·have hx:(x==n)=false:=by simpa using e
   have:(List.map (fun (x:Str×NameKind)=>match x with|(n,k)=>if (k==NameKind.free&&env.scope.kind==.function&&env.kindOf n==some .cell)then (n,NameKind.cell)else (n,k)) r).lookup x=some k:=by
    by_cases hc:(k0==NameKind.free&&env.scope.kind==.function&&env.kindOf n==some .cell)=true
    ·simp only [hc,if_true,List.lookup_cons,hx]at h;exact h
    ·simp only [hc,Bool.false_eq_true,if_false,List.lookup_cons,hx]at h;exact h
   obtain ⟨k',h1,h2⟩:=GQ this
   exact ⟨k',List.mem_cons_of_mem _ h1,h2⟩
theorem Gn {env:Env} {x:Str}:∀{names:List (Str×NameKind)},names.lookup x=some .free->(names.map fun (n,k)=>if (k==NameKind.free&&env.scope.kind==.function&&env.kindOf n==some .cell)then (n,NameKind.cell)else (n,k)).lookup x=some .cell ∨
  (names.map fun (n,k)=>if (k==NameKind.free&&env.scope.kind==.function&&env.kindOf n==some .cell)then (n,NameKind.cell)else (n,k)).lookup x=some .free
 |[],h=>by simp at h
 |(n,k0)::r,h=>by
  rw [List.map_cons]
  by_cases e:x=n
  ·subst e
   simp only [List.lookup_cons,beq_self_eq_true]at h
   cases h
   by_cases hc:(NameKind.free==NameKind.free&&env.scope.kind==.function&&env.kindOf x==some .cell)=true
   ·left
    show List.lookup x ((if (NameKind.free==NameKind.free&&env.scope.kind==.function&&env.kindOf x==some .cell)=true then (x,NameKind.cell)else (x,NameKind.free))::_)=_
    rw [if_pos hc,List.lookup_cons,beq_self_eq_true]
   ·right
    show List.lookup x ((if (NameKind.free==NameKind.free&&env.scope.kind==.function&&env.kindOf x==some .cell)=true then (x,NameKind.cell)else (x,NameKind.free))::_)=_
    rw [if_neg hc,List.lookup_cons,beq_self_eq_true]
  ·have hx:(x==n)=false:=by simpa using e
   simp only [List.lookup_cons,hx]at h
   have ih:=Gn (env:=env) h
   by_cases hc:(k0==NameKind.free&&env.scope.kind==.function&&env.kindOf n==some .cell)=true
   ·simp only [hc,if_true,List.lookup_cons,hx];exact ih
   ·simp only [hc,Bool.false_eq_true,if_false,List.lookup_cons,hx];exact ih
theorem Oq (I:Inv X pins σ H s) (Sc:CompSc X scope Nc caps) (Ea:X.calm=true) {h₁:Heap} {tk:Nat} (hf:∀b∈fp,Ho X pins H b) (Bs:∀b∈fp,b<s.heap.objs.size)
  (Ue:∃m,h₁.Ns s.heap.objs.size m) (hk:∀b u,s.heap.get? b=some u->h₁.get? b=some u) :
  Inv (As X Nc scope s.heap.objs.size s H fp) [] (CI caps σ) H { s with heap:=h₁,toks:=tk }:=by
 have ao:∀x,((As X Nc scope s.heap.objs.size s H fp).env.kindOf x=some .cell\/(As X Nc scope s.heap.objs.size s H fp).env.kindOf x=some .free)->(x,NameKind.free)∈scope.names:=fun x hx=>by
  have hh:∃k,(k=NameKind.cell\/k=NameKind.free)/\(As X Nc scope s.heap.objs.size s H fp).env.kindOf x=some k:=by
   rcases hx with h|h
   ·exact ⟨_,.inl rfl,h⟩
   ·exact ⟨_,.inr rfl,h⟩
  obtain ⟨k,hk,h⟩:=hh
  obtain ⟨k',h1,h2⟩:=GQ (env:=X.env) h
  rcases h2 with e|⟨e,_⟩
  ·subst e
   rcases hk with e|e
   ·subst e;exact absurd rfl (Sc.nocell _ h1)
   ·subst e;exact h1
  ·subst e;exact h1
 refine ⟨?_,rfl,I.bare,Un.kept hk,?_,fun x c e=>?_,?_,fun x c e=>?_,fun p hp=>?_,I.hok.kept hk,?_⟩
 ·refine ⟨I.ok.mod,Sc.kind,I.ok.glob,I.ok.blt,Nat.le_refl _,fun x y c h1 h2=>?_,fun x h=>?_,fun x c h=>?_,fun _=>I.ok.hd Ea,I.ok.frames,.inl rfl,fun b hb=>?_,I.bs,Nat.le_trans I.ok.bsz I.sz,fun b o e hb=>?_,fun b hb Lq=>?_,I.stack,I.stkFree⟩
  ·exact I.ok.inj x y c (C3 I Sc h1).1 (C3 I Sc h2).1
  ·obtain ⟨c,h1,_⟩:=PK I Sc (ao x h)
   exact ⟨c,h1⟩
  ·exact absurd h Bool.false_ne_true
  ·exact ⟨Nat.ne_of_lt (Bs b hb),fun x c e=>(hf b hb).2.2.2.2.1 x c (C3 I Sc e).1⟩
  ·rcases (hf b hb).2.2.2.1 with z|z
   ·exact I.ok.noex b o e z
   ·exact absurd (Nat.lt_of_lt_of_le (Heap.lt_size e) (Nat.le_trans I.ok.bsz z)) (Nat.lt_irrefl _)
  ·rcases List.mem_cons.mp (I.stkSub b Lq)with z|z
   ·exact (hf b hb).2.1 z
   ·exact (hf b hb).2.2.1 z
 ·obtain ⟨m,hm⟩:=Ue
  refine ⟨m,hm,fun i x v h1 h2 h3=>?_⟩
  obtain ⟨j,hj,hv⟩:=M6 h2
  obtain ⟨hN,Fq⟩:=Sc.caps i j x hj h1
  obtain ⟨c,qq,RG⟩:=PK I Sc Fq
  have kx:=Sc.free _ Fq rfl
  obtain ⟨m0,_,hl⟩:=I.loc
  obtain ⟨u,ru,lk⟩:=hl j x v hN hv (by rcases kx with z|z;exact .inr (.inl z);exact .inr (.inr z))
  refine ⟨u,ru,?_⟩
  rcases lk with ⟨z,_⟩|⟨_,c',e',cell⟩
  ·rcases kx with y|y<;>(have y':X.env.kindOf x=_:=y;rw [z]at y';cases y')
  ·rw [RG]at e'
   cases e'
   exact .inr ⟨Gn (Sc.sole _ Fq rfl),c,qq,cell.keeps hk⟩
 ·obtain ⟨v,z⟩:=I.cell x c (C3 I Sc e).1
  exact ⟨v,z.keeps hk⟩
 ·exact I.hok.fresh (Nat.le_refl _)
 ·exact I.freeC x c (C3 I Sc e).1
 ·cases hp
 ·unfold CI;rw [List.length_map];exact Sc.len
end
theorem OG {X:Cx} {pins:List (Addr×Obj)} {σ σc:St} {H Hf:Hp} {s sf:Shared} {scope:Scope} {Nc:List Str} {fp:List Addr} {h':Heap} (I:Inv X pins σ H s) (hf:∀b∈fp,Ho X pins H b)
  (Ic:Inv (As X Nc scope s.heap.objs.size s H fp) [] σc Hf sf) (hs:Heap.SameBut s.heap.objs.size sf.heap h'):Inv X pins σ Hf { sf with heap:=h' }:=by
 have Pq:∀b∈fp,(b∈X.ex\/X.s₀.heap.objs.size≤b)/\b≠X.env.locals/\(∀x c,X.env.cells.lookup x=some c->c≠b)/\∀p∈X.pn++pins,p.1≠b:=fun b hb=>
  ⟨(hf b hb).2.2.2.1,(hf b hb).2.1,(hf b hb).2.2.2.2.1,(hf b hb).2.2.2.2.2⟩
 have I1:Inv X pins σ Hf sf:=I.call' Ic.os Ic.base Ic.hok Ic.bare Pq
 have hC:Hf s.heap.objs.size=none:=Ic.free
 refine I1.turned (t':=sf.toks) (it:=s.heap.objs.size) (fun b o hb e=>hs.extBut b o hb e) hC (Nat.ne_of_gt I.lt) (.inr I.sz) (fun x c e z=>?_) fun p hp z=>?_
 ·obtain ⟨v,o,ho,_⟩:=I.cell x c e
  rw [z]at ho
  exact absurd (Heap.lt_size ho) (Nat.lt_irrefl _)
 ·have:=(I.pin p hp).1
  rw [z]at this
  exact absurd (Heap.lt_size this) (Nat.lt_irrefl _)
def QB (elt:Expr) (env:Env) (acc:Value):Sem Unit:=eval elt env >>= fun x=>call (.builtin "list.append") [acc,x] >>= fun _=>pure ()
def Ku (elt target iter:Expr) (ifs:List Expr) (scope:Scope) (pos:Pos) (tail:Env->Value->Sem Unit):Prop:=
 ∀(it acc:Value) (env:Env),compTurn (.ListComp elt [⟨target,iter,ifs,0⟩] scope pos) 0 it acc env=(standAt iter.pos >>= fun _=>pyNext it >>= fun r=>match r with
   |none=>pure (.done .next)
   |some v=>letOwnedTupleGo target it v >>= fun _=>assign target env v >>= fun _=>tail env acc >>= fun _=>
     again (.compLoop (.ListComp elt [⟨target,iter,ifs,0⟩] scope pos) 0 it acc env))
theorem M7 (elt target iter:Expr) (scope:Scope) (pos:Pos):Ku elt target iter [] scope pos (QB elt):=fun it acc env=>by rfl
def Mn (Xc:Cx) (ρ:Rho) (G:Gs) (tl:Sem Unit) (Q:Gs->Prop):Prop:=
 ∀(pins:List (Addr×Obj)) (s:Shared) (σ:St) (H:Hp),Inv Xc pins σ H s->Stt Xc H σ ρ G->wpAny (model Xc.prog Xc.w) Xc.A tl (fun _ s'=>∃H' G',Inv Xc pins σ H' s'/\Ext H G H' G'/\GOk Xc.K H' G'/\Q G') (fun _ _=>False) s
section
variable {X:Cx}{pins:List (Addr×Obj)}{σ:St}{H:Hp}{s:Shared}{scope:Scope}{Nc:List Str}{caps:List (Option Nat)}{ρ:Rho}{G:Gs}{elt target iter c:Expr}{ifs:List Expr}{Ay:Pos}{l:List Dat}{f:Dat->Rho->Option Rho}{tail:Env->Value->Sem Unit}
theorem KC (Pv:Nat->List Dat->Gs->Prop) (ht:Ku elt target iter ifs scope Ay tail) (Sc:CompSc X scope Nc caps) (Ea:X.calm=true)
  (hg:∀C s' H' fp,PGD (As X Nc scope C s' H' fp) target f) (hle:∀d ρ',f d (CI caps ρ)=some ρ'->ρ'.length=(CI caps ρ).length/\∀(j:Nat) e,(CI caps ρ)[j]?=some (some e)->ρ'[j]?=some (some e)) (hz:l.length≤sizeLine)
  (GF:∀C s' H' fp D i d acc G',l[i]?=some d->Pv i acc G'->G' D=none->∃ρ',f d (CI caps ρ)=some ρ' ∧
   Mn (As X Nc scope C s' H' fp) ρ' (put G' D (.lst acc)) (tail (As X Nc scope C s' H' fp).env (.ref D)) fun Uj=>∃Eg G4,Eg.length≤acc.length+1/\G4 D=none/\Uj=put G4 D (.lst Eg)/\Pv (i+1) Eg G4)
  {it:Addr} {fp:List Addr} {tn:Nat->Heap->Prop} {J:It} (I:Inv X pins σ H s) (S:Stt X H σ ρ G) (T:Turn X.prog X.w X.K target J fp it tn) (st:tn 0 s.heap) (hf:∀b∈fp,Ho X pins H b) (wk:Wk X.K J H G l) (p0:Pv 0 [] G)
  {E:Value->Shared->Prop} {RR:Value->Addr->Result->Shared->Prop}
  (rQ:∀D C s3 sf σc Hf Gf acc,(∀b o,s.heap.get? b=some o->s3.heap.get? b=some o)->C=s3.heap.objs.size->(∃H3,Inv X pins σ H3 s3/\(∀b∈fp,Ho X pins H3 b)/\Inv (As X Nc scope C s3 H3 fp) [] σc Hf sf)->Ext H G Hf (put Gf D (.lst acc))->GOk X.K Hf (put Gf D (.lst acc))->Gf D=none->Pv l.length acc Gf->RR (.ref D) C (.ok .next) sf) :
  wpAny (model X.prog X.w) X.A (newList []) (fun acc s₃=>wpAny (model X.prog X.w) X.A (newFunctionEnv scope X.env.globals (Tf scope X.env) [] X.env.qual none .none (some X.env)) (fun aD s₄=>
   codeAny (model X.prog X.w) X.A (.compStart (.ListComp elt [⟨target,iter,ifs,0⟩] scope Ay) 0 (.ref it) acc { aD with scope:=relabel scope X.env }) (RR acc aD.locals) s₄) E s₃) E s:=by
 refine wpAny_newObj_type (wpAny_newFunctionEnv Sc.nocell (by intro y hy;simp at hy) (fun h₁ Ue₁ Jw₁=>?_) Sc.kind)
 dsimp only at Ue₁ Jw₁ ⊢
 have I3:Inv X pins σ (upd H s.heap.objs.size (.lst [])) { s with heap:=s.heap.push { cls:=.type "list",data:=.seq ([]:List Value).toArray },toks:=s.toks }:=I.lnew (ys:=[]) (its:=[]) .nil (Nat.zero_le _)
 have hD:H s.heap.objs.size=none:=I.hok.fresh (Nat.le_refl _)
 obtain ⟨E3,O3⟩:=Pc (X:=X) (ds:=[]) S.own hD RepL.nil
 have oZ:∀b∈fp,b<s.heap.objs.size:=fun b hb=>by obtain ⟨o,e,_⟩:=T.obj 0 _ st b hb;exact Heap.lt_size e
 have ne2:∀b∈fp,b≠s.heap.objs.size:=fun b hb=>Nat.ne_of_lt (oZ b hb)
 have f3:∀b∈fp,Ho X pins (upd H s.heap.objs.size (.lst [])) b:=fun b hb=>⟨by rw [AX (ne2 b hb)];exact (hf b hb).1,(hf b hb).2⟩
 generalize hs3:({ s with heap:=s.heap.push { cls:=.type "list",data:=.seq ([]:List Value).toArray },toks:=s.toks }:Shared)=s3 at I3
 have e3:s3.heap=s.heap.push { cls:=.type "list",data:=.seq ([]:List Value).toArray }:=by rw [<-hs3]
 have k3:∀b o,s.heap.get? b=some o->s3.heap.get? b=some o:=fun b o e=>by rw [e3];exact Heap.get?_push_of_some _ e
 have hC:s3.heap.objs.size=s.heap.objs.size+1:=by rw [e3,Heap.size_push]
 have nq:∀b∈fp,b<s3.heap.objs.size:=fun b hb=>by rw [hC];exact Nat.lt_succ_of_lt (oZ b hb)
 rw [<-e3]at Ue₁ Jw₁
 have hk:∀b u,s3.heap.get? b=some u->h₁.get? b=some u:=fun b u e=>Jw₁.extBut b u (Nat.ne_of_lt (Heap.lt_size e)) (Heap.get?_push_of_some _ e)
 have Ic:=Oq (tk:=s.toks+([]:List (Str×Value)).length) I3 Sc Ea f3 nq ⟨_,Ue₁⟩ hk
 have Bj:tn 0 h₁:=T.keep _ _ _ st fun b hb o e=>hk b o (k3 b o e)
 have uu:Stt (As X Nc scope s3.heap.objs.size s3 (upd H s.heap.objs.size (.lst [])) fp) (upd H s.heap.objs.size (.lst [])) (CI caps σ) (CI caps ρ) (put G s.heap.objs.size (.lst [])):=by
  refine ⟨fun i d h=>?_,by unfold CI;rw [List.length_map,List.length_map],O3⟩
  obtain ⟨j,hj,hd⟩:=M6 h
  obtain ⟨v,hv,rv⟩:=S.env j d hd
  exact ⟨v,Sv hj hv,rv.same E3.hid⟩
 have oO:∀H' G',Ext (upd H s.heap.objs.size (.lst [])) (put G s.heap.objs.size (.lst [])) H' G'->Ext H G H' G':=fun H' G' e=>E3.trans e
 have loop:∀s4:Shared,s4={ s3 with heap:=h₁,toks:=s.toks+([]:List (Str×Value)).length } →
   codeAny (model X.prog X.w) X.A (.compLoop (.ListComp elt [⟨target,iter,ifs,0⟩] scope Ay) 0 (.ref it) (.ref s.heap.objs.size) (As X Nc scope s3.heap.objs.size s3 (upd H s.heap.objs.size (.lst [])) fp).env) (RR (.ref s.heap.objs.size) s3.heap.objs.size) s4:=by
  rintro s4 rfl
  refine codeAny_loop rfl (fun n s'=>∃i acc σ' H' G',i+n=l.length/\acc.length≤i/\Inv (As X Nc scope s3.heap.objs.size s3 (upd H s.heap.objs.size (.lst [])) fp) [] σ' H' s'/\tn i s'.heap/\(∀b∈fp,H' b=none) ∧
    Ext (upd H s.heap.objs.size (.lst [])) (put G s.heap.objs.size (.lst [])) H' (put G' s.heap.objs.size (.lst acc))/\Stt (As X Nc scope s3.heap.objs.size s3 (upd H s.heap.objs.size (.lst [])) fp) H' σ' (CI caps ρ) (put G' s.heap.objs.size (.lst acc))/\G' s.heap.objs.size=none/\Pv i acc G') ?_ l.length
   ⟨0,[],_,_,G,Nat.zero_add _,Nat.le_refl _,Ic,Bj,fun b hb=>(f3 b hb).1,Ext.refl,uu,S.own.free hD,p0⟩
  rintro n s5 ⟨i,acc,σ5,H5,G5,hn,uE,I5,Xd,da,e5,S5,nc,p5⟩
  show wpAny (model X.prog X.w) X.A ((compTurn (.ListComp elt [⟨target,iter,ifs,0⟩] scope Ay) 0 (.ref it) (.ref s.heap.objs.size) (As X Nc scope s3.heap.objs.size s3 (upd H s.heap.objs.size (.lst [])) fp).env).onRaise (fun x=>do noteFrame x (As X Nc scope s3.heap.objs.size s3 (upd H s.heap.objs.size (.lst [])) fp).env;theTreesLotGoes x)) _ _ s5
  refine wpAny_noted ?_
  rw [ht]
  refine wpAny_bind (wpAny_standAt (wpAny_bind ?_))
  have Og:∀{H':Hp},(∀b∈fp,H' b=none)->∀b∈fp,Ho (As X Nc scope s3.heap.objs.size s3 (upd H s.heap.objs.size (.lst [])) fp) [] H' b:=fun hn b hb=>
   ⟨hn b hb,Nat.ne_of_lt (nq b hb),Ic.ok.exfs b hb,.inl hb,(Ic.ok.exf b hb).2,fun p hp=>by cases hp⟩
  obtain ⟨X1,fw⟩:=wk H5 _ (oO _ _ e5)
  cases n with
  |zero=>
   have VI:i=l.length:=by lia
   subst VI
   refine thn (T.done (As X Nc scope s3.heap.objs.size s3 (upd H s.heap.objs.size (.lst [])) fp) rfl rfl rfl rfl _ [] s5 σ5 H5 _ I5 (Og da) Xd fw) fun r s6 ⟨hr,I6⟩=>?_
   subst hr
   exact wpAny_pure (rQ _ _ s3 s6 σ5 H5 G5 acc k3 rfl ⟨_,I3,f3,I6⟩ (oO _ _ e5) S5.own nc p5)
  |succ n=>
   have Bs:i<l.length:=by lia
   obtain ⟨go,X1⟩:=X1 i _ (List.getElem?_eq_getElem Bs)
   obtain ⟨ρ6,oH,w6⟩:=GF s3.heap.objs.size s3 (upd H s.heap.objs.size (.lst [])) fp s.heap.objs.size i _ acc G5 (List.getElem?_eq_getElem Bs) p5 nc
   refine thn (T.item (As X Nc scope s3.heap.objs.size s3 (upd H s.heap.objs.size (.lst [])) fp) rfl rfl rfl rfl i [] s5 σ5 H5 _ I5 (Og da) Xd go) fun r s6 ⟨u,hr,h6⟩=>?_
   subst hr
   refine wpAny_bind (thn h6 fun _ s7 ⟨x,H7,I7,r7,y7,gf,qd⟩=>?_)
   obtain ⟨e7,o7,aH⟩:=X1 x H7 y7
   have jO:=aH S5.own
   have rg:=I7.pinned (Og qd) (T.obj _ _ gf)
   refine wpAny_bind (wpAny_mono (hg _ _ _ _ _ s7 σ5 H7 x u (CI caps ρ) ρ6 _ _ rg r7 (S5.ext e7 (o7 S5.own)) jO oH) (fun _ s8 ⟨σ8,H8,I8,e8,S8⟩=>?_) fun _ _ z=>z.elim)
   refine wpAny_bind (wpAny_mono (w6 _ s8 σ8 H8 I8 S8) (fun _ s9 ⟨H9,G9,I9,e9,o9,Eg,G4,vo,ud,eG,p9⟩=>?_) fun _ _ z=>z.elim)
   subst eG
   refine wpAny_pure ⟨rfl,n,Nat.lt_succ_self _,i+1,Eg,σ8,H9,G4,by lia,by lia,I9.unpinned (pins:=[]),T.keep _ _ _ gf fun b hb o e=>(I9.pin (b,o) (List.mem_append_right _ (List.mem_append_right _ (EM hb e)))).1,fun b hb=>?_,e5.trans (e7.trans (e8.trans e9)),?_,ud,p9⟩
   ·obtain ⟨o,e,d⟩:=T.obj _ _ gf b hb
    exact (I9.pin (b,o) (List.mem_append_right _ (List.mem_append_right _ (EM hb e)))).2.1
   ·obtain ⟨z1,z2⟩:=hle _ _ oH
    have S9:=S8.ext e9 o9
    exact ⟨fun j e h=>S9.env j e (z2 j e h),by rw [<-S9.len,z1],o9⟩
 subst hs3
 exact codeAny_compStart_list (loop _ rfl) (T.self _ 0 _ _ _ Bj (loop _ rfl))
theorem IZ {Xc:Cx} {ρ:Rho} {G:Gs} {D:Addr} {acc:List Dat} {Q:Gs->Prop} (hx:Xc.xe=fun _ _=>False) (hG:G D=some (.lst acc)) (hz:acc.length<sizeLine)
  (h:WE Xc ρ G elt fun v G'=>G' D=some (.lst acc)/\Q (put G' D (.lst (acc++[v])))):Mn Xc ρ G (QB elt Xc.env (.ref D)) Q:=by
 intro pins s σ H I S
 unfold QB
 have h':=h pins s σ H I S
 rw [hx]at h'
 refine wpAny_bind (thn h' fun u s1 ⟨x,H1,I1,r1,d,G1,e1,o1,q1,Fm,z1⟩=>?_)
 obtain ⟨vs,h1,r2⟩:=o1 D _ Fm
 have:=Kc (X:=Xc) pins s1 σ H1 (.ref D) [x] (.ref D) [u] (fun _ H'=>∃G',Ext H G H' G'/\GOk Xc.K H' G'/\Q G') I1 rfl (.cons r1 .nil) ⟨D,vs,x,rfl,rfl,h1,by rw [r2.length];exact hz,by
  obtain ⟨E,O⟩:=Hx o1 Fm (r2.append (RepL.cons q1 RepL.nil))
  exact ⟨_,e1.trans E,O,z1⟩⟩
 rw [hx]at this
 refine wpAny_bind (thn this fun _ s2 ⟨_,H2,I2,_,G2,e2,o2,z2⟩=>wpAny_pure ⟨H2,G2,I2,e2,o2,z2⟩)
theorem Vn (Pv:Nat->List Dat->Gs->Prop) {Q:Dat->Gs->Prop} (ht:Ku elt target iter ifs scope Ay tail) (Sc:CompSc X scope Nc caps) (Ea:X.calm=true) (hi:WI X ρ G target iter fun l' G'=>l'=l/\Pv 0 [] G')
  (hg:∀C s' H' fp,PGD (As X Nc scope C s' H' fp) target f) (hle:∀d ρ',f d (CI caps ρ)=some ρ'->ρ'.length=(CI caps ρ).length/\∀(j:Nat) e,(CI caps ρ)[j]?=some (some e)->ρ'[j]?=some (some e)) (hz:l.length≤sizeLine)
  (GF:∀C s' H' fp D i d acc G',l[i]?=some d->Pv i acc G'->G' D=none->∃ρ',f d (CI caps ρ)=some ρ' ∧
   Mn (As X Nc scope C s' H' fp) ρ' (put G' D (.lst acc)) (tail (As X Nc scope C s' H' fp).env (.ref D)) fun Uj=>∃Eg G4,Eg.length≤acc.length+1/\G4 D=none/\Uj=put G4 D (.lst Eg)/\Pv (i+1) Eg G4)
  (hd:∀acc G',Pv l.length acc G'->Q (.lst acc) G') (Y3:∀x,foldedSetIterable iter X.env x=pure x:=by intro _;rfl):WE X ρ G (.ListComp elt [⟨target,iter,ifs,0⟩] scope Ay) Q:=by
 intro pins s σ H I S
 rw [eval_ListComp]
 refine wpAny_comprehension_free (use:=none) rfl Y3 (FQ fun x hx hf=>I.ok.has x.1 (Sc.free x hx hf)) Sc.kind Sc.names ?_
 refine thn (hi pins s σ H I S) fun v s1 h1=>thn h1 fun Zh s2 h2=>?_
 obtain ⟨it,fp,tn,J,H2,e,I2,T,Ci,f2,l',G2,e2,o2,wk,q,p0⟩:=h2
 subst e;subst q
 refine KC (RR:=fun acc C=>compPost (model X.prog X.w) X.A X.xe none (EP X pins σ (Po X H G Q)) acc C) Pv ht Sc Ea hg hle hz GF I2 (S.ext e2 o2) T Ci f2 wk p0 ?_
 rintro D C s3 sf σc Hf Gf acc k3 rfl ⟨H3,I3,f3,Ic⟩ ef of gH pf
 obtain ⟨m,hm,_⟩:=Ic.loc
 refine ⟨m,hm,fun h' hs=>⟨.ref D,Hf,OG I3 f3 Ic hs,rfl,.lst acc,Gf,?_,?_,?_,hd acc Gf pf⟩⟩
 all_goals
  obtain ⟨E,O,R⟩:=LF (X:=X) of AJ
  rw [Cz gH]at E O R
  first
  |exact e2.trans (ef.trans E)
  |exact O
  |exact R
end
abbrev SpD:=List Dat->Gs->(Dat->Gs->Prop)->Prop
def BO (K:PySem.W.Frag) (S:SpD):Sp:=fun vs H Q _=>∃ds G R,GOk K H G/\RepL K (hid H G) ds vs/\S ds G R/\∀v H' d G',Ext H G H' G'->GOk K H' G'->Rep K (hid H' G') d v->R d G'->Q v H'
def EJ (N:List Str) (ds:List Dat):Rho:=ds.map some++List.replicate (N.length-ds.length) none
theorem E6 {X:Cx} {H:Hp} {N:List Str} {ds:List Dat} {vs:List V} {G:Gs} (o:GOk X.K H G) (r:RepL X.K (hid H G) ds vs):Stt X H (start N vs) (EJ N ds) G:=by
 refine ⟨fun i d h=>?_,by unfold L2.start EJ;rw [List.length_append,List.length_append,List.length_map,List.length_map,r.length,List.length_replicate,List.length_replicate],o⟩
 unfold EJ at h
 by_cases hi:i<ds.length
 ·rw [List.getElem?_append_left (by rw [List.length_map];exact hi),List.getElem?_map]at h
  cases q:ds[i]? with
  |none=>rw [q]at h;cases h
  |some d'=>
   rw [q]at h
   cases h
   obtain ⟨v,hv,rv⟩:=r.get q
   refine ⟨v,?_,rv⟩
   unfold L2.start
   rw [List.getElem?_append_left (by rw [List.length_map,r.length];exact hi),List.getElem?_map,hv]
   rfl
 ·rw [List.getElem?_append_right (by rw [List.length_map];lia),List.length_map]at h
  exfalso
  have:=List.mem_of_getElem? h
  rw [List.mem_replicate]at this
  cases this.2
section
variable {P:Program}{w:World}{K:PySem.W.Frag}{mg:Str->Option Value}{base:Heap}
theorem DN {x qual:Str} {st:Stmt} {f:Addr} {fd:FuncData} {N ps:List Str} {k:Nat} {S:SpD} (F:Fun K x qual st f fd) (Sc:FnScope N ps (AB st)) (hlen:∀ds G R,S ds G R->ds.length=ps.length)
  (hb:∀(A8:Value) (A:Around) (outer:List Env) (s:Shared) (H:Hp) (E:XK) (ds:List Dat) (G:Gs) (R:Dat->Gs->Prop),Room k (A.deeper (envOfC qual (AB st) s.heap.objs.size f A8))->S ds G R →
   WSs (Ct CX0 P w K mg base N qual (AB st) f A8 A outer s H E).nox (EJ N ds) G (AG st) { nx:=fun _ G'=>R .non G',rt:=R }):FnOk P w K mg base CX0 (k+1) f fd ps (BO K S):=by
 refine F.ok Sc (fun vs H Q E h=>?_) (fun A8 A outer s H vs Q E hr h=>?_)
 ·obtain ⟨ds,G,R,_,r,hS,_⟩:=h
  rw [r.length];exact hlen ds G R hS
 ·obtain ⟨ds,G,R,o,r,hS,k⟩:=h
  refine ⟨cC _ (AG st),Xo,EJ N ds,G,_,hb A8 A outer s H E ds G R hr hS,E6 o r,?_,?_,?_,?_⟩
  ·rintro σ' H' ⟨ρ',G',e',S',q⟩
   exact k .non H' .non G' e' S'.own rfl q
  ·rintro v H' ⟨d,G',e',o',r',q⟩
   exact k v H' d G' e' o' r' q
  ·rintro σ' H' ⟨_,_,_,_,q⟩;exact q
  ·rintro σ' H' ⟨_,_,_,_,q⟩;exact q
end
section
variable {X:Cx}{ρ:Rho}{G:Gs}{e:Expr}{es:List Expr}{ds:List Dat}{pos p:Pos}{S:SpD}{k:Nat}{f:Addr}{fd:FuncData}{ps:List Str}{x:Str}{Q:Dat->Gs->Prop}
theorem WW (F:FnOk X.prog X.w X.K X.mg X.base CX0 k f fd ps (BO X.K S)) (hr:Room k X.A) (hm:X.mg x=some (.ref f)) (hk:PySem.W.keepIn X.K (.ref f)=true) (hb:Binds X.K fd ps []) (ha:PXs X ρ G (e::es) ds) (hS:S ds G Q) (hg:Gl X x:=by rfl)
  (DQ:(x==("__debug__":Str))=false:=by decide) (he:starEach (e::es) X.env=(false,eval e X.env)::starEach es X.env:=by rfl) (hpl:(backTo pos (starEach es X.env)).any (·.1)=false:=by rfl):WE X ρ G (.Call (.Name x p) (e::es) [] pos) Q:=
 Bw (Ul F hr hg hm hk hb .nil Wb Lx DQ he hpl) fun σ H St=>⟨ρ,G,_,ha,St,fun vs H1 ⟨_,_,e1,o1,r1,q1,B1⟩=>by
  subst q1;subst B1
  refine ⟨_,_,Q,o1,by rw [List.append_nil];exact r1,hS,fun v H' d G' e' o' r' q'=>⟨d,G',e1.trans e',o',r',q'⟩⟩⟩
end
structure Df (P:Program) (w:World) (K:PySem.W.Frag) (mg:Str->Option Value) (base:Heap) (x:Str) (ps:List Str) (k:Nat) (S:SpD):Prop where
 ex:∃f fd,FnOk P w K mg base CX0 k f fd ps (BO K S)/\mg x=some (.ref f)/\PySem.W.keepIn K (.ref f)=true/\Binds K fd ps []
section
variable {X:Cx}{ρ:Rho}{G:Gs}{e:Expr}{es:List Expr}{ds:List Dat}{pos p:Pos}{S:SpD}{k:Nat}{ps:List Str}{x:Str}{Q:Dat->Gs->Prop}
theorem Aq (F:Df X.prog X.w X.K X.mg X.base x ps k S) (hr:Room k X.A) (ha:PXs X ρ G (e::es) ds) (hS:S ds G Q) (hg:Gl X x:=by rfl)
  (DQ:(x==("__debug__":Str))=false:=by decide) (he:starEach (e::es) X.env=(false,eval e X.env)::starEach es X.env:=by rfl) (hpl:(backTo pos (starEach es X.env)).any (·.1)=false:=by rfl):WE X ρ G (.Call (.Name x p) (e::es) [] pos) Q:=by
 obtain ⟨f,fd,F,hm,hk,hb⟩:=F.ex
 exact WW F hr hm hk hb ha hS hg DQ he hpl
end
mutual
def Dat.same:Dat->Dat->Bool
 |.non,.non=>true
 |.bl a,.bl b=>a==b
 |.int a,.int b=>a==b
 |.str a,.str b=>a==b
 |.fn a,.fn b=>a==b
 |.scr a,.scr b=>a==b
 |.tup l,.tup m=>Dat.sameL l m
 |.lst l,.lst m=>Dat.sameL l m
 |_,_=>false
def Dat.sameL:List Dat->List Dat->Bool
 |[],[]=>true
 |x::xs,y::ys=>Dat.same x y&&Dat.sameL xs ys
 |_,_=>false
end
mutual
theorem Dat.same_eq:∀{a b:Dat},Dat.same a b=true->a=b
 |.non,b,h=>by cases b<;>simp_all [Dat.same]
 |.bl _,b,h=>by cases b<;>simp_all [Dat.same]
 |.int _,b,h=>by cases b<;>simp_all [Dat.same]
 |.str _,b,h=>by cases b<;>simp_all [Dat.same]
 |.fn _,b,h=>by cases b<;>simp_all [Dat.same]
 |.scr _,b,h=>by cases b<;>simp_all [Dat.same]
 |.tup l,b,h=>by
  cases b<;>simp only [Dat.same,Bool.false_eq_true]at h
  rw [Dat.sameL_eq h]
 |.lst l,b,h=>by
  cases b<;>simp only [Dat.same,Bool.false_eq_true]at h
  rw [Dat.sameL_eq h]
theorem Dat.sameL_eq:∀{a b:List Dat},Dat.sameL a b=true->a=b
 |[],b,h=>by cases b<;>simp_all [Dat.sameL]
 |x::xs,b,h=>by
  cases b with
  |nil=>simp [Dat.sameL]at h
  |cons y ys=>
   simp only [Dat.sameL,Bool.and_eq_true]at h
   rw [Dat.same_eq h.1,Dat.sameL_eq h.2]
end
mutual
theorem Dat.same_refl:∀(a:Dat),Dat.same a a=true
 |.non=>by simp [Dat.same]
 |.bl _=>by simp [Dat.same]
 |.int _=>by simp [Dat.same]
 |.str _=>by simp [Dat.same]
 |.fn _=>by simp [Dat.same]
 |.scr _=>by simp [Dat.same]
 |.tup l=>by simp only [Dat.same];exact Dat.sameL_refl l
 |.lst l=>by simp only [Dat.same];exact Dat.sameL_refl l
theorem Dat.sameL_refl:∀(a:List Dat),Dat.sameL a a=true
 |[]=>by simp [Dat.sameL]
 |x::xs=>by simp only [Dat.sameL,Bool.and_eq_true];exact ⟨Dat.same_refl x,Dat.sameL_refl xs⟩
end
instance:DecidableEq Dat:=fun a b=>decidable_of_iff (Dat.same a b=true) ⟨Dat.same_eq,fun h=>h▸Dat.same_refl a⟩
theorem DA:∀{n:Nat} {d:Dat},B9 n d=true->AF n d=true:=by
 intro n
 induction n with
 |zero=>intro d h;cases d<;>simp_all [B9,AF,Ad]
 |succ n ih=>
  intro d h
  cases d<;>simp only [B9,Bool.false_eq_true]at h<;>first|rfl|skip
  simp only [AF,List.all_eq_true]at h ⊢
  exact fun x hx=>ih (h x hx)
theorem V7:∀{n:Nat} {d e:Dat},B9 n d=true->B9 n e=true->eqD d e=decide (d=e):=by
 intro n
 induction n with
 |zero=>
  intro d e h h'
  cases d<;>simp only [B9,Bool.false_eq_true]at h<;>cases e<;>simp only [B9,Bool.false_eq_true]at h'
  rename_i a b
  by_cases z:a=b<;>simp [eqD,z]
 |succ n ih=>
  have hl:∀(l m:List Dat),l.all (B9 n)=true->m.all (B9 n)=true->eqL l m=decide (l=m):=by
   intro l
   induction l with
   |nil=>intro m _ _;cases m<;>simp [eqL]
   |cons x l kW=>
    intro m h h'
    cases m with
    |nil=>simp [eqL]
    |cons y m=>
     simp only [List.all_cons,Bool.and_eq_true]at h h'
     rw [eqL,ih h.1 h'.1,kW m h.2 h'.2]
     by_cases z1:x=y<;>by_cases z2:l=m<;>simp [z1,z2]
  intro d e h h'
  cases d<;>simp only [B9,Bool.false_eq_true]at h<;>cases e<;>simp only [B9,Bool.false_eq_true]at h'
  ·rename_i a b
   by_cases z:a=b<;>simp [eqD,z]
  ·simp [eqD]
  ·simp [eqD]
  ·rename_i l m
   rw [eqD,hl l m h h']
   by_cases z:l=m<;>simp [z]
mutual
def Gh:Dat->Nat
 |.tup l=>EZ l+1
 |_=>1
def EZ:List Dat->Nat
 |[]=>0
 |d::r=>Gh d+EZ r
end
theorem Fw:∀(a b:List Dat),DT (a++b)=DT a++DT b
 |[],_=>by simp [DT]
 |d::a,b=>by simp only [List.cons_append,DT];rw [Fw a b]
theorem Fv:∀(a b:List Dat),EZ (a++b)=EZ a+EZ b
 |[],_=>by simp [EZ]
 |d::a,b=>by simp only [List.cons_append,EZ];rw [Fv a b];lia
section
variable {prog:Program}{w:World}
theorem Uy:∀(n:Nat) {A:Around} {E:Value->Shared->Prop} {s:Shared} {d:Dat} {u:Value} {Q:Int->Shared->Prop},B9 n d=true->AtH s.heap d u->A.units+n<cLine->Q (Hl d) { s with toks:=s.toks+Gh d } →
  wpAny (model prog w) A (pyHash u) Q E s:=by
 have NN:∀{A:Around} {E:Value->Shared->Prop} {s:Shared} {i:Int} {u:Value} {Q:Int->Shared->Prop},AtH s.heap (.int i) u->Q (Hl (.int i)) { s with toks:=s.toks+Gh (.int i) }->wpAny (model prog w) A (pyHash u) Q E s:=by
  intro A E s i u Q r h
  rw [AtH]at r
  obtain ⟨t,rfl⟩:=r
  rw [Hl,Gh]at h
  ·exact wpAny_pyHash_int h
  ·intro l;exact nofun
 intro n
 induction n with
 |zero=>
  intro A E s d u Q hk r hu h
  cases d<;>simp only [B9,Bool.false_eq_true]at hk
  exact NN r h
 |succ n ih=>
  intro A E s d u Q hk r hu h
  cases d<;>simp only [B9,Bool.false_eq_true]at hk
  ·exact NN r h
  rename_i l
  rw [AtH]at r
  obtain ⟨a,its,rfl,ht,hi⟩:=r
  have hT:s.TypeIs (.ref a) "tuple":=let ⟨o,ho,hc,_⟩:=ht;⟨o,ho,hc⟩
  obtain ⟨o,ho,_,m,hd⟩:=ht
  unfold pyHash
  first|unfold pyHashByItsType|skip
  first|refine wpAny_bind (wpAny_cRoomFor_or (.inr (by lia)) ?_)|skip
  refine wpAny_bind (wpAny_specialOf hT F.slot_tuple_hash.lookup ?_)
  show wpAny _ _ (if (some (Value.builtin "tuple.__hash__")==some Value.none)=true then _ else _) Q E s
  rw [if_neg (by rw [beq_builtin_none];exact Bool.false_ne_true)]
  refine wpAny_bind (wpAny_specialOf hT F.slot_tuple_hash.lookup ?_)
  show wpAny _ _ (callSpecialIfBoundUnlessNone? (.ref a) "__hash__" _ >>= _) Q E s
  refine wpAny_bind (wpAny_callSpecialIfBoundUnlessNone?_slot hT F.slot_tuple_hash (wpAny_call_entry F.slot_tuple_hash hT F.entry_tuple_hash ?_ (F.args_tuple_hash_1 _)))
  show wpAny _ _ (Builtin.Tuple.tupleItemsOf (.ref a) >>= _) _ _ s
  refine wpAny_bind (wpAny_tupleItemsOf ho hd ?_)
  refine wpAny_bind ?_
  rw [<-Array.forIn_toList]
  refine wpAny_forIn_list _
   (fun rest (b:Array Int) s'=>∃done left,l=done++left/\AtL s.heap left rest/\b.toList=DT done/\s'={ s with toks:=s.toks+EZ done })
   _ ?_ ?_ _ _ ⟨[],l,rfl,hi,rfl,rfl⟩
  ·rintro x rest b s' ⟨done,left,rfl,hl,hb,rfl⟩
   cases left with
   |nil=>rw [AtL]at hl;cases hl
   |cons k fC=>
    rw [AtL]at hl
    obtain ⟨u,r,e,h1,SK⟩:=hl
    cases e
    have jm:B9 n k=true:=by
     have:=List.all_eq_true.mp hk k (by simp)
     exact this
    refine wpAny_bind (ih jm h1 (by show A.units+1+n<cLine;lia) ?_)
    have fin:∃UN Wg,done++k::fC=UN++Wg/\AtL s.heap Wg rest/\(b.push (Hl k)).toList=DT UN/\({ s with toks:=s.toks+EZ done+Gh k }:Shared)={ s with toks:=s.toks+EZ UN }:=
     ⟨done++[k],fC,by simp,SK,by simp [hb,Fw,DT],by rw [Fv];simp [EZ,Nat.add_assoc]⟩
    first
     |exact wpAny_pure fin
     |exact wpAny_bind (wpAny_pure (wpAny_pure fin))
  ·rintro b s' ⟨done,left,rfl,hl,hb,rfl⟩
   cases left with
   |cons k fC=>rw [AtL]at hl;obtain ⟨_,_,e,_⟩:=hl;cases e
   |nil=>
    rw [List.append_nil,Hl,Gh]at h
    show wpAny _ _ (retInt (Builtin.Tuple.tupleHashOf b.toList)) _ _ _
    rw [hb]
    refine wpAny_ret_mkInt ?_
    show wpAny _ _ (if (decide (-(2:Int) ^ 63≤Builtin.Tuple.tupleHashOf (DT done))&&decide (Builtin.Tuple.tupleHashOf (DT done)<2 ^ 63))=true then _ else _) Q E _
    unfold reduceHash at h
    by_cases hr:(decide (-(2:Int) ^ 63≤Builtin.Tuple.tupleHashOf (DT done))&&decide (Builtin.Tuple.tupleHashOf (DT done)<2 ^ 63))=true
    ·rw [if_pos hr]
     rw [if_pos hr]at h
     exact wpAny_pure (by simpa [Nat.add_assoc]using h)
    ·rw [if_neg hr]
     rw [if_neg hr]at h
     exact wpAny_bind (wpAny_rule (wpAny_pure (by simpa [Nat.add_assoc]using h)))
theorem Sr:∀(n m:Nat) {A:Around} {E:Value->Shared->Prop} {s:Shared} {d:Dat} {u:Value} {Q:Bool->Shared->Prop},n≤m->B9 n d=true->AtH s.heap d u->Q true s->wpAny (model prog w) A (eqIsQuiet m u) Q E s:=by
 have NN:∀{m:Nat} {A:Around} {E:Value->Shared->Prop} {s:Shared} {i:Int} {u:Value} {Q:Bool->Shared->Prop},AtH s.heap (.int i) u->Q true s->wpAny (model prog w) A (eqIsQuiet m u) Q E s:=by
  intro m A E s i u Q r h
  rw [AtH]at r
  obtain ⟨t,rfl⟩:=r
  rw [eqIsQuiet_byValue m rfl]
  exact wpAny_pure h
 intro n
 induction n with
 |zero=>
  intro m A E s d u Q _ hk r h
  cases d<;>simp only [B9,Bool.false_eq_true]at hk
  exact NN r h
 |succ n ih=>
  intro m A E s d u Q hm hk r h
  cases d<;>simp only [B9,Bool.false_eq_true]at hk
  ·exact NN r h
  rename_i l
  obtain ⟨m',rfl⟩:∃m',m=m'+1:=⟨m-1,by lia⟩
  rw [AtH]at r
  obtain ⟨a,its,rfl,ht,hi⟩:=r
  have hT:s.TypeIs (.ref a) "tuple":=let ⟨o,ho,hc,_⟩:=ht;⟨o,ho,hc⟩
  obtain ⟨o,ho,_,q,hd⟩:=ht
  unfold eqIsQuiet
  refine wpAny_bind (wpAny_specialOf hT F.slot_tuple_eq.lookup ?_)
  show wpAny _ _ (isInstance (.ref a) (.type "tuple") >>= _) _ _ s
  refine wpAny_bind (wpAny_isInstance hT isSubtype_tuple_tuple ?_)
  simp only [Bool.not_true,Bool.false_eq_true,if_false]
  refine wpAny_bind (wpAny_seqItems ho hd ?_)
  refine wpAny_bind ?_
  show wpAny _ _ (forIn its.toArray _ _) _ _ s
  rw [<-Array.forIn_toList]
  refine wpAny_forIn_list _ (fun rest r s'=>r.1=none/\s'=s/\∃left,AtL s.heap left rest/\left.all (B9 n)=true) _ ?_ ?_ _ _ ⟨rfl,rfl,l,hi,hk⟩
  ·rintro v rest r s' ⟨hr,rfl,left,hl,Kv⟩
   cases left with
   |nil=>rw [AtL]at hl;cases hl
   |cons k ks=>
    rw [AtL]at hl
    obtain ⟨u,r',e,h1,SK⟩:=hl
    cases e
    simp only [List.all_cons,Bool.and_eq_true]at Kv
    refine wpAny_bind (ih m' (by lia) Kv.1 h1 ?_)
    simp only [Bool.not_true,Bool.false_eq_true,if_false]
    exact wpAny_pure ⟨rfl,rfl,ks,SK,Kv.2⟩
  ·rintro ⟨r1,r2⟩ s' ⟨hr,rfl,_⟩
   simp only at hr
   subst hr
   exact wpAny_pure h
def W8 (h:Heap) (k:Dat) (a:Addr):Prop:=B9 6 k=true/\AtH h k (.ref a)
mutual
theorem AtH.keeps {h h':Heap} {d:Addr} {o:Obj} {es ep} (ho:h.get? d=some o) (hd:o.data=.dict es ep) (hs:Heap.SameBut d h h'):∀{k:Dat} {u:Value},AtH h k u->AtH h' k u
 |.non,_,r=>by rw [AtH]at r ⊢;exact r
 |.bl _,_,r=>by rw [AtH]at r ⊢;exact r
 |.int _,_,r=>by rw [AtH]at r ⊢;exact r
 |.str _,_,r=>by rw [AtH]at r ⊢;exact r
 |.fn _,_,r=>by rw [AtH]at r ⊢;exact r
 |.scr _,_,r=>by rw [AtH]at r;exact r.elim
 |.tup l,_,r=>by
  rw [AtH]at r ⊢
  obtain ⟨a,its,e,⟨o',h1,h2,n,h3⟩,h4⟩:=r
  have D7:a≠d:=by
   rintro rfl
   rw [ho]at h1;cases h1
   rw [hd]at h3;cases h3
  exact ⟨a,its,e,⟨o',(hs.2 a D7).trans h1,h2,n,h3⟩,AtL.keeps ho hd hs h4⟩
 |.lst l,_,r=>by
  rw [AtH]at r ⊢
  obtain ⟨a,its,e,⟨o',h1,h2,n,h3⟩,h4⟩:=r
  have D7:a≠d:=by
   rintro rfl
   rw [ho]at h1;cases h1
   rw [hd]at h3;cases h3
  exact ⟨a,its,e,⟨o',(hs.2 a D7).trans h1,h2,n,h3⟩,AtL.keeps ho hd hs h4⟩
theorem AtL.keeps {h h':Heap} {d:Addr} {o:Obj} {es ep} (ho:h.get? d=some o) (hd:o.data=.dict es ep) (hs:Heap.SameBut d h h'):∀{k:List Dat} {u:List Value},AtL h k u->AtL h' k u
 |[],_,r=>by rw [AtL]at r ⊢;exact r
 |_::_,_,r=>by
  rw [AtL]at r ⊢
  obtain ⟨u,q,e,h1,h2⟩:=r
  exact ⟨u,q,e,AtH.keeps ho hd hs h1,AtL.keeps ho hd hs h2⟩
end
def GI (prog:Program) (w:World):HeapKind prog w Dat where
 is:=W8
 hash:=Hl
 draws:=Gh
 room:=fun A=>A.units+6<cLine
 inj:=fun hx hy=>AtH.inj 6 (DA hx.1) (DA hy.1) hx.2 hy.2
 keeps:=fun x ho hd hs=>⟨x.1,x.2.keeps ho hd hs⟩
 pyHash:=fun hu hk h=>Uy 6 hk.1 hk.2 hu h
 eqBool:=fun hu hx hy h=>(Es 6 (DA hx.1) (DA hy.1) hx.2 hy.2 hu).1 _ _ _ _ (by rw [V7 hx.1 hy.1];exact h)
 quiet:=fun hk h=>Sr 6 8 (by decide) hk.1 hk.2 h
end
def Aw (Ae:List (Dat×Dat)) (k:Dat):Option Dat:=(Ae.find? fun x=>decide (x.1=k)).map (·.2)
def FE (Ae:List (Dat×Dat)) (k v:Dat):List (Dat×Dat):=if (Aw Ae k).isSome then Ae.map (fun x=>if x.1=k then (x.1,v)else x)else Ae++[(k,v)]
theorem TR {Ae:List (Dat×Dat)} {k v:Dat} (h:Aw Ae k=none):FE Ae k v=Ae++[(k,v)]:=by simp [FE,h]
theorem DRep.length {K:PySem.W.Frag} {H:Hp}:∀{Ae:List (Dat×Dat)} {xs:List (Dat×Addr×Value)},DRep K H Ae xs->xs.length=Ae.length
 |[],_,h=>by rw [DRep]at h;subst h;rfl
 |(k,d)::r,_,h=>by
  rw [DRep]at h
  obtain ⟨a,u,LQ,rfl,_,_,_,h6⟩:=h
  rw [List.length_cons,List.length_cons,DRep.length h6]
theorem DRep.keys {K:PySem.W.Frag} {H:Hp}:∀{Ae:List (Dat×Dat)} {xs:List (Dat×Addr×Value)},DRep K H Ae xs->∀x∈xs,B9 6 x.1=true/\Rep K H x.1 (.ref x.2.1)
 |[],_,h,x,hx=>by rw [DRep]at h;subst h;cases hx
 |(k,d)::r,_,h,x,hx=>by
  rw [DRep]at h
  obtain ⟨a,u,LQ,rfl,h2,h3,_,h6⟩:=h
  rcases List.mem_cons.mp hx with e|hx
  ·subst e;exact ⟨h2,h3⟩
  ·exact DRep.keys h6 x hx
theorem DRep.look {K:PySem.W.Frag} {H:Hp} (k:Dat):∀{Ae:List (Dat×Dat)} {xs:List (Dat×Addr×Value)},DRep K H Ae xs->(Aw Ae k).isSome=(atKey xs k).isSome/\∀d,Aw Ae k=some d->∃p v,atKey xs k=some p/\RelV v p.2/\Rep K H d v
 |[],_,h=>by rw [DRep]at h;subst h;exact ⟨rfl,fun d e=>by simp [Aw]at e⟩
 |(k',d')::r,_,h=>by
  rw [DRep]at h
  obtain ⟨a,u,LQ,rfl,_,_,⟨v,h4,h5⟩,h6⟩:=h
  by_cases e:k'=k
  ·subst e
   refine ⟨by simp [Aw,atKey],fun d hd=>⟨(a,u),v,by simp [atKey],h4,?_⟩⟩
   simp [Aw]at hd
   subst hd
   exact h5
  ·have:=DRep.look k h6
   have e1:Aw ((k',d')::r) k=Aw r k:=by simp [Aw,e]
   have e2:atKey ((k',a,u)::LQ) k=atKey LQ k:=by simp [atKey,e]
   rw [e1,e2]
   exact this
theorem DRep.put {K:PySem.W.Frag} {H:Hp} {k d:Dat} {a:Addr} {u:Value} {v:V} (hk:B9 6 k=true) (ra:Rep K H k (.ref a)) (ru:RelV v u) (rd:Rep K H d v) {Ae:List (Dat×Dat)} {xs:List (Dat×Addr×Value)} (h:DRep K H Ae xs) :
  DRep K H (FE Ae k d) (storedH xs k a u):=by
 have look:=(DRep.look k h).1
 have app:∀{Ae:List (Dat×Dat)} {xs:List (Dat×Addr×Value)},DRep K H Ae xs->DRep K H (Ae++[(k,d)]) (xs++[(k,a,u)]):=by
  intro Ae
  induction Ae with
  |nil=>intro xs h;rw [DRep]at h;subst h;exact ⟨a,u,[],rfl,hk,ra,⟨v,ru,rd⟩,rfl⟩
  |cons p r ih=>
   intro xs h
   obtain ⟨k',d'⟩:=p
   rw [DRep]at h
   obtain ⟨a',u',LQ,rfl,h2,h3,h4,h6⟩:=h
   exact ⟨a',u',_,rfl,h2,h3,h4,ih h6⟩
 have map:∀{Ae:List (Dat×Dat)} {xs:List (Dat×Addr×Value)},DRep K H Ae xs->DRep K H (Ae.map fun x=>if x.1=k then (x.1,d)else x) (xs.map (putAt k u)):=by
  intro Ae
  induction Ae with
  |nil=>intro xs h;rw [DRep]at h;subst h;rfl
  |cons p r ih=>
   intro xs h
   obtain ⟨k',d'⟩:=p
   rw [DRep]at h
   obtain ⟨a',u',LQ,rfl,h2,h3,h4,h6⟩:=h
   rw [List.map_cons,List.map_cons]
   by_cases e:k'=k
   ·simp only [e,if_true,putAt]
    subst e
    exact ⟨a',u,_,rfl,h2,h3,⟨v,ru,rd⟩,ih h6⟩
   ·simp only [e,if_false,putAt]
    exact ⟨a',u',_,rfl,h2,h3,h4,ih h6⟩
 unfold FE storedH
 rw [look]
 by_cases e:(atKey xs k).isSome=true
 ·rw [if_pos e,if_pos e];exact map h
 ·rw [if_neg e,if_neg e];exact app h
section
variable {X:Cx}{pins:List (Addr×Obj)}{σ:St}{H:Hp}{s:Shared}{p:Addr}{G:Gs}{Ae:List (Dat×Dat)}{xs:List (Dat×Addr×Value)}
theorem Inv.big (I:Inv X pins σ H s):sysModules<s.heap.objs.size:=by
 have h:mainGlobals<s.heap.objs.size:=(I.mod.glob.keeps I.bk).lt
 exact Nat.lt_trans (by decide) h
theorem Ja (I:Inv X pins σ H s) {k:Dat} {a:Addr} (hk:B9 6 k=true) (r:Rep X.K H k (.ref a)):W8 s.heap k a:=⟨hk,r.at I (DA hk) rfl⟩
theorem ID (I:Inv X pins σ H s) (h:H p=some (HG p xs)) (r:DRep X.K H Ae xs):(p==sysModules)=false/\xs.length≤sizeLine/\s.heap.DictOfH (GI X.prog X.w) p xs:=by
 obtain ⟨⟨h1,h2,h3,o,es,ep,h4,h5,h6,h7⟩,_,_⟩:=(show ObjOk X.prog X.w H s.heap p (.ext (LP p xs))from I.hok p _ h)
 exact ⟨h1,h2,o,es,ep,h4,h5,h6,h7,fun x hx=>Ja I (r.keys x hx).1 (r.keys x hx).2,h3⟩
theorem Ko {P:Program} {w:World} {H:Hp} {h:Heap} (d:LP p xs h):ObjOk P w H h p (HG p xs):=by
 obtain ⟨h1,h2,h3,o,es,ep,h4,h5⟩:=id d
 exact ⟨d,⟨o,h4⟩,fun k1 k2 ⟨g1,g2,g3,o',Hv,Vu,g4,g5⟩ hk=>⟨g1,g2,g3,o',Hv,Vu,hk _ g4,g5⟩⟩
theorem Qd {LQ:List (Dat×Addr×Value)} {CY:List (Dat×Dat)} (o:GOk X.K H G) (hG:G p=some (.dct Ae)) (r:DRep X.K (hid H G) CY LQ):Ext H G (upd H p (HG p LQ)) (put G p (.dct CY))/\GOk X.K (upd H p (HG p LQ)) (put G p (.dct CY)):=by
 have E:Ext H G (upd H p (HG p LQ)) (put G p (.dct CY)):=⟨fun b u e h=>by
  have:b≠p:=by rintro rfl;rw [hG]at h;cases h
  rw [AX this];exact e,fun b h=>by
  by_cases hb:b=p
  ·subst hb;left;rw [hG];exact nofun
  ·rw [Az hb]at h;exact .inl h⟩
 refine ⟨E,fun b u q=>?_⟩
 by_cases hb:b=p
 ·subst hb
  rw [AJ]at q
  cases q
  exact ⟨LQ,Bm,r.same E.hid⟩
 ·rw [Az hb]at q
  exact (o b u q).ext E.hid (AX hb)
theorem Mb (o:GOk X.K H G) (hp:H p=none):Ext H G (upd H p (HG p [])) (put G p (.dct []))/\GOk X.K (upd H p (HG p [])) (put G p (.dct [])):=by
 have E:Ext H G (upd H p (HG p [])) (put G p (.dct [])):=⟨fun b u e _=>by rw [AX (AW e hp)];exact e,fun b h=>by
  by_cases hb:b=p
  ·subst hb;exact .inr hp
  ·rw [Az hb]at h;exact .inl h⟩
 refine ⟨E,fun b u q=>?_⟩
 by_cases hb:b=p
 ·subst hb
  rw [AJ]at q
  cases q
  exact ⟨[],Bm,rfl⟩
 ·rw [Az hb]at q
  exact (o b u q).ext E.hid (AX hb)
end
section
variable {X:Cx}{ρ:Rho}{G:Gs}{e a b c:Expr}{d k:Dat}{p:Addr}{Ae:List (Dat×Dat)}{pos:Pos}
theorem Ir (hu:X.A.units+9<cLine) (ha:PX X ρ G a k) (hb:PX X ρ G b (.fn p)) (hG:G p=some (.dct Ae)) (hk:B9 6 k=true) (hr:∃l,k=.tup l):PXC X ρ G .NotIn a b (.bl (!(Aw Ae k).isSome)):=by
 intro pins s σ H I S
 refine thn (ha pins s σ H I S) fun v s1 ⟨x,H1,I1,rx,_,_,e1,o1,r1,q1,B1⟩=>?_
 subst q1;subst B1
 refine thn (hb pins s1 σ H1 I1 (S.ext e1 o1)) fun u s2 ⟨y,H2,I2,ry,_,_,e2,o2,r2,q2,EL⟩=>?_
 subst q2;subst EL
 cases (show y=V.ref p from r2)
 cases ry
 obtain ⟨l,rfl⟩:=hr
 have VE:=(r1.same e2.hid).same AK
 have hx:∃t,x=V.ref t:=by rw [Rep]at VE;obtain ⟨t,_,e,_⟩:=VE;exact ⟨t,e⟩
 obtain ⟨t,rfl⟩:=hx
 cases rx
 obtain ⟨xs,h3,r3⟩:=o2 p _ hG
 obtain ⟨z1,z2,dd⟩:=ID I2 h3 (r3.same AK)
 refine wpAny_notIn_heap (knd:=GI X.prog X.w) (show X.A.units+1+6<cLine by lia) (Ja I2 hk VE) z1 dd ⟨.bl _,H2,I2.tok _,rfl,.bl _,_,e1.trans e2,o2,?_,rfl,rfl⟩
 rw [<-(DRep.look _ r3).1]
 rfl
end
section
variable {X:Cx}
def cE (K:PySem.W.Frag):R2:=fun x y H Q=>∃a b xs ys,x=.ref a/\y=.ref b/\SqT K H a xs/\SqT K H b ys/\xs.length+ys.length≤sizeLine ∧
 (xs=[]->Q (.ref b) H)/\(ys=[]->Q (.ref a) H)/\∀p,H p=none->Q (.ref p) (upd H p (.tup (xs++ys)))
theorem U6:OpR X (binaryOp .Add) (cE X.K):=by
 intro pins s σ H x y v u Q I rx ry h
 obtain ⟨a,b,xs,ys,rfl,rfl,ha,hb,hz,q0,q1,q2⟩:=h
 by_cases hx:xs=[]
 ·cases rx
  cases ry
  obtain ⟨its,r1,p1,_⟩:=I.tuple ha
  obtain ⟨HM,r2,p2,_⟩:=I.tuple hb
  obtain ⟨⟨cls,dd,data,sl⟩,ho,hc,n,hd⟩:=id p1
  obtain ⟨⟨XY,Ny,data2,KW⟩,OZ,RG,n2,hd2⟩:=id p2
  simp only at hc hd RG hd2
  subst hc hd RG hd2
  exact concat_meets ⟨_,ho,rfl⟩ ⟨_,OZ,rfl⟩ noFill_tuple_add seq_tuple_add PySem.F.slot_tuple_add PySem.F.entry_tuple_add (PySem.F.args_tuple_add_2 _ _)
   (tuple_addW0 a b its.toArray HM.toArray n n2 dd Ny sl KW (by rw [r1.nil_iff.mpr hx];rfl)) ⟨ho,OZ,.ref b,H,I,rfl,q0 hx⟩
 ·exact U2 pins s σ H (.ref a) (.ref b) v u Q I rx ry ⟨a,b,xs,ys,rfl,rfl,ha,hb,hx,hz,q1,fun _=>q2⟩
def fM (K:PySem.W.Frag):V->Option Int->Option Int->Hp->VK->Prop:=fun x lo hi H Q=>∃a xs,x=.ref a/\SqT K H a xs/\(Jt xs lo hi=xs->Q (.ref a) H)/\∀p,H p=none->Q (.ref p) (upd H p (.tup (Jt xs lo hi)))
theorem WR:SlR X (fM X.K):=by
 intro pins s σ H x v vl vu lo hi sl Q I rx hs pl pu h
 obtain ⟨a,xs,rfl,hx,q1,q2⟩:=h
 by_cases hw:HT.sIx xs.length 0 lo=0/\HT.sIx xs.length xs.length hi=xs.length
 ·cases rx
  obtain ⟨its,r,ht,hz⟩:=I.tuple hx
  have hlen:its.toArray.size=xs.length:=by rw [List.size_toArray];exact r.length.symm
  have cut:Jt xs lo hi=xs:=by unfold Jt;rw [hw.1,hw.2];simp
  refine ⟨"tuple",_,PyProof.Rows.slot_tuple_getitem.lookup,ht.typeIs,?_⟩
  obtain ⟨os,Jo,dG,cU⟩:=id hs
  have jM:s.TypeIs (.ref sl) "slice":=⟨os,Jo,dG⟩
  unfold getItem
  try with_reducible refine wpAny_holding ?_
  first|refine wpAny_bind (wpAny_pure ?_)|skip
  refine wpAny_bind (wpAny_sequenceKey ht.typeIs (by decide) ?_)
  refine wpAny_bind (wpAny_callSpecial?_slot (name:=Str.ofString "__getitem__") ht.typeIs PyProof.Rows.slot_tuple_getitem
   (wpAny_call_entry PyProof.Rows.slot_tuple_getitem ht.typeIs entry_tuple_getitem ?_ (args_tuple_getitem _ _)))
  show wpAny _ _ (Builtin.Tuple.tupleItemsOf (.ref a) >>= _) _ _ s
  refine wpAny_bind (tupleItemsOf_ ht ?_)
  refine wpAny_bind (wpAny_typeOf jM ?_)
  rw [if_pos (by decide)]
  refine wpAny_bind (HT.sliceApplied_gen hs pl pu ?_)
  have d6:(((HT.sIx its.toArray.size 0 lo:Nat):Int)==0&&(1:Int)==1&&(HT.sIx its.toArray.size its.toArray.size hi-HT.sIx its.toArray.size 0 lo)==its.toArray.size)=true:=by
   rw [hlen,hw.1,hw.2]
   simp
  show wpAny _ _ (if (((HT.sIx its.toArray.size 0 lo:Nat):Int)==0&&(1:Int)==1&&(HT.sIx its.toArray.size its.toArray.size hi-HT.sIx its.toArray.size 0 lo)==its.toArray.size)=true then _ else _) _ _ s
  rw [if_pos d6]
  refine wpAny_bind ?_
  unfold Builtin.Tuple.tupleIsExact
  refine wpAny_bind (wpAny_typeOf ht.typeIs (wpAny_pure ?_))
  rw [if_pos (by decide)]
  exact wpAny_bind (wpAny_rule (wpAny_pure ⟨_,rfl,wpAny_pure ⟨.ref a,H,I,rfl,q1 cut⟩⟩))
 ·exact Xq pins s σ H (.ref a) v vl vu lo hi sl Q I rx hs pl pu ⟨a,xs,rfl,hx,hw,q2⟩
end
theorem En (Ae:List (Dat×Dat)) (k v:Dat):(FE Ae k v).length≤Ae.length+1:=by
 unfold FE
 split
 ·rw [List.length_map];lia
 ·rw [List.length_append,List.length_singleton];exact Nat.le_refl _
section
variable {X:Cx}{ρ:Rho}{G:Gs}{e a b c:Expr}{es:List Expr}{d d' d1 d2 k:Dat}{ds l m:List Dat}{pos:Pos}{i j:Int}{p:Addr}{Ae:List (Dat×Dat)}{D:DE}{rest:List Stmt}
theorem QJ (ha:PX X ρ G a (.tup l)) (hb:PX X ρ G b (.tup m)) (hz:l.length+m.length≤sizeLine):PX X ρ G (.BinOp a .Add b pos) (.tup (l++m)):=
 KH U6 ha hb fun H x y Q o hx hy k=>by
  have tp:=hx
  have Yw:=hy
  rw [Rep]at hx hy
  obtain ⟨p,vs,e1,h1,r1⟩:=hx
  obtain ⟨q,us,e2,h2,r2⟩:=hy
  refine ⟨p,q,vs,us,e1,e2,Ar AK h1,Ar AK h2,by rw [r1.length,r2.length];exact hz,fun z=>?_,fun z=>?_,fun t ht=>k _ _ (GC o ht (r1.append r2))⟩
  ·have hl:l=[]:=by have:=r1.length;rw [z]at this;cases l<;>simp_all
   subst hl
   rw [<-e2]
   exact k _ _ (Bl o (by rw [List.nil_append];exact Yw))
  ·have hm:m=[]:=by have:=r2.length;rw [z]at this;cases m<;>simp_all
   subst hm
   rw [<-e1]
   exact k _ _ (Bl o (by rw [List.append_nil];exact tp))
def PXo (X:Cx) (ρ:Rho) (G:Gs) (e:Option Expr) (o:Option Int):Prop:=match e,o with
 |none,none=>True
 |some e,some i=>PX X ρ G e (.int i)
 |_,_=>False
def Tp (l:List Dat) (lo hi:Option Int):List Dat:=(l.drop (HT.sIx l.length 0 lo)).take (HT.sIx l.length l.length hi-HT.sIx l.length 0 lo)
def tWo (X:Cx) (e:Option Expr):TO:=fun σ H Q'=>∃ρ G o,PXo X ρ G e o/\Stt X H σ ρ G/\∀H',Ext H G H' G->GOk X.K H' G->Q' o H'
theorem XG {e:Option Expr}:PO X e (tWo X e):=by
 intro pins s σ H Q I ⟨ρ,G,o,h,S,k⟩
 cases e with
 |none=>
  cases o with
  |none=>exact Vp pins s σ H Q I (k H Ext.refl S.own)
  |some i=>exact h.elim
 |some e=>
  cases o with
  |none=>exact h.elim
  |some i=>
   refine VO (Ax (X:=X) (e:=e)) pins s σ H Q I ⟨ρ,G,_,h,S,fun v H' ⟨d,G',e',o',r',q1,q2⟩=>?_⟩
   subst q1;subst q2
   exact ⟨i,r',k H' e' o'⟩
theorem PH {K:PySem.W.Frag} {H:Hp} {vs:List V} {lo hi:Option Int} (r:RepL K H l vs):RepL K H (Tp l lo hi) (Jt vs lo hi):=by
 unfold Tp Jt
 rw [r.length]
 exact (r.drop _).take _
theorem J6 {lo hi:Option Expr} {p2:Pos} {ol oh:Option Int} (ha:PX X ρ G a (.tup l)) (hl:PXo X ρ G lo ol) (hh:PXo X ρ G hi oh):PX X ρ G (.Subscript a (.Slice lo hi none p2) pos) (.tup (Tp l ol oh)):=
 Bw (TH WR Ax XG XG) fun σ H S=>⟨ρ,G,_,ha,S,fun x H1 ⟨_,_,e1,o1,r1,q1,B1⟩=>by
  subst q1;subst B1
  refine ⟨ρ,_,ol,hl,S.ext e1 o1,fun H2 e2 o2=>⟨ρ,_,oh,hh,S.ext (e1.trans e2) o2,fun H3 e3 o3=>?_⟩⟩
  have r3:=r1.same (e2.trans e3).hid
  have ve:=r3
  rw [Rep]at r3
  obtain ⟨p,vs,e4,h4,r4⟩:=r3
  refine ⟨p,vs,e4,Ar AK h4,fun z=>?_,fun t ht=>Po.trans (e1.trans (e2.trans e3)) (GC o3 ht (PH r4))⟩
  refine Po.trans (e1.trans (e2.trans e3)) (Bl o3 ?_)
  rw [Rep]
  exact ⟨p,vs,rfl,h4,by have:=PH (lo:=ol) (hi:=oh) r4;rw [z]at this;exact this⟩⟩
theorem Q3 (hc:X.calm=true):CP X (.builtin "sum") (fun xs H Q=>∃(p:Addr) (ns:List Int),xs=[.ref p]/\SqL X.K H p (ns.map V.int)/\Q (.int ns.sum) H):=by
 intro pins s σ H xs us Q I r h
 obtain ⟨p,ns,rfl,hq,q⟩:=h
 obtain ⟨u,rfl,rx⟩:=Hj r
 cases rx
 obtain ⟨its,r',pl,hz⟩:=I.list hq
 have hi:IntsAre its ns:=Oa r'
 obtain ⟨xs,hx⟩:=hi.allInts.items
 have hl:=pl.isList
 rw [hx]at hl
 refine PySem.sum_intListG (I.ok.hd hc) hl fun h' tk t' hk=>⟨.int ns.sum,H,I.kept hk,⟨t',?_⟩,q⟩
 have e:ns=xs.toList.map (·.1):=by
  rw [<-hi.numsOf,<-nums_intItems,<-hx]
 rw [preSum_eq,List.take_of_length_le (by simp),<-e]
theorem YA {ns:List Int} {pp:Pos} (hc:X.calm=true) (hm:X.mg "sum"=none) (ha:PX X ρ G a (.lst (ns.map .int))) (hg:Gl X "sum":=by rfl) (he:starEach [a] X.env=(false,eval a X.env)::starEach [] X.env:=by rfl):PX X ρ G (.Call (.Name "sum" pp) [a] [] pos) (.int ns.sum):=
 Er (Q3 hc) hg hm boot_sum ha (fun H x Q o r k=>by
  rw [Rep]at r
  obtain ⟨q,vs,e,h1,r1⟩:=r
  exact ⟨q,ns,by rw [e],by rw [<-r1.ints];exact SqL.of (AK _ _ h1),k _ _ (Bl o rfl)⟩) (he:=he)
theorem Va {Q:Dat->Gs->Prop} (h:∀p,G p=none->Q (.fn p) (put G p (.dct []))):WE X ρ G (.Dict [] [] pos) Q:=fun pins s σ H I S=>by
 refine wpAny_Dict_empty ⟨.ref s.heap.objs.size,_,I.laid (a:=s.heap.objs.size) (o:=HG s.heap.objs.size []) (t':=s.toks) (fun _ _ q=>Heap.get?_push_of_some _ q) (Nat.le_refl _) ?_,rfl,?_⟩
 ·refine Ko ⟨beq_eq_false_iff_ne.mpr (Ne.symm (Nat.ne_of_lt (Inv.big I))),Nat.zero_le _,List.nodup_nil,_,#[],0,Heap.get?_push_size _ rfl,⟨rfl,rfl,rfl⟩,rfl,rfl⟩
 ·have hp:H s.heap.objs.size=none:=I.hok.fresh (Nat.le_refl _)
  obtain ⟨E,O⟩:=Mb (X:=X) S.own hp
  exact ⟨.fn s.heap.objs.size,_,E,O,rfl,h _ (S.own.free hp)⟩
theorem Ut (hu:X.A.units+9<cLine) (ha:PX X ρ G a (.fn p)) (hb:PX X ρ G b k) (hG:G p=some (.dct Ae)) (hk:B9 6 k=true) (hr:∃l,k=.tup l) (hl:Aw Ae k=some d) (hs:GL b:=by intro _ _;rfl):PX X ρ G (.Subscript a b pos) d:=by
 intro pins s σ H I S
 refine Subscript_ (thn (ha pins s σ H I S) fun u s1 ⟨x,H1,I1,rx,_,_,e1,o1,r1,q1,B1⟩=>?_)
 subst q1;subst B1
 refine thn (hb pins s1 σ H1 I1 (S.ext e1 o1)) fun iv s2 ⟨y,H2,I2,ry,_,_,e2,o2,r2,q2,EL⟩=>?_
 subst q2;subst EL
 cases (show x=V.ref p from r1)
 cases rx
 obtain ⟨l,rfl⟩:=hr
 have U3:=r2.same AK
 have hx:∃t,y=V.ref t:=by rw [Rep]at U3;obtain ⟨t,_,e,_⟩:=U3;exact ⟨t,e⟩
 obtain ⟨t,rfl⟩:=hx
 cases ry
 obtain ⟨xs,h3,r3⟩:=o2 p _ hG
 obtain ⟨z1,z2,dd⟩:=ID I2 h3 (r3.same AK)
 obtain ⟨q,v,hq,rv,rd⟩:=(DRep.look _ r3).2 d hl
 refine tail_any (ops:=[.ref p,.ref t]) dd.typeIs PySem.F.slot_dict_getitem.lookup ?_ (hs _ _)
 exact wpAny_getItem_heap (knd:=GI X.prog X.w) (show X.A.units+1+6<cLine by lia) (Ja I2 hk U3) dd hq ⟨v,H2,I2.tok _,rv,d,_,e1.trans e2,o2,rd,rfl,rfl⟩
theorem MU {pos':Pos} (hu:X.A.units+9<cLine) (hv:PX X ρ G e d) (ha:PX X ρ G a (.fn p)) (hb:PX X ρ G b k) (hG:G p=some (.dct Ae)) (hk:B9 6 k=true) (hr:∃l,k=.tup l) (hz:Ae.length<sizeLine)
  (q:WSs X ρ (put G p (.dct (FE Ae k d))) rest D) (hs:swapsWith e (some (.Subscript a b pos')) pos.line X.env=pure false:=by rfl):WSs X ρ G (.Assign [.Subscript a b pos'] e pos::rest) D:=Bt fun pins s σ H I S=>by
 refine wpAny_Assign_Subscript (thn (hv pins s σ H I S) fun r s0 ⟨vv,H0,I0,pk,_,_,e0,o0,r0,q0,sh⟩=>?_) hs
 subst q0;subst sh
 refine thn (ha pins s0 σ H0 I0 (S.ext e0 o0)) fun u s1 ⟨x,H1,I1,rx,_,_,e1,o1,r1,q1,B1⟩=>?_
 subst q1;subst B1
 refine thn (hb pins s1 σ H1 I1 (S.ext (e0.trans e1) o1)) fun iv s2 ⟨y,H2,I2,ry,_,_,e2,o2,r2,q2,EL⟩=>?_
 subst q2;subst EL
 cases (show x=V.ref p from r1)
 cases rx
 obtain ⟨l,rfl⟩:=hr
 have U3:=r2.same AK
 have hx:∃t,y=V.ref t:=by rw [Rep]at U3;obtain ⟨t,_,e,_⟩:=U3;exact ⟨t,e⟩
 obtain ⟨t,rfl⟩:=hx
 cases ry
 obtain ⟨xs,h3,r3⟩:=o2 p _ hG
 obtain ⟨z1,z2,dd⟩:=ID I2 h3 (r3.same AK)
 have rn:=DRep.put hk r2 pk (r0.same (e1.trans e2).hid) r3
 refine wpAny_setItem_heap (hsz:=z2) (knd:=GI X.prog X.w) (show X.A.units+1+6<cLine by lia) (Ja I2 hk U3) dd fun h' dd' Jw=>?_
 obtain ⟨E,O⟩:=Qd (X:=X) o2 hG rn
 obtain ⟨o',Hv,Vu,g1,g2,g3,g4,_,g5⟩:=dd'
 refine ⟨σ,_,I2.write (x:=p) (e:=p) (t':=s2.toks+Gh (.tup l)) (by rw [h3];exact True.intro) (.inl rfl) (fun b o hb z=>(Jw.2 b hb).trans z) ⟨o',g1⟩ (Ko ⟨z1,?_,g5,o',Hv,Vu,g1,g2,g3,g4⟩),ρ,_,(e0.trans (e1.trans e2)).trans E,S.ext ((e0.trans (e1.trans e2)).trans E) O,q⟩
 exact Nat.le_trans (Nat.le_of_eq rn.length) (Nat.le_trans (En _ _ _) hz)
end
section
variable {X:Cx}{ρ:Rho}{G:Gs}{elt target iter:Expr}{ifs:List Expr}{scope:Scope}{Ay pos pos':Pos}{tail:Env->Value->Sem Unit}{Nc:List Str}{caps:List (Option Nat)}{l:List Dat}{f:Dat->Rho->Option Rho}{D:DE}{rest:List Stmt}
theorem NT (n:Nat) {x:Str} (Pv:Nat->List Dat->Gs->Prop) (hN:X.N.Nodup) (ht:Ku elt target iter ifs scope Ay tail) (Sc:CompSc X scope Nc caps) (Ea:X.calm=true) (hi:WI X ρ G target iter fun l' G'=>l'=l/\Pv 0 [] G')
  (hg:∀C s' H' fp,PGD (As X Nc scope C s' H' fp) target f) (hle:∀d ρ',f d (CI caps ρ)=some ρ'->ρ'.length=(CI caps ρ).length/\∀(j:Nat) e,(CI caps ρ)[j]?=some (some e)->ρ'[j]?=some (some e)) (hz:l.length≤sizeLine)
  (GF:∀C s' H' fp D i d acc G',l[i]?=some d->Pv i acc G'->G' D=none->∃ρ',f d (CI caps ρ)=some ρ' ∧
   Mn (As X Nc scope C s' H' fp) ρ' (put G' D (.lst acc)) (tail (As X Nc scope C s' H' fp).env (.ref D)) fun Uj=>∃Eg G4,Eg.length≤acc.length+1/\G4 D=none/\Uj=put G4 D (.lst Eg)/\Pv (i+1) Eg G4)
  (hd:∀acc G',Pv l.length acc G'->WSs X (ρ.set n (some (.lst acc))) G' rest D) (hn:X.N[n]?=some x:=by rfl) (hx:X.env.kindOf x=some .local:=by rfl) (sC:swapsWith (.ListComp elt [⟨target,iter,ifs,0⟩] scope Ay) (some (.Name x pos')) pos.line X.env=pure true:=by rfl)
  (Y3:∀x,foldedSetIterable iter X.env x=pure x:=by intro _;rfl):WSs X ρ G (.Assign [.Name x pos'] (.ListComp elt [⟨target,iter,ifs,0⟩] scope Ay) pos::rest) D:=Bt fun pins s σ H I S=>by
 rw [exec_Assign_Name_used _ _ _ _ sC]
 refine wpAny_bind (wpAny_standAt (wpAny_bind ?_))
 show wpAny _ X.A (do let _ <-comprehension (.ListComp elt [⟨target,iter,ifs,0⟩] scope Ay) scope X.env _ (newList []) false (eval iter X.env) (some (assign (.Name x pos') X.env))) _ _ s
 refine wpAny_bind (wpAny_mono (wpAny_comprehension_free (use:=some (assign (.Name x pos') X.env)) (Q:=fun _ s'=>SP X pins (Em X H G { D with nx:=fun ρ' G'=>WSs X ρ' G' rest D }) .next s') rfl Y3 (FQ fun x hx hf=>I.ok.has x.1 (Sc.free x hx hf)) Sc.kind Sc.names
  (thn (hi pins s σ H I S) fun v s1 h1=>thn h1 fun Zh s2 h2=>?_)) (fun _ s' hq=>wpAny_pure (wpAny_pure hq)) fun _ _ e=>e)
 obtain ⟨it,fp,tn,J,H2,e,I2,T,Ci,f2,l',G2,e2,o2,wk,q,p0⟩:=h2
 subst e;subst q
 refine KC (RR:=fun acc C=>compPost (model X.prog X.w) X.A X.xe (some (assign (.Name x pos') X.env)) (fun _ s'=>SP X pins (Em X H G { D with nx:=fun ρ' G'=>WSs X ρ' G' rest D }) .next s') acc C) Pv ht Sc Ea hg hle hz GF I2 (S.ext e2 o2) T Ci f2 wk p0 ?_
 rintro Dd C s3 sf σc Hf Gf acc k3 rfl ⟨H3,I3,f3,Ic⟩ ef of gH pf
 obtain ⟨m,hm,_⟩:=Ic.loc
 have Pq:∀b∈fp,(b∈X.ex\/X.s₀.heap.objs.size≤b)/\b≠X.env.locals/\(∀x c,X.env.cells.lookup x=some c->c≠b)/\∀p∈X.pn++pins,p.1≠b:=fun b hb=>
  ⟨(f3 b hb).2.2.2.1,(f3 b hb).2.1,(f3 b hb).2.2.2.2.1,(f3 b hb).2.2.2.2.2⟩
 have I1:Inv X pins σ Hf sf:=I3.call' Ic.os Ic.base Ic.hok Ic.bare Pq
 have hC:Hf s3.heap.objs.size=none:=Ic.free
 have W7:∀x c,X.env.cells.lookup x=some c->c≠s3.heap.objs.size:=fun x c e z=>by
  obtain ⟨v,o,ho,_⟩:=I3.cell x c e
  rw [z]at ho
  exact absurd (Heap.lt_size ho) (Nat.lt_irrefl _)
 obtain ⟨E,O,R⟩:=LF (X:=X) of AJ
 rw [Cz gH]at E O R
 show wpAny (model X.prog X.w) X.A (assign (.Name x pos') X.env (.ref Dd)) _ _ sf
 refine wpAny_assign_Name (KG I1 hN hn (.inl hx) (v:=.ref Dd) (show RelV (V.ref Dd) (Value.ref Dd)from rfl) (fun Wy uF Jw=>?_) (.inr hx))
 obtain ⟨a,sb,ha⟩:=Jw
 have D7:s3.heap.objs.size≠a:=by
  rcases ha with z|z
  ·rw [z];exact Nat.ne_of_gt I3.lt
  ·exact Ne.symm (W7 _ _ z)
 refine ⟨m,Heap.Ns.sameBut (show sf.heap.Ns s3.heap.objs.size m from hm) sb D7,fun h' hs=>?_⟩
 have If:Inv X pins (σ.set n (some (.ref Dd))) Hf { Wy with heap:=h' }:=by
  refine uF.turned (t':=Wy.toks) (it:=s3.heap.objs.size) (fun b o hb e=>hs.extBut b o hb e) hC (Nat.ne_of_gt I3.lt) (.inr I3.sz) W7 fun p hp z=>?_
  have:=(I3.pin p hp).1
  rw [z]at this
  exact absurd (Heap.lt_size this) (Nat.lt_irrefl _)
 exact ⟨_,Hf,If,_,Gf,e2.trans (ef.trans E),(S.ext (e2.trans (ef.trans E)) O).set R,hd acc Gf pf⟩
end
abbrev Sq:=Int×Int
def sq (p:Sq):Dat:=.tup [.int p.1,.int p.2]
def fl (l:List Sq):Dat:=.tup (l.map sq)
def AM (p:Sq×Sq):Dat:=.tup [sq p.1,sq p.2]
theorem Fo (p q:Sq):eqD (sq p) (sq q)=decide (p=q):=by
 obtain ⟨a,b⟩:=p
 obtain ⟨c,d⟩:=q
 simp only [sq,eqD,eqL,Bool.and_true]
 rw [Bool.eq_iff_iff]
 simp [Prod.ext_iff]
theorem C9 (l:List Sq) (p:Sq):((l.map sq).any fun e=>eqD e (sq p))=l.contains p:=by
 rw [List.any_map]
 have:(fun e=>eqD e (sq p)) ∘ sq=fun q=>q==p:=by
  funext q
  simp only [Function.comp,Fo]
  rw [Bool.eq_iff_iff];simp
 rw [this]
 induction l with
 |nil=>rfl
 |cons q l ih=>
  rw [List.any_cons,List.contains_cons,ih]
  congr 1
  rw [Bool.eq_iff_iff,beq_iff_eq,beq_iff_eq]
  exact eq_comm
theorem Al (p:Sq) (n:Nat):AF (n+1) (sq p)=true:=by
 simp only [sq,AF,List.all_cons,List.all_nil,Bool.and_true,Bool.and_eq_true]
 exact ⟨Ef rfl n,Ef rfl n⟩
theorem D8 (l:List Sq) (n:Nat):(l.map sq).all (AF (n+1))=true:=by
 rw [List.all_eq_true]
 intro d hd
 obtain ⟨p,_,rfl⟩:=List.mem_map.mp hd
 exact Al p n
theorem Uc {p q:Sq} (h:sq p=sq q):p=q:=by
 obtain ⟨a,b⟩:=p
 obtain ⟨c,d⟩:=q
 simp only [sq,Dat.tup.injEq,List.cons.injEq,Dat.int.injEq,and_true]at h
 rw [h.1,h.2]
theorem Ia:∀{l m:List Sq},l.map sq=m.map sq->l=m
 |[],[],_=>rfl
 |[],_::_,h=>by simp at h
 |_::_,[],h=>by simp at h
 |p::l,q::m,h=>by
  simp only [List.map_cons,List.cons.injEq]at h
  rw [Uc h.1,Ia h.2]
theorem Oh {l m:List Sq} (h:fl l=fl m):l=m:=by
 simp only [fl,Dat.tup.injEq]at h
 exact Ia h
theorem LD {α β:Type} (f:α->β) {l:List α} {i:Int} {x:α} (h:atI l i=some x):atI (l.map f) i=some (f x):=by
 unfold atI at h ⊢
 rw [List.length_map]
 cases q:ixN l.length i with
 |none=>rw [q]at h;cases h
 |some j=>rw [q]at h;show (l.map f)[j]?=_;rw [List.getElem?_map,show l[j]?=some x from h];rfl
def Ii (ns:List Int) (k:Nat):Int:=ns.getD k 0
section
variable {X:Cx}{ρ:Rho}{G:Gs}{e a b c:Expr}{es:List Expr}{d:Dat}{pos:Pos}{D:DE}{rest x y:List Stmt}{p:Bool}
theorem QX (M:Rho->Gs->Prop) (hc:PXT X ρ G c p) (ht:p=true->WSs X ρ G x { D with nx:=M }) (hf:p=false->WSs X ρ G y { D with nx:=M }) (hr:∀ρ' G',M ρ' G'->WSs X ρ' G' rest D):WSs X ρ G (.If c x y pos::rest) D:=
 Cq hc (fun h=>(ht h).mono (fun ρ' G' q=>hr ρ' G' q) (fun _ _ q=>q) (fun _ _ q=>q) fun _ _ q=>q) (fun h=>(hf h).mono (fun ρ' G' q=>hr ρ' G' q) (fun _ _ q=>q) (fun _ _ q=>q) fun _ _ q=>q)
theorem Pp (M:Gs->Prop) (hc:PXT X ρ G c p) (ht:p=true->WSs X ρ G x { D with nx:=fun ρ' G'=>ρ'=ρ/\M G' }) (hf:p=false->WSs X ρ G y { D with nx:=fun ρ' G'=>ρ'=ρ/\M G' }) (hr:∀G',M G'->WSs X ρ G' rest D):WSs X ρ G (.If c x y pos::rest) D:=
 QX (fun ρ' G'=>ρ'=ρ/\M G') hc ht hf fun ρ' G' ⟨h1,h2⟩=>by subst h1;exact hr G' h2
theorem Le {Q:Dat->Gs->Prop} (h:WE X ρ G e fun d G'=>∃q,Q d (rel G' q)):WE X ρ G e Q:=fun pins s σ H I S=>
 thn (h pins s σ H I S) fun _ _ z=>EP.mono z fun v H' ⟨d,G',e',o',r',q,hq⟩=>by
  have E:Ext H' G' H' (rel G' q):=⟨fun b u z _=>z,fun b hb=>by
   by_cases hq:b=q
   ·subst hq;rw [Co]at hb;exact absurd rfl hb
   ·rw [Fe hq]at hb;exact .inl hb⟩
  refine ⟨d,rel G' q,e'.trans E,fun b u z=>?_,r'.same E.hid,hq⟩
  by_cases hbq:b=q
  ·subst hbq;rw [Co]at z;cases z
  ·rw [Fe hbq]at z
   exact (o' b u z).ext E.hid rfl
theorem D4 {ρ:Rho} {i:Nat} (h:ρ[i]?=some none):∀d ρ',Fb i d ρ=some ρ'->ρ'.length=ρ.length/\∀(j:Nat) e,ρ[j]?=some (some e)->ρ'[j]?=some (some e):=by
 intro d ρ' e
 cases e
 refine ⟨List.length_set,fun j e' h'=>?_⟩
 by_cases z:i=j
 ·subst z;rw [h]at h';cases h'
 ·rw [List.getElem?_set_ne z];exact h'
theorem Mu {ρ:Rho} {i j:Nat} (h:ρ[i]?=some none) (h':ρ[j]?=some none):∀d ρ',Hg i j d ρ=some ρ'->ρ'.length=ρ.length/\∀(k:Nat) e,ρ[k]?=some (some e)->ρ'[k]?=some (some e):=by
 intro d ρ' e
 cases d<;>simp only [Hg,reduceCtorEq]at e
 rename_i l
 match l,e with
 |[a,b],e=>
  simp only [Option.some.injEq]at e
  subst e
  refine ⟨by rw [List.length_set,List.length_set],fun k e' hk=>?_⟩
  by_cases z:j=k
  ·subst z;rw [h']at hk;cases hk
  ·rw [List.getElem?_set_ne z]
   by_cases z2:i=k
   ·subst z2;rw [h]at hk;cases hk
   ·rw [List.getElem?_set_ne z2];exact hk
 |[],e=>simp at e
 |[_],e=>simp at e
 |_::_::_::_,e=>simp at e
end
section
variable {X:Cx}{ρ:Rho}{G:Gs}{e a b c:Expr}{es:List Expr}{d d' d1 d2 d3 k:Dat}{ds l m:List Dat}{pos:Pos}{i j z:Int}{p:Addr}{Ae:List (Dat×Dat)}{D:DE}{rest body:List Stmt}
theorem Mm {f:Str} {id:String} {r:List V->Hp->VK->Prop} {pp:Pos} (hc:CP X (.builtin id) r) (hg:Gl X f) (hm:X.mg f=none) (hv:bootBuiltins f=some (.builtin id)) (ha:PX X ρ G a d1) (hb:PX X ρ G b d2)
  (hr:∀(H:Hp) (x y:V) (Q:VK),GOk X.K H G->Rep X.K (hid H G) d1 x->Rep X.K (hid H G) d2 y->(∀v H',Po X H G (fun d' G'=>d'=d/\G'=G) v H'->Q v H')->r [x,y] H Q)
  (hn:f≠"__name__":=by decide) (DQ:(f==("__debug__":Str))=false:=by decide) (he:starEach [a,b] X.env=(false,eval a X.env)::starEach [b] X.env:=by rfl) (he2:starEach [b] X.env=(false,eval b X.env)::starEach [] X.env:=by rfl)
  (hpl:(backTo pos (starEach [b] X.env)).any (·.1)=false:=by rfl):PX X ρ G (.Call (.Name f pp) [a,b] [] pos) d:=
 Bw (Dq hc hg hm hv (BH Ax (BH Ax Cr he2) he) hn DQ he hpl) fun σ H S=>⟨ρ,G,_,ha,S,fun x H1 ⟨_,_,e1,o1,r1,q1,B1⟩=>by
  subst q1;subst B1
  refine ⟨ρ,_,_,hb,S.ext e1 o1,fun y H2 ⟨_,_,e2,o2,r2,q2,EL⟩=>?_⟩
  subst q2;subst EL
  exact hr H2 x y _ o2 (r1.same e2.hid) r2 fun v H' z=>Po.trans (e1.trans e2) z⟩
def SeqOf (G:Gs) (d:Dat) (l:List Dat):Prop:=d=.tup l\/d=.lst l\/∃p,d=.fn p/\G p=some (.lst l)
theorem XS {H:Hp} {K:PySem.W.Frag} {y:V} (h:SeqOf G d l) (o:GOk K H G) (r:Rep K (hid H G) d y):∃p vs,y=.ref p/\(H p=some (.lst vs)\/SqT K H p vs)/\RepL K H l vs:=by
 rcases h with rfl|rfl|⟨p,rfl,hG⟩
 ·exact in_of (.inl r)
 ·exact in_of (.inr r)
 ·obtain ⟨vs,h3,r3⟩:=o p _ hG
  exact ⟨p,vs,r,.inl h3,r3.same AK⟩
theorem Pa (hu:X.A.units+9<cLine) (ha:PX X ρ G a d1) (hb:PX X ρ G b d2) (hl:SeqOf G d2 l) (p1:AF 8 d1=true) (p2:l.all (AF 8)=true):PXC X ρ G .In a b (.bl (l.any fun e=>eqD e d1)):=
 De (UL hu) ha hb fun H x y Q o hx hy k=>by
  obtain ⟨p,vs,h1,h2,h3⟩:=XS hl o hy
  exact ⟨p,vs,d1,l,h1,h2,h3,hx.same AK,p1,p2,k _ _ (Bl o rfl)⟩
theorem Py (ha:PX X ρ G a (.int i)) (hb:PX X ρ G b (.int j)) (hc:PX X ρ G c (.int z)) (hm:lastMarks [.LtE,.LtE] [b,c]=false:=by with_unfolding_all rfl):PX X ρ G (.Compare a [.LtE,.LtE] [b,c] pos) (.bl (decide (i≤j)&&decide (j≤z))):=
 Bw (Sg P6 P6 Ax Ax Ax hm) fun σ H S=>⟨ρ,G,_,ha,S,fun x H1 ⟨_,_,e1,o1,r1,q1,B1⟩=>by
  subst q1;subst B1
  refine ⟨ρ,_,_,hb,S.ext e1 o1,fun y H2 ⟨_,_,e2,o2,r2,q2,EL⟩=>?_⟩
  subst q2;subst EL
  refine ⟨i,j,r1,r2,decide (i≤j),rfl,?_⟩
  by_cases h:i≤j
  ·rw [decide_eq_true h,if_pos rfl]
   refine ⟨ρ,_,_,hc,S.ext (e1.trans e2) o2,fun w' H3 ⟨_,_,e3,o3,r3,q3,Zf⟩=>?_⟩
   subst q3;subst Zf
   exact ⟨j,z,r2,r3,Po.trans ((e1.trans e2).trans e3) (Bl o3 rfl)⟩
  ·rw [decide_eq_false h,if_neg (by decide)]
   exact Po.trans (e1.trans e2) (Bl o2 rfl)⟩
theorem UU (ha:PX X ρ G a (.int i)) (hb:PX X ρ G b (.int j)) (hc:PX X ρ G c (.int z)) (hm:lastMarks [.LtE,.LtE] [b,c]=false:=by with_unfolding_all rfl):PXT X ρ G (.Compare a [.LtE,.LtE] [b,c] pos) (decide (i≤j)&&decide (j≤z)):=
 ZM (SF P6 P6 Ax Ax Ax hm) fun σ H S=>⟨ρ,G,_,ha,S,fun x H1 ⟨_,_,e1,o1,r1,q1,B1⟩=>by
  subst q1;subst B1
  refine ⟨ρ,_,_,hb,S.ext e1 o1,fun y H2 ⟨_,_,e2,o2,r2,q2,EL⟩=>?_⟩
  subst q2;subst EL
  refine ⟨i,j,r1,r2,decide (i≤j),rfl,?_⟩
  by_cases h:i≤j
  ·rw [decide_eq_true h,if_pos rfl]
   refine ⟨ρ,_,_,hc,S.ext (e1.trans e2) o2,fun w' H3 ⟨_,_,e3,o3,r3,q3,Zf⟩=>?_⟩
   subst q3;subst Zf
   exact ⟨j,z,r2,r3,decide (j≤z),rfl,_,(e1.trans e2).trans e3,o3,rfl,rfl⟩
  ·rw [decide_eq_false h,if_neg (by decide)]
   exact ⟨false,rfl,_,e1.trans e2,o2,rfl,rfl⟩⟩
end
section
variable {X:Cx}{ρ:Rho}{G:Gs}{e a b c:Expr}{es:List Expr}{d d' d1 d2 d3 k:Dat}{ds l m:List Dat}{pos:Pos}{i j z:Int}{p:Addr}{Ae:List (Dat×Dat)}{D:DE}{rest body:List Stmt}
theorem Y5 {apos Ay:Pos} {Q:Dat->Gs->Prop} (hx:PX X ρ G a (.fn p)) (hG:G p=some (.lst (l++[d]))) (q:Q d (put G p (.lst l)))
  (Cm:attributeBase a "pop" X.env (eval a X.env)=eval a X.env:=by rfl) (Eb:(apos.endLine==Ay.line)=true:=by rfl):WE X ρ G (.Call (.Attribute a "pop" apos) [] [] Ay) Q:=
 Bw (Xu PySem.F.plainAttrs_list PySem.F.slot_list_pop PySem.F.type_list_pop XU Ax Cm Eb) fun σ H S=>⟨ρ,G,_,hx,S,fun x H1 ⟨_,_,e1,o1,r1,q1,B1⟩=>by
  subst q1;subst B1
  cases (show x=V.ref p from r1)
  obtain ⟨vs,h1,r2⟩:=o1 p _ hG
  have hl:=r2.length
  rw [List.length_append,List.length_singleton]at hl
  obtain ⟨y,hy,ry⟩:=r2.get (i:=l.length) (d:=d) (by simp)
  refine ⟨.inl ⟨rfl,vs,SqL.of h1⟩,p,vs,y,rfl,rfl,h1,by rw [hl];exact hy,?_⟩
  have r3:=r2.take l.length
  rw [List.take_left'  rfl,show vs.take l.length=vs.dropLast by rw [List.dropLast_eq_take,hl];rfl]at r3
  obtain ⟨E,O⟩:=Hx o1 hG r3
  exact ⟨d,_,e1.trans E,O,ry.same E.hid,q⟩⟩
theorem Mp:CP X (.builtin "len") (fun xs H Q=>∃p ys,xs=[.ref p]/\H p=some (HG p ys)/\Q (.int ys.length) H):=by
 intro pins s σ H xs us Q I r h
 obtain ⟨p,ys,rfl,hp,q⟩:=h
 obtain ⟨u,rfl,rx⟩:=Hj r
 cases rx
 obtain ⟨⟨h1,h2,h3,o,es,ep,h4,h5,h6,h7⟩,_,_⟩:=(show ObjOk X.prog X.w H s.heap p (.ext (LP p ys))from I.hok p _ hp)
 have hsz:es.size=ys.length:=by rw [<-Array.length_toList,h7,List.length_map]
 have hm:MeetsIn X.prog X.w (Builtin.«dict.__len__» ⟨[.ref p],[]⟩) (fun _ R s'=>s'.heap.get? p=some o/\R (.ok (.ret (.int ys.length s'.toks))) { s' with toks:=s'.toks+1 }):=
  .of_wp fun A R s' ⟨ho,h⟩=>by
   show wpAny _ _ (dictSize p >>= _) _ _ s'
   unfold dictSize
   refine wpAny_bind (wpAny_bind (wpAny_dictEntries ho h6 (wpAny_pure ?_)))
   show wpAny _ _ (Builtin.Dict.pendingCount p >>= _) _ _ s'
   refine wpAny_bind (wpAny_pendingCount_other h1 ?_)
   refine wpAny_ret_mkInt ?_
   rw [Nat.add_zero,hsz];exact h
 have ht:s.TypeIs (.ref p) "dict":=⟨o,h4,h5.1⟩
 have hl:=IS
 refine Calls.call_function_entry kind_len plain_len entry_len (args_len1 _) ?_
 unfold Builtin.«len»
 refine wpAny_bind (m:=oneArg "len" _) (wpAny_pure ?_)
 refine wpAny_bind (m:=callSpecial? (.ref p) (Str.ofString "__len__")) (wpAny_callSpecial?_slot (name:=Str.ofString "__len__") ht F.slot_dict_len
  (call_meetsIn F.slot_dict_len ht F.entry_dict_len (F.args_dict_len_1 _) hm ⟨h4,?_⟩))
 show wpAny _ _ _ _ _ { s with toks:=s.toks+1 }
 refine wpAny_bind (wpAny_holding (wpAny_pure ?_))
 refine wpAny_bind (wpAny_letGo ?_)
 show wpAny _ _ (if ((ys.length:Nat):Int)<0 then _ else _) _ _ _
 rw [if_neg (by lia)]
 show wpAny _ _ (if ((ys.length:Nat):Int)≥2 ^ 63 then _ else _) _ _ _
 rw [if_neg (by lia)]
 exact wpAny_bind (wpAny_mkInt (wpAny_pure ⟨_,rfl,.int ys.length,H,I.tok _,⟨_,rfl⟩,q⟩))
theorem Vc {pp:Pos} {Q:Dat->Gs->Prop} (hm:X.mg "len"=none) (ha:WE X ρ G a fun d G'=>∃p Ae,d=.fn p/\G' p=some (.dct Ae)/\Q (.int Ae.length) G') (hg:Gl X "len":=by rfl) (he:starEach [a] X.env=(false,eval a X.env)::starEach [] X.env:=by rfl):WE X ρ G (.Call (.Name "len" pp) [a] [] pos) Q:=
 Bw (Dq Mp hg hm PySem.boot_len (BH Ax Cr he) (by decide) (by decide) he rfl) fun σ H S=>⟨ρ,G,_,ha,S,fun x H1 ⟨_,G1,e1,o1,r1,p,Ae,q1,hG,q⟩=>by
  subst q1
  cases (show x=V.ref p from r1)
  obtain ⟨xs,h1,r2⟩:=o1 p _ hG
  refine ⟨p,xs,rfl,h1,.int Ae.length,G1,e1,o1,?_,q⟩
  rw [Rep,r2.length]⟩
structure DfA (P:Program) (w:World) (K:PySem.W.Frag) (mg:Str->Option Value) (base:Heap) (f:Addr) (ps:List Str) (k:Nat) (S:SpD):Prop where
 ex:∃fd,FnOk P w K mg base CX0 k f fd ps (BO K S)/\PySem.W.keepIn K (.ref f)=true/\Binds K fd ps []
theorem UT {S:SpD} {kk:Nat} {ps:List Str} {x:Str} {pp:Pos} {f:Addr} {Q:Dat->Gs->Prop} (hx:PX X ρ G (.Name x pp) (.fn f)) (F:DfA X.prog X.w X.K X.mg X.base f ps kk S) (hr:Room kk X.A) (ha:PXs X ρ G (e::es) ds) (hS:S ds G Q)
  (he:starEach (e::es) X.env=(false,eval e X.env)::starEach es X.env:=by rfl) (hpl:(backTo pos (starEach es X.env)).any (·.1)=false:=by rfl):WE X ρ G (.Call (.Name x pp) (e::es) [] pos) Q:=by
 obtain ⟨fd,F,hk,hb⟩:=F.ex
 intro pins s σ H I S0
 refine wpAny_Call_Name_kw (thn (hx pins s σ H I S0) fun v s1 ⟨y,H1,I1,r1,_,_,e1,o1,rx,q1,B1⟩=>?_)
 subst q1;subst B1
 cases (show y=V.ref f from rx)
 cases r1
 refine PySem.W.callWith_K (h₀:=X.base) I1.ok.mod.kin hk (thn (ha pos pins s1 σ H1 I1 (S0.ext e1 o1)) fun us s2 ⟨vs,H2,I2,r,_,_,e2,o2,r2,q2,EL⟩=>⟨I2.kIn,?_⟩) he hpl
 subst q2;subst EL
 exact SJ F hr hb .nil Wb I2 r ⟨_,_,Q,o2,by rw [List.append_nil];exact r2,hS,fun v H' d G' e' o' r' q'=>⟨d,G',(e1.trans e2).trans e',o',r',q'⟩⟩
theorem Zl {x:Str} {f:Addr} (hm:X.mg x=some (.ref f)) (hg:Gl X x:=by rfl) (hd:(x==("__debug__":Str))=false:=by decide):PX X ρ G (.Name x pos) (.fn f):=
 Bw (IL (v:=.ref f) hg hm rfl hd) fun σ H S=>Bl S.own rfl
theorem DS {x:Str} {t:Tok} (hm:X.mg x=some (.int i t)) (hg:Gl X x:=by rfl) (hd:(x==("__debug__":Str))=false:=by decide):PX X ρ G (.Name x pos) (.int i):=
 Bw (IL (v:=.int i) hg hm ⟨t,rfl⟩ hd) fun σ H S=>Bl S.own rfl
theorem cH {Q:Dat->Gs->Prop} (hu:X.A.units+9<cLine) (ha:∀p,G p=none->PX X ρ (put G p (.dct [])) a k) (hb:∀p,G p=none->PX X ρ (put G p (.dct [])) b d) (hk:B9 6 k=true) (hr:∃l,k=.tup l) (h:∀p,G p=none->Q (.fn p) (put G p (.dct [(k,d)]))):WE X ρ G (.Dict [some a] [b] pos) Q:=fun pins s σ H I S=>by
 have hp:H s.heap.objs.size=none:=I.hok.fresh (Nat.le_refl _)
 have jb:=S.own.free hp
 obtain ⟨E0,O0⟩:=Mb (X:=X) S.own hp
 have I0:Inv X pins σ (upd H s.heap.objs.size (HG s.heap.objs.size [])) { s with heap:=s.heap.push { cls:=.type "dict",data:=.dict #[] } }:=
  I.laid (a:=s.heap.objs.size) (o:=HG s.heap.objs.size []) (t':=s.toks) (fun _ _ q=>Heap.get?_push_of_some _ q) (Nat.le_refl _)
   (Ko ⟨beq_eq_false_iff_ne.mpr (Ne.symm (Nat.ne_of_lt (Inv.big I))),Nat.zero_le _,List.nodup_nil,_,#[],0,Heap.get?_push_size _ rfl,⟨rfl,rfl,rfl⟩,rfl,rfl⟩)
 refine wpAny_Dict_any rfl rfl (by simp) (show 1≤15 by decide) ?_
 show wpAny _ _ (evalPairs [(eval a X.env,do let x <-eval b X.env;standAt pos;pure x)]) _ _ _
 refine evalPairs_cons (thn (ha _ jb pins _ σ _ I0 (S.ext E0 O0)) fun kv s1 ⟨x,H1,I1,rx,_,_,e1,o1,r1,q1,B1⟩=>?_)
 subst q1;subst B1
 refine wpAny_bind (thn (hb _ jb pins s1 σ H1 I1 (S.ext (E0.trans e1) o1)) fun vv s2 ⟨y,H2,I2,ry,_,_,e2,o2,r2,q2,EL⟩=>?_)
 subst q2;subst EL
 refine wpAny_bind (wpAny_standAt (wpAny_pure (evalPairs_nil ?_)))
 obtain ⟨l,rfl⟩:=hr
 have VE:=(r1.same e2.hid).same AK
 have hx:∃t,x=V.ref t:=by rw [Rep]at VE;obtain ⟨t,_,e,_⟩:=VE;exact ⟨t,e⟩
 obtain ⟨t,rfl⟩:=hx
 cases rx
 obtain ⟨xs,h3,r3⟩:=o2 s.heap.objs.size _ AJ
 obtain ⟨z1,z2,dd⟩:=ID I2 h3 (r3.same AK)
 have rn:=DRep.put hk (r1.same e2.hid) ry r2 r3
 unfold storeAll
 rw [List.forIn_cons]
 refine wpAny_bind (wpAny_bind (wpAny_dictSet_heap (hsz:=z2) (knd:=GI X.prog X.w) (show X.A.units+6<cLine by lia) (Ja I2 hk VE) dd fun h' dd' Jw=>wpAny_pure ?_))
 show wpAny _ _ (forIn [] PUnit.unit _) _ _ _
 rw [List.forIn_nil]
 refine wpAny_pure ?_
 obtain ⟨E,O⟩:=Qd (X:=X) o2 AJ rn
 obtain ⟨o',Hv,Vu,g1,g2,g3,g4,_,g5⟩:=dd'
 refine ⟨.ref s.heap.objs.size,_,I2.write (x:=s.heap.objs.size) (e:=s.heap.objs.size) (t':=s2.toks+Gh (.tup l)) (by rw [h3];exact True.intro) (.inl rfl) (fun b o hb z=>(Jw.2 b hb).trans z) ⟨o',g1⟩ (Ko ⟨z1,?_,g5,o',Hv,Vu,g1,g2,g3,g4⟩),rfl,?_⟩
 ·refine Nat.le_trans (Nat.le_of_eq rn.length) (Nat.le_trans (En _ _ _) ?_)
  exact (by decide:1≤sizeLine)
 ·rw [B0]at E O
  exact ⟨.fn s.heap.objs.size,_,E0.trans (e1.trans (e2.trans E)),O,rfl,h _ jb⟩
end
def tyS:Dat->Option String
 |.non=>some "NoneType"
 |.bl _=>some "bool"
 |.int _=>some "int"
 |.str _=>some "str"
 |.fn _=>none
 |.scr _=>some "list"
 |.tup _=>some "tuple"
 |.lst _=>some "list"
def isS (t c:String):Bool:=t==c||(t=="bool"&&c=="int")
theorem XN {K:PySem.W.Frag} (t c:String) (ht:t∈["NoneType","bool","int","str","tuple","list"]) (hc:c∈["bool","int","str","tuple","list"]):PySem.W.kitOne K (.type t) (.type c)=some (isS t c):=by
 simp only [List.mem_cons,List.not_mem_nil,or_false]at ht hc
 rcases ht with rfl|rfl|rfl|rfl|rfl|rfl<;>rcases hc with rfl|rfl|rfl|rfl|rfl<;>rfl
section
variable {X:Cx}{ρ:Rho}{G:Gs}{e a b c:Expr}{d:Dat}{pos:Pos}
theorem Xl {pins:List (Addr×Obj)} {σ:St} {H:Hp} {s:Shared} {A:Around} {E:Value->Shared->Prop} {Q:Value->Shared->Prop} {cl:Value} {q:Bool} {v:V} {u:Value} {t:String} (I:Inv X pins σ H s) (ru:RelV v u) (r:Rep X.K H d v) (ht:tyS d=some t)
  (ek:PySem.W.kitOne X.K (.type t) cl=some q) (h:∀tk,Q (.bool q) { s with toks:=tk }):wpAny (model X.prog X.w) A (call (.builtin "isinstance") [u,cl]) Q E s:=by
 cases d with
 |fn a=>cases ht
 |non=>cases ht;rw [Rep]at r;subst r;exact E7 I ru (.non) ek h
 |bl b=>cases ht;rw [Rep]at r;subst r;exact E7 I ru (.bl b) ek h
 |int b=>cases ht;rw [Rep]at r;subst r;exact E7 I ru (.int b) ek h
 |str b=>cases ht;rw [Rep]at r;subst r;exact E7 I ru (.str b) ek h
 |scr ns=>
  cases ht
  rw [Rep]at r
  obtain ⟨a,rfl,hq⟩:=r
  cases ru
  obtain ⟨its,r',pl,hz⟩:=I.list hq
  obtain ⟨o,h1,h2,_⟩:=pl.isList
  exact PySem.W.kia_one PySem.W.kitx_list I.kIn ⟨_,h1,h2⟩ ek (fun z=>nomatch z) h
 |tup l=>
  cases ht
  rw [Rep]at r
  obtain ⟨a,vs,rfl,hq,_⟩:=r
  cases ru
  obtain ⟨its,r',pl,hz⟩:=I.tuple hq
  obtain ⟨o,h1,h2,_⟩:=pl
  exact PySem.W.kia_one PySem.W.kitx_tuple I.kIn ⟨_,h1,h2⟩ ek (fun z=>nomatch z) h
 |lst l=>
  cases ht
  rw [Rep]at r
  obtain ⟨a,vs,rfl,hq,_⟩:=r
  cases ru
  obtain ⟨its,r',pl,hz⟩:=I.list (SqL.of hq)
  obtain ⟨o,h1,h2,_⟩:=pl.isList
  exact PySem.W.kia_one PySem.W.kitx_list I.kIn ⟨_,h1,h2⟩ ek (fun z=>nomatch z) h
theorem Sy {d:Dat} {t:String} {T:String} (ht:tyS d=some t) (hT:T∈["bool","int","str","tuple","list"]):CP X (.builtin "isinstance") (fun xs H Q=>∃v,xs=[v,.ty T]/\Rep X.K H d v/\Q (.bl (isS t T)) H):=by
 intro pins s σ H xs us Q I r h
 obtain ⟨v,rfl,rd,q⟩:=h
 obtain ⟨u,w',rfl,ru,U5⟩:=Ke r
 cases (show w'=Value.type T from U5)
 refine Xl I ru rd ht (XN t T ?_ hT) fun tk=>⟨.bl _,H,I.tok _,rfl,q⟩
 cases d<;>simp only [tyS,Option.some.injEq,reduceCtorEq]at ht<;>subst ht<;>decide
theorem EC {t:String} {T:Str} {T':String} {pp p2:Pos} (hm:X.mg "isinstance"=none) (hT:X.mg T=none) (ha:PX X ρ G a d) (ht:tyS d=some t:=by rfl) (hb:bootBuiltins T=some (.type T'):=by decide +kernel) (pI:T'∈["bool","int","str","tuple","list"]:=by decide) (hg:Gl X "isinstance":=by rfl) (ZO:Gl X T:=by rfl)
  (hn:T≠"__name__":=by decide) (DQ:(T==("__debug__":Str))=false:=by decide) (he:starEach [a,.Name T p2] X.env=(false,eval a X.env)::starEach [.Name T p2] X.env:=by rfl):PX X ρ G (.Call (.Name "isinstance" pp) [a,.Name T p2] [] pos) (.bl (isS t T')):=
 Bw (Dq (Sy ht pI) hg hm (by decide +kernel) (BH Ax (BH (Uk (v:=.ty T') ZO hT hb rfl hn DQ) Cr) he) (by decide) (by decide) he rfl) fun σ H S=>⟨ρ,G,_,ha,S,fun x H1 ⟨_,_,e1,o1,r1,q1,B1⟩=>by
  subst q1;subst B1
  exact ⟨x,rfl,r1.same AK,Po.trans e1 (Bl o1 rfl)⟩⟩
end
def Kn (G G':Gs):Prop:=∀q o,G q=some o->G' q=some o
theorem Kn.refl (G:Gs):Kn G G:=fun _ _ h=>h
theorem YS {G:Gs} {p:Addr} {o:OD} (h:G p=none):Kn G (put G p o):=fun q u e=>by
 by_cases hq:q=p
 ·subst hq;rw [h]at e;cases e
 ·rw [Az hq];exact e
theorem SeqOf.kn {G G':Gs} {d:Dat} {l:List Dat} (h:SeqOf G d l) (k:Kn G G'):SeqOf G' d l:=by
 rcases h with h|h|⟨p,h1,h2⟩
 ·exact .inl h
 ·exact .inr (.inl h)
 ·exact .inr (.inr ⟨p,h1,k _ _ h2⟩)
section
variable {X:Cx}{ρ:Rho}{G:Gs}{elt target iter c:Expr}{ifs:List Expr}{scope:Scope}{Ay pos pos':Pos}{Nc:List Str}{caps:List (Option Nat)}{l:List Dat}{f:Dat->Rho->Option Rho}{D:DE}{rest:List Stmt}
theorem cW {tg it:Expr} {Pv:Nat->List Dat->Gs->Prop} (hi:WI X ρ G tg it fun l' G'=>l'=l/\G'=G) (h0:Pv 0 [] G):WI X ρ G tg it fun l' G'=>l'=l/\Pv 0 [] G':=fun pins s σ H I S=>
 thn (hi pins s σ H I S) fun v s1 h1=>thn h1 fun Zh s2 hh=>by
  obtain ⟨it,fp,tn,J,H',e,I',T,st,fk,l',G',e',o',wk,q1,q2⟩:=hh
  exact ⟨it,fp,tn,J,H',e,I',T,st,fk,l',G',e',o',wk,q1,by rw [q2];exact h0⟩
theorem T7 (g:Dat->Dat) (hz:l.length≤5000)
  (GF:∀C s' H' fp G' d,d∈l->Kn G G'->∃ρ',f d (CI caps ρ)=some ρ'/\PX (As X Nc scope C s' H' fp) ρ' G' elt (g d)) :
  ∀C s' H' fp Dd i d acc G',l[i]?=some d->(G'=G/\acc=(l.take i).map g)->G' Dd=none->∃ρ',f d (CI caps ρ)=some ρ' ∧
   Mn (As X Nc scope C s' H' fp) ρ' (put G' Dd (.lst acc)) (QB elt (As X Nc scope C s' H' fp).env (.ref Dd)) fun Uj=>∃Eg G4,Eg.length≤acc.length+1/\G4 Dd=none/\Uj=put G4 Dd (.lst Eg)/\(G4=G/\Eg=(l.take (i+1)).map g):=by
 rintro C s' H' fp Dd i d acc G' hd ⟨rfl,rfl⟩ hD
 obtain ⟨ρ',h1,h2⟩:=GF C s' H' fp (put G' Dd (.lst ((l.take i).map g))) d (List.mem_of_getElem? hd) (YS hD)
 refine ⟨ρ',h1,IZ rfl AJ ?_ (PX.we h2 ⟨AJ,_,G',?_,hD,B0,rfl,?_⟩)⟩
 ·have:((l.take i).map g).length≤l.length:=by rw [List.length_map,List.length_take];lia
  exact Nat.lt_of_le_of_lt (Nat.le_trans this hz) (by decide)
 ·simp
 ·rw [List.take_add_one,hd]
  simp
theorem DH (g:Dat->Dat) (Sc:CompSc X scope Nc caps) (Ea:X.calm=true) (hi:WI X ρ G target iter fun l' G'=>l'=l/\G'=G)
  (hg:∀C s' H' fp,PGD (As X Nc scope C s' H' fp) target f) (hle:∀d ρ',f d (CI caps ρ)=some ρ'->ρ'.length=(CI caps ρ).length/\∀(j:Nat) e,(CI caps ρ)[j]?=some (some e)->ρ'[j]?=some (some e)) (hz:l.length≤5000)
  (GF:∀C s' H' fp G' d,d∈l->Kn G G'->∃ρ',f d (CI caps ρ)=some ρ'/\PX (As X Nc scope C s' H' fp) ρ' G' elt (g d)) (Y3:∀x,foldedSetIterable iter X.env x=pure x:=by intro _;rfl) :
  PX X ρ G (.ListComp elt [⟨target,iter,[],0⟩] scope Ay) (.lst (l.map g)):=
 Vn (Pv:=fun i acc G'=>G'=G/\acc=(l.take i).map g) (M7 elt target iter scope Ay) Sc Ea (cW (Pv:=fun i acc G'=>G'=G/\acc=(l.take i).map g) hi ⟨rfl,by simp⟩) hg hle (Nat.le_trans hz (by decide)) (T7 g hz GF) (by
  rintro acc G' ⟨rfl,rfl⟩
  rw [List.take_length]
  exact ⟨rfl,rfl⟩) Y3
end
def AU (p q:Sq):Prop:=p.1<q.1\/(p.1=q.1/\p.2<q.2)
instance (p q:Sq):Decidable (AU p q):=by unfold AU;infer_instance
theorem AS (p:Sq):¬AU p p:=by unfold AU;lia
theorem A7 {p q r:Sq} (h:AU p q) (h':AU q r):AU p r:=by unfold AU at *;lia
theorem UK (p q:Sq):AU p q\/p=q\/AU q p:=by
 obtain ⟨a,b⟩:=p
 obtain ⟨c,d⟩:=q
 unfold AU
 simp only [Prod.mk.injEq]
 lia
structure Good (F:List Sq):Prop where
 ne:F≠[]
 up:F.Pairwise AU
 inn:∀p∈F,0≤p.1/\p.1≤7/\0≤p.2/\p.2≤7
 len:F.length≤24
theorem Good.nodup {F:List Sq} (h:Good F):F.Nodup:=h.up.imp fun {a b} NL e=>by subst e;exact AS _ NL
theorem sz {n:Nat} (h:n≤5000):n≤sizeLine:=Nat.le_trans h (by decide)
theorem sz1 {n:Nat} (h:n≤5000):n<sizeLine:=Nat.lt_of_le_of_lt h (by decide)
theorem Je (i:Int) (n:Nat):(Bc i n).length=n:=by simp [Bc]
theorem Oj {lo:Int} {n i:Nat} {d:Dat} (h:(Bc lo n)[i]?=some d):i<n/\d=.int (lo+(i:Nat)):=by
 have Bs:i<n:=by
  have:=(List.getElem?_eq_some_iff.mp h).1
  simpa [Bc]using this
 have:(Bc lo n)[i]?=some (.int (lo+i)):=by simp [Bc,Bs]
 rw [this]at h;cases h;exact ⟨Bs,rfl⟩
theorem JF {lo:Int} {n:Nat} {d:Dat} (h:d∈Bc lo n):∃i:Nat,i<n/\d=.int (lo+(i:Nat)):=by
 obtain ⟨i,hi⟩:=List.mem_iff_getElem?.mp h
 exact ⟨i,Oj hi⟩
def K3:SpD:=fun ds G R=>∃(ns:List Int) (k:Nat),ds=[.scr ns,.int k]/\R (.int (Ii ns k)) G
end TF
namespace TF
section
theorem DB {α:Type} [DecidableEq α]:∀{l m:List α},l.Nodup->(∀x∈l,x∈m)->l.length≤m.length
 |[],_,_,_=>Nat.zero_le _
 |a::r,m,hn,hs=>by
  obtain ⟨h1,h2⟩:=List.nodup_cons.mp hn
  have ha:=hs a (List.mem_cons_self ..)
  have:r.length≤(m.erase a).length:=DB h2 fun x hx=>by
   have D7:x≠a:=by rintro rfl;exact h1 hx
   exact (List.mem_erase_of_ne D7).mpr (hs x (List.mem_cons_of_mem _ hx))
  rw [List.length_erase_of_mem ha]at this
  have hp:0<m.length:=List.length_pos_of_mem ha
  rw [List.length_cons];lia
theorem Qz {α:Type} [DecidableEq α] {l m:List α} (h1:l.Nodup) (h2:m.Nodup) (h:∀x,x∈l↔x∈m):l.length=m.length:=
 Nat.le_antisymm (DB h1 fun x hx=>(h x).mp hx) (DB h2 fun x hx=>(h x).mpr hx)
theorem Qv {α:Type} [DecidableEq α] {l m:List α} (h1:l.Nodup) (hs:∀x∈l,x∈m) (hl:m.length≤l.length) (hm:m.Nodup):∀x∈m,x∈l:=by
 intro x hx
 refine Classical.byContradiction fun hn=>?_
 have:l.length≤(m.erase x).length:=DB h1 fun y hy=>(List.mem_erase_of_ne (by rintro rfl;exact hn hy)).mpr (hs y hy)
 rw [List.length_erase_of_mem hx]at this
 have hp:0<m.length:=List.length_pos_of_mem hx
 lia
inductive Con (R:Sq->Sq->Prop) (g:Sq->Prop) (s:Sq):Sq->Prop
 |base:Con R g s s
 |step {x y:Sq}:Con R g s x->R x y->g y->Con R g s y
section
variable {R R':Sq->Sq->Prop}{g g':Sq->Prop}{s x y:Sq}
theorem Con.in (h:Con R g s x) (hs:g s):g x:=by
 cases h with
 |base=>exact hs
 |step _ _ gy=>exact gy
end
structure RL (R:Sq->Sq->Prop) (g:Sq->Prop) (s:Sq) (L:List Sq):Prop where
 nd:L.Nodup
 iff:∀x,x∈L↔Con R g s x
open Classical in
def card (R:Sq->Sq->Prop) (g:Sq->Prop) (s:Sq):Nat:=if h:∃L,RL R g s L then (Classical.choose h).length else 0
theorem RL.card {R:Sq->Sq->Prop} {g:Sq->Prop} {s:Sq} {L:List Sq} (h:RL R g s L):card R g s=L.length:=by
 have hx:∃L,RL R g s L:=⟨L,h⟩
 unfold TF.card
 rw [dif_pos hx]
 have h':=Classical.choose_spec hx
 exact Qz h'.nd h.nd fun x=>(h'.iff x).trans (h.iff x).symm
theorem RL.all {R:Sq->Sq->Prop} {g:Sq->Prop} {s:Sq} {L B:List Sq} (h:RL R g s L) (hB:B.Nodup) (hg:∀x,x∈B↔g x) (hs:g s):L.length≤B.length/\(L.length=B.length↔∀x,g x->Con R g s x):=by
 have sub:∀x∈L,x∈B:=fun x hx=>(hg x).mpr (((h.iff x).mp hx).in hs)
 have le:=DB h.nd sub
 refine ⟨le,fun e x hx=>(h.iff x).mp (Qv h.nd sub (by lia) hB x ((hg x).mpr hx)),fun a=>?_⟩
 exact Nat.le_antisymm le (DB hB fun x hx=>(h.iff x).mpr (a x ((hg x).mp hx)))
def nbM (q:Sq):List Sq:=[(q.1-1,q.2),(q.1,q.2-1),(q.1,q.2+1),(q.1+1,q.2)]
end
section
open Classical in
theorem kK {R:Sq->Sq->Prop} {g:Sq->Prop} {s:Sq} {B:List Sq} (hB:B.Nodup) (hg:∀x,x∈B↔g x) (hs:g s):∃L,RL R g s L:=
 ⟨B.filter fun x=>decide (Con R g s x),hB.filter _,fun x=>by
  rw [List.mem_filter,decide_eq_true_eq]
  exact ⟨fun h=>h.2,fun h=>⟨(hg x).mpr (h.in hs),h⟩⟩⟩
theorem UB {R:Sq->Sq->Prop} {g:Sq->Prop} {s:Sq} {B:List Sq} (hB:B.Nodup) (hg:∀x,x∈B↔g x) (hs:g s):card R g s≤B.length/\(card R g s=B.length↔∀x,g x->Con R g s x):=by
 obtain ⟨L,h⟩:=kK (R:=R) hB hg hs
 rw [h.card]
 exact h.all hB hg hs
abbrev nbR:Sq->Sq->Prop:=fun p q=>q∈nbM p
def HS (F:List Sq):Bool:=(((card nbR (·∈F) (F.headD (0,0)):Nat):Int)==((F.length:Nat):Int))
end
end TF
namespace TF
open PySem PySem.Spec L2
open PyProof.Rows hiding St RelV
theorem gM {G:Gs} {p1 p2:Addr} {A B A' B':OD} (h:p1≠p2):put (put (put (put G p1 A) p2 B) p1 A') p2 B'=put (put G p1 A') p2 B':=by
 funext b
 simp only [put]
 by_cases h2:b=p2
 ·simp [h2]
 ·by_cases h1:b=p1
  ·simp [h1]
  ·simp [h1,h2]
theorem PW (G:Gs) (q:List Sq):O1 G (fl q)=some q.length:=by simp [O1,fl]
theorem WQ {F:List Sq} (gd:Good F):atI (F.map sq) 0=some (sq (F.headD (0,0))):=by
 cases F with
 |nil=>exact absurd rfl gd.ne
 |cons a r=>exact IM (j:=0) rfl
theorem Of (q:Sq):B9 6 (sq q)=true:=rfl
def kvT (q:Sq):Dat×Dat:=(sq q,.bl true)
theorem SD (L:List Sq) (v:Sq->Dat) (y:Sq):Aw (L.map fun q=>(sq q,v q)) (sq y)=if y∈L then some (v y)else none:=by
 induction L with
 |nil=>rfl
 |cons a r ih=>
  unfold Aw at ih ⊢
  rw [List.map_cons,List.find?_cons]
  by_cases h:a=y
  ·subst h
   simp
  ·have D7:sq a≠sq y:=fun e=>h (Uc e)
   rw [decide_eq_false D7]
   simp only
   rw [ih]
   have:(y∈a::r)↔y∈r:=by simp [Ne.symm h]
   simp only [this]
theorem Ll (L:List Sq) (y:Sq):(Aw (L.map kvT) (sq y)).isSome=L.contains y:=by
 have:=SD L (fun _=>.bl true) y
 have e:(L.map fun q=>(sq q,Dat.bl true))=L.map kvT:=rfl
 rw [e]at this
 rw [this]
 by_cases h:y∈L<;>simp [h]
theorem Yy {L:List Sq} {y:Sq} (h:y∉L):FE (L.map kvT) (sq y) (.bl true)=(L++[y]).map kvT:=by
 rw [TR,List.map_append]
 ·rfl
 ·have:=Ll L y
  cases e:Aw (L.map kvT) (sq y)with
  |none=>rfl
  |some d=>rw [e]at this;simp [h]at this
def Qi (nb:Sq->List Sq):SpD:=fun ds G R=>∃q:Sq,ds=[sq q]/\R (.lst ((nb q).map sq)) G
def E5 (P:Program) (w:World) (K:PySem.W.Frag) (mg:Str->Option Value) (base:Heap) (kk:Nat):SpD:=fun ds G R=>∃(start:Sq) (g:List Sq) (gd:Dat) (f:Addr) (nb:Sq->List Sq),
 ds=[sq start,gd,.fn f]/\(gd=.tup (g.map sq)\/gd=.lst (g.map sq))/\DfA P w K mg base f ["square"] kk (Qi nb)/\g.length≤1000 ∧
  ∀p L,G p=none->RL (fun a b=>b∈nb a) (·∈g) start L->R (.fn p) (put G p (.dct (L.map kvT)))
def spF (v:List Sq->Dat):SpD:=fun ds G R=>∃F:List Sq,ds=[fl F]/\Good F/\R (v F) G
theorem VR {nb:Sq->List Sq} {g:List Sq} {s x:Sq} (h:Con (fun a b=>b∈nb a) (·∈g) s x):x∈s::g:=by
 cases h with
 |base=>exact List.mem_cons_self ..
 |step _ _ gy=>exact List.mem_cons_of_mem _ gy
theorem cN {R:Sq->Sq->Prop} {g:Sq->Prop} {s:Sq} {L:List Sq} (nd:L.Nodup) (hs:s∈L) (hc:∀x∈L,Con R g s x) (cl:∀x∈L,∀y,R x y->g y->y∈L):RL R g s L:=
 ⟨nd,fun x=>⟨hc x,fun h=>by
  induction h with
  |base=>exact hs
  |step _ r gy ih=>exact cl _ ih _ r gy⟩⟩
theorem J7 (q:Sq):AF 8 (sq q)=true:=Al q 7
theorem EH (l:List Sq):(l.map sq).all (AF 8)=true:=D8 l 7
theorem UG (q:Sq):(nbM q).Nodup:=by
 obtain ⟨a,b⟩:=q
 simp only [nbM,List.nodup_cons,List.mem_cons,List.not_mem_nil,or_false,Prod.mk.injEq,List.nodup_nil,and_true,not_false_eq_true]
 lia
def Kw:SpD:=fun ds G R=>∃(ns:List Int),ds=[.scr ns]/\R (.bl true) G
theorem bU (l:List Dat):Tp l (some 1) none=l.drop 1:=by
 unfold Tp
 cases l with
 |nil=>rfl
 |cons x r=>
  have e:HT.sIx (x::r).length 0 (some 1)=1:=by
   have:=HT.sIx_nat (x::r).length 0 1
   rw [show ((1:Nat):Int)=1 from rfl]at this
   rw [this,List.length_cons]
   lia
  rw [e,HT.sIx_none]
  simp
end TF
namespace TS
open PySem PyProof.Rows
section
variable {prog:Program}{w:World}{A:Around}{E:Value->Shared->Prop}{s:Shared}{a₀:Array Keyed}{r:Keyed->Nat}{k0:SortKind}
def CmpOk (prog:Program) (w:World) (A:Around) (s:Shared) (a₀:Array Keyed) (r:Keyed->Nat) (k0:SortKind):Prop:=
 ∀x y,x∈a₀.toList->y∈a₀.toList->∀(E:Value->Shared->Prop) (Q:Bool->Shared->Prop),Q (decide (r x<r y)) s->wpAny (model prog w) A (keyLt' k0 x.1 y.1) Q E s
structure SB (a₀:Array Keyed) (k0:SortKind) (st:SortSt):Prop where
 perm:(arrOf st).Perm a₀
 kind:kindOf st=k0
 failed:failedOf st=none
theorem SB.size {st:SortSt} (h:SB a₀ k0 st):(arrOf st).size=a₀.size:=h.perm.size_eq
theorem SB.mem {st:SortSt} (h:SB a₀ k0 st) {p:Keyed} (hp:p∈(arrOf st).toList):p∈a₀.toList:=(Array.perm_iff_toList_perm.mp h.perm).mem_iff.mp hp
theorem SB.memAt {st:SortSt} (h:SB a₀ k0 st) {i:Nat} {p:Keyed} (hp:(arrOf st)[i]?=some p):p∈a₀.toList:=h.mem (by
 have:=Array.mem_of_getElem? hp
 exact Array.mem_toList_iff.mpr this)
theorem SB.setArr {st:SortSt} (h:SB a₀ k0 st) {xs:Array Keyed} (hp:xs.Perm (arrOf st)):SB a₀ k0 (setArr st xs):=⟨hp.trans h.perm,h.kind,h.failed⟩
def Rk (r:Keyed->Nat) (xs:Array Keyed) (i:Nat):Nat:=match xs[i]? with
 |some p=>r p
 |none=>0
theorem P7 {xs:Array Keyed} {i:Nat} {p:Keyed} (h:xs[i]?=some p):Rk r xs i=r p:=by unfold Rk;rw [h]
theorem El {xs ys:Array Keyed} {i j:Nat} (h:xs[i]?=ys[j]?):Rk r xs i=Rk r ys j:=by unfold Rk;rw [h]
theorem Ds {xs:Array Keyed} {i j:Nat} (hj:j≤xs.size) (k:Nat):Rk r (mirror xs i j ((j-i) / 2)) k=if i≤k/\k<j then Rk r xs (i+j-1-k)else Rk r xs k:=by
 have e:=getElem?_mirror_all (i:=i) hj k
 by_cases h:i≤k/\k<j
 ·rw [if_pos h]at e ⊢;exact El e
 ·rw [if_neg h]at e ⊢;exact El e
theorem Qe {xs:Array Keyed} {i j:Nat} (hj:j≤xs.size) {k:Nat} (hk:k<i):(mirror xs i j ((j-i) / 2))[k]?=xs[k]?:=by
 rw [getElem?_mirror_all (i:=i) hj k,if_neg (by lia)]
theorem Il (hc:CmpOk prog w A s a₀ r k0) {st:SortSt} (hB:SB a₀ k0 st) {x y:Keyed} (hx:x∈a₀.toList) (hy:y∈a₀.toList) {Q:Option Bool->SortSt->Prop} (h:Q (some (decide (r x<r y))) st):wpS (model prog w) A E s (lt' x y) Q st:=by
 rw [lt'_eq]
 refine wpS_bind (wpS_get ?_)
 rw [hB.kind]
 refine wpS_bind (wpS_lift (wpAny_attempt (hc x y hx hy _ _ ⟨rfl,?_⟩)))
 exact wpS_pure h
theorem Af {st:SortSt} {xs:Array Keyed} {i:Nat} {p:Keyed} (hp:xs[i]?=some p) {Q:Keyed->SortSt->Prop} (h:Q p st):wpS (model prog w) A E s (elem' xs i) Q st:=by
 rw [elem'_eq,hp]
 exact wpS_pure h
theorem Dl (hc:CmpOk prog w A s a₀ r k0) {st:SortSt} (hB:SB a₀ k0 st) {i j:Nat} (hi:i<a₀.size) (hj:j<a₀.size) {Q:Option Bool->SortSt->Prop} (h:Q (some (decide (Rk r (arrOf st) i<Rk r (arrOf st) j))) st):wpS (model prog w) A E s (ltAt' i j) Q st:=by
 have ei:(arrOf st)[i]?=some ((arrOf st)[i]'(by rw [hB.size];exact hi)):=getElem?_pos _ i (by rw [hB.size];exact hi)
 have ej:(arrOf st)[j]?=some ((arrOf st)[j]'(by rw [hB.size];exact hj)):=getElem?_pos _ j (by rw [hB.size];exact hj)
 rw [P7 ei,P7 ej]at h
 rw [ltAt'_eq]
 refine wpS_bind (wpS_get ?_)
 refine wpS_bind (Af ei ?_)
 refine wpS_bind (Af ej ?_)
 exact Il hc hB (hB.memAt ei) (hB.memAt ej) h
def KA:Nat->Nat->StateT SortSt Sem (Option Nat):=sortPriv% PySem.Builtin.countRun
def HV:Nat->Nat->Nat->StateT SortSt Sem Bool:=sortPriv% PySem.Builtin.binarySort
def II:Bool->Keyed->Array Keyed->Nat->Nat->Nat->StateT SortSt Sem (Option Nat):=sortPriv% PySem.Builtin.gallop
def M4:Array Keyed->Array Keyed->StateT SortSt Sem (Array Keyed):=sortPriv% PySem.Builtin.mergeLo
def NK:Array Keyed->Array Keyed->StateT SortSt Sem (Array Keyed):=sortPriv% PySem.Builtin.mergeHi
structure Kp (a₀:Array Keyed) (k0:SortKind) (lo:Nat) (st AQ:SortSt):Prop where
 base:SB a₀ k0 AQ
 pend:pendingOf AQ=pendingOf st
 low:∀k,k<lo->(arrOf AQ)[k]?=(arrOf st)[k]?
theorem Kp.refl {st:SortSt} {lo:Nat} (h:SB a₀ k0 st):Kp a₀ k0 lo st st:=⟨h,rfl,fun _ _=>rfl⟩
theorem Kp.trans {st Bj Ci:SortSt} {lo:Nat} (h:Kp a₀ k0 lo st Bj) (h':Kp a₀ k0 lo Bj Ci):Kp a₀ k0 lo st Ci:=⟨h'.base,h'.pend.trans h.pend,fun k hk=>(h'.low k hk).trans (h.low k hk)⟩
theorem Kp.mirror {st:SortSt} {lo i j:Nat} (h:SB a₀ k0 st) (hi:lo≤i) (hj:j≤a₀.size):Kp a₀ k0 lo st (PyProof.Rows.setArr st (mirror (arrOf st) i j ((j-i) / 2))):=
 ⟨h.setArr (mirror_perm _ _ _ _),rfl,fun k hk=>Qe (by rw [h.size];exact hj) (by lia)⟩
def Up (r:Keyed->Nat) (xs:Array Keyed) (a b:Nat):Prop:=∀i j,a≤i->i≤j->j<b->Rk r xs i≤Rk r xs j
def Dn (r:Keyed->Nat) (xs:Array Keyed) (a b:Nat):Prop:=∀i j,a≤i->i≤j->j<b->Rk r xs j≤Rk r xs i
theorem YR (xs:Array Keyed) (a:Nat):Up r xs a (a+1):=fun i j h1 h2 h3=>by
 obtain rfl:i=j:=by lia
 exact Nat.le_refl _
theorem PU {xs:Array Keyed} {a b:Nat} (h:Up r xs a b) (NL:a<b) (hl:Rk r xs (b-1)≤Rk r xs b):Up r xs a (b+1):=fun i j h1 h2 h3=>by
 by_cases hj:j<b
 ·exact h i j h1 h2 hj
 ·obtain rfl:j=b:=by lia
  by_cases hi:i=j
  ·subst hi;exact Nat.le_refl _
  ·exact Nat.le_trans (h i (j-1) h1 (by lia) (by lia)) hl
theorem Lm {xs:Array Keyed} {a b:Nat} (h:Dn r xs a b) (NL:a<b) (hl:Rk r xs b≤Rk r xs (b-1)):Dn r xs a (b+1):=fun i j h1 h2 h3=>by
 by_cases hj:j<b
 ·exact h i j h1 h2 hj
 ·obtain rfl:j=b:=by lia
  by_cases hi:i=j
  ·subst hi;exact Nat.le_refl _
  ·exact Nat.le_trans hl (h i (j-1) h1 (by lia) (by lia))
theorem Oy {M:Model} {σ α:Type} {c:Prop} [Decidable c] {m t:StateT σ Sem α} {Q:α->σ->Prop} {st:σ} {P:σ->Prop} (ht:∀Bj,P Bj->wpS M A E s t Q Bj) (h:(∀Bj,P Bj->wpS M A E s t Q Bj)->wpS M A E s (if c then m else t) Q st):wpS M A E s (if c then m else t) Q st:=h ht
theorem Ms {M:Model} {σ α:Type} {c:Prop} [Decidable c] {m t:StateT σ Sem α} {Q:α->σ->Prop} {st:σ} {P:σ->Prop} (ht:∀Bj,P Bj->wpS M A E s t Q Bj) (h:(∀Bj,P Bj->wpS M A E s t Q Bj)->wpS M A E s (if c then m else t) Q st):wpS M A E s (if c then m else t) Q st:=h ht
theorem Lh (hc:CmpOk prog w A s a₀ r k0) {st:SortSt} (hB:SB a₀ k0 st) {lo nrem:Nat} (h1:1≤nrem) (h2:lo+nrem≤a₀.size) {Q:Option Nat->SortSt->Prop}
  (h:∀m AQ,1≤m->m≤nrem->Kp a₀ k0 lo st AQ->Up r (arrOf AQ) lo (lo+m)->Q (some m) AQ):wpS (model prog w) A E s (KA lo nrem) Q st:=by
 unfold KA
 refine wpS_bind (wpS_mono (wpS_forRange (I:=fun x c AQ=>AQ=st/\c=(none,x)/\x≤nrem/\Up r (arrOf st) lo (lo+x))
  (Q:=fun c AQ=>AQ=st/\∃n,c=(none,n)/\1≤n/\n≤nrem/\Up r (arrOf st) lo (lo+n)/\(n=nrem\/Rk r (arrOf st) (lo+n)<Rk r (arrOf st) (lo+n-1))) ?_ ?_ ⟨rfl,rfl,h1,YR _ _⟩) ?_)
 ·rintro x c AQ N6 Qb ⟨rfl,rfl,hx,hU⟩
  refine wpS_bind (Dl hc hB (by lia) (by lia) ?_)
  dsimp only
  by_cases Bs:Rk r (arrOf AQ) (lo+x)<Rk r (arrOf AQ) (lo+x-1)
  ·rw [decide_eq_true Bs,if_pos rfl]
   exact wpS_pure ⟨rfl,x,rfl,N6,hx,hU,.inr Bs⟩
  ·rw [decide_eq_false Bs,if_neg (by decide)]
   exact wpS_pure ⟨rfl,rfl,by lia,PU (b:=lo+x) hU (by lia) (by lia)⟩
 ·rintro c AQ ⟨rfl,rfl,hx,hU⟩
  have e:max 1 nrem=nrem:=by lia
  rw [e]at hU ⊢
  exact ⟨rfl,nrem,rfl,h1,Nat.le_refl _,hU,.inl rfl⟩
 rintro c AQ ⟨rfl,n,rfl,bG,Yb,hU,Xa⟩
 dsimp only
 by_cases hnn:n=nrem
 ·rw [if_pos (by simpa using hnn)]
  exact wpS_pure (h n _ bG Yb (Kp.refl hB) hU)
 rw [if_neg (by simpa using hnn)]
 have Bs:=Xa.resolve_left hnn
 refine Oy (P:=fun Bj=>Kp a₀ k0 lo AQ Bj/\Dn r (arrOf Bj) lo (lo+(n+1))) ?tail ?rest
 case rest=>
  intro tail
  by_cases ZG:n > 1
  ·rw [if_pos ZG]
   refine wpS_bind (Dl hc hB (by lia) (by lia) ?_)
   dsimp only
   by_cases hrose:Rk r (arrOf AQ) lo<Rk r (arrOf AQ) (lo+n-1)
   ·rw [decide_eq_true hrose,if_pos rfl]
    exact wpS_pure (h n _ bG Yb (Kp.refl hB) hU)
   ·rw [decide_eq_false hrose,if_neg (by decide)]
    refine wpS_bind (wpS_modify (tail _ ⟨Kp.mirror hB (Nat.le_refl _) (by lia),?_⟩))
    have hsz:lo+n≤(arrOf AQ).size:=by rw [hB.size];lia
    have heq:∀k,lo≤k->k<lo+n->Rk r (arrOf AQ) k=Rk r (arrOf AQ) (lo+n-1):=fun k g1 g2=>by
     have:=hU lo k (Nat.le_refl _) g1 g2
     have:=hU k (lo+n-1) g1 (by lia) (by lia)
     lia
    have hR:∀k,Rk r (mirror (arrOf AQ) lo (lo+n) ((lo+n-lo) / 2)) k=Rk r (arrOf AQ) k:=fun k=>by
     rw [Ds hsz]
     split
     ·rw [heq _ (by lia) (by lia),heq k (by lia) (by lia)]
     ·rfl
    intro i j g1 g2 g3
    show Rk r (mirror (arrOf AQ) lo (lo+n) ((lo+n-lo) / 2)) j≤Rk r (mirror (arrOf AQ) lo (lo+n) ((lo+n-lo) / 2)) i
    rw [hR,hR]
    by_cases hj:j=lo+n
    ·subst hj
     by_cases hi:i=lo+n
     ·subst hi;exact Nat.le_refl _
     ·rw [heq i g1 (by lia)];lia
    ·rw [heq i g1 (by lia),heq j (by lia) (by lia)]
     exact Nat.le_refl _
  ·rw [if_neg ZG]
   obtain rfl:n=1:=by lia
   refine tail _ ⟨Kp.refl hB,?_⟩
   intro i j g1 g2 g3
   by_cases hi:i=j
   ·subst hi;exact Nat.le_refl _
   ·obtain rfl:i=lo:=by lia
    obtain rfl:j=i+1:=by lia
    have:i+1-1=i:=by lia
    rw [this]at Bs
    lia
 case tail=>
  rintro Bj ⟨oP,ue⟩
  refine wpS_bind (wpS_lift (wpAny_rule ⟨rfl,?_⟩))
  refine wpS_bind (wpS_mono (wpS_forRange (I:=fun x c AQ=>∃LR,c=(none,x,LR)/\x≤nrem/\Kp a₀ k0 lo Bj AQ/\Dn r (arrOf AQ) lo (lo+x)/\LR+1≤x/\∀i,lo+x-(LR+1)≤i->i<lo+x->Rk r (arrOf AQ) i=Rk r (arrOf AQ) (lo+x-1))
   (Q:=fun c AQ=>∃m LR,c=(none,m,LR)/\n+1≤m/\m≤nrem/\Kp a₀ k0 lo Bj AQ/\Dn r (arrOf AQ) lo (lo+m)/\LR+1≤m/\∀i,lo+m-(LR+1)≤i->i<lo+m->Rk r (arrOf AQ) i=Rk r (arrOf AQ) (lo+m-1)) ?_ ?_ ⟨0,rfl,by lia,Kp.refl oP.base,ue,by lia,fun i g1 g2=>by congr 1;lia⟩) ?_)
  ·rintro x c Ci N6 Qb ⟨LR,rfl,hx,Jp,Ug,hq,he⟩
   have hsz:lo+x≤(arrOf Ci).size:=by rw [Jp.base.size];lia
   dsimp only
   refine wpS_bind (Dl hc Jp.base (by lia) (by lia) ?_)
   dsimp only
   by_cases SH:Rk r (arrOf Ci) (lo+x)<Rk r (arrOf Ci) (lo+x-1)
   ·rw [decide_eq_true SH,if_pos rfl]
    by_cases hneq:LR > 0
    ·rw [if_pos hneq]
     refine wpS_bind (wpS_modify (wpS_pure ⟨0,rfl,by lia,Jp.trans (Kp.mirror Jp.base (by lia) (by lia)),?_,by lia,fun i g1 g2=>by congr 1;lia⟩))
     have hR:∀k,Rk r (mirror (arrOf Ci) (lo+x-(LR+1)) (lo+x) ((lo+x-(lo+x-(LR+1))) / 2)) k=Rk r (arrOf Ci) k:=fun k=>by
      rw [Ds hsz]
      split
      ·rw [he _ (by lia) (by lia),he k (by lia) (by lia)]
      ·rfl
     intro i j g1 g2 g3
     show Rk r (mirror (arrOf Ci) _ _ _) j≤Rk r (mirror (arrOf Ci) _ _ _) i
     rw [hR,hR]
     exact Lm (b:=lo+x) Ug (by lia) (by lia) i j g1 g2 g3
    ·rw [if_neg hneq]
     exact wpS_pure ⟨0,rfl,by lia,Jp,Lm (b:=lo+x) Ug (by lia) (by lia),by lia,fun i g1 g2=>by congr 1;lia⟩
   ·rw [decide_eq_false SH,if_neg (by decide)]
    refine wpS_bind (Dl hc Jp.base (by lia) (by lia) ?_)
    dsimp only
    by_cases dH:Rk r (arrOf Ci) (lo+x-1)<Rk r (arrOf Ci) (lo+x)
    ·rw [decide_eq_true dH,if_pos rfl]
     exact wpS_pure ⟨x,LR,rfl,N6,hx,Jp,Ug,hq,he⟩
    ·rw [decide_eq_false dH,if_neg (by decide)]
     refine wpS_pure ⟨LR+1,rfl,by lia,Jp,Lm (b:=lo+x) Ug (by lia) (by lia),by lia,fun i g1 g2=>?_⟩
     have e:lo+(x+1)-1=lo+x:=by lia
     rw [e]
     by_cases hi:i=lo+x
     ·subst hi;rfl
     ·rw [he i (by lia) (by lia)];lia
  ·rintro c Ci ⟨LR,rfl,hx,Jp,Ug,hq,he⟩
   have e:max (n+1) nrem=nrem:=by lia
   rw [e]at Ug hq he ⊢
   exact ⟨nrem,LR,rfl,by lia,Nat.le_refl _,Jp,Ug,hq,he⟩
  rintro c Ci ⟨m,LR,rfl,nA,jD,Jp,Ug,hq,he⟩
  dsimp only
  have hsz:lo+m≤(arrOf Ci).size:=by rw [Jp.base.size];lia
  refine Ms (P:=fun FI=>Kp a₀ k0 lo Bj FI/\Dn r (arrOf FI) lo (lo+m)) ?_ ?_
  ·rintro FI ⟨XJ,uC⟩
   have Sb:lo+m≤(arrOf FI).size:=by rw [XJ.base.size];lia
   have nj:=Kp.mirror (lo:=lo) (i:=lo) (j:=lo+m) XJ.base (Nat.le_refl _) (by lia)
   refine wpS_bind (wpS_modify ?_)
   refine wpS_bind (wpS_mono (wpS_forRange (I:=fun x c AQ=>AQ=PyProof.Rows.setArr FI (mirror (arrOf FI) lo (lo+m) ((lo+m-lo) / 2))/\c=(none,x)/\x≤nrem/\Up r (mirror (arrOf FI) lo (lo+m) ((lo+m-lo) / 2)) lo (lo+x))
    (Q:=fun c AQ=>AQ=PyProof.Rows.setArr FI (mirror (arrOf FI) lo (lo+m) ((lo+m-lo) / 2))/\∃n,c=(none,n)/\1≤n/\n≤nrem/\Up r (mirror (arrOf FI) lo (lo+m) ((lo+m-lo) / 2)) lo (lo+n)) ?_ ?_ ⟨rfl,rfl,jD,?_⟩) ?_)
   ·rintro x c AQ N6 Qb ⟨rfl,rfl,hx,hU⟩
    refine wpS_bind (Dl hc nj.base (by lia) (by lia) ?_)
    dsimp only
    by_cases Bs:Rk r (mirror (arrOf FI) lo (lo+m) ((lo+m-lo) / 2)) (lo+x)<Rk r (mirror (arrOf FI) lo (lo+m) ((lo+m-lo) / 2)) (lo+x-1)
    ·rw [decide_eq_true Bs,if_pos rfl]
     exact wpS_pure ⟨rfl,x,rfl,by lia,hx,hU⟩
    ·rw [decide_eq_false Bs,if_neg (by decide)]
     exact wpS_pure ⟨rfl,rfl,by lia,PU (b:=lo+x) hU (by lia) (by lia)⟩
   ·rintro c AQ ⟨rfl,rfl,hx,hU⟩
    have e:max m nrem=nrem:=by lia
    rw [e]at hU ⊢
    exact ⟨rfl,nrem,rfl,h1,Nat.le_refl _,hU⟩
   ·intro i j g1 g2 g3
    rw [Ds Sb,Ds Sb,if_pos (by lia),if_pos (by lia)]
    exact uC _ _ (by lia) (by lia) (by lia)
   ·rintro c AQ ⟨rfl,n',rfl,fU,ji,sj⟩
    exact wpS_pure (h n' _ fU ji (oP.trans (XJ.trans nj)) sj)
  ·intro tail
   by_cases hneq:LR > 0
   ·rw [if_pos hneq]
    refine wpS_bind (wpS_modify (tail _ ⟨Jp.trans (Kp.mirror Jp.base (by lia) (by lia)),?_⟩))
    have hR:∀k,Rk r (mirror (arrOf Ci) (lo+m-(LR+1)) (lo+m) ((lo+m-(lo+m-(LR+1))) / 2)) k=Rk r (arrOf Ci) k:=fun k=>by
     rw [Ds hsz]
     split
     ·rw [he _ (by lia) (by lia),he k (by lia) (by lia)]
     ·rfl
    intro i j g1 g2 g3
    show Rk r (mirror (arrOf Ci) _ _ _) j≤Rk r (mirror (arrOf Ci) _ _ _) i
    rw [hR,hR]
    exact Ug i j g1 g2 g3
   ·rw [if_neg hneq]
    exact tail _ ⟨Jp,Ug⟩
end
section
variable {prog:Program}{w:World}{A:Around}{E:Value->Shared->Prop}{s:Shared}{a₀:Array Keyed}{r:Keyed->Nat}{k0:SortKind}
theorem KN {xs:Array Keyed} {src d:Nat} (hs:src<xs.size) (hd:d≤src) (k:Nat):Rk r (bubble xs src d) k=if k=src-d then Rk r xs src else if src-d<k/\k≤src then Rk r xs (k-1)else Rk r xs k:=by
 have e:=getElem?_bubble hs d hd k
 by_cases h1:k=src-d
 ·rw [if_pos h1]at e ⊢;exact El e
 ·rw [if_neg h1]at e ⊢
  by_cases h2:src-d<k/\k≤src
  ·rw [if_pos h2]at e ⊢;exact El e
  ·rw [if_neg h2]at e ⊢;exact El e
theorem JN (hc:CmpOk prog w A s a₀ r k0) {st:SortSt} (hB:SB a₀ k0 st) {lo n ok:Nat} (h2:lo+n≤a₀.size) (hok:ok≤n) (hU:Up r (arrOf st) lo (lo+ok)) {Q:Bool->SortSt->Prop}
  (h:∀AQ,Kp a₀ k0 lo st AQ->Up r (arrOf AQ) lo (lo+n)->Q true AQ):wpS (model prog w) A E s (HV lo n ok) Q st:=by
 unfold HV
 refine wpS_bind (wpS_mono (wpS_forRange (I:=fun k c AQ=>c=(none,())/\Kp a₀ k0 lo st AQ/\Up r (arrOf AQ) lo (lo+min k n))
  (Q:=fun c AQ=>c=(none,())/\Kp a₀ k0 lo st AQ/\Up r (arrOf AQ) lo (lo+n)) ?_ ?_ ⟨rfl,Kp.refl hB,?_⟩) ?_)
 ·rintro k c Bj OR FF ⟨rfl,hK,Wr⟩
  have e:min k n=k:=by lia
  rw [e]at Wr
  have hsz:lo+k<(arrOf Bj).size:=by rw [hK.base.size];lia
  dsimp only
  refine wpS_bind (wpS_mono (wpS_forRange (I:=fun x c AQ=>AQ=Bj/\∃l u,c=(none,l,u)/\l≤u/\u≤k/\u-l≤k-x/\(∀i,i<l->Rk r (arrOf Bj) (lo+i)≤Rk r (arrOf Bj) (lo+k))/\∀i,u≤i->i<k->Rk r (arrOf Bj) (lo+k)<Rk r (arrOf Bj) (lo+i))
   (Q:=fun c AQ=>AQ=Bj/\∃l u,c=(none,l,u)/\l≤k/\(∀i,i<l->Rk r (arrOf Bj) (lo+i)≤Rk r (arrOf Bj) (lo+k))/\∀i,l≤i->i<k->Rk r (arrOf Bj) (lo+k)<Rk r (arrOf Bj) (lo+i)) ?_ ?_ ⟨rfl,0,k,rfl,by lia,by lia,by lia,fun i hi=>by lia,fun i g1 g2=>by lia⟩) ?_)
  ·rintro x c Ci N6 Qb ⟨rfl,l,u,rfl,g1,g2,g3,g4,g5⟩
   dsimp only
   by_cases Jm:l≥u
   ·rw [if_pos Jm]
    exact wpS_pure ⟨rfl,l,u,rfl,by lia,g4,fun i q1 q2=>g5 i (by lia) q2⟩
   ·rw [if_neg Jm]
    refine wpS_bind (Dl hc hK.base (by lia) (by lia) ?_)
    dsimp only
    by_cases hl:Rk r (arrOf Ci) (lo+k)<Rk r (arrOf Ci) (lo+(l+u) / 2)
    ·rw [decide_eq_true hl,if_pos rfl]
     refine wpS_pure ⟨rfl,l,(l+u) / 2,rfl,by lia,by lia,by lia,g4,fun i q1 q2=>?_⟩
     have:=Wr (lo+(l+u) / 2) (lo+i) (by lia) (by lia) (by lia)
     lia
    ·rw [decide_eq_false hl,if_neg (by decide)]
     refine wpS_pure ⟨rfl,(l+u) / 2+1,u,rfl,by lia,by lia,by lia,fun i q1=>?_,g5⟩
     have:=Wr (lo+i) (lo+(l+u) / 2) (by lia) (by lia) (by lia)
     lia
  ·rintro c Ci ⟨rfl,l,u,rfl,g1,g2,g3,g4,g5⟩
   exact ⟨rfl,l,u,rfl,by lia,g4,fun i q1 q2=>g5 i (by lia) q2⟩
  ·rintro c Ci ⟨rfl,l,u,rfl,g1,g2,g3⟩
   dsimp only
   refine wpS_bind (wpS_modify (wpS_pure ⟨rfl,hK.trans ⟨hK.base.setArr (bubble_perm _ (lo+k) (lo+k-(lo+l))),rfl,fun q hq=>?_⟩,?_⟩))
   ·show (bubble (arrOf Ci) (lo+k) (lo+k-(lo+l)))[q]?=_
    rw [getElem?_bubble hsz _ (by lia),if_neg (by lia),if_neg (by lia)]
   ·have e1:min (k+1) n=k+1:=by lia
    rw [e1]
    intro i j q1 q2 q3
    show Rk r (bubble (arrOf Ci) (lo+k) (lo+k-(lo+l))) i≤Rk r (bubble (arrOf Ci) (lo+k) (lo+k-(lo+l))) j
    rw [KN hsz (by lia),KN hsz (by lia),show lo+k-(lo+k-(lo+l))=lo+l by lia]
    have a1:∀i,lo≤i->i<lo+l->Rk r (arrOf Ci) i≤Rk r (arrOf Ci) (lo+k):=fun i z1 z2=>by
     have:=g2 (i-lo) (by lia)
     rwa [show lo+(i-lo)=i by lia]at this
    have a2:∀i,lo+l≤i->i<lo+k->Rk r (arrOf Ci) (lo+k)<Rk r (arrOf Ci) i:=fun i z1 z2=>by
     have:=g3 (i-lo) (by lia) (by lia)
     rwa [show lo+(i-lo)=i by lia]at this
    repeat' split
    all_goals first
     |(exfalso;lia)
     |exact Nat.le_refl _
     |exact Nat.le_of_lt (a2 _ (by lia) (by lia))
     |exact a1 _ (by lia) (by lia)
     |exact Wr _ _ (by lia) (by lia) (by lia)
 ·rintro c Bj ⟨rfl,hK,Wr⟩
  refine ⟨rfl,hK,?_⟩
  have e:min (max (max ok 1) n) n=n:=by lia
  rwa [e]at Wr
 ·intro i j g1 g2 g3
  by_cases h0:ok=0
  ·obtain rfl:i=j:=by lia
   exact Nat.le_refl _
  ·exact hU i j g1 g2 (by lia)
 ·rintro c Bj ⟨rfl,hK,Wr⟩
  exact wpS_pure (h Bj hK Wr)
def Bf (r:Keyed->Nat) (left:Bool) (key:Keyed) (xs:Array Keyed) (i:Nat):Bool:=if left then decide (Rk r xs i<r key)else !decide (r key<Rk r xs i)
theorem Vs {left:Bool} {key:Keyed} {xs:Array Keyed} {a b i j:Nat} (hU:Up r xs a b) (h1:a≤i) (h2:i≤j) (h3:j<b) (h:Bf r left key xs j=true):Bf r left key xs i=true:=by
 have:=hU i j h1 h2 h3
 unfold Bf at *
 cases left
 ·simp at *;lia
 ·simp at *;lia
theorem JR (hc:CmpOk prog w A s a₀ r k0) {st:SortSt} (hB:SB a₀ k0 st) {left:Bool} {key:Keyed} {xs:Array Keyed} {base n hint:Nat} (hk:key∈a₀.toList) (hx:∀p∈xs.toList,p∈a₀.toList) (hsz:base+n≤xs.size) (hh:hint<n) (hU:Up r xs base (base+n))
  {Q:Option Nat->SortSt->Prop} (h:∀k,k≤n->(∀i,i<k->Bf r left key xs (base+i)=true)->(∀i,k≤i->i<n->Bf r left key xs (base+i)=false)->Q (some k) st):wpS (model prog w) A E s (II left key xs base n hint) Q st:=by
 have beyond:∀(i:Nat) (Q:Option Bool->SortSt->Prop),i<n->Q (some (Bf r left key xs (base+i))) st->wpS (model prog w) A E s (do
   let x <-elem' xs (base+i)
   if left then lt' x key else return (<-lt' key x).map (!·)) Q st:=by
  intro i Q hi hQ
  have e:xs[base+i]?=some (xs[base+i]'(by lia)):=getElem?_pos _ _ (by lia)
  have hm:(xs[base+i]'(by lia))∈a₀.toList:=hx _ (Array.mem_toList_iff.mpr (Array.mem_of_getElem? e))
  refine wpS_bind (Af e ?_)
  unfold Bf at hQ
  rw [P7 e]at hQ
  cases left with
  |true=>
   rw [if_pos rfl]at hQ ⊢
   exact Il hc hB hm hk hQ
  |false=>
   rw [if_neg (by decide)]at hQ ⊢
   exact wpS_bind (Il hc hB hk hm (wpS_pure hQ))
 have mono:∀i j,i≤j->j<n->Bf r left key xs (base+j)=true->Bf r left key xs (base+i)=true:=fun i j g1 g2 g3=>Vs hU (by lia) (by lia) (by lia) g3
 have QS:∀i j,i≤j->j<n->Bf r left key xs (base+i)=false->Bf r left key xs (base+j)=false:=fun i j g1 g2 g3=>by
  cases e:Bf r left key xs (base+j)with
  |false=>rfl
  |true=>rw [mono i j g1 g2 e]at g3;cases g3
 unfold II
 refine wpS_bind (beyond hint _ hh ?_)
 dsimp only
 cases hr:Bf r left key xs (base+hint)with
 |true=>
  rw [if_pos rfl]
  refine wpS_bind (wpS_mono (wpS_forRange (I:=fun x c AQ=>AQ=st/\∃la o,c=(none,la,o)/\la<o/\x+1≤o/\la<n-hint/\Bf r left key xs (base+(hint+la))=true)
   (Q:=fun c AQ=>AQ=st/\∃la o,c=(none,la,o)/\la<o/\la<n-hint/\Bf r left key xs (base+(hint+la))=true/\(n-hint≤o\/Bf r left key xs (base+(hint+o))=false)) ?_ ?_ ⟨rfl,0,1,rfl,by lia,by lia,by lia,hr⟩) ?_)
  ·rintro x c AQ N6 Qb ⟨rfl,la,o,rfl,g1,g2,g3,g4⟩
   dsimp only
   by_cases Jm:o≥n-hint
   ·rw [if_pos Jm]
    exact wpS_pure ⟨rfl,la,o,rfl,g1,g3,g4,.inl Jm⟩
   ·rw [if_neg Jm]
    refine wpS_bind (beyond (hint+o) _ (by lia) ?_)
    dsimp only
    cases hb:Bf r left key xs (base+(hint+o))with
    |true=>
     rw [if_neg (by decide)]
     exact wpS_pure ⟨rfl,o,2*o+1,rfl,by lia,by lia,by lia,hb⟩
    |false=>
     rw [if_pos (by decide)]
     exact wpS_pure ⟨rfl,la,o,rfl,g1,g3,g4,.inr hb⟩
  ·rintro c AQ ⟨rfl,la,o,rfl,g1,g2,g3,g4⟩
   exact ⟨rfl,la,o,rfl,g1,g3,g4,.inl (by lia)⟩
  rintro c AQ ⟨rfl,la,o,rfl,g1,g3,g4,g5⟩
  dsimp only
  have t1:∀i,i<hint+la+1->Bf r left key xs (base+i)=true:=fun i hi=>mono i (hint+la) (by lia) (by lia) g4
  have t2:∀i,hint+min o (n-hint)≤i->i<n->Bf r left key xs (base+i)=false:=fun i q1 q2=>by
   rcases g5 with z|z
   ·lia
   ·exact QS (hint+o) i (by lia) q2 z
  refine wpS_bind (wpS_mono (wpS_forRange (I:=fun x c Bj=>Bj=AQ/\∃l u,c=(none,l,u)/\l≤u/\u≤n/\u-l≤n-x/\(∀i,i<l->Bf r left key xs (base+i)=true)/\∀i,u≤i->i<n->Bf r left key xs (base+i)=false)
   (Q:=fun c Bj=>Bj=AQ/\∃l u,c=(none,l,u)/\u≤n/\(∀i,i<u->Bf r left key xs (base+i)=true)/\∀i,u≤i->i<n->Bf r left key xs (base+i)=false) ?_ ?_ ⟨rfl,_,_,rfl,by lia,by lia,by lia,t1,t2⟩) ?_)
  ·rintro x c Bj N6 Qb ⟨rfl,l,u,rfl,q1,q2,q3,q4,q5⟩
   dsimp only
   by_cases Jm:l≥u
   ·rw [if_pos Jm]
    exact wpS_pure ⟨rfl,l,u,rfl,q2,fun i hi=>q4 i (by lia),q5⟩
   ·rw [if_neg Jm]
    refine wpS_bind (beyond (l+(u-l) / 2) _ (by lia) ?_)
    dsimp only
    cases hb:Bf r left key xs (base+(l+(u-l) / 2))with
    |true=>
     rw [if_pos rfl]
     exact wpS_pure ⟨rfl,_,_,rfl,by lia,by lia,by lia,fun i hi=>mono i (l+(u-l) / 2) (by lia) (by lia) hb,q5⟩
    |false=>
     rw [if_neg (by decide)]
     exact wpS_pure ⟨rfl,_,_,rfl,by lia,by lia,by lia,q4,fun i z1 z2=>QS (l+(u-l) / 2) i z1 z2 hb⟩
  ·rintro c Bj ⟨rfl,l,u,rfl,q1,q2,q3,q4,q5⟩
   exact ⟨rfl,l,u,rfl,q2,fun i hi=>q4 i (by lia),q5⟩
  ·rintro c Bj ⟨rfl,l,u,rfl,q2,q4,q5⟩
   exact wpS_pure (h u q2 q4 q5)
 |false=>
  rw [if_neg (by decide)]
  refine wpS_bind (wpS_mono (wpS_forRange (I:=fun x c AQ=>AQ=st/\∃la o,c=(none,la,o)/\la<o/\x+1≤o/\la<hint+1/\Bf r left key xs (base+(hint-la))=false)
   (Q:=fun c AQ=>AQ=st/\∃la o,c=(none,la,o)/\la<o/\la<hint+1/\Bf r left key xs (base+(hint-la))=false/\(hint+1≤o\/Bf r left key xs (base+(hint-o))=true)) ?_ ?_ ⟨rfl,0,1,rfl,by lia,by lia,by lia,hr⟩) ?_)
  ·rintro x c AQ N6 Qb ⟨rfl,la,o,rfl,g1,g2,g3,g4⟩
   dsimp only
   by_cases Jm:o≥hint+1
   ·rw [if_pos Jm]
    exact wpS_pure ⟨rfl,la,o,rfl,g1,g3,g4,.inl Jm⟩
   ·rw [if_neg Jm]
    refine wpS_bind (beyond (hint-o) _ (by lia) ?_)
    dsimp only
    cases hb:Bf r left key xs (base+(hint-o))with
    |true=>
     rw [if_pos rfl]
     exact wpS_pure ⟨rfl,la,o,rfl,g1,g3,g4,.inr hb⟩
    |false=>
     rw [if_neg (by decide)]
     exact wpS_pure ⟨rfl,o,2*o+1,rfl,by lia,by lia,by lia,hb⟩
  ·rintro c AQ ⟨rfl,la,o,rfl,g1,g2,g3,g4⟩
   exact ⟨rfl,la,o,rfl,g1,g3,g4,.inl (by lia)⟩
  rintro c AQ ⟨rfl,la,o,rfl,g1,g3,g4,g5⟩
  dsimp only
  have t1:∀i,i<hint+1-min o (hint+1)->Bf r left key xs (base+i)=true:=fun i hi=>by
   rcases g5 with z|z
   ·lia
   ·exact mono i (hint-o) (by lia) (by lia) z
  have t2:∀i,hint-la≤i->i<n->Bf r left key xs (base+i)=false:=fun i q1 q2=>QS (hint-la) i q1 q2 g4
  refine wpS_bind (wpS_mono (wpS_forRange (I:=fun x c Bj=>Bj=AQ/\∃l u,c=(none,l,u)/\l≤u/\u≤n/\u-l≤n-x/\(∀i,i<l->Bf r left key xs (base+i)=true)/\∀i,u≤i->i<n->Bf r left key xs (base+i)=false)
   (Q:=fun c Bj=>Bj=AQ/\∃l u,c=(none,l,u)/\u≤n/\(∀i,i<u->Bf r left key xs (base+i)=true)/\∀i,u≤i->i<n->Bf r left key xs (base+i)=false) ?_ ?_ ⟨rfl,_,_,rfl,by lia,by lia,by lia,t1,t2⟩) ?_)
  ·rintro x c Bj N6 Qb ⟨rfl,l,u,rfl,q1,q2,q3,q4,q5⟩
   dsimp only
   by_cases Jm:l≥u
   ·rw [if_pos Jm]
    exact wpS_pure ⟨rfl,l,u,rfl,q2,fun i hi=>q4 i (by lia),q5⟩
   ·rw [if_neg Jm]
    refine wpS_bind (beyond (l+(u-l) / 2) _ (by lia) ?_)
    dsimp only
    cases hb:Bf r left key xs (base+(l+(u-l) / 2))with
    |true=>
     rw [if_pos rfl]
     exact wpS_pure ⟨rfl,_,_,rfl,by lia,by lia,by lia,fun i hi=>mono i (l+(u-l) / 2) (by lia) (by lia) hb,q5⟩
    |false=>
     rw [if_neg (by decide)]
     exact wpS_pure ⟨rfl,_,_,rfl,by lia,by lia,by lia,q4,fun i z1 z2=>QS (l+(u-l) / 2) i z1 z2 hb⟩
  ·rintro c Bj ⟨rfl,l,u,rfl,q1,q2,q3,q4,q5⟩
   exact ⟨rfl,l,u,rfl,q2,fun i hi=>q4 i (by lia),q5⟩
  ·rintro c Bj ⟨rfl,l,u,rfl,q2,q4,q5⟩
   exact wpS_pure (h u q2 q4 q5)
end
section
variable {prog:Program}{w:World}{A:Around}{E:Value->Shared->Prop}{s:Shared}{a₀:Array Keyed}{r:Keyed->Nat}{k0:SortKind}
def le (r:Keyed->Nat) (x y:Keyed):Prop:=r x≤r y
abbrev Srt (r:Keyed->Nat) (l:List Keyed):Prop:=l.Pairwise (le r)
theorem DP {xs:Array Keyed} {i:Nat} {p:Keyed} (h:xs.toList[i]?=some p):Rk r xs i=r p:=P7 (by rw [<-Array.getElem?_toList];exact h)
theorem Ww {xs:Array Keyed} {base n:Nat} (hsz:base+n≤xs.size) (h:Srt r ((xs.toList.drop base).take n)):Up r xs base (base+n):=by
 intro i j g1 g2 g3
 by_cases e:i=j
 ·subst e;exact Nat.le_refl _
 have hl:xs.toList.length=xs.size:=Array.length_toList
 have hi:((xs.toList.drop base).take n)[i-base]?=some (xs.toList[i]'(by lia)):=by
  rw [List.getElem?_take,if_pos (by lia),List.getElem?_drop,show base+(i-base)=i by lia,List.getElem?_eq_getElem]
 have hj:((xs.toList.drop base).take n)[j-base]?=some (xs.toList[j]'(by lia)):=by
  rw [List.getElem?_take,if_pos (by lia),List.getElem?_drop,show base+(j-base)=j by lia,List.getElem?_eq_getElem]
 obtain ⟨nW,tI⟩:=List.getElem?_eq_some_iff.mp hi
 obtain ⟨oz,rY⟩:=List.getElem?_eq_some_iff.mp hj
 have:=List.pairwise_iff_getElem.mp h (i-base) (j-base) nW oz (by lia)
 rw [tI,rY]at this
 rw [DP (List.getElem?_eq_getElem (show i<xs.toList.length by lia)),DP (List.getElem?_eq_getElem (show j<xs.toList.length by lia))]
 exact this
theorem Eo (hc:CmpOk prog w A s a₀ r k0) {st:SortSt} (hB:SB a₀ k0 st) {key:Keyed} {xs:Array Keyed} {base n hint:Nat} (hk:key∈a₀.toList) (hx:∀p∈xs.toList,p∈a₀.toList) (hsz:base+n≤xs.size) (hh:hint<n) (hS:Srt r ((xs.toList.drop base).take n))
  {Q:Option Nat->SortSt->Prop} (h:∀k,k≤n->(∀c∈(xs.toList.drop base).take k,r c≤r key)->(∀c∈((xs.toList.drop base).take n).drop k,r key<r c)->Q (some k) st):wpS (model prog w) A E s (II false key xs base n hint) Q st:=by
 refine JR hc hB hk hx hsz hh (Ww hsz hS) fun k ET h1 h2=>h k ET (fun c Pb=>?_) fun c Pb=>?_
 ·obtain ⟨i,hi⟩:=List.mem_iff_getElem?.mp Pb
  rw [List.getElem?_take]at hi
  split at hi
  ·rename_i Bs
   rw [List.getElem?_drop]at hi
   have:=h1 i Bs
   unfold Bf at this
   rw [DP hi]at this
   simp at this
   exact this
  ·cases hi
 ·obtain ⟨i,hi⟩:=List.mem_iff_getElem?.mp Pb
  rw [List.getElem?_drop,List.getElem?_take]at hi
  split at hi
  ·rename_i Bs
   rw [List.getElem?_drop]at hi
   have:=h2 (k+i) (by lia) Bs
   unfold Bf at this
   rw [DP hi]at this
   simp at this
   exact this
  ·cases hi
theorem Ex (hc:CmpOk prog w A s a₀ r k0) {st:SortSt} (hB:SB a₀ k0 st) {key:Keyed} {xs:Array Keyed} {base n hint:Nat} (hk:key∈a₀.toList) (hx:∀p∈xs.toList,p∈a₀.toList) (hsz:base+n≤xs.size) (hh:hint<n) (hS:Srt r ((xs.toList.drop base).take n))
  {Q:Option Nat->SortSt->Prop} (h:∀k,k≤n->(∀c∈(xs.toList.drop base).take k,r c<r key)->(∀c∈((xs.toList.drop base).take n).drop k,r key≤r c)->Q (some k) st):wpS (model prog w) A E s (II true key xs base n hint) Q st:=by
 refine JR hc hB hk hx hsz hh (Ww hsz hS) fun k ET h1 h2=>h k ET (fun c Pb=>?_) fun c Pb=>?_
 ·obtain ⟨i,hi⟩:=List.mem_iff_getElem?.mp Pb
  rw [List.getElem?_take]at hi
  split at hi
  ·rename_i Bs
   rw [List.getElem?_drop]at hi
   have:=h1 i Bs
   unfold Bf at this
   rw [DP hi]at this
   simpa using this
  ·cases hi
 ·obtain ⟨i,hi⟩:=List.mem_iff_getElem?.mp Pb
  rw [List.getElem?_drop,List.getElem?_take]at hi
  split at hi
  ·rename_i Bs
   rw [List.getElem?_drop]at hi
   have:=h2 (k+i) (by lia) Bs
   unfold Bf at this
   rw [DP hi]at this
   simpa using this
  ·cases hi
theorem NI {out C LA LB:List Keyed} (h1:Srt r (out++LA)) (h2:Srt r (out++(C++LB))) (h3:∀c∈C,∀y∈LA,r c≤r y):Srt r ((out++C)++LA)/\Srt r ((out++C)++LB):=by
 constructor
 ·rw [List.append_assoc]
  obtain ⟨a1,a2,a3⟩:=List.pairwise_append.mp h1
  obtain ⟨b1,b2,b3⟩:=List.pairwise_append.mp h2
  obtain ⟨c1,c2,c3⟩:=List.pairwise_append.mp b2
  refine List.pairwise_append.mpr ⟨a1,List.pairwise_append.mpr ⟨c1,a2,h3⟩,fun x hx y hy=>?_⟩
  rcases List.mem_append.mp hy with hy|hy
  ·exact b3 x hx y (List.mem_append_left _ hy)
  ·exact a3 x hx y hy
 ·rw [List.append_assoc];exact h2
structure ML (r:Keyed->Nat) (la lb out:List Keyed) (ia ib:Nat):Prop where
 perm:out.Perm (la.take ia++lb.take ib)
 sa:Srt r (out++la.drop ia)
 sb:Srt r (out++lb.drop ib)
theorem ML.pushB {la lb out:List Keyed} {ia ib k:Nat} (h:ML r la lb out ia ib) (hle:∀c∈(lb.drop ib).take k,∀y∈la.drop ia,r c≤r y):ML r la lb (out++(lb.drop ib).take k) ia (ib+k):=by
 have e:(lb.drop ib).take k++lb.drop (ib+k)=lb.drop ib:=by rw [<-List.drop_drop,List.take_append_drop]
 obtain ⟨p1,p2⟩:=NI (C:=(lb.drop ib).take k) (LB:=lb.drop (ib+k)) h.sa (by rw [e];exact h.sb) hle
 refine ⟨?_,p1,p2⟩
 rw [List.take_add,<-List.append_assoc]
 exact h.perm.append_right _
theorem ML.pushA {la lb out:List Keyed} {ia ib k:Nat} (h:ML r la lb out ia ib) (hle:∀c∈(la.drop ia).take k,∀y∈lb.drop ib,r c≤r y):ML r la lb (out++(la.drop ia).take k) (ia+k) ib:=by
 have e:(la.drop ia).take k++la.drop (ia+k)=la.drop ia:=by rw [<-List.drop_drop,List.take_append_drop]
 obtain ⟨p1,p2⟩:=NI (C:=(la.drop ia).take k) (LB:=la.drop (ia+k)) h.sb (by rw [e];exact h.sa) hle
 refine ⟨?_,p2,p1⟩
 rw [List.take_add,List.append_assoc]
 refine (h.perm.append_right _).trans ?_
 rw [List.append_assoc]
 exact List.Perm.append_left _ List.perm_append_comm
structure Mg (r:Keyed->Nat) (la lb out:List Keyed):Prop where
 perm:out.Perm (la++lb)
 srt:Srt r out
theorem ML.doneB {la lb out:List Keyed} {ia ib:Nat} (h:ML r la lb out ia ib) (hb:lb.length≤ib):Mg r la lb (out++la.drop ia++lb.drop ib):=by
 have e:lb.drop ib=[]:=List.drop_eq_nil_of_le hb
 rw [e,List.append_nil]
 refine ⟨?_,h.sa⟩
 have:=h.perm.append_right (la.drop ia)
 rw [List.take_of_length_le hb]at this
 refine this.trans ?_
 rw [List.append_assoc]
 refine (List.Perm.append_left _ List.perm_append_comm).trans ?_
 rw [<-List.append_assoc,List.take_append_drop]
theorem ML.doneA {la lb out:List Keyed} {ia ib:Nat} (h:ML r la lb out ia ib) (ha:la.length≤ia):Mg r la lb (out++la.drop ia++lb.drop ib):=by
 have e:la.drop ia=[]:=List.drop_eq_nil_of_le ha
 rw [e,List.append_nil]
 refine ⟨?_,h.sb⟩
 have:=h.perm.append_right (lb.drop ib)
 rw [List.take_of_length_le ha]at this
 refine this.trans ?_
 rw [List.append_assoc,List.take_append_drop]
theorem ML.lastA {la lb out:List Keyed} {ia ib:Nat} (h:ML r la lb out ia ib) (ha:ia+1=la.length) (hl:∀x,la[la.length-1]?=some x->∀y∈lb,r y≤r x):Mg r la lb (out++lb.drop ib++la.drop ia):=by
 have hd:∀x∈la.drop ia,∀y∈lb,r y≤r x:=fun x hx=>by
  obtain ⟨i,hi⟩:=List.mem_iff_getElem?.mp hx
  rw [List.getElem?_drop]at hi
  have:=(List.getElem?_eq_some_iff.mp hi).1
  have e:ia+i=la.length-1:=by lia
  rw [e]at hi
  exact hl x hi
 constructor
 ·have:=(h.perm.append_right (lb.drop ib)).append_right (la.drop ia)
  refine this.trans ?_
  rw [List.append_assoc,List.append_assoc,<-List.append_assoc (lb.take ib),List.take_append_drop]
  refine (List.Perm.append_left _ List.perm_append_comm).trans ?_
  rw [<-List.append_assoc,List.take_append_drop]
 ·obtain ⟨a1,a2,a3⟩:=List.pairwise_append.mp h.sa
  obtain ⟨b1,b2,b3⟩:=List.pairwise_append.mp h.sb
  refine List.pairwise_append.mpr ⟨h.sb,a2,fun x hx y hy=>?_⟩
  rcases List.mem_append.mp hx with hx|hx
  ·exact a3 x hx y hy
  ·exact hd y hy x (List.mem_of_mem_drop hx)
structure Gl (a₀:Array Keyed) (k0:SortKind) (st AQ:SortSt):Prop where
 base:SB a₀ k0 AQ
 arr:arrOf AQ=arrOf st
 pend:pendingOf AQ=pendingOf st
theorem Gl.refl {st:SortSt} (h:SB a₀ k0 st):Gl a₀ k0 st st:=⟨h,rfl,rfl⟩
theorem D1 (a:Array Keyed) (i:Nat):(a.extract i).toList=a.toList.drop i:=by
 simp [List.take_of_length_le]
theorem EX (a:Array Keyed) (i k:Nat):(a.extract i (i+k)).toList=(a.toList.drop i).take k:=by
 simp
theorem HF {a:Array Keyed} {i:Nat} (h:i<a.size):∃p,a[i]?=some p/\a.toList[i]?=some p/\p∈a.toList/\a.toList.drop i=p::a.toList.drop (i+1):=by
 have hl:i<a.toList.length:=by rw [Array.length_toList];exact h
 refine ⟨a.toList[i],?_,List.getElem?_eq_getElem hl,List.getElem_mem hl,List.drop_eq_getElem_cons hl⟩
 rw [<-Array.getElem?_toList]
 exact List.getElem?_eq_getElem hl
theorem E9 {X Y:List Keyed} (h:Srt r (X++Y)):Srt r Y:=(List.pairwise_append.mp h).2.1
structure Hid (P:Prop):Prop where
 h:P
theorem HE {P Q:Prop} (c:Hid P->Q) (k:P):Q:=c ⟨k⟩
theorem Mj (hc:CmpOk prog w A s a₀ r k0) {st:SortSt} (hB:SB a₀ k0 st) {a b:Array Keyed} (ha:∀p∈a.toList,p∈a₀.toList) (hb:∀p∈b.toList,p∈a₀.toList) (sa:Srt r a.toList) (sb:Srt r b.toList) (za:1≤a.size) (zb:1≤b.size)
  (hf:∀x y,a[0]?=some x->b[0]?=some y->r y≤r x) (hl:∀x,a.toList[a.toList.length-1]?=some x->∀y∈b.toList,r y≤r x) {Q:Array Keyed->SortSt->Prop}
  (h:∀out AQ,Mg r a.toList b.toList out.toList->Gl a₀ k0 st AQ->Q out AQ):wpS (model prog w) A E s (M4 a b) Q st:=by
 unfold M4
 refine wpS_bind (wpS_lift (wpAny_rule ⟨rfl,?_⟩))
 have rf:a.toList.length=a.size:=Array.length_toList
 have qB:b.toList.length=b.size:=Array.length_toList
 obtain ⟨y0,oI,va,vc,jT⟩:=HF (a:=b) (i:=0) (by lia)
 obtain ⟨x0,dQ,N6,Qb,bz⟩:=HF (a:=a) (i:=0) (by lia)
 rw [List.drop_zero]at jT bz
 have je:ML r a.toList b.toList (#[y0]:Array Keyed).toList 0 1:=by
  refine ⟨?_,?_,?_⟩
  ·rw [jT];simp
  ·show Srt r ([y0]++a.toList.drop 0)
   rw [List.drop_zero]
   refine List.pairwise_append.mpr ⟨List.pairwise_singleton _ _,sa,fun u hu v hv=>?_⟩
   rw [List.mem_singleton.mp hu]
   have h0:=hf x0 y0 dQ oI
   rw [bz]at hv sa
   rcases List.mem_cons.mp hv with rfl|hv
   ·exact h0
   ·exact Nat.le_trans h0 ((List.pairwise_cons.mp sa).1 v hv)
  ·show Srt r ([y0]++b.toList.drop 1)
   have:[y0]++b.toList.drop (0+1)=b.toList:=jT.symm
   rw [Nat.zero_add]at this
   rw [this];exact sb
 refine wpS_bind (Af oI ?_)
 dsimp only
 have Li:∀{out:Array Keyed} {ia ib:Nat},ML r a.toList b.toList out.toList ia ib->b.size≤ib->Mg r a.toList b.toList (out++a.extract ia++b.extract ib).toList:=fun hm hb=>by
  rw [Array.toList_append,Array.toList_append,D1,D1];exact hm.doneB (by lia)
 have Y4:∀{out:Array Keyed} {ia ib:Nat},ML r a.toList b.toList out.toList ia ib->a.size≤ia->Mg r a.toList b.toList (out++a.extract ia++b.extract ib).toList:=fun hm hb=>by
  rw [Array.toList_append,Array.toList_append,D1,D1];exact hm.doneA (by lia)
 have LS:∀{out:Array Keyed} {ia ib:Nat},ML r a.toList b.toList out.toList ia ib->ia+1=a.size->Mg r a.toList b.toList (out++b.extract ib++a.extract ia).toList:=fun hm hb=>by
  rw [Array.toList_append,Array.toList_append,D1,D1];exact hm.lastA (by lia) hl
 have pB:∀{out:Array Keyed} {ia ib:Nat} {p:Keyed},ML r a.toList b.toList out.toList ia ib->b.toList.drop ib=p::b.toList.drop (ib+1)->(∀y∈a.toList.drop ia,r p≤r y)->ML r a.toList b.toList (out.push p).toList ia (ib+1):=fun {out ia ib p} hm hd hle=>by
  have:=hm.pushB (k:=1) (fun c hc y hy=>by rw [hd]at hc;simp at hc;subst hc;exact hle y hy)
  rw [hd]at this
  rw [Array.toList_push]
  simpa using this
 have pA:∀{out:Array Keyed} {ia ib:Nat} {p:Keyed},ML r a.toList b.toList out.toList ia ib->a.toList.drop ia=p::a.toList.drop (ia+1)->(∀y∈b.toList.drop ib,r p≤r y)->ML r a.toList b.toList (out.push p).toList (ia+1) ib:=fun {out ia ib p} hm hd hle=>by
  have:=hm.pushA (k:=1) (fun c hc y hy=>by rw [hd]at hc;simp at hc;subst hc;exact hle y hy)
  rw [hd]at this
  rw [Array.toList_push]
  simpa using this
 by_cases Xp:1=b.size
 ·rw [if_pos (by simpa using Xp)]
  exact wpS_pure (h _ _ (Li je (by lia)) (Gl.refl hB))
 rw [if_neg (by simpa using Xp)]
 by_cases ha1:0+1=a.size
 ·rw [if_pos (by simpa using ha1)]
  exact wpS_pure (h _ _ (LS je ha1) (Gl.refl hB))
 rw [if_neg (by simpa using ha1)]
 refine wpS_bind (wpS_get ?_)
 refine wpS_bind (wpS_mono (wpS_forRange (I:=fun x c AQ=>∃out ia ib mg,c=(none,out,ia,ib,mg)/\Gl a₀ k0 st AQ/\ML r a.toList b.toList out.toList ia ib/\ia+1<a.size/\ib<b.size/\x+1≤ia+ib)
  (Q:=fun c AQ=>∃res rest,c=(some res,rest)/\Gl a₀ k0 st AQ/\Mg r a.toList b.toList res.toList) ?_ ?_ ⟨_,_,_,_,rfl,Gl.refl hB,je,by lia,by lia,by lia⟩) ?_)
 rotate_left
 ·rintro c AQ ⟨out,ia,ib,mg,rfl,hG,hM,g1,g2,g3⟩
  lia
 ·rintro c AQ ⟨res,rest,rfl,hG,hM⟩
  exact wpS_pure (h res AQ hM hG)
 rintro x c Bj _ _ ⟨out,ia,ib,mg,rfl,hG,hM,g1,g2,g3⟩
 dsimp only
 refine wpS_bind (wpS_mono (wpS_forRange (I:=fun y c AQ=>∃EW QT PQ ac bc,c=(none,EW,QT,PQ,ac,bc)/\Gl a₀ k0 st AQ/\ML r a.toList b.toList EW.toList QT PQ/\QT+1<a.size/\PQ<b.size/\ia+ib+y≤QT+PQ)
  (Q:=fun c AQ=>(∃EW QT PQ ac bc,c=(none,EW,QT,PQ,ac,bc)/\Gl a₀ k0 st AQ/\ML r a.toList b.toList EW.toList QT PQ/\QT+1<a.size/\PQ<b.size/\ia+ib+1≤QT+PQ)\/∃res rest,c=(some res,rest)/\Gl a₀ k0 st AQ/\Mg r a.toList b.toList res.toList) ?_ ?_ ⟨_,_,_,_,_,rfl,hG,hM,g1,g2,by lia⟩) ?_)
 ·rintro y c Ci _ _ ⟨EW,QT,PQ,ac,bc,rfl,Fm,JE,q1,q2,q3⟩
  obtain ⟨u,Cu,X2,Ow,Qy⟩:=HF (a:=b) (i:=PQ) q2
  obtain ⟨v,Sw,Zo,X4,RP⟩:=HF (a:=a) (i:=QT) (by lia)
  dsimp only
  refine wpS_bind (Af Cu (wpS_bind (Af Sw (wpS_bind (Il hc Fm.base (hb u Ow) (ha v X4) ?_)))))
  dsimp only
  have SI:=E9 JE.sa
  have TU:=E9 JE.sb
  rw [RP]at SI
  rw [Qy]at TU
  by_cases Bs:r u<r v
  ·rw [decide_eq_true Bs,if_pos rfl]
   refine wpS_bind (Af Cu ?_)
   have EO:=pB JE Qy (fun z hz=>by
    rw [RP]at hz
    rcases List.mem_cons.mp hz with rfl|hz
    ·lia
    ·exact Nat.le_trans (Nat.le_of_lt Bs) ((List.pairwise_cons.mp SI).1 z hz))
   try dsimp only
   by_cases e1:PQ+1=b.size
   ·rw [if_pos (by simpa using e1)]
    exact wpS_pure (.inr ⟨_,_,rfl,Fm,Li EO (by lia)⟩)
   ·rw [if_neg (by simpa using e1)]
    by_cases e2:bc+1≥mg
    ·rw [if_pos e2]
     exact wpS_pure (.inl ⟨_,_,_,_,_,rfl,Fm,EO,q1,by lia,by lia⟩)
    ·rw [if_neg e2]
     exact wpS_pure ⟨_,_,_,_,_,rfl,Fm,EO,q1,by lia,by lia⟩
  ·rw [decide_eq_false Bs,if_neg (by decide)]
   refine wpS_bind (Af Sw ?_)
   have EO:=pA JE RP (fun z hz=>by
    rw [Qy]at hz
    rcases List.mem_cons.mp hz with rfl|hz
    ·lia
    ·have:=(List.pairwise_cons.mp TU).1 z hz
     unfold le at this
     lia)
   try dsimp only
   by_cases e1:QT+1+1=a.size
   ·rw [if_pos (by simpa using e1)]
    exact wpS_pure (.inr ⟨_,_,rfl,Fm,LS EO e1⟩)
   ·rw [if_neg (by simpa using e1)]
    by_cases e2:ac+1≥mg
    ·rw [if_pos e2]
     exact wpS_pure (.inl ⟨_,_,_,_,_,rfl,Fm,EO,by lia,q2,by lia⟩)
    ·rw [if_neg e2]
     exact wpS_pure ⟨_,_,_,_,_,rfl,Fm,EO,by lia,q2,by lia⟩
 ·rintro c AQ ⟨EW,QT,PQ,ac,bc,rfl,Fm,JE,q1,q2,q3⟩
  lia
 rintro c Ci (⟨EW,QT,PQ,ac,bc,rfl,Fm,JE,q1,q2,q3⟩|⟨res,rest,rfl,Fm,JE⟩)
 rotate_left
 ·dsimp only
  exact wpS_pure ⟨_,_,rfl,Fm,JE⟩
 dsimp only
 refine wpS_bind (wpS_lift (wpAny_rule ⟨rfl,?_⟩))
 refine wpS_bind (wpS_mono (wpS_forRange (I:=fun y c AQ=>∃CM FW Ed mg ac bc,c=(none,CM,FW,Ed,mg,ac,bc)/\Gl a₀ k0 st AQ/\ML r a.toList b.toList CM.toList FW Ed/\FW+1<a.size/\Ed<b.size/\ia+ib+1≤FW+Ed)
  (Q:=fun c AQ=>(∃CM FW Ed mg ac bc,c=(none,CM,FW,Ed,mg,ac,bc)/\Gl a₀ k0 st AQ/\ML r a.toList b.toList CM.toList FW Ed/\FW+1<a.size/\Ed<b.size/\ia+ib+1≤FW+Ed)\/∃res rest,c=(some res,rest)/\Gl a₀ k0 st AQ/\Mg r a.toList b.toList res.toList) ?_ ?_ ⟨_,_,_,_,_,_,rfl,Fm,JE,q1,q2,q3⟩) ?_)
 ·rintro y c FI _ _ ⟨CM,FW,Ed,Ss,ZS,Zv,rfl,Fl,EO,w1,w2,w3⟩
  obtain ⟨u,Cu,X2,Ow,Qy⟩:=HF (a:=b) (i:=Ed) w2
  dsimp only
  have K7:∀g,Gl a₀ k0 st (SortSt.mk' (kindOf FI) (arrOf FI) (pendingOf FI) g (failedOf FI)):=fun g=>⟨⟨Fl.base.perm,Fl.base.kind,Fl.base.failed⟩,Fl.arr,Fl.pend⟩
  apply HE
  ·intro key
   by_cases OV:Ss > 1
   ·rw [if_pos OV];clear OV;generalize Ss-1=g;revert g;exact key.h
   ·rw [if_neg OV];clear OV;generalize Ss=g;revert g;exact key.h
  intro g
  apply HE
  intro key
  refine wpS_bind (wpS_modify ?_)
  refine wpS_bind (Af Cu (wpS_bind (Eo (base:=FW) (n:=a.size-FW) (hint:=0) hc (K7 _).base (hb u Ow) ha (by lia) (by lia) (by rw [List.take_of_length_le (by simp)];exact E9 EO.sa) fun k hk OR FF=>?_)))
  dsimp only
  have dE:(a.toList.drop FW).take (a.size-FW)=a.toList.drop FW:=List.take_of_length_le (by simp)
  rw [dE,List.drop_drop]at FF
  have TU:=E9 EO.sb
  rw [Qy]at TU
  have Nj:=EO.pushA (k:=k) fun c hc z hz=>by
   have e1:=OR c hc
   rw [Qy]at hz
   rcases List.mem_cons.mp hz with ez|hz
   ·rw [ez];exact e1
   ·exact Nat.le_trans e1 ((List.pairwise_cons.mp TU).1 z hz)
  have eo:(CM++a.extract FW (FW+k)).toList=CM.toList++(a.toList.drop FW).take k:=by rw [Array.toList_append,EX]
  rw [<-eo]at Nj
  ·by_cases hk0:k > 0
   ·rw [if_pos hk0]
    by_cases e1:FW+k+1=a.size
    ·rw [if_pos (by simpa using e1)]
     exact wpS_pure (.inr ⟨_,_,rfl,K7 _,LS Nj e1⟩)
    rw [if_neg (by simpa using e1)]
    by_cases e2:FW+k=a.size
    ·rw [if_pos (by simpa using e2)]
     exact wpS_pure (.inr ⟨_,_,rfl,K7 _,Y4 Nj (by lia)⟩)
    rw [if_neg (by simpa using e2)]
    have Vw:FW+k+1<a.size/\ia+ib+1≤FW+k+Ed:=by lia
    revert Nj Vw FF
    generalize CM++a.extract FW (FW+k)=DY
    generalize FW+k=W3
    generalize k=Vf
    revert DY W3 Vf
    exact key.h
   ·rw [if_neg hk0]
    have R0:k=0:=by lia
    have Vw:FW+1<a.size/\ia+ib+1≤FW+Ed:=by lia
    have lp:CM++a.extract FW (FW+0)=CM:=Array.toList_inj.mp (by rw [Array.toList_append,EX];simp)
    rw [R0,lp,Nat.add_zero]at Nj
    rw [R0,Nat.add_zero]at FF
    revert Nj Vw FF
    generalize CM=DY
    generalize FW=W3
    generalize k=Vf
    revert DY W3 Vf
    exact key.h
  intro DY W3 Vf FF Nj Vw
  refine wpS_bind (Af Cu ?_)
  have Uw:=pB Nj Qy (fun z hz=>Nat.le_of_lt (FF z hz))
  by_cases e3:Ed+1=b.size
  ·rw [if_pos (by simpa using e3)]
   exact wpS_pure (.inr ⟨_,_,rfl,K7 _,Li Uw (by lia)⟩)
  rw [if_neg (by simpa using e3)]
  obtain ⟨v,Sw,Zo,X4,RP⟩:=HF (a:=a) (i:=W3) (by lia)
  apply HE
  intro key
  refine wpS_bind (Af Sw (wpS_bind (Ex (base:=Ed+1) (n:=b.size-(Ed+1)) (hint:=0) hc (K7 _).base (ha v X4) hb (by lia) (by lia) (by rw [List.take_of_length_le (by simp)];exact E9 Uw.sb) fun k' ET MP LO=>?_)))
  dsimp only
  have lH:(b.toList.drop (Ed+1)).take (b.size-(Ed+1))=b.toList.drop (Ed+1):=List.take_of_length_le (by simp)
  rw [lH,List.drop_drop]at LO
  have SI:=E9 Uw.sa
  rw [RP]at SI
  have Ng:=Uw.pushB (k:=k') fun c hc z hz=>by
   have e1:=MP c hc
   rw [RP]at hz
   rcases List.mem_cons.mp hz with ez|hz
   ·rw [ez];exact Nat.le_of_lt e1
   ·exact Nat.le_trans (Nat.le_of_lt e1) ((List.pairwise_cons.mp SI).1 z hz)
  have lZ:(DY.push u++b.extract (Ed+1) (Ed+1+k')).toList=(DY.push u).toList++(b.toList.drop (Ed+1)).take k':=by rw [Array.toList_append,EX]
  rw [<-lZ]at Ng
  ·by_cases hk0':k' > 0
   ·rw [if_pos hk0']
    by_cases e4:Ed+1+k'=b.size
    ·rw [if_pos (by simpa using e4)]
     exact wpS_pure (.inr ⟨_,_,rfl,K7 _,Li Ng (by lia)⟩)
    rw [if_neg (by simpa using e4)]
    have SW:Ed+1+k'<b.size/\ia+ib+1≤W3+(Ed+1+k'):=by lia
    revert Ng SW LO
    generalize DY.push u++b.extract (Ed+1) (Ed+1+k')=LX
    generalize Ed+1+k'=cq
    generalize k'=Vr
    revert LX cq Vr
    exact key.h
   ·rw [if_neg hk0']
    have R0:k'=0:=by lia
    have SW:Ed+1<b.size/\ia+ib+1≤W3+(Ed+1):=by lia
    have YV:DY.push u++b.extract (Ed+1) (Ed+1+0)=DY.push u:=Array.toList_inj.mp (by rw [Array.toList_append,EX];simp)
    rw [R0,YV,Nat.add_zero]at Ng
    rw [R0,Nat.add_zero]at LO
    revert Ng SW LO
    generalize DY.push u=LX
    generalize Ed+1=cq
    generalize k'=Vr
    revert LX cq Vr
    exact key.h
  intro LX cq Vr LO Ng SW
  refine wpS_bind (Af Sw ?_)
  have X9:=pA Ng RP (fun z hz=>LO z hz)
  by_cases e5:W3+1+1=a.size
  ·rw [if_pos (by simpa using e5)]
   exact wpS_pure (.inr ⟨_,_,rfl,K7 _,LS X9 e5⟩)
  rw [if_neg (by simpa using e5)]
  split
  ·exact wpS_pure (.inl ⟨_,_,_,_,_,_,rfl,K7 _,X9,by lia,SW.1,by lia⟩)
  ·exact wpS_pure ⟨_,_,_,_,_,_,rfl,K7 _,X9,by lia,SW.1,by lia⟩
 ·rintro c AQ ⟨CM,FW,Ed,Ss,ZS,Zv,rfl,Fl,EO,w1,w2,w3⟩
  exact .inl ⟨_,_,_,_,_,_,rfl,Fl,EO,w1,w2,w3⟩
 ·rintro c FI (⟨CM,FW,Ed,Ss,ZS,Zv,rfl,Fl,EO,w1,w2,w3⟩|⟨res,rest,rfl,Fl,EO⟩)
  ·dsimp only
   refine wpS_bind (wpS_modify (wpS_pure ⟨_,_,_,_,rfl,⟨⟨Fl.base.perm,Fl.base.kind,Fl.base.failed⟩,Fl.arr,Fl.pend⟩,EO,w1,w2,by lia⟩))
  ·dsimp only
   exact wpS_pure ⟨_,_,rfl,Fl,EO⟩
end
section
variable {prog:Program}{w:World}{A:Around}{E:Value->Shared->Prop}{s:Shared}{a₀:Array Keyed}{r:Keyed->Nat}{k0:SortKind}
structure MH (r:Keyed->Nat) (la lb O:List Keyed) (na nb:Nat):Prop where
 perm:O.Perm (la.drop na++lb.drop nb)
 sa:Srt r (la.take na++O)
 sb:Srt r (lb.take nb++O)
theorem J3 {X Y C O:List Keyed} (h1:Srt r (Y++O)) (h2:Srt r ((X++C)++O)) (h3:∀y∈Y,∀c∈C,r y≤r c):Srt r (Y++(C++O))/\Srt r (X++(C++O)):=by
 rw [List.append_assoc]at h2
 refine ⟨?_,h2⟩
 obtain ⟨a1,a2,a3⟩:=List.pairwise_append.mp h1
 obtain ⟨b1,b2,b3⟩:=List.pairwise_append.mp h2
 refine List.pairwise_append.mpr ⟨a1,b2,fun x hx y hy=>?_⟩
 rcases List.mem_append.mp hy with hy|hy
 ·exact h3 x hx y hy
 ·exact a3 x hx y hy
theorem EG (l:List Keyed) {k n:Nat} (h:k≤n):l.take k++(l.take n).drop k=l.take n:=by
 have:=List.take_append_drop k (l.take n)
 rwa [List.take_take,Nat.min_eq_left h]at this
theorem Iw (l:List Keyed) {k n:Nat} (h:k≤n):(l.take n).drop k++l.drop n=l.drop k:=by
 rw [List.drop_take]
 have e:l.drop n=(l.drop k).drop (n-k):=by rw [List.drop_drop];congr 1;lia
 rw [e,List.take_append_drop]
theorem MH.pushA {la lb O:List Keyed} {na nb k:Nat} (h:MH r la lb O na nb) (hk:k≤na) (hle:∀y∈lb.take nb,∀c∈(la.take na).drop k,r y≤r c):MH r la lb ((la.take na).drop k++O) k nb:=by
 obtain ⟨p1,p2⟩:=J3 (X:=la.take k) (C:=(la.take na).drop k) h.sb (by rw [EG la hk];exact h.sa) hle
 refine ⟨?_,p2,p1⟩
 rw [<-Iw la hk,List.append_assoc]
 exact h.perm.append_left _
theorem MH.pushB {la lb O:List Keyed} {na nb k:Nat} (h:MH r la lb O na nb) (hk:k≤nb) (hle:∀y∈la.take na,∀c∈(lb.take nb).drop k,r y≤r c):MH r la lb ((lb.take nb).drop k++O) na k:=by
 obtain ⟨p1,p2⟩:=J3 (X:=lb.take k) (C:=(lb.take nb).drop k) h.sa (by rw [EG lb hk];exact h.sb) hle
 refine ⟨?_,p1,p2⟩
 rw [<-Iw lb hk]
 refine (h.perm.append_left _).trans ?_
 rw [<-List.append_assoc,<-List.append_assoc]
 exact List.perm_append_comm.append_right _
theorem MH.doneA {la lb O:List Keyed} {nb:Nat} (h:MH r la lb O 0 nb):Mg r la lb (la.take 0++lb.take nb++O):=by
 rw [List.take_zero,List.nil_append]
 refine ⟨?_,h.sb⟩
 refine (h.perm.append_left _).trans ?_
 rw [List.drop_zero,<-List.append_assoc]
 refine (List.perm_append_comm.append_right _).trans ?_
 rw [List.append_assoc,List.take_append_drop]
theorem MH.doneB {la lb O:List Keyed} {na:Nat} (h:MH r la lb O na 0):Mg r la lb (la.take na++lb.take 0++O):=by
 rw [List.take_zero,List.append_nil]
 refine ⟨?_,h.sa⟩
 refine (h.perm.append_left _).trans ?_
 rw [List.drop_zero,<-List.append_assoc,List.take_append_drop]
theorem MH.firstB {la lb O:List Keyed} {na:Nat} (h:MH r la lb O na 1) (hf:∀y∈lb.take 1,∀x∈la,r y≤r x):Mg r la lb (lb.take 1++la.take na++O):=by
 constructor
 ·rw [List.append_assoc]
  refine ((h.perm.append_left _).append_left _).trans ?_
  rw [<-List.append_assoc (la.take na),List.take_append_drop,<-List.append_assoc]
  refine (List.perm_append_comm.append_right _).trans ?_
  rw [List.append_assoc,List.take_append_drop]
 ·rw [List.append_assoc]
  obtain ⟨b1,b2,b3⟩:=List.pairwise_append.mp h.sb
  refine List.pairwise_append.mpr ⟨b1,h.sa,fun x hx y hy=>?_⟩
  rcases List.mem_append.mp hy with hy|hy
  ·exact hf x hx y (List.mem_of_mem_take hy)
  ·exact b3 x hx y hy
theorem Dm (a:Array Keyed) (n:Nat):(a.extract 0 n).toList=a.toList.take n:=by simp
theorem Cy (a:Array Keyed) (k n:Nat):(a.extract k n).toList=(a.toList.take n).drop k:=by simp [List.drop_take]
theorem Ez {a:Array Keyed} {n:Nat} (h:n<a.size):∃p,a[n]?=some p/\p∈a.toList/\(a.toList.take (n+1)).drop n=[p]/\a.toList.take (n+1)=a.toList.take n++[p]:=by
 have hl:n<a.toList.length:=by rw [Array.length_toList];exact h
 refine ⟨a.toList[n],?_,List.getElem_mem hl,?_,?_⟩
 ·rw [<-Array.getElem?_toList];exact List.getElem?_eq_getElem hl
 ·rw [List.drop_take,show n+1-n=1 by lia,List.drop_eq_getElem_cons hl];rfl
 ·rw [List.take_add_one,List.getElem?_eq_getElem hl];rfl
theorem Mq (hc:CmpOk prog w A s a₀ r k0) {st:SortSt} (hB:SB a₀ k0 st) {a b:Array Keyed} (ha:∀p∈a.toList,p∈a₀.toList) (hb:∀p∈b.toList,p∈a₀.toList) (sa:Srt r a.toList) (sb:Srt r b.toList) (za:1≤a.size) (zb:1≤b.size)
  (hf:∀y∈b.toList.take 1,∀x∈a.toList,r y≤r x) (hl:∀x∈a.toList.drop (a.size-1),∀y∈b.toList,r y≤r x) {Q:Array Keyed->SortSt->Prop}
  (h:∀out AQ,Mg r a.toList b.toList out.toList->Gl a₀ k0 st AQ->Q out AQ):wpS (model prog w) A E s (NK a b) Q st:=by
 unfold NK
 refine wpS_bind (wpS_lift (wpAny_rule ⟨rfl,?_⟩))
 have rf:a.toList.length=a.size:=Array.length_toList
 have qB:b.toList.length=b.size:=Array.length_toList
 obtain ⟨x0,dQ,N6,Qb,bz⟩:=Ez (a:=a) (n:=a.size-1) (by lia)
 rw [show a.size-1+1=a.size by lia,List.take_of_length_le (by lia)]at Qb bz
 have d8:MH r a.toList b.toList (#[x0]:Array Keyed).toList.reverse (a.size-1) b.size:=by
  refine ⟨?_,?_,?_⟩
  ·rw [Qb,List.drop_eq_nil_of_le (by lia)];simp
  ·show Srt r (a.toList.take (a.size-1)++[x0])
   rw [<-bz];exact sa
  ·show Srt r (b.toList.take b.size++[x0])
   rw [List.take_of_length_le (by lia)]
   refine List.pairwise_append.mpr ⟨sb,List.pairwise_singleton _ _,fun u hu v hv=>?_⟩
   rw [List.mem_singleton.mp hv]
   exact hl x0 (by rw [Qb];simp) u hu
 have Li:∀{out:Array Keyed} {na nb:Nat},MH r a.toList b.toList out.toList.reverse na nb->na=0->Mg r a.toList b.toList (a.extract 0 na++b.extract 0 nb++out.reverse).toList:=fun hm e=>by
  subst e
  rw [Array.toList_append,Array.toList_append,Dm,Dm,Array.toList_reverse];exact hm.doneA
 have Y4:∀{out:Array Keyed} {na nb:Nat},MH r a.toList b.toList out.toList.reverse na nb->nb=0->Mg r a.toList b.toList (a.extract 0 na++b.extract 0 nb++out.reverse).toList:=fun hm e=>by
  subst e
  rw [Array.toList_append,Array.toList_append,Dm,Dm,Array.toList_reverse];exact hm.doneB
 have LS:∀{out:Array Keyed} {na nb:Nat},MH r a.toList b.toList out.toList.reverse na nb->nb=1->Mg r a.toList b.toList (b.extract 0 nb++a.extract 0 na++out.reverse).toList:=fun hm e=>by
  subst e
  rw [Array.toList_append,Array.toList_append,Dm,Dm,Array.toList_reverse];exact hm.firstB hf
 have pA:∀{out:Array Keyed} {na nb:Nat} {p:Keyed},MH r a.toList b.toList out.toList.reverse (na+1) nb->(a.toList.take (na+1)).drop na=[p]->(∀y∈b.toList.take nb,r y≤r p)->MH r a.toList b.toList (out.push p).toList.reverse na nb:=fun {out na nb p} hm hd hle=>by
  have:=hm.pushA (k:=na) (by lia) (fun y hy c hc=>by rw [hd]at hc;rw [List.mem_singleton.mp hc];exact hle y hy)
  rw [hd]at this
  rw [Array.toList_push,List.reverse_append]
  exact this
 have pB:∀{out:Array Keyed} {na nb:Nat} {p:Keyed},MH r a.toList b.toList out.toList.reverse na (nb+1)->(b.toList.take (nb+1)).drop nb=[p]->(∀y∈a.toList.take na,r y≤r p)->MH r a.toList b.toList (out.push p).toList.reverse na nb:=fun {out na nb p} hm hd hle=>by
  have:=hm.pushB (k:=nb) (by lia) (fun y hy c hc=>by rw [hd]at hc;rw [List.mem_singleton.mp hc];exact hle y hy)
  rw [hd]at this
  rw [Array.toList_push,List.reverse_append]
  exact this
 refine wpS_bind (Af dQ ?_)
 dsimp only
 by_cases ha1:a.size-1=0
 ·rw [if_pos (by simpa using ha1)]
  exact wpS_pure (h _ _ (Li d8 ha1) (Gl.refl hB))
 rw [if_neg (by simpa using ha1)]
 by_cases Xp:b.size=1
 ·rw [if_pos (by simpa using Xp)]
  exact wpS_pure (h _ _ (LS d8 Xp) (Gl.refl hB))
 rw [if_neg (by simpa using Xp)]
 refine wpS_bind (wpS_get ?_)
 refine wpS_bind (wpS_mono (wpS_forRange (I:=fun x c AQ=>∃na nb out mg,c=(none,na,nb,out,mg)/\Gl a₀ k0 st AQ/\MH r a.toList b.toList out.toList.reverse na nb/\1≤na/\2≤nb/\na<a.size/\nb≤b.size/\na+nb+x+1≤a.size+b.size)
  (Q:=fun c AQ=>∃res rest,c=(some res,rest)/\Gl a₀ k0 st AQ/\Mg r a.toList b.toList res.toList) ?_ ?_ ⟨_,_,_,_,rfl,Gl.refl hB,d8,by lia,by lia,by lia,by lia,by lia⟩) ?_)
 rotate_left
 ·rintro c AQ ⟨na,nb,out,mg,rfl,hG,hM,g1,g2,g3,g4,g5⟩
  lia
 ·rintro c AQ ⟨res,rest,rfl,hG,hM⟩
  exact wpS_pure (h res AQ hM hG)
 rintro x c Bj _ _ ⟨na,nb,out,mg,rfl,hG,hM,g1,g2,g3,g4,g5⟩
 dsimp only
 refine wpS_bind (wpS_mono (wpS_forRange (I:=fun y c AQ=>∃NY NZ EW ac bc,c=(none,NY,NZ,EW,ac,bc)/\Gl a₀ k0 st AQ/\MH r a.toList b.toList EW.toList.reverse NY NZ/\1≤NY/\2≤NZ/\NY<a.size/\NZ≤b.size/\NY+NZ+y≤na+nb)
  (Q:=fun c AQ=>(∃NY NZ EW ac bc,c=(none,NY,NZ,EW,ac,bc)/\Gl a₀ k0 st AQ/\MH r a.toList b.toList EW.toList.reverse NY NZ/\1≤NY/\2≤NZ/\NY<a.size/\NZ≤b.size/\NY+NZ+1≤na+nb)\/∃res rest,c=(some res,rest)/\Gl a₀ k0 st AQ/\Mg r a.toList b.toList res.toList) ?_ ?_ ⟨_,_,_,_,_,rfl,hG,hM,g1,g2,g3,g4,by lia⟩) ?_)
 ·rintro y c Ci _ _ ⟨NY,NZ,EW,ac,bc,rfl,Fm,JE,q1,q2,q3,q4,q5⟩
  obtain ⟨n,rfl⟩:∃n,NY=n+1:=⟨NY-1,by lia⟩
  obtain ⟨m,rfl⟩:∃m,NZ=m+1:=⟨NZ-1,by lia⟩
  obtain ⟨u,Cu,X2,Ow,Qy⟩:=Ez (a:=b) (n:=m) (by lia)
  obtain ⟨v,Sw,Zo,X4,RP⟩:=Ez (a:=a) (n:=n) (by lia)
  dsimp only
  simp only [Nat.add_sub_cancel]
  refine wpS_bind (Af Cu (wpS_bind (Af Sw (wpS_bind (Il hc Fm.base (hb u X2) (ha v Zo) ?_)))))
  dsimp only
  have SI:=(List.pairwise_append.mp JE.sa).1
  have TU:=(List.pairwise_append.mp JE.sb).1
  rw [RP]at SI
  rw [Qy]at TU
  by_cases Bs:r u<r v
  ·rw [decide_eq_true Bs,if_pos rfl]
   refine wpS_bind (Af Sw ?_)
   have EO:=pA JE X4 (fun z hz=>by
    rw [Qy]at hz
    rcases List.mem_append.mp hz with hz|hz
    ·exact Nat.le_trans ((List.pairwise_append.mp TU).2.2 z hz u (by simp)) (Nat.le_of_lt Bs)
    ·rw [List.mem_singleton.mp hz];lia)
   by_cases e1:n=0
   ·rw [if_pos (by simpa using e1)]
    exact wpS_pure (.inr ⟨_,_,rfl,Fm,Li EO e1⟩)
   ·rw [if_neg (by simpa using e1)]
    by_cases e2:ac+1≥mg
    ·rw [if_pos e2]
     exact wpS_pure (.inl ⟨_,_,_,_,_,rfl,Fm,EO,by lia,by lia,by lia,by lia,by lia⟩)
    ·rw [if_neg e2]
     exact wpS_pure ⟨_,_,_,_,_,rfl,Fm,EO,by lia,by lia,by lia,by lia,by lia⟩
  ·rw [decide_eq_false Bs,if_neg (by decide)]
   refine wpS_bind (Af Cu ?_)
   have EO:=pB JE Ow (fun z hz=>by
    rw [RP]at hz
    rcases List.mem_append.mp hz with hz|hz
    ·have:=(List.pairwise_append.mp SI).2.2 z hz v (by simp)
     unfold le at this
     lia
    ·rw [List.mem_singleton.mp hz];lia)
   by_cases e1:m=1
   ·rw [if_pos (by simpa using e1)]
    exact wpS_pure (.inr ⟨_,_,rfl,Fm,LS EO e1⟩)
   ·rw [if_neg (by simpa using e1)]
    by_cases e2:bc+1≥mg
    ·rw [if_pos e2]
     exact wpS_pure (.inl ⟨_,_,_,_,_,rfl,Fm,EO,by lia,by lia,by lia,by lia,by lia⟩)
    ·rw [if_neg e2]
     exact wpS_pure ⟨_,_,_,_,_,rfl,Fm,EO,by lia,by lia,by lia,by lia,by lia⟩
 ·rintro c AQ ⟨NY,NZ,EW,ac,bc,rfl,Fm,JE,q1,q2,q3,q4,q5⟩
  lia
 rintro c Ci (⟨NY,NZ,EW,ac,bc,rfl,Fm,JE,q1,q2,q3,q4,q5⟩|⟨res,rest,rfl,Fm,JE⟩)
 rotate_left
 ·dsimp only
  exact wpS_pure ⟨_,_,rfl,Fm,JE⟩
 dsimp only
 refine wpS_bind (wpS_lift (wpAny_rule ⟨rfl,?_⟩))
 refine wpS_bind (wpS_mono (wpS_forRange (I:=fun y c AQ=>∃Ga NX CM mg ac bc,c=(none,Ga,NX,CM,mg,ac,bc)/\Gl a₀ k0 st AQ/\MH r a.toList b.toList CM.toList.reverse Ga NX/\1≤Ga/\2≤NX/\Ga<a.size/\NX≤b.size/\Ga+NX+1≤na+nb)
  (Q:=fun c AQ=>(∃Ga NX CM mg ac bc,c=(none,Ga,NX,CM,mg,ac,bc)/\Gl a₀ k0 st AQ/\MH r a.toList b.toList CM.toList.reverse Ga NX/\1≤Ga/\2≤NX/\Ga<a.size/\NX≤b.size/\Ga+NX+1≤na+nb)\/∃res rest,c=(some res,rest)/\Gl a₀ k0 st AQ/\Mg r a.toList b.toList res.toList) ?_ ?_ ⟨_,_,_,_,_,_,rfl,Fm,JE,q1,q2,q3,q4,q5⟩) ?_)
 ·rintro y c FI _ _ ⟨Ga,NX,CM,Ss,ZS,Zv,rfl,Fl,EO,w1,w2,w3,w4,w5⟩
  obtain ⟨m,rfl⟩:∃m,NX=m+1:=⟨NX-1,by lia⟩
  obtain ⟨u,Cu,X2,Ow,Qy⟩:=Ez (a:=b) (n:=m) (by lia)
  have K7:∀g,Gl a₀ k0 st (SortSt.mk' (kindOf FI) (arrOf FI) (pendingOf FI) g (failedOf FI)):=fun g=>⟨⟨Fl.base.perm,Fl.base.kind,Fl.base.failed⟩,Fl.arr,Fl.pend⟩
  dsimp only
  simp only [Nat.add_sub_cancel]
  apply HE
  ·intro key
   by_cases OV:Ss > 1
   ·rw [if_pos OV];clear OV;generalize Ss-1=g;revert g;exact key.h
   ·rw [if_neg OV];clear OV;generalize Ss=g;revert g;exact key.h
  intro g
  apply HE
  intro key
  refine wpS_bind (wpS_modify ?_)
  refine wpS_bind (Af Cu (wpS_bind (Eo (base:=0) (n:=Ga) (hint:=Ga-1) hc (K7 _).base (hb u X2) ha (by lia) (by lia) (by rw [List.drop_zero];exact (List.pairwise_append.mp EO.sa).1) fun k hk OR FF=>?_)))
  dsimp only
  rw [List.drop_zero]at OR FF
  have TU:=(List.pairwise_append.mp EO.sb).1
  rw [Qy]at TU
  have Nj:=EO.pushA (k:=k) hk fun z hz c hc=>by
   have e1:=FF c hc
   rw [Qy]at hz
   rcases List.mem_append.mp hz with hz|hz
   ·exact Nat.le_trans ((List.pairwise_append.mp TU).2.2 z hz u (by simp)) (Nat.le_of_lt e1)
   ·rw [List.mem_singleton.mp hz];exact Nat.le_of_lt e1
  have eo:(CM++(a.extract k Ga).reverse).toList.reverse=(a.toList.take Ga).drop k++CM.toList.reverse:=by
   rw [Array.toList_append,List.reverse_append,Array.toList_reverse,List.reverse_reverse,Cy]
  rw [<-eo]at Nj
  ·by_cases hk0:Ga-k > 0
   ·rw [if_pos hk0]
    by_cases e1:k=0
    ·rw [if_pos (by simpa using e1)]
     exact wpS_pure (.inr ⟨_,_,rfl,K7 _,Li Nj e1⟩)
    rw [if_neg (by simpa using e1)]
    have Vw:1≤k/\k<a.size/\k+(m+1)+1≤na+nb:=by lia
    generalize Ga-k=Vf
    revert Nj Vw OR
    generalize CM++(a.extract k Ga).reverse=DY
    generalize k=Y9
    revert DY Y9 Vf
    exact key.h
   ·rw [if_neg hk0]
    have R0:k=Ga:=by lia
    have Vw:1≤Ga/\Ga<a.size/\Ga+(m+1)+1≤na+nb:=by lia
    have lp:CM++(a.extract Ga Ga).reverse=CM:=Array.toList_inj.mp (by rw [Array.toList_append,Array.toList_reverse,Cy];simp)
    rw [R0,lp]at Nj
    rw [R0]at OR
    generalize Ga-k=Vf
    revert Nj Vw OR
    generalize CM=DY
    generalize Ga=Y9
    revert DY Y9 Vf
    exact key.h
  intro Vf DY Y9 OR Nj Vw
  refine wpS_bind (Af Cu ?_)
  have Uw:=pB Nj Ow (fun z hz=>OR z hz)
  by_cases e3:m=1
  ·rw [if_pos (by simpa using e3)]
   exact wpS_pure (.inr ⟨_,_,rfl,K7 _,LS Uw e3⟩)
  rw [if_neg (by simpa using e3)]
  obtain ⟨n,rfl⟩:∃n,Y9=n+1:=⟨Y9-1,by lia⟩
  obtain ⟨v,Sw,Zo,X4,RP⟩:=Ez (a:=a) (n:=n) (by lia)
  simp only [Nat.add_sub_cancel]
  apply HE
  intro key
  refine wpS_bind (Af Sw (wpS_bind (Ex (base:=0) (n:=m) (hint:=m-1) hc (K7 _).base (ha v Zo) hb (by lia) (by lia) (by rw [List.drop_zero];exact (List.pairwise_append.mp Uw.sb).1) fun k' ET MP LO=>?_)))
  dsimp only
  rw [List.drop_zero]at MP LO
  have SI:=(List.pairwise_append.mp Uw.sa).1
  rw [RP]at SI
  have Ng:=Uw.pushB (k:=k') ET fun z hz c hc=>by
   have e1:=LO c hc
   rw [RP]at hz
   rcases List.mem_append.mp hz with hz|hz
   ·exact Nat.le_trans ((List.pairwise_append.mp SI).2.2 z hz v (by simp)) e1
   ·rw [List.mem_singleton.mp hz];exact e1
  have lZ:(DY.push u++(b.extract k' m).reverse).toList.reverse=(b.toList.take m).drop k'++(DY.push u).toList.reverse:=by
   rw [Array.toList_append,List.reverse_append,Array.toList_reverse,List.reverse_reverse,Cy]
  rw [<-lZ]at Ng
  ·by_cases hk0':m-k' > 0
   ·rw [if_pos hk0']
    by_cases e4:k'=1
    ·rw [if_pos (by simpa using e4)]
     exact wpS_pure (.inr ⟨_,_,rfl,K7 _,LS Ng e4⟩)
    rw [if_neg (by simpa using e4)]
    by_cases e5:k'=0
    ·rw [if_pos (by simpa using e5)]
     exact wpS_pure (.inr ⟨_,_,rfl,K7 _,Y4 Ng e5⟩)
    rw [if_neg (by simpa using e5)]
    have SW:2≤k'/\k'≤b.size/\n+k'+1≤na+nb:=by lia
    generalize m-k'=Vr
    revert Ng SW MP
    generalize DY.push u++(b.extract k' m).reverse=LX
    generalize k'=cf
    revert LX cf Vr
    exact key.h
   ·rw [if_neg hk0']
    have R0:k'=m:=by lia
    have SW:2≤m/\m≤b.size/\n+m+1≤na+nb:=by lia
    have YV:DY.push u++(b.extract m m).reverse=DY.push u:=Array.toList_inj.mp (by rw [Array.toList_append,Array.toList_reverse,Cy];simp)
    rw [R0,YV]at Ng
    rw [R0]at MP
    generalize m-k'=Vr
    revert Ng SW MP
    generalize DY.push u=LX
    generalize m=cf
    revert LX cf Vr
    exact key.h
  intro Vr LX cf MP Ng SW
  refine wpS_bind (Af Sw ?_)
  have X9:=pA Ng X4 (fun z hz=>Nat.le_of_lt (MP z hz))
  by_cases e6:n=0
  ·rw [if_pos (by simpa using e6)]
   exact wpS_pure (.inr ⟨_,_,rfl,K7 _,Li X9 e6⟩)
  rw [if_neg (by simpa using e6)]
  split
  ·exact wpS_pure (.inl ⟨_,_,_,_,_,_,rfl,K7 _,X9,by lia,by lia,by lia,by lia,by lia⟩)
  ·exact wpS_pure ⟨_,_,_,_,_,_,rfl,K7 _,X9,by lia,by lia,by lia,by lia,by lia⟩
 ·rintro c AQ ⟨Ga,NX,CM,Ss,ZS,Zv,rfl,Fl,EO,w1,w2,w3,w4,w5⟩
  exact .inl ⟨_,_,_,_,_,_,rfl,Fl,EO,w1,w2,w3,w4,w5⟩
 ·rintro c FI (⟨Ga,NX,CM,Ss,ZS,Zv,rfl,Fl,EO,w1,w2,w3,w4,w5⟩|⟨res,rest,rfl,Fl,EO⟩)
  ·dsimp only
   refine wpS_bind (wpS_modify (wpS_pure ⟨_,_,_,_,rfl,⟨⟨Fl.base.perm,Fl.base.kind,Fl.base.failed⟩,Fl.arr,Fl.pend⟩,EO,w1,w2,w3,w4,by lia⟩))
  ·dsimp only
   exact wpS_pure ⟨_,_,rfl,Fl,EO⟩
end
section
variable {prog:Program}{w:World}{A:Around}{E:Value->Shared->Prop}{s:Shared}{a₀:Array Keyed}{r:Keyed->Nat}{k0:SortKind}
abbrev seg (l:List Keyed) (i n:Nat):List Keyed:=(l.drop i).take n
def Runs (r:Keyed->Nat) (l:List Keyed):Nat->List (Nat×Nat×Nat)->Nat->Prop
 |b,[],lo=>b=lo
 |b,(st,n,_)::rest,lo=>st=b/\1≤n/\Srt r (seg l b n)/\Runs r l (b+n) rest lo
theorem Runs.le {l:List Keyed}:∀{p:List (Nat×Nat×Nat)} {b lo:Nat},Runs r l b p lo->b+p.length≤lo
 |[],_,_,h=>by rw [Runs]at h;subst h;simp
 |(st,n,_)::rest,b,lo,h=>by
  rw [Runs]at h
  have:=Runs.le h.2.2.2
  rw [List.length_cons];lia
theorem Runs.same {l l':List Keyed}:∀{p:List (Nat×Nat×Nat)} {b lo:Nat},Runs r l b p lo->(∀i n,b≤i->i+n≤lo->seg l' i n=seg l i n)->Runs r l' b p lo
 |[],_,_,h,_=>h
 |(st,n,_)::rest,b,lo,h,e=>by
  rw [Runs]at h ⊢
  have:=Runs.le h.2.2.2
  exact ⟨h.1,h.2.1,by rw [e b n (Nat.le_refl _) (by lia)];exact h.2.2.1,Runs.same h.2.2.2 fun i n' h1 h2=>e i n' (by lia) h2⟩
theorem Runs.snoc {l:List Keyed}:∀{p:List (Nat×Nat×Nat)} {b lo n pw:Nat},Runs r l b p lo->1≤n->Srt r (seg l lo n)->Runs r l b (p++[(lo,n,pw)]) (lo+n)
 |[],b,lo,n,pw,h,h1,h2=>by
  rw [Runs]at h
  subst h
  exact ⟨rfl,h1,h2,rfl⟩
 |(st,m,_)::rest,b,lo,n,pw,h,h1,h2=>by
  rw [Runs]at h
  exact ⟨h.1,h.2.1,h.2.2.1,Runs.snoc h.2.2.2 h1 h2⟩
theorem Runs.merge {l l':List Keyed}:∀{pre:List (Nat×Nat×Nat)} {b lo sa na pa sb nb pb:Nat} {post:List (Nat×Nat×Nat)},Runs r l b (pre++(sa,na,pa)::(sb,nb,pb)::post) lo →
  (∀i n,i+n≤sa->seg l' i n=seg l i n)->(∀i n,sa+na+nb≤i->seg l' i n=seg l i n)->Srt r (seg l' sa (na+nb))->Runs r l' b (pre++(sa,na+nb,pa)::post) lo
 |[],b,lo,sa,na,pa,sb,nb,pb,post,h,h1,h2,h3=>by
  rw [List.nil_append,Runs,Runs]at h
  obtain ⟨rfl,g1,g2,rfl,g3,g4,g5⟩:=h
  refine ⟨rfl,by lia,h3,?_⟩
  rw [Nat.add_assoc]at g5
  exact g5.same fun i n q1 q2=>h2 i n (by lia)
 |(st,n,_)::rest,b,lo,sa,na,pa,sb,nb,pb,post,h,h1,h2,h3=>by
  rw [List.cons_append,Runs]at h
  obtain ⟨rfl,g1,g2,g3⟩:=h
  have uQ:st+n≤sa:=by
   have:∀{pre:List (Nat×Nat×Nat)} {b:Nat},Runs r l b (pre++(sa,na,pa)::(sb,nb,pb)::post) lo->b≤sa:=by
    intro pre
    induction pre with
    |nil=>intro b h;rw [List.nil_append,Runs]at h;lia
    |cons x r' ih=>intro b h;obtain ⟨x1,x2,x3⟩:=x;rw [List.cons_append,Runs]at h;have:=ih h.2.2.2;lia
   exact this g3
  refine ⟨rfl,g1,by rw [h1 st n uQ];exact g2,Runs.merge g3 h1 h2 h3⟩
theorem Runs.at {l:List Keyed}:∀{pre:List (Nat×Nat×Nat)} {b lo sa na pa sb nb pb:Nat} {post:List (Nat×Nat×Nat)},Runs r l b (pre++(sa,na,pa)::(sb,nb,pb)::post) lo →
  b≤sa/\sb=sa+na/\1≤na/\1≤nb/\sb+nb≤lo/\Srt r (seg l sa na)/\Srt r (seg l sb nb)
 |[],b,lo,sa,na,pa,sb,nb,pb,post,h=>by
  rw [List.nil_append,Runs,Runs]at h
  obtain ⟨rfl,g1,g2,rfl,g3,g4,g5⟩:=h
  have:=g5.le
  exact ⟨Nat.le_refl _,rfl,g1,g3,by lia,g2,g4⟩
 |(st,n,_)::rest,b,lo,sa,na,pa,sb,nb,pb,post,h=>by
  rw [List.cons_append,Runs]at h
  obtain ⟨rfl,g1,g2,g3⟩:=h
  obtain ⟨q1,q2⟩:=Runs.at g3
  exact ⟨by lia,q2⟩
theorem MN (off:Nat):∀(ms:List Keyed) (j:Nat) (xs:Array Keyed) (k:Nat),off+j+ms.length≤xs.size →
  ((ms.zipIdx j).foldl (fun a (p:Keyed×Nat)=>a.setIfInBounds (off+p.2) p.1) xs)[k]?=if off+j≤k/\k<off+j+ms.length then ms[k-(off+j)]? else xs[k]?
 |[],j,xs,k,_=>by simp;lia
 |m::ms,j,xs,k,h=>by
  rw [List.zipIdx_cons,List.foldl_cons]
  rw [List.length_cons]at h
  rw [MN off ms (j+1) _ k (by rw [Array.size_setIfInBounds];lia)]
  rw [List.length_cons]
  by_cases h1:off+(j+1)≤k/\k<off+(j+1)+ms.length
  ·rw [if_pos h1,if_pos (by lia)]
   obtain ⟨q,hq⟩:∃q,k-(off+j)=q+1:=⟨k-(off+j)-1,by lia⟩
   rw [hq,List.getElem?_cons_succ]
   congr 1
   lia
  ·rw [if_neg h1,Array.getElem?_setIfInBounds]
   by_cases h2:off+j=k
   ·rw [if_pos h2,if_pos (by lia),if_pos (by lia)]
    have:k-(off+j)=0:=by lia
    rw [this];rfl
   ·rw [if_neg h2,if_neg (by lia)]
theorem RY (off:Nat) (ms:List Keyed) (xs:Array Keyed) (h:off+ms.length≤xs.size):((ms.zipIdx).foldl (fun a (p:Keyed×Nat)=>a.setIfInBounds (off+p.2) p.1) xs).toList=xs.toList.take off++ms++xs.toList.drop (off+ms.length):=by
 have hl:xs.toList.length=xs.size:=Array.length_toList
 refine List.ext_getElem? fun k=>?_
 rw [Array.getElem?_toList,MN off ms 0 xs k (by lia),Nat.add_zero,List.append_assoc]
 by_cases h1:k<off
 ·rw [if_neg (by lia),List.getElem?_append_left (by rw [List.length_take];lia),List.getElem?_take,if_pos h1,Array.getElem?_toList]
 ·rw [List.getElem?_append_right (by rw [List.length_take];lia),List.length_take,show min off xs.toList.length=off by lia]
  by_cases h2:k<off+ms.length
  ·rw [if_pos (by lia),List.getElem?_append_left (by lia)]
  ·rw [if_neg (by lia),List.getElem?_append_right (by lia),List.getElem?_drop,Array.getElem?_toList]
   congr 1
   lia
theorem Vo {l M:List Keyed} {i0 j0:Nat} (hi:i0≤l.length) (i n:Nat) (h:i+n≤i0):seg (l.take i0++M++l.drop j0) i n=seg l i n:=by
 unfold seg
 rw [List.append_assoc,List.drop_append_of_le_length (by rw [List.length_take];lia),List.take_append_of_le_length (by rw [List.length_drop,List.length_take];lia),List.drop_take,List.take_take]
 congr 1
 lia
theorem MY {l M:List Keyed} {i0 j0:Nat} (hi:i0+M.length=j0) (hj:j0≤l.length) (i n:Nat) (h:j0≤i):seg (l.take i0++M++l.drop j0) i n=seg l i n:=by
 unfold seg
 have e:(l.take i0++M).length=j0:=by rw [List.length_append,List.length_take];lia
 rw [List.drop_append,List.drop_eq_nil_of_le (by lia),List.nil_append,e,List.drop_drop]
 congr 2
 lia
theorem VC {l M:List Keyed} {sa k i0 j0 t:Nat} (h0:i0=sa+k) (hi:i0+M.length=j0) (hj:j0+t≤l.length):seg (l.take i0++M++l.drop j0) sa (k+M.length+t)=seg l sa k++M++seg l j0 t:=by
 unfold seg
 subst h0
 rw [List.append_assoc,List.drop_append_of_le_length (by rw [List.length_take];lia),List.drop_take,show sa+k-sa=k by lia]
 have hP:((l.drop sa).take k).length=k:=by rw [List.length_take,List.length_drop];lia
 generalize (l.drop sa).take k=P0 at *
 subst hP
 rw [Nat.add_assoc,List.take_length_add_append,List.take_length_add_append,List.append_assoc]
theorem Vh {xs:Array Keyed} {i n:Nat} {p:Keyed} (h:xs[i]?=some p) (hn:1≤n):∃t,seg xs.toList i n=p::t:=by
 have hp:xs.toList[i]?=some p:=by rw [Array.getElem?_toList];exact h
 obtain ⟨hl,e⟩:=List.getElem?_eq_some_iff.mp hp
 unfold seg
 rw [List.drop_eq_getElem_cons hl,e]
 obtain ⟨m,rfl⟩:∃m,n=m+1:=⟨n-1,by lia⟩
 exact ⟨_,List.take_succ_cons ..⟩
theorem Vy {M:Model} {σ:Type} {x:σ} {Q:PUnit->σ->Prop} {st:σ} (h:Q ⟨⟩ x):wpS M A E s (set x:StateT σ Sem PUnit) Q st:=by
 unfold wpS;rw [StateT.run_set];exact wpAny_pure ⟨rfl,h⟩
theorem N0 {l M:List Keyed} {sa na nb k t:Nat} {bw cR:Keyed} (sA:Srt r (seg l sa na)) (sB:Srt r (seg l (sa+na) nb)) (hk:k≤na) (ht:t≤nb)
  (h1:∀c∈seg l sa k,r c≤r bw) (h2:∀c∈(seg l sa na).drop k,r c≤r cR) (h3:∀c∈seg l (sa+na) nb,r bw≤r c) (h4:∀c∈(seg l (sa+na) nb).drop t,r cR≤r c)
  (hM:Mg r ((seg l sa na).drop k) (seg l (sa+na) t) M):Srt r (seg l sa k++M++seg l (sa+na+t) (nb-t)):=by
 have eA:seg l sa k++(seg l sa na).drop k=seg l sa na:=by
  unfold seg
  have:=List.take_append_drop k ((l.drop sa).take na)
  rwa [List.take_take,Nat.min_eq_left hk]at this
 have eT:(seg l (sa+na) nb).drop t=seg l (sa+na+t) (nb-t):=by
  unfold seg
  rw [List.drop_take,List.drop_drop]
 have eB:seg l (sa+na) t++(seg l (sa+na) nb).drop t=seg l (sa+na) nb:=by
  unfold seg
  have:=List.take_append_drop t ((l.drop (sa+na)).take nb)
  rwa [List.take_take,Nat.min_eq_left ht]at this
 rw [<-eT]
 rw [<-eA]at sA
 have cQ:=h3
 rw [<-eB]at sB cQ
 obtain ⟨a1,a2,a3⟩:=List.pairwise_append.mp sA
 obtain ⟨b1,b2,b3⟩:=List.pairwise_append.mp sB
 have mm:∀c∈M,c∈(seg l sa na).drop k\/c∈seg l (sa+na) t:=fun c hc=>List.mem_append.mp (hM.perm.mem_iff.mp hc)
 rw [List.append_assoc]
 refine List.pairwise_append.mpr ⟨a1,List.pairwise_append.mpr ⟨hM.srt,b2,fun x hx y hy=>?_⟩,fun x hx y hy=>?_⟩
 ·rcases mm x hx with hx|hx
  ·exact Nat.le_trans (h2 x hx) (h4 y hy)
  ·exact b3 x hx y hy
 ·have N6:=h1 x hx
  rcases List.mem_append.mp hy with hy|hy
  ·rcases mm y hy with hy|hy
   ·exact a3 x hx y hy
   ·exact Nat.le_trans N6 (cQ y (List.mem_append_left _ hy))
  ·exact Nat.le_trans N6 (cQ y (List.mem_append_right _ hy))
theorem HU (hc:CmpOk prog w A s a₀ r k0) {st:SortSt} (hB:SB a₀ k0 st) {i lo:Nat} {pre post:List (Nat×Nat×Nat)} {sa na pa sb nb pb:Nat} (hp:(pendingOf st).toList=pre++(sa,na,pa)::(sb,nb,pb)::post) (hi:pre.length=i) (fP:lo≤a₀.size)
  (hR:Runs r (arrOf st).toList 0 (pendingOf st).toList lo) {Q:Bool->SortSt->Prop}
  (h:∀AQ,SB a₀ k0 AQ->(pendingOf AQ).toList=pre++(sa,na+nb,pa)::post->Runs r (arrOf AQ).toList 0 (pendingOf AQ).toList lo->(∀i n,lo≤i->seg (arrOf AQ).toList i n=seg (arrOf st).toList i n)->Q true AQ):wpS (model prog w) A E s (mergeAt' i) Q st:=by
 have aF:=hR
 rw [hp]at aF
 obtain ⟨_,rfl,z1,z2,z3,sA,sB⟩:=Runs.at aF
 have hsz:=hB.size
 have hl:(arrOf st).toList.length=a₀.size:=by rw [Array.length_toList];exact hsz
 have hpl:(pendingOf st).toList.length=(pendingOf st).size:=Array.length_toList
 have e1:(pendingOf st)[i]?=some (sa,na,pa):=by
  rw [<-Array.getElem?_toList,hp,List.getElem?_append_right (by lia),hi,Nat.sub_self];rfl
 have e2:(pendingOf st)[i+1]?=some (sa+na,nb,pb):=by
  rw [<-Array.getElem?_toList,hp,List.getElem?_append_right (by lia),hi,show i+1-i=1 by lia];rfl
 have MM:(((pendingOf st).setIfInBounds i (sa,na+nb,pa)).eraseIdxIfInBounds (i+1)).toList=pre++(sa,na+nb,pa)::post:=by
  rw [Array.toList_eraseIdxIfInBounds,Array.toList_setIfInBounds,hp,<-hi]
  rw [List.set_append_right _ _ (Nat.le_refl _),Nat.sub_self,List.set_cons_zero,List.eraseIdx_append_of_length_le (by lia),show pre.length+1-pre.length=1 by lia]
  rfl
 have Rz:∀p∈(arrOf st).toList,p∈a₀.toList:=fun p hp=>hB.mem hp
 obtain ⟨kb,Lo⟩:∃p,(arrOf st)[sa+na]?=some p:=⟨_,getElem?_pos _ (sa+na) (by lia)⟩
 unfold mergeAt'
 refine wpS_bind (wpS_get ?_)
 rw [e1,e2]
 dsimp only
 refine wpS_bind (Vy ?_)
 have NF:SB a₀ k0 (SortSt.mk' (kindOf st) (arrOf st) (((pendingOf st).setIfInBounds i (sa,na+nb,pa)).eraseIdxIfInBounds (i+1)) (gallopOf st) (failedOf st)):=⟨hB.perm,hB.kind,hB.failed⟩
 obtain ⟨tB,rH⟩:=Vh (n:=nb) Lo z2
 have Sh:∀c∈seg (arrOf st).toList (sa+na) nb,r kb≤r c:=fun c Pb=>by
  rw [rH]at Pb sB
  rcases List.mem_cons.mp Pb with rfl|Pb
  ·exact Nat.le_refl _
  ·exact (List.pairwise_cons.mp sB).1 c Pb
 refine wpS_bind (Af Lo (wpS_bind (Eo (base:=sa) (n:=na) (hint:=0) hc NF (hB.memAt Lo) Rz (by lia) (by lia) sA fun k hk OR FF=>?_)))
 dsimp only
 by_cases hk0:na-k=0
 ·rw [if_pos (by simpa using hk0)]
  obtain rfl:k=na:=by lia
  refine wpS_pure (h _ NF MM ?_ fun _ _ _=>rfl)
  show Runs r (arrOf st).toList 0 (((pendingOf st).setIfInBounds i (sa,k+nb,pa)).eraseIdxIfInBounds (i+1)).toList lo
  rw [MM]
  refine Runs.merge aF (fun _ _ _=>rfl) (fun _ _ _=>rfl) ?_
  have e:seg (arrOf st).toList sa (k+nb)=seg (arrOf st).toList sa k++seg (arrOf st).toList (sa+k) nb:=by
   unfold seg
   rw [List.take_add,List.drop_drop]
  rw [e]
  exact List.pairwise_append.mpr ⟨sA,sB,fun x hx y hy=>Nat.le_trans (OR x hx) (Sh y hy)⟩
 rw [if_neg (by simpa using hk0)]
 obtain ⟨ka,aI⟩:∃p,(arrOf st)[sa+k+(na-k)-1]?=some p:=⟨_,getElem?_pos _ (sa+k+(na-k)-1) (by lia)⟩
 refine wpS_bind (Af aI (wpS_bind (Ex (base:=sa+na) (n:=nb) (hint:=nb-1) hc NF (hB.memAt aI) Rz (by lia) (by lia) sB fun t ht nB fO=>?_)))
 dsimp only
 have Wv:∀c∈(seg (arrOf st).toList sa na).drop k,r c≤r ka:=fun c Pb=>by
  have dE:(seg (arrOf st).toList sa na)[na-1]?=some ka:=by
   unfold seg
   rw [List.getElem?_take,if_pos (by lia),List.getElem?_drop,Array.getElem?_toList]
   rw [<-aI];congr 1;lia
  obtain ⟨j,hj⟩:=List.mem_iff_getElem?.mp Pb
  rw [List.getElem?_drop]at hj
  have mv:=(List.getElem?_eq_some_iff.mp hj).1
  have hlen:(seg (arrOf st).toList sa na).length≤na:=by unfold seg;rw [List.length_take];lia
  by_cases hje:k+j=na-1
  ·rw [hje,dE]at hj;cases hj;exact Nat.le_refl _
  ·obtain ⟨q1,q2⟩:=List.getElem?_eq_some_iff.mp dE
   obtain ⟨q3,q4⟩:=List.getElem?_eq_some_iff.mp hj
   have:=List.pairwise_iff_getElem.mp sA (k+j) (na-1) q3 q1 (by lia)
   rw [q2,q4]at this
   exact this
 by_cases ht0:t=0
 ·rw [if_pos (by simpa using ht0)]
  subst ht0
  refine wpS_pure (h _ NF MM ?_ fun _ _ _=>rfl)
  show Runs r (arrOf st).toList 0 (((pendingOf st).setIfInBounds i (sa,na+nb,pa)).eraseIdxIfInBounds (i+1)).toList lo
  rw [MM]
  refine Runs.merge aF (fun _ _ _=>rfl) (fun _ _ _=>rfl) ?_
  have e:seg (arrOf st).toList sa (na+nb)=seg (arrOf st).toList sa na++seg (arrOf st).toList (sa+na) nb:=by
   unfold seg
   rw [List.take_add,List.drop_drop]
  rw [e]
  rw [List.drop_zero]at fO
  have eA:seg (arrOf st).toList sa k++(seg (arrOf st).toList sa na).drop k=seg (arrOf st).toList sa na:=by
   unfold seg
   have:=List.take_append_drop k (((arrOf st).toList.drop sa).take na)
   rwa [List.take_take,Nat.min_eq_left hk]at this
  refine List.pairwise_append.mpr ⟨sA,sB,fun x hx y hy=>?_⟩
  rw [<-eA]at hx
  rcases List.mem_append.mp hx with hx|hx
  ·exact Nat.le_trans (OR x hx) (Sh y hy)
  ·exact Nat.le_trans (Wv x hx) (fO y hy)
 rw [if_neg (by simpa using ht0)]
 have ex:((arrOf st).extract (sa+k) (sa+na)).toList=(seg (arrOf st).toList sa na).drop k:=by
  rw [Cy]
  unfold seg
  rw [List.drop_take,List.drop_take,List.drop_drop]
  congr 1
  lia
 have ey:((arrOf st).extract (sa+na) (sa+na+t)).toList=seg (arrOf st).toList (sa+na) t:=EX _ _ _
 have sx:Srt r ((arrOf st).extract (sa+k) (sa+na)).toList:=by rw [ex];exact sA.sublist (List.drop_sublist _ _)
 have sy:Srt r ((arrOf st).extract (sa+na) (sa+na+t)).toList:=by
  rw [ey]
  have:seg (arrOf st).toList (sa+na) t=(seg (arrOf st).toList (sa+na) nb).take t:=by unfold seg;rw [List.take_take,Nat.min_eq_left ht]
  rw [this];exact sB.sublist (List.take_sublist _ _)
 have lx:((arrOf st).extract (sa+k) (sa+na)).toList.length=na-k:=by rw [ex];unfold seg;rw [List.length_drop,List.length_take,List.length_drop];lia
 have ly:((arrOf st).extract (sa+na) (sa+na+t)).toList.length=t:=by rw [ey];unfold seg;rw [List.length_take,List.length_drop];lia
 have zx:1≤((arrOf st).extract (sa+k) (sa+na)).size:=by rw [<-Array.length_toList,lx];lia
 have zy:1≤((arrOf st).extract (sa+na) (sa+na+t)).size:=by rw [<-Array.length_toList,ly];lia
 have mf:∀p∈((arrOf st).extract (sa+k) (sa+na)).toList,p∈a₀.toList:=fun p cD=>by
  rw [ex]at cD
  exact Rz p (List.mem_of_mem_drop (List.mem_of_mem_take (List.mem_of_mem_drop cD)))
 have n5:∀p∈((arrOf st).extract (sa+na) (sa+na+t)).toList,p∈a₀.toList:=fun p cD=>by
  rw [ey]at cD
  exact Rz p (List.mem_of_mem_drop (List.mem_of_mem_take cD))
 have S4:∀y,((arrOf st).extract (sa+na) (sa+na+t)).toList[0]?=some y->y=kb:=fun y hy=>by
  rw [ey]at hy
  unfold seg at hy
  rw [List.getElem?_take,if_pos (by lia),List.getElem?_drop,Nat.add_zero,Array.getElem?_toList,Lo]at hy
  cases hy;rfl
 have finish:∀(out:Array Keyed) (AQ:SortSt),Mg r ((arrOf st).extract (sa+k) (sa+na)).toList ((arrOf st).extract (sa+na) (sa+na+t)).toList out.toList →
   Gl a₀ k0 (SortSt.mk' (kindOf st) (arrOf st) (((pendingOf st).setIfInBounds i (sa,na+nb,pa)).eraseIdxIfInBounds (i+1)) (gallopOf st) (failedOf st)) AQ →
   Q (failedOf AQ).isNone (SortSt.mk' (kindOf AQ) (out.toList.zipIdx.foldl (fun a (p:Keyed×Nat)=>a.setIfInBounds (sa+k+p.2) p.1) (arrOf AQ)) (pendingOf AQ) (gallopOf AQ) (failedOf AQ)):=by
  intro out AQ hM hG
  have lA:arrOf AQ=arrOf st:=hG.arr
  have au:(pendingOf AQ).toList=pre++(sa,na+nb,pa)::post:=by rw [hG.pend];exact MM
  have sk:out.toList.length=na-k+t:=by rw [hM.perm.length_eq,List.length_append,lx,ly]
  have bO:(failedOf AQ).isNone=true:=by rw [hG.base.failed];rfl
  rw [bO]
  have YZ:(out.toList.zipIdx.foldl (fun a (p:Keyed×Nat)=>a.setIfInBounds (sa+k+p.2) p.1) (arrOf AQ)).toList=(arrOf st).toList.take (sa+k)++out.toList++(arrOf st).toList.drop (sa+na+t):=by
   rw [lA,RY _ _ _ (by lia),sk]
   congr 2
   lia
  refine h _ ⟨?_,hG.base.kind,hG.base.failed⟩ au ?_ fun j n hj=>?_
  ·refine Array.Perm.trans ?_ hB.perm
   rw [Array.perm_iff_toList_perm]
   show (out.toList.zipIdx.foldl (fun a (p:Keyed×Nat)=>a.setIfInBounds (sa+k+p.2) p.1) (arrOf AQ)).toList.Perm (arrOf st).toList
   rw [YZ]
   have dH:(arrOf st).toList=(arrOf st).toList.take (sa+k)++(((arrOf st).extract (sa+k) (sa+na)).toList++((arrOf st).extract (sa+na) (sa+na+t)).toList)++(arrOf st).toList.drop (sa+na+t):=by
    rw [Cy,Cy,<-List.append_assoc,EG _ (by lia),EG _ (by lia),List.take_append_drop]
   conv=>rhs;rw [dH]
   exact ((hM.perm.append_left _).append_right _)
  ·show Runs r (out.toList.zipIdx.foldl (fun a (p:Keyed×Nat)=>a.setIfInBounds (sa+k+p.2) p.1) (arrOf AQ)).toList 0 (pendingOf AQ).toList lo
   rw [YZ,au]
   refine Runs.merge aF (fun j n hj=>?_) (fun j n hj=>?_) ?_
   ·exact Vo (by lia) j n (by lia)
   ·exact MY (by lia) (by lia) j n (by lia)
   ·have:=VC (l:=(arrOf st).toList) (M:=out.toList) (sa:=sa) (k:=k) (i0:=sa+k) (j0:=sa+na+t) (t:=nb-t) rfl (by lia) (by lia)
    rw [show k+out.toList.length+(nb-t)=na+nb by lia]at this
    rw [this]
    refine N0 sA sB hk ht OR Wv Sh fO ?_
    rw [<-ex,<-ey]
    exact hM
  ·show seg (out.toList.zipIdx.foldl (fun a (p:Keyed×Nat)=>a.setIfInBounds (sa+k+p.2) p.1) (arrOf AQ)).toList j n=_
   rw [YZ]
   exact MY (by lia) (by lia) j n (by lia)
 by_cases hle:na-k≤t
 ·rw [if_pos hle]
  refine wpS_bind (Mj hc NF mf n5 sx sy zx zy ?_ ?_ fun out AQ hM hG=>wpS_bind (wpS_modify (wpS_bind (wpS_get (wpS_pure (finish out AQ hM hG))))))
  ·intro x y hx hy
   have qi:=S4 y (by rw [Array.getElem?_toList];exact hy)
   subst qi
   have:x∈((arrOf st).extract (sa+k) (sa+na)).toList:=Array.mem_toList_iff.mpr (Array.mem_of_getElem? hx)
   rw [ex]at this
   exact Nat.le_of_lt (FF x this)
  ·intro x hx y hy
   rw [ey]at hy
   have iO:x=ka:=by
    rw [lx,Cy,List.getElem?_drop,List.getElem?_take]at hx
    rw [if_pos (by lia),Array.getElem?_toList]at hx
    rw [show sa+k+(na-k-1)=sa+k+(na-k)-1 by lia,aI]at hx
    cases hx;rfl
   subst iO
   exact Nat.le_of_lt (nB y hy)
 ·rw [if_neg hle]
  refine wpS_bind (Mq hc NF mf n5 sx sy zx zy ?_ ?_ fun out AQ hM hG=>wpS_bind (wpS_modify (wpS_bind (wpS_get (wpS_pure (finish out AQ hM hG))))))
  ·intro y hy x hx
   obtain ⟨j,hj⟩:=List.mem_iff_getElem?.mp hy
   rw [List.getElem?_take]at hj
   split at hj
   ·rename_i oz
    obtain rfl:j=0:=by lia
    have:=S4 y hj
    subst this
    rw [ex]at hx
    exact Nat.le_of_lt (FF x hx)
   ·cases hj
  ·intro x hx y hy
   rw [ey]at hy
   obtain ⟨j,hj⟩:=List.mem_iff_getElem?.mp hx
   rw [List.getElem?_drop,<-Array.length_toList,lx]at hj
   have mv:=(List.getElem?_eq_some_iff.mp hj).1
   rw [lx]at mv
   obtain rfl:j=0:=by lia
   have iO:x=ka:=by
    rw [Nat.add_zero,Cy,List.getElem?_drop,List.getElem?_take,if_pos (by lia),Array.getElem?_toList]at hj
    rw [show sa+k+(na-k-1)=sa+k+(na-k)-1 by lia,aI]at hj
    cases hj;rfl
   subst iO
   exact Nat.le_of_lt (nB y hy)
end
section
variable {prog:Program}{w:World}{A:Around}{E:Value->Shared->Prop}{s:Shared}{a₀:Array Keyed}{r:Keyed->Nat}{k0:SortKind}
theorem J1 {xs:Array Keyed} {i n:Nat} (h:Up r xs i (i+n)):Srt r (seg xs.toList i n):=by
 rw [Srt,List.pairwise_iff_getElem]
 intro j k hj hk vm
 have e1:(seg xs.toList i n)[j]?=some (seg xs.toList i n)[j]:=List.getElem?_eq_getElem hj
 have e2:(seg xs.toList i n)[k]?=some (seg xs.toList i n)[k]:=List.getElem?_eq_getElem hk
 have R0:k<n:=by unfold seg at hk;rw [List.length_take]at hk;lia
 have f1:xs.toList[i+j]?=some (seg xs.toList i n)[j]:=by
  rw [<-e1];unfold seg;rw [List.getElem?_take,if_pos (by lia),List.getElem?_drop]
 have f2:xs.toList[i+k]?=some (seg xs.toList i n)[k]:=by
  rw [<-e2];unfold seg;rw [List.getElem?_take,if_pos (by lia),List.getElem?_drop]
 have:=h (i+j) (i+k) (by lia) (by lia) (by lia)
 rw [DP f1,DP f2]at this
 exact this
theorem NU {xs ys:Array Keyed} {lo:Nat} (h:∀k,k<lo->ys[k]?=xs[k]?) (i n:Nat) (hi:i+n≤lo):seg ys.toList i n=seg xs.toList i n:=by
 refine List.ext_getElem? fun k=>?_
 unfold seg
 rw [List.getElem?_take,List.getElem?_take]
 split
 ·rw [List.getElem?_drop,List.getElem?_drop,Array.getElem?_toList,Array.getElem?_toList]
  exact h _ (by lia)
 ·rfl
theorem R9 {p:List (Nat×Nat×Nat)} {i:Nat} (h:i+1<p.length):∃pre sa na pa sb nb pb post,p=pre++(sa,na,pa)::(sb,nb,pb)::post/\pre.length=i:=by
 refine ⟨p.take i,p[i].1,p[i].2.1,p[i].2.2,p[i+1].1,p[i+1].2.1,p[i+1].2.2,p.drop (i+2),?_,by rw [List.length_take];lia⟩
 have e1:=List.drop_eq_getElem_cons (show i<p.length by lia)
 have e2:=List.drop_eq_getElem_cons h
 show p=p.take i++p[i]::p[i+1]::p.drop (i+2)
 rw [<-e2,<-e1,List.take_append_drop]
theorem Runs.last {l:List Keyed}:∀{p:List (Nat×Nat×Nat)} {b lo:Nat} {f:Nat×Nat×Nat->Nat×Nat×Nat},Runs r l b p lo->(∀x,(f x).1=x.1/\(f x).2.1=x.2.1)->∀i,Runs r l b (p.modify i f) lo
 |[],_,_,_,h,_,i=>by cases i<;>simpa using h
 |(st,n,q)::rest,b,lo,f,h,hf,0=>by
  rw [Runs]at h
  rw [List.modify_zero_cons]
  obtain ⟨e1,e2⟩:=hf (st,n,q)
  generalize f (st,n,q)=y at *
  obtain ⟨y1,y2,y3⟩:=y
  simp only at e1 e2
  subst e1;subst e2
  exact h
 |(st,n,q)::rest,b,lo,f,h,hf,i+1=>by
  rw [Runs]at h
  rw [List.modify_succ_cons]
  exact ⟨h.1,h.2.1,h.2.2.1,Runs.last h.2.2.2 hf i⟩
theorem wpS_sortRuns (hc:CmpOk prog w A s a₀ r k0) {st:SortSt} (hB:SB a₀ k0 st) (hp:pendingOf st=#[]) {Q:Unit->SortSt->Prop} (h:∀AQ,SB a₀ k0 AQ->Srt r (arrOf AQ).toList->Q () AQ):wpS (model prog w) A E s sortRuns' Q st:=by
 have hsz:=hB.size
 unfold sortRuns'
 refine wpS_bind (wpS_get ?_)
 dsimp only
 rw [show (arrOf st).size=a₀.size from hsz]
 refine wpS_bind (wpS_mono (wpS_forRange (I:=fun x c AQ=>∃lo,c=(none,lo)/\SB a₀ k0 AQ/\lo≤a₀.size/\(x≤lo\/lo=a₀.size)/\Runs r (arrOf AQ).toList 0 (pendingOf AQ).toList lo)
  (Q:=fun c AQ=>c=(none,a₀.size)/\SB a₀ k0 AQ/\Runs r (arrOf AQ).toList 0 (pendingOf AQ).toList a₀.size) ?_ ?_ ⟨0,rfl,hB,by lia,.inl (by lia),by rw [hp];rfl⟩) ?_)
 rotate_left
 ·rintro c AQ ⟨lo,rfl,d0,h1,h2,hR⟩
  obtain rfl:lo=a₀.size:=by lia
  exact ⟨rfl,d0,hR⟩
 ·rintro c AQ ⟨rfl,d0,hR⟩
  dsimp only
  refine wpS_bind (wpS_mono (wpS_forRange (I:=fun x c AQ=>c=(none,())/\SB a₀ k0 AQ/\Runs r (arrOf AQ).toList 0 (pendingOf AQ).toList a₀.size/\((pendingOf AQ).size≤1\/(pendingOf AQ).size+x≤a₀.size))
   (Q:=fun c AQ=>c=(none,())/\SB a₀ k0 AQ/\Runs r (arrOf AQ).toList 0 (pendingOf AQ).toList a₀.size/\(pendingOf AQ).size≤1) ?_ ?_ ⟨rfl,d0,hR,.inr (by have:=hR.le;rw [Array.length_toList]at this;lia)⟩) ?_)
  ·rintro x c Bj _ _ ⟨rfl,NF,Sm,Z9⟩
   refine wpS_bind (wpS_get ?_)
   by_cases hle:(pendingOf Bj).size≤1
   ·rw [if_pos hle]
    exact wpS_pure ⟨rfl,NF,Sm,hle⟩
   rw [if_neg hle]
   have hpl:(pendingOf Bj).toList.length=(pendingOf Bj).size:=Array.length_toList
   have go:∀i,i+1<(pendingOf Bj).size->wpS (model prog w) A E s (mergeAt' i) (fun b Ci=>b=true/\SB a₀ k0 Ci/\Runs r (arrOf Ci).toList 0 (pendingOf Ci).toList a₀.size/\(pendingOf Ci).size+1=(pendingOf Bj).size) Bj:=by
    intro i hi
    obtain ⟨pre,sa,na,pa,sb,nb,pb,post,e,Gz⟩:=R9 (p:=(pendingOf Bj).toList) (i:=i) (by lia)
    refine HU hc NF e Gz (Nat.le_refl _) Sm fun Ci fm Jg Xe _=>⟨rfl,fm,Xe,?_⟩
    have e2:(pendingOf Ci).size=(pre++(sa,na+nb,pa)::post).length:=by rw [<-Jg,Array.length_toList]
    rw [e2,<-hpl,e]
    simp only [List.length_append,List.length_cons]
    lia
   have ix:∀(c:Prop) [Decidable c],(if c then (pendingOf Bj).size-2-1 else (pendingOf Bj).size-2)+1<(pendingOf Bj).size:=by
    intro c _
    split<;>lia
   refine wpS_bind (wpS_mono (go _ ?_) ?_)
   ·split<;>exact ix _
   ·rintro b Ci ⟨rfl,fm,Xe,TJ⟩
    rw [if_neg (by decide)]
    exact wpS_pure ⟨rfl,fm,Xe,by lia⟩
  ·rintro c Bj ⟨rfl,NF,Sm,Z9⟩
   refine ⟨rfl,NF,Sm,?_⟩
   lia
  ·rintro c Bj ⟨rfl,NF,Sm,Z9⟩
   refine wpS_pure (h Bj NF ?_)
   have hl:(arrOf Bj).toList.length=a₀.size:=by rw [Array.length_toList];exact NF.size
   have hpl:(pendingOf Bj).toList.length=(pendingOf Bj).size:=Array.length_toList
   cases hq:(pendingOf Bj).toList with
   |nil=>
    rw [hq,Runs]at Sm
    have:(arrOf Bj).toList=[]:=List.eq_nil_of_length_eq_zero (by lia)
    rw [this];exact List.Pairwise.nil
   |cons q rest=>
    have:rest=[]:=by
     rw [hq,List.length_cons]at hpl
     exact List.eq_nil_of_length_eq_zero (by lia)
    subst this
    obtain ⟨q1,q2,q3⟩:=q
    rw [hq,Runs,Runs]at Sm
    obtain ⟨rfl,_,g1,g2⟩:=Sm
    unfold seg at g1
    rw [List.drop_zero,List.take_of_length_le (by lia)]at g1
    exact g1
 rintro x c Bj _ hx ⟨lo,rfl,NF,h1,h2,Sm⟩
 dsimp only
 by_cases Jm:lo≥a₀.size
 ·rw [if_pos Jm]
  obtain rfl:lo=a₀.size:=by lia
  exact wpS_pure ⟨rfl,NF,Sm⟩
 rw [if_neg Jm]
 refine wpS_bind (Lh hc NF (lo:=lo) (nrem:=a₀.size-lo) (by lia) (by lia) fun m Ci nA jD Jp jC=>?_)
 dsimp only
 have Xe:Runs r (arrOf Ci).toList 0 (pendingOf Ci).toList lo:=by
  rw [Jp.pend]
  exact Sm.same fun i n _ hi=>NU Jp.low i n hi
 generalize (sortPriv% PySem.Builtin.minRun) a₀.size a₀.size 0=mr
 by_cases hmr:m<mr
 case' pos=>
  rw [if_pos hmr]
  refine wpS_bind (wpS_lift (wpAny_rule ⟨rfl,?_⟩))
  refine wpS_bind (JN hc Jp.base (lo:=lo) (n:=min (a₀.size-lo) mr) (ok:=m) (by lia) (by lia) jC fun FI XJ oo=>?_)
  rw [if_neg (by decide)]
  have bG:1≤min (a₀.size-lo) mr:=by lia
  have Yb:lo+min (a₀.size-lo) mr≤a₀.size:=by lia
  have jV:=J1 oo
  have jJ:=XJ.base
  have jB:Runs r (arrOf FI).toList 0 (pendingOf FI).toList lo:=by
   rw [XJ.pend]
   exact Xe.same fun i n _ hi=>NU XJ.low i n hi
  clear oo XJ
  generalize min (a₀.size-lo) mr=n at *
 case' neg=>
  rw [if_neg hmr]
  have bG:1≤m:=nA
  have Yb:lo+m≤a₀.size:=by lia
  have jV:=J1 jC
  have jJ:=Jp.base
  have jB:=Xe
  clear jC Jp Xe
  generalize m=n at *
  generalize Ci=FI at *
 all_goals
  have fin:∀HQ,SB a₀ k0 HQ->Runs r (arrOf HQ).toList 0 (pendingOf HQ).toList lo->Srt r (seg (arrOf HQ).toList lo n)->∃az,((none:Option Unit),lo+n)=(none,az)/\SB a₀ k0 (setPending HQ ((pendingOf HQ).push (lo,n,0)))/\az≤a₀.size/\(x+1≤az\/az=a₀.size)/\Runs r (arrOf HQ).toList 0 ((pendingOf HQ).push (lo,n,0)).toList az:=by
   intro HQ Tc Xf Tq
   refine ⟨lo+n,rfl,⟨Tc.perm,Tc.kind,Tc.failed⟩,Yb,.inl (by lia),?_⟩
   rw [Array.toList_push]
   exact Xf.snoc bG Tq
  refine wpS_bind (wpS_get ?_)
  cases hbk:(pendingOf FI).back? with
  |none=>
   dsimp only
   exact wpS_bind (wpS_modify (wpS_pure (fin FI jJ jB jV)))
  |some q=>
   obtain ⟨s1,n1,p1⟩:=q
   dsimp only
   refine wpS_bind (wpS_mono (wpS_forRange (I:=fun _ c AQ=>c=(none,())/\SB a₀ k0 AQ/\Runs r (arrOf AQ).toList 0 (pendingOf AQ).toList lo/\Srt r (seg (arrOf AQ).toList lo n))
    (Q:=fun c AQ=>c=(none,())/\SB a₀ k0 AQ/\Runs r (arrOf AQ).toList 0 (pendingOf AQ).toList lo/\Srt r (seg (arrOf AQ).toList lo n)) ?_ (fun _ _ z=>z) ⟨rfl,jJ,jB,jV⟩) ?_)
   ·rintro y c HQ _ _ ⟨rfl,Tc,Xf,Tq⟩
    refine wpS_bind (wpS_get ?_)
    by_cases ZG:(pendingOf HQ).size > 1
    ·rw [if_pos ZG]
     have hpl:(pendingOf HQ).toList.length=(pendingOf HQ).size:=Array.length_toList
     obtain ⟨pre,sa,na,pa,sb,nb,pb,post,e,Gz⟩:=R9 (p:=(pendingOf HQ).toList) (i:=(pendingOf HQ).size-2) (by lia)
     have eg:(pendingOf HQ)[(pendingOf HQ).size-2]?=some (sa,na,pa):=by
      rw [<-Array.getElem?_toList,e,List.getElem?_append_right (by lia),Gz,Nat.sub_self];rfl
     rw [eg]
     dsimp only
     split
     ·exact wpS_pure ⟨rfl,Tc,Xf,Tq⟩
     ·refine wpS_bind (HU hc Tc e Gz h1 Xf fun Xd vS vd uW iN=>?_)
      rw [if_neg (by decide)]
      exact wpS_pure ⟨rfl,vS,uW,by rw [iN lo n (Nat.le_refl _)];exact Tq⟩
    ·rw [if_neg ZG]
     exact wpS_pure ⟨rfl,Tc,Xf,Tq⟩
   ·rintro c HQ ⟨rfl,Tc,Xf,Tq⟩
    dsimp only
    refine wpS_bind (wpS_modify (wpS_bind (wpS_modify (wpS_pure (fin (setPending HQ ((pendingOf HQ).modify ((pendingOf HQ).size-1) fun x=>(x.1,x.2.1,_))) ⟨Tc.perm,Tc.kind,Tc.failed⟩ ?_ Tq)))))
    show Runs r (arrOf HQ).toList 0 ((pendingOf HQ).modify _ _).toList lo
    rw [Array.toList_modify]
    refine Runs.last Xf ?_ _
    exact fun x=>⟨rfl,rfl⟩
end
end TS
namespace TF
open PySem PySem.Spec L2
open PyProof.Rows hiding St RelV
mutual
def B7 (st:Bool):Dat->Dat->Bool
 |.int a,.int b=>if st then decide (a<b)else decide (a≤b)
 |.tup l,.tup m=>B5 st l m
 |_,_=>false
def B5 (st:Bool):List Dat->List Dat->Bool
 |[],[]=>!st
 |[],_::_=>true
 |_::_,[]=>false
 |x::l,y::m=>if eqD x y then B5 st l m else B7 st x y
end
def B2:Nat->Dat->Dat->Bool
 |_,.int _,.int _=>true
 |n+1,.tup l,.tup m=>(l.zip m).all fun p=>B2 n p.1 p.2
 |_,_,_=>false
abbrev Z7 (st:Bool):CmpOp:=if st then .Lt else .LtE
def Vb (st:Bool) (A:Around) (s:Shared) (u v:Value) (b:Bool):Prop:=
 ∀(prog:Program) (w:World) (E:Value->Shared->Prop) (Q:Value->Shared->Prop),Q (.bool b) s->wpAny (model prog w) A (richCompare (Z7 st) u v) Q E s
section
open PySem.SeqAt
open PySem.AutoSeq1 (wpAny_loadPart')
open PySem.MeetsSeq PySem.MeetsSeq2 PySem.MeetsSeq3
inductive Prs (A:Around) (s:Shared) (st:Bool):List Dat->List Dat->List Value->List Value->Prop
 |nilL {m ws} (h:ws.length=m.length):Prs A s st [] m [] ws
 |nilR {l vs} (h:vs.length=l.length):Prs A s st l [] vs []
 |cons {x y l m u v vs ws} (he:EqAt A s u v (eqD x y)) (hl:Vb st A s u v (B7 st x y)) (t:Prs A s st l m vs ws):Prs A s st (x::l) (y::m) (u::vs) (v::ws)
theorem Nu (l b:Addr) (items Bh:Array Value) (n n2:Nat) (dd Ny:Option Addr) (sl KW:Array (Option Value)) (ds es:List Dat) :
  Meets (Builtin.«tuple.__lt__» ⟨[.ref l,.ref b],[]⟩)
   (fun A R s=>Prs A.in1 s true ds es items.toList Bh.toList/\ds.length=items.size/\es.length=Bh.size/\s.heap.get? l=some { cls:=.type "tuple",dict:=dd,data:=.seq items n,slots:=sl }/\s.heap.get? b=some { cls:=.type "tuple",dict:=Ny,data:=.seq Bh n2,slots:=KW } ∧
    R (.ok (.ret (.bool (B5 true ds es)))) s):=
 .of_wp fun prog w A R s h=>by
  obtain ⟨hp,g,d,tk,os⟩:=s;obtain ⟨hP,z1,z2,hl,hb,h⟩:=h
  have f2:=AutoSeq1.sub_tuple_tuple
  wp_walk using wpAny_loadPart' hl,wpAny_loadPart' hb,wpAny_forIn_list _ (fun rest b s'=>b.1=none/\s'=⟨hp,g,d,tk,os⟩/\∃(vs ws:List Value) (GX Hv:List Dat),rest=vs.zip ws ∧
   Prs A.in1 ⟨hp,g,d,tk,os⟩ true GX Hv vs ws/\GX.length+Bh.size=Hv.length+items.size/\R (.ok (.ret (.bool (B5 true GX Hv)))) ⟨hp,g,d,tk,os⟩) _
  case turn=>
   rintro ⟨y,x⟩ rest b s' ⟨Lq,rfl,vs,ws,GX,Hv,hz,V2,hlen,hR⟩
   cases V2 with
   |nilL hq=>rw [List.zip_nil_left]at hz;cases hz
   |nilR hq=>rw [List.zip_nil_right]at hz;cases hz
   |@cons dx dy l' m' u v Ld nF he Bs br=>
    rw [List.zip_cons_cons]at hz
    injection hz with Yo hrest
    injection Yo with hy hx
    subst hy hx
    rw [B5]at hR
    simp only [List.length_cons]at hlen
    refine wpAny_bind (he prog w _ _ ?_)
    cases hq:eqD dx dy with
    |true=>
     rw [hq,if_pos rfl]at hR
     wp_walk
     exact ⟨rfl,rfl,_,_,_,_,hrest,br,by lia,hR⟩
    |false=>
     rw [hq,if_neg (by decide)]at hR
     have Xb:∀(E:Value->Shared->Prop) (Q:Value->Shared->Prop),Q (.bool (B7 true dx dy)) ⟨hp,g,d,tk,os⟩->wpAny (model prog w) A.in1 (richCompare .Lt y x) Q E ⟨hp,g,d,tk,os⟩:=Bs prog w
     wp_walk using Xb
     exact ⟨_,rfl,by simpa using hR⟩
  case fin=>
   rintro ⟨b1,b2⟩ s' ⟨Lq,rfl,vs,ws,GX,Hv,hz,V2,hlen,hR⟩
   simp only at Lq
   subst Lq
   have hv:B5 true GX Hv=decide (items.size<Bh.size):=by
    cases V2 with
    |nilL hq=>
     cases Hv with
     |nil=>
      simp only [List.length_nil]at hlen
      rw [B5]
      exact (decide_eq_false (by lia)).symm
     |cons y m=>
      simp only [List.length_nil,List.length_cons]at hlen
      rw [B5]
      exact (decide_eq_true (by lia)).symm
    |nilR hq=>
     cases GX with
     |nil=>
      simp only [List.length_nil]at hlen
      rw [B5]
      exact (decide_eq_false (by lia)).symm
     |cons y m=>
      simp only [List.length_nil,List.length_cons]at hlen
      rw [B5]
      exact (decide_eq_false (by lia)).symm
    |cons he Bs br=>rw [List.zip_cons_cons]at hz;cases hz
   rw [hv]at hR
   wp_walk
   exact ⟨_,rfl,by simpa [Builtin.Tuple.tupleCompareSizes]using hR⟩
  case h=>
   exact ⟨rfl,rfl,items.toList,Bh.toList,ds,es,rfl,hP,by lia,h⟩
theorem Ox (l b:Addr) (items Bh:Array Value) (n n2:Nat) (dd Ny:Option Addr) (sl KW:Array (Option Value)) (ds es:List Dat) :
  Meets (Builtin.«tuple.__le__» ⟨[.ref l,.ref b],[]⟩)
   (fun A R s=>Prs A.in1 s false ds es items.toList Bh.toList/\ds.length=items.size/\es.length=Bh.size/\s.heap.get? l=some { cls:=.type "tuple",dict:=dd,data:=.seq items n,slots:=sl }/\s.heap.get? b=some { cls:=.type "tuple",dict:=Ny,data:=.seq Bh n2,slots:=KW } ∧
    R (.ok (.ret (.bool (B5 false ds es)))) s):=
 .of_wp fun prog w A R s h=>by
  obtain ⟨hp,g,d,tk,os⟩:=s;obtain ⟨hP,z1,z2,hl,hb,h⟩:=h
  have f2:=AutoSeq1.sub_tuple_tuple
  wp_walk using wpAny_loadPart' hl,wpAny_loadPart' hb,wpAny_forIn_list _ (fun rest b s'=>b.1=none/\s'=⟨hp,g,d,tk,os⟩/\∃(vs ws:List Value) (GX Hv:List Dat),rest=vs.zip ws ∧
   Prs A.in1 ⟨hp,g,d,tk,os⟩ false GX Hv vs ws/\GX.length+Bh.size=Hv.length+items.size/\R (.ok (.ret (.bool (B5 false GX Hv)))) ⟨hp,g,d,tk,os⟩) _
  case turn=>
   rintro ⟨y,x⟩ rest b s' ⟨Lq,rfl,vs,ws,GX,Hv,hz,V2,hlen,hR⟩
   cases V2 with
   |nilL hq=>rw [List.zip_nil_left]at hz;cases hz
   |nilR hq=>rw [List.zip_nil_right]at hz;cases hz
   |@cons dx dy l' m' u v Ld nF he Bs br=>
    rw [List.zip_cons_cons]at hz
    injection hz with Yo hrest
    injection Yo with hy hx
    subst hy hx
    rw [B5]at hR
    simp only [List.length_cons]at hlen
    refine wpAny_bind (he prog w _ _ ?_)
    cases hq:eqD dx dy with
    |true=>
     rw [hq,if_pos rfl]at hR
     wp_walk
     exact ⟨rfl,rfl,_,_,_,_,hrest,br,by lia,hR⟩
    |false=>
     rw [hq,if_neg (by decide)]at hR
     have Xb:∀(E:Value->Shared->Prop) (Q:Value->Shared->Prop),Q (.bool (B7 false dx dy)) ⟨hp,g,d,tk,os⟩->wpAny (model prog w) A.in1 (richCompare .LtE y x) Q E ⟨hp,g,d,tk,os⟩:=Bs prog w
     wp_walk using Xb
     exact ⟨_,rfl,by simpa using hR⟩
  case fin=>
   rintro ⟨b1,b2⟩ s' ⟨Lq,rfl,vs,ws,GX,Hv,hz,V2,hlen,hR⟩
   simp only at Lq
   subst Lq
   have hv:B5 false GX Hv=decide (items.size≤Bh.size):=by
    cases V2 with
    |nilL hq=>
     cases Hv with
     |nil=>
      simp only [List.length_nil]at hlen
      rw [B5]
      exact (decide_eq_true (by lia)).symm
     |cons y m=>
      simp only [List.length_nil,List.length_cons]at hlen
      rw [B5]
      exact (decide_eq_true (by lia)).symm
    |nilR hq=>
     cases GX with
     |nil=>
      simp only [List.length_nil]at hlen
      rw [B5]
      exact (decide_eq_true (by lia)).symm
     |cons y m=>
      simp only [List.length_nil,List.length_cons]at hlen
      rw [B5]
      exact (decide_eq_false (by lia)).symm
    |cons he Bs br=>rw [List.zip_cons_cons]at hz;cases hz
   rw [hv]at hR
   wp_walk
   exact ⟨_,rfl,by simpa [Builtin.Tuple.tupleCompareSizes]using hR⟩
  case h=>
   exact ⟨rfl,rfl,items.toList,Bh.toList,ds,es,rfl,hP,by lia,h⟩
theorem N7 {A:Around} {s:Shared} {st:Bool}:∀{l m:List Dat} {vs ws:List Value},vs.length=l.length->ws.length=m.length →
  (∀(i:Nat) x y u v,l[i]?=some x->m[i]?=some y->vs[i]?=some u->ws[i]?=some v->EqAt A s u v (eqD x y)/\Vb st A s u v (B7 st x y))->Prs A s st l m vs ws
 |[],m,vs,ws,h1,h2,_=>by
  obtain rfl:=List.eq_nil_of_length_eq_zero h1
  exact .nilL h2
 |_::_,[],vs,ws,h1,h2,_=>by
  obtain rfl:=List.eq_nil_of_length_eq_zero h2
  exact .nilR h1
 |x::l,y::m,[],_,h1,_,_=>by simp at h1
 |x::l,y::m,_::_,[],_,h2,_=>by simp at h2
 |x::l,y::m,u::vs,v::ws,h1,h2,h=>by
  obtain ⟨a,b⟩:=h 0 x y u v rfl rfl rfl rfl
  refine .cons a b (N7 (by simpa using h1) (by simpa using h2) fun i x' y' u' v' g1 g2 g3 g4=>h (i+1) x' y' u' v' (by simpa using g1) (by simpa using g2) (by simpa using g3) (by simpa using g4))
theorem Ji {s:Shared} (st:Bool):∀(n:Nat) {A:Around} {d e:Dat} {u v:Value},B2 n d e=true->AF n d=true->AF n e=true->AtH s.heap d u->AtH s.heap e v->A.units+n<cLine->Vb st A s u v (B7 st d e)
 |n,A,.int a,.int b,u,v,ho,_,_,hd,he,hu=>by
  rw [AtH]at hd he
  obtain ⟨t,rfl⟩:=hd
  obtain ⟨t',rfl⟩:=he
  intro prog w E Q h
  rw [B7]at h
  cases st with
  |true=>exact (PyProof.Rows.lt_int h:wpAny (model prog w) A (compareOp .Lt (.int a t) (.int b t')) Q E s)
  |false=>exact (PyProof.Rows.le_int h:wpAny (model prog w) A (compareOp .LtE (.int a t) (.int b t')) Q E s)
 |n+1,A,.tup l,.tup m,u,v,ho,pd,pe,hd,he,hu=>by
  rw [AtH]at hd he
  obtain ⟨a,is,rfl,ti,rl⟩:=hd
  obtain ⟨b,js,rfl,tj,rm⟩:=he
  rw [B2,List.all_eq_true]at ho
  rw [AF,List.all_eq_true]at pd pe
  have hP:Prs A.in1 s st l m is js:=N7 rl.length rm.length fun i x y u v g1 g2 g3 g4=>by
   obtain ⟨u',Im,ru⟩:=rl.get g1
   obtain ⟨v',Z3,rv⟩:=rm.get g2
   rw [g3]at Im
   rw [g4]at Z3
   cases Im
   cases Z3
   have p1:=pd x (List.mem_of_getElem? g1)
   have p2:=pe y (List.mem_of_getElem? g2)
   have o1:=ho (x,y) (List.mem_of_getElem? (i:=i) (by rw [List.getElem?_zip_eq_some];exact ⟨g1,g2⟩))
   have Ow:A.in1.units+n<cLine:=by show A.units+1+n<cLine;lia
   exact ⟨(Es n p1 p2 ru rv Ow).1,Ji st n o1 p1 p2 ru rv Ow⟩
  obtain ⟨⟨cls,dd,data,sl⟩,Ui,hc,n1,hd⟩:=id ti
  obtain ⟨⟨XY,Ny,data2,KW⟩,OZ,RG,n2,hd2⟩:=id tj
  simp only at hc hd RG hd2
  subst hc hd RG hd2
  intro prog w E Q h
  rw [B7]at h
  have z1:l.length=is.toArray.size:=by rw [List.size_toArray,rl.length]
  have z2:m.length=js.toArray.size:=by rw [List.size_toArray,rm.length]
  cases st with
  |true=>
   exact richCompare_meets_room (op:=.Lt) ⟨_,Ui,rfl⟩ ⟨_,OZ,rfl⟩ PySem.F.slot_tuple_lt PySem.F.entry_tuple_lt (PySem.F.args_tuple_lt_2 _ _) (Nu a b is.toArray js.toArray n1 n2 dd Ny sl KW l m)
    ⟨hP,z1,z2,Ui,OZ,show Value.bool (B5 true l m)≠Value.notImplemented/\Q (.bool (B5 true l m)) s from ⟨(fun x=>nomatch x),h⟩⟩ (by lia)
  |false=>
   exact richCompare_meets_room (op:=.LtE) ⟨_,Ui,rfl⟩ ⟨_,OZ,rfl⟩ PySem.F.slot_tuple_le PySem.F.entry_tuple_le (PySem.F.args_tuple_le_2 _ _) (Ox a b is.toArray js.toArray n1 n2 dd Ny sl KW l m)
    ⟨hP,z1,z2,Ui,OZ,show Value.bool (B5 false l m)≠Value.notImplemented/\Q (.bool (B5 false l m)) s from ⟨(fun x=>nomatch x),h⟩⟩ (by lia)
 |0,_,.tup _,.tup _,_,_,ho,_,_,_,_,_=>by simp [B2]at ho
 |_,_,.int _,.tup _,_,_,ho,_,_,_,_,_=>by simp [B2]at ho
 |_,_,.tup _,.int _,_,_,ho,_,_,_,_,_=>by simp [B2]at ho
 |_,_,.non,_,_,_,ho,_,_,_,_,_=>by simp [B2]at ho
 |_,_,.bl _,_,_,_,ho,_,_,_,_,_=>by simp [B2]at ho
 |_,_,.str _,_,_,_,ho,_,_,_,_,_=>by simp [B2]at ho
 |_,_,.fn _,_,_,_,ho,_,_,_,_,_=>by simp [B2]at ho
 |_,_,.scr _,_,_,_,ho,_,_,_,_,_=>by simp [B2]at ho
 |_,_,.lst _,_,_,_,ho,_,_,_,_,_=>by simp [B2]at ho
 |_,_,.int _,.non,_,_,ho,_,_,_,_,_=>by simp [B2]at ho
 |_,_,.int _,.bl _,_,_,ho,_,_,_,_,_=>by simp [B2]at ho
 |_,_,.int _,.str _,_,_,ho,_,_,_,_,_=>by simp [B2]at ho
 |_,_,.int _,.fn _,_,_,ho,_,_,_,_,_=>by simp [B2]at ho
 |_,_,.int _,.scr _,_,_,ho,_,_,_,_,_=>by simp [B2]at ho
 |_,_,.int _,.lst _,_,_,ho,_,_,_,_,_=>by simp [B2]at ho
 |_,_,.tup _,.non,_,_,ho,_,_,_,_,_=>by simp [B2]at ho
 |_,_,.tup _,.bl _,_,_,ho,_,_,_,_,_=>by simp [B2]at ho
 |_,_,.tup _,.str _,_,_,ho,_,_,_,_,_=>by simp [B2]at ho
 |_,_,.tup _,.fn _,_,_,ho,_,_,_,_,_=>by simp [B2]at ho
 |_,_,.tup _,.scr _,_,_,ho,_,_,_,_,_=>by simp [B2]at ho
 |_,_,.tup _,.lst _,_,_,ho,_,_,_,_,_=>by simp [B2]at ho
end
end TF
namespace TF
open PySem PySem.Spec L2
open PyProof.Rows hiding St RelV
open HT (lexLt)
section
mutual
theorem AtH.kept {h h':Heap} (k:∀b o,h.get? b=some o->h'.get? b=some o):∀{d:Dat} {u:Value},AtH h d u->AtH h' d u
 |.non,_,r=>by rw [AtH]at r ⊢;exact r
 |.bl _,_,r=>by rw [AtH]at r ⊢;exact r
 |.int _,_,r=>by rw [AtH]at r ⊢;exact r
 |.str _,_,r=>by rw [AtH]at r ⊢;exact r
 |.fn _,_,r=>by rw [AtH]at r ⊢;exact r
 |.scr _,_,r=>by rw [AtH]at r;exact r.elim
 |.tup _,_,r=>by
  rw [AtH]at r ⊢
  obtain ⟨a,its,h1,⟨o,h2,h3⟩,h4⟩:=r
  exact ⟨a,its,h1,⟨o,k _ _ h2,h3⟩,AtL.kept k h4⟩
 |.lst _,_,r=>by
  rw [AtH]at r ⊢
  obtain ⟨a,its,h1,⟨o,h2,h3⟩,h4⟩:=r
  exact ⟨a,its,h1,⟨o,k _ _ h2,h3⟩,AtL.kept k h4⟩
theorem AtL.kept {h h':Heap} (k:∀b o,h.get? b=some o->h'.get? b=some o):∀{ds:List Dat} {us:List Value},AtL h ds us->AtL h' ds us
 |[],_,r=>by rw [AtL]at r ⊢;exact r
 |_::_,_,r=>by
  rw [AtL]at r ⊢
  obtain ⟨u,r',h1,h2,h3⟩:=r
  exact ⟨u,r',h1,AtH.kept k h2,AtL.kept k h3⟩
end
theorem AtL.mem {h:Heap}:∀{ds:List Dat} {us:List Value},AtL h ds us->∀u∈us,∃d∈ds,AtH h d u
 |[],_,r,u,hu=>by rw [AtL]at r;subst r;cases hu
 |d::ds,_,r,u,hu=>by
  rw [AtL]at r
  obtain ⟨u',r',rfl,h2,h3⟩:=r
  rcases List.mem_cons.mp hu with rfl|hu
  ·exact ⟨d,List.mem_cons_self ..,h2⟩
  ·obtain ⟨d',h4,h5⟩:=AtL.mem h3 u hu
   exact ⟨d',List.mem_cons_of_mem _ h4,h5⟩
theorem D5:∀l:List Int,lexLt l l=false
 |[]=>rfl
 |x::l=>by rw [HT.lexLt_cons,if_pos rfl,D5 l]
theorem Ek:∀{a b c:List Int},lexLt a b=true->lexLt b c=true->lexLt a c=true
 |[],[],_,h,_=>by cases h
 |[],_::_,[],_,h=>by cases h
 |[],_::_,_::_,_,_=>rfl
 |_::_,[],_,h,_=>by cases h
 |_::_,_::_,[],_,h=>by cases h
 |x::a,y::b,z::c,h1,h2=>by
  rw [HT.lexLt_cons]at *
  split at h1<;>split at h2
  ·rename_i e1 e2;subst e1;subst e2;rw [if_pos rfl];exact Ek h1 h2
  ·rename_i e1 e2;subst e1;rw [if_neg e2];exact h2
  ·rename_i e1 e2;subst e2;rw [if_neg e1];exact h1
  ·rename_i e1 e2
   simp only [decide_eq_true_eq]at h1 h2
   rw [if_neg (by lia)]
   simp only [decide_eq_true_eq];lia
theorem E4:∀{a b:List Int},lexLt a b=false->lexLt b a=false->a=b
 |[],[],_,_=>rfl
 |[],_::_,h,_=>by cases h
 |_::_,[],_,h=>by cases h
 |x::a,y::b,h1,h2=>by
  rw [HT.lexLt_cons]at *
  by_cases e:x=y
  ·subst e
   rw [if_pos rfl]at h1 h2
   rw [E4 h1 h2]
  ·rw [if_neg e]at h1
   rw [if_neg (Ne.symm e)]at h2
   simp only [decide_eq_false_iff_not]at h1 h2
   lia
theorem Ts {a b c:List Int} (h:lexLt a c=true):lexLt a b=true\/lexLt b c=true:=by
 cases e:lexLt a b with
 |true=>exact .inl rfl
 |false=>
  right
  cases e2:lexLt b a with
  |false=>
   have:=E4 e e2
   subst this;exact h
  |true=>exact Ek e2 h
structure OrdL (g:Dat->List Int) (ds:List Dat):Prop where
 lt:∀x∈ds,∀y∈ds,B7 true x y=lexLt (g x) (g y)
 ord:∀x∈ds,∀y∈ds,B2 8 x y=true
 pl:∀x∈ds,AF 8 x=true
 tup:∀x∈ds,∃y l,x=.tup (y::l)
 one:(∀x∈ds,∃i l,x=.tup (.int i::l))\/(∀x∈ds,∃k l,x=.tup (.tup k::l))
open Classical in
def CQ (h:Heap) (u:Value):Dat:=if e:∃d,AF 8 d=true/\AtH h d u then Classical.choose e else .non
theorem CO {h:Heap} {d:Dat} {u:Value} (p:AF 8 d=true) (r:AtH h d u):CQ h u=d:=by
 have e:∃d,AF 8 d=true/\AtH h d u:=⟨d,p,r⟩
 unfold CQ
 rw [dif_pos e]
 obtain ⟨a,b⟩:=Classical.choose_spec e
 exact AtH.inj 8 a p b r
def rkD (g:Dat->List Int) (ds:List Dat) (d:Dat):Nat:=ds.countP fun z=>lexLt (g z) (g d)
theorem LM (g:Dat->List Int):∀(ds:List Dat) {x y:Dat},lexLt (g x) (g y)=true->rkD g ds x≤rkD g ds y/\(x∈ds->rkD g ds x<rkD g ds y)
 |[],x,y,_=>⟨Nat.le_refl _,fun h=>by cases h⟩
 |z::ds,x,y,h=>by
  obtain ⟨i1,i2⟩:=LM g ds h
  unfold rkD at *
  rw [List.countP_cons,List.countP_cons]
  have imp:lexLt (g z) (g x)=true->lexLt (g z) (g y)=true:=fun e=>Ek e h
  constructor
  ·cases e1:lexLt (g z) (g x)with
   |true=>rw [imp e1];simp;exact i1
   |false=>simp;lia
  ·intro hx
   rcases List.mem_cons.mp hx with rfl|hx
   ·rw [D5,h];simp;lia
   ·have:=i2 hx
    cases e1:lexLt (g z) (g x)with
    |true=>rw [imp e1];simp;lia
    |false=>simp;lia
theorem R4 (g:Dat->List Int) (ds:List Dat) {x y:Dat} (hx:x∈ds) (hy:y∈ds):decide (rkD g ds x<rkD g ds y)=lexLt (g x) (g y):=by
 cases e:lexLt (g x) (g y)with
 |true=>exact decide_eq_true ((LM g ds e).2 hx)
 |false=>
  refine decide_eq_false fun Bs=>?_
  cases e2:lexLt (g y) (g x)with
  |true=>have:=(LM g ds e2).2 hy;lia
  |false=>
   have:=E4 e e2
   unfold rkD at Bs
   rw [this]at Bs
   lia
section
variable {prog:Program}{w:World}{A:Around}{E:Value->Shared->Prop}{s:Shared}
theorem VS {d e:Dat} {u v:Value} (fl:Bool) {Q:Bool->Shared->Prop} (hf:fl=true->(∃i,d=.int i)/\∃j,e=.int j) (hl:Vb true A s u v (B7 true d e)) (rd:AtH s.heap d u) (re:AtH s.heap e v) (h:Q (B7 true d e) s):wpAny (model prog w) A (oneLt' fl u v) Q E s:=by
 cases fl with
 |true=>
  obtain ⟨⟨i,rfl⟩,j,rfl⟩:=hf rfl
  rw [AtH]at rd re
  obtain ⟨t,rfl⟩:=rd
  obtain ⟨t',rfl⟩:=re
  refine oneLt_int ?_
  rw [B7]at h
  exact h
 |false=>
  refine PySem.W.kat_one u v ?_
  exact hl prog w E _ h
theorem U4 {fl:Bool} {a b:Addr} {l m:List Dat} {is js:List Value} {Q:Bool->Shared->Prop} (ti:s.heap.IsTuple a is.toArray) (tj:s.heap.IsTuple b js.toArray) (rl:AtL s.heap l is) (rm:AtL s.heap m js) (hP:Prs A s true l m is js)
  (hf:fl=true->∀x y,l[0]?=some x->m[0]?=some y->(∃i,x=.int i)/\∃j,y=.int j) (h:Q (B5 true l m) s):wpAny (model prog w) A (keyLt' (tuples' fl) (.ref a) (.ref b)) Q E s:=by
 obtain ⟨o1,h1,_,n1,d1⟩:=ti
 obtain ⟨o2,h2,_,n2,d2⟩:=tj
 refine PySem.W.kat_lt h1 d1 h2 d2 ?_
 have z1:is.toArray.size=l.length:=by rw [List.size_toArray,rl.length]
 have z2:js.toArray.size=m.length:=by rw [List.size_toArray,rm.length]
 have gen:∀(i:Nat) (l' m':List Dat) (bQ dA:List Value),Prs A s true l' m' bQ dA->AtL s.heap l' bQ->AtL s.heap m' dA->(fl&&i==0)=true/\l'=l/\m'=m\/(fl&&i==0)=false->l'.length+m.length=m'.length+l.length->Q (B5 true l' m') s →
   PySem.W.KatLex prog w A fl (decide (is.toArray.size<js.toArray.size)) Q (bQ.zip dA) i s:=by
  intro i l' m' bQ dA V2
  induction V2 generalizing i with
  |@nilL m' ws hq=>
   intro _ _ _ hl hQ
   rw [List.zip_nil_left]
   refine PySem.W.kat_nil ?_
   rw [z1,z2]
   rw [List.length_nil]at hl
   cases m' with
   |nil=>rw [B5]at hQ;rw [decide_eq_false (by simp at hl;lia)];exact hQ
   |cons y m'=>rw [B5]at hQ;rw [decide_eq_true (by simp at hl;lia)];exact hQ
  |@nilR l' vs hq=>
   intro _ _ _ hl hQ
   rw [List.zip_nil_right]
   refine PySem.W.kat_nil ?_
   rw [z1,z2]
   rw [List.length_nil]at hl
   cases l' with
   |nil=>rw [B5]at hQ;rw [decide_eq_false (by simp at hl;lia)];exact hQ
   |cons y l'=>rw [B5]at hQ;rw [decide_eq_false (by simp at hl;lia)];exact hQ
  |@cons x y l' m' u v vs ws he SK t ih=>
   intro r1 r2 XB hlen hQ
   rw [AtL]at r1 r2
   obtain ⟨u',Ld,e1,ru,qs⟩:=r1
   obtain ⟨v',nF,e2,rv,rws⟩:=r2
   cases e1
   cases e2
   rw [List.zip_cons_cons]
   refine PySem.W.kat_cons (he prog w _ _ ?_)
   rw [B5]at hQ
   cases hq:eqD x y with
   |true=>
    rw [hq,if_pos rfl]at hQ
    refine PySem.W.kat_yes (ih (i+1) qs rws (.inr (by simp)) (by simp at hlen;lia) hQ)
   |false=>
    rw [hq,if_neg (by decide)]at hQ
    refine PySem.W.kat_no (VS _ (fun nH=>?_) SK ru rv hQ)
    rcases XB with ⟨g1,g2,g3⟩|g1
    ·refine hf ?_ x y ?_ ?_
     ·cases fl<;>simp_all
     ·rw [<-g2];rfl
     ·rw [<-g3];rfl
    ·rw [g1]at nH;cases nH
 refine gen 0 l m is js hP rl rm ?_ (Nat.add_comm _ _) h
 cases fl with
 |true=>exact .inl ⟨rfl,rfl,rfl⟩
 |false=>exact .inr rfl
theorem Vv {g:Dat->List Int} {ds:List Dat} {vs:List Value} (r:AtL s.heap ds vs) (O:OrdL g ds) {fl:Bool} (hf:fl=true->∀x∈ds,∃i l,x=.tup (.int i::l)) (hu:A.units+8<cLine) :
  TS.CmpOk prog w A s (pairsOf vs) (fun p=>rkD g ds (CQ s.heap p.1)) (tuples' fl):=by
 intro x y hx hy E Q hq
 rw [pairsOf_toList]at hx hy
 obtain ⟨d,hd,rd⟩:=r.mem _ (mem_zip_self hx).2
 obtain ⟨e,he,re⟩:=r.mem _ (mem_zip_self hy).2
 have sU:decide (rkD g ds (CQ s.heap x.1)<rkD g ds (CQ s.heap y.1))=B7 true d e:=by
  rw [CO (O.pl d hd) rd,CO (O.pl e he) re,R4 g ds hd he,<-O.lt d hd e he]
 replace hq:Q (B7 true d e) s:=by rw [<-sU];exact hq
 have hl:=Ji (A:=A) (s:=s) true 8 (O.ord d hd e he) (O.pl d hd) (O.pl e he) rd re hu
 obtain ⟨x0,l,rfl⟩:=O.tup d hd
 obtain ⟨y0,m,rfl⟩:=O.tup e he
 have od:=O.ord _ hd _ he
 have p1:=O.pl _ hd
 have p2:=O.pl _ he
 rw [AF,List.all_eq_true]at p1 p2
 rw [B2,List.all_eq_true]at od
 rw [AtH]at rd re
 obtain ⟨a,is,ea,ti,rl⟩:=rd
 obtain ⟨b,js,eb,tj,rm⟩:=re
 rw [ea,eb]
 rw [B7]at hq
 refine U4 ti tj rl rm (N7 rl.length rm.length fun i x y u v g1 g2 g3 g4=>?_) (fun h0 x y g1 g2=>?_) hq
 ·obtain ⟨u',Im,ru⟩:=rl.get g1
  obtain ⟨v',Z3,rv⟩:=rm.get g2
  rw [g3]at Im
  rw [g4]at Z3
  cases Im
  cases Z3
  have q1:=p1 x (List.mem_of_getElem? g1)
  have q2:=p2 y (List.mem_of_getElem? g2)
  have o1:=od (x,y) (List.mem_of_getElem? (i:=i) (by rw [List.getElem?_zip_eq_some];exact ⟨g1,g2⟩))
  exact ⟨(Es 7 q1 q2 ru rv (by lia)).1,Ji true 7 o1 q1 q2 ru rv (by lia)⟩
 ·obtain ⟨i,l',e1⟩:=hf h0 _ hd
  obtain ⟨j,m',e2⟩:=hf h0 _ he
  cases e1
  cases e2
  cases g1
  cases g2
  exact ⟨⟨i,rfl⟩,j,rfl⟩
theorem Fj {g:Dat->List Int} {T:Value}:∀{ds:List Dat} {vs:List Value},AtL s.heap ds vs->(∀x∈ds,∃y l,x=.tup (y::l)/\∀u,AtH s.heap y u->PySem.W.Looks (model prog w) s.heap (typeOf u) T)->∃fs,PySem.W.KatTups s.heap vs fs/\fs.length=vs.length/\∀v∈fs,PySem.W.Looks (model prog w) s.heap (typeOf v) T
 |[],_,r,_=>by rw [AtL]at r;subst r;exact ⟨[],trivial,rfl,fun _ h=>by cases h⟩
 |d::ds,_,r,h=>by
  rw [AtL]at r
  obtain ⟨u,Ld,rfl,rd,rr⟩:=r
  obtain ⟨fs,h1,h2,h3⟩:=Fj (g:=g) rr fun x hx=>h x (List.mem_cons_of_mem _ hx)
  obtain ⟨y,l,rfl,hy⟩:=h d (List.mem_cons_self ..)
  rw [AtH]at rd
  obtain ⟨a,is,rfl,⟨o,ho,hc,n,hd⟩,rl⟩:=rd
  rw [AtL]at rl
  obtain ⟨u0,bQ,rfl,ru,_⟩:=rl
  refine ⟨u0::fs,.cons ho hc hd rfl h1,by simp [h2],fun v hv=>?_⟩
  rcases List.mem_cons.mp hv with rfl|hv
  ·exact hy _ ru
  ·exact h3 v hv
theorem UJ {α:Type} {R:α->α->Prop}:∀{l:List α},l.length<2->l.Pairwise R
 |[],_=>.nil
 |[_],_=>List.pairwise_singleton _ _
 |_::_::_,h=>absurd h (by simp)
theorem Od {g:Dat->List Int} {a:Addr} {ds:List Dat} {vs:List Value} {n:Nat} {P:PySem.Fin->Shared->Prop} (ho:s.heap.get? a=some (seqObj "list" vs.toArray n)) (r:AtL s.heap ds vs) (vt:∀b o,b≠a->s.heap.get? b=some o->True) (Fq:∀(h':Heap),(∀b o,b≠a->s.heap.get? b=some o->h'.get? b=some o)->AtL h' ds vs) (O:OrdL g ds) (hsz:vs.length≤sizeLine) (hu:A.units+8<cLine)
  (h:∀out:Array Value,out.toList.Perm vs->(out.toList.map fun u=>g (CQ s.heap u)).Pairwise (fun x y=>HT.lexLt y x=false)->P (.done (.ret .none)) { s with heap:=sortedHeap s.heap a vs out }) :
  wpAny (model prog w) A (Builtin.«list.sort» ⟨[.ref a],[]⟩) P E s:=by
 rw [list_sort_plain]
 have ha:a<s.heap.objs.size:=Heap.lt_size ho
 refine wpAny_bind (listItems_at ho rfl ?_)
 refine wpAny_bind (listUpdate_at ho rfl ?_ (by rw [List.size_toArray];exact hsz) (Nat.zero_le _))
 obtain ⟨e1,Ui⟩:∃e1,(s.heap.update a (Obj.mapSeq fun _=>#[])).get? a=some (seqObj "list" #[] e1):=⟨_,get?_update_seq ho (fun _=>#[])⟩
 refine wpAny_bind (seqEpoch_at Ui rfl ?_)
 refine wpAny_bind (wpAny_newTuple ?_ (by show vs.length≤_;exact hsz))
 refine wpAny_bind (wpAny_newList ?_ (Nat.zero_le _))
 refine wpAny_holding ?_
 have dZ:(((s.heap.update a (Obj.mapSeq fun _=>#[])).push (seqObj "tuple" vs.toArray 0)).push (seqObj "list" #[] 0)).get? a=some (seqObj "list" #[] e1):=by
  rw [Heap.get?_push_ne _ _ _ (by rw [size_push',Heap.size_update];exact Nat.ne_of_lt (Nat.lt_succ_of_lt ha)),Heap.get?_push_ne _ _ _ (by rw [Heap.size_update];exact Nat.ne_of_lt ha)]
  exact Ui
 have keep:∀b o,b≠a->s.heap.get? b=some o->(((s.heap.update a (Obj.mapSeq fun _=>#[])).push (seqObj "tuple" vs.toArray 0)).push (seqObj "list" #[] 0)).get? b=some o:=fun b o hb e=>by
  have Bs:b<s.heap.objs.size:=Heap.lt_size e
  rw [Heap.get?_push_ne _ _ _ (by rw [size_push',Heap.size_update];exact Nat.ne_of_lt (Nat.lt_succ_of_lt Bs)),Heap.get?_push_ne _ _ _ (by rw [Heap.size_update];exact Nat.ne_of_lt Bs),Heap.get?_update_ne _ _ _ _ hb]
  exact e
 have r6:=Fq _ keep
 show wpAny (model prog w) A _ P E { s with heap:=((s.heap.update a (Obj.mapSeq fun _=>#[])).push (seqObj "tuple" vs.toArray 0)).push (seqObj "list" #[] 0) }
 generalize hh6:((s.heap.update a (Obj.mapSeq fun _=>#[])).push (seqObj "tuple" vs.toArray 0)).push (seqObj "list" #[] 0)=h6 at *
 have Ze:∀u∈vs,CQ h6 u=CQ s.heap u:=fun u Im=>by
  obtain ⟨i,hi⟩:=List.mem_iff_getElem?.mp Im
  have hl:=r.length
  have oK:=(List.getElem?_eq_some_iff.mp hi).1
  have hd:ds[i]?=some (ds[i]'(by lia)):=List.getElem?_eq_getElem (by lia)
  obtain ⟨u1,q1,q2⟩:=r.get hd
  obtain ⟨u2,q3,q4⟩:=r6.get hd
  rw [hi]at q1 q3
  cases q1
  cases q3
  have p:=O.pl _ (List.getElem_mem (by lia:i<ds.length))
  rw [CO p q2,CO p q4]
 dsimp only
 have ig:vs.toArray.size=vs.length:=by simp
 by_cases h2:vs.toArray.size<2
 ·rw [if_pos h2,if_pos h2]
  refine wpAny_bind (wpAny_pure ?_)
  rw [StateT.run_pure]
  refine wpAny_bind (wpAny_pure ?_)
  dsimp only
  refine wpAny_bind (seqEpoch_at dZ rfl ?_)
  refine wpAny_bind (listUpdate_at dZ rfl ?_ (Nat.zero_le _) (by rw [Array.size_map];show (pairsOf vs).size≤_;rw [pairsOf_size];lia))
  simp only [bne_self_eq_false,Bool.false_eq_true,if_false]
  have e:(vs.toArray.zip vs.toArray).map (·.2)=vs.toArray:=by
   apply Array.toList_inj.mp
   rw [Array.toList_map]
   show (pairsOf vs).toList.map (·.2)=vs
   rw [pairsOf_toList,List.map_snd_zip (Nat.le_refl _)]
  have:=h vs.toArray (by simp) (by
   rw [ig]at h2
   exact UJ (by simpa using h2))
  refine wpAny_pure ?_
  unfold sortedHeap at this
  rw [hh6]at this
  show P _ { s with heap:=h6.update a (Obj.mapSeq fun _=>(vs.toArray.zip vs.toArray).map (·.2)) }
  rw [e]
  exact this
 rw [if_neg h2,if_neg h2]
 have D7:0<vs.length:=by lia
 obtain ⟨fl,XB,jm⟩:∃fl:Bool,(fl=true->∀x∈ds,∃i l,x=.tup (.int i::l))/\∀(Q:SortKind->Shared->Prop),Q (tuples' fl) { s with heap:=h6 }->wpAny (model prog w) A (keyKind' vs.toArray) Q E { s with heap:=h6 }:=by
  rcases O.one with Js|Js
  ·refine ⟨true,fun _=>Js,fun Q hQ=>?_⟩
   obtain ⟨fs,k1,k2,k3⟩:=Fj (prog:=prog) (w:=w) (s:={ s with heap:=h6 }) (g:=g) (T:=.type "int") r6 fun x hx=>by
    obtain ⟨i,l,rfl⟩:=Js x hx
    refine ⟨_,l,rfl,fun u Im=>?_⟩
    rw [AtH]at Im
    obtain ⟨t,rfl⟩:=Im
    exact PySem.W.Looks.of_pure rfl
   exact PySem.W.kat_kind k1 (by lia) k3 rfl hQ
  ·refine ⟨false,(fun h=>nomatch h),fun Q hQ=>?_⟩
   obtain ⟨fs,k1,k2,k3⟩:=Fj (prog:=prog) (w:=w) (s:={ s with heap:=h6 }) (g:=g) (T:=.type "tuple") r6 fun x hx=>by
    obtain ⟨i,l,rfl⟩:=Js x hx
    refine ⟨_,l,rfl,fun u Im=>?_⟩
    rw [AtH]at Im
    obtain ⟨b,is,rfl,⟨o,q1,q2,_⟩,_⟩:=Im
    have:=(PySem.W.Looks.ld (M:=model prog w) (part:=none) q1).andThen (f:=fun o=>pure o.cls) (b:=o.cls) .now
    rw [q2]at this
    exact (show PySem.W.Looks (model prog w) h6 (typeOf (.ref b)) (.type "tuple")from q2▸(PySem.W.Looks.ld q1).andThen .now)
   exact PySem.W.kat_kind k1 (by lia) k3 rfl hQ
 refine wpAny_bind (jm _ ?_)
 have hc:=Vv (prog:=prog) (w:=w) (A:=A) (s:={ s with heap:=h6 }) (g:=g) r6 O XB hu
 refine wpAny_bind (wpAny_mono (TS.wpS_sortRuns (st:=SortSt.mk' (tuples' fl) (vs.toArray.zip vs.toArray) #[] 7 none) (Q:=fun _ AQ=>TS.SB (pairsOf vs) (tuples' fl) AQ/\TS.Srt (fun p=>rkD g ds (CQ h6 p.1)) (arrOf AQ).toList) hc ⟨Array.Perm.refl _,rfl,rfl⟩ rfl fun AQ b1 b2=>⟨b1,b2⟩) ?_ fun _ _ e=>e)
 rintro ⟨⟨⟩,AQ⟩ s' ⟨rfl,hB,hS⟩
 dsimp only
 refine wpAny_bind (seqEpoch_at dZ rfl ?_)
 have iS:(arrOf AQ).toList.Perm (vs.zip vs):=by rw [<-pairsOf_toList];exact Array.perm_iff_toList_perm.mp hB.perm
 refine wpAny_bind (listUpdate_at dZ rfl ?_ (Nat.zero_le _) (by rw [Array.size_map,hB.size,pairsOf_size];lia))
 have bb:failedOf AQ=none:=hB.failed
 rw [bb]
 simp only [bne_self_eq_false,Bool.false_eq_true,if_false]
 refine wpAny_pure ?_
 have:=h ((arrOf AQ).map (·.2)) (by
  rw [Array.toList_map]
  have:=iS.map (·.2)
  rwa [List.map_snd_zip (Nat.le_refl _)]at this) (by
  rw [Array.toList_map,List.map_map,List.pairwise_map]
  refine List.Pairwise.imp_of_mem (fun {x y} hx hy hle=>?_) hS
  have mx:=mem_zip_self (iS.mem_iff.mp hx)
  have my:=mem_zip_self (iS.mem_iff.mp hy)
  show HT.lexLt (g (CQ s.heap y.2)) (g (CQ s.heap x.2))=false
  rw [<-mx.1,<-my.1,<-Ze _ mx.2,<-Ze _ my.2]
  obtain ⟨dx,mT,qb⟩:=r6.mem _ mx.2
  obtain ⟨dy,mq,qY⟩:=r6.mem _ my.2
  have gi:rkD g ds (CQ h6 x.1)≤rkD g ds (CQ h6 y.1):=hle
  rw [CO (O.pl _ mT) qb,CO (O.pl _ mq) qY]at gi ⊢
  rw [<-R4 g ds mq mT]
  exact decide_eq_false (by lia))
 unfold sortedHeap at this
 rw [hh6]at this
 exact this
end
end
end TF
namespace TF
open PySem PySem.Spec L2
open PyProof.Rows hiding St RelV
inductive Tri (K:PySem.W.Frag) (H:Hp):List Dat->List V->List Value->Prop
 |nil:Tri K H [] [] []
 |cons {d v u ds vs us} (h:Rep K H d v) (r:RelV v u) (t:Tri K H ds vs us):Tri K H (d::ds) (v::vs) (u::us)
theorem R6 {K:PySem.W.Frag} {H:Hp}:∀{ds:List Dat} {vs:List V} {us:List Value},RepL K H ds vs->Vals vs us->Tri K H ds vs us
 |[],_,_,r,v=>by rw [RepL]at r;subst r;cases v;exact .nil
 |d::ds,_,_,r,v=>by
  rw [RepL]at r
  obtain ⟨x,r',rfl,h1,h2⟩:=r
  cases v with
  |cons q t=>exact .cons h1 q (R6 h2 t)
theorem Tri.rep {K:PySem.W.Frag} {H:Hp} {ds:List Dat} {vs:List V} {us:List Value} (h:Tri K H ds vs us):RepL K H ds vs/\Vals vs us:=by
 induction h with
 |nil=>exact ⟨RepL.nil,.nil⟩
 |cons h r t ih=>exact ⟨RepL.cons h ih.1,.cons r ih.2⟩
theorem Tri.same {K:PySem.W.Frag} {H H':Hp} {ds:List Dat} {vs:List V} {us:List Value} (e:Same H H') (h:Tri K H ds vs us):Tri K H' ds vs us:=by
 induction h with
 |nil=>exact .nil
 |cons h r t ih=>exact .cons (h.same e) r ih
theorem UI {K:PySem.W.Frag} {H:Hp} {us oG:List Value} (p:oG.Perm us):∀{ds:List Dat} {vs:List V},Tri K H ds vs us->∃GX Ld,Tri K H GX Ld oG/\GX.Perm ds:=by
 induction p with
 |nil=>intro ds vs h;exact ⟨ds,vs,h,.refl _⟩
 |cons x p ih=>
  intro ds vs h
  cases h with
  |cons h r t=>
   obtain ⟨GX,Ld,t',p'⟩:=ih t
   exact ⟨_,_,.cons h r t',p'.cons _⟩
 |swap x y l=>
  intro ds vs h
  cases h with
  |cons h r t=>
   cases t with
   |cons h2 r2 t2=>exact ⟨_,_,.cons h2 r2 (.cons h r t2),.swap ..⟩
 |trans p1 p2 i1 i2=>
  intro ds vs h
  obtain ⟨GX,Ld,t',p'⟩:=i2 h
  obtain ⟨ds2,rO,t2,ug⟩:=i1 t'
  exact ⟨ds2,rO,t2,ug.trans p'⟩
theorem Vz {X:Cx} {pins:List (Addr×Obj)} {σ:St} {H:Hp} {s:Shared} (I:Inv X pins σ H s) {g:Dat->List Int} {ds:List Dat} {vs:List V} {us:List Value} (h:Tri X.K H ds vs us) (pl:∀d∈ds,AF 8 d=true):us.map (fun u=>g (CQ s.heap u))=ds.map g:=by
 induction h with
 |nil=>rfl
 |cons h r t ih=>
  rw [List.map_cons,List.map_cons,ih fun d hd=>pl d (List.mem_cons_of_mem _ hd)]
  have p:=pl _ (List.mem_cons_self ..)
  rw [CO p (h.at I p r)]
section
variable {X:Cx}{ρ:Rho}{G:Gs}{e a b c:Expr}{d d1 d2:Dat}{ds l m:List Dat}{pos:Pos}
theorem Ln (g:Dat->List Int) (ds:List Dat) (O:OrdL g ds) (hu:X.A.units+20<cLine):CP X (.builtin "sorted") (fun xs H Q=>∃p vs H0,xs=[.ref p]/\SqL X.K H p vs/\Same H0 H/\RepL X.K H0 ds vs ∧
  ∀q GX Ld,H q=none->RepL X.K H0 GX Ld->GX.Perm ds->(GX.map g).Pairwise (fun x y=>HT.lexLt y x=false)->Q (.ref q) (upd H q (.lst Ld))):=by
 intro pins s σ H xs us Q I r h
 obtain ⟨p,vs,H0,rfl,hq,nY,rd,q⟩:=h
 obtain ⟨u,rfl,rx⟩:=Hj r
 cases rx
 obtain ⟨its,r',pl,hz⟩:=I.list hq
 have T:=R6 rd r'
 have hlen:vs.length=its.length:=r'.length
 have ra:AtL s.heap ds its:=(rd.same nY).at I (by rw [List.all_eq_true];exact O.pl) r'
 refine Calls.call_function_entry kind_sorted plain_sorted entry_sorted (args_sorted1 _) ?_
 unfold Builtin.«sorted»
 refine wpAny_bind (m:=checkCount "sorted" 1 1 _) (wpAny_pure ?_)
 refine wpAny_bind (collect_list pl.isList ?_ (by lia))
 refine wpAny_bind (wpAny_newList ?_ (by lia))
 have hsz:((s.heap.push (seqObj "list" #[] 0)).update s.heap.objs.size (Obj.mapSeq (·++its.toArray))).objs.size=s.heap.objs.size+1:=by
  rw [Heap.size_update,size_push']
 have cj:(((s.heap.push (seqObj "list" #[] 0)).update s.heap.objs.size (Obj.mapSeq (·++its.toArray))).push (seqObj "list" its.toArray 0)).get? (s.heap.objs.size+1)=some (seqObj "list" its.toArray 0):=by
  rw [<-hsz];exact Heap.get?_push_size _ rfl
 have keep:∀b o,s.heap.get? b=some o->(((s.heap.push (seqObj "list" #[] 0)).update s.heap.objs.size (Obj.mapSeq (·++its.toArray))).push (seqObj "list" its.toArray 0)).get? b=some o:=fun b o e=>by
  have Bs:b<s.heap.objs.size:=Heap.lt_size e
  rw [Heap.get?_push_ne _ _ _ (by rw [hsz];exact Nat.ne_of_lt (Nat.lt_succ_of_lt Bs)),Heap.get?_update_ne _ _ _ _ (Nat.ne_of_lt Bs),Heap.get?_push_ne _ _ _ (Nat.ne_of_lt Bs)]
  exact e
 show wpAny _ _ _ _ _ { s with heap:=((s.heap.push (seqObj "list" #[] 0)).update s.heap.objs.size (Obj.mapSeq (·++its.toArray))).push (seqObj "list" its.toArray 0) }
 rw [hsz]
 refine wpAny_bind (wpAny_holding (wpAny_call_entry slot_list_sort ⟨_,cj,rfl⟩ entry_list_sort (Od (g:=g) (ds:=ds) cj (ra.kept keep) (fun _ _ _ _=>trivial) (fun h' k=>ra.kept fun b o e=>k b o (Nat.ne_of_lt (Nat.lt_succ_of_lt (Heap.lt_size e))) (keep b o e)) O (by lia) (by show X.A.units+1+1+8<cLine;lia) fun out hp hs=>⟨_,rfl,?_⟩) (args_list_sort _)))
 refine wpAny_pure ⟨_,rfl,?_⟩
 obtain ⟨GX,Ld,T',au⟩:=UI hp T
 obtain ⟨aL,nT⟩:=T'.rep
 have ic:Ld.length≤sizeLine:=by
  have e1:=nT.length
  have e2:=hp.length_eq
  lia
 obtain ⟨ep,tM⟩:=sortedAll_at s.heap its out
 have jg:∀u∈out.toList,CQ (((s.heap.push (seqObj "list" #[] 0)).update s.heap.objs.size (Obj.mapSeq (·++its.toArray))).push (seqObj "list" its.toArray 0)) u=CQ s.heap u:=fun u Im=>by
  obtain ⟨d,hd,hr⟩:=ra.mem u (hp.mem_iff.mp Im)
  rw [CO (O.pl d hd) hr,CO (O.pl d hd) (hr.kept keep)]
 have gr:(GX.map g).Pairwise (fun x y=>HT.lexLt y x=false):=by
  rw [<-Vz I (T'.same nY) (fun d hd=>O.pl d (au.mem_iff.mp hd))]
  have e:out.toList.map (fun u=>g (CQ s.heap u))=out.toList.map (fun u=>g (CQ (((s.heap.push (seqObj "list" #[] 0)).update s.heap.objs.size (Obj.mapSeq (·++its.toArray))).push (seqObj "list" its.toArray 0)) u)):=
   List.map_congr_left fun u Im=>by rw [jg u Im]
  rw [e]
  exact hs
 refine ⟨.ref (s.heap.objs.size+1),upd H (s.heap.objs.size+1) (.lst Ld),?_,rfl,q _ GX Ld ?_ aL au gr⟩
 ·refine I.laid (t':=s.toks) (o:=.lst Ld) (fun b o e=>sortedAll_old e) (Nat.le_succ _) ?_
  exact ⟨ic,out.toList,ep,nT,by rw [Array.toArray_toList];exact tM⟩
 ·exact I.hok.fresh (Nat.le_succ _)
theorem RF {pp:Pos} (g:Dat->List Int) (hu:X.A.units+20<cLine) (hm:X.mg "sorted"=none) (ha:PX X ρ G a d1) (hl:d1=.lst l\/∃p,d1=.fn p/\G p=some (.lst l)) (O:OrdL g l) (hq:∀l',l'.Perm l->(l'.map g).Pairwise (fun x y=>HT.lexLt y x=false)->l'=m)
  (hg:Gl X "sorted":=by rfl) (he:starEach [a] X.env=(false,eval a X.env)::starEach [] X.env:=by rfl):PX X ρ G (.Call (.Name "sorted" pp) [a] [] pos) (.lst m):=
 Er (Ln g l O hu) hg hm (by decide +kernel) ha (fun H x Q o r k=>by
  have:∃p vs,x=.ref p/\SqL X.K H p vs/\RepL X.K (hid H G) l vs:=by
   rcases hl with rfl|⟨p,rfl,hG⟩
   ·rw [Rep]at r
    obtain ⟨p,vs,e,h1,h2⟩:=r
    exact ⟨p,vs,e,SqL.of (AK _ _ h1),h2⟩
   ·obtain ⟨vs,h1,h2⟩:=o p _ hG
    exact ⟨p,vs,r,SqL.of h1,h2⟩
  obtain ⟨p,vs,e,h1,h2⟩:=this
  refine ⟨p,vs,hid H G,by rw [e],h1,AK,h2,fun q GX Ld To r' ZA gr=>?_⟩
  obtain rfl:=hq GX ZA gr
  exact k _ _ (GU o To r')) (he:=he)
end
mutual
def flat:Dat->List Int
 |.int i=>[i]
 |.tup l=>CC l
 |_=>[]
def CC:List Dat->List Int
 |[]=>[]
 |d::r=>flat d++CC r
end
abbrev lx:List Int->List Int->Bool:=HT.lexLt
theorem So (a b c:List Int):lx (a++b) (a++c)=lx b c:=by
 induction a with
 |nil=>rfl
 |cons x a ih=>show HT.lexLt (x::(a++b)) (x::(a++c))=_;rw [HT.lexLt_cons,if_pos rfl];exact ih
theorem Se:∀{a a':List Int} (b c:List Int),a.length=a'.length->a≠a'->lx (a++b) (a'++c)=lx a a'
 |[],[],_,_,_,h=>absurd rfl h
 |[],_::_,_,_,h,_=>by simp at h
 |_::_,[],_,_,h,_=>by simp at h
 |x::a,y::a',b,c,hl,hn=>by
  show HT.lexLt (x::(a++b)) (y::(a'++c))=HT.lexLt (x::a) (y::a')
  rw [HT.lexLt_cons,HT.lexLt_cons]
  by_cases e:x=y
  ·subst e
   rw [if_pos rfl,if_pos rfl]
   exact Se b c (by simpa using hl) fun z=>hn (by rw [z])
  ·rw [if_neg e,if_neg e]
structure FlD (c:Nat) (x y:Dat):Prop where
 lx:(flat x).length=c
 ly:(flat y).length=c
 eq:eqD x y=decide (flat x=flat y)
 lt:B7 true x y=TF.lx (flat x) (flat y)
theorem JW {c:Nat} (hc:0<c):∀(l m:List Dat),(∀x∈l,∀y∈m,FlD c x y)->(∀x∈l,(flat x).length=c)->(∀y∈m,(flat y).length=c)->B5 true l m=lx (CC l) (CC m)/\eqL l m=decide (CC l=CC m)
 |[],[],_,_,_=>⟨rfl,rfl⟩
 |[],y::m,_,_,h2=>by
  have:=h2 y (List.mem_cons_self ..)
  have D7:CC (y::m)≠[]:=by
   intro e
   rw [CC]at e
   have:=congrArg List.length e
   simp at this
   simp [this]at *
   lia
  obtain ⟨z,t,e⟩:=List.exists_cons_of_ne_nil D7
  constructor
  ·rw [B5,CC,e];rfl
  ·rw [show eqL [] (y::m)=false from rfl,show CC ([]:List Dat)=[]from rfl,e];rfl
 |x::l,[],_,h1,_=>by
  have:=h1 x (List.mem_cons_self ..)
  have D7:CC (x::l)≠[]:=by
   intro e
   rw [CC]at e
   have:=congrArg List.length e
   simp at this
   simp [this]at *
   lia
  obtain ⟨z,t,e⟩:=List.exists_cons_of_ne_nil D7
  constructor
  ·rw [B5,e];rfl
  ·rw [show eqL (x::l) []=false from rfl,e];rfl
 |x::l,y::m,h,h1,h2=>by
  have F:=h x (List.mem_cons_self ..) y (List.mem_cons_self ..)
  obtain ⟨i1,i2⟩:=JW hc l m (fun x hx y hy=>h x (List.mem_cons_of_mem _ hx) y (List.mem_cons_of_mem _ hy)) (fun x hx=>h1 x (List.mem_cons_of_mem _ hx)) fun y hy=>h2 y (List.mem_cons_of_mem _ hy)
  rw [B5,eqL,CC,CC,F.eq,F.lt,i1,i2]
  by_cases e:flat x=flat y
  ·rw [decide_eq_true e,if_pos rfl,e]
   refine ⟨(So _ _ _).symm,?_⟩
   rw [Bool.true_and]
   simp
  ·rw [decide_eq_false e,if_neg (by decide)]
   refine ⟨(Se _ _ (by rw [F.lx,F.ly]) e).symm,?_⟩
   rw [Bool.false_and]
   refine (decide_eq_false fun z=>e ?_).symm
   exact (List.append_inj z (by rw [F.lx,F.ly])).1
theorem QE {c k:Nat} (hc:0<c) {l m:List Dat} (h:∀x∈l,∀y∈m,FlD c x y) (h1:∀x∈l,(flat x).length=c) (h2:∀y∈m,(flat y).length=c) (OR:(CC l).length=k) (FF:(CC m).length=k):FlD k (.tup l) (.tup m):=by
 obtain ⟨i1,i2⟩:=JW hc l m h h1 h2
 exact ⟨by rw [flat];exact OR,by rw [flat];exact FF,by rw [eqD,flat,flat];exact i2,by rw [B7,flat,flat];exact i1⟩
theorem Ur (i j:Int):FlD 1 (.int i) (.int j):=by
 refine ⟨rfl,rfl,?_,?_⟩
 ·simp only [eqD,flat]
  rw [Bool.eq_iff_iff];simp
 ·rw [B7,flat,flat]
  show _=HT.lexLt [i] [j]
  rw [HT.lexLt_cons]
  by_cases e:i=j
  ·subst e;simp;rfl
  ·rw [if_neg e];rfl
theorem Ol (p q:Sq):FlD 2 (sq p) (sq q):=by
 refine QE (c:=1) (by decide) ?_ ?_ ?_ rfl rfl
 ·intro x hx y hy
  simp only [List.mem_cons,List.not_mem_nil,or_false]at hx hy
  rcases hx with rfl|rfl<;>rcases hy with rfl|rfl<;>exact Ur _ _
 ·intro x hx
  simp only [List.mem_cons,List.not_mem_nil,or_false]at hx
  rcases hx with rfl|rfl<;>rfl
 ·intro x hx
  simp only [List.mem_cons,List.not_mem_nil,or_false]at hx
  rcases hx with rfl|rfl<;>rfl
theorem Dw (p q:Sq×Sq):FlD 4 (AM p) (AM q):=by
 refine QE (c:=2) (by decide) ?_ ?_ ?_ rfl rfl
 ·intro x hx y hy
  simp only [List.mem_cons,List.not_mem_nil,or_false]at hx hy
  rcases hx with rfl|rfl<;>rcases hy with rfl|rfl<;>exact Ol _ _
 ·intro x hx
  simp only [List.mem_cons,List.not_mem_nil,or_false]at hx
  rcases hx with rfl|rfl<;>rfl
 ·intro x hx
  simp only [List.mem_cons,List.not_mem_nil,or_false]at hx
  rcases hx with rfl|rfl<;>rfl
abbrev Cj:=Sq×Sq
abbrev Lay:=List Cj
def lay (L:Lay):Dat:=.tup (L.map AM)
theorem QO (L M:Lay):B7 true (lay L) (lay M)=lx (flat (lay L)) (flat (lay M))/\eqD (lay L) (lay M)=decide (flat (lay L)=flat (lay M)):=by
 have:=JW (c:=4) (by decide) (L.map AM) (M.map AM) (fun x hx y hy=>by
  obtain ⟨p,_,rfl⟩:=List.mem_map.mp hx
  obtain ⟨q,_,rfl⟩:=List.mem_map.mp hy
  exact Dw p q) (fun x hx=>by obtain ⟨p,_,rfl⟩:=List.mem_map.mp hx;rfl) fun x hx=>by obtain ⟨p,_,rfl⟩:=List.mem_map.mp hx;rfl
 simp only [lay,B7,eqD,flat]
 exact this
theorem MK {p q:Sq} (h:flat (sq p)=flat (sq q)):p=q:=by
 obtain ⟨a,b⟩:=p
 obtain ⟨c,d⟩:=q
 simp [sq,flat,CC]at h
 rw [h.1,h.2]
theorem DG {p q:Cj} (h:flat (AM p)=flat (AM q)):p=q:=by
 obtain ⟨⟨a,b⟩,a',b'⟩:=p
 obtain ⟨⟨c,d⟩,c',d'⟩:=q
 simp [AM,sq,flat,CC]at h
 obtain ⟨rfl,rfl,rfl,rfl⟩:=h
 rfl
theorem EE:∀{L M:Lay},flat (lay L)=flat (lay M)->L=M
 |[],[],_=>rfl
 |[],_::_,h=>by simp [lay,flat,CC,AM,sq]at h
 |_::_,[],h=>by simp [lay,flat,CC,AM,sq]at h
 |p::L,q::M,h=>by
  have h':flat (AM p)++flat (lay L)=flat (AM q)++flat (lay M):=h
  obtain ⟨h1,h2⟩:=List.append_inj h' (by rw [(Dw p q).lx,(Dw p q).ly])
  rw [DG h1,EE h2]
theorem QI {L M:Lay} (h:lay L=lay M):L=M:=EE (by rw [h])
structure TyD (α:Type) where
 f:α->Dat
 inj:∀{x y},flat (f x)=flat (f y)->x=y
 lt:∀x y,B7 true (f x) (f y)=lx (flat (f x)) (flat (f y))
 eq:∀x y,eqD (f x) (f y)=decide (flat (f x)=flat (f y))
 pl:∀x,AF 8 (f x)=true
 ord:∀x y,B2 8 (f x) (f y)=true
section
variable {α:Type}(T:TyD α)
def TyD.le (x y:α):Bool:=!lx (flat (T.f y)) (flat (T.f x))
def TyD.lt' (x y:α):Prop:=lx (flat (T.f x)) (flat (T.f y))=true
def TyD.sort (l:List α):List α:=l.mergeSort T.le
theorem TyD.sort_perm (l:List α):(T.sort l).Perm l:=List.mergeSort_perm l _
theorem TyD.le_trans (x y z:α) (h1:T.le x y=true) (h2:T.le y z=true):T.le x z=true:=by
 unfold TyD.le at *
 simp only [Bool.not_eq_true']at *
 cases e:lx (flat (T.f z)) (flat (T.f x))with
 |false=>rfl
 |true=>
  rcases Ts (b:=flat (T.f y)) e with q|q
  ·rw [show lx=HT.lexLt from rfl]at h2;rw [h2]at q;cases q
  ·rw [show lx=HT.lexLt from rfl]at h1;rw [h1]at q;cases q
theorem TyD.le_total (x y:α):(T.le x y||T.le y x)=true:=by
 unfold TyD.le
 cases e:lx (flat (T.f y)) (flat (T.f x))with
 |false=>rfl
 |true=>
  cases e2:lx (flat (T.f x)) (flat (T.f y))with
  |false=>rfl
  |true=>
   have:=Ek e e2
   rw [D5]at this
   cases this
theorem TyD.sort_sorted (l:List α):(T.sort l).Pairwise fun x y=>T.le x y=true:=List.pairwise_mergeSort T.le_trans T.le_total l
theorem TyD.uniq:∀{l m:List α},l.Perm m->l.Pairwise (fun x y=>T.le x y=true)->m.Pairwise (fun x y=>T.le x y=true)->l=m
 |[],m,p,_,_=>by rw [List.nil_perm.mp p]
 |x::l,[],p,_,_=>by have:=p.length_eq;simp at this
 |x::l,y::m,p,h1,h2=>by
  obtain ⟨a1,a2⟩:=List.pairwise_cons.mp h1
  obtain ⟨b1,b2⟩:=List.pairwise_cons.mp h2
  have uG:x=y:=by
   have hx:x∈y::m:=p.mem_iff.mp (List.mem_cons_self ..)
   have hy:y∈x::l:=p.mem_iff.mpr (List.mem_cons_self ..)
   rcases List.mem_cons.mp hx with e|hx
   ·exact e
   rcases List.mem_cons.mp hy with e|hy
   ·exact e.symm
   have q1:=a1 y hy
   have q2:=b1 x hx
   unfold TyD.le at q1 q2
   simp only [Bool.not_eq_true']at q1 q2
   exact T.inj (E4 q2 q1)
  subst uG
  rw [TyD.uniq (List.perm_cons _ |>.mp p) a2 b2]
end
theorem YD {α:Type} (T:TyD α) (l:List α) (one:(∀x,∃i r,T.f x=.tup (.int i::r))\/∀x,x∈l->∃k r,T.f x=.tup (.tup k::r)):OrdL flat (l.map T.f):=by
 refine ⟨fun x hx y hy=>?_,fun x hx y hy=>?_,fun x hx=>?_,fun x hx=>?_,?_⟩
 ·obtain ⟨p,_,rfl⟩:=List.mem_map.mp hx;obtain ⟨q,_,rfl⟩:=List.mem_map.mp hy;exact T.lt p q
 ·obtain ⟨p,_,rfl⟩:=List.mem_map.mp hx;obtain ⟨q,_,rfl⟩:=List.mem_map.mp hy;exact T.ord p q
 ·obtain ⟨p,_,rfl⟩:=List.mem_map.mp hx;exact T.pl p
 ·obtain ⟨p,hp,rfl⟩:=List.mem_map.mp hx
  rcases one with o|o
  ·obtain ⟨i,r,e⟩:=o p;exact ⟨_,_,e⟩
  ·obtain ⟨i,r,e⟩:=o p hp;exact ⟨_,_,e⟩
 ·rcases one with o|o
  ·exact .inl fun x hx=>by obtain ⟨p,_,rfl⟩:=List.mem_map.mp hx;exact o p
  ·exact .inr fun x hx=>by obtain ⟨p,hp,rfl⟩:=List.mem_map.mp hx;exact o p hp
theorem TZ {α:Type} (f:α->Dat):∀{l':List Dat} {l:List α},l'.Perm (l.map f)->∃m:List α,l'=m.map f/\m.Perm l:=by
 intro l' l p
 have:∀{a b:List Dat},a.Perm b->∀l:List α,b=l.map f->∃m:List α,a=m.map f/\m.Perm l:=by
  intro a b p
  induction p with
  |nil=>intro l e;exact ⟨[],rfl,by cases l with|nil=>exact .refl _|cons _ _=>simp at e⟩
  |cons x p ih=>
   intro l e
   cases l with
   |nil=>simp at e
   |cons y l=>
    rw [List.map_cons]at e
    obtain ⟨rfl,e2⟩:=List.cons.inj e
    obtain ⟨m,h1,h2⟩:=ih l e2
    exact ⟨y::m,by rw [h1];rfl,h2.cons _⟩
  |swap x y r=>
   intro l e
   match l,e with
   |y'::x'::l,e=>
    simp only [List.map_cons,List.cons.injEq]at e
    obtain ⟨rfl,rfl,rfl⟩:=e
    exact ⟨x'::y'::l,rfl,.swap ..⟩
   |[],e=>simp at e
   |[_],e=>simp at e
  |trans p1 p2 i1 i2=>
   intro l e
   obtain ⟨m,h1,h2⟩:=i2 l e
   obtain ⟨m2,h3,h4⟩:=i1 m h1
   exact ⟨m2,h3,h4.trans h2⟩
 exact this p l rfl
section
variable {X:Cx}{ρ:Rho}{G:Gs}{a:Expr}{d1:Dat}{pos:Pos}
theorem OT {α:Type} (T:TyD α) (l:List α) {pp:Pos} (hu:X.A.units+20<cLine) (hm:X.mg "sorted"=none) (ha:PX X ρ G a d1) (hl:d1=.lst (l.map T.f)\/∃p,d1=.fn p/\G p=some (.lst (l.map T.f))) (one:(∀x,∃i r,T.f x=.tup (.int i::r))\/∀x,x∈l->∃k r,T.f x=.tup (.tup k::r))
  (hg:Gl X "sorted":=by rfl) (he:starEach [a] X.env=(false,eval a X.env)::starEach [] X.env:=by rfl):PX X ρ G (.Call (.Name "sorted" pp) [a] [] pos) (.lst ((T.sort l).map T.f)):=
 RF flat hu hm ha hl (YD T l one) (fun l' hp hs=>by
  obtain ⟨m,rfl,U0⟩:=TZ T.f hp
  rw [TyD.uniq T (U0.trans (T.sort_perm l).symm) ?_ (T.sort_sorted l)]
  rw [List.map_map,List.pairwise_map]at hs
  refine hs.imp fun {x y} h=>?_
  unfold TyD.le
  have:lx (flat (T.f y)) (flat (T.f x))=false:=h
  rw [this];rfl) hg he
end
def TSq:TyD Sq:=⟨sq,MK,fun x y=>(Ol x y).lt,fun x y=>(Ol x y).eq,fun x=>Al x 7,fun _ _=>rfl⟩
theorem Ck (p:Cj):AF 8 (AM p)=true:=by
 simp only [AM,AF,List.all_cons,List.all_nil,Bool.and_true,Bool.and_eq_true]
 exact ⟨Al _ 6,Al _ 6⟩
def TSt:TyD Cj:=⟨AM,DG,fun x y=>(Dw x y).lt,fun x y=>(Dw x y).eq,Ck,fun _ _=>rfl⟩
theorem RH (L:Lay):AF 8 (lay L)=true:=by
 simp only [lay,AF,List.all_eq_true]
 intro x hx
 obtain ⟨p,_,rfl⟩:=List.mem_map.mp hx
 simp only [AM,AF,List.all_cons,List.all_nil,Bool.and_true,Bool.and_eq_true]
 exact ⟨Al _ 5,Al _ 5⟩
theorem Ve (L M:Lay):B2 8 (lay L) (lay M)=true:=by
 simp only [lay,B2,List.all_eq_true]
 intro x hx
 have:=List.of_mem_zip (show (x.1,x.2)∈_ from hx)
 obtain ⟨p,_,e1⟩:=List.mem_map.mp this.1
 obtain ⟨q,_,e2⟩:=List.mem_map.mp this.2
 rw [<-e1,<-e2]
 rfl
def Hu:TyD Lay:=⟨lay,EE,fun x y=>(QO x y).1,fun x y=>(QO x y).2,RH,Ve⟩
theorem IQ {s:Shared} {A:Around} {n:Nat} (hu:A.units+1+n<cLine) {l m:List Dat} {is js:List Value} (hl:l.all (AF n)=true) (hm:m.all (AF n)=true) (rl:AtL s.heap l is) (rm:AtL s.heap m js) :
  ∀j (h1:j<is.toArray.size) (h2:j<js.toArray.size),SeqAt.EqAt A.in1 s is.toArray[j] js.toArray[j] ((fun j=>match l[j]?,m[j]? with|some x,some y=>eqD x y|_,_=>true) j):=by
 intro j h1 h2
 have Vd:j<is.length:=by simpa using h1
 have Ua:j<js.length:=by simpa using h2
 have l1:j<l.length:=by rw [<-rl.length];exact Vd
 have l2:j<m.length:=by rw [<-rm.length];exact Ua
 obtain ⟨u1,f1,q1⟩:=rl.get (List.getElem?_eq_getElem l1)
 obtain ⟨u2,f2,q2⟩:=rm.get (List.getElem?_eq_getElem l2)
 rw [List.getElem?_eq_getElem Vd]at f1
 rw [List.getElem?_eq_getElem Ua]at f2
 cases f1
 cases f2
 have hx:AF n l[j]=true:=List.all_eq_true.mp hl _ (List.getElem_mem l1)
 have hy:AF n m[j]=true:=List.all_eq_true.mp hm _ (List.getElem_mem l2)
 have:=(Es (A:=A.in1) n hx hy q1 q2 hu).1
 simpa [List.getElem?_eq_getElem l1,List.getElem?_eq_getElem l2]using this
def QR:Dat->Dat->Bool
 |.tup _,.tup _=>true
 |.lst _,.lst _=>true
 |.int _,.int _=>true
 |.str _,.str _=>true
 |.bl _,.bl _=>true
 |_,_=>false
theorem Yp {s:Shared} {A:Around} {d e:Dat} {u v:Value} (ha:QR d e=true) (hd:AF 9 d=true) (he:AF 9 e=true) (rd:AtH s.heap d u) (re:AtH s.heap e v) (hu:A.units+9<cLine):SeqAt.RcNeAt A s u v (!eqD d e):=by
 cases d<;>cases e<;>simp only [QR,Bool.false_eq_true]at ha<;>rw [AtH]at rd re
 ·subst rd;subst re;simp only [eqD];exact SeqAt.RcNeAt.bool_bool _ _
 ·obtain ⟨t,rfl⟩:=rd;obtain ⟨t',rfl⟩:=re;simp only [eqD];exact SeqAt.RcNeAt.int_int _ _ _ _
 ·obtain ⟨t,rfl⟩:=rd;obtain ⟨t',rfl⟩:=re;simp only [eqD];exact SeqAt.RcNeAt.str_str _ _ _ _
 ·rename_i l m
  obtain ⟨a,is,rfl,ti,rl⟩:=rd
  obtain ⟨b,js,rfl,tj,rm⟩:=re
  have:=SeqAt.RcNeAt.tuples (A:=A) ti tj (by lia) (IQ (n:=8) (by lia) (by simpa [AF]using hd) (by simpa [AF]using he) rl rm)
  rw [eqD,D0]
  rw [List.size_toArray,List.size_toArray,rl.length,rm.length]at this
  exact this
 ·rename_i l m
  obtain ⟨a,is,rfl,ti,rl⟩:=rd
  obtain ⟨b,js,rfl,tj,rm⟩:=re
  have e1:is.toArray.size=l.length:=by rw [List.size_toArray,rl.length]
  have e2:js.toArray.size=m.length:=by rw [List.size_toArray,rm.length]
  rw [eqD,D0]
  by_cases hsz:l.length=m.length
  ·have:=SeqAt.RcNeAt.lists (A:=A) ti tj (by rw [e1,e2,hsz]) (by lia) (IQ (n:=8) (by lia) (by simpa [AF]using hd) (by simpa [AF]using he) rl rm)
   rw [e1]at this
   rw [hsz,Nat.min_self,beq_self_eq_true,Bool.and_true,<-hsz]
   exact this
  ·have:=SeqAt.RcNeAt.lists_lengths (A:=A) ti tj (by rw [e1,e2];simpa using hsz) (by lia)
   rw [show (l.length==m.length)=false by simpa using hsz,Bool.and_false]
   exact this
section
variable {X:Cx}{ρ:Rho}{G:Gs}{e a b c:Expr}{es:List Expr}{d d' d1 d2 d3 k:Dat}{ds l m:List Dat}{pos:Pos}{i j z:Int}{p:Addr}{D:DE}{rest body:List Stmt}
theorem Yl (hu:X.A.units+9<cLine):OpR X (compareOp .NotEq) (fun x y H Q=>∃d e,Rep X.K H d x/\Rep X.K H e y/\QR d e=true/\AF 9 d=true/\AF 9 e=true/\Q (.bl (!eqD d e)) H):=by
 intro pins s σ H x y v u Q I rx ry h
 obtain ⟨d,e,h1,h2,h3,h4,h5,q⟩:=h
 exact Yp h3 h4 h5 (h1.at I h4 rx) (h2.at I h5 ry) hu _ _ _ _ ⟨.bl _,H,I,rfl,q⟩
theorem VX (st:Bool) (hu:X.A.units+9<cLine):OpR X (compareOp (Z7 st)) (fun x y H Q=>∃d e,Rep X.K H d x/\Rep X.K H e y/\B2 9 d e=true/\AF 9 d=true/\AF 9 e=true/\Q (.bl (B7 st d e)) H):=by
 intro pins s σ H x y v u Q I rx ry h
 obtain ⟨d,e,h1,h2,h3,h4,h5,q⟩:=h
 have:=Ji (A:=X.A) (s:=s) st 9 h3 h4 h5 (h1.at I h4 rx) (h2.at I h5 ry) hu X.prog X.w X.xe (EP X pins σ Q) ⟨.bl _,H,I,rfl,q⟩
 cases st with
 |true=>exact this
 |false=>exact this
theorem Vk (hu:X.A.units+9<cLine) (ha:PX X ρ G a d1) (hb:PX X ρ G b d2) (h:QR d1 d2=true) (p1:AF 9 d1=true) (p2:AF 9 d2=true):PXC X ρ G .NotEq a b (.bl (!eqD d1 d2)):=
 De (Yl hu) ha hb fun H x y Q o hx hy k=>⟨d1,d2,hx.same AK,hy.same AK,h,p1,p2,k _ _ (Bl o rfl)⟩
theorem Pu (hu:X.A.units+9<cLine) (ha:PX X ρ G a d1) (hb:PX X ρ G b d2) (h:B2 9 d1 d2=true) (p1:AF 9 d1=true) (p2:AF 9 d2=true):PXC X ρ G .Lt a b (.bl (B7 true d1 d2)):=
 De (VX true hu) ha hb fun H x y Q o hx hy k=>⟨d1,d2,hx.same AK,hy.same AK,h,p1,p2,k _ _ (Bl o rfl)⟩
end
def Fn (F:List Sq) (z o:Sq):List Sq:=F.filter fun x=>!decide (x=z)&&!decide (x=o)
def BS (F:List Sq):Sq:=F.getLastD (0,0)
def JS (F:List Sq) (z:Sq):List Sq:=(nbM z).filter F.contains
def Dj:Nat->List Sq->List Lay
 |0,F=>if F=[]then [[]]else []
 |n+1,F=>if F=[]then [[]]else (JS F (BS F)).flatMap fun o=>(Dj n (Fn F (BS F) o)).map (·++[(o,BS F)])
def DZ (F:List Sq):List Lay:=Dj F.length F
theorem Ep {F:List Sq} (h:F≠[]):BS F∈F:=by
 unfold BS
 rw [List.getLastD_eq_getLast?,List.getLast?_eq_some_getLast h]
 exact List.getLast_mem h
theorem LJ {F:List Sq} (h:F≠[]) (o:Sq):(Fn F (BS F) o).length<F.length:=by
 unfold Fn
 refine List.length_filter_lt_length_iff_exists.mpr ⟨_,Ep h,by simp⟩
theorem KI:∀(n m:Nat) (F:List Sq),F.length≤n->F.length≤m->Dj n F=Dj m F
 |0,0,F,_,_=>rfl
 |0,m+1,F,h,_=>by
  have:F=[]:=List.length_eq_zero_iff.mp (by lia)
  subst this;rfl
 |n+1,0,F,_,h=>by
  have:F=[]:=List.length_eq_zero_iff.mp (by lia)
  subst this;rfl
 |n+1,m+1,F,h1,h2=>by
  unfold Dj
  split
  ·rfl
  ·rename_i D7
   have:∀o,Dj n (Fn F (BS F) o)=Dj m (Fn F (BS F) o):=fun o=>KI n m _ (by have:=LJ D7 o;lia) (by have:=LJ D7 o;lia)
   simp only [this]
theorem CT:DZ []=[[]]:=rfl
theorem Gx {F:List Sq} (h:F≠[]):DZ F=(JS F (BS F)).flatMap fun o=>(DZ (Fn F (BS F) o)).map (·++[(o,BS F)]):=by
 unfold DZ
 obtain ⟨n,hn⟩:∃n,F.length=n+1:=⟨F.length-1,by have:=List.length_pos_iff.mpr h;lia⟩
 rw [hn]
 conv=>lhs;unfold Dj
 rw [if_neg h]
 have:∀o,Dj n (Fn F (BS F) o)=Dj (Fn F (BS F) o).length (Fn F (BS F) o):=fun o=>KI _ _ _ (by have:=LJ h o;lia) (Nat.le_refl _)
 simp only [this]
def A4 (l:Lay):List Sq:=l.flatMap fun s=>[s.1,s.2]
structure Cov (F:List Sq) (l:Lay):Prop where
 st:∀s∈l,AU s.1 s.2/\s.2∈nbM s.1
 pm:(A4 l).Perm F
theorem Cf {l:Lay} {x:Sq}:x∈A4 l↔∃s∈l,x=s.1\/x=s.2:=by
 unfold A4
 simp [List.mem_flatMap]
theorem Mt {l m:Lay} (h:l.Perm m):(A4 l).Perm (A4 m):=h.flatMap_right _
theorem Pd {a b:Sq} (h:a∈nbM b):b∈nbM a:=by
 obtain ⟨a1,a2⟩:=a
 obtain ⟨b1,b2⟩:=b
 simp only [nbM,List.mem_cons,List.not_mem_nil,or_false,Prod.mk.injEq]at *
 rcases h with ⟨h1,h2⟩|⟨h1,h2⟩|⟨h1,h2⟩|⟨h1,h2⟩<;>subst h1 h2
 ·exact .inr (.inr (.inr ⟨(Int.sub_add_cancel _ _).symm,rfl⟩))
 ·exact .inr (.inr (.inl ⟨rfl,(Int.sub_add_cancel _ _).symm⟩))
 ·exact .inr (.inl ⟨rfl,(Int.add_sub_cancel _ _).symm⟩)
 ·exact .inl ⟨(Int.add_sub_cancel _ _).symm,rfl⟩
theorem QD {a b:Sq} (h:a∈nbM b):a≠b:=by
 rintro rfl
 obtain ⟨a1,a2⟩:=a
 simp only [nbM,List.mem_cons,List.not_mem_nil,or_false,Prod.mk.injEq]at h
 lia
theorem MA {F:List Sq} (up:F.Pairwise AU) {x:Sq} (hx:x∈F):x=BS F\/AU x (BS F):=by
 have h:F≠[]:=List.ne_nil_of_mem hx
 unfold BS
 rw [List.getLastD_eq_getLast?,List.getLast?_eq_some_getLast h,Option.getD_some]
 rw [<-List.dropLast_concat_getLast h]at hx up
 rcases List.mem_append.mp hx with h1|h1
 ·right
  exact (List.pairwise_append.mp up).2.2 x h1 _ (by simp)
 ·left;simpa using h1
theorem Iy {F:List Sq} (up:F.Pairwise AU):F.Nodup:=up.imp fun {a b} NL e=>by subst e;exact AS _ NL
theorem IB {F:List Sq} {z o x:Sq}:x∈Fn F z o↔x∈F/\x≠z/\x≠o:=by simp [Fn]
theorem Io {F:List Sq} (nd:F.Nodup) {z o:Sq} (hz:z∈F) (ho:o∈F) (D7:o≠z):(o::z::Fn F z o).Perm F:=by
 rw [List.perm_ext_iff_of_nodup _ nd]
 ·intro x
  simp only [List.mem_cons,IB]
  by_cases h1:x=o
  ·subst h1;simp [ho]
  ·by_cases h2:x=z
   ·subst h2;simp [hz]
   ·simp [h1,h2]
 ·refine List.nodup_cons.mpr ⟨?_,List.nodup_cons.mpr ⟨?_,nd.sublist List.filter_sublist⟩⟩
  ·simp only [List.mem_cons,IB];rintro (h|h)
   ·exact D7 h
   ·exact h.2.2 rfl
  ·simp [IB]
theorem Kt {F:List Sq} (up:F.Pairwise AU) (z o:Sq):(Fn F z o).Pairwise AU:=up.sublist List.filter_sublist
theorem Gv {F:List Sq} {z o:Sq}:o∈JS F z↔o∈nbM z/\o∈F:=by simp [JS]
theorem Fx {F:List Sq} (up:F.Pairwise AU) {o:Sq} (h:F≠[]) (ho:o∈JS F (BS F)):(Fn F (BS F) o).length+2=F.length:=by
 obtain ⟨h1,h2⟩:=Gv.mp ho
 have:=(Io (Iy up) (Ep h) h2 (QD h1)).length_eq
 simpa using this
theorem QN (l m:Lay):A4 (l++m)=A4 l++A4 m:=by simp [A4]
theorem HP:∀(n:Nat) {F:List Sq},F.length≤n->F.Pairwise AU->∀r∈DZ F,Cov F r:=by
 intro n
 induction n with
 |zero=>
  intro F hl up r hr
  have:F=[]:=List.length_eq_zero_iff.mp (by lia)
  subst this
  rw [CT,List.mem_singleton]at hr
  subst hr
  exact ⟨by simp,.refl _⟩
 |succ n ih=>
  intro F hl up r hr
  by_cases h:F=[]
  ·subst h
   rw [CT,List.mem_singleton]at hr
   subst hr
   exact ⟨by simp,.refl _⟩
  rw [Gx h,List.mem_flatMap]at hr
  obtain ⟨o,ho,hr⟩:=hr
  obtain ⟨r',oW,rfl⟩:=List.mem_map.mp hr
  have SH:=Fx up h ho
  obtain ⟨h1,h2⟩:=Gv.mp ho
  have C:=ih (by lia) (Kt up _ _) r' oW
  refine ⟨fun s hs=>?_,?_⟩
  ·rcases List.mem_append.mp hs with hs|hs
   ·exact C.st s hs
   ·rw [List.mem_singleton.mp hs]
    refine ⟨?_,Pd h1⟩
    rcases MA up h2 with e|e
    ·exact absurd e (QD h1)
    ·exact e
  ·rw [QN]
   show (A4 r'++[o,BS F]).Perm F
   exact (List.perm_append_comm.trans (C.pm.append_left [o,BS F])).trans (Io (Iy up) (Ep h) h2 (QD h1))
theorem RJ:∀(n:Nat) {F:List Sq} {l:Lay},F.length≤n->F.Pairwise AU->Cov F l->∃r∈DZ F,r.Perm l:=by
 intro n
 induction n with
 |zero=>
  intro F l hl up C
  have:F=[]:=List.length_eq_zero_iff.mp (by lia)
  subst this
  have:=C.pm.length_eq
  cases l with
  |nil=>exact ⟨[],by simp [CT],.refl _⟩
  |cons s l=>simp [A4]at this
 |succ n ih=>
  intro F l hl up C
  by_cases h:F=[]
  ·subst h
   have:=C.pm.length_eq
   cases l with
   |nil=>exact ⟨[],by simp [CT],.refl _⟩
   |cons s l=>simp [A4]at this
  obtain ⟨s,hs,he⟩:=Cf.mp (C.pm.mem_iff.mpr (Ep h))
  have ZJ:s.1∈F:=C.pm.mem_iff.mp (Cf.mpr ⟨s,hs,.inl rfl⟩)
  have TJ:s.2∈F:=C.pm.mem_iff.mp (Cf.mpr ⟨s,hs,.inr rfl⟩)
  obtain ⟨slt,dB⟩:=C.st s hs
  have hz:s.2=BS F:=by
   rcases he with e|e
   ·rcases MA up TJ with q|q
    ·exact q
    ·rw [e]at q;exact absurd (A7 slt q) (AS _)
   ·exact e.symm
  have ho:s.1∈JS F (BS F):=Gv.mpr ⟨hz▸Pd dB,ZJ⟩
  have hp:l.Perm (s::l.erase s):=List.perm_cons_erase hs
  have Jg:(s.1::s.2::A4 (l.erase s)).Perm F:=by
   refine List.Perm.trans ?_ C.pm
   exact (Mt hp).symm
  have SH:=Fx up h ho
  have C':Cov (Fn F (BS F) s.1) (l.erase s):=by
   refine ⟨fun t ht=>C.st t (List.mem_of_mem_erase ht),?_⟩
   have:=Jg.trans (Io (Iy up) (Ep h) ZJ (QD (Gv.mp ho).1)).symm
   rw [hz]at this
   exact (List.perm_cons _).mp ((List.perm_cons _).mp this)
  obtain ⟨r,hr,t4⟩:=ih (by lia) (Kt up _ _) C'
  refine ⟨r++[(s.1,BS F)],?_,?_⟩
  ·rw [Gx h,List.mem_flatMap]
   exact ⟨s.1,ho,List.mem_map.mpr ⟨r,hr,rfl⟩⟩
  ·rw [show (s.1,BS F)=s by rw [<-hz]]
   exact (List.perm_append_comm.trans (t4.append_left [s])).trans hp.symm
theorem WN (F:List Sq) (z:Sq):(JS F z).Nodup:=(UG z).sublist List.filter_sublist
theorem R8:∀(n:Nat) {F:List Sq},F.length≤n->F.Pairwise AU->(DZ F).Pairwise fun r r'=>¬r.Perm r':=by
 intro n
 induction n with
 |zero=>
  intro F hl up
  have:F=[]:=List.length_eq_zero_iff.mp (by lia)
  subst this
  rw [CT];exact List.pairwise_singleton _ _
 |succ n ih=>
  intro F hl up
  by_cases h:F=[]
  ·subst h;rw [CT];exact List.pairwise_singleton _ _
  rw [Gx h,List.pairwise_flatMap]
  refine ⟨fun o ho=>?_,?_⟩
  ·rw [List.pairwise_map]
   have SH:=Fx up h ho
   refine (ih (by lia) (Kt up _ o)).imp fun {a b} NL hp=>NL ?_
   exact (List.perm_append_right_iff _).mp hp
  ·refine List.Pairwise.imp_of_mem (R:=fun a b=>a≠b) ?_ (WN F (BS F))
   intro o o' ho Js D7 x hx y hy hp
   obtain ⟨r,hr,rfl⟩:=List.mem_map.mp hx
   obtain ⟨r',oW,rfl⟩:=List.mem_map.mp hy
   have hm:(o',BS F)∈r++[(o,BS F)]:=hp.mem_iff.mpr (by simp)
   rcases List.mem_append.mp hm with hm|hm
   ·have SH:=Fx up h ho
    have C:=HP n (by lia) (Kt up _ o) r hr
    have:=C.pm.mem_iff.mp (Cf.mpr ⟨_,hm,.inr rfl⟩)
    exact (IB.mp this).2.1 rfl
   ·rw [List.mem_singleton,Prod.mk.injEq]at hm
    exact D7 hm.1.symm
theorem Jh (s t:Cj):lx (flat (AM s)) (flat (AM t))=decide (AU s.1 t.1\/(s.1=t.1/\AU s.2 t.2)):=by
 obtain ⟨⟨a,b⟩,c,d⟩:=s
 obtain ⟨⟨a',b'⟩,c',d'⟩:=t
 show HT.lexLt [a,b,c,d] [a',b',c',d']=_
 rw [HT.lexLt_cons,HT.lexLt_cons,HT.lexLt_cons,HT.lexLt_cons]
 have e0:HT.lexLt [] []=false:=rfl
 rw [e0,Bool.eq_iff_iff,decide_eq_true_iff]
 simp only [AU,Prod.mk.injEq]
 by_cases h1:a=a'<;>by_cases h2:b=b'<;>by_cases h3:c=c'<;>by_cases h4:d=d'<;>simp [h1,h2,h3,h4]<;>lia
theorem XA (s t:Sq):lx (flat (sq s)) (flat (sq t))=decide (AU s t):=by
 obtain ⟨a,b⟩:=s
 obtain ⟨a',b'⟩:=t
 show HT.lexLt [a,b] [a',b']=_
 rw [HT.lexLt_cons,HT.lexLt_cons]
 have e0:HT.lexLt [] []=false:=rfl
 rw [e0,Bool.eq_iff_iff,decide_eq_true_iff]
 simp only [AU]
 by_cases h1:a=a'<;>by_cases h2:b=b'<;>simp [h1,h2]<;>lia
structure IsLay (F:List Sq) (l:Lay):Prop extends Cov F l where
 up:l.Pairwise fun s t=>AU s.1 t.1
theorem SE {l:Lay} (h:(A4 l).Nodup):l.Pairwise fun s t=>s.1≠t.1/\s.1≠t.2/\s.2≠t.1/\s.2≠t.2:=by
 unfold A4 List.Nodup at h
 rw [List.pairwise_flatMap]at h
 refine h.2.imp fun {s t} h=>?_
 exact ⟨h _ (by simp) _ (by simp),h _ (by simp) _ (by simp),h _ (by simp) _ (by simp),h _ (by simp) _ (by simp)⟩
theorem Cov.perm {F:List Sq} {l m:Lay} (C:Cov F l) (h:m.Perm l):Cov F m:=⟨fun s hs=>C.st s (h.mem_iff.mp hs),(Mt h).trans C.pm⟩
theorem Cov.lay {F:List Sq} {l:Lay} (C:Cov F l) (nd:F.Nodup):IsLay F (TSt.sort l):=by
 have C':=C.perm (TSt.sort_perm l)
 refine ⟨C',?_⟩
 have h1:=TSt.sort_sorted l
 have h2:=SE (C'.pm.nodup_iff.mpr nd)
 refine (h1.and h2).imp fun {s t} h=>?_
 obtain ⟨h1,h2,_⟩:=h
 unfold TyD.le at h1
 rw [show TSt.f=AM from rfl,Jh]at h1
 simp only [Bool.not_eq_true',decide_eq_false_iff_not,not_or,not_and]at h1
 rcases UK s.1 t.1 with h|h|h
 ·exact h
 ·exact absurd h h2
 ·exact absurd h h1.1
theorem IsLay.sorted {F:List Sq} {l:Lay} (I:IsLay F l):l.Pairwise fun x y=>TSt.le x y=true:=I.up.imp fun {s t} h=>by
 unfold TyD.le
 rw [show TSt.f=AM from rfl,Jh]
 simp only [Bool.not_eq_true',decide_eq_false_iff_not,not_or,not_and]
 refine ⟨fun h'=>AS _ (A7 h h'),fun e=>?_⟩
 rw [e]at h
 exact absurd h (AS _)
theorem IsLay.uniq {F:List Sq} {l m:Lay} (I:IsLay F l) (J:IsLay F m) (h:l.Perm m):l=m:=TSt.uniq h I.sorted J.sorted
def HI (F:List Sq):List Lay:=Hu.sort ((DZ F).map TSt.sort)
theorem VN {F:List Sq} (up:F.Pairwise AU) {l:Lay}:l∈HI F↔IsLay F l:=by
 unfold HI
 rw [(Hu.sort_perm _).mem_iff,List.mem_map]
 constructor
 ·rintro ⟨r,hr,rfl⟩
  exact (HP _ (Nat.le_refl _) up r hr).lay (Iy up)
 ·intro I
  obtain ⟨r,hr,hp⟩:=RJ _ (Nat.le_refl _) up I.toCov
  exact ⟨r,hr,((HP _ (Nat.le_refl _) up r hr).lay (Iy up)).uniq I ((TSt.sort_perm r).trans hp)⟩
theorem Xy {F:List Sq} (up:F.Pairwise AU):(HI F).Nodup:=by
 unfold HI
 rw [(Hu.sort_perm _).nodup_iff]
 unfold List.Nodup
 rw [List.pairwise_map]
 refine (R8 _ (Nat.le_refl _) up).imp fun {a b} h e=>h ?_
 exact (TSt.sort_perm a).symm.trans (e▸TSt.sort_perm b)
theorem N8 (F:List Sq):(HI F).Pairwise fun x y=>Hu.le x y=true:=Hu.sort_sorted _
instance:Inhabited Dat:=⟨.non⟩
abbrev PM:=List (Sq×Sq)
def lk (pm:PM) (x:Sq):Option Sq:=(pm.find? fun p=>decide (p.1=x)).map (·.2)
def pt (pm:PM) (x y:Sq):PM:=if (lk pm x).isSome then pm.map (fun p=>if p.1=x then (p.1,y)else p)else pm++[(x,y)]
def two (m:Sq->Option Sq) (s o:Sq):Sq->Option Sq:=fun z=>if z=o then some s else if z=s then some o else m z
def col (x:Sq):Int:=(x.1+x.2)%2
theorem Jl (x y:Sq):B7 true (sq x) (sq y)=decide (AU x y):=by
 have:=TSq.lt x y
 rw [show TSq.f=sq from rfl,XA]at this
 exact this
def A1 (floor:List Sq) (q:Sq) (taken:List Sq):List (List (Sq×Sq)×List Sq):=
 if taken.contains q=true then [([],taken.drop 1)]else
  (if (floor.contains (q.1,q.2+1)&&!taken.contains (q.1,q.2+1))=true then [([(q,(q.1,q.2+1))],(q.1,q.2+1)::taken)]else []) ++
  (if floor.contains (q.1+1,q.2)=true then [([(q,(q.1+1,q.2))],taken++[(q.1+1,q.2)])]else [])
def L5 (p:List (Sq×Sq)×List Sq):Dat:=.tup [.tup (p.1.map AM),fl p.2]
def IK:SpD:=fun ds G R=>∃(floor:List Sq) (k:Nat) (q:Sq) (taken:List Sq),ds=[fl floor,.int k,fl taken]/\floor[k]?=some q/\floor.length≤1000/\taken.length≤1000/\R (.lst ((A1 floor q taken).map L5)) G
def Cw (floor:List Sq):List Sq->List Sq->Nat
 |[],_=>1
 |q::r,taken=>((A1 floor q taken).map fun t=>Cw floor r t.2).sum
def Lc (floor:List Sq):Nat:=Cw floor floor []
def CH (k:Nat) (taken:List Sq):Dat:=.tup [.int k,fl taken]
def Valid (floor:List Sq) (Ae:List (Dat×Dat)):Prop:=∀p∈Ae,∃(k:Nat) (taken:List Sq),p.1=CH k taken/\p.2=.int (Cw floor (floor.drop k) taken:Nat)
theorem J9 {k k':Nat} {t t':List Sq} (h:CH k t=CH k' t'):k=k'/\t=t':=by
 simp only [CH,Dat.tup.injEq,List.cons.injEq,Dat.int.injEq,and_true]at h
 exact ⟨by lia,Oh h.2⟩
theorem HN (k:Nat) (t:List Sq):B9 6 (CH k t)=true:=by
 simp only [CH,B9,List.all_cons,List.all_nil,Bool.and_true,Bool.true_and,fl]
 rw [List.all_eq_true]
 intro d hd
 obtain ⟨p,_,rfl⟩:=List.mem_map.mp hd
 rfl
theorem Valid.look {floor:List Sq} {Ae:List (Dat×Dat)} (h:Valid floor Ae) {k:Nat} {t:List Sq} {d:Dat} (e:Aw Ae (CH k t)=some d):d=.int (Cw floor (floor.drop k) t:Nat):=by
 unfold Aw at e
 obtain ⟨p,hp,rfl⟩:=Option.map_eq_some_iff.mp e
 have hm:=List.mem_of_find?_eq_some hp
 have hk:=List.find?_some hp
 have ET:p.1=CH k t:=of_decide_eq_true hk
 obtain ⟨k',t',h1,h2⟩:=h p hm
 rw [ET]at h1
 obtain ⟨rfl,rfl⟩:=J9 h1
 exact h2
theorem Valid.put {floor:List Sq} {Ae:List (Dat×Dat)} (h:Valid floor Ae) (k:Nat) (t:List Sq):Valid floor (FE Ae (CH k t) (.int (Cw floor (floor.drop k) t:Nat))):=by
 unfold FE
 intro p hp
 split at hp
 ·obtain ⟨x,hx,rfl⟩:=List.mem_map.mp hp
  by_cases e:x.1=CH k t
  ·rw [if_pos e];exact ⟨k,t,e,rfl⟩
  ·rw [if_neg e];exact h x hx
 ·rcases List.mem_append.mp hp with hp|hp
  ·exact h p hp
  ·rw [List.mem_singleton.mp hp];exact ⟨k,t,rfl,rfl⟩
theorem Oo (Ae:List (Dat×Dat)) (k v:Dat):Aw (FE Ae k v) k=some v:=by
 by_cases h:(Aw Ae k).isSome=true
 ·have:∀(Ae:List (Dat×Dat)),(Aw Ae k).isSome=true->Aw (Ae.map fun x=>if x.1=k then (x.1,v)else x) k=some v:=by
   intro Ae
   induction Ae with
   |nil=>intro h;simp [Aw]at h
   |cons p r ih=>
    intro h
    by_cases e:p.1=k
    ·simp [Aw,e]
    ·have h':(Aw r k).isSome=true:=by simpa [Aw,e]using h
     have:=ih h'
     simpa [Aw,e]using this
  unfold FE
  rw [if_pos h]
  exact this Ae h
 ·unfold FE
  rw [if_neg h]
  have hn:Ae.find? (fun x=>decide (x.1=k))=none:=by
   cases q:Ae.find? (fun x=>decide (x.1=k))with
   |none=>rfl
   |some p=>exact absurd (by simp [Aw,q]) h
  simp [Aw,List.find?_append,hn]
theorem RT (floor:List Sq) (q:Sq) (taken:List Sq):(A1 floor q taken).length≤2/\∀p∈A1 floor q taken,p.2.length≤taken.length+1:=by
 unfold A1
 split
 ·refine ⟨by simp,fun p hp=>?_⟩
  rw [List.mem_singleton.mp hp]
  simp;lia
 ·constructor
  ·rw [List.length_append];split<;>split<;>simp
  ·intro p hp
   rcases List.mem_append.mp hp with hp|hp
   ·split at hp
    ·rw [List.mem_singleton.mp hp];simp
    ·cases hp
   ·split at hp
    ·rw [List.mem_singleton.mp hp];simp
    ·cases hp
def Fy (floor:List Sq):List Sq->List Sq->List Lay
 |[],_=>[[]]
 |q::r,taken=>(A1 floor q taken).flatMap fun t=>(Fy floor r t.2).map (t.1++·)
theorem Lw (floor:List Sq):∀(rest taken:List Sq),Cw floor rest taken=(Fy floor rest taken).length
 |[],_=>rfl
 |q::r,taken=>by
  rw [Cw,Fy,List.length_flatMap]
  congr 1
  refine List.map_congr_left fun t _=>?_
  rw [Lw floor r t.2,List.length_map]
def Ba (rest taken:List Sq):List Sq:=rest.filter fun x=>!taken.contains x
theorem Ej {rest taken:List Sq} {x:Sq}:x∈Ba rest taken↔x∈rest/\x∉taken:=by simp [Ba]
structure WInv (floor rest taken:List Sq):Prop where
 up:floor.Pairwise AU
 pre:∃pre,floor=pre++rest
 tup:taken.Pairwise AU
 tin:∀t∈taken,t∈rest
 bd:∀q r,rest=q::r->∀t∈taken,AU t (q.1+1,q.2)
theorem WC {l:Lay}:IsLay [] l↔l=[]:=by
 constructor
 ·intro I
  have:=I.pm.length_eq
  cases l with
  |nil=>rfl
  |cons s l=>simp [A4]at this
 ·rintro rfl
  exact ⟨⟨by simp,.refl _⟩,.nil⟩
def Hd (D:List Sq) (o:Sq):List Sq:=D.filter fun x=>!decide (x=o)
theorem HJ {D:List Sq} {o x:Sq}:x∈Hd D o↔x∈D/\x≠o:=by simp [Hd]
theorem JH {D:List Sq} (nd:D.Nodup) {o:Sq} (ho:o∈D):(o::Hd D o).Perm D:=by
 rw [List.perm_ext_iff_of_nodup _ nd]
 ·intro x
  simp only [List.mem_cons,HJ]
  by_cases h1:x=o
  ·subst h1;simp [ho]
  ·simp [h1]
 ·exact List.nodup_cons.mpr ⟨fun h=>(HJ.mp h).2 rfl,nd.sublist List.filter_sublist⟩
theorem aQ {q o:Sq} (h:o∈nbM q) (Bs:AU q o):o=(q.1,q.2+1)\/o=(q.1+1,q.2):=by
 obtain ⟨a,b⟩:=q
 obtain ⟨c,d⟩:=o
 simp only [nbM,List.mem_cons,List.not_mem_nil,or_false,Prod.mk.injEq]at h ⊢
 have e:a<c\/(a=c/\b<d):=Bs
 rcases h with ⟨h1,h2⟩|⟨h1,h2⟩|h|h
 ·lia
 ·lia
 ·exact .inl h
 ·exact .inr h
theorem Sf {q:Sq} {D:List Sq} (up:(q::D).Pairwise AU) {l:Lay}:IsLay (q::D) l↔∃o,(o=(q.1,q.2+1)\/o=(q.1+1,q.2))/\o∈D/\∃l',l=(q,o)::l'/\IsLay (Hd D o) l':=by
 obtain ⟨uq,uD⟩:=List.pairwise_cons.mp up
 constructor
 ·intro I
  obtain ⟨s,hs,he⟩:=Cf.mp (I.pm.mem_iff.mpr (List.mem_cons_self ..))
  have inD:∀s∈l,s.1∈q::D/\s.2∈q::D:=fun s hs=>⟨I.pm.mem_iff.mp (Cf.mpr ⟨s,hs,.inl rfl⟩),I.pm.mem_iff.mp (Cf.mpr ⟨s,hs,.inr rfl⟩)⟩
  have ge:∀x∈q::D,¬AU x q:=fun x hx h=>by
   rcases List.mem_cons.mp hx with e|hx
   ·subst e;exact AS _ h
   ·exact AS _ (A7 h (uq x hx))
  obtain ⟨slt,dB⟩:=I.st s hs
  have h1:s.1=q:=by
   rcases he with e|e
   ·exact e.symm
   ·rw [<-e]at slt
    exact absurd slt (ge _ (inD s hs).1)
  cases l with
  |nil=>cases hs
  |cons a l'=>
   have ha:s=a:=by
    rcases List.mem_cons.mp hs with e|h
    ·exact e
    ·have:=(List.pairwise_cons.mp I.up).1 s h
     rw [h1]at this
     exact absurd this (ge _ (inD a (List.mem_cons_self ..)).1)
   subst ha
   have TJ:s.2∈D:=by
    rcases List.mem_cons.mp (inD s hs).2 with e|h
    ·rw [h1]at slt;rw [e]at slt;exact absurd slt (AS _)
    ·exact h
   rw [h1]at slt dB
   refine ⟨s.2,aQ dB slt,TJ,l',by rw [<-h1],⟨fun t ht=>I.st t (List.mem_cons_of_mem _ ht),?_⟩,(List.pairwise_cons.mp I.up).2⟩
   have hp:(s.1::s.2::A4 l').Perm (q::D):=I.pm
   rw [h1]at hp
   exact (List.perm_cons _).mp (((List.perm_cons _).mp hp).trans (JH (Iy uD) TJ).symm)
 ·rintro ⟨o,Xa,YO,l',rfl,I⟩
  have Bs:=uq o YO
  have tL:o∈nbM q:=by
   obtain ⟨a,b⟩:=q
   rcases Xa with rfl|rfl<;>simp [nbM]
  refine ⟨⟨fun t ht=>?_,?_⟩,List.pairwise_cons.mpr ⟨fun t ht=>?_,I.up⟩⟩
  ·rcases List.mem_cons.mp ht with rfl|ht
   ·exact ⟨Bs,tL⟩
   ·exact I.st t ht
  ·show (q::o::A4 l').Perm (q::D)
   exact List.Perm.cons _ ((List.Perm.cons _ I.pm).trans (JH (Iy uD) YO))
  ·have:=I.pm.mem_iff.mp (Cf.mpr ⟨t,ht,.inl rfl⟩)
   exact uq _ (HJ.mp this).1
theorem WInv.tail {floor r:List Sq} {q:Sq} {taken:List Sq} (h:WInv floor (q::r) taken):(∀x∈r,AU q x)/\r.Pairwise AU/\∀x,AU q x->x∈floor->x∈r:=by
 obtain ⟨pre,e⟩:=h.pre
 have hu:=h.up
 rw [e,List.pairwise_append]at hu
 obtain ⟨u1,u2⟩:=List.pairwise_cons.mp hu.2.1
 refine ⟨u1,u2,fun x hx hm=>?_⟩
 rw [e]at hm
 rcases List.mem_append.mp hm with hm|hm
 ·exact absurd (A7 hx (hu.2.2 x hm q (by simp))) (AS _)
 ·rcases List.mem_cons.mp hm with e|hm
  ·subst e;exact absurd hx (AS _)
  ·exact hm
theorem L9 {q q':Sq} (h:AU q q'):AU (q.1+1,q.2) (q'.1+1,q'.2):=by
 unfold AU at *
 simp only
 lia
theorem XI {α:Type} {p q:Prop} [Decidable p] [Decidable q] (h:p↔q) (a b:α):(if p then a else b)=if q then a else b:=by
 by_cases c:p
 ·rw [if_pos c,if_pos (h.mp c)]
 ·rw [if_neg c,if_neg fun d=>c (h.mpr d)]
theorem Dk {α:Type} {l:List α} {p q:α->Bool} (h:∀x∈l,p x=q x):l.filter p=l.filter q:=List.filter_congr h
theorem Tt (floor:List Sq):∀(rest taken:List Sq),WInv floor rest taken->(∀l,l∈Fy floor rest taken↔IsLay (Ba rest taken) l)/\(Fy floor rest taken).Pairwise Hu.lt':=by
 intro rest
 induction rest with
 |nil=>
  intro taken h
  rw [Fy,show Ba [] taken=[]from rfl]
  exact ⟨fun l=>by rw [WC,List.mem_singleton],List.pairwise_singleton _ _⟩
 |cons q r ih=>
  intro taken W
  obtain ⟨uq,ur,Rz⟩:=W.tail
  obtain ⟨pre,Gz⟩:=W.pre
  have Xh:∃pre,floor=pre++r:=⟨pre++[q],by rw [Gz];simp⟩
  have gv:∀t∈taken,∀q' r',r=q'::r'->AU t (q'.1+1,q'.2):=fun t ht q' r' e=>A7 (W.bd q r rfl t ht) (L9 (uq q' (by rw [e];simp)))
  rw [Fy]
  by_cases hq:taken.contains q=true
  ·have To:q∈taken:=by simpa using hq
   obtain ⟨a,tk,rfl⟩:∃a tk,taken=a::tk:=List.exists_cons_of_ne_nil (List.ne_nil_of_mem To)
   obtain ⟨ua,rJ⟩:=List.pairwise_cons.mp W.tup
   have ha:a=q:=by
    rcases List.mem_cons.mp To with e|h
    ·exact e.symm
    ·have h1:=ua q h
     rcases List.mem_cons.mp (W.tin a (List.mem_cons_self ..))with e|h2
     ·exact e
     ·exact absurd (A7 h1 (uq a h2)) (AS _)
   subst ha
   have W':WInv floor r tk:=⟨W.up,Xh,rJ,fun t ht=>by
    rcases List.mem_cons.mp (W.tin t (List.mem_cons_of_mem _ ht))with e|h
    ·subst e;exact absurd (ua t ht) (AS _)
    ·exact h,fun q' r' e t ht=>gv t (List.mem_cons_of_mem _ ht) q' r' e⟩
   have ef:Ba (a::r) (a::tk)=Ba r tk:=by
    unfold Ba
    rw [List.filter_cons,if_neg (by simp)]
    refine Dk fun x hx=>?_
    have:x≠a:=fun e=>by subst e;exact AS _ (uq x hx)
    simp [this]
   have es:A1 floor a (a::tk)=[([],tk)]:=by unfold A1;rw [if_pos hq];rfl
   rw [es,ef]
   obtain ⟨i1,i2⟩:=ih tk W'
   simp only [List.flatMap_cons,List.flatMap_nil,List.append_nil,List.nil_append,List.map_id']
   exact ⟨i1,i2⟩
  ·have To:q∉taken:=by simpa using hq
   have ef:Ba (q::r) taken=q::Ba r taken:=by
    unfold Ba
    rw [List.filter_cons,if_pos (by simpa using To)]
   have du:∀t∈taken,AU q t/\t∈r:=fun t ht=>by
    rcases List.mem_cons.mp (W.tin t ht)with e|h
    ·subst e;exact absurd ht To
    ·exact ⟨uq t h,h⟩
   have uD:(q::Ba r taken).Pairwise AU:=List.pairwise_cons.mpr ⟨fun x hx=>uq x (Ej.mp hx).1,ur.sublist List.filter_sublist⟩
   have tf:AU q (q.1,q.2+1):=by unfold AU;right;exact ⟨rfl,by show q.2<q.2+1;lia⟩
   have uA:AU q (q.1+1,q.2):=by unfold AU;left;show q.1<q.1+1;lia
   have es:A1 floor q taken=(if (q.1,q.2+1)∈Ba r taken then [([(q,(q.1,q.2+1))],(q.1,q.2+1)::taken)]else [])++(if (q.1+1,q.2)∈Ba r taken then [([(q,(q.1+1,q.2))],taken++[(q.1+1,q.2)])]else []):=by
    unfold A1
    rw [if_neg hq]
    congr 1
    ·refine XI ?_ _ _
     rw [Ej]
     simp only [Bool.and_eq_true,Bool.not_eq_true',List.contains_eq_mem,decide_eq_true_eq,decide_eq_false_iff_not]
     constructor
     ·rintro ⟨h1,h2⟩;exact ⟨Rz _ tf h1,h2⟩
     ·rintro ⟨h1,h2⟩;exact ⟨by rw [Gz];simp [h1],h2⟩
    ·refine XI ?_ _ _
     rw [Ej]
     simp only [List.contains_eq_mem,decide_eq_true_eq]
     constructor
     ·intro h1;exact ⟨Rz _ uA h1,fun h=>AS _ (W.bd q r rfl _ h)⟩
     ·rintro ⟨h1,_⟩;rw [Gz];simp [h1]
   have W1:(q.1,q.2+1)∈Ba r taken->WInv floor r ((q.1,q.2+1)::taken):=fun h=>by
    obtain ⟨h1,h2⟩:=Ej.mp h
    refine ⟨W.up,Xh,List.pairwise_cons.mpr ⟨fun t ht=>?_,W.tup⟩,fun t ht=>?_,fun q' r' e t ht=>?_⟩
    ·obtain ⟨g1,_⟩:=du t ht
     have D7:t≠(q.1,q.2+1):=fun e=>h2 (e▸ht)
     obtain ⟨c,d⟩:=t
     simp only [ne_eq,Prod.mk.injEq,not_and]at D7
     unfold AU at *
     simp only at *
     lia
    ·rcases List.mem_cons.mp ht with rfl|ht
     ·exact h1
     ·exact (du t ht).2
    ·rcases List.mem_cons.mp ht with rfl|ht
     ·have:=uq q' (by rw [e];simp)
      unfold AU at *
      simp only at *
      lia
     ·exact gv t ht q' r' e
   have W2:(q.1+1,q.2)∈Ba r taken->WInv floor r (taken++[(q.1+1,q.2)]):=fun h=>by
    obtain ⟨h1,h2⟩:=Ej.mp h
    refine ⟨W.up,Xh,?_,fun t ht=>?_,fun q' r' e t ht=>?_⟩
    ·rw [List.pairwise_append]
     refine ⟨W.tup,List.pairwise_singleton _ _,fun t ht y hy=>?_⟩
     rw [List.mem_singleton.mp hy]
     exact W.bd q r rfl t ht
    ·rcases List.mem_append.mp ht with ht|ht
     ·exact (du t ht).2
     ·rw [List.mem_singleton.mp ht];exact h1
    ·rcases List.mem_append.mp ht with ht|ht
     ·exact gv t ht q' r' e
     ·rw [List.mem_singleton.mp ht]
      exact L9 (uq q' (by rw [e];simp))
   have e1:Ba r ((q.1,q.2+1)::taken)=Hd (Ba r taken) (q.1,q.2+1):=by
    unfold Ba Hd
    rw [List.filter_filter]
    refine Dk fun x _=>?_
    rw [Bool.eq_iff_iff]
    simp [not_or]
   have e2:Ba r (taken++[(q.1+1,q.2)])=Hd (Ba r taken) (q.1+1,q.2):=by
    unfold Ba Hd
    rw [List.filter_filter]
    refine Dk fun x _=>?_
    rw [Bool.eq_iff_iff]
    simp [not_or,and_comm]
   have Yh:∀l,l∈((A1 floor q taken).flatMap fun t=>(Fy floor r t.2).map (t.1++·))↔IsLay (q::Ba r taken) l:=by
    intro l
    rw [Sf uD,es,List.flatMap_append,List.mem_append]
    constructor
    ·rintro (h|h)
     ·by_cases c:(q.1,q.2+1)∈Ba r taken
      ·rw [if_pos c]at h
       simp only [List.flatMap_cons,List.flatMap_nil,List.append_nil,List.mem_map]at h
       obtain ⟨l',SK,rfl⟩:=h
       refine ⟨_,.inl rfl,c,l',rfl,?_⟩
       rw [<-e1];exact ((ih _ (W1 c)).1 l').mp SK
      ·rw [if_neg c]at h;simp at h
     ·by_cases c:(q.1+1,q.2)∈Ba r taken
      ·rw [if_pos c]at h
       simp only [List.flatMap_cons,List.flatMap_nil,List.append_nil,List.mem_map]at h
       obtain ⟨l',SK,rfl⟩:=h
       refine ⟨_,.inr rfl,c,l',rfl,?_⟩
       rw [<-e2];exact ((ih _ (W2 c)).1 l').mp SK
      ·rw [if_neg c]at h;simp at h
    ·rintro ⟨o,Xa,YO,l',rfl,I⟩
     rcases Xa with rfl|rfl
     ·left
      rw [if_pos YO]
      simp only [List.flatMap_cons,List.flatMap_nil,List.append_nil,List.mem_map]
      refine ⟨l',((ih _ (W1 YO)).1 l').mpr (by rw [e1];exact I),rfl⟩
     ·right
      rw [if_pos YO]
      simp only [List.flatMap_cons,List.flatMap_nil,List.append_nil,List.mem_map]
      refine ⟨l',((ih _ (W2 YO)).1 l').mpr (by rw [e2];exact I),rfl⟩
   refine ⟨fun l=>by rw [ef];exact Yh l,?_⟩
   have same:∀(o:Sq) (ls:List Lay),ls.Pairwise Hu.lt'->(ls.map ([(q,o)]++·)).Pairwise Hu.lt':=fun o ls h=>by
    rw [List.pairwise_map]
    refine h.imp fun {a b} NL=>?_
    show lx (flat (AM (q,o))++flat (lay a)) (flat (AM (q,o))++flat (lay b))=true
    rw [So]
    exact NL
   rw [es,List.flatMap_append,List.pairwise_append]
   refine ⟨?_,?_,?_⟩
   ·split
    ·rename_i c
     simp only [List.flatMap_cons,List.flatMap_nil,List.append_nil]
     exact same _ _ (ih _ (W1 c)).2
    ·exact .nil
   ·split
    ·rename_i c
     simp only [List.flatMap_cons,List.flatMap_nil,List.append_nil]
     exact same _ _ (ih _ (W2 c)).2
    ·exact .nil
   ·intro x hx y hy
    split at hx
    ·split at hy
     ·simp only [List.flatMap_cons,List.flatMap_nil,List.append_nil,List.mem_map]at hx hy
      obtain ⟨a,_,rfl⟩:=hx
      obtain ⟨b,_,rfl⟩:=hy
      show lx (flat (AM (q,(q.1,q.2+1)))++flat (lay a)) (flat (AM (q,(q.1+1,q.2)))++flat (lay b))=true
      rw [Se (a:=flat (AM (q,(q.1,q.2+1)))) (a':=flat (AM (q,(q.1+1,q.2)))) _ _ rfl ?_,Jh,decide_eq_true_eq]
      ·right
       refine ⟨rfl,?_⟩
       left
       show q.1<q.1+1
       lia
      ·intro e
       have:=DG e
       simp at this
       lia
     ·simp at hy
    ·simp at hx
theorem bx {F:List Sq} (up:F.Pairwise AU):WInv F F []:=⟨up,⟨[],rfl⟩,.nil,by simp,by simp⟩
theorem aN (F:List Sq):Ba F []=F:=by unfold Ba;rw [List.filter_eq_self];intro a _;rfl
theorem aY {α:Type} (T:TyD α) {x y:α} (h:T.lt' x y):T.le x y=true:=by
 unfold TyD.le
 unfold TyD.lt' at h
 cases e:lx (flat (T.f y)) (flat (T.f x))with
 |false=>rfl
 |true=>
  have:=Ek h e
  rw [D5]at this
  cases this
theorem ZX {α:Type} (T:TyD α) {x y:α} (h:T.lt' x y):x≠y:=by
 rintro rfl
 unfold TyD.lt' at h
 rw [show lx=HT.lexLt from rfl,D5]at h
 cases h
theorem T5 {F:List Sq} (up:F.Pairwise AU):Fy F F []=HI F:=by
 obtain ⟨h1,h2⟩:=Tt F F [] (bx up)
 rw [aN]at h1
 refine Hu.uniq ?_ (h2.imp fun h=>aY Hu h) (N8 F)
 rw [List.perm_ext_iff_of_nodup (h2.imp fun h=>ZX Hu h) (Xy up)]
 exact fun l=>(h1 l).trans (VN up).symm
theorem KL {F:List Sq} (up:F.Pairwise AU):Lc F=(HI F).length:=by
 unfold Lc
 rw [Lw,T5 up]
theorem KD (s t:Cj):eqD (AM s) (AM t)=decide (s=t):=by
 obtain ⟨a,b⟩:=s
 obtain ⟨c,d⟩:=t
 show (eqD (sq a) (sq c)&&(eqD (sq b) (sq d)&&true))=_
 rw [Fo,Fo,Bool.and_true,Bool.eq_iff_iff]
 simp
theorem RI (l:List Cj) (s:Cj):((l.map AM).any fun e=>eqD e (AM s))=l.contains s:=by
 rw [Bool.eq_iff_iff,List.any_map,List.any_eq_true,List.contains_iff_mem]
 constructor
 ·rintro ⟨x,hx,e⟩
  have e':eqD (AM x) (AM s)=true:=e
  rw [KD,decide_eq_true_eq]at e'
  exact e'▸hx
 ·intro h
  exact ⟨s,h,by show eqD (AM s) (AM s)=true;rw [KD];simp⟩
theorem K0 (l:List Cj):(l.map AM).all (AF 8)=true:=by
 rw [List.all_eq_true]
 intro d hd
 obtain ⟨s,_,rfl⟩:=List.mem_map.mp hd
 exact Ck s
section
variable {prog:Program}{w:World}{A:Around}{E:Value->Shared->Prop}{s:Shared}
theorem IV {it t:Addr} {i:Nat} {items:Array Value} {x:Value} {Q:Value->Shared->Prop} (hit:s.heap.IsTupleIter it t i) (ht:s.heap.IsTuple t items) (hx:items[i]?=some x)
  (hQ:∀h',h'.IsTupleIter it t (i+1)->Heap.SameBut it s.heap h'->Q x { s with heap:=h' }):wpAny (model prog w) A (Builtin.SmallTypes.nextOf (.ref it)) Q E s:=by
 obtain ⟨oi,XE,nQ,Vj⟩:=id hit
 obtain ⟨ot,gQ,_,nt,kG⟩:=ht
 unfold Builtin.SmallTypes.nextOf
 refine wpAny_bind (wpAny_callSpecial?_slot (name:=Str.ofString "__next__") hit.typeIs F.slot_tuple_iterator_next (wpAny_call_entry F.slot_tuple_iterator_next hit.typeIs F.entry_tuple_iterator_next ?_ (F.args_tuple_iterator_next_1 _)))
 refine wpAny_bind (m:=field (.ref it) 0) (wpAny_field XE Vj (x:=.ref t) rfl ?_)
 rw [if_neg (show ¬((Value.ref t==Value.none)=true)from Bool.false_ne_true)]
 refine wpAny_bind (m:=field (.ref it) 1) (wpAny_field XE Vj (x:=.int i 0) rfl ?_)
 refine wpAny_bind (m:=seqItems? (.ref t)) (wpAny_seqItems gQ kG ?_)
 simp only [Int.toNat_natCast,hx]
 refine wpAny_bind (wpAny_setField XE Vj (by simp) (wpAny_pure ⟨x,rfl,wpAny_pure (hQ _ ⟨_,Heap.get?_update_self _ XE (Obj.isFreed_of_fields (Obj.data_mapFields Vj _)),(Obj.cls_mapFields ..).trans nQ,?_⟩ (Heap.SameBut.update ..))⟩))
 rw [Obj.data_mapFields Vj]
 simp [rawInt]
theorem Kg {it t:Addr} {i:Nat} {items:Array Value} {Q:Value->Shared->Prop} (hh:A.handled=none) (hit:s.heap.IsTupleIter it t i) (ht:s.heap.IsTuple t items) (hx:items[i]?=none)
  (hE:∀h' e,Heap.ExtBut it s.heap h'->(∃o,h'.get? e=some o/\o.cls=.type "StopIteration")->E (.ref e) { s with heap:=h' }):wpAny (model prog w) A (Builtin.SmallTypes.nextOf (.ref it)) Q E s:=by
 obtain ⟨oi,XE,nQ,Vj⟩:=id hit
 obtain ⟨ot,gQ,_,nt,kG⟩:=ht
 unfold Builtin.SmallTypes.nextOf
 refine wpAny_bind (wpAny_callSpecial?_slot (name:=Str.ofString "__next__") hit.typeIs F.slot_tuple_iterator_next (wpAny_call_entry F.slot_tuple_iterator_next hit.typeIs F.entry_tuple_iterator_next ?_ (F.args_tuple_iterator_next_1 _)))
 refine wpAny_bind (m:=field (.ref it) 0) (wpAny_field XE Vj (x:=.ref t) rfl ?_)
 rw [if_neg (show ¬((Value.ref t==Value.none)=true)from Bool.false_ne_true)]
 refine wpAny_bind (m:=field (.ref it) 1) (wpAny_field XE Vj (x:=.int i 0) rfl ?_)
 refine wpAny_bind (m:=seqItems? (.ref t)) (wpAny_seqItems gQ kG ?_)
 simp only [Int.toNat_natCast,hx]
 refine wpAny_bind (wpAny_rule (wpAny_bind (wpAny_setField XE Vj (by simp) ?_)))
 refine wpAny_bind (m:=newExc (.type "StopIteration") []) ?_
 simp only [newExc,newTuple]
 refine wpAny_bind (wpAny_newObj_type ?_ (by size_fits))
 refine wpAny_bind (m:=firstArgMember _ _) (wpAny_of_eq (a:=Value.none) (by first|rfl|(simp only [firstArgMember];rfl)) ?_)
 refine wpAny_newObj_type ?_ (by size_fits)
 simp only [raiseNew]
 refine wpAny_bind (wpAny_handled ?_)
 first|rw [show A.in1.handled=none from hh]|rw [hh]
 exact wpAny_bind (wpAny_pure (wpAny_throw (hE _ _ (((Heap.SameBut.update ..).extBut.push _).push _) ⟨_,Heap.get?_push_size _ rfl,rfl⟩)))
abbrev tiO (t:Addr):Obj:={ cls:=.type "tuple_iterator",data:=.fields #[.ref t,.int 0 0] }
end
def Ec (l:List Dat):List Dat:=(List.range l.length).map fun i=>.tup [.int (i:Nat),l.getD i .non]
theorem HK {l:List Dat} {i:Nat} {d:Dat} (h:(Ec l)[i]?=some d):∃e,l[i]?=some e/\d=.tup [.int (i:Nat),e]:=by
 unfold Ec at h
 rw [List.getElem?_map]at h
 obtain ⟨j,hj,rfl⟩:=Option.map_eq_some_iff.mp h
 have Bs:i<l.length:=by simpa using (List.getElem?_eq_some_iff.mp hj).1
 rw [List.getElem?_range Bs]at hj
 cases hj
 exact ⟨l[i],List.getElem?_eq_getElem Bs,by simp [Bs]⟩
theorem G0 (l:List Dat):(Ec l).length=l.length:=by simp [Ec]
theorem Qf {F:List Sq} (up:F.Pairwise AU):F.Pairwise fun x y=>TSq.le x y=true:=up.imp fun {x y} h=>by
 unfold TyD.le
 rw [show TSq.f=sq from rfl,XA]
 have:¬AU y x:=fun h'=>AS _ (A7 h h')
 simp [this]
theorem UC {F:List Sq} (up:F.Pairwise AU) {l:Lay} (C:Cov F l):TSq.sort (A4 l)=F:=
 TSq.uniq ((TSq.sort_perm _).trans C.pm) (TSq.sort_sorted _) (Qf up)
theorem Pt (l:Lay):(A4 l).length=2*l.length:=by
 induction l with
 |nil=>rfl
 |cons a l ih=>simp only [A4,List.flatMap_cons,List.length_append,List.length_cons,List.length_nil]at *;lia
theorem VM (l:List Sq):eqL (l.map sq) (l.map sq)=true:=by
 induction l with
 |nil=>rfl
 |cons a l ih=>
  show (eqD (sq a) (sq a)&&eqL (l.map sq) (l.map sq))=true
  rw [ih,Fo]
  simp
theorem PXT.cast {X:Cx} {ρ:Rho} {G:Gs} {e:Expr} {p q:Bool} (h:PXT X ρ G e p) (z:p=q):PXT X ρ G e q:=z▸h
end TF
namespace TF
open PySem
def Clr (h:Heap) (e:Addr):Prop:=∃oe vs,h.get? e=some oe/\oe.data=.fields vs/\vs[2]?=some .none
theorem Clr.push {h:Heap} {e:Addr} {o:Obj} (b:Clr h e):Clr (h.push o) e:=by
 obtain ⟨oe,vs,a,b,c⟩:=b
 exact ⟨oe,vs,Heap.get?_push_of_some _ a,b,c⟩
theorem Clr.set {h:Heap} {e b:Addr} {i:Nat} {v:Value} (g:Clr h e) (hi:i≠2\/e≠b):Clr (h.update b (Obj.mapFields (·.setIfInBounds i v))) e:=by
 obtain ⟨oe,vs,h1,h2,h3⟩:=g
 by_cases q:e=b
 ·subst q
  have hd:=Obj.data_mapFields h2 (·.setIfInBounds i v)
  exact ⟨_,_,Heap.get?_update_self _ h1 (Obj.isFreed_of_fields hd),hd,by rw [Array.getElem?_setIfInBounds_ne (hi.resolve_right fun z=>z rfl)];exact h3⟩
 ·exact ⟨oe,vs,(Heap.get?_update_other _ _ (Ne.symm q)).trans h1,h2,h3⟩
section
variable {M:Model}{A:Around}{E:Value->Shared->Prop}{s:Shared}{base:Heap}{env:Env}{outer l:List Env}{L e:Addr}{oe:Obj}{vs:Array Value}{head a0 cls:Value}{Q:Unit->Shared->Prop}
def Wrt (base:Heap) (l:List Env) (e:Addr) (cls a0 fl:Value) (h h':Heap):Prop:=Heap.NotedW base l e cls a0 fl h h'/\(Clr h e->Clr h' e)
theorem Ta {VB:Bool} (Fq:A.frames=some (env::outer)) (hl:s.heap.FunFrames base (env::outer)) (hf:env.frame=some L)
  (he:s.heap.get? e=some oe) (Lo:base.StaysIn s.heap) (R1:base.get? e=none) (hd:oe.data=.fields vs) (hsz:1<vs.size) (h0:vs[0]?=some a0)
  (h:∀h',Wrt base (env::outer) e oe.cls a0 (rawInt L) s.heap h'->Q () { s with heap:=h' }) :
  wpAny M A (do let a <-frameOf env;let pl <-entryPlaceOf L VB;let b <-EntryCells.newEntry head a .none (rawInt L) .none pl;setField (.ref e) 1 b) Q E s:=by
 have Zi:e∉(env::outer).filterMap (·.frame):=fun hm=>by
  obtain ⟨_,o,ho,J4⟩:=hl.mem hm
  rw [he]at ho
  cases ho
  exact J4 vs hd
 refine wpAny_bind (wpAny_frameOf_fun Fq hl hf fun h₁ hs₁=>wpAny_bind (wpAny_entryPlaceOf fun pl hpl=>?_))
 unfold EntryCells.newEntry newFields
 refine wpAny_bind (wpAny_newObj_type ?_ (hpl.sizeOk5 _ _ _ _ _))
 have he₁:h₁.get? e=some oe:=(hs₁.2.1 e Zi).trans he
 have kb₁:base.StaysIn h₁:=fun b o N1=>(hs₁.2.1 b fun hm=>by rw [(hl.mem hm).1]at N1;cases N1).trans (Lo b o N1)
 generalize htb:({ cls:=.type "traceback",dict:=none,data:=.fields ([head,.ref L,.none,rawInt L,.none]++(if pl.isEmpty then List.replicate 6 Value.none else pl)).toArray }:Obj)=tb
 have lL:∃ts,tb.data=.fields ts/\ts[3]?=some (rawInt L):=by
  subst htb
  exact ⟨_,rfl,by first|(simp;done)|(rcases hpl with rfl|⟨_,_,_,_,_,_,_,rfl⟩<;>simp)⟩
 have tO:tb.isFreed=false:=by subst htb;rfl
 have he₂:=Heap.get?_push_of_some (h:=h₁) tb he₁
 refine wpAny_setField he₂ hd hsz (h _ ?_)
 have Vx:h₁.objs.size≠e:=Nat.ne_of_gt (Heap.lt_size he₁)
 have hd₃:=Obj.data_mapFields hd (·.setIfInBounds 1 (Value.ref h₁.objs.size))
 have keep:∀b o,b≠e->h₁.get? b=some o->((h₁.push tb).update e (Obj.mapFields (·.setIfInBounds 1 (Value.ref h₁.objs.size)))).get? b=some o:=fun b o hb q=>
  (Heap.get?_update_other _ _ (Ne.symm hb)).trans (Heap.get?_push_of_some _ q)
 have Hh:∀b o,s.heap.get? b=some o->(∀vs,o.data≠.fields vs)->b≠e:=fun b o hb J4 q=>by
  rw [q,he]at hb
  cases hb
  exact J4 vs hd
 obtain ⟨ts,lL,h3⟩:=lL
 refine ⟨⟨fun b o N1=>keep b o (fun q=>by rw [q,R1]at N1;cases N1) (kb₁ b o N1),hl.of_keeps fun b o hb J4=>?_,?_,fun b o hb J4=>?_⟩,fun g=>Clr.set (Clr.push ?_) (.inl (by decide))⟩
 ·obtain ⟨sl,hs⟩:=hs₁.2.2 b o hb
  exact ⟨_,keep b _ (Hh b o hb J4) hs,rfl⟩
 ·exact ⟨_,_,h₁.objs.size,tb,ts,Heap.get?_update_self _ he₂ (Obj.isFreed_of_fields hd₃),⟨Obj.cls_mapFields _ _,by rw [Array.getElem?_setIfInBounds_ne (by decide)];exact h0⟩,hd₃,by simp [hsz],kb₁.fresh,Vx,(Heap.get?_update_other _ _ (Ne.symm Vx)).trans (Heap.get?_push_size h₁ tO),lL,h3⟩
 ·obtain ⟨sl,hs⟩:=hs₁.2.2 b o hb
  exact ⟨sl,keep b _ (Hh b o hb J4) hs⟩
 ·obtain ⟨o,Ld,q1,q2⟩:=g
  exact ⟨o,Ld,(hs₁.2.1 e Zi).trans q1,q2⟩
theorem Jb (Fq:A.frames=some (env::outer)) (hl:s.heap.FunFrames base (env::outer)) (hf:env.frame=some L)
  (he:s.heap.get? e=some oe) (Lo:base.StaysIn s.heap) (R1:base.get? e=none) (hd:oe.data=.fields vs) (h1:vs[1]?=some .none) (h0:vs[0]?=some a0)
  (h:∀h',Wrt base (env::outer) e oe.cls a0 (rawInt L) s.heap h'->Q () { s with heap:=h' }):wpAny M A (noteFrame (.ref e) env) Q E s:=by
 unfold noteFrame
 simp only [hf]
 refine wpAny_bind (wpAny_field he hd h1 ?_)
 rw [if_neg (by decide)]
 exact Ta Fq hl hf he Lo R1 hd (Array.getElem?_eq_some_iff.mp h1).1 h0 h
theorem V1 (Fq:A.frames=some (env::outer)) (hf:env.frame=some L) (fl:Heap.FlyingW base (env::outer) e cls a0 s.heap)
  (h:∀h',Heap.HeldW base (env::outer) e cls a0 L h'->s.heap.UpToSlots h'->(Clr s.heap e->Clr h' e)->Q () { s with heap:=h' }):wpAny M A (noteFrame (.ref e) env) Q E s:=by
 obtain ⟨Lo,R1,hl,oe,vs,T,oT,ts,he,⟨O7,h0⟩,hd,h1,dY,Vx,hT,Wd,h3⟩:=fl
 subst O7
 unfold noteFrame
 simp only [hf]
 refine wpAny_bind (wpAny_field he hd h1 ?_)
 rw [if_pos (show (Value.ref T != Value.none)=true from by simp)]
 refine wpAny_bind (wpAny_field hT Wd h3 ?_)
 rw [if_neg (show ¬((Value.none==rawInt L)=true)from by simp [rawInt])]
 refine wpAny_bind (wpAny_setField hT Wd (Array.getElem?_eq_some_iff.mp h3).1 ?_)
 have other:∀b,b≠T->(s.heap.update T (Obj.mapFields (·.setIfInBounds 3 Value.none))).get? b=s.heap.get? b:=fun b hb=>Heap.get?_update_other _ _ (Ne.symm hb)
 have Hh:∀b o,s.heap.get? b=some o->(∀vs,o.data≠.fields vs)->b≠T:=fun b o hb J4 q=>by
  rw [q,hT]at hb
  cases hb
  exact J4 ts Wd
 refine Ta Fq (hl.of_keeps fun b o hb J4=>⟨o,(other b (Hh b o hb J4)).trans hb,rfl⟩) hf ((other e (Ne.symm Vx)).trans he)
  (fun b o N1=>(other b fun q=>by rw [q,dY]at N1;cases N1).trans (Lo b o N1)) R1 hd (Array.getElem?_eq_some_iff.mp h1).1 h0
  fun h' ⟨⟨x1,x2,x3,x4⟩,x5⟩=>h h' ⟨x1,R1,x2,x3⟩ (fun b o hb J4=>x4 b o ((other b (Hh b o hb J4)).trans hb) J4) fun g=>x5 (Clr.set g (.inl (by decide)))
theorem K5 {fr:Option Addr} {fl:Value} (Lo:base.StaysIn s.heap) (hl:s.heap.FunFrames base l) (ht:s.heap.TracedAtW base e cls a0 fl)
  (h:∀h',base.StaysIn h'->h'.FunFrames base l->h'.TracedAtW base e cls a0 (fr.elim .none fun f=>rawInt f)->s.heap.UpToSlots h'->(Clr s.heap e->Clr h' e)->Q () { s with heap:=h' }):wpAny M A (setFlight (.ref e) fr) Q E s:=by
 obtain ⟨oe,vs,T,oT,ts,he,O7,hd,h1,dY,Vx,hT,Wd,h3⟩:=ht
 have Sb:3<ts.size:=(Array.getElem?_eq_some_iff.mp h3).1
 have other:∀b,b≠T->(s.heap.update T (Obj.mapFields (·.setIfInBounds 3 (fr.elim Value.none fun f=>rawInt f)))).get? b=s.heap.get? b:=fun b hb=>Heap.get?_update_other _ _ (Ne.symm hb)
 have Hh:∀b o,s.heap.get? b=some o->(∀vs,o.data≠.fields vs)->b≠T:=fun b o hb J4 q=>by
  rw [q,hT]at hb
  cases hb
  exact J4 ts Wd
 unfold setFlight
 refine wpAny_bind (wpAny_field he hd h1 ?_)
 rw [if_pos (show (Value.ref T != Value.none)=true from by simp)]
 refine wpAny_setField hT Wd Sb (h _ (fun b o N1=>(other b fun q=>by rw [q,dY]at N1;cases N1).trans (Lo b o N1))
  (hl.of_keeps fun b o hb J4=>⟨o,(other b (Hh b o hb J4)).trans hb,rfl⟩) ?_ (fun b o hb J4=>⟨o.slots,(other b (Hh b o hb J4)).trans hb⟩) fun g=>Clr.set g (.inl (by decide)))
 exact ⟨oe,vs,T,_,_,(other e (Ne.symm Vx)).trans he,O7,hd,h1,dY,Vx,Heap.get?_update_self _ hT (Obj.isFreed_of_fields (Obj.data_mapFields Wd _)),Obj.data_mapFields Wd _,by simp [Sb]⟩
end
end TF
namespace TF
open PySem PySem.Spec L2
open PyProof.Rows hiding St RelV
structure Fly (P:Program) (w:World) (outer:List Env) (H:Hp) (h:Heap) (H':Hp) (h':Heap) (ea:Addr) (cls:Value):Prop where
 ex:∃a0 B,Heap.FlyingW B outer ea cls a0 h'/\HOk P w H' B/\(∀b o,h.get? b=some o->H b=none->b∉frs outer->B.get? b=some o)/\∀b o,h.get? b=some o->b∉frs outer->∃o',B.get? b=some o'
 un:Un (frs outer) [] H H' h h'
 free:H' ea=none
theorem Fly.hok {P:Program} {w:World} {outer:List Env} {H H':Hp} {h h':Heap} {ea:Addr} {cls:Value} (f:Fly P w outer H h H' h' ea cls):HOk P w H' h':=by
 obtain ⟨a0,B,fl,hb,_⟩:=f.ex
 exact hb.kept fl.1
def CXV (P:Program) (w:World):CXT:=fun outer H s E e s'=>∃ea cls H',e=.ref ea/\s'.os=s.os/\AllBare s'.gens/\Fly P w outer H s.heap H' s'.heap ea cls/\E cls none H'
theorem QM {outer:List Env} {H H':Hp} {h h1 h2:Heap} (un:Un (frs outer) [] H H' h h1) {B:Heap} (c1:∀b o,h.get? b=some o->H b=none->b∉frs outer->B.get? b=some o) (c2:∀b o,h.get? b=some o->b∉frs outer->∃o',B.get? b=some o')
  {outer0:List Env} (ff:h1.FunFrames B outer0) (Ks:∀b∈frs outer,b∈frs outer0) (st:B.StaysIn h2) (up:h1.UpToSlots h2):Un (frs outer) [] H H' h h2:=by
 refine ⟨fun b o q n Lq _=>st b o (c1 b o q n Lq),fun b o q n Lq _=>?_,un.free,fun b o q _=>?_,un.tups,un.frzs,un.tbls⟩
 ·obtain ⟨sl,e⟩:=un.slot b o q n Lq (by simp)
  obtain ⟨_,o2,e2,hd⟩:=ff.mem (Ks b Lq)
  rw [e]at e2
  cases e2
  obtain ⟨KW,e3⟩:=up b _ e hd
  exact ⟨KW,e3⟩
 ·by_cases hf:b∈frs outer
  ·obtain ⟨_,o2,e2,hd⟩:=ff.mem (Ks b hf)
   obtain ⟨KW,e3⟩:=up b _ e2 hd
   exact ⟨_,e3⟩
  ·obtain ⟨o',e⟩:=c2 b o q hf
   exact ⟨o',st b o' e⟩
theorem Fly.step {P:Program} {w:World} {outer:List Env} {H H':Hp} {h h1 h2:Heap} {ea:Addr} {cls:Value} (un:Un (frs outer) [] H H' h h1) (free:H' ea=none) {a0:Value} {B:Heap} (hb:HOk P w H' B) (c1:∀b o,h.get? b=some o->H b=none->b∉frs outer->B.get? b=some o) (c2:∀b o,h.get? b=some o->b∉frs outer->∃o',B.get? b=some o')
  {outer0:List Env} (ff:h1.FunFrames B outer0) (Ks:∀b∈frs outer,b∈frs outer0) (fl:Heap.FlyingW B outer ea cls a0 h2) (up:h1.UpToSlots h2):Fly P w outer H h H' h2 ea cls:=
 ⟨⟨a0,B,fl,hb,c1,c2⟩,QM un c1 c2 ff Ks fl.1 up,free⟩
theorem Mv {P:Program} {w:World} {H:Hp} {h:Heap} {fs:List Addr} (ok:HOk P w H h) (free:∀c∈fs,H c=none):HOk P w H (PySem.W.hideAll h fs):=fun b u q=>by
 have nb:∀c v,H c=some v->c∉fs:=fun c v r hc=>by
  have:=free c hc
  rw [r]at this
  cases this
 refine (ok b u q).stay (fun c o hc r=>?_) (fun _ r=>r) fun _ _ r=>r
 rcases hc with rfl|hc
 ·exact PySem.W.hideAll_get _ r (nb _ _ q)
 ·exact PySem.W.hideAll_get _ r (nb _ _ hc)
theorem QA {P:Program} {w:World} {H:Hp} {h:Heap} {ea:Addr} (ok:HOk P w H h) (new:h.get? ea=none):H ea=none:=by
 cases q:H ea with
 |none=>rfl
 |some u=>
  have hl:=(ok ea u q)
  have:∃o,h.get? ea=some o:=by
   cases u with
   |lst xs=>obtain ⟨_,_,_,_,e⟩:=hl;exact ⟨_,e⟩
   |tup xs=>obtain ⟨_,_,_,o,e,_⟩:=hl;exact ⟨_,e⟩
   |dK Ae=>obtain ⟨_,_,_,_,o,_,_,e,_⟩:=hl;exact ⟨_,e⟩
   |dT Ae=>obtain ⟨_,_,_,_,o,_,_,e,_⟩:=hl;exact ⟨_,e⟩
   |set S n=>obtain ⟨o,_,_,_,e,_⟩:=hl;exact ⟨_,e⟩
   |ins C dx fs=>obtain ⟨_,_,_,e,_⟩:=hl;exact ⟨_,e⟩
   |own y=>obtain ⟨_,e⟩:=hl;exact ⟨_,e⟩
   |xd fs=>obtain ⟨_,⟨_,_,_,e,_⟩,_⟩:=hl;exact ⟨_,e⟩
   |rng lo hi=>obtain ⟨_,_,_,e⟩:=hl;exact ⟨_,e⟩
   |frz ob u=>obtain ⟨e,_⟩:=hl;exact ⟨_,e⟩
   |tbl ps=>exact ⟨_,(show h.get? ea=some _ from hl)⟩
   |met f y=>exact ⟨_,(show h.get? ea=some _ from hl)⟩
   |ext φ=>obtain ⟨_,⟨o,e⟩,_⟩:=hl;exact ⟨_,e⟩
  obtain ⟨o,e⟩:=this
  rw [new]at e
  cases e
section
variable {X:Cx}{pins:List (Addr×Obj)}{σ:St}{H:Hp}{s:Shared}
theorem JG {env:Env} {l:List Env} {L:Addr} (h:env.frame=some L):frs (env::l)=L::frs l:=by
 unfold frs
 rw [List.filterMap_cons,h]
theorem NO {E:Value->Shared->Prop} (I:Inv X pins σ H s) (hx:X.ex=[]) (ES:X.stack=X.env::X.outer) (Fq:X.env.frame=some X.env.locals) {h2:Heap} {ea:Addr} {cls:Value} {args:List Value} (hm:Heap.MadeExcOf s.heap h2 ea cls args) {tk:Nat} {Q:Unit->Shared->Prop}
  (hQ:∀h',Fly X.prog X.w X.outer X.H₀ X.s₀.heap H h' ea cls->Clr h' ea->Q () { s with heap:=h',toks:=tk }):wpAny (model X.prog X.w) X.A (leaving X.env (.ref ea)) Q E { s with heap:=h2,toks:=tk }:=by
 have stk:=I.stack
 have free:=I.stkFree
 have GA:=I.ok.frames
 rw [ES]at stk GA free
 have Rz:∀env∈(X.env::X.outer),∀a,env.frame=some a->a∈(X.env::X.outer).filterMap (·.frame):=fun env he b hb=>List.mem_filterMap.mpr ⟨env,he,hb⟩
 have bN:(X.env::X.outer).filterMap (·.frame)=X.env.locals::frs X.outer:=JG Fq
 have Ud:∀b o,X.s₀.heap.get? b=some o->b≠X.env.locals:=fun b o e=>Nat.ne_of_lt (Nat.lt_of_lt_of_le (Heap.lt_size e) I.ok.above)
 have Rc:∀b o,X.s₀.heap.get? b=some o->b∉frs X.outer->b∉(X.env::X.outer).filterMap (·.frame):=fun b o e hb U0=>by
  rw [bN]at U0
  rcases List.mem_cons.mp U0 with z|z
  ·exact Ud b o e z
  ·exact hb z
 have YW:=Mv I.hok free
 have Lo:(PySem.W.hideAll s.heap ((X.env::X.outer).filterMap (·.frame))).StaysIn s.heap:=fun b o q=>PySem.W.of_hideAll _ q
 have bb:=PySem.W.funFrames_hide stk Rz
 obtain ⟨t,he,vi,ht⟩:=hm.there
 have fresh:∀b,s.heap.get? b=none->(PySem.W.hideAll s.heap ((X.env::X.outer).filterMap (·.frame))).get? b=none:=fun b hb=>by
  cases hq:(PySem.W.hideAll s.heap ((X.env::X.outer).filterMap (·.frame))).get? b with
  |none=>rfl
  |some o'=>have:=Lo b o' hq;rw [hb]at this;cases this
 unfold leaving
 refine wpAny_bind (Jb (s:={ s with heap:=h2,toks:=tk }) (a0:=.ref t) GA (bb.of_keeps fun b o hb _=>⟨o,hm.keeps b o hb,rfl⟩) Fq he (fun b o hb=>hm.keeps b o (Lo b o hb)) (fresh ea hm.new) rfl rfl rfl fun h3 ⟨⟨k1,k2,k3,k4⟩,k5⟩=>?_)
 refine K5 (s:={ s with heap:=h3,toks:=tk }) k1 k2 k3 fun h' l1 l2 l3 l4 l5=>?_
 refine hQ h' ?_ (l5 (k5 ⟨_,_,he,rfl,rfl⟩))
 have rP:Un X.fs [] X.H₀ H X.s₀.heap h2:=by
  have:=I.base
  rw [hx]at this
  exact this.trans (Un.kept hm.keeps)
 have Ha:H ea=none:=QA I.hok hm.new
 refine Fly.step rP Ha YW (fun b o q n hb=>?_) (fun b o q hb=>?_) (outer0:=X.env::X.outer) ((PySem.W.funFrames_hide stk Rz).of_keeps fun b o hb _=>⟨o,hm.keeps b o hb,rfl⟩) (fun b hb=>by rw [JG Fq];exact List.mem_cons_of_mem _ hb) ⟨l1,fresh ea hm.new,l2.2.2,l3⟩ (Heap.UpToSlots.trans (fun b o q n=>k4 b o q n) l4)
 ·have e:=I.base.keep b o q n hb (by rw [hx];simp)
  exact PySem.W.hideAll_get _ e (Rc b o q hb)
 ·obtain ⟨o',e⟩:=I.base.there b o q (by rw [hx];simp)
  exact ⟨o',PySem.W.hideAll_get _ e (Rc b o q hb)⟩
end
def XPr (X:Cx) (pins:List (Addr×Obj)) (H:Hp) (G:Gs) (RX:Value->Gs->Prop) (e:Value) (s':Shared):Prop:=
 ∃ea cls args σ' H' G' s1 h2 tk,e=.ref ea/\s'={ s1 with heap:=h2,toks:=tk }/\Inv X pins σ' H' s1/\Heap.MadeExcOf s1.heap h2 ea cls args/\Ext H G H' G'/\GOk X.K H' G'/\RX cls G'
theorem XPr.trans {X:Cx} {pins:List (Addr×Obj)} {H H1:Hp} {G G1:Gs} {RX:Value->Gs->Prop} {e:Value} {s':Shared} (x:Ext H G H1 G1) (h:XPr X pins H1 G1 RX e s'):XPr X pins H G RX e s':=by
 obtain ⟨ea,cls,args,σ',H',G',s1,h2,tk,a,b,c,d,f,g,r⟩:=h
 exact ⟨ea,cls,args,σ',H',G',s1,h2,tk,a,b,c,d,x.trans f,g,r⟩
def FG (X:Cx) (ρ:Rho) (G:Gs) (st:List Stmt) (D:DE) (RX:Value->Gs->Prop):Prop:=
 ∀(pins:List (Addr×Obj)) (s:Shared) (σ:St) (H:Hp),Inv X pins σ H s->Stt X H σ ρ G->wpAny (model X.prog X.w) X.A (execs st X.env) (SP X pins (Em X H G D)) (XPr X pins H G RX) s
section
variable {X:Cx}{ρ:Rho}{G:Gs}{D:DE}{RX:Value->Gs->Prop}{st:Stmt}{rest:List Stmt}{c:Expr}{pos:Pos}
theorem PY {l:List Stmt} (h:WSs X ρ G l D) (hx:X.xe=fun _ _=>False):FG X ρ G l D RX:=fun pins s σ H I S=>by
 have:=h pins s σ H I S
 rw [hx]at this
 exact wpAny_mono this (fun _ _ z=>z) fun _ _ z=>z.elim
theorem Q5 (h:WSs X ρ G [st] { D with nx:=fun ρ' G'=>FG X ρ' G' rest D RX }) (hx:X.xe=fun _ _=>False):FG X ρ G (st::rest) D RX:=by
 intro pins s σ H I S Γ p hΓ
 have h1:=h pins s σ H I S Γ p hΓ
 rw [hx]at h1
 unfold execs at h1 ⊢
 rw [Sem.wp_bind']at h1 ⊢
 refine Sem.wp_mono _ Γ _ (fun f p' s1 q=>?_) (fun e p' s1 q=>q.elim) p s h1
 cases f with
 |next=>
  have q':SP X pins (Em X H G { D with nx:=fun ρ' G'=>FG X ρ' G' rest D RX }) .next s1:=by
   unfold execs at q
   exact q
  obtain ⟨σ',H',I',ρ',G',e',S',q⟩:=q'
  exact wpAny_mono (q pins s1 σ' H' I' S') (fun _ _ z=>SP.trans e' z) (fun _ _ z=>XPr.trans e' z) Γ p' hΓ
 |ret v=>exact q
 |brk=>exact q
 |cont=>exact q
theorem My {x:List Stmt} (hc:WT X ρ G c fun b G'=>(b=true->FG X ρ G' x { D with nx:=fun _ _=>False } RX)/\(b=false->FG X ρ G' rest D RX)) (hx:X.xe=fun _ _=>False):FG X ρ G (.If c x [] pos::rest) D RX:=by
 intro pins s σ H I S
 have TL:=hc pins s σ H I S
 rw [hx]at TL
 refine wpAny_execs_cons (wpAny_If (wpAny_mono TL (fun b s1 ⟨H1,I1,G1,e1,o1,q1⟩=>?_) fun _ _ z=>z.elim))
 cases b with
 |true=>
  rw [if_pos rfl]
  refine wpAny_mono (q1.1 rfl pins s1 σ H1 I1 (S.ext e1 o1)) (fun f s2 z=>?_) fun _ _ z=>XPr.trans e1 z
  cases f with
  |next=>obtain ⟨_,_,_,_,_,_,_,q⟩:=z;exact q.elim
  |ret v=>exact SP.trans (D:=D) e1 z
  |brk=>exact SP.trans (D:=D) e1 z
  |cont=>exact SP.trans (D:=D) e1 z
 |false=>
  rw [if_neg Bool.false_ne_true]
  exact wpAny_execs_nil (wpAny_mono (q1.2 rfl pins s1 σ H1 I1 (S.ext e1 o1)) (fun _ _ z=>SP.trans e1 z) fun _ _ z=>XPr.trans e1 z)
theorem CA {x:List Stmt} {b:Bool} (hc:PXT X ρ G c b) (ht:b=true->FG X ρ G x { D with nx:=fun _ _=>False } RX) (hf:b=false->FG X ρ G rest D RX) (hx:X.xe=fun _ _=>False):FG X ρ G (.If c x [] pos::rest) D RX:=
 My (Ig hc ⟨ht,hf⟩) hx
end
theorem DO {K:PySem.W.Frag} {h:Heap} {C:Addr} {Fs:List Value} {newId:String} (X:K.In h) (q:PySem.W.excIn K C Fs newId=true) :
  ∃bm N nm qn bs hdct sn sub ab col dd k0 k1 k2 k3 k5 mN,h.get? C=some (excClassObj nm qn C N bs bm hdct sn sub ab col dd k0 k1 k2 k3 k5 newId)/\h.Ns N mN/\mN "__init__"=none/\OwnTail h Fs bm/\K.lookup C=some (excClassObj nm qn C N bs bm hdct sn sub ab col dd k0 k1 k2 k3 k5 newId):=by
 unfold PySem.W.excIn at q
 split at q
 ·rename_i n8 bJ dF Qa
  split at q
  ·rename_i C0 pv a0 a1 a2 a3 ZP a5 bR nV
   simp only [Bool.and_eq_true,beq_iff_eq,Bool.not_eq_true']at q
   obtain ⟨⟨⟨⟨⟨rfl,rfl⟩,We⟩,tl⟩,Yu⟩,Sk⟩:=q
   obtain ⟨vQ,pJ,pX,tE,qt,qR,u4,eE,qu,gU,uf⟩:=bJ
   dsimp only at bR We Yu Sk
   subst bR We
   obtain ⟨rN⟩:=dF
   simp only at nV
   subst nV
   exact ⟨pv,tE,vQ,qt,pJ,qR,u4,eE,qu,gU,n8,a0,a1,a2,a3,a5,_,X _ _ Qa,.of_isNs (PySem.W.isNs_of_in X Yu),PySem.W.nsMap_none_of_in X Yu Sk,PySem.W.tail_of_in X tl,Qa⟩
  ·cases q
 ·cases q
section
variable {X:Cx}{ρ:Rho}{G:Gs}{D:DE}{RX:Value->Gs->Prop}{rest:List Stmt}{es:List Expr}{e₀:Expr}{ds:List Dat}{pos np Ay:Pos}{x:Str}{C:Addr}{Fs:List Value}{newId O9 Bn:String}
theorem BD (hx:X.xe=fun _ _=>False) (Ea:X.calm=true) (hC:PySem.W.excIn X.K C Fs newId=true) (FB:ExcBaseFacts Bn newId O9 Fs) (hm:X.mg x=some (.ref C)) (ha:PXs X ρ G (e₀::es) ds) (hl:ds.length≤1000) (r:RX (.ref C) G) (hg:Gl X x:=by rfl)
  (DQ:(x==("__debug__":Str))=false:=by decide) (he:starEach (e₀::es) X.env=(false,eval e₀ X.env)::starEach es X.env:=by rfl) (hpl:(backTo Ay (starEach es X.env)).any (·.1)=false:=by rfl):FG X ρ G (.Raise (some (.Call (.Name x np) (e₀::es) [] Ay)) none pos::rest) D RX:=by
 intro pins s σ H I S
 obtain ⟨bm,N,nm,qn,bs,hdct,sn,sub,ab,col,dd,k0,k1,k2,k3,k5,mN,oC,oN,oi,tl,_⟩:=DO I.mod.kin hC
 refine wpAny_execs_cons ?_
 refine wpAny_Raise_call_subT (C:=C) (nm:=nm) (q:=qn) (N:=N) (bs:=bs) (bm:=bm) (hdct:=hdct) (sn:=sn) (sub:=sub) (ab:=ab) (col:=col) (dd:=dd) (k0:=k0) (k1:=k1) (k2:=k2) (k3:=k3) (k5:=k5) FB (mN:=mN) (tl.hasType FB.hasBase) (I.ok.hd Ea)
  (by rw [he];show (false||(backTo Ay (starEach es X.env)).any (·.1))=false;rw [hpl];rfl) oi (DX I hg hm ⟨rfl,?_⟩ DQ)
 have h1:=ha Ay pins s σ H I S
 rw [hx]at h1
 rw [he]at h1 ⊢
 refine Calls.evalArgs_plain (wpAny_mono h1 (fun us s2 ⟨vs,H2,I2,rv,d',G2,e2,o2,rep,q1,q2⟩=>?_) fun _ _ z=>z.elim)
 subst q1
 subst q2
 refine ⟨rfl,?_,I2.bk _ _ oC,oN.keeps I2.bk,tl.keeps I2.bk,fun h' e U0=>?_⟩
 ·have:us.length≤1000:=by rw [<-rv.length,rep.length];exact hl
  exact Nat.le_trans this (by rw [sizeLine_eq];decide)
 ·exact ⟨e,.ref C,us,σ,H2,G2,s2,h',s2.toks,rfl,rfl,I2,U0,e2,o2,r⟩
end
abbrev SpX:=List Dat->Gs->(Dat->Gs->Prop)->(Value->Gs->Prop)->Prop
def C8 (K:PySem.W.Frag) (S:SpX):Sp:=fun vs H Q E=>∃ds G R RX,GOk K H G/\RepL K (hid H G) ds vs/\S ds G R RX/\(∀v H' d G',Ext H G H' G'->GOk K H' G'->Rep K (hid H' G') d v->R d G'->Q v H')/\∀cls H' G',Ext H G H' G'->GOk K H' G'->RX cls G'->E cls none H'
section
variable {P:Program}{w:World}{K:PySem.W.Frag}{mg:Str->Option Value}{base:Heap}
def CXC (P:Program) (w:World):CXT:=fun outer H s E e s'=>∃ea cls H',e=.ref ea/\s'.os=s.os/\AllBare s'.gens/\Fly P w outer H s.heap H' s'.heap ea cls/\Clr s'.heap ea/\E cls none H'
theorem Tr {k:Nat} {f:Addr} {fd:FuncData} {ps:List Str} {sp:Sp} (F:FnOk P w K mg base (CXC P w) k f fd ps sp):FnOk P w K mg base (CXV P w) k f fd ps sp:=
 ⟨F.len,fun A outer s H args us vs Q E hr he hb hv hs=>codeAny_mono (F.run A outer s H args us vs Q E hr he hb hv hs) fun r s' hq=>by
  cases r with
  |error er=>obtain ⟨ea,cls,H',a,b,c,d,_,e⟩:=hq;exact ⟨ea,cls,H',a,b,c,d,e⟩
  |ok fl=>cases fl<;>exact hq⟩
theorem R5 {x qual:Str} {st:Stmt} {f:Addr} {fd:FuncData} {N ps:List Str} {k:Nat} {S:SpX} (F:Fun K x qual st f fd) (Sc:FnScope N ps (AB st)) (hlen:∀ds G R RX,S ds G R RX->ds.length=ps.length)
  (hb:∀(A8:Value) (A:Around) (outer:List Env) (s:Shared) (H:Hp) (E:XK) (ds:List Dat) (G:Gs) (R:Dat->Gs->Prop) (RX:Value->Gs->Prop),Room k (A.deeper (envOfC qual (AB st) s.heap.objs.size f A8))->S ds G R RX →
   FG (Ct CX0 P w K mg base N qual (AB st) f A8 A outer s H E).nox (EJ N ds) G (AG st) { nx:=fun _ G'=>R .non G',rt:=R } RX):FnOk P w K mg base (CXC P w) (k+1) f fd ps (C8 K S):=by
 obtain ⟨oc,od,kV,doc,pm,an,A8,ct,SU,rfl,lk,MO⟩:=F.ex
 refine Pe lk MO Sc (fun vs H Q E h=>?_) (fun A outer s H vs Q E hr h=>?_)
 ·obtain ⟨ds,G,R,RX,_,r,hS,_⟩:=h
  rw [r.length];exact hlen ds G R RX hS
 ·obtain ⟨ds,G,R,RX,o,r,hS,k1,k2⟩:=h
  refine ⟨fun D σ H1=>D={ nx:=fun _ H'=>Q .non H',rt:=Q }/\σ=start N vs/\H1=H,?_,rfl,rfl,rfl⟩
  intro pins s1 σ H1 D I hq
  obtain ⟨rfl,rfl,rfl⟩:=hq
  have hw:=hb A8 A outer s H1 E ds G R RX hr hS pins s1 (start N vs) H1 (I.wish fun _ _=>False) (E6 o r)
  refine wpAny_mono hw (fun fl s2 z=>?_) fun e s2 z=>?_
  ·refine SP.le (SP.unwish (X:=Ct (CXC P w) P w K mg base N qual (AB st) f A8 A outer s H1 E) (E:=fun _ _=>False) z) (fun σ' H'=>?_) (fun v H'=>?_) (fun σ' H'=>?_) fun σ' H'=>?_
   ·rintro ⟨ρ',G',e',S',q⟩
    exact k1 .non H' .non G' e' S'.own rfl q
   ·rintro ⟨d,G',e',o',r',q⟩
    exact k1 v H' d G' e' o' r' q
   ·rintro ⟨_,_,_,_,q⟩;exact q
   ·rintro ⟨_,_,_,_,q⟩;exact q
  ·obtain ⟨ea,cls,args,σ',H',G',s3,h2,tk,rfl,rfl,I3,hm,ex,go,rx⟩:=z
   have J:Inv (Ct (CXC P w) P w K mg base N qual (AB st) f A8 A outer s H1 E) pins σ' H' s3:=Inv.unwish (E:=fun _ _=>False) I3
   refine NO (X:=Ct (CXC P w) P w K mg base N qual (AB st) f A8 A outer s H1 E) J rfl rfl rfl hm fun h' IW bg=>?_
   exact ⟨ea,cls,H',rfl,J.os,J.bare,IW,bg,k2 cls H' G' ex go rx⟩
theorem PL {x qual:Str} {st:Stmt} {f:Addr} {fd:FuncData} {N ps:List Str} {k:Nat} {S:SpX} (F:Fun K x qual st f fd) (Sc:FnScope N ps (AB st)) (hlen:∀ds G R RX,S ds G R RX->ds.length=ps.length)
  (hb:∀(A8:Value) (A:Around) (outer:List Env) (s:Shared) (H:Hp) (E:XK) (ds:List Dat) (G:Gs) (R:Dat->Gs->Prop) (RX:Value->Gs->Prop),Room k (A.deeper (envOfC qual (AB st) s.heap.objs.size f A8))->S ds G R RX →
   FG (Ct CX0 P w K mg base N qual (AB st) f A8 A outer s H E).nox (EJ N ds) G (AG st) { nx:=fun _ G'=>R .non G',rt:=R } RX):FnOk P w K mg base (CXV P w) (k+1) f fd ps (C8 K S):=Tr (R5 F Sc hlen hb)
end
structure DfX (P:Program) (w:World) (K:PySem.W.Frag) (mg:Str->Option Value) (base:Heap) (x:Str) (ps:List Str) (k:Nat) (S:SpX):Prop where
 ex:∃f fd,FnOk P w K mg base (CXV P w) k f fd ps (C8 K S)/\mg x=some (.ref f)/\PySem.W.keepIn K (.ref f)=true/\Binds K fd ps []
structure DfC (P:Program) (w:World) (K:PySem.W.Frag) (mg:Str->Option Value) (base:Heap) (x:Str) (ps:List Str) (k:Nat) (S:SpX):Prop where
 ex:∃f fd,FnOk P w K mg base (CXC P w) k f fd ps (C8 K S)/\mg x=some (.ref f)/\PySem.W.keepIn K (.ref f)=true/\Binds K fd ps []
theorem DfC.toV {P:Program} {w:World} {K:PySem.W.Frag} {mg:Str->Option Value} {base:Heap} {x:Str} {ps:List Str} {k:Nat} {S:SpX} (F:DfC P w K mg base x ps k S):DfX P w K mg base x ps k S:=by
 obtain ⟨f,fd,a,b⟩:=F.ex
 exact ⟨f,fd,Tr a,b⟩
section
variable {M:Model}{A:Around}{E:Value->Shared->Prop}
theorem Ml {h:Heap} {g:Array GenState} {d:Drawn} {t:Nat} {os:OsState} {e C Dc:Addr} {oe:Obj} {Q:Bool->Shared->Prop}
  {nm q:Str} {N:Addr} {bs bm:List Value} {hdct:Bool} {sn:List Str} {sub:List Value} {ab:Bool} {col:Option Bool} {dd:Option Addr} {k0 k1 k2 k3 k5:Option Value} {newId:String}
  {nm' q':Str} {N':Addr} {bs' bm':List Value} {hdct':Bool} {sn':List Str} {sub':List Value} {ab':Bool} {col':Option Bool} {dd':Option Addr} {k0' k1' k2' k3' k5':Option Value} {newId':String}
  (hC:h.get? C=some (excClassObj nm q C N bs bm hdct sn sub ab col dd k0 k1 k2 k3 k5 newId)) (hD:h.get? Dc=some (excClassObj nm' q' Dc N' bs' bm' hdct' sn' sub' ab' col' dd' k0' k1' k2' k3' k5' newId'))
  (he:h.get? e=some oe) (O7:oe.cls=.ref C) (Cm:bm'.contains (.type "BaseException")=true) (hq:Q ((Value.ref C::bm).contains (.ref Dc)) ⟨h,g,d,t,os⟩):wpAny M A (excMatches (.ref e) (.ref Dc)) Q E ⟨h,g,d,t,os⟩:=by
 have Wl:(Value.ref Dc::bm').contains (.type "BaseException")=true:=by rw [List.contains_cons,Cm,Bool.or_true]
 have f:=tc_notTuple
 unfold excMatches
 repeat (first|(with_reducible refine wpAny_loadPart_at hD ?_)|(with_reducible refine wpAny_isSubtype_exc hD ?_;rw [Wl])|wp_step)
 rw [O7]
 refine wpAny_isSubtype_exc hC ?_
 cases hb:(Value.ref C::bm).contains (.ref Dc)<;>(rw [hb]at hq;wp_walk;exact hq)
end
def FXP (X:Cx) (pins:List (Addr×Obj)) (σ:St) (H:Hp) (G:Gs) (RX:Value->Gs->Prop) (e:Value) (s':Shared):Prop:=
 ∃ea cls s1 H1 H' G',e=.ref ea/\Inv X pins σ H1 s1/\s'.os=s1.os/\AllBare s'.gens/\Fly X.prog X.w X.stack H1 s1.heap H' s'.heap ea cls/\Ext H G H' G'/\GOk X.K H' G'/\RX cls G'
def WEX (X:Cx) (ρ:Rho) (G:Gs) (e:Expr) (Q:Dat->Gs->Prop) (RX:Value->Gs->Prop):Prop:=
 ∀(pins:List (Addr×Obj)) (s:Shared) (σ:St) (H:Hp),Inv X pins σ H s->Stt X H σ ρ G->wpAny (model X.prog X.w) X.A (eval e X.env) (EP X pins σ (Po X H G Q)) (FXP X pins σ H G RX) s
def Oc (X:Cx) (ρ:Rho) (G:Gs) (st:List Stmt) (D:DE) (RX:Value->Gs->Prop):Prop:=
 ∀(pins:List (Addr×Obj)) (s:Shared) (σ:St) (H:Hp),Inv X pins σ H s->Stt X H σ ρ G->wpAny (model X.prog X.w) X.A (execs st X.env) (SP X pins (Em X H G D)) (FXP X pins σ H G RX) s
section
variable {X:Cx}{ρ:Rho}{G:Gs}{e:Expr}{es:List Expr}{ds:List Dat}{pos p:Pos}{S:SpX}{k:Nat}{ps:List Str}{x:Str}{Q:Dat->Gs->Prop}{RX:Value->Gs->Prop}{D:DE}{rest:List Stmt}
theorem JY (hx:X.xe=fun _ _=>False) (F:DfX X.prog X.w X.K X.mg X.base x ps k S) (hr:Room k X.A) (ha:PXs X ρ G (e::es) ds) (hS:S ds G Q RX) (hg:Gl X x:=by rfl)
  (DQ:(x==("__debug__":Str))=false:=by decide) (he:starEach (e::es) X.env=(false,eval e X.env)::starEach es X.env:=by rfl) (hpl:(backTo pos (starEach es X.env)).any (·.1)=false:=by rfl):WEX X ρ G (.Call (.Name x p) (e::es) [] pos) Q RX:=by
 obtain ⟨f,fd,F,hm,hk,hb⟩:=F.ex
 intro pins s σ H I S0
 refine wpAny_Call_Name_kw (DX I hg hm ?_ DQ)
 have h1:=ha pos pins s σ H I S0
 rw [hx]at h1
 refine PySem.W.callWith_K (h₀:=X.base) I.ok.mod.kin hk (wpAny_mono h1 (fun us s1 ⟨vs,H1,I1,rv,d',G1,e1,o1,rep,q1,q2⟩=>⟨I1.kIn,?_⟩) fun _ _ z=>z.elim) he hpl
 subst q1
 subst q2
 have P1:C8 X.K S vs H1 (Po X H G1 Q) (fun cls dx H'=>∃G',Ext H1 G1 H' G'/\GOk X.K H' G'/\RX cls G'):=⟨d',G1,Q,RX,o1,rep,hS,fun v H' d G' e' o' r' q'=>⟨d,G',e1.trans e',o',r',q'⟩,fun cls H' G' e' o' q'=>⟨G',e',o',q'⟩⟩
 have hl:us.length=ps.length:=by rw [<-rv.length];exact F.len _ _ _ _ P1
 refine wpAny_call (codeAny_mono (F.run X.A X.stack s1 H1 ⟨us,[]⟩ us vs _ _ hr I1.env0 (by have:=hb s1 us I1.kIn (by rw [List.append_nil];exact hl);rw [List.append_nil]at this;exact this) rv P1) fun r s' hq=>?_)
 cases r with
 |error er=>
  obtain ⟨ea,cls,H',rfl,h3,h4,IW,G',e',o',q'⟩:=hq
  exact ⟨ea,cls,s1,H1,H',G',rfl,I1,h3,h4,IW,e1.trans e',o',q'⟩
 |ok fl=>
  cases fl with
  |ret u=>exact I1.after hq
  |next=>exact False.elim hq
  |brk=>exact False.elim hq
  |cont=>exact False.elim hq
theorem EB (h:WEX X ρ G e D.rt RX):Oc X ρ G [.Return (some e) pos] D RX:=fun pins s σ H I S=>
 wpAny_execs_cons (wpAny_Return_some (thn (h pins s σ H I S) fun v s1 ⟨x,H1,I1,r1,q1⟩=>⟨x,σ,H1,I1,r1,q1⟩))
abbrev Cx.mk' (X:Cx) (ea:Addr):Cx:={ X with A:=X.A.mark (some (.ref ea)),calm:=false }
end
section
variable {X:Cx}{pins:List (Addr×Obj)}{σ:St}{H:Hp}{s:Shared}{ea:Addr}
theorem Ey (I:Inv X pins σ H s) (ea:Addr):Inv (Cx.mk' X ea) pins σ H s:=
 ⟨⟨I.ok.mod,I.ok.kind,I.ok.glob,I.ok.blt,I.ok.above,I.ok.inj,I.ok.has,I.ok.cab,fun h=>absurd h Bool.false_ne_true,I.ok.frames,I.ok.stk,I.ok.exf,I.ok.bs,I.ok.bsz,I.ok.noex,I.ok.exfs,I.ok.funs,I.ok.frf⟩,I.os,I.bare,I.base,I.loc,I.cell,I.free,I.freeC,I.pin,I.hok,I.len⟩
end
theorem Ls {K:PySem.W.Frag} {C Dc N:Addr} {nm q:Str} {bs bm:List Value} {hdct:Bool} {sn:List Str} {sub:List Value} {ab:Bool} {col:Option Bool} {dd:Option Addr} {k0 k1 k2 k3 k5:Option Value} {newId:String}
  (h:K.lookup C=some (excClassObj nm q C N bs bm hdct sn sub ab col dd k0 k1 k2 k3 k5 newId)) (u:BG K C Dc=true):(Value.ref C::bm).contains (.ref Dc)=true:=by
 unfold BG at u
 rw [h]at u
 exact u
section
variable {X:Cx}{ρ:Rho}{G:Gs}{RX:Value->Gs->Prop}{D:DE}{rest body HY:List Stmt}{b₀:Stmt}{pos np Jv:Pos}{cx:Str}
theorem Yn {pins:List (Addr×Obj)} {σ:St} {H1 H':Hp} {s1 s':Shared} {ea C Dc:Addr} {Fs Iz:List Value} {newId newId' ED XM:String} {name:Option Str} {Q:Flow->Shared->Prop} {E:Value->Shared->Prop}
  (ES:X.stack=X.env::X.outer) (Fq:X.env.frame=some X.env.locals) (I1:Inv X pins σ H1 s1) (Jo:s'.os=s1.os) (Dz:AllBare s'.gens) (IW:Fly X.prog X.w X.stack H1 s1.heap H' s'.heap ea (.ref C))
  (hC:PySem.W.excIn X.K C Fs newId=true) (hD:PySem.W.excIn X.K Dc Iz newId'=true) (FD:ExcBaseFacts XM newId' ED Iz) (hu:BG X.K C Dc=true) (hm:X.mg cx=some (.ref Dc)) (hg:Gl X cx) (DQ:(cx==("__debug__":Str))=false)
  (k:∀h5,Inv (Cx.mk' X ea) pins σ H' { s' with heap:=h5 }->(∀(A':Around) (E':Value->Shared->Prop) (Q':Unit->Shared->Prop),(∀h6,Inv (Cx.mk' X ea) pins σ H' { s' with heap:=h6 }->(∃oe vs,h6.get? ea=some oe/\oe.cls=.ref C/\oe.data=.fields vs)->H' ea=none->Q' () { s' with heap:=h6 })->wpAny (model X.prog X.w) A' (setFlight (.ref ea) none) Q' E' { s' with heap:=h5 }) →
   codeAny (model X.prog X.w) (X.A.mark (some (.ref ea))) (.handlers (.ref ea) [.ExceptHandler none name (b₀::HY) Jv] X.env) (fun r s₂=>match r with
     |.ok f=>(match name with
      |none=>Q f s₂
      |some n=>wpAny (model X.prog X.w) X.A (do bindName X.env n .none;unbindBehindTheSuite X.env n Jv) (fun _ s₃=>Q f s₃) E s₂)
     |.error y=>cameBackBy (model X.prog X.w) X.A X.env E y s₂) { s' with heap:=h5 }) :
  wpAny (model X.prog X.w) X.A (noteFrame (.ref ea) X.env) (fun _ s₂=>wpAny (model X.prog X.w) X.A (setFlight (.ref ea) none) (fun _ s₃=>wpAny (model X.prog X.w) X.A (handleBy (.ref ea) X.env [.ExceptHandler (some (.Name cx np)) name (b₀::HY) Jv]) Q E s₃) E s₂) E s':=by
 obtain ⟨a0,B,fl,hB,c1,c2⟩:=IW.ex
 have GA:=I1.ok.frames
 rw [ES]at fl GA
 refine wpAny_looks_onW GA Fq fl fun h4 held lM=>wpAny_landsW held fun h5 W5 ko=>?_
 have Lg:Fly X.prog X.w X.stack H1 s1.heap H' h5 ea (.ref C):=by
  refine Fly.step IW.un IW.free hB c1 c2 (outer0:=X.stack) (by rw [ES];exact fl.2.2.1) (fun _ z=>z) (by rw [ES];exact W5) (lM.trans ko)
 have I5:Inv X pins σ H' { s' with heap:=h5 }:=I1.call' (s':={ s' with heap:=h5 }) Jo Lg.un Lg.hok Dz (by simp)
 obtain ⟨bm,N,nm,qn,bs,hdct,sn,sub,ab,col,dd,k0,k1,k2,k3,k5,mN,oC,oN,oi,tl,lC⟩:=DO I1.mod.kin hC
 obtain ⟨bm',N',nm',gC,bs',hdct',sn',sub',ab',col',dd',k0',k1',k2',k3',k5',m6,oD,_,_,dM,lD⟩:=DO I1.mod.kin hD
 obtain ⟨oe,SR,ZE⟩:=W5.there
 refine wpAny_handleBy_cons (codeAny_handlers_test (DX (X:=Cx.mk' X ea) (Ey I5 ea) hg hm ?_ DQ)) (by intro z;cases z)
 have hq:=Ls lC hu
 refine Ml (I5.bk _ _ oC) (I5.bk _ _ oD) SR ZE (dM.hasType FD.hasBase) ?_
 rw [hq]
 refine k h5 (Ey I5 ea) fun A' E' Q' hQ=>lands_againW (s:={ s' with heap:=h5 }) W5 fun h6 cw gj=>?_
 have Ot:Fly X.prog X.w X.stack H1 s1.heap H' h6 ea (.ref C):=Fly.step Lg.un Lg.free hB c1 c2 (outer0:=X.stack) (by rw [ES];exact W5.2.2.1) (fun _ z=>z) (by rw [ES];exact cw) gj
 have I6:Inv X pins σ H' { s' with heap:=h6 }:=I1.call' (s':={ s' with heap:=h6 }) Jo Ot.un Ot.hok Dz (by simp)
 obtain ⟨vW,sd,z1,z2,z3,_⟩:=cw.first
 exact hQ h6 (Ey I6 ea) ⟨vW,sd,z1,z2,z3⟩ Ot.free
end
abbrev Cx.sx (X:Cx) (ea:Addr) (oe:Obj):Cx:={ X with A:=X.A.mark (some (.ref ea)),calm:=false,pn:=(ea,oe)::X.pn,xe:=fun _ _=>False }
section
variable {X:Cx}{pins:List (Addr×Obj)}{σ:St}{H:Hp}{s:Shared}{ea:Addr}{oe:Obj}{vs:Array Value}
theorem SX (I:Inv (Cx.mk' X ea) pins σ H s) (he:s.heap.get? ea=some oe) (hd:oe.data=.fields vs) (hf:H ea=none):Inv (Cx.sx X ea oe) pins σ H s:=by
 refine ⟨⟨I.ok.mod,I.ok.kind,I.ok.glob,I.ok.blt,I.ok.above,I.ok.inj,I.ok.has,I.ok.cab,fun h=>absurd h Bool.false_ne_true,I.ok.frames,I.ok.stk,I.ok.exf,I.ok.bs,I.ok.bsz,I.ok.noex,I.ok.exfs,I.ok.funs,I.ok.frf⟩,I.os,I.bare,I.base,I.loc,I.cell,I.free,I.freeC,fun p hp=>?_,I.hok,I.len⟩
 rcases List.mem_cons.mp hp with rfl|hp
 ·refine ⟨he,hf,fun z=>?_,fun z=>?_,fun v z=>?_⟩
  ·obtain ⟨m,⟨o,es,ep,ho,Wz,_⟩,_⟩:=I.loc
   have z':ea=X.env.locals:=z
   rw [z',show s.heap.get? X.env.locals=some o from ho]at he
   cases he
   rw [Wz]at hd
   cases hd
  ·obtain ⟨_,o,ho,hn⟩:=I.funs.mem z
   rw [show s.heap.get? ea=some o from ho]at he
   cases he
   exact hn _ hd
  ·rw [hd]at z;cases z
 ·exact I.pin p hp
end
section
variable {prog:Program}{w:World}{A:Around}{E:Value->Shared->Prop}{s:Shared}
theorem SO {e C:Addr}:Meets (Builtin.«isinstance» ⟨[.ref e,.ref C],[]⟩) (fun _ R s=>(∃oe,s.heap.get? e=some oe/\oe.cls=.ref C)/\R (.ok (.ret (.bool true))) s):=fun prog w A R s hs=>by
 obtain ⟨⟨oe,he,hc⟩,hR⟩:=hs
 refine isinstance_outer ?_ (by intro z;cases z)
 obtain ⟨hp,g,d,t,os⟩:=s
 repeat (any_goals (first|assumption|(with_reducible refine wpAny_loadPart_at he ?_;rw [hc])|wp_step))
end
section
variable {X:Cx}{ρ:Rho}{G:Gs}{ea:Addr}{oe:Obj}{a:Expr}{pos pp p2:Pos}{i:Nat}
theorem Rw {C:Addr} (hc:oe.cls=.ref C) (hm:(ea,oe)∈X.pn):CP X (.builtin "isinstance") (fun xs H Q=>xs=[.ref ea,.ref C]/\Q (.bl true) H):=by
 intro pins s σ H xs us Q I r h
 obtain ⟨rfl,q⟩:=h
 obtain ⟨u,w',rfl,ru,U5⟩:=Ke r
 cases ru
 cases U5
 have z:=I.pin (ea,oe) (List.mem_append_left _ hm)
 exact call_isinstance SO ⟨⟨oe,z.1,hc⟩,⟨.bl true,H,I,rfl,q⟩⟩
theorem Um {C:Addr} {cn:Str} (hc:oe.cls=.ref C) (hm:(ea,oe)∈X.pn) (dk:X.mg "isinstance"=none) (hC:X.mg cn=some (.ref C)) (ha:PX X ρ G a (.fn ea)) (hg:Gl X "isinstance":=by rfl) (ZO:Gl X cn:=by rfl)
  (DQ:(cn==("__debug__":Str))=false:=by decide) (he:starEach [a,.Name cn p2] X.env=(false,eval a X.env)::starEach [.Name cn p2] X.env:=by rfl):PX X ρ G (.Call (.Name "isinstance" pp) [a,.Name cn p2] [] pos) (.bl true):=
 Bw (Dq (Rw hc hm) hg dk (by decide +kernel) (BH Ax (BH (IL (v:=.ref C) ZO hC rfl DQ) Cr) he) (by decide) (by decide) he rfl) fun σ H S=>⟨ρ,G,_,ha,S,fun x H1 ⟨_,_,e1,o1,r1,q1,B1⟩=>by
  subst q1;subst B1
  rw [Rep]at r1
  subst r1
  exact ⟨rfl,Po.trans e1 (Bl o1 rfl)⟩⟩
end
section
variable {X:Cx}{ρ:Rho}{G:Gs}{e:Expr}{n:Int}{a b:Str}{k1 k2:Nat}{p1 p2 p3 pos:Pos}
theorem SS {pins:List (Addr×Obj)} {s:Shared} {σ:St} {H:Hp} {Q:Value->Shared->Prop} (hx:PX X ρ G e (.int n)) (hn:n.natAbs.log2<1920) (I:Inv X pins σ H s) (S:Stt X H σ ρ G) (h:∀s1 H1 t,Inv X pins σ H1 s1->Ext H G H1 G->GOk X.K H1 G->Q (.str (toString n) t) s1) :
  wpAny (model X.prog X.w) X.A (eval (.FormattedValue e (-1) none p2) X.env) Q X.xe s:=by
 refine wpAny_FormattedValue_plain (thn (hx pins s σ H I S) fun u s1 ⟨x,H1,I1,r1,d,G1,e1,o1,rx,q1,q2⟩=>?_)
 subst q1;subst q2
 rw [Rep]at rx
 subst rx
 obtain ⟨t,rfl⟩:=r1
 exact wpAny_formatField_int hn (h _ H1 _ (I1.tok _) e1 o1)
theorem Ov {c:Str} {pins:List (Addr×Obj)} {s:Shared} {σ:St} {H:Hp} {Q:Value->Shared->Prop} (I:Inv X pins σ H s) (S:Stt X H σ ρ G) (h:∀s1 H1 t,Inv X pins σ H1 s1->Ext H G H1 G->GOk X.K H1 G->Q (.str c t) s1) :
  wpAny (model X.prog X.w) X.A (eval (.Constant (.str c) k1 p1) X.env) Q X.xe s:=
 thn (CN (X:=X) (ρ:=ρ) (G:=G) pins s σ H I S) fun u s1 ⟨x,H1,I1,r1,d,G1,e1,o1,rx,q1,q2⟩=>by
  subst q1;subst q2
  rw [Rep]at rx
  subst rx
  obtain ⟨t,rfl⟩:=r1
  exact h s1 H1 t I1 e1 o1
theorem UD (hx:PX X ρ G e (.int n)) (hn:n.natAbs.log2<1920) (h1:(Str.empty++a).length≤sizeLine) (h2:(Str.empty++a++Str.ofString (toString n)).length≤sizeLine) (h3:(Str.empty++a++Str.ofString (toString n)++b).length≤sizeLine)
  (he:evalEach [.Constant (.str a) k1 p1,.FormattedValue e (-1) none p2,.Constant (.str b) k2 p3] X.env=[eval (.Constant (.str a) k1 p1) X.env,eval (.FormattedValue e (-1) none p2) X.env,eval (.Constant (.str b) k2 p3) X.env]:=by rfl) :
  PX X ρ G (.JoinedStr [.Constant (.str a) k1 p1,.FormattedValue e (-1) none p2,.Constant (.str b) k2 p3] pos) (.str (Str.empty++a++Str.ofString (toString n)++b)):=by
 intro pins s σ H I S
 refine wpAny_JoinedStr ?_
 rw [he]
 refine Ov I S fun s1 H1 t1 I1 e1 o1=>⟨a,t1,rfl,h1,?_⟩
 refine SS hx hn I1 (S.ext e1 o1) fun s2 H2 t2 I2 e2 o2=>⟨_,t2,rfl,h2,?_⟩
 refine Ov I2 ((S.ext e1 o1).ext e2 o2) fun s3 H3 t3 I3 e3 o3=>⟨b,t3,rfl,h3,h3,?_⟩
 exact ⟨.str _,H3,I3.tok _,⟨_,rfl⟩,_,G,e1.trans (e2.trans e3),o3,by rw [Rep],rfl,rfl⟩
theorem XZ (hx:PX X ρ G e (.int n)) (hn:n.natAbs.log2<1920) (h1:(Str.empty++a).length≤sizeLine) (h2:(Str.empty++a++Str.ofString (toString n)).length≤sizeLine)
  (he:evalEach [.Constant (.str a) k1 p1,.FormattedValue e (-1) none p2] X.env=[eval (.Constant (.str a) k1 p1) X.env,eval (.FormattedValue e (-1) none p2) X.env]:=by rfl) :
  PX X ρ G (.JoinedStr [.Constant (.str a) k1 p1,.FormattedValue e (-1) none p2] pos) (.str (Str.empty++a++Str.ofString (toString n))):=by
 intro pins s σ H I S
 refine wpAny_JoinedStr ?_
 rw [he]
 refine Ov I S fun s1 H1 t1 I1 e1 o1=>⟨a,t1,rfl,h1,?_⟩
 refine SS hx hn I1 (S.ext e1 o1) fun s2 H2 t2 I2 e2 o2=>⟨_,t2,rfl,h2,h2,?_⟩
 exact ⟨.str _,H2,I2.tok _,⟨_,rfl⟩,_,G,e1.trans e2,o2,by rw [Rep],rfl,rfl⟩
end
def Hq (Ae:List (Dat×Dat)) (k:Nat) (t:List Sq):Prop:=(Aw Ae (CH k t)).isSome=true
def Closed (floor:List Sq) (Ae:List (Dat×Dat)):Prop:=∀(k:Nat) (q:Sq) (t:List Sq),Hq Ae k t->floor[k]?=some q->∀p∈A1 floor q t,k+1<floor.length->Hq Ae (k+1) p.2
theorem HD {Ae:List (Dat×Dat)} {k:Dat}:(Aw Ae k).isSome=true↔∃p∈Ae,p.1=k:=by
 unfold Aw
 rw [Option.isSome_map]
 constructor
 ·intro h
  obtain ⟨p,hp⟩:=Option.isSome_iff_exists.mp h
  have h2:=List.find?_some hp
  exact ⟨p,List.mem_of_find?_eq_some hp,of_decide_eq_true h2⟩
 ·rintro ⟨p,hp,e⟩
  rw [List.find?_isSome]
  exact ⟨p,hp,decide_eq_true e⟩
theorem LL {Ae:List (Dat×Dat)} {k v k':Dat}:(Aw (FE Ae k v) k').isSome=true↔(Aw Ae k').isSome=true\/k'=k:=by
 rw [HD,HD]
 unfold FE
 split
 ·rename_i h
  obtain ⟨p0,pS,e0⟩:=HD.mp h
  constructor
  ·rintro ⟨p,hp,rfl⟩
   obtain ⟨x,hx,rfl⟩:=List.mem_map.mp hp
   left
   refine ⟨x,hx,?_⟩
   split<;>rfl
  ·rintro (⟨p,hp,rfl⟩|rfl)
   ·refine ⟨_,List.mem_map.mpr ⟨p,hp,rfl⟩,?_⟩
    split<;>rfl
   ·refine ⟨_,List.mem_map.mpr ⟨p0,pS,rfl⟩,?_⟩
    rw [if_pos e0];exact e0
 ·constructor
  ·rintro ⟨p,hp,rfl⟩
   rcases List.mem_append.mp hp with hp|hp
   ·exact .inl ⟨p,hp,rfl⟩
   ·rw [List.mem_singleton.mp hp];exact .inr rfl
  ·rintro (⟨p,hp,rfl⟩|rfl)
   ·exact ⟨p,List.mem_append_left _ hp,rfl⟩
   ·exact ⟨_,List.mem_append_right _ (List.mem_singleton.mpr rfl),rfl⟩
def IE (n:Nat):SpD:=fun ds G R=>∃(floor:List Sq) (k:Nat) (taken:List Sq) (kp:Addr) (Ae:List (Dat×Dat)),ds=[fl floor,.int k,fl taken,.fn kp]/\k+n=floor.length/\floor.length≤24/\taken.length≤k/\G kp=some (.dct Ae)/\Valid floor Ae/\Closed floor Ae/\Ae.length+2 ^ n≤2 ^ 24+1 ∧
 ∀CY,Valid floor CY->Closed floor CY->(∀k t,Hq Ae k t->Hq CY k t)->(k<floor.length->Hq CY k taken)->CY.length+1≤Ae.length+2 ^ n->R (.int (Cw floor (floor.drop k) taken:Nat)) (put G kp (.dct CY))
theorem Closed.put {floor:List Sq} {Ae:List (Dat×Dat)} {k:Nat} {q:Sq} {t:List Sq} {v:Dat} (h:Closed floor Ae) (hq:floor[k]?=some q) (hs:∀p∈A1 floor q t,k+1<floor.length->Hq Ae (k+1) p.2):Closed floor (FE Ae (CH k t) v):=by
 intro k' q' t' hk To p hp Bs
 refine LL.mpr (.inl ?_)
 rcases LL.mp hk with z|z
 ·exact h k' q' t' z To p hp Bs
 ·obtain ⟨rfl,rfl⟩:=J9 z
  rw [hq]at To
  cases To
  exact hs p hp Bs
section
variable {X:Cx}{ρ:Rho}{G:Gs}{a b:Expr}{d:Dat}{pos:Pos}{i j:Int}
theorem YX {Q:Bool->Gs->Prop} (ha:WE X ρ G a fun d G'=>∃i,d=.int i/\PX X ρ G' b (.int j)/\Q (decide (j<i)) G') (hm:behindInMarks .Gt b=false:=by first|exact JZ _ (by decide) (by decide)|rfl):WT X ρ G (.Compare a [.Gt] [b] pos) Q:=by
 intro pins s σ H I S
 refine wpAny_isTrue_Compare1 (thn (ha pins s σ H I S) fun v s1 ⟨x,H1,I1,rx,d,G1,e1,o1,r1,i,hd,hb,q⟩=>thn (hb pins s1 σ H1 I1 (S.ext e1 o1)) fun u s2 ⟨y,H2,I2,ry,_,G2,e2,o2,r2,q2,EL⟩=>?_) hm
 subst q2;subst EL;subst hd
 have h2:=Wq (X:=X) pins s2 σ H2 x y v u (Po X H2 G2 fun d' G'=>d'=.bl (decide (j<i))/\G'=G2) I2 rx ry ⟨i,j,r1,r2,Bl o2 rfl⟩
 refine thn h2 fun c s3 ⟨z,H3,I3,r3,_,_,e3,o3,q3,q4,um⟩=>?_
 subst q4;subst um
 cases (show z=V.bl _ from q3)
 cases r3
 exact wpAny_truthy_bool ⟨H3,I3,_,(e1.trans e2).trans e3,o3,q⟩
end
theorem Rt {X:Cx} {ρ:Rho} {G:Gs} {D:DE} {RX:Value->Gs->Prop} {st:List Stmt} (h:FG X ρ G st D fun cls G'=>∃q,RX cls (rel G' q)):FG X ρ G st D RX:=fun pins s σ H I S=>
 wpAny_mono (h pins s σ H I S) (fun _ _ z=>z) fun e s' hh=>by
  obtain ⟨ea,cls,args,σ',H',G',s1,h2,tk,a,b,c,d,f,o',q,r⟩:=hh
  have E:Ext H' G' H' (rel G' q):=⟨fun b u z _=>z,fun b hb=>by
   by_cases hq:b=q
   ·subst hq;rw [Co]at hb;exact absurd rfl hb
   ·rw [Fe hq]at hb;exact .inl hb⟩
  refine ⟨ea,cls,args,σ',H',rel G' q,s1,h2,tk,a,b,c,d,f.trans E,fun b u z=>?_,r⟩
  by_cases hbq:b=q
  ·subst hbq;rw [Co]at z;cases z
  ·rw [Fe hbq]at z
   exact (o' b u z).ext E.hid rfl
section
open PySem.SeqAt
open PySem.AutoSeq1 (wpAny_loadPart')
open PySem.MeetsSeq PySem.MeetsSeq2 PySem.MeetsSeq3
def gt2 (a b c d:Int):Bool:=if a==c then decide (d<b)else decide (c<a)
theorem OI (l b:Addr) (a1 a2 b1 b2:Int) (t1 t2 u1 u2:Tok) (n n2:Nat) (dd Ny:Option Addr) (sl KW:Array (Option Value)) :
  Meets (Builtin.«tuple.__gt__» ⟨[.ref l,.ref b],[]⟩)
   (fun A R s=>EqAt A.in1 s (.int a1 t1) (.int b1 u1) (a1==b1)/\EqAt A.in1 s (.int a2 t2) (.int b2 u2) (a2==b2)/\s.heap.get? l=some { cls:=.type "tuple",dict:=dd,data:=.seq #[.int a1 t1,.int a2 t2] n,slots:=sl }/\s.heap.get? b=some { cls:=.type "tuple",dict:=Ny,data:=.seq #[.int b1 u1,.int b2 u2] n2,slots:=KW } ∧
    R (.ok (.ret (.bool (gt2 a1 a2 b1 b2)))) s):=
 .of_wp fun prog w A R s h=>by
  obtain ⟨hp,g,d,tk,os⟩:=s;obtain ⟨cv,he2,hl,hb,h⟩:=h
  have f2:=AutoSeq1.sub_tuple_tuple
  wp_walk using wpAny_loadPart' hl,wpAny_loadPart' hb,wpAny_forIn_list _ (fun rest b s'=>b.1=none/\s'=⟨hp,g,d,tk,os⟩/\(rest=[(.int a1 t1,.int b1 u1),(.int a2 t2,.int b2 u2)]\/(rest=[(.int a2 t2,.int b2 u2)]/\a1=b1)\/(rest=[]/\a1=b1/\a2=b2))) _
  case turn=>
   rintro ⟨y,x⟩ rest b s' ⟨Lq,rfl,hz⟩
   rcases hz with hz|⟨hz,e1⟩|⟨hz,_⟩
   ·injection hz with Yo hrest
    injection Yo with hy hx
    subst hy hx hrest
    refine wpAny_bind (cv prog w _ _ ?_)
    cases hq:(a1==b1)with
    |true=>
     wp_walk
     exact ⟨rfl,rfl,.inr (.inl ⟨rfl,by simpa using hq⟩)⟩
    |false=>
     have Xb:∀(E:Value->Shared->Prop) (Q:Value->Shared->Prop),Q (.bool (decide (b1<a1))) ⟨hp,g,d,tk,os⟩->wpAny (model prog w) A.in1 (richCompare .Gt (.int a1 t1) (.int b1 u1)) Q E ⟨hp,g,d,tk,os⟩:=fun E Q h=>(PyProof.Rows.gt_int h:wpAny (model prog w) A.in1 (compareOp .Gt (.int a1 t1) (.int b1 u1)) Q E _)
     have e:gt2 a1 a2 b1 b2=decide (b1<a1):=by unfold gt2;rw [hq];rfl
     rw [e]at h
     wp_walk using Xb
     exact ⟨_,rfl,by simpa using h⟩
   ·injection hz with Yo hrest
    injection Yo with hy hx
    subst hy hx hrest
    refine wpAny_bind (he2 prog w _ _ ?_)
    cases hq:(a2==b2)with
    |true=>
     wp_walk
     exact ⟨rfl,rfl,.inr (.inr ⟨rfl,e1,by simpa using hq⟩)⟩
    |false=>
     have Xb:∀(E:Value->Shared->Prop) (Q:Value->Shared->Prop),Q (.bool (decide (b2<a2))) ⟨hp,g,d,tk,os⟩->wpAny (model prog w) A.in1 (richCompare .Gt (.int a2 t2) (.int b2 u2)) Q E ⟨hp,g,d,tk,os⟩:=fun E Q h=>(PyProof.Rows.gt_int h:wpAny (model prog w) A.in1 (compareOp .Gt (.int a2 t2) (.int b2 u2)) Q E _)
     have e:gt2 a1 a2 b1 b2=decide (b2<a2):=by unfold gt2;rw [e1,beq_self_eq_true];rfl
     rw [e]at h
     wp_walk using Xb
     exact ⟨_,rfl,by simpa using h⟩
   ·cases hz
  case fin=>
   rintro ⟨vw,vk⟩ s' ⟨Lq,rfl,hz⟩
   simp only at Lq
   subst Lq
   rcases hz with hz|⟨hz,e1⟩|⟨hz,e1,e2⟩
   ·cases hz
   ·cases hz
   ·have e:gt2 a1 a2 b1 b2=false:=by unfold gt2;rw [e1,beq_self_eq_true,e2];simp
    rw [e]at h
    wp_walk
    exact ⟨_,rfl,by simpa [Builtin.Tuple.tupleCompareSizes]using h⟩
  case h=>exact ⟨rfl,rfl,.inl rfl⟩
end
section
variable {prog:Program}{w:World}{A:Around}{R:Result->Shared->Prop}{I:Addr}{fp wr:List Addr}{n:Nat}{P:Nat->Value->Prop}{St:Nat->Heap->Prop}{S:Addr}{s:Shared}{c:Nat}
theorem WX {vb:Value} (W:Walks prog w A.in1 I fp wr n P St) (JI:S∉fp) (ES:St n s.heap) (hS:s.heap.get? S=some { cls:=.type "list",dict:=none,data:=.seq #[vb,vb] c,slots:=#[] })
  (hR:∀h' tk,(∀b o,b∉wr->b≠S->s.heap.get? b=some o->h'.get? b=some o)->R (.ok (.ret vb)) { s with heap:=h',toks:=tk }):codeAny (model prog w) A (.builtin "min.loop" ⟨[.ref I,.none,.ref S],[]⟩) R s:=by
 have Sn:S∉wr:=fun h=>JI (W.sub _ h)
 refine codeAny_builtin F.entry_min_loop ?_
 rw [Around.under_plainId F.plain_min_loop _]
 show wpAny _ A.in1 (seqItems? (.ref S) >>= _) _ _ s
 refine wpAny_bind (wpAny_seqItems hS rfl ?_)
 show wpAny _ A.in1 (tryCatch (pyNext (.ref I)) _ >>= _) _ _ s
 refine wpAny_bind (wpAny_tryCatch (W.done s _ _ ES fun h' tk ET=>?_))
 have MC:=ET S _ Sn hS
 show wpAny _ A.in1 (updateSeq S (fun _=>#[]) >>= _) _ _ _
 refine wpAny_bind ?_
 refine wpAny_updateSeq MC rfl (wpAny_bind (wpAny_letGo (wpAny_pure ?_)))
 exact hR _ tk fun b o YG YE e=>(Heap.get?_update_other _ _ (Ne.symm YE)).trans (ET b o YG e)
theorem T8 {vb:Value} {j:Nat} (bt:Bool) (W:Walks prog w A.in1 I fp wr n P St) (JI:S∉fp) (hj:j<n) (ES:St j s.heap) (hS:s.heap.get? S=some { cls:=.type "list",dict:=none,data:=.seq #[vb,vb] c,slots:=#[] })
  (hk:∀v h' tk,P j v->(∀b o,b∉wr->s.heap.get? b=some o->h'.get? b=some o)->(∀(Q' E':Value->Shared->Prop),Q' (.bool bt) { s with heap:=h',toks:=tk }->wpAny (model prog w) A.in1 (richCompare .Lt v vb) Q' E' { s with heap:=h',toks:=tk }) ∧
   ∀LY c',(∀b o,b≠S->h'.get? b=some o->LY.get? b=some o)->St (j+1) LY->LY.get? S=some { cls:=.type "list",dict:=none,data:=.seq #[if bt then v else vb,if bt then v else vb] c',slots:=#[] } →
    codeAny (model prog w) A (.builtin "min.loop" ⟨[.ref I,.none,.ref S],[]⟩) R { s with heap:=LY,toks:=tk }):codeAny (model prog w) A (.builtin "min.loop" ⟨[.ref I,.none,.ref S],[]⟩) R s:=by
 have Sn:S∉wr:=fun h=>JI (W.sub _ h)
 have Dx:(toString "min"++toString ".loop":String) = "min.loop":=by decide
 refine codeAny_builtin F.entry_min_loop ?_
 rw [Around.under_plainId F.plain_min_loop _]
 show wpAny _ A.in1 (seqItems? (.ref S) >>= _) _ _ s
 refine wpAny_bind (wpAny_seqItems hS rfl ?_)
 show wpAny _ A.in1 (tryCatch (pyNext (.ref I)) _ >>= _) _ _ s
 refine wpAny_bind (wpAny_tryCatch (W.item j s _ _ hj ES fun v h' tk hP LI ET=>?_))
 have MC:=ET S _ Sn hS
 obtain ⟨YY,go⟩:=hk v h' tk hP ET
 show wpAny _ A.in1 (tryCatch (holding [v,v] (richCompare .Lt v vb >>= _)) _ >>= _) _ _ _
 refine wpAny_bind (wpAny_tryCatch (wpAny_holding (wpAny_bind (YY _ _ ?_))))
 refine wpAny_bind (wpAny_holding (wpAny_truthy_bool ?_))
 refine wpAny_bind (wpAny_letGo (wpAny_pure ?_))
 cases bt with
 |true=>
  simp only [if_true]
  refine wpAny_bind ?_
  refine wpAny_updateSeq MC rfl (wpAny_bind (wpAny_letGo ?_))
  rw [Dx]
  refine wpAny_pure ⟨plainId_quiet F.plain_min_loop _,go _ _ (fun b o hb e=>(Heap.get?_update_other _ _ (Ne.symm hb)).trans e) (W.frame _ _ _ LI fun b YT o e=>?_) (Heap.get?_update_self _ MC rfl)⟩
  exact (Heap.get?_update_other _ _ (fun h:S=b=>JI (by rw [h];exact YT))).trans e
 |false=>
  simp only [Bool.false_eq_true,if_false]
  refine wpAny_bind (wpAny_letGo ?_)
  rw [Dx]
  exact wpAny_pure ⟨plainId_quiet F.plain_min_loop _,go _ c (fun b o _ e=>e) LI MC⟩
theorem RE (W:Walks prog w A.in1 I fp wr n P St) (JI:S∉fp) (hn:0<n) (ES:St 0 s.heap) (hS:s.heap.get? S=some { cls:=.type "list",dict:=none,data:=.seq #[] c,slots:=#[] })
  (hk:∀v LY tk c',P 0 v->(∀b o,b∉wr->b≠S->s.heap.get? b=some o->LY.get? b=some o)->St 1 LY->LY.get? S=some { cls:=.type "list",dict:=none,data:=.seq #[v,v] c',slots:=#[] } →
    codeAny (model prog w) A (.builtin "min.loop" ⟨[.ref I,.none,.ref S],[]⟩) R { s with heap:=LY,toks:=tk }):codeAny (model prog w) A (.builtin "min.loop" ⟨[.ref I,.none,.ref S],[]⟩) R s:=by
 have Sn:S∉wr:=fun h=>JI (W.sub _ h)
 have Dx:(toString "min"++toString ".loop":String) = "min.loop":=by decide
 refine codeAny_builtin F.entry_min_loop ?_
 rw [Around.under_plainId F.plain_min_loop _]
 show wpAny _ A.in1 (seqItems? (.ref S) >>= _) _ _ s
 refine wpAny_bind (wpAny_seqItems hS rfl ?_)
 show wpAny _ A.in1 (tryCatch (pyNext (.ref I)) _ >>= _) _ _ s
 refine wpAny_bind (wpAny_tryCatch (W.item 0 s _ _ hn ES fun v h' tk hP LI ET=>?_))
 have MC:=ET S _ Sn hS
 show wpAny _ A.in1 (updateSeq S (fun _=>#[v,v]) >>= _) _ _ _
 refine wpAny_bind ?_
 refine wpAny_updateSeq MC rfl ?_
 rw [Dx]
 refine wpAny_pure ⟨plainId_quiet F.plain_min_loop _,hk v _ tk _ hP (fun b o YG YE e=>(Heap.get?_update_other _ _ (Ne.symm YE)).trans (ET b o YG e)) (W.frame _ _ _ LI fun b YT o e=>?_) (Heap.get?_update_self _ MC rfl)⟩
 exact (Heap.get?_update_other _ _ (fun h:S=b=>JI (by rw [h];exact YT))).trans e
end
theorem U8 {prog:Program} {w:World} {A:Around} {s:Shared} {x y:Value} {R:Result->Shared->Prop} {T I S:Addr} {h3:Heap} {c:Nat} (hh:A.handled=none) (bt:Bool)
  (hc:∀(h':Heap) (tk:Nat) (Q' E':Value->Shared->Prop),(∀c o,s.heap.get? c=some o->h'.get? c=some o)->Q' (.bool bt) { s with heap:=h',toks:=tk }->wpAny (model prog w) A.in1 (richCompare .Lt y x) Q' E' { s with heap:=h',toks:=tk })
  (old:∀b o,s.heap.get? b=some o->h3.get? b=some o) (hT:h3.IsTuple T #[x,y]) (hI:h3.IsTupleIter I T 0) (hS:h3.get? S=some { cls:=.type "list",dict:=none,data:=.seq #[] c,slots:=#[] }) (nI:s.heap.objs.size≤I) (nS:s.heap.objs.size≤S) (e1:I≠T) (e2:S≠I) (e3:S≠T)
  (h:∀h' tk,(∀c o,s.heap.get? c=some o->h'.get? c=some o)->R (.ok (.ret (if bt then y else x))) { s with heap:=h',toks:=tk }):codeAny (model prog w) A (.builtin "min.loop" ⟨[.ref I,.none,.ref S],[]⟩) R { s with heap:=h3 }:=by
 have W:=Walks.tuple (prog:=prog) (w:=w) (A:=A.in1) hh I T e1.symm #[x,y]
 have JI:S∉[I,T]:=by simp [e2,e3]
 have lt:∀b o,s.heap.get? b=some o->b∉[I]/\b≠S:=fun b o e=>by
  have h1:b<s.heap.objs.size:=Heap.lt_size e
  refine ⟨fun hm=>?_,fun z=>?_⟩
  ·rw [List.mem_singleton.mp hm]at h1;exact absurd h1 (Nat.not_lt.mpr nI)
  ·rw [z]at h1;exact absurd h1 (Nat.not_lt.mpr nS)
 refine RE (s:={ s with heap:=h3 }) W JI (show 0<2 from Nat.zero_lt_succ 1) ⟨hI,hT⟩ hS fun v h4 gF c4 jt k4 HQ Tq=>?_
 have ev:v=x:=by simpa using jt.symm
 subst ev
 refine T8 (s:={ s with heap:=h4,toks:=gF }) (j:=1) bt W JI (show 1<2 from Nat.lt_succ_self 1) HQ Tq fun u h5 cS iJ k5=>?_
 have eu:u=y:=by simpa using iJ.symm
 subst eu
 have US:∀b o,s.heap.get? b=some o->h5.get? b=some o:=fun b o e=>k5 b o (lt b o e).1 (k4 b o (lt b o e).1 (lt b o e).2 (old b o e))
 refine ⟨fun Q' E' q=>hc h5 cS Q' E' US q,fun h6 c6 k6 fg kj=>?_⟩
 refine WX (s:={ s with heap:=h6,toks:=cS }) W JI fg kj fun h7 gp k7=>?_
 exact h h7 gp fun b o e=>k7 b o (lt b o e).1 (lt b o e).2 (k6 b o (lt b o e).2 (US b o e))
theorem Uv {prog:Program} {w:World} {A:Around} {E:Value->Shared->Prop} {s:Shared} {x y:Value} {Q:Value->Shared->Prop} (hh:A.handled=none) (bt:Bool)
  (hc:∀(h':Heap) (tk:Nat) (Q' E':Value->Shared->Prop),(∀c o,s.heap.get? c=some o->h'.get? c=some o)->Q' (.bool bt) { s with heap:=h',toks:=tk }->wpAny (model prog w) A.in1 (richCompare .Lt y x) Q' E' { s with heap:=h',toks:=tk })
  (h:∀h' tk,(∀c o,s.heap.get? c=some o->h'.get? c=some o)->Q (if bt then y else x) { s with heap:=h',toks:=tk }):wpAny (model prog w) A (call (.builtin "min") [x,y]) Q E s:=by
 have Dx:(toString "min"++toString ".loop":String) = "min.loop":=by decide
 refine call_function_tree F.kind_min F.plain_min F.entry_min (F.args_min2 _ _) ?_
 show wpAny _ A.in1 (Builtin.Builtins.bindParams "min" ["key","default"] 0 ⟨[],[]⟩ >>= _) _ _ s
 refine wpAny_bind (wpAny_of_eq (show Builtin.Builtins.bindParams "min" ["key","default"] 0 ⟨[],[]⟩=pure [none,none]from rfl) ?_)
 show wpAny _ A.in1 (newTuple [x,y] >>= _) _ _ s
 refine wpAny_bind (wpAny_newObj_type ?_)
 have hT:(s.heap.push { cls:=.type "tuple",data:=.seq #[x,y] }).IsTuple s.heap.objs.size #[x,y]:=⟨_,Heap.get?_push_size _ rfl,rfl,0,rfl⟩
 refine wpAny_bind (wpAny_pyIter_tuple hT ?_)
 refine wpAny_bind (wpAny_newObj_type ?_)
 rw [Dx]
 have z1:(s.heap.push { cls:=.type "tuple",data:=.seq #[x,y] }).objs.size=s.heap.objs.size+1:=Heap.size_push ..
 have z2:((s.heap.push { cls:=.type "tuple",data:=.seq #[x,y] }).push { cls:=Value.type "tuple_iterator",data:=Data.fields #[Value.ref s.heap.objs.size,Value.int 0 0] }).objs.size=s.heap.objs.size+1+1:=by rw [Heap.size_push,z1]
 refine wpAny_pure ⟨plainId_quiet F.plain_min_loop _,U8 (s:=s) (c:=0) hh bt hc (fun b o e=>Heap.get?_push_of_some _ (Heap.get?_push_of_some _ (Heap.get?_push_of_some _ e))) ((hT.push _).push _) ⟨_,Heap.get?_push_of_some _ (Heap.get?_push_size _ rfl),rfl,rfl⟩ (Heap.get?_push_size _ rfl) ?_ ?_ ?_ ?_ ?_ h⟩
 ·exact Nat.le_trans (Nat.le_succ _) (Nat.le_of_eq z1.symm)
 ·exact Nat.le_trans (Nat.le_trans (Nat.le_succ _) (Nat.le_succ _)) (Nat.le_of_eq z2.symm)
 ·exact fun z=>Nat.succ_ne_self _ (z1.symm.trans z)
 ·exact fun z=>Nat.succ_ne_self _ ((z2.symm.trans z).trans z1)
 ·exact fun z=>absurd (z2.symm.trans z) (Nat.ne_of_gt (Nat.lt_succ_of_lt (Nat.lt_succ_self _)))
section
variable {prog:Program}{w:World}{A:Around}{R:Result->Shared->Prop}{I:Addr}{fp wr:List Addr}{n:Nat}{P:Nat->Value->Prop}{St:Nat->Heap->Prop}{S:Addr}{s:Shared}{c:Nat}
theorem VY {vb:Value} (W:Walks prog w A.in1 I fp wr n P St) (JI:S∉fp) (ES:St n s.heap) (hS:s.heap.get? S=some { cls:=.type "list",dict:=none,data:=.seq #[vb,vb] c,slots:=#[] })
  (hR:∀h' tk,(∀b o,b∉wr->b≠S->s.heap.get? b=some o->h'.get? b=some o)->R (.ok (.ret vb)) { s with heap:=h',toks:=tk }):codeAny (model prog w) A (.builtin "max.loop" ⟨[.ref I,.none,.ref S],[]⟩) R s:=by
 have Sn:S∉wr:=fun h=>JI (W.sub _ h)
 refine codeAny_builtin F.entry_max_loop ?_
 rw [Around.under_plainId F.plain_max_loop _]
 show wpAny _ A.in1 (seqItems? (.ref S) >>= _) _ _ s
 refine wpAny_bind (wpAny_seqItems hS rfl ?_)
 show wpAny _ A.in1 (tryCatch (pyNext (.ref I)) _ >>= _) _ _ s
 refine wpAny_bind (wpAny_tryCatch (W.done s _ _ ES fun h' tk ET=>?_))
 have MC:=ET S _ Sn hS
 show wpAny _ A.in1 (updateSeq S (fun _=>#[]) >>= _) _ _ _
 refine wpAny_bind ?_
 refine wpAny_updateSeq MC rfl (wpAny_bind (wpAny_letGo (wpAny_pure ?_)))
 exact hR _ tk fun b o YG YE e=>(Heap.get?_update_other _ _ (Ne.symm YE)).trans (ET b o YG e)
theorem Tu {vb:Value} {j:Nat} (bt:Bool) (W:Walks prog w A.in1 I fp wr n P St) (JI:S∉fp) (hj:j<n) (ES:St j s.heap) (hS:s.heap.get? S=some { cls:=.type "list",dict:=none,data:=.seq #[vb,vb] c,slots:=#[] })
  (hk:∀v h' tk,P j v->(∀b o,b∉wr->s.heap.get? b=some o->h'.get? b=some o)->(∀(Q' E':Value->Shared->Prop),Q' (.bool bt) { s with heap:=h',toks:=tk }->wpAny (model prog w) A.in1 (richCompare .Gt v vb) Q' E' { s with heap:=h',toks:=tk }) ∧
   ∀LY c',(∀b o,b≠S->h'.get? b=some o->LY.get? b=some o)->St (j+1) LY->LY.get? S=some { cls:=.type "list",dict:=none,data:=.seq #[if bt then v else vb,if bt then v else vb] c',slots:=#[] } →
    codeAny (model prog w) A (.builtin "max.loop" ⟨[.ref I,.none,.ref S],[]⟩) R { s with heap:=LY,toks:=tk }):codeAny (model prog w) A (.builtin "max.loop" ⟨[.ref I,.none,.ref S],[]⟩) R s:=by
 have Sn:S∉wr:=fun h=>JI (W.sub _ h)
 have Dx:(toString "max"++toString ".loop":String) = "max.loop":=by decide
 refine codeAny_builtin F.entry_max_loop ?_
 rw [Around.under_plainId F.plain_max_loop _]
 show wpAny _ A.in1 (seqItems? (.ref S) >>= _) _ _ s
 refine wpAny_bind (wpAny_seqItems hS rfl ?_)
 show wpAny _ A.in1 (tryCatch (pyNext (.ref I)) _ >>= _) _ _ s
 refine wpAny_bind (wpAny_tryCatch (W.item j s _ _ hj ES fun v h' tk hP LI ET=>?_))
 have MC:=ET S _ Sn hS
 obtain ⟨YY,go⟩:=hk v h' tk hP ET
 show wpAny _ A.in1 (tryCatch (holding [v,v] (richCompare .Gt v vb >>= _)) _ >>= _) _ _ _
 refine wpAny_bind (wpAny_tryCatch (wpAny_holding (wpAny_bind (YY _ _ ?_))))
 refine wpAny_bind (wpAny_holding (wpAny_truthy_bool ?_))
 refine wpAny_bind (wpAny_letGo (wpAny_pure ?_))
 cases bt with
 |true=>
  simp only [if_true]
  refine wpAny_bind ?_
  refine wpAny_updateSeq MC rfl (wpAny_bind (wpAny_letGo ?_))
  rw [Dx]
  refine wpAny_pure ⟨plainId_quiet F.plain_max_loop _,go _ _ (fun b o hb e=>(Heap.get?_update_other _ _ (Ne.symm hb)).trans e) (W.frame _ _ _ LI fun b YT o e=>?_) (Heap.get?_update_self _ MC rfl)⟩
  exact (Heap.get?_update_other _ _ (fun h:S=b=>JI (by rw [h];exact YT))).trans e
 |false=>
  simp only [Bool.false_eq_true,if_false]
  refine wpAny_bind (wpAny_letGo ?_)
  rw [Dx]
  exact wpAny_pure ⟨plainId_quiet F.plain_max_loop _,go _ c (fun b o _ e=>e) LI MC⟩
theorem Qu (W:Walks prog w A.in1 I fp wr n P St) (JI:S∉fp) (hn:0<n) (ES:St 0 s.heap) (hS:s.heap.get? S=some { cls:=.type "list",dict:=none,data:=.seq #[] c,slots:=#[] })
  (hk:∀v LY tk c',P 0 v->(∀b o,b∉wr->b≠S->s.heap.get? b=some o->LY.get? b=some o)->St 1 LY->LY.get? S=some { cls:=.type "list",dict:=none,data:=.seq #[v,v] c',slots:=#[] } →
    codeAny (model prog w) A (.builtin "max.loop" ⟨[.ref I,.none,.ref S],[]⟩) R { s with heap:=LY,toks:=tk }):codeAny (model prog w) A (.builtin "max.loop" ⟨[.ref I,.none,.ref S],[]⟩) R s:=by
 have Sn:S∉wr:=fun h=>JI (W.sub _ h)
 have Dx:(toString "max"++toString ".loop":String) = "max.loop":=by decide
 refine codeAny_builtin F.entry_max_loop ?_
 rw [Around.under_plainId F.plain_max_loop _]
 show wpAny _ A.in1 (seqItems? (.ref S) >>= _) _ _ s
 refine wpAny_bind (wpAny_seqItems hS rfl ?_)
 show wpAny _ A.in1 (tryCatch (pyNext (.ref I)) _ >>= _) _ _ s
 refine wpAny_bind (wpAny_tryCatch (W.item 0 s _ _ hn ES fun v h' tk hP LI ET=>?_))
 have MC:=ET S _ Sn hS
 show wpAny _ A.in1 (updateSeq S (fun _=>#[v,v]) >>= _) _ _ _
 refine wpAny_bind ?_
 refine wpAny_updateSeq MC rfl ?_
 rw [Dx]
 refine wpAny_pure ⟨plainId_quiet F.plain_max_loop _,hk v _ tk _ hP (fun b o YG YE e=>(Heap.get?_update_other _ _ (Ne.symm YE)).trans (ET b o YG e)) (W.frame _ _ _ LI fun b YT o e=>?_) (Heap.get?_update_self _ MC rfl)⟩
 exact (Heap.get?_update_other _ _ (fun h:S=b=>JI (by rw [h];exact YT))).trans e
end
theorem Uq {prog:Program} {w:World} {A:Around} {s:Shared} {x y:Value} {R:Result->Shared->Prop} {T I S:Addr} {h3:Heap} {c:Nat} (hh:A.handled=none) (bt:Bool)
  (hc:∀(h':Heap) (tk:Nat) (Q' E':Value->Shared->Prop),(∀c o,s.heap.get? c=some o->h'.get? c=some o)->Q' (.bool bt) { s with heap:=h',toks:=tk }->wpAny (model prog w) A.in1 (richCompare .Gt y x) Q' E' { s with heap:=h',toks:=tk })
  (old:∀b o,s.heap.get? b=some o->h3.get? b=some o) (hT:h3.IsTuple T #[x,y]) (hI:h3.IsTupleIter I T 0) (hS:h3.get? S=some { cls:=.type "list",dict:=none,data:=.seq #[] c,slots:=#[] }) (nI:s.heap.objs.size≤I) (nS:s.heap.objs.size≤S) (e1:I≠T) (e2:S≠I) (e3:S≠T)
  (h:∀h' tk,(∀c o,s.heap.get? c=some o->h'.get? c=some o)->R (.ok (.ret (if bt then y else x))) { s with heap:=h',toks:=tk }):codeAny (model prog w) A (.builtin "max.loop" ⟨[.ref I,.none,.ref S],[]⟩) R { s with heap:=h3 }:=by
 have W:=Walks.tuple (prog:=prog) (w:=w) (A:=A.in1) hh I T e1.symm #[x,y]
 have JI:S∉[I,T]:=by simp [e2,e3]
 have lt:∀b o,s.heap.get? b=some o->b∉[I]/\b≠S:=fun b o e=>by
  have h1:b<s.heap.objs.size:=Heap.lt_size e
  refine ⟨fun hm=>?_,fun z=>?_⟩
  ·rw [List.mem_singleton.mp hm]at h1;exact absurd h1 (Nat.not_lt.mpr nI)
  ·rw [z]at h1;exact absurd h1 (Nat.not_lt.mpr nS)
 refine Qu (s:={ s with heap:=h3 }) W JI (show 0<2 from Nat.zero_lt_succ 1) ⟨hI,hT⟩ hS fun v h4 gF c4 jt k4 HQ Tq=>?_
 have ev:v=x:=by simpa using jt.symm
 subst ev
 refine Tu (s:={ s with heap:=h4,toks:=gF }) (j:=1) bt W JI (show 1<2 from Nat.lt_succ_self 1) HQ Tq fun u h5 cS iJ k5=>?_
 have eu:u=y:=by simpa using iJ.symm
 subst eu
 have US:∀b o,s.heap.get? b=some o->h5.get? b=some o:=fun b o e=>k5 b o (lt b o e).1 (k4 b o (lt b o e).1 (lt b o e).2 (old b o e))
 refine ⟨fun Q' E' q=>hc h5 cS Q' E' US q,fun h6 c6 k6 fg kj=>?_⟩
 refine VY (s:={ s with heap:=h6,toks:=cS }) W JI fg kj fun h7 gp k7=>?_
 exact h h7 gp fun b o e=>k7 b o (lt b o e).1 (lt b o e).2 (k6 b o (lt b o e).2 (US b o e))
theorem VQ {prog:Program} {w:World} {A:Around} {E:Value->Shared->Prop} {s:Shared} {x y:Value} {Q:Value->Shared->Prop} (hh:A.handled=none) (bt:Bool)
  (hc:∀(h':Heap) (tk:Nat) (Q' E':Value->Shared->Prop),(∀c o,s.heap.get? c=some o->h'.get? c=some o)->Q' (.bool bt) { s with heap:=h',toks:=tk }->wpAny (model prog w) A.in1 (richCompare .Gt y x) Q' E' { s with heap:=h',toks:=tk })
  (h:∀h' tk,(∀c o,s.heap.get? c=some o->h'.get? c=some o)->Q (if bt then y else x) { s with heap:=h',toks:=tk }):wpAny (model prog w) A (call (.builtin "max") [x,y]) Q E s:=by
 have Dx:(toString "max"++toString ".loop":String) = "max.loop":=by decide
 refine call_function_tree F.kind_max F.plain_max F.entry_max (F.args_max2 _ _) ?_
 show wpAny _ A.in1 (Builtin.Builtins.bindParams "max" ["key","default"] 0 ⟨[],[]⟩ >>= _) _ _ s
 refine wpAny_bind (wpAny_of_eq (show Builtin.Builtins.bindParams "max" ["key","default"] 0 ⟨[],[]⟩=pure [none,none]from rfl) ?_)
 show wpAny _ A.in1 (newTuple [x,y] >>= _) _ _ s
 refine wpAny_bind (wpAny_newObj_type ?_)
 have hT:(s.heap.push { cls:=.type "tuple",data:=.seq #[x,y] }).IsTuple s.heap.objs.size #[x,y]:=⟨_,Heap.get?_push_size _ rfl,rfl,0,rfl⟩
 refine wpAny_bind (wpAny_pyIter_tuple hT ?_)
 refine wpAny_bind (wpAny_newObj_type ?_)
 rw [Dx]
 have z1:(s.heap.push { cls:=.type "tuple",data:=.seq #[x,y] }).objs.size=s.heap.objs.size+1:=Heap.size_push ..
 have z2:((s.heap.push { cls:=.type "tuple",data:=.seq #[x,y] }).push { cls:=Value.type "tuple_iterator",data:=Data.fields #[Value.ref s.heap.objs.size,Value.int 0 0] }).objs.size=s.heap.objs.size+1+1:=by rw [Heap.size_push,z1]
 refine wpAny_pure ⟨plainId_quiet F.plain_max_loop _,Uq (s:=s) (c:=0) hh bt hc (fun b o e=>Heap.get?_push_of_some _ (Heap.get?_push_of_some _ (Heap.get?_push_of_some _ e))) ((hT.push _).push _) ⟨_,Heap.get?_push_of_some _ (Heap.get?_push_size _ rfl),rfl,rfl⟩ (Heap.get?_push_size _ rfl) ?_ ?_ ?_ ?_ ?_ h⟩
 ·exact Nat.le_trans (Nat.le_succ _) (Nat.le_of_eq z1.symm)
 ·exact Nat.le_trans (Nat.le_trans (Nat.le_succ _) (Nat.le_succ _)) (Nat.le_of_eq z2.symm)
 ·exact fun z=>Nat.succ_ne_self _ (z1.symm.trans z)
 ·exact fun z=>Nat.succ_ne_self _ ((z2.symm.trans z).trans z1)
 ·exact fun z=>absurd (z2.symm.trans z) (Nat.ne_of_gt (Nat.lt_succ_of_lt (Nat.lt_succ_self _)))
instance (p q:Sq):Decidable (AU p q):=by unfold AU;exact inferInstance
def Ly (x y:Sq):Sq:=if AU y x then y else x
def Mr (x y:Sq):Sq:=if AU x y then y else x
theorem Xz (x y:Sq):gt2 x.1 x.2 y.1 y.2=decide (AU y x):=by
 rw [Bool.eq_iff_iff,decide_eq_true_eq]
 unfold gt2
 split
 ·rename_i h
  have:=eq_of_beq h
  rw [decide_eq_true_eq]
  unfold AU
  lia
 ·rename_i h
  have:¬x.1=y.1:=fun z=>h (by rw [z];exact beq_self_eq_true _)
  rw [decide_eq_true_eq]
  unfold AU
  lia
theorem VT {s:Shared} {A:Around} {x y:Sq} {u v:Value} (hx:AtH s.heap (sq x) u) (hy:AtH s.heap (sq y) v) (hu:A.units+9<cLine) (prog:Program) (w:World) (E Q:Value->Shared->Prop) (q:Q (.bool (decide (AU y x))) s):wpAny (model prog w) A (richCompare .Gt u v) Q E s:=by
 rw [<-Xz]at q
 unfold sq at hx hy
 rw [AtH]at hx hy
 obtain ⟨a,is,rfl,ti,rl⟩:=hx
 obtain ⟨b,js,rfl,tj,rm⟩:=hy
 have e1:∃t1 t2,is=[.int x.1 t1,.int x.2 t2]:=by
  simp only [AtL,AtH]at rl
  obtain ⟨v1,r1,rfl,⟨t1,rfl⟩,v2,r2,rfl,⟨t2,rfl⟩,rfl⟩:=rl
  exact ⟨t1,t2,rfl⟩
 have e2:∃t1 t2,js=[.int y.1 t1,.int y.2 t2]:=by
  simp only [AtL,AtH]at rm
  obtain ⟨v1,r1,rfl,⟨t1,rfl⟩,v2,r2,rfl,⟨t2,rfl⟩,rfl⟩:=rm
  exact ⟨t1,t2,rfl⟩
 obtain ⟨t1,t2,rfl⟩:=e1
 obtain ⟨u1,u2,rfl⟩:=e2
 obtain ⟨⟨cls,dd,data,sl⟩,Ui,hc,n1,hd⟩:=id ti
 obtain ⟨⟨XY,Ny,data2,KW⟩,OZ,RG,n2,hd2⟩:=id tj
 simp only at hc hd RG hd2
 subst hc hd RG hd2
 have Ow:A.in1.units+0<cLine:=by show A.units+1+0<cLine;lia
 have q1:=(Es (A:=A.in1) (s:=s) 0 (d:=.int x.1) (e:=.int y.1) rfl rfl (by rw [AtH];exact ⟨t1,rfl⟩) (by rw [AtH];exact ⟨u1,rfl⟩) Ow).1
 have q2:=(Es (A:=A.in1) (s:=s) 0 (d:=.int x.2) (e:=.int y.2) rfl rfl (by rw [AtH];exact ⟨t2,rfl⟩) (by rw [AtH];exact ⟨u2,rfl⟩) Ow).1
 simp only [eqD]at q1 q2
 exact richCompare_meets_room (op:=.Gt) ⟨_,Ui,rfl⟩ ⟨_,OZ,rfl⟩ PySem.F.slot_tuple_gt PySem.F.entry_tuple_gt (PySem.F.args_tuple_gt_2 _ _) (OI a b x.1 x.2 y.1 y.2 t1 t2 u1 u2 n1 n2 dd Ny sl KW)
  ⟨q1,q2,Ui,OZ,⟨(fun x=>nomatch x),q⟩⟩ (by lia)
section
variable {X:Cx}{ρ:Rho}{G:Gs}{e a b c:Expr}{d d1 d2:Dat}{l:List Dat}{pos:Pos}{x y:Sq}
theorem O5 (hc:X.calm=true) (hu:X.A.units+20<cLine) (x y:Sq):CP X (.builtin "min") (fun xs H Q=>∃u v,xs=[u,v]/\Rep X.K H (sq x) u/\Rep X.K H (sq y) v/\Q (if decide (AU y x)then v else u) H):=by
 intro pins s σ H xs us Q I r h
 obtain ⟨u,v,rfl,hx,hy,q⟩:=h
 obtain ⟨a,b,rfl,ra,rb⟩:=Ke r
 refine Uv (I.ok.hd hc) (decide (AU y x)) (fun h' tk Q' E' k q'=>?_) (fun h' tk k=>⟨_,H,I.kept k,?_,q⟩)
 ·have I':=I.kept (t':=tk) k
  have:=Ji (A:=X.A.in1) (s:={ s with heap:=h',toks:=tk }) true 9 (d:=sq y) (e:=sq x) rfl (Al y 8) (Al x 8) (hy.at I' (Al y 8) rb) (hx.at I' (Al x 8) ra) (by show X.A.units+1+9<cLine;lia) X.prog X.w E' Q'
  rw [Jl]at this
  exact this q'
 ·cases decide (AU y x)with
  |true=>exact rb
  |false=>exact ra
theorem OW (hc:X.calm=true) (hu:X.A.units+20<cLine) (x y:Sq):CP X (.builtin "max") (fun xs H Q=>∃u v,xs=[u,v]/\Rep X.K H (sq x) u/\Rep X.K H (sq y) v/\Q (if decide (AU x y)then v else u) H):=by
 intro pins s σ H xs us Q I r h
 obtain ⟨u,v,rfl,hx,hy,q⟩:=h
 obtain ⟨a,b,rfl,ra,rb⟩:=Ke r
 refine VQ (I.ok.hd hc) (decide (AU x y)) (fun h' tk Q' E' k q'=>?_) (fun h' tk k=>⟨_,H,I.kept k,?_,q⟩)
 ·have I':=I.kept (t':=tk) k
  exact VT (A:=X.A.in1) (s:={ s with heap:=h',toks:=tk }) (hy.at I' (Al y 8) rb) (hx.at I' (Al x 8) ra) (by show X.A.units+1+9<cLine;lia) X.prog X.w E' Q' q'
 ·cases decide (AU x y)with
  |true=>exact rb
  |false=>exact ra
theorem SQ {pp:Pos} (hc:X.calm=true) (hu:X.A.units+20<cLine) (hm:X.mg "min"=none) (ha:PX X ρ G a (sq x)) (hb:PX X ρ G b (sq y)) (hg:Gl X "min":=by rfl) (he:starEach [a,b] X.env=(false,eval a X.env)::starEach [b] X.env:=by rfl) (he2:starEach [b] X.env=(false,eval b X.env)::starEach [] X.env:=by rfl)
  (hpl:(backTo pos (starEach [b] X.env)).any (·.1)=false:=by rfl):PX X ρ G (.Call (.Name "min" pp) [a,b] [] pos) (sq (Ly x y)):=
 Mm (O5 hc hu x y) hg hm (by decide +kernel) ha hb (fun H u v Q o rx ry k=>by
  refine ⟨u,v,rfl,rx.same AK,ry.same AK,k _ _ (Bl o ?_)⟩
  unfold Ly
  by_cases h:AU y x
  ·rw [if_pos h,if_pos (decide_eq_true h)];exact ry
  ·rw [if_neg h,if_neg (by simpa using h)];exact rx) (he:=he) (he2:=he2) (hpl:=hpl)
theorem SV {pp:Pos} (hc:X.calm=true) (hu:X.A.units+20<cLine) (hm:X.mg "max"=none) (ha:PX X ρ G a (sq x)) (hb:PX X ρ G b (sq y)) (hg:Gl X "max":=by rfl) (he:starEach [a,b] X.env=(false,eval a X.env)::starEach [b] X.env:=by rfl) (he2:starEach [b] X.env=(false,eval b X.env)::starEach [] X.env:=by rfl)
  (hpl:(backTo pos (starEach [b] X.env)).any (·.1)=false:=by rfl):PX X ρ G (.Call (.Name "max" pp) [a,b] [] pos) (sq (Mr x y)):=
 Mm (OW hc hu x y) hg hm (by decide +kernel) ha hb (fun H u v Q o rx ry k=>by
  refine ⟨u,v,rfl,rx.same AK,ry.same AK,k _ _ (Bl o ?_)⟩
  unfold Mr
  by_cases h:AU x y
  ·rw [if_pos h,if_pos (decide_eq_true h)];exact ry
  ·rw [if_neg h,if_neg (by simpa using h)];exact rx) (he:=he) (he2:=he2) (hpl:=hpl)
theorem Ka:∀(bs:List Bool),((List.range bs.length).all fun i=>bs.getD i true)=bs.all id
 |[]=>rfl
 |b::bs=>by
  rw [List.length_cons,List.range_succ_eq_map,List.all_cons,List.all_map,List.all_cons,<-Ka bs]
  rfl
theorem RD (hc:X.calm=true):CP X (.builtin "all") (fun xs H Q=>∃(p:Addr) (bs:List Bool),xs=[.ref p]/\SqL X.K H p (bs.map V.bl)/\Q (.bl (bs.all id)) H):=by
 intro pins s σ H xs us Q I r h
 obtain ⟨p,bs,rfl,hq,q⟩:=h
 obtain ⟨u,rfl,rx⟩:=Hj r
 cases rx
 obtain ⟨its,rv,pl,hz⟩:=I.list hq
 have hl:=pl.isList
 have Bs:=Heap.lt_size (hl.choose_spec.1)
 have ne:p≠s.heap.objs.size:=Nat.ne_of_lt Bs
 refine call_all_walk (wpAny_pyIter_list hl ?_)
 refine ⟨_,_,_,_,_,_,fun i=>bs.getD i true,rfl,Walks.list (A:=X.A.in1) (I.ok.hd hc) _ p ne its.toArray,⟨⟨_,Heap.get?_push_size _ rfl,rfl,rfl⟩,hl.push _⟩,?_,fun h' tk hk=>?_⟩
 ·intro i v s' Q' E' hP hQ
  have h1:its[i]?=some v:=by simpa using hP
  have hi:i<its.length:=(List.getElem?_eq_some_iff.mp h1).1
  have SH:=rv.length
  rw [List.length_map]at SH
  obtain ⟨x,hx⟩:∃x,bs[i]?=some x:=⟨bs[i]'(by lia),List.getElem?_eq_getElem (by lia)⟩
  have h2:(bs.map V.bl)[i]?=some (V.bl x):=by rw [List.getElem?_map,hx];rfl
  obtain ⟨v',g1,g2⟩:=rv.get h2
  rw [h1]at g1
  cases g1
  cases g2
  have hQ:Q' (bs.getD i true) s':=hQ
  rw [List.getD_eq_getElem?_getD,hx]at hQ
  exact wpAny_truthy_bool hQ
 ·have hn:its.toArray.size=bs.length:=by have:=rv.length;rw [List.length_map]at this;rw [List.size_toArray,<-this]
  rw [hn,Ka]
  refine ⟨.bl _,H,I.kept (fun b o e=>hk b o (fun hm=>?_) (Heap.get?_push_of_some _ e)),rfl,q⟩
  have h1:=Heap.lt_size e
  rw [List.mem_singleton.mp hm]at h1
  exact Nat.lt_irrefl _ h1
theorem QK {K:PySem.W.Frag} {H:Hp}:∀{bs:List Bool} {vs:List V},RepL K H (bs.map .bl) vs->vs=bs.map V.bl
 |[],vs,r=>by
  have:=r.length
  exact List.eq_nil_of_length_eq_zero (by simpa using this)
 |b::bs,vs,r=>by
  rw [List.map_cons,RepL]at r
  obtain ⟨v,r',rfl,r1,r2⟩:=r
  rw [Rep]at r1
  rw [r1,QK r2]
  rfl
theorem JL {bs:List Bool} {pp:Pos} (hc:X.calm=true) (hm:X.mg "all"=none) (ha:PX X ρ G a (.lst (bs.map .bl))) (hg:Gl X "all":=by rfl) (he:starEach [a] X.env=(false,eval a X.env)::starEach [] X.env:=by rfl):PX X ρ G (.Call (.Name "all" pp) [a] [] pos) (.bl (bs.all id)):=
 Er (RD hc) hg hm (by decide +kernel) ha (fun H x Q o r k=>by
  rw [Rep]at r
  obtain ⟨q,vs,e,h1,r1⟩:=r
  exact ⟨q,bs,by rw [e],by rw [<-QK r1];exact SqL.of (AK _ _ h1),k _ _ (Bl o rfl)⟩) (he:=he)
end
def Uo (lo:Int) (n:Nat):It:=⟨fun i _=>i<n,fun i H x H'=>H'=H/\x=.int (lo+i*2),fun i _=>n≤i⟩
theorem M0 {P:Program} {w:World} {K:PySem.W.Frag} {tg:Expr} (it:Addr) (lo:Int) (n:Nat):Turn P w K tg (Uo lo n) [it] it (fun i h=>IsRangeIter h it (lo+(i:Nat)*2) ((n:Int)-(i:Nat)) 2) where
 mem:=by simp
 obj:=fun i h st b hb=>by
  have e:b=it:=by simpa using hb
  subst e
  exact ⟨_,st,fun v z=>by
   have z':Data.fields _=Data.cell v:=z
   cases z'⟩
 keep:=fun i h h' st k=>k it (by simp) _ st
 item:=by
  intro X hP hw hK hc i pins s σ H E I hf st hg
  subst hP hw hK
  obtain ⟨f0,f1,f2,f3,f4,f5⟩:=hf it (by simp)
  have W:=Walks.range (prog:=X.prog) (w:=X.w) (I.ok.hd hc) it lo 2 n
  refine W.item i s _ _ hg st fun v h' tk hv AQ kk=>?_
  obtain ⟨t,rfl⟩:=hv
  have I1:Inv X pins σ H { s with heap:=h',toks:=tk }:=I.turned (fun b o hb e=>kk b o (by simpa using hb) e) f0 f1 f3 f4 f5
  exact ⟨_,rfl,PR (s:={ s with heap:=h',toks:=tk }) (n:="range_iterator") AQ rfl rfl (by decide) ⟨.int (lo+i*2),H,I1,⟨t,rfl⟩,⟨rfl,rfl⟩,AQ,fun b hb=>(hf b hb).1⟩⟩
 done:=by
  intro X hP hw hK hc i pins s σ H E I hf st hg
  subst hP hw hK
  obtain ⟨f0,f1,f2,f3,f4,f5⟩:=hf it (by simp)
  exact wpAny_pyNext_range_end (I.ok.hd hc) st (by have:n≤i:=hg;lia) fun h' eb=>⟨rfl,I.turned (t':=s.toks) (fun b o hb e=>eb b o hb e) f0 f1 f3 f4 f5⟩
 self:=fun _ _ _ _ _ st h=>wpAny_pyIter_rangeiter st h
theorem MI {lo hi:Int} {n:Nat} (h:lo≤hi) (hn:(n:Int)=(hi-lo+1) / 2):Builtin.Range.rangeSize lo hi 2=n:=by
 unfold Builtin.Range.rangeSize
 simp only [show (2:Int) > 0 by decide,if_true]
 split<;>lia
theorem Q4 {lo hi:Int} {n:Nat} (h0:0≤lo) (h:lo≤hi) (h1:hi≤100000) (hn:(n:Int)=(hi-lo+1) / 2):Builtin.Range.small lo hi 2=true:=by
 unfold Builtin.Range.small
 rw [MI h hn]
 simp only [Builtin.Range.rangeFitsLong,Bool.and_eq_true,Bool.or_eq_true,decide_eq_true_eq,beq_iff_eq,show (2:Int) > 0 by decide,if_true]
 lia
section
variable {X:Cx}{ρ:Rho}{G:Gs}{a b c:Expr}{pos:Pos}
theorem RQ {tg:Expr} {pins:List (Addr×Obj)} {σ:St} {H:Hp} {s:Shared} {R:It->Hp->Prop} {E:Value->Shared->Prop} {lo hi:Int} {n:Nat} {t u v:Tok} {tk:Nat} (I:Inv X pins σ H s) (h0:0≤lo) (h:lo≤hi) (h1:hi≤100000) (hn:(n:Int)=(hi-lo+1) / 2)
  (q:R (Uo lo n) H):wpAny (model X.prog X.w) X.A (pyIter (.ref s.heap.objs.size)) (PIE X pins σ tg R) E { s with heap:=s.heap.push { cls:=.type "range",data:=.fields #[.int lo t,.int hi u,.int 2 v] },toks:=tk }:=by
 refine wpAny_pyIter_range (IsRange.new ..) (Q4 h0 h h1 hn) ?_
 have I1:Inv X pins σ H { s with heap:=s.heap.push { cls:=.type "range",data:=.fields #[.int lo t,.int hi u,.int 2 v] },toks:=tk }:=I.kept fun b o e=>Heap.get?_push_of_some _ e
 refine ⟨(s.heap.push { cls:=.type "range",data:=.fields #[.int lo t,.int hi u,.int 2 v] }).objs.size,[(s.heap.push { cls:=.type "range",data:=.fields #[.int lo t,.int hi u,.int 2 v] }).objs.size],_,_,H,rfl,
  I1.kept (t':=tk) fun b o e=>Heap.get?_push_of_some _ e,M0 _ lo n,?_,fun b hb=>?_,q⟩
 ·have e1:lo+((0:Nat):Int)*2=lo:=by simp
  have e2:(n:Int)-((0:Nat):Int)=Builtin.Range.rangeSize lo hi 2:=by rw [MI h hn];simp
  show IsRangeIter _ _ (lo+((0:Nat):Int)*2) ((n:Int)-((0:Nat):Int)) 2
  rw [e1,e2]
  exact Heap.get?_push_size _ rfl
 ·have e:b=(s.heap.push { cls:=.type "range",data:=.fields #[.int lo t,.int hi u,.int 2 v] }).objs.size:=by simpa using hb
  subst e
  exact I1.fpOk (Nat.le_refl _) (I1.hok.fresh (Nat.le_refl _))
def Bb (lo:Int) (n:Nat):List Dat:=(List.range n).map fun i=>.int (lo+(i:Nat)*2)
theorem U9 {K:PySem.W.Frag} {H:Hp} {lo:Int} {n:Nat}:Wk K (Uo lo n) H G (Bb lo n):=by
 intro H' G' e
 refine ⟨fun i d hd=>?_,by show n≤(Bb lo n).length;simp [Bb]⟩
 have hi:i<n:=by
  have:=(List.getElem?_eq_some_iff.mp hd).1
  simpa [Bb]using this
 refine ⟨hi,fun x Uh ⟨e1,e2⟩=>?_⟩
 subst e1;subst e2
 refine ⟨Ext.refl,fun o=>o,fun _=>?_⟩
 have:(Bb lo n)[i]?=some (.int (lo+i*2)):=by simp [Bb,hi]
 rw [this]at hd
 cases hd
 rfl
theorem Lu {lo:Int} {n i:Nat} {d:Dat} (h:(Bb lo n)[i]?=some d):i<n/\d=.int (lo+(i:Nat)*2):=by
 have hi:i<n:=by
  have:=(List.getElem?_eq_some_iff.mp h).1
  simpa [Bb]using this
 refine ⟨hi,?_⟩
 have:(Bb lo n)[i]?=some (.int (lo+i*2)):=by simp [Bb,hi]
 rw [this]at h
 cases h
 rfl
theorem MR (lo:Int) (n:Nat):(Bb lo n).length=n:=by simp [Bb]
def Zd (ta:TA):TI:=fun σ H R=>ta σ H fun vs H1=>∃(i j:Int) (n:Nat),vs=[.int i,.int j,.int 2]/\(0≤i/\i≤j/\j≤100000/\(n:Int)=(j-i+1) / 2)/\R (Uo i n) H1
theorem Q9 {tg:Expr} {ta:TA} {p pos:Pos} (hg:Gl X "range") (hm:X.mg "range"=none) (ha:PA X [a,b,c] ta) (hs:starEach [a,b,c] X.env=(false,eval a X.env)::starEach [b,c] X.env) (TJ:(backTo pos (starEach [b,c] X.env)).any (·.1)=false) :
  PI X tg (.Call (.Name "range" p) [a,b,c] [] pos) (Zd ta):=by
 intro pins s σ H R I h
 refine Call_ (EV I hg hm boot_range (PyProof.Rows.callWith_type1 (thn (ha pos pins s σ H _ I h) fun us s1 ⟨vs,H1,I1,r1,q1⟩=>?_) hs TJ))
 obtain ⟨i,j,n,e,⟨q1,q2,q3,q4⟩,q⟩:=q1
 subst e
 cases r1 with
 |cons r rr=>
  cases rr with
  |cons r' rr=>
   cases rr with
   |cons rB rr=>
    cases rr
    obtain ⟨t,rfl⟩:=r
    obtain ⟨t',rfl⟩:=r'
    obtain ⟨vh,rfl⟩:=rB
    exact call_range_3 (by decide) (RQ I1 q1 q2 q3 q4 q) (Or.inl (PyProof.noPylong_small (by lia)))
theorem Q8 {tg:Expr} {Q:List Dat->Gs->Prop} {i j:Int} (n:Nat) {p:Pos} (hm:X.mg "range"=none) (ha:PX X ρ G a (.int i)) (hb:PX X ρ G b (.int j)) (hc:PX X ρ G c (.int 2)) (h0:0≤i/\i≤j/\j≤100000/\(n:Int)=(j-i+1) / 2) (q:Q (Bb i n) G) (hg:Gl X "range":=by rfl)
  (hs:starEach [a,b,c] X.env=(false,eval a X.env)::starEach [b,c] X.env:=by rfl) (ZJ:starEach [b,c] X.env=(false,eval b X.env)::starEach [c] X.env:=by rfl) (m7:starEach [c] X.env=(false,eval c X.env)::starEach [] X.env:=by rfl) (TJ:(backTo pos (starEach [b,c] X.env)).any (·.1)=false:=by rfl):WI X ρ G tg (.Call (.Name "range" p) [a,b,c] [] pos) Q:=fun pins s σ H I S=>
 Q9 hg hm (BH Ax (BH Ax (BH Ax Cr m7) ZJ) hs) hs TJ pins s σ H _ I ⟨ρ,G,_,ha,S,fun x H1 ⟨_,_,e1,o1,r1,q1,B1⟩=>by
  subst q1;subst B1
  cases (show x=V.int i from r1)
  refine ⟨ρ,_,_,hb,S.ext e1 o1,fun y H2 ⟨_,_,e2,o2,r2,q2,EL⟩=>?_⟩
  subst q2;subst EL
  cases (show y=V.int j from r2)
  refine ⟨ρ,_,_,hc,(S.ext e1 o1).ext e2 o2,fun z H3 ⟨_,_,e3,o3,r3,q3,Zf⟩=>?_⟩
  subst q3;subst Zf
  cases (show z=V.int 2 from r3)
  exact ⟨i,j,n,rfl,h0,_,_,(e1.trans e2).trans e3,o3,U9,q⟩⟩
end
def stM (x y:Sq):Cj:=(Ly x y,Mr x y)
def KQ (ring:List Sq) (k:Nat):Sq:=if k=0 then ring.getD (ring.length-1) (0,0)else ring.getD (k-1) (0,0)
def Bd (ring:List Sq) (b:Nat):Lay:=(List.range ((ring.length-b+1) / 2)).map fun i=>stM (KQ ring (b+2*i)) (ring.getD (b+2*i) (0,0))
def Dp (q:Sq):List Sq:=[(q.1,q.2),(q.1,q.2+1),(q.1+1,q.2+1),(q.1+1,q.2)]
def bj (q:Sq):Lay:=[((q.1,q.2),(q.1,q.2+1)),((q.1+1,q.2),(q.1+1,q.2+1))]
def aj (q:Sq):Lay:=[((q.1,q.2),(q.1+1,q.2)),((q.1,q.2+1),(q.1+1,q.2+1))]
theorem Tn {x y:Sq} (h:AU x y):stM x y=(x,y):=by
 unfold stM Ly Mr
 rw [if_pos h,if_neg fun h2=>AS _ (A7 h h2)]
theorem Sx {x y:Sq} (h:AU y x):stM x y=(y,x):=by
 unfold stM Ly Mr
 rw [if_pos h,if_neg fun h2=>AS _ (A7 h h2)]
theorem YC (q:Sq):Bd (Dp q) 0=aj q:=by
 have e:Bd (Dp q) 0=[stM (q.1+1,q.2) (q.1,q.2),stM (q.1,q.2+1) (q.1+1,q.2+1)]:=by simp [Bd,Dp,KQ,List.range_succ]
 rw [e,Sx (by unfold AU;simp only;lia),Tn (by unfold AU;simp only;lia)]
 rfl
theorem YU (q:Sq):Bd (Dp q) 1=bj q:=by
 have e:Bd (Dp q) 1=[stM (q.1,q.2) (q.1,q.2+1),stM (q.1+1,q.2+1) (q.1+1,q.2)]:=by simp [Bd,Dp,KQ,List.range_succ]
 rw [e,Tn (x:=(q.1,q.2)) (y:=(q.1,q.2+1)) (Or.inr ⟨rfl,show q.2<q.2+1 by lia⟩),Sx (x:=(q.1+1,q.2+1)) (y:=(q.1+1,q.2)) (Or.inr ⟨rfl,show q.2<q.2+1 by lia⟩)]
 rfl
def Wf (l:Lay) (q:Sq):Bool:=(Bd (Dp q) 0).all l.contains||(Bd (Dp q) 1).all l.contains
theorem V8 {F:List Sq} {l:Lay} (I:IsLay F l) {s:Cj} (hs:s∈l):s.1∈F/\s.2∈F:=
 ⟨I.pm.mem_iff.mp (Cf.mpr ⟨s,hs,.inl rfl⟩),I.pm.mem_iff.mp (Cf.mpr ⟨s,hs,.inr rfl⟩)⟩
def Hw:SpD:=fun ds G R=>∃q:Sq,ds=[sq q]/\R (.lst ((Dp q).map sq)) G
def Hz:SpD:=fun ds G R=>∃(ring:List Sq) (b:Nat),ds=[.lst (ring.map sq),.int b]/\b≤1/\1≤ring.length/\ring.length≤1000/\R (.lst ((Bd ring b).map AM)) G
def Gi:SpD:=fun ds G R=>∃l st:Lay,ds=[lay l,.lst (st.map AM)]/\st.length≤1000/\R (.bl (st.all l.contains)) G
def Gu:SpD:=fun ds G R=>∃(l:Lay) (q:Sq),ds=[lay l,sq q]/\R (.bl (Wf l q)) G
def Et:Dat->Bool
 |.tup l=>l.all fun d=>(tyS d).isSome
 |d=>(tyS d).isSome
def FO:Dat->Bool
 |.tup [_,_]=>true
 |_=>false
def Dg:Dat->Bool
 |.tup [.int _,.int _]=>true
 |_=>false
def GS:SpD:=fun ds G R=>∃(d:Dat) (t:String),ds=[d]/\tyS d=some t/\R (.bl (t=="int")) G
def GO:SpD:=fun ds G R=>∃(d:Dat) (t:String),ds=[d]/\tyS d=some t/\R (.bl (FO d)) G
def E8:SpD:=fun ds G R=>∃d:Dat,ds=[d]/\Et d=true/\R (.bl (Dg d)) G
theorem T4 {d:Dat} (h:Et d=true):∃t,tyS d=some t:=by
 cases d<;>first|exact ⟨_,rfl⟩|cases h
theorem UW {d:Dat} (h:Dg d=true):∃q,d=sq q:=by
 unfold Dg at h
 split at h
 ·rename_i a b;exact ⟨(a,b),rfl⟩
 ·cases h
theorem Uz (t:String):(isS t "int"&&!isS t "bool")=(t=="int"):=by
 unfold isS
 by_cases h:t = "int"
 ·subst h;rfl
 ·by_cases h2:t = "bool"
  ·subst h2;rfl
  ·have e1:(t=="int")=false:=by simpa using h
   have e2:(t=="bool")=false:=by simpa using h2
   rw [e1,e2];rfl
theorem IA (t:String):isS t "tuple"=(t=="tuple"):=by
 unfold isS
 rw [show (("tuple":String)=="int")=false from rfl,Bool.and_false,Bool.or_false]
theorem TM {ring:List Sq} {k:Nat} (h:k<ring.length):atI (ring.map sq) (k:Int)=some (sq (ring.getD k (0,0))):=by
 refine LD sq (IM ?_)
 rw [List.getD_eq_getElem?_getD,List.getElem?_eq_getElem h]
 rfl
theorem UO {ring:List Sq} {k:Nat} (h:k<ring.length):atI (ring.map sq) ((k:Int)-1)=some (sq (KQ ring k)):=by
 unfold KQ
 by_cases h0:k=0
 ·subst h0
  rw [if_pos rfl]
  refine LD sq ?_
  unfold atI ixN
  rw [if_neg (by lia),if_pos (by lia)]
  have e:(((0:Nat):Int)-1+(ring.length:Int)).toNat=ring.length-1:=by lia
  have e2:ring[ring.length-1]?=some (ring.getD (ring.length-1) (0,0)):=by
   rw [List.getD_eq_getElem?_getD,List.getElem?_eq_getElem (by lia)]
   rfl
  show ring[_]?=_
  rw [e]
  exact e2
 ·rw [if_neg h0]
  have e:((k:Int)-1)=((k-1:Nat):Int):=by lia
  rw [e]
  exact TM (by lia)
structure Zt (h:Heap) (z TI TO i1 i2 l1 l2:Addr) (f0:Value) (k:Nat) (xs ys:Array Value):Prop where
 hz:IsZip h z TI TO f0
 hI:IsPair h TI (.ref i1) (.ref i2)
 hO:∃a b,IsPair h TO a b
 h1:h.IsTupleIter i1 l1 k
 h2:h.IsTupleIter i2 l2 k
 t1:h.IsTuple l1 xs
 t2:h.IsTuple l2 ys
section
variable {prog:Program}{w:World}{A:Around}{E:Value->Shared->Prop}{s:Shared}{z TI TO i1 i2 l1 l2:Addr}{k:Nat}{xs ys:Array Value}{x y:Value}
theorem Ih {Q:Fin->Shared->Prop} (D:ZipApart z TI TO i1 i2 l1 l2) (Z:Zt s.heap z TI TO i1 i2 l1 l2 .none k xs ys)
  (go:∀h1,IsZip h1 z TI TO .ellipsis->Heap.SameBut z s.heap h1->(match xs[k]? with
   |none=>∀h2 e,Heap.ExtBut i1 h1 h2->(∃o,h2.get? e=some o/\o.cls=.type "StopIteration")->wpAny (model prog w) A (setField (.ref z) 0 .none) (fun _ s'=>E (.ref e) s') E { s with heap:=h2 }
   |some x=>∀h2 h3 b,h2.IsTupleIter i1 l1 (k+1)->Heap.SameBut i1 h1 h2->IsPair h3 TO x b->Heap.SameBut TO h2 h3->(match ys[k]? with
    |none=>∀h4 e,Heap.ExtBut i2 h3 h4->(∃o,h4.get? e=some o/\o.cls=.type "StopIteration")->wpAny (model prog w) A (setField (.ref z) 0 .none) (fun _ s'=>E (.ref e) s') E { s with heap:=h4 }
    |some y=>∀h4 h5,h4.IsTupleIter i2 l2 (k+1)->Heap.SameBut i2 h3 h4->IsPair h5 TO x y->Heap.SameBut TO h4 h5 →
      wpAny (model prog w) A (do let result <-newTuple [x,y];Builtin.SmallTypes.ownedTupleHandOut (.ref z) result;ret result) Q E { s with heap:=h5 })))
  (hh:A.handled=none):wpAny (model prog w) A (Builtin.«zip.__next__» ⟨[.ref z],[]⟩) Q E s:=by
 obtain ⟨a,b,hO⟩:=Z.hO
 have hz:=Z.hz
 show wpAny _ _ (field (.ref z) 2 >>= _) _ _ _
 refine wpAny_bind (wpAny_field hz rfl (x:=.bool false) rfl ?_)
 show wpAny _ _ (field (.ref z) 3 >>= _) _ _ _
 refine wpAny_bind (wpAny_field hz rfl (x:=.ref TI) rfl (wpAny_bind (wpAny_seqItems Z.hI rfl ?_)))
 show wpAny _ _ (Builtin.SmallTypes.ownedTupleIsFree (.ref z) >>= _) _ _ _
 refine wpAny_bind ?_
 unfold Builtin.SmallTypes.ownedTupleIsFree
 refine wpAny_bind (wpAny_field hz rfl (x:=.none) rfl (wpAny_pure ?_))
 simp only [if_true]
 refine wpAny_bind (wpAny_rule (wpAny_bind (wpAny_field hz rfl (x:=.ref TO) rfl (wpAny_bind (wpAny_setField_rec hz (by simp) fun h1 TY s1=>wpAny_bind ?_)))))
 replace TY:IsZip h1 z TI TO .ellipsis:=TY
 have G:=go h1 TY s1
 have a1:h1.IsTupleIter i1 l1 k:=Z.h1.at fun o e=>s1.extBut _ o D.i1z e
 have a2:h1.IsTuple l1 xs:=Z.t1.extBut s1.extBut D.l1z
 have a3:IsPair h1 TO a b:=s1.extBut _ _ D.TOz hO
 simp only [List.zipIdx_cons,List.zipIdx_nil,List.forIn_cons,List.forIn_nil]
 refine wpAny_bind (wpAny_bind (wpAny_onRaise ?_))
 show wpAny _ _ (Builtin.SmallTypes.nextOf (.ref i1) >>= _) _ _ _
 cases hx:xs[k]? with
 |none=>
  rw [hx]at G
  exact wpAny_bind (Kg hh a1 a2 hx fun h2 e s2 he=>G h2 e s2 he)
 |some x=>
  rw [hx]at G
  refine wpAny_bind (IV a1 a2 hx fun h2 b1 s2=>wpAny_pure ?_)
  have b3:IsPair h2 TO a b:=s2.extBut _ _ D.TOi1 a3
  refine wpAny_bind (wpAny_seqItems b3 rfl (wpAny_bind (wpAny_updateSeq_pair b3 fun h3 c3 s3=>wpAny_bind (wpAny_letGo (wpAny_pure ?_)))))
  replace c3:IsPair h3 TO x b:=c3
  have G2:=G h2 h3 b b1 s2 c3 s3
  refine wpAny_bind (wpAny_bind (wpAny_onRaise ?_))
  show wpAny _ _ (Builtin.SmallTypes.nextOf (.ref i2) >>= _) _ _ _
  have e1:h3.IsTupleIter i2 l2 k:=Z.h2.at fun o e=>s3.extBut _ o D.TOi2.symm (s2.extBut _ o D.i12.symm (s1.extBut _ o D.i2z e))
  have e2:h3.IsTuple l2 ys:=((Z.t2.extBut s1.extBut D.l2z).extBut s2.extBut D.l2i1).extBut s3.extBut D.l2TO
  cases hy:ys[k]? with
  |none=>
   rw [hy]at G2
   exact wpAny_bind (Kg hh e1 e2 hy fun h4 e s4 he=>G2 h4 e s4 he)
  |some y=>
   rw [hy]at G2
   refine wpAny_bind (IV e1 e2 hy fun h4 d1 s4=>wpAny_pure ?_)
   have d3:IsPair h4 TO x b:=s4.extBut _ _ D.TOi2 c3
   refine wpAny_bind (wpAny_seqItems d3 rfl (wpAny_bind (wpAny_updateSeq_pair d3 fun h5 f3 s5=>wpAny_bind (wpAny_letGo (wpAny_pure (wpAny_pure ?_))))))
   replace f3:IsPair h5 TO x y:=f3
   exact wpAny_bind (wpAny_seqItems f3 rfl (G2 h4 h5 d1 s4 f3 s5))
theorem Qt {Q:Option Value->Shared->Prop} (hh:A.in1.handled=none) (D:ZipApart z TI TO i1 i2 l1 l2) (Z:Zt s.heap z TI TO i1 i2 l1 l2 .none k xs ys) (hx:xs[k]?=some x) (hy:ys[k]?=some y)
  (hQ:∀h',Zt h' z TI TO i1 i2 l1 l2 (rawInt s.heap.objs.size) (k+1) xs ys->IsPair h' s.heap.objs.size x y->(∀c o,c≠z->c≠TO->c≠i1->c≠i2->s.heap.get? c=some o->h'.get? c=some o)->Q (some (.ref s.heap.objs.size)) { s with heap:=h' }) :
  wpAny (model prog w) A (pyNext (.ref z)) Q E s:=by
 have hT:s.TypeIs (.ref z) "zip":=⟨_,Z.hz,rfl⟩
 unfold pyNext
 refine wpAny_bind (wpAny_attempt (wpAny_callSpecial?_slot (name:=Str.ofString "__next__") hT F.slot_zip_next (wpAny_call_entry F.slot_zip_next hT F.entry_zip_next ?_ (F.args_zip_next_1 _))))
 refine Ih D Z (fun h1 TY s1=>?_) hh
 rw [hx]
 intro h2 h3 b b1 s2 c3 s3
 rw [hy]
 intro h4 h5 d1 s4 f3 s5
 have hsz:h5.objs.size=s.heap.objs.size:=by rw [s5.1,s4.1,s3.1,s2.1,s1.1]
 have nk:IsZip h5 z TI TO .ellipsis:=s5.extBut _ _ D.TOz.symm (s4.extBut _ _ D.i2z.symm (s3.extBut _ _ D.TOz.symm (s2.extBut _ _ D.i1z.symm TY)))
 have k5:∀c o,c≠z->c≠TO->c≠i1->c≠i2->s.heap.get? c=some o->h5.get? c=some o:=fun c o c1 c2 c3 c4 e=>s5.extBut _ _ c2 (s4.extBut _ _ c4 (s3.extBut _ _ c2 (s2.extBut _ _ c3 (s1.extBut _ _ c1 e))))
 have g1:h5.IsTupleIter i1 l1 (k+1):=b1.at fun o e=>s5.extBut _ o D.TOi1.symm (s4.extBut _ o D.i12 (s3.extBut _ o D.TOi1.symm e))
 have g2:h5.IsTupleIter i2 l2 (k+1):=d1.at fun o e=>s5.extBut _ o D.TOi2.symm e
 have zl:z<h5.objs.size:=Heap.lt_size nk
 refine wpAny_bind (wpAny_newTuple (wpAny_bind ?_))
 unfold Builtin.SmallTypes.ownedTupleHandOut
 have qh:IsZip (h5.push { cls:=.type "tuple",data:=.seq #[x,y] }) z TI TO .ellipsis:=Heap.get?_push_of_some _ nk
 refine wpAny_bind (wpAny_setField_rec qh (by simp) fun h7 lW s7=>?_)
 replace lW:IsZip h7 z TI TO (rawInt h5.objs.size):=lW
 refine wpAny_setField_rec lW (by simp) fun h8 dN s8=>?_
 replace dN:IsZip h8 z TI TO (rawInt h5.objs.size):=dN
 have up:∀c o,c≠z->h5.get? c=some o->h8.get? c=some o:=fun c o c1 e=>s8.extBut _ _ c1 (s7.extBut _ _ c1 (Heap.get?_push_of_some _ e))
 have nz:IsPair h8 h5.objs.size x y:=s8.extBut _ _ (Nat.ne_of_gt zl) (s7.extBut _ _ (Nat.ne_of_gt zl) (Heap.get?_push_size _ rfl))
 rw [hsz]at dN nz
 refine wpAny_pure ⟨_,rfl,wpAny_pure ?_⟩
 show Q (some (.ref h5.objs.size)) _
 rw [hsz]
 have kk:∀c o,c≠z->c≠TO->c≠i1->c≠i2->s.heap.get? c=some o->h8.get? c=some o:=fun c o c1 c2 c3 c4 e=>up c o c1 (k5 c o c1 c2 c3 c4 e)
 refine hQ h8 ⟨dN,kk _ _ D.TIz D.TITO D.TIi1 D.TIi2 Z.hI,⟨x,y,up _ _ D.TOz f3⟩,g1.at fun o e=>up _ o D.i1z e,g2.at fun o e=>up _ o D.i2z e,Z.t1.at fun o e=>kk _ o D.l1z D.l1TO D.l1i1 D.l1i2 e,Z.t2.at fun o e=>kk _ o D.l2z D.l2TO D.l2i1 D.l2i2 e⟩ nz kk
theorem UE {Q:Option Value->Shared->Prop} (hh:A.in1.handled=none) (D:ZipApart z TI TO i1 i2 l1 l2) (Z:Zt s.heap z TI TO i1 i2 l1 l2 .none k xs ys) (ik:xs[k]?=none\/ys[k]?=none)
  (hQ:∀h',(∀c o,c≠z->c≠TO->c≠i1->c≠i2->s.heap.get? c=some o->h'.get? c=some o)->Q none { s with heap:=h' }):wpAny (model prog w) A (pyNext (.ref z)) Q E s:=by
 have hT:s.TypeIs (.ref z) "zip":=⟨_,Z.hz,rfl⟩
 unfold pyNext
 refine wpAny_bind (wpAny_attempt (wpAny_callSpecial?_slot (name:=Str.ofString "__next__") hT F.slot_zip_next (wpAny_call_entry F.slot_zip_next hT F.entry_zip_next ?_ (F.args_zip_next_1 _))))
 refine Ih D Z (fun h1 TY s1=>?_) hh
 cases hx:xs[k]? with
 |none=>
  intro h2 e s2 ⟨oe,SR,Zr⟩
  have W9:IsZip h2 z TI TO .ellipsis:=s2 _ _ D.i1z.symm TY
  have jf:e≠z:=fun x=>by subst x;rw [W9]at SR;cases SR;simp at Zr
  refine wpAny_setField_rec W9 (by simp) fun h3 _ s3=>?_
  refine wpAny_bind (wpAny_isInstance (T:="StopIteration") (b:=true) ⟨oe,s3.extBut _ _ jf SR,Zr⟩ isSubtype_stop (wpAny_pure (hQ h3 fun c o c1 _ c3 _ x=>?_)))
  exact s3.extBut _ _ c1 (s2 _ _ c3 (s1.extBut _ _ c1 x))
 |some x=>
  have hy:ys[k]?=none:=by rcases ik with h|h;rw [hx]at h;cases h;exact h
  intro h2 h3 b b1 s2 c3 s3
  rw [hy]
  intro h4 e s4 ⟨oe,SR,Zr⟩
  have m8:IsZip h4 z TI TO .ellipsis:=s4 _ _ D.i2z.symm (s3.extBut _ _ D.TOz.symm (s2.extBut _ _ D.i1z.symm TY))
  have jf:e≠z:=fun x=>by subst x;rw [m8]at SR;cases SR;simp at Zr
  refine wpAny_setField_rec m8 (by simp) fun h5 _ s5=>?_
  refine wpAny_bind (wpAny_isInstance (T:="StopIteration") (b:=true) ⟨oe,s5.extBut _ _ jf SR,Zr⟩ isSubtype_stop (wpAny_pure (hQ h5 fun c o c1 c2 c3 c4 x=>?_)))
  exact s5.extBut _ _ c1 (s4 _ _ c4 (s3.extBut _ _ c2 (s2.extBut _ _ c3 (s1.extBut _ _ c1 x))))
end
abbrev zO (I O:Addr):Obj:={ cls:=.type "zip",data:=.fields #[.none,.bool false,.bool false,.ref I,.ref O] }
abbrev prO (a b:Value):Obj:={ cls:=.type "tuple",data:=.seq #[a,b] }
abbrev zq2 (h:Heap) (a b:Addr):Heap:=(h.push (tiO a)).push (tiO b)
abbrev zq3 (h:Heap) (a b:Addr):Heap:=(zq2 h a b).push (prO (.ref h.objs.size) (.ref (h.push (tiO a)).objs.size))
abbrev zq4 (h:Heap) (a b:Addr):Heap:=(zq3 h a b).push (prO .none .none)
abbrev zq5 (h:Heap) (a b:Addr):Heap:=(zq4 h a b).push (zO (zq2 h a b).objs.size (zq3 h a b).objs.size)
theorem Ob (a b:Addr) (xs ys:Array Value) :
  Meets (Builtin.«zip.__new__» ⟨[.type "zip",.ref a,.ref b],[]⟩) (fun _ R s=>s.heap.IsTuple a xs/\s.heap.IsTuple b ys/\R (.ok (.ret (.ref (zq4 s.heap a b).objs.size))) { s with heap:=zq5 s.heap a b }):=
 .of_wp fun prog w A R s h=>by
  obtain ⟨hp,g,d,tk,os⟩:=s
  obtain ⟨t1,t2,h⟩:=h
  have Ks:=sub_zip
  have q1:Heap.IsTuple (Shared.heap ⟨hp,g,d,tk,os⟩) a xs:=t1
  have q2:Heap.IsTuple (Shared.heap ⟨hp.push (tiO a),g,d,tk,os⟩) b ys:=Heap.IsTuple.push t2 _
  wp_walk using wpAny_pyIter_tuple q1,wpAny_pyIter_tuple q2
  exact ⟨_,rfl,h⟩
section
variable {prog:Program}{w:World}{A:Around}{E:Value->Shared->Prop}{s:Shared}
theorem Qw {a b:Addr} {xs ys:Array Value} {Q:Value->Shared->Prop} (t1:s.heap.IsTuple a xs) (t2:s.heap.IsTuple b ys)
  (h:∀h',Zt h' (s.heap.objs.size+4) (s.heap.objs.size+2) (s.heap.objs.size+3) s.heap.objs.size (s.heap.objs.size+1) a b .none 0 xs ys->(∀c o,s.heap.get? c=some o->h'.get? c=some o)->Q (.ref (s.heap.objs.size+4)) { s with heap:=h' }) :
  wpAny (model prog w) A (call (.type "zip") [.ref a,.ref b]) Q E s:=by
 refine callType_new F.called_zip (by decide) (F.typeCall_zip_2 _ _) (F.newCall_zip_2 _ _) (fun obj=>F.args_object_init_3 obj _ _) F.entry_zip_new (Ob a b xs ys) ⟨t1,t2,?_⟩
 have z1:(s.heap.push (tiO a)).objs.size=s.heap.objs.size+1:=Heap.size_push ..
 have z2:(zq2 s.heap a b).objs.size=s.heap.objs.size+2:=by rw [Heap.size_push,z1]
 have z3:(zq3 s.heap a b).objs.size=s.heap.objs.size+3:=by rw [Heap.size_push,z2]
 have z4:(zq4 s.heap a b).objs.size=s.heap.objs.size+4:=by rw [Heap.size_push,z3]
 have g5:(zq5 s.heap a b).get? (zq4 s.heap a b).objs.size=some (zO (zq2 s.heap a b).objs.size (zq3 s.heap a b).objs.size):=Heap.get?_push_size _ rfl
 have g4:(zq5 s.heap a b).get? (zq3 s.heap a b).objs.size=some (prO .none .none):=Heap.get?_push_of_some _ (Heap.get?_push_size _ rfl)
 have g3:(zq5 s.heap a b).get? (zq2 s.heap a b).objs.size=some (prO (.ref s.heap.objs.size) (.ref (s.heap.push (tiO a)).objs.size)):=Heap.get?_push_of_some _ (Heap.get?_push_of_some _ (Heap.get?_push_size _ rfl))
 have g2:(zq5 s.heap a b).get? (s.heap.push (tiO a)).objs.size=some (tiO b):=Heap.get?_push_of_some _ (Heap.get?_push_of_some _ (Heap.get?_push_of_some _ (Heap.get?_push_size _ rfl)))
 have g1:(zq5 s.heap a b).get? s.heap.objs.size=some (tiO a):=Heap.get?_push_of_some _ (Heap.get?_push_of_some _ (Heap.get?_push_of_some _ (Heap.get?_push_of_some _ (Heap.get?_push_size _ rfl))))
 have kp:∀c o,s.heap.get? c=some o->(zq5 s.heap a b).get? c=some o:=fun c o e=>Heap.get?_push_of_some _ (Heap.get?_push_of_some _ (Heap.get?_push_of_some _ (Heap.get?_push_of_some _ (Heap.get?_push_of_some _ e))))
 show _/\_
 rw [z2,z3,z4]at g5
 rw [z1,z2]at g3
 rw [z3]at g4
 rw [z1]at g2
 rw [z4]
 exact ⟨⟨_,g5,rfl⟩,h _ ⟨g5,g3,⟨_,_,g4⟩,⟨_,g1,rfl,rfl⟩,⟨_,g2,rfl,rfl⟩,t1.at fun o e=>kp _ o e,t2.at fun o e=>kp _ o e⟩ kp⟩
end
def Itz (K:PySem.W.Frag) (a b:Addr):It:=
 ⟨fun i H=>∃xs ys x y,SqT K H a xs/\SqT K H b ys/\xs[i]?=some x/\ys[i]?=some y,fun i H v H'=>∃x y T,H T=none/\v=.ref T/\H'=upd H T (.tup [x,y])/\(∀xs,SqT K H a xs->xs[i]?=some x)/\∀ys,SqT K H b ys->ys[i]?=some y,
  fun i H=>∃xs ys,SqT K H a xs/\SqT K H b ys/\(xs.length≤i\/ys.length≤i)⟩
def Zs (z TI TO i1 i2 l1 l2:Addr) (i:Nat) (h:Heap):Prop:=IsZip h z TI TO .none/\IsPair h TI (.ref i1) (.ref i2)/\(∃a b,IsPair h TO a b)/\h.IsTupleIter i1 l1 i/\h.IsTupleIter i2 l2 i
theorem UP {P:Program} {w:World} {K:PySem.W.Frag} {elts:List Expr} {x1:Nat} {pos:Pos} {z TI TO i1 i2 a b:Addr} (D:ZipApart z TI TO i1 i2 a b):Turn P w K (.Tuple elts x1 pos) (Itz K a b) [z,TI,TO,i1,i2] z (Zs z TI TO i1 i2 a b) where
 mem:=by simp
 obj:=fun i h st c hc=>by
  obtain ⟨s1,s2,⟨x,y,s3⟩,⟨o4,s4,c4,d4⟩,⟨o5,s5,c5,d5⟩⟩:=st
  simp only [List.mem_cons,List.not_mem_nil,or_false]at hc
  rcases hc with rfl|rfl|rfl|rfl|rfl
  ·exact ⟨_,s1,fun v z=>by cases z⟩
  ·exact ⟨_,s2,fun v z=>by cases z⟩
  ·exact ⟨_,s3,fun v z=>by cases z⟩
  ·exact ⟨o4,s4,fun v z=>by rw [d4]at z;cases z⟩
  ·exact ⟨o5,s5,fun v z=>by rw [d5]at z;cases z⟩
 keep:=fun i h h' st k=>by
  obtain ⟨s1,s2,⟨x,y,s3⟩,s4,s5⟩:=st
  exact ⟨k z (by simp) _ s1,k TI (by simp) _ s2,⟨x,y,k TO (by simp) _ s3⟩,s4.at fun o e=>k i1 (by simp) o e,s5.at fun o e=>k i2 (by simp) o e⟩
 item:=by
  intro X hP hw hK hc i pins s σ H E I hf st hg
  subst hP hw hK
  obtain ⟨xs,ys,x,y,dS,ck,hx,hy⟩:=hg
  obtain ⟨Xs,dW,p1,TY⟩:=I.tuple dS
  obtain ⟨HM,de,p2,W9⟩:=I.tuple ck
  obtain ⟨u1,X2,sQ⟩:=dW.get hx
  obtain ⟨u2,Ow,uU⟩:=de.get hy
  obtain ⟨s1,s2,s3,s4,s5⟩:=st
  refine Qt (by simpa using I.ok.hd hc) D ⟨s1,s2,s3,s4,s5,p1,p2⟩ (by simpa using X2) (by simpa using Ow) fun h1 Z1 hT hk=>?_
  refine ⟨_,rfl,wpAny_letOwnedTupleGo_zip (s:={ s with heap:=h1 }) Z1.hz fun h2 eC sb=>?_⟩
  have Jw:∀c o,c≠z->h1.get? c=some o->h2.get? c=some o:=fun c o hb q=>sb.extBut c o hb q
  have Qp:H s.heap.objs.size=none:=I.hok.fresh (Nat.le_refl _)
  have su:z<s.heap.objs.size:=Heap.lt_size s1
  have FF:∀c o,c∉[z,TI,TO,i1,i2]->s.heap.get? c=some o->h2.get? c=some o:=fun c o hm q=>by
   simp only [List.mem_cons,List.not_mem_nil,or_false,not_or]at hm
   exact Jw c o hm.1 (hk c o hm.1 hm.2.2.1 hm.2.2.2.1 hm.2.2.2.2 q)
  have Ni:∀c o,H c=some o->c∉[z,TI,TO,i1,i2]:=fun c o q hm=>by
   have:=(hf c hm).1
   rw [q]at this
   cases this
  have un:Un (frs X.stack) [z,TI,TO,i1,i2] H (upd H s.heap.objs.size (.tup [x,y])) s.heap h2:=by
   refine ⟨fun c o q n hb hc=>FF c o hc q,fun c o q n hb hc=>⟨o.slots,FF c o hc q⟩,fun c o q n hc=>?_,fun c o q hc=>⟨o,FF c o hc q⟩,fun c ys q=>?_,fun c o v q=>?_,fun c ps q=>⟨#[],?_⟩⟩
   ·rw [AX (Nat.ne_of_lt (Heap.lt_size q))];exact n
   ·rw [AX (AW q Qp)];exact q
   ·rw [AX (AW q Qp)];exact q
   ·rw [AX (AW q Qp),q];simp
  have hok:HOk X.prog X.w (upd H s.heap.objs.size (.tup [x,y])) h2:=fun c v q=>by
   by_cases hb:c=s.heap.objs.size
   ·subst hb
    rw [Bm]at q
    cases q
    exact ⟨by show 2≤sizeLine;rw [sizeLine_eq];decide,[u1,u2],.cons sQ (.cons uU .nil),_,Jw _ _ (Nat.ne_of_gt su) hT,rfl,_,rfl⟩
   ·rw [AX hb]at q
    refine (I.hok c v q).stay (fun e o hc r=>?_) (fun e r=>by rw [AX (AW r Qp)];exact r) fun e ys r=>by rw [AX (AW r Qp)];exact r
    rcases hc with rfl|hc
    ·exact FF _ o (Ni _ _ q) r
    ·exact FF e o (Ni _ _ hc) r
  have I1:Inv X pins σ (upd H s.heap.objs.size (.tup [x,y])) { s with heap:=h2 }:=I.call' (s':={ s with heap:=h2 }) rfl un hok I.bare fun c hb=>by
   have:=hf c hb
   exact ⟨this.2.2.2.1,this.2.1,this.2.2.2.2.1,this.2.2.2.2.2⟩
  refine ⟨.ref s.heap.objs.size,_,I1,rfl,⟨x,y,_,Qp,rfl,rfl,fun zs Yw=>by rw [I.tuple_inj Yw dS];exact hx,fun zs Yw=>by rw [I.tuple_inj Yw ck];exact hy⟩,⟨eC,Jw _ _ D.TIz Z1.hI,?_,Z1.h1.at fun o e=>Jw _ o D.i1z e,Z1.h2.at fun o e=>Jw _ o D.i2z e⟩,fun c hb=>?_⟩
  ·obtain ⟨a',b',e⟩:=Z1.hO
   exact ⟨a',b',Jw _ _ D.TOz e⟩
  ·have Bs:c<s.heap.objs.size:=by
    simp only [List.mem_cons,List.not_mem_nil,or_false]at hb
    obtain ⟨a',b',s3⟩:=s3
    obtain ⟨o4,s4,_⟩:=s4
    obtain ⟨o5,s5,_⟩:=s5
    rcases hb with rfl|rfl|rfl|rfl|rfl
    ·exact Heap.lt_size s1
    ·exact Heap.lt_size s2
    ·exact Heap.lt_size s3
    ·exact Heap.lt_size s4
    ·exact Heap.lt_size s5
   rw [AX (Nat.ne_of_lt Bs)]
   exact (hf c hb).1
 done:=by
  intro X hP hw hK hc i pins s σ H E I hf st hg
  subst hP hw hK
  obtain ⟨xs,ys,dS,ck,Xa⟩:=hg
  obtain ⟨Xs,dW,p1,TY⟩:=I.tuple dS
  obtain ⟨HM,de,p2,W9⟩:=I.tuple ck
  obtain ⟨s1,s2,s3,s4,s5⟩:=st
  have l1:=dW.length
  have l2:=de.length
  refine UE (by simpa using I.ok.hd hc) D ⟨s1,s2,s3,s4,s5,p1,p2⟩ (Xa.imp (fun h=>by simp;lia) fun h=>by simp;lia) fun h' hk=>⟨rfl,?_⟩
  have FF:∀c o,c∉[z,TI,TO,i1,i2]->s.heap.get? c=some o->h'.get? c=some o:=fun c o hm q=>by
   simp only [List.mem_cons,List.not_mem_nil,or_false,not_or]at hm
   exact hk c o hm.1 hm.2.2.1 hm.2.2.2.1 hm.2.2.2.2 q
  have Ni:∀c o,H c=some o->c∉[z,TI,TO,i1,i2]:=fun c o q hm=>by
   have:=(hf c hm).1
   rw [q]at this
   cases this
  refine I.call' (s':={ s with heap:=h' }) rfl ⟨fun c o q n hb hc=>FF c o hc q,fun c o q n hb hc=>⟨o.slots,FF c o hc q⟩,fun c o q n hc=>n,fun c o q hc=>⟨o,FF c o hc q⟩,fun c ys q=>q,fun c o v q=>q,fun c ps q=>⟨#[],by rw [q];simp⟩⟩ (fun c v q=>?_) I.bare fun c hb=>?_
  ·refine (I.hok c v q).stay (fun e o hc r=>?_) (fun e r=>r) fun e ys r=>r
   rcases hc with rfl|hc
   ·exact FF _ o (Ni _ _ q) r
   ·exact FF e o (Ni _ _ hc) r
  ·have:=hf c hb
   exact ⟨this.2.2.2.1,this.2.1,this.2.2.2.2.1,this.2.2.2.2.2⟩
 self:=fun A i s Q E st h=>wpAny_pyIter_zip st.1 h
def Jq (l m:List Dat):List Dat:=(l.zip m).map fun p=>.tup [p.1,p.2]
theorem Si {l m:List Dat} {i:Nat} {d:Dat} (h:(Jq l m)[i]?=some d):∃x y,l[i]?=some x/\m[i]?=some y/\d=.tup [x,y]:=by
 unfold Jq at h
 rw [List.getElem?_map]at h
 obtain ⟨p,hp,rfl⟩:=Option.map_eq_some_iff.mp h
 rw [List.getElem?_zip_eq_some]at hp
 exact ⟨p.1,p.2,hp.1,hp.2,rfl⟩
theorem Xx {K:PySem.W.Frag} {G:Gs} {l m:List Dat} {H:Hp} {a b:Addr} {vs ws:List V} (h1:SqT K (hid H G) a vs) (r1:RepL K (hid H G) l vs) (h2:SqT K (hid H G) b ws) (r2:RepL K (hid H G) m ws):Wk K (Itz K a b) H G (Jq l m):=by
 intro H' G' e
 have Vd:=Ar AK (Ar e.hid h1)
 have Ua:=Ar AK (Ar e.hid h2)
 refine ⟨fun i d hd=>?_,vs,ws,Vd,Ua,?_⟩
 ·obtain ⟨x,y,hx,hy,rfl⟩:=Si hd
  obtain ⟨v,hv,rv⟩:=r1.get hx
  obtain ⟨u,hu,ru⟩:=r2.get hy
  refine ⟨⟨vs,ws,v,u,Vd,Ua,hv,hu⟩,fun xx Uh hh=>?_⟩
  obtain ⟨x',y',T,hT,rfl,rfl,g1,g2⟩:=hh
  have e1:=g1 vs Vd
  have e2:=g2 ws Ua
  rw [hv]at e1
  rw [hu]at e2
  cases e1
  cases e2
  refine ⟨Ext.alloc hT,fun o=>o.alloc hT,fun o=>?_⟩
  rw [Rep]
  exact ⟨T,[v,u],rfl,SqT.of (G6 (o.free hT) Bm),RepL.cons ((rv.same e.hid).same (Ext.alloc hT).hid) (RepL.cons ((ru.same e.hid).same (Ext.alloc hT).hid) RepL.nil)⟩
 ·have l1:=r1.length
  have l2:=r2.length
  unfold Jq
  rw [List.length_map,List.length_zip,l1,l2]
  lia
section
variable {X:Cx}{ρ:Rho}{G:Gs}{a b:Expr}{l m:List Dat}{pos p1:Pos}{elts:List Expr}{x1:Nat}{U7:Pos}
theorem Yx {Q:List Dat->Gs->Prop} (hm:X.mg "zip"=none) (ha:PX X ρ G a (.tup l)) (hb:PX X ρ G b (.tup m)) (q:Q (Jq l m) G) (hg:Gl X "zip":=by rfl) (he:starEach [a,b] X.env=(false,eval a X.env)::starEach [b] X.env:=by rfl) (he2:starEach [b] X.env=(false,eval b X.env)::starEach [] X.env:=by rfl)
  (hpl:(backTo pos (starEach [b] X.env)).any (·.1)=false:=by rfl):WI X ρ G (.Tuple elts x1 U7) (.Call (.Name "zip" p1) [a,b] [] pos) Q:=by
 intro pins s σ H I S
 refine wpAny_Call_Name_kw (EV I hg hm (by decide +kernel:bootBuiltins "zip"=some (.type "zip")) ?_ (by decide) (by decide))
 have NL:PXs X ρ G [a,b] [.tup l,.tup m]:=AA ha (AA hb AE he2) he
 refine PyProof.Rows.callWith_type1 (thn (NL pos pins s σ H I S) fun us s1 ⟨vs,H1,I1,rv,d',G1,e1,o1,rep,q1,q2⟩=>?_) he hpl
 subst q1;subst q2
 rw [RepL]at rep
 obtain ⟨v1,r1,rfl,ra,rep⟩:=rep
 rw [RepL]at rep
 obtain ⟨v2,r2,rfl,rb,rep⟩:=rep
 rw [RepL]at rep
 subst rep
 rw [Rep]at ra rb
 obtain ⟨pa,as,rfl,h1,g1⟩:=ra
 obtain ⟨pb,bs,rfl,h2,g2⟩:=rb
 obtain ⟨u1,u2,rfl,rh,sT⟩:=Ke rv
 cases rh
 cases sT
 obtain ⟨Xs,dW,ox,TY⟩:=I1.tuple (Ar AK h1)
 obtain ⟨HM,de,oS,W9⟩:=I1.tuple (Ar AK h2)
 have la:pa<s1.heap.objs.size:=by obtain ⟨o,ho,_⟩:=ox;exact Heap.lt_size ho
 have lb:pb<s1.heap.objs.size:=by obtain ⟨o,ho,_⟩:=oS;exact Heap.lt_size ho
 refine Qw (show s1.heap.IsTuple pa Xs.toArray from ox) (show s1.heap.IsTuple pb HM.toArray from oS) fun h' Z hk=>?_
 refine wpAny_pyIter_zip (s:={ s1 with heap:=h' }) Z.hz ?_
 have D:=zipApart_new la lb
 refine ⟨s1.heap.objs.size+4,[s1.heap.objs.size+4,s1.heap.objs.size+2,s1.heap.objs.size+3,s1.heap.objs.size,s1.heap.objs.size+1],_,_,H1,rfl,I1.kept (t':=s1.toks) hk,UP D,⟨Z.hz,Z.hI,Z.hO,Z.h1,Z.h2⟩,fun c hc=>?_,Jq l m,G1,e1,o1,Xx h1 g1 h2 g2,q⟩
 have hle:s1.heap.objs.size≤c:=by
  simp only [List.mem_cons,List.not_mem_nil,or_false]at hc
  rcases hc with rfl|rfl|rfl|rfl|rfl
  ·exact Nat.le_add_right _ 4
  ·exact Nat.le_add_right _ 2
  ·exact Nat.le_add_right _ 3
  ·exact Nat.le_refl _
  ·exact Nat.le_add_right _ 1
 exact I1.fpOk hle (I1.hok.fresh hle)
end
section
variable {X:Cx}{ρ:Rho}{G:Gs}{e a b:Expr}{d d1 d2:Dat}{l m:List Dat}{pos:Pos}{i j k:Int}{p:Addr}{D:DE}{RX:Value->Gs->Prop}{rest:List Stmt}
theorem Qm {Q:Dat->Gs->Prop} (h:WEX X ρ G e Q RX) (hq:∀d G',Q d G'->D.nx ρ G') (hs:swapsWith e none pos.line X.env=pure false:=by rfl):Oc X ρ G [.Expr e pos] D RX:=fun pins s σ H I S=>
 wpAny_execs_cons (wpAny_Expr_any (thn (h pins s σ H I S) fun v s1 ⟨x,H1,I1,r1,d',G1,e1,o1,r2,q1⟩=>wpAny_execs_nil ⟨σ,H1,I1,ρ,G1,e1,S.ext e1 o1,hq _ _ q1⟩) I.quiet hs)
end
section
open AutoSeq1 (wpAny_loadPart')
theorem ZQ (l:Addr) (items:Array Value) (n:Nat) (b:Addr) (Bh:Array Value) (n2:Nat) (dct:Option Addr) (sl:Array (Option Value)) (m7:¬(!items.isEmpty&&Builtin.List.listTooLong (items.size+Bh.size))=true) (ZJ:items.size≤sizeLine) (TJ:items.size+Bh.size≤sizeLine+1) :
  Meets (Builtin.«list.extend» ⟨[.ref l,.ref b],[]⟩) (fun _ R s=>s.heap.get? l=some { cls:=.type "list",dict:=none,data:=.seq items n,slots:=#[] }/\s.heap.get? b=some { cls:=.type "tuple",dict:=dct,data:=.seq Bh n2,slots:=sl }/\R (.ok (.ret Value.none)) { s with heap:=s.heap.update l (Obj.mapSeq fun x=>x++Bh),toks:=s.toks }):=
 .of_wp fun prog w A R s h=>by
  obtain ⟨hp,g,d,tk,os⟩:=s
  obtain ⟨hl,hb,h⟩:=h
  have f1:=AutoSeq1.idx_int
  have f2:=AutoSeq1.sub_tuple_tuple
  have f3:=AutoSeq1.sub_list_list
  have f4:=AutoSeq1.sub_tuple_list
  have f5:=AutoSeq1.sub_list_tuple
  have ic:(items++Bh).size≤sizeLine+1:=by rw [Array.size_append];exact TJ
  wp_walk using (wpAny_updateSeq hl rfl (hz:=ZJ) (_hz':=ic)),wpAny_loadPart' hl,wpAny_loadPart' hb
  exact ⟨_,rfl,h⟩
end
section
variable {X:Cx}{ρ:Rho}{G:Gs}{e a:Expr}{l m:List Dat}{pos:Pos}{D:DE}{rest:List Stmt}
def cZ (K:PySem.W.Frag):V->List V->Hp->VK->Prop:=fun x vs H Q=>∃l b xs zs,x=.ref l/\vs=[.ref b]/\H l=some (.lst xs)/\SqT K H b zs/\xs.length+zs.length≤sizeLine/\Q .non (upd H l (.lst (xs++zs)))
theorem VG:MtM X "list.extend" (cZ X.K):=by
 intro pins s σ H x vs v us Q I rx rv h
 obtain ⟨l,b,xs,zs,rfl,rfl,hH,hB,hz,q⟩:=h
 cases rx
 obtain ⟨u,rfl,ru⟩:=rv.one
 cases ru
 obtain ⟨z,its,n,r,hl,e⟩:=I.lstM hH
 obtain ⟨HM,r2,p2,z2⟩:=I.tuple hB
 obtain ⟨⟨cls,dd,data,sl⟩,ho,hc,n2,hd⟩:=id p2
 simp only at hc hd
 subst hc hd
 have l2:=r2.length
 have hsz:its.toArray.size+HM.toArray.size≤sizeLine:=by rw [List.size_toArray,List.size_toArray,<-hl,<-l2];exact hz
 refine call_meets F.slot_list_extend ⟨_,e,rfl⟩ F.entry_list_extend (F.args_list_extend_2 _ _) (ZQ l its.toArray n b HM.toArray n2 dd sl (by rw [SN hsz,Bool.and_false];exact Bool.false_ne_true) (by lia) (by lia)) ⟨e,ho,?_⟩
 refine ⟨.non,_,I.lset (its':=its++HM) hH e (by simp) (r.append r2) ?_,rfl,q⟩
 rw [List.length_append]
 exact hz
theorem MX {p:Addr} {apos Ay:Pos} (hx:PX X ρ G a (.fn p)) (h:PX X ρ G e (.tup m)) (hG:G p=some (.lst l)) (hz:l.length+m.length≤sizeLine) (q:WSs X ρ (put G p (.lst (l++m))) rest D)
  (Cm:attributeBase a "extend" X.env (eval a X.env)=eval a X.env:=by rfl) (Eb:(apos.endLine==Ay.line)=true:=by rfl) (he:starEach [e] X.env=(false,eval e X.env)::starEach [] X.env:=by rfl)
  (Nt:((backTo Ay (starEach [e] X.env)).all (fun x=>!x.1)&&(backToKw Ay (keywordEach [] X.env)).all (fun x=>x.1.isSome)&&decide (([e]:List Expr).length+([]:List Keyword).length+(if ([]:List Keyword).isEmpty then 0 else 1)<30))=true:=by rfl)
  (hs:swapsWith (.Call (.Attribute a "extend" apos) [e] [] Ay) none pos.line X.env=pure false:=by rfl):WSs X ρ G (.Expr (.Call (.Attribute a "extend" apos) [e] [] Ay) pos::rest) D:=
 Bt (NR (QH (Wm PySem.F.plainAttrs_list PySem.F.slot_list_extend PySem.F.type_list_extend VG Ax (BH Ax Cr he) Cm Nt Eb he rfl) hs) fun σ H S=>⟨ρ,G,_,hx,S,fun x H1 ⟨_,_,e1,o1,r1,q1,B1⟩=>by
  subst q1;subst B1
  cases (show x=V.ref p from r1)
  obtain ⟨fS,h1,_⟩:=o1 p _ hG
  refine ⟨.inl ⟨rfl,fS,SqL.of h1⟩,ρ,_,_,h,S.ext e1 o1,fun y H2 ⟨_,_,e2,o2,r2,q2,EL⟩=>?_⟩
  subst q2;subst EL
  obtain ⟨vs,h2,r3⟩:=o2 p _ hG
  rw [Rep]at r2
  obtain ⟨b,zs,rfl,h4,r4⟩:=r2
  refine ⟨p,b,vs,zs,rfl,rfl,h2,Ar AK h4,by rw [r3.length,r4.length];exact hz,?_⟩
  obtain ⟨E,O⟩:=Hx o2 hG (r3.append r4)
  exact ⟨ρ,_,(e1.trans e2).trans E,S.ext ((e1.trans e2).trans E) O,q⟩⟩)
end
def BJ:Dat->Bool
 |.tup [.int a,.int b]=>(decide (0≤a)&&decide (a≤7))&&(decide (0≤b)&&decide (b≤7))
 |_=>false
def Dt:SpD:=fun ds G R=>∃d:Dat,ds=[d]/\Et d=true/\R (.bl (BJ d)) G
def OF (l:List Dat):Bool:=(l.zip (l.drop 1)).all fun p=>B7 true p.1 p.2
def D6:SpD:=fun ds G R=>∃l:List Dat,ds=[.tup l]/\l.length≤1000/\(∀p∈l.zip (l.drop 1),B2 9 p.1 p.2=true/\AF 9 p.1=true/\AF 9 p.2=true)/\R (.bl (OF l)) G
def okF (d:Dat):Prop:=(∃t,tyS d=some t)/\∀l,d=.tup l->l.length≤1000/\∀x∈l,Et x=true
def isF (d:Dat):Prop:=∃F:List Sq,d=fl F/\Good F
def D9 (B:Addr):SpX:=fun ds G R RX=>∃d:Dat,ds=[d]/\okF d/\(isF d->R d G)/\(¬isF d->RX (.ref B) G)
theorem HC {d:Dat} (h:BJ d=true):∃q:Sq,d=sq q/\0≤q.1/\q.1≤7/\0≤q.2/\q.2≤7:=by
 unfold BJ at h
 split at h
 ·rename_i a b
  rw [Bool.and_eq_true,Bool.and_eq_true,Bool.and_eq_true,decide_eq_true_eq,decide_eq_true_eq,decide_eq_true_eq,decide_eq_true_eq]at h
  exact ⟨(a,b),rfl,h.1.1,h.1.2,h.2.1,h.2.2⟩
 ·cases h
theorem Qo {q:Sq} (h:0≤q.1/\q.1≤7/\0≤q.2/\q.2≤7):BJ (sq q)=true:=by
 unfold BJ sq
 simp only [Bool.and_eq_true,decide_eq_true_eq]
 exact ⟨⟨h.1,h.2.1⟩,h.2.2⟩
theorem Mw {l:List Dat} (h:l.all BJ=true):∃F:List Sq,l=F.map sq/\∀p∈F,0≤p.1/\p.1≤7/\0≤p.2/\p.2≤7:=by
 induction l with
 |nil=>exact ⟨[],rfl,fun _ h=>nomatch h⟩
 |cons d l ih=>
  rw [List.all_cons,Bool.and_eq_true]at h
  obtain ⟨q,rfl,hq⟩:=HC h.1
  obtain ⟨F,rfl,hF⟩:=ih h.2
  refine ⟨q::F,rfl,fun p hp=>?_⟩
  rcases List.mem_cons.mp hp with rfl|hp
  ·exact hq
  ·exact hF p hp
theorem LW:∀F:List Sq,OF (F.map sq)=true↔F.Pairwise AU
 |[]=>⟨fun _=>.nil,fun _=>rfl⟩
 |[a]=>⟨fun _=>List.pairwise_singleton _ _,fun _=>rfl⟩
 |a::b::r=>by
  have ih:=LW (b::r)
  have e:OF ((a::b::r).map sq)=(B7 true (sq a) (sq b)&&OF ((b::r).map sq)):=rfl
  rw [e,Bool.and_eq_true,ih,Jl,decide_eq_true_eq,List.pairwise_cons (l:=b::r)]
  constructor
  ·rintro ⟨h1,h2⟩
   refine ⟨fun c hc=>?_,h2⟩
   rcases List.mem_cons.mp hc with rfl|hc
   ·exact h1
   ·exact A7 h1 ((List.pairwise_cons.mp h2).1 c hc)
  ·rintro ⟨h1,h2⟩
   exact ⟨h1 b (List.mem_cons_self ..),h2⟩
theorem Px (F:List Sq):∀p∈(F.map sq).zip ((F.map sq).drop 1),B2 9 p.1 p.2=true/\AF 9 p.1=true/\AF 9 p.2=true:=by
 intro p hp
 obtain ⟨h1,h2⟩:=List.of_mem_zip (a:=p.1) (b:=p.2) hp
 obtain ⟨x,_,e1⟩:=List.mem_map.mp h1
 obtain ⟨y,_,e2⟩:=List.mem_map.mp (List.mem_of_mem_drop h2)
 rw [<-e1,<-e2]
 exact ⟨rfl,Al x 8,Al y 8⟩
theorem YI {F:List Sq} (h:F.length≤1000):okF (fl F):=⟨⟨_,rfl⟩,fun l e=>by
 unfold fl at e
 injection e with e
 subst e
 refine ⟨by rw [List.length_map];exact h,fun x hx=>?_⟩
 obtain ⟨y,_,rfl⟩:=List.mem_map.mp hx
 rfl⟩
def Lb (q:Sq):Bool:=(decide (0≤q.1)&&decide (q.1≤7))&&(decide (0≤q.2)&&decide (q.2≤7))
theorem Gb {q:Sq}:Lb q=true↔0≤q.1/\q.1≤7/\0≤q.2/\q.2≤7:=by
 unfold Lb
 simp only [Bool.and_eq_true,decide_eq_true_eq]
 lia
def OU (s:Cj):Bool:=decide (AU s.1 s.2)&&(nbM s.1).contains s.2
def Br:Dat->Bool
 |.tup [.tup [.int a,.int b],.tup [.int c,.int d]]=>(Lb (a,b)&&Lb (c,d))&&OU ((a,b),(c,d))
 |_=>false
def O8:Dat->Bool
 |.tup l=>l.all Et
 |d=>(tyS d).isSome
def Ge:SpD:=fun ds G R=>∃d:Dat,ds=[d]/\O8 d=true/\R (.bl (Br d)) G
def Du:SpD:=fun ds G R=>∃l:Lay,ds=[lay l]/\l.length≤1000/\R (.lst ((TSq.sort (A4 l)).map sq)) G
def okL (d:Dat):Prop:=(∃t,tyS d=some t)/\∀l,d=.tup l->l.length≤1000/\∀x∈l,O8 x=true
def isL (F:List Sq) (d:Dat):Prop:=∃l:Lay,d=lay l/\IsLay F l
def Gp (B:Addr):SpX:=fun ds G R RX=>∃(F:List Sq) (d:Dat),ds=[fl F,d]/\Good F/\okL d/\(isL F d->R d G)/\(¬isL F d->RX (.ref B) G)
theorem Q1 {d:Dat} (h:O8 d=true):∃t,tyS d=some t:=by
 cases d<;>first|exact ⟨_,rfl⟩|cases h
theorem NV {d:Dat} (h:Br d=true):∃s:Cj,d=AM s/\Lb s.1=true/\Lb s.2=true/\OU s=true:=by
 unfold Br at h
 split at h
 ·rename_i a b c e
  rw [Bool.and_eq_true,Bool.and_eq_true]at h
  exact ⟨((a,b),(c,e)),rfl,h.1.1,h.1.2,h.2⟩
 ·cases h
theorem Mx (s:Cj):Br (AM s)=((Lb s.1&&Lb s.2)&&OU s):=rfl
theorem JM (q:Sq):BJ (sq q)=Lb q:=rfl
theorem O6 {l:List Dat} (h:l.all Br=true):∃L:Lay,l=L.map AM/\∀s∈L,OU s=true:=by
 induction l with
 |nil=>exact ⟨[],rfl,fun _ h=>nomatch h⟩
 |cons d l ih=>
  rw [List.all_cons,Bool.and_eq_true]at h
  obtain ⟨q,rfl,_,_,hq⟩:=NV h.1
  obtain ⟨F,rfl,hF⟩:=ih h.2
  refine ⟨q::F,rfl,fun p hp=>?_⟩
  rcases List.mem_cons.mp hp with rfl|hp
  ·exact hq
  ·exact hF p hp
def LK (s t:Cj):Prop:=AU s.1 t.1\/(s.1=t.1/\AU s.2 t.2)
theorem Ou {s t u:Cj} (h:LK s t) (h':LK t u):LK s u:=by
 rcases h with h|⟨e,h⟩
 ·rcases h' with h'|⟨e',h'⟩
  ·exact .inl (A7 h h')
  ·exact .inl (e'▸h)
 ·rcases h' with h'|⟨e',h'⟩
  ·exact .inl (e▸h')
  ·exact .inr ⟨e.trans e',A7 h h'⟩
theorem Rj (s t:Cj):B7 true (AM s) (AM t)=true↔LK s t:=by
 have e:B7 true (AM s) (AM t)=if eqD (sq s.1) (sq t.1)then (if eqD (sq s.2) (sq t.2)then false else B7 true (sq s.2) (sq t.2))else B7 true (sq s.1) (sq t.1):=rfl
 rw [e,Fo,Fo,Jl,Jl]
 unfold LK
 by_cases h1:s.1=t.1
 ·rw [if_pos (decide_eq_true h1)]
  by_cases h2:s.2=t.2
  ·rw [if_pos (decide_eq_true h2)]
   refine ⟨fun h=>absurd h (by decide),fun h=>?_⟩
   rcases h with h|h
   ·rw [h1]at h;exact (AS _ h).elim
   ·rw [h2]at h;exact (AS _ h.2).elim
  ·rw [if_neg (by simpa using h2),decide_eq_true_eq]
   refine ⟨fun h=>.inr ⟨h1,h⟩,fun h=>?_⟩
   rcases h with h|h
   ·rw [h1]at h;exact (AS _ h).elim
   ·exact h.2
 ·rw [if_neg (by simpa using h1),decide_eq_true_eq]
  exact ⟨.inl,fun h=>h.resolve_right fun z=>h1 z.1⟩
theorem Oe:∀L:Lay,OF (L.map AM)=true↔L.Pairwise LK
 |[]=>⟨fun _=>.nil,fun _=>rfl⟩
 |[a]=>⟨fun _=>List.pairwise_singleton _ _,fun _=>rfl⟩
 |a::b::r=>by
  have ih:=Oe (b::r)
  have e:OF ((a::b::r).map AM)=(B7 true (AM a) (AM b)&&OF ((b::r).map AM)):=rfl
  rw [e,Bool.and_eq_true,ih,Rj,List.pairwise_cons (l:=b::r)]
  constructor
  ·rintro ⟨h1,h2⟩
   refine ⟨fun c hc=>?_,h2⟩
   rcases List.mem_cons.mp hc with rfl|hc
   ·exact h1
   ·exact Ou h1 ((List.pairwise_cons.mp h2).1 c hc)
  ·rintro ⟨h1,h2⟩
   exact ⟨h1 b (List.mem_cons_self ..),h2⟩
theorem OJ (L:Lay):∀p∈(L.map AM).zip ((L.map AM).drop 1),B2 9 p.1 p.2=true/\AF 9 p.1=true/\AF 9 p.2=true:=by
 intro p hp
 obtain ⟨h1,h2⟩:=List.of_mem_zip (a:=p.1) (b:=p.2) hp
 obtain ⟨x,_,e1⟩:=List.mem_map.mp h1
 obtain ⟨y,_,e2⟩:=List.mem_map.mp (List.mem_of_mem_drop h2)
 rw [<-e1,<-e2]
 exact ⟨rfl,He (by decide) (Ck x),He (by decide) (Ck y)⟩
theorem Yv {F:List Sq} (gd:Good F) {L:Lay} (h1:∀s∈L,OU s=true) (h2:L.Pairwise LK) (h3:(A4 L).Perm F):IsLay F L:=by
 refine ⟨⟨fun s hs=>?_,h3⟩,?_⟩
 ·have:=h1 s hs
  unfold OU at this
  rw [Bool.and_eq_true,decide_eq_true_eq]at this
  exact ⟨this.1,by simpa using this.2⟩
 ·have nd:=SE (h3.nodup_iff.mpr gd.nodup)
  exact (h2.and nd).imp fun {s t} h=>h.1.resolve_right fun z=>h.2.1 z.1
theorem IsLay.ris {F:List Sq} {L:Lay} (I:IsLay F L):L.Pairwise LK:=I.up.imp fun h=>.inl h
theorem IsLay.oks {F:List Sq} {L:Lay} (gd:Good F) (I:IsLay F L):(L.map AM).all Br=true:=by
 rw [List.all_map,List.all_eq_true]
 intro s hs
 show Br (AM s)=true
 have hm:=V8 I hs
 rw [Mx,Gb.mpr (gd.inn _ hm.1),Gb.mpr (gd.inn _ hm.2)]
 unfold OU
 rw [decide_eq_true (I.st s hs).1]
 have:(nbM s.1).contains s.2=true:=by simpa using (I.st s hs).2
 rw [this]
 rfl
theorem JJ:∀{l m:List Sq},eqL (l.map sq) (m.map sq)=true->l=m
 |[],[],_=>rfl
 |[],_::_,h=>by cases h
 |_::_,[],h=>by cases h
 |a::l,b::m,h=>by
  have h2:(eqD (sq a) (sq b)&&eqL (l.map sq) (m.map sq))=true:=h
  rw [Bool.and_eq_true,Fo,decide_eq_true_eq]at h2
  rw [h2.1,JJ h2.2]
section
variable {X:Cx}{pins:List (Addr×Obj)}{σ:St}{H1 H':Hp}{s1 s':Shared}
theorem Pg (I:Inv X pins σ H1 s1) (hx:X.ex=[]) (Fq:X.env.frame=some X.env.locals) {ea:Addr} {cls a0:Value} {B h':Heap} (f0:s'.heap.FunFrames B (X.env::X.outer)) (f2:HOk X.prog X.w H' B)
  (f3:∀b o,s1.heap.get? b=some o->H1 b=none->b∉frs (X.env::X.outer)->B.get? b=some o) (f4:∀b o,s1.heap.get? b=some o->b∉frs (X.env::X.outer)->∃o',B.get? b=some o') (TQ:Un (frs (X.env::X.outer)) [] H1 H' s1.heap s'.heap) (free:H' ea=none)
  (g1:Heap.FlyingW B X.outer ea cls a0 h') (up:s'.heap.UpToSlots h'):Fly X.prog X.w X.outer X.H₀ X.s₀.heap H' h' ea cls:=by
 have bN:frs (X.env::X.outer)=X.env.locals::frs X.outer:=JG Fq
 have Ud:∀b o,X.s₀.heap.get? b=some o->b≠X.env.locals:=fun b o e=>Nat.ne_of_lt (Nat.lt_of_lt_of_le (Heap.lt_size e) I.ok.above)
 have Rc:∀b o,X.s₀.heap.get? b=some o->b∉frs X.outer->b∉frs (X.env::X.outer):=fun b o e hb U0=>by
  rw [bN]at U0
  rcases List.mem_cons.mp U0 with z|z
  ·exact Ud b o e z
  ·exact hb z
 have base:=I.base
 rw [hx]at base
 have qc:Un X.fs [] X.H₀ H' X.s₀.heap s'.heap:=by
  refine ⟨fun b o q n hb hc=>?_,fun b o q n hb hc=>?_,fun b o q n hc=>?_,fun b o q hc=>?_,fun b xs q=>TQ.tups b xs (base.tups b xs q),fun b o u q=>TQ.frzs b o u (base.frzs b o u q),fun b ps q=>?_⟩
  ·exact TQ.keep b o (base.keep b o q n hb hc) (base.free b o q n hc) (Rc b o q hb) hc
  ·obtain ⟨sl,e1⟩:=base.slot b o q n hb hc
   obtain ⟨ZN,e2⟩:=TQ.slot b _ e1 (base.free b o q n hc) (by rw [bN];exact List.mem_cons_of_mem _ hb) hc
   exact ⟨ZN,e2⟩
  ·obtain ⟨o',e1⟩:=base.there b o q hc
   exact TQ.free b o' e1 (base.free b o q n hc) hc
  ·obtain ⟨o',e1⟩:=base.there b o q hc
   exact TQ.there b o' e1 hc
  ·obtain ⟨m1,e1⟩:=base.tbls b ps q
   obtain ⟨m2,e2⟩:=TQ.tbls b _ e1
   exact ⟨m1++m2,by rw [e2,Array.append_assoc]⟩
 refine Fly.step qc free f2 (fun b o q n hb=>?_) (fun b o q hb=>?_) (outer0:=X.env::X.outer) f0 (fun b hb=>by rw [bN];exact List.mem_cons_of_mem _ hb) g1 up
 ·exact f3 b o (base.keep b o q n hb (by simp)) (base.free b o q n (by simp)) (Rc b o q hb)
 ·obtain ⟨o',e1⟩:=base.there b o q (by simp)
  exact f4 b o' e1 (Rc b o q hb)
theorem UM {E:Value->Shared->Prop} (I:Inv X pins σ H1 s1) (hx:X.ex=[]) (ES:X.stack=X.env::X.outer) (Fq:X.env.frame=some X.env.locals) {ea:Addr} {cls:Value} (fl:Fly X.prog X.w X.stack H1 s1.heap H' s'.heap ea cls) {Q:Unit->Shared->Prop}
  (hQ:∀h',Fly X.prog X.w X.outer X.H₀ X.s₀.heap H' h' ea cls->Q () { s' with heap:=h' }):wpAny (model X.prog X.w) X.A (leaving X.env (.ref ea)) Q E s':=by
 have GA:=I.ok.frames
 rw [ES]at GA fl
 obtain ⟨⟨a0,B,f1,f2,f3,f4⟩,TQ,free⟩:=fl
 exact wpAny_leaves_onW GA Fq f1 fun h' g1 up=>hQ h' (Pg I hx Fq f1.2.2.1 f2 f3 f4 TQ free g1 up)
end
section
variable {P:Program}{w:World}{K:PySem.W.Frag}{mg:Str->Option Value}{base:Heap}
theorem cT {x qual:Str} {st:Stmt} {f:Addr} {fd:FuncData} {N ps:List Str} {k:Nat} {S:SpX} (F:Fun K x qual st f fd) (Sc:FnScope N ps (AB st)) (hlen:∀ds G R RX,S ds G R RX->ds.length=ps.length)
  (hb:∀(A8:Value) (A:Around) (outer:List Env) (s:Shared) (H:Hp) (E:XK) (ds:List Dat) (G:Gs) (R:Dat->Gs->Prop) (RX:Value->Gs->Prop),Room k (A.deeper (envOfC qual (AB st) s.heap.objs.size f A8))->S ds G R RX →
   Oc (Ct CX0 P w K mg base N qual (AB st) f A8 A outer s H E).nox (EJ N ds) G (AG st) { nx:=fun _ G'=>R .non G',rt:=R } RX):FnOk P w K mg base (CXV P w) (k+1) f fd ps (C8 K S):=by
 obtain ⟨oc,od,kV,doc,pm,an,A8,ct,SU,rfl,lk,MO⟩:=F.ex
 refine Pe lk MO Sc (fun vs H Q E h=>?_) (fun A outer s H vs Q E hr h=>?_)
 ·obtain ⟨ds,G,R,RX,_,r,hS,_⟩:=h
  rw [r.length];exact hlen ds G R RX hS
 ·obtain ⟨ds,G,R,RX,o,r,hS,k1,k2⟩:=h
  refine ⟨fun D σ H1=>D={ nx:=fun _ H'=>Q .non H',rt:=Q }/\σ=start N vs/\H1=H,?_,rfl,rfl,rfl⟩
  intro pins s1 σ H1 D I hq
  obtain ⟨rfl,rfl,rfl⟩:=hq
  have hw:=hb A8 A outer s H1 E ds G R RX hr hS pins s1 (start N vs) H1 (I.wish fun _ _=>False) (E6 o r)
  refine wpAny_mono hw (fun fl s2 z=>?_) fun e s2 z=>?_
  ·refine SP.le (SP.unwish (X:=Ct (CXV P w) P w K mg base N qual (AB st) f A8 A outer s H1 E) (E:=fun _ _=>False) z) (fun σ' H'=>?_) (fun v H'=>?_) (fun σ' H'=>?_) fun σ' H'=>?_
   ·rintro ⟨ρ',G',e',S',q⟩
    exact k1 .non H' .non G' e' S'.own rfl q
   ·rintro ⟨d,G',e',o',r',q⟩
    exact k1 v H' d G' e' o' r' q
   ·rintro ⟨_,_,_,_,q⟩;exact q
   ·rintro ⟨_,_,_,_,q⟩;exact q
  ·obtain ⟨ea,cls,s3,H3,H',G',rfl,I3,Jo,Dz,IW,ex,go,rx⟩:=z
   have J:Inv (Ct (CXV P w) P w K mg base N qual (AB st) f A8 A outer s H1 E) pins (start N vs) H3 s3:=Inv.unwish (E:=fun _ _=>False) I3
   refine UM (X:=Ct (CXV P w) P w K mg base N qual (AB st) f A8 A outer s H1 E) J rfl rfl rfl IW fun h' dq=>?_
   exact ⟨ea,cls,H',rfl,Jo.trans J.os,Dz,dq,k2 cls H' G' ex go rx⟩
end
def Lk (h:Heap) (C:Addr) (n:Str) (y:Option Value):Prop:=∀(M:Model) (A:Around) (E:Value->Shared->Prop) (Q:Option Value->Shared->Prop) g d t os,Q y ⟨h,g,d,t,os⟩->wpAny M A (typeLookup (.ref C) n) Q E ⟨h,g,d,t,os⟩
theorem Lk.go {h:Heap} {C:Addr} {n:Str} {y:Option Value} (l:Lk h C n y) {M:Model} {A:Around} {E:Value->Shared->Prop} {Q:Option Value->Shared->Prop} {g d t os} (q:Q y ⟨h,g,d,t,os⟩):wpAny M A (typeLookup (.ref C) n) Q E ⟨h,g,d,t,os⟩:=l _ _ _ _ _ _ _ _ q
section
variable {prog:Program}{w:World}{A:Around}{E:Value->Shared->Prop}{h:Heap}{g:Array GenState}{d:Drawn}{t:Nat}{os:OsState}{a:Addr}{o:Obj}
 {nm q:Str} {C N:Addr} {bs bm:List Value} {hdct:Bool} {sn:List Str} {sub:List Value} {ab:Bool} {col:Option Bool} {dd:Option Addr} {k0 k1 k2 k3 k5:Option Value} {newId:String}
theorem UX {R:Result->Shared->Prop} (hC:h.get? C=some (excClassObj nm q C N bs bm hdct sn sub ab col dd k0 k1 k2 k3 k5 newId)) (hO:bm.contains (.type "object")=true)
  (hx:h.get? a=some o) (hc:o.cls=.ref C) (hq:R (.ok (.ret (.ref C))) ⟨h,g,d,t,os⟩) :
  codeAny (model prog w) A (.call (.builtin "getset_descriptor.__get__") ⟨[.builtin "object.__class__",.ref a,.ref C],[]⟩) R ⟨h,g,d,t,os⟩:=by
 have oX:(⟨h,g,d,t,os⟩:Shared).TypeIs (.builtin "object.__class__") "getset_descriptor":=PySem.F.typeOf_object_class
 have Wl:(Value.ref C::bm).contains (.type (".".intercalate ("object.__class__".cutAt '.').dropLast))=true:=by
  rw [PySem.F.owner_object_class,List.contains_cons,hO,Bool.or_true]
 refine codeAny_call_builtin PySem.F.slot_gs_get.plain PySem.F.entry_gs_get (PySem.F.slot_gs_get.check _ _ _ _ _ _ _ _ oX (PySem.F.args_gs_get _ _ _) ?_)
 repeat (any_goals (first|assumption|(with_reducible refine wpAny_loadPart_at hx ?_;rw [hc])|(with_reducible refine wpAny_isSubtype_exc hC ?_;rw [Wl])|wp_step))
 refine ⟨Code.quiet_builtin _ (by decide +kernel),codeAny_builtin PySem.F.entry_object_class ?_⟩
 repeat (any_goals (first|assumption|(with_reducible refine wpAny_loadPart_at hx ?_;rw [hc])|wp_step))
theorem N9 {tk:Tok} {Q:Fin->Shared->Prop} (hC:h.get? C=some (excClassObj nm q C N bs bm hdct sn sub ab col dd k0 k1 k2 k3 k5 newId)) (hO:bm.contains (.type "object")=true) (l2:Lk h C "__class__" (some (.builtin "object.__class__")))
  (hx:h.get? a=some o) (hc:o.cls=.ref C) (hq:Q (.done (.ret (.ref C))) ⟨h,g,d,t,os⟩) :
  wpAny (model prog w) A (Builtin.«object.__getattribute__» ⟨[.ref a,.str "__class__" tk],[]⟩) Q E ⟨h,g,d,t,os⟩:=by
 have oX:(⟨h,g,d,t,os⟩:Shared).TypeIs (.builtin "object.__class__") "getset_descriptor":=PySem.F.typeOf_object_class
 have f5:=PySem.F.typeOf_object_class
 have f6:=PySem.F.slot_gs_get.lookup
 have f7:=PySem.F.slot_gs_set.lookup
 repeat (any_goals (first|assumption|(with_reducible refine wpAny_loadPart_at hx ?_;rw [hc])|with_reducible refine l2.go ?_|wp_step))
 refine UX hC hO hx hc ?_
 repeat (any_goals (first|assumption|wp_step))
theorem WJ {M:Model} {Wh:Value} {Q:Unit->Shared->Prop} (hC:h.get? C=some (excClassObj nm q C N bs bm hdct sn sub ab col dd k0 k1 k2 k3 k5 newId)) (hB:bm.contains (.type "BaseException")=true)
  (hx:h.get? a=some o) (hc:o.cls=.ref C) (hq:Q () ⟨h,g,d,t,os⟩):wpAny M A (checkBuiltinCall "BaseException.__getattribute__" ⟨[.ref a,Wh],[]⟩) Q E ⟨h,g,d,t,os⟩:=by
 have hk:builtinKind "BaseException.__getattribute__"=some .slot:=by decide +kernel
 have XX:splitId "BaseException.__getattribute__"=some ("BaseException","__getattribute__"):=by decide +kernel
 have Wl:(Value.ref C::bm).contains (.type "BaseException")=true:=by rw [List.contains_cons,hB,Bool.or_true]
 have ha:=PySem.F.args_bexc_ga (.ref a) Wh
 simp only [checkBuiltinCall,hk,XX]
 refine wpAny_bind ?_
 ·unfold isInstance
  repeat (first|(with_reducible refine wpAny_loadPart_at hx ?_;rw [hc])|(with_reducible refine wpAny_isSubtype_exc hC ?_;rw [Wl])|wp_step)
  exact hq
theorem V9 {tk:Tok} {Q:Value->Shared->Prop} (hC:h.get? C=some (excClassObj nm q C N bs bm hdct sn sub ab col dd k0 k1 k2 k3 k5 newId)) (hO:bm.contains (.type "object")=true) (hB:bm.contains (.type "BaseException")=true)
  (l1:Lk h C "__getattribute__" (some (.builtin "BaseException.__getattribute__"))) (l2:Lk h C "__class__" (some (.builtin "object.__class__"))) (l3:Lk h C "__getattr__" none)
  (hx:h.get? a=some o) (hc:o.cls=.ref C) (hq:Q (.ref C) ⟨h,g,d,t,os⟩) :
  wpAny (model prog w) A (getAttrBy (.ref a) (.str "__class__" tk) false) Q E ⟨h,g,d,t,os⟩:=by
 have f3:=PySem.F.attrBase_ValueError.ga.bind (.ref a)
 have Qb:(Value.builtin "BaseException.__getattribute__"==Value.builtin "object.__getattribute__")=false:=by decide +kernel
 have N6:(onTheHeap (Value.ref C)&&Value.builtin "BaseException.__getattribute__"==Value.builtin "object.__getattribute__")=false:=by rw [Qb];rfl
 have dQ:(false&&onTheHeap (Value.builtin "BaseException.__getattribute__"))=false:=rfl
 repeat (any_goals (first|assumption|(with_reducible refine wpAny_loadPart_at hx ?_;rw [hc])|with_reducible refine l1.go ?_|with_reducible refine l3.go ?_|wp_step))
 refine codeAny_call_builtin PySem.F.attrBase_ValueError.ga.plain PySem.F.entry_bexc_ga (WJ hC hB hx hc (N9 hC hO l2 hx hc ?_))
 repeat (any_goals (first|assumption|wp_step))
theorem RA {Q:Option Value->Shared->Prop} (hC:h.get? C=some (excClassObj nm q C N bs bm hdct sn sub ab col dd k0 k1 k2 k3 k5 newId)) (hO:bm.contains (.type "object")=true) (hB:bm.contains (.type "BaseException")=true)
  (l1:Lk h C "__getattribute__" (some (.builtin "BaseException.__getattribute__"))) (l2:Lk h C "__class__" (some (.builtin "object.__class__"))) (l3:Lk h C "__getattr__" none)
  (hx:h.get? a=some o) (hc:o.cls=.ref C) (hq:Q (some (.ref C)) ⟨h,g,d,t+1,os⟩):wpAny (model prog w) A (getAttr? (.ref a) "__class__") Q E ⟨h,g,d,t,os⟩:=by
 unfold getAttr? getAttrBy?
 repeat (any_goals (first|assumption|with_reducible apply V9 hC hO hB l1 l2 l3 hx hc|wp_step))
end
theorem Nm {e C Dc:Addr} {nm q:Str} {N:Addr} {bs bm:List Value} {hdct:Bool} {sn:List Str} {sub:List Value} {ab:Bool} {col:Option Bool} {dd:Option Addr} {k0 k1 k2 k3 k5:Option Value} {newId:String}
  {nm' q':Str} {N':Addr} {bs' bm':List Value} {hdct':Bool} {sn':List Str} {sub':List Value} {ab':Bool} {col':Option Bool} {dd':Option Addr} {k0' k1' k2' k3' k5':Option Value} {newId':String}
  (hO:bm.contains (.type "object")=true) (hB:bm.contains (.type "BaseException")=true) (hT:(Value.ref C::bm).contains (.ref Dc)=false) :
  Meets (Builtin.«isinstance» ⟨[.ref e,.ref Dc],[]⟩) (fun _ R s=>(∃oe,s.heap.get? e=some oe/\oe.cls=.ref C)/\s.heap.get? C=some (excClassObj nm q C N bs bm hdct sn sub ab col dd k0 k1 k2 k3 k5 newId) ∧
   s.heap.get? Dc=some (excClassObj nm' q' Dc N' bs' bm' hdct' sn' sub' ab' col' dd' k0' k1' k2' k3' k5' newId')/\Lk s.heap C "__getattribute__" (some (.builtin "BaseException.__getattribute__"))/\Lk s.heap C "__class__" (some (.builtin "object.__class__"))/\Lk s.heap C "__getattr__" none/\R (.ok (.ret (.bool false))) { s with toks:=s.toks+1 }):=fun prog w A R s hs=>by
 obtain ⟨⟨oe,he,hc⟩,hC,hD,l1,l2,l3,hR⟩:=hs
 refine isinstance_outer ?_ (by intro z;cases z)
 obtain ⟨hp,g,d,t,os⟩:=s
 have D7:(Value.ref C==Value.ref Dc)=false:=by
  rw [List.contains_cons,Bool.or_eq_false_iff]at hT
  have:=hT.1
  rw [Bool.eq_false_iff]at this ⊢
  intro z
  exact this (by rw [beq_iff_eq]at z ⊢;exact z.symm)
 repeat (any_goals (first|assumption|with_reducible apply RA hC hO hB l1 l2 l3 he hc|(with_reducible refine wpAny_loadPart_at he ?_;rw [hc])|(with_reducible refine wpAny_loadPart_at hC ?_)|(with_reducible refine wpAny_loadPart_at hD ?_)|(with_reducible refine wpAny_isSubtype_exc hC ?_;rw [hT])|wp_step))
theorem Mz {K:PySem.W.Frag} {h:Heap} (X:K.In h) {n:Str} {Fs:List Value} {y:Option Value} (hr:lookupAlong Fs n=pure y):∀{ms:List Value},LV K n Fs ms=true →
  ∀{M:Model} {A:Around} {E:Value->Shared->Prop} {Q:Option Value->Shared->Prop} {g d t os},Q y ⟨h,g,d,t,os⟩->wpAny M A (lookupAlong ms n) Q E ⟨h,g,d,t,os⟩
 |[],e,_,_,_,_,_,_,_,_,_=>by cases e
 |v::r,e,M,A,E,Q,g,d,t,os,q=>by
  unfold LV at e
  rw [Bool.or_eq_true]at e
  rcases e with e|e
  ·rw [beq_iff_eq]at e
   rw [e,hr]
   exact wpAny_pure q
  ·split at e
   ·rename_i A0
    rw [Bool.and_eq_true]at e
    obtain ⟨e1,e2⟩:=e
    split at e1
    ·rename_i c0 n8 bJ dF Qa
     rw [Bool.and_eq_true,beq_iff_eq]at e1
     rw [lookupAlong_cons]
     refine wpAny_bind (wpAny_classOwn_cls (X _ _ Qa) (.of_isNs (PySem.W.isNs_of_in X e1.1)) ?_)
     rw [PySem.W.nsMap_none_of_in X e1.1 e1.2]
     exact Mz X hr e2 q
    ·cases e1
   ·cases e
theorem Lk.of {K:PySem.W.Frag} {h:Heap} {C N:Addr} {nm q:Str} {bs bm:List Value} {hdct:Bool} {sn:List Str} {sub:List Value} {ab:Bool} {col:Option Bool} {dd:Option Addr} {k0 k1 k2 k3 k5:Option Value} {newId:String} {Fs:List Value} {n:Str} {y:Option Value} {B:String} (X:K.In h)
  (hC:K.lookup C=some (excClassObj nm q C N bs bm hdct sn sub ab col dd k0 k1 k2 k3 k5 newId)) (hl:NC K n Fs C=true) (hm:mroOf (.type B)=pure Fs) (hB:typeLookup (.type B) n=pure y):Lk h C n y:=by
 intro M A E Q g d t os hq
 have hr:lookupAlong Fs n=pure y:=by rw [typeLookup_eq,hm]at hB;exact hB
 unfold NC at hl
 rw [hC]at hl
 rw [typeLookup_eq]
 exact wpAny_bind (wpAny_mroOf_exc (X _ _ hC) (Mz X hr hl hq))
theorem YF:typeLookup (.type "ValueError") "__getattribute__"=pure (some (.builtin "BaseException.__getattribute__")):=PySem.F.attrBase_ValueError.ga.lookup
theorem Ri:typeLookup (.type "ValueError") "__class__"=pure (some (.builtin "object.__class__")):=by rw [typeLookup_type,builtinLookup_eq_fast];kernel_rfl
section
variable {X:Cx}{ρ:Rho}{G:Gs}{ea:Addr}{oe:Obj}{a:Expr}{pos pp p2:Pos}{i:Nat}
theorem RS {C Dc:Addr} {ZP Vq:String} (hc:oe.cls=.ref C) (hm:(ea,oe)∈X.pn) (hC:PySem.W.excIn X.K C BMV ZP=true) (hD:PySem.W.excIn X.K Dc BMV Vq=true) (Zm:AR X.K C Dc=true):CP X (.builtin "isinstance") (fun xs H Q=>xs=[.ref ea,.ref Dc]/\Q (.bl false) H):=by
 intro pins s σ H xs us Q I r h
 obtain ⟨rfl,q⟩:=h
 obtain ⟨u,w',rfl,ru,U5⟩:=Ke r
 cases ru
 cases U5
 have z:=I.pin (ea,oe) (List.mem_append_left _ hm)
 obtain ⟨bm,N,nm,qn,bs,hdct,sn,sub,ab,col,dd,k0,k1,k2,k3,k5,mN,oC,oN,oi,tl,lC⟩:=DO I.mod.kin hC
 obtain ⟨bm',N',nm',gC,bs',hdct',sn',sub',ab',col',dd',k0',k1',k2',k3',k5',m6,rM,vx,vq,dM,vp⟩:=DO I.mod.kin hD
 unfold AR at Zm
 rw [Bool.and_eq_true,Bool.and_eq_true,Bool.and_eq_true]at Zm
 obtain ⟨⟨⟨a1,a2⟩,a3⟩,a4⟩:=Zm
 have hT:(Value.ref C::bm).contains (.ref Dc)=false:=by
  rw [lC]at a4
  have a5:(!(Value.ref C::bm).contains (.ref Dc))=true:=a4
  simpa using a5
 have KX:X.K.In s.heap:=fun b o e=>I.bk _ _ (I.mod.kin b o e)
 have l1:=Lk.of KX lC a1 PySem.F.attrBase_ValueError.mro YF
 have l2:=Lk.of KX lC a2 PySem.F.attrBase_ValueError.mro Ri
 have l3:=Lk.of KX lC a3 PySem.F.attrBase_ValueError.mro PySem.F.attrBase_ValueError.noGetattr
 exact call_isinstance (Nm (C:=C) (Dc:=Dc) (nm:=nm) (q:=qn) (N:=N) (bs:=bs) (bm:=bm) (hdct:=hdct) (sn:=sn) (sub:=sub) (ab:=ab) (col:=col) (dd:=dd) (k0:=k0) (k1:=k1) (k2:=k2) (k3:=k3) (k5:=k5) (newId:=ZP) (nm':=nm') (q':=gC) (N':=N') (bs':=bs') (bm':=bm') (hdct':=hdct') (sn':=sn') (sub':=sub') (ab':=ab') (col':=col') (dd':=dd') (k0':=k0') (k1':=k1') (k2':=k2') (k3':=k3') (k5':=k5') (newId':=Vq) (tl.hasType (by decide)) (tl.hasType (by decide)) hT)
  ⟨⟨oe,z.1,hc⟩,I.bk _ _ oC,I.bk _ _ rM,l1,l2,l3,⟨.bl false,H,I.tok _,rfl,q⟩⟩
theorem WM {C Dc:Addr} {cn:Str} {ZP Vq:String} (hc:oe.cls=.ref C) (hm:(ea,oe)∈X.pn) (hC:PySem.W.excIn X.K C BMV ZP=true) (hD:PySem.W.excIn X.K Dc BMV Vq=true) (Zm:AR X.K C Dc=true) (dk:X.mg "isinstance"=none) (uV:X.mg cn=some (.ref Dc)) (ha:PX X ρ G a (.fn ea)) (hg:Gl X "isinstance":=by rfl) (ZO:Gl X cn:=by rfl)
  (DQ:(cn==("__debug__":Str))=false:=by decide) (he:starEach [a,.Name cn p2] X.env=(false,eval a X.env)::starEach [.Name cn p2] X.env:=by rfl):PX X ρ G (.Call (.Name "isinstance" pp) [a,.Name cn p2] [] pos) (.bl false):=
 Bw (Dq (RS hc hm hC hD Zm) hg dk (by decide +kernel) (BH Ax (BH (IL (v:=.ref Dc) ZO uV rfl DQ) Cr) he) (by decide) (by decide) he rfl) fun σ H S=>⟨ρ,G,_,ha,S,fun x H1 ⟨_,_,e1,o1,r1,q1,B1⟩=>by
  subst q1;subst B1
  rw [Rep]at r1
  subst r1
  exact ⟨rfl,Po.trans e1 (Bl o1 rfl)⟩⟩
end
def IF:SpD:=fun ds G R=>∃F:List Sq,ds=[fl F]/\F.length≤1000/\F.Pairwise AU/\R (.bl true) G
theorem TV (q:Sq):Et (sq q)=true:=rfl
theorem Qj (F:List Sq):((F.map sq).map Dg).all id=true:=by
 rw [List.all_map,List.all_eq_true]
 intro x hx
 obtain ⟨q,_,rfl⟩:=List.mem_map.mp hx
 rfl
def ItG (src:Hp->List V->Prop):It:=
 ⟨fun i H=>∃xs x,src H xs/\xs[i]?=some x,fun i H x H'=>∃y T,H T=none/\x=.ref T/\H'=upd H T (.tup [.int i,y])/\∀xs,src H xs->xs[i]?=some y,fun i H=>∃xs,src H xs/\xs.length=i⟩
structure SrcOk (P:Program) (w:World) (K:PySem.W.Frag) (src:Hp->List V->Prop) (it:Addr) (fp:List Addr) (hit:Nat->Heap->Prop):Prop where
 inj:∀{X:Cx} {pins σ H s xs ys},X.K=K->Inv X pins σ H s->src H xs->src H ys->xs=ys
 obj:∀i h,hit i h->∃o,h.get? it=some o/\∀v,o.data≠.cell v
 keep:∀i h h',hit i h->(∀o,h.get? it=some o->h'.get? it=some o)->hit i h'
 con:∀{X:Cx} {pins σ H s xs},X.prog=P->X.w=w->X.K=K->X.A.in1.handled=none->Inv X pins σ H s->src H xs->∃(Pv:Nat->Value->Prop) (St:Nat->Heap->Prop),Draws X.prog X.w X.A.in1 it fp xs.length Pv St/\(∀i,hit i s.heap->St i s.heap)/\(∀i h,St i h->hit i h)/\∀i v x,Pv i v->xs[i]?=some x->RelV x v
theorem JB {P:Program} {w:World} {K:PySem.W.Frag} {elts:List Expr} {x1:Nat} {pos:Pos} {src:Hp->List V->Prop} {fp:List Addr} {hit:Nat->Heap->Prop} (e it:Addr) (oJ:e≠it) (tN:e∉fp) (D:SrcOk P w K src it fp hit):Turn P w K (.Tuple elts x1 pos) (ItG src) [e,it] e (fun i h=>(∃old,IsEnum h e it i old)/\hit i h) where
 mem:=by simp
 obj:=fun i h st b hb=>by
  obtain ⟨⟨old,he⟩,hi⟩:=st
  obtain ⟨o,ho,d⟩:=D.obj i h hi
  rcases List.mem_cons.mp hb with rfl|hb
  ·exact ⟨_,he,fun v z=>by cases z⟩
  ·rw [List.mem_singleton.mp hb]
   exact ⟨o,ho,fun v z=>d v z⟩
 keep:=fun i h h' st k=>by
  obtain ⟨⟨old,he⟩,hi⟩:=st
  exact ⟨⟨old,k e (by simp) _ he⟩,D.keep i h h' hi fun o ho=>k it (by simp) _ ho⟩
 item:=by
  intro X hP hw hK hc i pins s σ H E I hf st hg
  subst hP hw hK
  obtain ⟨xs,x,hq,hx⟩:=hg
  obtain ⟨⟨old,he⟩,VL⟩:=st
  obtain ⟨Pv,St,dr,d1,d2,d3⟩:=D.con rfl rfl rfl (by simpa using I.ok.hd hc) I hq
  have Bs:i<xs.length:=(List.getElem?_eq_some_iff.mp hx).1
  refine wpAny_pyNext_enum_itemD dr he (d1 i VL) Bs oJ tN fun y h1 tk hy ho Bj hT hsz hk=>?_
  have ru:RelV x y:=d3 i y x hy hx
  refine ⟨_,rfl,wpAny_letOwnedTupleGo_enum (s:={ s with heap:=h1,toks:=tk+1 }) ho fun h2 he2 sb=>?_⟩
  have Jw:∀b o,b≠e->h1.get? b=some o->h2.get? b=some o:=fun b o hb q=>sb.extBut b o hb q
  have Qp:H s.heap.objs.size=none:=I.hok.fresh (Nat.le_refl _)
  have pC:e<s.heap.objs.size:=Heap.lt_size he
  have Vx:s.heap.objs.size≠e:=Nat.ne_of_gt pC
  have FF:∀b o,b≠e->b≠it->s.heap.get? b=some o->h2.get? b=some o:=fun b o h3 h4 q=>Jw b o h3 (hk b o h3 h4 q)
  have f1:=hf e (by simp)
  have f2:=hf it (by simp)
  have Ni:∀b o,H b=some o->b≠e/\b≠it:=fun b o q=>⟨AW q f1.1,AW q f2.1⟩
  have un:Un (frs X.stack) [e,it] H (upd H s.heap.objs.size (.tup [.int i,x])) s.heap h2:=by
   refine ⟨fun b o q n hb hc=>?_,fun b o q n hb hc=>⟨o.slots,?_⟩,fun b o q n hc=>?_,fun b o q hc=>⟨o,?_⟩,fun b ys q=>?_,fun b o v q=>?_,fun b ps q=>⟨#[],?_⟩⟩
   ·simp only [List.mem_cons,List.not_mem_nil,or_false,not_or]at hc
    exact FF b o hc.1 hc.2 q
   ·simp only [List.mem_cons,List.not_mem_nil,or_false,not_or]at hc
    exact FF b o hc.1 hc.2 q
   ·rw [AX (Nat.ne_of_lt (Heap.lt_size q))];exact n
   ·simp only [List.mem_cons,List.not_mem_nil,or_false,not_or]at hc
    exact FF b o hc.1 hc.2 q
   ·rw [AX (AW q Qp)];exact q
   ·rw [AX (AW q Qp)];exact q
   ·rw [AX (AW q Qp),q];simp
  have hok:HOk X.prog X.w (upd H s.heap.objs.size (.tup [.int i,x])) h2:=fun b v q=>by
   by_cases hb:b=s.heap.objs.size
   ·subst hb
    rw [Bm]at q
    cases q
    exact ⟨by show 2≤sizeLine;rw [sizeLine_eq];decide,[.int i tk,y],.cons ⟨tk,rfl⟩ (.cons ru .nil),_,Jw _ _ Vx hT,rfl,_,rfl⟩
   ·rw [AX hb]at q
    refine (I.hok b v q).stay (fun c o hc r=>?_) (fun c r=>by rw [AX (AW r Qp)];exact r) fun c ys r=>by rw [AX (AW r Qp)];exact r
    rcases hc with rfl|hc
    ·exact FF _ o (Ni _ _ q).1 (Ni _ _ q).2 r
    ·exact FF c o (Ni _ _ hc).1 (Ni _ _ hc).2 r
  have I1:Inv X pins σ (upd H s.heap.objs.size (.tup [.int i,x])) { s with heap:=h2,toks:=tk+1 }:=I.call' (s':={ s with heap:=h2,toks:=tk+1 }) rfl un hok I.bare fun b hb=>by
   have:=hf b hb
   exact ⟨this.2.2.2.1,this.2.1,this.2.2.2.2.1,this.2.2.2.2.2⟩
  refine ⟨.ref s.heap.objs.size,_,I1,rfl,⟨x,_,Qp,rfl,rfl,fun ys hy=>by rw [D.inj rfl I hy hq];exact hx⟩,⟨⟨_,by simpa using he2⟩,D.keep _ _ _ (d2 _ _ Bj) fun o Js=>Jw it o (Ne.symm oJ) Js⟩,fun b hb=>?_⟩
  rcases List.mem_cons.mp hb with rfl|hb
  ·rw [AX (Nat.ne_of_lt pC)];exact f1.1
  ·rw [List.mem_singleton.mp hb]
   obtain ⟨o,Js,_⟩:=D.obj _ _ VL
   rw [AX (Nat.ne_of_lt (Heap.lt_size Js))];exact f2.1
 done:=by
  intro X hP hw hK hc i pins s σ H E I hf st hg
  subst hP hw hK
  obtain ⟨xs,hq,hx⟩:=hg
  obtain ⟨⟨old,he⟩,VL⟩:=st
  obtain ⟨Pv,St,dr,d1,d2,d3⟩:=D.con rfl rfl rfl (by simpa using I.ok.hd hc) I hq
  have f:=hf it (by simp)
  subst hx
  exact wpAny_pyNext_enum_endD dr he (d1 _ VL) fun h' eb=>⟨rfl,I.turned (t':=s.toks) (fun b o hb e=>eb b o hb e) f.1 f.2.1 f.2.2.2.1 f.2.2.2.2.1 f.2.2.2.2.2⟩
 self:=fun A i s Q E st h=>by
  obtain ⟨⟨old,he⟩,_⟩:=st
  exact wpAny_pyIter_enum he h
theorem MT {K:PySem.W.Frag} {G:Gs} {l:List Dat} {H:Hp} {src:Hp->List V->Prop} {vs:List V} (h:∀H' G',Ext H G H' G'->src H' vs) (r:RepL K (hid H G) l vs):Wk K (ItG src) H G (Ec l):=by
 intro H' G' e
 have h':=h H' G' e
 refine ⟨fun i d hd=>?_,vs,h',by rw [G0,r.length]⟩
 obtain ⟨d',Wz,rfl⟩:=HK hd
 obtain ⟨v,hv,rv⟩:=r.get Wz
 refine ⟨⟨vs,v,h',hv⟩,fun x Uh hy=>?_⟩
 obtain ⟨y,T,hT,e1,e2,z⟩:=hy
 have nZ:=z vs h'
 rw [hv]at nZ
 have jv:v=y:=Option.some.inj nZ
 subst jv
 subst e1
 subst e2
 refine ⟨Ext.alloc hT,fun o=>o.alloc hT,fun o=>?_⟩
 rw [Rep]
 refine ⟨T,[.int (i:Nat),v],rfl,SqT.of (G6 (o.free hT) Bm),RepL.cons (by rw [Rep]) (RepL.cons ((rv.same e.hid).same (Ext.alloc hT).hid) RepL.nil)⟩
theorem TK {P:Program} {w:World} {K:PySem.W.Frag} {a it:Addr} (sH:a≠it):SrcOk P w K (fun H xs=>SqL K H a xs) it [it,a] (fun i h=>h.IsListIter it a i) where
 inj:=fun hK I h1 h2=>by subst hK;exact I.list_inj h1 h2
 obj:=fun i h hi=>by
  obtain ⟨o,ho,c,d⟩:=hi
  exact ⟨o,ho,fun v z=>by rw [d]at z;cases z⟩
 keep:=fun i h h' hi k=>by
  obtain ⟨o,ho,r⟩:=hi
  exact ⟨o,k o ho,r⟩
 con:=fun {X pins σ H s xs} hP hw hK hh I hq=>by
  subst hP hw hK
  obtain ⟨its,rv,p,hz⟩:=I.list hq
  have hl:its.toArray.size=xs.length:=by simp [rv.length]
  refine ⟨_,_,hl▸Draws.list hh it a sH its.toArray,fun i hi=>⟨hi,p.isList⟩,fun i h st=>st.1,fun i v x hv hx=>?_⟩
  obtain ⟨u,hu,ru⟩:=rv.get hx
  have:its.toArray[i]?=some u:=by simpa using hu
  rw [this]at hv
  cases hv
  exact ru
def N4 (x:Str):List V:=x.cps.toList.map fun c=>V.str ⟨#[c]⟩
def T1 (x:Str):List Dat:=x.cps.toList.map fun c=>Dat.str ⟨#[c]⟩
theorem Vi {P:Program} {w:World} {K:PySem.W.Frag} {it:Addr} {x:Str} {t:Tok}:SrcOk P w K (fun H xs=>xs=N4 x) it [it] (fun i h=>h.IsStrIter it (strIterType x) x t i) where
 inj:=fun hK I h1 h2=>by rw [h1,h2]
 obj:=fun i h hi=>by
  obtain ⟨o,ho,c,d⟩:=hi
  exact ⟨o,ho,fun v z=>by rw [d]at z;cases z⟩
 keep:=fun i h h' hi k=>by
  obtain ⟨o,ho,r⟩:=hi
  exact ⟨o,k o ho,r⟩
 con:=fun {X pins σ H s xs} hP hw hK hh I hq=>by
  subst hP hw hK
  subst hq
  have hl:x.cps.size=(N4 x).length:=by simp [N4]
  have hv:∀(i:Nat) (v:Value) (z:V),(∃c u,x.cps[i]?=some c/\v=Value.str ⟨#[c]⟩ u)->(N4 x)[i]?=some z->RelV z v:=fun i v z hv hz=>by
   obtain ⟨c,u,hc,rfl⟩:=hv
   have:(N4 x)[i]?=some (V.str ⟨#[c]⟩):=by
    unfold N4
    rw [List.getElem?_map,Array.getElem?_toList,hc]
    rfl
   rw [this]at hz
   cases hz
   exact ⟨u,rfl⟩
  cases ha:x.cps.all (·<128)
  ·refine ⟨_,_,hl▸Draws.strWide hh it x t,fun i hi=>by simpa [strIterType,ha]using hi,fun i h st=>by simpa [strIterType,ha]using st,hv⟩
  ·refine ⟨_,_,hl▸Draws.strAscii hh it x t,fun i hi=>by simpa [strIterType,ha]using hi,fun i h st=>by simpa [strIterType,ha]using st,hv⟩
theorem L0 {K:PySem.W.Frag} {H:Hp}:∀(cs:List Nat),RepL K H (cs.map fun c=>Dat.str ⟨#[c]⟩) (cs.map fun c=>V.str ⟨#[c]⟩)
 |[]=>RepL.nil
 |c::cs=>RepL.cons (by rw [Rep]) (L0 cs)
section
variable {X:Cx}{ρ:Rho}{G:Gs}{a:Expr}{l:List Dat}{pos p1:Pos}{elts:List Expr}{x1:Nat}{U7:Pos}
theorem Tj {Q:List Dat->Gs->Prop} (hm:X.mg "enumerate"=none) (ha:PX X ρ G a (.lst l)) (q:Q (Ec l) G) (hg:Gl X "enumerate":=by rfl) (he:starEach [a] X.env=(false,eval a X.env)::starEach [] X.env:=by rfl):WI X ρ G (.Tuple elts x1 U7) (.Call (.Name "enumerate" p1) [a] [] pos) Q:=by
 intro pins s σ H I S
 refine wpAny_Call_Name_kw (EV I hg hm (by decide +kernel:bootBuiltins "enumerate"=some (.type "enumerate")) ?_ (by decide) (by decide))
 refine PyProof.Rows.callWith_type1 (PyProof.Rows.spliced_more (thn (ha pins s σ H I S) fun u s1 ⟨x,H1,I1,r1,d,G1,e1,o1,rx,q1,q2⟩=>PyProof.Rows.spliced_none ?_) he) he rfl
 subst q1;subst q2
 rw [Rep]at rx
 obtain ⟨p,vs,rfl,h1,h2⟩:=rx
 cases r1
 obtain ⟨its,rv,pt,hz⟩:=I1.list (SqL.of (AK _ _ h1))
 refine call_enumerate_list pt.isList fun h' R1 dv hsz hk=>?_
 refine wpAny_pyIter_enum (s:={ s1 with heap:=h' }) R1 ?_
 have hp:p<s1.heap.objs.size:=by obtain ⟨o,ho,_⟩:=pt.isList;exact Heap.lt_size ho
 refine ⟨s1.heap.objs.size+1,[s1.heap.objs.size+1,s1.heap.objs.size],_,_,H1,rfl,I1.kept (t':=s1.toks) hk,JB _ _ (Nat.ne_of_gt (Nat.lt_succ_self _)) ?_ (TK (Nat.ne_of_lt hp)),⟨⟨_,by simpa using R1⟩,dv⟩,fun b hb=>?_,Ec l,G1,e1,o1,MT (vs:=vs) (fun H' G' e=>SqL.of (AK _ _ (e.hid _ _ h1))) h2,q⟩
 ·simp only [List.mem_cons,List.not_mem_nil,or_false,not_or]
  exact ⟨Nat.succ_ne_self _,Nat.ne_of_gt (Nat.lt_succ_of_lt hp)⟩
 ·rcases List.mem_cons.mp hb with rfl|hb
  ·exact I1.fpOk (Nat.le_succ _) (I1.hok.fresh (Nat.le_succ _))
  ·rw [List.mem_singleton.mp hb]
   exact I1.fpOk (Nat.le_refl _) (I1.hok.fresh (Nat.le_refl _))
theorem Ti {x:Str} {Q:List Dat->Gs->Prop} (hm:X.mg "enumerate"=none) (ha:PX X ρ G a (.str x)) (q:Q (Ec (T1 x)) G) (hg:Gl X "enumerate":=by rfl) (he:starEach [a] X.env=(false,eval a X.env)::starEach [] X.env:=by rfl):WI X ρ G (.Tuple elts x1 U7) (.Call (.Name "enumerate" p1) [a] [] pos) Q:=by
 intro pins s σ H I S
 refine wpAny_Call_Name_kw (EV I hg hm (by decide +kernel:bootBuiltins "enumerate"=some (.type "enumerate")) ?_ (by decide) (by decide))
 refine PyProof.Rows.callWith_type1 (PyProof.Rows.spliced_more (thn (ha pins s σ H I S) fun u s1 ⟨y,H1,I1,r1,d,G1,e1,o1,rx,q1,q2⟩=>PyProof.Rows.spliced_none ?_) he) he rfl
 subst q1;subst q2
 cases (show y=V.str x from rx)
 obtain ⟨t,rfl⟩:=r1
 refine call_enumerate_str fun h' R1 dv hsz hk=>?_
 refine wpAny_pyIter_enum (s:={ s1 with heap:=h' }) R1 ?_
 refine ⟨s1.heap.objs.size+1,[s1.heap.objs.size+1,s1.heap.objs.size],_,_,H1,rfl,I1.kept (t':=s1.toks) hk,JB _ _ (Nat.ne_of_gt (Nat.lt_succ_self _)) ?_ (Vi (x:=x) (t:=t)),⟨⟨_,by simpa using R1⟩,dv⟩,fun b hb=>?_,Ec (T1 x),G1,e1,o1,MT (vs:=N4 x) (fun H' G' e=>rfl) (L0 _),q⟩
 ·simp only [List.mem_cons,List.not_mem_nil,or_false]
  exact Nat.succ_ne_self _
 ·rcases List.mem_cons.mp hb with rfl|hb
  ·exact I1.fpOk (Nat.le_succ _) (I1.hok.fresh (Nat.le_succ _))
  ·rw [List.mem_singleton.mp hb]
   exact I1.fpOk (Nat.le_refl _) (I1.hok.fresh (Nat.le_refl _))
end
section
variable {X:Cx}{ρ:Rho}{G:Gs}{a b c:Expr}{d:Dat}{pos:Pos}{x y:Str}
theorem QV (ha:PX X ρ G a (.str x)) (hb:PX X ρ G b (.str y)):PXC X ρ G .Eq a b (.bl (x==y)):=
 De Wu ha hb fun H u v Q o hx hy k=>by
  cases (show u=V.str x from hx);cases (show v=V.str y from hy)
  exact ⟨rfl,by rw [PV];exact k _ _ (Bl o rfl)⟩
theorem VF {p:Pos} (hm:X.mg "len"=none) (ha:PX X ρ G a (.str x)) (hz:x.length≤sizeLine) (hg:Gl X "len":=by rfl) (he:starEach [a] X.env=(false,eval a X.env)::starEach [] X.env:=by rfl):PX X ρ G (.Call (.Name "len" p) [a] [] pos) (.int x.length):=
 Er LG hg hm PySem.boot_len ha (fun H v Q o r k=>⟨x,by rw [show v=V.str x from r],hz,k _ _ (Bl o rfl)⟩) (he:=he)
theorem Jy:∀(l:List (Str×Tok)),Vals ((l.map (·.1)).map V.str) (strValues l)
 |[]=>.nil
 |p::l=>.cons ⟨p.2,rfl⟩ (Jy l)
section
variable {prog:Program}{w:World}{A:Around}{E:Value->Shared->Prop}{s:Shared}{x:Str}{t:Tok}{Q:Value->Shared->Prop}
open Builtin Builtin.Str in
theorem Rn {y:Str} {u:Tok} (hy:(y.length==0)=false)
  (hq:∀l k,l.map (·.1)=Txt.split x y->Q (.ref s.heap.objs.size) { s with heap:=s.heap.push { cls:=.type "list",data:=.seq (strValues l).toArray },toks:=k })
  (hsz:x.length≤sizeLine) (fG:(partsBetween x (occurrences x y 0 x.length (x.length+1)) y.length).length≤sizeLine) :
  wpAny (model prog w) A (call (.builtin "str.split") [.str x t,.str y u]) Q E s:=by
 cases h1:(decide (x.length<y.length)||decide (strKind x<strKind y))
 ·cases hf:(occurrences x y 0 x.length (x.length+1)).isEmpty
  ·refine call_meets F.slot_str_split (typeIs_str _ _ _) F.entry_str_split (F.args_str_split_2 _ _) (meets_str_split_sep x y t u h1 hy hf hsz fG) ?_
   show wants Q E _ { s with toks:=_,heap:=s.heap.push { cls:=.type "list",data:=.seq (strsFrom s.toks (partsBetween x (occurrences x y 0 x.length (x.length+1)) y.length)).toArray } }
   rw [strsFrom_eq]
   exact hq (numbered s.toks _) _ ((numbered_texts _ _).trans ((if_neg (ne_true_of_eq_false h1)).trans (if_neg (ne_true_of_eq_false hf))).symm)
  ·exact call_meets F.slot_str_split (typeIs_str _ _ _) F.entry_str_split (F.args_str_split_2 _ _) (meets_str_split_not_found x y t u h1 hy hf)
    (hq [(x,t)] s.toks ((if_neg (ne_true_of_eq_false h1)).trans (if_pos hf)).symm)
 ·exact call_meets F.slot_str_split (typeIs_str _ _ _) F.entry_str_split (F.args_str_split_2 _ _) (meets_str_split_cannot_occur x y t u h1)
   (hq [(x,t)] s.toks (if_pos h1).symm)
end
open Builtin Builtin.Str in
theorem T2 {apos Ay:Pos} (ha:PX X ρ G a (.str x)) (hb:PX X ρ G b (.str y)) (hy:(y.length==0)=false) (hz:x.length≤sizeLine) (W9:(partsBetween x (occurrences x y 0 x.length (x.length+1)) y.length).length≤sizeLine)
  (Cm:attributeBase a "split" X.env (eval a X.env)=eval a X.env:=by rfl)
  (Nt:((backTo Ay (starEach [b] X.env)).all (fun x=>!x.1)&&(backToKw Ay (keywordEach [] X.env)).all (fun x=>x.1.isSome)&&decide (([b]:List Expr).length+([]:List Keyword).length+(if ([]:List Keyword).isEmpty then 0 else 1)<30))=true:=by rfl)
  (Eb:(apos.endLine==Ay.line)=true:=by rfl) (hs:starEach [b] X.env=(false,eval b X.env)::starEach [] X.env:=by rfl) (hpl:(backTo Ay (starEach [] X.env)).any (·.1)=false:=by rfl) :
  PX X ρ G (.Call (.Attribute a "split" apos) [b] [] Ay) (.lst ((Txt.split x y).map .str)):=by
 intro pins s σ H I S
 refine wpAny_Call_method_late Cm Nt Eb rfl (thn (ha pins s σ H I S) fun u s1 ⟨v,H1,I1,rx,_,G1,e1,o1,r1,q1,B1⟩=>?_)
 subst q1;subst B1
 cases (show v=V.str x from r1)
 obtain ⟨t,rfl⟩:=rx
 refine ⟨"str","str.split",PySem.F.plainAttrs_str,PySem.F.slot_str_split,PySem.F.type_str_split,typeIs_str _ _ _,(fun _ e=>nomatch e),?_⟩
 have hA:=(AA hb AE hs:PXs X ρ G1 [b] [_]) Ay pins s1 σ H1 I1 (S.ext e1 o1)
 rw [hs]at hA ⊢
 refine Calls.callWith_builtin (by show (false||(backTo Ay (starEach [] X.env)).any (·.1))=false;rw [hpl];rfl) (Calls.evalArgs_plain ?_)
 refine thn hA fun us s2 ⟨vs,H2,I2,rv,_,G2,e2,o2,r2,q2,EL⟩=>?_
 subst q2;subst EL
 rw [RepL]at r2
 obtain ⟨y',r,rfl,r2,r3⟩:=r2
 rw [RepL]at r3
 subst r3
 obtain ⟨u2,rfl,ry⟩:=rv.one
 cases (show y'=V.str y from r2)
 obtain ⟨t2,rfl⟩:=ry
 have hlen:(Txt.split x y).length≤sizeLine:=by
  unfold Txt.split
  split
  ·show 1≤sizeLine;rw [sizeLine_eq];decide
  ·split
   ·show 1≤sizeLine;rw [sizeLine_eq];decide
   ·exact W9
 refine Rn hy (fun l k hl=>?_) hz W9
 have hf:=I2.hok.fresh (Nat.le_refl s2.heap.objs.size)
 refine ⟨.ref s2.heap.objs.size,_,I2.laid (t':=k) (fun b o e=>Heap.get?_push_of_some _ e) (Nat.le_refl _) (show ObjOk X.prog X.w _ _ _ (.lst ((l.map (·.1)).map V.str))from ⟨by rw [List.length_map,hl];exact hlen,strValues l,_,Jy l,Heap.get?_push_size _ rfl⟩),rfl,?_⟩
 refine Po.trans (e1.trans e2) (GU o2 hf ?_)
 rw [hl]
 have:∀ss:List Str,RepL X.K (hid H2 G2) (ss.map .str) (ss.map V.str):=fun ss=>by
  induction ss with
  |nil=>exact RepL.nil
  |cons z zs ih=>exact RepL.cons (by rw [Rep]) ih
 exact this _
end
def KY (H H':Hp):Prop:=∀b o,H b=some o->H' b=some o\/∃φ,o=HO.ext φ
theorem Zj {K:PySem.W.Frag} {H H':Hp} {a:Addr} {xs:List V} (e:KY H H') (h:SqT K H a xs):SqT K H' a xs:=by
 rcases h with (h|⟨o,h⟩)|h
 ·rcases e _ _ h with h|⟨φ,h⟩
  ·exact .inl (.inl h)
  ·cases h
 ·rcases e _ _ h with h|⟨φ,h⟩
  ·exact .inl (.inr ⟨o,h⟩)
  ·cases h
 ·exact .inr h
theorem ah {K:PySem.W.Frag} {H H':Hp} {a:Addr} {xs:List V} (e:KY H H') (h:SqL K H a xs):SqL K H' a xs:=by
 rcases h with (h|⟨o,h⟩)|h
 ·rcases e _ _ h with h|⟨φ,h⟩
  ·exact .inl (.inl h)
  ·cases h
 ·rcases e _ _ h with h|⟨φ,h⟩
  ·exact .inl (.inr ⟨o,h⟩)
  ·cases h
 ·exact .inr h
mutual
theorem Rep.x {K:PySem.W.Frag} {H H':Hp} (e:KY H H'):∀{d:Dat} {v:V},Rep K H d v->Rep K H' d v
 |.non,_,h=>by simpa [Rep]using h
 |.bl _,_,h=>by simpa [Rep]using h
 |.int _,_,h=>by simpa [Rep]using h
 |.str _,_,h=>by simpa [Rep]using h
 |.fn _,_,h=>by simpa [Rep]using h
 |.scr _,_,h=>by
  obtain ⟨a,h1,h2⟩:=(by simpa [Rep]using h:∃a,_=V.ref a/\SqL K H a _)
  rw [Rep];exact ⟨a,h1,ah e h2⟩
 |.tup _,_,h=>by
  rw [Rep]at h ⊢
  obtain ⟨a,vs,h1,h2,h3⟩:=h
  exact ⟨a,vs,h1,Zj e h2,RepL.x e h3⟩
 |.lst _,_,h=>by
  rw [Rep]at h ⊢
  obtain ⟨a,vs,h1,h2,h3⟩:=h
  refine ⟨a,vs,h1,?_,RepL.x e h3⟩
  rcases e _ _ h2 with h|⟨φ,h⟩
  ·exact h
  ·cases h
theorem RepL.x {K:PySem.W.Frag} {H H':Hp} (e:KY H H'):∀{ds:List Dat} {vs:List V},RepL K H ds vs->RepL K H' ds vs
 |[],_,h=>by rw [RepL]at h ⊢;exact h
 |_::_,_,h=>by
  rw [RepL]at h ⊢
  obtain ⟨v,r,h1,h2,h3⟩:=h
  exact ⟨v,r,h1,Rep.x e h2,RepL.x e h3⟩
end
theorem DRep.x {K:PySem.W.Frag} {H H':Hp} (e:KY H H'):∀{Ae:List (Dat×Dat)} {xs:List (Dat×Addr×Value)},DRep K H Ae xs->DRep K H' Ae xs
 |[],_,h=>h
 |_::_,_,⟨a,u,LQ,h1,h2,h3,⟨v,h4,h5⟩,h6⟩=>⟨a,u,LQ,h1,h2,h3.x e,⟨v,h4,h5.x e⟩,DRep.x e h6⟩
theorem OwnOk.x {K:PySem.W.Frag} {H H':Hp} {G G':Gs} {a:Addr} {o:OD} (h:OwnOk K H G a o) (e:KY (hid H G) (hid H' G')) (q:H' a=H a):OwnOk K H' G' a o:=by
 cases o with
 |lst l=>
  obtain ⟨vs,h1,h2⟩:=h
  exact ⟨vs,q.trans h1,h2.x e⟩
 |dct Ae=>
  obtain ⟨xs,h1,h2⟩:=h
  exact ⟨xs,q.trans h1,h2.x e⟩
def DU (i j:Nat) (c:Option Nat):Lay:=if c=some 60 then [(((i:Int),(j:Int)),((i:Int),(j:Int)+1))]else if c=some 94 then [(((i:Int),(j:Int)),((i:Int)+1,(j:Int)))]else []
def L7 (i:Nat) (cs:List Nat):Lay:=(List.range cs.length).flatMap fun j=>DU i j cs[j]?
def BL (ls:List (List Nat)):Lay:=(List.range ls.length).flatMap fun i=>L7 i (ls.getD i [])
def jn:List (List Nat)->List Nat
 |[]=>[]
 |[a]=>a
 |a::b::r=>a++10::jn (b::r)
theorem P4 (x y:Str):(x++y).cps.toList=x.cps.toList++y.cps.toList:=by
 show (x.cps++y.cps).toList=_
 rw [Array.toList_append]
theorem P9:∀ps:List Str,(Str.join ⟨#[10]⟩ ps).cps.toList=jn (ps.map fun p=>p.cps.toList)
 |[]=>rfl
 |[a]=>rfl
 |a::b::r=>by
  show ((a++(⟨#[10]⟩:Str))++Str.join ⟨#[10]⟩ (b::r)).cps.toList=_
  rw [P4,P4,P9 (b::r)]
  show (a.cps.toList++[10])++_=a.cps.toList++10::_
  rw [List.append_assoc]
  rfl
def chr (c:Nat):Str:=⟨#[c]⟩
def Gj:SpD:=fun ds G R=>∃x:Str,ds=[.str x]/\x.length≤1000/\R (lay (BL ((Txt.split x (chr 10)).map fun p=>p.cps.toList))) G
theorem RZ {X:Cx} {ρ:Rho} {G:Gs} {a:Expr} {l:List Dat} {pos pp:Pos} {p:Addr} (hG:G p=some (.lst l)) (hg:Gl X "tuple") (hm:X.mg "tuple"=none) (hv:bootBuiltins "tuple"=some (.type "tuple")) (ha:PX X ρ G a (.fn p)) (he:starEach [a] X.env=(false,eval a X.env)::starEach [] X.env:=by rfl):PX X ρ G (.Call (.Name "tuple" pp) [a] [] pos) (.tup l):=
 Gw FL hg hm hv ha (fun H x Q o r k=>by
  obtain ⟨vs,h1,r1⟩:=o p _ hG
  cases (show x=V.ref p from r)
  exact ⟨p,vs,rfl,.inl ⟨SqL.of h1,fun t ht=>k _ _ (GC o ht r1)⟩⟩) (he:=he)
theorem JC (a:List (List Nat)) (b:List Nat):BL (a++[b])=BL a++L7 a.length b:=by
 unfold BL
 rw [List.length_append,List.length_singleton,List.range_succ,List.flatMap_append]
 congr 1
 ·rw [List.flatMap_def,List.flatMap_def]
  congr 1
  refine List.map_congr_left fun i hi=>?_
  have sE:i<a.length:=by simpa using hi
  rw [List.getD_eq_getElem?_getD,List.getD_eq_getElem?_getD,List.getElem?_append_left sE]
 ·simp
def FY (i:Nat) (cs:List Nat) (n:Nat):Lay:=(List.range n).flatMap fun j=>DU i j cs[j]?
theorem Ik (i:Nat) (cs:List Nat) (n:Nat):FY i cs (n+1)=FY i cs n++DU i n cs[n]?:=by
 unfold FY
 rw [List.range_succ,List.flatMap_append]
 simp
theorem Kf (i:Nat) (cs:List Nat) (n:Nat):(FY i cs n).length≤n:=by
 induction n with
 |zero=>simp [FY]
 |succ n ih=>
  rw [Ik,List.length_append]
  have:(DU i n cs[n]?).length≤1:=by
   unfold DU
   split
   ·simp
   ·split<;>simp
  lia
theorem Hi (ls:List (List Nat)):∀n,(BL (ls.take n)).length≤((ls.take n).map List.length).sum
 |0=>by simp [BL]
 |n+1=>by
  have ih:=Hi ls n
  rw [List.take_add_one]
  cases h:ls[n]? with
  |none=>simpa using ih
  |some b=>
   rw [Option.toList_some,JC,List.length_append,List.map_append,List.sum_append]
   have:=Kf (ls.take n).length b b.length
   unfold FY at this
   unfold L7
   simp at this ih ⊢
   lia
theorem IY (ls:List (List Nat)):(BL ls).length≤(ls.map List.length).sum:=by
 have:=Hi ls ls.length
 rwa [List.take_length]at this
theorem Tz:∀ps:List (List Nat),(ps.map List.length).sum≤(jn ps).length
 |[]=>by simp [jn]
 |[a]=>by simp [jn]
 |a::b::r=>by
  have:=Tz (b::r)
  show _≤(a++10::jn (b::r)).length
  rw [List.length_append,List.length_cons,List.map_cons,List.sum_cons]
  lia
theorem J5 (x:Str):(((Txt.split x (chr 10)).map fun p=>p.cps.toList).map List.length).sum≤x.length:=by
 have h:=Tz ((Txt.split x (chr 10)).map fun p=>p.cps.toList)
 rw [<-P9,show (⟨#[10]⟩:Str)=chr 10 from rfl,StrLaws.join_split]at h
 exact h
theorem Tw {i:Nat} {ls:List (List Nat)} {c:List Nat} (h:ls[i]?=some c):((ls.take i).map List.length).sum+c.length≤(ls.map List.length).sum:=by
 have e:ls.take (i+1)=ls.take i++[c]:=by rw [List.take_add_one,h];rfl
 have e2:(ls.map List.length).sum=((ls.take (i+1)).map List.length).sum+((ls.drop (i+1)).map List.length).sum:=by
  rw [<-List.sum_append,<-List.map_append,List.take_append_drop]
 rw [e2,e,List.map_append,List.sum_append]
 simp
theorem K9 (c d:Nat):(chr c==chr d)=decide (c=d):=by
 rw [Bool.eq_iff_iff,beq_iff_eq,decide_eq_true_eq]
 constructor
 ·intro h
  unfold chr at h
  injection h with h
  simpa using h
 ·rintro rfl;rfl
end TF
namespace TF
open PySem
structure MadeR (h h':Heap) (e:Addr) (cls:Value):Prop where
 keeps:∀b o,h.get? b=some o->h'.get? b=some o
 new:h.get? e=none
 there:∃oe vs t,h'.get? e=some oe/\oe.cls=cls/\oe.data=.fields vs/\vs[0]?=some (.ref t)/\vs[1]?=some .none
theorem Jn:entryFor table "proto.unchain"=some Builtin.«proto.unchain»:=entryFor_of_tree (by kernel_rfl)
section
variable {prog:Program}{w:World}{A:Around}{E:Value->Shared->Prop}{s:Shared}{env:Env}
variable {nm q:Str}{C N:Addr}{bs bm Fs:List Value}{hdct:Bool}{sn:List Str}{sub:List Value}{ab:Bool}{col:Option Bool}{dd:Option Addr}{k0 k1 k2 k3 k5:Option Value}{B newId O9:String}
theorem MZ {α:Type} {e ea:Addr} {oe:Obj} {vs:Array Value} {Q:α->Shared->Prop} (hh:A.handled=some (.ref ea)) (D7:ea≠e) (bg:Clr s.heap ea) (he:s.heap.get? e=some oe) (hd:oe.data=.fields vs) (hz:2<vs.size)
  (h:E (.ref e) { s with heap:=s.heap.update e (Obj.mapFields (·.setIfInBounds 2 (.ref ea))) }):wpAny (model prog w) A (raiseNew (.ref e):Sem α) Q E s:=by
 obtain ⟨o1,v1,g1,g2,g3⟩:=bg
 unfold raiseNew
 refine wpAny_bind (wpAny_handled ?_)
 rw [hh]
 dsimp only
 rw [if_pos (show (Value.ref ea != Value.ref e)=true by simpa using D7)]
 refine wpAny_bind (wpAny_holding (wpAny_runValue (codeAny_builtin Jn ?_)))
 unfold Builtin.«proto.unchain»
 dsimp only
 refine wpAny_bind (wpAny_field g1 g2 g3 ?_)
 rw [if_pos (by decide)]
 refine wpAny_pure ?_
 exact wpAny_bind (wpAny_setField he hd hz (wpAny_throw h))
theorem JO {ea:Addr} {x c:Sem Value} {Q:Flow->Shared->Prop} (Cm:bm.contains (.type "BaseException")=true) (hh:A.handled=some (.ref ea)) (hc:∀{Q':Value->Shared->Prop} {s':Shared},Q' .none s'->wpAny (model prog w) A c Q' E s')
  (h:wpAny (model prog w) A x (fun v s₁=>∃e t,v=.ref e/\ea≠e/\Clr s₁.heap ea/\s₁.heap.get? C=some (excClassObj nm q C N bs bm hdct sn sub ab col dd k0 k1 k2 k3 k5 newId) ∧
   s₁.heap.get? e=some { cls:=.ref C,data:=.fields #[.ref t,.none,.none,.none,.bool false,.none] } ∧
   ∀h',(∀b,b≠e->h'.get? b=s₁.heap.get? b)->(∃oe vs,h'.get? e=some oe/\oe.cls=.ref C/\oe.data=.fields vs/\vs[0]?=some (.ref t)/\vs[1]?=some .none)->E (.ref e) { s₁ with heap:=h' }) E s) :
  wpAny (model prog w) A (raiseStmt env (some x) (some c)) Q E s:=by
 have Wl:(Value.ref C::bm).contains (.type "BaseException")=true:=by rw [List.contains_cons,Cm,Bool.or_true]
 unfold raiseStmt
 refine wpAny_bind (wpAny_mono h (fun v s₁ h₁=>?_) fun _ _ x=>x)
 obtain ⟨e,t,rfl,D7,bg,hC,he,hE⟩:=h₁
 obtain ⟨hp,g,d,tk,os⟩:=s₁
 dsimp only
 refine wpAny_bind (wpAny_holding (hc (wpAny_bind (wpAny_pure ?_))))
 have eO:e≠C:=fun z=>by rw [z]at he;rw [he]at hC;cases hC
 have hx:∀{Q':Value->Shared->Prop},Q' (.ref e) ⟨hp,g,d,tk,os⟩->wpAny (model prog w) A (excFromValue (.ref e) "exceptions must derive from BaseException") Q' E ⟨hp,g,d,tk,os⟩:=fun hq=>by
  unfold excFromValue
  repeat (first|with_reducible refine wpAny_loadPart_at he ?_|with_reducible refine wpAny_loadPart_at hC ?_|(with_reducible refine wpAny_isSubtype_exc hC ?_;rw [Wl])|wp_step)
  exact hq
 refine wpAny_bind (wpAny_holding (hx ?_))
 dsimp only
 rw [if_pos (by decide)]
 refine wpAny_bind (wpAny_pure (wpAny_bind (wpAny_setField he rfl (show 3<6 by decide) ?_)))
 have cv:=Heap.get?_update_self (Obj.mapFields (·.setIfInBounds 3 Value.none)) he rfl
 refine wpAny_bind (wpAny_setField cv rfl (show 4<6 by decide) ?_)
 have he2:=Heap.get?_update_self (Obj.mapFields (·.setIfInBounds 4 (Value.bool true))) cv rfl
 have dU:∀b,b≠e->((hp.update e (Obj.mapFields (·.setIfInBounds 3 Value.none))).update e (Obj.mapFields (·.setIfInBounds 4 (Value.bool true)))).get? b=hp.get? b:=fun b hb=>
  (Heap.get?_update_other _ _ (Ne.symm hb)).trans (Heap.get?_update_other _ _ (Ne.symm hb))
 generalize ((hp.update e (Obj.mapFields (·.setIfInBounds 3 Value.none))).update e (Obj.mapFields (·.setIfInBounds 4 (Value.bool true))))=Jg at he2 dU
 have dD:=(dU C (Ne.symm eO)).trans hC
 have lP:Jg.get? e=some { cls:=.ref C,data:=.fields #[.ref t,.none,.none,.none,.bool true,.none] }:=he2
 repeat (first|with_reducible refine wpAny_loadPart_at lP ?_|with_reducible refine wpAny_loadPart_at dD ?_|(with_reducible refine wpAny_isSubtype_exc dD ?_;rw [Wl])|wp_step)
 have sZ:Clr Jg ea:=by
  obtain ⟨o1,v1,g1,g2⟩:=bg
  exact ⟨o1,v1,(dU ea D7).trans g1,g2⟩
 refine MZ (s:=⟨Jg,g,d,tk,os⟩) hh D7 sZ lP rfl (show 2<6 by decide) (hE _ (fun b hb=>(Heap.get?_update_other _ _ (Ne.symm hb)).trans (dU b hb)) ⟨_,_,Heap.get?_update_self _ lP rfl,rfl,rfl,rfl,rfl⟩)
theorem OM {ea:Addr} (F:ExcBaseFacts B newId O9 Fs) {mN:Str->Option Value} {x:Str} {np Ay pos p2:Pos} {j:Nat} {args:List Expr} {Q:Flow->Shared->Prop}
  (Cm:bm.contains (.type "BaseException")=true) (hh:A.handled=some (.ref ea)) (N2:(backTo Ay (starEach args env)).any (·.1)=false) (sg:mN "__init__"=none)
  (h:wpAny (model prog w) A (eval (.Name x np) env) (fun f s₁=>f=.ref C/\wpAny (model prog w) A (evalArgs (.ref C) true (backTo Ay (starEach args env)) [])
   (fun a s₂=>a.kw=[]/\a.pos.length≤sizeLine/\s₂.heap.get? C=some (excClassObj nm q C N bs bm hdct sn sub ab col dd k0 k1 k2 k3 k5 newId)/\s₂.heap.Ns N mN/\OwnTail s₂.heap Fs bm/\Clr s₂.heap ea ∧
    ∀h' e,MadeR s₂.heap h' e (.ref C)->E (.ref e) { s₂ with heap:=h' }) E s₁) E s) :
  wpAny (model prog w) A (exec (.Raise (some (.Call (.Name x np) args [] Ay)) (some (.Constant .none j p2)) pos) env) Q E s:=by
 rw [arm_exec_Raise]
 refine wpAny_bind (wpAny_standAt (JO (C:=C) (nm:=nm) (q:=q) (N:=N) (bs:=bs) (bm:=bm) (hdct:=hdct) (sn:=sn) (sub:=sub) (ab:=ab) (col:=col) (dd:=dd) (k0:=k0) (k1:=k1) (k2:=k2) (k3:=k3) (k5:=k5) (newId:=newId) (ea:=ea) Cm hh (fun {Q'} {s'} hq=>?_) ?_))
 ·exact wpAny_bind (PyProof.Rows.Constant_none (wpAny_bind (wpAny_standAt (wpAny_pure hq))))
 refine wpAny_bind (wpAny_mono (wpAny_Call_ofName (wpAny_mono h (fun f s₁ h₁=>?_) fun _ _ x=>x)) (fun v s₃ h₃=>wpAny_bind (wpAny_standAt (wpAny_pure h₃))) fun _ _ x=>x)
 obtain ⟨rfl,h₁⟩:=h₁
 unfold callWith
 refine wpAny_bind (wpAny_holding (wpAny_mono h₁ (fun a s₂ h₂=>wpAny_bind (wpAny_standAt ?_)) fun _ _ x=>x))
 obtain ⟨apos,pq⟩:=a
 obtain ⟨pQ,hlen,hC,hn,T,bg,h₂⟩:=h₂
 obtain rfl:pq=[]:=pQ
 obtain ⟨hp,g,d,tk,os⟩:=s₂
 simp only [N2]
 refine wpAny_bind (wpAny_keeperOf_exc hC ?_)
 refine wpAny_bind (wpAny_call_exc_subT (hrest:=hlen) F T hC hn sg fun h' e hm=>wpAny_bind (wpAny_holding (wpAny_point (wpAny_pure ?_))))
 obtain ⟨t,ht,_,_⟩:=hm.there
 obtain ⟨o1,v1,g1,g2⟩:=bg
 refine ⟨e,t,rfl,fun z=>?_,⟨o1,v1,hm.keeps _ _ g1,g2⟩,hm.keeps _ _ hC,ht,fun h2 hk rq=>h₂ h2 e ⟨fun b o hb=>(hk b fun z=>?_).trans (hm.keeps _ _ hb),hm.new,?_⟩⟩
 ·have:=hm.new
  rw [<-z]at this
  rw [this]at g1
  cases g1
 ·have:=hm.new
  rw [<-z,hb]at this
  cases this
 ·obtain ⟨oe,vs,y1,y2,y3,y4,y5⟩:=rq
  exact ⟨oe,vs,t,y1,y2,y3,y4,y5⟩
end
end TF
namespace TF
open PySem PySem.Spec L2
open PyProof.Rows hiding St RelV
def FXC (X:Cx) (pins:List (Addr×Obj)) (σ:St) (H:Hp) (G:Gs) (RX:Value->Gs->Prop) (e:Value) (s':Shared):Prop:=
 ∃ea cls s1 H1 H' G',e=.ref ea/\Inv X pins σ H1 s1/\s'.os=s1.os/\AllBare s'.gens/\Fly X.prog X.w X.stack H1 s1.heap H' s'.heap ea cls/\Clr s'.heap ea/\Ext H G H' G'/\GOk X.K H' G'/\RX cls G'
def bC (X:Cx) (ρ:Rho) (G:Gs) (e:Expr) (Q:Dat->Gs->Prop) (RX:Value->Gs->Prop):Prop:=
 ∀(pins:List (Addr×Obj)) (s:Shared) (σ:St) (H:Hp),Inv X pins σ H s->Stt X H σ ρ G->wpAny (model X.prog X.w) X.A (eval e X.env) (EP X pins σ (Po X H G Q)) (FXC X pins σ H G RX) s
structure FlyH (P:Program) (w:World) (outer:List Env) (H:Hp) (h:Heap) (H':Hp) (h':Heap) (ea:Addr) (cls:Value) (L:Addr):Prop where
 ex:∃a0 B,Heap.HeldW B outer ea cls a0 L h'/\HOk P w H' B/\(∀b o,h.get? b=some o->H b=none->b∉frs outer->B.get? b=some o)/\∀b o,h.get? b=some o->b∉frs outer->∃o',B.get? b=some o'
 un:Un (frs outer) [] H H' h h'
 free:H' ea=none
def XYP (X:Cx) (pins:List (Addr×Obj)) (H:Hp) (G:Gs) (RX:Value->Gs->Prop) (e:Value) (s':Shared):Prop:=XPr X pins H G RX e s' ∨
 ∃ea cls σ' s1 H1 H' G',e=.ref ea/\Inv X pins σ' H1 s1/\s'.os=s1.os/\AllBare s'.gens/\FlyH X.prog X.w X.stack H1 s1.heap H' s'.heap ea cls X.env.locals/\Ext H G H' G'/\GOk X.K H' G'/\RX cls G'
theorem XYP.trans {X:Cx} {pins:List (Addr×Obj)} {H H1:Hp} {G G1:Gs} {RX:Value->Gs->Prop} {e:Value} {s':Shared} (x:Ext H G H1 G1) (h:XYP X pins H1 G1 RX e s'):XYP X pins H G RX e s':=by
 rcases h with h|⟨ea,cls,σ',s1,H2,H',G',a,b,c,d,f,g,o⟩
 ·exact .inl (XPr.trans x h)
 ·exact .inr ⟨ea,cls,σ',s1,H2,H',G',a,b,c,d,f,x.trans g,o⟩
def Hr (X:Cx) (ρ:Rho) (G:Gs) (st:List Stmt) (D:DE) (RX:Value->Gs->Prop):Prop:=
 ∀(pins:List (Addr×Obj)) (s:Shared) (σ:St) (H:Hp),Inv X pins σ H s->Stt X H σ ρ G->wpAny (model X.prog X.w) X.A (execs st X.env) (SP X pins (Em X H G D)) (XYP X pins H G RX) s
section
variable {X:Cx}{ρ:Rho}{G:Gs}{D:DE}{RX RC:Value->Gs->Prop}{st:Stmt}{rest:List Stmt}{c e:Expr}{es:List Expr}{ds:List Dat}{pos p:Pos}{S:SpX}{k:Nat}{ps:List Str}{x:Str}{Q:Dat->Gs->Prop}
theorem VP (hx:X.xe=fun _ _=>False) (F:DfC X.prog X.w X.K X.mg X.base x ps k S) (hr:Room k X.A) (ha:PXs X ρ G (e::es) ds) (hS:S ds G Q RX) (hg:Gl X x:=by rfl)
  (DQ:(x==("__debug__":Str))=false:=by decide) (he:starEach (e::es) X.env=(false,eval e X.env)::starEach es X.env:=by rfl) (hpl:(backTo pos (starEach es X.env)).any (·.1)=false:=by rfl):bC X ρ G (.Call (.Name x p) (e::es) [] pos) Q RX:=by
 obtain ⟨f,fd,F,hm,hk,hb⟩:=F.ex
 intro pins s σ H I S0
 refine wpAny_Call_Name_kw (DX I hg hm ?_ DQ)
 have h1:=ha pos pins s σ H I S0
 rw [hx]at h1
 refine PySem.W.callWith_K (h₀:=X.base) I.ok.mod.kin hk (wpAny_mono h1 (fun us s1 ⟨vs,H1,I1,rv,d',G1,e1,o1,rep,q1,q2⟩=>⟨I1.kIn,?_⟩) fun _ _ z=>z.elim) he hpl
 subst q1
 subst q2
 have P1:C8 X.K S vs H1 (Po X H G1 Q) (fun cls dx H'=>∃G',Ext H1 G1 H' G'/\GOk X.K H' G'/\RX cls G'):=⟨d',G1,Q,RX,o1,rep,hS,fun v H' d G' e' o' r' q'=>⟨d,G',e1.trans e',o',r',q'⟩,fun cls H' G' e' o' q'=>⟨G',e',o',q'⟩⟩
 have hl:us.length=ps.length:=by rw [<-rv.length];exact F.len _ _ _ _ P1
 refine wpAny_call (codeAny_mono (F.run X.A X.stack s1 H1 ⟨us,[]⟩ us vs _ _ hr I1.env0 (by have:=hb s1 us I1.kIn (by rw [List.append_nil];exact hl);rw [List.append_nil]at this;exact this) rv P1) fun r s' hq=>?_)
 cases r with
 |error er=>
  obtain ⟨ea,cls,H',rfl,h3,h4,IW,bg,G',e',o',q'⟩:=hq
  exact ⟨ea,cls,s1,H1,H',G',rfl,I1,h3,h4,IW,bg,e1.trans e',o',q'⟩
 |ok fl=>
  cases fl with
  |ret u=>exact I1.after hq
  |next=>exact False.elim hq
  |brk=>exact False.elim hq
  |cont=>exact False.elim hq
theorem Pl (h:∀(pins:List (Addr×Obj)) (s:Shared) (σ:St) (H:Hp),Inv X pins σ H s->Stt X H σ ρ G->wpAny (model X.prog X.w) X.A (exec st X.env) (SP X pins (Em X H G { D with nx:=fun ρ' G'=>Hr X ρ' G' rest D RX })) (XYP X pins H G RX) s):Hr X ρ G (st::rest) D RX:=by
 intro pins s σ H I S
 refine wpAny_execs_cons (thn (h pins s σ H I S) fun f s1 q=>?_)
 cases f with
 |next=>
  obtain ⟨σ',H',I',ρ',G',e',S',q⟩:=q
  exact wpAny_mono (q pins s1 σ' H' I' S') (fun _ _ z=>SP.trans e' z) (fun _ _ z=>XYP.trans e' z)
 |ret v=>exact q
 |brk=>exact q
 |cont=>exact q
theorem Rh (h:WS X ρ G st { D with nx:=fun ρ' G'=>Hr X ρ' G' rest D RX }) (hx:X.xe=fun _ _=>False):Hr X ρ G (st::rest) D RX:=Pl fun pins s σ H I S=>by
 have h1:=h pins s σ H I S
 rw [hx]at h1
 exact wpAny_mono h1 (fun _ _ z=>z) fun _ _ z=>z.elim
theorem RN (i:Nat) {x:Str} {pos':Pos} (hN:X.N.Nodup) (h:WE X ρ G e fun d G'=>Hr X (ρ.set i (some d)) G' rest D RX) (tY:X.xe=fun _ _=>False) (hi:X.N[i]?=some x:=by rfl) (hx:Loc X.env.scope x:=by first|exact Or.inl rfl|exact Or.inr rfl)
  (hs:swapsWith e (some (.Name x pos')) pos.line X.env=pure false:=by rfl) (hf:X.fn x=true\/X.env.scope.names.lookup x=some .local:=by first|exact .inl rfl|exact .inr rfl|assumption):Hr X ρ G (.Assign [.Name x pos'] e pos::rest) D RX:=
 Rh (NR (OQ (i:=i) hN hi hx Ax hs hf) fun σ H S=>⟨ρ,G,_,h,S,fun v H' ⟨d,G',e',o',r',q'⟩=>⟨_,G',e',(S.ext e' o').set r',q'⟩⟩) tY
theorem U1 {x:List Stmt} {b:Bool} (hc:PXT X ρ G c b) (ht:b=true->FG X ρ G x { D with nx:=fun _ _=>False } RX) (hf:b=false->Hr X ρ G rest D RX) (hx:X.xe=fun _ _=>False):Hr X ρ G (.If c x [] pos::rest) D RX:=by
 intro pins s σ H I S
 have TL:=hc pins s σ H I S
 rw [hx]at TL
 refine wpAny_execs_cons (wpAny_If (wpAny_mono TL (fun b' s1 ⟨H1,I1,G1,e1,o1,q1,q2⟩=>?_) fun _ _ z=>z.elim))
 subst q1;subst q2
 cases b' with
 |true=>
  rw [if_pos rfl]
  refine wpAny_mono (ht rfl pins s1 σ H1 I1 (S.ext e1 o1)) (fun f s2 z=>?_) fun _ _ z=>.inl (XPr.trans e1 z)
  cases f with
  |next=>obtain ⟨_,_,_,_,_,_,_,q⟩:=z;exact q.elim
  |ret v=>exact SP.trans (D:=D) e1 z
  |brk=>exact SP.trans (D:=D) e1 z
  |cont=>exact SP.trans (D:=D) e1 z
 |false=>
  rw [if_neg Bool.false_ne_true]
  exact wpAny_execs_nil (wpAny_mono (hf rfl pins s1 σ H1 I1 (S.ext e1 o1)) (fun _ _ z=>SP.trans e1 z) fun _ _ z=>XYP.trans e1 z)
end
section
variable {X:Cx}{ρ:Rho}{G:Gs}{RX RC:Value->Gs->Prop}{D:DE}{rest body HY:List Stmt}{b₀:Stmt}{pos np Jv p':Pos}{cx:Str}
theorem V4 {pins:List (Addr×Obj)} {σ:St} {H1 H':Hp} {s1 s':Shared} {ea C Dc:Addr} {Fs Iz:List Value} {newId newId' ED XM:String} {Q:Flow->Shared->Prop} {E:Value->Shared->Prop}
  (ES:X.stack=X.env::X.outer) (Fq:X.env.frame=some X.env.locals) (I1:Inv X pins σ H1 s1) (Jo:s'.os=s1.os) (Dz:AllBare s'.gens) (IW:Fly X.prog X.w X.stack H1 s1.heap H' s'.heap ea (.ref C)) (bg:Clr s'.heap ea)
  (hC:PySem.W.excIn X.K C Fs newId=true) (hD:PySem.W.excIn X.K Dc Iz newId'=true) (FD:ExcBaseFacts XM newId' ED Iz) (hu:BG X.K C Dc=true) (hm:X.mg cx=some (.ref Dc)) (hg:Gl X cx) (DQ:(cx==("__debug__":Str))=false)
  (k:∀h6 oe vs,Inv (Cx.mk' X ea) pins σ H' { s' with heap:=h6 }->h6.get? ea=some oe->oe.data=.fields vs->vs[2]?=some .none->H' ea=none →
   wpAny (model X.prog X.w) (X.A.mark (some (.ref ea))) (execs (b₀::HY) X.env) Q (notedBy (model X.prog X.w) (X.A.mark (some (.ref ea))) X.env fun y s₂=>cameBackBy (model X.prog X.w) X.A X.env E y s₂) { s' with heap:=h6 }) :
  wpAny (model X.prog X.w) X.A (noteFrame (.ref ea) X.env) (fun _ s₂=>wpAny (model X.prog X.w) X.A (setFlight (.ref ea) none) (fun _ s₃=>wpAny (model X.prog X.w) X.A (handleBy (.ref ea) X.env [.ExceptHandler (some (.Name cx np)) none (b₀::HY) Jv]) Q E s₃) E s₂) E s':=by
 obtain ⟨a0,B,fl,hB,c1,c2⟩:=IW.ex
 have GA:=I1.ok.frames
 rw [ES]at fl GA
 refine V1 GA Fq fl fun h4 held lM b4=>K5 (s:={ s' with heap:=h4 }) held.1 held.2.2.1 held.2.2.2 fun h5 l1 l2 l3 ko b5=>?_
 have W5:Heap.FlyingW B (X.env::X.outer) ea (.ref C) a0 h5:=⟨l1,held.2.1,l2,l3⟩
 have Lg:Fly X.prog X.w X.stack H1 s1.heap H' h5 ea (.ref C):=by
  refine Fly.step IW.un IW.free hB c1 c2 (outer0:=X.stack) (by rw [ES];exact fl.2.2.1) (fun _ z=>z) (by rw [ES];exact W5) (lM.trans ko)
 have I5:Inv X pins σ H' { s' with heap:=h5 }:=I1.call' (s':={ s' with heap:=h5 }) Jo Lg.un Lg.hok Dz (by simp)
 obtain ⟨bm,N,nm,qn,bs,hdct,sn,sub,ab,col,dd,k0,k1,k2,k3,k5,mN,oC,oN,oi,tl,lC⟩:=DO I1.mod.kin hC
 obtain ⟨bm',N',nm',gC,bs',hdct',sn',sub',ab',col',dd',k0',k1',k2',k3',k5',m6,oD,_,_,dM,lD⟩:=DO I1.mod.kin hD
 obtain ⟨oe,SR,ZE⟩:=W5.there
 refine wpAny_handleBy_cons (codeAny_handlers_test (DX (X:=Cx.mk' X ea) (Ey I5 ea) hg hm ?_ DQ)) (by intro z;cases z)
 have hq:=Ls lC hu
 refine Ml (I5.bk _ _ oC) (I5.bk _ _ oD) SR ZE (dM.hasType FD.hasBase) ?_
 rw [hq]
 refine codeAny_handlers_suite (K5 (s:={ s' with heap:=h5 }) l1 l2 l3 fun h6 m1 m2 m3 gj b6=>?_)
 have cw:Heap.FlyingW B (X.env::X.outer) ea (.ref C) a0 h6:=⟨m1,held.2.1,m2,m3⟩
 have Ot:Fly X.prog X.w X.stack H1 s1.heap H' h6 ea (.ref C):=Fly.step Lg.un Lg.free hB c1 c2 (outer0:=X.stack) (by rw [ES];exact W5.2.2.1) (fun _ z=>z) (by rw [ES];exact cw) gj
 have I6:Inv X pins σ H' { s' with heap:=h6 }:=I1.call' (s':={ s' with heap:=h6 }) Jo Ot.un Ot.hok Dz (by simp)
 obtain ⟨o6,v6,z1,z2,z3⟩:=b6 (b5 (b4 bg))
 exact k h6 o6 v6 (Ey I6 ea) z1 z2 z3 Ot.free
theorem TX {pins:List (Addr×Obj)} {σ:St} {H:Hp} {s:Shared} {ea:Addr} {oe:Obj} (ok:X.Ok) (I:Inv (Cx.sx X ea oe) pins σ H s):Inv X pins σ H s:=
 ⟨ok,I.os,I.bare,I.base,I.loc,I.cell,I.free,I.freeC,fun p hp=>I.pin p (List.mem_cons_of_mem _ hp),I.hok,I.len⟩
theorem Su (i:Nat) {x rx:Str} {msg:Str} {c:Expr} {px rp qK cp sN mp:Pos} {j1 j2:Nat} {Dc Cn:Addr} {Iz ov:List Value} {newId' ED XM Zp bq BN:String} (ES:X.stack=X.env::X.outer) (Fq:X.env.frame=some X.env.locals) (hN:X.N.Nodup)
  (hb:bC X ρ G c (fun d G'=>Hr X (ρ.set i (some d)) G' rest D RX) RC)
  (hD:PySem.W.excIn X.K Dc Iz newId'=true) (FD:ExcBaseFacts XM newId' ED Iz) (hm:X.mg cx=some (.ref Dc))
  (hn:PySem.W.excIn X.K Cn ov Zp=true) (FN:ExcBaseFacts BN Zp bq ov) (qI:X.mg rx=some (.ref Cn))
  (hs:∀cls G',RC cls G'->∃C Fs newId,cls=.ref C/\PySem.W.excIn X.K C Fs newId=true/\BG X.K C Dc=true/\RX (.ref Cn) G')
  (hi:X.N[i]?=some x:=by rfl) (hl:Loc X.env.scope x:=by first|exact Or.inl rfl|exact Or.inr rfl) (hw:swapsWith c (some (.Name x p')) px.line X.env=pure false:=by rfl) (hf:X.fn x=true\/X.env.scope.names.lookup x=some .local:=by first|exact .inl rfl|exact .inr rfl|assumption)
  (hg:Gl X cx:=by rfl) (DQ:(cx==("__debug__":Str))=false:=by decide) (rj:Gl X rx:=by rfl) (jK:(rx==("__debug__":Str))=false:=by decide) :
  Hr X ρ G (.Try [.Assign [.Name x p'] c px] [.ExceptHandler (some (.Name cx np)) none [.Raise (some (.Call (.Name rx qK) [.Constant (.str msg) j1 mp] [] cp)) (some (.Constant .none j2 sN)) rp] Jv] [] [] pos::rest) D RX:=Pl fun pins s σ H I S=>by
 refine wpAny_Try_except (wpAny_execs_cons (wpAny_mono (wpAny_Assign_Name (E:=FXC X pins σ H G RC) (Q:=SP X pins (Em X H G { D with nx:=fun ρ' G'=>Hr X ρ' G' rest D RX })) (thn (hb pins s σ H I S) fun v s1 ⟨y,H1,I1,r1,d',G1,e1,o1,r2,q1⟩=>Gr I1 hN hi hl r1 (fun s2 I2=>⟨_,H1,I2,_,G1,e1,(S.ext e1 o1).set r2,q1⟩) hf) hw) (fun f s1 z=>?_) fun e s' z=>?_))
 ·cases f with
  |next=>exact wpAny_execs_nil (wpAny_execs_nil z)
  |ret v=>exact z
  |brk=>exact z
  |cont=>exact z
 ·obtain ⟨ea,cls,s1,H1,H',G',rfl,I1,Jo,Dz,IW,bg,ex,go,pZ⟩:=z
  obtain ⟨C,Fs,newId,rfl,hC,hu,vH⟩:=hs cls G' pZ
  refine V4 ES Fq I1 Jo Dz IW bg hC hD FD hu hm hg DQ fun h6 oe vs I6 g1 g2 g3 Ha=>?_
  have I7:=SX I6 g1 g2 Ha
  have S5:=S.ext ex go
  have S7:Stt (Cx.sx X ea oe) H' σ ρ G':=⟨S5.env,S5.len,S5.own⟩
  obtain ⟨bm,N,nm,qn,bs,hdct,sn,sub,ab,col,dd,k0,k1,k2,k3,k5,mN,oC,oN,oi,tl,_⟩:=DO I1.mod.kin hn
  refine wpAny_execs_cons (OM (ea:=ea) (C:=Cn) (nm:=nm) (q:=qn) (N:=N) (bs:=bs) (bm:=bm) (hdct:=hdct) (sn:=sn) (sub:=sub) (ab:=ab) (col:=col) (dd:=dd) (k0:=k0) (k1:=k1) (k2:=k2) (k3:=k3) (k5:=k5) FN (mN:=mN) (tl.hasType FN.hasBase) rfl rfl oi (DX (X:=Cx.sx X ea oe) I7 rj qI ⟨rfl,?_⟩ jK))
  have h1:=(AA (CN (X:=Cx.sx X ea oe) (ρ:=ρ) (G:=G') (x:=msg) (j:=j1) (pos:=mp)) AE) cp pins { s' with heap:=h6 } σ H' I7 S7
  refine Calls.evalArgs_plain (wpAny_mono h1 (fun us s2 ⟨Ld,H2,I2,rv,d',G2,e2,o2,rep,q1,q2⟩=>?_) fun _ _ z=>z.elim)
  subst q1
  subst q2
  have Jg:=I2.pin (ea,oe) (by simp)
  have J2:Inv X pins σ H2 s2:=TX I.ok I2
  refine ⟨rfl,?_,I2.bk _ _ oC,oN.keeps I2.bk,tl.keeps I2.bk,⟨oe,vs,Jg.1,g2,g3⟩,fun h8 e8 ZH=>?_⟩
  ·have:us.length≤1000:=by rw [<-rv.length,rep.length];simp
   exact Nat.le_trans this (by rw [sizeLine_eq];decide)
  have stk:=J2.stack
  have free:=J2.stkFree
  have GA:=J2.ok.frames
  rw [ES]at stk GA free
  have Rz:∀env∈(X.env::X.outer),∀a,env.frame=some a->a∈(X.env::X.outer).filterMap (·.frame):=fun env he b hb=>List.mem_filterMap.mpr ⟨env,he,hb⟩
  have YW:=Mv J2.hok free
  have Lo:(PySem.W.hideAll s2.heap ((X.env::X.outer).filterMap (·.frame))).StaysIn s2.heap:=fun b o q=>PySem.W.of_hideAll _ q
  have bb:=PySem.W.funFrames_hide stk Rz
  obtain ⟨o8,v8,t8,y1,y2,y3,y4,y5⟩:=ZH.there
  have fresh:(PySem.W.hideAll s2.heap ((X.env::X.outer).filterMap (·.frame))).get? e8=none:=by
   cases hq:(PySem.W.hideAll s2.heap ((X.env::X.outer).filterMap (·.frame))).get? e8 with
   |none=>rfl
   |some o'=>have:=Lo e8 o' hq;rw [ZH.new]at this;cases this
  have ZT:=bb.of_keeps (h':=h8) fun b o hb _=>⟨o,ZH.keeps b o hb,rfl⟩
  unfold notedBy
  refine Jb (s:={ s2 with heap:=h8 }) (a0:=.ref t8) GA ZT Fq y1 (fun b o hb=>ZH.keeps b o (Lo b o hb)) fresh y3 y5 y4 fun h9 ⟨⟨n1,n2,n3,n4⟩,_⟩=>?_
  unfold cameBackBy
  obtain ⟨o9,v9,T9,oT,ts,m1,m2,m3,m4,m5⟩:=id n3
  refine wpAny_bind (wpAny_field (s:={ s2 with heap:=h9 }) m1 m3 m4 ?_)
  rw [if_neg (show ¬((Value.ref T9==Value.none)=true)from by simp)]
  have last:wpAny (model X.prog X.w) X.A (setFlight (.ref e8) X.env.frame) (fun _ Wy=>XYP X pins H G RX (.ref e8) Wy) (XYP X pins H G RX) { s2 with heap:=h9 }:=by
   refine K5 (s:={ s2 with heap:=h9 }) n1 n2 n3 fun vY p1 p2 p3 p4 _=>.inr ⟨e8,.ref Cn,σ,s2,H2,H2,G2,rfl,J2,rfl,J2.bare,⟨⟨.ref t8,_,⟨p1,fresh,?_,?_⟩,YW,fun b o q n hb=>?_,fun b o q hb=>?_⟩,?_,QA J2.hok ZH.new⟩,ex.trans e2,o2,?_⟩
   ·rw [ES];exact p2
   ·rw [y2,Fq]at p3;exact p3
   ·exact PySem.W.hideAll_get _ q (by rw [ES]at hb;exact hb)
   ·exact ⟨o,PySem.W.hideAll_get _ q (by rw [ES]at hb;exact hb)⟩
   ·rw [ES]
    exact QM (Un.kept ZH.keeps) (fun b o q n hb=>PySem.W.hideAll_get _ q hb) (fun b o q hb=>⟨o,PySem.W.hideAll_get _ q hb⟩) ZT (fun _ z=>z) p1 (Heap.UpToSlots.trans (fun b o q n=>n4 b o q n) p4)
   ·exact vH
  first
   |exact last
   |exact wpAny_bind (wpAny_pure last)
end
section
variable {P:Program}{w:World}{K:PySem.W.Frag}{mg:Str->Option Value}{base:Heap}
theorem aw {x qual:Str} {st:Stmt} {f:Addr} {fd:FuncData} {N ps:List Str} {k:Nat} {S:SpX} (F:Fun K x qual st f fd) (Sc:FnScope N ps (AB st)) (hlen:∀ds G R RX,S ds G R RX->ds.length=ps.length)
  (hb:∀(A8:Value) (A:Around) (outer:List Env) (s:Shared) (H:Hp) (E:XK) (ds:List Dat) (G:Gs) (R:Dat->Gs->Prop) (RX:Value->Gs->Prop),Room k (A.deeper (envOfC qual (AB st) s.heap.objs.size f A8))->S ds G R RX →
   Hr (Ct CX0 P w K mg base N qual (AB st) f A8 A outer s H E).nox (EJ N ds) G (AG st) { nx:=fun _ G'=>R .non G',rt:=R } RX):FnOk P w K mg base (CXV P w) (k+1) f fd ps (C8 K S):=by
 obtain ⟨oc,od,kV,doc,pm,an,A8,ct,SU,rfl,lk,MO⟩:=F.ex
 refine Pe lk MO Sc (fun vs H Q E h=>?_) (fun A outer s H vs Q E hr h=>?_)
 ·obtain ⟨ds,G,R,RX,_,r,hS,_⟩:=h
  rw [r.length];exact hlen ds G R RX hS
 ·obtain ⟨ds,G,R,RX,o,r,hS,k1,k2⟩:=h
  refine ⟨fun D σ H1=>D={ nx:=fun _ H'=>Q .non H',rt:=Q }/\σ=start N vs/\H1=H,?_,rfl,rfl,rfl⟩
  intro pins s1 σ H1 D I hq
  obtain ⟨rfl,rfl,rfl⟩:=hq
  have hw:=hb A8 A outer s H1 E ds G R RX hr hS pins s1 (start N vs) H1 (I.wish fun _ _=>False) (E6 o r)
  refine wpAny_mono hw (fun fl s2 z=>?_) fun e s2 z=>?_
  ·refine SP.le (SP.unwish (X:=Ct (CXV P w) P w K mg base N qual (AB st) f A8 A outer s H1 E) (E:=fun _ _=>False) z) (fun σ' H'=>?_) (fun v H'=>?_) (fun σ' H'=>?_) fun σ' H'=>?_
   ·rintro ⟨ρ',G',e',S',q⟩
    exact k1 .non H' .non G' e' S'.own rfl q
   ·rintro ⟨d,G',e',o',r',q⟩
    exact k1 v H' d G' e' o' r' q
   ·rintro ⟨_,_,_,_,q⟩;exact q
   ·rintro ⟨_,_,_,_,q⟩;exact q
  ·rcases z with ⟨ea,cls,args,σ',H',G',s3,h2,tk,rfl,rfl,I3,hm,ex,go,rx⟩|⟨ea,cls,σ',s3,H3,H',G',rfl,I3,Jo,Dz,IW,ex,go,rx⟩
   ·have J:Inv (Ct (CXV P w) P w K mg base N qual (AB st) f A8 A outer s H1 E) pins σ' H' s3:=Inv.unwish (E:=fun _ _=>False) I3
    refine NO (X:=Ct (CXV P w) P w K mg base N qual (AB st) f A8 A outer s H1 E) J rfl rfl rfl hm fun h' IW _=>?_
    exact ⟨ea,cls,H',rfl,J.os,J.bare,IW,k2 cls H' G' ex go rx⟩
   ·have J:Inv (Ct (CXV P w) P w K mg base N qual (AB st) f A8 A outer s H1 E) pins σ' H3 s3:=Inv.unwish (E:=fun _ _=>False) I3
    obtain ⟨⟨a0,B,f1,f2,f3,f4⟩,TQ,free⟩:=IW
    refine wpAny_bind (wpAny_noteFrame_againW rfl f1.2.2.2 (wpAny_landsW f1 fun h' XB up=>?_))
    exact ⟨ea,cls,H',rfl,Jo.trans J.os,Dz,Pg (X:=Ct (CXV P w) P w K mg base N qual (AB st) f A8 A outer s H1 E) J rfl rfl f1.2.2.1 f2 f3 f4 TQ free ⟨XB.1,XB.2.1,XB.2.2.1.2.2,XB.2.2.2⟩ up,k2 cls H' G' ex go rx⟩
end
section
variable {X:Cx}{pins:List (Addr×Obj)}{σ:St}{H:Hp}{s:Shared}{ea:Addr}{oe:Obj}{i:Nat}{n:Str}
theorem Rf (ok:X.Ok) (hN:X.N.Nodup) (hn:X.N[i]?=some n) (I:Inv (Cx.sx X ea oe) pins σ H s) {m:Str->Option Value} (hl:∀(i:Nat) (x:Str) (v:V),X.N[i]?=some x->σ[i]?=some (some v)->Vis X.env.scope x->∃u,RelV v u/\Zn X.env s.heap m x u)
  {h':Heap} {v:Option Value} {tk:Nat} (VI:h'.Ns X.env.locals (fun x=>if x=n then v else m x)) (sb:Heap.SameBut X.env.locals s.heap h'):Inv X pins (σ.set i none) H { s with heap:=h',toks:=tk }:=by
 have kp:∀b o,b≠X.env.locals->s.heap.get? b=some o->h'.get? b=some o:=fun b o hb e=>sb.extBut b o hb e
 have Ud:∀b o,X.s₀.heap.get? b=some o->b≠X.env.locals:=fun b o e=>Nat.ne_of_lt (Nat.lt_of_lt_of_le (Heap.lt_size e) ok.above)
 have hL:H X.env.locals=none:=I.free
 refine ⟨ok,I.os,I.bare,⟨fun b o e n hb hx=>kp b o (Ud b o e) (I.base.keep b o e n hb hx),fun b o e n hb hx=>?_,fun b o e n hx=>I.base.free b o e n hx,fun b o e hx=>?_,I.base.tups,I.base.frzs,I.base.tbls⟩,⟨_,VI,fun j x v' h1 h2 h3=>?_⟩,fun x c e=>?_,hL,I.freeC,fun p hp=>?_,fun b u q=>?_,by rw [List.length_set];exact I.len⟩
 ·obtain ⟨sl,e1⟩:=I.base.slot b o e n hb hx
  exact ⟨sl,kp b _ (Ud b o e) e1⟩
 ·obtain ⟨o',e1⟩:=I.base.there b o e hx
  exact ⟨o',kp b o' (Ud b o e) e1⟩
 ·have cK:i≠j:=fun z=>by
   subst z
   rw [List.getElem?_set]at h2
   simp at h2
  rw [List.getElem?_set_ne cK]at h2
  obtain ⟨u,r,lk⟩:=hl j x v' h1 h2 h3
  refine ⟨u,r,?_⟩
  rcases lk with ⟨k1,k2⟩|⟨k1,c,k2,k3⟩
  ·refine .inl ⟨k1,?_⟩
   show (if x=n then v else m x)=some u
   rw [if_neg (fun z=>?_)]
   ·exact k2
   ·subst z
    have a1:=List.getElem?_eq_some_iff.mp h1
    have a2:=List.getElem?_eq_some_iff.mp hn
    obtain ⟨b1,c1⟩:=a1
    obtain ⟨b2,c2⟩:=a2
    have hp:=List.pairwise_iff_getElem.mp hN
    rcases Nat.lt_or_gt_of_ne cK with q|q
    ·exact hp i j b2 b1 q (c2.trans c1.symm)
    ·exact hp j i b1 b2 q (c1.trans c2.symm)
  ·obtain ⟨o,ho,hd⟩:=k3
   exact .inr ⟨k1,c,k2,o,kp c o (I.cne x c k2) ho,hd⟩
 ·obtain ⟨v,o,ho,hd⟩:=I.cell x c e
  exact ⟨v,o,kp c o (I.cne x c e) ho,hd⟩
 ·have z:=I.pin p (List.mem_cons_of_mem _ hp)
  exact ⟨kp _ _ z.2.2.1 z.1,z.2⟩
 ·refine (I.hok b u q).stay (fun c o hc r=>kp c o ?_ r) (fun _ r=>r) fun _ _ r=>r
  rcases hc with rfl|hc
  ·exact AW q hL
  ·exact AW hc hL
end
section
variable {X:Cx}{ρ:Rho}{G:Gs}{RX:Value->Gs->Prop}{D:DE}{rest body HY:List Stmt}{b₀:Stmt}{pos np Jv:Pos}{cx n:Str}
theorem Stt.drop {H:Hp} {σ:St} {i:Nat} (S:Stt X H σ ρ G):Stt X H (σ.set i none) (ρ.set i none) G:=by
 refine ⟨fun j d h=>?_,by rw [List.length_set,List.length_set,S.len],S.own⟩
 have cK:i≠j:=fun z=>by
  subst z
  rw [List.getElem?_set]at h
  simp at h
 rw [List.getElem?_set_ne cK]at h
 obtain ⟨v,h1,h2⟩:=S.env j d h
 exact ⟨v,by rw [List.getElem?_set_ne cK];exact h1,h2⟩
theorem T6 (i:Nat) {Dc:Addr} {Iz:List Value} {newId' ED XM:String} (ES:X.stack=X.env::X.outer) (Fq:X.env.frame=some X.env.locals) (hN:X.N.Nodup) (hb:Oc X ρ G body { D with nx:=fun ρ' G'=>WSs X ρ' G' rest D } RX)
  (hD:PySem.W.excIn X.K Dc Iz newId'=true) (FD:ExcBaseFacts XM newId' ED Iz) (hm:X.mg cx=some (.ref Dc))
  (hs:∀cls G',RX cls G'->∃C Fs newId,cls=.ref C/\PySem.W.excIn X.K C Fs newId=true/\BG X.K C Dc=true/\∀ea oe,oe.cls=.ref C->WSs (Cx.sx X ea oe) (ρ.set i (some (.fn ea))) G' (b₀::HY) { nx:=fun ρ' G'=>WSs X (ρ'.set i none) G' rest D,rt:=fun _ _=>False })
  (hn:X.N[i]?=some n:=by rfl) (hl:X.env.kindOf n=some .local:=by rfl) (hg:Gl X cx:=by rfl) (DQ:(cx==("__debug__":Str))=false:=by decide):WSs X ρ G (.Try body [.ExceptHandler (some (.Name cx np)) (some n) (b₀::HY) Jv] [] [] pos::rest) D:=Bt fun pins s σ H I S=>by
 refine wpAny_Try_except (wpAny_mono (hb pins s σ H I S) (fun f s1 z=>?_) fun e s' z=>?_)
 ·cases f with
  |next=>exact wpAny_execs_nil z
  |ret v=>exact z
  |brk=>exact z
  |cont=>exact z
 ·obtain ⟨ea,cls,s1,H1,H',G',rfl,I1,Jo,Dz,IW,ex,go,rx⟩:=z
  obtain ⟨C,Fs,newId,rfl,hC,hu,hw⟩:=hs cls G' rx
  refine Yn ES Fq I1 Jo Dz IW hC hD FD hu hm hg DQ fun h5 I5 land=>?_
  refine codeAny_handlers_suite_as (land _ _ _ fun h6 I6 ⟨oe,vs,z1,z2,z3⟩ Ha=>?_)
  have I7:=SX I6 z1 z3 Ha
  refine Gr (X:=Cx.sx X ea oe) I7 hN hn (.inl hl) (v:=.ref ea) rfl (fun s7 I8=>?_) (.inr hl)
  have S5:=S.ext ex go
  have S6:Stt (Cx.sx X ea oe) H' σ ρ G':=⟨S5.env,S5.len,S5.own⟩
  have S8:Stt (Cx.sx X ea oe) H' (σ.set i (some (.ref ea))) (ρ.set i (some (.fn ea))) G':=S6.set (show Rep X.K (hid H' G') (.fn ea) (.ref ea) by rw [Rep])
  refine wpAny_mono (hw ea oe z2 pins s7 _ H' I8 S8) (fun f s8 z=>?_) fun _ _ z=>z.elim
  cases f with
  |next=>
   obtain ⟨σ9,H9,I9,ρ9,G9,e9,S9,q9⟩:=z
   obtain ⟨m,Ue,fP⟩:=id I9.loc
   have tT:Stt X H9 σ9 ρ9 G9:=⟨S9.env,S9.len,S9.own⟩
   refine wpAny_nameGoes_keeps hl Ue (by rw [I.ok.kind];rfl) fun h' v VI sb=>?_
   exact ⟨_,H9,Rf I.ok hN hn I9 fP VI sb,_,G9,ex.trans e9,tT.drop,q9⟩
  |brk=>obtain ⟨_,_,_,_,_,_,_,q⟩:=z;exact q.elim
  |cont=>obtain ⟨_,_,_,_,_,_,_,q⟩:=z;exact q.elim
  |ret u=>obtain ⟨_,_,_,_,_,_,_,_,_,_,q⟩:=z;exact q.elim
end
theorem FXP.trans {X:Cx} {pins:List (Addr×Obj)} {σ:St} {H H1:Hp} {G G1:Gs} {RX:Value->Gs->Prop} {e:Value} {s':Shared} (x:Ext H G H1 G1) (h:FXP X pins σ H1 G1 RX e s'):FXP X pins σ H G RX e s':=by
 obtain ⟨ea,cls,s1,H2,H',G',a,b,c,d,f,g,o,r⟩:=h
 exact ⟨ea,cls,s1,H2,H',G',a,b,c,d,f,x.trans g,o,r⟩
section
variable {X:Cx}{ρ:Rho}{G:Gs}{D:DE}{RX:Value->Gs->Prop}{rest:List Stmt}{c:Expr}{pos:Pos}
theorem Fz {x:List Stmt} {b:Bool} (hc:PXT X ρ G c b) (ht:b=true->Oc X ρ G x { D with nx:=fun _ _=>False } RX) (hf:b=false->Oc X ρ G rest D RX) (hx:X.xe=fun _ _=>False):Oc X ρ G (.If c x [] pos::rest) D RX:=by
 intro pins s σ H I S
 have TL:=hc pins s σ H I S
 rw [hx]at TL
 refine wpAny_execs_cons (wpAny_If (wpAny_mono TL (fun b' s1 ⟨H1,I1,G1,e1,o1,q1,q2⟩=>?_) fun _ _ z=>z.elim))
 subst q1;subst q2
 cases b' with
 |true=>
  rw [if_pos rfl]
  refine wpAny_mono (ht rfl pins s1 σ H1 I1 (S.ext e1 o1)) (fun f s2 z=>?_) fun _ _ z=>FXP.trans e1 z
  cases f with
  |next=>obtain ⟨_,_,_,_,_,_,_,q⟩:=z;exact q.elim
  |ret v=>exact SP.trans (D:=D) e1 z
  |brk=>exact SP.trans (D:=D) e1 z
  |cont=>exact SP.trans (D:=D) e1 z
 |false=>
  rw [if_neg Bool.false_ne_true]
  exact wpAny_execs_nil (wpAny_mono (hf rfl pins s1 σ H1 I1 (S.ext e1 o1)) (fun _ _ z=>SP.trans e1 z) fun _ _ z=>FXP.trans e1 z)
end
def g46:List Sq:=(List.range 24).map fun k=>(((k / 6:Nat):Int),((k%6:Nat):Int))
theorem cX:(DZ g46).length=281:=by decide +kernel
def f4:List Sq:=[(0,0),(0,1),(2,0),(2,1)]
def f2:List Sq:=[(0,0),(0,1)]
theorem mQ:g46.Pairwise AU:=by
 have h:(g46.Pairwise fun p q=>decide (AU p q)=true):=by decide +kernel
 exact h.imp fun {p q} h=>of_decide_eq_true h
theorem XF:Good f4:=⟨by decide,by
 have h:(f4.Pairwise fun p q=>decide (AU p q)=true):=by decide +kernel
 exact h.imp fun {p q} h=>of_decide_eq_true h,by decide,by decide⟩
theorem cA:Good f2:=⟨by decide,by
 have h:(f2.Pairwise fun p q=>decide (AU p q)=true):=by decide +kernel
 exact h.imp fun {p q} h=>of_decide_eq_true h,by decide,by decide⟩
theorem iU {x:Sq} (h:Con nbR (·∈f4) (0,0) x):x.1=0:=by
 induction h with
 |base=>rfl
 |step h1 h2 h3 ih=>
  rename_i x y
  obtain ⟨a,b⟩:=x
  obtain ⟨c,d⟩:=y
  have cQ:(c,d)∈f4:=h3
  have Ua:(c,d)∈nbM (a,b):=h2
  simp [f4]at cQ
  simp [nbM]at Ua
  have vn:a=0:=ih
  show c=0
  lia
theorem Zk:HS f4=false:=by
 unfold HS
 rw [Bool.eq_false_iff]
 intro e
 rw [beq_iff_eq]at e
 have e':card nbR (·∈f4) (f4.headD (0,0))=f4.length:=Int.ofNat.inj e
 have:=((UB (R:=nbR) (g:=(·∈f4)) (s:=(0,0)) (B:=f4) (XF.nodup) (fun x=>Iff.rfl) (by simp [f4])).2.mp e') (2,0) (by simp [f4])
 exact absurd (iU this) (by decide)
theorem XR:¬isL f2 (.tup []):=by
 rintro ⟨l,e,J⟩
 have:l=[]:=by
  unfold lay at e
  injection e with e
  exact List.map_eq_nil_iff.mp e.symm
 subst this
 have:=J.pm.length_eq
 simp [f2,A4]at this
theorem Vt:¬isF (.tup []):=by
 rintro ⟨M,e,gd⟩
 unfold fl at e
 injection e with e
 exact gd.ne (List.map_eq_nil_iff.mp e.symm)
theorem eU:okF (.tup []):=⟨⟨_,rfl⟩,fun l e=>by injection e with e;subst e;exact ⟨by simp,by simp⟩⟩
theorem mM:okL (.tup []):=⟨⟨_,rfl⟩,fun l e=>by injection e with e;subst e;exact ⟨by simp,by simp⟩⟩
abbrev LC:List Str:=["square","row","column"]
abbrev Bx:List Str:=["square"]
theorem Di:FnScope LC Bx (AB A9):=⟨rfl,rfl,rfl,by decide +kernel,rfl,by decide +kernel,by decide +kernel⟩
abbrev Me:List Str:=["thing"]
abbrev CG:List Str:=["thing"]
theorem Kj:FnScope Me CG (AB BR):=⟨rfl,rfl,rfl,by decide +kernel,rfl,by decide +kernel,by decide +kernel⟩
abbrev RK:List Str:=["thing"]
abbrev CW:List Str:=["thing"]
theorem Nr:FnScope RK CW (AB Bz):=⟨rfl,rfl,rfl,by decide +kernel,rfl,by decide +kernel,by decide +kernel⟩
abbrev Np:List Str:=["thing"]
abbrev Bv:List Str:=["thing"]
theorem NJ:FnScope Np Bv (AB Bi):=⟨rfl,rfl,rfl,by decide +kernel,rfl,by decide +kernel,by decide +kernel⟩
abbrev Mk:List Str:=["thing"]
abbrev Bu:List Str:=["thing"]
theorem LZ:FnScope Mk Bu (AB BU):=⟨rfl,rfl,rfl,by decide +kernel,rfl,by decide +kernel,by decide +kernel⟩
abbrev Ie:List Str:=["thing"]
abbrev Ca:List Str:=["thing"]
theorem NP:FnScope Ie Ca (AB BE):=⟨rfl,rfl,rfl,by decide +kernel,rfl,by decide +kernel,by decide +kernel⟩
abbrev Hk:List Str:=["things"]
abbrev BZ:List Str:=["things"]
theorem Lj:FnScope Hk BZ (AB A5):=⟨rfl,rfl,rfl,by decide +kernel,rfl,by decide +kernel,by decide +kernel⟩
abbrev FZ:List Str:=["one","other"]
abbrev Ju:List (Option Nat):=[none,none]
abbrev KR:List Str:=["floor"]
abbrev CS:List Str:=["floor"]
theorem Nw:FnScope KR CS (AB Bo):=⟨rfl,rfl,rfl,by decide +kernel,rfl,by decide +kernel,by decide +kernel⟩
abbrev HZ:List Str:=["thing"]
abbrev MG:List (Option Nat):=[none]
abbrev Qs:List Str:=["stones","squares","stone"]
abbrev CZ:List Str:=["stones"]
theorem Fd:FnScope Qs CZ (AB Bq):=⟨rfl,rfl,rfl,by decide +kernel,rfl,by decide +kernel,by decide +kernel⟩
abbrev D3:List Str:=["floor","laying"]
abbrev BC:List Str:=["floor","laying"]
theorem GV:FnScope D3 BC (AB AY):=⟨rfl,rfl,rfl,by decide +kernel,rfl,by decide +kernel,by decide +kernel⟩
abbrev DF:List Str:=["thing"]
abbrev Fc:List (Option Nat):=[none]
abbrev Qg:List Str:=["start","ground","around","found","waiting","square","other"]
abbrev C5:List Str:=["start","ground","around"]
theorem DM:FnScope Qg C5 (AB Bp):=⟨rfl,rfl,rfl,by decide +kernel,rfl,by decide +kernel,by decide +kernel⟩
abbrev G8:List Str:=["floor"]
abbrev BB:List Str:=["floor"]
theorem Gd:FnScope G8 BB (AB Ai):=⟨rfl,rfl,rfl,by decide +kernel,rfl,by decide +kernel,by decide +kernel⟩
abbrev OB:List Str:=["floor"]
abbrev Cb:List Str:=["floor"]
theorem NS:FnScope OB Cb (AB Be):=⟨rfl,rfl,rfl,by decide +kernel,rfl,by decide +kernel,by decide +kernel⟩
abbrev EN:List Str:=["floor"]
abbrev BK:List Str:=["floor"]
theorem HH:FnScope EN BK (AB Ah):=⟨rfl,rfl,rfl,by decide +kernel,rfl,by decide +kernel,by decide +kernel⟩
abbrev DR:List Str:=["thing"]
abbrev Ft:List (Option Nat):=[none]
abbrev Qr:List Str:=["floor","laying","waiting","found","corner","further","rise"]
abbrev C2:List Str:=["floor","laying"]
theorem Nl:FnScope Qr C2 (AB B3):=⟨rfl,rfl,rfl,by decide +kernel,rfl,by decide +kernel,by decide +kernel⟩
abbrev WK:List Str:=["floor","at","taken","square","right","below","found"]
abbrev IH:List Str:=["floor","at","taken"]
theorem Eh:FnScope WK IH (AB Cg):=⟨rfl,rfl,rfl,by decide +kernel,rfl,by decide +kernel,by decide +kernel⟩
abbrev Yg:List Str:=["floor","at","taken","known","further"]
abbrev Lf:List Str:=["floor","at","taken","known"]
theorem Ph:FnScope Yg Lf (AB DJ):=⟨rfl,rfl,rfl,by decide +kernel,rfl,by decide +kernel,by decide +kernel⟩
abbrev Jr:List Str:=["floor","known","begun","at"]
abbrev B8:List Str:=["floor"]
theorem Ee:FnScope Jr B8 (AB A2):=⟨rfl,rfl,rfl,by decide +kernel,rfl,by decide +kernel,by decide +kernel⟩
abbrev NM:List Str:=["text","stones","row","line","column","sign"]
abbrev CD:List Str:=["text"]
theorem C1:FnScope NM CD (AB BM):=⟨rfl,rfl,rfl,by decide +kernel,rfl,by decide +kernel,by decide +kernel⟩
abbrev Y0:List Str:=["text","laying","floor"]
abbrev JV:List Str:=["text"]
theorem Kk:FnScope Y0 JV (AB EK):=⟨rfl,rfl,rfl,by decide +kernel,rfl,by decide +kernel,by decide +kernel⟩
abbrev JT:List Str:=["ring","begin","stones","at"]
abbrev BX:List Str:=["ring","begin"]
theorem Cp:FnScope JT BX (AB Am):=⟨rfl,rfl,rfl,by decide +kernel,rfl,by decide +kernel,by decide +kernel⟩
abbrev KP:List Str:=["laying","stones"]
abbrev C7:List Str:=["laying","stones"]
theorem Oz:FnScope KP C7 (AB BW):=⟨rfl,rfl,rfl,by decide +kernel,rfl,by decide +kernel,by decide +kernel⟩
abbrev Hn:List Str:=["stone","laying"]
abbrev Mf:List (Option Nat):=[none,some 0]
abbrev Q2:List Str:=["square","row","column"]
abbrev C6:List Str:=["square"]
theorem Ff:FnScope Q2 C6 (AB By):=⟨rfl,rfl,rfl,by decide +kernel,rfl,by decide +kernel,by decide +kernel⟩
abbrev Q6:List Str:=["laying","square","ring"]
abbrev C4:List Str:=["laying","square"]
theorem Jj:FnScope Q6 C4 (AB B4):=⟨rfl,rfl,rfl,by decide +kernel,rfl,by decide +kernel,by decide +kernel⟩
abbrev R3:List Str:=["laying","square"]
abbrev D2:List Str:=["laying","square"]
theorem RO:FnScope R3 D2 (AB CK):=⟨rfl,rfl,rfl,by decide +kernel,rfl,by decide +kernel,by decide +kernel⟩
abbrev Nv:List Str:=["_law_script","_law_k"]
abbrev CU:List Str:=["_law_script","_law_k"]
theorem Mh:FnScope Nv CU (AB Bg):=⟨rfl,rfl,rfl,by decide +kernel,rfl,by decide +kernel,by decide +kernel⟩
abbrev IT:List Str:=["_law_way"]
abbrev DK:List Str:=["_law_way"]
theorem Mc:FnScope IT DK (AB BV):=⟨rfl,rfl,rfl,by decide +kernel,rfl,by decide +kernel,by decide +kernel⟩
abbrev Fu:List Str:=["_law_k"]
abbrev Kz:List (Option Nat):=[none]
abbrev DD:List Str:=["_law_way","_law_some","e"]
abbrev BY:List Str:=["_law_way"]
theorem Bk:FnScope DD BY (AB Ag):=⟨rfl,rfl,rfl,by decide +kernel,rfl,by decide +kernel,by decide +kernel⟩
abbrev XC:List Str:=["_law_script","_law_way"]
abbrev Wt:List Str:=["_law_script"]
theorem SG:FnScope XC Wt (AB DV):=⟨rfl,rfl,rfl,by decide +kernel,rfl,by decide +kernel,by decide +kernel⟩
abbrev QY:List Str:=["_law_k","_law_way"]
abbrev VJ:List (Option Nat):=[none,some 1]
end TF
namespace TF
open PySem PySem.Spec L2
open PyProof.Rows hiding St RelV
def Pr:SpD:=fun ds G R=>∃F:List Sq,ds=[fl F]/\Good F/\HS F=false/\R (.bl false) G
def QC (N:Addr):SpX:=fun ds G R RX=>∃(F:List Sq) (d:Dat),ds=[fl F,d]/\Good F/\HS F=false/\RX (.ref N) G
section
variable {P:Program}{w:World}{K:PySem.W.Frag}{mg:Str->Option Value}{base:Heap}{f:Addr}{fd:FuncData}
theorem FU (F:Fun K "neighbours" "neighbours" A9 f fd):FnOk P w K mg base CX0 1 f fd Bx (BO K (Qi nbM)):=by
 refine DN (k:=0) F Di (fun ds G R h=>?_) (fun A8 A outer s H E ds G R hr h=>?_)
 ·obtain ⟨q,rfl,_⟩:=h;rfl
 obtain ⟨q,rfl,hR⟩:=h
 refine CL 1 Di.nd (BF (AD 0 rfl) AI rfl) ?_
 refine CL 2 Di.nd (BF (AD 0 rfl) AI rfl) ?_
 exact Aj (HB (AA (Ab (AA (Kq (AD 1 rfl) AI) (AA (AD 2 rfl) AE))) (AA (Ab (AA (AD 1 rfl) (AA (Kq (AD 2 rfl) AI) AE)))
  (AA (Ab (AA (AD 1 rfl) (AA (DI (AD 2 rfl) AI) AE))) (AA (Ab (AA (DI (AD 1 rfl) AI) (AA (AD 2 rfl) AE))) AE))))) hR
theorem IP (kk:Nat) (F:Fun K "reached" "reached" Bp f fd) (ml:mg "len"=none):FnOk P w K mg base CX0 (kk+1) f fd C5 (BO K (E5 P w K mg base kk)):=by
 refine DN (k:=kk) F DM (fun ds G R h=>?_) (fun A8 A outer s H E ds G R hr h=>?_)
 ·obtain ⟨start,g,gd,f',nb,rfl,_⟩:=h;rfl
 obtain ⟨start,g,gd,f',nb,rfl,qS,FA,iq,hR⟩:=h
 have hu:(A.deeper (envOfC "reached" (AB Bp) s.heap.objs.size f A8)).units+9<cLine:=by have:=hr.units;lia
 refine Eu 3 DM.nd (cH hu (fun _ _=>AD 0 rfl) (fun _ _=>ME) (Of start) ⟨_,rfl⟩ (fun p1 Ry=>?_))
 refine Ew 4 DM.nd (AA (AD 0 rfl) AE) (fun p2 Jg=>?_)
 have D7:p1≠p2:=by rintro rfl;rw [AJ]at Jg;cases Jg
 have eN:G p2=none:=by rw [Az (Ne.symm D7)]at Jg;exact Jg
 have Ks:∀L:List Sq,L.Nodup->(∀x∈L,Con (fun a b=>b∈nb a) (·∈g) start x)->L.length≤g.length+1:=fun L h1 h2=>by
  have:=DB h1 fun x hx=>VR (h2 x hx)
  simpa using this
 refine RV (fun m ρ' G'=>∃(L W:List Sq) (y5 y6:Option Dat),ρ'=[some (sq start),some gd,some (.fn f'),some (.fn p1),some (.fn p2),y5,y6]/\G'=put (put G p1 (.dct (L.map kvT))) p2 (.lst (W.map sq)) ∧
   L.Nodup/\start∈L/\(∀x∈L,Con (fun a b=>b∈nb a) (·∈g) start x)/\(∀x∈W,x∈L)/\(∀x∈L,x∈W\/∀y∈nb x,y∈g->y∈L)/\m=2*(g.length+1-L.length)+W.length/\m≤2*g.length+1) PassesOwn.never
  (m0:=2*(g.length+1-1)+1) ⟨[start],[start],none,none,rfl,rfl,by simp,by simp,fun x hx=>by rw [List.mem_singleton.mp hx];exact .base,fun x hx=>hx,fun x hx=>.inl hx,rfl,by lia⟩ ?_
 rintro m ρ' G' ⟨L,W,y5,y6,rfl,rfl,nd,hs,hc,hW,WD,hm,jD⟩
 refine Ig (CF (Th (EY (n:=W.length) rfl ml (AD 4 rfl) (by simp [O1,AJ])) AI)) ⟨fun hp=>?_,fun hp=>?_⟩
 ·have Jv:0<W.length:=by have:=of_decide_eq_true hp;lia
  obtain ⟨W0,x,rfl⟩:∃W0 x,W=W0++[x]:=⟨W.dropLast,W.getLast (List.ne_nil_of_length_pos Jv),(List.dropLast_concat_getLast _).symm⟩
  rw [List.length_append,List.length_singleton]at hm
  refine Eu 5 DM.nd (Y5 (d:=sq x) (l:=W0.map sq) (AD 4 rfl) (by rw [AJ,List.map_append];rfl) ?_)
  rw [B0]
  have hx:x∈L:=hW x (by simp)
  have hlen:=Ks L nd hc
  refine Gg (l:=(nb x).map sq) (fun i ρ' G'=>∃(L W:List Sq) (y6:Option Dat),ρ'=[some (sq start),some gd,some (.fn f'),some (.fn p1),some (.fn p2),some (sq x),y6]/\G'=put (put G p1 (.dct (L.map kvT))) p2 (.lst (W.map sq)) ∧
    L.Nodup/\start∈L/\(∀x∈L,Con (fun a b=>b∈nb a) (·∈g) start x)/\(∀x∈W,x∈L)/\x∈L/\(∀z∈L,z∈W\/(∀y∈nb z,y∈g->y∈L)\/z=x)/\(∀y∈(nb x).take i,y∈g->y∈L)/\2*(g.length+1-L.length)+W.length+1≤m) PassesOwn.never rfl
   (JK (UT (AD 2 rfl) FA hr (AA (AD 5 rfl) AE) ⟨x,rfl,_,rfl,rfl,L,W0,y6,rfl,rfl,nd,hs,hc,fun z hz=>hW z (by simp [hz]),hx,?_,by simp,by lia⟩)) (CJ 6 DM.nd) ?_ ?_
  ·intro z hz
   rcases WD z hz with h|h
   ·rcases List.mem_append.mp h with h|h
    ·exact .inl h
    ·exact .inr (.inr (List.mem_singleton.mp h))
   ·exact .inr (.inl h)
  ·clear hlen hx WD hW hc hs nd hm
   rintro i dd ρ' G' hd ⟨L,W,y6,rfl,rfl,nd,hs,hc,hW,hx,WD,hi,hm⟩
   rw [List.getElem?_map]at hd
   obtain ⟨y,hy,rfl⟩:=Option.map_eq_some_iff.mp hd
   have ny:y∈nb x:=List.mem_of_getElem? hy
   have et:(nb x).take (i+1)=(nb x).take i++[y]:=by rw [List.take_add_one,hy];rfl
   have Fm:put (put G p1 (.dct (L.map kvT))) p2 (.lst (W.map sq)) p1=some (.dct (L.map kvT)):=by rw [Az D7,AJ]
   have hlen:=Ks L nd hc
   refine ⟨_,rfl,Cq (Qc (CF (Pa hu (AD 6 rfl) (AD 1 rfl) (qS.elim .inl fun h=>.inr (.inl h)) (J7 y) (EH g))) (fun _=>Lv (CF (Ir hu (AD 6 rfl) (AD 3 rfl) Fm (Of y) ⟨_,rfl⟩)))).t (fun hp=>?_) (fun hp=>Ac (Ac ?_))⟩
   ·rw [C9,Ll]at hp
    simp only [Bool.and_eq_true,Bool.not_eq_true',List.contains_eq_mem,decide_eq_true_eq,decide_eq_false_iff_not]at hp
    obtain ⟨oy,jq⟩:=hp
    refine MU (d:=.bl true) hu ME (AD 3 rfl) (AD 6 rfl) Fm (Of y) ⟨_,rfl⟩ (by rw [List.length_map];exact sz1 (by lia)) ?_
    rw [Yy jq]
    refine Cc (d:=sq y) (l:=W.map sq) (AD 4 rfl) (AD 6 rfl) (by rw [Az (Ne.symm D7),AJ]) (by rw [List.length_map];exact sz1 (by lia)) (Ac (Ac ?_))
    refine ⟨L++[y],W++[y],_,rfl,?_,?_,by simp [hs],?_,?_,by simp [hx],?_,?_,?_⟩
    ·rw [gM D7]
     simp only [List.map_append,List.map_cons,List.map_nil]
    ·rw [List.nodup_append]
     exact ⟨nd,by simp,fun a ha b hb e=>by rw [List.mem_singleton.mp hb]at e;subst e;exact jq ha⟩
    ·intro z hz
     rcases List.mem_append.mp hz with h|h
     ·exact hc z h
     ·rw [List.mem_singleton.mp h];exact .step (hc x hx) ny oy
    ·intro z hz
     rcases List.mem_append.mp hz with h|h
     ·exact List.mem_append_left _ (hW z h)
     ·exact List.mem_append_right _ h
    ·intro z hz
     rcases List.mem_append.mp hz with h|h
     ·rcases WD z h with h|h|h
      ·exact .inl (List.mem_append_left _ h)
      ·exact .inr (.inl fun y' h1 h2=>List.mem_append_left _ (h y' h1 h2))
      ·exact .inr (.inr h)
     ·exact .inl (List.mem_append_right _ h)
    ·intro y' h1 h2
     rw [et]at h1
     rcases List.mem_append.mp h1 with h|h
     ·exact List.mem_append_left _ (hi y' h h2)
     ·exact List.mem_append_right _ h
    ·have bS:=Ks (L++[y]) (by
      rw [List.nodup_append]
      exact ⟨nd,by simp,fun a ha b hb e=>by rw [List.mem_singleton.mp hb]at e;subst e;exact jq ha⟩) (by
      intro z hz
      rcases List.mem_append.mp hz with h|h
      ·exact hc z h
      ·rw [List.mem_singleton.mp h];exact .step (hc x hx) ny oy)
     simp only [List.length_append,List.length_singleton]at bS ⊢
     lia
   ·rw [C9,Ll]at hp
    refine ⟨L,W,_,rfl,rfl,nd,hs,hc,hW,hx,WD,?_,hm⟩
    intro y' h1 h2
    rw [et]at h1
    rcases List.mem_append.mp h1 with h|h
    ·exact hi y' h h2
    ·rw [List.mem_singleton.mp h]at h2 ⊢
     refine Classical.byContradiction fun hn=>?_
     simp [h2,hn]at hp
  ·clear hlen hx WD hW hc hs nd hm
   rintro ρ' G' ⟨L,W,y6,rfl,rfl,nd,hs,hc,hW,hx,WD,hi,hm⟩
   rw [List.length_map,List.take_length]at hi
   refine Ac ⟨_,hm,L,W,_,y6,rfl,rfl,nd,hs,hc,hW,fun z hz=>?_,rfl,by lia⟩
   rcases WD z hz with h|h|rfl
   ·exact .inl h
   ·exact .inr h
   ·exact .inr hi
 ·have uK:W=[]:=by
   have:=of_decide_eq_false hp
   exact List.eq_nil_of_length_eq_zero (by lia)
  subst uK
  refine E2 (Le (PX.we (AD 3 rfl) ⟨p2,?_⟩))
  rw [Cz (by rw [Az (Ne.symm D7)];exact eN)]
  exact hR p1 L Ry (cN nd hs hc fun x hx y h1 h2=>by
   rcases WD x hx with h|h
   ·cases h
   ·exact h y h1 h2)
theorem DW (F:Fun K "hangs_together" "hangs_together" Ai f fd) (ml:mg "len"=none) (FR:Df P w K mg base "reached" C5 2 (E5 P w K mg base 1)) (FN:∃f',mg "neighbours"=some (.ref f')/\DfA P w K mg base f' ["square"] 1 (Qi nbM)):FnOk P w K mg base CX0 3 f fd BB (BO K (spF fun F=>.bl (HS F))):=by
 refine DN (k:=2) F Gd (fun ds G R h=>?_) (fun A8 A outer s H E ds G R hr h=>?_)
 ·obtain ⟨q,rfl,_⟩:=h;rfl
 obtain ⟨q,rfl,gd,hR⟩:=h
 obtain ⟨f',hm,FA⟩:=FN
 have uI:=WQ gd
 refine Aj (MS (Cd (i:=(card nbR (·∈q) (q.headD (0,0)):Nat)) (j:=(q.length:Nat)) (Le (Vc ml (Aq FR hr (AA (BF (AD 0 rfl) AI uI) (AA (AD 0 rfl) (AA (Zl hm) AE)))
  ⟨q.headD (0,0),q,_,f',nbM,rfl,.inl rfl,FA,by have:=gd.len;lia,fun p L hp hL=>⟨p,_,rfl,AJ,p,?_,Cz hp⟩⟩))) (EY rfl ml (AD 0 rfl) (PW _ _)))) hR
 rw [List.length_map,hL.card]
theorem GY (F:Fun K "is_plain" "is_plain" Be f fd) (ml:mg "len"=none) (F1:Df P w K mg base "hangs_together" BB 3 (spF fun F=>.bl (HS F))):FnOk P w K mg base CX0 5 f fd Cb (BO K Pr):=by
 refine DN (k:=4) F NS (fun ds G R h=>?_) (fun A8 A outer s H E ds G R hr h=>?_)
 ·obtain ⟨q,rfl,_⟩:=h;rfl
 obtain ⟨q,rfl,gd,hh,hR⟩:=h
 refine Cq (CF (Cd (EY rfl ml (AD 0 rfl) (PW _ _)) AI)) (fun hp=>?_) (fun hp=>Ac ?_)
 ·exfalso
  have:=List.length_pos_iff.mpr gd.ne
  rw [beq_iff_eq]at hp
  lia
 refine Aj (Cs (q:=true) (Aq F1 (hr.mono (by lia)) (AA (AD 0 rfl) AE) ⟨q,rfl,gd,rfl,rfl⟩) fun h=>absurd h (by rw [hh];decide)) ?_
 rw [hh]
 exact hR
theorem Dy (F:Fun K "holds_squares" "holds_squares" Ah f fd) (mi:mg "isinstance"=none) (mt:mg "tuple"=none) (ma:mg "all"=none) (FP:Df P w K mg base "is_place" Bv 2 E8) (FR:Df P w K mg base "is_rising" BZ 1 D6):FnOk P w K mg base CX0 3 f fd BK (BO K IF):=by
 refine DN (k:=2) F HH (fun ds G R h=>?_) (fun A8 A outer s H E ds G R hr h=>?_)
 ·obtain ⟨M,rfl,_⟩:=h;rfl
 obtain ⟨M,rfl,hz,up,hR⟩:=h
 refine Aj (Cs (EC (T:="tuple") (T':="tuple") mi mt (AD 0 rfl)) fun _=>Cs (q:=true) (JL (bs:=(M.map sq).map Dg) rfl ma (PX.cast (DH (Nc:=DR) (caps:=Ft) (l:=M.map sq) (f:=Fb 0) (fun d=>.bl (Dg d))
  (Ei (psc:=AB Ah) (PN:=EN) (by decide +kernel) rfl rfl) rfl
  (LH (AD 0 rfl) ⟨rfl,rfl⟩)
  (fun C s' H' fp=>CJ 0 (show DR.Nodup by decide +kernel)) (D4 rfl) (by rw [List.length_map];lia) ?_) (by simp [List.map_map,Function.comp_def]))) fun _=>Fg (PX.cast (Aq FR (hr.mono (by lia)) (AA (AD 0 rfl) AE) ⟨M.map sq,rfl,by rw [List.length_map];exact hz,Px M,rfl,rfl⟩) (by rw [(LW M).mpr up]))) ?_
 ·intro C s' H' fp G2 d hd kn
  obtain ⟨q,_,rfl⟩:=List.mem_map.mp hd
  exact ⟨_,rfl,Aq FP hr (AA (AD 0 rfl) AE) ⟨sq q,rfl,TV q,rfl,rfl⟩⟩
 ·rw [Qj]
  exact hR
theorem M8 {N:Addr} (F:Fun K "heights" "heights" B3 f fd) (hN:mg "NotPlain"=some (.ref N)) (xN:PySem.W.excIn K N [.type "ValueError",.type "Exception",.type "BaseException",.type "object"] "ValueError.__new__"=true)
  (FH:Df P w K mg base "holds_squares" BK 3 IF) (FP:Df P w K mg base "is_plain" Cb 5 Pr):FnOk P w K mg base (CXV P w) 6 f fd C2 (C8 K (QC N)):=by
 refine PL (k:=5) F Nl (fun ds G R RX h=>?_) (fun A8 A outer s H E ds G R RX hr h=>?_)
 ·obtain ⟨M,d,rfl,_⟩:=h;rfl
 obtain ⟨M,d,rfl,gd,hp,hX⟩:=h
 have bX:=gd.len
 refine CA (b:=true) (PXT.cast (Dh (A3 (A6 (Aq FH (hr.mono (by lia)) (AA (AD 0 rfl) AE) ⟨M,rfl,by lia,gd.up,rfl,rfl⟩))) (fun _=>Gq (A3 (A6 (Aq FP hr (AA (AD 0 rfl) AE) ⟨M,rfl,gd,hp,rfl,rfl⟩))))).t rfl) (fun _=>?_) (fun h=>absurd h (by decide)) rfl
 exact BD rfl rfl xN PySem.F.excBase_ValueError hN (AA CN AE) (by simp) hX
end
end TF
namespace TF
open PySem PySem.Spec L2
open PyProof.Rows hiding St RelV
def OY (T:Addr):SpX:=fun ds G R RX=>∃F:List Sq,ds=[fl F]/\F≠[]/\F.Pairwise AU/\F.length≤24/\200<(HI F).length/\RX (.ref T) G
section
variable {P:Program}{w:World}{K:PySem.W.Frag}{mg:Str->Option Value}{base:Heap}{f:Addr}{fd:FuncData}
theorem Hs {T:Addr} {tk:Tok} (F:Fun K "all_layings" "all_layings" A2 f fd) (hM:mg "MOST_TOLD"=some (.int 200 tk)) (hT:mg "TooMany"=some (.ref T)) (xT:PySem.W.excIn K T [.type "ValueError",.type "Exception",.type "BaseException",.type "object"] "ValueError.__new__"=true)
  (W:∀n,Df P w K mg base "ways" Lf (n+2) (IE n)):FnOk P w K mg base (CXV P w) 27 f fd B8 (C8 K (OY T)):=by
 refine PL (k:=26) F Ee (fun ds G R RX h=>?_) (fun A8 A outer s H E ds G R RX hr h=>?_)
 ·obtain ⟨q,rfl,_⟩:=h;rfl
 obtain ⟨q,rfl,D7,up,bX,tx,hX⟩:=h
 refine Rt ?_
 refine Q5 (Eu 1 Ee.nd (Va fun p hp=>Ac ?_)) rfl
 refine My (YX (Aq (W q.length) (hr.mono (by lia)) (AA (AD 0 rfl) (AA AI (AA (Ab AE) (AA (AD 1 rfl) AE)))) ⟨q,0,[],p,[],rfl,by lia,bX,Nat.le_refl _,AJ,fun _ h=>(nomatch h),fun _ _ _ h=>(nomatch h),?_,fun Ae hV hC _ hH hz=>⟨_,rfl,DS hM,fun hb=>?_,fun hb=>?_⟩⟩)) rfl
 ·have:2 ^ q.length≤2 ^ 24:=Nat.pow_le_pow_right (by decide) bX
  simp only [List.length_nil];lia
 ·have ZG:200<(HI q).length:=by
   rw [<-KL up]
   have:=of_decide_eq_true hb
   rw [List.drop_zero]at this
   unfold Lc
   lia
  refine BD rfl rfl xT PySem.F.excBase_ValueError hT (AA (UD (DS hM) (by decide) (by decide +kernel) (by decide +kernel) (by decide +kernel)) AE) (by simp) ?_
  refine ⟨p,?_⟩
  rw [B0,Cz hp]
  exact hX
 ·have hle:(HI q).length≤200:=by
   rw [<-KL up]
   have:=of_decide_eq_false hb
   rw [List.drop_zero]at this
   unfold Lc
   lia
  lia
end
end TF
namespace TF
open PySem PySem.Spec L2
open PyProof.Rows hiding St RelV
def IC (N:Addr):SpX:=fun ds G R RX=>∃(l:Lay) (q:Sq),ds=[lay l,sq q]/\Wf l q=false/\RX (.ref N) G
section
variable {P:Program}{w:World}{K:PySem.W.Frag}{mg:Str->Option Value}{base:Heap}{f:Addr}{fd:FuncData}
theorem IU (F:Fun K "ring_at" "ring_at" By f fd):FnOk P w K mg base CX0 1 f fd C6 (BO K Hw):=by
 refine DN (k:=0) F Ff (fun ds G R h=>?_) (fun A8 A outer s H E ds G R hr h=>?_)
 ·obtain ⟨q,rfl,_⟩:=h;rfl
 obtain ⟨q,rfl,hR⟩:=h
 refine CL 1 Ff.nd (BF (AD 0 rfl) AI rfl) ?_
 refine CL 2 Ff.nd (BF (AD 0 rfl) AI rfl) ?_
 refine Aj (HB (AA (Ab (AA (AD 1 rfl) (AA (AD 2 rfl) AE))) (AA (Ab (AA (AD 1 rfl) (AA (DI (AD 2 rfl) AI) AE)))
  (AA (Ab (AA (DI (AD 1 rfl) AI) (AA (DI (AD 2 rfl) AI) AE))) (AA (Ab (AA (DI (AD 1 rfl) AI) (AA (AD 2 rfl) AE))) AE))))) ?_
 exact hR
theorem ER (F:Fun K "stones_along" "stones_along" Am f fd) (mr:mg "range"=none) (ml:mg "len"=none) (mi:mg "min"=none) (ma:mg "max"=none):FnOk P w K mg base CX0 1 f fd BX (BO K Hz):=by
 refine DN (k:=0) F Cp (fun ds G R h=>?_) (fun A8 A outer s H E ds G R hr h=>?_)
 ·obtain ⟨ring,b,rfl,_⟩:=h;rfl
 obtain ⟨ring,b,rfl,hb,h1,h2,hR⟩:=h
 have hu:(A.deeper (envOfC "stones_along" (AB Am) s.heap.objs.size f A8)).units+20<cLine:=by have:=hr.units;lia
 refine Ew 2 Cp.nd AE (fun p hp=>?_)
 have hn:(((ring.length-b+1) / 2:Nat):Int)=((ring.length:Int)-(b:Int)+1) / 2:=by lia
 refine Gg (l:=Bb b ((ring.length-b+1) / 2)) (f:=Fb 3) (fun i ρ' G'=>(∃x3,ρ'=[some (.lst (ring.map sq)),some (.int b),some (.fn p),x3])/\G'=put G p (.lst (((Bd ring b).take i).map AM))) PassesOwn.never rfl
  (Q8 ((ring.length-b+1) / 2) mr (AD 1 rfl) (EY (n:=ring.length) rfl ml (AD 0 rfl) (by simp [O1])) AI ⟨by lia,by lia,by lia,hn⟩ ⟨rfl,⟨none,rfl⟩,by simp⟩) (CJ 3 Cp.nd) ?_ ?_
 ·rintro i dd ρ' G' hd ⟨⟨x3,rfl⟩,rfl⟩
  obtain ⟨hi,rfl⟩:=Lu hd
  have hk:b+2*i<ring.length:=by lia
  have ek:(b:Int)+(i:Nat)*2=((b+2*i:Nat):Int):=by lia
  have ha:(Bd ring b)[i]?=some (stM (KQ ring (b+2*i)) (ring.getD (b+2*i) (0,0))):=by
   unfold Bd
   rw [List.getElem?_map,List.getElem?_range hi]
   rfl
  rw [ek]
  refine ⟨_,rfl,?_⟩
  have g1:=UO hk
  have g2:=TM hk
  refine Cc (AD 2 rfl) (Ab (AA (SQ rfl hu mi (K2 (AD 0 rfl) (Kq (AD 3 rfl) AI) g1) (K2 (AD 0 rfl) (AD 3 rfl) g2)) (AA (SV rfl hu ma (K2 (AD 0 rfl) (Kq (AD 3 rfl) AI) g1) (K2 (AD 0 rfl) (AD 3 rfl) g2)) AE))) AJ ?_ (Ac ⟨⟨_,rfl⟩,?_⟩)
  ·have:((Bd ring b).take i).length≤1000:=by
    rw [List.length_take]
    unfold Bd
    rw [List.length_map,List.length_range]
    lia
   rw [List.length_map];exact sz1 (by lia)
  ·rw [B0,List.take_add_one,ha,Option.toList_some,List.map_append]
   rfl
 ·rintro ρ' G' ⟨⟨x3,rfl⟩,rfl⟩
  have e:(Bd ring b).take (Bb (b:Int) ((ring.length-b+1) / 2)).length=Bd ring b:=by
   refine List.take_of_length_le ?_
   rw [MR]
   unfold Bd
   rw [List.length_map,List.length_range]
   exact Nat.le_refl _
  rw [e]
  refine Md (AD 2 rfl) AJ ?_
  rw [Cz hp]
  exact hR
theorem Ip (F:Fun K "has_all" "has_all" BW f fd) (ma:mg "all"=none):FnOk P w K mg base CX0 1 f fd C7 (BO K Gi):=by
 refine DN (k:=0) F Oz (fun ds G R h=>?_) (fun A8 A outer s H E ds G R hr h=>?_)
 ·obtain ⟨l,st,rfl,_⟩:=h;rfl
 obtain ⟨l,st,rfl,hz,hR⟩:=h
 have hu:(A.deeper (envOfC "has_all" (AB BW) s.heap.objs.size f A8)).units+9<cLine:=by have:=hr.units;lia
 refine Aj (JL (bs:=st.map l.contains) rfl ma (PX.cast (DH (Nc:=Hn) (caps:=Mf) (l:=st.map AM) (f:=Fb 0) (fun d=>.bl ((l.map AM).any fun e=>eqD e d))
  (Ei (psc:=AB BW) (PN:=KP) (by decide +kernel) rfl rfl) rfl
  (WO (AD 1 rfl) ⟨rfl,rfl⟩)
  (fun C s' H' fp=>CJ 0 (show Hn.Nodup by decide +kernel)) (D4 rfl) (by rw [List.length_map];lia) ?_) ?_)) ?_
 ·intro C s' H' fp G2 d hd kn
  obtain ⟨y,_,rfl⟩:=List.mem_map.mp hd
  exact ⟨_,rfl,MS (Pa hu (AD 0 rfl) (AD 1 rfl) (.inl rfl) (Ck y) (K0 l))⟩
 ·rw [List.map_map,List.map_map]
  refine congrArg Dat.lst (List.map_congr_left fun y _=>?_)
  show Dat.bl ((l.map AM).any fun e=>eqD e (AM y))=Dat.bl (l.contains y)
  rw [RI]
 ·rw [List.all_map]
  exact hR
theorem Iv (F:Fun K "is_turn" "is_turn" B4 f fd) (FR:Df P w K mg base "ring_at" C6 1 Hw) (FA:Df P w K mg base "stones_along" BX 1 Hz) (FH:Df P w K mg base "has_all" C7 1 Gi):FnOk P w K mg base CX0 2 f fd C4 (BO K Gu):=by
 refine DN (k:=1) F Jj (fun ds G R h=>?_) (fun A8 A outer s H E ds G R hr h=>?_)
 ·obtain ⟨l,q,rfl,_⟩:=h;rfl
 obtain ⟨l,q,rfl,hR⟩:=h
 refine Eu 2 Jj.nd (Aq FR (hr.mono (by lia)) (AA (AD 1 rfl) AE) ⟨q,rfl,?_⟩)
 refine Aj (cJ (Aq FH (hr.mono (by lia)) (AA (AD 0 rfl) (AA (Aq FA (hr.mono (by lia)) (AA (AD 2 rfl) (AA AI AE)) ⟨Dp q,0,rfl,by decide,(show 1≤4 by decide),(show 4≤1000 by decide),rfl,rfl⟩) AE)) ⟨l,Bd (Dp q) 0,rfl,(by rw [YC];show 2≤1000;decide),rfl,rfl⟩)
  fun _=>Fg (Aq FH (hr.mono (by lia)) (AA (AD 0 rfl) (AA (Aq FA (hr.mono (by lia)) (AA (AD 2 rfl) (AA AI AE)) ⟨Dp q,1,rfl,by decide,(show 1≤4 by decide),(show 4≤1000 by decide),rfl,rfl⟩) AE)) ⟨l,Bd (Dp q) 1,rfl,(by rw [YU];show 2≤1000;decide),rfl,rfl⟩)) ?_
 exact hR
theorem O2 {N:Addr} (F:Fun K "turned" "turned" CK f fd) (hN:mg "NoTurn"=some (.ref N)) (xN:PySem.W.excIn K N [.type "ValueError",.type "Exception",.type "BaseException",.type "object"] "ValueError.__new__"=true) (FP:Df P w K mg base "is_place" Bv 2 E8) (FT:Df P w K mg base "is_turn" C4 2 Gu):FnOk P w K mg base (CXV P w) 3 f fd D2 (C8 K (IC N)):=by
 refine PL (k:=2) F RO (fun ds G R RX h=>?_) (fun A8 A outer s H E ds G R RX hr h=>?_)
 ·obtain ⟨l,q,rfl,_⟩:=h;rfl
 obtain ⟨l,q,rfl,ht,hX⟩:=h
 refine CA (b:=true) (Dh (p:=false) (q:=true) ?_ (fun _=>Gq ?_)).t (fun _=>?_) (fun h=>absurd h (by decide)) rfl
 ·exact PXT.cast (A3 (A6 (Aq FP hr (AA (AD 1 rfl) AE) ⟨_,rfl,rfl,rfl,rfl⟩))) rfl
 ·exact PXT.cast (A3 (A6 (Aq FT hr (AA (AD 0 rfl) (AA (AD 1 rfl) AE)) ⟨l,q,rfl,rfl,rfl⟩))) (by rw [ht];rfl)
 ·exact BD rfl rfl xN PySem.F.excBase_ValueError hN (AA CN AE) (by simp) hX
end
end TF
namespace TF
open PySem PySem.Spec L2
open PyProof.Rows hiding St RelV
def K1 (T:Addr):SpX:=fun ds G R RX=>∃x:Str,ds=[.str x]/\x.length≤72/\¬isF (fl (TSq.sort (A4 (BL ((Txt.split x (chr 10)).map fun p=>p.cps.toList)))))/\RX (.ref T) G
section
variable {P:Program}{w:World}{K:PySem.W.Frag}{mg:Str->Option Value}{base:Heap}{f:Addr}{fd:FuncData}
theorem UZ {B T:Addr} {tk:Tok} (F:Fun K "read" "read" EK f fd) (mi:mg "isinstance"=none) (ms:mg "str"=none) (ml:mg "len"=none) (mt:mg "tuple"=none) (hM:mg "MOST_SIGNS"=some (.int 72 tk)) (hB:mg "BadFloor"=some (.ref B)) (xB:PySem.W.excIn K B [.type "ValueError",.type "Exception",.type "BaseException",.type "object"] "ValueError.__new__"=true) (uB:BG K B B=true)
  (hT:mg "BadText"=some (.ref T)) (xT:PySem.W.excIn K T [.type "ValueError",.type "Exception",.type "BaseException",.type "object"] "ValueError.__new__"=true)
  (FS:Df P w K mg base "stones_in" CD 1 Gj) (FC:DfC P w K mg base "checked" CS 4 (D9 B)) (FV:Df P w K mg base "covered" CZ 1 Du):FnOk P w K mg base (CXV P w) 5 f fd JV (C8 K (K1 T)):=by
 refine aw (k:=4) F Kk (fun ds G R RX h=>?_) (fun A8 A outer s H E ds G R RX hr h=>?_)
 ·obtain ⟨d,rfl,_⟩:=h;rfl
 obtain ⟨x,rfl,hx,no,hX⟩:=h
 refine U1 (Dh (p:=false) (q:=decide (72<(x.length:Int))) (PXT.cast (A3 (A6 (EC (T:="str") (T':="str") mi ms (AD 0 rfl)))) rfl) (fun _=>Gq (CF (Th (VF ml (AD 0 rfl) (sz (by lia))) (DS hM))))).t (fun hp=>?_) (fun hp=>?_) rfl
 ·simp at hp
  lia
 have hk:=Nat.le_trans (IY _) (J5 x)
 refine RN 1 Kk.nd (Aq FS (hr.mono (by lia)) (AA (AD 0 rfl) AE) ⟨x,rfl,by lia,?_⟩) rfl
 generalize BL ((Txt.split x (chr 10)).map fun p=>p.cps.toList)=k at hk no ⊢
 have uJ:(TSq.sort (A4 k)).length≤1000:=by
  rw [(TSq.sort_perm _).length_eq,Pt]
  lia
 exact Su 2 (RC:=fun cls G'=>cls=.ref B/\G'=G) rfl rfl Kk.nd (VP rfl FC hr (AA (KS (l:=(TSq.sort (A4 k)).map sq) rfl mt (by decide +kernel) (Aq FV (hr.mono (by lia)) (AA (AD 1 rfl) AE) ⟨k,rfl,by lia,rfl,rfl⟩)) AE) ⟨fl (TSq.sort (A4 k)),rfl,YI uJ,fun hF=>absurd hF no,fun hF=>⟨rfl,rfl⟩⟩) xB PySem.F.excBase_ValueError hB xT PySem.F.excBase_ValueError hT (fun cls G' ⟨e1,e3⟩=>⟨B,_,_,e1,xB,uB,by rw [e3];exact hX⟩)
end
end TF
namespace TF
open PySem PySem.Spec L2
open PyProof.Rows hiding St RelV
def OS (cl:Nat->Addr):SpX:=fun ds G R RX=>∃k:Nat,k<6/\ds=[.int k]/\RX (.ref (cl k)) G
section
variable {X:Cx}{ρ:Rho}{G:Gs}
theorem FX {l:List Expr} {k p es ds d} (h:PX X ρ G (.Tuple l k p) d) (hs:PXs X ρ G es ds):PXs X ρ G (.Tuple l k p::es) (d::ds):=AA h hs
theorem W6 {c:Const} {k p es ds d} (h:PX X ρ G (.Constant c k p) d) (hs:PXs X ρ G es ds):PXs X ρ G (.Constant c k p::es) (d::ds):=AA h hs
theorem bZ {l:List Expr} {k p} {ds:List Dat} {pos p':Pos} {S:SpX} {kk:Nat} {ps:List Str} {x:Str} {Q:Dat->Gs->Prop} {RX:Value->Gs->Prop} (hx:X.xe=fun _ _=>False) (F:DfX X.prog X.w X.K X.mg X.base x ps kk S) (hr:Room kk X.A) (ha:PXs X ρ G [.Tuple l k p] ds) (hS:S ds G Q RX) (hg:Gl X x) (DQ:(x==("__debug__":Str))=false) :
  WEX X ρ G (.Call (.Name x p') [.Tuple l k p] [] pos) Q RX:=JY hx F hr ha hS hg DQ
theorem Xk {l l2:List Expr} {k p k2 p2} {ds:List Dat} {pos p':Pos} {S:SpX} {kk:Nat} {ps:List Str} {x:Str} {Q:Dat->Gs->Prop} {RX:Value->Gs->Prop} (hx:X.xe=fun _ _=>False) (F:DfX X.prog X.w X.K X.mg X.base x ps kk S) (hr:Room kk X.A) (ha:PXs X ρ G [.Tuple l k p,.Tuple l2 k2 p2] ds) (hS:S ds G Q RX) (hg:Gl X x) (DQ:(x==("__debug__":Str))=false) :
  WEX X ρ G (.Call (.Name x p') [.Tuple l k p,.Tuple l2 k2 p2] [] pos) Q RX:=JY hx F hr ha hS hg DQ
theorem le2:2≤1000:=by decide
theorem Xr {a b:Int} {j1 j2 k p1 p2 p3}:PX X ρ G (.Tuple [.Constant (.int a) j1 p1,.Constant (.int b) j2 p2] k p3) (.tup [.int a,.int b]):=Ab (ds:=[.int a,.int b]) (W6 AI (W6 AI AE)) le2
theorem iW {l l2:List Expr} {k p k2 p2 k3 p3} {d e:Dat} (h:PX X ρ G (.Tuple l k p) d) (h':PX X ρ G (.Tuple l2 k2 p2) e):PX X ρ G (.Tuple [.Tuple l k p,.Tuple l2 k2 p2] k3 p3) (.tup [d,e]):=Ab (ds:=[d,e]) (FX h (FX h' AE)) le2
theorem iP {l:List Expr} {k p k3 p3} {d:Dat} (h:PX X ρ G (.Tuple l k p) d):PX X ρ G (.Tuple [.Tuple l k p] k3 p3) (.tup [d]):=Ab (ds:=[d]) (FX h AE) (show 1≤1000 by decide)
theorem fL {l l2 m m2:List Expr} {k p k2 p2 k3 p3 j q j2 q2} {d e d' e':Dat} (h:PX X ρ G (.Tuple l k p) d) (h':PX X ρ G (.Tuple l2 k2 p2) e) (g:PX X ρ G (.Tuple m j q) d') (g':PX X ρ G (.Tuple m2 j2 q2) e'):PX X ρ G (.Tuple [.Tuple l k p,.Tuple l2 k2 p2,.Tuple m j q,.Tuple m2 j2 q2] k3 p3) (.tup [d,e,d',e']):=Ab (ds:=[d,e,d',e']) (FX h (FX h' (FX g (FX g' AE)))) (show 4≤1000 by decide)
end
theorem ds2:[Dat.tup [.tup [.int 0,.int 0],.tup [.int 0,.int 1]],.tup []]=[fl f2,.tup []]:=rfl
theorem ds3:[Dat.tup [.tup [.tup [.int 0,.int 0],.tup [.int 0,.int 1]]],.tup [.int 0,.int 0]]=[lay [((0,0),(0,1))],sq (0,0)]:=rfl
def b4:Dat:=.tup [.tup [.tup [.int 0,.int 0],.tup [.int 0,.int 1]],.tup [.tup [.int 2,.int 0],.tup [.int 2,.int 1]]]
theorem ds4:[Dat.tup [.tup [.int 0,.int 0],.tup [.int 0,.int 1],.tup [.int 2,.int 0],.tup [.int 2,.int 1]],.tup [.tup [.tup [.int 0,.int 0],.tup [.int 0,.int 1]],.tup [.tup [.int 2,.int 0],.tup [.int 2,.int 1]]]]=[fl f4,b4]:=rfl
def L8 (a b c d e f:Addr):Nat->Addr
 |0=>a|1=>b|2=>c|3=>d|4=>e|_=>f
def isK (k:Nat):List Dat:=(List.range 6).map fun j=>.bl (decide (j=k))
def IG:SpD:=fun ds G R=>∃k:Nat,k<6/\ds=[.int k]/\R (.lst (isK k)) G
theorem Z8:200<(HI g46).length:=by
 have:(HI g46).length=(DZ g46).length:=by
  unfold HI
  rw [(Hu.sort_perm _).length_eq,List.length_map]
 rw [this,cX]
 decide
def d46:Dat->Dat
 |.int i=>.tup [.int (i / 6),.int (i%6)]
 |_=>.non
theorem lE:Dat.tup ((Bc 0 24).map d46)=fl g46:=by
 unfold fl Bc g46
 rw [List.map_map,List.map_map]
 refine congrArg Dat.tup (List.map_congr_left fun k _=>?_)
 show Dat.tup [.int ((0+(k:Int)) / 6),.int ((0+(k:Int))%6)]=.tup [.int ((k / 6:Nat):Int),.int ((k%6:Nat):Int)]
 rw [show (0+(k:Int)) / 6=((k / 6:Nat):Int) by lia,show (0+(k:Int))%6=((k%6:Nat):Int) by lia]
theorem gW:g46≠[]:=by decide +kernel
theorem Z6:g46.length≤24:=by decide +kernel
def t16:Lay:=[((0,0),(0,1))]
theorem bf:¬isF (fl (TSq.sort (A4 (BL ((Txt.split (Str.ofString "<<\n") (chr 10)).map fun p=>p.cps.toList))))):=by
 rintro ⟨M,e,gd⟩
 have e:=Oh e
 have c:A4 (BL ((Txt.split (Str.ofString "<<\n") (chr 10)).map fun p=>p.cps.toList))=[(0,0),(0,1),(0,1),(0,2)]:=by decide +kernel
 have nd:=gd.nodup
 rw [<-e,c,(TSq.sort_perm _).nodup_iff]at nd
 exact absurd nd (by decide)
section
structure HX (X:Cx) (ρ:Rho) (G:Gs) (e:Expr) (d:Dat):Prop where
 h:PX X ρ G e d
structure HXs (X:Cx) (ρ:Rho) (G:Gs) (es:List Expr) (ds:List Dat):Prop where
 h:PXs X ρ G es ds
variable {X:Cx}{ρ:Rho}{G:Gs}
theorem di {k p}:HX X ρ G (.Tuple [] k p) (.tup []):=⟨Ab AE⟩
theorem CV {a b:Int} {j1 j2 k p1 p2 p3}:HX X ρ G (.Tuple [.Constant (.int a) j1 p1,.Constant (.int b) j2 p2] k p3) (.tup [.int a,.int b]):=⟨Xr⟩
theorem SM {l l2:List Expr} {k p k2 p2 k3 p3} {d e:Dat} (h:HX X ρ G (.Tuple l k p) d) (h':HX X ρ G (.Tuple l2 k2 p2) e):HX X ρ G (.Tuple [.Tuple l k p,.Tuple l2 k2 p2] k3 p3) (.tup [d,e]):=⟨iW h.h h'.h⟩
theorem en {l:List Expr} {k p k3 p3} {d:Dat} (h:HX X ρ G (.Tuple l k p) d):HX X ρ G (.Tuple [.Tuple l k p] k3 p3) (.tup [d]):=⟨iP h.h⟩
theorem eY {l l2 m m2:List Expr} {k p k2 p2 k3 p3 j q j2 q2} {d e d' e':Dat} (h:HX X ρ G (.Tuple l k p) d) (h':HX X ρ G (.Tuple l2 k2 p2) e) (g:HX X ρ G (.Tuple m j q) d') (g':HX X ρ G (.Tuple m2 j2 q2) e'):HX X ρ G (.Tuple [.Tuple l k p,.Tuple l2 k2 p2,.Tuple m j q,.Tuple m2 j2 q2] k3 p3) (.tup [d,e,d',e']):=⟨fL h.h h'.h g.h g'.h⟩
theorem Tx {l l2:List Expr} {k p k2 p2} {d e:Dat} (h:HX X ρ G (.Tuple l k p) d) (h':HX X ρ G (.Tuple l2 k2 p2) e):HXs X ρ G [.Tuple l k p,.Tuple l2 k2 p2] [d,e]:=⟨FX h.h (FX h'.h AE)⟩
theorem UH {l l2:List Expr} {k p k2 p2} {ds:List Dat} {pos p':Pos} {S:SpX} {kk:Nat} {ps:List Str} {x:Str} {Q:Dat->Gs->Prop} {RX:Value->Gs->Prop} (hx:X.xe=fun _ _=>False) (F:DfX X.prog X.w X.K X.mg X.base x ps kk S) (hr:Room kk X.A) (ha:HXs X ρ G [.Tuple l k p,.Tuple l2 k2 p2] ds) (hS:S ds G Q RX) (hg:Gl X x) (DQ:(x==("__debug__":Str))=false) :
  WEX X ρ G (.Call (.Name x p') [.Tuple l k p,.Tuple l2 k2 p2] [] pos) Q RX:=Xk hx F hr ha.h hS hg DQ
theorem bp {Q:Dat->Gs->Prop} {RX:Value->Gs->Prop} {N:Addr} {j0 p0 i0 q0 k0 r0 j1 p1 i1 q1 k1 r1 a b c d e f} (hx:X.xe=fun _ _=>False) (F:DfX X.prog X.w X.K X.mg X.base "checked_laying" BC 5 (Gp N)) (hr:Room 5 X.A) (hg:Gl X "checked_laying") (hX:RX (.ref N) G):WEX X ρ G (.Call (.Name "checked_laying" a) [.Tuple [(.Tuple [.Constant (.int 0) j0 p0,.Constant (.int 0) i0 q0] k0 r0),(.Tuple [.Constant (.int 0) j1 p1,.Constant (.int 1) i1 q1] k1 r1)] b c,.Tuple [] d e] [] f) Q RX:=
 UH hx F hr (Tx (SM CV CV) di) ⟨f2,.tup [],ds2,cA,mM,fun h=>absurd h XR,fun _=>hX⟩ hg (by decide)
theorem ai {Q:Dat->Gs->Prop} {RX:Value->Gs->Prop} {N:Addr} {j0 p0 i0 q0 k0 r0 j1 p1 i1 q1 k1 r1 j2 p2 i2 q2 k2 r2 a b c d e f} (hx:X.xe=fun _ _=>False) (F:DfX X.prog X.w X.K X.mg X.base "turned" D2 3 (IC N)) (hr:Room 3 X.A) (hg:Gl X "turned") (hX:RX (.ref N) G):WEX X ρ G (.Call (.Name "turned" a) [.Tuple [.Tuple [(.Tuple [.Constant (.int 0) j0 p0,.Constant (.int 0) i0 q0] k0 r0),(.Tuple [.Constant (.int 0) j1 p1,.Constant (.int 1) i1 q1] k1 r1)] b c] d e,(.Tuple [.Constant (.int 0) j2 p2,.Constant (.int 0) i2 q2] k2 r2)] [] f) Q RX:=
 UH hx F hr (Tx (en (SM CV CV)) CV) ⟨t16,(0,0),ds3,by decide +kernel,hX⟩ hg (by decide)
theorem bL {Q:Dat->Gs->Prop} {RX:Value->Gs->Prop} {N:Addr} {j0 p0 i0 q0 k0 r0 j1 p1 i1 q1 k1 r1 j2 p2 i2 q2 k2 r2 j3 p3 i3 q3 k3 r3 j4 p4 i4 q4 k4 r4 j5 p5 i5 q5 k5 r5 j6 p6 i6 q6 k6 r6 j7 p7 i7 q7 k7 r7 a b c d e f g h l m} (hx:X.xe=fun _ _=>False) (F:DfX X.prog X.w X.K X.mg X.base "heights" C2 6 (QC N)) (hr:Room 6 X.A) (hg:Gl X "heights") (hX:RX (.ref N) G):WEX X ρ G (.Call (.Name "heights" a) [.Tuple [(.Tuple [.Constant (.int 0) j0 p0,.Constant (.int 0) i0 q0] k0 r0),(.Tuple [.Constant (.int 0) j1 p1,.Constant (.int 1) i1 q1] k1 r1),(.Tuple [.Constant (.int 2) j2 p2,.Constant (.int 0) i2 q2] k2 r2),(.Tuple [.Constant (.int 2) j3 p3,.Constant (.int 1) i3 q3] k3 r3)] b c,.Tuple [.Tuple [(.Tuple [.Constant (.int 0) j4 p4,.Constant (.int 0) i4 q4] k4 r4),(.Tuple [.Constant (.int 0) j5 p5,.Constant (.int 1) i5 q5] k5 r5)] d e,.Tuple [(.Tuple [.Constant (.int 2) j6 p6,.Constant (.int 0) i6 q6] k6 r6),(.Tuple [.Constant (.int 2) j7 p7,.Constant (.int 1) i7 q7] k7 r7)] f g] h l] [] m) Q RX:=
 UH hx F hr (Tx (eY CV CV CV CV) (SM (SM CV CV) (SM CV CV))) ⟨f4,b4,ds4,XF,Zk,hX⟩ hg (by decide)
end
section
variable {P:Program}{w:World}{K:PySem.W.Frag}{mg:Str->Option Value}{base:Heap}{f:Addr}{fd:FuncData}
theorem MQ {cl:Nat->Addr} (F:Fun K "_law_deed" "_law_deed" BV f fd) (mt:mg "tuple"=none) (mr:mg "range"=none) (F0:DfX P w K mg base "checked" CS 4 (D9 (cl 0))) (F1:DfX P w K mg base "checked_laying" BC 5 (Gp (cl 1)))
  (F2:DfX P w K mg base "all_layings" B8 27 (OY (cl 2))) (F3:DfX P w K mg base "turned" D2 3 (IC (cl 3))) (F4:DfX P w K mg base "heights" C2 6 (QC (cl 4))) (F5:DfX P w K mg base "read" JV 5 (K1 (cl 5))):FnOk P w K mg base (CXV P w) 28 f fd DK (C8 K (OS cl)):=by
 refine cT (k:=27) F Mc (fun ds G R RX h=>?_) (fun A8 A outer s H E ds G R RX hr h=>?_)
 ·obtain ⟨k,_,rfl,_⟩:=h;rfl
 obtain ⟨k,hk,rfl,hX⟩:=h
 have aV:∀j:Nat,((k:Int)==(j:Int))=decide (k=j):=fun j=>by
  rw [Bool.eq_iff_iff,beq_iff_eq,decide_eq_true_eq];lia
 refine Fz (PXT.cast (CF (Cd (AD 0 rfl) AI)) (aV 0)) (fun h=>?_) (fun h0=>?_) rfl
 ·have h:=of_decide_eq_true h
  subst h
  exact EB (bZ rfl F0 (hr.mono (by lia)) (FX (Ab AE) AE) ⟨.tup [],rfl,eU,fun h=>absurd h Vt,fun _=>hX⟩ rfl (by decide))
 refine Fz (PXT.cast (CF (Cd (AD 0 rfl) AI)) (aV 1)) (fun h=>?_) (fun h1=>?_) rfl
 ·have h:=of_decide_eq_true h
  subst h
  exact EB (bp rfl F1 (hr.mono (by lia)) rfl hX)
 refine Fz (PXT.cast (CF (Cd (AD 0 rfl) AI)) (aV 2)) (fun h=>?_) (fun h2=>?_) rfl
 ·have h:=of_decide_eq_true h
  subst h
  refine EB (JY rfl F2 (hr.mono (by lia)) (AA (PX.cast (KS rfl mt (by decide +kernel) (DH (Nc:=Fu) (caps:=Kz) (l:=Bc 0 24) (f:=Fb 0) d46
   (Ei (psc:=AB BV) (PN:=IT) (by decide +kernel) rfl rfl) rfl
   (J0 rfl mr AI (by lia) (by lia) ⟨rfl,rfl⟩)
   (fun C s' H' fp=>CJ 0 (show Fu.Nodup by decide +kernel)) (D4 rfl) (by rw [Je];lia) ?_)) lE) AE) ⟨g46,rfl,gW,mQ,Z6,Z8,hX⟩)
  intro C s' H' fp G2 d hd kn
  obtain ⟨c,hc,rfl⟩:=JF hd
  exact ⟨_,rfl,Ab (AA (Ux (AD 0 rfl) AI ⟨by decide,by decide⟩) (AA (TC (AD 0 rfl) AI (by decide)) AE))⟩
 refine Fz (PXT.cast (CF (Cd (AD 0 rfl) AI)) (aV 3)) (fun h=>?_) (fun h3=>?_) rfl
 ·have h:=of_decide_eq_true h
  subst h
  exact EB (ai rfl F3 (hr.mono (by lia)) rfl hX)
 refine Fz (PXT.cast (CF (Cd (AD 0 rfl) AI)) (aV 4)) (fun h=>?_) (fun h4=>?_) rfl
 ·have h:=of_decide_eq_true h
  subst h
  exact EB (bL rfl F4 (hr.mono (by lia)) rfl hX)
 have h5:k=5:=by
  have:=of_decide_eq_false h0
  have:=of_decide_eq_false h1
  have:=of_decide_eq_false h2
  have:=of_decide_eq_false h3
  have:=of_decide_eq_false h4
  lia
 subst h5
 exact EB (JY rfl F5 (hr.mono (by lia)) (AA CN AE) ⟨_,rfl,by decide +kernel,bf,hX⟩)
theorem GW {cl:Nat->Addr} {D:Addr} (F:Fun K "_law_kinds_of" "_law_kinds_of" Ag f fd) (mi:mg "isinstance"=none) (hD:mg "FloorError"=some (.ref D)) (h0:mg "BadFloor"=some (.ref (cl 0))) (h1:mg "BadLaying"=some (.ref (cl 1))) (h2:mg "TooMany"=some (.ref (cl 2))) (h3:mg "NoTurn"=some (.ref (cl 3))) (h4:mg "NotPlain"=some (.ref (cl 4))) (h5:mg "BadText"=some (.ref (cl 5)))
  (xD:PySem.W.excIn K D BMV "ValueError.__new__"=true) (xs:∀j,j<6->PySem.W.excIn K (cl j) BMV "ValueError.__new__"=true) (us:∀j,j<6->BG K (cl j) D=true) (ap:∀i j,i<6->j<6->i≠j->AR K (cl i) (cl j)=true)
  (FD:DfX P w K mg base "_law_deed" DK 28 (OS cl)):FnOk P w K mg base CX0 29 f fd BY (BO K IG):=by
 refine DN (k:=28) F Bk (fun ds G R h=>?_) (fun A8 A outer s H E ds G R hr h=>?_)
 ·obtain ⟨k,_,rfl,_⟩:=h;rfl
 obtain ⟨k,hk,rfl,hR⟩:=h
 refine CL 1 Bk.nd (HB AE) ?_
 refine T6 (RX:=fun cls G'=>cls=.ref (cl k)/\G=G') 2 rfl rfl Bk.nd (Qm (Q:=fun _ _=>False) (JY rfl FD hr (AA (AD 0 rfl) AE) ⟨k,hk,rfl,rfl,rfl⟩) (fun _ _ h=>h.elim)) xD PySem.F.excBase_ValueError hD ?_
 rintro cls G' ⟨rfl,rfl⟩
 refine ⟨cl k,_,_,rfl,xs k hk,us k hk,fun ea oe hc=>?_⟩
 have ZF:∀{ρ:Rho} {pp p1 p2 pos:Pos} {cn:Str} (j:Nat),j<6->mg cn=some (.ref (cl j))->ρ[2]?=some (some (.fn ea))->Gl (Cx.sx (Ct CX0 P w K mg base DD "_law_kinds_of" (AB Ag) f A8 A outer s H E).nox ea oe) cn->(cn==("__debug__":Str))=false →
   PX (Cx.sx (Ct CX0 P w K mg base DD "_law_kinds_of" (AB Ag) f A8 A outer s H E).nox ea oe) ρ G (.Call (.Name "isinstance" pp) [.Name "e" p1,.Name cn p2] [] pos) (.bl (decide (j=k))):=by
  intro ρ pp p1 p2 pos cn j hj nM hρ iq DQ
  by_cases e:j=k
  ·subst e
   rw [decide_eq_true rfl]
   exact Um hc (List.mem_cons_self ..) mi nM (AD 2 hρ) rfl iq DQ rfl
  ·rw [decide_eq_false e]
   exact WM hc (List.mem_cons_self ..) (xs k hk) (xs j hj) (ap k j hk hj (Ne.symm e)) mi nM (AD 2 hρ) rfl iq DQ rfl
 refine CL 1 Bk.nd (HB (AA (ZF 0 (by lia) h0 rfl rfl (by decide)) (AA (ZF 1 (by lia) h1 rfl rfl (by decide)) (AA (ZF 2 (by lia) h2 rfl rfl (by decide)) (AA (ZF 3 (by lia) h3 rfl rfl (by decide)) AE))))) ?_
 refine CL 1 Bk.nd (Y7 (AD 1 rfl) (HB (AA (ZF 4 (by lia) h4 rfl rfl (by decide)) (AA (ZF 5 (by lia) h5 rfl rfl (by decide)) AE))) (sz (show 4+2≤5000 by decide))) (Ac ?_)
 exact Aj (AD 1 rfl) hR
theorem Xw (F:Fun K "law" "law" DV f fd) (mr:mg "range"=none) (FC:Df P w K mg base "_law_cell" CU 1 K3) (FK:Df P w K mg base "_law_kinds_of" BY 29 IG):FnOk P w K mg base CX0 30 f fd Wt (BO K Kw):=by
 refine DN (k:=29) F SG (fun ds G R h=>?_) (fun A8 A outer s H E ds G R hr h=>?_)
 ·obtain ⟨ns,rfl,_⟩:=h;rfl
 obtain ⟨ns,rfl,hR⟩:=h
 have hu:(A.deeper (envOfC "law" (AB DV) s.heap.objs.size f A8)).units+9<cLine:=by have:=hr.units;lia
 obtain ⟨k,hk,ek⟩:∃k:Nat,k<6/\Ii ns 0%6=(k:Int):=⟨(Ii ns 0%6).toNat,by lia,by lia⟩
 refine CL 1 SG.nd (PX.cast (d':=.int (k:Int)) (TC (Aq FC (hr.mono (by lia)) (AA (AD 0 rfl) (AA AI AE)) ⟨ns,0,rfl,rfl,rfl⟩) AI (by decide)) (by rw [ek])) ?_
 refine Aj (MS (Xg hu (d1:=.lst (isK k)) (Aq FK hr (AA (AD 1 rfl) AE) ⟨k,hk,rfl,rfl,rfl⟩) (PX.cast (d':=.lst (isK k)) (DH (Nc:=QY) (caps:=VJ) (l:=Bc 0 6) (f:=Fb 0) (fun d=>match d with|.int i=>.bl (i==(k:Int))|_=>.non)
  (Ei (psc:=AB DV) (PN:=XC) (by decide +kernel) rfl rfl) rfl
  (J0 rfl mr AI (by lia) (by lia) ⟨rfl,rfl⟩)
  (fun C s' H' fp=>CJ 0 (show QY.Nodup by decide +kernel)) (D4 rfl) (by rw [Je];lia) ?_) ?_) ?_ ?_)) ?_
 ·intro C s' H' fp G2 d hd kn
  obtain ⟨c,hc,rfl⟩:=JF hd
  exact ⟨_,rfl,MS (Cd (AD 0 rfl) (AD 1 rfl))⟩
 ·unfold isK Bc
  rw [List.map_map]
  refine congrArg Dat.lst (List.map_congr_left fun j _=>?_)
  show Dat.bl ((0+(j:Int))==(k:Int))=Dat.bl (decide (j=k))
  congr 1
  rw [Bool.eq_iff_iff,beq_iff_eq,decide_eq_true_eq];lia
 ·rfl
 ·rfl
 ·have e:eqD (.lst (isK k)) (.lst (isK k))=true:=Ij 9 _ rfl
  rw [e]
  exact hR
end
end TF
namespace TF
open PySem PySem.Spec L2
open PyProof.Rows hiding St RelV
section
variable {P:Program}{w:World}{K:PySem.W.Frag}{mg:Str->Option Value}{base:Heap}{f:Addr}{fd:FuncData}
theorem GR (F:Fun K "is_number" "is_number" BR f fd) (mi:mg "isinstance"=none) (mn:mg "int"=none) (mb:mg "bool"=none):FnOk P w K mg base CX0 1 f fd CG (BO K GS):=by
 refine DN (k:=0) F Kj (fun ds G R h=>?_) (fun A8 A outer s H E ds G R hr h=>?_)
 ·obtain ⟨d,t,rfl,_⟩:=h;rfl
 obtain ⟨d,t,rfl,ht,hR⟩:=h
 refine Aj (Cs (EC (T:="int") (T':="int") mi mn (AD 0 rfl) ht) fun _=>Fg (X5 (EC (T:="bool") (T':="bool") mi mb (AD 0 rfl) ht))) ?_
 rw [Uz]
 exact hR
theorem Jk (F:Fun K "is_pair" "is_pair" Bz f fd) (mi:mg "isinstance"=none) (mt:mg "tuple"=none) (ml:mg "len"=none):FnOk P w K mg base CX0 1 f fd CW (BO K GO):=by
 refine DN (k:=0) F Nr (fun ds G R h=>?_) (fun A8 A outer s H E ds G R hr h=>?_)
 ·obtain ⟨d,t,rfl,_⟩:=h;rfl
 obtain ⟨d,t,rfl,ht,hR⟩:=h
 refine Aj (Cs (q:=FO d) (EC (T:="tuple") (T':="tuple") mi mt (AD 0 rfl) ht) fun hp=>Fg ?_) ?_
 ·rw [IA]at hp
  cases d with
  |tup l=>
   refine PX.cast (MS (Cd (EY (n:=l.length) rfl ml (AD 0 rfl) rfl) AI)) ?_
   match l with
   |[]=>rfl
   |[_]=>rfl
   |[_,_]=>rfl
   |_::_::_::r=>
    show Dat.bl (((r.length+1+1+1:Nat):Int)==2)=Dat.bl false
    rw [beq_false_of_ne (by lia)]
  |non=>cases ht;cases hp
  |bl _=>cases ht;cases hp
  |int _=>cases ht;cases hp
  |str _=>cases ht;cases hp
  |fn _=>cases ht
  |scr _=>cases ht;cases hp
  |lst _=>cases ht;cases hp
 ·have e:(isS t "tuple"&&FO d)=FO d:=by
   rw [IA]
   cases d with
   |tup l=>cases ht;rfl
   |fn _=>cases ht
   |non=>cases ht;rfl
   |bl _=>cases ht;rfl
   |int _=>cases ht;rfl
   |str _=>cases ht;rfl
   |scr _=>cases ht;rfl
   |lst _=>cases ht;rfl
  rw [e]
  exact hR
theorem Hb (F:Fun K "is_place" "is_place" Bi f fd) (FP:Df P w K mg base "is_pair" CW 1 GO) (FN:Df P w K mg base "is_number" CG 1 GS):FnOk P w K mg base CX0 2 f fd Bv (BO K E8):=by
 refine DN (k:=1) F NJ (fun ds G R h=>?_) (fun A8 A outer s H E ds G R hr h=>?_)
 ·obtain ⟨d,rfl,_⟩:=h;rfl
 obtain ⟨d,rfl,hk,hR⟩:=h
 obtain ⟨t,ht⟩:=T4 hk
 by_cases hp:FO d=true
 ·obtain ⟨a,b,rfl⟩:∃a b,d=.tup [a,b]:=by
   unfold FO at hp
   split at hp
   ·exact ⟨_,_,rfl⟩
   ·cases hp
  have ET:((tyS a).isSome&&((tyS b).isSome&&true))=true:=hk
  rw [Bool.and_true,Bool.and_eq_true]at ET
  obtain ⟨ta,ha⟩:=Option.isSome_iff_exists.mp ET.1
  obtain ⟨tb,hb⟩:=Option.isSome_iff_exists.mp ET.2
  refine Aj (Cs (Aq FP (hr.mono (by lia)) (AA (AD 0 rfl) AE) ⟨_,t,rfl,ht,rfl,rfl⟩) fun _=>Cs (Aq FN (hr.mono (by lia)) (AA (BF (AD 0 rfl) AI rfl) AE) ⟨a,ta,rfl,ha,rfl,rfl⟩) fun _=>Fg (Aq FN (hr.mono (by lia)) (AA (BF (AD 0 rfl) AI rfl) AE) ⟨b,tb,rfl,hb,rfl,rfl⟩)) ?_
  have e:(FO (.tup [a,b])&&((ta=="int")&&(tb=="int")))=Dg (.tup [a,b]):=by
   cases a<;>cases ha<;>cases b<;>cases hb<;>rfl
  rw [e]
  exact hR
 ·have ZA:FO d=false:=by simpa using hp
  refine Aj (Cs (q:=true) (Aq FP (hr.mono (by lia)) (AA (AD 0 rfl) AE) ⟨_,t,rfl,ht,rfl,rfl⟩) fun h=>absurd h hp) ?_
  have e:Dg d=false:=by
   unfold Dg
   split
   ·cases ZA
   ·rfl
  rw [ZA,Bool.false_and,<-e]
  exact hR
end
end TF
namespace TF
open PySem PySem.Spec L2
open PyProof.Rows hiding St RelV
section
variable {P:Program}{w:World}{K:PySem.W.Frag}{mg:Str->Option Value}{base:Heap}{f:Addr}{fd:FuncData}
theorem GB {tk:Tok} (F:Fun K "is_square" "is_square" BU f fd) (hL:mg "LAST_LINE"=some (.int 7 tk)) (FP:Df P w K mg base "is_place" Bv 2 E8):FnOk P w K mg base CX0 3 f fd Bu (BO K Dt):=by
 refine DN (k:=2) F LZ (fun ds G R h=>?_) (fun A8 A outer s H E ds G R hr h=>?_)
 ·obtain ⟨d,rfl,_⟩:=h;rfl
 obtain ⟨d,rfl,hk,hR⟩:=h
 cases hp:Dg d with
 |false=>
  refine Aj (Cs (p:=false) (q:=true) (PX.cast (Aq FP hr (AA (AD 0 rfl) AE) ⟨d,rfl,hk,rfl,rfl⟩) (by rw [hp])) fun h=>absurd h (by decide)) ?_
  have e:BJ d=false:=by
   unfold BJ
   split
   ·cases hp
   ·rfl
  rw [e]at hR
  exact hR
 |true=>
  obtain ⟨q,rfl⟩:=UW hp
  refine Aj (Cs (p:=true) (PX.cast (Aq FP hr (AA (AD 0 rfl) AE) ⟨_,rfl,hk,rfl,rfl⟩) (by rw [hp])) fun _=>Cs (Py AI (BF (AD 0 rfl) AI rfl) (DS hL)) fun _=>Fg (Py AI (BF (AD 0 rfl) AI rfl) (DS hL))) ?_
  exact hR
theorem Gk (F:Fun K "is_rising" "is_rising" A5 f fd) (ma:mg "all"=none) (mz:mg "zip"=none):FnOk P w K mg base CX0 1 f fd BZ (BO K D6):=by
 refine DN (k:=0) F Lj (fun ds G R h=>?_) (fun A8 A outer s H E ds G R hr h=>?_)
 ·obtain ⟨l,rfl,_⟩:=h;rfl
 obtain ⟨l,rfl,hz,ho,hR⟩:=h
 have hu:(A.deeper (envOfC "is_rising" (AB A5) s.heap.objs.size f A8)).units+9<cLine:=by have:=hr.units;lia
 refine Aj (JL (bs:=(l.zip (l.drop 1)).map fun p=>B7 true p.1 p.2) rfl ma (PX.cast (DH (Nc:=FZ) (caps:=Ju) (l:=Jq l (l.drop 1)) (f:=Hg 0 1) (fun d=>match d with|.tup [x,y]=>.bl (B7 true x y)|_=>.non)
  (Ei (psc:=AB A5) (PN:=Hk) (by decide +kernel) rfl rfl) rfl
  (Yx mz (AD 0 rfl) (PX.cast (J6 (ol:=some 1) (oh:=none) (AD 0 rfl) AI trivial) (by rw [bU])) ⟨rfl,rfl⟩)
  (fun C s' H' fp=>GP 0 1 rfl (show FZ.Nodup by decide +kernel)) (Mu rfl rfl) ?_ ?_) ?_)) ?_
 ·unfold Jq
  rw [List.length_map,List.length_zip]
  lia
 ·intro C s' H' fp G2 d hd kn
  unfold Jq at hd
  obtain ⟨p,hp,rfl⟩:=List.mem_map.mp hd
  obtain ⟨h1,h2,h3⟩:=ho p hp
  exact ⟨_,rfl,MS (Pu hu (AD 0 rfl) (AD 1 rfl) h1 h2 h3)⟩
 ·unfold Jq
  rw [List.map_map,List.map_map]
  rfl
 ·rw [List.all_map]
  exact hR
end
end TF
namespace TF
open PySem PySem.Spec L2
open PyProof.Rows hiding St RelV
section
variable {P:Program}{w:World}{K:PySem.W.Frag}{mg:Str->Option Value}{base:Heap}{f:Addr}{fd:FuncData}
theorem HW (F:Fun K "is_stone" "is_stone" BE f fd) (FP:Df P w K mg base "is_pair" CW 1 GO) (FS:Df P w K mg base "is_square" Bu 3 Dt) (FN:Df P w K mg base "neighbours" Bx 1 (Qi nbM)):FnOk P w K mg base CX0 4 f fd Ca (BO K Ge):=by
 refine DN (k:=3) F NP (fun ds G R h=>?_) (fun A8 A outer s H E ds G R hr h=>?_)
 ·obtain ⟨d,rfl,_⟩:=h;rfl
 obtain ⟨d,rfl,hk,hR⟩:=h
 have hu:(A.deeper (envOfC "is_stone" (AB BE) s.heap.objs.size f A8)).units+9<cLine:=by have:=hr.units;lia
 obtain ⟨t,ht⟩:=Q1 hk
 cases hp:FO d with
 |false=>
  refine Cq (Dh (p:=true) (q:=true) ?_ (fun h=>absurd h (by decide))).t (fun _=>?_) (fun h=>absurd h (by decide))
  ·exact PXT.cast (A3 (A6 (Aq FP (hr.mono (by lia)) (AA (AD 0 rfl) AE) ⟨d,t,rfl,ht,rfl,rfl⟩))) (by rw [hp];rfl)
  ·have e:Br d=false:=by
    unfold Br
    split
    ·cases hp
    ·rfl
   rw [e]at hR
   exact Aj ME hR
 |true=>
  obtain ⟨a,b,rfl⟩:∃a b,d=.tup [a,b]:=by
   unfold FO at hp
   split at hp
   ·exact ⟨_,_,rfl⟩
   ·cases hp
  have ET:(Et a&&(Et b&&true))=true:=hk
  rw [Bool.and_true,Bool.and_eq_true]at ET
  have no:BJ a=false\/BJ b=false->Br (.tup [a,b])=false:=fun h=>by
   cases hs:Br (.tup [a,b])with
   |false=>rfl
   |true=>
    obtain ⟨z,e,h1,h2,_⟩:=NV hs
    unfold AM at e
    injection e with e
    injection e with e1 e
    injection e with e2 _
    subst e1 e2
    rw [JM,JM,h1,h2]at h
    rcases h with h|h<;>cases h
  have p0:∀{ρ:Rho} {G:Gs} {p1 p2 p3 p4:Pos},ρ[0]?=some (some (.tup [a,b]))->PXT (Ct CX0 P w K mg base Ie "is_stone" (AB BE) f A8 A outer s H E).nox ρ G (.UnaryOp .Not (.Call (.Name "is_pair" p1) [.Name "thing" p2] [] p3) p4) false:=fun h=>PXT.cast (A3 (A6 (Aq FP (hr.mono (by lia)) (AA (AD 0 h) AE) ⟨_,t,rfl,ht,rfl,rfl⟩))) rfl
  cases ha:BJ a with
  |false=>
   refine Cq (Dh (p:=false) (q:=true) (p0 rfl) (fun _=>Dh (p:=true) (q:=true) ?_ (fun h=>absurd h (by decide)))).t (fun _=>?_) (fun h=>absurd h (by decide))
   ·exact PXT.cast (A3 (A6 (Aq FS (hr.mono (by lia)) (AA (BF (AD 0 rfl) AI rfl) AE) ⟨a,rfl,ET.1,rfl,rfl⟩))) (by rw [ha];rfl)
   ·rw [no (.inl ha)]at hR
    exact Aj ME hR
  |true=>
   cases hb:BJ b with
   |false=>
    refine Cq (Dh (p:=false) (q:=true) (p0 rfl) (fun _=>Dh (p:=false) (q:=true) ?_ (fun _=>Gq ?_))).t (fun _=>?_) (fun h=>absurd h (by decide))
    ·exact PXT.cast (A3 (A6 (Aq FS (hr.mono (by lia)) (AA (BF (AD 0 rfl) AI rfl) AE) ⟨a,rfl,ET.1,rfl,rfl⟩))) (by rw [ha];rfl)
    ·exact PXT.cast (A3 (A6 (Aq FS (hr.mono (by lia)) (AA (BF (AD 0 rfl) AI rfl) AE) ⟨b,rfl,ET.2,rfl,rfl⟩))) (by rw [hb];rfl)
    ·rw [no (.inr hb)]at hR
     exact Aj ME hR
   |true=>
    obtain ⟨p,rfl,uH⟩:=HC ha
    obtain ⟨q,rfl,sP⟩:=HC hb
    refine Cq (Dh (p:=false) (q:=false) (p0 rfl) (fun _=>Dh (p:=false) (q:=false) ?_ (fun _=>Gq ?_))).t (fun h=>absurd h (by decide)) (fun _=>Ac ?_)
    ·exact PXT.cast (A3 (A6 (Aq FS (hr.mono (by lia)) (AA (BF (AD 0 rfl) AI rfl) AE) ⟨sq p,rfl,ET.1,rfl,rfl⟩))) (by rw [ha];rfl)
    ·exact PXT.cast (A3 (A6 (Aq FS (hr.mono (by lia)) (AA (BF (AD 0 rfl) AI rfl) AE) ⟨sq q,rfl,ET.2,rfl,rfl⟩))) (by rw [hb];rfl)
    ·refine Aj (Cs (p:=decide (AU p q)) (q:=(nbM p).contains q) (PX.cast (MS (Pu hu (BF (d:=sq p) (AD 0 rfl) AI rfl) (BF (d:=sq q) (AD 0 rfl) AI rfl) rfl (Al p 8) (Al q 8))) (by rw [Jl])) fun _=>Fg (PX.cast (MS (La hu (BF (d:=sq q) (AD 0 rfl) AI rfl) (Aq FN (hr.mono (by lia)) (AA (BF (d:=sq p) (AD 0 rfl) AI rfl) AE) ⟨p,rfl,rfl,rfl⟩) (.inr rfl) (J7 q) (EH _))) (by rw [C9]))) ?_
     have e:Br (.tup [sq p,sq q])=(decide (AU p q)&&(nbM p).contains q):=by
      show Br (AM (p,q))=_
      rw [Mx,Gb.mpr uH,Gb.mpr sP]
      rfl
     rw [e]at hR
     exact hR
theorem Jf (F:Fun K "covered" "covered" Bq f fd) (ms:mg "sorted"=none):FnOk P w K mg base CX0 1 f fd CZ (BO K Du):=by
 refine DN (k:=0) F Fd (fun ds G R h=>?_) (fun A8 A outer s H E ds G R hr h=>?_)
 ·obtain ⟨l,rfl,_⟩:=h;rfl
 obtain ⟨l,rfl,hz,hR⟩:=h
 have hu:(A.deeper (envOfC "covered" (AB Bq) s.heap.objs.size f A8)).units+20<cLine:=by have:=hr.units;lia
 refine Ew 1 Fd.nd AE (fun p hp=>?_)
 refine Gg (l:=l.map AM) (f:=Fb 2) (fun i ρ' G'=>(∃x2,ρ'=[some (lay l),some (.fn p),x2])/\G'=put G p (.lst ((A4 (l.take i)).map sq))) PassesOwn.never rfl
  (LH (AD 0 rfl) ⟨rfl,⟨none,rfl⟩,rfl⟩) (CJ 2 Fd.nd) ?_ ?_
 ·rintro i dd ρ' G' hd ⟨⟨x2,rfl⟩,rfl⟩
  rw [List.getElem?_map]at hd
  obtain ⟨t,ht,rfl⟩:=Option.map_eq_some_iff.mp hd
  refine ⟨_,rfl,?_⟩
  refine MX (m:=[sq t.1,sq t.2]) (AD 1 rfl) (AD 2 rfl) AJ ?_ (Ac ⟨⟨_,rfl⟩,?_⟩)
  ·rw [List.length_map,Pt,List.length_take]
   exact sz (by simp;lia)
  ·rw [B0,List.take_add_one,ht,QN,List.map_append]
   rfl
 ·rintro ρ' G' ⟨⟨x2,rfl⟩,rfl⟩
  rw [List.length_map,List.take_length]
  refine E2 (Le (PX.we (OT TSq (A4 l) hu ms (AD 1 rfl) (.inr ⟨p,rfl,AJ⟩) (.inl fun x=>⟨_,_,rfl⟩)) ⟨p,?_⟩))
  rw [Cz hp]
  exact hR
theorem Gm {B:Addr} (F:Fun K "checked_laying" "checked_laying" AY f fd) (mi:mg "isinstance"=none) (mt:mg "tuple"=none) (sJ:mg "list"=none) (ma:mg "all"=none) (hB:mg "BadLaying"=some (.ref B)) (xB:PySem.W.excIn K B [.type "ValueError",.type "Exception",.type "BaseException",.type "object"] "ValueError.__new__"=true)
  (FS:Df P w K mg base "is_stone" Ca 4 Ge) (FR:Df P w K mg base "is_rising" BZ 1 D6) (FC:Df P w K mg base "covered" CZ 1 Du):FnOk P w K mg base (CXV P w) 5 f fd BC (C8 K (Gp B)):=by
 refine PL (k:=4) F GV (fun ds G R RX h=>?_) (fun A8 A outer s H E ds G R RX hr h=>?_)
 ·obtain ⟨q,d,rfl,_⟩:=h;rfl
 obtain ⟨q,d,rfl,gd,⟨⟨t,ht⟩,ok⟩,hR,hX⟩:=h
 have hu:(A.deeper (envOfC "checked_laying" (AB AY) s.heap.objs.size f A8)).units+9<cLine:=by have:=hr.units;lia
 by_cases htup:¬∃l,d=.tup l
 ·refine CA (b:=true) (PXT.cast (A3 (A6 (EC (T:="tuple") (T':="tuple") mi mt (AD 1 rfl) ht))) ?_) (fun _=>?_) (fun h=>absurd h (by decide)) rfl
  ·rw [IA]
   cases d with
   |tup l=>exact absurd ⟨l,rfl⟩ htup
   |fn _=>cases ht
   |non=>cases ht;rfl
   |bl _=>cases ht;rfl
   |int _=>cases ht;rfl
   |str _=>cases ht;rfl
   |scr _=>cases ht;rfl
   |lst _=>cases ht;rfl
  ·exact BD rfl rfl xB PySem.F.excBase_ValueError hB (AA CN AE) (by simp) (hX fun ⟨M,e,_⟩=>htup ⟨_,e⟩)
 obtain ⟨l,rfl⟩:=Classical.not_not.mp htup
 cases ht
 obtain ⟨hz,hk⟩:=ok l rfl
 refine CA (b:=false) (PXT.cast (A3 (A6 (EC (T:="tuple") (T':="tuple") mi mt (AD 1 rfl)))) rfl) (fun h=>absurd h (by decide)) (fun _=>?_) rfl
 refine CA (A3 (A6 (JL (bs:=l.map Br) rfl ma (PX.cast (DH (Nc:=DF) (caps:=Fc) (l:=l) (f:=Fb 0) (fun d=>.bl (Br d))
  (Ei (psc:=AB AY) (PN:=D3) (by decide +kernel) rfl rfl) rfl
  (LH (AD 1 rfl) ⟨rfl,rfl⟩)
  (fun C s' H' fp=>CJ 0 (show DF.Nodup by decide +kernel)) (D4 rfl) (by lia) ?_) (by rw [List.map_map];rfl))))) (fun hp=>?_) (fun hp=>?_) rfl
 ·intro C s' H' fp G2 d hd kn
  exact ⟨_,rfl,Aq FS hr (AA (AD 0 rfl) AE) ⟨d,rfl,hk d hd,rfl,rfl⟩⟩
 ·refine BD rfl rfl xB PySem.F.excBase_ValueError hB (AA CN AE) (by simp) (hX fun ⟨M,e,J⟩=>?_)
  unfold lay at e
  injection e with e
  subst e
  have:=IsLay.oks gd J
  rw [List.all_map]at hp
  have h2:(M.map AM).all (id ∘ Br)=true:=this
  rw [h2]at hp
  cases hp
 have Kv:l.all Br=true:=by
  have h2:(l.map Br).all id=true:=by simpa using hp
  rw [List.all_map]at h2
  exact h2
 obtain ⟨M,rfl,oks⟩:=O6 Kv
 rw [List.length_map]at hz
 refine CA (A3 (A6 (Aq FR (hr.mono (by lia)) (AA (AD 1 rfl) AE) ⟨M.map AM,rfl,by rw [List.length_map];exact hz,OJ M,rfl,rfl⟩))) (fun hp=>?_) (fun hp=>?_) rfl
 ·refine BD rfl rfl xB PySem.F.excBase_ValueError hB (AA CN AE) (by simp) (hX fun ⟨K',e,J⟩=>?_)
  have:=QI (L:=M) (M:=K') e
  subst this
  rw [(Oe M).mpr J.ris]at hp
  cases hp
 have lY:M.Pairwise LK:=(Oe M).mp (by simpa using hp)
 refine CA (CF (Vk hu (Aq FC (hr.mono (by lia)) (AA (AD 1 rfl) AE) ⟨M,rfl,hz,rfl,rfl⟩) (S2 rfl sJ Boot.«list» (AD 0 rfl)) rfl (EH _) (EH q))) (fun hp=>?_) (fun hp=>?_) rfl
 ·refine BD rfl rfl xB PySem.F.excBase_ValueError hB (AA CN AE) (by simp) (hX fun ⟨K',e,J⟩=>?_)
  have:=QI (L:=M) (M:=K') e
  subst this
  rw [UC gd.up J.toCov,show eqD (.lst (q.map sq)) (.lst (q.map sq))=eqL (q.map sq) (q.map sq)from rfl,VM]at hp
  cases hp
 ·have e:TSq.sort (A4 M)=q:=by
   have h3:eqD (.lst ((TSq.sort (A4 M)).map sq)) (.lst (q.map sq))=true:=by simpa using hp
   have h2:eqL ((TSq.sort (A4 M)).map sq) (q.map sq)=true:=h3
   exact JJ h2
  exact PY (Aj (AD 1 rfl) (hR ⟨M,rfl,Yv gd oks lY (by rw [<-e];exact (TSq.sort_perm _).symm)⟩)) rfl
end
end TF
namespace TF
open PySem PySem.Spec L2
open PyProof.Rows hiding St RelV
section
variable {P:Program}{w:World}{K:PySem.W.Frag}{mg:Str->Option Value}{base:Heap}{f:Addr}{fd:FuncData}
theorem NB {B:Addr} {tk uo:Tok} (F:Fun K "checked" "checked" Bo f fd) (mi:mg "isinstance"=none) (mt:mg "tuple"=none) (ml:mg "len"=none) (ma:mg "all"=none) (hM:mg "MOST_SQUARES"=some (.int 24 tk)) (hL:mg "LAST_LINE"=some (.int 7 uo)) (hB:mg "BadFloor"=some (.ref B)) (xB:PySem.W.excIn K B [.type "ValueError",.type "Exception",.type "BaseException",.type "object"] "ValueError.__new__"=true)
  (FS:Df P w K mg base "is_square" Bu 3 Dt) (FR:Df P w K mg base "is_rising" BZ 1 D6):FnOk P w K mg base (CXC P w) 4 f fd CS (C8 K (D9 B)):=by
 refine R5 (k:=3) F Nw (fun ds G R RX h=>?_) (fun A8 A outer s H E ds G R RX hr h=>?_)
 ·obtain ⟨d,rfl,_⟩:=h;rfl
 obtain ⟨d,rfl,⟨⟨t,ht⟩,ok⟩,hR,hX⟩:=h
 by_cases htup:¬∃l,d=.tup l
 ·refine CA (b:=true) (PXT.cast (A3 (A6 (EC (T:="tuple") (T':="tuple") mi mt (AD 0 rfl) ht))) ?_) (fun _=>?_) (fun h=>absurd h (by decide)) rfl
  ·rw [IA]
   cases d with
   |tup l=>exact absurd ⟨l,rfl⟩ htup
   |fn _=>cases ht
   |non=>cases ht;rfl
   |bl _=>cases ht;rfl
   |int _=>cases ht;rfl
   |str _=>cases ht;rfl
   |scr _=>cases ht;rfl
   |lst _=>cases ht;rfl
  ·exact BD rfl rfl xB PySem.F.excBase_ValueError hB (AA CN AE) (by simp) (hX fun ⟨M,e,_⟩=>htup ⟨_,e⟩)
 obtain ⟨l,rfl⟩:=Classical.not_not.mp htup
 cases ht
 obtain ⟨hz,hk⟩:=ok l rfl
 refine CA (b:=false) (PXT.cast (A3 (A6 (EC (T:="tuple") (T':="tuple") mi mt (AD 0 rfl)))) rfl) (fun h=>absurd h (by decide)) (fun _=>?_) rfl
 refine CA (A3 (UU AI (EY (n:=l.length) rfl ml (AD 0 rfl) rfl) (DS hM))) (fun hp=>?_) (fun hp=>?_) rfl
 ·refine BD rfl rfl xB PySem.F.excBase_ValueError hB (AA (UD (DS hM) (by decide) (by decide +kernel) (by decide +kernel) (by decide +kernel)) AE) (by simp) (hX fun ⟨M,e,gd⟩=>?_)
  unfold fl at e
  injection e with e
  have h1:=gd.len
  have h2:=List.length_pos_iff.mpr gd.ne
  have h3:l.length=M.length:=by rw [e,List.length_map]
  rw [decide_eq_true (show (1:Int)≤(l.length:Int) by lia),decide_eq_true (show (l.length:Int)≤24 by lia)]at hp
  cases hp
 have hlen:1≤l.length/\l.length≤24:=by
  simp only [Bool.not_eq_false',Bool.and_eq_true,decide_eq_true_eq]at hp
  lia
 refine CA (A3 (A6 (JL (bs:=l.map BJ) rfl ma (PX.cast (DH (Nc:=HZ) (caps:=MG) (l:=l) (f:=Fb 0) (fun d=>.bl (BJ d))
  (Ei (psc:=AB Bo) (PN:=KR) (by decide +kernel) rfl rfl) rfl
  (LH (AD 0 rfl) ⟨rfl,rfl⟩)
  (fun C s' H' fp=>CJ 0 (show HZ.Nodup by decide +kernel)) (D4 rfl) (by lia) ?_) (by rw [List.map_map];rfl))))) (fun hp=>?_) (fun hp=>?_) rfl
 ·intro C s' H' fp G2 d hd kn
  exact ⟨_,rfl,Aq FS hr (AA (AD 0 rfl) AE) ⟨d,rfl,hk d hd,rfl,rfl⟩⟩
 ·refine BD rfl rfl xB PySem.F.excBase_ValueError hB (AA (XZ (DS hL) (by decide) (by decide +kernel) (by decide +kernel)) AE) (by simp) (hX fun ⟨M,e,gd⟩=>?_)
  unfold fl at e
  injection e with e
  subst e
  have:((M.map sq).map BJ).all id=true:=by
   rw [List.all_map,List.all_eq_true]
   intro x hx
   obtain ⟨q,hq,rfl⟩:=List.mem_map.mp hx
   exact Qo (gd.inn q hq)
  rw [this]at hp
  cases hp
 have Kv:l.all BJ=true:=by
  have h2:(l.map BJ).all id=true:=by simpa using hp
  rw [List.all_map]at h2
  exact h2
 obtain ⟨M,rfl,box⟩:=Mw Kv
 rw [List.length_map]at hlen
 refine CA (A3 (A6 (Aq FR (hr.mono (by lia)) (AA (AD 0 rfl) AE) ⟨M.map sq,rfl,by rw [List.length_map];lia,Px M,rfl,rfl⟩))) (fun hp=>?_) (fun hp=>?_) rfl
 ·refine BD rfl rfl xB PySem.F.excBase_ValueError hB (AA CN AE) (by simp) (hX fun ⟨K',e,gd⟩=>?_)
  have:=Oh (l:=M) (m:=K') e
  subst this
  rw [(LW M).mpr gd.up]at hp
  cases hp
 ·have lY:M.Pairwise AU:=(LW M).mp (by simpa using hp)
  exact PY (Aj (AD 0 rfl) (hR ⟨M,rfl,⟨by rintro rfl;simp at hlen,lY,box,hlen.2⟩⟩)) rfl
end
end TF
namespace TF
open PySem PySem.Spec L2
open PyProof.Rows hiding St RelV
section
variable {P:Program}{w:World}{K:PySem.W.Frag}{mg:Str->Option Value}{base:Heap}{f:Addr}{fd:FuncData}
theorem Lz (F:Fun K "steps" "steps" Cg f fd):FnOk P w K mg base CX0 1 f fd ["floor","at","taken"] (BO K IK):=by
 refine DN (k:=0) F Eh (fun ds G R h=>?_) (fun A8 A outer s H E ds G R hr h=>?_)
 ·obtain ⟨floor,k,q,taken,rfl,_⟩:=h;rfl
 obtain ⟨floor,k,q,taken,rfl,hq,h1,h2,hR⟩:=h
 have hu:(A.deeper (envOfC "steps" (AB Cg) s.heap.objs.size f A8)).units+9<cLine:=by have:=hr.units;lia
 refine CL 3 Eh.nd (BF (AD 0 rfl) (AD 1 rfl) (LD sq (IM hq))) ?_
 refine Cq (CF (La hu (AD 3 rfl) (AD 2 rfl) (.inl rfl) (Al _ _) (D8 _ _))) (fun hp=>?_) (fun hp=>?_)
 ·rw [C9]at hp
  refine Aj (HB (AA (Ab (AA (Ab AE) (AA (J6 (ol:=some 1) (oh:=none) (AD 2 rfl) AI trivial) AE))) AE)) ?_
  rw [bU,<-List.map_drop]
  have e:A1 floor q taken=[([],taken.drop 1)]:=by unfold A1;rw [if_pos hp]
  rw [e]at hR
  exact hR
 ·rw [C9]at hp
  refine Ac ?_
  refine CL 4 Eh.nd (Ab (AA (BF (AD 3 rfl) AI rfl) (AA (DI (BF (AD 3 rfl) AI rfl) AI) AE))) ?_
  refine CL 5 Eh.nd (Ab (AA (DI (BF (AD 3 rfl) AI rfl) AI) (AA (BF (AD 3 rfl) AI rfl) AE))) ?_
  refine Ew 6 Eh.nd AE (fun p hG=>?_)
  refine Pp (fun G'=>G'=put G p (.lst ((if (floor.contains (q.1,q.2+1)&&!taken.contains (q.1,q.2+1))=true then [([(q,(q.1,q.2+1))],(q.1,q.2+1)::taken)]else []).map L5)))
   (Qc (CF (La hu (AD 4 rfl) (AD 0 rfl) (.inl rfl) (Al (q.1,q.2+1) _) (D8 _ _))) (fun _=>Lv (CF (RW hu (AD 4 rfl) (AD 2 rfl) (.inl rfl) (Al (q.1,q.2+1) _) (D8 _ _))))).t
   (fun Ry=>?_) (fun Ry=>?_) (fun G' kD=>?_)
  ·have Nx:(floor.contains (q.1,q.2+1)&&!taken.contains (q.1,q.2+1))=true:=by
    have e1:=C9 floor (q.1,q.2+1)
    have e2:=C9 taken (q.1,q.2+1)
    rw [<-e1,<-e2];exact Ry
   refine Cc (AD 6 rfl) (Ab (AA (Ab (AA (Ab (AA (AD 3 rfl) (AA (AD 4 rfl) AE))) AE)) (AA (QJ (Ab (AA (AD 4 rfl) AE)) (AD 2 rfl) ?_) AE))) AJ (by decide) (Ac ⟨rfl,?_⟩)
   ·rw [List.length_map];exact sz (by simp;lia)
   ·rw [if_pos Nx,B0];rfl
  ·have Nx:¬(floor.contains (q.1,q.2+1)&&!taken.contains (q.1,q.2+1))=true:=by
    have e1:=C9 floor (q.1,q.2+1)
    have e2:=C9 taken (q.1,q.2+1)
    rw [<-e1,<-e2];exact Bool.eq_false_iff.mp Ry
   refine Ac ⟨rfl,?_⟩
   rw [if_neg Nx];rfl
  subst kD
  refine Pp (fun G'=>G'=put G p (.lst ((A1 floor q taken).map L5)))
   (CF (La hu (AD 5 rfl) (AD 0 rfl) (.inl rfl) (Al (q.1+1,q.2) _) (D8 _ _)))
   (fun Ry=>?_) (fun Ry=>?_) (fun G' kD=>?_)
  ·have Nx:floor.contains (q.1+1,q.2)=true:=by rw [<-C9];exact Ry
   refine Cc (AD 6 rfl) (Ab (AA (Ab (AA (Ab (AA (AD 3 rfl) (AA (AD 5 rfl) AE))) AE)) (AA (QJ (AD 2 rfl) (Ab (AA (AD 5 rfl) AE)) ?_) AE))) AJ ?_ (Ac ⟨rfl,?_⟩)
   ·rw [List.length_map];exact sz (by simp;lia)
   ·split<;>exact sz1 (by simp)
   ·rw [B0]
    unfold A1
    rw [if_neg (Bool.eq_false_iff.mp hp),if_pos Nx,List.map_append]
    refine congrArg (fun z=>put G p (.lst (_++[z]))) ?_
    simp only [L5,fl,AM,List.map_cons,List.map_nil,List.map_append,sq]
  ·have Nx:¬floor.contains (q.1+1,q.2)=true:=by rw [<-C9];exact Bool.eq_false_iff.mp Ry
   refine Ac ⟨rfl,?_⟩
   unfold A1
   rw [if_neg (Bool.eq_false_iff.mp hp),if_neg Nx,List.append_nil]
  subst kD
  refine Md (AD 6 rfl) AJ ?_
  rw [Cz hG]
  exact hR
end
end TF
namespace TF
open PySem PySem.Spec L2
open PyProof.Rows hiding St RelV
section
variable {P:Program}{w:World}{K:PySem.W.Frag}{mg:Str->Option Value}{base:Heap}{f:Addr}{fd:FuncData}
theorem Ma (n:Nat) (F:Fun K "ways" "ways" DJ f fd) (ml:mg "len"=none) (ms:mg "sum"=none) (FS:Df P w K mg base "steps" ["floor","at","taken"] 1 IK)
  (ih:∀m,n=m+1->Df P w K mg base "ways" ["floor","at","taken","known"] (m+2) (IE m)):FnOk P w K mg base CX0 (n+2) f fd ["floor","at","taken","known"] (BO K (IE n)):=by
 refine DN (k:=n+1) F Ph (fun ds G R h=>?_) (fun A8 A outer s H E ds G R hr h=>?_)
 ·obtain ⟨floor,k,taken,kp,Ae,rfl,_⟩:=h;rfl
 obtain ⟨floor,k,taken,kp,Ae,rfl,hk,bX,ht,hG,hV,hC,hz,hR⟩:=h
 have hu:(A.deeper (envOfC "ways" (AB DJ) s.heap.objs.size f A8)).units+9<cLine:=by have:=hr.units;lia
 refine Cq (CF (Cd (AD 1 rfl) (EY rfl ml (AD 0 rfl) rfl))) (fun hp=>?_) (fun hp=>?_)
 ·refine Aj AI ?_
  have ZA:k=floor.length:=by simp at hp;lia
  have:=hR Ae hV hC (fun _ _ h=>h) (fun h=>absurd h (by lia)) (by have:0<2 ^ n:=Nat.pow_pos (by decide);lia)
  rw [JD hG,ZA,List.drop_length]at this
  exact this
 refine Ac ?_
 have Bs:k<floor.length:=by simp at hp;lia
 obtain ⟨m,rfl⟩:∃m,n=m+1:=⟨n-1,by lia⟩
 have W:=ih m rfl
 have hq:floor[k]?=some floor[k]:=List.getElem?_eq_getElem Bs
 have aP:floor.drop k=floor[k]::floor.drop (k+1):=List.drop_eq_getElem_cons Bs
 have pF:0<2 ^ m:=Nat.pow_pos (by decide)
 have nJ:2 ^ (m+1)=2 ^ m+2 ^ m:=by rw [Nat.pow_succ];lia
 obtain ⟨two,grow⟩:=RT floor floor[k] taken
 refine QX (fun ρ' G'=>(∃x,ρ'=[some (fl floor),some (.int k),some (fl taken),some (.fn kp),x])/\∃CY,G'=put G kp (.dct CY)/\Valid floor CY/\Closed floor CY/\(∀k t,Hq Ae k t->Hq CY k t)/\CY.length+1≤Ae.length+2 ^ (m+1)/\Aw CY (CH k taken)=some (.int (Cw floor (floor.drop k) taken:Nat)))
  (CF (Ir hu (Ab (AA (AD 1 rfl) (AA (AD 2 rfl) AE))) (AD 3 rfl) hG (HN k taken) ⟨_,rfl⟩)) (fun Ry=>?_) (fun Ry=>?_) (fun ρ' G' hM=>?_)
 ·refine NT 4 (fun i acc G'=>∃CY,G'=put G kp (.dct CY)/\Valid floor CY/\Closed floor CY/\(∀k t,Hq Ae k t->Hq CY k t)/\(∀p∈(A1 floor floor[k] taken).take i,k+1<floor.length->Hq CY (k+1) p.2)/\CY.length≤Ae.length+i*(2 ^ m-1)/\acc=((A1 floor floor[k] taken).take i).map fun t=>.int (Cw floor (floor.drop (k+1)) t.2:Nat)) Ph.nd (M7 _ _ _ _ _)
   (Nc:=["stones","rest","at","floor","known"]) (caps:=[none,none,some 1,some 0,some 3]) (l:=(A1 floor floor[k] taken).map L5) (f:=Hg 0 1)
   (Ei (psc:=AB DJ) (PN:=["floor","at","taken","known","further"]) (by decide +kernel) rfl rfl) rfl
   (JK (Aq FS (hr.mono (by lia)) (AA (AD 0 rfl) (AA (AD 1 rfl) (AA (AD 2 rfl) AE))) ⟨floor,k,floor[k],taken,rfl,hq,by lia,by lia,_,rfl,rfl,Ae,(JD hG).symm,hV,hC,fun _ _ h=>h,(by intro p hp;cases hp),by simp,by simp⟩))
   (fun C s' H' fp=>GP 0 1 rfl (show (["stones","rest","at","floor","known"]:List Str).Nodup by decide +kernel)) (Mu rfl rfl) (by rw [List.length_map];exact sz (by lia)) ?_ ?_
  ·rintro C s' H' fp Dd i d acc G' hd ⟨V3,rfl,gY,lN,JE,kr,nU,rfl⟩ hD
   rw [List.getElem?_map]at hd
   obtain ⟨t,dJ,rfl⟩:=Option.map_eq_some_iff.mp hd
   have tP:i<(A1 floor floor[k] taken).length:=(List.getElem?_eq_some_iff.mp dJ).1
   have Yh:t∈A1 floor floor[k] taken:=List.mem_of_getElem? dJ
   have D7:kp≠Dd:=by rintro rfl;rw [AJ]at hD;cases hD
   have nW:i*(2 ^ m-1)≤2 ^ m-1:=by
    have:i=0\/i=1:=by lia
    rcases this with rfl|rfl<;>lia
   refine ⟨_,rfl,IZ rfl AJ ?_ (Aq W (hr.mono (by lia)) (AA (AD 3 rfl) (AA (DI (AD 2 rfl) AI) (AA (AD 1 rfl) (AA (AD 4 rfl) AE))))
    ⟨floor,k+1,t.2,kp,V3,rfl,by lia,bX,by have:=grow t Yh;lia,by rw [Az D7,AJ],gY,lN,by lia,fun av rZ dD EO tv SH=>?_⟩)⟩
   ·rw [List.length_map,List.length_take];exact sz1 (by lia)
   ·rw [UQ (Ne.symm D7),B0]
    refine ⟨AJ,_,put G kp (.dct av),?_,?_,B0,av,rfl,rZ,dD,fun a b h=>EO a b (JE a b h),?_,?_,?_⟩
    ·simp
    ·rw [Az (Ne.symm D7)];rw [Az (Ne.symm D7)]at hD;exact hD
    ·intro p hp Zg
     rw [List.take_add_one,dJ]at hp
     rcases List.mem_append.mp hp with hp|hp
     ·exact EO _ _ (kr p hp Zg)
     ·have e1:p=t:=by simpa using hp
      subst e1
      exact tv Zg
    ·have:(i+1)*(2 ^ m-1)=i*(2 ^ m-1)+(2 ^ m-1):=by rw [Nat.add_mul];lia
     lia
    ·rw [List.take_add_one,dJ]
     simp
  ·rintro acc G' ⟨V3,rfl,gY,lN,JE,kr,nU,rfl⟩
   rw [List.length_map,List.take_length]at *
   have es:((A1 floor floor[k] taken).map fun t=>Dat.int (Cw floor (floor.drop (k+1)) t.2:Nat))=((A1 floor floor[k] taken).map fun t=>((Cw floor (floor.drop (k+1)) t.2:Nat):Int)).map Dat.int:=by rw [List.map_map];rfl
   rw [es]
   have VU:(((A1 floor floor[k] taken).map fun t=>((Cw floor (floor.drop (k+1)) t.2:Nat):Int)).sum)=((Cw floor (floor.drop k) taken:Nat):Int):=by
    rw [aP,Cw]
    generalize A1 floor floor[k] taken=l
    induction l with
    |nil=>rfl
    |cons t r gZ=>simp only [List.map_cons,List.sum_cons,gZ];lia
   have SH:V3.length≤Ae.length+2*(2 ^ m-1):=Nat.le_trans nU (Nat.add_le_add_left (Nat.mul_le_mul_right _ two) _)
   refine MU (k:=CH k taken) hu (YA rfl ms (AD 4 rfl)) (AD 3 rfl) (Ab (AA (AD 1 rfl) (AA (AD 2 rfl) AE))) AJ (HN k taken) ⟨_,rfl⟩ (by rw [show sizeLine=2 ^ 24 from rfl];lia) (Ac ⟨⟨_,rfl⟩,?_⟩)
   rw [VU,B0]
   exact ⟨_,rfl,gY.put k taken,lN.put hq kr,fun a b h=>LL.mpr (.inl (JE a b h)),by have:=En V3 (CH k taken) (.int (Cw floor (floor.drop k) taken:Nat));lia,Oo _ _ _⟩
 ·refine Ac ⟨⟨_,rfl⟩,Ae,(JD hG).symm,hV,hC,fun _ _ h=>h,by lia,?_⟩
  have hs:(Aw Ae (CH k taken)).isSome=true:=by
   cases q:(Aw Ae (CH k taken)).isSome with
   |true=>rfl
   |false=>
    have Jg:(!(Aw Ae (CH k taken)).isSome)=false:=Ry
    rw [q]at Jg
    cases Jg
  obtain ⟨d,hd⟩:=Option.isSome_iff_exists.mp hs
  rw [hd,hV.look hd]
 ·obtain ⟨⟨x,rfl⟩,CY,rfl,rS,tR,qG,SK,look⟩:=hM
  exact Aj (Ut (k:=CH k taken) hu (AD 3 rfl) (Ab (AA (AD 1 rfl) (AA (AD 2 rfl) AE))) AJ (HN k taken) ⟨_,rfl⟩ look) (hR CY rS tR qG (fun _=>by unfold Hq;rw [look];rfl) SK)
end
end TF
namespace TF
open PySem PySem.Spec L2
open PyProof.Rows hiding St RelV
section
variable {P:Program}{w:World}{K:PySem.W.Frag}{mg:Str->Option Value}{base:Heap}{f:Addr}{fd:FuncData}
theorem GK (F:Fun K "stones_in" "stones_in" BM f fd) (me:mg "enumerate"=none) (mt:mg "tuple"=none):FnOk P w K mg base CX0 1 f fd CD (BO K Gj):=by
 refine DN (k:=0) F C1 (fun ds G R h=>?_) (fun A8 A outer s H E ds G R hr h=>?_)
 ·obtain ⟨x,rfl,_⟩:=h;rfl
 obtain ⟨x,rfl,hx,hR⟩:=h
 obtain ⟨ps,Z9⟩:∃ps,ps=Txt.split x (chr 10):=⟨_,rfl⟩
 have VU:=J5 x
 rw [<-Z9]at VU hR
 obtain ⟨ls,lg⟩:∃ls,ls=ps.map fun p=>p.cps.toList:=⟨_,rfl⟩
 rw [<-lg]at VU hR
 refine Ew 1 C1.nd AE (fun p hp=>?_)
 refine Gg (l:=Ec (ps.map .str)) (f:=Hg 2 3) (fun i ρ' G'=>(∃x2 x3 x4 x5,ρ'=[some (.str x),some (.fn p),x2,x3,x4,x5])/\G'=put G p (.lst ((BL (ls.take i)).map AM))) PassesOwn.never rfl
  (Tj me (PX.cast (T2 (y:=chr 10) (AD 0 rfl) (PX.cast CN rfl) rfl (sz (by lia)) ?_) (by rw [Z9])) ⟨rfl,⟨none,none,none,none,rfl⟩,by simp [BL]⟩) (GP 2 3 rfl C1.nd) ?_ ?_
 ·rw [length_partsBetween]
  have:=StrLaws.occ_length_le x (chr 10) 0 x.length (x.length+1)
  exact sz (by lia)
 ·rintro i dd ρ' G' hd ⟨⟨x2,x3,x4,x5,rfl⟩,rfl⟩
  obtain ⟨e,he,rfl⟩:=HK hd
  rw [List.getElem?_map]at he
  obtain ⟨c,hc,rfl⟩:=Option.map_eq_some_iff.mp he
  have lu:ls[i]?=some c.cps.toList:=by rw [lg,List.getElem?_map,hc];rfl
  have oK:i<ls.length:=(List.getElem?_eq_some_iff.mp lu).1
  have et:BL (ls.take (i+1))=BL (ls.take i)++L7 i c.cps.toList:=by
   rw [List.take_add_one,lu,Option.toList_some,JC,List.length_take,Nat.min_eq_left (Nat.le_of_lt oK)]
  have Xp:=IY (ls.take i)
  have vg:=Tw lu
  refine ⟨_,rfl,?_⟩
  refine Gg (l:=Ec (T1 c)) (f:=Hg 4 5) (fun j ρ' G'=>(∃x4 x5,ρ'=[some (.str x),some (.fn p),some (.int (i:Nat)),some (.str c),x4,x5])/\G'=put G p (.lst ((BL (ls.take i)++FY i c.cps.toList j).map AM))) PassesOwn.never rfl
   (Ti me (AD 3 rfl) ⟨rfl,⟨_,_,rfl⟩,by simp [FY]⟩) (GP 4 5 rfl C1.nd) ?_ ?_
  ·rintro j dd ρ' G' hd ⟨⟨x4,x5,rfl⟩,rfl⟩
   obtain ⟨e,he,rfl⟩:=HK hd
   unfold T1 at he
   rw [List.getElem?_map]at he
   obtain ⟨d,Wz,rfl⟩:=Option.map_eq_some_iff.mp he
   have hj:j<c.cps.toList.length:=(List.getElem?_eq_some_iff.mp Wz).1
   have vz:=Kf i c.cps.toList j
   have hsz:((BL (ls.take i)++FY i c.cps.toList j).map AM).length≤1000:=by
    rw [List.length_map,List.length_append]
    lia
   refine ⟨_,rfl,?_⟩
   rw [Ik,Wz]
   refine Cq (CF (QV (x:=chr d) (y:=chr 60) (AD 5 rfl) (PX.cast CN rfl))) (fun hp=>?_) (fun hp=>?_)
   ·rw [K9,decide_eq_true_eq]at hp
    subst hp
    refine Cc (d:=AM (((i:Int),(j:Int)),((i:Int),(j:Int)+1))) (AD 1 rfl) (Ab (AA (Ab (AA (AD 2 rfl) (AA (AD 4 rfl) AE))) (AA (Ab (AA (AD 2 rfl) (AA (DI (AD 4 rfl) AI) AE))) AE))) AJ (sz1 (by lia)) (Ac (Ac ⟨⟨_,_,rfl⟩,?_⟩))
    rw [B0]
    simp [DU]
   ·rw [K9,decide_eq_false_iff_not]at hp
    refine Cq (CF (QV (x:=chr d) (y:=chr 94) (AD 5 rfl) (PX.cast CN rfl))) (fun Jg=>?_) (fun Jg=>?_)
    ·rw [K9,decide_eq_true_eq]at Jg
     subst Jg
     refine Cc (d:=AM (((i:Int),(j:Int)),((i:Int)+1,(j:Int)))) (AD 1 rfl) (Ab (AA (Ab (AA (AD 2 rfl) (AA (AD 4 rfl) AE))) (AA (Ab (AA (DI (AD 2 rfl) AI) (AA (AD 4 rfl) AE))) AE))) AJ (sz1 (by lia)) (Ac (Ac (Ac ⟨⟨_,_,rfl⟩,?_⟩)))
     rw [B0]
     simp [DU]
    ·rw [K9,decide_eq_false_iff_not]at Jg
     refine Ac (Ac (Ac ⟨⟨_,_,rfl⟩,?_⟩))
     simp [DU,hp,Jg]
  ·rintro ρ' G' ⟨⟨x4,x5,rfl⟩,rfl⟩
   refine Ac ⟨⟨_,_,_,_,rfl⟩,?_⟩
   rw [et,G0]
   unfold T1 L7 FY
   simp
 ·rintro ρ' G' ⟨⟨x2,x3,x4,x5,rfl⟩,rfl⟩
  refine E2 (Le (PX.we (RZ AJ rfl mt (by decide +kernel) (AD 1 rfl)) ⟨p,?_⟩))
  rw [Cz hp,G0,List.length_map,show ps.length=ls.length by rw [lg,List.length_map],List.take_length]
  exact hR
end
end TF
namespace TF
open PySem PySem.Spec L2
open PyProof.Rows hiding St RelV
section
variable {P:Program}{w:World}{K:PySem.W.Frag}{mg:Str->Option Value}{base:Heap}{f:Addr}{fd:FuncData}
theorem Hm (F:Fun K "_law_cell" "_law_cell" Bg f fd) (ml:mg "len"=none):FnOk P w K mg base CX0 1 f fd CU (BO K K3):=by
 refine DN (k:=0) F Mh (fun ds G R h=>?_) (fun A8 A outer s H E ds G R hr h=>?_)
 ·obtain ⟨ns,k,rfl,_⟩:=h;rfl
 obtain ⟨ns,k,rfl,hR⟩:=h
 refine Cq (CF (Yq (AD 1 rfl) (EY rfl ml (AD 0 rfl) rfl))) (fun hp=>?_) (fun hp=>?_)
 ·have Bs:k<ns.length:=by have:=of_decide_eq_true hp;lia
  refine Aj (Ym (AD 0 rfl) (AD 1 rfl) (IM (List.getElem?_eq_getElem Bs))) ?_
  have:Ii ns k=ns[k]:=by unfold Ii;rw [List.getD_eq_getElem?_getD,List.getElem?_eq_getElem Bs];rfl
  rw [<-this];exact hR
 ·refine Ac (Aj AI ?_)
  have Jm:ns.length≤k:=by have:=of_decide_eq_false hp;lia
  have:Ii ns k=0:=by unfold Ii;rw [List.getD_eq_getElem?_getD,List.getElem?_eq_none Jm];rfl
  rw [this]at hR;exact hR
end
theorem BI {α:Type} {us:List α} (h:us.length=1):∃a,us=[a]:=by
 cases us with
 |nil=>simp at h
 |cons a us=>
 cases us with
 |nil=>exact ⟨a,rfl⟩
 |cons z us=>simp at h;try lia
theorem EI {α:Type} {us:List α} (h:us.length=2):∃a b,us=[a,b]:=by
 cases us with
 |nil=>simp at h
 |cons a us=>
 cases us with
 |nil=>simp at h
 |cons b us=>
 cases us with
 |nil=>exact ⟨a,b,rfl⟩
 |cons z us=>simp at h;try lia
theorem Pn {α:Type} {us:List α} (h:us.length=3):∃a b c,us=[a,b,c]:=by
 cases us with
 |nil=>simp at h
 |cons a us=>
 cases us with
 |nil=>simp at h
 |cons b us=>
 cases us with
 |nil=>simp at h
 |cons c us=>
 cases us with
 |nil=>exact ⟨a,b,c,rfl⟩
 |cons z us=>simp at h;try lia
theorem Vg {α:Type} {us:List α} (h:us.length=4):∃a b c d,us=[a,b,c,d]:=by
 cases us with
 |nil=>simp at h
 |cons a us=>
 cases us with
 |nil=>simp at h
 |cons b us=>
 cases us with
 |nil=>simp at h
 |cons c us=>
 cases us with
 |nil=>simp at h
 |cons d us=>
 cases us with
 |nil=>exact ⟨a,b,c,d,rfl⟩
 |cons z us=>simp at h;try lia
theorem all_mk {l:PySem.W.OpenLaw} {w:World} {K:PySem.W.Frag} {h:Heap} {mg:Str->Option Value} {fa:Addr} (X:K.In h) (G:h.Ns mainGlobals mg) (q8:mg "law"=some (.ref fa))
  {f0:Addr} {sv qX:Option Addr} {dF:Array (Option Value)} {rU tS rX qe bJ tJ:Value} (a0:PySem.W.nsIn K mainGlobals "neighbours"=some (some (.ref f0))) (l0:K.lookup f0=some ⟨rU,sv,.func (PySem.W.fnOf "neighbours" "neighbours" (AH A9) (AG A9) (AB A9) .none tS rX qe qX bJ tJ),dF⟩) (c0:PySem.W.codeIn K bJ "neighbours"=true) (k0:PySem.W.keepIn K (.ref f0)=true)
  {f1:Addr} {tZ vJ:Option Addr} {qN:Array (Option Value)} {rK sF sm vF oa qQ:Value} (a1:PySem.W.nsIn K mainGlobals "reached"=some (some (.ref f1))) (l1:K.lookup f1=some ⟨rK,tZ,.func (PySem.W.fnOf "reached" "reached" (AH Bp) (AG Bp) (AB Bp) .none sF sm vF vJ oa qQ),qN⟩) (c1:PySem.W.codeIn K oa "reached"=true) (k1:PySem.W.keepIn K (.ref f1)=true)
  {f2:Addr} {uS u6:Option Addr} {KW:Array (Option Value)} {uk ro sS tu mV ph:Value} (a2:PySem.W.nsIn K mainGlobals "hangs_together"=some (some (.ref f2))) (l2:K.lookup f2=some ⟨uk,uS,.func (PySem.W.fnOf "hangs_together" "hangs_together" (AH Ai) (AG Ai) (AB Ai) .none ro sS tu u6 mV ph),KW⟩) (c2:PySem.W.codeIn K mV "hangs_together"=true) (k2:PySem.W.keepIn K (.ref f2)=true)
  {f3:Addr} {uh vR:Option Addr} {pj:Array (Option Value)} {vA sV qo qp nP r8:Value} (a3:PySem.W.nsIn K mainGlobals "is_plain"=some (some (.ref f3))) (l3:K.lookup f3=some ⟨vA,uh,.func (PySem.W.fnOf "is_plain" "is_plain" (AH Be) (AG Be) (AB Be) .none sV qo qp vR nP r8),pj⟩) (c3:PySem.W.codeIn K nP "is_plain"=true) (k3:PySem.W.keepIn K (.ref f3)=true)
  {f4:Addr} {ql qx:Option Addr} {qy:Array (Option Value)} {uM sL sI vK nO sW:Value} (a4:PySem.W.nsIn K mainGlobals "is_number"=some (some (.ref f4))) (l4:K.lookup f4=some ⟨uM,ql,.func (PySem.W.fnOf "is_number" "is_number" (AH BR) (AG BR) (AB BR) .none sL sI vK qx nO sW),qy⟩) (c4:PySem.W.codeIn K nO "is_number"=true) (k4:PySem.W.keepIn K (.ref f4)=true)
  {f5:Addr} {ux tG:Option Addr} {u9:Array (Option Value)} {vC sr tV tX nv qf:Value} (a5:PySem.W.nsIn K mainGlobals "is_pair"=some (some (.ref f5))) (l5:K.lookup f5=some ⟨vC,ux,.func (PySem.W.fnOf "is_pair" "is_pair" (AH Bz) (AG Bz) (AB Bz) .none sr tV tX tG nv qf),u9⟩) (c5:PySem.W.codeIn K nv "is_pair"=true) (k5:PySem.W.keepIn K (.ref f5)=true)
  {f6:Addr} {rC qO:Option Addr} {qM:Array (Option Value)} {t5 uT pU sR n9 qF:Value} (a6:PySem.W.nsIn K mainGlobals "is_place"=some (some (.ref f6))) (l6:K.lookup f6=some ⟨t5,rC,.func (PySem.W.fnOf "is_place" "is_place" (AH Bi) (AG Bi) (AB Bi) .none uT pU sR qO n9 qF),qM⟩) (c6:PySem.W.codeIn K n9 "is_place"=true) (k6:PySem.W.keepIn K (.ref f6)=true)
  {f7:Addr} {pP vU:Option Addr} {qH:Array (Option Value)} {qa sY uN tw mX qE:Value} (a7:PySem.W.nsIn K mainGlobals "is_square"=some (some (.ref f7))) (l7:K.lookup f7=some ⟨qa,pP,.func (PySem.W.fnOf "is_square" "is_square" (AH BU) (AG BU) (AB BU) .none sY uN tw vU mX qE),qH⟩) (c7:PySem.W.codeIn K mX "is_square"=true) (k7:PySem.W.keepIn K (.ref f7)=true)
  {f8:Addr} {qW pT:Option Addr} {sX:Array (Option Value)} {so qU t6 r9 n0 pR:Value} (a8:PySem.W.nsIn K mainGlobals "is_rising"=some (some (.ref f8))) (l8:K.lookup f8=some ⟨so,qW,.func (PySem.W.fnOf "is_rising" "is_rising" (AH A5) (AG A5) (AB A5) .none qU t6 r9 pT n0 pR),sX⟩) (c8:PySem.W.codeIn K n0 "is_rising"=true) (k8:PySem.W.keepIn K (.ref f8)=true)
  {f9:Addr} {tm uv:Option Addr} {tK:Array (Option Value)} {tH rT vN rD mW tD:Value} (a9:PySem.W.nsIn K mainGlobals "is_stone"=some (some (.ref f9))) (l9:K.lookup f9=some ⟨tH,tm,.func (PySem.W.fnOf "is_stone" "is_stone" (AH BE) (AG BE) (AB BE) .none rT vN rD uv mW tD),tK⟩) (c9:PySem.W.codeIn K mW "is_stone"=true) (k9:PySem.W.keepIn K (.ref f9)=true)
  {bh:Addr} {mJ lJ:Option Addr} {gD:Array (Option Value)} {el eV fW kA aE iF:Value} (tQ:PySem.W.nsIn K mainGlobals "covered"=some (some (.ref bh))) (uc:K.lookup bh=some ⟨el,mJ,.func (PySem.W.fnOf "covered" "covered" (AH Bq) (AG Bq) (AB Bq) .none eV fW kA lJ aE iF),gD⟩) (qk:PySem.W.codeIn K aE "covered"=true) (ip:PySem.W.keepIn K (.ref bh)=true)
  {dC:Addr} {iM iT:Option Addr} {fA:Array (Option Value)} {iY jY gJ eW Zy ja:Value} (uZ:PySem.W.nsIn K mainGlobals "checked"=some (some (.ref dC))) (uL:K.lookup dC=some ⟨iY,iM,.func (PySem.W.fnOf "checked" "checked" (AH Bo) (AG Bo) (AB Bo) .none jY gJ eW iT Zy ja),fA⟩) (vG:PySem.W.codeIn K Zy "checked"=true) (oB:PySem.W.keepIn K (.ref dC)=true)
  {dP:Addr} {iD fh:Option Addr} {iZ:Array (Option Value)} {mG mL fu fD cP kB:Value} (pz:PySem.W.nsIn K mainGlobals "checked_laying"=some (some (.ref dP))) (rk:K.lookup dP=some ⟨mG,iD,.func (PySem.W.fnOf "checked_laying" "checked_laying" (AH AY) (AG AY) (AB AY) .none mL fu fD fh cP kB),iZ⟩) (p8:PySem.W.codeIn K cP "checked_laying"=true) (nL:PySem.W.keepIn K (.ref dP)=true)
  {aS:Addr} {lV i8:Option Addr} {lF:Array (Option Value)} {ju kO jx kH aq gc:Value} (rR:PySem.W.nsIn K mainGlobals "steps"=some (some (.ref aS))) (qA:K.lookup aS=some ⟨ju,lV,.func (PySem.W.fnOf "steps" "steps" (AH Cg) (AG Cg) (AB Cg) .none kO jx kH i8 aq gc),lF⟩) (vL:PySem.W.codeIn K aq "steps"=true) (ke:PySem.W.keepIn K (.ref aS)=true)
  {bo:Addr} {fo ft:Option Addr} {i9:Array (Option Value)} {gI gk eS gw ZU kC:Value} (vB:PySem.W.nsIn K mainGlobals "ways"=some (some (.ref bo))) (pK:K.lookup bo=some ⟨gI,fo,.func (PySem.W.fnOf "ways" "ways" (AH DJ) (AG DJ) (AB DJ) .none gk eS gw ft ZU kC),i9⟩) (qj:PySem.W.codeIn K ZU "ways"=true) (mK:PySem.W.keepIn K (.ref bo)=true)
  {cg:Addr} {jL dj:Option Addr} {dn:Array (Option Value)} {gq iQ fN jU cB kF:Value} (pH:PySem.W.nsIn K mainGlobals "all_layings"=some (some (.ref cg))) (vT:K.lookup cg=some ⟨gq,jL,.func (PySem.W.fnOf "all_layings" "all_layings" (AH A2) (AG A2) (AB A2) .none iQ fN jU dj cB kF),dn⟩) (t7:PySem.W.codeIn K cB "all_layings"=true) (oR:PySem.W.keepIn K (.ref cg)=true)
  {aZ:Addr} {kf fF:Option Addr} {gX:Array (Option Value)} {iV jE lB ie ba kh:Value} (sD:PySem.W.nsIn K mainGlobals "ring_at"=some (some (.ref aZ))) (vX:K.lookup aZ=some ⟨iV,kf,.func (PySem.W.fnOf "ring_at" "ring_at" (AH By) (AG By) (AB By) .none jE lB ie fF ba kh),gX⟩) (vM:PySem.W.codeIn K ba "ring_at"=true) (eH:PySem.W.keepIn K (.ref aZ)=true)
  {aa:Addr} {kc jI:Option Addr} {kE:Array (Option Value)} {eX fT iE gO bu gA:Value} (qT:PySem.W.nsIn K mainGlobals "stones_along"=some (some (.ref aa))) (pL:K.lookup aa=some ⟨eX,kc,.func (PySem.W.fnOf "stones_along" "stones_along" (AH Am) (AG Am) (AB Am) .none fT iE gO jI bu gA),kE⟩) (tq:PySem.W.codeIn K bu "stones_along"=true) (fq:PySem.W.keepIn K (.ref aa)=true)
  {bH:Addr} {fY mP:Option Addr} {eJ:Array (Option Value)} {gR lS jA gV Zz mF:Value} (pG:PySem.W.nsIn K mainGlobals "has_all"=some (some (.ref bH))) (vD:K.lookup bH=some ⟨gR,fY,.func (PySem.W.fnOf "has_all" "has_all" (AH BW) (AG BW) (AB BW) .none lS jA gV mP Zz mF),eJ⟩) (si:PySem.W.codeIn K Zz "has_all"=true) (kZ:PySem.W.keepIn K (.ref bH)=true)
  {cY:Addr} {fz lI:Option Addr} {fE:Array (Option Value)} {jR kl jj mH bY iG:Value} (rV:PySem.W.nsIn K mainGlobals "is_turn"=some (some (.ref cY))) (qZ:K.lookup cY=some ⟨jR,fz,.func (PySem.W.fnOf "is_turn" "is_turn" (AH B4) (AG B4) (AB B4) .none kl jj mH lI bY iG),fE⟩) (uz:PySem.W.codeIn K bY "is_turn"=true) (lU:PySem.W.keepIn K (.ref cY)=true)
  {cu:Addr} {ky ij:Option Addr} {gN:Array (Option Value)} {eM fB kU eZ bD fR:Value} (vP:PySem.W.nsIn K mainGlobals "turned"=some (some (.ref cu))) (pN:K.lookup cu=some ⟨eM,ky,.func (PySem.W.fnOf "turned" "turned" (AH CK) (AG CK) (AB CK) .none fB kU eZ ij bD fR),gN⟩) (pE:PySem.W.codeIn K bD "turned"=true) (oM:PySem.W.keepIn K (.ref cu)=true)
  {aB:Addr} {lr kQ:Option Addr} {mE:Array (Option Value)} {eh kM dm eI bW hZ:Value} (pM:PySem.W.nsIn K mainGlobals "stones_in"=some (some (.ref aB))) (t9:K.lookup aB=some ⟨eh,lr,.func (PySem.W.fnOf "stones_in" "stones_in" (AH BM) (AG BM) (AB BM) .none kM dm eI kQ bW hZ),mE⟩) (qL:PySem.W.codeIn K bW "stones_in"=true) (ir:PySem.W.keepIn K (.ref aB)=true)
  {dI:Addr} {gB eR:Option Addr} {iX:Array (Option Value)} {lO km gs iL cF mO:Value} (rF:PySem.W.nsIn K mainGlobals "read"=some (some (.ref dI))) (rE:K.lookup dI=some ⟨lO,gB,.func (PySem.W.fnOf "read" "read" (AH EK) (AG EK) (AB EK) .none km gs iL eR cF mO),iX⟩) (rL:PySem.W.codeIn K cF "read"=true) (mh:PySem.W.keepIn K (.ref dI)=true)
  {aR:Addr} {iH eQ:Option Addr} {dh:Array (Option Value)} {lG dw ed kz aA hJ:Value} (uw:PySem.W.nsIn K mainGlobals "holds_squares"=some (some (.ref aR))) (sM:K.lookup aR=some ⟨lG,iH,.func (PySem.W.fnOf "holds_squares" "holds_squares" (AH Ah) (AG Ah) (AB Ah) .none dw ed kz eQ aA hJ),dh⟩) (qg:PySem.W.codeIn K aA "holds_squares"=true) (kJ:PySem.W.keepIn K (.ref aR)=true)
  {cy:Addr} {gu gh:Option Addr} {gn:Array (Option Value)} {iR ku lj iw bF gP:Value} (u5:PySem.W.nsIn K mainGlobals "heights"=some (some (.ref cy))) (uX:K.lookup cy=some ⟨iR,gu,.func (PySem.W.fnOf "heights" "heights" (AH B3) (AG B3) (AB B3) .none ku lj iw gh bF gP),gn⟩) (qv:PySem.W.codeIn K bF "heights"=true) (oF:PySem.W.keepIn K (.ref cy)=true)
  {af:Addr} {iK kq:Option Addr} {lK:Array (Option Value)} {gx jZ lz eP aX eL:Value} (ub:PySem.W.nsIn K mainGlobals "_law_cell"=some (some (.ref af))) (rG:K.lookup af=some ⟨gx,iK,.func (PySem.W.fnOf "_law_cell" "_law_cell" (AH Bg) (AG Bg) (AB Bg) .none jZ lz eP kq aX eL),lK⟩) (qr:PySem.W.codeIn K aX "_law_cell"=true) (lQ:PySem.W.keepIn K (.ref af)=true)
  {cz:Addr} {fV mD:Option Addr} {kS:Array (Option Value)} {il ki jH fi ax fQ:Value} (sG:PySem.W.nsIn K mainGlobals "_law_deed"=some (some (.ref cz))) (vI:K.lookup cz=some ⟨il,fV,.func (PySem.W.fnOf "_law_deed" "_law_deed" (AH BV) (AG BV) (AB BV) .none ki jH fi mD ax fQ),kS⟩) (qC:PySem.W.codeIn K ax "_law_deed"=true) (oU:PySem.W.keepIn K (.ref cz)=true)
  {ZZ:Addr} {dt fK:Option Addr} {j9:Array (Option Value)} {kN jl ll jS Z4 kR:Value} (uj:PySem.W.nsIn K mainGlobals "_law_kinds_of"=some (some (.ref ZZ))) (pO:K.lookup ZZ=some ⟨kN,dt,.func (PySem.W.fnOf "_law_kinds_of" "_law_kinds_of" (AH Ag) (AG Ag) (AB Ag) .none jl ll jS fK Z4 kR),j9⟩) (u3:PySem.W.codeIn K Z4 "_law_kinds_of"=true) (iB:PySem.W.keepIn K (.ref ZZ)=true)
  {jG:Addr} {eF ay:Option Addr} {fX:Array (Option Value)} {fJ bI aW Zc YM Zx:Value} (nh:PySem.W.nsIn K mainGlobals "law"=some (some (.ref jG))) (rW:K.lookup jG=some ⟨fJ,eF,.func (PySem.W.fnOf "law" "law" (AH DV) (AG DV) (AB DV) .none bI aW Zc ay YM Zx),fX⟩) (qV:PySem.W.codeIn K YM "law"=true) (pV:PySem.W.keepIn K (.ref jG)=true)
  (Z2:PySem.W.nsIn K mainGlobals "len"=some none) (Vm:PySem.W.nsIn K mainGlobals "range"=some none) (bA:PySem.W.nsIn K mainGlobals "min"=some none) (cG:PySem.W.nsIn K mainGlobals "max"=some none) (WU:PySem.W.nsIn K mainGlobals "tuple"=some none) (Zq:PySem.W.nsIn K mainGlobals "sum"=some none) (Sj:PySem.W.nsIn K mainGlobals "sorted"=some none) (Ki:PySem.W.nsIn K mainGlobals "isinstance"=some none) (Xn:PySem.W.nsIn K mainGlobals "list"=some none) (L4:PySem.W.nsIn K mainGlobals "enumerate"=some none) (aJ:PySem.W.nsIn K mainGlobals "int"=some none) (X6:PySem.W.nsIn K mainGlobals "bool"=some none) (Zw:PySem.W.nsIn K mainGlobals "all"=some none) (ZW:PySem.W.nsIn K mainGlobals "zip"=some none) (ak:PySem.W.nsIn K mainGlobals "str"=some none) {L6:Tok} (L3:PySem.W.nsIn K mainGlobals "LAST_LINE"=some (some (.int 7 L6))) {IX:Tok} (JQ:PySem.W.nsIn K mainGlobals "MOST_SQUARES"=some (some (.int 24 IX))) {Km:Tok} (K8:PySem.W.nsIn K mainGlobals "MOST_SIGNS"=some (some (.int 72 Km))) {NA:Tok} (M9:PySem.W.nsIn K mainGlobals "MOST_TOLD"=some (some (.int 200 NA))) {AN:Addr} (OL:PySem.W.nsIn K mainGlobals "BadFloor"=some (some (.ref AN))) (Jd:PySem.W.excIn K AN [.type "ValueError",.type "Exception",.type "BaseException",.type "object"] "ValueError.__new__"=true) {AO:Addr} (M1:PySem.W.nsIn K mainGlobals "BadLaying"=some (some (.ref AO))) (NQ:PySem.W.excIn K AO [.type "ValueError",.type "Exception",.type "BaseException",.type "object"] "ValueError.__new__"=true) {AZ:Addr} (RB:PySem.W.nsIn K mainGlobals "TooMany"=some (some (.ref AZ))) (Rr:PySem.W.excIn K AZ [.type "ValueError",.type "Exception",.type "BaseException",.type "object"] "ValueError.__new__"=true) {Ak:Addr} (R7:PySem.W.nsIn K mainGlobals "NoTurn"=some (some (.ref Ak))) (Te:PySem.W.excIn K Ak [.type "ValueError",.type "Exception",.type "BaseException",.type "object"] "ValueError.__new__"=true) {AV:Addr} (O4:PySem.W.nsIn K mainGlobals "NotPlain"=some (some (.ref AV))) (OX:PySem.W.excIn K AV [.type "ValueError",.type "Exception",.type "BaseException",.type "object"] "ValueError.__new__"=true) {Aa:Addr} (Rv:PySem.W.nsIn K mainGlobals "BadText"=some (some (.ref Aa))) (RU:PySem.W.excIn K Aa [.type "ValueError",.type "Exception",.type "BaseException",.type "object"] "ValueError.__new__"=true) {BA:Addr} (K4:PySem.W.nsIn K mainGlobals "FloorError"=some (some (.ref BA))) (GD:PySem.W.excIn K BA [.type "ValueError",.type "Exception",.type "BaseException",.type "object"] "ValueError.__new__"=true) (FJ:BG K AN AN=true) (Lp:BG K AN BA=true) (Kx:BG K AO BA=true) (L1:BG K AZ BA=true) (Nk:BG K Ak BA=true) (Lr:BG K AV BA=true) (NG:BG K Aa BA=true) (MV:AR K AN AO=true) (PC:AR K AN AZ=true) (QL:AR K AN Ak=true) (Nd:AR K AN AV=true) (ON:AR K AN Aa=true) (MD:AR K AO AN=true) (Nb:AR K AO AZ=true) (Oi:AR K AO Ak=true) (Mo:AR K AO AV=true) (Nf:AR K AO Aa=true) (OA:AR K AZ AN=true) (NW:AR K AZ AO=true) (Q7:AR K AZ Ak=true) (OO:AR K AZ AV=true) (P8:AR K AZ Aa=true) (Pw:AR K Ak AN=true) (OE:AR K Ak AO=true) (Rm:AR K Ak AZ=true) (PJ:AR K Ak AV=true) (Rb:AR K Ak Aa=true) (Na:AR K AV AN=true) (Mi:AR K AV AO=true) (PD:AR K AV AZ=true) (QG:AR K AV Ak=true) (Nn:AR K AV Aa=true) (N5:AR K Aa AN=true) (Nh:AR K Aa AO=true) (Pf:AR K Aa AZ=true) (Ro:AR K Aa Ak=true) (OP:AR K Aa AV=true) :
  ∃fd:FuncData,(∀(s:Shared) (v:Value),BindsTo s fd ⟨[v],[]⟩ [("_law_script",v)])/\∀base:Heap,K.In base->base.Ns mainGlobals mg->FnOk l.prog w K mg base CX0 30 fa fd ["_law_script"] (BO K Kw):=by
 have e:=q8.symm.trans (PySem.W.mg_of X G nh)
 cases e
 have Cv:=PySem.W.mg_none_of X G Z2
 have IJ:=PySem.W.mg_none_of X G Vm
 have XD:=PySem.W.mg_none_of X G bA
 have WZ:=PySem.W.mg_none_of X G cG
 have Ce:=PySem.W.mg_none_of X G WU
 have Wc:=PySem.W.mg_none_of X G Zq
 have M3:=PySem.W.mg_none_of X G Sj
 have Ao:=PySem.W.mg_none_of X G Ki
 have Y1:=PySem.W.mg_none_of X G Xn
 have Hc:=PySem.W.mg_none_of X G L4
 have Ws:=PySem.W.mg_none_of X G aJ
 have UR:=PySem.W.mg_none_of X G X6
 have HR:=PySem.W.mg_none_of X G Zw
 have Wo:=PySem.W.mg_none_of X G ZW
 have Zu:=PySem.W.mg_none_of X G ak
 have EU:=PySem.W.mg_of X G L3
 have JP:=PySem.W.mg_of X G JQ
 have K6:=PySem.W.mg_of X G K8
 have MF:=PySem.W.mg_of X G M9
 have EF:=PySem.W.mg_of X G OL
 have E1:=PySem.W.mg_of X G M1
 have HL:=PySem.W.mg_of X G RB
 have Iu:=PySem.W.mg_of X G R7
 have Fi:=PySem.W.mg_of X G O4
 have HA:=PySem.W.mg_of X G Rv
 have GH:=PySem.W.mg_of X G K4
 have F0:=Au (st:=A9) l0 c0 k0
 have b0:=F0.binds (ps:=Bx) fun _ _ _ _ _ _ us hl=>by obtain ⟨_,rfl⟩:=BI hl;rfl
 have g0:=PySem.W.mg_of X G a0
 have F1:=Au (st:=Bp) l1 c1 k1
 have b1:=F1.binds (ps:=C5) fun _ _ _ _ _ _ us hl=>by obtain ⟨_,_,_,rfl⟩:=Pn hl;rfl
 have g1:=PySem.W.mg_of X G a1
 have F2:=Au (st:=Ai) l2 c2 k2
 have b2:=F2.binds (ps:=BB) fun _ _ _ _ _ _ us hl=>by obtain ⟨_,rfl⟩:=BI hl;rfl
 have g2:=PySem.W.mg_of X G a2
 have F3:=Au (st:=Be) l3 c3 k3
 have b3:=F3.binds (ps:=Cb) fun _ _ _ _ _ _ us hl=>by obtain ⟨_,rfl⟩:=BI hl;rfl
 have g3:=PySem.W.mg_of X G a3
 have F4:=Au (st:=BR) l4 c4 k4
 have b4:=F4.binds (ps:=CG) fun _ _ _ _ _ _ us hl=>by obtain ⟨_,rfl⟩:=BI hl;rfl
 have g4:=PySem.W.mg_of X G a4
 have F5:=Au (st:=Bz) l5 c5 k5
 have b5:=F5.binds (ps:=CW) fun _ _ _ _ _ _ us hl=>by obtain ⟨_,rfl⟩:=BI hl;rfl
 have g5:=PySem.W.mg_of X G a5
 have F6:=Au (st:=Bi) l6 c6 k6
 have b6:=F6.binds (ps:=Bv) fun _ _ _ _ _ _ us hl=>by obtain ⟨_,rfl⟩:=BI hl;rfl
 have g6:=PySem.W.mg_of X G a6
 have F7:=Au (st:=BU) l7 c7 k7
 have b7:=F7.binds (ps:=Bu) fun _ _ _ _ _ _ us hl=>by obtain ⟨_,rfl⟩:=BI hl;rfl
 have g7:=PySem.W.mg_of X G a7
 have F8:=Au (st:=A5) l8 c8 k8
 have b8:=F8.binds (ps:=BZ) fun _ _ _ _ _ _ us hl=>by obtain ⟨_,rfl⟩:=BI hl;rfl
 have g8:=PySem.W.mg_of X G a8
 have F9:=Au (st:=BE) l9 c9 k9
 have b9:=F9.binds (ps:=Ca) fun _ _ _ _ _ _ us hl=>by obtain ⟨_,rfl⟩:=BI hl;rfl
 have g9:=PySem.W.mg_of X G a9
 have fH:=Au (st:=Bq) uc qk ip
 have ni:=fH.binds (ps:=CZ) fun _ _ _ _ _ _ us hl=>by obtain ⟨_,rfl⟩:=BI hl;rfl
 have nE:=PySem.W.mg_of X G tQ
 have n6:=Au (st:=Bo) uL vG oB
 have rA:=n6.binds (ps:=CS) fun _ _ _ _ _ _ us hl=>by obtain ⟨_,rfl⟩:=BI hl;rfl
 have vV:=PySem.W.mg_of X G uZ
 have oq:=Au (st:=AY) rk p8 nL
 have uY:=oq.binds (ps:=BC) fun _ _ _ _ _ _ us hl=>by obtain ⟨_,_,rfl⟩:=EI hl;rfl
 have tF:=PySem.W.mg_of X G pz
 have kI:=Au (st:=Cg) qA vL ke
 have nD:=kI.binds (ps:=IH) fun _ _ _ _ _ _ us hl=>by obtain ⟨_,_,_,rfl⟩:=Pn hl;rfl
 have nu:=PySem.W.mg_of X G rR
 have jW:=Au (st:=DJ) pK qj mK
 have ng:=jW.binds (ps:=Lf) fun _ _ _ _ _ _ us hl=>by obtain ⟨_,_,_,_,rfl⟩:=Vg hl;rfl
 have md:=PySem.W.mg_of X G vB
 have nR:=Au (st:=A2) vT t7 oR
 have tU:=nR.binds (ps:=B8) fun _ _ _ _ _ _ us hl=>by obtain ⟨_,rfl⟩:=BI hl;rfl
 have se:=PySem.W.mg_of X G pH
 have iu:=Au (st:=By) vX vM eH
 have mU:=iu.binds (ps:=C6) fun _ _ _ _ _ _ us hl=>by obtain ⟨_,rfl⟩:=BI hl;rfl
 have mY:=PySem.W.mg_of X G sD
 have jy:=Au (st:=Am) pL tq fq
 have nG:=jy.binds (ps:=BX) fun _ _ _ _ _ _ us hl=>by obtain ⟨_,_,rfl⟩:=EI hl;rfl
 have mS:=PySem.W.mg_of X G qT
 have gb:=Au (st:=BW) vD si kZ
 have oV:=gb.binds (ps:=C7) fun _ _ _ _ _ _ us hl=>by obtain ⟨_,_,rfl⟩:=EI hl;rfl
 have oY:=PySem.W.mg_of X G pG
 have lT:=Au (st:=B4) qZ uz lU
 have oj:=lT.binds (ps:=C4) fun _ _ _ _ _ _ us hl=>by obtain ⟨_,_,rfl⟩:=EI hl;rfl
 have m9:=PySem.W.mg_of X G rV
 have ou:=Au (st:=CK) pN pE oM
 have vE:=ou.binds (ps:=D2) fun _ _ _ _ _ _ us hl=>by obtain ⟨_,_,rfl⟩:=EI hl;rfl
 have pW:=PySem.W.mg_of X G vP
 have kY:=Au (st:=BM) t9 qL ir
 have oE:=kY.binds (ps:=CD) fun _ _ _ _ _ _ us hl=>by obtain ⟨_,rfl⟩:=BI hl;rfl
 have nC:=PySem.W.mg_of X G pM
 have nX:=Au (st:=EK) rE rL mh
 have uP:=nX.binds (ps:=JV) fun _ _ _ _ _ _ us hl=>by obtain ⟨_,rfl⟩:=BI hl;rfl
 have qw:=PySem.W.mg_of X G rF
 have lh:=Au (st:=Ah) sM qg kJ
 have og:=lh.binds (ps:=BK) fun _ _ _ _ _ _ us hl=>by obtain ⟨_,rfl⟩:=BI hl;rfl
 have pD:=PySem.W.mg_of X G uw
 have mR:=Au (st:=B3) uX qv oF
 have sO:=mR.binds (ps:=C2) fun _ _ _ _ _ _ us hl=>by obtain ⟨_,_,rfl⟩:=EI hl;rfl
 have uO:=PySem.W.mg_of X G u5
 have iz:=Au (st:=Bg) rG qr lQ
 have nN:=iz.binds (ps:=CU) fun _ _ _ _ _ _ us hl=>by obtain ⟨_,_,rfl⟩:=EI hl;rfl
 have ow:=PySem.W.mg_of X G ub
 have nK:=Au (st:=BV) vI qC oU
 have td:=nK.binds (ps:=DK) fun _ _ _ _ _ _ us hl=>by obtain ⟨_,rfl⟩:=BI hl;rfl
 have qm:=PySem.W.mg_of X G sG
 have jP:=Au (st:=Ag) pO u3 iB
 have om:=jP.binds (ps:=BY) fun _ _ _ _ _ _ us hl=>by obtain ⟨_,rfl⟩:=BI hl;rfl
 have mw:=PySem.W.mg_of X G uj
 have ri:=Au (st:=DV) rW qV pV
 have vj:=PySem.W.mg_of X G nh
 refine ⟨PySem.W.fnOf "law" "law" (AH DV) (AG DV) (AB DV) .none bI aW Zc ay YM Zx,fun s v=>.of_eq rfl,fun base _ _=>?_⟩
 have GZ:Df l.prog w K mg base "neighbours" Bx 1 (Qi nbM):=⟨f0,_,FU F0,g0,k0,b0⟩
 have GJ:∃f',mg "neighbours"=some (.ref f')/\DfA l.prog w K mg base f' Bx 1 (Qi nbM):=⟨f0,g0,_,FU F0,k0,b0⟩
 have JA:Df l.prog w K mg base "reached" C5 2 (E5 l.prog w K mg base 1):=⟨f1,_,IP 1 F1 Cv,g1,k1,b1⟩
 have XT:∃f',mg "reached"=some (.ref f')/\DfA l.prog w K mg base f' C5 2 (E5 l.prog w K mg base 1):=⟨f1,g1,_,IP 1 F1 Cv,k1,b1⟩
 have EA:Df l.prog w K mg base "hangs_together" BB 3 (spF fun F=>.bl (HS F)):=⟨f2,_,DW F2 Cv JA GJ,g2,k2,b2⟩
 have Qh:∃f',mg "hangs_together"=some (.ref f')/\DfA l.prog w K mg base f' BB 3 (spF fun F=>.bl (HS F)):=⟨f2,g2,_,DW F2 Cv JA GJ,k2,b2⟩
 have PB:Df l.prog w K mg base "is_plain" Cb 5 (Pr):=⟨f3,_,GY F3 Cv EA,g3,k3,b3⟩
 have Xm:∃f',mg "is_plain"=some (.ref f')/\DfA l.prog w K mg base f' Cb 5 (Pr):=⟨f3,g3,_,GY F3 Cv EA,k3,b3⟩
 have NH:Df l.prog w K mg base "is_number" CG 1 (GS):=⟨f4,_,GR F4 Ao Ws UR,g4,k4,b4⟩
 have bT:∃f',mg "is_number"=some (.ref f')/\DfA l.prog w K mg base f' CG 1 (GS):=⟨f4,g4,_,GR F4 Ao Ws UR,k4,b4⟩
 have Hy:Df l.prog w K mg base "is_pair" CW 1 (GO):=⟨f5,_,Jk F5 Ao Ce Cv,g5,k5,b5⟩
 have dX:∃f',mg "is_pair"=some (.ref f')/\DfA l.prog w K mg base f' CW 1 (GO):=⟨f5,g5,_,Jk F5 Ao Ce Cv,k5,b5⟩
 have GG:Df l.prog w K mg base "is_place" Bv 2 (E8):=⟨f6,_,Hb F6 Hy NH,g6,k6,b6⟩
 have cc:∃f',mg "is_place"=some (.ref f')/\DfA l.prog w K mg base f' Bv 2 (E8):=⟨f6,g6,_,Hb F6 Hy NH,k6,b6⟩
 have JX:Df l.prog w K mg base "is_square" Bu 3 (Dt):=⟨f7,_,GB F7 EU GG,g7,k7,b7⟩
 have bK:∃f',mg "is_square"=some (.ref f')/\DfA l.prog w K mg base f' Bu 3 (Dt):=⟨f7,g7,_,GB F7 EU GG,k7,b7⟩
 have GN:Df l.prog w K mg base "is_rising" BZ 1 (D6):=⟨f8,_,Gk F8 HR Wo,g8,k8,b8⟩
 have aC:∃f',mg "is_rising"=some (.ref f')/\DfA l.prog w K mg base f' BZ 1 (D6):=⟨f8,g8,_,Gk F8 HR Wo,k8,b8⟩
 have V5:Df l.prog w K mg base "is_stone" Ca 4 (Ge):=⟨f9,_,HW F9 Hy JX GZ,g9,k9,b9⟩
 have dg:∃f',mg "is_stone"=some (.ref f')/\DfA l.prog w K mg base f' Ca 4 (Ge):=⟨f9,g9,_,HW F9 Hy JX GZ,k9,b9⟩
 have Kh:Df l.prog w K mg base "covered" CZ 1 (Du):=⟨bh,_,Jf fH M3,nE,ip,ni⟩
 have ZD:∃f',mg "covered"=some (.ref f')/\DfA l.prog w K mg base f' CZ 1 (Du):=⟨bh,nE,_,Jf fH M3,ip,ni⟩
 have KU:DfC l.prog w K mg base "checked" CS 4 (D9 AN):=by
  exact ⟨dC,_,NB n6 Ao Ce Cv HR JP EU EF Jd JX GN,vV,oB,rA⟩
 have Qn:DfX l.prog w K mg base "checked" CS 4 (D9 AN):=by
  exact KU.toV
 have TN:DfX l.prog w K mg base "checked_laying" BC 5 (Gp AO):=⟨dP,_,Gm oq Ao Ce Y1 HR E1 NQ V5 GN Kh,tF,nL,uY⟩
 have PF:Df l.prog w K mg base "steps" IH 1 (IK):=⟨aS,_,Lz kI,nu,ke,nD⟩
 have dO:∃f',mg "steps"=some (.ref f')/\DfA l.prog w K mg base f' IH 1 (IK):=⟨aS,nu,_,Lz kI,ke,nD⟩
 have WG:∀n,Df l.prog w K mg base "ways" Lf (n+2) (IE n):=by
  intro n
  induction n with
  |zero=>exact ⟨bo,_,Ma 0 jW Cv Wc PF (fun m h=>by cases h),md,mK,ng⟩
  |succ m ih=>exact ⟨bo,_,Ma (m+1) jW Cv Wc PF (fun m' h=>by cases h;exact ih),md,mK,ng⟩
 have Zb:DfX l.prog w K mg base "all_layings" B8 27 (OY AZ):=⟨cg,_,Hs nR MF HL Rr WG,se,oR,tU⟩
 have J8:Df l.prog w K mg base "ring_at" C6 1 (Hw):=⟨aZ,_,IU iu,mY,eH,mU⟩
 have ZI:∃f',mg "ring_at"=some (.ref f')/\DfA l.prog w K mg base f' C6 1 (Hw):=⟨aZ,mY,_,IU iu,eH,mU⟩
 have QF:Df l.prog w K mg base "stones_along" BX 1 (Hz):=⟨aa,_,ER jy IJ Cv XD WZ,mS,fq,nG⟩
 have cm:∃f',mg "stones_along"=some (.ref f')/\DfA l.prog w K mg base f' BX 1 (Hz):=⟨aa,mS,_,ER jy IJ Cv XD WZ,fq,nG⟩
 have Jx:Df l.prog w K mg base "has_all" C7 1 (Gi):=⟨bH,_,Ip gb HR,oY,kZ,oV⟩
 have ZC:∃f',mg "has_all"=some (.ref f')/\DfA l.prog w K mg base f' C7 1 (Gi):=⟨bH,oY,_,Ip gb HR,kZ,oV⟩
 have Ru:Df l.prog w K mg base "is_turn" C4 2 (Gu):=⟨cY,_,Iv lT J8 QF Jx,m9,lU,oj⟩
 have ZK:∃f',mg "is_turn"=some (.ref f')/\DfA l.prog w K mg base f' C4 2 (Gu):=⟨cY,m9,_,Iv lT J8 QF Jx,lU,oj⟩
 have Ub:DfX l.prog w K mg base "turned" D2 3 (IC Ak):=⟨cu,_,O2 ou Iu Te GG Ru,pW,oM,vE⟩
 have SA:Df l.prog w K mg base "stones_in" CD 1 (Gj):=⟨aB,_,GK kY Hc Ce,nC,ir,oE⟩
 have Za:∃f',mg "stones_in"=some (.ref f')/\DfA l.prog w K mg base f' CD 1 (Gj):=⟨aB,nC,_,GK kY Hc Ce,ir,oE⟩
 have YL:DfX l.prog w K mg base "read" JV 5 (K1 Aa):=⟨dI,_,UZ nX Ao Zu Cv Ce K6 EF Jd FJ HA RU SA KU Kh,qw,mh,uP⟩
 have Uu:Df l.prog w K mg base "holds_squares" BK 3 (IF):=⟨aR,_,Dy lh Ao Ce HR GG GN,pD,kJ,og⟩
 have df:∃f',mg "holds_squares"=some (.ref f')/\DfA l.prog w K mg base f' BK 3 (IF):=⟨aR,pD,_,Dy lh Ao Ce HR GG GN,kJ,og⟩
 have Ql:DfX l.prog w K mg base "heights" C2 6 (QC AV):=⟨cy,_,M8 mR Fi OX Uu PB,uO,oF,sO⟩
 have Om:Df l.prog w K mg base "_law_cell" CU 1 (K3):=⟨af,_,Hm iz Cv,ow,lQ,nN⟩
 have XW:∃f',mg "_law_cell"=some (.ref f')/\DfA l.prog w K mg base f' CU 1 (K3):=⟨af,ow,_,Hm iz Cv,lQ,nN⟩
 have Tb:DfX l.prog w K mg base "_law_deed" DK 28 (OS (L8 AN AO AZ Ak AV Aa)):=⟨cz,_,MQ (cl:=(L8 AN AO AZ Ak AV Aa)) nK Ce IJ Qn TN Zb Ub Ql YL,qm,oU,td⟩
 have xs:∀j,j<6->PySem.W.excIn K ((L8 AN AO AZ Ak AV Aa) j) BMV "ValueError.__new__"=true:=by
  intro j hj
  rcases (show j=0\/j=1\/j=2\/j=3\/j=4\/j=5 by lia)with rfl|rfl|rfl|rfl|rfl|rfl<;>assumption
 have us:∀j,j<6->BG K ((L8 AN AO AZ Ak AV Aa) j) BA=true:=by
  intro j hj
  rcases (show j=0\/j=1\/j=2\/j=3\/j=4\/j=5 by lia)with rfl|rfl|rfl|rfl|rfl|rfl<;>assumption
 have ap:∀i j,i<6->j<6->i≠j->AR K ((L8 AN AO AZ Ak AV Aa) i) ((L8 AN AO AZ Ak AV Aa) j)=true:=by
  intro i j hi hj h
  rcases (show i=0\/i=1\/i=2\/i=3\/i=4\/i=5 by lia)with rfl|rfl|rfl|rfl|rfl|rfl<;>rcases (show j=0\/j=1\/j=2\/j=3\/j=4\/j=5 by lia)with rfl|rfl|rfl|rfl|rfl|rfl<;>first|exact absurd rfl h|assumption
 have WH:Df l.prog w K mg base "_law_kinds_of" BY 29 (IG):=⟨ZZ,_,GW (cl:=(L8 AN AO AZ Ak AV Aa)) jP Ao GH EF E1 HL Iu Fi HA GD xs us ap Tb,mw,iB,om⟩
 have cb:∃f',mg "_law_kinds_of"=some (.ref f')/\DfA l.prog w K mg base f' BY 29 (IG):=⟨ZZ,mw,_,GW (cl:=(L8 AN AO AZ Ak AV Aa)) jP Ao GH EF E1 HL Iu Fi HA GD xs us ap Tb,iB,om⟩
 exact Xw ri IJ Om WH
theorem walk {l:PySem.W.OpenLaw} {q:Program} {loose:List Str} {XP:(Str->Option Value)->Heap->Prop} {YP:World->Heap->Prop} {d:DefRec} {K:Params->PySem.W.Frag} (hn:l.most=some 63) (aK:d.params.defaults=[])
  (hY:∀(w:World) (h:Heap),YP w h->(K w.params).In h)
  (F:∀(w:World) (mg:Str->Option Value) (fa:Addr) (h:Heap),(K w.params).In h->h.Ns mainGlobals mg->mg d.name=some (.ref fa) →
   ∃fd:FuncData,(∀(s:Shared) (u:Value),BindsTo s fd ⟨[u],[]⟩ [("_law_script",u)])/\∀base:Heap,(K w.params).In base->base.Ns mainGlobals mg->FnOk l.prog w (K w.params) mg base CX0 30 fa fd ["_law_script"] (BO (K w.params) Kw)) :
  PySem.W.WalkO q loose XP YP l.row.toRowW d [] (fun f vs=>PySem.call f vs):=
 L2.walk_of (n:=63) (k:=30) (x:="_law_script") (CX:=fun _=>CX0) (sp:=fun w=>BO (K w.params) Kw) hn (by decide) aK ⟨rfl,by decide,by decide⟩ hY F
  (fun w H a ns hl _ hS=>⟨[.scr ns],g0,fun d _=>d=.bl true,cM,RepL.cons (by rw [Xj,Rep];exact ⟨a,rfl,hS⟩) RepL.nil,⟨ns,rfl,rfl⟩,fun v H' d G' _ _ r q=>by
   subst q
   rw [Rep]at r
   exact r⟩) fun _ _ _ _ _ z=>z
theorem AL {K:PySem.W.Frag} (h:hB K=true) (i:Nat) {x:Str} {v:Option Value} (hi:hNs[i]?=some (x,v)):PySem.W.nsIn K mainGlobals x=some v:=by
 unfold hB at h
 simp only [Bool.and_eq_true]at h
 exact beq_iff_eq.mp (List.all_eq_true.mp h.1.1.1.1.1 _ (List.mem_of_getElem? hi))
theorem Av {K:PySem.W.Frag} (h:hB K=true) (i:Nat) {x:Str} {v:Value} (hi:hCs[i]?=some (v,x)):PySem.W.codeIn K v x=true:=by
 unfold hB at h
 simp only [Bool.and_eq_true]at h
 exact List.all_eq_true.mp h.1.1.1.1.2 _ (List.mem_of_getElem? hi)
theorem Ap {K:PySem.W.Frag} (h:hB K=true) (i:Nat) {a:Addr} (hi:hKs[i]?=some a):PySem.W.keepIn K (.ref a)=true:=by
 unfold hB at h
 simp only [Bool.and_eq_true]at h
 exact List.all_eq_true.mp h.1.1.1.2 _ (List.mem_of_getElem? hi)
theorem Fp {K:PySem.W.Frag} (h:hB K=true) (i:Nat) {a:Addr} (hi:hXs[i]?=some a):PySem.W.excIn K a [.type "ValueError",.type "Exception",.type "BaseException",.type "object"] "ValueError.__new__"=true:=by
 unfold hB at h
 simp only [Bool.and_eq_true]at h
 exact List.all_eq_true.mp h.1.1.2 _ (List.mem_of_getElem? hi)
theorem Fh {K:PySem.W.Frag} (h:hB K=true) (i:Nat) {a b:Addr} (hi:hUs[i]?=some (a,b)):BG K a b=true:=by
 unfold hB at h
 simp only [Bool.and_eq_true]at h
 exact List.all_eq_true.mp h.1.2 _ (List.mem_of_getElem? hi)
theorem An {K:PySem.W.Frag} (h:hB K=true) (i:Nat) {a b:Addr} (hi:hPs[i]?=some (a,b)):AR K a b=true:=by
 unfold hB at h
 simp only [Bool.and_eq_true]at h
 exact List.all_eq_true.mp h.2 _ (List.mem_of_getElem? hi)
end TF
open PySem PySem.W PyProof.Rows TF
set_option maxRecDepth 100000 in
set_option maxHeartbeats 0 in
theorem PySem.Challenge.cw_tilefloor_k16_refusals_stand_apart_holds : PySem.Challenge.rw_tilefloor_k16_refusals_stand_apart.Holds := by
 refine holds_law (by kernel_rfl) fun fZ=>?_
 refine PySem.W.holds_open (q:=TF.hQ) (loose:=[]) (Xt:=TF.hXt) (XP:=XL TF.hQ []) (Yf:=fun s=>TF.hAs.map s.heap.get?) (Ya:=fun w=>(TF.hK w).map fun p=>some p.2) (YP:=fun w h=>(TF.hK w).In h) (N:=5874) TF.hLeft (fun w s x=>Frag.in_of (TF.hAs_ok w) x) (fun w h h' x k=>Frag.In.keeps x k) (fun s e=>xl_of s (Bool.and_eq_true_iff.mp e).1) XL.keeps (by rfl) (by rfl) (by rfl) (fun s e=>recFacts_of (Bool.and_eq_true_iff.mp e).2) (by rfl) fZ (by decide +kernel) ⟨rfl,rfl,rfl,rfl,rfl,by decide +kernel⟩ ?hw ?hc
 case hw=>w_witness2
 case hc=>
  intro w₀ s₀ s₁ mg mb G Y
  refine TF.walk (l:=PySem.Challenge.rw_tilefloor_k16_refusals_stand_apart) (K:=fun _=>TF.hK w₀) (YP:=fun _ h=>(TF.hK w₀).In h) rfl rfl (fun w h Y=>Y) ?F w₀ s₀ s₁ mg mb G Y
  clear Y G mg mb
  intro w mg fa h KX G OV
  have hb:=TF.hB_ok w₀
  exact TF.all_mk KX G OV (AL hb 0 rfl) (BQ rfl) (Av hb 0 rfl) (Ap hb 0 rfl) (AL hb 1 rfl) (BQ rfl) (Av hb 1 rfl) (Ap hb 1 rfl) (AL hb 2 rfl) (BQ rfl) (Av hb 2 rfl) (Ap hb 2 rfl) (AL hb 3 rfl) (BQ rfl) (Av hb 3 rfl) (Ap hb 3 rfl) (AL hb 4 rfl) (BQ rfl) (Av hb 4 rfl) (Ap hb 4 rfl) (AL hb 5 rfl) (BQ rfl) (Av hb 5 rfl) (Ap hb 5 rfl) (AL hb 6 rfl) (BQ rfl) (Av hb 6 rfl) (Ap hb 6 rfl) (AL hb 7 rfl) (BQ rfl) (Av hb 7 rfl) (Ap hb 7 rfl) (AL hb 8 rfl) (BQ rfl) (Av hb 8 rfl) (Ap hb 8 rfl) (AL hb 9 rfl) (BQ rfl) (Av hb 9 rfl) (Ap hb 9 rfl) (AL hb 10 rfl) (BQ rfl) (Av hb 10 rfl) (Ap hb 10 rfl) (AL hb 11 rfl) (BQ rfl) (Av hb 11 rfl) (Ap hb 11 rfl) (AL hb 12 rfl) (BQ rfl) (Av hb 12 rfl) (Ap hb 12 rfl) (AL hb 13 rfl) (BQ rfl) (Av hb 13 rfl) (Ap hb 13 rfl) (AL hb 14 rfl) (BQ rfl) (Av hb 14 rfl) (Ap hb 14 rfl) (AL hb 15 rfl) (BQ rfl) (Av hb 15 rfl) (Ap hb 15 rfl) (AL hb 16 rfl) (BQ rfl) (Av hb 16 rfl) (Ap hb 16 rfl) (AL hb 17 rfl) (BQ rfl) (Av hb 17 rfl) (Ap hb 17 rfl) (AL hb 18 rfl) (BQ rfl) (Av hb 18 rfl) (Ap hb 18 rfl) (AL hb 19 rfl) (BQ rfl) (Av hb 19 rfl) (Ap hb 19 rfl) (AL hb 20 rfl) (BQ rfl) (Av hb 20 rfl) (Ap hb 20 rfl) (AL hb 21 rfl) (BQ rfl) (Av hb 21 rfl) (Ap hb 21 rfl) (AL hb 22 rfl) (BQ rfl) (Av hb 22 rfl) (Ap hb 22 rfl) (AL hb 23 rfl) (BQ rfl) (Av hb 23 rfl) (Ap hb 23 rfl) (AL hb 24 rfl) (BQ rfl) (Av hb 24 rfl) (Ap hb 24 rfl) (AL hb 25 rfl) (BQ rfl) (Av hb 25 rfl) (Ap hb 25 rfl) (AL hb 26 rfl) (BQ rfl) (Av hb 26 rfl) (Ap hb 26 rfl) (AL hb 27 rfl) (BQ rfl) (Av hb 27 rfl) (Ap hb 27 rfl) (AL hb 28 rfl) (BQ rfl) (Av hb 28 rfl) (Ap hb 28 rfl) (AL hb 29 rfl) (AL hb 30 rfl) (AL hb 31 rfl) (AL hb 32 rfl) (AL hb 33 rfl) (AL hb 34 rfl) (AL hb 35 rfl) (AL hb 36 rfl) (AL hb 37 rfl) (AL hb 38 rfl) (AL hb 39 rfl) (AL hb 40 rfl) (AL hb 41 rfl) (AL hb 42 rfl) (AL hb 43 rfl) (AL hb 44 rfl) (AL hb 45 rfl) (AL hb 46 rfl) (AL hb 47 rfl) (AL hb 48 rfl) (Fp hb 0 rfl) (AL hb 49 rfl) (Fp hb 1 rfl) (AL hb 50 rfl) (Fp hb 2 rfl) (AL hb 51 rfl) (Fp hb 3 rfl) (AL hb 52 rfl) (Fp hb 4 rfl) (AL hb 53 rfl) (Fp hb 5 rfl) (AL hb 54 rfl) (Fp hb 6 rfl) (Fh hb 0 rfl) (Fh hb 1 rfl) (Fh hb 2 rfl) (Fh hb 3 rfl) (Fh hb 4 rfl) (Fh hb 5 rfl) (Fh hb 6 rfl) (An hb 0 rfl) (An hb 1 rfl) (An hb 2 rfl) (An hb 3 rfl) (An hb 4 rfl) (An hb 5 rfl) (An hb 6 rfl) (An hb 7 rfl) (An hb 8 rfl) (An hb 9 rfl) (An hb 10 rfl) (An hb 11 rfl) (An hb 12 rfl) (An hb 13 rfl) (An hb 14 rfl) (An hb 15 rfl) (An hb 16 rfl) (An hb 17 rfl) (An hb 18 rfl) (An hb 19 rfl) (An hb 20 rfl) (An hb 21 rfl) (An hb 22 rfl) (An hb 23 rfl) (An hb 24 rfl) (An hb 25 rfl) (An hb 26 rfl) (An hb 27 rfl) (An hb 28 rfl) (An hb 29 rfl)
