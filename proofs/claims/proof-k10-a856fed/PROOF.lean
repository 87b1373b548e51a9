import PyProof.Rows.All
import Wide.All
import OpenK.AllK
import PySem.Challenge.RW_tilefloor_k10_whole_roads_in_plain_floor
noncomputable section
set_option maxHeartbeats 4000000
set_option bootstrap.genMatcherCode false
set_option genSizeOf false
set_option Elab.async false
set_option linter.all false
set_option maxRecDepth 100000
set_option maxHeartbeats 4000000
namespace L2
open PySem PySem.Spec PyProof.Rows
def C9(s:Stmt):Arguments:=match s with
 |.FunctionDef _ a _ _ _ _ _ _ _ _=>a
 |_=>{ posonlyargs:=[],args:=[],vararg:=none,kwonlyargs:=[],kw_defaults:=[],kwarg:=none,defaults:=[] }
def Bi(s:Stmt):List Stmt:=match s with
 |.FunctionDef _ _ b _ _ _ _ _ _ _=>b
 |_=>[]
def AF(s:Stmt):Scope:=match s with
 |.FunctionDef _ _ _ _ _ _ sc _ _ _=>sc
 |_=>{ kind:=.function,names:=[],isGenerator:=false,isCoroutine:=false }
end L2
namespace TF
open PySem PySem.Spec L2
open PyProof.Rows hiding St RelV
def ZU(K:PySem.W.Frag)(C Dc:Addr):Bool:=match K.lookup C with
 |some ⟨_,_,.cls cd,_⟩=>cd.mro.contains (.ref Dc)
 |_=>false
def top(i:Nat):Stmt:=PySem.Challenge.pw_tilefloor_k10_whole_roads_in_plain_floor.main.body.getD i (.Pass ⟨0,0,0,0⟩)
abbrev Hw:Stmt:=top 6
abbrev C6:Stmt:=top 7
abbrev IY:Stmt:=top 8
abbrev Jd:Stmt:=top 9
abbrev MG:Stmt:=top 10
abbrev KQ:Stmt:=top 11
abbrev D2:Stmt:=top 12
abbrev Ij:Stmt:=top 13
abbrev EV:Stmt:=top 14
abbrev Bz:Stmt:=top 15
abbrev Kz:Stmt:=top 16
abbrev Bh:Stmt:=top 17
abbrev Dw:Stmt:=top 18
abbrev Km:Stmt:=top 19
abbrev Cw:Stmt:=top 21
abbrev Kw:Stmt:=top 22
abbrev JR:Stmt:=top 23
abbrev Dt:Stmt:=top 24
abbrev IM:Stmt:=top 25
abbrev Eg:Stmt:=top 26
abbrev DW:Stmt:=top 27
abbrev M8:Stmt:=top 30
abbrev Nj:Stmt:=top 31
abbrev Rr:Stmt:=top 32
abbrev Dh:Stmt:=top 34
abbrev Gr:Stmt:=top 35
abbrev BY:Stmt:=top 36
abbrev MT:Stmt:=top 38
abbrev Lw:Stmt:=top 39
abbrev Nb:Stmt:=top 40
abbrev Pe:Stmt:=top 41
abbrev HS:Stmt:=top 42
abbrev Q9:Stmt:=top 43
abbrev LI:Stmt:=top 45
abbrev Ln:Stmt:=top 46
abbrev Ja:Stmt:=top 47
abbrev Cq:Stmt:=top 48
abbrev Ew:Stmt:=top 49
abbrev Cs:Stmt:=top 50
abbrev Gd:Stmt:=top 51
abbrev D0:Stmt:=top 52
abbrev EF:Stmt:=top 53
abbrev DZ:Stmt:=top 54
abbrev JX:Stmt:=top 55
abbrev Z8:Stmt:=top 56
section
def hM0:Value:=.str "tilefloor.floors" 255
def hM1:Value:=.str "tilefloor.heights" 368
def hM2:Value:=.str "tilefloor.laying" 431
def hM3:Value:=.str "tilefloor.turns" 485
def hM4:Value:=.str "tilefloor.rings" 461
def hM5:Value:=.str "law_tilefloor_k10_whole_roads_in_plain_floor" 544
def hR(u:Str)(k f:Nat)(m:Value):Str×Nat×Nat×Value:=(u,k,f,m)
def hT:List (Str×Nat×Nat×Value):=[hR "neighbours" 6 70 hM0,hR "corner_neighbours" 7 77 hM0,hR "all_around" 8 84 hM0,hR "reached" 13 117 hM0,hR "hangs_together" 14 124 hM0,hR "bare_squares" 15 129 hM0,hR "has_hole" 16 136 hM0,hR "meet_by_corner_alone" 17 143 hM0,hR "has_bare_corner" 18 150 hM0,hR "is_plain" 19 157 hM0,hR "is_number" 9 91 hM0,hR "is_pair" 10 98 hM0,hR "is_place" 11 105 hM0,hR "is_rising" 12 110 hM0,hR "holds_squares" 21 162 hM1,hR "is_light" 22 169 hM1,hR "ways_from" 23 176 hM1,hR "is_walked" 24 183 hM1,hR "steps_from" 25 190 hM1,hR "heights" 26 195 hM1,hR "fewest_turns" 27 200 hM1,hR "steps" 30 207 hM2,hR "ways" 31 212 hM2,hR "count" 32 219 hM2,hR "ring_at" 38 243 hM3,hR "stones_along" 34 226 hM4,hR "has_all" 35 231 hM4,hR "is_turn" 39 250 hM3,hR "turns" 40 255 hM3,hR "laid_otherwise" 36 236 hM4,hR "turned" 41 262 hM3,hR "way_back" 42 269 hM3,hR "road" 43 276 hM3,hR "_law_cell" 45 283 hM5,hR "_law_mix" 46 290 hM5,hR "_law_floor" 48 302 hM5,hR "_law_near" 49 307 hM5,hR "_law_every" 50 312 hM5,hR "_law_all" 51 317 hM5,hR "_law_hangs" 52 322 hM5,hR "_law_no_hole" 53 329 hM5,hR "_law_no_pinch" 54 336 hM5,hR "_law_plain" 55 343 hM5,hR "_law_whole" 47 297 hM5,hR "law" 56 350 hM5]
def hD(p:Str×Nat×Nat×Value):FuncData:=PySem.W.fnOf p.1 p.1 (C9 (top p.2.1)) (Bi (top p.2.1)) (AF (top p.2.1)) .none .none .none p.2.2.2 none (.ref (p.2.2.1-1)) .none
def hF(p:Str×Nat×Nat×Value):Addr×Obj:=(p.2.2.1,⟨.type "function",none,.func (hD p),#[]⟩)
def hOb(w:World)(a:Nat):Obj:=((PySem.W.openEnds treeTable PySem.Challenge.rw_tilefloor_k10_whole_roads_in_plain_floor.row.prog w 4592).bind fun s=>s.heap.get? a).getD { cls:=.none,data:=.plain }
def hOt:List Nat:=[2,3,15,22,23,24,25,28,35,36,37,40,47,48,49,52,59,60,61,64,66,67,69,71,73,74,76,78,80,81,83,85,87,88,90,92,94,95,97,99,101,102,104,106,109,111,113,114,116,118,120,121,123,125,128,130,132,133,135,137,139,140,142,144,146,147,149,151,153,154,156,158,161,163,165,166,168,170,172,173,175,177,179,180,182,184,186,187,189,191,194,196,199,201,203,204,206,208,211,213,215,216,218,220,222,223,225,227,230,232,235,237,239,240,242,244,246,247,249,251,254,256,258,259,261,263,265,266,268,270,272,273,275,277,279,280,282,284,286,287,289,291,293,294,296,298,301,303,306,308,311,313,316,318,321,323,325,326,328,330,332,333,335,337,339,340,342,344,346,347,349]
def hK(w:World):PySem.W.Frag:=hT.map hF++hOt.map fun a=>(a,hOb w a)
def hAs:List Nat:=hT.map (·.2.2.1)++hOt
def hQ:Program:=PySem.W.view PySem.Challenge.pw_tilefloor_k10_whole_roads_in_plain_floor [1,2,3,4,6,7,8,9,10,11,12,13,14,15,16,17,18,19,21,22,23,24,25,26,27,29,30,31,32,34,35,36,38,39,40,41,42,43,45,46,47,48,49,50,51,52,53,54,55,56]
theorem hAs_ok(w:World):hAs=(hK w).map (·.1):=by kernel_rfl
def hXt(s:Shared):Bool:=PySem.W.xlAt hQ [] s&&PySem.W.recOk (PySem.W.RowW.records (PySem.W.OpenRow.toRowW (PySem.W.OpenLaw.row PySem.Challenge.rw_tilefloor_k10_whole_roads_in_plain_floor))) s
def hZs:List Str:=["len","range","min","max","tuple","sum","sorted","isinstance","list","int","bool","all","zip","abs","dict"]
def hP(x:Str)(v:Value):Str×Value:=(x,v)
def hIs:List (Str×Value):=[hP "MOST_TOLD" (.int 200 (433))]
def hC(x:Str)(a:Nat):Str×Nat:=(x,a)
def hCs:List (Str×Nat):=[hC "TooMany" 37,hC "NoTurn" 49]
def hUs:List (Nat×Nat):=[]
def hB(K:PySem.W.Frag):Bool:=hT.all (fun p=>PySem.W.nsIn K mainGlobals p.1==some (some (.ref p.2.2.1))&&PySem.W.codeIn K (.ref (p.2.2.1-1)) p.1&&PySem.W.keepIn K (.ref p.2.2.1))&&(hZs.all (fun x=>PySem.W.nsIn K mainGlobals x==some none)&&(hIs.all (fun p=>PySem.W.nsIn K mainGlobals p.1==some (some p.2))&&(hCs.all (fun p=>PySem.W.nsIn K mainGlobals p.1==some (some (.ref p.2))&&PySem.W.excIn K p.2 [.type "ValueError",.type "Exception",.type "BaseException",.type "object"] "ValueError.__new__")&&(hUs.all (fun p=>ZU K p.1 p.2)&&true))))
theorem gR{σ α1 α2 α3 α4 α5 α6 α7 α8 α9 β:Type}{o:Option σ}{f1:σ->α1}{f2:σ->α2}{f3:σ->α3}{f4:σ->α4}{f5:σ->α5}{f6:σ->α6}{f7:σ->α7}{f8:σ->α8}{f9:σ->α9}{y:σ->β}{a1:α1}{a2:α2}{a3:α3}{a4:α4}{a5:α5}{a6:α6}{a7:α7}{a8:α8}{a9:α9}{b:β}(h1:o.map f1=some a1)(h2:o.map (fun s=>(f2 s,f3 s))=some (a2,a3))(h3:o.map (fun s=>(f4 s,f5 s,f6 s))=some (a4,a5,a6))(h4:o.map (fun s=>(f7 s,f8 s,f9 s))=some (a7,a8,a9))(h5:o.map y=some b) :
  o.map (fun s=>((f1 s,f2 s,f3 s,f4 s,f5 s,f6 s,f7 s,f8 s,f9 s),y s))=some ((a1,a2,a3,a4,a5,a6,a7,a8,a9),b):=by
 cases o with
 |none=>cases h1
 |some s=>cases h1;cases h2;cases h3;cases h4;cases h5;rfl
open PySem.W in
theorem hL1(w:World):(openEnds treeTable PySem.Challenge.rw_tilefloor_k10_whole_roads_in_plain_floor.row.prog w 4592).map (fun s=>seen ((recsOf hQ).map (·.name)) (ownsOf hQ) [] { s with gens:=#[] })=some (expectedOf hQ):=by kernel_rfl
open PySem.W in
theorem hL2(w:World):(openEnds treeTable PySem.Challenge.rw_tilefloor_k10_whole_roads_in_plain_floor.row.prog w 4592).map (fun s=>(s.heap.bltView,s.heap.keysOk (looseW hQ []) ((recsOf hQ).map (·.name)) ((litsOf hQ).map (·.1)) ((clssOf hQ (looseW hQ [])).map (·.name))&&s.heap.accountedOkI (importedModules PySem.Challenge.rw_tilefloor_k10_whole_roads_in_plain_floor.row.prog.main.body)&&s.heap.isNs mainGlobals&&s.heap.isNs builtinsNs&&tablesOk hQ s.heap&&hXt s&&(if true then s.gens.size==0 else !leftWithCleanup s.gens)))=some (bltViewBooted,true):=by kernel_rfl
open PySem.W in
theorem hL3(w:World):(openEnds treeTable PySem.Challenge.rw_tilefloor_k10_whole_roads_in_plain_floor.row.prog w 4592).map (fun s=>(tabsOk hQ s,pinSeenD hQ (drecsOf hQ) s,plainSeenE hQ (looseW hQ []) s))=some (true,pinGoodD (drecsOf hQ),plainGoodE hQ (looseW hQ [])):=by kernel_rfl
open PySem.W in
theorem hL4(w:World):(openEnds treeTable PySem.Challenge.rw_tilefloor_k10_whole_roads_in_plain_floor.row.prog w 4592).map (fun s=>(plainSeenD hQ [] s,wideSeen hQ s,clsSeenW hQ [] s))=some (plainGoodD hQ [],wideGood hQ,clsGoodW hQ []):=by kernel_rfl
open PySem.W in
theorem hL5(w:World):(openEnds treeTable PySem.Challenge.rw_tilefloor_k10_whole_roads_in_plain_floor.row.prog w 4592).map (fun s=>hAs.map s.heap.get?)=some ((hK w).map fun p=>some p.2):=by kernel_rfl
theorem hLeft:PySem.W.LeftO PySem.Challenge.rw_tilefloor_k10_whole_roads_in_plain_floor.row.prog hQ [] hXt (fun s=>hAs.map s.heap.get?) (fun w=>(hK w).map fun p=>some p.2) 4592:=fun w=>gR (hL1 w) (hL2 w) (hL3 w) (hL4 w) (hL5 w)
theorem hB_ok(w:World):hB (hK w)=true:=by kernel_rfl
end
end TF
namespace L2
open PySem PySem.Spec PyProof.Rows
abbrev Key:=Sum Int Str
def af:Key->Value->Bool
 |.inl k,v=>Value.isInt k v
 |.inr x,v=>Value.isStrOf x v
def kO(w:World):Key->Int
 |.inl k=>hashInt k
 |.inr x=>hashStr w x
theorem BM:∀{k:Key}{v:Value},af k v=true->(∃i t,k=Sum.inl i/\v=Value.int i t)\/(∃x t,k=Sum.inr x/\v=Value.str x t)
 |.inl i,v,h=>by
  obtain⟨t,e⟩:=Value.isInt_shape (k:=i) (v:=v) h;exact .inl ⟨i,t,rfl,e⟩
 |.inr x,v,h=>by
  obtain⟨t,e⟩:=Value.isStrOf_shape (x:=x) (v:=v) h;exact .inr ⟨x,t,rfl,e⟩
theorem dG(a b:Int):decide ((Sum.inl a:Key)=Sum.inl b)=(a==b):=by
 by_cases e:a=b
 ·subst e;simp
 ·have h:¬(Sum.inl a:Key)=Sum.inl b:=fun q=>e (Sum.inl.inj q);rw[decide_eq_false h];exact(beq_eq_false_iff_ne.mpr e).symm
theorem bz(a b:Str):decide ((Sum.inr a:Key)=Sum.inr b)=decide (a=b):=by
 by_cases e:a=b
 ·subst e;simp
 ·have h:¬(Sum.inr a:Key)=Sum.inr b:=fun q=>e (Sum.inr.inj q);rw[decide_eq_false h,decide_eq_false e]
theorem bh(a:Int)(b:Str):decide ((Sum.inl a:Key)=Sum.inr b)=false:=decide_eq_false (fun q=>nomatch q)
theorem cx(a:Str)(b:Int):decide ((Sum.inr a:Key)=Sum.inl b)=false:=decide_eq_false (fun q=>nomatch q)
def Nr(prog:Program)(w:World):PySem.KeyKind prog w Key where
 is:=af
 hash:=kO w
 inj:=fun v a b ha hb=>by
  rcases BM ha with⟨i,t,rfl,rfl⟩|⟨x,t,rfl,rfl⟩
  ·rcases BM hb with⟨j,u,rfl,e⟩|⟨y,u,rfl,e⟩
   ·injection e with e1 _;rw[e1]
   ·exact nomatch e
  ·rcases BM hb with⟨j,u,rfl,e⟩|⟨y,u,rfl,e⟩
   ·exact nomatch e
   ·injection e with e1 _;rw[e1]
 byValue:=fun k v h=>by
  rcases BM h with⟨i,t,rfl,rfl⟩|⟨x,t,rfl,rfl⟩<;>rfl
 pyHash:=fun hv h=>by
  rcases BM hv with⟨i,t,rfl,rfl⟩|⟨x,t,rfl,rfl⟩
  ·exact wpAny_pyHash_int h
  ·exact wpAny_pyHash_str h
 eqBool:=fun hu hv h=>by
  rcases BM hu with⟨i,t,rfl,rfl⟩|⟨x,t,rfl,rfl⟩
  ·rcases BM hv with⟨j,u,rfl,rfl⟩|⟨y,u,rfl,rfl⟩
   ·rw[dG]at h;exact wpAny_eqBool_int h
   ·rw[bh]at h;exact SeqAt.EqAt.int_str i t y u _ _ _ _ h
  ·rcases BM hv with⟨j,u,rfl,rfl⟩|⟨y,u,rfl,rfl⟩
   ·rw[cx]at h;exact SeqAt.EqAt.str_int x t j u _ _ _ _ h
   ·rw[bz]at h;exact wpAny_eqBool_str h
 «strs»:=fun k x t v h=>by
  rcases BM h with⟨i,u,rfl,e⟩|⟨y,u,rfl,e⟩
  ·exact nomatch e
  ·injection e with e1 _
   subst e1
   cases v<;>rfl
inductive V where
 |non|bl (b:Bool)|int (i:Int)|str (x:Str)|byt (b:Array UInt8)|flt (b:UInt64)|ref (a:Addr)|ty (n:String)
 deriving DecidableEq
def RelV:V->Value->Prop
 |.non,u=>u=Value.none
 |.bl b,u=>u=Value.bool b
 |.int i,u=>∃t,u=Value.int i t
 |.str x,u=>∃t,u=Value.str x t
 |.byt b,u=>∃t,u=Value.bytes b t
 |.flt b,u=>∃t,u=Value.float b t
 |.ref a,u=>u=Value.ref a
 |.ty n,u=>u=Value.type n
abbrev Vals:List V->List Value->Prop:=Paired RelV
theorem Vals.length{xs:List V}{us:List Value}(r:Vals xs us):xs.length=us.length:=Paired.length r
theorem Vals.get:∀{xs:List V}{us:List Value}{i:Nat}{x:V},Vals xs us->xs[i]?=some x->∃u,us[i]?=some u/\RelV x u
 |_,_,_,_,.nil,e=>by simp at e
 |_,_,0,_,.cons r _,e=>by simp at e;subst e;exact⟨_,rfl,r⟩
 |_,_,i+1,x,.cons _ t,e=>by
  obtain⟨u,h1,h2⟩:=Vals.get (i:=i) (x:=x) t (by simpa using e);exact⟨u,by simpa using h1,h2⟩
theorem Vals.append:∀{xs ys:List V}{us ws:List Value},Vals xs us->Vals ys ws->Vals (xs++ys) (us++ws)
 |_,_,_,_,.nil,s=>s
 |_,_,_,_,.cons r t,s=>.cons r (Vals.append t s)
theorem Vals.take:∀{xs:List V}{us:List Value}(n:Nat),Vals xs us->Vals (xs.take n) (us.take n)
 |_,_,0,_=>.nil
 |_,_,_+1,.nil=>.nil
 |_,_,n+1,.cons r t=>.cons r (Vals.take n t)
theorem Vals.drop:∀{xs:List V}{us:List Value}(n:Nat),Vals xs us->Vals (xs.drop n) (us.drop n)
 |_,_,0,r=>r
 |_,_,_+1,.nil=>.nil
 |_,_,n+1,.cons _ t=>Vals.drop n t
def cb:Option V->Option Value->Prop
 |some v,some u=>RelV v u
 |none,none=>True
 |_,_=>False
def KV{κ:Type}:List (κ×V)->List (κ×Value)->Prop:=Paired fun(p:κ×V)(q:κ×Value)=>p.1=q.1/\RelV p.2 q.2
def kV:Key->V
 |.inl i=>.int i
 |.inr x=>.str x
inductive HO where
  |lst (xs:List V)
  |tup (xs:List V)
  |dK (AV:List (Key×V))|dT (AV:List (List Key×V))
  |set (S:Int->Bool) (n:Nat)
  |ins (C dx:Addr) (fs:List (Str×V))
  |own (x:Addr)
  |xd (fs:List (Str×V))
  |met (f x:Addr)
  |rng (lo hi:Int)
  |frz (o:Obj) (u:HO)
  |tbl (ps:Array Value)
  |ext (φ:Heap->Prop)
abbrev Hp:=Addr->Option HO
def upd(H:Hp)(a:Addr)(o:HO):Hp:=fun b=>if b=a then some o else H b
theorem A2{H:Hp}{a:Addr}{o:HO}:upd H a o a=some o:=by unfold upd;rw[if_pos rfl]
theorem AZ{H:Hp}{a b:Addr}{o:HO}(h:b≠a):upd H a o b=H b:=by unfold upd;rw[if_neg h]
theorem Ak{H:Hp}{a b:Addr}{o:HO}(h:H a=some o)(h':H b=none):a≠b:=by intro e;subst e;rw[h]at h';cases h'
section
variable (P:Program)(w:World)
def ObjOk(H:Hp)(h:Heap)(a:Addr):HO->Prop
 |.lst xs=>xs.length<=sizeLine/\∃(AS:List Value)(n:Nat),Vals xs AS/\h.get? a=some { cls:=.type "list",data:=.seq AS.toArray n }
 |.tup xs=>xs.length<=sizeLine/\∃AS:List Value,Vals xs AS/\IsTup h a AS.toArray
 |.dK AV=>AV.length<=sizeLine/\(a==sysModules)=false/\∃vs,KV AV vs/\h.DictOf (Nr P w) a vs
 |.dT AV=>AV.length<=sizeLine/\(a==sysModules)=false/\∃xs:List (List Key×Addr×Value),
   Paired (fun(p:List Key×V)(q:List Key×Addr×Value)=>p.1=q.1/\H q.2.1=some (.tup (p.1.map kV))/\RelV p.2 q.2.2) AV xs ∧
   ∃o es ep,h.get? a=some o/\o.ExactDict/\o.data=.dict es ep/\es.toList=xs.map (entryOfKey (tupleKind (Nr P w)))/\(xs.map (·.1)).Nodup
 |.set S n=>h.SetOf (intKind P w) a S n
 |.ins C dx fs=>H dx=some (.own a)/\fs.length<=1000/\dx≠a/\h.get? a=some (PySem.W.instObj C dx) ∧
   ∃mA,h.Ns1 dx mA/\(∀f,cb (fs.lookup f) (mA f))/\PySem.Within mA (fs.map (·.1))
 |.own _=>∃o,h.get? a=some o
 |.xd fs=>∃mA,h.Ns1 a mA/\∀f,cb (fs.lookup f) (mA f)
 |.rng lo hi=>∃t u v,h.get? a=some { cls:=.type "range",data:=.fields #[.int lo t,.int hi u,.int 1 v] }
 |.frz o u=>h.get? a=some o/\ObjOk H h a u
 |.tbl ps=>h.get? a=some { cls:=.none,data:=.fields ps }
 |.met f x=>h.get? a=some (PySem.W.methodObj (.ref f) (.ref x))
 |.ext φ=>φ h/\(∃o,h.get? a=some o)/\∀h1 h2:Heap,φ h1->(∀o,h1.get? a=some o->h2.get? a=some o)->φ h2
def HOk(H:Hp)(h:Heap):Prop:=∀a o,H a=some o->ObjOk P w H h a o
end
section
variable {P:Program}{w:World}{H H':Hp}{h h':Heap}{a:Addr}{o:HO}
theorem ObjOk.lt(x:ObjOk P w H h a o):a<h.objs.size:=by
 cases o with
 |lst xs=>obtain⟨_,_,_,_,e⟩:=x;exact Heap.lt_size e
 |tup xs=>obtain⟨_,_,_,p⟩:=x;exact p.lt
 |dK AV=>obtain⟨_,_,_,_,o,_,_,e,_⟩:=x;exact Heap.lt_size e
 |dT AV=>obtain⟨_,_,_,_,o,_,_,e,_⟩:=x;exact Heap.lt_size e
 |set S n=>obtain⟨o,_,_,_,e,_⟩:=x;exact Heap.lt_size e
 |ins C dx fs=>obtain⟨_,_,_,e,_⟩:=x;exact Heap.lt_size e
 |own y=>obtain⟨_,e⟩:=x;exact Heap.lt_size e
 |xd fs=>obtain⟨_,⟨_,_,_,e,_⟩,_⟩:=x;exact Heap.lt_size e
 |rng lo hi=>obtain⟨_,_,_,e⟩:=x;exact Heap.lt_size e
 |frz ob u=>obtain⟨e,_⟩:=x;exact Heap.lt_size e
 |tbl ps=>exact Heap.lt_size (show h.get? a=some _ from x)
 |met f y=>exact Heap.lt_size (show h.get? a=some _ from x)
 |ext φ=>obtain⟨_,⟨_,e⟩,_⟩:=x;exact Heap.lt_size e
theorem Paired.mapP{α β:Type}{F G:α->β->Prop}:∀{l₁:List α}{l₂:List β},Paired F l₁ l₂->(∀a b,F a b->G a b)->Paired G l₁ l₂
 |_,_,.nil,_=>.nil
 |_,_,.cons r t,f=>.cons (f _ _ r) (Paired.mapP t f)
theorem ObjOk.stay(x:ObjOk P w H h a o)(k:∀b u,(b=a\/H b=some (.own a))->h.get? b=some u->h'.get? b=some u)(ho:∀b,H b=some (.own a)->H' b=some (.own a))(ht:∀b xs,H b=some (.tup xs)->H' b=some (.tup xs)):ObjOk P w H' h' a o:=by
 induction o with
 |lst xs=>obtain⟨z,AS,n,r,e⟩:=x;exact⟨z,AS,n,r,k _ _ (.inl rfl) e⟩
 |tup xs=>obtain⟨z,AS,r,ob,e,c⟩:=x;exact⟨z,AS,r,ob,k _ _ (.inl rfl) e,c⟩
 |dK AV=>obtain⟨z,y,vs,r,ob,es,ep,e,c⟩:=x;exact⟨z,y,vs,r,ob,es,ep,k _ _ (.inl rfl) e,c⟩
 |dT AV=>
  obtain⟨z,y,xs,r,ob,es,ep,e,c⟩:=x;exact⟨z,y,xs,Paired.mapP r fun p q z=>⟨z.1,ht _ _ z.2.1,z.2.2⟩,ob,es,ep,k _ _ (.inl rfl) e,c⟩
 |set S n=>obtain⟨ob,es,ep,t,e,c⟩:=x;exact⟨ob,es,ep,t,k _ _ (.inl rfl) e,c⟩
 |ins C dx fs=>
  obtain⟨d,z,ne,e,mA,⟨od,es,ep,e2,c⟩,r⟩:=x;exact⟨ho _ d,z,ne,k _ _ (.inl rfl) e,mA,⟨od,es,ep,k _ _ (.inr d) e2,c⟩,r⟩
 |own y=>obtain⟨ob,e⟩:=x;exact⟨ob,k _ _ (.inl rfl) e⟩
 |xd fs=>obtain⟨mA,⟨od,es,ep,e,c⟩,r⟩:=x;exact⟨mA,⟨od,es,ep,k _ _ (.inl rfl) e,c⟩,r⟩
 |rng lo hi=>obtain⟨t,u,v,e⟩:=x;exact⟨t,u,v,k _ _ (.inl rfl) e⟩
 |frz ob u ih=>obtain⟨e,q⟩:=x;exact⟨k _ _ (.inl rfl) e,ih q⟩
 |tbl ps=>
  have e:h.get? a=some { cls:=.none,data:=.fields ps }:=x;show h'.get? a=some { cls:=.none,data:=.fields ps };exact k a _ (.inl rfl) e
 |met f y=>
  have e:h.get? a=some (PySem.W.methodObj (.ref f) (.ref y)):=x;show h'.get? a=some (PySem.W.methodObj (.ref f) (.ref y));exact k a _ (.inl rfl) e
 |ext φ=>obtain⟨p,⟨o,e⟩,st⟩:=x;exact⟨st _ _ p fun o q=>k _ _ (.inl rfl) q,⟨o,k _ _ (.inl rfl) e⟩,st⟩
theorem HOk.lt(x:HOk P w H h)(e:H a=some o):a<h.objs.size:=(x a o e).lt
theorem HOk.fresh(x:HOk P w H h)(e:h.objs.size<=a):H a=none:=by
 cases q:H a with
 |none=>rfl
 |some u=>exact absurd (Nat.lt_of_lt_of_le (x.lt q) e) (Nat.lt_irrefl _)
theorem HOk.kept(x:HOk P w H h)(k:∀b u,h.get? b=some u->h'.get? b=some u):HOk P w H h':=fun a o e=>
 (x a o e).stay (fun b u _ q=>k b u q) (fun _ q=>q) fun _ _ q=>q
theorem HOk.laid(x:HOk P w H h)(k:∀b u,h.get? b=some u->h'.get? b=some u)(hp:h.objs.size<=a)(new:ObjOk P w (upd H a o) h' a o):HOk P w (upd H a o) h':=fun b u e=>by
 have hn:=x.fresh hp;by_cases hb:b=a
 ·subst hb;rw[A2]at e;cases e;exact new
 ·rw[AZ hb]at e;exact(x b u e).stay (fun c v _ q=>k c v q) (fun c q=>by rw[AZ (Ak q hn)];exact q) fun c xs q=>by rw[AZ (Ak q hn)];exact q
end
def Rd(H:Hp)(a:Addr)(u:HO):Prop:=H a=some u\/∃o,H a=some (.frz o u)
theorem Rd.ok{P:Program}{w:World}{H:Hp}{h:Heap}{a:Addr}{u:HO}(r:Rd H a u)(x:HOk P w H h):ObjOk P w H h a u:=by
 rcases r with r|⟨o,r⟩
 ·exact x a u r
 ·obtain⟨_,q⟩:=x a _ r;exact q
def Mut:Option HO->Prop
 |some (.lst _)=>True
 |some (.dK _)=>True
 |some (.dT _)=>True
 |some (.set _ _)=>True
 |some (.ins _ _ _)=>True
 |some (.ext _)=>True
 |_=>False
section
variable {P:Program}{w:World}{H:Hp}{h h':Heap}{x e:Addr}{o':HO}
theorem HOk.write(ok:HOk P w H h)(mu:Mut (H x))(he:e=x\/H e=some (.own x))(k:∀b u,b≠e->h.get? b=some u->h'.get? b=some u)(dY:∃u,h'.get? e=some u)(new:ObjOk P w (upd H x o') h' x o'):HOk P w (upd H x o') h':=fun b u q=>by
 have fv:∀c y,H c=some (.own y)->c≠x:=fun c y r z=>by subst z;rw[r]at mu;exact mu
 have kA:∀c xs,H c=some (.tup xs)->c≠x:=fun c xs r z=>by subst z;rw[r]at mu;exact mu
 by_cases hb:b=x
 ·subst hb;rw[A2]at q;cases q;exact new
 ·rw[AZ hb]at q;by_cases hbe:b=e
  ·have q':H b=some (.own x):=by
    rcases he with z|z
    ·exact absurd (hbe.trans z) hb
    ·rw[hbe];exact z
   rw[q]at q';cases q';obtain⟨v,hv⟩:=dY;exact⟨v,by rw[hbe];exact hv⟩
  ·refine(ok b u q).stay (fun c v hc r=>k c v ?_ r) (fun c r=>by rw[AZ (fv c b r)];exact r) fun c xs r=>by rw[AZ (kA c xs r)];exact r
   rcases hc with rfl|hc
   ·exact hbe
   ·rintro rfl;rcases he with z|z
    ·exact fv c b hc z
    ·rw[hc]at z;cases z;exact hb rfl
end
structure Un (fs ex:List Addr) (H H':Hp) (h h':Heap):Prop where
 keep:∀b o,h.get? b=some o->H b=none->b∉fs->b∉ex->h'.get? b=some o
 slot:∀b o,h.get? b=some o->H b=none->b∈fs->b∉ex->∃sl,h'.get? b=some { o with slots:=sl }
 free:∀b o,h.get? b=some o->H b=none->b∉ex->H' b=none
 there:∀b o,h.get? b=some o->b∉ex->∃o',h'.get? b=some o'
 tups:∀b xs,H b=some (.tup xs)->H' b=some (.tup xs)
 frzs:∀b o u,H b=some (.frz o u)->H' b=some (.frz o u)
 tbls:∀b ps,H b=some (.tbl ps)->∃more,H' b=some (.tbl (ps++more))
section
variable {fs qc ex qw:List Addr}{H H1 H2:Hp}{h h1 h2 h':Heap}{a x e:Addr}{o:HO}
theorem Un.any(u:Un fs ex H H1 h h1){b:Addr}{ob:Obj}(q:h.get? b=some ob)(n:H b=none)(hx:b∉ex):∃sl,h1.get? b=some { ob with slots:=sl }:=by
 by_cases hb:b∈fs
 ·exact u.slot b ob q n hb hx
 ·exact⟨ob.slots,u.keep b ob q n hb hx⟩
theorem Un.trans(a:Un fs ex H H1 h h1)(b:Un fs ex H1 H2 h1 h2):Un fs ex H H2 h h2 where
 keep:=fun c ob q n hc hx=>b.keep c ob (a.keep c ob q n hc hx) (a.free c ob q n hx) hc hx
 slot:=fun c ob q n hc hx=>by
  obtain⟨sl,e1⟩:=a.slot c ob q n hc hx;obtain⟨jq,e2⟩:=b.slot c _ e1 (a.free c ob q n hx) hc hx;exact⟨jq,e2⟩
 free:=fun c ob q n hx=>by
  obtain⟨o',e1⟩:=a.there c ob q hx;exact b.free c o' e1 (a.free c ob q n hx) hx
 there:=fun c ob q hx=>by
  obtain⟨o',e1⟩:=a.there c ob q hx;exact b.there c o' e1 hx
 tups:=fun c xs q=>b.tups c xs (a.tups c xs q)
 frzs:=fun c ob xs q=>b.frzs c ob xs (a.frzs c ob xs q)
 tbls:=fun c ps q=>by
  obtain⟨m1,e1⟩:=a.tbls c ps q;obtain⟨m2,e2⟩:=b.tbls c _ e1;exact⟨m1++m2,by rw[e2,Array.append_assoc]⟩
theorem Un.kept(k:∀b u,h.get? b=some u->h'.get? b=some u):Un fs ex H H h h':=⟨fun b ob q _ _ _=>k b ob q,fun b ob q _ _ _=>⟨ob.slots,k b ob q⟩,fun _ _ _ n _=>n,fun b ob q _=>⟨ob,k b ob q⟩,fun _ _ q=>q,fun _ _ _ q=>q,fun _ ps q=>⟨#[],by rw[q];simp⟩⟩
theorem Un.refl:Un fs ex H H h h:=Un.kept fun _ _ q=>q
theorem Un.laid(k:∀b u,h.get? b=some u->h'.get? b=some u)(hp:h.objs.size<=a)(hn:H a=none):Un fs ex H (upd H a o) h h' where
 keep:=fun b u q _ _ _=>k b u q
 slot:=fun b u q _ _ _=>⟨u.slots,k b u q⟩
 free:=fun b u q n _=>by rw[AZ (Nat.ne_of_lt (Nat.lt_of_lt_of_le (Heap.lt_size q) hp))];exact n
 there:=fun b u q _=>⟨u,k b u q⟩
 tups:=fun b xs q=>by rw[AZ (Ak q hn)];exact q
 frzs:=fun b u xs q=>by rw[AZ (Ak q hn)];exact q
 tbls:=fun b ps q=>⟨#[],by rw[AZ (Ak q hn),q];simp⟩
theorem Un.write(mu:Mut (H x))(he:e=x\/H e=some (.own x))(k:∀b u,b≠e->h.get? b=some u->h'.get? b=some u)(dY:∃u,h'.get? e=some u):Un fs ex H (upd H x o) h h':=by
 have hx:∀b,H b=none->b≠x:=fun b n z=>by subst z;rw[n]at mu;exact mu
 have hb:∀b,H b=none->b≠e:=fun b n z=>by
  subst z;rcases he with r|r
  ·exact hx b n r
  ·rw[n]at r;cases r
 have hm:∀b u,H b=some u->¬Mut (some u)->b≠x:=fun b u q nm z=>by subst z;rw[q]at mu;exact nm mu
 refine⟨fun b u q n _ _=>k b u (hb b n) q,fun b u q n _ _=>⟨u.slots,k b u (hb b n) q⟩,fun b u q n _=>by rw[AZ (hx b n)];exact n,fun b u q _=>?_,
  fun b xs q=>by rw[AZ (hm b _ q fun z=>z)];exact q,fun b u xs q=>by rw[AZ (hm b _ q fun z=>z)];exact q,fun b ps q=>⟨#[],by rw[AZ (hm b _ q fun z=>z),q];simp⟩⟩
 by_cases hbe:b=e
 ·subst hbe;exact dY
 ·exact⟨u,k b u hbe q⟩
end
def trk(h:Heap)(H:Hp):List Addr:=(List.range h.objs.size).filter fun a=>(H a).isSome
def NY(h:Heap)(H:Hp):Heap:=PySem.W.hideAll h (trk h H)
theorem Tx(h:Heap)(H:Hp):(NY h H).objs.size=h.objs.size:=PySem.W.hideAll_size _ _
theorem WB{h:Heap}{H:Hp}{b:Addr}{o:Obj}(e:h.get? b=some o)(n:H b=none):(NY h H).get? b=some o:=PySem.W.hideAll_get _ e fun hm=>by
  have q:(H b).isSome=true:=(List.mem_filter.mp hm).2;rw[n]at q;simp at q
theorem Y9{h:Heap}{H:Hp}{b:Addr}{o:Obj}(e:(NY h H).get? b=some o):h.get? b=some o/\H b=none:=by
 have e':h.get? b=some o:=PySem.W.of_hideAll (trk h H) e;refine⟨e',?_⟩;cases q:H b with
 |none=>rfl
 |some x=>
  have hm:b∈trk h H:=List.mem_filter.mpr ⟨List.mem_range.mpr (Heap.lt_size e'),by simp[q]⟩;have z:(NY h H).get? b=none:=PySem.W.hideAll_none (trk h H) hm;rw[z]at e;cases e
structure Mod (K:PySem.W.Frag) (mg:Str->Option Value) (base:Heap):Prop where
 kin:K.In base
 glob:base.Ns mainGlobals mg
 blt:∃mb,base.Ns builtinsNs mb/\∀x:Str,x≠"__name__"->mb x=bootBuiltins x
 nolimit:base.NoLimit
structure Cx where
 prog:Program
 w:World
 K:PySem.W.Frag
 mg:Str->Option Value
 base:Heap
 A:Around
 N:List Str
 s₀:Shared
 H₀:Hp
 env:Env
 outer:List Env
 stack:List Env
 ex:List Addr
 fn:Str->Bool
 calm:Bool
 pn:List (Addr×Obj)
 xe:Value->Shared->Prop
def frs(l:List Env):List Addr:=l.filterMap (·.frame)
abbrev Cx.fs(X:Cx):List Addr:=frs X.outer
def Vis(sc:Scope)(x:Str):Prop:=sc.names.lookup x=some .local\/sc.names.lookup x=some .cell\/sc.names.lookup x=some .free
def Loc(sc:Scope)(x:Str):Prop:=sc.names.lookup x=some .local\/sc.names.lookup x=some .cell
def kh(env:Env)(h:Heap)(m:Str->Option Value)(x:Str)(u:Value):Prop:=(env.kindOf x=some .local/\m x=some u)\/((env.kindOf x=some .cell\/env.kindOf x=some .free)/\∃c,env.cells.lookup x=some c/\h.IsCell c (some u))
structure Cx.Ok (X:Cx):Prop where
 mod:Mod X.K X.mg X.base
 kind:X.env.scope.kind=.function
 glob:X.env.globals=mainGlobals
 blt:X.env.builtins=builtinsNs
 above:X.s₀.heap.objs.size<=X.env.locals
 inj:∀x y c,X.env.cells.lookup x=some c->X.env.cells.lookup y=some c->x=y
 has:∀x,(X.env.kindOf x=some .cell\/X.env.kindOf x=some .free)->∃c,X.env.cells.lookup x=some c
 cab:∀x c,X.fn x=true->X.env.cells.lookup x=some c->X.s₀.heap.objs.size<=c
 hd:X.calm=true->X.A.handled=none
 frames:X.A.frames=some X.stack
 stk:X.stack=X.outer\/(X.stack=X.env::X.outer/\X.env.frame=some X.env.locals)
 exf:∀b∈X.ex,b≠X.env.locals/\∀x c,X.env.cells.lookup x=some c->c≠b
 bs:∀b o,X.base.get? b=some o->X.s₀.heap.get? b=some o/\X.H₀ b=none
 bsz:X.base.objs.size<=X.s₀.heap.objs.size
 noex:∀b o,X.base.get? b=some o->b∉X.ex
 exfs:∀b∈X.ex,b∉X.fs
 funs:X.s₀.heap.FunFrames X.base X.outer
 frf:∀b∈X.fs,X.H₀ b=none
structure Inv (X:Cx) (AD:List (Addr×Obj)) (σ:List (Option V)) (H:Hp) (s:Shared):Prop where
 ok:X.Ok
 os:s.os=X.s₀.os
 bare:AllBare s.gens
 base:Un X.fs X.ex X.H₀ H X.s₀.heap s.heap
 loc:∃m,s.heap.Ns X.env.locals m/\∀(i:Nat)(x:Str)(v:V),X.N[i]?=some x->σ[i]?=some (some v)->Vis X.env.scope x->∃u,RelV v u/\kh X.env s.heap m x u
 cell:∀x c,X.env.cells.lookup x=some c->∃v,s.heap.IsCell c v
 free:H X.env.locals=none
 freeC:∀x c,X.env.cells.lookup x=some c->H c=none
 pin:∀p∈X.pn++AD,s.heap.get? p.1=some p.2/\H p.1=none/\p.1≠X.env.locals/\p.1∉X.fs/\∀v,p.2.data≠.cell v
 hok:HOk X.prog X.w H s.heap
 len:σ.length=X.N.length
section
variable {X:Cx}{AD:List (Addr×Obj)}{σ:List (Option V)}{H H':Hp}{s:Shared}{h':Heap}
theorem Cx.Ok.nofr(ok:X.Ok){b:Addr}{o:Obj}(e:X.base.get? b=some o):b∉X.fs:=fun hb=>by
 have:=(ok.funs.mem hb).1
 rw[e]at this;cases this
theorem Inv.bs(I:Inv X AD σ H s):∀b o,X.base.get? b=some o->s.heap.get? b=some o/\H b=none:=fun b o e=>
 ⟨I.base.keep b o (I.ok.bs b o e).1 (I.ok.bs b o e).2 (I.ok.nofr e) (I.ok.noex b o e),I.base.free b o (I.ok.bs b o e).1 (I.ok.bs b o e).2 (I.ok.noex b o e)⟩
theorem Inv.bk(I:Inv X AD σ H s):∀b o,X.base.get? b=some o->s.heap.get? b=some o:=fun b o e=>(I.bs b o e).1
theorem Inv.mod(I:Inv X AD σ H s):Mod X.K X.mg X.base:=I.ok.mod
theorem Inv.kIn(I:Inv X AD σ H s):X.K.In s.heap:=I.ok.mod.kin.keeps I.bk
theorem Inv.lt(I:Inv X AD σ H s):X.env.locals<s.heap.objs.size:=let ⟨_,hn,_⟩:=I.loc;hn.lt
theorem Inv.sz(I:Inv X AD σ H s):X.s₀.heap.objs.size<=s.heap.objs.size:=Nat.le_trans I.ok.above (Nat.le_of_lt I.lt)
theorem Inv.nofs(I:Inv X AD σ H s){a:Addr}(h:s.heap.objs.size<=a):a∉X.fs:=fun hb=>by
 obtain⟨_,o,ho,_⟩:=I.ok.funs.mem hb;exact absurd (Nat.lt_of_lt_of_le (Heap.lt_size ho) (Nat.le_trans I.sz h)) (Nat.lt_irrefl _)
theorem Inv.cne(I:Inv X AD σ H s):∀x c,X.env.cells.lookup x=some c->c≠X.env.locals:=fun x c e z=>by
 obtain⟨v,o,ho,hd⟩:=I.cell x c e;obtain⟨m,⟨o',es,ep,Np,qR,_⟩,_⟩:=I.loc;rw[z,Np]at ho;cases ho;rw[qR]at hd;cases hd
theorem Inv.funs(I:Inv X AD σ H s):s.heap.FunFrames X.base X.outer:=by
 have all:∀(l:List Env),(∀b∈frs l,b∈X.fs)->X.s₀.heap.FunFrames X.base l->s.heap.FunFrames X.base l:=by
  intro l
  induction l with
  |nil=>intro _ _;trivial
  |cons env r ih=>
   intro hs hl;obtain⟨hk,⟨L,o,hf,hn,ho,hd⟩,hr⟩:=hl;have hL:L∈X.fs:=hs L (by unfold frs;rw[List.filterMap_cons,hf];exact List.mem_cons_self);obtain⟨sl,e⟩:=I.base.slot L o ho (I.ok.frf L hL) hL fun z=>I.ok.exfs L z hL;exact⟨hk,⟨L,_,hf,hn,e,hd⟩,ih (fun b hb=>hs b (by unfold frs;rw[List.filterMap_cons,hf];exact List.mem_cons_of_mem _ hb)) hr⟩
 exact all X.outer (fun _ hb=>hb) I.ok.funs
theorem Inv.stack(I:Inv X AD σ H s):s.heap.FunFrames X.base X.stack:=by
 rcases I.ok.stk with e|⟨e,hf⟩
 ·rw[e];exact I.funs
 ·rw[e];obtain⟨m,hn,_⟩:=I.loc;refine .cons (by rw[I.ok.kind];decide) hf hn ?_ I.funs;exact Heap.get?_none_of_le (Nat.le_trans I.ok.bsz I.ok.above)
theorem Inv.stkSub(I:Inv X AD σ H s):∀b∈frs X.stack,b∈X.env.locals::X.fs:=fun b hb=>by
 rcases I.ok.stk with e|⟨e,hf⟩
 ·rw[e]at hb;exact List.mem_cons_of_mem _ hb
 ·rw[e]at hb;unfold frs at hb;rw[List.filterMap_cons,hf]at hb;exact hb
theorem Inv.stkFree(I:Inv X AD σ H s):∀b∈frs X.stack,H b=none:=fun b hb=>by
 rcases List.mem_cons.mp (I.stkSub b hb)with e|hb
 ·rw[e];exact I.free
 ·obtain⟨_,o,ho,_⟩:=I.ok.funs.mem hb;exact I.base.free b o ho (I.ok.frf b hb) fun z=>I.ok.exfs b z hb
theorem Inv.step{g':Array GenState}{t':Nat}{d':Drawn}{ch:List Addr}(I:Inv X AD σ H s)(SD:∀b∈ch,(b∈X.ex\/X.s₀.heap.objs.size<=b)/\b≠X.env.locals/\(∀x c,X.env.cells.lookup x=some c->c≠b)/\∀p∈X.pn++AD,p.1≠b)(keep:∀b o,b≠X.env.locals->b∉X.fs->b∉ch->s.heap.get? b=some o->H b=none->h'.get? b=some o)(slot:∀b o,b≠X.env.locals->b∈X.fs->b∉ch->s.heap.get? b=some o->H b=none->∃sl,h'.get? b=some { o with slots:=sl })(free:∀b o,b∉ch->s.heap.get? b=some o->H b=none->H' b=none)(there:∀b o,b∉ch->s.heap.get? b=some o->∃o',h'.get? b=some o')(tups:∀b xs,H b=some (.tup xs)->H' b=some (.tup xs))(frzs:∀b o u,H b=some (.frz o u)->H' b=some (.frz o u))(tbls:∀b ps,H b=some (.tbl ps)->∃more,H' b=some (.tbl (ps++more)))(ns:∀m,s.heap.Ns X.env.locals m->h'.Ns X.env.locals m)(hok:HOk X.prog X.w H' h')(hg:AllBare g') :
  Inv X AD σ H' { s with heap:=h',gens:=g',drawn:=d',toks:=t' }:=by
 have h9:∀b o,X.s₀.heap.get? b=some o->b≠X.env.locals:=fun b o e=>Nat.ne_of_lt (Nat.lt_of_lt_of_le (Heap.lt_size e) I.ok.above);have iM:∀b o,X.s₀.heap.get? b=some o->b∉X.ex->b∉ch:=fun b o e hx hb=>by
  rcases(SD b hb).1 with z|z
  ·exact hx z
  ·exact absurd (Nat.lt_of_lt_of_le (Heap.lt_size e) z) (Nat.lt_irrefl _)
 have cellK:∀x c,X.env.cells.lookup x=some c->∀v,s.heap.IsCell c v->h'.IsCell c v:=fun x c e v ⟨o,ho,hd⟩=>by
  have Pj:c∉ch:=fun z=>(SD c z).2.2.1 x c e rfl;by_cases hc:c∈X.fs
  ·obtain⟨sl,q⟩:=slot c o (I.cne x c e) hc Pj ho (I.freeC x c e);exact⟨_,q,hd⟩
  ·exact⟨o,keep c o (I.cne x c e) hc Pj ho (I.freeC x c e),hd⟩
 refine⟨I.ok,I.os,hg,⟨fun b o e n hb hx=>?_,fun b o e n hb hx=>?_,fun b o e n hx=>?_,fun b o e hx=>?_,fun b xs e=>tups b xs (I.base.tups b xs e),fun b o xs e=>frzs b o xs (I.base.frzs b o xs e),fun b ps e=>?_⟩,?_,fun x c e=>?_,?_,fun x c e=>?_,fun p hp=>?_,hok,I.len⟩
 ·exact keep b o (h9 b o e) hb (iM b o e hx) (I.base.keep b o e n hb hx) (I.base.free b o e n hx)
 ·obtain⟨sl,e1⟩:=I.base.slot b o e n hb hx;obtain⟨jq,e2⟩:=slot b _ (h9 b o e) hb (iM b o e hx) e1 (I.base.free b o e n hx);exact⟨jq,e2⟩
 ·obtain⟨o',e1⟩:=I.base.there b o e hx;exact free b o' (iM b o e hx) e1 (I.base.free b o e n hx)
 ·obtain⟨o',e1⟩:=I.base.there b o e hx;exact there b o' (iM b o e hx) e1
 ·obtain⟨m1,e1⟩:=I.base.tbls b ps e;obtain⟨m2,e2⟩:=tbls b _ e1;exact⟨m1++m2,by rw[e2,Array.append_assoc]⟩
 ·obtain⟨m,hn,hl⟩:=I.loc;refine⟨m,ns m hn,fun i x v e1 e2 e3=>?_⟩;obtain⟨u,r,l⟩:=hl i x v e1 e2 e3;refine⟨u,r,?_⟩;rcases l with l|⟨k,c,e,z⟩
  ·exact .inl l
  ·exact .inr ⟨k,c,e,cellK x c e _ z⟩
 ·obtain⟨v,z⟩:=I.cell x c e;exact⟨v,cellK x c e v z⟩
 ·obtain⟨m,⟨o,_,_,ho,_⟩,_⟩:=I.loc;exact free _ o (fun z=>(SD _ z).2.1 rfl) ho I.free
 ·obtain⟨v,o,ho,hd⟩:=I.cell x c e;exact free c o (fun z=>(SD c z).2.2.1 x c e rfl) ho (I.freeC x c e)
 ·obtain⟨e,n,ne,nf,d⟩:=I.pin p hp;have Pj:p.1∉ch:=fun z=>(SD p.1 z).2.2.2 p hp rfl;exact⟨keep p.1 p.2 ne nf Pj e n,free p.1 p.2 Pj e n,ne,nf,d⟩
theorem Inv.un{t':Nat}(I:Inv X AD σ H s)(u:Un X.fs [] H H' s.heap h')(hok:HOk X.prog X.w H' h'):Inv X AD σ H' { s with heap:=h',toks:=t' }:=by
 obtain⟨m,⟨o,es,ep,ho,r⟩,_⟩:=id I.loc;obtain⟨sl,hL⟩:=u.any ho I.free (by simp);exact I.step (g':=s.gens) (d':=s.drawn) (ch:=[]) (fun _ z=>nomatch z) (fun b o _ hb _ e n=>u.keep b o e n hb (by simp)) (fun b o _ hb _ e n=>u.slot b o e n hb (by simp)) (fun b o _ e n=>u.free b o e n (by simp)) (fun b o _ e=>u.there b o e (by simp)) u.tups u.frzs u.tbls (fun m' hm=>by
  obtain⟨o',Jj,V4,Np,r'⟩:=hm;rw[ho]at Np;cases Np;exact⟨_,Jj,V4,hL,r'⟩) hok I.bare
theorem Inv.call{g':Array GenState}{t':Nat}{d':Drawn}{ch:List Addr}(I:Inv X AD σ H s)(u:Un (frs X.stack) ch H H' s.heap h')(hok:HOk X.prog X.w H' h')(hg:AllBare g')(SD:∀b∈ch,(b∈X.ex\/X.s₀.heap.objs.size<=b)/\b≠X.env.locals/\(∀x c,X.env.cells.lookup x=some c->c≠b)/\∀p∈X.pn++AD,p.1≠b) :
  Inv X AD σ H' { s with heap:=h',gens:=g',drawn:=d',toks:=t' }:=by
 obtain⟨m,⟨o,es,ep,ho,r⟩,_⟩:=id I.loc;obtain⟨sl,hL⟩:=u.any ho I.free fun z=>(SD _ z).2.1 rfl;exact I.step (ch:=ch) SD (fun b o hL hb hc e n=>u.keep b o e n (fun z=>(List.mem_cons.mp (I.stkSub b z)).elim hL hb) hc) (fun b o _ _ hc e n=>u.any e n hc) (fun b o hc e n=>u.free b o e n hc) (fun b o hc e=>u.there b o e hc) u.tups u.frzs u.tbls (fun m' hm=>by
  obtain⟨o',Jj,V4,Np,r'⟩:=hm;rw[ho]at Np;cases Np;exact⟨_,Jj,V4,hL,r'⟩) hok hg
theorem Inv.turned{t':Nat}{it:Addr}(I:Inv X AD σ H s)(k:∀b o,b≠it->s.heap.get? b=some o->h'.get? b=some o)(hn:H it=none)(hL:it≠X.env.locals)(h1:it∈X.ex\/X.s₀.heap.objs.size<=it)(h2:∀x c,X.env.cells.lookup x=some c->c≠it)(h3:∀p∈X.pn++AD,p.1≠it):Inv X AD σ H { s with heap:=h',toks:=t' }:=by
 have di:∀b u,H b=some u->b≠it:=fun b u e z=>by rw[z,hn]at e;cases e
 refine I.step (g':=s.gens) (d':=s.drawn) (ch:=[it]) (fun b hb=>?_) (fun b o _ _ hc e _=>k b o (fun z=>hc (by simp[z])) e) (fun b o _ _ hc e _=>⟨o.slots,k b o (fun z=>hc (by simp[z])) e⟩) (fun _ _ _ _ n=>n)
  (fun b o hc e=>⟨o,k b o (fun z=>hc (by simp[z])) e⟩) (fun _ _ e=>e) (fun _ _ _ e=>e) (fun b ps e=>⟨#[],by rw[e];simp⟩) (fun m hm=>?_) (fun b u e=>?_) I.bare
 ·have e:b=it:=by simpa using hb
  subst e;exact⟨h1,hL,h2,h3⟩
 ·obtain⟨o,es,ep,ho,r⟩:=hm;exact⟨o,es,ep,k _ o (Ne.symm hL) ho,r⟩
 ·refine(I.hok b u e).stay (fun c v hc q=>k c v ?_ q) (fun _ q=>q) fun _ _ q=>q;rcases hc with z|z
  ·rw[z];exact di b u e
  ·exact di c _ z
theorem Inv.tok(I:Inv X AD σ H s)(t:Nat):Inv X AD σ H { s with toks:=t }:=I.un (h':=s.heap) (t':=t) Un.refl I.hok
theorem Inv.kept{t':Nat}(I:Inv X AD σ H s)(k:∀b u,s.heap.get? b=some u->h'.get? b=some u):Inv X AD σ H { s with heap:=h',toks:=t' }:=I.un (Un.kept k) (I.hok.kept k)
theorem Inv.laid{a:Addr}{o:HO}{t':Nat}(I:Inv X AD σ H s)(k:∀b u,s.heap.get? b=some u->h'.get? b=some u)(hp:s.heap.objs.size<=a)(new:ObjOk X.prog X.w (upd H a o) h' a o) :
  Inv X AD σ (upd H a o) { s with heap:=h',toks:=t' }:=I.un (Un.laid k hp (I.hok.fresh hp)) (I.hok.laid k hp new)
theorem Inv.write{x e:Addr}{o:HO}{t':Nat}(I:Inv X AD σ H s)(mu:Mut (H x))(he:e=x\/H e=some (.own x))(k:∀b u,b≠e->s.heap.get? b=some u->h'.get? b=some u)(dY:∃u,h'.get? e=some u)(new:ObjOk X.prog X.w (upd H x o) h' x o):Inv X AD σ (upd H x o) { s with heap:=h',toks:=t' }:=I.un (Un.write mu he k dY) (I.hok.write mu he k dY new)
theorem Inv.pins_of{Z9:List (Addr×Obj)}(I:Inv X AD σ H s)(h:∀p∈Z9,s.heap.get? p.1=some p.2/\H p.1=none/\p.1≠X.env.locals/\p.1∉X.fs/\∀v,p.2.data≠.cell v):Inv X Z9 σ H s:=⟨I.ok,I.os,I.bare,I.base,I.loc,I.cell,I.free,I.freeC,fun p hp=>(List.mem_append.mp hp).elim (fun z=>I.pin p (List.mem_append_left _ z)) (h p),I.hok,I.len⟩
theorem OA{N:List Str}(hN:N.Nodup){i j:Nat}{x:Str}(a:N[i]?=some x)(b:N[j]?=some x):i=j:=by obtain⟨h1,e1⟩:=List.getElem?_eq_some_iff.mp a;obtain⟨h2,e2⟩:=List.getElem?_eq_some_iff.mp b;exact(List.getElem_inj hN).mp (e1.trans e2.symm)
theorem MI{M:Model}{A:Around}{E:Value->Shared->Prop}{i:Nat}{x:Str}{v:V}{u:Value}{Q:Unit->Shared->Prop}(I:Inv X AD σ H s)(hN:X.N.Nodup)(hi:X.N[i]?=some x)(hx:Loc X.env.scope x)(r:RelV v u)(h:∀s',Inv X AD (σ.set i (some v)) H s'->(∃a,Heap.SameBut a s.heap s'.heap/\(a=X.env.locals\/X.env.cells.lookup x=some a))->Q () s')(hf:X.fn x=true\/X.env.scope.names.lookup x=some .local:=by first|exact .inl rfl|exact .inr rfl|assumption):wpAny M A (storeName X.env x u) Q E s:=by
 obtain⟨m,hn,hl⟩:=id I.loc;have bY:(X.env.scope.kind==.class||(X.env.scope.kind==.module&&X.env.locals != X.env.globals))=false:=by rw[I.ok.kind];rfl
 have hiσ:i<σ.length:=by rw[I.len];exact(List.getElem?_eq_some_iff.mp hi).1
 have cne:=I.cne;have tracked:∀{a:Addr}{h':Heap},(∃o,s.heap.get? a=some o/\H a=none)->Heap.SameBut a s.heap h'->HOk X.prog X.w H h':=fun {a h'} ha hs b ob e=>by
  obtain⟨_,_,Rw⟩:=ha;refine(I.hok b ob e).stay (fun c w' hc q=>(hs.2 c ?_).trans q) (fun _ q=>q) fun _ _ q=>q;rintro rfl;rcases hc with rfl|hc
  ·rw[Rw]at e;cases e
  ·rw[Rw]at hc;cases hc
 rcases hx with hk|hk
 ·refine wpAny_storeName_local hk hn (fun h' UU hs=>?_) bY;obtain⟨oL,_,_,aQ,_⟩:=id hn;refine h _ ⟨I.ok,I.os,I.bare,⟨fun b o e n hb hx=>?_,fun b o e n hb hx=>?_,I.base.free,fun b o e hx=>?_,I.base.tups,I.base.frzs,I.base.tbls⟩,⟨_,UU,fun j y v' e1 e2 e3=>?_⟩,fun y c e=>?_,I.free,I.freeC,fun p hp=>?_,tracked ⟨oL,aQ,I.free⟩ hs,by simpa using I.len⟩ ⟨_,hs,.inl rfl⟩
  ·exact(hs.2 b (Nat.ne_of_lt (Nat.lt_of_lt_of_le (Heap.lt_size e) I.ok.above))).trans (I.base.keep b o e n hb hx)
  ·obtain⟨sl,e1⟩:=I.base.slot b o e n hb hx;exact⟨sl,(hs.2 b (Nat.ne_of_lt (Nat.lt_of_lt_of_le (Heap.lt_size e) I.ok.above))).trans e1⟩
  ·obtain⟨o',e1⟩:=I.base.there b o e hx;exact⟨o',(hs.2 b (Nat.ne_of_lt (Nat.lt_of_lt_of_le (Heap.lt_size e) I.ok.above))).trans e1⟩
  ·by_cases hj:j=i
   ·subst hj;rw[hi]at e1;cases e1;rw[List.getElem?_set_self hiσ]at e2;cases e2;exact⟨u,r,.inl ⟨hk,by simp⟩⟩
   ·rw[List.getElem?_set_ne (Ne.symm hj)]at e2;obtain⟨u',r',q⟩:=hl j y v' e1 e2 e3;refine⟨u',r',?_⟩;rcases q with⟨k,e⟩|⟨k,c,e,z⟩
    ·refine .inl ⟨k,?_⟩;have:y≠x:=fun e=>hj (OA hN e1 (e▸hi));simp[this,e]
    ·exact .inr ⟨k,c,e,z.sameBut hs (cne y c e)⟩
  ·obtain⟨w',z⟩:=I.cell y c e;exact⟨w',z.sameBut hs (cne y c e)⟩
  ·obtain⟨e,n,ne,nf,d⟩:=I.pin p hp;exact⟨(hs.2 p.1 ne).trans e,n,ne,nf,d⟩
 ·have gA:X.fn x=true:=by
   rcases hf with z|z
   ·exact z
   ·rw[z]at hk;cases hk
  obtain⟨c,hc⟩:=I.ok.has x (.inl hk);obtain⟨w',z⟩:=I.cell x c hc;refine wpAny_storeName_cell I.ok.kind hk hc z (fun h' UX hs=>?_);obtain⟨oc,aD,kC⟩:=id z;refine h { s with heap:=h' } ⟨I.ok,I.os,I.bare,⟨fun b o e n hb hx=>?_,fun b o e n hb hx=>?_,I.base.free,fun b o e hx=>?_,I.base.tups,I.base.frzs,I.base.tbls⟩,⟨m,hn.sameBut hs (Ne.symm (cne x c hc)),fun j y v' e1 e2 e3=>?_⟩,fun y c' e=>?_,I.free,I.freeC,fun p hp=>?_,tracked ⟨oc,aD,I.freeC x c hc⟩ hs,by simpa using I.len⟩ ⟨c,hs,.inr hc⟩
  ·exact(hs.2 b (Nat.ne_of_lt (Nat.lt_of_lt_of_le (Heap.lt_size e) (I.ok.cab x c gA hc)))).trans (I.base.keep b o e n hb hx)
  ·obtain⟨sl,e1⟩:=I.base.slot b o e n hb hx;exact⟨sl,(hs.2 b (Nat.ne_of_lt (Nat.lt_of_lt_of_le (Heap.lt_size e) (I.ok.cab x c gA hc)))).trans e1⟩
  ·obtain⟨o',e1⟩:=I.base.there b o e hx;exact⟨o',(hs.2 b (Nat.ne_of_lt (Nat.lt_of_lt_of_le (Heap.lt_size e) (I.ok.cab x c gA hc)))).trans e1⟩
  ·by_cases hj:j=i
   ·subst hj;rw[hi]at e1;cases e1;rw[List.getElem?_set_self hiσ]at e2;cases e2;exact⟨u,r,.inr ⟨.inl hk,c,hc,UX⟩⟩
   ·rw[List.getElem?_set_ne (Ne.symm hj)]at e2;obtain⟨u',r',q⟩:=hl j y v' e1 e2 e3;refine⟨u',r',?_⟩;rcases q with q|⟨k,c',e,z'⟩
    ·exact .inl q
    ·refine .inr ⟨k,c',e,z'.sameBut hs ?_⟩;rintro rfl;exact hj (OA hN e1 (I.ok.inj _ _ _ e hc▸hi))
  ·by_cases Zz:c'=c
   ·subst Zz;exact⟨_,UX⟩
   ·obtain⟨w2,z2⟩:=I.cell y c' e;exact⟨w2,z2.sameBut hs Zz⟩
  ·obtain⟨e,n,ne,nf,d⟩:=I.pin p hp;refine⟨(hs.2 p.1 ?_).trans e,n,ne,nf,d⟩;intro q;rw[q,aD]at e;have q':oc=p.2:=Option.some.inj e;exact d w' (by rw[<-q'];exact kC)
theorem KY{M:Model}{A:Around}{E:Value->Shared->Prop}{i:Nat}{x:Str}{v:V}{u:Value}{Q:Unit->Shared->Prop}(I:Inv X AD σ H s)(hN:X.N.Nodup)(hi:X.N[i]?=some x)(hx:Loc X.env.scope x)(r:RelV v u)(h:∀s',Inv X AD (σ.set i (some v)) H s'->Q () s')(hf:X.fn x=true\/X.env.scope.names.lookup x=some .local:=by first|exact .inl rfl|exact .inr rfl|assumption):wpAny M A (storeName X.env x u) Q E s:=MI I hN hi hx r (fun s' I' _=>h s' I') hf
theorem Inv.call'{s':Shared}{ch:List Addr}(I:Inv X AD σ H s)(ho:s'.os=s.os)(u:Un (frs X.stack) ch H H' s.heap s'.heap)(hok:HOk X.prog X.w H' s'.heap)(hg:AllBare s'.gens)(SD:∀b∈ch,(b∈X.ex\/X.s₀.heap.objs.size<=b)/\b≠X.env.locals/\(∀x c,X.env.cells.lookup x=some c->c≠b)/\∀p∈X.pn++AD,p.1≠b):Inv X AD σ H' s':=by obtain⟨h',g',d',t',o'⟩:=s';have e:o'=s.os:=ho;subst e;exact I.call (g':=g') (t':=t') (d':=d') u hok hg SD
end
abbrev XK:=Value->Option Addr->Hp->Prop
abbrev St:=List (Option V)
abbrev VK:=V->Hp->Prop
abbrev TE:=St->Hp->VK->Prop
abbrev TT:=St->Hp->(Bool->Hp->Prop)->Prop
abbrev TA:=St->Hp->(List V->Hp->Prop)->Prop
structure Ends where
 nx:St->Hp->Prop
 rt:VK
 bk:St->Hp->Prop:=fun _ _=>False
 ct:St->Hp->Prop:=fun _ _=>False
abbrev TS:=Ends->St->Hp->Prop
def EP(X:Cx)(AD:List (Addr×Obj))(σ:St)(Q:VK)(u:Value)(s':Shared):Prop:=∃v H',Inv X AD σ H' s'/\RelV v u/\Q v H'
def TP(X:Cx)(AD:List (Addr×Obj))(σ:St)(Q:Bool->Hp->Prop)(b:Bool)(s':Shared):Prop:=∃H',Inv X AD σ H' s'/\Q b H'
def AP(X:Cx)(AD:List (Addr×Obj))(σ:St)(Q:List V->Hp->Prop)(us:List Value)(s':Shared):Prop:=∃vs H',Inv X AD σ H' s'/\Vals vs us/\Q vs H'
def SP(X:Cx)(AD:List (Addr×Obj))(D:Ends)(f:Flow)(s':Shared):Prop:=match f with
 |.next=>∃σ' H',Inv X AD σ' H' s'/\D.nx σ' H'
 |.brk=>∃σ' H',Inv X AD σ' H' s'/\D.bk σ' H'
 |.cont=>∃σ' H',Inv X AD σ' H' s'/\D.ct σ' H'
 |.ret u=>∃v σ' H',Inv X AD σ' H' s'/\RelV v u/\D.rt v H'
def PE(X:Cx)(e:Expr)(t:TE):Prop:=∀(AD:List (Addr×Obj))(s:Shared)(σ:St)(H:Hp)(Q:VK),Inv X AD σ H s->t σ H Q->wpAny (model X.prog X.w) X.A (eval e X.env) (EP X AD σ Q) X.xe s
def PT(X:Cx)(e:Expr)(t:TT):Prop:=∀(AD:List (Addr×Obj))(s:Shared)(σ:St)(H:Hp)(Q:Bool->Hp->Prop),Inv X AD σ H s->t σ H Q->wpAny (model X.prog X.w) X.A (isTrue e X.env (eval e X.env)) (TP X AD σ Q) X.xe s
def PA(X:Cx)(es:List Expr)(t:TA):Prop:=∀(pos:Pos)(AD:List (Addr×Obj))(s:Shared)(σ:St)(H:Hp)(Q:List V->Hp->Prop),Inv X AD σ H s->t σ H Q->wpAny (model X.prog X.w) X.A (spliced (backTo pos (starEach es X.env))) (AP X AD σ Q) X.xe s
def PS(X:Cx)(st:Stmt)(t:TS):Prop:=∀(AD:List (Addr×Obj))(s:Shared)(σ:St)(H:Hp)(D:Ends),Inv X AD σ H s->t D σ H->wpAny (model X.prog X.w) X.A (exec st X.env) (SP X AD D) X.xe s
def PSs(X:Cx)(st:List Stmt)(t:TS):Prop:=∀(AD:List (Addr×Obj))(s:Shared)(σ:St)(H:Hp)(D:Ends),Inv X AD σ H s->t D σ H->wpAny (model X.prog X.w) X.A (execs st X.env) (SP X AD D) X.xe s
theorem thn{α:Type}{t:Sem α}{Q Q':α->Shared->Prop}{M:Model}{A:Around}{E:Value->Shared->Prop}{s:Shared}(h:wpAny M A t Q E s)(hQ:∀a s,Q a s->Q' a s):wpAny M A t Q' E s:=wpAny_mono h hQ fun _ _ x=>x
section
variable {X:Cx}
def jU(i:Nat):TE:=fun σ H Q=>∃v,σ[i]?=some (some v)/\Q v H
def tC(v:V):TE:=fun _ H Q=>Q v H
theorem cm{i:Nat}{x:Str}{pos:Pos}(hN:X.N[i]?=some x)(hv:Vis X.env.scope x)(hd:(x==("__debug__":Str))=false:=by decide)(Ts:(x==("__classdict__":Str))=false:=by decide):PE X (.Name x pos) (jU i):=by
 intro AD s σ H Q I h;obtain⟨v,e,h⟩:=h;obtain⟨m,hn,hl⟩:=I.loc;obtain⟨u,r,l⟩:=hl i x v hN e hv;have fin:EP X AD σ Q u s:=⟨v,H,I,r,h⟩;rcases l with⟨hk,hm⟩|⟨hk,c,hc,Ri⟩
 ·exact wpAny_Name (wpAny_loadName_local I.ok.kind hk hn hm fin) hd
 ·rcases hk with hk|hk
  ·exact wpAny_Name (wpAny_loadName_cell I.ok.kind hk hc Ri fin) hd
  ·exact wpAny_Name (wpAny_loadName_free I.ok.kind hk hc Ri fin Ts) hd
theorem bC{i j pos}:PE X (.Constant (.int i) j pos) (tC (.int i)):=fun _ _ _ H _ I h=>wpAny_Constant_int ⟨.int i,H,I.tok _,⟨_,rfl⟩,h⟩
theorem dm{b j pos}:PE X (.Constant (.bool b) j pos) (tC (.bl b)):=fun _ _ _ H _ I h=>Constant_bool ⟨.bl b,H,I,rfl,h⟩
theorem az{j pos}:PE X (.Constant .none j pos) (tC .non):=fun _ _ _ H _ I h=>Constant_none ⟨.non,H,I,rfl,h⟩
theorem cP{x j pos}:PE X (.Constant (.str x) j pos) (tC (.str x)):=fun _ _ _ H _ I h=>Calls.Constant_str ⟨.str x,H,I.tok _,⟨_,rfl⟩,h⟩
def Gl(X:Cx)(x:Str):Prop:=X.env.kindOf x=some .globalImplicit
theorem Jq{E:Value->Shared->Prop}{AD:List (Addr×Obj)}{s:Shared}{σ:St}{H:Hp}{x:Str}{u:Value}{pos:Pos}{Q:Value->Shared->Prop}(I:Inv X AD σ H s)(hg:Gl X x)(hm:X.mg x=some u)(h:Q u s)(hd:(x==("__debug__":Str))=false:=by decide):wpAny (model X.prog X.w) X.A (eval (.Name x pos) X.env) Q E s:=Calls.Name_function_global I.ok.kind hg (Calls.loadGlobal_global (by rw[I.ok.glob];exact I.mod.glob.keeps I.bk) hm h) hd
theorem EB{E:Value->Shared->Prop}{AD:List (Addr×Obj)}{s:Shared}{σ:St}{H:Hp}{x:Str}{u:Value}{pos:Pos}{Q:Value->Shared->Prop}(I:Inv X AD σ H s)(hg:Gl X x)(hm:X.mg x=none)(hv:bootBuiltins x=some u)(h:Q u s)(hn:x≠"__name__":=by decide)(hd:(x==("__debug__":Str))=false:=by decide):wpAny (model X.prog X.w) X.A (eval (.Name x pos) X.env) Q E s:=by obtain⟨mb,h1,h2⟩:=I.mod.blt;exact Calls.Name_function_global I.ok.kind hg (Calls.loadGlobal_builtin (by rw[I.ok.glob];exact I.mod.glob.keeps I.bk) hm (by rw[I.ok.blt];exact h1.keeps I.bk) ((h2 x hn).trans hv) h) hd
theorem TJ{x:Str}{v:V}{u:Value}{pos:Pos}(hg:Gl X x)(hm:X.mg x=some u)(r:RelV v u)(hd:(x==("__debug__":Str))=false:=by decide):PE X (.Name x pos) (tC v):=fun _ _ _ H _ I h=>Jq I hg hm ⟨v,H,I,r,h⟩ hd
theorem Zd{x:Str}{v:V}{u:Value}{pos:Pos}(hg:Gl X x)(hm:X.mg x=none)(hv:bootBuiltins x=some u)(r:RelV v u)(hn:x≠"__name__":=by decide)(hd:(x==("__debug__":Str))=false:=by decide):PE X (.Name x pos) (tC v):=fun _ _ _ H _ I h=>EB I hg hm hv ⟨v,H,I,r,h⟩ hn hd
variable {a b:Expr}{ta tb:TE}{pos:Pos}
theorem OO(b:Expr){op:CmpOp}(h:op≠.In)(h2:op≠.NotIn):behindInMarks op b=false:=by
 have e1:(op==CmpOp.In)=false:=by cases op<;>first|rfl|exact absurd rfl h
 have e2:(op==CmpOp.NotIn)=false:=by cases op<;>first|rfl|exact absurd rfl h2
 cases b<;>simp[behindInMarks,e1,e2]
variable {tA qy:TT}{rest:List Expr}
end
def SqL(K:PySem.W.Frag)(H:Hp)(a:Addr)(xs:List V):Prop:=Rd H a (.lst xs) ∨
  ∃(o:Obj)(AS:Array Value)(n:Nat),K.lookup a=some o/\o.cls=.type "list"/\o.dict=none/\o.data=.seq AS n/\AS.size<=sizeLine/\Vals xs AS.toList
def SqT(K:PySem.W.Frag)(H:Hp)(a:Addr)(xs:List V):Prop:=Rd H a (.tup xs) ∨
  ∃(o:Obj)(AS:Array Value)(n:Nat),K.lookup a=some o/\o.cls=.type "tuple"/\o.data=.seq AS n/\AS.size<=sizeLine/\Vals xs AS.toList
def jV:Value->Option V
 |.none=>some .non
 |.bool b=>some (.bl b)
 |.int i _=>some (.int i)
 |.str x _=>some (.str x)
 |.bytes b _=>some (.byt b)
 |.float b _=>some (.flt b)
 |.ref a=>some (.ref a)
 |.type n=>some (.ty n)
 |_=>none
theorem RelV.abs{x:V}{u:Value}(r:RelV x u):jV u=some x:=by
 cases x with
 |non=>cases r;rfl
 |bl _=>cases r;rfl
 |int _=>obtain⟨t,rfl⟩:=r;rfl
 |str _=>obtain⟨t,rfl⟩:=r;rfl
 |byt _=>obtain⟨t,rfl⟩:=r;rfl
 |flt _=>obtain⟨t,rfl⟩:=r;rfl
 |ref _=>cases r;rfl
 |ty _=>cases r;rfl
theorem RelV.inj{x y:V}{u:Value}(r:RelV x u)(q:RelV y u):x=y:=Option.some.inj (r.abs.symm.trans q.abs)
theorem Vals.inj:∀{xs ys:List V}{us:List Value},Vals xs us->Vals ys us->xs=ys
 |_,_,_,.nil,.nil=>rfl
 |_,_,_,.cons r t,.cons r' t'=>by rw[r.inj r',Vals.inj t t']
section
variable {X:Cx}{AD:List (Addr×Obj)}{σ:St}{H:Hp}{s:Shared}{a:Addr}{xs ys:List V}
theorem SqL.of{K:PySem.W.Frag}(h:H a=some (.lst xs)):SqL K H a xs:=.inl (.inl h)
theorem SqT.of{K:PySem.W.Frag}(h:H a=some (.tup xs)):SqT K H a xs:=.inl (.inl h)
theorem Inv.list(I:Inv X AD σ H s)(h:SqL X.K H a xs):∃AS:List Value,Vals xs AS/\PlainL s.heap a AS.toArray/\xs.length<=sizeLine:=by
 rcases h with h|⟨o,AS,n,hk,hc,hd,hs,hz,r⟩
 ·obtain⟨z,AS,n,r,e⟩:=h.ok I.hok;exact⟨AS,r,⟨_,n,e,rfl,rfl,rfl⟩,z⟩
 ·refine⟨AS.toList,r,⟨o,n,I.kIn a o hk,hc,hd,by simpa using hs⟩,?_⟩;have e:=r.length;simp only[Array.length_toList]at e;lia
theorem Inv.tuple(I:Inv X AD σ H s)(h:SqT X.K H a xs):∃AS:List Value,Vals xs AS/\IsTup s.heap a AS.toArray/\xs.length<=sizeLine:=by
 rcases h with h|⟨o,AS,n,hk,hc,hs,hz,r⟩
 ·obtain⟨z,AS,r,p⟩:=h.ok I.hok;exact⟨AS,r,p,z⟩
 ·refine⟨AS.toList,r,⟨o,I.kIn a o hk,hc,n,by simpa using hs⟩,?_⟩;have e:=r.length;simp only[Array.length_toList]at e;lia
theorem Inv.list_inj(I:Inv X AD σ H s)(h:SqL X.K H a xs)(h':SqL X.K H a ys):xs=ys:=by
 obtain⟨AS,r,⟨o,n,e,_,_,d⟩,_⟩:=I.list h;obtain⟨its',r',⟨o',n',e',_,_,d'⟩,_⟩:=I.list h';rw[e]at e';cases e';rw[d]at d';injection d' with d1 _;have:AS=its':=by simpa using congrArg Array.toList d1
 subst this;exact r.inj r'
theorem Inv.tuple_inj(I:Inv X AD σ H s)(h:SqT X.K H a xs)(h':SqT X.K H a ys):xs=ys:=by
 obtain⟨AS,r,⟨o,e,_,n,d⟩,_⟩:=I.tuple h;obtain⟨its',r',⟨o',e',_,n',d'⟩,_⟩:=I.tuple h';rw[e]at e';cases e';rw[d]at d';injection d' with d1 _;have:AS=its':=by simpa using congrArg Array.toList d1
 subst this;exact r.inj r'
end
abbrev Cx.wish(X:Cx)(E:Value->Shared->Prop):Cx:={ X with xe:=E }
abbrev Cx.nox(X:Cx):Cx:=X.wish fun _ _=>False
theorem Cx.Ok.wish{X:Cx}(ok:X.Ok)(E:Value->Shared->Prop):(X.wish E).Ok:=⟨ok.mod,ok.kind,ok.glob,ok.blt,ok.above,ok.inj,ok.has,ok.cab,ok.hd,ok.frames,ok.stk,ok.exf,ok.bs,ok.bsz,ok.noex,ok.exfs,ok.funs,ok.frf⟩
theorem Cx.Ok.unwish{X:Cx}{E:Value->Shared->Prop}(ok:(X.wish E).Ok):X.Ok:=⟨ok.mod,ok.kind,ok.glob,ok.blt,ok.above,ok.inj,ok.has,ok.cab,ok.hd,ok.frames,ok.stk,ok.exf,ok.bs,ok.bsz,ok.noex,ok.exfs,ok.funs,ok.frf⟩
section
variable {X:Cx}{AD:List (Addr×Obj)}{σ:St}{H:Hp}{s:Shared}{E:Value->Shared->Prop}
theorem Inv.wish(I:Inv X AD σ H s)(E:Value->Shared->Prop):Inv (X.wish E) AD σ H s:=⟨I.ok.wish E,I.os,I.bare,I.base,I.loc,I.cell,I.free,I.freeC,I.pin,I.hok,I.len⟩
theorem Inv.unwish(I:Inv (X.wish E) AD σ H s):Inv X AD σ H s:=⟨I.ok.unwish,I.os,I.bare,I.base,I.loc,I.cell,I.free,I.freeC,I.pin,I.hok,I.len⟩
theorem SP.unwish{D:Ends}{f:Flow}{s':Shared}(h:SP (X.wish E) AD D f s'):SP X AD D f s':=by
 cases f with
 |next=>obtain⟨σ',H',I,q⟩:=h;exact⟨σ',H',I.unwish,q⟩
 |brk=>obtain⟨σ',H',I,q⟩:=h;exact⟨σ',H',I.unwish,q⟩
 |cont=>obtain⟨σ',H',I,q⟩:=h;exact⟨σ',H',I.unwish,q⟩
 |ret u=>obtain⟨v,σ',H',I,r,q⟩:=h;exact⟨v,σ',H',I.unwish,r,q⟩
theorem PSs.nox{st:List Stmt}{t:TS}(h:PSs X.nox st t):PSs X st t:=fun AD s σ H D I hw=>
 wpAny_mono (h AD s σ H D (I.wish _) hw) (fun _ _ q=>q.unwish) fun _ _ z=>False.elim z
end
section
variable {X:Cx}{st:Stmt}{rest:List Stmt}{t u:TS}{e:Expr}{te:TE}{pos:Pos}
theorem Inv.quiet{AD:List (Addr×Obj)}{σ:St}{H:Hp}{s:Shared}(I:Inv X AD σ H s):interactive X.env=false:=by simp[interactive,I.ok.kind]
def fD(te:TE):TS:=fun D σ H=>te σ H fun _ H1=>D.nx σ H1
theorem SK(he:PE X e te)(hs:swapsWith e none pos.line X.env=pure false:=by rfl):PS X (.Expr e pos) (fD te):=by intro AD s σ H D I h;exact wpAny_Expr_any (thn (he AD s σ H _ I h) fun v s1 ⟨x,H1,I1,r1,q1⟩=>⟨σ,H1,I1,q1⟩) I.quiet hs
end
abbrev TG:=V->St->Hp->(St->Hp->Prop)->Prop
abbrev TGs:=List V->St->Hp->(St->Hp->Prop)->Prop
def PG(X:Cx)(AM:Expr)(t:TG):Prop:=∀(AD:List (Addr×Obj))(s:Shared)(σ:St)(H:Hp)(v:V)(u:Value)(Q:St->Hp->Prop),Inv X AD σ H s->RelV v u->t v σ H Q →
  wpAny (model X.prog X.w) X.A (assign AM X.env u) (fun _ s'=>∃σ' H',Inv X AD σ' H' s'/\Q σ' H') X.xe s
def PGs(X:Cx)(ts:List Expr)(t:TGs):Prop:=∀(AD:List (Addr×Obj))(s:Shared)(σ:St)(H:Hp)(vs:List V)(us:List Value)(Q:St->Hp->Prop),Inv X AD σ H s->Vals vs us->t vs σ H Q →
  wpAny (model X.prog X.w) X.A (assignInOrder ((assignEach ts X.env).map (·.2)) us) (fun _ s'=>∃σ' H',Inv X AD σ' H' s'/\Q σ' H') X.xe s
abbrev TIp:=V->V->Hp->VK->Prop
def PIp(X:Cx)(op:Operator)(t:TIp):Prop:=∀(AD:List (Addr×Obj))(s:Shared)(σ:St)(H:Hp)(x y:V)(v u:Value)(Q:VK),Inv X AD σ H s->RelV x v->RelV y u->t x y H Q →
  wpAny (model X.prog X.w) X.A (inplaceOp op v u) (EP X AD σ Q) X.xe s
section
variable {X:Cx}{pos:Pos}
def Z3(i:Nat):TG:=fun v σ H Q=>Q (σ.set i (some v)) H
theorem Gj{i:Nat}{x:Str}(hN:X.N.Nodup)(hi:X.N[i]?=some x)(hx:Loc X.env.scope x)(hf:X.fn x=true\/X.env.scope.names.lookup x=some .local:=by first|exact .inl rfl|exact .inr rfl|assumption):PG X (.Name x pos) (Z3 i):=by intro AD s σ H v u Q I r h;exact wpAny_assign_Name (KY I hN hi hx r (fun s' I'=>⟨_,H,I',h⟩) hf)
def iW:TGs:=fun vs σ H Q=>vs=[]/\Q σ H
def eC(t:TG)(u:TGs):TGs:=fun vs σ H Q=>∃v r,vs=v::r/\t v σ H fun σ' H'=>u r σ' H' Q
theorem SI:PGs X [] iW:=by intro AD s σ H vs us Q I r h;obtain⟨e,h⟩:=h;subst e;cases r;exact assignInOrder_nil ⟨σ,H,I,h⟩
theorem GO{e:Expr}{es:List Expr}{t:TG}{u:TGs}(h1:PG X e t)(h2:PGs X es u)(hs:(assignEach (e::es) X.env).map (·.2)=assign e X.env::(assignEach es X.env).map (·.2):=by rfl):PGs X (e::es) (eC t u):=by
 intro AD s σ H vs us Q I r h;obtain⟨v,vr,e1,h⟩:=h;subst e1;cases r with
 |cons r rr=>
  rw[hs];refine assignInOrder_cons (thn (h1 AD s σ H _ _ _ I r h) fun _ s1 ⟨σ1,H1,I1,q1⟩=>?_);exact h2 AD s1 σ1 H1 _ _ Q I1 rr q1
def iR(K:PySem.W.Frag)(n:Nat)(t:TGs):TG:=fun v σ H Q=>∃a xs,v=.ref a/\SqT K H a xs/\xs.length=n/\t xs σ H Q
theorem WO{es:List Expr}{k:Nat}{t:TGs}{n:Nat}(hc:X.calm=true)(h:PGs X es t)(hn:(assignEach es X.env).length=n:=by rfl)(Q7:(assignEach es X.env).findIdx? (·.1)=none:=by rfl):PG X (.Tuple es k pos) (iR X.K n t):=by intro AD s σ H v u Q I r hw;obtain⟨a,xs,e1,hq,hl,hw⟩:=hw;subst e1;cases r;obtain⟨AS,rv,ht,hz⟩:=I.tuple hq;refine assign_Tuple_tuple (I.ok.hd hc) ht (by simp[hn,<-hl,rv.length]) Q7 fun h' hx=>?_;have I1:Inv X AD σ H { s with heap:=h' }:=I.kept (t':=s.toks) fun b o e=>hx b o (Nat.ne_of_lt (Heap.lt_size e)) e;exact h AD _ σ H xs _ Q I1 (by simpa using rv) hw
def iw(te:TE)(g:TG):TS:=fun D σ H=>te σ H fun x H1=>g x σ H1 D.nx
theorem Vo{i:Nat}{x:Str}{e:Expr}{te:TE}{pos':Pos}(hN:X.N.Nodup)(hi:X.N[i]?=some x)(hx:Loc X.env.scope x)(he:PE X e te)(hs:swapsWith e (some (.Name x pos')) pos.line X.env=pure false:=by rfl)(hf:X.fn x=true\/X.env.scope.names.lookup x=some .local:=by first|exact .inl rfl|exact .inr rfl|assumption) :
  PS X (.Assign [.Name x pos'] e pos) (iw te (Z3 i)):=by
 intro AD s σ H D I h;refine wpAny_Assign_Name (thn (he AD s σ H _ I h) fun v s1 ⟨y,H1,I1,r1,q1⟩=>?_) hs;exact KY I1 hN hi hx r1 (fun s2 I2=>⟨_,H1,I2,q1⟩) hf
def jg(i:Nat)(te:TE)(ti:TIp):TS:=fun D σ H=>∃x,σ[i]?=some (some x)/\te σ H fun y H1=>ti x y H1 fun z H2=>D.nx (σ.set i (some z)) H2
theorem dO{i:Nat}{x:Str}{e:Expr}{te:TE}{op:Operator}{ti:TIp}{pos':Pos}(hN:X.N.Nodup)(hi:X.N[i]?=some x)(hx:Loc X.env.scope x)(he:PE X e te)(ho:PIp X op ti)(hf:X.fn x=true\/X.env.scope.names.lookup x=some .local:=by first|exact .inl rfl|exact .inr rfl|assumption) :
  PS X (.AugAssign (.Name x pos') op e pos) (jg i te ti):=by
 intro AD s σ H D I h;obtain⟨v,e1,h⟩:=h;obtain⟨m,hn,hl⟩:=I.loc;have qd:Vis X.env.scope x:=by rcases hx with k|k;exact .inl k;exact .inr (.inl k)
 obtain⟨u,r,l⟩:=hl i x v hi e1 qd;refine wpAny_AugAssign_Name ?_;have go:wpAny (model X.prog X.w) X.A (eval e X.env) (fun w s₂=>wpAny (model X.prog X.w) X.A (inplaceOp op u w) (fun r s₃=>wpAny (model X.prog X.w) X.A (storeName X.env x r) (fun _=>SP X AD D .next) X.xe s₃) X.xe s₂) X.xe s:=by
  refine thn (he AD s σ H _ I h) fun w s1 ⟨y,H1,I1,r1,q1⟩=>?_;refine thn (ho AD s1 σ H1 v y u w _ I1 r r1 q1) fun z s2 ⟨zv,H2,I2,r2,q2⟩=>?_;exact KY I2 hN hi hx r2 (fun s3 I3=>⟨_,H2,I3,q2⟩) hf
 rcases l with⟨hk,hm⟩|⟨hk,c,hc,Ri⟩
 ·exact wpAny_loadName_local I.ok.kind hk hn hm go
 ·rcases hk with hk|hk
  ·exact wpAny_loadName_cell I.ok.kind hk hc Ri go
  ·rcases hx with k|k
   ·have:X.env.scope.names.lookup x=some .free:=hk;rw[k]at this;cases this
   ·have:X.env.scope.names.lookup x=some .free:=hk;rw[k]at this;cases this
def ipI(f:Int->Int->Int):TIp:=fun x y H Q=>∃i j,x=.int i/\y=.int j/\Q (.int (f i j)) H
theorem bj:PIp X .Add (ipI fun i j=>i+j):=by intro AD s σ H x y v u Q I r1 r2 h;obtain⟨i,j,e1,e2,q⟩:=h;subst e1;subst e2;obtain⟨t,rfl⟩:=r1;obtain⟨t',rfl⟩:=r2;exact iadd_int ⟨.int _,H,I.tok _,⟨_,rfl⟩,q⟩
end
structure It where
 go:Nat->Hp->Prop
 yld:Nat->Hp->V->Hp->Prop
 stop:Nat->Hp->Prop
def JK(X:Cx)(AD:List (Addr×Obj))(H:Hp)(b:Addr):Prop:=H b=none/\b≠X.env.locals/\b∉X.fs/\(b∈X.ex\/X.s₀.heap.objs.size<=b)/\(∀x c,X.env.cells.lookup x=some c->c≠b)/\∀p∈X.pn++AD,p.1≠b
theorem Inv.fpOk{X:Cx}{AD:List (Addr×Obj)}{σ:St}{H H':Hp}{s:Shared}{b:Addr}(I:Inv X AD σ H s)(hb:s.heap.objs.size<=b)(hn:H' b=none):JK X AD H' b:=by
 refine⟨hn,Nat.ne_of_gt (Nat.lt_of_lt_of_le I.lt hb),I.nofs hb,.inr (Nat.le_trans I.sz hb),fun x c e z=>?_,fun p hp z=>?_⟩
 ·obtain⟨v,q⟩:=I.cell x c e;exact absurd (Nat.lt_of_lt_of_le q.lt (by rw[z];exact hb)) (Nat.lt_irrefl _)
 ·exact absurd (Nat.lt_of_lt_of_le (Heap.lt_size (I.pin p hp).1) (by rw[z];exact hb)) (Nat.lt_irrefl _)
structure Turn (P:Program) (w:World) (K:PySem.W.Frag) (tg:Expr) (J:It) (fp:List Addr) (it:Addr) (tn:Nat->Heap->Prop):Prop where
 mem:it∈fp
 obj:∀i h,tn i h->∀b∈fp,∃o,h.get? b=some o/\∀v,o.data≠.cell v
 keep:∀i h h',tn i h->(∀b∈fp,∀o,h.get? b=some o->h'.get? b=some o)->tn i h'
 item:∀(X:Cx),X.prog=P->X.w=w->X.K=K->X.calm=true->∀(i:Nat)(AD:List (Addr×Obj))(s:Shared)(σ:St)(H:Hp)(E:Value->Shared->Prop),Inv X AD σ H s->(∀b∈fp,JK X AD H b)->tn i s.heap->J.go i H →
  wpAny (model P w) X.A (pyNext (.ref it)) (fun r s1=>∃u,r=some u ∧
   wpAny (model P w) X.A (letOwnedTupleGo tg (.ref it) u) (fun _ s2=>∃x H',Inv X AD σ H' s2/\RelV x u/\J.yld i H x H'/\tn (i+1) s2.heap/\∀b∈fp,H' b=none) E s1) E s
 done:∀(X:Cx),X.prog=P->X.w=w->X.K=K->X.calm=true->∀(i:Nat)(AD:List (Addr×Obj))(s:Shared)(σ:St)(H:Hp)(E:Value->Shared->Prop),Inv X AD σ H s->(∀b∈fp,JK X AD H b)->tn i s.heap->J.stop i H →
  wpAny (model P w) X.A (pyNext (.ref it)) (fun r s1=>r=none/\Inv X AD σ H s1) E s
 self:∀(A:Around)(i:Nat)(s:Shared)(Q:Value->Shared->Prop)(E:Value->Shared->Prop),tn i s.heap->Q (.ref it) s->wpAny (model P w) A (pyIter (.ref it)) Q E s
abbrev TI:=St->Hp->(It->Hp->Prop)->Prop
def PIE(X:Cx)(AD:List (Addr×Obj))(σ:St)(tg:Expr)(R:It->Hp->Prop)(df:Value)(s2:Shared):Prop:=∃(it:Addr)(fp:List Addr)(tn:Nat->Heap->Prop)(J:It)(H':Hp),df=.ref it/\Inv X AD σ H' s2/\Turn X.prog X.w X.K tg J fp it tn/\tn 0 s2.heap/\(∀b∈fp,JK X AD H' b)/\R J H'
def PI(X:Cx)(tg Ai:Expr)(wi:TI):Prop:=∀(AD:List (Addr×Obj))(s:Shared)(σ:St)(H:Hp)(R:It->Hp->Prop),Inv X AD σ H s->wi σ H R →
  wpAny (model X.prog X.w) X.A (eval Ai X.env) (fun v s1=>wpAny (model X.prog X.w) X.A (pyIter v) (PIE X AD σ tg R) X.xe s1) X.xe s
theorem PW{M : Model}{A : Around}{E : Value → Shared → Prop}{s : Shared}{tg : Expr}{it : Addr}{u : Value}{o : Obj}{n : String}{vs : Array Value}{Q : Unit → Shared → Prop}(ho : s.heap.get? it = some o)(hc : o.cls = .type n)(hd : o.data = .fields vs)(hn : ["enumerate", "zip", "dict_itemiterator", "dict_reverseitemiterator", "odict_iterator", "itertools.zip_longest", "itertools.pairwise"].contains n = false)(hQ : Q () s) : wpAny M A (letOwnedTupleGo tg (.ref it) u) Q E s := by
  unfold letOwnedTupleGo;cases tg <;> first
    | exact wpAny_pure hQ
    | (cases u <;> first
        | exact wpAny_pure hQ
        | (refine wpAny_bind (wpAny_load ho ?_)
           rw[hc, hd];show wpAny M A (if (["enumerate", "zip", "dict_itemiterator", "dict_reverseitemiterator", "odict_iterator", "itertools.zip_longest", "itertools.pairwise"].contains n && vs[0]? == some (rawInt _)) = true then _ else _) Q E s;rw[if_neg (by intro h; rw[hn, Bool.false_and] at h; cases h)];exact wpAny_pure hQ))
def Itl(K:PySem.W.Frag)(a:Addr):It:=⟨fun i H=>∃xs x,SqL K H a xs/\xs[i]?=some x,fun i H x H'=>H'=H/\∀xs,SqL K H a xs->xs[i]?=some x,fun i H=>∃xs,SqL K H a xs/\xs.length<=i⟩
def Itt(K:PySem.W.Frag)(a:Addr):It:=⟨fun i H=>∃xs x,SqT K H a xs/\xs[i]?=some x,fun i H x H'=>H'=H/\∀xs,SqT K H a xs->xs[i]?=some x,fun i H=>∃xs,SqT K H a xs/\xs.length<=i⟩
def Itr(lo:Int)(n:Nat):It:=⟨fun i _=>i<n,fun i H x H'=>H'=H/\x=.int (lo+i),fun i _=>n<=i⟩
theorem UR{P:Program}{w:World}{K:PySem.W.Frag}{tg:Expr}(a it:Addr):Turn P w K tg (Itl K a) [it] it (fun i h=>h.IsListIter it a i) where
 mem:=by simp
 obj:=fun i h st b hb=>by
  have e:b=it:=by simpa using hb
  subst e;obtain⟨o,e,c,d⟩:=st;exact⟨o,e,fun v z=>by rw[d]at z;cases z⟩
 keep:=fun i h h' st k=>st.at fun o e=>k it (by simp) o e
 item:=by
  intro X hP hw hK hc i AD s σ H E I hf st hg;subst hP hw hK;obtain⟨xs,x,hq,hx⟩:=hg;obtain⟨AS,rv,p,hz⟩:=I.list hq;obtain⟨u,hu,ru⟩:=rv.get hx;obtain⟨f0,f1,f2,f3,f4,f5⟩:=hf it (by simp);refine wpAny_pyNext_list_item st p.isList (x:=u) (by simpa using hu) fun h' AR sb=>?_;have I1:Inv X AD σ H { s with heap:=h' }:=I.turned (t':=s.toks) (fun b o hb e=>(sb.2 b hb).trans e) f0 f1 f3 f4 f5;obtain⟨o,e,c,d⟩:=id AR;exact⟨u,rfl,PW (s:={ s with heap:=h' }) e c d (by decide) ⟨x,H,I1,ru,⟨rfl,fun ys hy=>by rw[I.list_inj hy hq];exact hx⟩,AR,fun b hb=>(hf b hb).1⟩⟩
 done:=by
  intro X hP hw hK hc i AD s σ H E I hf st hg;subst hP hw hK;obtain⟨xs,hq,hx⟩:=hg;obtain⟨AS,rv,p,hz⟩:=I.list hq;obtain⟨f0,f1,f2,f3,f4,f5⟩:=hf it (by simp);have hl:=rv.length;exact wpAny_pyNext_list_end (I.ok.hd hc) st p.isList (by simp;lia) fun h' eb=>⟨rfl,I.turned (t':=s.toks) (fun b o hb e=>eb b o hb e) f0 f1 f3 f4 f5⟩
 self:=fun _ _ _ _ _ st h=>wpAny_pyIter_listiter st h
theorem Q1{P:Program}{w:World}{K:PySem.W.Frag}{tg:Expr}(a it:Addr):Turn P w K tg (Itt K a) [it] it (fun i h=>h.IsTupleIter it a i) where
 mem:=by simp
 obj:=fun i h st b hb=>by
  have e:b=it:=by simpa using hb
  subst e;obtain⟨o,e,c,d⟩:=st;exact⟨o,e,fun v z=>by rw[d]at z;cases z⟩
 keep:=fun i h h' st k=>st.at fun o e=>k it (by simp) o e
 item:=by
  intro X hP hw hK hc i AD s σ H E I hf st hg;subst hP hw hK;obtain⟨xs,x,hq,hx⟩:=hg;obtain⟨AS,rv,p,hz⟩:=I.tuple hq;obtain⟨u,hu,ru⟩:=rv.get hx;obtain⟨f0,f1,f2,f3,f4,f5⟩:=hf it (by simp);refine wpAny_pyNext_tuple_item st (show s.heap.IsTuple a AS.toArray from p) (x:=u) (by simpa using hu) fun h' AR sb=>?_;have I1:Inv X AD σ H { s with heap:=h' }:=I.turned (t':=s.toks) (fun b o hb e=>(sb.2 b hb).trans e) f0 f1 f3 f4 f5;obtain⟨o,e,c,d⟩:=id AR;exact⟨u,rfl,PW (s:={ s with heap:=h' }) e c d (by decide) ⟨x,H,I1,ru,⟨rfl,fun ys hy=>by rw[I.tuple_inj hy hq];exact hx⟩,AR,fun b hb=>(hf b hb).1⟩⟩
 done:=by
  intro X hP hw hK hc i AD s σ H E I hf st hg;subst hP hw hK;obtain⟨xs,hq,hx⟩:=hg;obtain⟨AS,rv,p,hz⟩:=I.tuple hq;obtain⟨f0,f1,f2,f3,f4,f5⟩:=hf it (by simp);have hl:=rv.length;exact wpAny_pyNext_tuple_end (I.ok.hd hc) st (show s.heap.IsTuple a AS.toArray from p) (by simp;lia) fun h' eb=>⟨rfl,I.turned (t':=s.toks) (fun b o hb e=>eb b o hb e) f0 f1 f3 f4 f5⟩
 self:=fun _ _ _ _ _ st h=>wpAny_pyIter_tupleiter st h
theorem QM{P:Program}{w:World}{K:PySem.W.Frag}{tg:Expr}(it:Addr)(lo:Int)(n:Nat):Turn P w K tg (Itr lo n) [it] it (fun i h=>IsRangeIter h it (lo+(i:Nat)*1) ((n:Int)-(i:Nat)) 1) where
 mem:=by simp
 obj:=fun i h st b hb=>by
  have e:b=it:=by simpa using hb
  subst e;exact⟨_,st,fun v z=>by
   have z':Data.fields _=Data.cell v:=z;cases z'⟩
 keep:=fun i h h' st k=>k it (by simp) _ st
 item:=by
  intro X hP hw hK hc i AD s σ H E I hf st hg;subst hP hw hK;obtain⟨f0,f1,f2,f3,f4,f5⟩:=hf it (by simp);have W:=Walks.range (prog:=X.prog) (w:=X.w) (I.ok.hd hc) it lo 1 n;refine W.item i s _ _ hg st fun v h' tk hv AR kk=>?_;obtain⟨t,rfl⟩:=hv;have I1:Inv X AD σ H { s with heap:=h',toks:=tk }:=I.turned (fun b o hb e=>kk b o (by simpa using hb) e) f0 f1 f3 f4 f5;refine⟨_,rfl,PW (s:={ s with heap:=h',toks:=tk }) (n:="range_iterator") AR rfl rfl (by decide) ⟨.int (lo+i),H,I1,⟨t,?_⟩,⟨rfl,rfl⟩,AR,fun b hb=>(hf b hb).1⟩⟩;rw[Int.mul_one]
 done:=by
  intro X hP hw hK hc i AD s σ H E I hf st hg;subst hP hw hK;obtain⟨f0,f1,f2,f3,f4,f5⟩:=hf it (by simp);exact wpAny_pyNext_range_end (I.ok.hd hc) st (by have:n<=i:=hg;lia) fun h' eb=>⟨rfl,I.turned (t':=s.toks) (fun b o hb e=>eb b o hb e) f0 f1 f3 f4 f5⟩
 self:=fun _ _ _ _ _ st h=>wpAny_pyIter_rangeiter st h
section
variable {X:Cx}{tg:Expr}
def du(K:PySem.W.Frag)(tl:TE):TI:=fun σ H R=>tl σ H fun x H1=>∃a,x=.ref a/\(∃xs,SqL K H1 a xs)/\R (Itl K a) H1
def jT(K:PySem.W.Frag)(tl:TE):TI:=fun σ H R=>tl σ H fun x H1=>∃a,x=.ref a/\(∃xs,SqT K H1 a xs)/\R (Itt K a) H1
theorem Y8{l:Expr}{tl:TE}(hl:PE X l tl):PI X tg l (du X.K tl):=by
 intro AD s σ H R I h;refine thn (hl AD s σ H _ I h) fun v s1 ⟨x,H1,I1,r1,q1⟩=>?_;obtain⟨a,e,⟨xs,hq⟩,q⟩:=q1;subst e;cases r1;obtain⟨AS,rv,p,hz⟩:=I1.list hq;refine wpAny_pyIter_list p.isList ?_;refine⟨s1.heap.objs.size,[s1.heap.objs.size],_,_,H1,rfl,I1.kept (t':=s1.toks) fun b o e=>Heap.get?_push_of_some _ e,UR a _,⟨_,Heap.get?_push_size _ rfl,rfl,rfl⟩,fun b hb=>?_,q⟩;have e:b=s1.heap.objs.size:=by simpa using hb
 subst e;exact I1.fpOk (Nat.le_refl _) (I1.hok.fresh (Nat.le_refl _))
theorem ay{l:Expr}{tl:TE}(hl:PE X l tl):PI X tg l (jT X.K tl):=by
 intro AD s σ H R I h;refine thn (hl AD s σ H _ I h) fun v s1 ⟨x,H1,I1,r1,q1⟩=>?_;obtain⟨a,e,⟨xs,hq⟩,q⟩:=q1;subst e;cases r1;obtain⟨AS,rv,p,hz⟩:=I1.tuple hq;refine wpAny_pyIter_tuple (show s1.heap.IsTuple a AS.toArray from p) ?_;refine⟨s1.heap.objs.size,[s1.heap.objs.size],_,_,H1,rfl,I1.kept (t':=s1.toks) fun b o e=>Heap.get?_push_of_some _ e,Q1 a _,⟨_,Heap.get?_push_size _ rfl,rfl,rfl⟩,fun b hb=>?_,q⟩;have e:b=s1.heap.objs.size:=by simpa using hb
 subst e;exact I1.fpOk (Nat.le_refl _) (I1.hok.fresh (Nat.le_refl _))
theorem OT{AD:List (Addr×Obj)}{σ:St}{H:Hp}{s:Shared}{R:It->Hp->Prop}{E:Value->Shared->Prop}{lo hi:Int}{t u v:Tok}{tk:Nat}(I:Inv X AD σ H s)(h1:-(2 ^ 62)<=lo)(h2:lo<2 ^ 62)(h3:-(2 ^ 62)<=hi)(h4:hi<2 ^ 62)(q:R (Itr lo (hi-lo).toNat) H):wpAny (model X.prog X.w) X.A (pyIter (.ref s.heap.objs.size)) (PIE X AD σ tg R) E { s with heap:=s.heap.push { cls:=.type "range",data:=.fields #[.int lo t,.int hi u,.int 1 v] },toks:=tk }:=by
 refine wpAny_pyIter_range (IsRange.new ..) (small_one h1 h2 h3 h4) ?_;have I1:Inv X AD σ H { s with heap:=s.heap.push { cls:=.type "range",data:=.fields #[.int lo t,.int hi u,.int 1 v] },toks:=tk }:=I.kept fun b o e=>Heap.get?_push_of_some _ e;refine⟨(s.heap.push { cls:=.type "range",data:=.fields #[.int lo t,.int hi u,.int 1 v] }).objs.size,[(s.heap.push { cls:=.type "range",data:=.fields #[.int lo t,.int hi u,.int 1 v] }).objs.size],_,_,H,rfl,
  I1.kept (t':=tk) fun b o e=>Heap.get?_push_of_some _ e,QM _ lo (hi-lo).toNat,?_,fun b hb=>?_,q⟩
 ·have e1:lo+((0:Nat):Int)*1=lo:=by simp
  have e2:(((hi-lo).toNat:Nat):Int)-((0:Nat):Int)=Builtin.Range.rangeSize lo hi 1:=by rw[rangeSize_one];split<;>lia
  show IsRangeIter _ _ (lo+((0:Nat):Int)*1) ((((hi-lo).toNat:Nat):Int)-((0:Nat):Int)) 1;rw[e1,e2];exact Heap.get?_push_size _ rfl
 ·have e:b=(s.heap.push { cls:=.type "range",data:=.fields #[.int lo t,.int hi u,.int 1 v] }).objs.size:=by simpa using hb
  subst e;exact I1.fpOk (Nat.le_refl _) (I1.hok.fresh (Nat.le_refl _))
def eU(ta:TA):TI:=fun σ H R=>ta σ H fun vs H1=>∃j:Int,vs=[.int j]/\-(2 ^ 62)<=j/\j<2 ^ 62/\R (Itr 0 j.toNat) H1
def d8(ta:TA):TI:=fun σ H R=>ta σ H fun vs H1=>∃i j:Int,vs=[.int i,.int j]/\(-(2 ^ 62)<=i/\i<2 ^ 62/\-(2 ^ 62)<=j/\j<2 ^ 62)/\R (Itr i (j-i).toNat) H1
theorem Uh{a:Expr}{ta:TA}{p pos:Pos}(hg:Gl X "range")(hm:X.mg "range"=none)(ha:PA X [a] ta)(hs:starEach [a] X.env=[(false,eval a X.env)]:=by rfl):PI X tg (.Call (.Name "range" p) [a] [] pos) (eU ta):=by
 intro AD s σ H R I h;refine Call_ (EB I hg hm boot_range (PyProof.Rows.callWith_type1 (thn (ha pos AD s σ H _ I h) fun us s1 ⟨vs,H1,I1,r1,q1⟩=>?_) hs rfl));obtain⟨j,e,q1,q2,q⟩:=q1;subst e;cases r1 with
 |cons r rr=>
  cases rr;obtain⟨t,rfl⟩:=r;exact call_range_1 (OT I1 (by lia) (by lia) q1 q2 (by simpa using q))
theorem Tz{a b:Expr}{ta:TA}{p pos:Pos}(hg:Gl X "range")(hm:X.mg "range"=none)(ha:PA X [a,b] ta)(hs:starEach [a,b] X.env=[(false,eval a X.env),(false,eval b X.env)]:=by rfl)(NM:starEach [b] X.env=[(false,eval b X.env)]:=by rfl) :
  PI X tg (.Call (.Name "range" p) [a,b] [] pos) (d8 ta):=by
 intro AD s σ H R I h;refine Call_ (EB I hg hm boot_range (PyProof.Rows.callWith_type1 (thn (ha pos AD s σ H _ I h) fun us s1 ⟨vs,H1,I1,r1,q1⟩=>?_) (by rw[hs,NM]) (by rw[NM];rfl)));obtain⟨i,j,e,⟨q1,q2,q3,q4⟩,q⟩:=q1;subst e;cases r1 with
 |cons r rr=>
  cases rr with
  |cons r' rr=>
   cases rr;obtain⟨t,rfl⟩:=r;obtain⟨t',rfl⟩:=r';exact call_range_2 (OT I1 q1 q2 q3 q4 q)
def NA(fp:List Addr)(h:Heap):List (Addr×Obj):=fp.filterMap fun b=>(h.get? b).map fun o=>(b,o)
theorem E7{fp:List Addr}{h:Heap}{b:Addr}{o:Obj}(hb:b∈fp)(e:h.get? b=some o):(b,o)∈NA fp h:=List.mem_filterMap.mpr ⟨b,hb,by rw[e];rfl⟩
theorem UO{fp:List Addr}{h:Heap}{p:Addr×Obj}(hp:p∈NA fp h):p.1∈fp/\h.get? p.1=some p.2:=by
 obtain⟨b,hb,e⟩:=List.mem_filterMap.mp hp;cases q:h.get? b with
 |none=>rw[q]at e;cases e
 |some o=>
  rw[q]at e;have e':(b,o)=p:=Option.some.inj e;subst e';exact⟨hb,q⟩
theorem Inv.pinned{AD:List (Addr×Obj)}{σ:St}{H:Hp}{s:Shared}{fp:List Addr}(I:Inv X AD σ H s)(hf:∀b∈fp,JK X AD H b)(ho:∀b∈fp,∃o,s.heap.get? b=some o/\∀v,o.data≠.cell v):Inv X (AD++NA fp s.heap) σ H s:=I.pins_of fun p hp=>(List.mem_append.mp hp).elim (fun z=>I.pin p (List.mem_append_right _ z)) fun z=>by
  obtain⟨hb,e⟩:=UO z;obtain⟨f0,f1,f2,_⟩:=hf p.1 hb;obtain⟨o,e',d⟩:=ho p.1 hb;rw[e]at e';cases e';exact⟨e,f0,f1,f2,d⟩
theorem Inv.unpinned{AD pl:List (Addr×Obj)}{σ:St}{H:Hp}{s:Shared}(I:Inv X (AD++pl) σ H s):Inv X AD σ H s:=I.pins_of fun p hp=>I.pin p (List.mem_append_right _ (List.mem_append_left _ hp))
end
abbrev R2:=V->V->Hp->VK->Prop
def OpR(X:Cx)(f:Value->Value->Sem Value)(r:R2):Prop:=∀(AD:List (Addr×Obj))(s:Shared)(σ:St)(H:Hp)(x y:V)(v u:Value)(Q:VK),Inv X AD σ H s->RelV x v->RelV y u->r x y H Q →
  wpAny (model X.prog X.w) X.A (f v u) (EP X AD σ Q) X.xe s
def UnR(X:Cx)(f:Value->Sem Value)(r:V->Hp->VK->Prop):Prop:=∀(AD:List (Addr×Obj))(s:Shared)(σ:St)(H:Hp)(x:V)(v:Value)(Q:VK),Inv X AD σ H s->RelV x v->r x H Q →
  wpAny (model X.prog X.w) X.A (f v) (EP X AD σ Q) X.xe s
def CM(X:Cx)(f:Value)(r:List V->Hp->VK->Prop):Prop:=∀(AD:List (Addr×Obj))(s:Shared)(σ:St)(H:Hp)(xs:List V)(us:List Value)(Q:VK),Inv X AD σ H s->Vals xs us->r xs H Q →
  wpAny (model X.prog X.w) X.A (call f us) (EP X AD σ Q) X.xe s
def kj(X:Cx)(r:V->Hp->(Bool->Hp->Prop)->Prop):Prop:=∀(AD:List (Addr×Obj))(s:Shared)(σ:St)(H:Hp)(x:V)(v:Value)(Q:Bool->Hp->Prop),Inv X AD σ H s->RelV x v->r x H Q →
  wpAny (model X.prog X.w) X.A (truthy v) (TP X AD σ Q) X.xe s
def tOp(r:R2)(ta tb:TE):TE:=fun σ H Q=>ta σ H fun x H1=>tb σ H1 fun y H2=>r x y H2 Q
def tUn(r:V->Hp->VK->Prop)(ta:TE):TE:=fun σ H Q=>ta σ H fun x H1=>r x H1 Q
def rI(C:Int->Int->Prop)(g:Int->Int->V):R2:=fun x y H Q=>∃i j,x=.int i/\y=.int j/\C i j/\Q (g i j) H
def rI0(g:Int->Int->V):R2:=fun x y H Q=>∃i j,x=.int i/\y=.int j/\Q (g i j) H
def rU(g:Int->V):V->Hp->VK->Prop:=fun x H Q=>∃i,x=.int i/\Q (g i) H
section
variable {X:Cx}{a b c:Expr}{ta tb tc:TE}{pos:Pos}
theorem gV(ha:PE X a ta)(hb:PE X b tb){AD:List (Addr×Obj)}{s:Shared}{σ:St}{H:Hp}{R:V->V->Hp->Prop}(I:Inv X AD σ H s)(h:ta σ H fun x H1=>tb σ H1 fun y H2=>R x y H2){Q:Value->Shared->Prop}{f:Value->Value->Sem Value}(hf:∀v u s2 x y H2,Inv X AD σ H2 s2->RelV x v->RelV y u->R x y H2->wpAny (model X.prog X.w) X.A (f v u) Q X.xe s2) :
  wpAny (model X.prog X.w) X.A (eval a X.env) (fun v s₁=>wpAny (model X.prog X.w) X.A (eval b X.env) (fun u s₂=>wpAny (model X.prog X.w) X.A (f v u) Q X.xe s₂) X.xe s₁) X.xe s:=by
 refine thn (ha AD s σ H _ I h) fun v s1 ⟨x,H1,I1,r1,q1⟩=>?_;refine thn (hb AD s1 σ H1 _ I1 q1) fun u s2 ⟨y,H2,I2,r2,q2⟩=>?_;exact hf v u s2 x y H2 I2 r1 r2 q2
theorem aI{op:Operator}{r:R2}(ho:OpR X (binaryOp op) r)(ha:PE X a ta)(hb:PE X b tb):PE X (.BinOp a op b pos) (tOp r ta tb):=by intro AD s σ H Q I h;exact wpAny_BinOp (gV ha hb I h fun v u s2 x y H2 I2 rx ry q=>ho AD s2 σ H2 x y v u Q I2 rx ry q)
theorem dw{op:UnaryOp}{r:V->Hp->VK->Prop}(ho:UnR X (unaryOp op) r)(ha:PE X a ta):PE X (.UnaryOp op a pos) (tUn r ta):=by intro AD s σ H Q I h;exact UnaryOp_ (thn (ha AD s σ H _ I h) fun v s1 ⟨x,H1,I1,r1,q1⟩=>ho AD s1 σ H1 x v Q I1 r1 q1)
theorem opI{f:Value->Value->Sem Value}{C:Int->Int->Prop}{g:Int->Int->Int}(rule:∀(i j:Int)(t u:Tok)(s:Shared)(Q:Value->Shared->Prop)(E:Value->Shared->Prop),C i j->Q (.int (g i j) s.toks) { s with toks:=s.toks+1 }->wpAny (model X.prog X.w) X.A (f (.int i t) (.int j u)) Q E s) :
  OpR X f (rI C fun i j=>.int (g i j)):=by
 intro AD s σ H x y v u Q I rx ry h;obtain⟨i,j,rfl,rfl,hc,q⟩:=h;obtain⟨t,rfl⟩:=rx;obtain⟨t',rfl⟩:=ry;exact rule i j t t' s _ _ hc ⟨.int (g i j),H,I.tok _,⟨_,rfl⟩,q⟩
theorem gM{f:Value->Value->Sem Value}{g:Int->Int->Int}(rule:∀(i j:Int)(t u:Tok)(s:Shared)(Q:Value->Shared->Prop)(E:Value->Shared->Prop),Q (.int (g i j) s.toks) { s with toks:=s.toks+1 }->wpAny (model X.prog X.w) X.A (f (.int i t) (.int j u)) Q E s) :
  OpR X f (rI0 fun i j=>.int (g i j)):=by
 intro AD s σ H x y v u Q I rx ry h;obtain⟨i,j,rfl,rfl,q⟩:=h;obtain⟨t,rfl⟩:=rx;obtain⟨t',rfl⟩:=ry;exact rule i j t t' s _ _ ⟨.int (g i j),H,I.tok _,⟨_,rfl⟩,q⟩
theorem cW{f:Value->Value->Sem Value}{g:Int->Int->Bool}(rule:∀(i j:Int)(t u:Tok)(s:Shared)(Q:Value->Shared->Prop)(E:Value->Shared->Prop),Q (.bool (g i j)) s->wpAny (model X.prog X.w) X.A (f (.int i t) (.int j u)) Q E s) :
  OpR X f (rI0 fun i j=>.bl (g i j)):=by
 intro AD s σ H x y v u Q I rx ry h;obtain⟨i,j,rfl,rfl,q⟩:=h;obtain⟨t,rfl⟩:=rx;obtain⟨t',rfl⟩:=ry;exact rule i j t t' s _ _ ⟨.bl (g i j),H,I,rfl,q⟩
def fC(i j:Int):Prop:=0<j/\j<1073741824
def CMul(i j:Int):Prop:=(-(2 ^ 64)<i/\i<2 ^ 64)\/(-(2 ^ 64)<j/\j<2 ^ 64)
theorem CMul.ok{i j:Int}(h:CMul i j):IntMulOk i j:=by
 rcases h with⟨h1,h2⟩|⟨h1,h2⟩
 ·exact .of_left (intBits_le_64 h1 h2)
 ·exact .of_right (intBits_le_64 h1 h2)
theorem bX:OpR X (binaryOp .Add) (rI0 fun i j=>.int (i+j)):=gM fun _ _ _ _ _ _ _ q=>add_int q
theorem bA:OpR X (binaryOp .Sub) (rI0 fun i j=>.int (i-j)):=gM fun _ _ _ _ _ _ _ q=>sub_int q
theorem av:OpR X (binaryOp .Mult) (rI CMul fun i j=>.int (i*j)):=opI fun _ _ _ _ _ _ _ hc q=>mul_int q hc.ok
theorem YU:OpR X (binaryOp .FloorDiv) (rI fC fun i j=>.int (i / j)):=opI fun i j _ _ _ _ _ hc q=>by
 have h1:(0:Int)<j:=hc.1;have h2:j<1073741824:=hc.2;exact floordiv_int (by lia) (by rw[Int.fdiv_eq_ediv_of_nonneg i (by lia)];exact q) (.inl (PyProof.noPylong_small (by lia)))
theorem dN:OpR X (binaryOp .Mod) (rI (fun _ j=>0<j) fun i j=>.int (i%j)):=opI fun i j _ _ _ _ _ hc q=>by
 have h1:(0:Int)<j:=hc;exact mod_int' (by lia) (by rw[Int.fmod_eq_emod_of_nonneg i (by lia)];exact q)
theorem unI{f:Value->Sem Value}{g:Int->Int}(rule:∀(i:Int)(t:Tok)(s:Shared)(Q:Value->Shared->Prop)(E:Value->Shared->Prop),Q (.int (g i) s.toks) { s with toks:=s.toks+1 }->wpAny (model X.prog X.w) X.A (f (.int i t)) Q E s) :
  UnR X f (rU fun i=>.int (g i)):=by
 intro AD s σ H x v Q I rx h;obtain⟨i,rfl,q⟩:=h;obtain⟨t,rfl⟩:=rx;exact rule i t s _ _ ⟨.int (g i),H,I.tok _,⟨_,rfl⟩,q⟩
theorem dM:UnR X (unaryOp .USub) (rU fun i=>.int (-i)):=unI fun _ _ _ _ _ q=>neg_int q
end
def iS:V->V->Bool
 |.non,.non=>true|.non,.int _=>true|.int _,.non=>true|.non,.bl _=>true|.bl _,.non=>true|.non,.str _=>true|.str _,.non=>true
 |.int _,.int _=>true|.bl _,.bl _=>true|.str _,.str _=>true|.byt _,.byt _=>true
 |.int _,.str _=>true|.str _,.int _=>true|.bl _,.str _=>true|.str _,.bl _=>true
 |_,_=>false
def rEq:R2:=fun x y H Q=>iS x y=true/\Q (.bl (decide (x=y))) H
theorem Ry{i j:Int}:decide (V.int i=V.int j)=(i==j):=by rw[Bool.eq_iff_iff];simp
theorem bL{i j:Bool}:decide (V.bl i=V.bl j)=(i==j):=by rw[Bool.eq_iff_iff];simp
theorem Xs{i j:Str}:decide (V.str i=V.str j)=(i==j):=by rw[Bool.eq_iff_iff];simp
theorem Yg{i j:Array UInt8}:decide (V.byt i=V.byt j)=(i.toList==j.toList):=by rw[Bool.eq_iff_iff];cases i;cases j;simp
section
variable {X:Cx}{a b c:Expr}{ta tb tc:TE}{pos:Pos}
theorem CD{AD:List (Addr×Obj)}{σ:St}{H:Hp}{s:Shared}{Q:VK}{k k':Bool}(I:Inv X AD σ H s)(q:Q (.bl k) H)(e:k=k'):EP X AD σ Q (.bool k') s:=by subst e;exact⟨.bl k,H,I,rfl,q⟩
theorem fQ:OpR X (compareOp .Eq) rEq:=by
 intro AD s σ H x y v u Q I rx ry h;obtain⟨hs,q⟩:=h;cases x with
 |non=>
  cases rx;cases y with
  |non=>cases ry;exact PySem.EqNone.eq_none_none (CD I q (by simp))
  |bl j=>cases ry;exact PySem.EqNone.eq_none_bool (CD I q (by simp))
  |int j=>obtain⟨t',rfl⟩:=ry;exact PySem.EqNone.eq_none_int (CD I q (by simp))
  |str j=>obtain⟨t',rfl⟩:=ry;exact PySem.EqNone.eq_none_str (CD I q (by simp))
  |_=>exact absurd (show false=true from hs) Bool.false_ne_true
 |bl i=>
  cases rx;cases y with
  |non=>cases ry;exact PySem.EqNone.eq_bool_none (CD I q (by simp))
  |bl j=>cases ry;exact eq_bool (CD I q bL)
  |str j=>obtain⟨t',rfl⟩:=ry;exact PySem.EqMixed.eq_bool_str (CD I q (by simp))
  |_=>exact absurd (show false=true from hs) Bool.false_ne_true
 |int i=>
  obtain⟨t,rfl⟩:=rx;cases y with
  |non=>cases ry;exact PySem.EqNone.eq_int_none (CD I q (by simp))
  |int j=>obtain⟨t',rfl⟩:=ry;exact eq_int (CD I q Ry)
  |str j=>obtain⟨t',rfl⟩:=ry;exact PySem.EqMixed.eq_int_str (CD I q (by simp))
  |_=>exact absurd (show false=true from hs) Bool.false_ne_true
 |str i=>
  obtain⟨t,rfl⟩:=rx;cases y with
  |non=>cases ry;exact PySem.EqNone.eq_str_none (CD I q (by simp))
  |bl j=>cases ry;exact PySem.EqMixed.eq_str_bool (CD I q (by simp))
  |int j=>obtain⟨t',rfl⟩:=ry;exact PySem.EqMixed.eq_str_int (CD I q (by simp))
  |str j=>obtain⟨t',rfl⟩:=ry;exact eq_str (CD I q Xs)
  |_=>exact absurd (show false=true from hs) Bool.false_ne_true
 |byt i=>
  obtain⟨t,rfl⟩:=rx;cases y with
  |byt j=>obtain⟨t',rfl⟩:=ry;exact PySem.W.eq_bytes (CD I q Yg)
  |_=>exact absurd (show false=true from hs) Bool.false_ne_true
 |_=>cases y<;>exact absurd (show false=true from hs) Bool.false_ne_true
theorem gZ:OpR X (compareOp .Lt) (rI0 fun i j=>.bl (decide (i<j))):=cW fun _ _ _ _ _ _ _ q=>lt_int q
theorem aG:OpR X (compareOp .LtE) (rI0 fun i j=>.bl (decide (i<=j))):=cW fun _ _ _ _ _ _ _ q=>le_int q
theorem dz:OpR X (compareOp .Gt) (rI0 fun i j=>.bl (decide (j<i))):=cW fun _ _ _ _ _ _ _ q=>gt_int q
theorem ZM:OpR X (compareOp .IsNot) (fun x y H Q=>y=.non/\Q (.bl (!decide (x=.non))) H):=by
 intro AD s σ H x y v u Q I rx ry h;obtain⟨rfl,q⟩:=h;cases ry;refine isnot_none_gen (CD I q ?_);cases x<;>first
  |(cases rx;rfl)
  |(obtain⟨t,rfl⟩:=rx;rfl)
def fw(t:TE):TT:=fun σ H Q=>t σ H fun x H'=>∃k,x=.bl k/\Q k H'
def cq(r r':R2)(ta tb tc:TE):TE:=fun σ H Q=>ta σ H fun x H1=>tb σ H1 fun y H2=>r x y H2 fun z H3=>∃k,z=.bl k ∧
 (if k=true then tc σ H3 fun w' H4=>r' y w' H4 Q else Q (.bl false) H3)
theorem Vw{op jS:CmpOp}{r r':R2}(ho:OpR X (compareOp op) r)(Np:OpR X (compareOp jS) r')(ha:PE X a ta)(hb:PE X b tb)(hc:PE X c tc)(hm:lastMarks [op,jS] [b,c]=false:=by with_unfolding_all rfl):PT X (.Compare a [op,jS] [b,c] pos) (fw (cq r r' ta tb tc)):=by
 intro AD s σ H Q I h;refine isTrue_chain (thn (ha AD s σ H _ I h) fun v s1 ⟨x,H1,I1,r1,q1⟩=>test_link (thn (hb AD s1 σ H1 _ I1 q1) fun u s2 ⟨y,H2,I2,r2,q2⟩=>
  thn (ho AD s2 σ H2 x y v u _ I2 r1 r2 q2) fun d s3 ⟨z,H3,I3,r3,k,e,q3⟩=>?_)) hm
 subst e;cases r3;refine wpAny_truthy_bool ?_;cases k with
 |false=>
  obtain⟨k',e',q'⟩:=q3;cases e';exact ite_ff ⟨H3,I3,q'⟩
 |true=>
  refine ite_tt (test_last (thn (hc AD s3 σ H3 _ I3 q3) fun w' s4 ⟨z',H4,I4,r4,q4⟩=>thn (Np AD s4 σ H4 y z' u w' _ I4 r2 r4 q4) fun d' s5 ⟨z2,H5,I5,r5,k2,e2,q5⟩=>?_));subst e2;cases r5;exact wpAny_truthy_bool ⟨H5,I5,q5⟩
def bF(K:PySem.W.Frag)(x:V)(H:Hp)(k:Bool):Prop:=match x with
 |.non=>k=false
 |.bl b=>k=b
 |.int i=>k=(i != 0)
 |.str y=>y.length<=sizeLine/\k=((y.length:Int) != 0)
 |.byt y=>y.size<=sizeLine/\k=((y.size:Int) != 0)
 |.ref p=>(∃xs,SqL K H p xs/\k=!xs.isEmpty)\/(∃xs,SqT K H p xs/\k=!xs.isEmpty)\/∃AV,H p=some (.dK AV)/\k=!AV.isEmpty
 |_=>False
theorem QQ{κ:Type}{AV:List (κ×V)}{vs:List (κ×Value)}(r:KV AV vs):(!vs.isEmpty)=!AV.isEmpty:=by cases r<;>rfl
theorem LO{xs:List V}{AS:List Value}(r:Vals xs AS):(!AS.toArray.isEmpty)=!xs.isEmpty:=by cases r<;>simp
theorem KU:(sizeLine:Nat)<2 ^ 63:=by rw[sizeLine_eq];decide
theorem cL:kj X (fun x H Q=>∃k,bF X.K x H k/\Q k H):=by
 intro AD s σ H x v Q I rx h;obtain⟨k,e,q⟩:=h;have hl:=KU;have hs:sizeLine=16777216:=sizeLine_eq;cases x with
 |non=>
  cases rx;have e':k=false:=e;subst e';exact truthy_none ⟨H,I,q⟩
 |bl b=>
  cases rx;have e':k=b:=e;subst e';exact wpAny_truthy_bool ⟨H,I,q⟩
 |int i=>
  obtain⟨t,rfl⟩:=rx;have e':k=(i != 0):=e;subst e';exact PySem.P.truthy_int ⟨H,I,q⟩
 |str y=>
  obtain⟨t,rfl⟩:=rx;obtain⟨hy,e'⟩:y.length<=sizeLine/\k=((y.length:Int) != 0):=e;subst e';exact PySem.P.truthy_str (by lia) ⟨H,I.tok _,q⟩
 |byt y=>
  obtain⟨t,rfl⟩:=rx;obtain⟨hy,e'⟩:y.size<=sizeLine/\k=((y.size:Int) != 0):=e;subst e';exact PySem.W.truthy_bytes (by lia) ⟨H,I.tok _,q⟩
 |ref p=>
  cases rx;have e':(∃xs,SqL X.K H p xs/\k=!xs.isEmpty)\/(∃xs,SqT X.K H p xs/\k=!xs.isEmpty)\/∃AV,H p=some (.dK AV)/\k=!AV.isEmpty:=e;rcases e' with⟨xs,hx,e'⟩|⟨xs,hx,e'⟩|⟨AV,hx,e'⟩
  ·subst e';obtain⟨AS,r,pl,hz⟩:=I.list hx;have Au:=r.length;exact wpAny_truthy_list pl.isList (by simp only[List.size_toArray];lia) ⟨H,I.tok _,by rw[LO r];exact q⟩
  ·subst e';obtain⟨AS,r,pl,hz⟩:=I.tuple hx;have Au:=r.length;exact truthy_tuple pl (by simp only[List.size_toArray];lia) ⟨H,I.tok _,by rw[LO r];exact q⟩
  ·subst e';obtain⟨hz,hS,vs,r,m⟩:AV.length<=sizeLine/\(p==sysModules)=false/\∃vs,KV AV vs/\s.heap.DictOf (Nr X.prog X.w) p vs:=I.hok p _ hx;have Au:AV.length=vs.length:=Paired.length r;exact wpAny_truthy_dict hS m (by lia) ⟨H,I.tok _,by rw[QQ r];exact q⟩
 |_=>exact(show False from e).elim
theorem PL(ha:PE X a ta)(he:∀whole,isTrue a X.env whole=(do let v <-whole;standAt a.pos;holding [v] (truthy v))) :
  PT X a (fun σ H Q=>ta σ H fun x H'=>∃k,bF X.K x H' k/\Q k H'):=by
 intro AD s σ H Q I h;exact isTrue_plain (thn (ha AD s σ H _ I h) fun v s1 ⟨x,H1,I1,r1,q1⟩=>cL AD s1 σ H1 x v Q I1 r1 q1) (he _)
theorem G6{x:V}{us:List Value}(r:Vals [x] us):∃u,us=[u]/\RelV x u:=by
 cases r with
 |cons r1 r2=>cases r2;exact⟨_,rfl,r1⟩
theorem LG{x y:V}{us:List Value}(r:Vals [x,y] us):∃u w',us=[u,w']/\RelV x u/\RelV y w':=by
 cases r with
 |cons r1 r2=>
  cases r2 with
  |cons r3 r4=>cases r4;exact⟨_,_,rfl,r1,r3⟩
theorem U3:CM X (.builtin "abs") (fun xs H Q=>∃i,xs=[.int i]/\Q (.int (if i<0 then -i else i)) H):=by intro AD s σ H xs us Q I r h;obtain⟨i,rfl,q⟩:=h;obtain⟨u,rfl,t,rfl⟩:=G6 r;exact call_abs_int fun u tk=>⟨.int (if i<0 then -i else i),H,I.tok _,⟨_,rfl⟩,q⟩
theorem T8(hc:X.calm=true):CM X (.builtin "max") (fun xs H Q=>∃i j,xs=[.int i,.int j]/\Q (.int (if j > i then j else i)) H):=by
 intro AD s σ H xs us Q I r h;obtain⟨i,j,rfl,q⟩:=h;obtain⟨u,w',rfl,⟨t,rfl⟩,⟨t',rfl⟩⟩:=LG r;refine max_two_ints (I.ok.hd hc) fun h' tk k=>⟨_,H,I.kept k,?_,q⟩;by_cases hj:j > i
 ·rw[if_pos hj,if_pos hj];exact⟨_,rfl⟩
 ·rw[if_neg hj,if_neg hj];exact⟨_,rfl⟩
theorem T2(hc:X.calm=true):CM X (.builtin "min") (fun xs H Q=>∃i j,xs=[.int i,.int j]/\Q (.int (if j<i then j else i)) H):=by
 intro AD s σ H xs us Q I r h;obtain⟨i,j,rfl,q⟩:=h;obtain⟨u,w',rfl,⟨t,rfl⟩,⟨t',rfl⟩⟩:=LG r;refine min_two_ints (I.ok.hd hc) fun h' tk k=>⟨_,H,I.kept k,?_,q⟩;by_cases hj:j<i
 ·rw[if_pos hj,if_pos hj];exact⟨_,rfl⟩
 ·rw[if_neg hj,if_neg hj];exact⟨_,rfl⟩
end
structure ObjM (h:Heap) (x dx C:Addr) (mA:Str->Option Value):Prop where
 obj:h.get? x=some (PySem.W.instObj C dx)
 ns:h.Ns1 dx mA
 ne:dx≠x
theorem UQ{h:Heap}{dx:Addr}{mA:Str->Option Value}(n:h.Ns1 dx mA):∃od,h.get? dx=some od/\∀name,PySem.W.lookIn name od=some (mA name):=by
 obtain⟨o,es,ep,ho,hd,hk,_,hm⟩:=n;refine⟨o,ho,fun name=>?_⟩;have e:=hm name;unfold nsFind findBy at e;rw[<-Array.find?_toList]at e;unfold PySem.W.lookIn;rw[hd];dsimp only;split
 ·rename_i y q;rw[q]at e;exact congrArg some e
 ·rename_i q;rw[q]at e;have a:es.toList.any (·.refKey)=false:=by
   rw[List.any_eq_false];intro y hy;obtain⟨z,t,QX⟩:=hk y (Array.mem_toList_iff.mp hy);simp[DictEntry.refKey,QX]
  have a':¬es.toList.any (·.refKey)=true:=by rw[a];exact Bool.false_ne_true
  rw[if_neg a'];exact congrArg some e
theorem ObjM.look{h:Heap}{x dx C:Addr}{mA:Str->Option Value}(I:ObjM h x dx C mA):∃od,PySem.W.InstAt h x (PySem.W.instObj C dx) C (some od)/\∀name,PySem.W.lookIn name od=some (mA name):=let ⟨od,ho,hl⟩:=UQ I.ns
 ⟨od,⟨I.obj,rfl,rfl,ho⟩,hl⟩
section
variable {P:Program}{w:World}{H H':Hp}{h h':Heap}{a C dx:Addr}{fs qc:List (Str×V)}
theorem Xx(hok:HOk P w H h)(e:H a=some (.ins C dx fs)):∃mA,ObjM h a dx C mA/\(∀f,cb (fs.lookup f) (mA f))/\PySem.Within mA (fs.map (·.1))/\fs.length<=1000/\H dx=some (.own a):=by obtain⟨d,z,ne,ob,mA,n,r,q⟩:=(show ObjOk P w H h a (.ins C dx fs)from hok a _ e);exact⟨mA,⟨ob,n,ne⟩,r,q,z,d⟩
end
structure Cls (K:PySem.W.Frag) (C:Addr):Prop where
 pg:PySem.W.plainGet K C Str.empty=true
 hd:PySem.W.hasDictIn K C=true
 po:PySem.W.plainOver K C=true
 sa:PySem.W.findIn K (.ref C) "__setattr__"=some (some (.builtin "object.__setattr__"))
theorem Cls.get{K:PySem.W.Frag}{C:Addr}(c:Cls K C)(f:Str):PySem.W.plainGet K C f=true:=c.pg
section
variable {X:Cx}{AD:List (Addr×Obj)}{σ:St}{H:Hp}{s:Shared}{A:Around}{E:Value->Shared->Prop}{Q:Value->Shared->Prop}{c:Value}{b:Bool}
inductive TyOf (K:PySem.W.Frag) (H:Hp):V->Value->Prop where
 |non:TyOf K H .non (.type "NoneType")
 |bl (x:Bool):TyOf K H (.bl x) (.type "bool")
 |int (i:Int):TyOf K H (.int i) (.type "int")
 |str (x:Str):TyOf K H (.str x) (.type "str")
 |flt (x:UInt64):TyOf K H (.flt x) (.type "float")
 |lst {a:Addr} {xs:List V} (e:H a=some (.lst xs)):TyOf K H (.ref a) (.type "list")
 |frz {a:Addr} {o:Obj} {xs:List V} (e:H a=some (.frz o (.lst xs))):TyOf K H (.ref a) (.type "list")
 |tup {a:Addr} {xs:List V} (e:H a=some (.tup xs)):TyOf K H (.ref a) (.type "tuple")
 |dK {a:Addr} {AV:List (Key×V)} (e:H a=some (.dK AV)):TyOf K H (.ref a) (.type "dict")
 |dT {a:Addr} {AV:List (List Key×V)} (e:H a=some (.dT AV)):TyOf K H (.ref a) (.type "dict")
 |ins {a C dx:Addr} {fs:List (Str×V)} (e:H a=some (.ins C dx fs)) (cl:Cls K C) (ha:PySem.W.findIn K (.ref C) "__class__"=some (some (.builtin "object.__class__")))
   (hn:PySem.W.specialIn K (.builtin "object.__class__") "__get__"=some (some (.builtin "getset_descriptor.__get__"))) (lj:PySem.W.takesIn K (.builtin "object.__class__")=some true)
   (hm:PySem.W.mroIn K C (.type "object")=some true):TyOf K H (.ref a) (.ref C)
theorem Gw{x:V}{u t:Value}(I:Inv X AD σ H s)(rx:RelV x u)(ty:TyOf X.K H x t)(e:PySem.W.kitOne X.K t c=some b)(h:∀tk,Q (.bool b) { s with toks:=tk }) :
  wpAny (model X.prog X.w) A (call (.builtin "isinstance") [u,c]) Q E s:=by
 cases ty with
 |non=>cases (show u=Value.none from rx);exact PySem.W.kia_one PySem.W.kitx_none I.kIn True.intro e (fun z=>nomatch z) h
 |bl y=>cases (show u=Value.bool y from rx);exact PySem.W.kia_one PySem.W.kitx_bool I.kIn True.intro e (fun z=>nomatch z) h
 |int i=>obtain⟨t,q⟩:=(show ∃t,u=Value.int i t from rx);cases q;exact PySem.W.kia_one PySem.W.kitx_int I.kIn True.intro e (fun z=>nomatch z) h
 |str y=>obtain⟨t,q⟩:=(show ∃t,u=Value.str y t from rx);cases q;exact PySem.W.kia_one PySem.W.kitx_str I.kIn True.intro e (fun z=>nomatch z) h
 |flt y=>obtain⟨t,q⟩:=(show ∃t,u=Value.float y t from rx);cases q;exact PySem.W.kia_one PySem.W.kitx_float I.kIn True.intro e (fun z=>nomatch z) h
 |@lst a xs ea=>
  cases (show u=Value.ref a from rx);obtain⟨_,_,n,_,h1⟩:=(show ObjOk X.prog X.w H s.heap a (.lst xs)from I.hok a _ ea);exact PySem.W.kia_one PySem.W.kitx_list I.kIn ⟨_,h1,rfl⟩ e (fun z=>nomatch z) h
 |@frz a ob xs ea=>
  cases (show u=Value.ref a from rx);obtain⟨_,_,_,n,_,h1⟩:=(show ObjOk X.prog X.w H s.heap a (.frz ob (.lst xs))from I.hok a _ ea);exact PySem.W.kia_one PySem.W.kitx_list I.kIn ⟨_,h1,rfl⟩ e (fun z=>nomatch z) h
 |@tup a xs ea=>
  cases (show u=Value.ref a from rx);obtain⟨_,_,_,p⟩:=(show ObjOk X.prog X.w H s.heap a (.tup xs)from I.hok a _ ea);obtain⟨o,h1,h2,_⟩:=p;exact PySem.W.kia_one PySem.W.kitx_tuple I.kIn ⟨o,h1,h2⟩ e (fun z=>nomatch z) h
 |@dK a AV ea=>
  cases (show u=Value.ref a from rx);obtain⟨_,_,vs,_,p⟩:=(show ObjOk X.prog X.w H s.heap a (.dK AV)from I.hok a _ ea);obtain⟨o,es,ep,h1,h2,_⟩:=p;exact PySem.W.kia_one PySem.W.kitx_dict I.kIn ⟨o,h1,h2.1⟩ e (fun z=>nomatch z) h
 |@dT a AV ea=>
  cases (show u=Value.ref a from rx);obtain⟨_,_,xs,_,o,es,ep,h1,h2,_⟩:=(show ObjOk X.prog X.w H s.heap a (.dT AV)from I.hok a _ ea);exact PySem.W.kia_one PySem.W.kitx_dict I.kIn ⟨o,h1,h2.1⟩ e (fun z=>nomatch z) h
 |@ins a C dx fs ea cl ha hn lj hm=>
  cases (show u=Value.ref a from rx);obtain⟨mA,O,_⟩:=Xx I.hok ea;obtain⟨od,J,_⟩:=O.look;exact PySem.W.kia_one (PySem.W.kitx_own (cl.get _) cl.hd ha hn lj hm) I.kIn J e (fun z=>nomatch z) h
end
structure Room (k:Nat) (A:Around):Prop where
 hd:A.handled=none
 dp:A.depth+3*k+5<recursionLimit
 un:A.units+16*k+200<cLine
theorem Room.mono{j k:Nat}{A:Around}(r:Room k A)(h:j<=k):Room j A:=⟨r.hd,by have:=r.dp;lia,by have:=r.un;lia⟩
theorem Room.deeper{k:Nat}{A:Around}(r:Room (k+1) A)(env:Env):Room k (A.deeper env):=⟨r.hd,by have:=r.dp;show A.depth+1+3*k+5<_;lia,by have:=r.un;show A.units+3+16*k+200<_;lia⟩
theorem Room.depth{k:Nat}{A:Around}(r:Room k A):A.depth<recursionLimit:=by have:=r.dp;lia
theorem Room.units{k:Nat}{A:Around}(r:Room k A):A.units+64<cLine:=by have:=r.un;lia
def kJ:TA:=fun _ H Q=>Q [] H
def fR(ta:TE)(tr:TA):TA:=fun σ H Q=>ta σ H fun x H1=>tr σ H1 fun xs H2=>Q (x::xs) H2
section
variable {X:Cx}{e:Expr}{es:List Expr}{te:TE}{t:TA}{pos:Pos}
theorem Cz:PA X [] kJ:=fun _ _ _ _ H Q I h=>Calls.spliced_nil ⟨[],H,I,.nil,h⟩
theorem BL(ha:PE X e te)(hr:PA X es t)(hs:starEach (e::es) X.env=(false,eval e X.env)::starEach es X.env:=by rfl):PA X (e::es) (fR te t):=by intro pos AD s σ H Q I h;rw[hs];show wpAny _ _ (spliced ((false,eval e X.env)::backTo pos (starEach es X.env))) _ _ s;refine Calls.spliced_cons (thn (ha AD s σ H _ I h) fun u s1 ⟨x,H1,I1,r1,q1⟩=>?_);exact thn (hr pos AD s1 σ H1 _ I1 q1) fun us s2 ⟨xs,H2,I2,r2,q2⟩=>⟨x::xs,H2,I2,.cons r1 r2,q2⟩
def iy(t:TA):TE:=fun σ H Q=>t σ H fun xs H1=>xs.length<=sizeLine/\∀p,H1 p=none->Q (.ref p) (upd H1 p (.tup xs))
def ir(t:TA):TE:=fun σ H Q=>t σ H fun xs H1=>xs.length<=sizeLine/\∀p,H1 p=none->Q (.ref p) (upd H1 p (.lst xs))
theorem cp{x1}(h:PA X es t):PE X (.Tuple es x1 pos) (iy t):=by intro AD s σ H Q I hq;refine wpAny_Tuple_spliced (thn (h pos AD s σ H _ I hq) fun us s1 ⟨xs,H1,I1,r,z,q⟩=>⟨by rw[<-r.length];exact z,?_⟩);have hf:H1 s1.heap.objs.size=none:=I1.hok.fresh (Nat.le_refl _);refine⟨.ref s1.heap.objs.size,upd H1 s1.heap.objs.size (.tup xs),I1.laid (t':=s1.toks) (fun b u e=>Heap.get?_push_of_some _ e) (Nat.le_refl _) ?_,rfl,q _ hf⟩;exact⟨z,us,r,⟨_,Heap.get?_push_size _ rfl,rfl,_,rfl⟩⟩
theorem U2(h:PA X es t):PE X (.List es pos) (ir t):=by intro AD s σ H Q I hq;refine wpAny_List_spliced (thn (h pos AD s σ H _ I hq) fun us s1 ⟨xs,H1,I1,r,z,q⟩=>⟨by rw[<-r.length];exact z,?_⟩);have hf:H1 s1.heap.objs.size=none:=I1.hok.fresh (Nat.le_refl _);refine⟨.ref s1.heap.objs.size,upd H1 s1.heap.objs.size (.lst xs),I1.laid (t':=s1.toks) (fun b u e=>Heap.get?_push_of_some _ e) (Nat.le_refl _) ?_,rfl,q _ hf⟩;exact⟨z,us,0,r,Heap.get?_push_size _ rfl⟩
end
abbrev Sp:=List V->Hp->VK->XK->Prop
abbrev CXT:=List Env->Hp->Shared->XK->Value->Shared->Prop
structure Env0 (P:Program) (w:World) (K:PySem.W.Frag) (mg:Str->Option Value) (base:Heap) (A:Around) (outer:List Env) (s:Shared) (H:Hp):Prop where
 frames:A.frames=some outer
 mod:Mod K mg base
 bs:∀b o,base.get? b=some o->s.heap.get? b=some o/\H b=none
 bsz:base.objs.size<=s.heap.objs.size
 funs:s.heap.FunFrames base outer
 frf:∀b∈frs outer,H b=none
 hok:HOk P w H s.heap
 bare:AllBare s.gens
def CE(outer:List Env)(P:Program)(w:World)(H:Hp)(s:Shared)(Q:VK)(u:Value)(s':Shared):Prop:=∃v H',s'.os=s.os/\AllBare s'.gens/\Un (frs outer) [] H H' s.heap s'.heap/\HOk P w H' s'.heap/\RelV v u/\Q v H'
def CR(CX:CXT)(outer:List Env)(P:Program)(w:World)(H:Hp)(s:Shared)(Q:VK)(E:XK)(r:Result)(s':Shared):Prop:=match r with
 |.ok (.ret u)=>CE outer P w H s Q u s'
 |.ok _=>False
 |.error e=>CX outer H s E e s'
structure FnOk (P:Program) (w:World) (K:PySem.W.Frag) (mg:Str->Option Value) (base:Heap) (CX:CXT) (k:Nat) (f:Addr) (fd:FuncData) (ps:List Str) (sp:Sp):Prop where
 len:∀vs H Q E,sp vs H Q E->vs.length=ps.length
 run:∀(A:Around)(outer:List Env)(s:Shared)(H:Hp)(args:Args)(us:List Value)(vs:List V)(Q:VK)(E:XK),Room k A->Env0 P w K mg base A outer s H->BindsTo s fd args (ps.zip us)->Vals vs us->sp vs H Q E →
  codeAny (model P w) A (.call (.ref f) args) (CR CX outer P w H s Q E) s
section
variable {X:Cx}{AD:List (Addr×Obj)}{σ:St}{H:Hp}{s s':Shared}
theorem Inv.env0(I:Inv X AD σ H s):Env0 X.prog X.w X.K X.mg X.base X.A X.stack s H:=⟨I.ok.frames,I.ok.mod,I.bs,Nat.le_trans I.ok.bsz I.sz,I.stack,I.stkFree,I.hok,I.bare⟩
theorem Inv.after{Q:VK}{u:Value}(I:Inv X AD σ H s)(h:CE X.stack X.prog X.w H s Q u s'):EP X AD σ Q u s':=by obtain⟨v,H',os,bare,un,hok,r,q⟩:=h;obtain⟨hh,g,d,t,nX⟩:=s';obtain rfl:nX=s.os:=os;exact⟨v,H',I.call (h':=hh) (g':=g) (d':=d) (t':=t) (ch:=[]) un hok bare (fun b z=>absurd z (by simp)),r,q⟩
end
def gB(sp:Sp)(aY:List V)(E:XK)(t:TA):TE:=fun σ H Q=>t σ H fun vs H1=>sp (vs++aY) H1 Q E
def Binds(K:PySem.W.Frag)(fd:FuncData)(ps:List Str)(ds:List Value):Prop:=∀(s:Shared)(us:List Value),K.In s.heap->(us++ds).length=ps.length->BindsTo s fd ⟨us,[]⟩ (ps.zip (us++ds))
theorem Binds.all{K:PySem.W.Frag}{fd:FuncData}{ps:List Str}(h:∀us:List Value,us.length=ps.length->bindArgs fd ⟨us,[]⟩=pure (ps.zip us)):Binds K fd ps []:=fun s us _ hl=>by
 rw[List.append_nil]at hl ⊢;exact .of_eq (h us hl)
def Qe(CX:CXT)(X:Cx)(E:XK):Prop:=∀(AD:List (Addr×Obj))(σ:St)(H:Hp)(s:Shared)(e:Value)(s':Shared),Inv X AD σ H s->CX X.stack H s E e s'->X.xe e s'
section
variable {X:Cx}{CX:CXT}{k:Nat}{f C:Addr}{fd:FuncData}{ps:List Str}{sp:Sp}{aY:List V}{ds:List Value}{E:XK}{x m:Str}{p pos apos:Pos}{e o:Expr}{es:List Expr}{ta:TE}{t:TA}
theorem Xi{AD:List (Addr×Obj)}{σ:St}{H:Hp}{s:Shared}{Q:VK}{us:List Value}{vs:List V}(F:FnOk X.prog X.w X.K X.mg X.base CX k f fd ps sp)(hr:Room k X.A)(hb:Binds X.K fd ps ds)(hd:Vals aY ds)(hx:Qe CX X E)(I:Inv X AD σ H s)(r:Vals vs us)(h:sp (vs++aY) H Q E):wpAny (model X.prog X.w) X.A (call (.ref f) us) (EP X AD σ Q) X.xe s:=by
 have r2:Vals (vs++aY) (us++ds):=r.append hd;have hl:(us++ds).length=ps.length:=by rw[<-r2.length];exact F.len _ _ _ _ h
 refine wpAny_call (codeAny_mono (F.run X.A X.stack s H ⟨us,[]⟩ (us++ds) (vs++aY) Q E hr I.env0 (hb s us I.kIn hl) r2 h) fun r s' hq=>?_);cases r with
 |error e=>exact hx AD σ H s e s' I hq
 |ok fl=>
  cases fl with
  |ret u=>exact I.after hq
  |next=>exact False.elim hq
  |brk=>exact False.elim hq
  |cont=>exact False.elim hq
theorem Sz(F:FnOk X.prog X.w X.K X.mg X.base CX k f fd ps sp)(hr:Room k X.A)(hg:Gl X x)(hm:X.mg x=some (.ref f))(hk:PySem.W.keepIn X.K (.ref f)=true)(hb:Binds X.K fd ps ds)(hd:Vals aY ds)(hx:Qe CX X E)(ha:PA X (e::es) t)(LM:(x==("__debug__":Str))=false:=by decide)(he:starEach (e::es) X.env=(false,eval e X.env)::starEach es X.env:=by rfl)(hpl:(backTo pos (starEach es X.env)).any (·.1)=false:=by rfl) :
  PE X (.Call (.Name x p) (e::es) [] pos) (gB sp aY E t):=by
 intro AD s σ H Q I h;refine wpAny_Call_Name_kw (Jq I hg hm ?_ LM);refine PySem.W.callWith_K (h₀:=X.base) I.ok.mod.kin hk (thn (ha pos AD s σ H _ I h) fun us s1 ⟨vs,H1,I1,r,q⟩=>⟨I1.kIn,?_⟩) he hpl;exact Xi F hr hb hd hx I1 r q
end
structure FnScope (N P:List Str) (sc:Scope):Prop where
 kind:sc.kind=.function
 co:sc.isCoroutine=false
 gen:sc.isGenerator=false
 nd:N.Nodup
 pre:N.take P.length=P
 par:∀x∈P,sc.names.lookup x=some .local\/sc.names.lookup x=some .cell
 nofree:∀y∈sc.names,y.2≠.free
theorem Ll{kindOf:Str->Option NameKind}{x:Str}:∀{binds:List (Str×Value)}{m:Str->Option Value},(∀v,(x,v)∉binds)->bindL kindOf binds m x=m x
 |[],_,_=>rfl
 |(n,v)::r,m,h=>by
  unfold bindL;rw[Ll fun w hw=>h w (List.mem_cons_of_mem _ hw)];split
  ·have:x≠n:=by rintro rfl;exact h v List.mem_cons_self
   simp[this]
  ·rfl
theorem L5{kindOf:Str->Option NameKind}{x:Str}:∀{binds:List (Str×Value)}{m:Str->Option Value},(∀v,(x,v)∉binds)->bindC kindOf binds m x=m x
 |[],_,_=>rfl
 |(n,v)::r,m,h=>by
  unfold bindC;rw[L5 fun w hw=>h w (List.mem_cons_of_mem _ hw)];split
  ·rfl
  ·have:x≠n:=by rintro rfl;exact h v List.mem_cons_self
   simp[this]
theorem Lo{kindOf:Str->Option NameKind}{x:Str}{v:Value}:∀{P:List Str}{vs:List Value}{i:Nat}{m:Str->Option Value},P.Nodup->P[i]?=some x->vs[i]?=some v->kindOf x=some .local →
  bindL kindOf (P.zip vs) m x=some v
 |[],_,_,_,_,h,_,_=>by simp at h
 |_::_,[],_,_,_,_,h,_=>by simp at h
 |p::P,w::vs,0,m,nd,h1,h2,hk=>by
  simp at h1 h2;subst h1;subst h2;show bindL kindOf ((p,w)::P.zip vs) m p=_;unfold bindL;rw[Ll fun v hv=>(List.nodup_cons.mp nd).1 (List.of_mem_zip hv).1,if_pos hk];simp
 |p::P,w::vs,i+1,m,nd,h1,h2,hk=>by
  show bindL kindOf ((p,w)::P.zip vs) m x=_;unfold bindL;exact Lo (i:=i) (List.nodup_cons.mp nd).2 (by simpa using h1) (by simpa using h2) hk
theorem L8{kindOf:Str->Option NameKind}{x:Str}{v:Value}:∀{P:List Str}{vs:List Value}{i:Nat}{m:Str->Option Value},P.Nodup->P[i]?=some x->vs[i]?=some v->kindOf x≠some .local →
  bindC kindOf (P.zip vs) m x=some v
 |[],_,_,_,_,h,_,_=>by simp at h
 |_::_,[],_,_,_,_,h,_=>by simp at h
 |p::P,w::vs,0,m,nd,h1,h2,hk=>by
  simp at h1 h2;subst h1;subst h2;show bindC kindOf ((p,w)::P.zip vs) m p=_;unfold bindC;rw[L5 fun v hv=>(List.nodup_cons.mp nd).1 (List.of_mem_zip hv).1,if_neg hk];simp
 |p::P,w::vs,i+1,m,nd,h1,h2,hk=>by
  show bindC kindOf ((p,w)::P.zip vs) m x=_;unfold bindC;exact L8 (i:=i) (List.nodup_cons.mp nd).2 (by simpa using h1) (by simpa using h2) hk
def start(N:List Str)(vs:List V):St:=vs.map some++List.replicate (N.length-vs.length) none
def Io(CX:CXT)(P:Program)(w:World)(K:PySem.W.Frag)(mg:Str->Option Value)(base:Heap)(N:List Str)(qual:Str)(scope:Scope)(f:Addr)(cd:Value)(A:Around)(outer:List Env)(s:Shared)(H:Hp)(E:XK):Cx where
 prog:=P
 w:=w
 K:=K
 mg:=mg
 base:=base
 A:=A.deeper (envOfC qual scope s.heap.objs.size f cd)
 N:=N
 s₀:=s
 H₀:=H
 env:=envOfC qual scope s.heap.objs.size f cd
 outer:=outer
 stack:=envOfC qual scope s.heap.objs.size f cd::outer
 ex:=[]
 calm:=true
 fn:=fun _=>true
 pn:=[]
 xe:=fun e s'=>wpAny (model P w) (A.deeper (envOfC qual scope s.heap.objs.size f cd)) (leaving (envOfC qual scope s.heap.objs.size f cd) e) (fun _ dh=>CX outer H s E e dh) (fun e' dh=>CX outer H s E e' dh) s'
theorem O4{sc:Scope}{n:Nat}{x:Str}(h:sc.names.lookup x=some .cell):∃c,(cellsFrom n sc.names []).lookup x=some c:=by have q:=PySem.W.cellsFrom_some sc.names n [] (.inl h);exact Option.isSome_iff_exists.mp q
theorem UP{CX:CXT}{P:Program}{w:World}{K:PySem.W.Frag}{mg:Str->Option Value}{base:Heap}{N ps:List Str}{qual:Str}{scope:Scope}{f:Addr}{cd:Value}{A:Around}{outer:List Env}{s s1:Shared}{H:Hp}{E:XK}{us:List Value}{vs:List V}(S:FnScope N ps scope)(hd:A.handled=none)(e0:Env0 P w K mg base A outer s H)(hl:vs.length=ps.length)(r:Vals vs us)(x:InCallC s s.heap.objs.size (bindL (envOfC qual scope s.heap.objs.size f cd).kindOf (ps.zip us) fun _=>none) (cellsFrom (s.heap.objs.size+1) scope.names []) (bindC (envOfC qual scope s.heap.objs.size f cd).kindOf (ps.zip us) fun _=>none) s1) :
  Inv (Io CX P w K mg base N qual scope f cd A outer s H E) [] (start N vs) H s1:=by
 have hpl:ps.length<=N.length:=by have:=congrArg List.length S.pre;rw[List.length_take]at this;lia
 obtain⟨h1,tk,rfl,hk⟩:=x.done;have eI:∀b:Addr,b∉(Io CX P w K mg base N qual scope f cd A outer s H E).ex:=fun b z=>absurd (show b∈([]:List Addr)from z) (by simp);refine⟨⟨e0.mod,S.kind,rfl,rfl,Nat.le_refl _,fun y z c h1 h2=>?_,fun y hy=>?_,fun y c _ h=>?_,fun _=>hd,Around.frames_deeper e0.frames,.inr ⟨rfl,rfl⟩,fun b z=>absurd z (eI b),e0.bs,e0.bsz,fun b _ _=>eI b,fun b z=>absurd z (eI b),e0.funs,e0.frf⟩,
  rfl,e0.bare,Un.kept hk,⟨_,x.toInCall.ns,fun i y v h1 h2 h3=>?_⟩,fun y c h=>⟨_,x.cell y c h⟩,e0.hok.fresh (Nat.le_refl _),fun y c h=>?_,fun p hp=>absurd (show p∈([]:List (Addr×Obj))from hp) (by simp),e0.hok.kept hk,?_⟩
 ·exact name_of_addr x.apart (PySem.mem_of_lookup h1) (PySem.mem_of_lookup h2)
 ·have hy:scope.names.lookup y=some .cell\/scope.names.lookup y=some .free:=hy;rcases hy with hy|hy
  ·exact O4 hy
  ·exact absurd rfl (S.nofree _ (PySem.mem_of_lookup hy))
 ·exact Nat.le_of_lt (x.above y c (PySem.mem_of_lookup h))
 ·have hi:i<vs.length:=by
   unfold start at h2;by_cases hi:i<vs.length
   ·exact hi
   ·rw[List.getElem?_append_right (by simpa using hi)]at h2;rw[List.getElem?_replicate]at h2;split at h2<;>cases h2
  have ha:vs[i]?=some v:=by
   unfold start at h2;rw[List.getElem?_append_left (by simpa using hi),List.getElem?_map]at h2;cases e:vs[i]? with
   |none=>rw[e]at h2;cases h2
   |some a=>rw[e]at h2;cases h2;rfl
  obtain⟨u,hu,rv⟩:=r.get ha;have hp:ps[i]?=some y:=by
   rw[<-S.pre,List.getElem?_take_of_lt (by lia)];exact h1
  have mG:ps.Nodup:=by rw[<-S.pre];exact S.nd.sublist (List.take_sublist _ _)
  refine⟨u,rv,?_⟩;rcases S.par y (List.mem_of_getElem? hp)with k|k
  ·exact .inl ⟨k,Lo mG hp hu k⟩
  ·obtain⟨c,e⟩:=O4 (n:=s.heap.objs.size+1) k;refine .inr ⟨.inl k,c,e,?_⟩;have q:=x.cell y c e;rw[L8 mG hp hu (by show scope.names.lookup y≠_;rw[k];decide)]at q;exact q
 ·exact e0.hok.fresh (Nat.le_of_lt (x.above y c (PySem.mem_of_lookup h)))
 ·unfold start;show _=N.length;rw[List.length_append,List.length_map,List.length_replicate];lia
theorem ae{CX:CXT}{P:Program}{w:World}{K:PySem.W.Frag}{mg:Str->Option Value}{base:Heap}{k:Nat}{f:Addr}{name qual:Str}{params:Arguments}{body:List Stmt}{scope:Scope}{dV kV doc pm A1 ct oc:Value}{an od:Option Addr}{Uq:Array (Option Value)}{N ps:List Str}{sp:Sp}(lk:K.lookup f=some ⟨oc,od,.func (PySem.W.fnOf name qual params body scope dV kV doc pm an A1 ct),Uq⟩)(Ts:PySem.W.codeIn K A1 qual=true)(S:FnScope N ps scope)(len:∀vs H Q E,sp vs H Q E->vs.length=ps.length)(VD:∀(A:Around)(outer:List Env)(s:Shared)(H:Hp)(vs:List V)(Q:VK)(E:XK),Room k (A.deeper (envOfC qual scope s.heap.objs.size f A1))->sp vs H Q E →
   ∃t,PSs (Io CX P w K mg base N qual scope f A1 A outer s H E) body t/\t { nx:=fun _ H'=>Q .non H',rt:=Q } (start N vs) H) :
  FnOk P w K mg base CX (k+1) f (PySem.W.fnOf name qual params body scope dV kV doc pm an A1 ct) ps sp:=by
 refine⟨len,fun A outer s H args us vs Q E hr e0 hb r VX=>?_⟩;have hl:=len _ _ _ _ VX;have KX:K.In s.heap:=e0.mod.kin.keeps fun b o e=>(e0.bs b o e).1;have lim:s.heap.NoLimit:=e0.mod.nolimit.keeps fun b o e=>(e0.bs b o e).1;have gJ:∀y∈ps.zip us,scope.names.lookup y.1=some .local\/(scope.names.lookup y.1=some .cell/\((cellsFrom (s.heap.objs.size+1) scope.names []).lookup y.1).isSome=true):=fun⟨n,v⟩ hy=>by
  rcases S.par n (List.of_mem_zip hy).1 with q|q
  ·exact .inl q
  ·exact .inr ⟨q,PySem.W.cellsFrom_some _ _ _ (.inl q)⟩
 refine codeAny_call_function hr.depth (KX _ _ lk) rfl S.co S.gen rfl (PySem.W.codeRec_of KX Ts) (hb _ _ _ _ ?_);refine wpAny_newFunctionEnv_cells S.kind gJ fun env he s1 x=>?_;subst he;refine⟨lim.keeps x.toInCall.keep,codeAny_func ?_⟩;obtain⟨t,ht,hq⟩:=VD A outer s H vs Q E (hr.deeper _) VX;have I:Inv (Io CX P w K mg base N qual scope f A1 A outer s H E) [] (start N vs) H s1:=UP S hr.hd e0 hl r x;refine wpAny_mono (ht [] s1 (start N vs) H _ I hq) (fun fl s' hs=>?_) fun e s' hs=>hs;have fin:∀{σ':St}{H':Hp}{v:V}{u:Value},Inv (Io CX P w K mg base N qual scope f A1 A outer s H E) [] σ' H' s'->RelV v u->Q v H'->CE outer P w H s Q u s':=
  fun {σ' H' v u} J rv q=>⟨v,H',J.os,J.bare,J.base,J.hok,rv,q⟩
 cases fl with
 |ret u=>
  obtain⟨v,σ',H',J,rv,q⟩:=hs;exact fin J rv q
 |next=>
  obtain⟨σ',H',J,q⟩:=hs;exact fin (v:=V.non) (u:=Value.none) J rfl q
 |brk=>
  obtain⟨_,_,_,q⟩:=hs;exact False.elim q
 |cont=>
  obtain⟨_,_,_,q⟩:=hs;exact False.elim q
section
variable {X:Cx}{x:Str}{p pos:Pos}{e:Expr}{es:List Expr}{t:TA}{id T:String}{r:List V->Hp->VK->Prop}
def tCB(r:List V->Hp->VK->Prop)(t:TA):TE:=fun σ H Q=>t σ H fun vs H1=>r vs H1 Q
theorem Ht(hc:CM X (.builtin id) r)(hg:Gl X x)(hm:X.mg x=none)(hv:bootBuiltins x=some (.builtin id))(ha:PA X (e::es) t)(hn:x≠"__name__":=by decide)(LM:(x==("__debug__":Str))=false:=by decide)(he:starEach (e::es) X.env=(false,eval e X.env)::starEach es X.env:=by rfl)(hpl:(backTo pos (starEach es X.env)).any (·.1)=false:=by rfl):PE X (.Call (.Name x p) (e::es) [] pos) (tCB r t):=by intro AD s σ H Q I h;refine wpAny_Call_Name_kw (EB I hg hm hv ?_ hn LM);exact PyProof.Rows.callWith_builtin1 (thn (ha pos AD s σ H _ I h) fun us s1 ⟨vs,H1,I1,r1,q1⟩=>hc AD s1 σ H1 vs us Q I1 r1 q1) he hpl
theorem Lp(hc:CM X (.type T) r)(hg:Gl X x)(hm:X.mg x=none)(hv:bootBuiltins x=some (.type T))(ha:PA X (e::es) t)(hn:x≠"__name__":=by decide)(LM:(x==("__debug__":Str))=false:=by decide)(he:starEach (e::es) X.env=(false,eval e X.env)::starEach es X.env:=by rfl)(hpl:(backTo pos (starEach es X.env)).any (·.1)=false:=by rfl):PE X (.Call (.Name x p) (e::es) [] pos) (tCB r t):=by intro AD s σ H Q I h;refine wpAny_Call_Name_kw (EB I hg hm hv ?_ hn LM);exact PyProof.Rows.callWith_type1 (thn (ha pos AD s σ H _ I h) fun us s1 ⟨vs,H1,I1,r1,q1⟩=>hc AD s1 σ H1 vs us Q I1 r1 q1) he hpl
end
end L2
namespace HT
open PySem PyProof.Rows
def lexLt:List Int->List Int->Bool
 |[],[]=>false
 |[],_::_=>true
 |_::_,[]=>false
 |x::xs,y::ys=>if x=y then lexLt xs ys else decide (x<y)
theorem lexLt_cons(x y:Int)(xs ys:List Int):lexLt (x::xs) (y::ys)=if x=y then lexLt xs ys else decide (x<y):=rfl
section
variable {prog:Program}{w:World}{A:Around}{E:Value->Shared->Prop}{s:Shared}
theorem cat_tup{t b:Addr}{vs ws:List Value}{Q:Value->Shared->Prop}(ht:IsTup s.heap t vs.toArray)(hb:IsTup s.heap b ws.toArray)(hv:vs≠[])(h1:ws=[]->Q (.ref t) s)(h2:ws≠[]->Q (.ref s.heap.objs.size) { s with heap:=s.heap.push { cls:=.type "tuple",data:=.seq (vs++ws).toArray } })(hsz:vs.length+ws.length<=sizeLine):wpAny (model prog w) A (binaryOp .Add (.ref t) (.ref b)) Q E s:=by
 obtain⟨⟨cls,dd,data,sl⟩,ho,hc,n,hd⟩:=id ht;obtain⟨⟨b7,QG,data2,Nv⟩,Q4,Nu,n2,hd2⟩:=id hb;simp only at hc hd Nu hd2;subst hc hd Nu hd2;have e:vs.toArray++ws.toArray=(vs++ws).toArray:=by simp
 by_cases hw:ws=[]
 ·exact concat_meets ⟨_,ho,rfl⟩ ⟨_,Q4,rfl⟩ noFill_tuple_add seq_tuple_add PySem.F.slot_tuple_add PySem.F.entry_tuple_add (PySem.F.args_tuple_add_2 _ _)
   (tuple_addW1 t b vs.toArray ws.toArray n n2 dd QG sl Nv (by simpa using hv) (by simp[hw])) ⟨ho,Q4,h1 hw⟩
 ·refine concat_meets ⟨_,ho,rfl⟩ ⟨_,Q4,rfl⟩ noFill_tuple_add seq_tuple_add PySem.F.slot_tuple_add PySem.F.entry_tuple_add (PySem.F.args_tuple_add_2 _ _)
   (tuple_addW2 t b vs.toArray ws.toArray n n2 dd QG sl Nv (by simpa using hv) (by simpa using hw) (by rw[List.size_toArray,List.size_toArray];exact hsz)) ⟨ho,Q4,?_⟩
  rw[e];exact h2 hw
def sIx(n d:Nat):Option Int->Nat
 |none=>d
 |some v=>if v<0 then(v+(n:Int)).toNat else min v.toNat n
theorem sIx_none(n d:Nat):sIx n d none=d:=rfl
theorem sIx_nat(n d k:Nat):sIx n d (some (k:Int))=min k n:=by show(if (k:Int)<0 then((k:Int)+(n:Int)).toNat else min (k:Int).toNat n)=min k n;rw[if_neg (by lia),Int.toNat_natCast]
theorem dP(n d:Nat)(hd:d<=n)(o:Option Int):sIx n d o<=n:=by
 cases o with
 |none=>exact hd
 |some v=>
  show(if v<0 then(v+(n:Int)).toNat else min v.toNat n)<=n;by_cases hv:v<0
  ·rw[if_pos hv];lia
  ·rw[if_neg hv];exact Nat.min_le_right _ _
theorem Sd(v:Int)(n d:Nat):(if v<0 then max (v+(n:Int)) 0 else min v (n:Int))=((sIx n d (some v):Nat):Int):=by
 show(if v<0 then max (v+(n:Int)) 0 else min v (n:Int))=(((if v<0 then(v+(n:Int)).toNat else min v.toNat n):Nat):Int);by_cases hv:v<0
 ·simp only[if_pos hv];lia
 ·simp only[if_neg hv];lia
theorem Qk(lo hi:Option Int)(n:Nat):Builtin.Slice.sliceAdjust lo hi 1 (n:Int)=(((sIx n 0 lo:Nat):Int),((sIx n n hi:Nat):Int)):=by
 have h1:¬((1:Int)<0):=by lia
 unfold Builtin.Slice.sliceAdjust;simp only[h1,if_false];refine Prod.ext ?_ ?_
 ·cases lo with
  |none=>rfl
  |some v=>exact Sd v n 0
 ·cases hi with
  |none=>rfl
  |some v=>exact Sd v n n
theorem Qy(i j:Nat):Builtin.Slice.slicePlaces (i:Int) (j:Int) 1=j-i:=by
 unfold Builtin.Slice.slicePlaces;have h1:(1:Int) > 0:=by lia
 simp only[h1,if_true,Int.ediv_one];split<;>lia
theorem K4{v:Value}{o:Option Int}{Q:Option Int->Shared->Prop}(p:IsPart v o)(h:Q o s):wpAny (model prog w) A (Builtin.Slice.slicePartIndex v) Q E s:=by
 cases p with
 |none=>exact slicePart_none h
 |int i t=>exact slicePart_int h
theorem sliceApplied_gen{sl:Addr}{vl vu:Value}{lo hi:Option Int}{n:Nat}{Q:Int×Int×Nat->Shared->Prop}(hs:s.heap.IsSliceOf sl vl vu .none)(pl:IsPart vl lo)(pu:IsPart vu hi)(h:Q (((sIx n 0 lo:Nat):Int),1,sIx n n hi-sIx n 0 lo) s):wpAny (model prog w) A (Builtin.Slice.sliceApplied (.ref sl) (pure (n:Int))) Q E s:=by obtain⟨os,ar,iL,fL⟩:=id hs;unfold Builtin.Slice.sliceApplied Builtin.Slice.sliceFields;refine wpAny_bind (wpAny_bind (wpAny_field ar fL (x:=vl) rfl (wpAny_bind (wpAny_field ar fL (x:=vu) rfl (wpAny_bind (wpAny_field ar fL (x:=.none) rfl (wpAny_pure ?_)))))));refine wpAny_bind (slicePart_none ?_);show wpAny _ _ (if ((1:Int)==0)=true then _ else _) _ _ s;rw[if_neg (by decide)];refine wpAny_bind (K4 pl (wpAny_bind (K4 pu (wpAny_bind (wpAny_pure ?_)))));show wpAny _ _ (match Builtin.Slice.sliceAdjust lo hi 1 (n:Int)with|(lo,hi)=>pure (lo,(1:Int),Builtin.Slice.slicePlaces lo hi 1)) _ _ s;rw[Qk lo hi n];show wpAny _ _ (pure (((sIx n 0 lo:Nat):Int),(1:Int),Builtin.Slice.slicePlaces ((sIx n 0 lo:Nat):Int) ((sIx n n hi:Nat):Int) 1)) _ _ s;rw[Qy];exact wpAny_pure h
theorem WG(xs:Array Value)(i k:Nat):((List.range k).filterMap fun(m:Nat)=>xs[((i:Int)+(m:Int)*1).toNat]?).toArray=((xs.toList.drop i).take k).toArray:=by
 have e:(fun(m:Nat)=>xs[((i:Int)+(m:Int)*1).toNat]?)=fun m=>xs[i+m]?:=by
  funext m;have:((i:Int)+(m:Int)*1).toNat=i+m:=by lia
  rw[this]
 rw[e]
 have:=pick_run xs i k
 rw[List.filterMap_map]at this;have e2:((fun x=>xs[x]?) ∘ fun x=>i+x)=fun m=>xs[i+m]?:=rfl;rw[e2]at this;rw[this]
theorem getItem_tuple_cut{t sl:Addr}{items:Array Value}{vl vu:Value}{lo hi:Option Int}{Q:Value->Shared->Prop}(ht:IsTup s.heap t items)(hs:s.heap.IsSliceOf sl vl vu .none)(pl:IsPart vl lo)(pu:IsPart vu hi)(hw:¬(sIx items.size 0 lo=0/\sIx items.size items.size hi=items.size))(h:Q (.ref s.heap.objs.size) { s with heap:=s.heap.push { cls:=.type "tuple",data:=.seq ((items.toList.drop (sIx items.size 0 lo)).take (sIx items.size items.size hi-sIx items.size 0 lo)).toArray } })(hsz:items.size<=sizeLine):wpAny (model prog w) A (getItem (.ref t) (.ref sl)) Q E s:=by
 have S4:sizeOk (.seq ((items.toList.drop (sIx items.size 0 lo)).take (sIx items.size items.size hi-sIx items.size 0 lo)).toArray):=by
  show((items.toList.drop (sIx items.size 0 lo)).take (sIx items.size items.size hi-sIx items.size 0 lo)).toArray.size<=sizeLine;rw[List.size_toArray,List.length_take,List.length_drop,Array.length_toList];lia
 have hj:sIx items.size items.size hi<=items.size:=dP _ _ (Nat.le_refl _) hi;obtain⟨os,ar,iL,fL⟩:=id hs;have kD:s.TypeIs (.ref sl) "slice":=⟨os,ar,iL⟩;unfold getItem;try with_reducible refine wpAny_holding ?_
 first|refine wpAny_bind (wpAny_pure ?_)|skip
 refine wpAny_bind (wpAny_sequenceKey ht.typeIs (by decide) ?_);refine wpAny_bind (wpAny_callSpecial?_slot (name:=Str.ofString "__getitem__") ht.typeIs PyProof.Rows.slot_tuple_getitem
  (wpAny_call_entry PyProof.Rows.slot_tuple_getitem ht.typeIs entry_tuple_getitem ?_ (args_tuple_getitem _ _)))
 show wpAny _ _ (Builtin.Tuple.tupleItemsOf (.ref t) >>= _) _ _ s;refine wpAny_bind (tupleItemsOf_ ht ?_);refine wpAny_bind (wpAny_typeOf kD ?_);rw[if_pos (by decide)];refine wpAny_bind (sliceApplied_gen hs pl pu ?_);have Wh:¬((((sIx items.size 0 lo:Nat):Int)==0&&(1:Int)==1&&(sIx items.size items.size hi-sIx items.size 0 lo)==items.size)=true):=by
  intro q;rw[Bool.and_eq_true,Bool.and_eq_true]at q;have q1:((sIx items.size 0 lo:Nat):Int)=0:=eq_of_beq q.1.1;have q2:sIx items.size items.size hi-sIx items.size 0 lo=items.size:=eq_of_beq q.2;exact hw ⟨by lia,by lia⟩
 show wpAny _ _ (if (((sIx items.size 0 lo:Nat):Int)==0&&(1:Int)==1&&(sIx items.size items.size hi-sIx items.size 0 lo)==items.size)=true then _ else _) _ _ s;rw[if_neg Wh,WG];first
  |exact wpAny_bind (m:=Builtin.Tuple.tupleExact _) (wpAny_newObj_type (wpAny_pure ⟨_,rfl,wpAny_pure h⟩) S4)
  |exact wpAny_bind (m:=Builtin.Tuple.tupleExact _) (wpAny_newObj_type (wpAny_bind (wpAny_pure (wpAny_pure ⟨_,rfl,wpAny_pure h⟩))) S4)
  |exact wpAny_bind (wpAny_bind (m:=Builtin.Tuple.tupleExact _) (wpAny_newObj_type (wpAny_pure (wpAny_pure ⟨_,rfl,wpAny_pure h⟩)) S4))
  |exact wpAny_bind (wpAny_bind (m:=Builtin.Tuple.tupleExact _) (wpAny_newObj_type (wpAny_pure ⟨_,rfl,wpAny_pure h⟩) S4))
end
end HT
namespace L2
open PySem PySem.Spec PyProof.Rows
abbrev TO:=St->Hp->(Option Int->Hp->Prop)->Prop
def PO(X:Cx)(e:Option Expr)(t:TO):Prop:=∀(AD:List (Addr×Obj))(s:Shared)(σ:St)(H:Hp)(Q:Option Int->Hp->Prop),Inv X AD σ H s->t σ H Q →
  wpAny (model X.prog X.w) X.A (evalPart e X.env) (fun u s'=>∃o H',Inv X AD σ H' s'/\IsPart u o/\Q o H') X.xe s
def ZW:TO:=fun _ H Q=>Q none H
def eQ(t:TE):TO:=fun σ H Q=>t σ H fun x H1=>∃i,x=.int i/\Q (some i) H1
theorem HN{ns:List Int}:∀{us:List Value},Vals (ns.map V.int) us->IntsAre us ns:=by
 induction ns with
 |nil=>intro us r;rw[List.map_nil]at r;cases r;exact .nil
 |cons n ns ih=>
  intro us r;rw[List.map_cons]at r;cases r with
  |cons r1 r2=>
   obtain⟨t,e⟩:=r1;subst e;exact .cons n t (ih r2)
section
variable {X:Cx}{e:Expr}{te:TE}{lo hi:Option Expr}{tl th:TO}{pos p2:Pos}
theorem ZE:PO X none ZW:=by intro AD s σ H Q I h;rw[evalPart_none];exact wpAny_pure ⟨none,H,I,.none,h⟩
theorem X4(h:PE X e te):PO X (some e) (eQ te):=by intro AD s σ H Q I hw;rw[evalPart_some];refine thn (h AD s σ H _ I hw) fun u s1 ⟨x,H1,I1,r1,q1⟩=>?_;obtain⟨i,rfl,q⟩:=q1;obtain⟨t,rfl⟩:=r1;exact⟨some i,H1,I1,.int i t,q⟩
def SlR(X:Cx)(r:V->Option Int->Option Int->Hp->VK->Prop):Prop:=∀(AD:List (Addr×Obj))(s:Shared)(σ:St)(H:Hp)(x:V)(v vl vu:Value)(lo hi:Option Int)(sl:Addr)(Q:VK),Inv X AD σ H s->RelV x v->s.heap.IsSliceOf sl vl vu .none->IsPart vl lo->IsPart vu hi->r x lo hi H Q →
  ∃T id,typeLookup (.type T) "__getitem__"=pure (some (.builtin id))/\s.TypeIs v T/\wpAny (model X.prog X.w) X.A (getItem v (.ref sl)) (EP X AD σ Q) X.xe s
def tSl(r:V->Option Int->Option Int->Hp->VK->Prop)(te:TE)(tl th:TO):TE:=fun σ H Q=>te σ H fun x H1=>tl σ H1 fun l H2=>th σ H2 fun u H3=>r x l u H3 Q
theorem Vl{r:V->Option Int->Option Int->Hp->VK->Prop}(hr:SlR X r)(he:PE X e te)(hl:PO X lo tl)(hu:PO X hi th):PE X (.Subscript e (.Slice lo hi none p2) pos) (tSl r te tl th):=by intro AD s σ H Q I h;refine Subscript_ (thn (he AD s σ H _ I h) fun v s1 ⟨x,H1,I1,r1,q1⟩=>?_);refine wpAny_Slice (thn (hl AD s1 σ H1 _ I1 q1) fun vl s2 ⟨l,H2,I2,pl,q2⟩=>thn (hu AD s2 σ H2 _ I2 q2) fun vu s3 ⟨u,H3,I3,pu,q3⟩=>?_);rw[evalPart_none];refine wpAny_pure ?_;have I4:Inv X AD σ H3 { s3 with heap:=s3.heap.push { cls:=.type "slice",data:=.fields #[vl,vu,.none] } }:=I3.kept (t':=s3.toks) fun b ob q=>Heap.get?_push_of_some _ q;obtain⟨T,id,hT,ht,hg⟩:=hr AD { s3 with heap:=s3.heap.push { cls:=.type "slice",data:=.fields #[vl,vu,.none] } } σ H3 x v vl vu l u s3.heap.objs.size Q I4 r1 (Heap.IsSliceOf.new ..) pl pu q3;show wpAny (model X.prog X.w) X.A (subscriptTail e (.Slice lo hi none p2) v (.ref s3.heap.objs.size)) (EP X AD σ Q) X.xe { s3 with heap:=s3.heap.push { cls:=.type "slice",data:=.fields #[vl,vu,.none] } };exact tail_any (ops:=[.ref s3.heap.objs.size,v]) ht hT hg (by with_unfolding_all rfl)
def Lh(xs:List V)(lo hi:Option Int):List V:=(xs.drop (HT.sIx xs.length 0 lo)).take (HT.sIx xs.length xs.length hi-HT.sIx xs.length 0 lo)
theorem Pf(xs:List V)(lo hi:Option Int):(Lh xs lo hi).length<=xs.length:=by unfold Lh;rw[List.length_take,List.length_drop];lia
def kr(K:PySem.W.Frag):V->Option Int->Option Int->Hp->VK->Prop:=fun x lo hi H Q=>∃a xs,x=.ref a/\SqT K H a xs ∧
 ¬(HT.sIx xs.length 0 lo=0/\HT.sIx xs.length xs.length hi=xs.length)/\∀p,H p=none->Q (.ref p) (upd H p (.tup (Lh xs lo hi)))
theorem cZ:SlR X (kr X.K):=by
 intro AD s σ H x v vl vu lo hi sl Q I rx hs pl pu h;obtain⟨a,xs,rfl,hx,hw,q⟩:=h;cases rx;obtain⟨AS,r,ht,hz⟩:=I.tuple hx;have Au:AS.toArray.size=xs.length:=by rw[List.size_toArray];exact r.length.symm
 refine⟨"tuple",_,PyProof.Rows.slot_tuple_getitem.lookup,ht.typeIs,?_⟩;refine HT.getItem_tuple_cut ht hs pl pu (by rw[Au];exact hw) ?_ (by rw[Au];exact hz);rw[Au];refine⟨.ref s.heap.objs.size,_,I.laid (t':=s.toks) (o:=.tup (Lh xs lo hi)) (fun b ob q=>Heap.get?_push_of_some _ q) (Nat.le_refl _) ?_,rfl,q _ (I.hok.fresh (Nat.le_refl _))⟩;exact⟨Nat.le_trans (Pf xs lo hi) hz,_,(r.drop (HT.sIx xs.length 0 lo)).take (HT.sIx xs.length xs.length hi-HT.sIx xs.length 0 lo),IsTup.new _ _⟩
def gN(K:PySem.W.Frag):R2:=fun x y H Q=>∃a b xs ys,x=.ref a/\y=.ref b/\SqT K H a xs/\SqT K H b ys/\xs≠[]/\xs.length+ys.length<=sizeLine ∧
 (ys=[]->Q (.ref a) H)/\(ys≠[]->∀p,H p=none->Q (.ref p) (upd H p (.tup (xs++ys))))
theorem Vals.nil_iff{xs:List V}{us:List Value}(r:Vals xs us):us=[]↔xs=[]:=by
 cases r with
 |nil=>simp
 |cons _ _=>simp
theorem ZL:OpR X (binaryOp .Add) (gN X.K):=by intro AD s σ H x y v u Q I rx ry h;obtain⟨a,b,xs,ys,rfl,rfl,ha,hb,hx,hz,q1,q2⟩:=h;cases rx;cases ry;obtain⟨AS,r1,p1,_⟩:=I.tuple ha;obtain⟨Jh,r2,p2,_⟩:=I.tuple hb;refine HT.cat_tup p1 p2 (fun z=>hx (r1.nil_iff.mp z)) (fun z=>⟨.ref a,H,I,rfl,q1 (r2.nil_iff.mp z)⟩) (fun z=>?_) (by rw[<-r1.length,<-r2.length];exact hz);refine⟨.ref s.heap.objs.size,_,I.laid (t':=s.toks) (o:=.tup (xs++ys)) (fun b ob q=>Heap.get?_push_of_some _ q) (Nat.le_refl _) ?_,rfl,q2 (fun w=>z (r2.nil_iff.mpr w)) _ (I.hok.fresh (Nat.le_refl _))⟩;exact⟨by rw[List.length_append];exact hz,_,r1.append r2,IsTup.new _ _⟩
end
def ixN(n:Nat)(i:Int):Option Nat:=if 0<=i then(if i<n then some i.toNat else none)else if -(n:Int)<=i then some (i+n).toNat else none
def atI{α:Type}(xs:List α)(i:Int):Option α:=(ixN xs.length i).bind fun j=>xs[j]?
theorem YH{n:Nat}{i:Int}{j:Nat}(h:ixN n i=some j):seqIndex? i n=some j/\j<n/\-(n:Int)<=i/\i<n:=by
 unfold ixN at h;by_cases h0:0<=i
 ·rw[if_pos h0]at h;by_cases h1:i<n
  ·rw[if_pos h1]at h;have e:i.toNat=j:=Option.some.inj h;exact⟨by rw[seqIndex_of h0 h1,e],by lia,by lia,h1⟩
  ·rw[if_neg h1]at h;cases h
 ·rw[if_neg h0]at h;by_cases h1:-(n:Int)<=i
  ·rw[if_pos h1]at h;have e:(i+n).toNat=j:=Option.some.inj h;exact⟨by rw[seqIndex_neg (by lia) h1,e],by lia,h1,by lia⟩
  ·rw[if_neg h1]at h;cases h
theorem SJ{α:Type}{xs:List α}{i:Int}{v:α}(h:atI xs i=some v):∃j,seqIndex? i xs.length=some j/\xs[j]?=some v/\j<xs.length/\-(xs.length:Int)<=i/\i<xs.length:=by
 unfold atI at h;cases e:ixN xs.length i with
 |none=>rw[e]at h;cases h
 |some j=>
  rw[e]at h;obtain⟨h1,h2,h3,h4⟩:=YH e;exact⟨j,h1,h,h2,h3,h4⟩
theorem DC{α:Type}{xs:List α}{j:Nat}{v:α}(h:xs[j]?=some v):atI xs (j:Int)=some v:=by
 have hj:j<xs.length:=(List.getElem?_eq_some_iff.mp h).1;have e:ixN xs.length (j:Int)=some j:=by
  unfold ixN;rw[if_pos (by lia),if_pos (by lia)];simp
 unfold atI;rw[e];exact h
def Gu(b:Expr):Prop:=∀o i,subscripted b false o i=operate [o,i] (getItem o i)
def IxR(X:Cx)(r:R2):Prop:=∀(value slice:Expr)(AD:List (Addr×Obj))(s:Shared)(σ:St)(H:Hp)(x y:V)(v u:Value)(Q:VK),Inv X AD σ H s->RelV x v->RelV y u->r x y H Q →
  subscripted slice false v u=operate [v,u] (getItem v u)->wpAny (model X.prog X.w) X.A (subscriptTail value slice v u) (EP X AD σ Q) X.xe s
def MtR(X:Cx)(id:String)(r:V->List V->Hp->VK->Prop):Prop:=∀(AD:List (Addr×Obj))(s:Shared)(σ:St)(H:Hp)(x:V)(xs:List V)(v:Value)(us:List Value)(Q:VK),Inv X AD σ H s->RelV x v->Vals xs us->r x xs H Q →
  wpAny (model X.prog X.w) X.A (call (.builtin id) (v::us)) (EP X AD σ Q) X.xe s
section
variable {X:Cx}{a b:Expr}{ta tb:TE}{pos:Pos}
theorem Rt{r:R2}(hr:IxR X r)(ha:PE X a ta)(hb:PE X b tb)(hs:Gu b):PE X (.Subscript a b pos) (tOp r ta tb):=by intro AD s σ H Q I h;exact Subscript_ (gV ha hb I h fun v u s2 x y H2 I2 rx ry q=>hr a b AD s2 σ H2 x y v u Q I2 rx ry q (hs _ _))
def kM(K:PySem.W.Frag):R2:=fun x y H Q=>∃p xs i v,x=.ref p/\y=.int i/\SqL K H p xs/\atI xs i=some v/\Q v H
def jK(K:PySem.W.Frag):R2:=fun x y H Q=>∃p xs i v,x=.ref p/\y=.int i/\SqT K H p xs/\atI xs i=some v/\Q v H
theorem NB:IxR X (kM X.K):=by
 intro value slice AD s σ H x y v u Q I rx ry h hs;obtain⟨p,xs,i,z,rfl,rfl,hq,he,q⟩:=h;cases rx;obtain⟨t,rfl⟩:=ry;obtain⟨AS,r,pl,hz⟩:=I.list hq;obtain⟨j,h1,h2,h3,h4,h5⟩:=SJ he;obtain⟨w,ew,fT⟩:=r.get h2;have hl:=r.length;have hn:=KU;have fin:EP X AD σ Q w s:=⟨z,H,I,fT,q⟩;by_cases h0:0<=i
 ·have hj:i.toNat=j:=by
   rw[seqIndex_of h0 h5]at h1;exact Option.some.inj h1
  exact item_listR pl.isList h0 (by lia) (by rw[hj];simpa using ew) fin hs
 ·have hj:(i+(AS.toArray.size:Int)).toNat=j:=by
   rw[seqIndex_neg (by lia) h4]at h1;rw[List.size_toArray,<-hl];exact Option.some.inj h1
  exact subscriptTail_builtinR (x:=w) pl.isList.typeIs slot_list_getitem.lookup
   (wpAny_getItem_list_neg (Q:=fun r s'=>r=w/\EP X AD σ Q r s') pl.isList (by lia) (by rw[List.size_toArray]<;>lia) (by lia) (by rw[hj];simpa using ew) ⟨rfl,fin⟩) hs
theorem cO:IxR X (jK X.K):=by
 intro value slice AD s σ H x y v u Q I rx ry h hs;obtain⟨p,xs,i,z,rfl,rfl,hq,he,q⟩:=h;cases rx;obtain⟨t,rfl⟩:=ry;obtain⟨AS,r,pl,hz⟩:=I.tuple hq;obtain⟨j,h1,h2,h3,h4,h5⟩:=SJ he;obtain⟨w,ew,fT⟩:=r.get h2;have hl:=r.length;have hn:=KU;have fin:EP X AD σ Q w s:=⟨z,H,I,fT,q⟩;exact subscriptTail_builtinR (x:=w) pl.typeIs slot_tuple_getitem.lookup
  (getItem_tuple (j:=j) (Q:=fun r s'=>r=w/\EP X AD σ Q r s') pl (by lia) (by lia) (by rw[List.size_toArray,<-hl];exact h1) (by simpa using ew) ⟨rfl,fin⟩) hs
def XR:V->Bool
 |.non=>true
 |.bl _=>true
 |.int _=>true
 |.str _=>true
 |_=>false
def eqV:V->V->Bool
 |.non,.non=>true
 |.bl a,.bl b=>a==b
 |.bl a,.int b=>(if a then 1 else 0)==b
 |.int a,.bl b=>a==(if b then 1 else 0)
 |.int a,.int b=>a==b
 |.str a,.str b=>a==b
 |_,_=>false
theorem cv{A:Around}{s:Shared}{y x:V}{u v:Value}(ry:RelV y u)(rx:RelV x v)(fy:XR y=true)(fx:XR x=true):SeqAt.EqAt A s u v (eqV y x):=by
 cases y with
 |non=>
  cases ry;cases x with
  |non=>cases rx;exact SeqAt.EqAt.same _
  |bl b=>cases rx;exact SeqAt.EqAt.none_bool b
  |int b=>obtain⟨t,rfl⟩:=rx;exact SeqAt.EqAt.none_int b t
  |str b=>obtain⟨t,rfl⟩:=rx;exact SeqAt.EqAt.none_str b t
  |_=>exact absurd (show false=true from fx) Bool.false_ne_true
 |bl a=>
  cases ry;cases x with
  |non=>cases rx;exact SeqAt.EqAt.bool_none a
  |bl b=>cases rx;exact SeqAt.EqAt.bool_bool a b
  |int b=>obtain⟨t,rfl⟩:=rx;exact SeqAt.EqAt.bool_int a b t
  |str b=>obtain⟨t,rfl⟩:=rx;exact SeqAt.EqAt.bool_str a b t
  |_=>exact absurd (show false=true from fx) Bool.false_ne_true
 |int a=>
  obtain⟨t',rfl⟩:=ry;cases x with
  |non=>cases rx;exact SeqAt.EqAt.int_none a t'
  |bl b=>cases rx;exact SeqAt.EqAt.int_bool a t' b
  |int b=>obtain⟨t,rfl⟩:=rx;exact SeqAt.EqAt.int_int a t' b t
  |str b=>obtain⟨t,rfl⟩:=rx;exact SeqAt.EqAt.int_str a t' b t
  |_=>exact absurd (show false=true from fx) Bool.false_ne_true
 |str a=>
  obtain⟨t',rfl⟩:=ry;cases x with
  |non=>cases rx;exact SeqAt.EqAt.str_none a t'
  |bl b=>cases rx;exact SeqAt.EqAt.str_bool a t' b
  |int b=>obtain⟨t,rfl⟩:=rx;exact SeqAt.EqAt.str_int a t' b t
  |str b=>obtain⟨t,rfl⟩:=rx;exact SeqAt.EqAt.str_str a t' b t
  |_=>exact absurd (show false=true from fx) Bool.false_ne_true
 |_=>exact absurd (show false=true from fy) Bool.false_ne_true
theorem MY:CM X (.builtin "len") (fun xs H Q=>∃p ys,xs=[.ref p]/\(SqL X.K H p ys\/SqT X.K H p ys)/\Q (.int ys.length) H):=by
 intro AD s σ H xs us Q I r h;obtain⟨p,ys,rfl,hq,q⟩:=h;obtain⟨u,rfl,rx⟩:=G6 r;cases rx;have hn:=KU;rcases hq with hq|hq
 ·obtain⟨AS,r',pl,hz⟩:=I.list hq;have Au:=r'.length;exact Calls.call_len_list pl.isList (by simp only[List.size_toArray]<;>lia) ⟨.int ys.length,H,I.tok _,⟨s.toks+1,by rw[List.size_toArray,Au]⟩,q⟩
 ·obtain⟨AS,r',pl,hz⟩:=I.tuple hq;have Au:=r'.length;exact len_tuple pl (by simp only[List.size_toArray]<;>lia) ⟨.int ys.length,H,I.tok _,⟨s.toks+1,by rw[List.size_toArray,Au]⟩,q⟩
theorem NH:CM X (.type "list") (fun xs H Q=>∃p ys,xs=[.ref p]/\(SqL X.K H p ys\/SqT X.K H p ys)/\∀l,H l=none->Q (.ref l) (upd H l (.lst ys))):=by
 intro AD s σ H xs us Q I r h;obtain⟨p,ys,rfl,hq,q⟩:=h;obtain⟨u,rfl,rx⟩:=G6 r;cases rx;have fin:∀(AS:List Value),Vals ys AS->ys.length<=sizeLine->∀(h':Heap)(c':Nat),(∀b o',s.heap.get? b=some o'->h'.get? b=some o') →
   h'.get? s.heap.objs.size=some { cls:=.type "list",dict:=none,data:=.seq AS.toArray c',slots:=#[] }->EP X AD σ Q (.ref s.heap.objs.size) { s with heap:=h' }:=fun AS r' hz h' c' kp e=>
  ⟨.ref s.heap.objs.size,_,I.laid (t':=s.toks) kp (Nat.le_refl _) (show ObjOk X.prog X.w _ h' _ (.lst ys)from⟨hz,AS,c',r',e⟩),rfl,q _ (I.hok.fresh (Nat.le_refl _))⟩
 rcases hq with hq|hq
 ·obtain⟨AS,r',pl,hz⟩:=I.list hq;have Au:=r'.length;obtain⟨o,ho,hc,n,hd⟩:=pl.isList;exact call_list_seq p (.inl rfl) ho hc hd (fun h' c' kp e=>fin AS r' hz h' c' kp e) (by simp only[List.size_toArray]<;>lia)
 ·obtain⟨AS,r',pl,hz⟩:=I.tuple hq;have Au:=r'.length;obtain⟨o,ho,hc,n,hd⟩:=pl;exact call_list_seq p (.inr rfl) ho hc hd (fun h' c' kp e=>fin AS r' hz h' c' kp e) (by simp only[List.size_toArray]<;>lia)
theorem LY:CM X (.type "tuple") (fun xs H Q=>∃p ys,xs=[.ref p]/\((SqL X.K H p ys/\∀l,H l=none->Q (.ref l) (upd H l (.tup ys)))\/(SqT X.K H p ys/\Q (.ref p) H))):=by
 intro AD s σ H xs us Q I r h;obtain⟨p,ys,rfl,h⟩:=h;obtain⟨u,rfl,rx⟩:=G6 r;cases rx;rcases h with⟨hq,q⟩|⟨hq,q⟩
 ·obtain⟨AS,r',pl,hz⟩:=I.list hq;have Au:=r'.length;refine call_tuple_list pl.isList (fun h' kp=>?_) (by simp only[List.size_toArray]<;>lia);have I1:Inv X AD σ H { s with heap:=h' }:=I.kept (t':=s.toks) kp;have I2:Inv X AD σ (upd H h'.objs.size (.tup ys)) { s with heap:=h'.push { cls:=.type "tuple",data:=.seq AS.toArray } }:=
   I1.laid (t':=s.toks) (fun b o e=>Heap.get?_push_of_some _ e) (Nat.le_refl _) (show ObjOk X.prog X.w _ _ _ (.tup ys)from⟨hz,AS,r',IsTup.new _ _⟩)
  exact⟨.ref h'.objs.size,_,I2,rfl,q _ (I1.hok.fresh (Nat.le_refl _))⟩
 ·obtain⟨AS,r',pl,hz⟩:=I.tuple hq;exact call_tuple_same pl ⟨.ref p,H,I,rfl,q⟩
def tyV(K:PySem.W.Frag)(T:String)(x:V)(H:Hp):Prop:=match x with
 |.str _=>T = "str"
 |.int _=>T = "int"
 |.ref p=>(T = "list"/\∃xs,SqL K H p xs)\/(T = "tuple"/\∃o,K.lookup p=some o/\o.cls=.type "tuple"/\o.dict=none) ∨
   (T = "dict"/\((∃AV,H p=some (.dK AV))\/∃AV,H p=some (.dT AV)))\/(T = "set"/\∃S n,H p=some (.set S n))
 |_=>False
theorem VA{AD:List (Addr×Obj)}{σ:St}{H:Hp}{s:Shared}{T:String}{x:V}{v:Value}(I:Inv X AD σ H s)(r:RelV x v)(ty:tyV X.K T x H) :
  s.TypeIs v T/\∀a,v=.ref a->∃ob,s.heap.get? a=some ob/\ob.dict=none:=by
 cases x with
 |str z=>
  obtain⟨t,rfl⟩:=r;cases (show T = "str" from ty);exact⟨typeIs_str s z t,fun _ e=>nomatch e⟩
 |int i=>
  obtain⟨t,rfl⟩:=r;cases (show T = "int" from ty);exact⟨typeIs_int s i t,fun _ e=>nomatch e⟩
 |ref p=>
  cases r;rcases ty with⟨rfl,xs,hq⟩|⟨rfl,o,hk,hc,hd⟩|⟨rfl,hk⟩|⟨rfl,S,n,hk⟩
  ·obtain⟨AS,_,pl,_⟩:=I.list hq;refine⟨pl.isList.typeIs,fun a e=>?_⟩;cases e;obtain⟨o,n,e,c,hd,_⟩:=pl;exact⟨o,e,hd⟩
  ·refine⟨⟨o,I.kIn p o hk,hc⟩,fun a e=>?_⟩;cases e;exact⟨o,I.kIn _ o hk,hd⟩
  ·have z:∃o,s.heap.get? p=some o/\o.ExactDict:=by
    rcases hk with⟨AV,hk⟩|⟨AV,hk⟩
    ·obtain⟨_,_,_,_,o,_,_,e,ex,_⟩:=I.hok p _ hk;exact⟨o,e,ex⟩
    ·obtain⟨_,_,_,_,o,_,_,e,ex,_⟩:=I.hok p _ hk;exact⟨o,e,ex⟩
   obtain⟨o,e,ex⟩:=z;refine⟨⟨o,e,ex.1⟩,fun a e2=>?_⟩;cases e2;exact⟨o,e,ex.2.1⟩
  ·obtain⟨o,_,_,_,e,ex,_⟩:=I.hok p _ hk;refine⟨⟨o,e,ex.1⟩,fun a e2=>?_⟩;cases e2;exact⟨o,e,ex.2.1⟩
 |_=>exact False.elim ty
def ku(K:PySem.W.Frag)(T:String)(r:V->List V->Hp->VK->Prop)(to:TE):TE:=fun σ H Q=>to σ H fun x H1=>tyV K T x H1/\r x [] H1 Q
def tBM(K:PySem.W.Frag)(T:String)(r:V->List V->Hp->VK->Prop)(to:TE)(t:TA):TE:=fun σ H Q=>to σ H fun x H1=>tyV K T x H1/\t σ H1 fun xs H2=>r x xs H2 Q
variable {o e:Expr}{es:List Expr}{to:TE}{t:TA}{name:Str}{apos Ax:Pos}{T id:String}{r:V->List V->Hp->VK->Prop}
theorem WH(pa:PlainAttrs T)(slot:Slot T name id)(jL:typeOf (.builtin id)=pure (.type "method_descriptor"))(hm:MtR X id r)(ho:PE X o to)(GK:attributeBase o name X.env (eval o X.env)=eval o X.env:=by rfl)(Di:(apos.endLine==Ax.line)=true:=by rfl):PE X (.Call (.Attribute o name apos) [] [] Ax) (ku X.K T r to):=by intro AD s σ H Q I h;refine wpAny_Call_method0_late GK Di (thn (ho AD s σ H _ I h) fun v s1 ⟨x,H1,I1,r1,ty,q1⟩=>?_);obtain⟨h1,h2⟩:=VA I1 r1 ty;exact⟨T,id,pa,slot,jL,h1,h2,Calls.callWith_builtin rfl (PySem.evalArgs_none (hm AD s1 σ H1 x [] v [] Q I1 r1 .nil q1))⟩
theorem fj(pa:PlainAttrs T)(slot:Slot T name id)(jL:typeOf (.builtin id)=pure (.type "method_descriptor"))(hm:MtR X id r)(ho:PE X o to)(ha:PA X (e::es) t)(GK:attributeBase o name X.env (eval o X.env)=eval o X.env:=by rfl)(OJ:((backTo Ax (starEach (e::es) X.env)).all (fun x=>!x.1)&&(backToKw Ax (keywordEach [] X.env)).all (fun x=>x.1.isSome)
   && decide ((e::es).length+([]:List Keyword).length+(if ([]:List Keyword).isEmpty then 0 else 1)<30))=true:=by rfl)(Di:(apos.endLine==Ax.line)=true:=by rfl)(hs:starEach (e::es) X.env=(false,eval e X.env)::starEach es X.env:=by rfl)(bJ:(backTo Ax (starEach es X.env)).any (·.1)=false:=by rfl) :
  PE X (.Call (.Attribute o name apos) (e::es) [] Ax) (tBM X.K T r to t):=by
 intro AD s σ H Q I h;refine wpAny_Call_method_late GK OJ Di rfl (thn (ho AD s σ H _ I h) fun v s1 ⟨x,H1,I1,r1,ty,q1⟩=>?_);obtain⟨h1,h2⟩:=VA I1 r1 ty;refine⟨T,id,pa,slot,jL,h1,h2,?_⟩;have hA:=ha Ax AD s1 σ H1 _ I1 q1;rw[hs]at hA ⊢;refine Calls.callWith_builtin (by show(false||(backTo Ax (starEach es X.env)).any (·.1))=false;rw[bJ]<;>rfl) (Calls.evalArgs_plain ?_);exact thn hA fun us s2 ⟨vs,H2,I2,r2,q2⟩=>hm AD s2 σ H2 x vs v us Q I2 r1 r2 q2
end
def MtM(X:Cx)(id:String)(r:V->List V->Hp->VK->Prop):Prop:=∀(AD:List (Addr×Obj))(s:Shared)(σ:St)(H:Hp)(x:V)(xs:List V)(v:Value)(us:List Value)(Q:VK),Inv X AD σ H s->RelV x v->Vals xs us->r x xs H Q →
  wpAny (model X.prog X.w) X.A (call (.builtin id) (v::us)) (EP X AD σ Q) X.xe s
theorem Vals.one:∀{x:V}{us:List Value},Vals [x] us->∃u,us=[u]/\RelV x u
 |_,_,.cons r .nil=>⟨_,rfl,r⟩
theorem Vals.zero:∀{us:List Value},Vals [] us->us=[]
 |_,.nil=>rfl
theorem Vals.dropLast{xs:List V}{us:List Value}(h:Vals xs us):Vals xs.dropLast us.dropLast:=by
 induction h with
 |nil=>exact .nil
 |cons r t ih=>
  cases t with
  |nil=>exact .nil
  |cons q t'=>exact .cons r ih
theorem Vals.reverse{xs:List V}{us:List Value}(h:Vals xs us):Vals xs.reverse us.reverse:=by
 induction h with
 |nil=>exact .nil
 |cons r t ih=>rw[List.reverse_cons,List.reverse_cons];exact Vals.append ih (.cons r .nil)
theorem QV{α:Type}(l:List α):l.eraseIdx (l.length-1)=l.dropLast:=by
 induction l with
 |nil=>rfl
 |cons a r ih=>
  cases r with
  |nil=>rfl
  |cons b r=>
   have e:(a::b::r).length-1=((b::r).length-1)+1:=by
    have h1:(a::b::r).length=r.length+2:=rfl;have h2:(b::r).length=r.length+1:=rfl;lia
   rw[e,List.eraseIdx_cons_succ,ih];all_goals rfl
section
variable {X:Cx}{AD:List (Addr×Obj)}{σ:St}{H:Hp}{s:Shared}{l b:Addr}{xs ys zs:List V}
theorem Inv.lset{AS its':List Value}{n:Nat}{f:Array Value->Array Value}{t':Nat}(I:Inv X AD σ H s)(hH:H l=some (.lst xs))(e:s.heap.get? l=some { cls:=.type "list",data:=.seq AS.toArray n })(hf:f AS.toArray=its'.toArray)(hv:Vals ys its')(hz:ys.length<=sizeLine) :
  Inv X AD σ (upd H l (.lst ys)) { s with heap:=s.heap.update l (Obj.mapSeq f),toks:=t' }:=by
 have q:=PySem.IsL.update e f;rw[hf]at q;refine I.write (x:=l) (e:=l) (by rw[hH];exact trivial) (.inl rfl) (fun b' u hb hu=>(Heap.get?_update_other s.heap (Obj.mapSeq f) (Ne.symm hb)).trans hu) ⟨_,q⟩ ?_;exact⟨hz,its',_,hv,q⟩
theorem Inv.lnew{AS:List Value}{t':Nat}(I:Inv X AD σ H s)(hv:Vals ys AS)(hz:ys.length<=sizeLine) :
  Inv X AD σ (upd H s.heap.objs.size (.lst ys)) { s with heap:=s.heap.push { cls:=.type "list",data:=.seq AS.toArray },toks:=t' }:=
 I.laid (fun _ _ q=>Heap.get?_push_of_some _ q) (Nat.le_refl _) ⟨hz,AS,0,hv,Heap.get?_push_size _ rfl⟩
theorem Inv.fresh(I:Inv X AD σ H s):H s.heap.objs.size=none:=I.hok.fresh (Nat.le_refl _)
theorem Inv.lstM(I:Inv X AD σ H s)(hH:H l=some (.lst xs)):xs.length<=sizeLine/\∃(AS:List Value)(n:Nat),Vals xs AS/\xs.length=AS.length/\s.heap.get? l=some { cls:=.type "list",data:=.seq AS.toArray n }:=by obtain⟨z,AS,n,r,e⟩:=I.hok l _ hH;exact⟨z,AS,n,r,r.length,e⟩
end
section
variable {X:Cx}
def YI:V->List V->Hp->VK->Prop:=fun x vs H Q=>∃l xs y,x=.ref l/\vs=[y]/\H l=some (.lst xs)/\xs.length<sizeLine/\Q .non (upd H l (.lst (xs++[y])))
theorem MJ:MtM X "list.append" YI:=by intro AD s σ H x vs v us Q I rx rv h;obtain⟨l,xs,y,rfl,rfl,hH,hz,q⟩:=h;cases rx;obtain⟨u,rfl,ru⟩:=rv.one;obtain⟨z,AS,n,r,hl,e⟩:=I.lstM hH;refine call_meets F.slot_list_append ⟨_,e,rfl⟩ F.entry_list_append (F.args_list_append_2 _ _) (PySem.list_append l AS.toArray n u (by rw[List.size_toArray];lia)) ⟨e,?_⟩;refine⟨.non,_,I.lset (its':=AS++[u]) hH e (by simp) (r.append (.cons ru .nil)) ?_,rfl,q⟩;rw[List.length_append,List.length_singleton];lia
def jY:V->List V->Hp->VK->Prop:=fun x vs H Q=>∃l xs y,x=.ref l/\vs=[]/\H l=some (.lst xs)/\xs[xs.length-1]?=some y/\Q y (upd H l (.lst xs.dropLast))
theorem bI:MtM X "list.pop" jY:=by
 intro AD s σ H x vs v us Q I rx rv h;obtain⟨l,xs,y,rfl,rfl,hH,hy,q⟩:=h;cases rx;have dX:=rv.zero;subst dX;obtain⟨z,AS,n,r,hl,e⟩:=I.lstM hH;obtain⟨u,hu,ru⟩:=r.get hy;have US:AS.toArray[AS.toArray.size-1]?=some u:=by
  show AS.toArray[AS.length-1]?=some u;rw[<-Array.getElem?_toList,<-hl];exact hu
 refine call_meets F.slot_list_pop ⟨_,e,rfl⟩ F.entry_list_pop (F.args_list_pop_1 _) (MeetsSeq.list_pop_last l AS.toArray n u US (by rw[List.size_toArray];lia)) ⟨e,?_⟩;refine⟨y,_,I.lset (its':=AS.dropLast) hH e ?_ r.dropLast ?_,ru,q⟩
 ·show AS.toArray.eraseIdxIfInBounds (AS.toArray.size-1)=AS.dropLast.toArray;rw[List.size_toArray,List.eraseIdxIfInBounds_toArray,QV]
 ·rw[List.length_dropLast];lia
def Vs:V->List V->Hp->VK->Prop:=fun x vs H Q=>∃l xs,x=.ref l/\vs=[]/\H l=some (.lst xs)/\Q .non (upd H l (.lst xs.reverse))
theorem RV:MtM X "list.reverse" Vs:=by intro AD s σ H x vs v us Q I rx rv h;obtain⟨l,xs,rfl,rfl,hH,q⟩:=h;cases rx;have dX:=rv.zero;subst dX;obtain⟨z,AS,n,r,hl,e⟩:=I.lstM hH;refine call_meets F.slot_list_reverse ⟨_,e,rfl⟩ F.entry_list_reverse (F.args_list_reverse_1 _) (AutoSeq1.list_reverse_list_0 l AS.toArray n (by rw[List.size_toArray];lia)) ⟨e,?_⟩;refine⟨.non,_,I.lset (its':=AS.reverse) hH e (by simp) r.reverse ?_,rfl,q⟩;rw[List.length_reverse];lia
def je:R2:=fun x y H Q=>∃l b xs zs,x=.ref l/\y=.ref b/\H l=some (.lst xs)/\H b=some (.lst zs)/\xs.length+zs.length<=sizeLine/\∀p,H p=none->Q (.ref p) (upd H p (.lst (xs++zs)))
theorem WC:OpR X (binaryOp .Add) je:=by
 intro AD s σ H x y v u Q I rx ry h;obtain⟨l,b,xs,zs,rfl,rfl,hH,hB,hz,q⟩:=h;cases rx;cases ry;obtain⟨z,AS,n,r,hl,e⟩:=I.lstM hH;obtain⟨z2,Jh,n2,r2,Qo,e2⟩:=I.lstM hB;refine PySem.P.add_list e e2 ?_ (by rw[List.size_toArray,List.size_toArray];lia);have ea:AS.toArray++Jh.toArray=(AS++Jh).toArray:=by simp
 rw[ea];exact⟨.ref _,_,I.lnew (t':=s.toks) (r.append r2) (by rw[List.length_append];lia),rfl,q _ I.fresh⟩
end
end L2
namespace Att
open PySem PySem.W PySem.Calls PyProof.Rows
theorem Jm{P:Params}{h:Heap}:∀(ns:List Int)(vs:List Value),WellAll P h vs (ns.map WData.int)->IntsAre vs ns:=by
 intro ns
 induction ns with
 |nil=>
  intro vs w;rw[List.map_nil]at w;cases w;exact .nil
 |cons n ns ih=>
  intro vs w;rw[List.map_cons]at w;cases w with
  |cons a b=>
   cases a;exact .cons _ _ (ih _ b)
theorem UD{l:OpenLaw}{n:Nat}(hn:l.most=some n){P:Params}{h:Heap}{args:List WData}{vals:List Value}(Ia:l.row.toRowW.claim.pre args=true)(kQ:WellAll P h vals args) :
  ∃a vs ns,vals=[Value.ref a]/\args=[WData.list (ns.map WData.int)]/\h.get? a=some { cls:=.type "list",data:=.seq vs.toArray }/\IntsAre vs ns/\ns.length<=n:=by
 have fK:WShape.hasAll [] args [.list .int]=true:=(pre_splitW Ia).1;have hc:l.pre.holds [] { args:=args }=true:=(pre_splitW Ia).2;obtain⟨d,r,rfl,h1,h2⟩:=hasAllW_cons fK;obtain rfl:=hasAllW_nil h2;obtain⟨xs,rfl,h3⟩:=hasW_list h1;obtain⟨ns,rfl⟩:=items_int h3;have Au:ns.length<=n:=by
  unfold OpenLaw.pre at hc;have h4:(WTm.not (.lt (.lit (.int (n:Int))) (.len (.arg 0)))).holds [] { args:=[.list (ns.map .int)] }=true:=by
   have h4:=(holds_andW hc).1;rw[hn]at h4;exact h4
  have h5:=condW_of h4 (w_not (w_lt w_lit (w_len_list (w_arg rfl))));rw[List.length_map]at h5;refine Nat.le_of_not_lt fun q=>?_;have q':(n:Int)<((ns.length:Nat):Int):=by lia
  first
   |(rw[decide_eq_true q']at h5;exact absurd h5 (by decide))
   |(simp at h5;lia)
 cases kQ with
 |cons w1 w2=>
  cases w2;cases w1 with
  |list ho XC=>exact⟨_,_,ns,rfl,rfl,ho,Jm ns _ XC,Au⟩
theorem T6(l:OpenLaw)(args:List WData):l.row.toRowW.claim.post args (.bool true) args=true:=postW_of (r:=l.row.toRowW) (X:=(true==true))
  (show WShape.has [] (.bool true) .bool=true by first|rfl|decide|simp[WShape.has,WShape.arms,WShape.armsAll])
  (show(WTm.eq .res (.lit (.bool true))).value [] { args:=args,res:=some (.bool true),after:=args }=some (.bool (true==true))from w_eq_bool (w_res rfl) w_lit) rfl
theorem attach_call{l:OpenLaw}{n:Nat}{q:Program}{loose:List Str}{XP:(Str->Option Value)->Heap->Prop}{YP:World->Heap->Prop}{d:DefRec}(hn:l.most=some n)(eO:d.params.defaults=[])(call:∀(w:World)(s₀ s₁:Shared)(mg mb:Str->Option Value)(fa:Addr)(o:Obj)(pm cd doc:Value)(a:Addr)(vs:List Value)(ns:List Int),
   Ground q loose [] XP w s₀ mg mb s₁.heap->YP w s₁.heap →
   s₁.heap.get? fa=some o->o.data=.func (docDef d.name d.params d.body d.scope pm cd doc)->s₁.heap.CodeRec cd d.name->mg d.name=some (.ref fa) →
   s₁.heap.get? a=some { cls:=.type "list",data:=.seq vs.toArray }->IntsAre vs ns->ns.length<=n->s₁.gens=#[] →
   codeAny (model l.prog w) callerA (.call (.ref fa) ⟨[.ref a],[]⟩) (fun r s'=>r=.ok (.ret (.bool true))/\OldK s₁.heap s'.heap/\s'.os=s₁.os/\AllBare s'.gens) s₁) :
  WalkO q loose XP YP l.row.toRowW d [] (fun f vs=>PySem.call f vs):=by
 intro w s₀ s₁ mg mb G Y fa o pm cd doc dV kV ho hd Ts hD Qi hg args vals as Ia ow qu kQ qF;obtain rfl:dV=.none:=Dflts.none hD eO;obtain rfl:kV=.none:=Dflts.noKw hD;obtain⟨a,vs,ns,rfl,rfl,bM,hints,Au⟩:=UD hn Ia kQ;refine enter_call (codeAny_mono (call w s₀ s₁ mg mb fa o pm cd doc a vs ns G Y ho (fd_plain hd) Ts Qi bM hints Au hg) fun r s' hq=>?_);obtain⟨rfl,h2,h3,h4⟩:=hq;exact⟨.inl ⟨.bool true,.bool true,[],rfl,fun _=>rfl,.bool true,T6 l _,fun _=>⟨List.Pairwise.nil,fun _ hm=>(nomatch hm)⟩⟩,h2,h3,h4⟩
end Att
namespace L2
open PySem PySem.Spec PyProof.Rows
theorem MU:∀{vs:List Value}{ns:List Int},IntsAre vs ns->Vals (ns.map V.int) vs
 |_,_,.nil=>.nil
 |_,_,.cons n t h=>.cons ⟨t,rfl⟩ (MU h)
def dE(H:Hp):Prop:=∀b,H b=none\/∃o xs,H b=some (.frz o (.lst xs))
theorem VF{P:Program}{w:World}{K:PySem.W.Frag}{mg mb:Str->Option Value}{CX:CXT}{k:Nat}{fa a:Addr}{fd:FuncData}{x:Str}{sp:Sp}{s₁:Shared}{vs:List Value}{ns:List Int}(KX:K.In s₁.heap)(QD:s₁.heap.Ns mainGlobals mg)(hb:s₁.heap.Ns builtinsNs mb)(pE:∀x:Str,x≠"__name__"->mb x=bootBuiltins x)(kU:s₁.heap.NoLimit)(hg:s₁.gens=#[])(ha:s₁.heap.get? a=some { cls:=.type "list",data:=.seq vs.toArray })(hi:IntsAre vs ns)(hl:ns.length<=sizeLine)(hr:Room k callerA)(F:∀base:Heap,K.In base->base.Ns mainGlobals mg->FnOk P w K mg base CX k fa fd [x] sp)(eM:∀(s:Shared)(u:Value),BindsTo s fd ⟨[u],[]⟩ [(x,u)])(VX:∀H:Hp,dE H->SqL K H a (ns.map V.int)->sp [.ref a] H (fun v _=>v=.bl true) fun _ _ _=>False)(jI:∀H e s',CX [] H s₁ (fun _ _ _=>False) e s'->False) :
  codeAny (model P w) callerA (.call (.ref fa) ⟨[.ref a],[]⟩) (fun r s'=>r=.ok (.ret (.bool true))/\OldK s₁.heap s'.heap/\s'.os=s₁.os/\AllBare s'.gens) s₁:=by
 have rv:=MU hi;have jG:=hi.length;have core:∀H:Hp,dE H->SqL K H a (ns.map V.int)->HOk P w H s₁.heap->(∀b,H b≠none->b=a)->(H a≠none->K.lookup a=none) →
   codeAny (model P w) callerA (.call (.ref fa) ⟨[.ref a],[]⟩) (fun r s'=>r=.ok (.ret (.bool true))/\OldK s₁.heap s'.heap/\s'.os=s₁.os/\AllBare s'.gens) s₁:=by
  intro H hO hS hok hA hK;have SM:∀{b:Addr}{o:Obj},s₁.heap.get? b=some o->H b=none->(NY s₁.heap H).get? b=some o:=fun e n=>WB e n;have eI:∀{b:Addr}{o:Obj}{es:Array DictEntry}{ep:Nat},s₁.heap.get? b=some o->o.data=.dict es ep->H b=none:=fun {b o es ep} e d=>by
   cases q:H b with
   |none=>rfl
   |some u=>
    have e':b=a:=hA b (by rw[q];simp);subst e';rw[ha]at e;cases e;have d':Data.seq vs.toArray _=Data.dict es ep:=d;cases d'
  have iF:∀{b:Addr}{m:Str->Option Value},s₁.heap.Ns b m->(NY s₁.heap H).Ns b m:=fun {b m} ⟨o,es,ep,e,d,r⟩=>⟨o,es,ep,SM e (eI e d),d,r⟩;have m9:K.In (NY s₁.heap H):=fun b o e=>SM (KX b o e) (by
   cases q:H b with
   |none=>rfl
   |some u=>
    have e':b=a:=hA b (by rw[q];simp);subst e';rw[hK (by rw[q];simp)]at e;cases e)
  have hM:Mod K mg (NY s₁.heap H):=⟨m9,iF QD,⟨mb,iF hb,pE⟩,let ⟨mc,h1,h2⟩:=kU;⟨mc,iF h1,h2⟩⟩;have e0:Env0 P w K mg (NY s₁.heap H) callerA [] s₁ H:=⟨rfl,hM,fun b o e=>Y9 e,Nat.le_of_eq (Tx _ _),trivial,fun b hb=>absurd (show b∈([]:List Addr)from hb) (by simp),hok,.of_eq hg⟩;refine codeAny_mono ((F _ m9 (iF QD)).run callerA [] s₁ H ⟨[.ref a],[]⟩ [.ref a] [.ref a] _ _ hr e0 (eM s₁ (.ref a)) (.cons rfl .nil) (VX H hO hS)) fun r s' h=>?_;cases r with
  |error e=>exact(jI H e s' h).elim
  |ok fl=>
   cases fl with
   |next=>exact False.elim h
   |brk=>exact False.elim h
   |cont=>exact False.elim h
   |ret u=>
    obtain⟨v,H',os,bare,un,iU,r',q⟩:=h;have q':v=.bl true:=q;subst q';obtain rfl:u=Value.bool true:=r';refine⟨rfl,OldK.of_keep fun b o e=>?_,os,bare⟩;cases q:H b with
    |none=>exact un.keep b o e q (by intro z;exact absurd (show b∈([]:List Addr)from z) (by simp)) (by simp)
    |some u=>
     rcases hO b with z|⟨ob,xs,z⟩
     ·rw[q]at z;cases z
     ·have z2:=un.frzs b ob _ z;obtain⟨e1,_⟩:=hok b _ z;obtain⟨e2,_⟩:=iU b _ z2;rw[e]at e1;cases e1;exact e2
 cases hk:K.lookup a with
 |some o=>
  have e:=KX a o hk;rw[ha]at e;cases e;refine core (fun _=>none) (fun _=>.inl rfl) (.inr ⟨_,vs.toArray,_,hk,rfl,rfl,rfl,by rw[List.size_toArray,jG];exact hl,by simpa using rv⟩) (fun b u z=>by have z':(none:Option HO)=some u:=z;cases z') (fun b z=>absurd rfl z) fun z=>absurd rfl z
 |none=>
  refine core (fun b=>if b=a then some (.frz { cls:=.type "list",data:=.seq vs.toArray } (.lst (ns.map V.int)))else none) (fun b=>?_) (.inl (.inr ⟨{ cls:=.type "list",data:=.seq vs.toArray },if_pos rfl⟩)) (fun b u z=>?_) (fun b z=>?_) fun _=>hk
  ·by_cases hb:b=a
   ·exact .inr ⟨_,_,if_pos hb⟩
   ·exact .inl (if_neg hb)
  ·by_cases hb:b=a
   ·have z':=(if_pos hb).symm.trans z;cases z';subst hb;exact⟨ha,by rw[List.length_map];exact hl,vs,_,rv,ha⟩
   ·have z':=(if_neg hb).symm.trans z;cases z'
  ·by_cases hb:b=a
   ·exact hb
   ·exact absurd (if_neg hb) z
theorem walk_of{l:PySem.W.OpenLaw}{n k:Nat}{q:Program}{loose:List Str}{XP:(Str->Option Value)->Heap->Prop}{YP:World->Heap->Prop}{d:DefRec}{K:Params->PySem.W.Frag}{CX:World->CXT}{sp:World->Sp}{x:Str}(hn:l.most=some n)(Xr:n<=sizeLine)(eO:d.params.defaults=[])(hr:Room k callerA)(hY:∀(w:World)(h:Heap),YP w h->(K w.params).In h)(F:∀(w:World)(mg:Str->Option Value)(fa:Addr)(h:Heap),(K w.params).In h->h.Ns mainGlobals mg->mg d.name=some (.ref fa) →
   ∃fd:FuncData,(∀(s:Shared)(u:Value),BindsTo s fd ⟨[u],[]⟩ [(x,u)]) ∧
    ∀base:Heap,(K w.params).In base->base.Ns mainGlobals mg->FnOk l.prog w (K w.params) mg base (CX w) k fa fd [x] (sp w))(VX:∀(w:World)(H:Hp)(a:Addr)(ns:List Int),ns.length<=n->dE H->SqL (K w.params) H a (ns.map V.int)->sp w [.ref a] H (fun v _=>v=.bl true) fun _ _ _=>False)(jI:∀(w:World)(H:Hp)(s:Shared)(e:Value)(s':Shared),CX w [] H s (fun _ _ _=>False) e s'->False) :
  PySem.W.WalkO q loose XP YP l.row.toRowW d [] (fun f vs=>PySem.call f vs):=by
 refine Att.attach_call hn eO fun w s₀ s₁ mg mb fa o pm cd doc a vs ns G Y ho hd Ts Qi bM hints Au hg=>?_;have KX:=hY w _ Y;obtain⟨fd,hb,hF⟩:=F w mg fa _ KX G.T.g Qi;exact VF KX G.T.g G.T.b G.T.builtins G.T.nolimit hg bM hints (Nat.le_trans Au Xr) hr hF hb (fun H hO hS=>VX w H a ns Au hO hS) fun H e s'=>jI w H s₁ e s'
abbrev CX0:CXT:=fun _ _ _ _ _ _=>False
abbrev E0:XK:=fun _ _ _=>False
theorem U9{X:Cx}:Qe CX0 X E0:=fun _ _ _ _ _ _ _ h=>h.elim
structure Fun (K:PySem.W.Frag) (x qual:Str) (st:Stmt) (f:Addr) (fd:FuncData):Prop where
 ex:∃(oc:Value)(od:Option Addr)(kV doc pm:Value)(an:Option Addr)(A1 ct:Value)(Uq:Array (Option Value)),
  fd=PySem.W.fnOf x qual (C9 st) (Bi st) (AF st) .none kV doc pm an A1 ct/\K.lookup f=some ⟨oc,od,.func fd,Uq⟩/\PySem.W.codeIn K A1 qual=true
 kp:PySem.W.keepIn K (.ref f)=true
section
variable {P:Program}{w:World}{K:PySem.W.Frag}{mg:Str->Option Value}{base:Heap}
theorem Fun.ok{x qual:Str}{st:Stmt}{f:Addr}{fd:FuncData}{N ps:List Str}{k:Nat}{sp:Sp}(F:Fun K x qual st f fd)(S:FnScope N ps (AF st))(len:∀vs H Q E,sp vs H Q E->vs.length=ps.length)(VD:∀(A1:Value)(A:Around)(outer:List Env)(s:Shared)(H:Hp)(vs:List V)(Q:VK)(E:XK),Room k (A.deeper (envOfC qual (AF st) s.heap.objs.size f A1))->sp vs H Q E →
   ∃t,PSs (Io CX0 P w K mg base N qual (AF st) f A1 A outer s H E).nox (Bi st) t/\t { nx:=fun _ H'=>Q .non H',rt:=Q } (start N vs) H):FnOk P w K mg base CX0 (k+1) f fd ps sp:=by
 obtain⟨oc,od,kV,doc,pm,an,A1,ct,Uq,rfl,lk,Ts⟩:=F.ex;refine ae lk Ts S len fun A outer s H vs Q E hr VX=>?_;obtain⟨t,h,q⟩:=VD A1 A outer s H vs Q E hr VX;exact⟨t,h.nox,q⟩
theorem Fun.binds{x qual:Str}{st:Stmt}{f:Addr}{fd:FuncData}{ps:List Str}(F:Fun K x qual st f fd)(h:∀(kV doc pm:Value)(an:Option Addr)(A1 ct:Value)(us:List Value),us.length=ps.length->bindArgs (PySem.W.fnOf x qual (C9 st) (Bi st) (AF st) .none kV doc pm an A1 ct) ⟨us,[]⟩=pure (ps.zip us)):Binds K fd ps []:=by obtain⟨oc,od,kV,doc,pm,an,A1,ct,Uq,rfl,lk,Ts⟩:=F.ex;exact .all (h kV doc pm an A1 ct)
theorem bB{x qual:Str}{st:Stmt}{f:Addr}{oc:Value}{od an:Option Addr}{Uq:Array (Option Value)}{kV doc pm A1 ct:Value}(l:K.lookup f=some ⟨oc,od,.func (PySem.W.fnOf x qual (C9 st) (Bi st) (AF st) .none kV doc pm an A1 ct),Uq⟩)(c:PySem.W.codeIn K A1 qual=true)(k:PySem.W.keepIn K (.ref f)=true):Fun K x qual st f (PySem.W.fnOf x qual (C9 st) (Bi st) (AF st) .none kV doc pm an A1 ct):=⟨⟨oc,od,kV,doc,pm,an,A1,ct,Uq,rfl,l,c⟩,k⟩
end
theorem JB{n:Nat}(h:n<=1000):n<sizeLine:=Nat.lt_of_le_of_lt h (by decide)
def Same(H H':Hp):Prop:=∀b o,H b=some o->H' b=some o
theorem Same.seq{K:PySem.W.Frag}{H H':Hp}{a:Addr}{xs:List V}(e:Same H H')(h:SqL K H a xs):SqL K H' a xs:=by
 rcases h with(h|⟨o,h⟩)|h
 ·exact .inl (.inl (e _ _ h))
 ·exact .inl (.inr ⟨o,e _ _ h⟩)
 ·exact .inr h
end L2
namespace TF
open PySem PySem.Spec L2
open PyProof.Rows hiding St RelV
inductive Dat where
 |non|bl (b:Bool)|int (i:Int)|str (x:Str)|fn (a:Addr)|scr (ns:List Int)|tup (l:List Dat)|lst (l:List Dat)
mutual
def Rep(K:PySem.W.Frag)(H:Hp):Dat->V->Prop
 |.non,v=>v=.non
 |.bl b,v=>v=.bl b
 |.int i,v=>v=.int i
 |.str x,v=>v=.str x
 |.fn a,v=>v=.ref a
 |.scr ns,v=>∃a,v=.ref a/\SqL K H a (ns.map V.int)
 |.tup l,v=>∃a vs,v=.ref a/\SqT K H a vs/\RepL K H l vs
 |.lst l,v=>∃a vs,v=.ref a/\H a=some (.lst vs)/\RepL K H l vs
def RepL(K:PySem.W.Frag)(H:Hp):List Dat->List V->Prop
 |[],vs=>vs=[]
 |d::ds,vs=>∃v r,vs=v::r/\Rep K H d v/\RepL K H ds r
end
theorem Ar{K:PySem.W.Frag}{H H':Hp}{a:Addr}{xs:List V}(e:Same H H')(h:SqT K H a xs):SqT K H' a xs:=by
 rcases h with(h|⟨o,h⟩)|h
 ·exact .inl (.inl (e _ _ h))
 ·exact .inl (.inr ⟨o,e _ _ h⟩)
 ·exact .inr h
mutual
theorem Rep.same{K:PySem.W.Frag}{H H':Hp}(e:Same H H'):∀{d:Dat}{v:V},Rep K H d v->Rep K H' d v
 |.non,_,h=>by simpa[Rep]using h
 |.bl _,_,h=>by simpa[Rep]using h
 |.int _,_,h=>by simpa[Rep]using h
 |.str _,_,h=>by simpa[Rep]using h
 |.fn _,_,h=>by simpa[Rep]using h
 |.scr _,_,h=>by
  obtain⟨a,h1,h2⟩:=(by simpa[Rep]using h:∃a,_=V.ref a/\SqL K H a _);rw[Rep];exact⟨a,h1,e.seq h2⟩
 |.tup _,_,h=>by
  rw[Rep]at h ⊢;obtain⟨a,vs,h1,h2,h3⟩:=h;exact⟨a,vs,h1,Ar e h2,RepL.same e h3⟩
 |.lst _,_,h=>by
  rw[Rep]at h ⊢;obtain⟨a,vs,h1,h2,h3⟩:=h;exact⟨a,vs,h1,e _ _ h2,RepL.same e h3⟩
theorem RepL.same{K:PySem.W.Frag}{H H':Hp}(e:Same H H'):∀{ds:List Dat}{vs:List V},RepL K H ds vs->RepL K H' ds vs
 |[],_,h=>by rw[RepL]at h ⊢;exact h
 |_::_,_,h=>by
  rw[RepL]at h ⊢;obtain⟨v,r,h1,h2,h3⟩:=h;exact⟨v,r,h1,Rep.same e h2,RepL.same e h3⟩
end
theorem RepL.length{K:PySem.W.Frag}{H:Hp}:∀{ds:List Dat}{vs:List V},RepL K H ds vs->vs.length=ds.length
 |[],_,h=>by rw[RepL]at h;subst h;rfl
 |_::_,_,h=>by
  rw[RepL]at h;obtain⟨v,r,rfl,_,h3⟩:=h;rw[List.length_cons,List.length_cons,RepL.length h3]
theorem RepL.get{K:PySem.W.Frag}{H:Hp}:∀{ds:List Dat}{vs:List V}{i:Nat}{d:Dat},RepL K H ds vs->ds[i]?=some d->∃v,vs[i]?=some v/\Rep K H d v
 |[],_,_,_,_,e=>by simp at e
 |_::_,_,0,_,h,e=>by
  rw[RepL]at h;obtain⟨v,r,rfl,h2,_⟩:=h;simp at e;subst e;exact⟨v,rfl,h2⟩
 |_::_,_,i+1,d,h,e=>by
  rw[RepL]at h;obtain⟨v,r,rfl,_,h3⟩:=h;obtain⟨u,h4,h5⟩:=RepL.get (i:=i) (d:=d) h3 (by simpa using e);exact⟨u,by simpa using h4,h5⟩
theorem RepL.nil{K:PySem.W.Frag}{H:Hp}:RepL K H [] []:=by rw[RepL]
theorem RepL.cons{K:PySem.W.Frag}{H:Hp}{d:Dat}{ds:List Dat}{v:V}{vs:List V}(h:Rep K H d v)(t:RepL K H ds vs):RepL K H (d::ds) (v::vs):=by rw[RepL];exact⟨v,vs,rfl,h,t⟩
theorem RepL.append{K:PySem.W.Frag}{H:Hp}:∀{ds es:List Dat}{vs us:List V},RepL K H ds vs->RepL K H es us->RepL K H (ds++es) (vs++us)
 |[],_,_,_,h,t=>by rw[RepL]at h;subst h;exact t
 |_::_,_,_,_,h,t=>by
  rw[RepL]at h;obtain⟨v,r,rfl,h2,h3⟩:=h;exact RepL.cons h2 (RepL.append h3 t)
theorem RepL.drop{K:PySem.W.Frag}{H:Hp}:∀(n:Nat){ds:List Dat}{vs:List V},RepL K H ds vs->RepL K H (ds.drop n) (vs.drop n)
 |0,_,_,h=>h
 |_+1,[],_,h=>by rw[RepL]at h;subst h;simpa using RepL.nil
 |n+1,_::_,_,h=>by
  rw[RepL]at h;obtain⟨v,r,rfl,_,h3⟩:=h;exact RepL.drop n h3
theorem RepL.take{K:PySem.W.Frag}{H:Hp}:∀(n:Nat){ds:List Dat}{vs:List V},RepL K H ds vs->RepL K H (ds.take n) (vs.take n)
 |0,_,_,_=>by simpa using RepL.nil
 |_+1,[],_,h=>by rw[RepL]at h;subst h;simpa using RepL.nil
 |n+1,_::_,_,h=>by
  rw[RepL]at h;obtain⟨v,r,rfl,h2,h3⟩:=h;exact RepL.cons h2 (RepL.take n h3)
theorem RepL.ints{K:PySem.W.Frag}{H:Hp}:∀{ns:List Int}{vs:List V},RepL K H (ns.map Dat.int) vs->vs=ns.map V.int
 |[],_,h=>by rw[List.map_nil,RepL]at h;subst h;rfl
 |_::_,_,h=>by
  rw[List.map_cons,RepL]at h;obtain⟨v,r,rfl,h2,h3⟩:=h;rw[Rep]at h2;subst h2;rw[RepL.ints h3];rfl
inductive OD where
 |lst (l:List Dat)
 |dct (AV:List (Dat×Dat))
abbrev Gs:=Addr->Option OD
def g0:Gs:=fun _=>none
def put(G:Gs)(a:Addr)(o:OD):Gs:=fun b=>if b=a then some o else G b
def rel(G:Gs)(a:Addr):Gs:=fun b=>if b=a then none else G b
theorem AH{G:Gs}{a:Addr}{o:OD}:put G a o a=some o:=by simp[put]
theorem Ad{G:Gs}{a b:Addr}{o:OD}(h:b≠a):put G a o b=G b:=by simp[put,h]
theorem CG{G:Gs}{a:Addr}:rel G a a=none:=by simp[rel]
theorem D3{G:Gs}{a b:Addr}(h:b≠a):rel G a b=G b:=by simp[rel,h]
theorem A5{G:Gs}{a:Addr}{o:OD}(h:G a=none):rel (put G a o) a=G:=by
 funext b;by_cases e:b=a
 ·subst e;rw[CG,h]
 ·rw[D3 e,Ad e]
theorem Ao{G:Gs}{a:Addr}{o u:OD}:put (put G a o) a u=put G a u:=by
 funext b;by_cases e:b=a
 ·subst e;rw[AH,AH]
 ·rw[Ad e,Ad e,Ad e]
theorem KC{G:Gs}{a b:Addr}{o u:OD}(h:a≠b):put (put G a o) b u=put (put G b u) a o:=by
 funext c;by_cases e:c=a
 ·subst e;rw[Ad h,AH,AH]
 ·by_cases f:c=b
  ·subst f;rw[AH,Ad e,AH]
  ·rw[Ad f,Ad e,Ad e,Ad f]
theorem EZ{G:Gs}{a:Addr}{o:OD}(h:G a=some o):put G a o=G:=by
 funext b;by_cases e:b=a
 ·subst e;rw[AH,h]
 ·rw[Ad e]
def hid(H:Hp)(G:Gs):Hp:=fun b=>if (G b).isSome then none else H b
theorem MX{H:Hp}{G:Gs}{b:Addr}{o:HO}(h:hid H G b=some o):G b=none/\H b=some o:=by
 unfold hid at h;cases e:G b with
 |none=>rw[e]at h;exact⟨rfl,by simpa using h⟩
 |some u=>rw[e]at h;simp at h
theorem Eu{H:Hp}{G:Gs}{b:Addr}{o:HO}(h1:G b=none)(h2:H b=some o):hid H G b=some o:=by unfold hid;rw[h1];simpa using h2
theorem AK{H:Hp}{G:Gs}:Same (hid H G) H:=fun _ _ h=>(MX h).2
structure Ext (H:Hp) (G:Gs) (H':Hp) (G':Gs):Prop where
 keep:∀b o,H b=some o->G b=none->H' b=some o
 new:∀b,G' b≠none->G b≠none\/H b=none
theorem Ext.refl{H:Hp}{G:Gs}:Ext H G H G:=⟨fun _ _ h _=>h,fun _ h=>.inl h⟩
theorem Ext.hid{H H':Hp}{G G':Gs}(e:Ext H G H' G'):Same (hid H G) (hid H' G'):=fun b o h=>by
 obtain⟨h1,h2⟩:=MX h;refine Eu ?_ (e.keep b o h2 h1);cases q:G' b with
 |none=>rfl
 |some u=>
  rcases e.new b (by rw[q];exact nofun)with z|z
  ·exact absurd h1 z
  ·rw[h2]at z;cases z
theorem Ext.trans{H H1 H2:Hp}{G G1 G2:Gs}(a:Ext H G H1 G1)(b:Ext H1 G1 H2 G2):Ext H G H2 G2:=by
 refine⟨fun c o h h'=>?_,fun c h=>?_⟩
 ·have h1:=a.keep c o h h';refine b.keep c o h1 ?_;cases q:G1 c with
  |none=>rfl
  |some u=>
   rcases a.new c (by rw[q];exact nofun)with z|z
   ·exact absurd h' z
   ·rw[h]at z;cases z
 ·rcases b.new c h with z|z
  ·exact a.new c z
  ·cases q:G c with
   |some u=>exact .inl nofun
   |none=>
    right;cases r:H c with
    |none=>rfl
    |some o=>rw[a.keep c o r q]at z;cases z
theorem Ext.alloc{H:Hp}{G:Gs}{p:Addr}{o:HO}(h:H p=none):Ext H G (upd H p o) G:=⟨fun b u e _=>by rw[AZ (Ak e h)];exact e,fun _ h=>.inl h⟩
def Br:Nat->Dat->Bool
 |_,.int _=>true
 |n+1,.tup l=>l.all (Br n)
 |_,_=>false
mutual
def Jc:Dat->Int
 |.int i=>hashInt i
 |.tup l=>reduceHash (Builtin.Tuple.tupleHashOf (Dy l))
 |_=>0
def Dy:List Dat->List Int
 |[]=>[]
 |d::r=>Jc d::Dy r
end
def gH(x:Dat×Addr×Value):DictEntry:=⟨Jc x.1,.ref x.2.1,x.2.2⟩
def NW(a:Addr)(xs:List (Dat×Addr×Value))(h:Heap):Prop:=(a==sysModules)=false/\xs.length<=sizeLine/\(xs.map (·.1)).Nodup/\∃o es ep,h.get? a=some o/\o.ExactDict/\o.data=.dict es ep/\es.toList=xs.map gH
def El(a:Addr)(xs:List (Dat×Addr×Value)):HO:=.ext (NW a xs)
def DRep(K:PySem.W.Frag)(H:Hp):List (Dat×Dat)->List (Dat×Addr×Value)->Prop
 |[],xs=>xs=[]
 |(k,d)::r,xs=>∃a u L3,xs=(k,a,u)::L3/\Br 6 k=true/\Rep K H k (.ref a)/\(∃v,RelV v u/\Rep K H d v)/\DRep K H r L3
theorem DRep.same{K:PySem.W.Frag}{H H':Hp}(e:Same H H'):∀{AV:List (Dat×Dat)}{xs:List (Dat×Addr×Value)},DRep K H AV xs->DRep K H' AV xs
 |[],_,h=>h
 |_::_,_,⟨a,u,L3,h1,h2,h3,⟨v,h4,h5⟩,h6⟩=>⟨a,u,L3,h1,h2,h3.same e,⟨v,h4,h5.same e⟩,DRep.same e h6⟩
section
variable (K:PySem.W.Frag)
def OwnOk(H:Hp)(G:Gs)(a:Addr):OD->Prop
 |.lst l=>∃vs,H a=some (.lst vs)/\RepL K (hid H G) l vs
 |.dct AV=>∃xs,H a=some (El a xs)/\DRep K (hid H G) AV xs
def GOk(H:Hp)(G:Gs):Prop:=∀a o,G a=some o->OwnOk K H G a o
end
section
variable {K:PySem.W.Frag}{H H':Hp}{G G':Gs}{a p:Addr}
theorem OwnOk.there{o:OD}(h:OwnOk K H G a o):∃u,H a=some u:=by
 cases o with
 |lst l=>obtain⟨vs,h,_⟩:=h;exact⟨_,h⟩
 |dct AV=>obtain⟨xs,h,_⟩:=h;exact⟨_,h⟩
theorem OwnOk.ext{o:OD}(h:OwnOk K H G a o)(e:Same (hid H G) (hid H' G'))(q:H' a=H a):OwnOk K H' G' a o:=by
 cases o with
 |lst l=>
  obtain⟨vs,h1,h2⟩:=h;exact⟨vs,q.trans h1,h2.same e⟩
 |dct AV=>
  obtain⟨xs,h1,h2⟩:=h;exact⟨xs,q.trans h1,h2.same e⟩
theorem GOk.free(h:GOk K H G)(hp:H p=none):G p=none:=by
 cases q:G p with
 |none=>rfl
 |some o=>obtain⟨u,e⟩:=(h p o q).there;rw[hp]at e;cases e
theorem GOk.alloc{o:HO}(h:GOk K H G)(hp:H p=none):GOk K (upd H p o) G:=fun b u q=>
 (h b u q).ext (Ext.alloc hp).hid (AZ (by rintro rfl;rw[h.free hp]at q;cases q))
theorem gu:GOk K H g0:=fun _ _ h=>nomatch h
theorem aj:hid H g0=H:=by funext b;simp[hid,g0]
end
abbrev Rho:=List (Option Dat)
structure Stt (X:Cx) (H:Hp) (σ:St) (ρ:Rho) (G:Gs):Prop where
 env:∀(i:Nat) d,ρ[i]?=some (some d)->∃v,σ[i]?=some (some v)/\Rep X.K (hid H G) d v
 len:ρ.length=σ.length
 own:GOk X.K H G
theorem Stt.ext{X:Cx}{H H':Hp}{σ:St}{ρ:Rho}{G G':Gs}(S:Stt X H σ ρ G)(e:Ext H G H' G')(o:GOk X.K H' G'):Stt X H' σ ρ G':=⟨fun i d h=>let ⟨v,h1,h2⟩:=S.env i d h;⟨v,h1,h2.same e.hid⟩,S.len,o⟩
theorem Stt.set{X:Cx}{H:Hp}{σ:St}{ρ:Rho}{G:Gs}{i:Nat}{d:Dat}{v:V}(S:Stt X H σ ρ G)(r:Rep X.K (hid H G) d v):Stt X H (σ.set i (some v)) (ρ.set i (some d)) G:=by
 refine⟨fun j e h=>?_,by rw[List.length_set,List.length_set,S.len],S.own⟩;by_cases hj:i=j
 ·subst hj;have hl:i<ρ.length:=by
   have:=(List.getElem?_eq_some_iff.mp h).1
   rwa [List.length_set]at this
  rw[List.getElem?_set_self hl]at h;cases h;exact⟨v,by rw[List.getElem?_set_self (by rw[<-S.len];exact hl)],r⟩
 ·rw[List.getElem?_set_ne hj]at h;rw[List.getElem?_set_ne hj];exact S.env j e h
section
variable (X:Cx)
def Po(H:Hp)(G:Gs)(Q:Dat->Gs->Prop):VK:=fun v H'=>∃d G',Ext H G H' G'/\GOk X.K H' G'/\Rep X.K (hid H' G') d v/\Q d G'
def PoT(H:Hp)(G:Gs)(Q:Bool->Gs->Prop):Bool->Hp->Prop:=fun b H'=>∃G',Ext H G H' G'/\GOk X.K H' G'/\Q b G'
def PoA(H:Hp)(G:Gs)(Q:List Dat->Gs->Prop):List V->Hp->Prop:=fun vs H'=>∃ds G',Ext H G H' G'/\GOk X.K H' G'/\RepL X.K (hid H' G') ds vs/\Q ds G'
def WE(ρ:Rho)(G:Gs)(e:Expr)(Q:Dat->Gs->Prop):Prop:=∀(AD:List (Addr×Obj))(s:Shared)(σ:St)(H:Hp),Inv X AD σ H s->Stt X H σ ρ G->wpAny (model X.prog X.w) X.A (eval e X.env) (EP X AD σ (Po X H G Q)) X.xe s
def WT(ρ:Rho)(G:Gs)(e:Expr)(Q:Bool->Gs->Prop):Prop:=∀(AD:List (Addr×Obj))(s:Shared)(σ:St)(H:Hp),Inv X AD σ H s->Stt X H σ ρ G->wpAny (model X.prog X.w) X.A (isTrue e X.env (eval e X.env)) (TP X AD σ (PoT X H G Q)) X.xe s
def WA(ρ:Rho)(G:Gs)(es:List Expr)(Q:List Dat->Gs->Prop):Prop:=∀(pos:Pos)(AD:List (Addr×Obj))(s:Shared)(σ:St)(H:Hp),Inv X AD σ H s->Stt X H σ ρ G->wpAny (model X.prog X.w) X.A (spliced (backTo pos (starEach es X.env))) (AP X AD σ (PoA X H G Q)) X.xe s
def PX(ρ:Rho)(G:Gs)(e:Expr)(d:Dat):Prop:=WE X ρ G e fun d' G'=>d'=d/\G'=G
def PXT(ρ:Rho)(G:Gs)(e:Expr)(b:Bool):Prop:=WT X ρ G e fun b' G'=>b'=b/\G'=G
def PXs(ρ:Rho)(G:Gs)(es:List Expr)(ds:List Dat):Prop:=WA X ρ G es fun d' G'=>d'=ds/\G'=G
end
theorem EP.mono{X:Cx}{AD:List (Addr×Obj)}{σ:St}{Q Q':VK}{u:Value}{s:Shared}(h:EP X AD σ Q u s)(k:∀v H,Q v H->Q' v H):EP X AD σ Q' u s:=let ⟨v,H,I,r,q⟩:=h;⟨v,H,I,r,k v H q⟩
theorem TP.mono{X:Cx}{AD:List (Addr×Obj)}{σ:St}{Q Q':Bool->Hp->Prop}{u:Bool}{s:Shared}(h:TP X AD σ Q u s)(k:∀v H,Q v H->Q' v H):TP X AD σ Q' u s:=let ⟨H,I,q⟩:=h;⟨H,I,k _ H q⟩
theorem AP.mono{X:Cx}{AD:List (Addr×Obj)}{σ:St}{Q Q':List V->Hp->Prop}{u:List Value}{s:Shared}(h:AP X AD σ Q u s)(k:∀v H,Q v H->Q' v H):AP X AD σ Q' u s:=let ⟨v,H,I,r,q⟩:=h;⟨v,H,I,r,k v H q⟩
theorem Po.mono{X:Cx}{H:Hp}{G:Gs}{Q Q':Dat->Gs->Prop}{v:V}{H':Hp}(h:Po X H G Q v H')(k:∀d G',Q d G'->Q' d G'):Po X H G Q' v H':=let ⟨d,G',e,o,r,q⟩:=h;⟨d,G',e,o,r,k d G' q⟩
theorem Po.trans{X:Cx}{H H1:Hp}{G G1:Gs}{Q:Dat->Gs->Prop}{v:V}{H':Hp}(e:Ext H G H1 G1)(h:Po X H1 G1 Q v H'):Po X H G Q v H':=let ⟨d,G',e',o,r,q⟩:=h;⟨d,G',e.trans e',o,r,q⟩
theorem PoT.trans{X:Cx}{H H1:Hp}{G G1:Gs}{Q:Bool->Gs->Prop}{v:Bool}{H':Hp}(e:Ext H G H1 G1)(h:PoT X H1 G1 Q v H'):PoT X H G Q v H':=let ⟨G',e',o,q⟩:=h;⟨G',e.trans e',o,q⟩
section
variable {X:Cx}{ρ:Rho}{G:Gs}{e a b:Expr}{es:List Expr}{d d' d1 d2:Dat}{ds:List Dat}{pos:Pos}
theorem Ba{t:TE}{Q:Dat->Gs->Prop}(h:PE X e t)(hq:∀σ H,Stt X H σ ρ G->t σ H (Po X H G Q)):WE X ρ G e Q:=fun AD s σ H I S=>h AD s σ H _ I (hq σ H S)
def tW(X:Cx)(e:Expr):TE:=fun σ H Q'=>∃ρ G R,WE X ρ G e R/\Stt X H σ ρ G/\∀v H',Po X H G R v H'->Q' v H'
theorem Ap:PE X e (tW X e):=fun AD s σ H Q I ⟨_,_,_,h,S,k⟩=>thn (h AD s σ H I S) fun _ _ q=>EP.mono q k
theorem Vi{t:TT}{Q:Bool->Gs->Prop}(h:PT X e t)(hq:∀σ H,Stt X H σ ρ G->t σ H (PoT X H G Q)):WT X ρ G e Q:=fun AD s σ H I S=>h AD s σ H _ I (hq σ H S)
theorem Sv{t:TA}{Q:List Dat->Gs->Prop}(h:PA X es t)(hq:∀σ H,Stt X H σ ρ G->t σ H (PoA X H G Q)):WA X ρ G es Q:=fun pos AD s σ H I S=>h pos AD s σ H _ I (hq σ H S)
def tWA(X:Cx)(es:List Expr):TA:=fun σ H Q'=>∃ρ G R,WA X ρ G es R/\Stt X H σ ρ G/\∀v H',PoA X H G R v H'->Q' v H'
theorem LK:PA X es (tWA X es):=fun pos AD s σ H Q I ⟨_,_,_,h,S,k⟩=>thn (h pos AD s σ H I S) fun _ _ q=>AP.mono q k
theorem WE.mono{Q Q':Dat->Gs->Prop}(h:WE X ρ G e Q)(k:∀d G',Q d G'->Q' d G'):WE X ρ G e Q':=fun AD s σ H I S=>thn (h AD s σ H I S) fun _ _ q=>EP.mono q fun _ _ z=>Po.mono z k
theorem PX.we{Q:Dat->Gs->Prop}(h:PX X ρ G e d)(q:Q d G):WE X ρ G e Q:=WE.mono h fun _ _ ⟨h1,h2⟩=>by subst h1;subst h2;exact q
theorem PX.cast(h:PX X ρ G e d)(q:d=d'):PX X ρ G e d':=q▸h
theorem po1{H H':Hp}{v:V}(e:Ext H G H' G)(o:GOk X.K H' G)(r:Rep X.K (hid H' G) d v):Po X H G (fun d' G'=>d'=d/\G'=G) v H':=⟨d,G,e,o,r,rfl,rfl⟩
theorem BR{H:Hp}{v:V}(o:GOk X.K H G)(r:Rep X.K (hid H G) d v):Po X H G (fun d' G'=>d'=d/\G'=G) v H:=po1 Ext.refl o r
theorem AA(i:Nat){x:Str}(hi:ρ[i]?=some (some d))(hN:X.N[i]?=some x:=by rfl)(hv:Vis X.env.scope x:=by first|exact Or.inl rfl|exact Or.inr (Or.inl rfl)|exact Or.inr (Or.inr rfl))(hd:(x==("__debug__":Str))=false:=by decide)(Ts:(x==("__classdict__":Str))=false:=by decide):PX X ρ G (.Name x pos) d:=Ba (cm hN hv hd Ts) fun σ H S=>let ⟨v,h1,h2⟩:=S.env i d hi;⟨v,h1,BR S.own h2⟩
theorem AG{i:Int}{j}:PX X ρ G (.Constant (.int i) j pos) (.int i):=Ba bC fun σ H S=>BR S.own rfl
theorem Fi{i:Bool}{j}:PX X ρ G (.Constant (.bool i) j pos) (.bl i):=Ba dm fun σ H S=>BR S.own rfl
theorem Q3{j}:PX X ρ G (.Constant .none j pos) .non:=Ba az fun σ H S=>BR S.own rfl
theorem Qn{x:Str}{j}:PX X ρ G (.Constant (.str x) j pos) (.str x):=Ba cP fun σ H S=>BR S.own rfl
theorem LP{op:Operator}{r:R2}(ho:OpR X (binaryOp op) r)(ha:PX X ρ G a d1)(hb:PX X ρ G b d2)(hr:∀(H:Hp)(x y:V)(Q:VK),GOk X.K H G->Rep X.K (hid H G) d1 x->Rep X.K (hid H G) d2 y->(∀v H',Po X H G (fun d' G'=>d'=d/\G'=G) v H'->Q v H')->r x y H Q):PX X ρ G (.BinOp a op b pos) d:=Ba (aI ho Ap Ap) fun σ H S=>⟨ρ,G,_,ha,S,fun x H1 ⟨_,_,e1,o1,r1,q1,BV⟩=>by
  subst q1;subst BV;refine⟨ρ,_,_,hb,S.ext e1 o1,fun y H2 ⟨_,_,e2,o2,r2,q2,Fs⟩=>?_⟩;subst q2;subst Fs;exact hr H2 x y _ o2 (r1.same e2.hid) r2 fun v H' z=>Po.trans (e1.trans e2) z⟩
end
mutual
def eqD:Dat->Dat->Bool
 |.non,.non=>true
 |.bl a,.bl b=>a==b
 |.bl a,.int b=>(if a then 1 else 0)==b
 |.int a,.bl b=>a==(if b then 1 else 0)
 |.int a,.int b=>a==b
 |.str a,.str b=>a==b
 |.tup l,.tup m=>eqL l m
 |.lst l,.lst m=>eqL l m
 |_,_=>false
def eqL:List Dat->List Dat->Bool
 |[],[]=>true
 |x::xs,y::ys=>eqD x y&&eqL xs ys
 |_,_=>false
end
def Al:Dat->Bool
 |.non=>true|.bl _=>true|.int _=>true|.str _=>true|_=>false
def AI:Nat->Dat->Bool
 |0,d=>Al d
 |n+1,.tup l=>l.all (AI n)
 |n+1,.lst l=>l.all (AI n)
 |_+1,d=>Al d
theorem JL{d:Dat}(h:Al d=true):∀n,AI n d=true
 |0=>h
 |n+1=>by cases d<;>first|exact h|(simp[Al]at h)
theorem Of:∀(n:Nat)(d:Dat),AI n d=true->eqD d d=true:=by
 intro n
 induction n with
 |zero=>intro d h;cases d<;>simp_all[AI,Al,eqD]
 |succ n ih=>
  have hl:∀l:List Dat,l.all (AI n)=true->eqL l l=true:=by
   intro l
   induction l with
   |nil=>intro _;simp[eqL]
   |cons x r kN=>
    intro h;simp only[List.all_cons,Bool.and_eq_true]at h;simp only[eqL,Bool.and_eq_true];exact⟨ih x h.1,kN h.2⟩
  intro d h;cases d<;>simp_all[AI,Al,eqD]
theorem EL:∀(l m:List Dat),eqL l m=((List.range (min l.length m.length)).all (fun j=>match l[j]?,m[j]? with|some x,some y=>eqD x y|_,_=>true)&&l.length==m.length)
 |[],[]=>by simp[eqL]
 |[],_::_=>by simp[eqL]
 |_::_,[]=>by simp[eqL]
 |x::l,y::m=>by
  rw[eqL,EL l m,List.length_cons,List.length_cons,Nat.succ_min_succ,List.range_succ_eq_map,List.all_cons,List.all_map];simp only[List.getElem?_cons_zero,Function.comp_def,List.getElem?_cons_succ,Nat.succ_eq_add_one,Bool.and_assoc];congr 2;rw[Bool.eq_iff_iff];simp
mutual
def AtH(h:Heap):Dat->Value->Prop
 |.non,u=>u=.none
 |.bl b,u=>u=.bool b
 |.int i,u=>∃t,u=.int i t
 |.str x,u=>∃t,u=.str x t
 |.fn a,u=>u=.ref a
 |.scr _,_=>False
 |.tup l,u=>∃a AS,u=.ref a/\h.IsTuple a AS.toArray/\AtL h l AS
 |.lst l,u=>∃a AS,u=.ref a/\h.IsList a AS.toArray/\AtL h l AS
def AtL(h:Heap):List Dat->List Value->Prop
 |[],us=>us=[]
 |d::ds,us=>∃u r,us=u::r/\AtH h d u/\AtL h ds r
end
theorem AtL.length{h:Heap}:∀{ds:List Dat}{us:List Value},AtL h ds us->us.length=ds.length
 |[],_,r=>by rw[AtL]at r;subst r;rfl
 |_::_,_,r=>by
  rw[AtL]at r;obtain⟨u,r,rfl,_,h3⟩:=r;rw[List.length_cons,List.length_cons,AtL.length h3]
theorem AtL.get{h:Heap}:∀{ds:List Dat}{us:List Value}{i:Nat}{d:Dat},AtL h ds us->ds[i]?=some d->∃u,us[i]?=some u/\AtH h d u
 |[],_,_,_,_,e=>by simp at e
 |_::_,_,0,_,r,e=>by
  rw[AtL]at r;obtain⟨u,r,rfl,h2,_⟩:=r;simp at e;subst e;exact⟨u,rfl,h2⟩
 |_::_,_,i+1,d,r,e=>by
  rw[AtL]at r;obtain⟨u,r,rfl,_,h3⟩:=r;obtain⟨u',h4,h5⟩:=AtL.get (i:=i) (d:=d) h3 (by simpa using e);exact⟨u',by simpa using h4,h5⟩
section
variable {X:Cx}{AD:List (Addr×Obj)}{σ:St}{H:Hp}{s:Shared}
mutual
theorem Rep.at(I:Inv X AD σ H s):∀{d:Dat}{v:V}{u:Value}{n:Nat},AI n d=true->Rep X.K H d v->RelV v u->AtH s.heap d u
 |.non,_,_,_,_,r,q=>by rw[Rep]at r;subst r;cases q;rw[AtH]
 |.bl _,_,_,_,_,r,q=>by rw[Rep]at r;subst r;cases q;rw[AtH]
 |.int _,_,_,_,_,r,q=>by rw[Rep]at r;subst r;rw[AtH];exact q
 |.str _,_,_,_,_,r,q=>by rw[Rep]at r;subst r;rw[AtH];exact q
 |.fn _,_,_,_,_,r,q=>by rw[Rep]at r;subst r;cases q;rw[AtH]
 |.scr _,_,_,n,p,_,_=>by cases n<;>simp[AI,Al]at p
 |.tup l,_,_,n,p,r,q=>by
  rw[Rep]at r;obtain⟨a,vs,rfl,h1,h2⟩:=r;cases q;obtain⟨AS,rv,ht,_⟩:=I.tuple h1;rw[AtH];refine⟨a,AS,rfl,ht,?_⟩;cases n with
  |zero=>simp[AI,Al]at p
  |succ n=>exact RepL.at I (n:=n) (by simpa[AI]using p) h2 rv
 |.lst l,_,_,n,p,r,q=>by
  rw[Rep]at r;obtain⟨a,vs,rfl,h1,h2⟩:=r;cases q;obtain⟨AS,rv,ht,_⟩:=I.list (SqL.of h1);rw[AtH];refine⟨a,AS,rfl,ht.isList,?_⟩;cases n with
  |zero=>simp[AI,Al]at p
  |succ n=>exact RepL.at I (n:=n) (by simpa[AI]using p) h2 rv
theorem RepL.at(I:Inv X AD σ H s):∀{ds:List Dat}{vs:List V}{us:List Value}{n:Nat},ds.all (AI n)=true->RepL X.K H ds vs->Vals vs us->AtL s.heap ds us
 |[],_,_,_,_,r,q=>by rw[RepL]at r;subst r;cases q;rw[AtL]
 |d::ds,_,_,n,p,r,q=>by
  rw[RepL]at r;obtain⟨v,r,rfl,h1,h2⟩:=r;cases q with
  |cons q1 q2=>
   simp only[List.all_cons,Bool.and_eq_true]at p;rw[AtL];exact⟨_,_,rfl,Rep.at I p.1 h1 q1,RepL.at I p.2 h2 q2⟩
end
end
theorem AtH.flat{h:Heap}{d:Dat}{u:Value}(r:AtH h d u)(f:Al d=true):∃v,RelV v u/\XR v=true/\∀(d':Dat)(u':Value)(v':V),Al d'=true->AtH h d' u'->RelV v' u'->eqV v v'=eqD d d':=by
 cases d<;>simp only[Al,Bool.false_eq_true]at f<;>rw[AtH]at r
 ·subst r;refine⟨.non,rfl,rfl,fun d' u' v' f' r' q'=>?_⟩;cases d'<;>simp only[Al,Bool.false_eq_true]at f'<;>rw[AtH]at r'<;>first|(subst r';cases v'<;>simp_all[RelV,eqV,eqD];done)|(obtain⟨t,rfl⟩:=r';cases v'<;>simp_all[RelV,eqV,eqD])
 ·subst r;refine⟨.bl _,rfl,rfl,fun d' u' v' f' r' q'=>?_⟩;cases d'<;>simp only[Al,Bool.false_eq_true]at f'<;>rw[AtH]at r'<;>first|(subst r';cases v'<;>simp_all[RelV,eqV,eqD];done)|(obtain⟨t,rfl⟩:=r';cases v'<;>simp_all[RelV,eqV,eqD])
 ·refine⟨.int _,r,rfl,fun d' u' v' f' r' q'=>?_⟩;cases d'<;>simp only[Al,Bool.false_eq_true]at f'<;>rw[AtH]at r'<;>first|(subst r';cases v'<;>simp_all[RelV,eqV,eqD];done)|(obtain⟨t,rfl⟩:=r';cases v'<;>simp_all[RelV,eqV,eqD])
 ·refine⟨.str _,r,rfl,fun d' u' v' f' r' q'=>?_⟩;cases d'<;>simp only[Al,Bool.false_eq_true]at f'<;>rw[AtH]at r'<;>first|(subst r';cases v'<;>simp_all[RelV,eqV,eqD];done)|(obtain⟨t,rfl⟩:=r';cases v'<;>simp_all[RelV,eqV,eqD])
theorem Oa{h:Heap}{a:Addr}{xs ys:Array Value}(h1:h.IsTuple a xs)(h2:h.IsList a ys):False:=by obtain⟨o,e,c,_⟩:=h1;obtain⟨o',e',c',_⟩:=h2;rw[e]at e';cases e';rw[c]at c';exact absurd c' (by decide)
theorem Ta{h:Heap}{a:Addr}{xs ys:List Value}(h1:h.IsTuple a xs.toArray)(h2:h.IsTuple a ys.toArray):xs=ys:=by obtain⟨o,e,c,n,d⟩:=h1;obtain⟨o',e',c',n',d'⟩:=h2;rw[e]at e';cases e';rw[d]at d';injection d' with d1 _;simpa using congrArg Array.toList d1
theorem Wi{h:Heap}{a:Addr}{xs ys:List Value}(h1:h.IsList a xs.toArray)(h2:h.IsList a ys.toArray):xs=ys:=by obtain⟨o,e,c,n,d⟩:=h1;obtain⟨o',e',c',n',d'⟩:=h2;rw[e]at e';cases e';rw[d]at d';injection d' with d1 _;simpa using congrArg Array.toList d1
theorem AtH.inj{h:Heap}:∀(n:Nat){d d':Dat}{u:Value},AI n d=true->AI n d'=true->AtH h d u->AtH h d' u->d=d':=by
 have flat:∀{d d':Dat}{u:Value},Al d=true->Al d'=true->AtH h d u->AtH h d' u->d=d':=by
  intro d d' u f f' r r';cases d<;>simp only[Al,Bool.false_eq_true]at f<;>cases d'<;>simp only[Al,Bool.false_eq_true]at f'<;>simp only[AtH]at r r' <;>
   first
   |rfl
   |(subst r;cases r';rfl)
   |(obtain⟨t,rfl⟩:=r;obtain⟨t',e⟩:=r';cases e;rfl)
   |(exfalso;subst r;cases r';done)
   |(exfalso;subst r;obtain⟨t',e⟩:=r';cases e;done)
   |(exfalso;obtain⟨t,rfl⟩:=r;cases r';done)
   |(exfalso;obtain⟨t,rfl⟩:=r;obtain⟨t',e⟩:=r';cases e;done)
 have SE:∀{d:Dat}{u:Value}{a:Addr},Al d=true->AtH h d u->u=.ref a->False:=by
  intro d u a f r e;subst e;cases d<;>simp only[Al,Bool.false_eq_true]at f<;>rw[AtH]at r<;>first|(cases r;done)|(obtain⟨t,e⟩:=r;cases e;done)
 intro n
 induction n with
 |zero=>intro d d' u h h' r r';exact flat h h' r r'
 |succ n ih=>
  have hl:∀(l m:List Dat)(us:List Value),l.all (AI n)=true->m.all (AI n)=true->AtL h l us->AtL h m us->l=m:=by
   intro l
   induction l with
   |nil=>
    intro m us _ _ r r';rw[AtL]at r;subst r;cases m with
    |nil=>rfl
    |cons y m=>rw[AtL]at r';obtain⟨_,_,e,_⟩:=r';cases e
   |cons x l gU=>
    intro m us h h' r r';rw[AtL]at r;obtain⟨v,rr,rfl,r1,r2⟩:=r;cases m with
    |nil=>rw[AtL]at r';cases r'
    |cons y m=>
     rw[AtL]at r';obtain⟨v',rF,e,Ur,Y6⟩:=r';cases e;simp only[List.all_cons,Bool.and_eq_true]at h h';rw[ih h.1 h'.1 r1 Ur,gU m _ h.2 h'.2 r2 Y6]
  intro d d' u h h' r r';by_cases f:Al d=true
  ·by_cases f':Al d'=true
   ·exact flat f f' r r'
   ·exfalso;cases d'<;>simp[AI,Al]at h' f'
    ·rw[AtH]at r';obtain⟨a,_,e,_⟩:=r';exact SE f r e
    ·rw[AtH]at r';obtain⟨a,_,e,_⟩:=r';exact SE f r e
  ·by_cases f':Al d'=true
   ·exfalso;cases d<;>simp[AI,Al]at h f
    ·rw[AtH]at r;obtain⟨a,_,e,_⟩:=r;exact SE f' r' e
    ·rw[AtH]at r;obtain⟨a,_,e,_⟩:=r;exact SE f' r' e
   ·cases d<;>simp[AI,Al]at h f<;>cases d'<;>simp[AI,Al]at h' f'<;>simp only[AtH]at r r'<;>obtain⟨a,xs,e1,t1,l1⟩:=r<;>obtain⟨b,ys,e2,t2,l2⟩:=r'<;>subst e1<;>cases e2
    ·have:=Ta t1 t2
     subst this;rw[hl _ _ _ (List.all_eq_true.mpr h) (List.all_eq_true.mpr h') l1 l2]
    ·exact(Oa t1 t2).elim
    ·exact(Oa t2 t1).elim
    ·have:=Wi t1 t2
     subst this;rw[hl _ _ _ (List.all_eq_true.mpr h) (List.all_eq_true.mpr h') l1 l2]
theorem Rep.inj{X:Cx}{AD:List (Addr×Obj)}{σ:St}{H:Hp}{s:Shared}(I:Inv X AD σ H s)(n:Nat){d d':Dat}{v:V}{u:Value}(h:AI n d=true)(h':AI n d'=true)(r:Rep X.K H d v)(r':Rep X.K H d' v)(q:RelV v u):d=d':=AtH.inj n h h' (r.at I h q) (r'.at I h' q)
theorem HR{s:Shared}:∀(n:Nat){A:Around}{d e:Dat}{u v:Value},AI n d=true->AI n e=true->AtH s.heap d u->AtH s.heap e v->A.units+n<cLine →
  SeqAt.EqAt A s u v (eqD d e)/\SeqAt.RcAt A s u v (eqD d e):=by
 have aV:∀{A:Around}{d e:Dat}{u v:Value},Al d=true->Al e=true->AtH s.heap d u->AtH s.heap e v->SeqAt.EqAt A s u v (eqD d e)/\SeqAt.RcAt A s u v (eqD d e):=by
  intro A d e u v fd fe rd re;constructor
  ·obtain⟨x,hx,fx,h1⟩:=AtH.flat rd fd;obtain⟨y,hy,fy,_⟩:=AtH.flat re fe;rw[<-h1 e v y fe re hy];exact cv hx hy fx fy
  ·cases d<;>simp only[Al,Bool.false_eq_true]at fd<;>cases e<;>simp only[Al,Bool.false_eq_true]at fe<;>simp only[AtH]at rd re<;>simp only[eqD]
   ·subst rd;subst re;exact SeqAt.RcAt.none_none
   ·subst rd;subst re;exact SeqAt.RcAt.none_bool _
   ·subst rd;obtain⟨_,rfl⟩:=re;exact SeqAt.RcAt.none_int _ _
   ·subst rd;obtain⟨_,rfl⟩:=re;exact SeqAt.RcAt.none_str _ _
   ·subst rd;subst re;exact SeqAt.RcAt.bool_none _
   ·subst rd;subst re;exact SeqAt.RcAt.bool_bool _ _
   ·subst rd;obtain⟨_,rfl⟩:=re;exact SeqAt.RcAt.bool_int _ _ _
   ·subst rd;obtain⟨_,rfl⟩:=re;exact SeqAt.RcAt.bool_str _ _ _
   ·obtain⟨_,rfl⟩:=rd;subst re;exact SeqAt.RcAt.int_none _ _
   ·obtain⟨_,rfl⟩:=rd;subst re;exact SeqAt.RcAt.int_bool _ _ _
   ·obtain⟨_,rfl⟩:=rd;obtain⟨_,rfl⟩:=re;exact SeqAt.RcAt.int_int _ _ _ _
   ·obtain⟨_,rfl⟩:=rd;obtain⟨_,rfl⟩:=re;exact SeqAt.RcAt.int_str _ _ _ _
   ·obtain⟨_,rfl⟩:=rd;subst re;exact SeqAt.RcAt.str_none _ _
   ·obtain⟨_,rfl⟩:=rd;subst re;exact SeqAt.RcAt.str_bool _ _ _
   ·obtain⟨_,rfl⟩:=rd;obtain⟨_,rfl⟩:=re;exact SeqAt.RcAt.str_int _ _ _ _
   ·obtain⟨_,rfl⟩:=rd;obtain⟨_,rfl⟩:=re;exact SeqAt.RcAt.str_str _ _ _ _
 intro n
 induction n with
 |zero=>intro A d e u v hd he rd re _;exact aV hd he rd re
 |succ n ih=>
  intro A d e u v hd he rd re hu;have Cy:A.units<cLine:=by lia
  have items:∀(l m:List Dat)(is js:List Value),l.all (AI n)=true->m.all (AI n)=true->AtL s.heap l is->AtL s.heap m js →
    ∀j (h1:j<is.toArray.size) (h2:j<js.toArray.size),SeqAt.EqAt A.in1 s is.toArray[j] js.toArray[j] ((fun j=>match l[j]?,m[j]? with|some x,some y=>eqD x y|_,_=>true) j):=by
   intro l m is js hl hm rl rm j h1 h2;have QB:j<is.length:=by simpa using h1
   have TL:j<js.length:=by simpa using h2
   have l1:j<l.length:=by rw[<-rl.length];exact QB
   have l2:j<m.length:=by rw[<-rm.length];exact TL
   obtain⟨u1,f1,q1⟩:=rl.get (List.getElem?_eq_getElem l1);obtain⟨u2,f2,q2⟩:=rm.get (List.getElem?_eq_getElem l2);rw[List.getElem?_eq_getElem QB]at f1;rw[List.getElem?_eq_getElem TL]at f2;cases f1;cases f2;have hx:AI n l[j]=true:=List.all_eq_true.mp hl _ (List.getElem_mem l1);have hy:AI n m[j]=true:=List.all_eq_true.mp hm _ (List.getElem_mem l2)
   have:=(ih (A:=A.in1) hx hy q1 q2 (by show A.units+1+n<cLine;lia)).1
   simpa[List.getElem?_eq_getElem l1,List.getElem?_eq_getElem l2]using this
  by_cases fd:Al d=true
  ·by_cases fe:Al e=true
   ·exact aV fd fe rd re
   ·cases e<;>simp[AI,Al]at he fe
    ·rw[AtH]at re;obtain⟨b,js,rfl,tj,rm⟩:=re;cases d<;>simp only[Al,Bool.false_eq_true]at fd<;>rw[AtH]at rd
     ·subst rd;exact⟨.none_tuple tj Cy,.none_tuple tj Cy⟩
     ·subst rd;exact⟨.bool_tuple _ tj Cy,.bool_tuple _ tj Cy⟩
     ·obtain⟨t,rfl⟩:=rd;exact⟨.int_tuple _ _ tj Cy,.int_tuple _ _ tj Cy⟩
     ·obtain⟨t,rfl⟩:=rd;exact⟨.str_tuple _ _ tj Cy,.str_tuple _ _ tj Cy⟩
    ·rw[AtH]at re;obtain⟨b,js,rfl,tj,rm⟩:=re;cases d<;>simp only[Al,Bool.false_eq_true]at fd<;>rw[AtH]at rd
     ·subst rd;exact⟨.none_list tj Cy,.none_list tj Cy⟩
     ·subst rd;exact⟨.bool_list _ tj Cy,.bool_list _ tj Cy⟩
     ·obtain⟨t,rfl⟩:=rd;exact⟨.int_list _ _ tj Cy,.int_list _ _ tj Cy⟩
     ·obtain⟨t,rfl⟩:=rd;exact⟨.str_list _ _ tj Cy,.str_list _ _ tj Cy⟩
  ·cases d with
   |tup l=>
    have b5:=rd;rw[AtH]at rd;obtain⟨a,is,rfl,ti,rl⟩:=rd;cases e with
    |tup m=>
     have iY:=re;rw[AtH]at re;obtain⟨b,js,rfl,tj,rm⟩:=re;have rc:SeqAt.RcAt A s (.ref a) (.ref b) (eqD (.tup l) (.tup m)):=by
      have:=SeqAt.RcAt.tuples ti tj Cy (items l m is js (by simpa[AI]using hd) (by simpa[AI]using he) rl rm)
      rw[eqD,EL];have e1:is.toArray.size=l.length:=by rw[List.size_toArray,rl.length]
      have e2:js.toArray.size=m.length:=by rw[List.size_toArray,rm.length]
      rw[e1,e2]at this;exact this
     refine⟨?_,rc⟩;by_cases HI:a=b
     ·subst HI
      have:=AtH.inj (n+1) hd he b5 iY
      rw[<-this,Of (n+1) _ hd];exact SeqAt.EqAt.same _
     ·exact SeqAt.EqAt.of_refs HI rc
    |lst m=>
     rw[AtH]at re;obtain⟨b,js,rfl,tj,rm⟩:=re;exact⟨.tuple_list ti tj Cy,.tuple_list ti tj Cy⟩
    |fn a=>simp[AI,Al]at he
    |scr a=>simp[AI,Al]at he
    |non=>rw[AtH]at re;subst re;exact⟨.tuple_none ti Cy,.tuple_none ti Cy⟩
    |bl b=>rw[AtH]at re;subst re;exact⟨.tuple_bool _ ti Cy,.tuple_bool _ ti Cy⟩
    |int b=>rw[AtH]at re;obtain⟨t,rfl⟩:=re;exact⟨.tuple_int _ _ ti Cy,.tuple_int _ _ ti Cy⟩
    |str b=>rw[AtH]at re;obtain⟨t,rfl⟩:=re;exact⟨.tuple_str _ _ ti Cy,.tuple_str _ _ ti Cy⟩
   |lst l=>
    have b5:=rd;rw[AtH]at rd;obtain⟨a,is,rfl,ti,rl⟩:=rd;cases e with
    |tup m=>
     rw[AtH]at re;obtain⟨b,js,rfl,tj,rm⟩:=re;exact⟨.list_tuple ti tj Cy,.list_tuple ti tj Cy⟩
    |lst m=>
     have iY:=re;rw[AtH]at re;obtain⟨b,js,rfl,tj,rm⟩:=re;have e1:is.toArray.size=l.length:=by rw[List.size_toArray,rl.length]
     have e2:js.toArray.size=m.length:=by rw[List.size_toArray,rm.length]
     have rc:SeqAt.RcAt A s (.ref a) (.ref b) (eqD (.lst l) (.lst m)):=by
      rw[eqD,EL];by_cases hsz:l.length=m.length
      ·have:=SeqAt.RcAt.lists ti tj (by rw[e1,e2,hsz]) Cy (items l m is js (by simpa[AI]using hd) (by simpa[AI]using he) rl rm)
       rw[e1]at this;rw[hsz,Nat.min_self,beq_self_eq_true,Bool.and_true,<-hsz];exact this
      ·have:=SeqAt.RcAt.lists_lengths ti tj (by rw[e1,e2];simpa using hsz) Cy
       rw[show(l.length==m.length)=false by simpa using hsz,Bool.and_false];exact this
     refine⟨?_,rc⟩;by_cases HI:a=b
     ·subst HI
      have:=AtH.inj (n+1) hd he b5 iY
      rw[<-this,Of (n+1) _ hd];exact SeqAt.EqAt.same _
     ·exact SeqAt.EqAt.of_refs HI rc
    |fn a=>simp[AI,Al]at he
    |scr a=>simp[AI,Al]at he
    |non=>rw[AtH]at re;subst re;exact⟨.list_none ti Cy,.list_none ti Cy⟩
    |bl b=>rw[AtH]at re;subst re;exact⟨.list_bool _ ti Cy,.list_bool _ ti Cy⟩
    |int b=>rw[AtH]at re;obtain⟨t,rfl⟩:=re;exact⟨.list_int _ _ ti Cy,.list_int _ _ ti Cy⟩
    |str b=>rw[AtH]at re;obtain⟨t,rfl⟩:=re;exact⟨.list_str _ _ ti Cy,.list_str _ _ ti Cy⟩
   |fn a=>simp[AI,Al]at hd
   |scr a=>simp[AI,Al]at hd
   |non=>simp[Al]at fd
   |bl a=>simp[Al]at fd
   |int a=>simp[Al]at fd
   |str a=>simp[Al]at fd
section
variable {X:Cx}
def CC(K:PySem.W.Frag)(H:Hp)(l:List Dat)(x:Dat)(u:Value):Bool:=open Classical in if h:∃d v,d∈l/\RelV v u/\Rep K H d v then eqD (Classical.choose h) x else false
theorem ME{AD:List (Addr×Obj)}{σ:St}{H:Hp}{s:Shared}(I:Inv X AD σ H s){l:List Dat}{x d:Dat}{v:V}{u:Value}(hl:l.all (AI 8)=true)(hd:d∈l)(r:RelV v u)(q:Rep X.K H d v) :
  CC X.K H l x u=eqD d x:=by
 have h:∃d v,d∈l/\RelV v u/\Rep X.K H d v:=⟨d,v,hd,r,q⟩;unfold CC;rw[dif_pos h];obtain⟨v',h1,h2,h3⟩:=Classical.choose_spec h;have e:v'=v:=h2.inj r;subst e;have p:=List.all_eq_true.mp hl;rw[Rep.inj I 8 (p _ h1) (p _ hd) h3 q r]
theorem DP{AD:List (Addr×Obj)}{σ:St}{H:Hp}{s:Shared}(I:Inv X AD σ H s){x:Dat}{L:List Dat}(hL:L.all (AI 8)=true) :
  ∀{l:List Dat}{vs:List V}{us:List Value},(∀d∈l,d∈L)->RepL X.K H l vs->Vals vs us->us.any (CC X.K H L x)=l.any fun d=>eqD d x
 |[],_,_,_,rl,rv=>by rw[RepL]at rl;subst rl;cases rv;rfl
 |d::l,_,_,hs,rl,rv=>by
  rw[RepL]at rl;obtain⟨v,r,rfl,r1,r2⟩:=rl;cases rv with
  |cons q1 q2=>
   rw[List.any_cons,List.any_cons,ME I hL (hs d List.mem_cons_self) q1 r1,DP I hL (fun e he=>hs e (List.mem_cons_of_mem _ he)) r2 q2]
theorem Dl{AD:List (Addr×Obj)}{σ:St}{H:Hp}{s:Shared}(I:Inv X AD σ H s){x:Dat}{y:V}{w:Value}{A:Around}(hx:AI 8 x=true)(rx:Rep X.K H x y)(ry:RelV y w)(hu:A.units+8<cLine){L:List Dat}(hL:L.all (AI 8)=true) :
  ∀{l:List Dat}{vs:List V}{us:List Value},(∀d∈l,d∈L)->RepL X.K H l vs->Vals vs us->∀u∈us,SeqAt.EqAt A s u w (CC X.K H L x u)
 |[],_,_,_,rl,rv,u,hm=>by rw[RepL]at rl;subst rl;cases rv;cases hm
 |d::l,_,_,hs,rl,rv,u,hm=>by
  rw[RepL]at rl;obtain⟨v,r,rfl,r1,r2⟩:=rl;cases rv with
  |cons q1 q2=>
   rcases List.mem_cons.mp hm with e|hm
   ·subst e;rw[ME I hL (hs d List.mem_cons_self) q1 r1];exact(HR 8 (List.all_eq_true.mp hL d (hs d List.mem_cons_self)) hx (r1.at I (List.all_eq_true.mp hL d (hs d List.mem_cons_self)) q1) (rx.at I hx ry) hu).1
   ·exact Dl I hx rx ry hu hL (fun e he=>hs e (List.mem_cons_of_mem _ he)) r2 q2 u hm
def eZ(K:PySem.W.Frag)(neg:Bool):R2:=fun x y H Q=>∃p vs d l,y=.ref p/\(H p=some (.lst vs)\/SqT K H p vs)/\RepL K H l vs/\Rep K H d x/\AI 8 d=true/\l.all (AI 8)=true/\Q (.bl (if neg then !(l.any fun e=>eqD e d)else l.any fun e=>eqD e d)) H
theorem Xf(hu:X.A.units+9<cLine):OpR X (compareOp .In) (eZ X.K false):=by
 intro AD s σ H x y v u Q I rx ry h;obtain⟨p,vs,d,l,rfl,hq,rl,rd,pd,pl,q⟩:=h;cases ry;have HH:X.A.in1.units+8<cLine:=by show X.A.units+1+8<cLine;lia
 rcases hq with hq|hq
 ·obtain⟨AS,r,cT,hz⟩:=I.list (SqL.of hq);refine SeqAt.in_listAt (CC X.K H l d) cT.isList (fun w hw=>Dl I pd rd rx HH pl (fun _ h=>h) rl r w (by simpa using hw)) ⟨.bl _,H,I,rfl,?_⟩;rw[show AS.toArray.any (CC X.K H l d)=AS.any (CC X.K H l d) by simp,DP I pl (fun _ h=>h) rl r];exact q
 ·obtain⟨AS,r,cT,hz⟩:=I.tuple hq;refine SeqAt.in_tupleAt (CC X.K H l d) cT (fun w hw=>Dl I pd rd rx HH pl (fun _ h=>h) rl r w (by simpa using hw)) ⟨.bl _,H,I,rfl,?_⟩;rw[show AS.toArray.any (CC X.K H l d)=AS.any (CC X.K H l d) by simp,DP I pl (fun _ h=>h) rl r];exact q
theorem L9(hu:X.A.units+9<cLine):OpR X (compareOp .NotIn) (eZ X.K true):=by
 intro AD s σ H x y v u Q I rx ry h;obtain⟨p,vs,d,l,rfl,hq,rl,rd,pd,pl,q⟩:=h;cases ry;have HH:X.A.in1.units+8<cLine:=by show X.A.units+1+8<cLine;lia
 rcases hq with hq|hq
 ·obtain⟨AS,r,cT,hz⟩:=I.list (SqL.of hq);refine SeqAt.notIn_listAt (CC X.K H l d) cT.isList (fun w hw=>Dl I pd rd rx HH pl (fun _ h=>h) rl r w (by simpa using hw)) ⟨.bl _,H,I,rfl,?_⟩;rw[show AS.toArray.any (CC X.K H l d)=AS.any (CC X.K H l d) by simp,DP I pl (fun _ h=>h) rl r];exact q
 ·obtain⟨AS,r,cT,hz⟩:=I.tuple hq;refine SeqAt.notIn_tupleAt (CC X.K H l d) cT (fun w hw=>Dl I pd rd rx HH pl (fun _ h=>h) rl r w (by simpa using hw)) ⟨.bl _,H,I,rfl,?_⟩;rw[show AS.toArray.any (CC X.K H l d)=AS.any (CC X.K H l d) by simp,DP I pl (fun _ h=>h) rl r];exact q
end
section
variable {X:Cx}{ρ:Rho}{G:Gs}{e a b c:Expr}{es:List Expr}{d d' d1 d2:Dat}{ds l m:List Dat}{pos:Pos}{i j k:Int}
theorem Ag(ha:PX X ρ G a (.int i))(hb:PX X ρ G b (.int j)):PX X ρ G (.BinOp a .Add b pos) (.int (i+j)):=LP bX ha hb fun H x y Q o hx hy k=>⟨i,j,hx,hy,k _ _ (BR o rfl)⟩
theorem BD(ha:PX X ρ G a (.int i))(hb:PX X ρ G b (.int j)):PX X ρ G (.BinOp a .Sub b pos) (.int (i-j)):=LP bA ha hb fun H x y Q o hx hy k=>⟨i,j,hx,hy,k _ _ (BR o rfl)⟩
theorem Q6(ha:PX X ρ G a (.int i))(hb:PX X ρ G b (.int j))(hc:CMul i j):PX X ρ G (.BinOp a .Mult b pos) (.int (i*j)):=LP av ha hb fun H x y Q o hx hy k=>⟨i,j,hx,hy,hc,k _ _ (BR o rfl)⟩
theorem Ie(ha:PX X ρ G a (.int i))(hb:PX X ρ G b (.int j))(hc:0<j):PX X ρ G (.BinOp a .Mod b pos) (.int (i%j)):=LP dN ha hb fun H x y Q o hx hy k=>⟨i,j,hx,hy,hc,k _ _ (BR o rfl)⟩
theorem Ms(ha:PX X ρ G a (.int i))(hb:PX X ρ G b (.int j))(hc:fC i j):PX X ρ G (.BinOp a .FloorDiv b pos) (.int (i / j)):=LP YU ha hb fun H x y Q o hx hy k=>⟨i,j,hx,hy,hc,k _ _ (BR o rfl)⟩
theorem Ey(ha:PX X ρ G a (.int i)):PX X ρ G (.UnaryOp .USub a pos) (.int (-i)):=Ba (dw dM Ap) fun σ H S=>⟨ρ,G,_,ha,S,fun x H1 ⟨_,_,e1,o1,r1,q1,BV⟩=>by
  subst q1;subst BV;exact⟨i,r1,Po.trans e1 (BR o1 rfl)⟩⟩
def PXC(X:Cx)(ρ:Rho)(G:Gs)(op:CmpOp)(a b:Expr)(d:Dat):Prop:=∀(AD:List (Addr×Obj))(s:Shared)(σ:St)(H:Hp),Inv X AD σ H s->Stt X H σ ρ G →
  wpAny (model X.prog X.w) X.A (eval a X.env) (fun v s₁=>wpAny (model X.prog X.w) X.A (eval b X.env) (fun u s₂=>wpAny (model X.prog X.w) X.A (compareOp op v u) (EP X AD σ (Po X H G fun d' G'=>d'=d/\G'=G)) X.xe s₂) X.xe s₁) X.xe s
theorem EI{op:CmpOp}{r:R2}(ho:OpR X (compareOp op) r)(ha:PX X ρ G a d1)(hb:PX X ρ G b d2)(hr:∀(H:Hp)(x y:V)(Q:VK),GOk X.K H G->Rep X.K (hid H G) d1 x->Rep X.K (hid H G) d2 y->(∀v H',Po X H G (fun d' G'=>d'=d/\G'=G) v H'->Q v H')->r x y H Q):PXC X ρ G op a b d:=by intro AD s σ H I S;refine thn (ha AD s σ H I S) fun v s1 ⟨x,H1,I1,rx,_,_,e1,o1,r1,q1,BV⟩=>?_;subst q1;subst BV;refine thn (hb AD s1 σ H1 I1 (S.ext e1 o1)) fun u s2 ⟨y,H2,I2,ry,_,_,e2,o2,r2,q2,Fs⟩=>?_;subst q2;subst Fs;exact ho AD s2 σ H2 x y v u _ I2 rx ry (hr H2 x y _ o2 (r1.same e2.hid) r2 fun v H' z=>Po.trans (e1.trans e2) z)
theorem JF{op:CmpOp}(h:PXC X ρ G op a b d)(hm:behindInMarks op b=false:=by first|exact OO _ (by decide) (by decide)|rfl):PX X ρ G (.Compare a [op] [b] pos) d:=fun AD s σ H I S=>wpAny_Compare1 (h AD s σ H I S) hm
theorem Ay{op:CmpOp}{p:Bool}(h:PXC X ρ G op a b (.bl p))(hm:behindInMarks op b=false:=by first|exact OO _ (by decide) (by decide)|rfl):PXT X ρ G (.Compare a [op] [b] pos) p:=by intro AD s σ H I S;refine wpAny_isTrue_Compare1 (thn (h AD s σ H I S) fun v s1 h1=>thn h1 fun u s2 h2=>thn h2 fun c s3 ⟨x,H1,I1,r1,_,_,e1,o1,q1,q2,Fs⟩=>?_) hm;subst q2;subst Fs;cases (show x=V.bl p from q1);cases r1;exact wpAny_truthy_bool ⟨H1,I1,_,e1,o1,rfl,rfl⟩
theorem Nh(ha:PX X ρ G a (.int i))(hb:PX X ρ G b (.int j)):PXC X ρ G .Lt a b (.bl (decide (i<j))):=EI gZ ha hb fun H x y Q o hx hy k=>⟨i,j,hx,hy,k _ _ (BR o rfl)⟩
theorem J5(ha:PX X ρ G a (.int i))(hb:PX X ρ G b (.int j)):PXC X ρ G .Gt a b (.bl (decide (j<i))):=EI dz ha hb fun H x y Q o hx hy k=>⟨i,j,hx,hy,k _ _ (BR o rfl)⟩
theorem DB(ha:PX X ρ G a (.int i))(hb:PX X ρ G b (.int j)):PXC X ρ G .Eq a b (.bl (i==j)):=EI fQ ha hb fun H x y Q o hx hy k=>by
  cases (show x=V.int i from hx);cases (show y=V.int j from hy);exact⟨rfl,by rw[Ry];exact k _ _ (BR o rfl)⟩
theorem in_of{H:Hp}{K:PySem.W.Frag}{y:V}(hy:Rep K (hid H G) (.tup l) y\/Rep K (hid H G) (.lst l) y):∃p vs,y=.ref p/\(H p=some (.lst vs)\/SqT K H p vs)/\RepL K H l vs:=by
 rcases hy with hy|hy
 ·rw[Rep]at hy;obtain⟨p,vs,e,h1,h2⟩:=hy;exact⟨p,vs,e,.inr (Ar AK h1),h2.same AK⟩
 ·rw[Rep]at hy;obtain⟨p,vs,e,h1,h2⟩:=hy;exact⟨p,vs,e,.inl (AK _ _ h1),h2.same AK⟩
theorem Qa(hu:X.A.units+9<cLine)(ha:PX X ρ G a d1)(hb:PX X ρ G b d2)(hl:d2=.tup l\/d2=.lst l)(p1:AI 8 d1=true)(p2:l.all (AI 8)=true):PXC X ρ G .In a b (.bl (l.any fun e=>eqD e d1)):=EI (Xf hu) ha hb fun H x y Q o hx hy k=>by
  obtain⟨p,vs,e,h1,h2⟩:=in_of (H:=H) (G:=G) (l:=l) (K:=X.K) (y:=y) (by rcases hl with z|z<;>subst z;exact .inl hy;exact .inr hy);exact⟨p,vs,d1,l,e,h1,h2,hx.same AK,p1,p2,k _ _ (BR o rfl)⟩
theorem Ul(hu:X.A.units+9<cLine)(ha:PX X ρ G a d1)(hb:PX X ρ G b d2)(hl:d2=.tup l\/d2=.lst l)(p1:AI 8 d1=true)(p2:l.all (AI 8)=true):PXC X ρ G .NotIn a b (.bl (!(l.any fun e=>eqD e d1))):=EI (L9 hu) ha hb fun H x y Q o hx hy k=>by
  obtain⟨p,vs,e,h1,h2⟩:=in_of (H:=H) (G:=G) (l:=l) (K:=X.K) (y:=y) (by rcases hl with z|z<;>subst z;exact .inl hy;exact .inr hy);exact⟨p,vs,d1,l,e,h1,h2,hx.same AK,p1,p2,k _ _ (BR o rfl)⟩
theorem EG{op}(h:PX X ρ G a d):PX X ρ G (.BoolOp op [a] pos) d:=fun AD s σ H I S=>BoolOp_one (h AD s σ H I S)
theorem B8{rest:List Expr}{p q:Bool}(ha:PX X ρ G a (.bl p))(hb:p=true->PX X ρ G (.BoolOp .And (b::rest) pos) (.bl q)):PX X ρ G (.BoolOp .And (a::b::rest) pos) (.bl (p&&q)):=by
 intro AD s σ H I S;refine BoolOp_and (thn (ha AD s σ H I S) fun v s1 ⟨x,H1,I1,r1,_,_,e1,o1,rx,q1,BV⟩=>?_);subst q1;subst BV;cases (show x=V.bl p from rx);cases r1;refine wpAny_truthy_bool ?_;cases p with
 |true=>exact thn (hb rfl AD s1 σ H1 I1 (S.ext e1 o1)) fun _ _ z=>EP.mono z fun _ _ y=>Po.trans e1 y
 |false=>exact⟨.bl false,H1,I1,rfl,.bl false,_,e1,o1,rfl,rfl,rfl⟩
theorem ee{rest:List Expr}{p q:Bool}(ha:PX X ρ G a (.bl p))(hb:p=false->PX X ρ G (.BoolOp .Or (b::rest) pos) (.bl q)):PX X ρ G (.BoolOp .Or (a::b::rest) pos) (.bl (p||q)):=by
 intro AD s σ H I S;refine BoolOp_or (thn (ha AD s σ H I S) fun v s1 ⟨x,H1,I1,r1,_,_,e1,o1,rx,q1,BV⟩=>?_);subst q1;subst BV;cases (show x=V.bl p from rx);cases r1;refine wpAny_truthy_bool ?_;cases p with
 |false=>exact thn (hb rfl AD s1 σ H1 I1 (S.ext e1 o1)) fun _ _ z=>EP.mono z fun _ _ y=>Po.trans e1 y
 |true=>exact⟨.bl true,H1,I1,rfl,.bl true,_,e1,o1,rfl,rfl,rfl⟩
theorem Mw{p:Bool}(ha:PX X ρ G a (.bl p)):PX X ρ G (.UnaryOp .Not a pos) (.bl (!p)):=by intro AD s σ H I S;refine UnaryOp_ (thn (ha AD s σ H I S) fun v s1 ⟨x,H1,I1,r1,_,_,e1,o1,rx,q1,BV⟩=>?_);subst q1;subst BV;cases (show x=V.bl p from rx);cases r1;exact not_of (wpAny_truthy_bool ⟨.bl (!p),H1,I1,rfl,.bl (!p),_,e1,o1,rfl,rfl,rfl⟩)
def PXW(X:Cx)(ρ:Rho)(G:Gs)(e:Expr)(b:Bool):Prop:=∀(whole:Sem Value)(AD:List (Addr×Obj))(s:Shared)(σ:St)(H:Hp),Inv X AD σ H s->Stt X H σ ρ G->wpAny (model X.prog X.w) X.A (isTrue e X.env whole) (TP X AD σ (PoT X H G fun b' G'=>b'=b/\G'=G)) X.xe s
theorem PXW.t{p:Bool}(h:PXW X ρ G e p):PXT X ρ G e p:=fun AD s σ H I S=>h _ AD s σ H I S
theorem CF{p:Bool}{Q:Bool->Gs->Prop}(h:PXT X ρ G e p)(q:Q p G):WT X ρ G e Q:=fun AD s σ H I S=>thn (h AD s σ H I S) fun _ _ z=>TP.mono z fun _ _ ⟨_,e,o,q1,q2⟩=>by
 subst q1;subst q2;exact⟨_,e,o,q⟩
theorem DM{p:Bool}(h:PXT X ρ G a p):PXW X ρ G (.BoolOp .And [a] pos) p:=by
 intro wh AD s σ H I S;refine isTrue_and (thn (h AD s σ H I S) fun c s1 e=>?_);cases c with
 |true=>exact isTrue_and_nil e
 |false=>exact e
theorem Js{p:Bool}(h:PXT X ρ G a p):PXW X ρ G (.BoolOp .Or [a] pos) p:=by
 intro wh AD s σ H I S;refine isTrue_or (thn (h AD s σ H I S) fun c s1 e=>?_);cases c with
 |false=>exact isTrue_or_nil e
 |true=>exact e
theorem Cm{rest:List Expr}{p q:Bool}(ha:PXT X ρ G a p)(hb:p=true->PXW X ρ G (.BoolOp .And (b::rest) pos) q):PXW X ρ G (.BoolOp .And (a::b::rest) pos) (p&&q):=by
 intro wh AD s σ H I S;refine isTrue_and (thn (ha AD s σ H I S) fun c s1 ⟨H1,I1,_,e1,o1,q1,q2⟩=>?_);subst q1;subst q2;cases c with
 |true=>exact thn (hb rfl wh AD s1 σ H1 I1 (S.ext e1 o1)) fun _ _ z=>TP.mono z fun _ _ y=>PoT.trans e1 y
 |false=>exact⟨H1,I1,_,e1,o1,rfl,rfl⟩
theorem Kj{rest:List Expr}{p q:Bool}(ha:PXT X ρ G a p)(hb:p=false->PXW X ρ G (.BoolOp .Or (b::rest) pos) q):PXW X ρ G (.BoolOp .Or (a::b::rest) pos) (p||q):=by
 intro wh AD s σ H I S;refine isTrue_or (thn (ha AD s σ H I S) fun c s1 ⟨H1,I1,_,e1,o1,q1,q2⟩=>?_);subst q1;subst q2;cases c with
 |false=>exact thn (hb rfl wh AD s1 σ H1 I1 (S.ext e1 o1)) fun _ _ z=>TP.mono z fun _ _ y=>PoT.trans e1 y
 |true=>exact⟨H1,I1,_,e1,o1,rfl,rfl⟩
theorem CO{p:Bool}(ha:PXT X ρ G a p):PXT X ρ G (.UnaryOp .Not a pos) (!p):=by intro AD s σ H I S;refine isTrue_not (Q:=TP X AD σ (PoT X H G fun b' G'=>b'=(!p)/\G'=G)) (thn (ha AD s σ H I S) fun c s1 ⟨H1,I1,_,e1,o1,q1,q2⟩=>?_);subst q1;subst q2;exact⟨H1,I1,_,e1,o1,rfl,rfl⟩
theorem B7{p:Bool}(h:PX X ρ G e (.bl p))(he:∀whole,isTrue e X.env whole=(do let v <-whole;standAt e.pos;holding [v] (truthy v)):=by intro _;rfl):PXT X ρ G e p:=by intro AD s σ H I S;refine isTrue_plain (thn (h AD s σ H I S) fun v s1 ⟨x,H1,I1,r1,_,_,e1,o1,rx,q1,BV⟩=>?_) (he _);subst q1;subst BV;cases (show x=V.bl p from rx);cases r1;exact wpAny_truthy_bool ⟨H1,I1,_,e1,o1,rfl,rfl⟩
def bO:Dat->Option Bool
 |.non=>some false
 |.bl b=>some b
 |.int i=>some (i != 0)
 |.tup l=>some (!l.isEmpty)
 |.lst l=>some (!l.isEmpty)
 |_=>none
theorem YJ{K:PySem.W.Frag}{H:Hp}{v:V}{p:Bool}(h:bO d=some p)(r:Rep K (hid H G) d v):bF K v H p:=by
 cases d<;>simp only[bO,Option.some.injEq,reduceCtorEq]at h<;>subst h<;>rw[Rep]at r
 ·subst r;rfl
 ·subst r;rfl
 ·subst r;rfl
 ·obtain⟨a,vs,rfl,h1,h2⟩:=r;refine .inr (.inl ⟨vs,Ar AK h1,?_⟩)
  have:=h2.length
  rename_i l;cases l<;>cases vs<;>simp_all
 ·obtain⟨a,vs,rfl,h1,h2⟩:=r;refine .inl ⟨vs,SqL.of (AK _ _ h1),?_⟩
  have:=h2.length
  rename_i l;cases l<;>cases vs<;>simp_all
theorem Iq{p:Bool}(h:PX X ρ G e d)(ht:bO d=some p)(he:∀whole,isTrue e X.env whole=(do let v <-whole;standAt e.pos;holding [v] (truthy v)):=by intro _;rfl):PXT X ρ G e p:=Vi (PL Ap he) fun σ H S=>⟨ρ,G,_,h,S,fun x H1 ⟨_,_,e1,o1,r1,q1,BV⟩=>by
  subst q1;subst BV;exact⟨p,YJ ht r1,_,e1,o1,rfl,rfl⟩⟩
theorem AE:PXs X ρ G [] []:=Sv Cz fun σ H S=>⟨[],G,Ext.refl,S.own,RepL.nil,rfl,rfl⟩
theorem AB(ha:PX X ρ G e d)(hr:PXs X ρ G es ds)(hs:starEach (e::es) X.env=(false,eval e X.env)::starEach es X.env:=by rfl):PXs X ρ G (e::es) (d::ds):=Sv (BL Ap LK hs) fun σ H S=>⟨ρ,G,_,ha,S,fun x H1 ⟨_,_,e1,o1,r1,q1,BV⟩=>by
  subst q1;subst BV;refine⟨ρ,_,_,hr,S.ext e1 o1,fun xs H2 ⟨_,_,e2,o2,r2,q2,Fs⟩=>?_⟩;subst q2;subst Fs;exact⟨_,_,e1.trans e2,o2,RepL.cons (r1.same e2.hid) r2,rfl,rfl⟩⟩
theorem Jw{H:Hp}{p:Addr}{vs:List V}(o:GOk X.K H G)(hp:H p=none)(r:RepL X.K (hid H G) ds vs):Po X H G (fun d' G'=>d'=.tup ds/\G'=G) (.ref p) (upd H p (.tup vs)):=po1 (Ext.alloc hp) (o.alloc hp) (by rw[Rep];exact⟨p,vs,rfl,SqT.of (Eu (o.free hp) A2),r.same (Ext.alloc hp).hid⟩)
theorem Jy{H:Hp}{p:Addr}{vs:List V}(o:GOk X.K H G)(hp:H p=none)(r:RepL X.K (hid H G) ds vs):Po X H G (fun d' G'=>d'=.lst ds/\G'=G) (.ref p) (upd H p (.lst vs)):=po1 (Ext.alloc hp) (o.alloc hp) (by rw[Rep];exact⟨p,vs,rfl,Eu (o.free hp) A2,r.same (Ext.alloc hp).hid⟩)
theorem AL{x1}(h:PXs X ρ G es ds)(hz:ds.length<=1000:=by first|decide|(simp;done)):PX X ρ G (.Tuple es x1 pos) (.tup ds):=Ba (cp LK) fun σ H S=>⟨ρ,G,_,h,S,fun vs H1 ⟨_,_,e1,o1,r1,q1,BV⟩=>by
  subst q1;subst BV;exact⟨by rw[r1.length];exact Nat.le_of_lt (JB hz),fun p hp=>Po.trans e1 (Jw o1 hp r1)⟩⟩
theorem Cb(h:PXs X ρ G es ds)(hz:ds.length<=1000:=by first|decide|(simp;done)):PX X ρ G (.List es pos) (.lst ds):=Ba (U2 LK) fun σ H S=>⟨ρ,G,_,h,S,fun vs H1 ⟨_,_,e1,o1,r1,q1,BV⟩=>by
  subst q1;subst BV;exact⟨by rw[r1.length];exact Nat.le_of_lt (JB hz),fun p hp=>Po.trans e1 (Jy o1 hp r1)⟩⟩
theorem K5(ha:PX X ρ G a (.lst l))(hb:PX X ρ G b (.lst m))(hz:l.length+m.length<=sizeLine):PX X ρ G (.BinOp a .Add b pos) (.lst (l++m)):=LP WC ha hb fun H x y Q o hx hy k=>by
  rw[Rep]at hx hy;obtain⟨p,vs,e1,h1,r1⟩:=hx;obtain⟨q,us,e2,h2,r2⟩:=hy;exact⟨p,q,vs,us,e1,e2,AK _ _ h1,AK _ _ h2,by rw[r1.length,r2.length];exact hz,fun t ht=>k _ _ (Jy o ht (r1.append r2))⟩
theorem My{K:PySem.W.Frag}{H:Hp}{vs:List V}(r:RepL K H l vs)(h:atI l i=some d):∃v,atI vs i=some v/\Rep K H d v:=by
 unfold atI at h ⊢;rw[r.length];cases q:ixN l.length i with
 |none=>rw[q]at h;cases h
 |some j=>rw[q]at h;exact r.get h
theorem Am(ha:PX X ρ G a (.tup l))(hb:PX X ρ G b (.int i))(hi:atI l i=some d)(hs:Gu b:=by intro _ _;rfl):PX X ρ G (.Subscript a b pos) d:=Ba (Rt cO Ap Ap hs) fun σ H S=>⟨ρ,G,_,ha,S,fun x H1 ⟨_,_,e1,o1,r1,q1,BV⟩=>by
  subst q1;subst BV;refine⟨ρ,_,_,hb,S.ext e1 o1,fun y H2 ⟨_,_,e2,o2,r2,q2,Fs⟩=>?_⟩;subst q2;subst Fs;have r1:=r1.same e2.hid;rw[Rep]at r1;obtain⟨p,vs,e3,h3,r3⟩:=r1;obtain⟨v,h4,r4⟩:=My r3 hi;exact⟨p,vs,i,v,e3,r2,Ar AK h3,h4,Po.trans (e1.trans e2) (BR o2 r4)⟩⟩
theorem EE(ha:PX X ρ G a (.lst l))(hb:PX X ρ G b (.int i))(hi:atI l i=some d)(hs:Gu b:=by intro _ _;rfl):PX X ρ G (.Subscript a b pos) d:=Ba (Rt NB Ap Ap hs) fun σ H S=>⟨ρ,G,_,ha,S,fun x H1 ⟨_,_,e1,o1,r1,q1,BV⟩=>by
  subst q1;subst BV;refine⟨ρ,_,_,hb,S.ext e1 o1,fun y H2 ⟨_,_,e2,o2,r2,q2,Fs⟩=>?_⟩;subst q2;subst Fs;have r1:=r1.same e2.hid;rw[Rep]at r1;obtain⟨p,vs,e3,h3,r3⟩:=r1;obtain⟨v,h4,r4⟩:=My r3 hi;exact⟨p,vs,i,v,e3,r2,SqL.of (AK _ _ h3),h4,Po.trans (e1.trans e2) (BR o2 r4)⟩⟩
theorem cE{ns:List Int}{z:Int}(ha:PX X ρ G a (.scr ns))(hb:PX X ρ G b (.int i))(hi:atI ns i=some z)(hs:Gu b:=by intro _ _;rfl):PX X ρ G (.Subscript a b pos) (.int z):=Ba (Rt NB Ap Ap hs) fun σ H S=>⟨ρ,G,_,ha,S,fun x H1 ⟨_,_,e1,o1,r1,q1,BV⟩=>by
  subst q1;subst BV;refine⟨ρ,_,_,hb,S.ext e1 o1,fun y H2 ⟨_,_,e2,o2,r2,q2,Fs⟩=>?_⟩;subst q2;subst Fs;have r1:=r1.same e2.hid;rw[Rep]at r1;obtain⟨p,e3,h3⟩:=r1;refine⟨p,_,i,V.int z,e3,r2,Same.seq AK h3,?_,Po.trans (e1.trans e2) (BR o2 rfl)⟩;unfold atI at hi ⊢;rw[List.length_map];cases q:ixN ns.length i with
  |none=>rw[q]at hi;cases hi
  |some j=>rw[q]at hi;show(ns.map V.int)[j]?=_;rw[List.getElem?_map,show ns[j]?=some z from hi];rfl⟩
theorem dI{p:Addr}(ha:PX X ρ G a (.fn p))(hb:PX X ρ G b (.int i))(hG:G p=some (.lst l))(hi:atI l i=some d)(hs:Gu b:=by intro _ _;rfl):PX X ρ G (.Subscript a b pos) d:=Ba (Rt NB Ap Ap hs) fun σ H S=>⟨ρ,G,_,ha,S,fun x H1 ⟨_,_,e1,o1,r1,q1,BV⟩=>by
  subst q1;subst BV;refine⟨ρ,_,_,hb,S.ext e1 o1,fun y H2 ⟨_,_,e2,o2,r2,q2,Fs⟩=>?_⟩;subst q2;subst Fs;obtain⟨vs,h3,r3⟩:=o2 p _ hG;obtain⟨v,h4,r4⟩:=My r3 hi;exact⟨p,vs,i,v,r1,r2,SqL.of h3,h4,Po.trans (e1.trans e2) (BR o2 r4)⟩⟩
theorem DI{f:Str}{id:String}{r:List V->Hp->VK->Prop}{p:Pos}(hc:CM X (.builtin id) r)(hg:Gl X f)(hm:X.mg f=none)(hv:bootBuiltins f=some (.builtin id))(ha:PX X ρ G a d1)(hr:∀(H:Hp)(x:V)(Q:VK),GOk X.K H G->Rep X.K (hid H G) d1 x->(∀v H',Po X H G (fun d' G'=>d'=d/\G'=G) v H'->Q v H')->r [x] H Q)(hn:f≠"__name__":=by decide)(LM:(f==("__debug__":Str))=false:=by decide)(he:starEach [a] X.env=(false,eval a X.env)::starEach [] X.env:=by rfl):PX X ρ G (.Call (.Name f p) [a] [] pos) d:=Ba (Ht hc hg hm hv (BL Ap Cz he) hn LM he rfl) fun σ H S=>⟨ρ,G,_,ha,S,fun x H1 ⟨_,_,e1,o1,r1,q1,BV⟩=>by
  subst q1;subst BV;exact hr H1 x _ o1 r1 fun v H' z=>Po.trans e1 z⟩
theorem Tv{f:Str}{T:String}{r:List V->Hp->VK->Prop}{p:Pos}(hc:CM X (.type T) r)(hg:Gl X f)(hm:X.mg f=none)(hv:bootBuiltins f=some (.type T))(ha:PX X ρ G a d1)(hr:∀(H:Hp)(x:V)(Q:VK),GOk X.K H G->Rep X.K (hid H G) d1 x->(∀v H',Po X H G (fun d' G'=>d'=d/\G'=G) v H'->Q v H')->r [x] H Q)(hn:f≠"__name__":=by decide)(LM:(f==("__debug__":Str))=false:=by decide)(he:starEach [a] X.env=(false,eval a X.env)::starEach [] X.env:=by rfl):PX X ρ G (.Call (.Name f p) [a] [] pos) d:=Ba (Lp hc hg hm hv (BL Ap Cz he) hn LM he rfl) fun σ H S=>⟨ρ,G,_,ha,S,fun x H1 ⟨_,_,e1,o1,r1,q1,BV⟩=>by
  subst q1;subst BV;exact hr H1 x _ o1 r1 fun v H' z=>Po.trans e1 z⟩
def Jk(G:Gs):Dat->Option Nat
 |.tup l=>some l.length
 |.lst l=>some l.length
 |.scr ns=>some ns.length
 |.fn p=>match G p with|some (.lst l)=>some l.length|_=>none
 |_=>none
theorem ZH{K:PySem.W.Frag}{H:Hp}{v:V}{n:Nat}(h:Jk G d=some n)(o:GOk K H G)(r:Rep K (hid H G) d v):∃p ys,v=.ref p/\(SqL K H p ys\/SqT K H p ys)/\ys.length=n:=by
 cases d<;>simp only[Jk,Option.some.injEq,reduceCtorEq]at h<;>rw[Rep]at r
 ·split at h
  ·rename_i p l hG;cases h;obtain⟨vs,h3,r3⟩:=o _ _ hG;exact⟨_,vs,r,.inl (SqL.of h3),r3.length⟩
  ·cases h
 ·obtain⟨p,e,q⟩:=r;exact⟨p,_,e,.inl (Same.seq AK q),by rw[List.length_map];exact h⟩
 ·obtain⟨p,vs,e,q,r⟩:=r;exact⟨p,vs,e,.inr (Ar AK q),by rw[r.length];exact h⟩
 ·obtain⟨p,vs,e,q,r⟩:=r;exact⟨p,vs,e,.inl (SqL.of (AK _ _ q)),by rw[r.length];exact h⟩
theorem Bg{n:Nat}{p:Pos}(hg:Gl X "len")(hm:X.mg "len"=none)(ha:PX X ρ G a d1)(h:Jk G d1=some n)(he:starEach [a] X.env=(false,eval a X.env)::starEach [] X.env:=by rfl):PX X ρ G (.Call (.Name "len" p) [a] [] pos) (.int n):=DI MY hg hm PySem.boot_len ha (fun H x Q o r k=>by
  obtain⟨q,ys,e,hq,hl⟩:=ZH h o r;exact⟨q,ys,by rw[e],hq,k _ _ (BR o (by rw[hl];rfl))⟩) (he:=he)
theorem Ef{p:Pos}(hg:Gl X "tuple")(hm:X.mg "tuple"=none)(hv:bootBuiltins "tuple"=some (.type "tuple"))(ha:PX X ρ G a (.lst l))(he:starEach [a] X.env=(false,eval a X.env)::starEach [] X.env:=by rfl):PX X ρ G (.Call (.Name "tuple" p) [a] [] pos) (.tup l):=Tv LY hg hm hv ha (fun H x Q o r k=>by
  rw[Rep]at r;obtain⟨q,vs,e,h1,r1⟩:=r;exact⟨q,vs,by rw[e],.inl ⟨SqL.of (AK _ _ h1),fun t ht=>k _ _ (Jw o ht r1)⟩⟩) (he:=he)
end
structure DE where
 nx:Rho->Gs->Prop
 rt:Dat->Gs->Prop
 bk:Rho->Gs->Prop:=fun _ _=>False
 ct:Rho->Gs->Prop:=fun _ _=>False
def lft(X:Cx)(H:Hp)(G:Gs)(q:Rho->Gs->Prop):St->Hp->Prop:=fun σ' H'=>∃ρ' G',Ext H G H' G'/\Stt X H' σ' ρ' G'/\q ρ' G'
def lift(X:Cx)(H:Hp)(G:Gs)(D:DE):Ends where
 nx:=lft X H G D.nx
 rt:=Po X H G D.rt
 bk:=lft X H G D.bk
 ct:=lft X H G D.ct
def WS(X:Cx)(ρ:Rho)(G:Gs)(st:Stmt)(D:DE):Prop:=∀(AD:List (Addr×Obj))(s:Shared)(σ:St)(H:Hp),Inv X AD σ H s->Stt X H σ ρ G->wpAny (model X.prog X.w) X.A (exec st X.env) (SP X AD (lift X H G D)) X.xe s
def WSs(X:Cx)(ρ:Rho)(G:Gs)(st:List Stmt)(D:DE):Prop:=∀(AD:List (Addr×Obj))(s:Shared)(σ:St)(H:Hp),Inv X AD σ H s->Stt X H σ ρ G->wpAny (model X.prog X.w) X.A (execs st X.env) (SP X AD (lift X H G D)) X.xe s
theorem SP.le{X:Cx}{AD:List (Addr×Obj)}{D D':Ends}{f:Flow}{s:Shared}(h:SP X AD D f s)(h1:∀σ H,D.nx σ H->D'.nx σ H)(h2:∀v H,D.rt v H->D'.rt v H)(h3:∀σ H,D.bk σ H->D'.bk σ H)(h4:∀σ H,D.ct σ H->D'.ct σ H):SP X AD D' f s:=by
 cases f with
 |next=>obtain⟨σ,H,I,q⟩:=h;exact⟨σ,H,I,h1 _ _ q⟩
 |brk=>obtain⟨σ,H,I,q⟩:=h;exact⟨σ,H,I,h3 _ _ q⟩
 |cont=>obtain⟨σ,H,I,q⟩:=h;exact⟨σ,H,I,h4 _ _ q⟩
 |ret u=>obtain⟨v,σ,H,I,r,q⟩:=h;exact⟨v,σ,H,I,r,h2 _ _ q⟩
theorem Ei{X:Cx}{H H1:Hp}{G G1:Gs}{q:Rho->Gs->Prop}(e:Ext H G H1 G1){σ:St}{H':Hp}(h:lft X H1 G1 q σ H'):lft X H G q σ H':=let ⟨ρ',G',e',S,q⟩:=h;⟨ρ',G',e.trans e',S,q⟩
theorem Ke{X:Cx}{H:Hp}{G:Gs}{q q':Rho->Gs->Prop}(k:∀ρ G,q ρ G->q' ρ G){σ:St}{H':Hp}(h:lft X H G q σ H'):lft X H G q' σ H':=let ⟨ρ',G',e',S,q⟩:=h;⟨ρ',G',e',S,k _ _ q⟩
theorem SP.trans{X:Cx}{AD:List (Addr×Obj)}{D:DE}{f:Flow}{s:Shared}{H H1:Hp}{G G1:Gs}(e:Ext H G H1 G1)(h:SP X AD (lift X H1 G1 D) f s):SP X AD (lift X H G D) f s:=SP.le h (fun _ _ q=>Ei e q) (fun _ _ q=>Po.trans e q) (fun _ _ q=>Ei e q) (fun _ _ q=>Ei e q)
section
variable {X:Cx}{ρ:Rho}{G:Gs}{e a b c:Expr}{es:List Expr}{d d' d1 d2:Dat}{ds l m:List Dat}{pos:Pos}{D:DE}{rest body:List Stmt}{st:Stmt}
theorem AJ(h:D.nx ρ G):WSs X ρ G [] D:=fun AD s σ H I S=>wpAny_execs_nil ⟨σ,H,I,ρ,G,Ext.refl,S,h⟩
theorem BX(h:WS X ρ G st { D with nx:=fun ρ' G'=>WSs X ρ' G' rest D }):WSs X ρ G (st::rest) D:=by
 intro AD s σ H I S;refine wpAny_execs_cons (thn (h AD s σ H I S) fun f s1 q=>?_);cases f with
 |next=>
  obtain⟨σ',H',I',ρ',G',e',S',q⟩:=q;exact thn (q AD s1 σ' H' I' S') fun _ _ z=>SP.trans e' z
 |ret v=>exact q
 |brk=>exact q
 |cont=>exact q
theorem Pb{t:TS}(h:PS X st t)(hq:∀σ H,Stt X H σ ρ G->t (lift X H G D) σ H):WS X ρ G st D:=fun AD s σ H I S=>h AD s σ H _ I (hq σ H S)
def d9(X:Cx)(st:List Stmt):TS:=fun D' σ H=>∃ρ G D,WSs X ρ G st D/\Stt X H σ ρ G/\(∀σ' H',(lift X H G D).nx σ' H'->D'.nx σ' H')/\(∀v H',(lift X H G D).rt v H'->D'.rt v H')/\(∀σ' H',(lift X H G D).bk σ' H'->D'.bk σ' H')/\(∀σ' H',(lift X H G D).ct σ' H'->D'.ct σ' H')
theorem b8{st:List Stmt}:PSs X st (d9 X st):=fun AD s σ H D' I ⟨ρ,G,D,h,S,h1,h2,h3,h4⟩=>thn (h AD s σ H I S) fun _ _ q=>SP.le q h1 h2 h3 h4
theorem WSs.mono{st:List Stmt}{D':DE}(h:WSs X ρ G st D)(h1:∀ρ G,D.nx ρ G->D'.nx ρ G)(h2:∀d G,D.rt d G->D'.rt d G)(h3:∀ρ G,D.bk ρ G->D'.bk ρ G)(h4:∀ρ G,D.ct ρ G->D'.ct ρ G):WSs X ρ G st D':=fun AD s σ H I S=>
 thn (h AD s σ H I S) fun _ _ q=>SP.le q (fun _ _ z=>Ke h1 z) (fun _ _ z=>Po.mono z h2) (fun _ _ z=>Ke h3 z) (fun _ _ z=>Ke h4 z)
theorem Bx(h:WE X ρ G e D.rt):WSs X ρ G (.Return (some e) pos::rest) D:=BX fun AD s σ H I S=>
 wpAny_Return_some (thn (h AD s σ H I S) fun v s1 ⟨x,H1,I1,r1,q1⟩=>⟨x,σ,H1,I1,r1,q1⟩)
theorem AO(h:PX X ρ G e d)(q:D.rt d G):WSs X ρ G (.Return (some e) pos::rest) D:=Bx (h.we q)
theorem A0(i:Nat){x:Str}{pos':Pos}(hN:X.N.Nodup)(h:WE X ρ G e fun d G'=>WSs X (ρ.set i (some d)) G' rest D)(hi:X.N[i]?=some x:=by rfl)(hx:Loc X.env.scope x:=by first|exact Or.inl rfl|exact Or.inr rfl)(hs:swapsWith e (some (.Name x pos')) pos.line X.env=pure false:=by rfl)(hf:X.fn x=true\/X.env.scope.names.lookup x=some .local:=by first|exact .inl rfl|exact .inr rfl|assumption):WSs X ρ G (.Assign [.Name x pos'] e pos::rest) D:=BX (Pb (Vo (i:=i) hN hi hx Ap hs hf) fun σ H S=>⟨ρ,G,_,h,S,fun v H' ⟨d,G',e',o',r',q'⟩=>⟨_,G',e',(S.ext e' o').set r',q'⟩⟩)
theorem AQ(i:Nat){x:Str}{pos':Pos}(hN:X.N.Nodup)(h:PX X ρ G e d)(q:WSs X (ρ.set i (some d)) G rest D)(hi:X.N[i]?=some x:=by rfl)(hx:Loc X.env.scope x:=by first|exact Or.inl rfl|exact Or.inr rfl)(hs:swapsWith e (some (.Name x pos')) pos.line X.env=pure false:=by rfl)(hf:X.fn x=true\/X.env.scope.names.lookup x=some .local:=by first|exact .inl rfl|exact .inr rfl|assumption):WSs X ρ G (.Assign [.Name x pos'] e pos::rest) D:=A0 i hN (h.we q) hi hx hs hf
def PGD(X:Cx)(tg:Expr)(f:Dat->Rho->Option Rho):Prop:=∀(AD:List (Addr×Obj))(s:Shared)(σ:St)(H:Hp)(v:V)(u:Value)(ρ ρ':Rho)(G:Gs)(d:Dat),Inv X AD σ H s->RelV v u->Stt X H σ ρ G->Rep X.K (hid H G) d v->f d ρ=some ρ' →
  wpAny (model X.prog X.w) X.A (assign tg X.env u) (fun _ s'=>∃σ' H',Inv X AD σ' H' s'/\Ext H G H' G/\Stt X H' σ' ρ' G) X.xe s
def CP(i:Nat):Dat->Rho->Option Rho:=fun d ρ=>some (ρ.set i (some d))
def Fx(i j:Nat):Dat->Rho->Option Rho:=fun d ρ=>match d with
 |.tup [a,b]=>some ((ρ.set i (some a)).set j (some b))
 |_=>none
theorem Ae(i:Nat){x:Str}(hN:X.N.Nodup)(hi:X.N[i]?=some x:=by rfl)(hx:Loc X.env.scope x:=by first|exact Or.inl rfl|exact Or.inr rfl)(hf:X.fn x=true\/X.env.scope.names.lookup x=some .local:=by first|exact .inl rfl|exact .inr rfl|assumption):PGD X (.Name x pos) (CP i):=by intro AD s σ H v u ρ ρ' G d I r S q e;cases e;exact Gj hN hi hx hf AD s σ H v u (fun σ' H'=>Ext H G H' G/\Stt X H' σ' _ G) I r ⟨Ext.refl,S.set q⟩
theorem Dj(i j:Nat){x y:Str}{px py:Pos}{k:Nat}(hc:X.calm=true)(hN:X.N.Nodup)(hi:X.N[i]?=some x:=by rfl)(hj:X.N[j]?=some y:=by rfl)(hx:Loc X.env.scope x:=by first|exact Or.inl rfl|exact Or.inr rfl)(hy:Loc X.env.scope y:=by first|exact Or.inl rfl|exact Or.inr rfl)(i8:X.fn x=true\/X.env.scope.names.lookup x=some .local:=by first|exact .inl rfl|exact .inr rfl|assumption)(jE:X.fn y=true\/X.env.scope.names.lookup y=some .local:=by first|exact .inl rfl|exact .inr rfl|assumption):PGD X (.Tuple [.Name x px,.Name y py] k pos) (Fx i j):=by
 intro AD s σ H v u ρ ρ' G d I r S q e;cases d<;>simp only[Fx,reduceCtorEq]at e;rename_i l
 match l,e,q with
 |[a,b],e,q=>
  simp only[Option.some.injEq]at e;subst e;rw[Rep]at q;obtain⟨p,vs,rfl,h1,h2⟩:=q;rw[RepL]at h2;obtain⟨v1,r1,rfl,q1,h2⟩:=h2;rw[RepL]at h2;obtain⟨v2,r2,rfl,q2,h2⟩:=h2;rw[RepL]at h2;subst h2;exact WO (n:=2) hc (GO (Gj hN hi hx i8) (GO (Gj hN hj hy jE) SI)) rfl rfl AD s σ H (.ref p) u (fun σ' H'=>Ext H G H' G/\Stt X H' σ' _ G) I r
   ⟨p,[v1,v2],rfl,Ar AK h1,rfl,v1,[v2],rfl,v2,[],rfl,rfl,Ext.refl,(S.set q1).set q2⟩
 |[],e,_=>simp at e
 |[_],e,_=>simp at e
 |_::_::_::_,e,_=>simp at e
theorem QN{tg:Expr}{f:Dat->Rho->Option Rho}{ρ':Rho}(hg:PGD X tg f)(h:PX X ρ G e d)(hf:f d ρ=some ρ')(q:WSs X ρ' G rest D)(hs:swapsWithSole [tg] e pos.line X.env=pure false:=by rfl)(hw:swappedStores [tg] e X.env=pure none:=by rfl)(h1:(assignEach [tg] X.env).map (·.2)=[assign tg X.env]:=by rfl):WSs X ρ G (.Assign [tg] e pos::rest) D:=BX fun AD s σ H I S=>by
 refine wpAny_Assign_stores (thn (h AD s σ H I S) fun v s1 ⟨x,H1,I1,r1,_,_,e1,o1,rx,q1,BV⟩=>?_) hs hw;subst q1;subst BV;rw[h1];exact thn (hg AD s1 σ H1 x v ρ ρ' _ _ I1 r1 (S.ext e1 o1) rx hf) fun _ s2 ⟨σ2,H2,I2,e2,S2⟩=>⟨σ2,H2,I2,ρ',_,e1.trans e2,S2,q⟩
theorem Xy{x y:List Stmt}(hc:WT X ρ G c fun p G'=>(p=true->WSs X ρ G' x { D with nx:=fun ρ' G'=>WSs X ρ' G' rest D })/\(p=false->WSs X ρ G' y { D with nx:=fun ρ' G'=>WSs X ρ' G' rest D })):WSs X ρ G (.If c x y pos::rest) D:=BX fun AD s σ H I S=>by
 refine wpAny_If (thn (hc AD s σ H I S) fun p s1 ⟨H1,I1,G1,e1,o1,q1⟩=>?_);cases p with
 |true=>exact thn (q1.1 rfl AD s1 σ H1 I1 (S.ext e1 o1)) fun _ _ z=>SP.trans e1 z
 |false=>exact thn (q1.2 rfl AD s1 σ H1 I1 (S.ext e1 o1)) fun _ _ z=>SP.trans e1 z
theorem BO{x y:List Stmt}{p:Bool}(hc:PXT X ρ G c p)(ht:p=true->WSs X ρ G x { D with nx:=fun ρ' G'=>WSs X ρ' G' rest D })(hf:p=false->WSs X ρ G y { D with nx:=fun ρ' G'=>WSs X ρ' G' rest D }):WSs X ρ G (.If c x y pos::rest) D:=Xy (CF hc ⟨ht,hf⟩)
def Wk(K:PySem.W.Frag)(J:It)(H:Hp)(G:Gs)(l:List Dat):Prop:=∀H' G',Ext H G H' G'->(∀(i:Nat) d,l[i]?=some d->J.go i H'/\∀x VW,J.yld i H' x VW->Ext H' G' VW G'/\(GOk K H' G'->GOk K VW G')/\(GOk K H' G'->Rep K (hid VW G') d x))/\J.stop l.length H'
def WI(X:Cx)(ρ:Rho)(G:Gs)(tg Ai:Expr)(Q:List Dat->Gs->Prop):Prop:=∀(AD:List (Addr×Obj))(s:Shared)(σ:St)(H:Hp),Inv X AD σ H s->Stt X H σ ρ G →
  wpAny (model X.prog X.w) X.A (eval Ai X.env) (fun v s1=>wpAny (model X.prog X.w) X.A (pyIter v) (PIE X AD σ tg fun J H'=>∃l G',Ext H G H' G'/\GOk X.K H' G'/\Wk X.K J H' G' l/\Q l G') X.xe s1) X.xe s
theorem Y3{K:PySem.W.Frag}{H:Hp}{p:Addr}{vs:List V}(h:hid H G p=some (.lst vs))(r:RepL K (hid H G) l vs):Wk K (Itl K p) H G l:=by
 intro H' G' e;have h':=AK _ _ (e.hid _ _ h);refine⟨fun i d hd=>?_,vs,SqL.of h',by rw[r.length];exact Nat.le_refl _⟩;obtain⟨v,hv,rv⟩:=r.get hd;refine⟨⟨vs,v,SqL.of h',hv⟩,fun x VW ⟨e1,y⟩=>?_⟩;subst e1
 have:=y vs (SqL.of h')
 rw[hv]at this;cases this;exact⟨Ext.refl,fun o=>o,fun _=>rv.same e.hid⟩
theorem bV{K:PySem.W.Frag}{H:Hp}{p:Addr}{vs:List V}(h:SqT K (hid H G) p vs)(r:RepL K (hid H G) l vs):Wk K (Itt K p) H G l:=by
 intro H' G' e;have h':=Ar AK (Ar e.hid h);refine⟨fun i d hd=>?_,vs,h',by rw[r.length];exact Nat.le_refl _⟩;obtain⟨v,hv,rv⟩:=r.get hd;refine⟨⟨vs,v,h',hv⟩,fun x VW ⟨e1,y⟩=>?_⟩;subst e1
 have:=y vs h'
 rw[hv]at this;cases this;exact⟨Ext.refl,fun o=>o,fun _=>rv.same e.hid⟩
def BI(lo:Int)(n:Nat):List Dat:=(List.range n).map fun i=>.int (lo+(i:Nat))
theorem VT{K:PySem.W.Frag}{H:Hp}{lo:Int}{n:Nat}:Wk K (Itr lo n) H G (BI lo n):=by
 intro H' G' e;refine⟨fun i d hd=>?_,by show n<=(BI lo n).length;simp[BI]⟩;have hi:i<n:=by
  have:=(List.getElem?_eq_some_iff.mp hd).1
  simpa[BI]using this
 refine⟨hi,fun x VW ⟨e1,e2⟩=>?_⟩;subst e1;subst e2;refine⟨Ext.refl,fun o=>o,fun _=>?_⟩;have:(BI lo n)[i]?=some (.int (lo+i)):=by simp[BI,hi]
 rw[this]at hd;cases hd;rfl
theorem By{tg Ai:Expr}{Q:List Dat->Gs->Prop}(h:WE X ρ G Ai fun d G'=>∃l,d=.lst l/\Q l G'):WI X ρ G tg Ai Q:=fun AD s σ H I S=>
 Y8 Ap AD s σ H _ I ⟨ρ,G,_,h,S,fun x H1 ⟨d,G',e1,o1,r1,l,q1,q⟩=>by
  subst q1;rw[Rep]at r1;obtain⟨p,vs,e2,h2,r2⟩:=r1;exact⟨p,e2,⟨vs,SqL.of (AK _ _ h2)⟩,l,G',e1,o1,Y3 h2 r2,q⟩⟩
theorem YS{tg Ai:Expr}{Q:List Dat->Gs->Prop}(h:WE X ρ G Ai fun d G'=>∃l,d=.tup l/\Q l G'):WI X ρ G tg Ai Q:=fun AD s σ H I S=>
 ay Ap AD s σ H _ I ⟨ρ,G,_,h,S,fun x H1 ⟨d,G',e1,o1,r1,l,q1,q⟩=>by
  subst q1;rw[Rep]at r1;obtain⟨p,vs,e2,h2,r2⟩:=r1;exact⟨p,e2,⟨vs,Ar AK h2⟩,l,G',e1,o1,bV h2 r2,q⟩⟩
theorem Nl{tg Ai:Expr}{Q:List Dat->Gs->Prop}(h:PX X ρ G Ai (.lst l))(q:Q l G):WI X ρ G tg Ai Q:=By (h.we ⟨l,rfl,q⟩)
theorem Es{tg Ai:Expr}{Q:List Dat->Gs->Prop}(h:PX X ρ G Ai (.tup l))(q:Q l G):WI X ρ G tg Ai Q:=YS (h.we ⟨l,rfl,q⟩)
theorem Gn{tg:Expr}{Q:List Dat->Gs->Prop}{n:Int}{p:Pos}(hg:Gl X "range")(hm:X.mg "range"=none)(ha:PX X ρ G a (.int n))(h1:-(2 ^ 62)<=n)(h2:n<2 ^ 62)(q:Q (BI 0 n.toNat) G)(hs:starEach [a] X.env=[(false,eval a X.env)]:=by rfl):WI X ρ G tg (.Call (.Name "range" p) [a] [] pos) Q:=fun AD s σ H I S=>
 Uh hg hm (BL Ap Cz hs) hs AD s σ H _ I ⟨ρ,G,_,ha,S,fun x H1 ⟨_,_,e1,o1,r1,q1,BV⟩=>by
  subst q1;subst BV;cases (show x=V.int n from r1);exact⟨n,rfl,h1,h2,_,_,e1,o1,VT,q⟩⟩
theorem Lj{tg:Expr}{Q:List Dat->Gs->Prop}{i n:Int}{p:Pos}(hg:Gl X "range")(hm:X.mg "range"=none)(ha:PX X ρ G a (.int i))(hb:PX X ρ G b (.int n))(h0:-(2 ^ 62)<=i/\i<2 ^ 62/\-(2 ^ 62)<=n/\n<2 ^ 62)(q:Q (BI i (n-i).toNat) G)(hs:starEach [a,b] X.env=[(false,eval a X.env),(false,eval b X.env)]:=by rfl)(NM:starEach [b] X.env=[(false,eval b X.env)]:=by rfl):WI X ρ G tg (.Call (.Name "range" p) [a,b] [] pos) Q:=fun AD s σ H I S=>
 Tz hg hm (BL Ap (BL Ap Cz NM) (by rw[hs,NM])) hs NM AD s σ H _ I ⟨ρ,G,_,ha,S,fun x H1 ⟨_,_,e1,o1,r1,q1,BV⟩=>by
  subst q1;subst BV;cases (show x=V.int i from r1);refine⟨ρ,_,_,hb,S.ext e1 o1,fun y H2 ⟨_,_,e2,o2,r2,q2,Fs⟩=>?_⟩;subst q2;subst Fs;cases (show y=V.int n from r2);exact⟨i,n,rfl,h0,_,_,e1.trans e2,o2,VT,q⟩⟩
theorem Bc{tg Ai:Expr}{f:Dat->Rho->Option Rho}(Pv:Nat->Rho->Gs->Prop)(hp:PassesOwn (model X.prog X.w) X.A X.env X.xe)(hc:X.calm=true)(hi:WI X ρ G tg Ai fun l' G'=>l'=l/\Pv 0 ρ G')(hg:PGD X tg f)(hs:∀(i:Nat) d ρ' G',l[i]?=some d->Pv i ρ' G'->∃ρ'',f d ρ'=some ρ''/\WSs X ρ'' G' body { nx:=Pv (i+1),ct:=Pv (i+1),bk:=fun ρ' G'=>WSs X ρ' G' rest D,rt:=D.rt })(hd:∀ρ' G',Pv l.length ρ' G'->WSs X ρ' G' rest D)(Pp:∀x,foldedSetIterable Ai X.env x=pure x:=by intro _;rfl):WSs X ρ G (.For tg Ai body [] pos::rest) D:=BX fun AD s σ H I S=>by
 refine wpAny_For (thn (hi AD s σ H I S) fun v s1 h1=>thn h1 fun df s2 h2=>?_) Pp;obtain⟨it,fp,tn,J,H2,e,I2,T,Ct,f2,l',G2,e2,o2,wk,q,p0⟩:=h2;subst e;subst q;have Qd:∀{H':Hp},(∀b∈fp,H' b=none)->∀b∈fp,JK X AD H' b:=fun hn b hb=>⟨hn b hb,(f2 b hb).2⟩;refine codeAny_forLoop_any (fun n s'=>∃i σ' H' ρ' G',i+n=l'.length/\Inv X AD σ' H' s'/\tn i s'.heap/\(∀b∈fp,H' b=none)/\Ext H2 G2 H' G'/\Stt X H' σ' ρ' G'/\Pv i ρ' G') ?_ l'.length
  ⟨0,σ,H2,ρ,G2,Nat.zero_add _,I2,Ct,fun b hb=>(f2 b hb).1,Ext.refl,S.ext e2 o2,p0⟩
 rintro n s3 ⟨i,σ3,H3,ρ3,G3,hn,I3,Gz,nJ,e3,S3,p3⟩;obtain⟨cF,kP⟩:=wk H3 G3 e3;cases n with
 |zero=>
  have UU:i=l'.length:=by lia
  subst UU;refine wpAny_passesOwn hp (thn (T.done X rfl rfl rfl hc _ AD s3 σ3 H3 X.xe I3 (Qd nJ) Gz kP) fun r s4 ⟨hr,I4⟩=>?_);subst hr;exact wpAny_execs_nil ⟨σ3,H3,I4,ρ3,G3,e2.trans e3,S3,hd ρ3 G3 p3⟩
 |succ n=>
  have BC:i<l'.length:=by lia
  obtain⟨go,cF⟩:=cF i _ (List.getElem?_eq_getElem BC);obtain⟨ρ4,qB,w4⟩:=hs i _ ρ3 G3 (List.getElem?_eq_getElem BC) p3;refine wpAny_passesOwn hp (thn (T.item X rfl rfl rfl hc i AD s3 σ3 H3 X.xe I3 (Qd nJ) Gz go) fun r s4 ⟨u,hr,h4⟩=>?_);subst hr;refine wpAny_passesOwn hp (thn h4 fun _ s5 ⟨x,H5,I5,r5,y5,cS,iB⟩=>?_);obtain⟨e5,o5,fb⟩:=cF x H5 y5;have ko:=fb S3.own;have nc:=I5.pinned (Qd iB) (T.obj _ _ cS);refine wpAny_passesOwn hp (thn (hg _ s5 σ3 H5 x u ρ3 ρ4 G3 _ nc r5 (S3.ext e5 (o5 S3.own)) ko qB) fun _ s6 ⟨σ6,H6,I6,e6,S6⟩=>?_);refine wpAny_passesOwn hp (thn (w4 _ s6 σ6 H6 I6 S6) fun f s7 q7=>?_);have again:∀{σ7:St}{H7:Hp},Inv X (AD++NA fp s5.heap) σ7 H7 s7->lft X H6 G3 (Pv (i+1)) σ7 H7->∃m,m<n+1/\∃i σ' H' ρ' G',i+m=l'.length/\Inv X AD σ' H' s7/\tn i s7.heap/\(∀b∈fp,H' b=none)/\Ext H2 G2 H' G'/\Stt X H' σ' ρ' G'/\Pv i ρ' G':=fun {σ7 H7} I7 ⟨ρ7,G7,e7,S7,p7⟩=>by
   refine⟨n,Nat.lt_succ_self _,i+1,σ7,H7,ρ7,G7,by lia,I7.unpinned,T.keep _ _ _ cS fun b hb o e=>(I7.pin (b,o) (List.mem_append_right _ (List.mem_append_right _ (E7 hb e)))).1,fun b hb=>?_,(e3.trans (e5.trans (e6.trans e7))),S7,p7⟩;obtain⟨o,e,d⟩:=T.obj _ _ cS b hb;exact(I7.pin (b,o) (List.mem_append_right _ (List.mem_append_right _ (E7 hb e)))).2.1
  have whole:Ext H G H6 G3:=e2.trans (e3.trans (e5.trans e6));cases f with
  |next=>obtain⟨σ7,H7,I7,n7⟩:=q7;exact again I7 n7
  |cont=>obtain⟨σ7,H7,I7,n7⟩:=q7;exact again I7 n7
  |brk=>obtain⟨σ7,H7,I7,q7⟩:=q7;exact⟨σ7,H7,I7.unpinned,Ei whole q7⟩
  |ret v=>obtain⟨x7,σ7,H7,I7,r7,q7⟩:=q7;exact⟨x7,σ7,H7,I7.unpinned,r7,Po.trans whole q7⟩
theorem DD(Pv:Nat->Rho->Gs->Prop)(hp:PassesOwn (model X.prog X.w) X.A X.env X.xe){m0:Nat}(h0:Pv m0 ρ G)(hs:∀m ρ' G',Pv m ρ' G'->WT X ρ' G' c fun p QC=>(p=true->WSs X ρ' QC body { nx:=fun ρ2 G2=>∃m',m'<m/\Pv m' ρ2 G2,ct:=fun ρ2 G2=>∃m',m'<m/\Pv m' ρ2 G2,bk:=fun ρ' G'=>WSs X ρ' G' rest D,rt:=D.rt })/\(p=false->WSs X ρ' QC rest D)) :
  WSs X ρ G (.While c body [] pos::rest) D:=BX fun AD s σ H I S=>by
 refine wpAny_While (codeAny_whileLoop (fun n s'=>∃σ' H' ρ' G',Inv X AD σ' H' s'/\Ext H G H' G'/\Stt X H' σ' ρ' G'/\Pv n ρ' G') ?_ m0 ⟨σ,H,ρ,G,I,Ext.refl,S,h0⟩);rintro n s1 ⟨σ1,H1,ρ1,G1,I1,e1,S1,p1⟩;refine wpAny_passesOwn hp (thn (hs n ρ1 G1 p1 AD s1 σ1 H1 I1 S1) fun p s2 ⟨H2,I2,G2,e2,o2,q2⟩=>?_);cases p with
 |true=>
  rw[if_pos rfl];refine wpAny_passesOwn hp (thn (q2.1 rfl AD s2 σ1 H2 I2 (S1.ext e2 o2)) fun f s3 q3=>?_);cases f with
  |next=>
   obtain⟨σ3,H3,I3,ρ3,G3,e3,S3,m',hm,p3⟩:=q3;exact⟨m',hm,σ3,H3,ρ3,G3,I3,e1.trans (e2.trans e3),S3,p3⟩
  |cont=>
   obtain⟨σ3,H3,I3,ρ3,G3,e3,S3,m',hm,p3⟩:=q3;exact⟨m',hm,σ3,H3,ρ3,G3,I3,e1.trans (e2.trans e3),S3,p3⟩
  |brk=>obtain⟨σ3,H3,I3,q3⟩:=q3;exact⟨σ3,H3,I3,Ei (e1.trans e2) q3⟩
  |ret v=>obtain⟨x3,σ3,H3,I3,r3,q3⟩:=q3;exact⟨x3,σ3,H3,I3,r3,Po.trans (e1.trans e2) q3⟩
 |false=>
  rw[if_neg Bool.false_ne_true];exact wpAny_execs_nil ⟨σ1,H2,I2,ρ1,G2,e1.trans e2,S1.ext e2 o2,q2.2 rfl⟩
theorem Mr{H:Hp}{p:Addr}{vs:List V}(o:GOk X.K H G)(hp:H p=none)(r:RepL X.K (hid H G) ds vs):Ext H G (upd H p (.lst vs)) (put G p (.lst ds))/\GOk X.K (upd H p (.lst vs)) (put G p (.lst ds)):=by
 have hG:=o.free hp;have E:Ext H G (upd H p (.lst vs)) (put G p (.lst ds)):=⟨fun b u e _=>by rw[AZ (Ak e hp)];exact e,fun b h=>by
  by_cases hb:b=p
  ·subst hb;exact .inr hp
  ·rw[Ad hb]at h;exact .inl h⟩
 refine⟨E,fun b u q=>?_⟩;by_cases hb:b=p
 ·subst hb;rw[AH]at q;cases q;exact⟨vs,A2,r.same E.hid⟩
 ·rw[Ad hb]at q;exact(o b u q).ext E.hid (AZ hb)
theorem J1{H:Hp}{p:Addr}{l:List Dat}{vs:List V}(o:GOk X.K H G)(hG:G p=some (.lst l))(r:RepL X.K (hid H G) ds vs):Ext H G (upd H p (.lst vs)) (put G p (.lst ds))/\GOk X.K (upd H p (.lst vs)) (put G p (.lst ds)):=by
 have E:Ext H G (upd H p (.lst vs)) (put G p (.lst ds)):=⟨fun b u e h=>by
  have:b≠p:=by rintro rfl;rw[hG]at h;cases h
  rw[AZ this];exact e,fun b h=>by
  by_cases hb:b=p
  ·subst hb;left;rw[hG];exact nofun
  ·rw[Ad hb]at h;exact .inl h⟩
 refine⟨E,fun b u q=>?_⟩;by_cases hb:b=p
 ·subst hb;rw[AH]at q;cases q;exact⟨vs,A2,r.same E.hid⟩
 ·rw[Ad hb]at q;exact(o b u q).ext E.hid (AZ hb)
theorem Jz{H:Hp}{p:Addr}{l:List Dat}(o:GOk X.K H G)(hG:G p=some (.lst l)):Ext H G H (rel G p)/\GOk X.K H (rel G p)/\Rep X.K (hid H (rel G p)) (.lst l) (.ref p):=by
 have E:Ext H G H (rel G p):=⟨fun b u e _=>e,fun b h=>by
  by_cases hb:b=p
  ·subst hb;rw[CG]at h;exact absurd rfl h
  ·rw[D3 hb]at h;exact .inl h⟩
 refine⟨E,fun b u q=>?_,?_⟩
 ·by_cases hb:b=p
  ·subst hb;rw[CG]at q;cases q
  ·rw[D3 hb]at q;exact(o b u q).ext E.hid rfl
 ·obtain⟨vs,h1,r1⟩:=o p _ hG;rw[Rep];exact⟨p,vs,rfl,Eu CG h1,r1.same E.hid⟩
theorem CY(i:Nat){x:Str}{pos':Pos}(hN:X.N.Nodup)(h:PXs X ρ G es ds)(q:∀p,G p=none->WSs X (ρ.set i (some (.fn p))) (put G p (.lst ds)) rest D)(hz:ds.length<=1000:=by first|decide|(simp;done))(hi:X.N[i]?=some x:=by rfl)(hx:Loc X.env.scope x:=by first|exact Or.inl rfl|exact Or.inr rfl)(hs:swapsWith (.List es p2) (some (.Name x pos')) pos.line X.env=pure false:=by rfl)(hf:X.fn x=true\/X.env.scope.names.lookup x=some .local:=by first|exact .inl rfl|exact .inr rfl|assumption):WSs X ρ G (.Assign [.Name x pos'] (.List es p2) pos::rest) D:=BX (Pb (Vo (i:=i) hN hi hx (U2 LK) hs hf) fun σ H S=>⟨ρ,G,_,h,S,fun vs H1 ⟨_,_,e1,o1,r1,q1,BV⟩=>by
  subst q1;subst BV;refine⟨by rw[r1.length];exact Nat.le_of_lt (JB hz),fun p hp=>?_⟩;obtain⟨E,O⟩:=Mr o1 hp r1;exact⟨_,_,e1.trans E,Stt.set (d:=.fn p) (v:=.ref p) (S.ext (e1.trans E) O) rfl,q p (o1.free hp)⟩⟩)
theorem A9{p:Addr}{apos Ax:Pos}(hx:PX X ρ G a (.fn p))(h:PX X ρ G e d)(hG:G p=some (.lst l))(hz:l.length<sizeLine)(q:WSs X ρ (put G p (.lst (l++[d]))) rest D)(GK:attributeBase a "append" X.env (eval a X.env)=eval a X.env:=by rfl)(Di:(apos.endLine==Ax.line)=true:=by rfl)(he:starEach [e] X.env=(false,eval e X.env)::starEach [] X.env:=by rfl)(OJ:((backTo Ax (starEach [e] X.env)).all (fun x=>!x.1)&&(backToKw Ax (keywordEach [] X.env)).all (fun x=>x.1.isSome)&&decide (([e]:List Expr).length+([]:List Keyword).length+(if ([]:List Keyword).isEmpty then 0 else 1)<30))=true:=by rfl)(hs:swapsWith (.Call (.Attribute a "append" apos) [e] [] Ax) none pos.line X.env=pure false:=by rfl):WSs X ρ G (.Expr (.Call (.Attribute a "append" apos) [e] [] Ax) pos::rest) D:=BX (Pb (SK (fj PySem.F.plainAttrs_list PySem.F.slot_list_append PySem.F.type_list_append MJ Ap (BL Ap Cz he) GK OJ Di he rfl) hs) fun σ H S=>⟨ρ,G,_,hx,S,fun x H1 ⟨_,_,e1,o1,r1,q1,BV⟩=>by
  subst q1;subst BV;cases (show x=V.ref p from r1);obtain⟨fA,h1,_⟩:=o1 p _ hG;refine⟨.inl ⟨rfl,fA,SqL.of h1⟩,ρ,_,_,h,S.ext e1 o1,fun y H2 ⟨_,_,e2,o2,r2,q2,Fs⟩=>?_⟩;subst q2;subst Fs;obtain⟨vs,h2,r3⟩:=o2 p _ hG;refine⟨p,vs,y,rfl,rfl,h2,by rw[r3.length];exact hz,?_⟩;obtain⟨E,O⟩:=J1 o2 hG (r3.append (RepL.cons r2 RepL.nil));exact⟨ρ,_,(e1.trans e2).trans E,S.ext ((e1.trans e2).trans E) O,q⟩⟩)
theorem GZ{p:Addr}(h:PX X ρ G e (.fn p))(hG:G p=some (.lst l))(q:D.rt (.lst l) (rel G p)):WSs X ρ G (.Return (some e) pos::rest) D:=Bx fun AD s σ H I S=>thn (h AD s σ H I S) fun v s1 z=>EP.mono z fun x H1 ⟨_,_,e1,o1,r1,q1,BV⟩=>by
  subst q1;subst BV;cases (show x=V.ref p from r1);obtain⟨E,O,R⟩:=Jz o1 hG;exact⟨_,_,e1.trans E,O,R,q⟩
end
theorem EU{α β:Type}{f:α->β->Sem (ForInStep β)}{g:β->α->β}:∀(l:List α)(c:β),(∀x∈l,∀c,f x c=pure (.yield (g c x)))->forIn l c f=(pure (l.foldl g c):Sem β)
 |[],_,_=>rfl
 |x::l,c,h=>by
  rw[List.forIn_cons,h x List.mem_cons_self,pure_bind];exact EU l _ fun y hy=>h y (List.mem_cons_of_mem _ hy)
def clF(env:Env):List (Str×Addr)->Str×NameKind->List (Str×Addr):=fun cs x=>if (x.2==NameKind.free)=true then(x.1,(env.cells.lookup x.1).getD 0)::cs else cs
def VQ(scope:Scope)(env:Env):List (Str×Addr):=scope.names.foldl (clF env) []
theorem D6{scope:Scope}{env:Env}(h:∀x∈scope.names,x.2=.free->∃c,env.cells.lookup x.1=some c):closureFor scope env=pure (VQ scope env):=by
 simp only[closureFor];rw[EU (g:=clF env) scope.names [] (fun x hx c=>?_)]
 ·rfl
 ·obtain⟨n,kind⟩:=x;by_cases hk:kind=.free
  ·subst hk;obtain⟨a,ha⟩:=h _ hx rfl;simp only[cellOf,clF,ha,beq_self_eq_true,if_true,Option.getD_some,pure_bind]
  ·have:(kind==NameKind.free)=false:=by simpa using hk
   simp only[clF,this,Bool.false_eq_true,if_false]
theorem Su{env:Env}{x:Str}{c:Addr}:∀(l:List (Str×NameKind))(cs:List (Str×Addr)),(x,c)∈l.foldl (clF env) cs->(x,c)∈cs\/((x,NameKind.free)∈l/\c=(env.cells.lookup x).getD 0)
 |[],_,h=>.inl h
 |(n,k)::l,cs,h=>by
  rcases Su l _ h with h|⟨h1,h2⟩
  ·unfold clF at h;by_cases hk:(k==NameKind.free)=true
   ·rw[if_pos hk]at h;rcases List.mem_cons.mp h with e|h
    ·cases e;exact .inr ⟨by rw[eq_of_beq hk];exact List.mem_cons_self,rfl⟩
    ·exact .inl h
   ·rw[if_neg hk]at h;exact .inl h
  ·exact .inr ⟨List.mem_cons_of_mem _ h1,h2⟩
theorem Sr{env:Env}{x:Str}:∀(l:List (Str×NameKind))(cs:List (Str×Addr)),((x,NameKind.free)∈l\/∃c,(x,c)∈cs)->∃c,(x,c)∈l.foldl (clF env) cs
 |[],_,h=>by
  rcases h with h|h
  ·cases h
  ·exact h
 |(n,k)::l,cs,h=>by
  refine Sr l _ ?_;rcases h with h|⟨c,h⟩
  ·rcases List.mem_cons.mp h with e|h
   ·cases e;right;refine⟨(env.cells.lookup x).getD 0,?_⟩;unfold clF;rw[if_pos (by rfl)];exact List.mem_cons_self
   ·exact .inl h
  ·right;refine⟨c,?_⟩;unfold clF;split
   ·exact List.mem_cons_of_mem _ h
   ·exact h
theorem Kg{α:Type}{x:Str}{c:α}:∀{l:List (Str×α)},l.lookup x=some c->(x,c)∈l
 |[],h=>by simp at h
 |(n,k)::l,h=>by
  by_cases e:x=n
  ·subst e;simp only[List.lookup_cons,beq_self_eq_true]at h;cases h;exact List.mem_cons_self
  ·have:(x==n)=false:=by simpa using e
   simp only[List.lookup_cons,this]at h;exact List.mem_cons_of_mem _ (Kg h)
theorem J3{α:Type}{x:Str}{c:α}:∀{l:List (Str×α)},(x,c)∈l->∃c',l.lookup x=some c'
 |[],h=>by cases h
 |(n,k)::l,h=>by
  by_cases e:x=n
  ·subst e;exact⟨k,by simp[List.lookup_cons]⟩
  ·have:(x==n)=false:=by simpa using e
   rcases List.mem_cons.mp h with q|q
   ·cases q;exact absurd rfl e
   ·obtain⟨c',h'⟩:=J3 q;exact⟨c',by simpa[List.lookup_cons,this]using h'⟩
def Aa(X:Cx)(Nc:List Str)(scope:Scope)(C:Addr)(s:Shared)(H:Hp)(fp:List Addr):Cx where
 prog:=X.prog
 w:=X.w
 K:=X.K
 mg:=X.mg
 base:=X.base
 A:=X.A
 N:=Nc
 s₀:=s
 H₀:=H
 env:=compEnvC scope (VQ scope X.env) C X.env
 outer:=X.stack
 stack:=X.stack
 ex:=fp
 fn:=fun _=>false
 calm:=true
 pn:=[]
 xe:=fun _ _=>False
def Vm(psc:Scope)(PN:List Str)(scope:Scope)(Nc:List Str)(caps:List (Option Nat)):Bool:=decide (scope.kind=.function)&&scope.names.all (fun x=>decide (x.2≠.cell))&&scope.names.all (fun x=>decide (x.2=.local->scope.names.lookup x.1=some .local)) &&
 scope.names.all (fun x=>decide (x.2=.free->scope.names.lookup x.1=some .free/\(psc.names.lookup x.1=some .cell\/psc.names.lookup x.1=some .free)))&&decide Nc.Nodup&&decide (caps.length=Nc.length) &&
 (caps.zip Nc).all (fun q=>match q.1 with|none=>true|some j=>decide (PN[j]?=some q.2)&&decide ((q.2,NameKind.free)∈scope.names))
structure CompSc (X:Cx) (scope:Scope) (Nc:List Str) (caps:List (Option Nat)):Prop where
 kind:scope.kind=.function
 nocell:∀x∈scope.names,x.2≠.cell
 names:∀x∈scope.names,x.2=.local->scope.names.lookup x.1=some .local
 free:∀x∈scope.names,x.2=.free->X.env.kindOf x.1=some .cell\/X.env.kindOf x.1=some .free
 sole:∀x∈scope.names,x.2=.free->scope.names.lookup x.1=some .free
 nd:Nc.Nodup
 len:caps.length=Nc.length
 caps:∀(i j:Nat)(x:Str),caps[i]?=some (some j)->Nc[i]?=some x->X.N[j]?=some x/\(x,NameKind.free)∈scope.names
theorem B4{X:Cx}{psc:Scope}{PN:List Str}{scope:Scope}{Nc:List Str}{caps:List (Option Nat)}(h:Vm psc PN scope Nc caps=true)(h1:X.env.scope=psc)(h2:X.N=PN):CompSc X scope Nc caps:=by
 unfold Vm at h;simp only[Bool.and_eq_true,decide_eq_true_eq,List.all_eq_true]at h;obtain⟨⟨⟨⟨⟨⟨a,b⟩,c⟩,d⟩,e⟩,f⟩,g⟩:=h;refine⟨a,b,c,fun x hx hf=>?_,fun x hx hf=>(d x hx hf).1,e,f,fun i j x hi hj=>?_⟩
 ·have:=(d x hx hf).2
  show X.env.scope.names.lookup x.1=_\/X.env.scope.names.lookup x.1=_;rw[h1];exact this
 ·have hm:(some j,x)∈caps.zip Nc:=List.mem_of_getElem? (i:=i) (by rw[List.getElem?_zip_eq_some];exact⟨hi,hj⟩)
  have:=g _ hm
  simp only[Bool.and_eq_true,decide_eq_true_eq]at this;rw[h2];exact this
def A8{α:Type}(caps:List (Option Nat))(l:List (Option α)):List (Option α):=caps.map fun o=>o.bind fun j=>(l[j]?).join
theorem Nw{α:Type}{caps:List (Option Nat)}{l:List (Option α)}{i:Nat}{v:α}(h:(A8 caps l)[i]?=some (some v)):∃j,caps[i]?=some (some j)/\l[j]?=some (some v):=by
 unfold A8 at h;rw[List.getElem?_map]at h;cases q:caps[i]? with
 |none=>rw[q]at h;cases h
 |some o=>
  rw[q]at h;cases o with
  |none=>simp at h
  |some j=>
   refine⟨j,rfl,?_⟩;simp only[Option.map_some,Option.bind_some,Option.some.injEq]at h;cases z:l[j]? with
   |none=>rw[z]at h;simp at h
   |some u=>rw[z]at h;simp only[Option.join_some]at h;rw[h]
theorem Wv{α:Type}{caps:List (Option Nat)}{l:List (Option α)}{i j:Nat}{v:α}(h:caps[i]?=some (some j))(h':l[j]?=some (some v)):(A8 caps l)[i]?=some (some v):=by unfold A8;rw[List.getElem?_map,h];simp[h']
section
variable {X:Cx}{AD:List (Addr×Obj)}{σ:St}{H:Hp}{s:Shared}{scope:Scope}{Nc:List Str}{caps:List (Option Nat)}{fp:List Addr}{ρ:Rho}{G:Gs}
theorem DF(I:Inv X AD σ H s)(Sc:CompSc X scope Nc caps){x:Str}{c:Addr}(h:(VQ scope X.env).lookup x=some c):X.env.cells.lookup x=some c/\(x,NameKind.free)∈scope.names:=by
 rcases Su _ _ (Kg h)with h|⟨h1,h2⟩
 ·cases h
 ·obtain⟨c',hc⟩:=I.ok.has x (Sc.free _ h1 rfl);rw[hc]at h2;exact⟨by rw[hc,h2];rfl,h1⟩
theorem Rc(I:Inv X AD σ H s)(Sc:CompSc X scope Nc caps){x:Str}(h:(x,NameKind.free)∈scope.names):∃c,(VQ scope X.env).lookup x=some c/\X.env.cells.lookup x=some c:=by obtain⟨c,hm⟩:=Sr (env:=X.env) scope.names [] (.inl h);obtain⟨c',hc⟩:=J3 hm;exact⟨c',hc,(DF I Sc hc).1⟩
theorem IU{env:Env}{x:Str}:∀{names:List (Str×NameKind)}{k:NameKind},(names.map fun(n,k)=>if (k==NameKind.free&&env.scope.kind==.function&&env.kindOf n==some .cell)then(n,NameKind.cell)else(n,k)).lookup x=some k →
  ∃k',(x,k')∈names/\(k=k'\/(k'=.free/\k=.cell))
 |[],_,h=>by simp at h
 |(n,k0)::r,k,h=>by
  rw[List.map_cons]at h;by_cases e:x=n
  ·subst e;by_cases hc:(k0==NameKind.free&&env.scope.kind==.function&&env.kindOf x==some .cell)=true
   ·simp only[hc,if_true,List.lookup_cons,beq_self_eq_true]at h;cases h;simp only[Bool.and_eq_true]at hc;exact⟨k0,List.mem_cons_self,.inr ⟨eq_of_beq hc.1.1,rfl⟩⟩
   ·simp only[hc,Bool.false_eq_true,if_false,List.lookup_cons,beq_self_eq_true]at h;cases h;exact⟨k0,List.mem_cons_self,.inl rfl⟩
  ·have hx:(x==n)=false:=by simpa using e
   have:(List.map (fun(x:Str×NameKind)=>match x with|(n,k)=>if (k==NameKind.free&&env.scope.kind==.function&&env.kindOf n==some .cell)then(n,NameKind.cell)else(n,k)) r).lookup x=some k:=by
    by_cases hc:(k0==NameKind.free&&env.scope.kind==.function&&env.kindOf n==some .cell)=true
    ·simp only[hc,if_true,List.lookup_cons,hx]at h;exact h
    ·simp only[hc,Bool.false_eq_true,if_false,List.lookup_cons,hx]at h;exact h
   obtain⟨k',h1,h2⟩:=IU this;exact⟨k',List.mem_cons_of_mem _ h1,h2⟩
theorem IV{env:Env}{x:Str}:∀{names:List (Str×NameKind)},names.lookup x=some .free->(names.map fun(n,k)=>if (k==NameKind.free&&env.scope.kind==.function&&env.kindOf n==some .cell)then(n,NameKind.cell)else(n,k)).lookup x=some .cell ∨
  (names.map fun(n,k)=>if (k==NameKind.free&&env.scope.kind==.function&&env.kindOf n==some .cell)then(n,NameKind.cell)else(n,k)).lookup x=some .free
 |[],h=>by simp at h
 |(n,k0)::r,h=>by
  rw[List.map_cons];by_cases e:x=n
  ·subst e;simp only[List.lookup_cons,beq_self_eq_true]at h;cases h;by_cases hc:(NameKind.free==NameKind.free&&env.scope.kind==.function&&env.kindOf x==some .cell)=true
   ·left;show List.lookup x ((if (NameKind.free==NameKind.free&&env.scope.kind==.function&&env.kindOf x==some .cell)=true then(x,NameKind.cell)else(x,NameKind.free))::_)=_;rw[if_pos hc,List.lookup_cons,beq_self_eq_true]
   ·right;show List.lookup x ((if (NameKind.free==NameKind.free&&env.scope.kind==.function&&env.kindOf x==some .cell)=true then(x,NameKind.cell)else(x,NameKind.free))::_)=_;rw[if_neg hc,List.lookup_cons,beq_self_eq_true]
  ·have hx:(x==n)=false:=by simpa using e
   simp only[List.lookup_cons,hx]at h;have ih:=IV (env:=env) h;by_cases hc:(k0==NameKind.free&&env.scope.kind==.function&&env.kindOf n==some .cell)=true
   ·simp only[hc,if_true,List.lookup_cons,hx];exact ih
   ·simp only[hc,Bool.false_eq_true,if_false,List.lookup_cons,hx];exact ih
theorem Qz(I:Inv X AD σ H s)(Sc:CompSc X scope Nc caps)(Bm:X.calm=true){h₁:Heap}{tk:Nat}(hf:∀b∈fp,JK X AD H b)(BC:∀b∈fp,b<s.heap.objs.size)(QD:∃m,h₁.Ns s.heap.objs.size m)(hk:∀b u,s.heap.get? b=some u->h₁.get? b=some u) :
  Inv (Aa X Nc scope s.heap.objs.size s H fp) [] (A8 caps σ) H { s with heap:=h₁,toks:=tk }:=by
 have fB:∀x,((Aa X Nc scope s.heap.objs.size s H fp).env.kindOf x=some .cell\/(Aa X Nc scope s.heap.objs.size s H fp).env.kindOf x=some .free)->(x,NameKind.free)∈scope.names:=fun x hx=>by
  have hh:∃k,(k=NameKind.cell\/k=NameKind.free)/\(Aa X Nc scope s.heap.objs.size s H fp).env.kindOf x=some k:=by
   rcases hx with h|h
   ·exact⟨_,.inl rfl,h⟩
   ·exact⟨_,.inr rfl,h⟩
  obtain⟨k,hk,h⟩:=hh;obtain⟨k',h1,h2⟩:=IU (env:=X.env) h;rcases h2 with e|⟨e,_⟩
  ·subst e;rcases hk with e|e
   ·subst e;exact absurd rfl (Sc.nocell _ h1)
   ·subst e;exact h1
  ·subst e;exact h1
 refine⟨?_,rfl,I.bare,Un.kept hk,?_,fun x c e=>?_,?_,fun x c e=>?_,fun p hp=>?_,I.hok.kept hk,?_⟩
 ·refine⟨I.ok.mod,Sc.kind,I.ok.glob,I.ok.blt,Nat.le_refl _,fun x y c h1 h2=>?_,fun x h=>?_,fun x c h=>?_,fun _=>I.ok.hd Bm,I.ok.frames,.inl rfl,fun b hb=>?_,I.bs,Nat.le_trans I.ok.bsz I.sz,fun b o e hb=>?_,fun b hb LR=>?_,I.stack,I.stkFree⟩
  ·exact I.ok.inj x y c (DF I Sc h1).1 (DF I Sc h2).1
  ·obtain⟨c,h1,_⟩:=Rc I Sc (fB x h);exact⟨c,h1⟩
  ·exact absurd h Bool.false_ne_true
  ·exact⟨Nat.ne_of_lt (BC b hb),fun x c e=>(hf b hb).2.2.2.2.1 x c (DF I Sc e).1⟩
  ·rcases(hf b hb).2.2.2.1 with z|z
   ·exact I.ok.noex b o e z
   ·exact absurd (Nat.lt_of_lt_of_le (Heap.lt_size e) (Nat.le_trans I.ok.bsz z)) (Nat.lt_irrefl _)
  ·rcases List.mem_cons.mp (I.stkSub b LR)with z|z
   ·exact(hf b hb).2.1 z
   ·exact(hf b hb).2.2.1 z
 ·obtain⟨m,hm⟩:=QD;refine⟨m,hm,fun i x v h1 h2 h3=>?_⟩;obtain⟨j,hj,hv⟩:=Nw h2;obtain⟨hN,Tb⟩:=Sc.caps i j x hj h1;obtain⟨c,qo,Nu⟩:=Rc I Sc Tb;have kx:=Sc.free _ Tb rfl;obtain⟨m0,_,hl⟩:=I.loc;obtain⟨u,ru,lk⟩:=hl j x v hN hv (by rcases kx with z|z;exact .inr (.inl z);exact .inr (.inr z));refine⟨u,ru,?_⟩;rcases lk with⟨z,_⟩|⟨_,c',e',cell⟩
  ·rcases kx with y|y<;>(have y':X.env.kindOf x=_:=y;rw[z]at y';cases y')
  ·rw[Nu]at e';cases e';exact .inr ⟨IV (Sc.sole _ Tb rfl),c,qo,cell.keeps hk⟩
 ·obtain⟨v,z⟩:=I.cell x c (DF I Sc e).1;exact⟨v,z.keeps hk⟩
 ·exact I.hok.fresh (Nat.le_refl _)
 ·exact I.freeC x c (DF I Sc e).1
 ·cases hp
 ·unfold A8;rw[List.length_map];exact Sc.len
end
theorem KA{X:Cx}{AD:List (Addr×Obj)}{σ σc:St}{H Hf:Hp}{s sf:Shared}{scope:Scope}{Nc:List Str}{fp:List Addr}{h':Heap}(I:Inv X AD σ H s)(hf:∀b∈fp,JK X AD H b)(Ic:Inv (Aa X Nc scope s.heap.objs.size s H fp) [] σc Hf sf)(hs:Heap.SameBut s.heap.objs.size sf.heap h'):Inv X AD σ Hf { sf with heap:=h' }:=by
 have SD:∀b∈fp,(b∈X.ex\/X.s₀.heap.objs.size<=b)/\b≠X.env.locals/\(∀x c,X.env.cells.lookup x=some c->c≠b)/\∀p∈X.pn++AD,p.1≠b:=fun b hb=>
  ⟨(hf b hb).2.2.2.1,(hf b hb).2.1,(hf b hb).2.2.2.2.1,(hf b hb).2.2.2.2.2⟩
 have I1:Inv X AD σ Hf sf:=I.call' Ic.os Ic.base Ic.hok Ic.bare SD;have hC:Hf s.heap.objs.size=none:=Ic.free;refine I1.turned (t':=sf.toks) (it:=s.heap.objs.size) (fun b o hb e=>hs.extBut b o hb e) hC (Nat.ne_of_gt I.lt) (.inr I.sz) (fun x c e z=>?_) fun p hp z=>?_
 ·obtain⟨v,o,ho,_⟩:=I.cell x c e;rw[z]at ho;exact absurd (Heap.lt_size ho) (Nat.lt_irrefl _)
 ·have:=(I.pin p hp).1
  rw[z]at this;exact absurd (Heap.lt_size this) (Nat.lt_irrefl _)
def KR(elt:Expr)(env:Env)(Aw:Value):Sem Unit:=eval elt env >>= fun x=>call (.builtin "list.append") [Aw,x] >>= fun _=>pure ()
def PR(c elt:Expr)(env:Env)(Aw:Value):Sem Unit:=isTrue c env (eval c env) >>= fun ok=>if ok=true then KR elt env Aw else pure ()
def Kt(elt AM Ai:Expr)(ifs:List Expr)(scope:Scope)(pos:Pos)(tail:Env->Value->Sem Unit):Prop:=∀(it Aw:Value)(env:Env),compTurn (.ListComp elt [⟨AM,Ai,ifs,0⟩] scope pos) 0 it Aw env=(standAt Ai.pos >>= fun _=>pyNext it >>= fun r=>match r with
   |none=>pure (.done .next)
   |some v=>letOwnedTupleGo AM it v >>= fun _=>assign AM env v >>= fun _=>tail env Aw >>= fun _=>
     again (.compLoop (.ListComp elt [⟨AM,Ai,ifs,0⟩] scope pos) 0 it Aw env))
theorem GN(elt AM Ai:Expr)(scope:Scope)(pos:Pos):Kt elt AM Ai [] scope pos (KR elt):=fun it Aw env=>by rfl
theorem OX(elt AM Ai c:Expr)(scope:Scope)(pos:Pos):Kt elt AM Ai [c] scope pos (PR c elt):=fun it Aw env=>by
 have e:compTurn (.ListComp elt [⟨AM,Ai,[c],0⟩] scope pos) 0 it Aw env=(standAt Ai.pos >>= fun _=>pyNext it >>= fun r=>match r with
   |none=>pure (.done .next)
   |some v=>letOwnedTupleGo AM it v >>= fun _=>assign AM env v >>= fun _=>
     (forIn [c] true fun c r=>if r=true then(isTrue c env (eval c env) >>= fun ok=>pure (ForInStep.yield ok))else pure (ForInStep.yield r)) >>= fun ok=>
      if ok=true then(KR elt env Aw >>= fun _=>again (.compLoop (.ListComp elt [⟨AM,Ai,[c],0⟩] scope pos) 0 it Aw env))else again (.compLoop (.ListComp elt [⟨AM,Ai,[c],0⟩] scope pos) 0 it Aw env)):=by rfl
 rw[e];refine congrArg _ (funext fun _=>congrArg _ (funext fun r=>?_));cases r with
 |none=>rfl
 |some v=>
  refine congrArg (letOwnedTupleGo AM it v >>= ·) (funext fun _=>congrArg (assign AM env v >>= ·) (funext fun _=>?_));unfold PR;simp only[List.forIn_cons,List.forIn_nil,if_true,bind_assoc,pure_bind];refine congrArg (isTrue c env (eval c env) >>= ·) (funext fun ok=>?_);cases ok<;>simp
def JW(Xc:Cx)(ρ:Rho)(G:Gs)(tl:Sem Unit)(Q:Gs->Prop):Prop:=∀(AD:List (Addr×Obj))(s:Shared)(σ:St)(H:Hp),Inv Xc AD σ H s->Stt Xc H σ ρ G->wpAny (model Xc.prog Xc.w) Xc.A tl (fun _ s'=>∃H' G',Inv Xc AD σ H' s'/\Ext H G H' G'/\GOk Xc.K H' G'/\Q G') (fun _ _=>False) s
section
variable {X:Cx}{AD:List (Addr×Obj)}{σ:St}{H:Hp}{s:Shared}{scope:Scope}{Nc:List Str}{caps:List (Option Nat)}{ρ:Rho}{G:Gs}{elt AM Ai c:Expr}{ifs:List Expr}{Ax:Pos}{l:List Dat}{f:Dat->Rho->Option Rho}{tail:Env->Value->Sem Unit}
theorem Ik(Pv:Nat->List Dat->Gs->Prop)(ht:Kt elt AM Ai ifs scope Ax tail)(Sc:CompSc X scope Nc caps)(Bm:X.calm=true)(hg:∀C s' H' fp,PGD (Aa X Nc scope C s' H' fp) AM f)(hle:∀d ρ',f d (A8 caps ρ)=some ρ'->ρ'.length=(A8 caps ρ).length/\∀(j:Nat) e,(A8 caps ρ)[j]?=some (some e)->ρ'[j]?=some (some e))(hz:l.length<=sizeLine)(CH:∀C s' H' fp D i d Aw G',l[i]?=some d->Pv i Aw G'->G' D=none->∃ρ',f d (A8 caps ρ)=some ρ' ∧
   JW (Aa X Nc scope C s' H' fp) ρ' (put G' D (.lst Aw)) (tail (Aa X Nc scope C s' H' fp).env (.ref D)) fun QC=>∃D5 G4,D5.length<=Aw.length+1/\G4 D=none/\QC=put G4 D (.lst D5)/\Pv (i+1) D5 G4){it:Addr}{fp:List Addr}{tn:Nat->Heap->Prop}{J:It}(I:Inv X AD σ H s)(S:Stt X H σ ρ G)(T:Turn X.prog X.w X.K AM J fp it tn)(st:tn 0 s.heap)(hf:∀b∈fp,JK X AD H b)(wk:Wk X.K J H G l)(p0:Pv 0 [] G){E:Value->Shared->Prop}{RR:Value->Addr->Result->Shared->Prop}(oE:∀D C s3 sf σc Hf Gf Aw,(∀b o,s.heap.get? b=some o->s3.heap.get? b=some o)->C=s3.heap.objs.size->(∃H3,Inv X AD σ H3 s3/\(∀b∈fp,JK X AD H3 b)/\Inv (Aa X Nc scope C s3 H3 fp) [] σc Hf sf)->Ext H G Hf (put Gf D (.lst Aw))->GOk X.K Hf (put Gf D (.lst Aw))->Gf D=none->Pv l.length Aw Gf->RR (.ref D) C (.ok .next) sf) :
  wpAny (model X.prog X.w) X.A (newList []) (fun Aw s₃=>wpAny (model X.prog X.w) X.A (newFunctionEnv scope X.env.globals (VQ scope X.env) [] X.env.qual none .none (some X.env)) (fun fq s₄=>
   codeAny (model X.prog X.w) X.A (.compStart (.ListComp elt [⟨AM,Ai,ifs,0⟩] scope Ax) 0 (.ref it) Aw { fq with scope:=relabel scope X.env }) (RR Aw fq.locals) s₄) E s₃) E s:=by
 refine wpAny_newObj_type (wpAny_newFunctionEnv Sc.nocell (by intro y hy;simp at hy) (fun h₁ QD₁ Kh₁=>?_) Sc.kind);dsimp only at QD₁ Kh₁ ⊢;have I3:Inv X AD σ (upd H s.heap.objs.size (.lst [])) { s with heap:=s.heap.push { cls:=.type "list",data:=.seq ([]:List Value).toArray },toks:=s.toks }:=I.lnew (ys:=[]) (AS:=[]) .nil (Nat.zero_le _);have hD:H s.heap.objs.size=none:=I.hok.fresh (Nat.le_refl _);obtain⟨E3,O3⟩:=Mr (X:=X) (ds:=[]) S.own hD RepL.nil;have mQ:∀b∈fp,b<s.heap.objs.size:=fun b hb=>by obtain⟨o,e,_⟩:=T.obj 0 _ st b hb;exact Heap.lt_size e
 have ne2:∀b∈fp,b≠s.heap.objs.size:=fun b hb=>Nat.ne_of_lt (mQ b hb);have f3:∀b∈fp,JK X AD (upd H s.heap.objs.size (.lst [])) b:=fun b hb=>⟨by rw[AZ (ne2 b hb)];exact(hf b hb).1,(hf b hb).2⟩;generalize hs3:({ s with heap:=s.heap.push { cls:=.type "list",data:=.seq ([]:List Value).toArray },toks:=s.toks }:Shared)=s3 at I3;have e3:s3.heap=s.heap.push { cls:=.type "list",data:=.seq ([]:List Value).toArray }:=by rw[<-hs3]
 have k3:∀b o,s.heap.get? b=some o->s3.heap.get? b=some o:=fun b o e=>by rw[e3];exact Heap.get?_push_of_some _ e
 have hC:s3.heap.objs.size=s.heap.objs.size+1:=by rw[e3,Heap.size_push]
 have mH:∀b∈fp,b<s3.heap.objs.size:=fun b hb=>by rw[hC];exact Nat.lt_succ_of_lt (mQ b hb)
 rw[<-e3]at QD₁ Kh₁;have hk:∀b u,s3.heap.get? b=some u->h₁.get? b=some u:=fun b u e=>Kh₁.extBut b u (Nat.ne_of_lt (Heap.lt_size e)) (Heap.get?_push_of_some _ e);have Ic:=Qz (tk:=s.toks+([]:List (Str×Value)).length) I3 Sc Bm f3 mH ⟨_,QD₁⟩ hk;have Bp:tn 0 h₁:=T.keep _ _ _ st fun b hb o e=>hk b o (k3 b o e);have pW:Stt (Aa X Nc scope s3.heap.objs.size s3 (upd H s.heap.objs.size (.lst [])) fp) (upd H s.heap.objs.size (.lst [])) (A8 caps σ) (A8 caps ρ) (put G s.heap.objs.size (.lst [])):=by
  refine⟨fun i d h=>?_,by unfold A8;rw[List.length_map,List.length_map],O3⟩;obtain⟨j,hj,hd⟩:=Nw h;obtain⟨v,hv,rv⟩:=S.env j d hd;exact⟨v,Wv hj hv,rv.same E3.hid⟩
 have me:∀H' G',Ext (upd H s.heap.objs.size (.lst [])) (put G s.heap.objs.size (.lst [])) H' G'->Ext H G H' G':=fun H' G' e=>E3.trans e;have loop:∀s4:Shared,s4={ s3 with heap:=h₁,toks:=s.toks+([]:List (Str×Value)).length } →
   codeAny (model X.prog X.w) X.A (.compLoop (.ListComp elt [⟨AM,Ai,ifs,0⟩] scope Ax) 0 (.ref it) (.ref s.heap.objs.size) (Aa X Nc scope s3.heap.objs.size s3 (upd H s.heap.objs.size (.lst [])) fp).env) (RR (.ref s.heap.objs.size) s3.heap.objs.size) s4:=by
  rintro s4 rfl;refine codeAny_loop rfl (fun n s'=>∃i Aw σ' H' G',i+n=l.length/\Aw.length<=i/\Inv (Aa X Nc scope s3.heap.objs.size s3 (upd H s.heap.objs.size (.lst [])) fp) [] σ' H' s'/\tn i s'.heap/\(∀b∈fp,H' b=none) ∧
    Ext (upd H s.heap.objs.size (.lst [])) (put G s.heap.objs.size (.lst [])) H' (put G' s.heap.objs.size (.lst Aw))/\Stt (Aa X Nc scope s3.heap.objs.size s3 (upd H s.heap.objs.size (.lst [])) fp) H' σ' (A8 caps ρ) (put G' s.heap.objs.size (.lst Aw))/\G' s.heap.objs.size=none/\Pv i Aw G') ?_ l.length
   ⟨0,[],_,_,G,Nat.zero_add _,Nat.le_refl _,Ic,Bp,fun b hb=>(f3 b hb).1,Ext.refl,pW,S.own.free hD,p0⟩
  rintro n s5 ⟨i,Aw,σ5,H5,G5,hn,XI,I5,cS,iB,e5,S5,mw,p5⟩;show wpAny (model X.prog X.w) X.A ((compTurn (.ListComp elt [⟨AM,Ai,ifs,0⟩] scope Ax) 0 (.ref it) (.ref s.heap.objs.size) (Aa X Nc scope s3.heap.objs.size s3 (upd H s.heap.objs.size (.lst [])) fp).env).onRaise (fun x=>do noteFrame x (Aa X Nc scope s3.heap.objs.size s3 (upd H s.heap.objs.size (.lst [])) fp).env;theTreesLotGoes x)) _ _ s5;refine wpAny_noted ?_;rw[ht];refine wpAny_bind (wpAny_standAt (wpAny_bind ?_));have Qd:∀{H':Hp},(∀b∈fp,H' b=none)->∀b∈fp,JK (Aa X Nc scope s3.heap.objs.size s3 (upd H s.heap.objs.size (.lst [])) fp) [] H' b:=fun hn b hb=>
   ⟨hn b hb,Nat.ne_of_lt (mH b hb),Ic.ok.exfs b hb,.inl hb,(Ic.ok.exf b hb).2,fun p hp=>by cases hp⟩
  obtain⟨cF,kP⟩:=wk H5 _ (me _ _ e5);cases n with
  |zero=>
   have UU:i=l.length:=by lia
   subst UU;refine thn (T.done (Aa X Nc scope s3.heap.objs.size s3 (upd H s.heap.objs.size (.lst [])) fp) rfl rfl rfl rfl _ [] s5 σ5 H5 _ I5 (Qd iB) cS kP) fun r s6 ⟨hr,I6⟩=>?_;subst hr;exact wpAny_pure (oE _ _ s3 s6 σ5 H5 G5 Aw k3 rfl ⟨_,I3,f3,I6⟩ (me _ _ e5) S5.own mw p5)
  |succ n=>
   have BC:i<l.length:=by lia
   obtain⟨go,cF⟩:=cF i _ (List.getElem?_eq_getElem BC);obtain⟨ρ6,mq,w6⟩:=CH s3.heap.objs.size s3 (upd H s.heap.objs.size (.lst [])) fp s.heap.objs.size i _ Aw G5 (List.getElem?_eq_getElem BC) p5 mw;refine thn (T.item (Aa X Nc scope s3.heap.objs.size s3 (upd H s.heap.objs.size (.lst [])) fp) rfl rfl rfl rfl i [] s5 σ5 H5 _ I5 (Qd iB) cS go) fun r s6 ⟨u,hr,h6⟩=>?_;subst hr;refine wpAny_bind (thn h6 fun _ s7 ⟨x,H7,I7,r7,y7,jR,og⟩=>?_);obtain⟨e7,o7,gm⟩:=cF x H7 y7;have jB:=gm S5.own;have pL:=I7.pinned (Qd og) (T.obj _ _ jR);refine wpAny_bind (wpAny_mono (hg _ _ _ _ _ s7 σ5 H7 x u (A8 caps ρ) ρ6 _ _ pL r7 (S5.ext e7 (o7 S5.own)) jB mq) (fun _ s8 ⟨σ8,H8,I8,e8,S8⟩=>?_) fun _ _ z=>z.elim);refine wpAny_bind (wpAny_mono (w6 _ s8 σ8 H8 I8 S8) (fun _ s9 ⟨H9,G9,I9,e9,o9,D5,G4,qz,oK,eG,p9⟩=>?_) fun _ _ z=>z.elim);subst eG;refine wpAny_pure ⟨rfl,n,Nat.lt_succ_self _,i+1,D5,σ8,H9,G4,by lia,by lia,I9.unpinned (AD:=[]),T.keep _ _ _ jR fun b hb o e=>(I9.pin (b,o) (List.mem_append_right _ (List.mem_append_right _ (E7 hb e)))).1,fun b hb=>?_,e5.trans (e7.trans (e8.trans e9)),?_,oK,p9⟩
   ·obtain⟨o,e,d⟩:=T.obj _ _ jR b hb;exact(I9.pin (b,o) (List.mem_append_right _ (List.mem_append_right _ (E7 hb e)))).2.1
   ·obtain⟨z1,z2⟩:=hle _ _ mq;have S9:=S8.ext e9 o9;exact⟨fun j e h=>S9.env j e (z2 j e h),by rw[<-S9.len,z1],o9⟩
 subst hs3;exact codeAny_compStart_list (loop _ rfl) (T.self _ 0 _ _ _ Bp (loop _ rfl))
theorem DV{Xc:Cx}{ρ:Rho}{G:Gs}{D:Addr}{Aw:List Dat}{Q:Gs->Prop}(hx:Xc.xe=fun _ _=>False)(hG:G D=some (.lst Aw))(hz:Aw.length<sizeLine)(h:WE Xc ρ G elt fun v G'=>G' D=some (.lst Aw)/\Q (put G' D (.lst (Aw++[v])))):JW Xc ρ G (KR elt Xc.env (.ref D)) Q:=by
 intro AD s σ H I S;unfold KR;have h':=h AD s σ H I S;rw[hx]at h';refine wpAny_bind (thn h' fun u s1 ⟨x,H1,I1,r1,d,G1,e1,o1,q1,FY,z1⟩=>?_);obtain⟨vs,h1,r2⟩:=o1 D _ FY
 have:=MJ (X:=Xc) AD s1 σ H1 (.ref D) [x] (.ref D) [u] (fun _ H'=>∃G',Ext H G H' G'/\GOk Xc.K H' G'/\Q G') I1 rfl (.cons r1 .nil) ⟨D,vs,x,rfl,rfl,h1,by rw[r2.length];exact hz,by
  obtain⟨E,O⟩:=J1 o1 FY (r2.append (RepL.cons q1 RepL.nil));exact⟨_,e1.trans E,O,z1⟩⟩
 rw[hx]at this;refine wpAny_bind (thn this fun _ s2 ⟨_,H2,I2,_,G2,e2,o2,z2⟩=>wpAny_pure ⟨H2,G2,I2,e2,o2,z2⟩)
theorem RW{Xc:Cx}{ρ:Rho}{G:Gs}{D:Addr}{Q:Gs->Prop}(hx:Xc.xe=fun _ _=>False)(h:WT Xc ρ G c fun p G'=>(p=true->JW Xc ρ G' (KR elt Xc.env (.ref D)) Q)/\(p=false->Q G')):JW Xc ρ G (PR c elt Xc.env (.ref D)) Q:=by
 intro AD s σ H I S;unfold PR;have h':=h AD s σ H I S;rw[hx]at h';refine wpAny_bind (thn h' fun p s1 ⟨H1,I1,G1,e1,o1,q1⟩=>?_);cases p with
 |true=>
  rw[if_pos rfl];exact thn (q1.1 rfl AD s1 σ H1 I1 (S.ext e1 o1)) fun _ s2 ⟨H2,G2,I2,e2,o2,z2⟩=>⟨H2,G2,I2,e1.trans e2,o2,z2⟩
 |false=>
  rw[if_neg Bool.false_ne_true];exact wpAny_pure ⟨H1,G1,I1,e1,o1,q1.2 rfl⟩
theorem Me(Pv:Nat->List Dat->Gs->Prop){Q:Dat->Gs->Prop}(ht:Kt elt AM Ai ifs scope Ax tail)(Sc:CompSc X scope Nc caps)(Bm:X.calm=true)(hi:WI X ρ G AM Ai fun l' G'=>l'=l/\Pv 0 [] G')(hg:∀C s' H' fp,PGD (Aa X Nc scope C s' H' fp) AM f)(hle:∀d ρ',f d (A8 caps ρ)=some ρ'->ρ'.length=(A8 caps ρ).length/\∀(j:Nat) e,(A8 caps ρ)[j]?=some (some e)->ρ'[j]?=some (some e))(hz:l.length<=sizeLine)(CH:∀C s' H' fp D i d Aw G',l[i]?=some d->Pv i Aw G'->G' D=none->∃ρ',f d (A8 caps ρ)=some ρ' ∧
   JW (Aa X Nc scope C s' H' fp) ρ' (put G' D (.lst Aw)) (tail (Aa X Nc scope C s' H' fp).env (.ref D)) fun QC=>∃D5 G4,D5.length<=Aw.length+1/\G4 D=none/\QC=put G4 D (.lst D5)/\Pv (i+1) D5 G4)(hd:∀Aw G',Pv l.length Aw G'->Q (.lst Aw) G')(Pp:∀x,foldedSetIterable Ai X.env x=pure x:=by intro _;rfl):WE X ρ G (.ListComp elt [⟨AM,Ai,ifs,0⟩] scope Ax) Q:=by
 intro AD s σ H I S;rw[eval_ListComp];refine wpAny_comprehension_free (use:=none) rfl Pp (D6 fun x hx hf=>I.ok.has x.1 (Sc.free x hx hf)) Sc.kind Sc.names ?_;refine thn (hi AD s σ H I S) fun v s1 h1=>thn h1 fun df s2 h2=>?_;obtain⟨it,fp,tn,J,H2,e,I2,T,Ct,f2,l',G2,e2,o2,wk,q,p0⟩:=h2;subst e;subst q;refine Ik (RR:=fun Aw C=>compPost (model X.prog X.w) X.A X.xe none (EP X AD σ (Po X H G Q)) Aw C) Pv ht Sc Bm hg hle hz CH I2 (S.ext e2 o2) T Ct f2 wk p0 ?_;rintro D C s3 sf σc Hf Gf Aw k3 rfl ⟨H3,I3,f3,Ic⟩ ef of fG pf;obtain⟨m,hm,_⟩:=Ic.loc;refine⟨m,hm,fun h' hs=>⟨.ref D,Hf,KA I3 f3 Ic hs,rfl,.lst Aw,Gf,?_,?_,?_,hd Aw Gf pf⟩⟩;all_goals
  obtain⟨E,O,R⟩:=Jz (X:=X) of AH;rw[A5 fG]at E O R;first
  |exact e2.trans (ef.trans E)
  |exact O
  |exact R
end
abbrev SpD:=List Dat->Gs->(Dat->Gs->Prop)->Prop
def Af(K:PySem.W.Frag)(S:SpD):Sp:=fun vs H Q _=>∃ds G R,GOk K H G/\RepL K (hid H G) ds vs/\S ds G R/\∀v H' d G',Ext H G H' G'->GOk K H' G'->Rep K (hid H' G') d v->R d G'->Q v H'
def Fy(N:List Str)(ds:List Dat):Rho:=ds.map some++List.replicate (N.length-ds.length) none
theorem L1{X:Cx}{H:Hp}{N:List Str}{ds:List Dat}{vs:List V}{G:Gs}(o:GOk X.K H G)(r:RepL X.K (hid H G) ds vs):Stt X H (start N vs) (Fy N ds) G:=by
 refine⟨fun i d h=>?_,by unfold L2.start Fy;rw[List.length_append,List.length_append,List.length_map,List.length_map,r.length,List.length_replicate,List.length_replicate],o⟩;unfold Fy at h;by_cases hi:i<ds.length
 ·rw[List.getElem?_append_left (by rw[List.length_map];exact hi),List.getElem?_map]at h;cases q:ds[i]? with
  |none=>rw[q]at h;cases h
  |some d'=>
   rw[q]at h;cases h;obtain⟨v,hv,rv⟩:=r.get q;refine⟨v,?_,rv⟩;unfold L2.start;rw[List.getElem?_append_left (by rw[List.length_map,r.length];exact hi),List.getElem?_map,hv];rfl
 ·rw[List.getElem?_append_right (by rw[List.length_map];lia),List.length_map]at h;exfalso
  have:=List.mem_of_getElem? h
  rw[List.mem_replicate]at this;cases this.2
section
variable {P:Program}{w:World}{K:PySem.W.Frag}{mg:Str->Option Value}{base:Heap}
theorem jv{x qual:Str}{st:Stmt}{f:Addr}{fd:FuncData}{N ps:List Str}{k:Nat}{S:SpD}(F:Fun K x qual st f fd)(Sc:FnScope N ps (AF st))(Au:∀ds G R,S ds G R->ds.length=ps.length)(hb:∀(A1:Value)(A:Around)(outer:List Env)(s:Shared)(H:Hp)(E:XK)(ds:List Dat)(G:Gs)(R:Dat->Gs->Prop),Room k (A.deeper (envOfC qual (AF st) s.heap.objs.size f A1))->S ds G R →
   WSs (Io CX0 P w K mg base N qual (AF st) f A1 A outer s H E).nox (Fy N ds) G (Bi st) { nx:=fun _ G'=>R .non G',rt:=R }):FnOk P w K mg base CX0 (k+1) f fd ps (Af K S):=by
 refine F.ok Sc (fun vs H Q E h=>?_) (fun A1 A outer s H vs Q E hr h=>?_)
 ·obtain⟨ds,G,R,_,r,hS,_⟩:=h;rw[r.length];exact Au ds G R hS
 ·obtain⟨ds,G,R,o,r,hS,k⟩:=h;refine⟨d9 _ (Bi st),b8,Fy N ds,G,_,hb A1 A outer s H E ds G R hr hS,L1 o r,?_,?_,?_,?_⟩
  ·rintro σ' H' ⟨ρ',G',e',S',q⟩;exact k .non H' .non G' e' S'.own rfl q
  ·rintro v H' ⟨d,G',e',o',r',q⟩;exact k v H' d G' e' o' r' q
  ·rintro σ' H' ⟨_,_,_,_,q⟩;exact q
  ·rintro σ' H' ⟨_,_,_,_,q⟩;exact q
end
section
variable {X:Cx}{ρ:Rho}{G:Gs}{e:Expr}{es:List Expr}{ds:List Dat}{pos p:Pos}{S:SpD}{k:Nat}{f:Addr}{fd:FuncData}{ps:List Str}{x:Str}{Q:Dat->Gs->Prop}
theorem Y0(F:FnOk X.prog X.w X.K X.mg X.base CX0 k f fd ps (Af X.K S))(hr:Room k X.A)(hm:X.mg x=some (.ref f))(hk:PySem.W.keepIn X.K (.ref f)=true)(hb:Binds X.K fd ps [])(ha:PXs X ρ G (e::es) ds)(hS:S ds G Q)(hg:Gl X x:=by rfl)(LM:(x==("__debug__":Str))=false:=by decide)(he:starEach (e::es) X.env=(false,eval e X.env)::starEach es X.env:=by rfl)(hpl:(backTo pos (starEach es X.env)).any (·.1)=false:=by rfl):WE X ρ G (.Call (.Name x p) (e::es) [] pos) Q:=Ba (Sz F hr hg hm hk hb .nil U9 LK LM he hpl) fun σ H St=>⟨ρ,G,_,ha,St,fun vs H1 ⟨_,_,e1,o1,r1,q1,BV⟩=>by
  subst q1;subst BV;refine⟨_,_,Q,o1,by rw[List.append_nil];exact r1,hS,fun v H' d G' e' o' r' q'=>⟨d,G',e1.trans e',o',r',q'⟩⟩⟩
end
structure Df (P:Program) (w:World) (K:PySem.W.Frag) (mg:Str->Option Value) (base:Heap) (x:Str) (ps:List Str) (k:Nat) (S:SpD):Prop where
 ex:∃f fd,FnOk P w K mg base CX0 k f fd ps (Af K S)/\mg x=some (.ref f)/\PySem.W.keepIn K (.ref f)=true/\Binds K fd ps []
section
variable {X:Cx}{ρ:Rho}{G:Gs}{e:Expr}{es:List Expr}{ds:List Dat}{pos p:Pos}{S:SpD}{k:Nat}{ps:List Str}{x:Str}{Q:Dat->Gs->Prop}
theorem AW(F:Df X.prog X.w X.K X.mg X.base x ps k S)(hr:Room k X.A)(ha:PXs X ρ G (e::es) ds)(hS:S ds G Q)(hg:Gl X x:=by rfl)(LM:(x==("__debug__":Str))=false:=by decide)(he:starEach (e::es) X.env=(false,eval e X.env)::starEach es X.env:=by rfl)(hpl:(backTo pos (starEach es X.env)).any (·.1)=false:=by rfl):WE X ρ G (.Call (.Name x p) (e::es) [] pos) Q:=by obtain⟨f,fd,F,hm,hk,hb⟩:=F.ex;exact Y0 F hr hm hk hb ha hS hg LM he hpl
end
mutual
def Dat.same:Dat->Dat->Bool
 |.non,.non=>true
 |.bl a,.bl b=>a==b
 |.int a,.int b=>a==b
 |.str a,.str b=>a==b
 |.fn a,.fn b=>a==b
 |.scr a,.scr b=>a==b
 |.tup l,.tup m=>Dat.sameL l m
 |.lst l,.lst m=>Dat.sameL l m
 |_,_=>false
def Dat.sameL:List Dat->List Dat->Bool
 |[],[]=>true
 |x::xs,y::ys=>Dat.same x y&&Dat.sameL xs ys
 |_,_=>false
end
mutual
theorem Dat.same_eq:∀{a b:Dat},Dat.same a b=true->a=b
 |.non,b,h=>by cases b<;>simp_all[Dat.same]
 |.bl _,b,h=>by cases b<;>simp_all[Dat.same]
 |.int _,b,h=>by cases b<;>simp_all[Dat.same]
 |.str _,b,h=>by cases b<;>simp_all[Dat.same]
 |.fn _,b,h=>by cases b<;>simp_all[Dat.same]
 |.scr _,b,h=>by cases b<;>simp_all[Dat.same]
 |.tup l,b,h=>by
  cases b<;>simp only[Dat.same,Bool.false_eq_true]at h;rw[Dat.sameL_eq h]
 |.lst l,b,h=>by
  cases b<;>simp only[Dat.same,Bool.false_eq_true]at h;rw[Dat.sameL_eq h]
theorem Dat.sameL_eq:∀{a b:List Dat},Dat.sameL a b=true->a=b
 |[],b,h=>by cases b<;>simp_all[Dat.sameL]
 |x::xs,b,h=>by
  cases b with
  |nil=>simp[Dat.sameL]at h
  |cons y ys=>
   simp only[Dat.sameL,Bool.and_eq_true]at h;rw[Dat.same_eq h.1,Dat.sameL_eq h.2]
end
mutual
theorem Dat.same_refl:∀(a:Dat),Dat.same a a=true
 |.non=>by simp[Dat.same]
 |.bl _=>by simp[Dat.same]
 |.int _=>by simp[Dat.same]
 |.str _=>by simp[Dat.same]
 |.fn _=>by simp[Dat.same]
 |.scr _=>by simp[Dat.same]
 |.tup l=>by simp only[Dat.same];exact Dat.sameL_refl l
 |.lst l=>by simp only[Dat.same];exact Dat.sameL_refl l
theorem Dat.sameL_refl:∀(a:List Dat),Dat.sameL a a=true
 |[]=>by simp[Dat.sameL]
 |x::xs=>by simp only[Dat.sameL,Bool.and_eq_true];exact⟨Dat.same_refl x,Dat.sameL_refl xs⟩
end
instance:DecidableEq Dat:=fun a b=>decidable_of_iff (Dat.same a b=true) ⟨Dat.same_eq,fun h=>h▸Dat.same_refl a⟩
theorem Dm:∀{n:Nat}{d:Dat},Br n d=true->AI n d=true:=by
 intro n
 induction n with
 |zero=>intro d h;cases d<;>simp_all[Br,AI,Al]
 |succ n ih=>
  intro d h;cases d<;>simp only[Br,Bool.false_eq_true]at h<;>first|rfl|skip
  simp only[AI,List.all_eq_true]at h ⊢;exact fun x hx=>ih (h x hx)
theorem YD:∀{n:Nat}{d e:Dat},Br n d=true->Br n e=true->eqD d e=decide (d=e):=by
 intro n
 induction n with
 |zero=>
  intro d e h h';cases d<;>simp only[Br,Bool.false_eq_true]at h<;>cases e<;>simp only[Br,Bool.false_eq_true]at h';rename_i a b;by_cases z:a=b<;>simp[eqD,z]
 |succ n ih=>
  have hl:∀(l m:List Dat),l.all (Br n)=true->m.all (Br n)=true->eqL l m=decide (l=m):=by
   intro l
   induction l with
   |nil=>intro m _ _;cases m<;>simp[eqL]
   |cons x l gU=>
    intro m h h';cases m with
    |nil=>simp[eqL]
    |cons y m=>
     simp only[List.all_cons,Bool.and_eq_true]at h h';rw[eqL,ih h.1 h'.1,gU m h.2 h'.2];by_cases z1:x=y<;>by_cases z2:l=m<;>simp[z1,z2]
  intro d e h h';cases d<;>simp only[Br,Bool.false_eq_true]at h<;>cases e<;>simp only[Br,Bool.false_eq_true]at h'
  ·rename_i a b;by_cases z:a=b<;>simp[eqD,z]
  ·simp[eqD]
  ·simp[eqD]
  ·rename_i l m;rw[eqD,hl l m h h'];by_cases z:l=m<;>simp[z]
mutual
def Hq:Dat->Nat
 |.tup l=>Fh l+1
 |_=>1
def Fh:List Dat->Nat
 |[]=>0
 |d::r=>Hq d+Fh r
end
theorem IZ:∀(a b:List Dat),Dy (a++b)=Dy a++Dy b
 |[],_=>by simp[Dy]
 |d::a,b=>by simp only[List.cons_append,Dy];rw[IZ a b]
theorem IS:∀(a b:List Dat),Fh (a++b)=Fh a+Fh b
 |[],_=>by simp[Fh]
 |d::a,b=>by simp only[List.cons_append,Fh];rw[IS a b];lia
section
variable {prog:Program}{w:World}
theorem ZK:∀(n:Nat){A:Around}{E:Value->Shared->Prop}{s:Shared}{d:Dat}{u:Value}{Q:Int->Shared->Prop},Br n d=true->AtH s.heap d u->A.units+n<cLine->Q (Jc d) { s with toks:=s.toks+Hq d } →
  wpAny (model prog w) A (pyHash u) Q E s:=by
 have Pt:∀{A:Around}{E:Value->Shared->Prop}{s:Shared}{i:Int}{u:Value}{Q:Int->Shared->Prop},AtH s.heap (.int i) u->Q (Jc (.int i)) { s with toks:=s.toks+Hq (.int i) }->wpAny (model prog w) A (pyHash u) Q E s:=by
  intro A E s i u Q r h;rw[AtH]at r;obtain⟨t,rfl⟩:=r;rw[Jc,Hq]at h
  ·exact wpAny_pyHash_int h
  ·intro l;exact nofun
 intro n
 induction n with
 |zero=>
  intro A E s d u Q hk r hu h;cases d<;>simp only[Br,Bool.false_eq_true]at hk;exact Pt r h
 |succ n ih=>
  intro A E s d u Q hk r hu h;cases d<;>simp only[Br,Bool.false_eq_true]at hk
  ·exact Pt r h
  rename_i l;rw[AtH]at r;obtain⟨a,AS,rfl,ht,hi⟩:=r;have hT:s.TypeIs (.ref a) "tuple":=let ⟨o,ho,hc,_⟩:=ht;⟨o,ho,hc⟩;obtain⟨o,ho,_,m,hd⟩:=ht;unfold pyHash;first|unfold pyHashByItsType|skip
  first|refine wpAny_bind (wpAny_cRoomFor_or (.inr (by lia)) ?_)|skip
  refine wpAny_bind (wpAny_specialOf hT F.slot_tuple_hash.lookup ?_);show wpAny _ _ (if (some (Value.builtin "tuple.__hash__")==some Value.none)=true then _ else _) Q E s;rw[if_neg (by rw[beq_builtin_none];exact Bool.false_ne_true)];refine wpAny_bind (wpAny_specialOf hT F.slot_tuple_hash.lookup ?_);show wpAny _ _ (callSpecialIfBoundUnlessNone? (.ref a) "__hash__" _ >>= _) Q E s;refine wpAny_bind (wpAny_callSpecialIfBoundUnlessNone?_slot hT F.slot_tuple_hash (wpAny_call_entry F.slot_tuple_hash hT F.entry_tuple_hash ?_ (F.args_tuple_hash_1 _)));show wpAny _ _ (Builtin.Tuple.tupleItemsOf (.ref a) >>= _) _ _ s;refine wpAny_bind (wpAny_tupleItemsOf ho hd ?_);refine wpAny_bind ?_;rw[<-Array.forIn_toList];refine wpAny_forIn_list _
   (fun rest (b:Array Int) s'=>∃done left,l=done++left/\AtL s.heap left rest/\b.toList=Dy done/\s'={ s with toks:=s.toks+Fh done })
   _ ?_ ?_ _ _ ⟨[],l,rfl,hi,rfl,rfl⟩
  ·rintro x rest b s' ⟨done,left,rfl,hl,hb,rfl⟩;cases left with
   |nil=>rw[AtL]at hl;cases hl
   |cons k kX=>
    rw[AtL]at hl;obtain⟨u,r,e,h1,TX⟩:=hl;cases e;have iJ:Br n k=true:=by
     have:=List.all_eq_true.mp hk k (by simp)
     exact this
    refine wpAny_bind (ih iJ h1 (by show A.units+1+n<cLine;lia) ?_);have fin:∃WY Zq,done++k::kX=WY++Zq/\AtL s.heap Zq rest/\(b.push (Jc k)).toList=Dy WY/\({ s with toks:=s.toks+Fh done+Hq k }:Shared)={ s with toks:=s.toks+Fh WY }:=
     ⟨done++[k],kX,by simp,TX,by simp[hb,IZ,Dy],by rw[IS];simp[Fh,Nat.add_assoc]⟩
    first
     |exact wpAny_pure fin
     |exact wpAny_bind (wpAny_pure (wpAny_pure fin))
  ·rintro b s' ⟨done,left,rfl,hl,hb,rfl⟩;cases left with
   |cons k kX=>rw[AtL]at hl;obtain⟨_,_,e,_⟩:=hl;cases e
   |nil=>
    rw[List.append_nil,Jc,Hq]at h;show wpAny _ _ (retInt (Builtin.Tuple.tupleHashOf b.toList)) _ _ _;rw[hb];refine wpAny_ret_mkInt ?_;show wpAny _ _ (if (decide (-(2:Int) ^ 63<=Builtin.Tuple.tupleHashOf (Dy done))&&decide (Builtin.Tuple.tupleHashOf (Dy done)<2 ^ 63))=true then _ else _) Q E _;unfold reduceHash at h;by_cases hr:(decide (-(2:Int) ^ 63<=Builtin.Tuple.tupleHashOf (Dy done))&&decide (Builtin.Tuple.tupleHashOf (Dy done)<2 ^ 63))=true
    ·rw[if_pos hr];rw[if_pos hr]at h;exact wpAny_pure (by simpa[Nat.add_assoc]using h)
    ·rw[if_neg hr];rw[if_neg hr]at h;exact wpAny_bind (wpAny_rule (wpAny_pure (by simpa[Nat.add_assoc]using h)))
theorem WW:∀(n m:Nat){A:Around}{E:Value->Shared->Prop}{s:Shared}{d:Dat}{u:Value}{Q:Bool->Shared->Prop},n<=m->Br n d=true->AtH s.heap d u->Q true s->wpAny (model prog w) A (eqIsQuiet m u) Q E s:=by
 have Pt:∀{m:Nat}{A:Around}{E:Value->Shared->Prop}{s:Shared}{i:Int}{u:Value}{Q:Bool->Shared->Prop},AtH s.heap (.int i) u->Q true s->wpAny (model prog w) A (eqIsQuiet m u) Q E s:=by
  intro m A E s i u Q r h;rw[AtH]at r;obtain⟨t,rfl⟩:=r;rw[eqIsQuiet_byValue m rfl];exact wpAny_pure h
 intro n
 induction n with
 |zero=>
  intro m A E s d u Q _ hk r h;cases d<;>simp only[Br,Bool.false_eq_true]at hk;exact Pt r h
 |succ n ih=>
  intro m A E s d u Q hm hk r h;cases d<;>simp only[Br,Bool.false_eq_true]at hk
  ·exact Pt r h
  rename_i l;obtain⟨m',rfl⟩:∃m',m=m'+1:=⟨m-1,by lia⟩;rw[AtH]at r;obtain⟨a,AS,rfl,ht,hi⟩:=r;have hT:s.TypeIs (.ref a) "tuple":=let ⟨o,ho,hc,_⟩:=ht;⟨o,ho,hc⟩;obtain⟨o,ho,_,q,hd⟩:=ht;unfold eqIsQuiet;refine wpAny_bind (wpAny_specialOf hT F.slot_tuple_eq.lookup ?_);show wpAny _ _ (isInstance (.ref a) (.type "tuple") >>= _) _ _ s;refine wpAny_bind (wpAny_isInstance hT isSubtype_tuple_tuple ?_);simp only[Bool.not_true,Bool.false_eq_true,if_false];refine wpAny_bind (wpAny_seqItems ho hd ?_);refine wpAny_bind ?_;show wpAny _ _ (forIn AS.toArray _ _) _ _ s;rw[<-Array.forIn_toList];refine wpAny_forIn_list _ (fun rest r s'=>r.1=none/\s'=s/\∃left,AtL s.heap left rest/\left.all (Br n)=true) _ ?_ ?_ _ _ ⟨rfl,rfl,l,hi,hk⟩
  ·rintro v rest r s' ⟨hr,rfl,left,hl,XC⟩;cases left with
   |nil=>rw[AtL]at hl;cases hl
   |cons k ks=>
    rw[AtL]at hl;obtain⟨u,r',e,h1,TX⟩:=hl;cases e;simp only[List.all_cons,Bool.and_eq_true]at XC;refine wpAny_bind (ih m' (by lia) XC.1 h1 ?_);simp only[Bool.not_true,Bool.false_eq_true,if_false];exact wpAny_pure ⟨rfl,rfl,ks,TX,XC.2⟩
  ·rintro⟨r1,r2⟩ s' ⟨hr,rfl,_⟩;simp only at hr;subst hr;exact wpAny_pure h
def Zu(h:Heap)(k:Dat)(a:Addr):Prop:=Br 6 k=true/\AtH h k (.ref a)
mutual
theorem AtH.keeps{h h':Heap}{d:Addr}{o:Obj}{es ep}(ho:h.get? d=some o)(hd:o.data=.dict es ep)(hs:Heap.SameBut d h h'):∀{k:Dat}{u:Value},AtH h k u->AtH h' k u
 |.non,_,r=>by rw[AtH]at r ⊢;exact r
 |.bl _,_,r=>by rw[AtH]at r ⊢;exact r
 |.int _,_,r=>by rw[AtH]at r ⊢;exact r
 |.str _,_,r=>by rw[AtH]at r ⊢;exact r
 |.fn _,_,r=>by rw[AtH]at r ⊢;exact r
 |.scr _,_,r=>by rw[AtH]at r;exact r.elim
 |.tup l,_,r=>by
  rw[AtH]at r ⊢;obtain⟨a,AS,e,⟨o',h1,h2,n,h3⟩,h4⟩:=r;have Bk:a≠d:=by
   rintro rfl;rw[ho]at h1;cases h1;rw[hd]at h3;cases h3
  exact⟨a,AS,e,⟨o',(hs.2 a Bk).trans h1,h2,n,h3⟩,AtL.keeps ho hd hs h4⟩
 |.lst l,_,r=>by
  rw[AtH]at r ⊢;obtain⟨a,AS,e,⟨o',h1,h2,n,h3⟩,h4⟩:=r;have Bk:a≠d:=by
   rintro rfl;rw[ho]at h1;cases h1;rw[hd]at h3;cases h3
  exact⟨a,AS,e,⟨o',(hs.2 a Bk).trans h1,h2,n,h3⟩,AtL.keeps ho hd hs h4⟩
theorem AtL.keeps{h h':Heap}{d:Addr}{o:Obj}{es ep}(ho:h.get? d=some o)(hd:o.data=.dict es ep)(hs:Heap.SameBut d h h'):∀{k:List Dat}{u:List Value},AtL h k u->AtL h' k u
 |[],_,r=>by rw[AtL]at r ⊢;exact r
 |_::_,_,r=>by
  rw[AtL]at r ⊢;obtain⟨u,q,e,h1,h2⟩:=r;exact⟨u,q,e,AtH.keeps ho hd hs h1,AtL.keeps ho hd hs h2⟩
end
def Bj(prog:Program)(w:World):HeapKind prog w Dat where
 is:=Zu
 hash:=Jc
 draws:=Hq
 room:=fun A=>A.units+6<cLine
 inj:=fun hx hy=>AtH.inj 6 (Dm hx.1) (Dm hy.1) hx.2 hy.2
 keeps:=fun x ho hd hs=>⟨x.1,x.2.keeps ho hd hs⟩
 pyHash:=fun hu hk h=>ZK 6 hk.1 hk.2 hu h
 eqBool:=fun hu hx hy h=>(HR 6 (Dm hx.1) (Dm hy.1) hx.2 hy.2 hu).1 _ _ _ _ (by rw[YD hx.1 hy.1];exact h)
 quiet:=fun hk h=>WW 6 8 (by decide) hk.1 hk.2 h
end
def Ab(AV:List (Dat×Dat))(k:Dat):Option Dat:=(AV.find? fun x=>decide (x.1=k)).map (·.2)
def EX(AV:List (Dat×Dat))(k v:Dat):List (Dat×Dat):=if (Ab AV k).isSome then AV.map (fun x=>if x.1=k then(x.1,v)else x)else AV++[(k,v)]
theorem J7{AV:List (Dat×Dat)}{k v:Dat}(h:Ab AV k=none):EX AV k v=AV++[(k,v)]:=by simp[EX,h]
theorem DRep.length{K:PySem.W.Frag}{H:Hp}:∀{AV:List (Dat×Dat)}{xs:List (Dat×Addr×Value)},DRep K H AV xs->xs.length=AV.length
 |[],_,h=>by rw[DRep]at h;subst h;rfl
 |(k,d)::r,_,h=>by
  rw[DRep]at h;obtain⟨a,u,L3,rfl,_,_,_,h6⟩:=h;rw[List.length_cons,List.length_cons,DRep.length h6]
theorem DRep.keys{K:PySem.W.Frag}{H:Hp}:∀{AV:List (Dat×Dat)}{xs:List (Dat×Addr×Value)},DRep K H AV xs->∀x∈xs,Br 6 x.1=true/\Rep K H x.1 (.ref x.2.1)
 |[],_,h,x,hx=>by rw[DRep]at h;subst h;cases hx
 |(k,d)::r,_,h,x,hx=>by
  rw[DRep]at h;obtain⟨a,u,L3,rfl,h2,h3,_,h6⟩:=h;rcases List.mem_cons.mp hx with e|hx
  ·subst e;exact⟨h2,h3⟩
  ·exact DRep.keys h6 x hx
theorem DRep.look{K:PySem.W.Frag}{H:Hp}(k:Dat):∀{AV:List (Dat×Dat)}{xs:List (Dat×Addr×Value)},DRep K H AV xs->(Ab AV k).isSome=(atKey xs k).isSome/\∀d,Ab AV k=some d->∃p v,atKey xs k=some p/\RelV v p.2/\Rep K H d v
 |[],_,h=>by rw[DRep]at h;subst h;exact⟨rfl,fun d e=>by simp[Ab]at e⟩
 |(k',d')::r,_,h=>by
  rw[DRep]at h;obtain⟨a,u,L3,rfl,_,_,⟨v,h4,h5⟩,h6⟩:=h;by_cases e:k'=k
  ·subst e;refine⟨by simp[Ab,atKey],fun d hd=>⟨(a,u),v,by simp[atKey],h4,?_⟩⟩;simp[Ab]at hd;subst hd;exact h5
  ·have:=DRep.look k h6
   have e1:Ab ((k',d')::r) k=Ab r k:=by simp[Ab,e]
   have e2:atKey ((k',a,u)::L3) k=atKey L3 k:=by simp[atKey,e]
   rw[e1,e2];exact this
theorem DRep.put{K:PySem.W.Frag}{H:Hp}{k d:Dat}{a:Addr}{u:Value}{v:V}(hk:Br 6 k=true)(ra:Rep K H k (.ref a))(ru:RelV v u)(rd:Rep K H d v){AV:List (Dat×Dat)}{xs:List (Dat×Addr×Value)}(h:DRep K H AV xs) :
  DRep K H (EX AV k d) (storedH xs k a u):=by
 have look:=(DRep.look k h).1;have app:∀{AV:List (Dat×Dat)}{xs:List (Dat×Addr×Value)},DRep K H AV xs->DRep K H (AV++[(k,d)]) (xs++[(k,a,u)]):=by
  intro AV
  induction AV with
  |nil=>intro xs h;rw[DRep]at h;subst h;exact⟨a,u,[],rfl,hk,ra,⟨v,ru,rd⟩,rfl⟩
  |cons p r ih=>
   intro xs h;obtain⟨k',d'⟩:=p;rw[DRep]at h;obtain⟨a',u',L3,rfl,h2,h3,h4,h6⟩:=h;exact⟨a',u',_,rfl,h2,h3,h4,ih h6⟩
 have map:∀{AV:List (Dat×Dat)}{xs:List (Dat×Addr×Value)},DRep K H AV xs->DRep K H (AV.map fun x=>if x.1=k then(x.1,d)else x) (xs.map (putAt k u)):=by
  intro AV
  induction AV with
  |nil=>intro xs h;rw[DRep]at h;subst h;rfl
  |cons p r ih=>
   intro xs h;obtain⟨k',d'⟩:=p;rw[DRep]at h;obtain⟨a',u',L3,rfl,h2,h3,h4,h6⟩:=h;rw[List.map_cons,List.map_cons];by_cases e:k'=k
   ·simp only[e,if_true,putAt];subst e;exact⟨a',u,_,rfl,h2,h3,⟨v,ru,rd⟩,ih h6⟩
   ·simp only[e,if_false,putAt];exact⟨a',u',_,rfl,h2,h3,h4,ih h6⟩
 unfold EX storedH;rw[look];by_cases e:(atKey xs k).isSome=true
 ·rw[if_pos e,if_pos e];exact map h
 ·rw[if_neg e,if_neg e];exact app h
section
variable {X:Cx}{AD:List (Addr×Obj)}{σ:St}{H:Hp}{s:Shared}{p:Addr}{G:Gs}{AV:List (Dat×Dat)}{xs:List (Dat×Addr×Value)}
theorem Inv.big(I:Inv X AD σ H s):sysModules<s.heap.objs.size:=by have h:mainGlobals<s.heap.objs.size:=(I.mod.glob.keeps I.bk).lt;exact Nat.lt_trans (by decide) h
theorem JA(I:Inv X AD σ H s){k:Dat}{a:Addr}(hk:Br 6 k=true)(r:Rep X.K H k (.ref a)):Zu s.heap k a:=⟨hk,r.at I (Dm hk) rfl⟩
theorem Hj(I:Inv X AD σ H s)(h:H p=some (El p xs))(r:DRep X.K H AV xs):(p==sysModules)=false/\xs.length<=sizeLine/\s.heap.DictOfH (Bj X.prog X.w) p xs:=by obtain⟨⟨h1,h2,h3,o,es,ep,h4,h5,h6,h7⟩,_,_⟩:=(show ObjOk X.prog X.w H s.heap p (.ext (NW p xs))from I.hok p _ h);exact⟨h1,h2,o,es,ep,h4,h5,h6,h7,fun x hx=>JA I (r.keys x hx).1 (r.keys x hx).2,h3⟩
theorem K1{P:Program}{w:World}{H:Hp}{h:Heap}(d:NW p xs h):ObjOk P w H h p (El p xs):=by obtain⟨h1,h2,h3,o,es,ep,h4,h5⟩:=id d;exact⟨d,⟨o,h4⟩,fun k1 k2 ⟨g1,g2,g3,o',Jj,V4,g4,g5⟩ hk=>⟨g1,g2,g3,o',Jj,V4,hk _ g4,g5⟩⟩
theorem NR{L3:List (Dat×Addr×Value)}{BS:List (Dat×Dat)}(o:GOk X.K H G)(hG:G p=some (.dct AV))(r:DRep X.K (hid H G) BS L3):Ext H G (upd H p (El p L3)) (put G p (.dct BS))/\GOk X.K (upd H p (El p L3)) (put G p (.dct BS)):=by
 have E:Ext H G (upd H p (El p L3)) (put G p (.dct BS)):=⟨fun b u e h=>by
  have:b≠p:=by rintro rfl;rw[hG]at h;cases h
  rw[AZ this];exact e,fun b h=>by
  by_cases hb:b=p
  ·subst hb;left;rw[hG];exact nofun
  ·rw[Ad hb]at h;exact .inl h⟩
 refine⟨E,fun b u q=>?_⟩;by_cases hb:b=p
 ·subst hb;rw[AH]at q;cases q;exact⟨L3,A2,r.same E.hid⟩
 ·rw[Ad hb]at q;exact(o b u q).ext E.hid (AZ hb)
theorem LH(o:GOk X.K H G)(hp:H p=none):Ext H G (upd H p (El p [])) (put G p (.dct []))/\GOk X.K (upd H p (El p [])) (put G p (.dct [])):=by
 have E:Ext H G (upd H p (El p [])) (put G p (.dct [])):=⟨fun b u e _=>by rw[AZ (Ak e hp)];exact e,fun b h=>by
  by_cases hb:b=p
  ·subst hb;exact .inr hp
  ·rw[Ad hb]at h;exact .inl h⟩
 refine⟨E,fun b u q=>?_⟩;by_cases hb:b=p
 ·subst hb;rw[AH]at q;cases q;exact⟨[],A2,rfl⟩
 ·rw[Ad hb]at q;exact(o b u q).ext E.hid (AZ hb)
end
section
variable {X:Cx}{ρ:Rho}{G:Gs}{e a b c:Expr}{d k:Dat}{p:Addr}{AV:List (Dat×Dat)}{pos:Pos}
theorem Bw(hu:X.A.units+9<cLine)(ha:PX X ρ G a k)(hb:PX X ρ G b (.fn p))(hG:G p=some (.dct AV))(hk:Br 6 k=true)(hr:∃l,k=.tup l):PXC X ρ G .NotIn a b (.bl (!(Ab AV k).isSome)):=by
 intro AD s σ H I S;refine thn (ha AD s σ H I S) fun v s1 ⟨x,H1,I1,rx,_,_,e1,o1,r1,q1,BV⟩=>?_;subst q1;subst BV;refine thn (hb AD s1 σ H1 I1 (S.ext e1 o1)) fun u s2 ⟨y,H2,I2,ry,_,_,e2,o2,r2,q2,Fs⟩=>?_;subst q2;subst Fs;cases (show y=V.ref p from r2);cases ry;obtain⟨l,rfl⟩:=hr;have Ur:=(r1.same e2.hid).same AK;have hx:∃t,x=V.ref t:=by rw[Rep]at Ur;obtain⟨t,_,e,_⟩:=Ur;exact⟨t,e⟩
 obtain⟨t,rfl⟩:=hx;cases rx;obtain⟨xs,h3,r3⟩:=o2 p _ hG;obtain⟨z1,z2,dd⟩:=Hj I2 h3 (r3.same AK);refine wpAny_notIn_heap (knd:=Bj X.prog X.w) (show X.A.units+1+6<cLine by lia) (JA I2 hk Ur) z1 dd ⟨.bl _,H2,I2.tok _,rfl,.bl _,_,e1.trans e2,o2,?_,rfl,rfl⟩;rw[<-(DRep.look _ r3).1];rfl
end
section
variable {X:Cx}
def g7(K:PySem.W.Frag):R2:=fun x y H Q=>∃a b xs ys,x=.ref a/\y=.ref b/\SqT K H a xs/\SqT K H b ys/\xs.length+ys.length<=sizeLine ∧
 (xs=[]->Q (.ref b) H)/\(ys=[]->Q (.ref a) H)/\∀p,H p=none->Q (.ref p) (upd H p (.tup (xs++ys)))
theorem ZY:OpR X (binaryOp .Add) (g7 X.K):=by
 intro AD s σ H x y v u Q I rx ry h;obtain⟨a,b,xs,ys,rfl,rfl,ha,hb,hz,q0,q1,q2⟩:=h;by_cases hx:xs=[]
 ·cases rx;cases ry;obtain⟨AS,r1,p1,_⟩:=I.tuple ha;obtain⟨Jh,r2,p2,_⟩:=I.tuple hb;obtain⟨⟨cls,dd,data,sl⟩,ho,hc,n,hd⟩:=id p1;obtain⟨⟨b7,QG,data2,Nv⟩,Q4,Nu,n2,hd2⟩:=id p2;simp only at hc hd Nu hd2;subst hc hd Nu hd2;exact concat_meets ⟨_,ho,rfl⟩ ⟨_,Q4,rfl⟩ noFill_tuple_add seq_tuple_add PySem.F.slot_tuple_add PySem.F.entry_tuple_add (PySem.F.args_tuple_add_2 _ _)
   (tuple_addW0 a b AS.toArray Jh.toArray n n2 dd QG sl Nv (by rw[r1.nil_iff.mpr hx];rfl)) ⟨ho,Q4,.ref b,H,I,rfl,q0 hx⟩
 ·exact ZL AD s σ H (.ref a) (.ref b) v u Q I rx ry ⟨a,b,xs,ys,rfl,rfl,ha,hb,hx,hz,q1,fun _=>q2⟩
def jA(K:PySem.W.Frag):V->Option Int->Option Int->Hp->VK->Prop:=fun x lo hi H Q=>∃a xs,x=.ref a/\SqT K H a xs/\(Lh xs lo hi=xs->Q (.ref a) H)/\∀p,H p=none->Q (.ref p) (upd H p (.tup (Lh xs lo hi)))
theorem YV:SlR X (jA X.K):=by
 intro AD s σ H x v vl vu lo hi sl Q I rx hs pl pu h;obtain⟨a,xs,rfl,hx,q1,q2⟩:=h;by_cases hw:HT.sIx xs.length 0 lo=0/\HT.sIx xs.length xs.length hi=xs.length
 ·cases rx;obtain⟨AS,r,ht,hz⟩:=I.tuple hx;have Au:AS.toArray.size=xs.length:=by rw[List.size_toArray];exact r.length.symm
  have cut:Lh xs lo hi=xs:=by unfold Lh;rw[hw.1,hw.2];simp
  refine⟨"tuple",_,PyProof.Rows.slot_tuple_getitem.lookup,ht.typeIs,?_⟩;obtain⟨os,ar,iL,fL⟩:=id hs;have kD:s.TypeIs (.ref sl) "slice":=⟨os,ar,iL⟩;unfold getItem;try with_reducible refine wpAny_holding ?_
  first|refine wpAny_bind (wpAny_pure ?_)|skip
  refine wpAny_bind (wpAny_sequenceKey ht.typeIs (by decide) ?_);refine wpAny_bind (wpAny_callSpecial?_slot (name:=Str.ofString "__getitem__") ht.typeIs PyProof.Rows.slot_tuple_getitem
   (wpAny_call_entry PyProof.Rows.slot_tuple_getitem ht.typeIs entry_tuple_getitem ?_ (args_tuple_getitem _ _)))
  show wpAny _ _ (Builtin.Tuple.tupleItemsOf (.ref a) >>= _) _ _ s;refine wpAny_bind (tupleItemsOf_ ht ?_);refine wpAny_bind (wpAny_typeOf kD ?_);rw[if_pos (by decide)];refine wpAny_bind (HT.sliceApplied_gen hs pl pu ?_);have jO:(((HT.sIx AS.toArray.size 0 lo:Nat):Int)==0&&(1:Int)==1&&(HT.sIx AS.toArray.size AS.toArray.size hi-HT.sIx AS.toArray.size 0 lo)==AS.toArray.size)=true:=by
   rw[Au,hw.1,hw.2];simp
  show wpAny _ _ (if (((HT.sIx AS.toArray.size 0 lo:Nat):Int)==0&&(1:Int)==1&&(HT.sIx AS.toArray.size AS.toArray.size hi-HT.sIx AS.toArray.size 0 lo)==AS.toArray.size)=true then _ else _) _ _ s;rw[if_pos jO];refine wpAny_bind ?_;unfold Builtin.Tuple.tupleIsExact;refine wpAny_bind (wpAny_typeOf ht.typeIs (wpAny_pure ?_));rw[if_pos (by decide)];exact wpAny_bind (wpAny_rule (wpAny_pure ⟨_,rfl,wpAny_pure ⟨.ref a,H,I,rfl,q1 cut⟩⟩))
 ·exact cZ AD s σ H (.ref a) v vl vu lo hi sl Q I rx hs pl pu ⟨a,xs,rfl,hx,hw,q2⟩
end
theorem Dp(AV:List (Dat×Dat))(k v:Dat):(EX AV k v).length<=AV.length+1:=by
 unfold EX;split
 ·rw[List.length_map];lia
 ·rw[List.length_append,List.length_singleton];exact Nat.le_refl _
section
variable {X:Cx}{ρ:Rho}{G:Gs}{e a b c:Expr}{es:List Expr}{d d' d1 d2 k:Dat}{ds l m:List Dat}{pos:Pos}{i j:Int}{p:Addr}{AV:List (Dat×Dat)}{D:DE}{rest:List Stmt}
theorem Rq(ha:PX X ρ G a (.tup l))(hb:PX X ρ G b (.tup m))(hz:l.length+m.length<=sizeLine):PX X ρ G (.BinOp a .Add b pos) (.tup (l++m)):=LP ZY ha hb fun H x y Q o hx hy k=>by
  have eE:=hx;have US:=hy;rw[Rep]at hx hy;obtain⟨p,vs,e1,h1,r1⟩:=hx;obtain⟨q,us,e2,h2,r2⟩:=hy;refine⟨p,q,vs,us,e1,e2,Ar AK h1,Ar AK h2,by rw[r1.length,r2.length];exact hz,fun z=>?_,fun z=>?_,fun t ht=>k _ _ (Jw o ht (r1.append r2))⟩
  ·have hl:l=[]:=by have:=r1.length;rw[z]at this;cases l<;>simp_all
   subst hl;rw[<-e2];exact k _ _ (BR o (by rw[List.nil_append];exact US))
  ·have hm:m=[]:=by have:=r2.length;rw[z]at this;cases m<;>simp_all
   subst hm;rw[<-e1];exact k _ _ (BR o (by rw[List.append_nil];exact eE))
def PXo(X:Cx)(ρ:Rho)(G:Gs)(e:Option Expr)(o:Option Int):Prop:=match e,o with
 |none,none=>True
 |some e,some i=>PX X ρ G e (.int i)
 |_,_=>False
def QR(l:List Dat)(lo hi:Option Int):List Dat:=(l.drop (HT.sIx l.length 0 lo)).take (HT.sIx l.length l.length hi-HT.sIx l.length 0 lo)
def tWo(X:Cx)(e:Option Expr):TO:=fun σ H Q'=>∃ρ G o,PXo X ρ G e o/\Stt X H σ ρ G/\∀H',Ext H G H' G->GOk X.K H' G->Q' o H'
theorem aJ{e:Option Expr}:PO X e (tWo X e):=by
 intro AD s σ H Q I ⟨ρ,G,o,h,S,k⟩;cases e with
 |none=>
  cases o with
  |none=>exact ZE AD s σ H Q I (k H Ext.refl S.own)
  |some i=>exact h.elim
 |some e=>
  cases o with
  |none=>exact h.elim
  |some i=>
   refine X4 (Ap (X:=X) (e:=e)) AD s σ H Q I ⟨ρ,G,_,h,S,fun v H' ⟨d,G',e',o',r',q1,q2⟩=>?_⟩;subst q1;subst q2;exact⟨i,r',k H' e' o'⟩
theorem Sh{K:PySem.W.Frag}{H:Hp}{vs:List V}{lo hi:Option Int}(r:RepL K H l vs):RepL K H (QR l lo hi) (Lh vs lo hi):=by unfold QR Lh;rw[r.length];exact(r.drop _).take _
theorem Iy{lo hi:Option Expr}{p2:Pos}{ol oh:Option Int}(ha:PX X ρ G a (.tup l))(hl:PXo X ρ G lo ol)(hh:PXo X ρ G hi oh):PX X ρ G (.Subscript a (.Slice lo hi none p2) pos) (.tup (QR l ol oh)):=Ba (Vl YV Ap aJ aJ) fun σ H S=>⟨ρ,G,_,ha,S,fun x H1 ⟨_,_,e1,o1,r1,q1,BV⟩=>by
  subst q1;subst BV;refine⟨ρ,_,ol,hl,S.ext e1 o1,fun H2 e2 o2=>⟨ρ,_,oh,hh,S.ext (e1.trans e2) o2,fun H3 e3 o3=>?_⟩⟩;have r3:=r1.same (e2.trans e3).hid;have q6:=r3;rw[Rep]at r3;obtain⟨p,vs,e4,h4,r4⟩:=r3;refine⟨p,vs,e4,Ar AK h4,fun z=>?_,fun t ht=>Po.trans (e1.trans (e2.trans e3)) (Jw o3 ht (Sh r4))⟩;refine Po.trans (e1.trans (e2.trans e3)) (BR o3 ?_);rw[Rep];exact⟨p,vs,rfl,h4,by have:=Sh (lo:=ol) (hi:=oh) r4;rw[z]at this;exact this⟩⟩
theorem TV(hc:X.calm=true):CM X (.builtin "sum") (fun xs H Q=>∃(p:Addr)(ns:List Int),xs=[.ref p]/\SqL X.K H p (ns.map V.int)/\Q (.int ns.sum) H):=by
 intro AD s σ H xs us Q I r h;obtain⟨p,ns,rfl,hq,q⟩:=h;obtain⟨u,rfl,rx⟩:=G6 r;cases rx;obtain⟨AS,r',pl,hz⟩:=I.list hq;have hi:IntsAre AS ns:=HN r';obtain⟨xs,hx⟩:=hi.allInts.items;have hl:=pl.isList;rw[hx]at hl;refine PySem.sum_intListG (I.ok.hd hc) hl fun h' tk t' hk=>⟨.int ns.sum,H,I.kept hk,⟨t',?_⟩,q⟩;have e:ns=xs.toList.map (·.1):=by
  rw[<-hi.numsOf,<-nums_intItems,<-hx]
 rw[preSum_eq,List.take_of_length_le (by simp),<-e]
theorem Vy{ns:List Int}{pp:Pos}(hc:X.calm=true)(hm:X.mg "sum"=none)(ha:PX X ρ G a (.lst (ns.map .int)))(hg:Gl X "sum":=by rfl)(he:starEach [a] X.env=(false,eval a X.env)::starEach [] X.env:=by rfl):PX X ρ G (.Call (.Name "sum" pp) [a] [] pos) (.int ns.sum):=DI (TV hc) hg hm boot_sum ha (fun H x Q o r k=>by
  rw[Rep]at r;obtain⟨q,vs,e,h1,r1⟩:=r;exact⟨q,ns,by rw[e],by rw[<-r1.ints];exact SqL.of (AK _ _ h1),k _ _ (BR o rfl)⟩) (he:=he)
theorem XW{Q:List Dat->Gs->Prop}(h:Q [] G):WA X ρ G [] Q:=Sv Cz fun σ H S=>⟨[],G,Ext.refl,S.own,RepL.nil,h⟩
theorem Gg{Q:List Dat->Gs->Prop}(h:WE X ρ G e fun d G1=>WA X ρ G1 es fun ds G2=>Q (d::ds) G2)(hs:starEach (e::es) X.env=(false,eval e X.env)::starEach es X.env:=by rfl):WA X ρ G (e::es) Q:=Sv (BL Ap LK hs) fun σ H S=>⟨ρ,G,_,h,S,fun x H1 ⟨d,G1,e1,o1,r1,w1⟩=>⟨ρ,G1,_,w1,S.ext e1 o1,fun xs H2 ⟨ds,G2,e2,o2,r2,q2⟩=>⟨d::ds,G2,e1.trans e2,o2,RepL.cons (r1.same e2.hid) r2,q2⟩⟩⟩
theorem U0{S:SpD}{kk:Nat}{ps:List Str}{x:Str}{pp:Pos}{Q:Dat->Gs->Prop}(F:Df X.prog X.w X.K X.mg X.base x ps kk S)(hr:Room kk X.A)(ha:WA X ρ G (e::es) fun ds G'=>S ds G' Q)(hg:Gl X x:=by rfl)(LM:(x==("__debug__":Str))=false:=by decide)(he:starEach (e::es) X.env=(false,eval e X.env)::starEach es X.env:=by rfl)(hpl:(backTo pos (starEach es X.env)).any (·.1)=false:=by rfl):WE X ρ G (.Call (.Name x pp) (e::es) [] pos) Q:=by obtain⟨f,fd,F,hm,hk,hb⟩:=F.ex;exact Ba (Sz F hr hg hm hk hb .nil U9 LK LM he hpl) fun σ H St=>⟨ρ,G,_,ha,St,fun vs H1 ⟨ds,G1,e1,o1,r1,q1⟩=>⟨ds,G1,Q,o1,by rw[List.append_nil];exact r1,q1,fun v H' d G' e' o' r' q'=>⟨d,G',e1.trans e',o',r',q'⟩⟩⟩
theorem Rl{Q:Dat->Gs->Prop}(h:∀p,G p=none->Q (.fn p) (put G p (.dct []))):WE X ρ G (.Dict [] [] pos) Q:=fun AD s σ H I S=>by
 refine wpAny_Dict_empty ⟨.ref s.heap.objs.size,_,I.laid (a:=s.heap.objs.size) (o:=El s.heap.objs.size []) (t':=s.toks) (fun _ _ q=>Heap.get?_push_of_some _ q) (Nat.le_refl _) ?_,rfl,?_⟩
 ·refine K1 ⟨beq_eq_false_iff_ne.mpr (Ne.symm (Nat.ne_of_lt (Inv.big I))),Nat.zero_le _,List.nodup_nil,_,#[],0,Heap.get?_push_size _ rfl,⟨rfl,rfl,rfl⟩,rfl,rfl⟩
 ·have hp:H s.heap.objs.size=none:=I.hok.fresh (Nat.le_refl _);obtain⟨E,O⟩:=LH (X:=X) S.own hp;exact⟨.fn s.heap.objs.size,_,E,O,rfl,h _ (S.own.free hp)⟩
theorem IA(hu:X.A.units+9<cLine)(ha:PX X ρ G a (.fn p))(hb:PX X ρ G b k)(hG:G p=some (.dct AV))(hk:Br 6 k=true)(hr:∃l,k=.tup l)(hl:Ab AV k=some d)(hs:Gu b:=by intro _ _;rfl):PX X ρ G (.Subscript a b pos) d:=by
 intro AD s σ H I S;refine Subscript_ (thn (ha AD s σ H I S) fun u s1 ⟨x,H1,I1,rx,_,_,e1,o1,r1,q1,BV⟩=>?_);subst q1;subst BV;refine thn (hb AD s1 σ H1 I1 (S.ext e1 o1)) fun iv s2 ⟨y,H2,I2,ry,_,_,e2,o2,r2,q2,Fs⟩=>?_;subst q2;subst Fs;cases (show x=V.ref p from r1);cases rx;obtain⟨l,rfl⟩:=hr;have Y6:=r2.same AK;have hx:∃t,y=V.ref t:=by rw[Rep]at Y6;obtain⟨t,_,e,_⟩:=Y6;exact⟨t,e⟩
 obtain⟨t,rfl⟩:=hx;cases ry;obtain⟨xs,h3,r3⟩:=o2 p _ hG;obtain⟨z1,z2,dd⟩:=Hj I2 h3 (r3.same AK);obtain⟨q,v,hq,rv,rd⟩:=(DRep.look _ r3).2 d hl;refine tail_any (ops:=[.ref p,.ref t]) dd.typeIs PySem.F.slot_dict_getitem.lookup ?_ (hs _ _);exact wpAny_getItem_heap (knd:=Bj X.prog X.w) (show X.A.units+1+6<cLine by lia) (JA I2 hk Y6) dd hq ⟨v,H2,I2.tok _,rv,d,_,e1.trans e2,o2,rd,rfl,rfl⟩
theorem Eb{pos':Pos}(hu:X.A.units+9<cLine)(hv:PX X ρ G e d)(ha:PX X ρ G a (.fn p))(hb:PX X ρ G b k)(hG:G p=some (.dct AV))(hk:Br 6 k=true)(hr:∃l,k=.tup l)(hz:AV.length<sizeLine)(q:WSs X ρ (put G p (.dct (EX AV k d))) rest D)(hs:swapsWith e (some (.Subscript a b pos')) pos.line X.env=pure false:=by rfl):WSs X ρ G (.Assign [.Subscript a b pos'] e pos::rest) D:=BX fun AD s σ H I S=>by
 refine wpAny_Assign_Subscript (thn (hv AD s σ H I S) fun r s0 ⟨vv,H0,I0,qh,_,_,e0,o0,r0,q0,oY⟩=>?_) hs;subst q0;subst oY;refine thn (ha AD s0 σ H0 I0 (S.ext e0 o0)) fun u s1 ⟨x,H1,I1,rx,_,_,e1,o1,r1,q1,BV⟩=>?_;subst q1;subst BV;refine thn (hb AD s1 σ H1 I1 (S.ext (e0.trans e1) o1)) fun iv s2 ⟨y,H2,I2,ry,_,_,e2,o2,r2,q2,Fs⟩=>?_;subst q2;subst Fs;cases (show x=V.ref p from r1);cases rx;obtain⟨l,rfl⟩:=hr;have Y6:=r2.same AK;have hx:∃t,y=V.ref t:=by rw[Rep]at Y6;obtain⟨t,_,e,_⟩:=Y6;exact⟨t,e⟩
 obtain⟨t,rfl⟩:=hx;cases ry;obtain⟨xs,h3,r3⟩:=o2 p _ hG;obtain⟨z1,z2,dd⟩:=Hj I2 h3 (r3.same AK);have rn:=DRep.put hk r2 qh (r0.same (e1.trans e2).hid) r3;refine wpAny_setItem_heap (hsz:=z2) (knd:=Bj X.prog X.w) (show X.A.units+1+6<cLine by lia) (JA I2 hk Y6) dd fun h' kc Kh=>?_;obtain⟨E,O⟩:=NR (X:=X) o2 hG rn;obtain⟨o',Jj,V4,g1,g2,g3,g4,_,g5⟩:=kc;refine⟨σ,_,I2.write (x:=p) (e:=p) (t':=s2.toks+Hq (.tup l)) (by rw[h3];exact True.intro) (.inl rfl) (fun b o hb z=>(Kh.2 b hb).trans z) ⟨o',g1⟩ (K1 ⟨z1,?_,g5,o',Jj,V4,g1,g2,g3,g4⟩),ρ,_,(e0.trans (e1.trans e2)).trans E,S.ext ((e0.trans (e1.trans e2)).trans E) O,q⟩;exact Nat.le_trans (Nat.le_of_eq rn.length) (Nat.le_trans (Dp _ _ _) hz)
end
section
variable {X:Cx}{ρ:Rho}{G:Gs}{elt AM Ai:Expr}{ifs:List Expr}{scope:Scope}{Ax pos pos':Pos}{tail:Env->Value->Sem Unit}{Nc:List Str}{caps:List (Option Nat)}{l:List Dat}{f:Dat->Rho->Option Rho}{D:DE}{rest:List Stmt}
theorem Fq(n:Nat){x:Str}(Pv:Nat->List Dat->Gs->Prop)(hN:X.N.Nodup)(ht:Kt elt AM Ai ifs scope Ax tail)(Sc:CompSc X scope Nc caps)(Bm:X.calm=true)(hi:WI X ρ G AM Ai fun l' G'=>l'=l/\Pv 0 [] G')(hg:∀C s' H' fp,PGD (Aa X Nc scope C s' H' fp) AM f)(hle:∀d ρ',f d (A8 caps ρ)=some ρ'->ρ'.length=(A8 caps ρ).length/\∀(j:Nat) e,(A8 caps ρ)[j]?=some (some e)->ρ'[j]?=some (some e))(hz:l.length<=sizeLine)(CH:∀C s' H' fp D i d Aw G',l[i]?=some d->Pv i Aw G'->G' D=none->∃ρ',f d (A8 caps ρ)=some ρ' ∧
   JW (Aa X Nc scope C s' H' fp) ρ' (put G' D (.lst Aw)) (tail (Aa X Nc scope C s' H' fp).env (.ref D)) fun QC=>∃D5 G4,D5.length<=Aw.length+1/\G4 D=none/\QC=put G4 D (.lst D5)/\Pv (i+1) D5 G4)(hd:∀Aw G',Pv l.length Aw G'->WSs X (ρ.set n (some (.lst Aw))) G' rest D)(hn:X.N[n]?=some x:=by rfl)(hx:X.env.kindOf x=some .local:=by rfl)(gC:swapsWith (.ListComp elt [⟨AM,Ai,ifs,0⟩] scope Ax) (some (.Name x pos')) pos.line X.env=pure true:=by rfl)(Pp:∀x,foldedSetIterable Ai X.env x=pure x:=by intro _;rfl):WSs X ρ G (.Assign [.Name x pos'] (.ListComp elt [⟨AM,Ai,ifs,0⟩] scope Ax) pos::rest) D:=BX fun AD s σ H I S=>by
 rw[exec_Assign_Name_used _ _ _ _ gC];refine wpAny_bind (wpAny_standAt (wpAny_bind ?_));show wpAny _ X.A (do let _ <-comprehension (.ListComp elt [⟨AM,Ai,ifs,0⟩] scope Ax) scope X.env _ (newList []) false (eval Ai X.env) (some (assign (.Name x pos') X.env))) _ _ s;refine wpAny_bind (wpAny_mono (wpAny_comprehension_free (use:=some (assign (.Name x pos') X.env)) (Q:=fun _ s'=>SP X AD (lift X H G { D with nx:=fun ρ' G'=>WSs X ρ' G' rest D }) .next s') rfl Pp (D6 fun x hx hf=>I.ok.has x.1 (Sc.free x hx hf)) Sc.kind Sc.names
  (thn (hi AD s σ H I S) fun v s1 h1=>thn h1 fun df s2 h2=>?_)) (fun _ s' hq=>wpAny_pure (wpAny_pure hq)) fun _ _ e=>e)
 obtain⟨it,fp,tn,J,H2,e,I2,T,Ct,f2,l',G2,e2,o2,wk,q,p0⟩:=h2;subst e;subst q;refine Ik (RR:=fun Aw C=>compPost (model X.prog X.w) X.A X.xe (some (assign (.Name x pos') X.env)) (fun _ s'=>SP X AD (lift X H G { D with nx:=fun ρ' G'=>WSs X ρ' G' rest D }) .next s') Aw C) Pv ht Sc Bm hg hle hz CH I2 (S.ext e2 o2) T Ct f2 wk p0 ?_;rintro Dd C s3 sf σc Hf Gf Aw k3 rfl ⟨H3,I3,f3,Ic⟩ ef of fG pf;obtain⟨m,hm,_⟩:=Ic.loc;have SD:∀b∈fp,(b∈X.ex\/X.s₀.heap.objs.size<=b)/\b≠X.env.locals/\(∀x c,X.env.cells.lookup x=some c->c≠b)/\∀p∈X.pn++AD,p.1≠b:=fun b hb=>
  ⟨(f3 b hb).2.2.2.1,(f3 b hb).2.1,(f3 b hb).2.2.2.2.1,(f3 b hb).2.2.2.2.2⟩
 have I1:Inv X AD σ Hf sf:=I3.call' Ic.os Ic.base Ic.hok Ic.bare SD;have hC:Hf s3.heap.objs.size=none:=Ic.free;have Zm:∀x c,X.env.cells.lookup x=some c->c≠s3.heap.objs.size:=fun x c e z=>by
  obtain⟨v,o,ho,_⟩:=I3.cell x c e;rw[z]at ho;exact absurd (Heap.lt_size ho) (Nat.lt_irrefl _)
 obtain⟨E,O,R⟩:=Jz (X:=X) of AH;rw[A5 fG]at E O R;show wpAny (model X.prog X.w) X.A (assign (.Name x pos') X.env (.ref Dd)) _ _ sf;refine wpAny_assign_Name (MI I1 hN hn (.inl hx) (v:=.ref Dd) (show RelV (V.ref Dd) (Value.ref Dd)from rfl) (fun dh oB Kh=>?_) (.inr hx));obtain⟨a,sb,ha⟩:=Kh;have Bk:s3.heap.objs.size≠a:=by
  rcases ha with z|z
  ·rw[z];exact Nat.ne_of_gt I3.lt
  ·exact Ne.symm (Zm _ _ z)
 refine⟨m,Heap.Ns.sameBut (show sf.heap.Ns s3.heap.objs.size m from hm) sb Bk,fun h' hs=>?_⟩;have If:Inv X AD (σ.set n (some (.ref Dd))) Hf { dh with heap:=h' }:=by
  refine oB.turned (t':=dh.toks) (it:=s3.heap.objs.size) (fun b o hb e=>hs.extBut b o hb e) hC (Nat.ne_of_gt I3.lt) (.inr I3.sz) Zm fun p hp z=>?_
  have:=(I3.pin p hp).1
  rw[z]at this;exact absurd (Heap.lt_size this) (Nat.lt_irrefl _)
 exact⟨_,Hf,If,_,Gf,e2.trans (ef.trans E),(S.ext (e2.trans (ef.trans E)) O).set R,hd Aw Gf pf⟩
end
abbrev Sq:=Int×Int
def sq(p:Sq):Dat:=.tup [.int p.1,.int p.2]
def fl(l:List Sq):Dat:=.tup (l.map sq)
def AY(p:Sq×Sq):Dat:=.tup [sq p.1,sq p.2]
theorem Kc(p q:Sq):eqD (sq p) (sq q)=decide (p=q):=by obtain⟨a,b⟩:=p;obtain⟨c,d⟩:=q;simp only[sq,eqD,eqL,Bool.and_true];rw[Bool.eq_iff_iff];simp[Prod.ext_iff]
theorem A4(l:List Sq)(p:Sq):((l.map sq).any fun e=>eqD e (sq p))=l.contains p:=by
 rw[List.any_map];have:(fun e=>eqD e (sq p)) ∘ sq=fun q=>q==p:=by
  funext q;simp only[Function.comp,Kc];rw[Bool.eq_iff_iff];simp
 rw[this]
 induction l with
 |nil=>rfl
 |cons q l ih=>
  rw[List.any_cons,List.contains_cons,ih];congr 1;rw[Bool.eq_iff_iff,beq_iff_eq,beq_iff_eq];exact eq_comm
theorem Ah(p:Sq)(n:Nat):AI (n+1) (sq p)=true:=by simp only[sq,AI,List.all_cons,List.all_nil,Bool.and_true,Bool.and_eq_true];exact⟨JL rfl n,JL rfl n⟩
theorem DG(l:List Sq)(n:Nat):(l.map sq).all (AI (n+1))=true:=by rw[List.all_eq_true];intro d hd;obtain⟨p,_,rfl⟩:=List.mem_map.mp hd;exact Ah p n
theorem JI{p q:Sq}(h:sq p=sq q):p=q:=by obtain⟨a,b⟩:=p;obtain⟨c,d⟩:=q;simp only[sq,Dat.tup.injEq,List.cons.injEq,Dat.int.injEq,and_true]at h;rw[h.1,h.2]
theorem LL:∀{l m:List Sq},l.map sq=m.map sq->l=m
 |[],[],_=>rfl
 |[],_::_,h=>by simp at h
 |_::_,[],h=>by simp at h
 |p::l,q::m,h=>by
  simp only[List.map_cons,List.cons.injEq]at h;rw[JI h.1,LL h.2]
theorem Wd{l m:List Sq}(h:fl l=fl m):l=m:=by simp only[fl,Dat.tup.injEq]at h;exact LL h
theorem Dr{α β:Type}(f:α->β){l:List α}{i:Int}{x:α}(h:atI l i=some x):atI (l.map f) i=some (f x):=by
 unfold atI at h ⊢;rw[List.length_map];cases q:ixN l.length i with
 |none=>rw[q]at h;cases h
 |some j=>rw[q]at h;show(l.map f)[j]?=_;rw[List.getElem?_map,show l[j]?=some x from h];rfl
def CN(ns:List Int)(k:Nat):Int:=ns.getD k 0
section
variable {X:Cx}{ρ:Rho}{G:Gs}{e a b c:Expr}{es:List Expr}{d:Dat}{pos:Pos}{D:DE}{rest x y:List Stmt}{p:Bool}
theorem IW(M:Rho->Gs->Prop)(hc:PXT X ρ G c p)(ht:p=true->WSs X ρ G x { D with nx:=M })(hf:p=false->WSs X ρ G y { D with nx:=M })(hr:∀ρ' G',M ρ' G'->WSs X ρ' G' rest D):WSs X ρ G (.If c x y pos::rest) D:=BO hc (fun h=>(ht h).mono (fun ρ' G' q=>hr ρ' G' q) (fun _ _ q=>q) (fun _ _ q=>q) fun _ _ q=>q) (fun h=>(hf h).mono (fun ρ' G' q=>hr ρ' G' q) (fun _ _ q=>q) (fun _ _ q=>q) fun _ _ q=>q)
theorem SR(M:Gs->Prop)(hc:PXT X ρ G c p)(ht:p=true->WSs X ρ G x { D with nx:=fun ρ' G'=>ρ'=ρ/\M G' })(hf:p=false->WSs X ρ G y { D with nx:=fun ρ' G'=>ρ'=ρ/\M G' })(hr:∀G',M G'->WSs X ρ G' rest D):WSs X ρ G (.If c x y pos::rest) D:=IW (fun ρ' G'=>ρ'=ρ/\M G') hc ht hf fun ρ' G' ⟨h1,h2⟩=>by subst h1;exact hr G' h2
theorem CK{Q:Dat->Gs->Prop}(h:WE X ρ G e fun d G'=>∃q,Q d (rel G' q)):WE X ρ G e Q:=fun AD s σ H I S=>
 thn (h AD s σ H I S) fun _ _ z=>EP.mono z fun v H' ⟨d,G',e',o',r',q,hq⟩=>by
  have E:Ext H' G' H' (rel G' q):=⟨fun b u z _=>z,fun b hb=>by
   by_cases hq:b=q
   ·subst hq;rw[CG]at hb;exact absurd rfl hb
   ·rw[D3 hq]at hb;exact .inl hb⟩
  refine⟨d,rel G' q,e'.trans E,fun b u z=>?_,r'.same E.hid,hq⟩;by_cases hbq:b=q
  ·subst hbq;rw[CG]at z;cases z
  ·rw[D3 hbq]at z;exact(o' b u z).ext E.hid rfl
theorem BK{ρ:Rho}{i:Nat}(h:ρ[i]?=some none):∀d ρ',CP i d ρ=some ρ'->ρ'.length=ρ.length/\∀(j:Nat) e,ρ[j]?=some (some e)->ρ'[j]?=some (some e):=by
 intro d ρ' e;cases e;refine⟨List.length_set,fun j e' h'=>?_⟩;by_cases z:i=j
 ·subst z;rw[h]at h';cases h'
 ·rw[List.getElem?_set_ne z];exact h'
theorem Kl{ρ:Rho}{i j:Nat}(h:ρ[i]?=some none)(h':ρ[j]?=some none):∀d ρ',Fx i j d ρ=some ρ'->ρ'.length=ρ.length/\∀(k:Nat) e,ρ[k]?=some (some e)->ρ'[k]?=some (some e):=by
 intro d ρ' e;cases d<;>simp only[Fx,reduceCtorEq]at e;rename_i l
 match l,e with
 |[a,b],e=>
  simp only[Option.some.injEq]at e;subst e;refine⟨by rw[List.length_set,List.length_set],fun k e' hk=>?_⟩;by_cases z:j=k
  ·subst z;rw[h']at hk;cases hk
  ·rw[List.getElem?_set_ne z];by_cases z2:i=k
   ·subst z2;rw[h]at hk;cases hk
   ·rw[List.getElem?_set_ne z2];exact hk
 |[],e=>simp at e
 |[_],e=>simp at e
 |_::_::_::_,e=>simp at e
end
section
variable {X:Cx}{ρ:Rho}{G:Gs}{e a b c:Expr}{es:List Expr}{d d' d1 d2 d3 k:Dat}{ds l m:List Dat}{pos:Pos}{i j z:Int}{p:Addr}{AV:List (Dat×Dat)}{D:DE}{rest body:List Stmt}
theorem IB{f:Str}{id:String}{r:List V->Hp->VK->Prop}{pp:Pos}(hc:CM X (.builtin id) r)(hg:Gl X f)(hm:X.mg f=none)(hv:bootBuiltins f=some (.builtin id))(ha:PX X ρ G a d1)(hb:PX X ρ G b d2)(hr:∀(H:Hp)(x y:V)(Q:VK),GOk X.K H G->Rep X.K (hid H G) d1 x->Rep X.K (hid H G) d2 y->(∀v H',Po X H G (fun d' G'=>d'=d/\G'=G) v H'->Q v H')->r [x,y] H Q)(hn:f≠"__name__":=by decide)(LM:(f==("__debug__":Str))=false:=by decide)(he:starEach [a,b] X.env=(false,eval a X.env)::starEach [b] X.env:=by rfl)(he2:starEach [b] X.env=(false,eval b X.env)::starEach [] X.env:=by rfl)(hpl:(backTo pos (starEach [b] X.env)).any (·.1)=false:=by rfl):PX X ρ G (.Call (.Name f pp) [a,b] [] pos) d:=Ba (Ht hc hg hm hv (BL Ap (BL Ap Cz he2) he) hn LM he hpl) fun σ H S=>⟨ρ,G,_,ha,S,fun x H1 ⟨_,_,e1,o1,r1,q1,BV⟩=>by
  subst q1;subst BV;refine⟨ρ,_,_,hb,S.ext e1 o1,fun y H2 ⟨_,_,e2,o2,r2,q2,Fs⟩=>?_⟩;subst q2;subst Fs;exact hr H2 x y _ o2 (r1.same e2.hid) r2 fun v H' z=>Po.trans (e1.trans e2) z⟩
theorem Zc{pp:Pos}(hc:X.calm=true)(hm:X.mg "max"=none)(ha:PX X ρ G a (.int i))(hb:PX X ρ G b (.int j))(hg:Gl X "max":=by rfl)(he:starEach [a,b] X.env=(false,eval a X.env)::starEach [b] X.env:=by rfl)(he2:starEach [b] X.env=(false,eval b X.env)::starEach [] X.env:=by rfl)(hpl:(backTo pos (starEach [b] X.env)).any (·.1)=false:=by rfl):PX X ρ G (.Call (.Name "max" pp) [a,b] [] pos) (.int (max i j)):=IB (T8 hc) hg hm (by decide +kernel) ha hb (fun H x y Q o rx ry k=>by
  rw[Rep]at rx ry;subst rx;subst ry;refine⟨i,j,rfl,k _ _ (BR o ?_)⟩;rw[Rep];congr 1;split<;>lia) (he:=he) (he2:=he2) (hpl:=hpl)
theorem Xw{pp:Pos}(hc:X.calm=true)(hm:X.mg "min"=none)(ha:PX X ρ G a (.int i))(hb:PX X ρ G b (.int j))(hg:Gl X "min":=by rfl)(he:starEach [a,b] X.env=(false,eval a X.env)::starEach [b] X.env:=by rfl)(he2:starEach [b] X.env=(false,eval b X.env)::starEach [] X.env:=by rfl)(hpl:(backTo pos (starEach [b] X.env)).any (·.1)=false:=by rfl):PX X ρ G (.Call (.Name "min" pp) [a,b] [] pos) (.int (min i j)):=IB (T2 hc) hg hm (by decide +kernel) ha hb (fun H x y Q o rx ry k=>by
  rw[Rep]at rx ry;subst rx;subst ry;refine⟨i,j,rfl,k _ _ (BR o ?_)⟩;rw[Rep];congr 1;split<;>lia) (he:=he) (he2:=he2) (hpl:=hpl)
theorem T5(hc:X.calm=true):CM X (.builtin "min") (fun xs H Q=>∃(p:Addr)(ns:List Int),xs=[.ref p]/\SqL X.K H p (ns.map V.int)/\ns≠[]/\∀M,M∈ns->(∀a∈ns,M<=a)->Q (.int M) H):=by
 intro AD s σ H xs us Q I r h;obtain⟨p,ns,rfl,hq,Bk,q⟩:=h;obtain⟨u,rfl,rx⟩:=G6 r;cases rx;obtain⟨AS,r',pl,hz⟩:=I.list hq;have hi:IntsAre AS ns:=HN r';obtain⟨xs,hx⟩:=hi.allInts.items;have QD:ns=xs.toList.map (·.1):=by rw[<-hi.numsOf,<-nums_intItems,<-hx]
 have hsz:0<xs.size:=by
  have h3:0<ns.length:=List.length_pos_iff.mpr Bk;rw[QD,List.length_map,Array.length_toList]at h3;exact h3
 have hl:=pl.isList;rw[hx]at hl;refine min_intList (I.ok.hd hc) hl hsz fun v h' tk hv hk=>?_;obtain⟨t,rfl⟩:=intItems_at hv;obtain⟨h1,h2⟩:=argBest_lt (numAt xs) (xs.size-1);refine⟨.int _,H,I.kept hk,⟨t,rfl⟩,q _ ?_ fun a ha=>?_⟩
 ·rw[QD,numAt_eq];exact getD_mem (by rw[List.length_map,Array.length_toList];lia)
 ·rw[QD]at ha;obtain⟨j,hj,rfl⟩:=mem_getD ha;rw[List.length_map,Array.length_toList]at hj;rw[<-numAt_eq];exact h2 j (by lia)
theorem Ue(hc:X.calm=true):CM X (.builtin "max") (fun xs H Q=>∃(p:Addr)(ns:List Int),xs=[.ref p]/\SqL X.K H p (ns.map V.int)/\ns≠[]/\∀M,M∈ns->(∀a∈ns,a<=M)->Q (.int M) H):=by
 intro AD s σ H xs us Q I r h;obtain⟨p,ns,rfl,hq,Bk,q⟩:=h;obtain⟨u,rfl,rx⟩:=G6 r;cases rx;obtain⟨AS,r',pl,hz⟩:=I.list hq;have hi:IntsAre AS ns:=HN r';obtain⟨xs,hx⟩:=hi.allInts.items;have QD:ns=xs.toList.map (·.1):=by rw[<-hi.numsOf,<-nums_intItems,<-hx]
 have hsz:0<xs.size:=by
  have h3:0<ns.length:=List.length_pos_iff.mpr Bk;rw[QD,List.length_map,Array.length_toList]at h3;exact h3
 have hl:=pl.isList;rw[hx]at hl;refine max_intList (I.ok.hd hc) hl hsz fun v h' tk hv hk=>?_;obtain⟨t,rfl⟩:=intItems_at hv;obtain⟨h1,h2⟩:=argBest_gt (numAt xs) (xs.size-1);refine⟨.int _,H,I.kept hk,⟨t,rfl⟩,q _ ?_ fun a ha=>?_⟩
 ·rw[QD,numAt_eq];exact getD_mem (by rw[List.length_map,Array.length_toList];lia)
 ·rw[QD]at ha;obtain⟨j,hj,rfl⟩:=mem_getD ha;rw[List.length_map,Array.length_toList]at hj;rw[<-numAt_eq];exact h2 j (by lia)
theorem SO{ns:List Int}{M:Int}{pp:Pos}(hc:X.calm=true)(hm:X.mg "min"=none)(ha:PX X ρ G a (.lst (ns.map .int)))(h1:M∈ns)(h2:∀a∈ns,M<=a)(hg:Gl X "min":=by rfl)(he:starEach [a] X.env=(false,eval a X.env)::starEach [] X.env:=by rfl):PX X ρ G (.Call (.Name "min" pp) [a] [] pos) (.int M):=DI (T5 hc) hg hm (by decide +kernel) ha (fun H x Q o r k=>by
  rw[Rep]at r;obtain⟨q,vs,e,g1,r1⟩:=r;refine⟨q,ns,by rw[e],by rw[<-r1.ints];exact SqL.of (AK _ _ g1),List.ne_nil_of_mem h1,fun M' g2 g3=>?_⟩;obtain rfl:M'=M:=Int.le_antisymm (g3 _ h1) (h2 _ g2);exact k _ _ (BR o rfl)) (he:=he)
theorem R1{ns:List Int}{M:Int}{pp:Pos}(hc:X.calm=true)(hm:X.mg "max"=none)(ha:PX X ρ G a (.lst (ns.map .int)))(h1:M∈ns)(h2:∀a∈ns,a<=M)(hg:Gl X "max":=by rfl)(he:starEach [a] X.env=(false,eval a X.env)::starEach [] X.env:=by rfl):PX X ρ G (.Call (.Name "max" pp) [a] [] pos) (.int M):=DI (Ue hc) hg hm (by decide +kernel) ha (fun H x Q o r k=>by
  rw[Rep]at r;obtain⟨q,vs,e,g1,r1⟩:=r;refine⟨q,ns,by rw[e],by rw[<-r1.ints];exact SqL.of (AK _ _ g1),List.ne_nil_of_mem h1,fun M' g2 g3=>?_⟩;obtain rfl:M'=M:=Int.le_antisymm (h2 _ g2) (g3 _ h1);exact k _ _ (BR o rfl)) (he:=he)
def Uy(G:Gs)(d:Dat)(l:List Dat):Prop:=d=.tup l\/d=.lst l\/∃p,d=.fn p/\G p=some (.lst l)
theorem Uv{H:Hp}{K:PySem.W.Frag}{y:V}(h:Uy G d l)(o:GOk K H G)(r:Rep K (hid H G) d y):∃p vs,y=.ref p/\(H p=some (.lst vs)\/SqT K H p vs)/\RepL K H l vs:=by
 rcases h with rfl|rfl|⟨p,rfl,hG⟩
 ·exact in_of (.inl r)
 ·exact in_of (.inr r)
 ·obtain⟨vs,h3,r3⟩:=o p _ hG;exact⟨p,vs,r,.inl h3,r3.same AK⟩
theorem Hn(hu:X.A.units+9<cLine)(ha:PX X ρ G a d1)(hb:PX X ρ G b d2)(hl:Uy G d2 l)(p1:AI 8 d1=true)(p2:l.all (AI 8)=true):PXC X ρ G .In a b (.bl (l.any fun e=>eqD e d1)):=EI (Xf hu) ha hb fun H x y Q o hx hy k=>by
  obtain⟨p,vs,h1,h2,h3⟩:=Uv hl o hy;exact⟨p,vs,d1,l,h1,h2,h3,hx.same AK,p1,p2,k _ _ (BR o rfl)⟩
theorem A7(hu:X.A.units+9<cLine)(ha:PX X ρ G a d1)(hb:PX X ρ G b d2)(hl:Uy G d2 l)(p1:AI 8 d1=true)(p2:l.all (AI 8)=true):PXC X ρ G .NotIn a b (.bl (!(l.any fun e=>eqD e d1))):=EI (L9 hu) ha hb fun H x y Q o hx hy k=>by
  obtain⟨p,vs,h1,h2,h3⟩:=Uv hl o hy;exact⟨p,vs,d1,l,h1,h2,h3,hx.same AK,p1,p2,k _ _ (BR o rfl)⟩
theorem Om(ha:PX X ρ G a (.int i))(hb:PX X ρ G b (.int j))(hc:PX X ρ G c (.int z))(hm:lastMarks [.LtE,.LtE] [b,c]=false:=by with_unfolding_all rfl):PXT X ρ G (.Compare a [.LtE,.LtE] [b,c] pos) (decide (i<=j)&&decide (j<=z)):=Vi (Vw aG aG Ap Ap Ap hm) fun σ H S=>⟨ρ,G,_,ha,S,fun x H1 ⟨_,_,e1,o1,r1,q1,BV⟩=>by
  subst q1;subst BV;refine⟨ρ,_,_,hb,S.ext e1 o1,fun y H2 ⟨_,_,e2,o2,r2,q2,Fs⟩=>?_⟩;subst q2;subst Fs;refine⟨i,j,r1,r2,decide (i<=j),rfl,?_⟩;by_cases h:i<=j
  ·rw[decide_eq_true h,if_pos rfl];refine⟨ρ,_,_,hc,S.ext (e1.trans e2) o2,fun w' H3 ⟨_,_,e3,o3,r3,q3,j1⟩=>?_⟩;subst q3;subst j1;exact⟨j,z,r2,r3,decide (j<=z),rfl,_,(e1.trans e2).trans e3,o3,rfl,rfl⟩
  ·rw[decide_eq_false h,if_neg (by decide)];exact⟨false,rfl,_,e1.trans e2,o2,rfl,rfl⟩⟩
theorem RI{apos Ax:Pos}{Q:Dat->Gs->Prop}(hx:PX X ρ G a (.fn p))(hG:G p=some (.lst (l++[d])))(q:Q d (put G p (.lst l)))(GK:attributeBase a "pop" X.env (eval a X.env)=eval a X.env:=by rfl)(Di:(apos.endLine==Ax.line)=true:=by rfl):WE X ρ G (.Call (.Attribute a "pop" apos) [] [] Ax) Q:=Ba (WH PySem.F.plainAttrs_list PySem.F.slot_list_pop PySem.F.type_list_pop bI Ap GK Di) fun σ H S=>⟨ρ,G,_,hx,S,fun x H1 ⟨_,_,e1,o1,r1,q1,BV⟩=>by
  subst q1;subst BV;cases (show x=V.ref p from r1);obtain⟨vs,h1,r2⟩:=o1 p _ hG;have hl:=r2.length;rw[List.length_append,List.length_singleton]at hl;obtain⟨y,hy,ry⟩:=r2.get (i:=l.length) (d:=d) (by simp);refine⟨.inl ⟨rfl,vs,SqL.of h1⟩,p,vs,y,rfl,rfl,h1,by rw[hl];exact hy,?_⟩;have r3:=r2.take l.length;rw[List.take_left'  rfl,show vs.take l.length=vs.dropLast by rw[List.dropLast_eq_take,hl];rfl]at r3;obtain⟨E,O⟩:=J1 o1 hG r3;exact⟨d,_,e1.trans E,O,ry.same E.hid,q⟩⟩
theorem RF{q:Bool}(h:PX X ρ G e (.fn p))(hG:G p=some (.lst l))(hq:q=!l.isEmpty)(he:∀whole,isTrue e X.env whole=(do let v <-whole;standAt e.pos;holding [v] (truthy v)):=by intro _;rfl):PXT X ρ G e q:=Vi (PL Ap he) fun σ H S=>⟨ρ,G,_,h,S,fun x H1 ⟨_,_,e1,o1,r1,q1,BV⟩=>by
  subst q1;subst BV;cases (show x=V.ref p from r1);obtain⟨vs,h1,r2⟩:=o1 p _ hG;refine⟨q,.inl ⟨vs,SqL.of h1,?_⟩,_,e1,o1,rfl,rfl⟩
  have:=r2.length
  subst hq;cases l<;>cases vs<;>simp_all⟩
theorem Ov{tg:Expr}{f:Dat->Rho->Option Rho}(hg:PGD X tg f)(h:WE X ρ G e fun d G'=>∃ρ',f d ρ=some ρ'/\WSs X ρ' G' rest D)(hs:swapsWithSole [tg] e pos.line X.env=pure false:=by rfl)(hw:swappedStores [tg] e X.env=pure none:=by rfl)(h1:(assignEach [tg] X.env).map (·.2)=[assign tg X.env]:=by rfl):WSs X ρ G (.Assign [tg] e pos::rest) D:=BX fun AD s σ H I S=>by
 refine wpAny_Assign_stores (thn (h AD s σ H I S) fun v s1 ⟨x,H1,I1,r1,_,_,e1,o1,rx,ρ',hf,q⟩=>?_) hs hw;rw[h1];exact thn (hg AD s1 σ H1 x v ρ ρ' _ _ I1 r1 (S.ext e1 o1) rx hf) fun _ s2 ⟨σ2,H2,I2,e2,S2⟩=>⟨σ2,H2,I2,ρ',_,e1.trans e2,S2,q⟩
theorem V8(n:Nat){x:Str}{pos':Pos}(hN:X.N.Nodup)(hv:ρ[n]?=some (some (.int i)))(h:PX X ρ G e (.int j))(q:WSs X (ρ.set n (some (.int (i+j)))) G rest D)(hi:X.N[n]?=some x:=by rfl)(hx:Loc X.env.scope x:=by first|exact Or.inl rfl|exact Or.inr rfl)(hf:X.fn x=true\/X.env.scope.names.lookup x=some .local:=by first|exact .inl rfl|exact .inr rfl|assumption):WSs X ρ G (.AugAssign (.Name x pos') .Add e pos::rest) D:=BX (Pb (dO (i:=n) hN hi hx Ap bj hf) fun σ H S=>by
  obtain⟨v,h1,h2⟩:=S.env n _ hv;refine⟨v,h1,ρ,G,_,h,S,fun y H1 ⟨_,_,e1,o1,r1,q1,BV⟩=>?_⟩;subst q1;subst BV;exact⟨i,j,h2,r1,_,_,e1,Stt.set (d:=.int (i+j)) (v:=.int (i+j)) (S.ext e1 o1) rfl,q⟩)
def aa:Dat->Bool
 |.non=>true
 |_=>false
theorem X1{K:PySem.W.Frag}{H:Hp}{v:V}(r:Rep K H d v):decide (v=.non)=aa d:=by
 cases d<;>rw[Rep]at r<;>first
  |(subst r;rfl)
  |(obtain⟨_,rfl,_⟩:=r;rfl)
  |(obtain⟨_,_,rfl,_⟩:=r;rfl)
theorem PH{n pos'}(ha:PX X ρ G a d1):PXC X ρ G .IsNot a (.Constant .none n pos') (.bl (!aa d1)):=EI ZM ha Q3 fun H x y Q o hx hy k=>⟨hy,k _ _ (BR o (by rw[X1 hx];rfl))⟩
theorem P7:CM X (.builtin "len") (fun xs H Q=>∃p ys,xs=[.ref p]/\H p=some (El p ys)/\Q (.int ys.length) H):=by
 intro AD s σ H xs us Q I r h;obtain⟨p,ys,rfl,hp,q⟩:=h;obtain⟨u,rfl,rx⟩:=G6 r;cases rx;obtain⟨⟨h1,h2,h3,o,es,ep,h4,h5,h6,h7⟩,_,_⟩:=(show ObjOk X.prog X.w H s.heap p (.ext (NW p ys))from I.hok p _ hp);have hsz:es.size=ys.length:=by rw[<-Array.length_toList,h7,List.length_map]
 have hm:MeetsIn X.prog X.w (Builtin.«dict.__len__» ⟨[.ref p],[]⟩) (fun _ R s'=>s'.heap.get? p=some o/\R (.ok (.ret (.int ys.length s'.toks))) { s' with toks:=s'.toks+1 }):=
  .of_wp fun A R s' ⟨ho,h⟩=>by
   show wpAny _ _ (dictSize p >>= _) _ _ s';unfold dictSize;refine wpAny_bind (wpAny_bind (wpAny_dictEntries ho h6 (wpAny_pure ?_)));show wpAny _ _ (Builtin.Dict.pendingCount p >>= _) _ _ s';refine wpAny_bind (wpAny_pendingCount_other h1 ?_);refine wpAny_ret_mkInt ?_;rw[Nat.add_zero,hsz];exact h
 have ht:s.TypeIs (.ref p) "dict":=⟨o,h4,h5.1⟩;have hl:=KU;refine Calls.call_function_entry kind_len plain_len entry_len (args_len1 _) ?_;unfold Builtin.«len»;refine wpAny_bind (m:=oneArg "len" _) (wpAny_pure ?_);refine wpAny_bind (m:=callSpecial? (.ref p) (Str.ofString "__len__")) (wpAny_callSpecial?_slot (name:=Str.ofString "__len__") ht F.slot_dict_len
  (call_meetsIn F.slot_dict_len ht F.entry_dict_len (F.args_dict_len_1 _) hm ⟨h4,?_⟩))
 show wpAny _ _ _ _ _ { s with toks:=s.toks+1 };refine wpAny_bind (wpAny_holding (wpAny_pure ?_));refine wpAny_bind (wpAny_letGo ?_);show wpAny _ _ (if ((ys.length:Nat):Int)<0 then _ else _) _ _ _;rw[if_neg (by lia)];show wpAny _ _ (if ((ys.length:Nat):Int)≥2 ^ 63 then _ else _) _ _ _;rw[if_neg (by lia)];exact wpAny_bind (wpAny_mkInt (wpAny_pure ⟨_,rfl,.int ys.length,H,I.tok _,⟨_,rfl⟩,q⟩))
theorem Mx{pp:Pos}{Q:Dat->Gs->Prop}(hm:X.mg "len"=none)(ha:WE X ρ G a fun d G'=>∃p AV,d=.fn p/\G' p=some (.dct AV)/\Q (.int AV.length) G')(hg:Gl X "len":=by rfl)(he:starEach [a] X.env=(false,eval a X.env)::starEach [] X.env:=by rfl):WE X ρ G (.Call (.Name "len" pp) [a] [] pos) Q:=Ba (Ht P7 hg hm PySem.boot_len (BL Ap Cz he) (by decide) (by decide) he rfl) fun σ H S=>⟨ρ,G,_,ha,S,fun x H1 ⟨_,G1,e1,o1,r1,p,AV,q1,hG,q⟩=>by
  subst q1;cases (show x=V.ref p from r1);obtain⟨xs,h1,r2⟩:=o1 p _ hG;refine⟨p,xs,rfl,h1,.int AV.length,G1,e1,o1,?_,q⟩;rw[Rep,r2.length]⟩
theorem Ye{pp:Pos}(hm:X.mg "len"=none)(ha:PX X ρ G a (.fn p))(hG:G p=some (.dct AV))(hg:Gl X "len":=by rfl)(he:starEach [a] X.env=(false,eval a X.env)::starEach [] X.env:=by rfl):PX X ρ G (.Call (.Name "len" pp) [a] [] pos) (.int AV.length):=Mx hm (PX.we ha ⟨p,AV,rfl,hG,rfl,rfl⟩) hg he
structure DfA (P:Program) (w:World) (K:PySem.W.Frag) (mg:Str->Option Value) (base:Heap) (f:Addr) (ps:List Str) (k:Nat) (S:SpD):Prop where
 ex:∃fd,FnOk P w K mg base CX0 k f fd ps (Af K S)/\PySem.W.keepIn K (.ref f)=true/\Binds K fd ps []
theorem Va{S:SpD}{kk:Nat}{ps:List Str}{x:Str}{pp:Pos}{f:Addr}{Q:Dat->Gs->Prop}(hx:PX X ρ G (.Name x pp) (.fn f))(F:DfA X.prog X.w X.K X.mg X.base f ps kk S)(hr:Room kk X.A)(ha:PXs X ρ G (e::es) ds)(hS:S ds G Q)(he:starEach (e::es) X.env=(false,eval e X.env)::starEach es X.env:=by rfl)(hpl:(backTo pos (starEach es X.env)).any (·.1)=false:=by rfl):WE X ρ G (.Call (.Name x pp) (e::es) [] pos) Q:=by obtain⟨fd,F,hk,hb⟩:=F.ex;intro AD s σ H I S0;refine wpAny_Call_Name_kw (thn (hx AD s σ H I S0) fun v s1 ⟨y,H1,I1,r1,_,_,e1,o1,rx,q1,BV⟩=>?_);subst q1;subst BV;cases (show y=V.ref f from rx);cases r1;refine PySem.W.callWith_K (h₀:=X.base) I1.ok.mod.kin hk (thn (ha pos AD s1 σ H1 I1 (S0.ext e1 o1)) fun us s2 ⟨vs,H2,I2,r,_,_,e2,o2,r2,q2,Fs⟩=>⟨I2.kIn,?_⟩) he hpl;subst q2;subst Fs;exact Xi F hr hb .nil U9 I2 r ⟨_,_,Q,o2,by rw[List.append_nil];exact r2,hS,fun v H' d G' e' o' r' q'=>⟨d,G',(e1.trans e2).trans e',o',r',q'⟩⟩
theorem Zy{x:Str}{f:Addr}(hm:X.mg x=some (.ref f))(hg:Gl X x:=by rfl)(hd:(x==("__debug__":Str))=false:=by decide):PX X ρ G (.Name x pos) (.fn f):=Ba (TJ (v:=.ref f) hg hm rfl hd) fun σ H S=>BR S.own rfl
theorem SW{x:Str}{t:Tok}(hm:X.mg x=some (.int i t))(hg:Gl X x:=by rfl)(hd:(x==("__debug__":Str))=false:=by decide):PX X ρ G (.Name x pos) (.int i):=Ba (TJ (v:=.int i) hg hm ⟨t,rfl⟩ hd) fun σ H S=>BR S.own rfl
theorem XQ{Q:Dat->Gs->Prop}(hu:X.A.units+9<cLine)(ha:∀p,G p=none->PX X ρ (put G p (.dct [])) a k)(hb:∀p,G p=none->PX X ρ (put G p (.dct [])) b d)(hk:Br 6 k=true)(hr:∃l,k=.tup l)(h:∀p,G p=none->Q (.fn p) (put G p (.dct [(k,d)]))):WE X ρ G (.Dict [some a] [b] pos) Q:=fun AD s σ H I S=>by
 have hp:H s.heap.objs.size=none:=I.hok.fresh (Nat.le_refl _);have jk:=S.own.free hp;obtain⟨E0,O0⟩:=LH (X:=X) S.own hp;have I0:Inv X AD σ (upd H s.heap.objs.size (El s.heap.objs.size [])) { s with heap:=s.heap.push { cls:=.type "dict",data:=.dict #[] } }:=
  I.laid (a:=s.heap.objs.size) (o:=El s.heap.objs.size []) (t':=s.toks) (fun _ _ q=>Heap.get?_push_of_some _ q) (Nat.le_refl _)
   (K1 ⟨beq_eq_false_iff_ne.mpr (Ne.symm (Nat.ne_of_lt (Inv.big I))),Nat.zero_le _,List.nodup_nil,_,#[],0,Heap.get?_push_size _ rfl,⟨rfl,rfl,rfl⟩,rfl,rfl⟩)
 refine wpAny_Dict_any rfl rfl (by simp) (show 1<=15 by decide) ?_;show wpAny _ _ (evalPairs [(eval a X.env,do let x <-eval b X.env;standAt pos;pure x)]) _ _ _;refine evalPairs_cons (thn (ha _ jk AD _ σ _ I0 (S.ext E0 O0)) fun kv s1 ⟨x,H1,I1,rx,_,_,e1,o1,r1,q1,BV⟩=>?_);subst q1;subst BV;refine wpAny_bind (thn (hb _ jk AD s1 σ H1 I1 (S.ext (E0.trans e1) o1)) fun vv s2 ⟨y,H2,I2,ry,_,_,e2,o2,r2,q2,Fs⟩=>?_);subst q2;subst Fs;refine wpAny_bind (wpAny_standAt (wpAny_pure (evalPairs_nil ?_)));obtain⟨l,rfl⟩:=hr;have Ur:=(r1.same e2.hid).same AK;have hx:∃t,x=V.ref t:=by rw[Rep]at Ur;obtain⟨t,_,e,_⟩:=Ur;exact⟨t,e⟩
 obtain⟨t,rfl⟩:=hx;cases rx;obtain⟨xs,h3,r3⟩:=o2 s.heap.objs.size _ AH;obtain⟨z1,z2,dd⟩:=Hj I2 h3 (r3.same AK);have rn:=DRep.put hk (r1.same e2.hid) ry r2 r3;unfold storeAll;rw[List.forIn_cons];refine wpAny_bind (wpAny_bind (wpAny_dictSet_heap (hsz:=z2) (knd:=Bj X.prog X.w) (show X.A.units+6<cLine by lia) (JA I2 hk Ur) dd fun h' kc Kh=>wpAny_pure ?_));show wpAny _ _ (forIn [] PUnit.unit _) _ _ _;rw[List.forIn_nil];refine wpAny_pure ?_;obtain⟨E,O⟩:=NR (X:=X) o2 AH rn;obtain⟨o',Jj,V4,g1,g2,g3,g4,_,g5⟩:=kc;refine⟨.ref s.heap.objs.size,_,I2.write (x:=s.heap.objs.size) (e:=s.heap.objs.size) (t':=s2.toks+Hq (.tup l)) (by rw[h3];exact True.intro) (.inl rfl) (fun b o hb z=>(Kh.2 b hb).trans z) ⟨o',g1⟩ (K1 ⟨z1,?_,g5,o',Jj,V4,g1,g2,g3,g4⟩),rfl,?_⟩
 ·refine Nat.le_trans (Nat.le_of_eq rn.length) (Nat.le_trans (Dp _ _ _) ?_);exact(by decide:1<=sizeLine)
 ·rw[Ao]at E O;exact⟨.fn s.heap.objs.size,_,E0.trans (e1.trans (e2.trans E)),O,rfl,h _ jk⟩
end
def tyS:Dat->Option String
 |.non=>some "NoneType"
 |.bl _=>some "bool"
 |.int _=>some "int"
 |.str _=>some "str"
 |.fn _=>none
 |.scr _=>some "list"
 |.tup _=>some "tuple"
 |.lst _=>some "list"
def isS(t c:String):Bool:=t==c||(t=="bool"&&c=="int")
theorem cC{K:PySem.W.Frag}(t c:String)(ht:t∈["NoneType","bool","int","str","tuple","list"])(hc:c∈["bool","int","str","tuple","list"]):PySem.W.kitOne K (.type t) (.type c)=some (isS t c):=by simp only[List.mem_cons,List.not_mem_nil,or_false]at ht hc;rcases ht with rfl|rfl|rfl|rfl|rfl|rfl<;>rcases hc with rfl|rfl|rfl|rfl|rfl<;>rfl
section
variable {X:Cx}{ρ:Rho}{G:Gs}{e a b c:Expr}{d:Dat}{pos:Pos}
theorem dC{AD:List (Addr×Obj)}{σ:St}{H:Hp}{s:Shared}{A:Around}{E:Value->Shared->Prop}{Q:Value->Shared->Prop}{cl:Value}{q:Bool}{v:V}{u:Value}{t:String}(I:Inv X AD σ H s)(ru:RelV v u)(r:Rep X.K H d v)(ht:tyS d=some t)(ek:PySem.W.kitOne X.K (.type t) cl=some q)(h:∀tk,Q (.bool q) { s with toks:=tk }):wpAny (model X.prog X.w) A (call (.builtin "isinstance") [u,cl]) Q E s:=by
 cases d with
 |fn a=>cases ht
 |non=>cases ht;rw[Rep]at r;subst r;exact Gw I ru (.non) ek h
 |bl b=>cases ht;rw[Rep]at r;subst r;exact Gw I ru (.bl b) ek h
 |int b=>cases ht;rw[Rep]at r;subst r;exact Gw I ru (.int b) ek h
 |str b=>cases ht;rw[Rep]at r;subst r;exact Gw I ru (.str b) ek h
 |scr ns=>
  cases ht;rw[Rep]at r;obtain⟨a,rfl,hq⟩:=r;cases ru;obtain⟨AS,r',pl,hz⟩:=I.list hq;obtain⟨o,h1,h2,_⟩:=pl.isList;exact PySem.W.kia_one PySem.W.kitx_list I.kIn ⟨_,h1,h2⟩ ek (fun z=>nomatch z) h
 |tup l=>
  cases ht;rw[Rep]at r;obtain⟨a,vs,rfl,hq,_⟩:=r;cases ru;obtain⟨AS,r',pl,hz⟩:=I.tuple hq;obtain⟨o,h1,h2,_⟩:=pl;exact PySem.W.kia_one PySem.W.kitx_tuple I.kIn ⟨_,h1,h2⟩ ek (fun z=>nomatch z) h
 |lst l=>
  cases ht;rw[Rep]at r;obtain⟨a,vs,rfl,hq,_⟩:=r;cases ru;obtain⟨AS,r',pl,hz⟩:=I.list (SqL.of hq);obtain⟨o,h1,h2,_⟩:=pl.isList;exact PySem.W.kia_one PySem.W.kitx_list I.kIn ⟨_,h1,h2⟩ ek (fun z=>nomatch z) h
theorem Vk{d:Dat}{t:String}{T:String}(ht:tyS d=some t)(hT:T∈["bool","int","str","tuple","list"]):CM X (.builtin "isinstance") (fun xs H Q=>∃v,xs=[v,.ty T]/\Rep X.K H d v/\Q (.bl (isS t T)) H):=by intro AD s σ H xs us Q I r h;obtain⟨v,rfl,rd,q⟩:=h;obtain⟨u,w',rfl,ru,fT⟩:=LG r;cases (show w'=Value.type T from fT);refine dC I ru rd ht (cC t T ?_ hT) fun tk=>⟨.bl _,H,I.tok _,rfl,q⟩;cases d<;>simp only[tyS,Option.some.injEq,reduceCtorEq]at ht<;>subst ht<;>decide
theorem HP{t:String}{T:Str}{T':String}{pp p2:Pos}(hm:X.mg "isinstance"=none)(hT:X.mg T=none)(ha:PX X ρ G a d)(ht:tyS d=some t:=by rfl)(hb:bootBuiltins T=some (.type T'):=by decide +kernel)(nj:T'∈["bool","int","str","tuple","list"]:=by decide)(hg:Gl X "isinstance":=by rfl)(pq:Gl X T:=by rfl)(hn:T≠"__name__":=by decide)(LM:(T==("__debug__":Str))=false:=by decide)(he:starEach [a,.Name T p2] X.env=(false,eval a X.env)::starEach [.Name T p2] X.env:=by rfl):PX X ρ G (.Call (.Name "isinstance" pp) [a,.Name T p2] [] pos) (.bl (isS t T')):=Ba (Ht (Vk ht nj) hg hm (by decide +kernel) (BL Ap (BL (Zd (v:=.ty T') pq hT hb rfl hn LM) Cz) he) (by decide) (by decide) he rfl) fun σ H S=>⟨ρ,G,_,ha,S,fun x H1 ⟨_,_,e1,o1,r1,q1,BV⟩=>by
  subst q1;subst BV;exact⟨x,rfl,r1.same AK,Po.trans e1 (BR o1 rfl)⟩⟩
end
def Kn(G G':Gs):Prop:=∀q o,G q=some o->G' q=some o
theorem Wn{G:Gs}{p:Addr}{o:OD}(h:G p=none):Kn G (put G p o):=fun q u e=>by
 by_cases hq:q=p
 ·subst hq;rw[h]at e;cases e
 ·rw[Ad hq];exact e
section
variable {X:Cx}{ρ:Rho}{G:Gs}{elt AM Ai c:Expr}{ifs:List Expr}{scope:Scope}{Ax pos pos':Pos}{Nc:List Str}{caps:List (Option Nat)}{l:List Dat}{f:Dat->Rho->Option Rho}{D:DE}{rest:List Stmt}
theorem R0{tg it:Expr}{Pv:Nat->List Dat->Gs->Prop}(hi:WI X ρ G tg it fun l' G'=>l'=l/\G'=G)(h0:Pv 0 [] G):WI X ρ G tg it fun l' G'=>l'=l/\Pv 0 [] G':=fun AD s σ H I S=>
 thn (hi AD s σ H I S) fun v s1 h1=>thn h1 fun df s2 hh=>by
  obtain⟨it,fp,tn,J,H',e,I',T,st,fk,l',G',e',o',wk,q1,q2⟩:=hh;exact⟨it,fp,tn,J,H',e,I',T,st,fk,l',G',e',o',wk,q1,by rw[q2];exact h0⟩
theorem OS(g:Dat->Dat)(hz:l.length<=5000)(CH:∀C s' H' fp G' d,d∈l->Kn G G'->∃ρ',f d (A8 caps ρ)=some ρ'/\PX (Aa X Nc scope C s' H' fp) ρ' G' elt (g d)) :
  ∀C s' H' fp Dd i d Aw G',l[i]?=some d->(G'=G/\Aw=(l.take i).map g)->G' Dd=none->∃ρ',f d (A8 caps ρ)=some ρ' ∧
   JW (Aa X Nc scope C s' H' fp) ρ' (put G' Dd (.lst Aw)) (KR elt (Aa X Nc scope C s' H' fp).env (.ref Dd)) fun QC=>∃D5 G4,D5.length<=Aw.length+1/\G4 Dd=none/\QC=put G4 Dd (.lst D5)/\(G4=G/\D5=(l.take (i+1)).map g):=by
 rintro C s' H' fp Dd i d Aw G' hd ⟨rfl,rfl⟩ hD;obtain⟨ρ',h1,h2⟩:=CH C s' H' fp (put G' Dd (.lst ((l.take i).map g))) d (List.mem_of_getElem? hd) (Wn hD);refine⟨ρ',h1,DV rfl AH ?_ (PX.we h2 ⟨AH,_,G',?_,hD,Ao,rfl,?_⟩)⟩
 ·have:((l.take i).map g).length<=l.length:=by rw[List.length_map,List.length_take];lia
  exact Nat.lt_of_le_of_lt (Nat.le_trans this hz) (by decide)
 ·simp
 ·rw[List.take_add_one,hd];simp
theorem PQ(p:Dat->Bool)(g:Dat->Dat)(hz:l.length<=5000)(CH:∀C s' H' fp G' d,d∈l->Kn G G'->∃ρ',f d (A8 caps ρ)=some ρ'/\PXT (Aa X Nc scope C s' H' fp) ρ' G' c (p d)/\(p d=true->PX (Aa X Nc scope C s' H' fp) ρ' G' elt (g d))) :
  ∀C s' H' fp Dd i d Aw G',l[i]?=some d->(G'=G/\Aw=((l.take i).filter p).map g)->G' Dd=none->∃ρ',f d (A8 caps ρ)=some ρ' ∧
   JW (Aa X Nc scope C s' H' fp) ρ' (put G' Dd (.lst Aw)) (PR c elt (Aa X Nc scope C s' H' fp).env (.ref Dd)) fun QC=>∃D5 G4,D5.length<=Aw.length+1/\G4 Dd=none/\QC=put G4 Dd (.lst D5)/\(G4=G/\D5=((l.take (i+1)).filter p).map g):=by
 rintro C s' H' fp Dd i d Aw G' hd ⟨rfl,rfl⟩ hD;obtain⟨ρ',h1,h2,h3⟩:=CH C s' H' fp (put G' Dd (.lst (((l.take i).filter p).map g))) d (List.mem_of_getElem? hd) (Wn hD);have et:(l.take (i+1)).filter p=(l.take i).filter p++(if p d=true then[d]else[]):=by
  rw[List.take_add_one,hd,List.filter_append];simp only[Option.toList_some,List.filter_cons,List.filter_nil]
 refine⟨ρ',h1,RW rfl (CF h2 ⟨fun hp=>?_,fun hp=>?_⟩)⟩
 ·refine DV rfl AH ?_ (PX.we (h3 hp) ⟨AH,_,G',?_,hD,Ao,rfl,?_⟩)
  ·have:(((l.take i).filter p).map g).length<=l.length:=by
    rw[List.length_map];exact Nat.le_trans (List.length_filter_le _ _) (by rw[List.length_take];lia)
   exact Nat.lt_of_le_of_lt (Nat.le_trans this hz) (by decide)
  ·simp
  ·rw[et,if_pos hp];simp
 ·refine⟨_,G',?_,hD,rfl,rfl,?_⟩
  ·simp
  ·rw[et,if_neg (by rw[hp];decide)];simp
theorem ID(g:Dat->Dat)(Sc:CompSc X scope Nc caps)(Bm:X.calm=true)(hi:WI X ρ G AM Ai fun l' G'=>l'=l/\G'=G)(hg:∀C s' H' fp,PGD (Aa X Nc scope C s' H' fp) AM f)(hle:∀d ρ',f d (A8 caps ρ)=some ρ'->ρ'.length=(A8 caps ρ).length/\∀(j:Nat) e,(A8 caps ρ)[j]?=some (some e)->ρ'[j]?=some (some e))(hz:l.length<=5000)(CH:∀C s' H' fp G' d,d∈l->Kn G G'->∃ρ',f d (A8 caps ρ)=some ρ'/\PX (Aa X Nc scope C s' H' fp) ρ' G' elt (g d))(Pp:∀x,foldedSetIterable Ai X.env x=pure x:=by intro _;rfl) :
  PX X ρ G (.ListComp elt [⟨AM,Ai,[],0⟩] scope Ax) (.lst (l.map g)):=
 Me (Pv:=fun i Aw G'=>G'=G/\Aw=(l.take i).map g) (GN elt AM Ai scope Ax) Sc Bm (R0 (Pv:=fun i Aw G'=>G'=G/\Aw=(l.take i).map g) hi ⟨rfl,by simp⟩) hg hle (Nat.le_trans hz (by decide)) (OS g hz CH) (by
  rintro Aw G' ⟨rfl,rfl⟩;rw[List.take_length];exact⟨rfl,rfl⟩) Pp
theorem GY(p:Dat->Bool)(g:Dat->Dat)(Sc:CompSc X scope Nc caps)(Bm:X.calm=true)(hi:WI X ρ G AM Ai fun l' G'=>l'=l/\G'=G)(hg:∀C s' H' fp,PGD (Aa X Nc scope C s' H' fp) AM f)(hle:∀d ρ',f d (A8 caps ρ)=some ρ'->ρ'.length=(A8 caps ρ).length/\∀(j:Nat) e,(A8 caps ρ)[j]?=some (some e)->ρ'[j]?=some (some e))(hz:l.length<=5000)(CH:∀C s' H' fp G' d,d∈l->Kn G G'->∃ρ',f d (A8 caps ρ)=some ρ'/\PXT (Aa X Nc scope C s' H' fp) ρ' G' c (p d)/\(p d=true->PX (Aa X Nc scope C s' H' fp) ρ' G' elt (g d)))(Pp:∀x,foldedSetIterable Ai X.env x=pure x:=by intro _;rfl) :
  PX X ρ G (.ListComp elt [⟨AM,Ai,[c],0⟩] scope Ax) (.lst ((l.filter p).map g)):=
 Me (Pv:=fun i Aw G'=>G'=G/\Aw=((l.take i).filter p).map g) (OX elt AM Ai c scope Ax) Sc Bm (R0 (Pv:=fun i Aw G'=>G'=G/\Aw=((l.take i).filter p).map g) hi ⟨rfl,by simp⟩) hg hle (Nat.le_trans hz (by decide)) (PQ p g hz CH) (by
  rintro Aw G' ⟨rfl,rfl⟩;rw[List.take_length];exact⟨rfl,rfl⟩) Pp
theorem K6(n:Nat){x:Str}(g:Dat->Dat)(hN:X.N.Nodup)(Sc:CompSc X scope Nc caps)(Bm:X.calm=true)(hi:WI X ρ G AM Ai fun l' G'=>l'=l/\G'=G)(hg:∀C s' H' fp,PGD (Aa X Nc scope C s' H' fp) AM f)(hle:∀d ρ',f d (A8 caps ρ)=some ρ'->ρ'.length=(A8 caps ρ).length/\∀(j:Nat) e,(A8 caps ρ)[j]?=some (some e)->ρ'[j]?=some (some e))(hz:l.length<=5000)(CH:∀C s' H' fp G' d,d∈l->Kn G G'->∃ρ',f d (A8 caps ρ)=some ρ'/\PX (Aa X Nc scope C s' H' fp) ρ' G' elt (g d))(q:WSs X (ρ.set n (some (.lst (l.map g)))) G rest D)(hn:X.N[n]?=some x:=by rfl)(hx:X.env.kindOf x=some .local:=by rfl)(gC:swapsWith (.ListComp elt [⟨AM,Ai,[],0⟩] scope Ax) (some (.Name x pos')) pos.line X.env=pure true:=by rfl)(Pp:∀x,foldedSetIterable Ai X.env x=pure x:=by intro _;rfl):WSs X ρ G (.Assign [.Name x pos'] (.ListComp elt [⟨AM,Ai,[],0⟩] scope Ax) pos::rest) D:=Fq n (fun i Aw G'=>G'=G/\Aw=(l.take i).map g) hN (GN elt AM Ai scope Ax) Sc Bm (R0 (Pv:=fun i Aw G'=>G'=G/\Aw=(l.take i).map g) hi ⟨rfl,by simp⟩) hg hle (Nat.le_trans hz (by decide)) (OS g hz CH) (by
  rintro Aw G' ⟨rfl,rfl⟩;rw[List.take_length];exact q) hn hx gC Pp
theorem Wb(n:Nat){x:Str}(p:Dat->Bool)(g:Dat->Dat)(hN:X.N.Nodup)(Sc:CompSc X scope Nc caps)(Bm:X.calm=true)(hi:WI X ρ G AM Ai fun l' G'=>l'=l/\G'=G)(hg:∀C s' H' fp,PGD (Aa X Nc scope C s' H' fp) AM f)(hle:∀d ρ',f d (A8 caps ρ)=some ρ'->ρ'.length=(A8 caps ρ).length/\∀(j:Nat) e,(A8 caps ρ)[j]?=some (some e)->ρ'[j]?=some (some e))(hz:l.length<=5000)(CH:∀C s' H' fp G' d,d∈l->Kn G G'->∃ρ',f d (A8 caps ρ)=some ρ'/\PXT (Aa X Nc scope C s' H' fp) ρ' G' c (p d)/\(p d=true->PX (Aa X Nc scope C s' H' fp) ρ' G' elt (g d)))(q:WSs X (ρ.set n (some (.lst ((l.filter p).map g)))) G rest D)(hn:X.N[n]?=some x:=by rfl)(hx:X.env.kindOf x=some .local:=by rfl)(gC:swapsWith (.ListComp elt [⟨AM,Ai,[c],0⟩] scope Ax) (some (.Name x pos')) pos.line X.env=pure true:=by rfl)(Pp:∀x,foldedSetIterable Ai X.env x=pure x:=by intro _;rfl):WSs X ρ G (.Assign [.Name x pos'] (.ListComp elt [⟨AM,Ai,[c],0⟩] scope Ax) pos::rest) D:=Fq n (fun i Aw G'=>G'=G/\Aw=((l.take i).filter p).map g) hN (OX elt AM Ai c scope Ax) Sc Bm (R0 (Pv:=fun i Aw G'=>G'=G/\Aw=((l.take i).filter p).map g) hi ⟨rfl,by simp⟩) hg hle (Nat.le_trans hz (by decide)) (PQ p g hz CH) (by
  rintro Aw G' ⟨rfl,rfl⟩;rw[List.take_length];exact q) hn hx gC Pp
end
def AN(p q:Sq):Prop:=p.1<q.1\/(p.1=q.1/\p.2<q.2)
instance (p q:Sq):Decidable (AN p q):=by unfold AN;infer_instance
theorem AX(p:Sq):¬AN p p:=by unfold AN;lia
theorem BP{p q r:Sq}(h:AN p q)(h':AN q r):AN p r:=by unfold AN at *;lia
theorem Ve(p q:Sq):AN p q\/p=q\/AN q p:=by obtain⟨a,b⟩:=p;obtain⟨c,d⟩:=q;unfold AN;simp only[Prod.mk.injEq];lia
structure Good (F:List Sq):Prop where
 ne:F≠[]
 up:F.Pairwise AN
 inn:∀p∈F,0<=p.1/\p.1<=7/\0<=p.2/\p.2<=7
 len:F.length<=24
theorem Good.nodup{F:List Sq}(h:Good F):F.Nodup:=h.up.imp fun {a b} HI e=>by subst e;exact AX _ HI
def K2(r w d e:Nat):List Sq:=(List.range r).flatMap fun i=>(List.range w).map fun j=>(((d+i:Nat):Int),((e+j:Nat):Int))
theorem J4(r w d e:Nat):(K2 r w d e).length=r*w:=by
 unfold K2
 induction r with
 |zero=>simp
 |succ r ih=>rw[List.range_succ,List.flatMap_append,List.length_append,ih];simp[Nat.succ_mul]
theorem Oh{r w d e:Nat}{p:Sq}:p∈K2 r w d e↔∃i j:Nat,i<r/\j<w/\p=(((d+i:Nat):Int),((e+j:Nat):Int)):=by
 unfold K2;simp only[List.mem_flatMap,List.mem_map,List.mem_range];constructor
 ·rintro⟨i,hi,j,hj,rfl⟩;exact⟨i,j,hi,hj,rfl⟩
 ·rintro⟨i,j,hi,hj,rfl⟩;exact⟨i,hi,j,hj,rfl⟩
theorem Lm(i w d e:Nat):K2 (i+1) w d e=K2 i w d e++(List.range w).map fun j=>(((d+i:Nat):Int),((e+j:Nat):Int)):=by unfold K2;rw[List.range_succ,List.flatMap_append];simp
theorem X2(r w d e:Nat):(K2 r w d e).Pairwise AN:=by
 induction r with
 |zero=>exact List.Pairwise.nil
 |succ r ih=>
  rw[Lm,List.pairwise_append];refine⟨ih,?_,fun p hp q hq=>?_⟩
  ·rw[List.pairwise_map];refine List.Pairwise.imp (fun {a b} h=>?_) List.pairwise_lt_range;exact .inr ⟨rfl,by show((e+a:Nat):Int)<((e+b:Nat):Int);lia⟩
  ·obtain⟨i,j,hi,hj,rfl⟩:=Oh.mp hp;obtain⟨j',_,rfl⟩:=List.mem_map.mp hq;exact .inl (by show((d+i:Nat):Int)<((d+r:Nat):Int);lia)
theorem XS{r w d e:Nat}(h1:r*w<=24)(h2:d+r<=8)(h3:e+w<=8){F:List Sq}(hs:F.Sublist (K2 r w d e))(Bk:F≠[]):Good F:=by
 refine⟨Bk,(X2 r w d e).sublist hs,fun p hp=>?_,?_⟩
 ·obtain⟨i,j,hi,hj,rfl⟩:=Oh.mp (hs.subset hp);show 0<=((d+i:Nat):Int)/\((d+i:Nat):Int)<=7/\0<=((e+j:Nat):Int)/\((e+j:Nat):Int)<=7;lia
 ·exact Nat.le_trans hs.length_le (by rw[J4];exact h1)
def Mo(r w:Nat):Prop:=(1<=r/\r<=4/\1<=w/\w<=5)\/(r=2/\w=12)\/(r=3/\w=8)\/(r=8/\w=3)\/(r=6/\w=4)
theorem T3{r w:Nat}(h:Mo r w):r*min w 8<=24/\0<r*min w 8:=by
 rcases h with⟨h1,h2,h3,h4⟩|⟨rfl,rfl⟩|⟨rfl,rfl⟩|⟨rfl,rfl⟩|⟨rfl,rfl⟩
 ·have:min w 8=w:=by lia
  rw[this];exact⟨Nat.le_trans (Nat.mul_le_mul h2 h4) (by decide),Nat.mul_pos h1 h3⟩
 all_goals decide
def Uo(c p m:Int):Int:=c*48271%p%m
theorem C7(c p:Int)(m:Nat)(hm:0<m):∃r:Nat,r<m/\Uo c p (m:Int)=(r:Int):=by
 refine⟨(Uo c p m).toNat,?_,?_⟩
 ·have:=Int.emod_lt_of_pos (c*48271%p) (show(0:Int)<m by lia)
  have:=Int.emod_nonneg (c*48271%p) (show(m:Int)≠0 by lia)
  unfold Uo;lia
 ·have:=Int.emod_nonneg (c*48271%p) (show(m:Int)≠0 by lia)
  unfold Uo;lia
theorem K3(L:List Sq)(p:Dat->Bool):((L.map sq).filter p).map id=(L.filter fun q=>p (sq q)).map sq:=by rw[List.map_id,List.filter_map];rfl
theorem sz{n:Nat}(h:n<=5000):n<=sizeLine:=Nat.le_trans h (by decide)
theorem sz1{n:Nat}(h:n<=5000):n<sizeLine:=Nat.lt_of_le_of_lt h (by decide)
theorem CJ(i:Int)(n:Nat):(BI i n).length=n:=by simp[BI]
theorem Ci{lo:Int}{n i:Nat}{d:Dat}(h:(BI lo n)[i]?=some d):i<n/\d=.int (lo+(i:Nat)):=by
 have BC:i<n:=by
  have:=(List.getElem?_eq_some_iff.mp h).1
  simpa[BI]using this
 have:(BI lo n)[i]?=some (.int (lo+i)):=by simp[BI,BC]
 rw[this]at h;cases h;exact⟨BC,rfl⟩
theorem RA{lo:Int}{n:Nat}{d:Dat}(h:d∈BI lo n):∃i:Nat,i<n/\d=.int (lo+(i:Nat)):=by obtain⟨i,hi⟩:=List.mem_iff_getElem?.mp h;exact⟨i,Ci hi⟩
def NS:SpD:=fun ds G R=>∃(ns:List Int)(k:Nat),ds=[.scr ns,.int k]/\R (.int (CN ns k)) G
def Ww:SpD:=fun ds G R=>∃(c p m:Int),ds=[.int c,.int p,.int m]/\0<p/\0<m/\R (.int (Uo c p m)) G
def SQ:SpD:=fun ds G R=>∃(ns:List Int)(k:Nat),ds=[.scr ns,.int k]/\∀F,Good F->R (fl F) G
end TF
namespace TF
section
theorem BZ{α:Type}[DecidableEq α]:∀{l m:List α},l.Nodup->(∀x∈l,x∈m)->l.length<=m.length
 |[],_,_,_=>Nat.zero_le _
 |a::r,m,hn,hs=>by
  obtain⟨h1,h2⟩:=List.nodup_cons.mp hn;have ha:=hs a (List.mem_cons_self ..);have:r.length<=(m.erase a).length:=BZ h2 fun x hx=>by
   have Bk:x≠a:=by rintro rfl;exact h1 hx
   exact(List.mem_erase_of_ne Bk).mpr (hs x (List.mem_cons_of_mem _ hx))
  rw[List.length_erase_of_mem ha]at this;have hp:0<m.length:=List.length_pos_of_mem ha;rw[List.length_cons];lia
theorem MM{α:Type}[DecidableEq α]{l m:List α}(h1:l.Nodup)(h2:m.Nodup)(h:∀x,x∈l↔x∈m):l.length=m.length:=Nat.le_antisymm (BZ h1 fun x hx=>(h x).mp hx) (BZ h2 fun x hx=>(h x).mpr hx)
theorem UH{α:Type}[DecidableEq α]{l m:List α}(h1:l.Nodup)(hs:∀x∈l,x∈m)(hl:m.length<=l.length)(hm:m.Nodup):∀x∈m,x∈l:=by intro x hx;refine Classical.byContradiction fun hn=>?_;have:l.length<=(m.erase x).length:=BZ h1 fun y hy=>(List.mem_erase_of_ne (by rintro rfl;exact hn hy)).mpr (hs y hy);rw[List.length_erase_of_mem hx]at this;have hp:0<m.length:=List.length_pos_of_mem hx;lia
inductive Con (R:Sq->Sq->Prop) (g:Sq->Prop) (s:Sq):Sq->Prop
 |base:Con R g s s
 |step {x y:Sq}:Con R g s x->R x y->g y->Con R g s y
section
variable {R R':Sq->Sq->Prop}{g g':Sq->Prop}{s x y:Sq}
theorem Con.trans(h:Con R g s x)(h':Con R g x y):Con R g s y:=by
 induction h' with
 |base=>exact h
 |step _ r gy ih=>exact .step ih r gy
theorem Con.mono(hR:∀x y,R x y->R' x y)(hg:∀x,g x->g' x)(h:Con R g s x):Con R' g' s x:=by
 induction h with
 |base=>exact .base
 |step _ r gy ih=>exact .step ih (hR _ _ r) (hg _ gy)
theorem Con.in(h:Con R g s x)(hs:g s):g x:=by
 cases h with
 |base=>exact hs
 |step _ _ gy=>exact gy
theorem Con.symm(hR:∀x y,R x y->R y x)(hs:g s)(h:Con R g s x):Con R g x s:=by
 induction h with
 |base=>exact .base
 |@step x y hx r gy ih=>exact Con.trans (.step .base (hR _ _ r) (hx.in hs)) ih
end
structure RL (R:Sq->Sq->Prop) (g:Sq->Prop) (s:Sq) (L:List Sq):Prop where
 nd:L.Nodup
 iff:∀x,x∈L↔Con R g s x
open Classical in
def card(R:Sq->Sq->Prop)(g:Sq->Prop)(s:Sq):Nat:=if h:∃L,RL R g s L then(Classical.choose h).length else 0
theorem RL.card{R:Sq->Sq->Prop}{g:Sq->Prop}{s:Sq}{L:List Sq}(h:RL R g s L):card R g s=L.length:=by have hx:∃L,RL R g s L:=⟨L,h⟩;unfold TF.card;rw[dif_pos hx];have h':=Classical.choose_spec hx;exact MM h'.nd h.nd fun x=>(h'.iff x).trans (h.iff x).symm
theorem RL.all{R:Sq->Sq->Prop}{g:Sq->Prop}{s:Sq}{L B:List Sq}(h:RL R g s L)(hB:B.Nodup)(hg:∀x,x∈B↔g x)(hs:g s):L.length<=B.length/\(L.length=B.length↔∀x,g x->Con R g s x):=by have sub:∀x∈L,x∈B:=fun x hx=>(hg x).mpr (((h.iff x).mp hx).in hs);have le:=BZ h.nd sub;refine⟨le,fun e x hx=>(h.iff x).mp (UH h.nd sub (by lia) hB x ((hg x).mpr hx)),fun a=>?_⟩;exact Nat.le_antisymm le (BZ hB fun x hx=>(h.iff x).mpr (a x ((hg x).mp hx)))
def nbM(q:Sq):List Sq:=[(q.1-1,q.2),(q.1,q.2-1),(q.1,q.2+1),(q.1+1,q.2)]
def cnM(q:Sq):List Sq:=[(q.1-1,q.2-1),(q.1-1,q.2+1),(q.1+1,q.2-1),(q.1+1,q.2+1)]
def aaM(q:Sq):List Sq:=nbM q++cnM q
def n9(q:Sq):List Sq:=(List.range 9).map fun k=>(q.1+((k / 3:Nat):Int)-1,q.2+((k%3:Nat):Int)-1)
def Adj(p q:Sq):Prop:=p.1-1<=q.1/\q.1<=p.1+1/\p.2-1<=q.2/\q.2<=p.2+1
theorem VP(p q:Sq)(h:Adj p q):Adj q p:=by unfold Adj at *;lia
theorem V1{p q:Sq}:q∈aaM p↔Adj p q/\q≠p:=by obtain⟨a,b⟩:=p;obtain⟨c,d⟩:=q;simp only[aaM,nbM,cnM,List.cons_append,List.nil_append,List.mem_cons,List.not_mem_nil,or_false,Prod.mk.injEq,Adj,ne_eq];omega
theorem RJ{p q:Sq}:q∈n9 p↔Adj p q:=by
 unfold n9 Adj;rw[List.mem_map];constructor
 ·rintro⟨k,hk,rfl⟩
  have:=List.mem_range.mp hk
  dsimp only;omega
 ·intro h;refine⟨((q.1-p.1+1)*3+(q.2-p.2+1)).toNat,List.mem_range.mpr (by omega),Prod.ext ?_ ?_⟩<;>dsimp only<;>omega
theorem VL{g:Sq->Prop}{s x:Sq}:Con (fun p q=>q∈aaM p) g s x↔Con Adj g s x:=by
 constructor
 ·exact Con.mono (fun x y h=>(V1.mp h).1) fun _ h=>h
 ·intro h
  induction h with
  |base=>exact .base
  |@step x y _ r gy ih=>
   by_cases e:y=x
   ·subst e;exact ih
   ·exact .step ih (V1.mpr ⟨r,e⟩) gy
theorem aL{g:Sq->Prop}{s x:Sq}:Con (fun p q=>q∈n9 p) g s x↔Con Adj g s x:=⟨Con.mono (fun x y h=>RJ.mp h) fun _ h=>h,Con.mono (fun x y h=>RJ.mpr h) fun _ h=>h⟩
structure BB (F:List Sq) (r0 r1 c0 c1:Int):Prop where
 r0m:r0∈F.map (·.1)
 r0l:∀a∈F.map (·.1),r0<=a
 r1m:r1∈F.map (·.1)
 r1l:∀a∈F.map (·.1),a<=r1
 c0m:c0∈F.map (·.2)
 c0l:∀a∈F.map (·.2),c0<=a
 c1m:c1∈F.map (·.2)
 c1l:∀a∈F.map (·.2),a<=c1
theorem Wj:∀(l:List Int),l≠[]->∃m∈l,∀a∈l,m<=a
 |[a],_=>⟨a,by simp,by simp⟩
 |a::b::r,_=>by
  obtain⟨m,h1,h2⟩:=Wj (b::r) (by simp);by_cases h:a<=m
  ·exact⟨a,List.mem_cons_self ..,fun x hx=>by rcases List.mem_cons.mp hx with rfl|hx;exact Int.le_refl _;exact Int.le_trans h (h2 x hx)⟩
  ·exact⟨m,List.mem_cons_of_mem _ h1,fun x hx=>by rcases List.mem_cons.mp hx with rfl|hx;lia;exact h2 x hx⟩
theorem Vz:∀(l:List Int),l≠[]->∃m∈l,∀a∈l,a<=m
 |[a],_=>⟨a,by simp,by simp⟩
 |a::b::r,_=>by
  obtain⟨m,h1,h2⟩:=Vz (b::r) (by simp);by_cases h:m<=a
  ·exact⟨a,List.mem_cons_self ..,fun x hx=>by rcases List.mem_cons.mp hx with rfl|hx;exact Int.le_refl _;exact Int.le_trans (h2 x hx) h⟩
  ·exact⟨m,List.mem_cons_of_mem _ h1,fun x hx=>by rcases List.mem_cons.mp hx with rfl|hx;lia;exact h2 x hx⟩
theorem iZ{F:List Sq}(h:F≠[]):∃r0 r1 c0 c1,BB F r0 r1 c0 c1:=by obtain⟨r0,a1,a2⟩:=Wj (F.map (·.1)) (by simpa using h);obtain⟨r1,b1,b2⟩:=Vz (F.map (·.1)) (by simpa using h);obtain⟨c0,d1,d2⟩:=Wj (F.map (·.2)) (by simpa using h);obtain⟨c1,e1,e2⟩:=Vz (F.map (·.2)) (by simpa using h);exact⟨r0,r1,c0,c1,a1,a2,b1,b2,d1,d2,e1,e2⟩
theorem BB.in{F:List Sq}{r0 r1 c0 c1:Int}(b:BB F r0 r1 c0 c1){p:Sq}(h:p∈F):r0<=p.1/\p.1<=r1/\c0<=p.2/\p.2<=c1:=⟨b.r0l _ (List.mem_map_of_mem h),b.r1l _ (List.mem_map_of_mem h),b.c0l _ (List.mem_map_of_mem h),b.c1l _ (List.mem_map_of_mem h)⟩
def EA(a b:Int)(m n:Nat):List Sq:=(List.range m).flatMap fun i=>(List.range n).map fun j=>(a+(i:Nat),b+(j:Nat))
theorem Cn{a b:Int}{m n:Nat}{p:Sq}:p∈EA a b m n↔a<=p.1/\p.1<a+m/\b<=p.2/\p.2<b+n:=by
 unfold EA;simp only[List.mem_flatMap,List.mem_map,List.mem_range];constructor
 ·rintro⟨i,hi,j,hj,rfl⟩;show a<=a+(i:Int)/\a+(i:Int)<a+m/\b<=b+(j:Int)/\b+(j:Int)<b+n;lia
 ·rintro⟨h1,h2,h3,h4⟩;refine⟨(p.1-a).toNat,by lia,(p.2-b).toNat,by lia,?_⟩;obtain⟨x,y⟩:=p;simp only[Prod.mk.injEq]at *;lia
theorem J8(a b:Int)(m n:Nat):EA a b (m+1) n=EA a b m n++(List.range n).map fun j=>(a+(m:Nat),b+(j:Nat)):=by unfold EA;rw[List.range_succ,List.flatMap_append];simp
theorem LF(a b:Int)(m n:Nat):(EA a b m n).Pairwise AN:=by
 induction m with
 |zero=>exact List.Pairwise.nil
 |succ m ih=>
  rw[J8,List.pairwise_append];refine⟨ih,?_,fun p hp q hq=>?_⟩
  ·rw[List.pairwise_map];refine List.Pairwise.imp (fun {x y} h=>?_) List.pairwise_lt_range;exact .inr ⟨rfl,by show b+((x:Nat):Int)<b+((y:Nat):Int);lia⟩
  ·have:=(Cn.mp hp).2.1
   obtain⟨j',_,rfl⟩:=List.mem_map.mp hq;exact .inl (by show p.1<a+(m:Int);lia)
theorem Ee{L:List Sq}(h:L.Pairwise AN):L.Nodup:=h.imp fun {a b} HI e=>by subst e;exact AX _ HI
theorem Hr(a b:Int)(m n:Nat):(EA a b m n).length=m*n:=by
 induction m with
 |zero=>simp[EA]
 |succ m ih=>rw[J8,List.length_append,ih];simp[Nat.succ_mul]
def DX(F:List Sq)(r0 r1 c0 c1:Int):List Sq:=(EA (r0-1) (c0-1) (r1+2-(r0-1)).toNat (c1+2-(c0-1)).toNat).filter fun q=>!F.contains q
section
variable {F:List Sq}{r0 r1 c0 c1:Int}
def g1(F:List Sq)(r0 r1 c0 c1:Int)(p:Sq):Prop:=(r0-1<=p.1/\p.1<=r1+1/\c0-1<=p.2/\p.2<=c1+1)/\p∉F
def g2(F:List Sq)(p:Sq):Prop:=(-1<=p.1/\p.1<=8/\-1<=p.2/\p.2<=8)/\p∉F
theorem BB.le(b:BB F r0 r1 c0 c1):r0<=r1/\c0<=c1:=⟨b.r0l _ b.r1m,b.c0l _ b.c1m⟩
theorem OB(b:BB F r0 r1 c0 c1)(p:Sq):p∈DX F r0 r1 c0 c1↔g1 F r0 r1 c0 c1 p:=by
 obtain⟨h1,h2⟩:=b.le;unfold DX g1;rw[List.mem_filter,Cn];simp only[Bool.not_eq_true',List.contains_eq_mem,decide_eq_false_iff_not];constructor
 ·rintro⟨h,h'⟩;exact⟨by lia,h'⟩
 ·rintro⟨h,h'⟩;exact⟨by lia,h'⟩
theorem RG:(DX F r0 r1 c0 c1).Nodup:=Ee ((LF _ _ _ _).sublist List.filter_sublist)
def kap(r0 r1 c0 c1:Int)(p:Sq):Sq:=(max (r0-1) (min p.1 (r1+1)),max (c0-1) (min p.2 (c1+1)))
theorem QU(b:BB F r0 r1 c0 c1){p:Sq}(h:p∉F):g1 F r0 r1 c0 c1 (kap r0 r1 c0 c1 p):=by
 obtain⟨h1,h2⟩:=b.le;refine⟨?_,fun hk=>?_⟩
 ·simp only[kap];lia
 ·have:=b.in hk
  have e:kap r0 r1 c0 c1 p=p:=by
   obtain⟨x,y⟩:=p;simp only[kap,Prod.mk.injEq]at *;lia
  rw[e]at hk;exact h hk
theorem nF{a b:Int}(h:a<=b)(x:Int):a<=max a (min x b)/\max a (min x b)<=b:=by lia
theorem aA{a b x:Int}(h:a<=x)(h':x<=b):max a (min x b)=x:=by lia
theorem Vq{a b x y:Int}(h:x-1<=y/\y<=x+1):max a (min x b)-1<=max a (min y b)/\max a (min y b)<=max a (min x b)+1:=by lia
def stI(a b x:Int):Int:=if x<a then x+1 else if b<x then x-1 else x
theorem GH(a b x:Int):(x<a/\stI a b x=x+1)\/(a<=x/\b<x/\stI a b x=x-1)\/(a<=x/\x<=b/\stI a b x=x):=by
 unfold stI;by_cases h:x<a
 ·exact .inl ⟨h,if_pos h⟩
 ·rw[if_neg h];by_cases h':b<x
  ·exact .inr (.inl ⟨Int.not_lt.mp h,h',if_pos h'⟩)
  ·exact .inr (.inr ⟨Int.not_lt.mp h,Int.not_lt.mp h',if_neg h'⟩)
theorem ai{a b:Int}(h:a<=b)(x:Int):max a (min (stI a b x) b)=max a (min x b):=by rcases GH a b x with⟨h1,e⟩|⟨h1,h2,e⟩|⟨h1,h2,e⟩<;>rw[e]<;>lia
theorem Vp(a b x:Int):stI a b x-1<=x/\x<=stI a b x+1:=by rcases GH a b x with⟨h1,e⟩|⟨h1,h2,e⟩|⟨h1,h2,e⟩<;>rw[e]<;>lia
theorem Ru{a b:Int}(h:a<=b)(x:Int):(stI a b x-max a (min x b)).natAbs<=(x-max a (min x b)).natAbs/\(max a (min x b)≠x->(stI a b x-max a (min x b)).natAbs+1<=(x-max a (min x b)).natAbs):=by rcases GH a b x with⟨h1,e⟩|⟨h1,h2,e⟩|⟨h1,h2,e⟩<;>rw[e]<;>lia
theorem We{a b lo hi x:Int}(h:lo<=x/\x<=hi)(h1:lo<=a)(h2:b<=hi)(HI:a<=b):lo<=stI a b x/\stI a b x<=hi:=by rcases GH a b x with⟨h1,e⟩|⟨h1,h2,e⟩|⟨h1,h2,e⟩<;>rw[e]<;>lia
theorem aP{a b x:Int}(h:a+1<=stI a b x)(h':stI a b x<=b-1):max a (min x b)=x:=by rcases GH a b x with⟨h1,e⟩|⟨h1,h2,e⟩|⟨h1,h2,e⟩<;>rw[e]at h h'<;>lia
theorem bG{p:Sq}(h:r0-1<=p.1/\p.1<=r1+1/\c0-1<=p.2/\p.2<=c1+1):kap r0 r1 c0 c1 p=p:=Prod.ext (aA h.1 h.2.1) (aA h.2.2.1 h.2.2.2)
theorem bf{p:Sq}(h:kap r0 r1 c0 c1 p≠p):max (r0-1) (min p.1 (r1+1))≠p.1\/max (c0-1) (min p.2 (c1+1))≠p.2:=by refine Classical.byContradiction fun hn=>?_;rw[not_or,Classical.not_not,Classical.not_not]at hn;exact h (Prod.ext hn.1 hn.2)
theorem VH(b:BB F r0 r1 c0 c1)(gd:Good F):(0<=r0/\r0<=7)/\(0<=r1/\r1<=7)/\(0<=c0/\c0<=7)/\(0<=c1/\c1<=7):=by
 have mr:∀a∈F.map (·.1),0<=a/\a<=7:=fun a ha=>by obtain⟨p,hp,rfl⟩:=List.mem_map.mp ha;have:=gd.inn p hp;exact⟨this.1,this.2.1⟩
 have mc:∀a∈F.map (·.2),0<=a/\a<=7:=fun a ha=>by obtain⟨p,hp,rfl⟩:=List.mem_map.mp ha;have:=gd.inn p hp;exact this.2.2
 exact⟨mr _ b.r0m,mr _ b.r1m,mc _ b.c0m,mc _ b.c1m⟩
theorem fY(b:BB F r0 r1 c0 c1)(gd:Good F):kap r0 r1 c0 c1 (-1,-1)=(r0-1,c0-1):=by obtain⟨h1,h2⟩:=b.le;obtain⟨b1,_,b3,_⟩:=VH b gd;exact Prod.ext (show max (r0-1) (min (-1) (r1+1))=r0-1 by lia) (show max (c0-1) (min (-1) (c1+1))=c0-1 by lia)
theorem fm(b:BB F r0 r1 c0 c1)(gd:Good F):(∀x,g2 F x->Con Adj (g2 F) (-1,-1) x)->∀x,g1 F r0 r1 c0 c1 x->Con Adj (g1 F r0 r1 c0 c1) (r0-1,c0-1) x:=by
 intro Q x hx;obtain⟨b1,b2,b3,b4⟩:=VH b gd;have key:∀y,Con Adj (g2 F) (-1,-1) y->Con Adj (g1 F r0 r1 c0 c1) (r0-1,c0-1) (kap r0 r1 c0 c1 y):=by
  intro y hy
  induction hy with
  |base=>rw[fY b gd];exact .base
  |@step x y _ r gy ih=>
   refine .step ih ?_ (QU b gy.2);obtain⟨h1,h2,h3,h4⟩:=r;obtain⟨k1,k2⟩:=Vq (a:=r0-1) (b:=r1+1) ⟨h1,h2⟩;obtain⟨k3,k4⟩:=Vq (a:=c0-1) (b:=c1+1) ⟨h3,h4⟩;exact⟨k1,k2,k3,k4⟩
 have:=key x (Q x ⟨by have:=hx.1;lia,hx.2⟩)
 rw[bG hx.1]at this;exact this
theorem gW(b:BB F r0 r1 c0 c1)(gd:Good F):(∀x,g1 F r0 r1 c0 c1 x->Con Adj (g1 F r0 r1 c0 c1) (r0-1,c0-1) x)->∀x,g2 F x->Con Adj (g2 F) (-1,-1) x:=by
 intro P;obtain⟨h1,h2⟩:=b.le;obtain⟨b1,b2,b3,b4⟩:=VH b gd;have hr:r0-1<=r1+1:=by lia
 have hc:c0-1<=c1+1:=by lia
 have sub:∀x,g1 F r0 r1 c0 c1 x->g2 F x:=fun x hx=>⟨by have:=hx.1;lia,hx.2⟩;have line:∀(n:Nat)(y:Sq),g2 F y->(y.1-(kap r0 r1 c0 c1 y).1).natAbs+(y.2-(kap r0 r1 c0 c1 y).2).natAbs<=n->Con Adj (g2 F) (kap r0 r1 c0 c1 y) y:=by
  intro n
  induction n with
  |zero=>
   intro y hy hn;have:kap r0 r1 c0 c1 y=y:=Prod.ext (by lia) (by lia);rw[this];exact .base
  |succ n ih=>
   intro y hy hn;by_cases e:kap r0 r1 c0 c1 y=y
   ·rw[e];exact .base
   ·have ek:kap r0 r1 c0 c1 (stI (r0-1) (r1+1) y.1,stI (c0-1) (c1+1) y.2)=kap r0 r1 c0 c1 y:=Prod.ext (ai hr y.1) (ai hc y.2);obtain⟨d1,d2⟩:=Ru hr y.1;obtain⟨d3,d4⟩:=Ru hc y.2;have hg:g2 F (stI (r0-1) (r1+1) y.1,stI (c0-1) (c1+1) y.2):=by
     obtain⟨y1,y2,y3,y4⟩:=hy.1;obtain⟨s1,s2⟩:=We (a:=r0-1) (b:=r1+1) ⟨y1,y2⟩ (by lia) (by lia) hr;obtain⟨s3,s4⟩:=We (a:=c0-1) (b:=c1+1) ⟨y3,y4⟩ (by lia) (by lia) hc;refine⟨⟨s1,s2,s3,s4⟩,fun hm=>?_⟩;obtain⟨k1,k2,k3,k4⟩:=b.in hm;exact e (Prod.ext (aP (by simp only at k1;lia) (by simp only at k2;lia)) (aP (by simp only at k3;lia) (by simp only at k4;lia)))
    have:=ih _ hg (by
     rw[ek];show(stI (r0-1) (r1+1) y.1-max (r0-1) (min y.1 (r1+1))).natAbs+(stI (c0-1) (c1+1) y.2-max (c0-1) (min y.2 (c1+1))).natAbs<=n;replace hn:(y.1-max (r0-1) (min y.1 (r1+1))).natAbs+(y.2-max (c0-1) (min y.2 (c1+1))).natAbs<=n+1:=hn;rcases bf e with z|z
     ·have:=d2 z;lia
     ·have:=d4 z;lia)
    rw[ek]at this;obtain⟨a1,a2⟩:=Vp (r0-1) (r1+1) y.1;obtain⟨a3,a4⟩:=Vp (c0-1) (c1+1) y.2;exact .step this ⟨a1,a2,a3,a4⟩ hy
 have m1:g2 F (-1,-1):=⟨by decide,fun hm=>by have:=gd.inn _ hm;simp at this⟩;have k0:=fY b gd;have nU:=line _ _ m1 (Nat.le_refl _);rw[k0]at nU;have gb:g2 F (r0-1,c0-1):=by
  have:=QU b m1.2
  rw[k0]at this;exact sub _ this
 have qE:=nU.symm VP gb;intro x hx;refine qE.trans (Con.trans ((P _ (QU b hx.2)).mono (fun _ _ h=>h) sub) (line _ x hx (Nat.le_refl _)))
end
def MQ(F:List Sq)(s o:Sq):Bool:=F.contains o&&(!F.contains (s.1,o.2)&&!F.contains (o.1,s.2))
def IC(F:List Sq):Bool:=F.any fun s=>(cnM s).any fun o=>MQ F s o
def Et(F:List Sq)(s:Sq)(t:Int):Bool:=F.contains (s.1+1,s.2+t)&&(!F.contains (s.1,s.2+t)&&!F.contains (s.1+1,s.2))
def Ca(F:List Sq):Bool:=F.any fun s=>[(-1:Int),1].any fun t=>Et F s t
theorem K8(F:List Sq):IC F=Ca F:=by
 rw[Bool.eq_iff_iff];simp only[IC,Ca,List.any_eq_true,MQ,Et,Bool.and_eq_true,Bool.not_eq_true',List.contains_eq_mem,decide_eq_true_eq,decide_eq_false_iff_not,cnM,List.mem_cons,List.not_mem_nil,or_false];constructor
 ·rintro⟨s,hs,o,ho,h1,h2,h3⟩;obtain⟨a,b⟩:=s;rcases ho with rfl|rfl|rfl|rfl
  ·refine⟨_,h1,1,.inr rfl,?_,?_,?_⟩<;>simp only[Int.sub_add_cancel]<;>assumption
  ·refine⟨_,h1,-1,.inl rfl,?_,?_,?_⟩<;>simp only[Int.sub_add_cancel,show b+1+-1=b by lia]<;>assumption
  ·exact⟨_,hs,-1,.inl rfl,h1,h2,h3⟩
  ·exact⟨_,hs,1,.inr rfl,h1,h2,h3⟩
 ·rintro⟨s,hs,t,ht,h1,h2,h3⟩;rcases ht with rfl|rfl
  ·exact⟨s,hs,_,.inr (.inr (.inl rfl)),h1,h2,h3⟩
  ·exact⟨s,hs,_,.inr (.inr (.inr rfl)),h1,h2,h3⟩
end
section
open Classical in
theorem k8{R:Sq->Sq->Prop}{g:Sq->Prop}{s:Sq}{B:List Sq}(hB:B.Nodup)(hg:∀x,x∈B↔g x)(hs:g s):∃L,RL R g s L:=⟨B.filter fun x=>decide (Con R g s x),hB.filter _,fun x=>by
  rw[List.mem_filter,decide_eq_true_eq];exact⟨fun h=>h.2,fun h=>⟨(hg x).mpr (h.in hs),h⟩⟩⟩
theorem IF{R:Sq->Sq->Prop}{g:Sq->Prop}{s:Sq}{B:List Sq}(hB:B.Nodup)(hg:∀x,x∈B↔g x)(hs:g s):card R g s<=B.length/\(card R g s=B.length↔∀x,g x->Con R g s x):=by obtain⟨L,h⟩:=k8 (R:=R) hB hg hs;rw[h.card];exact h.all hB hg hs
abbrev nbR:Sq->Sq->Prop:=fun p q=>q∈nbM p
abbrev aaR:Sq->Sq->Prop:=fun p q=>q∈aaM p
abbrev n9R:Sq->Sq->Prop:=fun p q=>q∈n9 p
def Je(F:List Sq):Bool:=(((card nbR (·∈F) (F.headD (0,0)):Nat):Int)==((F.length:Nat):Int))
def V7(F:List Sq)(r0 r1 c0 c1:Int):Bool:=decide (((card aaR (·∈DX F r0 r1 c0 c1) (r0-1,c0-1):Nat):Int)<(((DX F r0 r1 c0 c1).length:Nat):Int))
def Dv(F:List Sq):Bool:=(((card n9R (g2 F) (-1,-1):Nat):Int)==100-((F.length:Nat):Int))
theorem OQ{F:List Sq}(gd:Good F):((EA (-1) (-1) 10 10).filter fun q=>!F.contains q).length=100-F.length/\F.length<=100:=by
 have h1:∀(l:List Sq)(p:Sq->Bool),(l.filter p).length+(l.filter fun q=>!p q).length=l.length:=by
  intro l p
  induction l with
  |nil=>rfl
  |cons a r ih=>
   by_cases h:p a=true
   ·simp only[List.filter_cons,h,if_true,Bool.not_true,Bool.false_eq_true,if_false,List.length_cons];lia
   ·simp only[List.filter_cons,h,if_false,Bool.false_eq_true,Bool.not_false,if_true,List.length_cons];lia
 have h2:=h1 (EA (-1) (-1) 10 10) fun q=>F.contains q;have nd:=Ee (LF (-1) (-1) 10 10);have h3:((EA (-1) (-1) 10 10).filter fun q=>F.contains q).length=F.length:=MM (nd.filter _) gd.nodup fun x=>by
  rw[List.mem_filter,Cn,List.contains_eq_mem,decide_eq_true_eq];exact⟨fun h=>h.2,fun h=>⟨by have:=gd.inn x h;lia,h⟩⟩
 rw[Hr,h3]at h2;lia
theorem Za{F:List Sq}(gd:Good F){r0 r1 c0 c1:Int}(b:BB F r0 r1 c0 c1):(!V7 F r0 r1 c0 c1)=Dv F:=by
 obtain⟨h1,h2⟩:=b.le;have e0:=gd.inn;have k1:g1 F r0 r1 c0 c1 (r0-1,c0-1):=⟨by simp only;lia,fun hm=>by have:=b.in hm;simp only at this;lia⟩;have m1:g2 F (-1,-1):=⟨by decide,fun hm=>by have:=e0 _ hm;simp at this⟩;have eg:(fun x=>x∈DX F r0 r1 c0 c1)=g1 F r0 r1 c0 c1:=funext fun x=>propext (OB b x);obtain⟨a1,a2⟩:=IF (R:=aaR) (s:=(r0-1,c0-1)) (RG (F:=F) (r0:=r0) (r1:=r1) (c0:=c0) (c1:=c1)) (OB b) k1;have nd:=Ee (LF (-1) (-1) 10 10);obtain⟨b1,b2⟩:=IF (R:=n9R) (s:=(-1,-1)) (g:=g2 F) (B:=(EA (-1) (-1) 10 10).filter fun q=>!F.contains q) (nd.filter _) (fun x=>by
  rw[List.mem_filter,Cn];simp only[Bool.not_eq_true',List.contains_eq_mem,decide_eq_false_iff_not,g2];constructor
  ·rintro⟨h,h'⟩;exact⟨by lia,h'⟩
  ·rintro⟨h,h'⟩;exact⟨by lia,h'⟩) m1
 obtain⟨l1,l2⟩:=OQ gd;rw[l1]at b1 b2;have iff:(∀x,g1 F r0 r1 c0 c1 x->Con aaR (g1 F r0 r1 c0 c1) (r0-1,c0-1) x)↔∀x,g2 F x->Con n9R (g2 F) (-1,-1) x:=
  ⟨fun h x hx=>aL.mpr (gW b gd (fun y hy=>VL.mp (h y hy)) x hx),fun h x hx=>VL.mpr (fm b gd (fun y hy=>aL.mp (h y hy)) x hx)⟩
 rw[Bool.eq_iff_iff];unfold V7 Dv;rw[eg];simp only[Bool.not_eq_true',decide_eq_false_iff_not,beq_iff_eq];constructor
 ·intro h;have:card aaR (g1 F r0 r1 c0 c1) (r0-1,c0-1)=(DX F r0 r1 c0 c1).length:=by lia
  have:=b2.mpr (iff.mp (a2.mp this))
  lia
 ·intro h;have:card n9R (g2 F) (-1,-1)=100-F.length:=by lia
  have:=a2.mpr (iff.mpr (b2.mp this))
  lia
end
end TF
namespace TF
open PySem PySem.Spec L2
open PyProof.Rows hiding St RelV
theorem bD{G:Gs}{p1 p2:Addr}{A B A' B':OD}(h:p1≠p2):put (put (put (put G p1 A) p2 B) p1 A') p2 B'=put (put G p1 A') p2 B':=by
 funext b;simp only[put];by_cases h2:b=p2
 ·simp[h2]
 ·by_cases h1:b=p1
  ·simp[h1]
  ·simp[h1,h2]
theorem W3(L:List Sq)(p:Sq->Bool)(z:Sq)(h:p z=true):((L++[z]).filter p).map sq=(L.filter p).map sq++[sq z]:=by rw[List.filter_append,List.map_append];simp[h]
theorem Ug(L:List Sq)(p:Sq->Bool)(z:Sq)(h:¬p z=true):(L++[z]).filter p=L.filter p:=by rw[List.filter_append];simp[h]
theorem Jr(G:Gs)(q:List Sq):Jk G (fl q)=some q.length:=by simp[Jk,fl]
theorem R4{F:List Sq}(gd:Good F):atI (F.map sq) 0=some (sq (F.headD (0,0))):=by
 cases F with
 |nil=>exact absurd rfl gd.ne
 |cons a r=>exact DC (j:=0) rfl
theorem D4(q:Sq):Br 6 (sq q)=true:=rfl
def kvT(q:Sq):Dat×Dat:=(sq q,.bl true)
theorem OF(L:List Sq)(v:Sq->Dat)(y:Sq):Ab (L.map fun q=>(sq q,v q)) (sq y)=if y∈L then some (v y)else none:=by
 induction L with
 |nil=>rfl
 |cons a r ih=>
  unfold Ab at ih ⊢;rw[List.map_cons,List.find?_cons];by_cases h:a=y
  ·subst h;simp
  ·have Bk:sq a≠sq y:=fun e=>h (JI e);rw[decide_eq_false Bk];simp only;rw[ih];have:(y∈a::r)↔y∈r:=by simp[Ne.symm h]
   simp only[this]
theorem Ho(L:List Sq)(y:Sq):(Ab (L.map kvT) (sq y)).isSome=L.contains y:=by
 have:=OF L (fun _=>.bl true) y
 have e:(L.map fun q=>(sq q,Dat.bl true))=L.map kvT:=rfl;rw[e]at this;rw[this];by_cases h:y∈L<;>simp[h]
theorem Wl{L:List Sq}{y:Sq}(h:y∉L):EX (L.map kvT) (sq y) (.bl true)=(L++[y]).map kvT:=by
 rw[J7,List.map_append]
 ·rfl
 ·have:=Ho L y
  cases e:Ab (L.map kvT) (sq y)with
  |none=>rfl
  |some d=>rw[e]at this;simp[h]at this
def NC(nb:Sq->List Sq):SpD:=fun ds G R=>∃q:Sq,ds=[sq q]/\R (.lst ((nb q).map sq)) G
def Iu(P:Program)(w:World)(K:PySem.W.Frag)(mg:Str->Option Value)(base:Heap)(kk:Nat):SpD:=fun ds G R=>∃(start:Sq)(g:List Sq)(gd:Dat)(f:Addr)(nb:Sq->List Sq),
 ds=[sq start,gd,.fn f]/\(gd=.tup (g.map sq)\/gd=.lst (g.map sq))/\DfA P w K mg base f ["square"] kk (NC nb)/\g.length<=1000 ∧
  ∀p L,G p=none->RL (fun a b=>b∈nb a) (·∈g) start L->R (.fn p) (put G p (.dct (L.map kvT)))
def spF(v:List Sq->Dat):SpD:=fun ds G R=>∃F:List Sq,ds=[fl F]/\Good F/\R (v F) G
def XT:SpD:=fun ds G R=>∃(F:List Sq)(r0 r1 c0 c1:Int),ds=[fl F]/\Good F/\BB F r0 r1 c0 c1/\R (.lst ((DX F r0 r1 c0 c1).map sq)) G
def V9:SpD:=fun ds G R=>∃(F:List Sq)(r0 r1 c0 c1:Int),ds=[fl F]/\Good F/\BB F r0 r1 c0 c1/\R (.bl (V7 F r0 r1 c0 c1)) G
def XD:SpD:=fun ds G R=>∃(F:List Sq)(s o:Sq),ds=[fl F,sq s,sq o]/\R (.bl (MQ F s o)) G
def C1(F:List Sq):Bool:=Je F&&(Dv F&&!IC F)
theorem Yt{nb:Sq->List Sq}{g:List Sq}{s x:Sq}(h:Con (fun a b=>b∈nb a) (·∈g) s x):x∈s::g:=by
 cases h with
 |base=>exact List.mem_cons_self ..
 |step _ _ gy=>exact List.mem_cons_of_mem _ gy
theorem Uu{R:Sq->Sq->Prop}{g:Sq->Prop}{s:Sq}{L:List Sq}(nd:L.Nodup)(hs:s∈L)(hc:∀x∈L,Con R g s x)(cl:∀x∈L,∀y,R x y->g y->y∈L):RL R g s L:=⟨nd,fun x=>⟨hc x,fun h=>by
  induction h with
  |base=>exact hs
  |step _ r gy ih=>exact cl _ ih _ r gy⟩⟩
theorem UK{F:List Sq}{r0 r1 c0 c1:Int}(b:BB F r0 r1 c0 c1):∃r,DX F r0 r1 c0 c1=(r0-1,c0-1)::r:=by
 obtain⟨h1,h2⟩:=b.le;unfold DX;obtain⟨m,hm⟩:∃m,(r1+2-(r0-1)).toNat=m+1:=⟨(r1+2-(r0-1)).toNat-1,by lia⟩;obtain⟨n,hn⟩:∃n,(c1+2-(c0-1)).toNat=n+1:=⟨(c1+2-(c0-1)).toNat-1,by lia⟩;rw[hm,hn];have e:∃r,EA (r0-1) (c0-1) (m+1) (n+1)=(r0-1,c0-1)::r:=by
  unfold EA;rw[show List.range (m+1)=0::(List.range m).map Nat.succ from List.range_succ_eq_map,List.flatMap_cons,show List.range (n+1)=0::(List.range n).map Nat.succ from List.range_succ_eq_map,List.map_cons];exact⟨_,by simp;rfl⟩
 obtain⟨r,e⟩:=e;rw[e,List.filter_cons,if_pos]
 ·exact⟨_,rfl⟩
 ·simp only[Bool.not_eq_true',List.contains_eq_mem,decide_eq_false_iff_not];intro hm
  have:=b.in hm
  simp only at this;lia
theorem YC{F:List Sq}(gd:Good F){r0 r1 c0 c1:Int}(b:BB F r0 r1 c0 c1):(DX F r0 r1 c0 c1).length<=1000:=by
 have gh:∀a∈F.map (·.1),0<=a/\a<=7:=fun a ha=>by obtain⟨p,hp,rfl⟩:=List.mem_map.mp ha;have:=gd.inn p hp;lia
 have ed:∀a∈F.map (·.2),0<=a/\a<=7:=fun a ha=>by obtain⟨p,hp,rfl⟩:=List.mem_map.mp ha;have:=gd.inn p hp;lia
 have b1:=gh _ b.r0m;have b2:=gh _ b.r1m;have b3:=ed _ b.c0m;have b4:=ed _ b.c1m;refine Nat.le_trans (List.length_filter_le _ _) ?_;rw[Hr];have:(r1+2-(r0-1)).toNat*(c1+2-(c0-1)).toNat<=10*10:=Nat.mul_le_mul (by lia) (by lia);lia
theorem BF(q:Sq):AI 8 (sq q)=true:=Ah q 7
theorem A3(l:List Sq):(l.map sq).all (AI 8)=true:=DG l 7
theorem Px(q:Sq):(nbM q).Nodup:=by obtain⟨a,b⟩:=q;simp only[nbM,List.nodup_cons,List.mem_cons,List.not_mem_nil,or_false,Prod.mk.injEq,List.nodup_nil,and_true,not_false_eq_true];lia
def QW:SpD:=fun ds G R=>∃(F:List Sq)(q:Sq),ds=[fl F,sq q]/\R (.lst (((nbM q).filter F.contains).map sq)) G
def M1:SpD:=fun ds G R=>∃(ns:List Int),ds=[.scr ns]/\R (.bl true) G
theorem gq(l:List Dat):QR l (some 1) none=l.drop 1:=by
 unfold QR;cases l with
 |nil=>rfl
 |cons x r=>
  have e:HT.sIx (x::r).length 0 (some 1)=1:=by
   have:=HT.sIx_nat (x::r).length 0 1
   rw[show((1:Nat):Int)=1 from rfl]at this;rw[this,List.length_cons];lia
  rw[e,HT.sIx_none];simp
end TF
namespace TS
open PySem PyProof.Rows
section
variable {prog:Program}{w:World}{A:Around}{E:Value->Shared->Prop}{s:Shared}{a₀:Array Keyed}{r:Keyed->Nat}{k0:SortKind}
def CmpOk(prog:Program)(w:World)(A:Around)(s:Shared)(a₀:Array Keyed)(r:Keyed->Nat)(k0:SortKind):Prop:=∀x y,x∈a₀.toList->y∈a₀.toList->∀(E:Value->Shared->Prop)(Q:Bool->Shared->Prop),Q (decide (r x<r y)) s->wpAny (model prog w) A (keyLt' k0 x.1 y.1) Q E s
structure SB (a₀:Array Keyed) (k0:SortKind) (st:SortSt):Prop where
 perm:(arrOf st).Perm a₀
 kind:kindOf st=k0
 failed:failedOf st=none
theorem SB.size{st:SortSt}(h:SB a₀ k0 st):(arrOf st).size=a₀.size:=h.perm.size_eq
theorem SB.mem{st:SortSt}(h:SB a₀ k0 st){p:Keyed}(hp:p∈(arrOf st).toList):p∈a₀.toList:=(Array.perm_iff_toList_perm.mp h.perm).mem_iff.mp hp
theorem SB.memAt{st:SortSt}(h:SB a₀ k0 st){i:Nat}{p:Keyed}(hp:(arrOf st)[i]?=some p):p∈a₀.toList:=h.mem (by
 have:=Array.mem_of_getElem? hp
 exact Array.mem_toList_iff.mpr this)
theorem SB.setArr{st:SortSt}(h:SB a₀ k0 st){xs:Array Keyed}(hp:xs.Perm (arrOf st)):SB a₀ k0 (setArr st xs):=⟨hp.trans h.perm,h.kind,h.failed⟩
def Rk(r:Keyed->Nat)(xs:Array Keyed)(i:Nat):Nat:=match xs[i]? with
 |some p=>r p
 |none=>0
theorem SH{xs:Array Keyed}{i:Nat}{p:Keyed}(h:xs[i]?=some p):Rk r xs i=r p:=by unfold Rk;rw[h]
theorem GF{xs ys:Array Keyed}{i j:Nat}(h:xs[i]?=ys[j]?):Rk r xs i=Rk r ys j:=by unfold Rk;rw[h]
theorem ES{xs:Array Keyed}{i j:Nat}(hj:j<=xs.size)(k:Nat):Rk r (mirror xs i j ((j-i) / 2)) k=if i<=k/\k<j then Rk r xs (i+j-1-k)else Rk r xs k:=by
 have e:=getElem?_mirror_all (i:=i) hj k;by_cases h:i<=k/\k<j
 ·rw[if_pos h]at e ⊢;exact GF e
 ·rw[if_neg h]at e ⊢;exact GF e
theorem To{xs:Array Keyed}{i j:Nat}(hj:j<=xs.size){k:Nat}(hk:k<i):(mirror xs i j ((j-i) / 2))[k]?=xs[k]?:=by rw[getElem?_mirror_all (i:=i) hj k,if_neg (by lia)]
theorem KP(hc:CmpOk prog w A s a₀ r k0){st:SortSt}(hB:SB a₀ k0 st){x y:Keyed}(hx:x∈a₀.toList)(hy:y∈a₀.toList){Q:Option Bool->SortSt->Prop}(h:Q (some (decide (r x<r y))) st):wpS (model prog w) A E s (lt' x y) Q st:=by rw[lt'_eq];refine wpS_bind (wpS_get ?_);rw[hB.kind];refine wpS_bind (wpS_lift (wpAny_attempt (hc x y hx hy _ _ ⟨rfl,?_⟩)));exact wpS_pure h
theorem An{st:SortSt}{xs:Array Keyed}{i:Nat}{p:Keyed}(hp:xs[i]?=some p){Q:Keyed->SortSt->Prop}(h:Q p st):wpS (model prog w) A E s (elem' xs i) Q st:=by rw[elem'_eq,hp];exact wpS_pure h
theorem ET(hc:CmpOk prog w A s a₀ r k0){st:SortSt}(hB:SB a₀ k0 st){i j:Nat}(hi:i<a₀.size)(hj:j<a₀.size){Q:Option Bool->SortSt->Prop}(h:Q (some (decide (Rk r (arrOf st) i<Rk r (arrOf st) j))) st):wpS (model prog w) A E s (ltAt' i j) Q st:=by have ei:(arrOf st)[i]?=some ((arrOf st)[i]'(by rw[hB.size];exact hi)):=getElem?_pos _ i (by rw[hB.size];exact hi);have ej:(arrOf st)[j]?=some ((arrOf st)[j]'(by rw[hB.size];exact hj)):=getElem?_pos _ j (by rw[hB.size];exact hj);rw[SH ei,SH ej]at h;rw[ltAt'_eq];refine wpS_bind (wpS_get ?_);refine wpS_bind (An ei ?_);refine wpS_bind (An ej ?_);exact KP hc hB (hB.memAt ei) (hB.memAt ej) h
def L4:Nat->Nat->StateT SortSt Sem (Option Nat):=sortPriv% PySem.Builtin.countRun
def JU:Nat->Nat->Nat->StateT SortSt Sem Bool:=sortPriv% PySem.Builtin.binarySort
def Jo:Bool->Keyed->Array Keyed->Nat->Nat->Nat->StateT SortSt Sem (Option Nat):=sortPriv% PySem.Builtin.gallop
def Ny:Array Keyed->Array Keyed->StateT SortSt Sem (Array Keyed):=sortPriv% PySem.Builtin.mergeLo
def N8:Array Keyed->Array Keyed->StateT SortSt Sem (Array Keyed):=sortPriv% PySem.Builtin.mergeHi
structure Kp (a₀:Array Keyed) (k0:SortKind) (lo:Nat) (st AR:SortSt):Prop where
 base:SB a₀ k0 AR
 pend:pendingOf AR=pendingOf st
 low:∀k,k<lo->(arrOf AR)[k]?=(arrOf st)[k]?
theorem Kp.refl{st:SortSt}{lo:Nat}(h:SB a₀ k0 st):Kp a₀ k0 lo st st:=⟨h,rfl,fun _ _=>rfl⟩
theorem Kp.trans{st Bp Ct:SortSt}{lo:Nat}(h:Kp a₀ k0 lo st Bp)(h':Kp a₀ k0 lo Bp Ct):Kp a₀ k0 lo st Ct:=⟨h'.base,h'.pend.trans h.pend,fun k hk=>(h'.low k hk).trans (h.low k hk)⟩
theorem Kp.mirror{st:SortSt}{lo i j:Nat}(h:SB a₀ k0 st)(hi:lo<=i)(hj:j<=a₀.size):Kp a₀ k0 lo st (PyProof.Rows.setArr st (mirror (arrOf st) i j ((j-i) / 2))):=⟨h.setArr (mirror_perm _ _ _ _),rfl,fun k hk=>To (by rw[h.size];exact hj) (by lia)⟩
def Up(r:Keyed->Nat)(xs:Array Keyed)(a b:Nat):Prop:=∀i j,a<=i->i<=j->j<b->Rk r xs i<=Rk r xs j
def Dn(r:Keyed->Nat)(xs:Array Keyed)(a b:Nat):Prop:=∀i j,a<=i->i<=j->j<b->Rk r xs j<=Rk r xs i
theorem cz(xs:Array Keyed)(a:Nat):Up r xs a (a+1):=fun i j h1 h2 h3=>by
 obtain rfl:i=j:=by lia
 exact Nat.le_refl _
theorem Ss{xs:Array Keyed}{a b:Nat}(h:Up r xs a b)(HI:a<b)(hl:Rk r xs (b-1)<=Rk r xs b):Up r xs a (b+1):=fun i j h1 h2 h3=>by
 by_cases hj:j<b
 ·exact h i j h1 h2 hj
 ·obtain rfl:j=b:=by lia
  by_cases hi:i=j
  ·subst hi;exact Nat.le_refl _
  ·exact Nat.le_trans (h i (j-1) h1 (by lia) (by lia)) hl
theorem Mt{xs:Array Keyed}{a b:Nat}(h:Dn r xs a b)(HI:a<b)(hl:Rk r xs b<=Rk r xs (b-1)):Dn r xs a (b+1):=fun i j h1 h2 h3=>by
 by_cases hj:j<b
 ·exact h i j h1 h2 hj
 ·obtain rfl:j=b:=by lia
  by_cases hi:i=j
  ·subst hi;exact Nat.le_refl _
  ·exact Nat.le_trans hl (h i (j-1) h1 (by lia) (by lia))
theorem Qg{M:Model}{σ α:Type}{c:Prop}[Decidable c]{m t:StateT σ Sem α}{Q:α->σ->Prop}{st:σ}{P:σ->Prop}(ht:∀Bp,P Bp->wpS M A E s t Q Bp)(h:(∀Bp,P Bp->wpS M A E s t Q Bp)->wpS M A E s (if c then m else t) Q st):wpS M A E s (if c then m else t) Q st:=h ht
theorem OE{M:Model}{σ α:Type}{c:Prop}[Decidable c]{m t:StateT σ Sem α}{Q:α->σ->Prop}{st:σ}{P:σ->Prop}(ht:∀Bp,P Bp->wpS M A E s t Q Bp)(h:(∀Bp,P Bp->wpS M A E s t Q Bp)->wpS M A E s (if c then m else t) Q st):wpS M A E s (if c then m else t) Q st:=h ht
theorem Nf(hc:CmpOk prog w A s a₀ r k0){st:SortSt}(hB:SB a₀ k0 st){lo nrem:Nat}(h1:1<=nrem)(h2:lo+nrem<=a₀.size){Q:Option Nat->SortSt->Prop}(h:∀m AR,1<=m->m<=nrem->Kp a₀ k0 lo st AR->Up r (arrOf AR) lo (lo+m)->Q (some m) AR):wpS (model prog w) A E s (L4 lo nrem) Q st:=by
 unfold L4;refine wpS_bind (wpS_mono (wpS_forRange (I:=fun x c AR=>AR=st/\c=(none,x)/\x<=nrem/\Up r (arrOf st) lo (lo+x))
  (Q:=fun c AR=>AR=st/\∃n,c=(none,n)/\1<=n/\n<=nrem/\Up r (arrOf st) lo (lo+n)/\(n=nrem\/Rk r (arrOf st) (lo+n)<Rk r (arrOf st) (lo+n-1))) ?_ ?_ ⟨rfl,rfl,h1,cz _ _⟩) ?_)
 ·rintro x c AR Si RU ⟨rfl,rfl,hx,hU⟩;refine wpS_bind (ET hc hB (by lia) (by lia) ?_);dsimp only;by_cases BC:Rk r (arrOf AR) (lo+x)<Rk r (arrOf AR) (lo+x-1)
  ·rw[decide_eq_true BC,if_pos rfl];exact wpS_pure ⟨rfl,x,rfl,Si,hx,hU,.inr BC⟩
  ·rw[decide_eq_false BC,if_neg (by decide)];exact wpS_pure ⟨rfl,rfl,by lia,Ss (b:=lo+x) hU (by lia) (by lia)⟩
 ·rintro c AR ⟨rfl,rfl,hx,hU⟩;have e:max 1 nrem=nrem:=by lia
  rw[e]at hU ⊢;exact⟨rfl,nrem,rfl,h1,Nat.le_refl _,hU,.inl rfl⟩
 rintro c AR ⟨rfl,n,rfl,fz,Xr,hU,Yj⟩;dsimp only;by_cases hnn:n=nrem
 ·rw[if_pos (by simpa using hnn)];exact wpS_pure (h n _ fz Xr (Kp.refl hB) hU)
 rw[if_neg (by simpa using hnn)];have BC:=Yj.resolve_left hnn;refine Qg (P:=fun Bp=>Kp a₀ k0 lo AR Bp/\Dn r (arrOf Bp) lo (lo+(n+1))) ?tail ?rest
 case rest=>
  intro tail;by_cases aq:n > 1
  ·rw[if_pos aq];refine wpS_bind (ET hc hB (by lia) (by lia) ?_);dsimp only;by_cases hrose:Rk r (arrOf AR) lo<Rk r (arrOf AR) (lo+n-1)
   ·rw[decide_eq_true hrose,if_pos rfl];exact wpS_pure (h n _ fz Xr (Kp.refl hB) hU)
   ·rw[decide_eq_false hrose,if_neg (by decide)];refine wpS_bind (wpS_modify (tail _ ⟨Kp.mirror hB (Nat.le_refl _) (by lia),?_⟩));have hsz:lo+n<=(arrOf AR).size:=by rw[hB.size];lia
    have heq:∀k,lo<=k->k<lo+n->Rk r (arrOf AR) k=Rk r (arrOf AR) (lo+n-1):=fun k g1 g2=>by
     have:=hU lo k (Nat.le_refl _) g1 g2
     have:=hU k (lo+n-1) g1 (by lia) (by lia)
     lia
    have hR:∀k,Rk r (mirror (arrOf AR) lo (lo+n) ((lo+n-lo) / 2)) k=Rk r (arrOf AR) k:=fun k=>by
     rw[ES hsz];split
     ·rw[heq _ (by lia) (by lia),heq k (by lia) (by lia)]
     ·rfl
    intro i j g1 g2 g3;show Rk r (mirror (arrOf AR) lo (lo+n) ((lo+n-lo) / 2)) j<=Rk r (mirror (arrOf AR) lo (lo+n) ((lo+n-lo) / 2)) i;rw[hR,hR];by_cases hj:j=lo+n
    ·subst hj;by_cases hi:i=lo+n
     ·subst hi;exact Nat.le_refl _
     ·rw[heq i g1 (by lia)];lia
    ·rw[heq i g1 (by lia),heq j (by lia) (by lia)];exact Nat.le_refl _
  ·rw[if_neg aq];obtain rfl:n=1:=by lia
   refine tail _ ⟨Kp.refl hB,?_⟩;intro i j g1 g2 g3;by_cases hi:i=j
   ·subst hi;exact Nat.le_refl _
   ·obtain rfl:i=lo:=by lia
    obtain rfl:j=i+1:=by lia
    have:i+1-1=i:=by lia
    rw[this]at BC;lia
 case tail=>
  rintro Bp ⟨lu,qW⟩;refine wpS_bind (wpS_lift (wpAny_rule ⟨rfl,?_⟩));refine wpS_bind (wpS_mono (wpS_forRange (I:=fun x c AR=>∃MV,c=(none,x,MV)/\x<=nrem/\Kp a₀ k0 lo Bp AR/\Dn r (arrOf AR) lo (lo+x)/\MV+1<=x/\∀i,lo+x-(MV+1)<=i->i<lo+x->Rk r (arrOf AR) i=Rk r (arrOf AR) (lo+x-1))
   (Q:=fun c AR=>∃m MV,c=(none,m,MV)/\n+1<=m/\m<=nrem/\Kp a₀ k0 lo Bp AR/\Dn r (arrOf AR) lo (lo+m)/\MV+1<=m/\∀i,lo+m-(MV+1)<=i->i<lo+m->Rk r (arrOf AR) i=Rk r (arrOf AR) (lo+m-1)) ?_ ?_ ⟨0,rfl,by lia,Kp.refl lu.base,qW,by lia,fun i g1 g2=>by congr 1;lia⟩) ?_)
  ·rintro x c Ct Si RU ⟨MV,rfl,hx,Lf,Xm,hq,he⟩;have hsz:lo+x<=(arrOf Ct).size:=by rw[Lf.base.size];lia
   dsimp only;refine wpS_bind (ET hc Lf.base (by lia) (by lia) ?_);dsimp only;by_cases Qo:Rk r (arrOf Ct) (lo+x)<Rk r (arrOf Ct) (lo+x-1)
   ·rw[decide_eq_true Qo,if_pos rfl];by_cases hneq:MV > 0
    ·rw[if_pos hneq];refine wpS_bind (wpS_modify (wpS_pure ⟨0,rfl,by lia,Lf.trans (Kp.mirror Lf.base (by lia) (by lia)),?_,by lia,fun i g1 g2=>by congr 1;lia⟩));have hR:∀k,Rk r (mirror (arrOf Ct) (lo+x-(MV+1)) (lo+x) ((lo+x-(lo+x-(MV+1))) / 2)) k=Rk r (arrOf Ct) k:=fun k=>by
      rw[ES hsz];split
      ·rw[he _ (by lia) (by lia),he k (by lia) (by lia)]
      ·rfl
     intro i j g1 g2 g3;show Rk r (mirror (arrOf Ct) _ _ _) j<=Rk r (mirror (arrOf Ct) _ _ _) i;rw[hR,hR];exact Mt (b:=lo+x) Xm (by lia) (by lia) i j g1 g2 g3
    ·rw[if_neg hneq];exact wpS_pure ⟨0,rfl,by lia,Lf,Mt (b:=lo+x) Xm (by lia) (by lia),by lia,fun i g1 g2=>by congr 1;lia⟩
   ·rw[decide_eq_false Qo,if_neg (by decide)];refine wpS_bind (ET hc Lf.base (by lia) (by lia) ?_);dsimp only;by_cases aK:Rk r (arrOf Ct) (lo+x-1)<Rk r (arrOf Ct) (lo+x)
    ·rw[decide_eq_true aK,if_pos rfl];exact wpS_pure ⟨x,MV,rfl,Si,hx,Lf,Xm,hq,he⟩
    ·rw[decide_eq_false aK,if_neg (by decide)];refine wpS_pure ⟨MV+1,rfl,by lia,Lf,Mt (b:=lo+x) Xm (by lia) (by lia),by lia,fun i g1 g2=>?_⟩;have e:lo+(x+1)-1=lo+x:=by lia
     rw[e];by_cases hi:i=lo+x
     ·subst hi;rfl
     ·rw[he i (by lia) (by lia)];lia
  ·rintro c Ct ⟨MV,rfl,hx,Lf,Xm,hq,he⟩;have e:max (n+1) nrem=nrem:=by lia
   rw[e]at Xm hq he ⊢;exact⟨nrem,MV,rfl,by lia,Nat.le_refl _,Lf,Xm,hq,he⟩
  rintro c Ct ⟨m,MV,rfl,lI,fc,Lf,Xm,hq,he⟩;dsimp only;have hsz:lo+m<=(arrOf Ct).size:=by rw[Lf.base.size];lia
  refine OE (P:=fun Gz=>Kp a₀ k0 lo Bp Gz/\Dn r (arrOf Gz) lo (lo+m)) ?_ ?_
  ·rintro Gz ⟨Zp,oU⟩;have W5:lo+m<=(arrOf Gz).size:=by rw[Zp.base.size];lia
   have lP:=Kp.mirror (lo:=lo) (i:=lo) (j:=lo+m) Zp.base (Nat.le_refl _) (by lia);refine wpS_bind (wpS_modify ?_);refine wpS_bind (wpS_mono (wpS_forRange (I:=fun x c AR=>AR=PyProof.Rows.setArr Gz (mirror (arrOf Gz) lo (lo+m) ((lo+m-lo) / 2))/\c=(none,x)/\x<=nrem/\Up r (mirror (arrOf Gz) lo (lo+m) ((lo+m-lo) / 2)) lo (lo+x))
    (Q:=fun c AR=>AR=PyProof.Rows.setArr Gz (mirror (arrOf Gz) lo (lo+m) ((lo+m-lo) / 2))/\∃n,c=(none,n)/\1<=n/\n<=nrem/\Up r (mirror (arrOf Gz) lo (lo+m) ((lo+m-lo) / 2)) lo (lo+n)) ?_ ?_ ⟨rfl,rfl,fc,?_⟩) ?_)
   ·rintro x c AR Si RU ⟨rfl,rfl,hx,hU⟩;refine wpS_bind (ET hc lP.base (by lia) (by lia) ?_);dsimp only;by_cases BC:Rk r (mirror (arrOf Gz) lo (lo+m) ((lo+m-lo) / 2)) (lo+x)<Rk r (mirror (arrOf Gz) lo (lo+m) ((lo+m-lo) / 2)) (lo+x-1)
    ·rw[decide_eq_true BC,if_pos rfl];exact wpS_pure ⟨rfl,x,rfl,by lia,hx,hU⟩
    ·rw[decide_eq_false BC,if_neg (by decide)];exact wpS_pure ⟨rfl,rfl,by lia,Ss (b:=lo+x) hU (by lia) (by lia)⟩
   ·rintro c AR ⟨rfl,rfl,hx,hU⟩;have e:max m nrem=nrem:=by lia
    rw[e]at hU ⊢;exact⟨rfl,nrem,rfl,h1,Nat.le_refl _,hU⟩
   ·intro i j g1 g2 g3;rw[ES W5,ES W5,if_pos (by lia),if_pos (by lia)];exact oU _ _ (by lia) (by lia) (by lia)
   ·rintro c AR ⟨rfl,n',rfl,ky,jd,om⟩;exact wpS_pure (h n' _ ky jd (lu.trans (Zp.trans lP)) om)
  ·intro tail;by_cases hneq:MV > 0
   ·rw[if_pos hneq];refine wpS_bind (wpS_modify (tail _ ⟨Lf.trans (Kp.mirror Lf.base (by lia) (by lia)),?_⟩));have hR:∀k,Rk r (mirror (arrOf Ct) (lo+m-(MV+1)) (lo+m) ((lo+m-(lo+m-(MV+1))) / 2)) k=Rk r (arrOf Ct) k:=fun k=>by
     rw[ES hsz];split
     ·rw[he _ (by lia) (by lia),he k (by lia) (by lia)]
     ·rfl
    intro i j g1 g2 g3;show Rk r (mirror (arrOf Ct) _ _ _) j<=Rk r (mirror (arrOf Ct) _ _ _) i;rw[hR,hR];exact Xm i j g1 g2 g3
   ·rw[if_neg hneq];exact tail _ ⟨Lf,Xm⟩
theorem MN{xs:Array Keyed}{src d:Nat}(hs:src<xs.size)(hd:d<=src)(k:Nat):Rk r (bubble xs src d) k=if k=src-d then Rk r xs src else if src-d<k/\k<=src then Rk r xs (k-1)else Rk r xs k:=by
 have e:=getElem?_bubble hs d hd k;by_cases h1:k=src-d
 ·rw[if_pos h1]at e ⊢;exact GF e
 ·rw[if_neg h1]at e ⊢;by_cases h2:src-d<k/\k<=src
  ·rw[if_pos h2]at e ⊢;exact GF e
  ·rw[if_neg h2]at e ⊢;exact GF e
theorem Kb(hc:CmpOk prog w A s a₀ r k0){st:SortSt}(hB:SB a₀ k0 st){lo n ok:Nat}(h2:lo+n<=a₀.size)(hok:ok<=n)(hU:Up r (arrOf st) lo (lo+ok)){Q:Bool->SortSt->Prop}(h:∀AR,Kp a₀ k0 lo st AR->Up r (arrOf AR) lo (lo+n)->Q true AR):wpS (model prog w) A E s (JU lo n ok) Q st:=by
 unfold JU;refine wpS_bind (wpS_mono (wpS_forRange (I:=fun k c AR=>c=(none,())/\Kp a₀ k0 lo st AR/\Up r (arrOf AR) lo (lo+min k n))
  (Q:=fun c AR=>c=(none,())/\Kp a₀ k0 lo st AR/\Up r (arrOf AR) lo (lo+n)) ?_ ?_ ⟨rfl,Kp.refl hB,?_⟩) ?_)
 ·rintro k c Bp RT FU ⟨rfl,hK,Zk⟩;have e:min k n=k:=by lia
  rw[e]at Zk;have hsz:lo+k<(arrOf Bp).size:=by rw[hK.base.size];lia
  dsimp only;refine wpS_bind (wpS_mono (wpS_forRange (I:=fun x c AR=>AR=Bp/\∃l u,c=(none,l,u)/\l<=u/\u<=k/\u-l<=k-x/\(∀i,i<l->Rk r (arrOf Bp) (lo+i)<=Rk r (arrOf Bp) (lo+k))/\∀i,u<=i->i<k->Rk r (arrOf Bp) (lo+k)<Rk r (arrOf Bp) (lo+i))
   (Q:=fun c AR=>AR=Bp/\∃l u,c=(none,l,u)/\l<=k/\(∀i,i<l->Rk r (arrOf Bp) (lo+i)<=Rk r (arrOf Bp) (lo+k))/\∀i,l<=i->i<k->Rk r (arrOf Bp) (lo+k)<Rk r (arrOf Bp) (lo+i)) ?_ ?_ ⟨rfl,0,k,rfl,by lia,by lia,by lia,fun i hi=>by lia,fun i g1 g2=>by lia⟩) ?_)
  ·rintro x c Ct Si RU ⟨rfl,l,u,rfl,g1,g2,g3,g4,g5⟩;dsimp only;by_cases Jl:l≥u
   ·rw[if_pos Jl];exact wpS_pure ⟨rfl,l,u,rfl,by lia,g4,fun i q1 q2=>g5 i (by lia) q2⟩
   ·rw[if_neg Jl];refine wpS_bind (ET hc hK.base (by lia) (by lia) ?_);dsimp only;by_cases hl:Rk r (arrOf Ct) (lo+k)<Rk r (arrOf Ct) (lo+(l+u) / 2)
    ·rw[decide_eq_true hl,if_pos rfl];refine wpS_pure ⟨rfl,l,(l+u) / 2,rfl,by lia,by lia,by lia,g4,fun i q1 q2=>?_⟩
     have:=Zk (lo+(l+u) / 2) (lo+i) (by lia) (by lia) (by lia)
     lia
    ·rw[decide_eq_false hl,if_neg (by decide)];refine wpS_pure ⟨rfl,(l+u) / 2+1,u,rfl,by lia,by lia,by lia,fun i q1=>?_,g5⟩
     have:=Zk (lo+i) (lo+(l+u) / 2) (by lia) (by lia) (by lia)
     lia
  ·rintro c Ct ⟨rfl,l,u,rfl,g1,g2,g3,g4,g5⟩;exact⟨rfl,l,u,rfl,by lia,g4,fun i q1 q2=>g5 i (by lia) q2⟩
  ·rintro c Ct ⟨rfl,l,u,rfl,g1,g2,g3⟩;dsimp only;refine wpS_bind (wpS_modify (wpS_pure ⟨rfl,hK.trans ⟨hK.base.setArr (bubble_perm _ (lo+k) (lo+k-(lo+l))),rfl,fun q hq=>?_⟩,?_⟩))
   ·show(bubble (arrOf Ct) (lo+k) (lo+k-(lo+l)))[q]?=_;rw[getElem?_bubble hsz _ (by lia),if_neg (by lia),if_neg (by lia)]
   ·have e1:min (k+1) n=k+1:=by lia
    rw[e1];intro i j q1 q2 q3;show Rk r (bubble (arrOf Ct) (lo+k) (lo+k-(lo+l))) i<=Rk r (bubble (arrOf Ct) (lo+k) (lo+k-(lo+l))) j;rw[MN hsz (by lia),MN hsz (by lia),show lo+k-(lo+k-(lo+l))=lo+l by lia];have a1:∀i,lo<=i->i<lo+l->Rk r (arrOf Ct) i<=Rk r (arrOf Ct) (lo+k):=fun i z1 z2=>by
     have:=g2 (i-lo) (by lia)
     rwa [show lo+(i-lo)=i by lia]at this
    have a2:∀i,lo+l<=i->i<lo+k->Rk r (arrOf Ct) (lo+k)<Rk r (arrOf Ct) i:=fun i z1 z2=>by
     have:=g3 (i-lo) (by lia) (by lia)
     rwa [show lo+(i-lo)=i by lia]at this
    repeat' split
    all_goals first
     |(exfalso;lia)
     |exact Nat.le_refl _
     |exact Nat.le_of_lt (a2 _ (by lia) (by lia))
     |exact a1 _ (by lia) (by lia)
     |exact Zk _ _ (by lia) (by lia) (by lia)
 ·rintro c Bp ⟨rfl,hK,Zk⟩;refine⟨rfl,hK,?_⟩;have e:min (max (max ok 1) n) n=n:=by lia
  rwa [e]at Zk
 ·intro i j g1 g2 g3;by_cases h0:ok=0
  ·obtain rfl:i=j:=by lia
   exact Nat.le_refl _
  ·exact hU i j g1 g2 (by lia)
 ·rintro c Bp ⟨rfl,hK,Zk⟩;exact wpS_pure (h Bp hK Zk)
def Bf(r:Keyed->Nat)(left:Bool)(key:Keyed)(xs:Array Keyed)(i:Nat):Bool:=if left then decide (Rk r xs i<r key)else !decide (r key<Rk r xs i)
theorem ZT{left:Bool}{key:Keyed}{xs:Array Keyed}{a b i j:Nat}(hU:Up r xs a b)(h1:a<=i)(h2:i<=j)(h3:j<b)(h:Bf r left key xs j=true):Bf r left key xs i=true:=by
 have:=hU i j h1 h2 h3
 unfold Bf at *;cases left
 ·simp at *;lia
 ·simp at *;lia
theorem KG(hc:CmpOk prog w A s a₀ r k0){st:SortSt}(hB:SB a₀ k0 st){left:Bool}{key:Keyed}{xs:Array Keyed}{base n hint:Nat}(hk:key∈a₀.toList)(hx:∀p∈xs.toList,p∈a₀.toList)(hsz:base+n<=xs.size)(hh:hint<n)(hU:Up r xs base (base+n)){Q:Option Nat->SortSt->Prop}(h:∀k,k<=n->(∀i,i<k->Bf r left key xs (base+i)=true)->(∀i,k<=i->i<n->Bf r left key xs (base+i)=false)->Q (some k) st):wpS (model prog w) A E s (Jo left key xs base n hint) Q st:=by
 have beyond:∀(i:Nat)(Q:Option Bool->SortSt->Prop),i<n->Q (some (Bf r left key xs (base+i))) st->wpS (model prog w) A E s (do
   let x <-elem' xs (base+i)
   if left then lt' x key else return (<-lt' key x).map (!·)) Q st:=by
  intro i Q hi hQ;have e:xs[base+i]?=some (xs[base+i]'(by lia)):=getElem?_pos _ _ (by lia);have hm:(xs[base+i]'(by lia))∈a₀.toList:=hx _ (Array.mem_toList_iff.mpr (Array.mem_of_getElem? e));refine wpS_bind (An e ?_);unfold Bf at hQ;rw[SH e]at hQ;cases left with
  |true=>
   rw[if_pos rfl]at hQ ⊢;exact KP hc hB hm hk hQ
  |false=>
   rw[if_neg (by decide)]at hQ ⊢;exact wpS_bind (KP hc hB hk hm (wpS_pure hQ))
 have mono:∀i j,i<=j->j<n->Bf r left key xs (base+j)=true->Bf r left key xs (base+i)=true:=fun i j g1 g2 g3=>ZT hU (by lia) (by lia) (by lia) g3;have Rh:∀i j,i<=j->j<n->Bf r left key xs (base+i)=false->Bf r left key xs (base+j)=false:=fun i j g1 g2 g3=>by
  cases e:Bf r left key xs (base+j)with
  |false=>rfl
  |true=>rw[mono i j g1 g2 e]at g3;cases g3
 unfold Jo;refine wpS_bind (beyond hint _ hh ?_);dsimp only;cases hr:Bf r left key xs (base+hint)with
 |true=>
  rw[if_pos rfl];refine wpS_bind (wpS_mono (wpS_forRange (I:=fun x c AR=>AR=st/\∃la o,c=(none,la,o)/\la<o/\x+1<=o/\la<n-hint/\Bf r left key xs (base+(hint+la))=true)
   (Q:=fun c AR=>AR=st/\∃la o,c=(none,la,o)/\la<o/\la<n-hint/\Bf r left key xs (base+(hint+la))=true/\(n-hint<=o\/Bf r left key xs (base+(hint+o))=false)) ?_ ?_ ⟨rfl,0,1,rfl,by lia,by lia,by lia,hr⟩) ?_)
  ·rintro x c AR Si RU ⟨rfl,la,o,rfl,g1,g2,g3,g4⟩;dsimp only;by_cases Jl:o≥n-hint
   ·rw[if_pos Jl];exact wpS_pure ⟨rfl,la,o,rfl,g1,g3,g4,.inl Jl⟩
   ·rw[if_neg Jl];refine wpS_bind (beyond (hint+o) _ (by lia) ?_);dsimp only;cases hb:Bf r left key xs (base+(hint+o))with
    |true=>
     rw[if_neg (by decide)];exact wpS_pure ⟨rfl,o,2*o+1,rfl,by lia,by lia,by lia,hb⟩
    |false=>
     rw[if_pos (by decide)];exact wpS_pure ⟨rfl,la,o,rfl,g1,g3,g4,.inr hb⟩
  ·rintro c AR ⟨rfl,la,o,rfl,g1,g2,g3,g4⟩;exact⟨rfl,la,o,rfl,g1,g3,g4,.inl (by lia)⟩
  rintro c AR ⟨rfl,la,o,rfl,g1,g3,g4,g5⟩;dsimp only;have t1:∀i,i<hint+la+1->Bf r left key xs (base+i)=true:=fun i hi=>mono i (hint+la) (by lia) (by lia) g4;have t2:∀i,hint+min o (n-hint)<=i->i<n->Bf r left key xs (base+i)=false:=fun i q1 q2=>by
   rcases g5 with z|z
   ·lia
   ·exact Rh (hint+o) i (by lia) q2 z
  refine wpS_bind (wpS_mono (wpS_forRange (I:=fun x c Bp=>Bp=AR/\∃l u,c=(none,l,u)/\l<=u/\u<=n/\u-l<=n-x/\(∀i,i<l->Bf r left key xs (base+i)=true)/\∀i,u<=i->i<n->Bf r left key xs (base+i)=false)
   (Q:=fun c Bp=>Bp=AR/\∃l u,c=(none,l,u)/\u<=n/\(∀i,i<u->Bf r left key xs (base+i)=true)/\∀i,u<=i->i<n->Bf r left key xs (base+i)=false) ?_ ?_ ⟨rfl,_,_,rfl,by lia,by lia,by lia,t1,t2⟩) ?_)
  ·rintro x c Bp Si RU ⟨rfl,l,u,rfl,q1,q2,q3,q4,q5⟩;dsimp only;by_cases Jl:l≥u
   ·rw[if_pos Jl];exact wpS_pure ⟨rfl,l,u,rfl,q2,fun i hi=>q4 i (by lia),q5⟩
   ·rw[if_neg Jl];refine wpS_bind (beyond (l+(u-l) / 2) _ (by lia) ?_);dsimp only;cases hb:Bf r left key xs (base+(l+(u-l) / 2))with
    |true=>
     rw[if_pos rfl];exact wpS_pure ⟨rfl,_,_,rfl,by lia,by lia,by lia,fun i hi=>mono i (l+(u-l) / 2) (by lia) (by lia) hb,q5⟩
    |false=>
     rw[if_neg (by decide)];exact wpS_pure ⟨rfl,_,_,rfl,by lia,by lia,by lia,q4,fun i z1 z2=>Rh (l+(u-l) / 2) i z1 z2 hb⟩
  ·rintro c Bp ⟨rfl,l,u,rfl,q1,q2,q3,q4,q5⟩;exact⟨rfl,l,u,rfl,q2,fun i hi=>q4 i (by lia),q5⟩
  ·rintro c Bp ⟨rfl,l,u,rfl,q2,q4,q5⟩;exact wpS_pure (h u q2 q4 q5)
 |false=>
  rw[if_neg (by decide)];refine wpS_bind (wpS_mono (wpS_forRange (I:=fun x c AR=>AR=st/\∃la o,c=(none,la,o)/\la<o/\x+1<=o/\la<hint+1/\Bf r left key xs (base+(hint-la))=false)
   (Q:=fun c AR=>AR=st/\∃la o,c=(none,la,o)/\la<o/\la<hint+1/\Bf r left key xs (base+(hint-la))=false/\(hint+1<=o\/Bf r left key xs (base+(hint-o))=true)) ?_ ?_ ⟨rfl,0,1,rfl,by lia,by lia,by lia,hr⟩) ?_)
  ·rintro x c AR Si RU ⟨rfl,la,o,rfl,g1,g2,g3,g4⟩;dsimp only;by_cases Jl:o≥hint+1
   ·rw[if_pos Jl];exact wpS_pure ⟨rfl,la,o,rfl,g1,g3,g4,.inl Jl⟩
   ·rw[if_neg Jl];refine wpS_bind (beyond (hint-o) _ (by lia) ?_);dsimp only;cases hb:Bf r left key xs (base+(hint-o))with
    |true=>
     rw[if_pos rfl];exact wpS_pure ⟨rfl,la,o,rfl,g1,g3,g4,.inr hb⟩
    |false=>
     rw[if_neg (by decide)];exact wpS_pure ⟨rfl,o,2*o+1,rfl,by lia,by lia,by lia,hb⟩
  ·rintro c AR ⟨rfl,la,o,rfl,g1,g2,g3,g4⟩;exact⟨rfl,la,o,rfl,g1,g3,g4,.inl (by lia)⟩
  rintro c AR ⟨rfl,la,o,rfl,g1,g3,g4,g5⟩;dsimp only;have t1:∀i,i<hint+1-min o (hint+1)->Bf r left key xs (base+i)=true:=fun i hi=>by
   rcases g5 with z|z
   ·lia
   ·exact mono i (hint-o) (by lia) (by lia) z
  have t2:∀i,hint-la<=i->i<n->Bf r left key xs (base+i)=false:=fun i q1 q2=>Rh (hint-la) i q1 q2 g4;refine wpS_bind (wpS_mono (wpS_forRange (I:=fun x c Bp=>Bp=AR/\∃l u,c=(none,l,u)/\l<=u/\u<=n/\u-l<=n-x/\(∀i,i<l->Bf r left key xs (base+i)=true)/\∀i,u<=i->i<n->Bf r left key xs (base+i)=false)
   (Q:=fun c Bp=>Bp=AR/\∃l u,c=(none,l,u)/\u<=n/\(∀i,i<u->Bf r left key xs (base+i)=true)/\∀i,u<=i->i<n->Bf r left key xs (base+i)=false) ?_ ?_ ⟨rfl,_,_,rfl,by lia,by lia,by lia,t1,t2⟩) ?_)
  ·rintro x c Bp Si RU ⟨rfl,l,u,rfl,q1,q2,q3,q4,q5⟩;dsimp only;by_cases Jl:l≥u
   ·rw[if_pos Jl];exact wpS_pure ⟨rfl,l,u,rfl,q2,fun i hi=>q4 i (by lia),q5⟩
   ·rw[if_neg Jl];refine wpS_bind (beyond (l+(u-l) / 2) _ (by lia) ?_);dsimp only;cases hb:Bf r left key xs (base+(l+(u-l) / 2))with
    |true=>
     rw[if_pos rfl];exact wpS_pure ⟨rfl,_,_,rfl,by lia,by lia,by lia,fun i hi=>mono i (l+(u-l) / 2) (by lia) (by lia) hb,q5⟩
    |false=>
     rw[if_neg (by decide)];exact wpS_pure ⟨rfl,_,_,rfl,by lia,by lia,by lia,q4,fun i z1 z2=>Rh (l+(u-l) / 2) i z1 z2 hb⟩
  ·rintro c Bp ⟨rfl,l,u,rfl,q1,q2,q3,q4,q5⟩;exact⟨rfl,l,u,rfl,q2,fun i hi=>q4 i (by lia),q5⟩
  ·rintro c Bp ⟨rfl,l,u,rfl,q2,q4,q5⟩;exact wpS_pure (h u q2 q4 q5)
def le(r:Keyed->Nat)(x y:Keyed):Prop:=r x<=r y
abbrev Srt(r:Keyed->Nat)(l:List Keyed):Prop:=l.Pairwise (le r)
theorem Dz{xs:Array Keyed}{i:Nat}{p:Keyed}(h:xs.toList[i]?=some p):Rk r xs i=r p:=SH (by rw[<-Array.getElem?_toList];exact h)
theorem aF{xs:Array Keyed}{base n:Nat}(hsz:base+n<=xs.size)(h:Srt r ((xs.toList.drop base).take n)):Up r xs base (base+n):=by
 intro i j g1 g2 g3;by_cases e:i=j
 ·subst e;exact Nat.le_refl _
 have hl:xs.toList.length=xs.size:=Array.length_toList;have hi:((xs.toList.drop base).take n)[i-base]?=some (xs.toList[i]'(by lia)):=by
  rw[List.getElem?_take,if_pos (by lia),List.getElem?_drop,show base+(i-base)=i by lia,List.getElem?_eq_getElem]
 have hj:((xs.toList.drop base).take n)[j-base]?=some (xs.toList[j]'(by lia)):=by
  rw[List.getElem?_take,if_pos (by lia),List.getElem?_drop,show base+(j-base)=j by lia,List.getElem?_eq_getElem]
 obtain⟨jH,oo⟩:=List.getElem?_eq_some_iff.mp hi;obtain⟨gc,dg⟩:=List.getElem?_eq_some_iff.mp hj
 have:=List.pairwise_iff_getElem.mp h (i-base) (j-base) jH gc (by lia)
 rw[oo,dg]at this;rw[Dz (List.getElem?_eq_getElem (show i<xs.toList.length by lia)),Dz (List.getElem?_eq_getElem (show j<xs.toList.length by lia))];exact this
theorem Fj(hc:CmpOk prog w A s a₀ r k0){st:SortSt}(hB:SB a₀ k0 st){key:Keyed}{xs:Array Keyed}{base n hint:Nat}(hk:key∈a₀.toList)(hx:∀p∈xs.toList,p∈a₀.toList)(hsz:base+n<=xs.size)(hh:hint<n)(hS:Srt r ((xs.toList.drop base).take n)){Q:Option Nat->SortSt->Prop}(h:∀k,k<=n->(∀c∈(xs.toList.drop base).take k,r c<=r key)->(∀c∈((xs.toList.drop base).take n).drop k,r key<r c)->Q (some k) st):wpS (model prog w) A E s (Jo false key xs base n hint) Q st:=by
 refine KG hc hB hk hx hsz hh (aF hsz hS) fun k HE h1 h2=>h k HE (fun c R6=>?_) fun c R6=>?_
 ·obtain⟨i,hi⟩:=List.mem_iff_getElem?.mp R6;rw[List.getElem?_take]at hi;split at hi
  ·rename_i BC;rw[List.getElem?_drop]at hi
   have:=h1 i BC
   unfold Bf at this;rw[Dz hi]at this;simp at this;exact this
  ·cases hi
 ·obtain⟨i,hi⟩:=List.mem_iff_getElem?.mp R6;rw[List.getElem?_drop,List.getElem?_take]at hi;split at hi
  ·rename_i BC;rw[List.getElem?_drop]at hi
   have:=h2 (k+i) (by lia) BC
   unfold Bf at this;rw[Dz hi]at this;simp at this;exact this
  ·cases hi
theorem Fz(hc:CmpOk prog w A s a₀ r k0){st:SortSt}(hB:SB a₀ k0 st){key:Keyed}{xs:Array Keyed}{base n hint:Nat}(hk:key∈a₀.toList)(hx:∀p∈xs.toList,p∈a₀.toList)(hsz:base+n<=xs.size)(hh:hint<n)(hS:Srt r ((xs.toList.drop base).take n)){Q:Option Nat->SortSt->Prop}(h:∀k,k<=n->(∀c∈(xs.toList.drop base).take k,r c<r key)->(∀c∈((xs.toList.drop base).take n).drop k,r key<=r c)->Q (some k) st):wpS (model prog w) A E s (Jo true key xs base n hint) Q st:=by
 refine KG hc hB hk hx hsz hh (aF hsz hS) fun k HE h1 h2=>h k HE (fun c R6=>?_) fun c R6=>?_
 ·obtain⟨i,hi⟩:=List.mem_iff_getElem?.mp R6;rw[List.getElem?_take]at hi;split at hi
  ·rename_i BC;rw[List.getElem?_drop]at hi
   have:=h1 i BC
   unfold Bf at this;rw[Dz hi]at this;simpa using this
  ·cases hi
 ·obtain⟨i,hi⟩:=List.mem_iff_getElem?.mp R6;rw[List.getElem?_drop,List.getElem?_take]at hi;split at hi
  ·rename_i BC;rw[List.getElem?_drop]at hi
   have:=h2 (k+i) (by lia) BC
   unfold Bf at this;rw[Dz hi]at this;simpa using this
  ·cases hi
theorem Pr{out C LA LB:List Keyed}(h1:Srt r (out++LA))(h2:Srt r (out++(C++LB)))(h3:∀c∈C,∀y∈LA,r c<=r y):Srt r ((out++C)++LA)/\Srt r ((out++C)++LB):=by
 constructor
 ·rw[List.append_assoc];obtain⟨a1,a2,a3⟩:=List.pairwise_append.mp h1;obtain⟨b1,b2,b3⟩:=List.pairwise_append.mp h2;obtain⟨c1,c2,c3⟩:=List.pairwise_append.mp b2;refine List.pairwise_append.mpr ⟨a1,List.pairwise_append.mpr ⟨c1,a2,h3⟩,fun x hx y hy=>?_⟩;rcases List.mem_append.mp hy with hy|hy
  ·exact b3 x hx y (List.mem_append_left _ hy)
  ·exact a3 x hx y hy
 ·rw[List.append_assoc];exact h2
structure ML (r:Keyed->Nat) (la lb out:List Keyed) (ia ib:Nat):Prop where
 perm:out.Perm (la.take ia++lb.take ib)
 sa:Srt r (out++la.drop ia)
 sb:Srt r (out++lb.drop ib)
theorem ML.pushB{la lb out:List Keyed}{ia ib k:Nat}(h:ML r la lb out ia ib)(hle:∀c∈(lb.drop ib).take k,∀y∈la.drop ia,r c<=r y):ML r la lb (out++(lb.drop ib).take k) ia (ib+k):=by
 have e:(lb.drop ib).take k++lb.drop (ib+k)=lb.drop ib:=by rw[<-List.drop_drop,List.take_append_drop]
 obtain⟨p1,p2⟩:=Pr (C:=(lb.drop ib).take k) (LB:=lb.drop (ib+k)) h.sa (by rw[e];exact h.sb) hle;refine⟨?_,p1,p2⟩;rw[List.take_add,<-List.append_assoc];exact h.perm.append_right _
theorem ML.pushA{la lb out:List Keyed}{ia ib k:Nat}(h:ML r la lb out ia ib)(hle:∀c∈(la.drop ia).take k,∀y∈lb.drop ib,r c<=r y):ML r la lb (out++(la.drop ia).take k) (ia+k) ib:=by
 have e:(la.drop ia).take k++la.drop (ia+k)=la.drop ia:=by rw[<-List.drop_drop,List.take_append_drop]
 obtain⟨p1,p2⟩:=Pr (C:=(la.drop ia).take k) (LB:=la.drop (ia+k)) h.sb (by rw[e];exact h.sa) hle;refine⟨?_,p2,p1⟩;rw[List.take_add,List.append_assoc];refine(h.perm.append_right _).trans ?_;rw[List.append_assoc];exact List.Perm.append_left _ List.perm_append_comm
structure Mg (r:Keyed->Nat) (la lb out:List Keyed):Prop where
 perm:out.Perm (la++lb)
 srt:Srt r out
theorem ML.doneB{la lb out:List Keyed}{ia ib:Nat}(h:ML r la lb out ia ib)(hb:lb.length<=ib):Mg r la lb (out++la.drop ia++lb.drop ib):=by
 have e:lb.drop ib=[]:=List.drop_eq_nil_of_le hb;rw[e,List.append_nil];refine⟨?_,h.sa⟩
 have:=h.perm.append_right (la.drop ia)
 rw[List.take_of_length_le hb]at this;refine this.trans ?_;rw[List.append_assoc];refine(List.Perm.append_left _ List.perm_append_comm).trans ?_;rw[<-List.append_assoc,List.take_append_drop]
theorem ML.doneA{la lb out:List Keyed}{ia ib:Nat}(h:ML r la lb out ia ib)(ha:la.length<=ia):Mg r la lb (out++la.drop ia++lb.drop ib):=by
 have e:la.drop ia=[]:=List.drop_eq_nil_of_le ha;rw[e,List.append_nil];refine⟨?_,h.sb⟩
 have:=h.perm.append_right (lb.drop ib)
 rw[List.take_of_length_le ha]at this;refine this.trans ?_;rw[List.append_assoc,List.take_append_drop]
theorem ML.lastA{la lb out:List Keyed}{ia ib:Nat}(h:ML r la lb out ia ib)(ha:ia+1=la.length)(hl:∀x,la[la.length-1]?=some x->∀y∈lb,r y<=r x):Mg r la lb (out++lb.drop ib++la.drop ia):=by
 have hd:∀x∈la.drop ia,∀y∈lb,r y<=r x:=fun x hx=>by
  obtain⟨i,hi⟩:=List.mem_iff_getElem?.mp hx;rw[List.getElem?_drop]at hi
  have:=(List.getElem?_eq_some_iff.mp hi).1
  have e:ia+i=la.length-1:=by lia
  rw[e]at hi;exact hl x hi
 constructor
 ·have:=(h.perm.append_right (lb.drop ib)).append_right (la.drop ia)
  refine this.trans ?_;rw[List.append_assoc,List.append_assoc,<-List.append_assoc (lb.take ib),List.take_append_drop];refine(List.Perm.append_left _ List.perm_append_comm).trans ?_;rw[<-List.append_assoc,List.take_append_drop]
 ·obtain⟨a1,a2,a3⟩:=List.pairwise_append.mp h.sa;obtain⟨b1,b2,b3⟩:=List.pairwise_append.mp h.sb;refine List.pairwise_append.mpr ⟨h.sb,a2,fun x hx y hy=>?_⟩;rcases List.mem_append.mp hx with hx|hx
  ·exact a3 x hx y hy
  ·exact hd y hy x (List.mem_of_mem_drop hx)
structure Gl (a₀:Array Keyed) (k0:SortKind) (st AR:SortSt):Prop where
 base:SB a₀ k0 AR
 arr:arrOf AR=arrOf st
 pend:pendingOf AR=pendingOf st
theorem Gl.refl{st:SortSt}(h:SB a₀ k0 st):Gl a₀ k0 st st:=⟨h,rfl,rfl⟩
theorem EY(a:Array Keyed)(i:Nat):(a.extract i).toList=a.toList.drop i:=by simp[List.take_of_length_le]
theorem GP(a:Array Keyed)(i k:Nat):(a.extract i (i+k)).toList=(a.toList.drop i).take k:=by simp
theorem JD{a:Array Keyed}{i:Nat}(h:i<a.size):∃p,a[i]?=some p/\a.toList[i]?=some p/\p∈a.toList/\a.toList.drop i=p::a.toList.drop (i+1):=by
 have hl:i<a.toList.length:=by rw[Array.length_toList];exact h
 refine⟨a.toList[i],?_,List.getElem?_eq_getElem hl,List.getElem_mem hl,List.drop_eq_getElem_cons hl⟩;rw[<-Array.getElem?_toList];exact List.getElem?_eq_getElem hl
theorem Gp{X Y:List Keyed}(h:Srt r (X++Y)):Srt r Y:=(List.pairwise_append.mp h).2.1
structure Hid (P:Prop):Prop where
 h:P
theorem Ih{P Q:Prop}(c:Hid P->Q)(k:P):Q:=c ⟨k⟩
theorem Ot(hc:CmpOk prog w A s a₀ r k0){st:SortSt}(hB:SB a₀ k0 st){a b:Array Keyed}(ha:∀p∈a.toList,p∈a₀.toList)(hb:∀p∈b.toList,p∈a₀.toList)(sa:Srt r a.toList)(sb:Srt r b.toList)(za:1<=a.size)(zb:1<=b.size)(hf:∀x y,a[0]?=some x->b[0]?=some y->r y<=r x)(hl:∀x,a.toList[a.toList.length-1]?=some x->∀y∈b.toList,r y<=r x){Q:Array Keyed->SortSt->Prop}(h:∀out AR,Mg r a.toList b.toList out.toList->Gl a₀ k0 st AR->Q out AR):wpS (model prog w) A E s (Ny a b) Q st:=by
 unfold Ny;refine wpS_bind (wpS_lift (wpAny_rule ⟨rfl,?_⟩));have lH:a.toList.length=a.size:=Array.length_toList;have qm:b.toList.length=b.size:=Array.length_toList;obtain⟨y0,k9,rN,rM,jn⟩:=JD (a:=b) (i:=0) (by lia);obtain⟨x0,Yq,Si,RU,fV⟩:=JD (a:=a) (i:=0) (by lia);rw[List.drop_zero]at jn fV;have jZ:ML r a.toList b.toList (#[y0]:Array Keyed).toList 0 1:=by
  refine⟨?_,?_,?_⟩
  ·rw[jn];simp
  ·show Srt r ([y0]++a.toList.drop 0);rw[List.drop_zero];refine List.pairwise_append.mpr ⟨List.pairwise_singleton _ _,sa,fun u hu v hv=>?_⟩;rw[List.mem_singleton.mp hu];have h0:=hf x0 y0 Yq k9;rw[fV]at hv sa;rcases List.mem_cons.mp hv with rfl|hv
   ·exact h0
   ·exact Nat.le_trans h0 ((List.pairwise_cons.mp sa).1 v hv)
  ·show Srt r ([y0]++b.toList.drop 1);have:[y0]++b.toList.drop (0+1)=b.toList:=jn.symm;rw[Nat.zero_add]at this;rw[this];exact sb
 refine wpS_bind (An k9 ?_);dsimp only;have Nt:∀{out:Array Keyed}{ia ib:Nat},ML r a.toList b.toList out.toList ia ib->b.size<=ib->Mg r a.toList b.toList (out++a.extract ia++b.extract ib).toList:=fun hm hb=>by
  rw[Array.toList_append,Array.toList_append,EY,EY];exact hm.doneB (by lia)
 have dH:∀{out:Array Keyed}{ia ib:Nat},ML r a.toList b.toList out.toList ia ib->a.size<=ia->Mg r a.toList b.toList (out++a.extract ia++b.extract ib).toList:=fun hm hb=>by
  rw[Array.toList_append,Array.toList_append,EY,EY];exact hm.doneA (by lia)
 have Mc:∀{out:Array Keyed}{ia ib:Nat},ML r a.toList b.toList out.toList ia ib->ia+1=a.size->Mg r a.toList b.toList (out++b.extract ib++a.extract ia).toList:=fun hm hb=>by
  rw[Array.toList_append,Array.toList_append,EY,EY];exact hm.lastA (by lia) hl
 have pB:∀{out:Array Keyed}{ia ib:Nat}{p:Keyed},ML r a.toList b.toList out.toList ia ib->b.toList.drop ib=p::b.toList.drop (ib+1)->(∀y∈a.toList.drop ia,r p<=r y)->ML r a.toList b.toList (out.push p).toList ia (ib+1):=fun {out ia ib p} hm hd hle=>by
  have:=hm.pushB (k:=1) (fun c hc y hy=>by rw[hd]at hc;simp at hc;subst hc;exact hle y hy)
  rw[hd]at this;rw[Array.toList_push];simpa using this
 have pA:∀{out:Array Keyed}{ia ib:Nat}{p:Keyed},ML r a.toList b.toList out.toList ia ib->a.toList.drop ia=p::a.toList.drop (ia+1)->(∀y∈b.toList.drop ib,r p<=r y)->ML r a.toList b.toList (out.push p).toList (ia+1) ib:=fun {out ia ib p} hm hd hle=>by
  have:=hm.pushA (k:=1) (fun c hc y hy=>by rw[hd]at hc;simp at hc;subst hc;exact hle y hy)
  rw[hd]at this;rw[Array.toList_push];simpa using this
 by_cases Sk:1=b.size
 ·rw[if_pos (by simpa using Sk)];exact wpS_pure (h _ _ (Nt jZ (by lia)) (Gl.refl hB))
 rw[if_neg (by simpa using Sk)];by_cases Xo:0+1=a.size
 ·rw[if_pos (by simpa using Xo)];exact wpS_pure (h _ _ (Mc jZ Xo) (Gl.refl hB))
 rw[if_neg (by simpa using Xo)];refine wpS_bind (wpS_get ?_);refine wpS_bind (wpS_mono (wpS_forRange (I:=fun x c AR=>∃out ia ib mg,c=(none,out,ia,ib,mg)/\Gl a₀ k0 st AR/\ML r a.toList b.toList out.toList ia ib/\ia+1<a.size/\ib<b.size/\x+1<=ia+ib)
  (Q:=fun c AR=>∃res rest,c=(some res,rest)/\Gl a₀ k0 st AR/\Mg r a.toList b.toList res.toList) ?_ ?_ ⟨_,_,_,_,rfl,Gl.refl hB,jZ,by lia,by lia,by lia⟩) ?_)
 rotate_left
 ·rintro c AR ⟨out,ia,ib,mg,rfl,hG,hM,g1,g2,g3⟩;lia
 ·rintro c AR ⟨res,rest,rfl,hG,hM⟩;exact wpS_pure (h res AR hM hG)
 rintro x c Bp _ _ ⟨out,ia,ib,mg,rfl,hG,hM,g1,g2,g3⟩;dsimp only;refine wpS_bind (wpS_mono (wpS_forRange (I:=fun y c AR=>∃GL Rg Se ac bc,c=(none,GL,Rg,Se,ac,bc)/\Gl a₀ k0 st AR/\ML r a.toList b.toList GL.toList Rg Se/\Rg+1<a.size/\Se<b.size/\ia+ib+y<=Rg+Se)
  (Q:=fun c AR=>(∃GL Rg Se ac bc,c=(none,GL,Rg,Se,ac,bc)/\Gl a₀ k0 st AR/\ML r a.toList b.toList GL.toList Rg Se/\Rg+1<a.size/\Se<b.size/\ia+ib+1<=Rg+Se)\/∃res rest,c=(some res,rest)/\Gl a₀ k0 st AR/\Mg r a.toList b.toList res.toList) ?_ ?_ ⟨_,_,_,_,_,rfl,hG,hM,g1,g2,by lia⟩) ?_)
 ·rintro y c Ct _ _ ⟨GL,Rg,Se,ac,bc,rfl,FY,hM1,q1,q2,q3⟩;obtain⟨u,Cy,Y7,OV,UA⟩:=JD (a:=b) (i:=Se) q2;obtain⟨v,VG,gT,cX,UM⟩:=JD (a:=a) (i:=Rg) (by lia);dsimp only;refine wpS_bind (An Cy (wpS_bind (An VG (wpS_bind (KP hc FY.base (hb u OV) (ha v cX) ?_)))));dsimp only;have Wy:=Gp hM1.sa;have WJ:=Gp hM1.sb;rw[UM]at Wy;rw[UA]at WJ;by_cases BC:r u<r v
  ·rw[decide_eq_true BC,if_pos rfl];refine wpS_bind (An Cy ?_);have hM2:=pB hM1 UA (fun z hz=>by
    rw[UM]at hz;rcases List.mem_cons.mp hz with rfl|hz
    ·lia
    ·exact Nat.le_trans (Nat.le_of_lt BC) ((List.pairwise_cons.mp Wy).1 z hz))
   try dsimp only
   by_cases e1:Se+1=b.size
   ·rw[if_pos (by simpa using e1)];exact wpS_pure (.inr ⟨_,_,rfl,FY,Nt hM2 (by lia)⟩)
   ·rw[if_neg (by simpa using e1)];by_cases e2:bc+1≥mg
    ·rw[if_pos e2];exact wpS_pure (.inl ⟨_,_,_,_,_,rfl,FY,hM2,q1,by lia,by lia⟩)
    ·rw[if_neg e2];exact wpS_pure ⟨_,_,_,_,_,rfl,FY,hM2,q1,by lia,by lia⟩
  ·rw[decide_eq_false BC,if_neg (by decide)];refine wpS_bind (An VG ?_);have hM2:=pA hM1 UM (fun z hz=>by
    rw[UA]at hz;rcases List.mem_cons.mp hz with rfl|hz
    ·lia
    ·have:=(List.pairwise_cons.mp WJ).1 z hz
     unfold le at this;lia)
   try dsimp only
   by_cases e1:Rg+1+1=a.size
   ·rw[if_pos (by simpa using e1)];exact wpS_pure (.inr ⟨_,_,rfl,FY,Mc hM2 e1⟩)
   ·rw[if_neg (by simpa using e1)];by_cases e2:ac+1≥mg
    ·rw[if_pos e2];exact wpS_pure (.inl ⟨_,_,_,_,_,rfl,FY,hM2,by lia,q2,by lia⟩)
    ·rw[if_neg e2];exact wpS_pure ⟨_,_,_,_,_,rfl,FY,hM2,by lia,q2,by lia⟩
 ·rintro c AR ⟨GL,Rg,Se,ac,bc,rfl,FY,hM1,q1,q2,q3⟩;lia
 rintro c Ct (⟨GL,Rg,Se,ac,bc,rfl,FY,hM1,q1,q2,q3⟩|⟨res,rest,rfl,FY,hM1⟩)
 rotate_left
 ·dsimp only;exact wpS_pure ⟨_,_,rfl,FY,hM1⟩
 dsimp only;refine wpS_bind (wpS_lift (wpAny_rule ⟨rfl,?_⟩));refine wpS_bind (wpS_mono (wpS_forRange (I:=fun y c AR=>∃CV HL GB mg ac bc,c=(none,CV,HL,GB,mg,ac,bc)/\Gl a₀ k0 st AR/\ML r a.toList b.toList CV.toList HL GB/\HL+1<a.size/\GB<b.size/\ia+ib+1<=HL+GB)
  (Q:=fun c AR=>(∃CV HL GB mg ac bc,c=(none,CV,HL,GB,mg,ac,bc)/\Gl a₀ k0 st AR/\ML r a.toList b.toList CV.toList HL GB/\HL+1<a.size/\GB<b.size/\ia+ib+1<=HL+GB)\/∃res rest,c=(some res,rest)/\Gl a₀ k0 st AR/\Mg r a.toList b.toList res.toList) ?_ ?_ ⟨_,_,_,_,_,_,rfl,FY,hM1,q1,q2,q3⟩) ?_)
 ·rintro y c Gz _ _ ⟨CV,HL,GB,Wc,fX,fS,rfl,Fe,hM2,w1,w2,w3⟩;obtain⟨u,Cy,Y7,OV,UA⟩:=JD (a:=b) (i:=GB) w2;dsimp only;have Mn:∀g,Gl a₀ k0 st (SortSt.mk' (kindOf Gz) (arrOf Gz) (pendingOf Gz) g (failedOf Gz)):=fun g=>⟨⟨Fe.base.perm,Fe.base.kind,Fe.base.failed⟩,Fe.arr,Fe.pend⟩;apply Ih
  ·intro key;by_cases Qi:Wc > 1
   ·rw[if_pos Qi];clear Qi;generalize Wc-1=g;revert g;exact key.h
   ·rw[if_neg Qi];clear Qi;generalize Wc=g;revert g;exact key.h
  intro g;apply Ih;intro key;refine wpS_bind (wpS_modify ?_);refine wpS_bind (An Cy (wpS_bind (Fj (base:=HL) (n:=a.size-HL) (hint:=0) hc (Mn _).base (hb u OV) ha (by lia) (by lia) (by rw[List.take_of_length_le (by simp)];exact Gp hM2.sa) fun k hk RT FU=>?_)));dsimp only;have iP:(a.toList.drop HL).take (a.size-HL)=a.toList.drop HL:=List.take_of_length_le (by simp);rw[iP,List.drop_drop]at FU;have WJ:=Gp hM2.sb;rw[UA]at WJ;have hM3:=hM2.pushA (k:=k) fun c hc z hz=>by
   have e1:=RT c hc;rw[UA]at hz;rcases List.mem_cons.mp hz with ez|hz
   ·rw[ez];exact e1
   ·exact Nat.le_trans e1 ((List.pairwise_cons.mp WJ).1 z hz)
  have eo:(CV++a.extract HL (HL+k)).toList=CV.toList++(a.toList.drop HL).take k:=by rw[Array.toList_append,GP]
  rw[<-eo]at hM3
  ·by_cases hk0:k > 0
   ·rw[if_pos hk0];by_cases e1:HL+k+1=a.size
    ·rw[if_pos (by simpa using e1)];exact wpS_pure (.inr ⟨_,_,rfl,Mn _,Mc hM3 e1⟩)
    rw[if_neg (by simpa using e1)];by_cases e2:HL+k=a.size
    ·rw[if_pos (by simpa using e2)];exact wpS_pure (.inr ⟨_,_,rfl,Mn _,dH hM3 (by lia)⟩)
    rw[if_neg (by simpa using e2)];have ZP:HL+k+1<a.size/\ia+ib+1<=HL+k+GB:=by lia
    revert hM3 ZP FU;generalize CV++a.extract HL (HL+k)=ED;generalize HL+k=Z6;generalize k=ZI;revert ED Z6 ZI;exact key.h
   ·rw[if_neg hk0];have Us:k=0:=by lia
    have ZP:HL+1<a.size/\ia+ib+1<=HL+GB:=by lia
    have jf:CV++a.extract HL (HL+0)=CV:=Array.toList_inj.mp (by rw[Array.toList_append,GP];simp);rw[Us,jf,Nat.add_zero]at hM3;rw[Us,Nat.add_zero]at FU;revert hM3 ZP FU;generalize CV=ED;generalize HL=Z6;generalize k=ZI;revert ED Z6 ZI;exact key.h
  intro ED Z6 ZI FU hM3 ZP;refine wpS_bind (An Cy ?_);have hM4:=pB hM3 UA (fun z hz=>Nat.le_of_lt (FU z hz));by_cases e3:GB+1=b.size
  ·rw[if_pos (by simpa using e3)];exact wpS_pure (.inr ⟨_,_,rfl,Mn _,Nt hM4 (by lia)⟩)
  rw[if_neg (by simpa using e3)];obtain⟨v,VG,gT,cX,UM⟩:=JD (a:=a) (i:=Z6) (by lia);apply Ih;intro key;refine wpS_bind (An VG (wpS_bind (Fz (base:=GB+1) (n:=b.size-(GB+1)) (hint:=0) hc (Mn _).base (ha v cX) hb (by lia) (by lia) (by rw[List.take_of_length_le (by simp)];exact Gp hM4.sb) fun k' HE OI Mu=>?_)));dsimp only;have j6:(b.toList.drop (GB+1)).take (b.size-(GB+1))=b.toList.drop (GB+1):=List.take_of_length_le (by simp);rw[j6,List.drop_drop]at Mu;have Wy:=Gp hM4.sa;rw[UM]at Wy;have hM5:=hM4.pushB (k:=k') fun c hc z hz=>by
   have e1:=OI c hc;rw[UM]at hz;rcases List.mem_cons.mp hz with ez|hz
   ·rw[ez];exact Nat.le_of_lt e1
   ·exact Nat.le_trans (Nat.le_of_lt e1) ((List.pairwise_cons.mp Wy).1 z hz)
  have kT:(ED.push u++b.extract (GB+1) (GB+1+k')).toList=(ED.push u).toList++(b.toList.drop (GB+1)).take k':=by rw[Array.toList_append,GP]
  rw[<-kT]at hM5
  ·by_cases hk0':k' > 0
   ·rw[if_pos hk0'];by_cases e4:GB+1+k'=b.size
    ·rw[if_pos (by simpa using e4)];exact wpS_pure (.inr ⟨_,_,rfl,Mn _,Nt hM5 (by lia)⟩)
    rw[if_neg (by simpa using e4)];have Xa:GB+1+k'<b.size/\ia+ib+1<=Z6+(GB+1+k'):=by lia
    revert hM5 Xa Mu;generalize ED.push u++b.extract (GB+1) (GB+1+k')=Mp;generalize GB+1+k'=iN;generalize k'=YY;revert Mp iN YY;exact key.h
   ·rw[if_neg hk0'];have Us:k'=0:=by lia
    have Xa:GB+1<b.size/\ia+ib+1<=Z6+(GB+1):=by lia
    have bT:ED.push u++b.extract (GB+1) (GB+1+0)=ED.push u:=Array.toList_inj.mp (by rw[Array.toList_append,GP];simp);rw[Us,bT,Nat.add_zero]at hM5;rw[Us,Nat.add_zero]at Mu;revert hM5 Xa Mu;generalize ED.push u=Mp;generalize GB+1=iN;generalize k'=YY;revert Mp iN YY;exact key.h
  intro Mp iN YY Mu hM5 Xa;refine wpS_bind (An VG ?_);have bN:=pA hM5 UM (fun z hz=>Mu z hz);by_cases e5:Z6+1+1=a.size
  ·rw[if_pos (by simpa using e5)];exact wpS_pure (.inr ⟨_,_,rfl,Mn _,Mc bN e5⟩)
  rw[if_neg (by simpa using e5)];split
  ·exact wpS_pure (.inl ⟨_,_,_,_,_,_,rfl,Mn _,bN,by lia,Xa.1,by lia⟩)
  ·exact wpS_pure ⟨_,_,_,_,_,_,rfl,Mn _,bN,by lia,Xa.1,by lia⟩
 ·rintro c AR ⟨CV,HL,GB,Wc,fX,fS,rfl,Fe,hM2,w1,w2,w3⟩;exact .inl ⟨_,_,_,_,_,_,rfl,Fe,hM2,w1,w2,w3⟩
 ·rintro c Gz (⟨CV,HL,GB,Wc,fX,fS,rfl,Fe,hM2,w1,w2,w3⟩|⟨res,rest,rfl,Fe,hM2⟩)
  ·dsimp only;refine wpS_bind (wpS_modify (wpS_pure ⟨_,_,_,_,rfl,⟨⟨Fe.base.perm,Fe.base.kind,Fe.base.failed⟩,Fe.arr,Fe.pend⟩,hM2,w1,w2,by lia⟩))
  ·dsimp only;exact wpS_pure ⟨_,_,rfl,Fe,hM2⟩
structure MH (r:Keyed->Nat) (la lb O:List Keyed) (na nb:Nat):Prop where
 perm:O.Perm (la.drop na++lb.drop nb)
 sa:Srt r (la.take na++O)
 sb:Srt r (lb.take nb++O)
theorem Lq{X Y C O:List Keyed}(h1:Srt r (Y++O))(h2:Srt r ((X++C)++O))(h3:∀y∈Y,∀c∈C,r y<=r c):Srt r (Y++(C++O))/\Srt r (X++(C++O)):=by
 rw[List.append_assoc]at h2;refine⟨?_,h2⟩;obtain⟨a1,a2,a3⟩:=List.pairwise_append.mp h1;obtain⟨b1,b2,b3⟩:=List.pairwise_append.mp h2;refine List.pairwise_append.mpr ⟨a1,b2,fun x hx y hy=>?_⟩;rcases List.mem_append.mp hy with hy|hy
 ·exact h3 x hx y hy
 ·exact a3 x hx y hy
theorem E8(l:List Keyed){k n:Nat}(h:k<=n):l.take k++(l.take n).drop k=l.take n:=by
 have:=List.take_append_drop k (l.take n)
 rwa [List.take_take,Nat.min_eq_left h]at this
theorem KN(l:List Keyed){k n:Nat}(h:k<=n):(l.take n).drop k++l.drop n=l.drop k:=by
 rw[List.drop_take];have e:l.drop n=(l.drop k).drop (n-k):=by rw[List.drop_drop];congr 1;lia
 rw[e,List.take_append_drop]
theorem MH.pushA{la lb O:List Keyed}{na nb k:Nat}(h:MH r la lb O na nb)(hk:k<=na)(hle:∀y∈lb.take nb,∀c∈(la.take na).drop k,r y<=r c):MH r la lb ((la.take na).drop k++O) k nb:=by obtain⟨p1,p2⟩:=Lq (X:=la.take k) (C:=(la.take na).drop k) h.sb (by rw[E8 la hk];exact h.sa) hle;refine⟨?_,p2,p1⟩;rw[<-KN la hk,List.append_assoc];exact h.perm.append_left _
theorem MH.pushB{la lb O:List Keyed}{na nb k:Nat}(h:MH r la lb O na nb)(hk:k<=nb)(hle:∀y∈la.take na,∀c∈(lb.take nb).drop k,r y<=r c):MH r la lb ((lb.take nb).drop k++O) na k:=by obtain⟨p1,p2⟩:=Lq (X:=lb.take k) (C:=(lb.take nb).drop k) h.sa (by rw[E8 lb hk];exact h.sb) hle;refine⟨?_,p1,p2⟩;rw[<-KN lb hk];refine(h.perm.append_left _).trans ?_;rw[<-List.append_assoc,<-List.append_assoc];exact List.perm_append_comm.append_right _
theorem MH.doneA{la lb O:List Keyed}{nb:Nat}(h:MH r la lb O 0 nb):Mg r la lb (la.take 0++lb.take nb++O):=by rw[List.take_zero,List.nil_append];refine⟨?_,h.sb⟩;refine(h.perm.append_left _).trans ?_;rw[List.drop_zero,<-List.append_assoc];refine(List.perm_append_comm.append_right _).trans ?_;rw[List.append_assoc,List.take_append_drop]
theorem MH.doneB{la lb O:List Keyed}{na:Nat}(h:MH r la lb O na 0):Mg r la lb (la.take na++lb.take 0++O):=by rw[List.take_zero,List.append_nil];refine⟨?_,h.sa⟩;refine(h.perm.append_left _).trans ?_;rw[List.drop_zero,<-List.append_assoc,List.take_append_drop]
theorem MH.firstB{la lb O:List Keyed}{na:Nat}(h:MH r la lb O na 1)(hf:∀y∈lb.take 1,∀x∈la,r y<=r x):Mg r la lb (lb.take 1++la.take na++O):=by
 constructor
 ·rw[List.append_assoc];refine((h.perm.append_left _).append_left _).trans ?_;rw[<-List.append_assoc (la.take na),List.take_append_drop,<-List.append_assoc];refine(List.perm_append_comm.append_right _).trans ?_;rw[List.append_assoc,List.take_append_drop]
 ·rw[List.append_assoc];obtain⟨b1,b2,b3⟩:=List.pairwise_append.mp h.sb;refine List.pairwise_append.mpr ⟨b1,h.sa,fun x hx y hy=>?_⟩;rcases List.mem_append.mp hy with hy|hy
  ·exact hf x hx y (List.mem_of_mem_take hy)
  ·exact b3 x hx y hy
theorem Ed(a:Array Keyed)(n:Nat):(a.extract 0 n).toList=a.toList.take n:=by simp
theorem C8(a:Array Keyed)(k n:Nat):(a.extract k n).toList=(a.toList.take n).drop k:=by simp[List.drop_take]
theorem Fw{a:Array Keyed}{n:Nat}(h:n<a.size):∃p,a[n]?=some p/\p∈a.toList/\(a.toList.take (n+1)).drop n=[p]/\a.toList.take (n+1)=a.toList.take n++[p]:=by
 have hl:n<a.toList.length:=by rw[Array.length_toList];exact h
 refine⟨a.toList[n],?_,List.getElem_mem hl,?_,?_⟩
 ·rw[<-Array.getElem?_toList];exact List.getElem?_eq_getElem hl
 ·rw[List.drop_take,show n+1-n=1 by lia,List.drop_eq_getElem_cons hl];rfl
 ·rw[List.take_add_one,List.getElem?_eq_getElem hl];rfl
theorem OC(hc:CmpOk prog w A s a₀ r k0){st:SortSt}(hB:SB a₀ k0 st){a b:Array Keyed}(ha:∀p∈a.toList,p∈a₀.toList)(hb:∀p∈b.toList,p∈a₀.toList)(sa:Srt r a.toList)(sb:Srt r b.toList)(za:1<=a.size)(zb:1<=b.size)(hf:∀y∈b.toList.take 1,∀x∈a.toList,r y<=r x)(hl:∀x∈a.toList.drop (a.size-1),∀y∈b.toList,r y<=r x){Q:Array Keyed->SortSt->Prop}(h:∀out AR,Mg r a.toList b.toList out.toList->Gl a₀ k0 st AR->Q out AR):wpS (model prog w) A E s (N8 a b) Q st:=by
 unfold N8;refine wpS_bind (wpS_lift (wpAny_rule ⟨rfl,?_⟩));have lH:a.toList.length=a.size:=Array.length_toList;have qm:b.toList.length=b.size:=Array.length_toList;obtain⟨x0,Yq,Si,RU,fV⟩:=Fw (a:=a) (n:=a.size-1) (by lia);rw[show a.size-1+1=a.size by lia,List.take_of_length_le (by lia)]at RU fV;have j9:MH r a.toList b.toList (#[x0]:Array Keyed).toList.reverse (a.size-1) b.size:=by
  refine⟨?_,?_,?_⟩
  ·rw[RU,List.drop_eq_nil_of_le (by lia)];simp
  ·show Srt r (a.toList.take (a.size-1)++[x0]);rw[<-fV];exact sa
  ·show Srt r (b.toList.take b.size++[x0]);rw[List.take_of_length_le (by lia)];refine List.pairwise_append.mpr ⟨sb,List.pairwise_singleton _ _,fun u hu v hv=>?_⟩;rw[List.mem_singleton.mp hv];exact hl x0 (by rw[RU];simp) u hu
 have Nt:∀{out:Array Keyed}{na nb:Nat},MH r a.toList b.toList out.toList.reverse na nb->na=0->Mg r a.toList b.toList (a.extract 0 na++b.extract 0 nb++out.reverse).toList:=fun hm e=>by
  subst e;rw[Array.toList_append,Array.toList_append,Ed,Ed,Array.toList_reverse];exact hm.doneA
 have dH:∀{out:Array Keyed}{na nb:Nat},MH r a.toList b.toList out.toList.reverse na nb->nb=0->Mg r a.toList b.toList (a.extract 0 na++b.extract 0 nb++out.reverse).toList:=fun hm e=>by
  subst e;rw[Array.toList_append,Array.toList_append,Ed,Ed,Array.toList_reverse];exact hm.doneB
 have Mc:∀{out:Array Keyed}{na nb:Nat},MH r a.toList b.toList out.toList.reverse na nb->nb=1->Mg r a.toList b.toList (b.extract 0 nb++a.extract 0 na++out.reverse).toList:=fun hm e=>by
  subst e;rw[Array.toList_append,Array.toList_append,Ed,Ed,Array.toList_reverse];exact hm.firstB hf
 have pA:∀{out:Array Keyed}{na nb:Nat}{p:Keyed},MH r a.toList b.toList out.toList.reverse (na+1) nb->(a.toList.take (na+1)).drop na=[p]->(∀y∈b.toList.take nb,r y<=r p)->MH r a.toList b.toList (out.push p).toList.reverse na nb:=fun {out na nb p} hm hd hle=>by
  have:=hm.pushA (k:=na) (by lia) (fun y hy c hc=>by rw[hd]at hc;rw[List.mem_singleton.mp hc];exact hle y hy)
  rw[hd]at this;rw[Array.toList_push,List.reverse_append];exact this
 have pB:∀{out:Array Keyed}{na nb:Nat}{p:Keyed},MH r a.toList b.toList out.toList.reverse na (nb+1)->(b.toList.take (nb+1)).drop nb=[p]->(∀y∈a.toList.take na,r y<=r p)->MH r a.toList b.toList (out.push p).toList.reverse na nb:=fun {out na nb p} hm hd hle=>by
  have:=hm.pushB (k:=nb) (by lia) (fun y hy c hc=>by rw[hd]at hc;rw[List.mem_singleton.mp hc];exact hle y hy)
  rw[hd]at this;rw[Array.toList_push,List.reverse_append];exact this
 refine wpS_bind (An Yq ?_);dsimp only;by_cases Xo:a.size-1=0
 ·rw[if_pos (by simpa using Xo)];exact wpS_pure (h _ _ (Nt j9 Xo) (Gl.refl hB))
 rw[if_neg (by simpa using Xo)];by_cases Sk:b.size=1
 ·rw[if_pos (by simpa using Sk)];exact wpS_pure (h _ _ (Mc j9 Sk) (Gl.refl hB))
 rw[if_neg (by simpa using Sk)];refine wpS_bind (wpS_get ?_);refine wpS_bind (wpS_mono (wpS_forRange (I:=fun x c AR=>∃na nb out mg,c=(none,na,nb,out,mg)/\Gl a₀ k0 st AR/\MH r a.toList b.toList out.toList.reverse na nb/\1<=na/\2<=nb/\na<a.size/\nb<=b.size/\na+nb+x+1<=a.size+b.size)
  (Q:=fun c AR=>∃res rest,c=(some res,rest)/\Gl a₀ k0 st AR/\Mg r a.toList b.toList res.toList) ?_ ?_ ⟨_,_,_,_,rfl,Gl.refl hB,j9,by lia,by lia,by lia,by lia,by lia⟩) ?_)
 rotate_left
 ·rintro c AR ⟨na,nb,out,mg,rfl,hG,hM,g1,g2,g3,g4,g5⟩;lia
 ·rintro c AR ⟨res,rest,rfl,hG,hM⟩;exact wpS_pure (h res AR hM hG)
 rintro x c Bp _ _ ⟨na,nb,out,mg,rfl,hG,hM,g1,g2,g3,g4,g5⟩;dsimp only;refine wpS_bind (wpS_mono (wpS_forRange (I:=fun y c AR=>∃P8 P9 GL ac bc,c=(none,P8,P9,GL,ac,bc)/\Gl a₀ k0 st AR/\MH r a.toList b.toList GL.toList.reverse P8 P9/\1<=P8/\2<=P9/\P8<a.size/\P9<=b.size/\P8+P9+y<=na+nb)
  (Q:=fun c AR=>(∃P8 P9 GL ac bc,c=(none,P8,P9,GL,ac,bc)/\Gl a₀ k0 st AR/\MH r a.toList b.toList GL.toList.reverse P8 P9/\1<=P8/\2<=P9/\P8<a.size/\P9<=b.size/\P8+P9+1<=na+nb)\/∃res rest,c=(some res,rest)/\Gl a₀ k0 st AR/\Mg r a.toList b.toList res.toList) ?_ ?_ ⟨_,_,_,_,_,rfl,hG,hM,g1,g2,g3,g4,by lia⟩) ?_)
 ·rintro y c Ct _ _ ⟨P8,P9,GL,ac,bc,rfl,FY,hM1,q1,q2,q3,q4,q5⟩;obtain⟨n,rfl⟩:∃n,P8=n+1:=⟨P8-1,by lia⟩;obtain⟨m,rfl⟩:∃m,P9=m+1:=⟨P9-1,by lia⟩;obtain⟨u,Cy,Y7,OV,UA⟩:=Fw (a:=b) (n:=m) (by lia);obtain⟨v,VG,gT,cX,UM⟩:=Fw (a:=a) (n:=n) (by lia);dsimp only;simp only[Nat.add_sub_cancel];refine wpS_bind (An Cy (wpS_bind (An VG (wpS_bind (KP hc FY.base (hb u Y7) (ha v gT) ?_)))));dsimp only;have Wy:=(List.pairwise_append.mp hM1.sa).1;have WJ:=(List.pairwise_append.mp hM1.sb).1;rw[UM]at Wy;rw[UA]at WJ;by_cases BC:r u<r v
  ·rw[decide_eq_true BC,if_pos rfl];refine wpS_bind (An VG ?_);have hM2:=pA hM1 cX (fun z hz=>by
    rw[UA]at hz;rcases List.mem_append.mp hz with hz|hz
    ·exact Nat.le_trans ((List.pairwise_append.mp WJ).2.2 z hz u (by simp)) (Nat.le_of_lt BC)
    ·rw[List.mem_singleton.mp hz];lia)
   by_cases e1:n=0
   ·rw[if_pos (by simpa using e1)];exact wpS_pure (.inr ⟨_,_,rfl,FY,Nt hM2 e1⟩)
   ·rw[if_neg (by simpa using e1)];by_cases e2:ac+1≥mg
    ·rw[if_pos e2];exact wpS_pure (.inl ⟨_,_,_,_,_,rfl,FY,hM2,by lia,by lia,by lia,by lia,by lia⟩)
    ·rw[if_neg e2];exact wpS_pure ⟨_,_,_,_,_,rfl,FY,hM2,by lia,by lia,by lia,by lia,by lia⟩
  ·rw[decide_eq_false BC,if_neg (by decide)];refine wpS_bind (An Cy ?_);have hM2:=pB hM1 OV (fun z hz=>by
    rw[UM]at hz;rcases List.mem_append.mp hz with hz|hz
    ·have:=(List.pairwise_append.mp Wy).2.2 z hz v (by simp)
     unfold le at this;lia
    ·rw[List.mem_singleton.mp hz];lia)
   by_cases e1:m=1
   ·rw[if_pos (by simpa using e1)];exact wpS_pure (.inr ⟨_,_,rfl,FY,Mc hM2 e1⟩)
   ·rw[if_neg (by simpa using e1)];by_cases e2:bc+1≥mg
    ·rw[if_pos e2];exact wpS_pure (.inl ⟨_,_,_,_,_,rfl,FY,hM2,by lia,by lia,by lia,by lia,by lia⟩)
    ·rw[if_neg e2];exact wpS_pure ⟨_,_,_,_,_,rfl,FY,hM2,by lia,by lia,by lia,by lia,by lia⟩
 ·rintro c AR ⟨P8,P9,GL,ac,bc,rfl,FY,hM1,q1,q2,q3,q4,q5⟩;lia
 rintro c Ct (⟨P8,P9,GL,ac,bc,rfl,FY,hM1,q1,q2,q3,q4,q5⟩|⟨res,rest,rfl,FY,hM1⟩)
 rotate_left
 ·dsimp only;exact wpS_pure ⟨_,_,rfl,FY,hM1⟩
 dsimp only;refine wpS_bind (wpS_lift (wpAny_rule ⟨rfl,?_⟩));refine wpS_bind (wpS_mono (wpS_forRange (I:=fun y c AR=>∃Hk QA CV mg ac bc,c=(none,Hk,QA,CV,mg,ac,bc)/\Gl a₀ k0 st AR/\MH r a.toList b.toList CV.toList.reverse Hk QA/\1<=Hk/\2<=QA/\Hk<a.size/\QA<=b.size/\Hk+QA+1<=na+nb)
  (Q:=fun c AR=>(∃Hk QA CV mg ac bc,c=(none,Hk,QA,CV,mg,ac,bc)/\Gl a₀ k0 st AR/\MH r a.toList b.toList CV.toList.reverse Hk QA/\1<=Hk/\2<=QA/\Hk<a.size/\QA<=b.size/\Hk+QA+1<=na+nb)\/∃res rest,c=(some res,rest)/\Gl a₀ k0 st AR/\Mg r a.toList b.toList res.toList) ?_ ?_ ⟨_,_,_,_,_,_,rfl,FY,hM1,q1,q2,q3,q4,q5⟩) ?_)
 ·rintro y c Gz _ _ ⟨Hk,QA,CV,Wc,fX,fS,rfl,Fe,hM2,w1,w2,w3,w4,w5⟩;obtain⟨m,rfl⟩:∃m,QA=m+1:=⟨QA-1,by lia⟩;obtain⟨u,Cy,Y7,OV,UA⟩:=Fw (a:=b) (n:=m) (by lia);have Mn:∀g,Gl a₀ k0 st (SortSt.mk' (kindOf Gz) (arrOf Gz) (pendingOf Gz) g (failedOf Gz)):=fun g=>⟨⟨Fe.base.perm,Fe.base.kind,Fe.base.failed⟩,Fe.arr,Fe.pend⟩;dsimp only;simp only[Nat.add_sub_cancel];apply Ih
  ·intro key;by_cases Qi:Wc > 1
   ·rw[if_pos Qi];clear Qi;generalize Wc-1=g;revert g;exact key.h
   ·rw[if_neg Qi];clear Qi;generalize Wc=g;revert g;exact key.h
  intro g;apply Ih;intro key;refine wpS_bind (wpS_modify ?_);refine wpS_bind (An Cy (wpS_bind (Fj (base:=0) (n:=Hk) (hint:=Hk-1) hc (Mn _).base (hb u Y7) ha (by lia) (by lia) (by rw[List.drop_zero];exact(List.pairwise_append.mp hM2.sa).1) fun k hk RT FU=>?_)));dsimp only;rw[List.drop_zero]at RT FU;have WJ:=(List.pairwise_append.mp hM2.sb).1;rw[UA]at WJ;have hM3:=hM2.pushA (k:=k) hk fun z hz c hc=>by
   have e1:=FU c hc;rw[UA]at hz;rcases List.mem_append.mp hz with hz|hz
   ·exact Nat.le_trans ((List.pairwise_append.mp WJ).2.2 z hz u (by simp)) (Nat.le_of_lt e1)
   ·rw[List.mem_singleton.mp hz];exact Nat.le_of_lt e1
  have eo:(CV++(a.extract k Hk).reverse).toList.reverse=(a.toList.take Hk).drop k++CV.toList.reverse:=by
   rw[Array.toList_append,List.reverse_append,Array.toList_reverse,List.reverse_reverse,C8]
  rw[<-eo]at hM3
  ·by_cases hk0:Hk-k > 0
   ·rw[if_pos hk0];by_cases e1:k=0
    ·rw[if_pos (by simpa using e1)];exact wpS_pure (.inr ⟨_,_,rfl,Mn _,Nt hM3 e1⟩)
    rw[if_neg (by simpa using e1)];have ZP:1<=k/\k<a.size/\k+(m+1)+1<=na+nb:=by lia
    generalize Hk-k=ZI;revert hM3 ZP RT;generalize CV++(a.extract k Hk).reverse=ED;generalize k=dc;revert ED dc ZI;exact key.h
   ·rw[if_neg hk0];have Us:k=Hk:=by lia
    have ZP:1<=Hk/\Hk<a.size/\Hk+(m+1)+1<=na+nb:=by lia
    have jf:CV++(a.extract Hk Hk).reverse=CV:=Array.toList_inj.mp (by rw[Array.toList_append,Array.toList_reverse,C8];simp);rw[Us,jf]at hM3;rw[Us]at RT;generalize Hk-k=ZI;revert hM3 ZP RT;generalize CV=ED;generalize Hk=dc;revert ED dc ZI;exact key.h
  intro ZI ED dc RT hM3 ZP;refine wpS_bind (An Cy ?_);have hM4:=pB hM3 OV (fun z hz=>RT z hz);by_cases e3:m=1
  ·rw[if_pos (by simpa using e3)];exact wpS_pure (.inr ⟨_,_,rfl,Mn _,Mc hM4 e3⟩)
  rw[if_neg (by simpa using e3)];obtain⟨n,rfl⟩:∃n,dc=n+1:=⟨dc-1,by lia⟩;obtain⟨v,VG,gT,cX,UM⟩:=Fw (a:=a) (n:=n) (by lia);simp only[Nat.add_sub_cancel];apply Ih;intro key;refine wpS_bind (An VG (wpS_bind (Fz (base:=0) (n:=m) (hint:=m-1) hc (Mn _).base (ha v gT) hb (by lia) (by lia) (by rw[List.drop_zero];exact(List.pairwise_append.mp hM4.sb).1) fun k' HE OI Mu=>?_)));dsimp only;rw[List.drop_zero]at OI Mu;have Wy:=(List.pairwise_append.mp hM4.sa).1;rw[UM]at Wy;have hM5:=hM4.pushB (k:=k') HE fun z hz c hc=>by
   have e1:=Mu c hc;rw[UM]at hz;rcases List.mem_append.mp hz with hz|hz
   ·exact Nat.le_trans ((List.pairwise_append.mp Wy).2.2 z hz v (by simp)) e1
   ·rw[List.mem_singleton.mp hz];exact e1
  have kT:(ED.push u++(b.extract k' m).reverse).toList.reverse=(b.toList.take m).drop k'++(ED.push u).toList.reverse:=by
   rw[Array.toList_append,List.reverse_append,Array.toList_reverse,List.reverse_reverse,C8]
  rw[<-kT]at hM5
  ·by_cases hk0':m-k' > 0
   ·rw[if_pos hk0'];by_cases e4:k'=1
    ·rw[if_pos (by simpa using e4)];exact wpS_pure (.inr ⟨_,_,rfl,Mn _,Mc hM5 e4⟩)
    rw[if_neg (by simpa using e4)];by_cases e5:k'=0
    ·rw[if_pos (by simpa using e5)];exact wpS_pure (.inr ⟨_,_,rfl,Mn _,dH hM5 e5⟩)
    rw[if_neg (by simpa using e5)];have Xa:2<=k'/\k'≤b.size/\n+k'+1<=na+nb:=by lia
    generalize m-k'=YY;revert hM5 Xa OI;generalize ED.push u++(b.extract k' m).reverse=Mp;generalize k'=Xn;revert Mp Xn YY;exact key.h
   ·rw[if_neg hk0'];have Us:k'=m:=by lia
    have Xa:2<=m/\m<=b.size/\n+m+1<=na+nb:=by lia
    have bT:ED.push u++(b.extract m m).reverse=ED.push u:=Array.toList_inj.mp (by rw[Array.toList_append,Array.toList_reverse,C8];simp);rw[Us,bT]at hM5;rw[Us]at OI;generalize m-k'=YY;revert hM5 Xa OI;generalize ED.push u=Mp;generalize m=Xn;revert Mp Xn YY;exact key.h
  intro YY Mp Xn OI hM5 Xa;refine wpS_bind (An VG ?_);have bN:=pA hM5 cX (fun z hz=>Nat.le_of_lt (OI z hz));by_cases e6:n=0
  ·rw[if_pos (by simpa using e6)];exact wpS_pure (.inr ⟨_,_,rfl,Mn _,Nt bN e6⟩)
  rw[if_neg (by simpa using e6)];split
  ·exact wpS_pure (.inl ⟨_,_,_,_,_,_,rfl,Mn _,bN,by lia,by lia,by lia,by lia,by lia⟩)
  ·exact wpS_pure ⟨_,_,_,_,_,_,rfl,Mn _,bN,by lia,by lia,by lia,by lia,by lia⟩
 ·rintro c AR ⟨Hk,QA,CV,Wc,fX,fS,rfl,Fe,hM2,w1,w2,w3,w4,w5⟩;exact .inl ⟨_,_,_,_,_,_,rfl,Fe,hM2,w1,w2,w3,w4,w5⟩
 ·rintro c Gz (⟨Hk,QA,CV,Wc,fX,fS,rfl,Fe,hM2,w1,w2,w3,w4,w5⟩|⟨res,rest,rfl,Fe,hM2⟩)
  ·dsimp only;refine wpS_bind (wpS_modify (wpS_pure ⟨_,_,_,_,rfl,⟨⟨Fe.base.perm,Fe.base.kind,Fe.base.failed⟩,Fe.arr,Fe.pend⟩,hM2,w1,w2,w3,w4,by lia⟩))
  ·dsimp only;exact wpS_pure ⟨_,_,rfl,Fe,hM2⟩
abbrev seg(l:List Keyed)(i n:Nat):List Keyed:=(l.drop i).take n
def Runs(r:Keyed->Nat)(l:List Keyed):Nat->List (Nat×Nat×Nat)->Nat->Prop
 |b,[],lo=>b=lo
 |b,(st,n,_)::rest,lo=>st=b/\1<=n/\Srt r (seg l b n)/\Runs r l (b+n) rest lo
theorem Runs.le{l:List Keyed}:∀{p:List (Nat×Nat×Nat)}{b lo:Nat},Runs r l b p lo->b+p.length<=lo
 |[],_,_,h=>by rw[Runs]at h;subst h;simp
 |(st,n,_)::rest,b,lo,h=>by
  rw[Runs]at h
  have:=Runs.le h.2.2.2
  rw[List.length_cons];lia
theorem Runs.same{l l':List Keyed}:∀{p:List (Nat×Nat×Nat)}{b lo:Nat},Runs r l b p lo->(∀i n,b<=i->i+n<=lo->seg l' i n=seg l i n)->Runs r l' b p lo
 |[],_,_,h,_=>h
 |(st,n,_)::rest,b,lo,h,e=>by
  rw[Runs]at h ⊢
  have:=Runs.le h.2.2.2
  exact⟨h.1,h.2.1,by rw[e b n (Nat.le_refl _) (by lia)];exact h.2.2.1,Runs.same h.2.2.2 fun i n' h1 h2=>e i n' (by lia) h2⟩
theorem Runs.snoc{l:List Keyed}:∀{p:List (Nat×Nat×Nat)}{b lo n pw:Nat},Runs r l b p lo->1<=n->Srt r (seg l lo n)->Runs r l b (p++[(lo,n,pw)]) (lo+n)
 |[],b,lo,n,pw,h,h1,h2=>by
  rw[Runs]at h;subst h;exact⟨rfl,h1,h2,rfl⟩
 |(st,m,_)::rest,b,lo,n,pw,h,h1,h2=>by
  rw[Runs]at h;exact⟨h.1,h.2.1,h.2.2.1,Runs.snoc h.2.2.2 h1 h2⟩
theorem Runs.merge{l l':List Keyed}:∀{pre:List (Nat×Nat×Nat)}{b lo sa na pa sb nb pb:Nat}{post:List (Nat×Nat×Nat)},Runs r l b (pre++(sa,na,pa)::(sb,nb,pb)::post) lo →
  (∀i n,i+n<=sa->seg l' i n=seg l i n)->(∀i n,sa+na+nb<=i->seg l' i n=seg l i n)->Srt r (seg l' sa (na+nb))->Runs r l' b (pre++(sa,na+nb,pa)::post) lo
 |[],b,lo,sa,na,pa,sb,nb,pb,post,h,h1,h2,h3=>by
  rw[List.nil_append,Runs,Runs]at h;obtain⟨rfl,g1,g2,rfl,g3,g4,g5⟩:=h;refine⟨rfl,by lia,h3,?_⟩;rw[Nat.add_assoc]at g5;exact g5.same fun i n q1 q2=>h2 i n (by lia)
 |(st,n,_)::rest,b,lo,sa,na,pa,sb,nb,pb,post,h,h1,h2,h3=>by
  rw[List.cons_append,Runs]at h;obtain⟨rfl,g1,g2,g3⟩:=h;have o8:st+n<=sa:=by
   have:∀{pre:List (Nat×Nat×Nat)}{b:Nat},Runs r l b (pre++(sa,na,pa)::(sb,nb,pb)::post) lo->b<=sa:=by
    intro pre
    induction pre with
    |nil=>intro b h;rw[List.nil_append,Runs]at h;lia
    |cons x r' ih=>intro b h;obtain⟨x1,x2,x3⟩:=x;rw[List.cons_append,Runs]at h;have:=ih h.2.2.2;lia
   exact this g3
  refine⟨rfl,g1,by rw[h1 st n o8];exact g2,Runs.merge g3 h1 h2 h3⟩
theorem Runs.at{l:List Keyed}:∀{pre:List (Nat×Nat×Nat)}{b lo sa na pa sb nb pb:Nat}{post:List (Nat×Nat×Nat)},Runs r l b (pre++(sa,na,pa)::(sb,nb,pb)::post) lo →
  b<=sa/\sb=sa+na/\1<=na/\1<=nb/\sb+nb<=lo/\Srt r (seg l sa na)/\Srt r (seg l sb nb)
 |[],b,lo,sa,na,pa,sb,nb,pb,post,h=>by
  rw[List.nil_append,Runs,Runs]at h;obtain⟨rfl,g1,g2,rfl,g3,g4,g5⟩:=h
  have:=g5.le
  exact⟨Nat.le_refl _,rfl,g1,g3,by lia,g2,g4⟩
 |(st,n,_)::rest,b,lo,sa,na,pa,sb,nb,pb,post,h=>by
  rw[List.cons_append,Runs]at h;obtain⟨rfl,g1,g2,g3⟩:=h;obtain⟨q1,q2⟩:=Runs.at g3;exact⟨by lia,q2⟩
theorem OH(off:Nat):∀(ms:List Keyed)(j:Nat)(xs:Array Keyed)(k:Nat),off+j+ms.length<=xs.size →
  ((ms.zipIdx j).foldl (fun a (p:Keyed×Nat)=>a.setIfInBounds (off+p.2) p.1) xs)[k]?=if off+j<=k/\k<off+j+ms.length then ms[k-(off+j)]? else xs[k]?
 |[],j,xs,k,_=>by simp;lia
 |m::ms,j,xs,k,h=>by
  rw[List.zipIdx_cons,List.foldl_cons];rw[List.length_cons]at h;rw[OH off ms (j+1) _ k (by rw[Array.size_setIfInBounds];lia)];rw[List.length_cons];by_cases h1:off+(j+1)<=k/\k<off+(j+1)+ms.length
  ·rw[if_pos h1,if_pos (by lia)];obtain⟨q,hq⟩:∃q,k-(off+j)=q+1:=⟨k-(off+j)-1,by lia⟩;rw[hq,List.getElem?_cons_succ];congr 1;lia
  ·rw[if_neg h1,Array.getElem?_setIfInBounds];by_cases h2:off+j=k
   ·rw[if_pos h2,if_pos (by lia),if_pos (by lia)];have:k-(off+j)=0:=by lia
    rw[this];rfl
   ·rw[if_neg h2,if_neg (by lia)]
theorem Tq(off:Nat)(ms:List Keyed)(xs:Array Keyed)(h:off+ms.length<=xs.size):((ms.zipIdx).foldl (fun a (p:Keyed×Nat)=>a.setIfInBounds (off+p.2) p.1) xs).toList=xs.toList.take off++ms++xs.toList.drop (off+ms.length):=by
 have hl:xs.toList.length=xs.size:=Array.length_toList;refine List.ext_getElem? fun k=>?_;rw[Array.getElem?_toList,OH off ms 0 xs k (by lia),Nat.add_zero,List.append_assoc];by_cases h1:k<off
 ·rw[if_neg (by lia),List.getElem?_append_left (by rw[List.length_take];lia),List.getElem?_take,if_pos h1,Array.getElem?_toList]
 ·rw[List.getElem?_append_right (by rw[List.length_take];lia),List.length_take,show min off xs.toList.length=off by lia];by_cases h2:k<off+ms.length
  ·rw[if_pos (by lia),List.getElem?_append_left (by lia)]
  ·rw[if_neg (by lia),List.getElem?_append_right (by lia),List.getElem?_drop,Array.getElem?_toList];congr 1;lia
theorem ZZ{l M:List Keyed}{i0 j0:Nat}(hi:i0<=l.length)(i n:Nat)(h:i+n<=i0):seg (l.take i0++M++l.drop j0) i n=seg l i n:=by unfold seg;rw[List.append_assoc,List.drop_append_of_le_length (by rw[List.length_take];lia),List.take_append_of_le_length (by rw[List.length_drop,List.length_take];lia),List.drop_take,List.take_take];congr 1;lia
theorem N6{l M:List Keyed}{i0 j0:Nat}(hi:i0+M.length=j0)(hj:j0<=l.length)(i n:Nat)(h:j0<=i):seg (l.take i0++M++l.drop j0) i n=seg l i n:=by
 unfold seg;have e:(l.take i0++M).length=j0:=by rw[List.length_append,List.length_take];lia
 rw[List.drop_append,List.drop_eq_nil_of_le (by lia),List.nil_append,e,List.drop_drop];congr 2;lia
theorem ZV{l M:List Keyed}{sa k i0 j0 t:Nat}(h0:i0=sa+k)(hi:i0+M.length=j0)(hj:j0+t<=l.length):seg (l.take i0++M++l.drop j0) sa (k+M.length+t)=seg l sa k++M++seg l j0 t:=by
 unfold seg;subst h0;rw[List.append_assoc,List.drop_append_of_le_length (by rw[List.length_take];lia),List.drop_take,show sa+k-sa=k by lia];have hP:((l.drop sa).take k).length=k:=by rw[List.length_take,List.length_drop];lia
 generalize (l.drop sa).take k=P0 at *;subst hP;rw[Nat.add_assoc,List.take_length_add_append,List.take_length_add_append,List.append_assoc]
theorem ZA{xs:Array Keyed}{i n:Nat}{p:Keyed}(h:xs[i]?=some p)(hn:1<=n):∃t,seg xs.toList i n=p::t:=by
 have hp:xs.toList[i]?=some p:=by rw[Array.getElem?_toList];exact h
 obtain⟨hl,e⟩:=List.getElem?_eq_some_iff.mp hp;unfold seg;rw[List.drop_eq_getElem_cons hl,e];obtain⟨m,rfl⟩:∃m,n=m+1:=⟨n-1,by lia⟩;exact⟨_,List.take_succ_cons ..⟩
theorem YX{M:Model}{σ:Type}{x:σ}{Q:PUnit->σ->Prop}{st:σ}(h:Q ⟨⟩ x):wpS M A E s (set x:StateT σ Sem PUnit) Q st:=by unfold wpS;rw[StateT.run_set];exact wpAny_pure ⟨rfl,h⟩
theorem RM{l M:List Keyed}{sa na nb k t:Nat}{gv eJ:Keyed}(sA:Srt r (seg l sa na))(sB:Srt r (seg l (sa+na) nb))(hk:k<=na)(ht:t<=nb)(h1:∀c∈seg l sa k,r c<=r gv)(h2:∀c∈(seg l sa na).drop k,r c<=r eJ)(h3:∀c∈seg l (sa+na) nb,r gv<=r c)(h4:∀c∈(seg l (sa+na) nb).drop t,r eJ<=r c)(hM:Mg r ((seg l sa na).drop k) (seg l (sa+na) t) M):Srt r (seg l sa k++M++seg l (sa+na+t) (nb-t)):=by
 have eA:seg l sa k++(seg l sa na).drop k=seg l sa na:=by
  unfold seg
  have:=List.take_append_drop k ((l.drop sa).take na)
  rwa [List.take_take,Nat.min_eq_left hk]at this
 have eT:(seg l (sa+na) nb).drop t=seg l (sa+na+t) (nb-t):=by
  unfold seg;rw[List.drop_take,List.drop_drop]
 have eB:seg l (sa+na) t++(seg l (sa+na) nb).drop t=seg l (sa+na) nb:=by
  unfold seg
  have:=List.take_append_drop t ((l.drop (sa+na)).take nb)
  rwa [List.take_take,Nat.min_eq_left ht]at this
 rw[<-eT];rw[<-eA]at sA;have kf:=h3;rw[<-eB]at sB kf;obtain⟨a1,a2,a3⟩:=List.pairwise_append.mp sA;obtain⟨b1,b2,b3⟩:=List.pairwise_append.mp sB;have mm:∀c∈M,c∈(seg l sa na).drop k\/c∈seg l (sa+na) t:=fun c hc=>List.mem_append.mp (hM.perm.mem_iff.mp hc);rw[List.append_assoc];refine List.pairwise_append.mpr ⟨a1,List.pairwise_append.mpr ⟨hM.srt,b2,fun x hx y hy=>?_⟩,fun x hx y hy=>?_⟩
 ·rcases mm x hx with hx|hx
  ·exact Nat.le_trans (h2 x hx) (h4 y hy)
  ·exact b3 x hx y hy
 ·have Si:=h1 x hx;rcases List.mem_append.mp hy with hy|hy
  ·rcases mm y hy with hy|hy
   ·exact a3 x hx y hy
   ·exact Nat.le_trans Si (kf y (List.mem_append_left _ hy))
  ·exact Nat.le_trans Si (kf y (List.mem_append_right _ hy))
theorem JM(hc:CmpOk prog w A s a₀ r k0){st:SortSt}(hB:SB a₀ k0 st){i lo:Nat}{pre post:List (Nat×Nat×Nat)}{sa na pa sb nb pb:Nat}(hp:(pendingOf st).toList=pre++(sa,na,pa)::(sb,nb,pb)::post)(hi:pre.length=i)(qF:lo<=a₀.size)(hR:Runs r (arrOf st).toList 0 (pendingOf st).toList lo){Q:Bool->SortSt->Prop}(h:∀AR,SB a₀ k0 AR->(pendingOf AR).toList=pre++(sa,na+nb,pa)::post->Runs r (arrOf AR).toList 0 (pendingOf AR).toList lo->(∀i n,lo<=i->seg (arrOf AR).toList i n=seg (arrOf st).toList i n)->Q true AR):wpS (model prog w) A E s (mergeAt' i) Q st:=by
 have gP:=hR;rw[hp]at gP;obtain⟨_,rfl,z1,z2,z3,sA,sB⟩:=Runs.at gP;have hsz:=hB.size;have hl:(arrOf st).toList.length=a₀.size:=by rw[Array.length_toList];exact hsz
 have hpl:(pendingOf st).toList.length=(pendingOf st).size:=Array.length_toList;have e1:(pendingOf st)[i]?=some (sa,na,pa):=by
  rw[<-Array.getElem?_toList,hp,List.getElem?_append_right (by lia),hi,Nat.sub_self];rfl
 have e2:(pendingOf st)[i+1]?=some (sa+na,nb,pb):=by
  rw[<-Array.getElem?_toList,hp,List.getElem?_append_right (by lia),hi,show i+1-i=1 by lia];rfl
 have N5:(((pendingOf st).setIfInBounds i (sa,na+nb,pa)).eraseIdxIfInBounds (i+1)).toList=pre++(sa,na+nb,pa)::post:=by
  rw[Array.toList_eraseIdxIfInBounds,Array.toList_setIfInBounds,hp,<-hi];rw[List.set_append_right _ _ (Nat.le_refl _),Nat.sub_self,List.set_cons_zero,List.eraseIdx_append_of_length_le (by lia),show pre.length+1-pre.length=1 by lia];rfl
 have Uk:∀p∈(arrOf st).toList,p∈a₀.toList:=fun p hp=>hB.mem hp;obtain⟨kb,TY⟩:∃p,(arrOf st)[sa+na]?=some p:=⟨_,getElem?_pos _ (sa+na) (by lia)⟩;unfold mergeAt';refine wpS_bind (wpS_get ?_);rw[e1,e2];dsimp only;refine wpS_bind (YX ?_);have PF:SB a₀ k0 (SortSt.mk' (kindOf st) (arrOf st) (((pendingOf st).setIfInBounds i (sa,na+nb,pa)).eraseIdxIfInBounds (i+1)) (gallopOf st) (failedOf st)):=⟨hB.perm,hB.kind,hB.failed⟩;obtain⟨tB,n5⟩:=ZA (n:=nb) TY z2;have U1:∀c∈seg (arrOf st).toList (sa+na) nb,r kb<=r c:=fun c R6=>by
  rw[n5]at R6 sB;rcases List.mem_cons.mp R6 with rfl|R6
  ·exact Nat.le_refl _
  ·exact(List.pairwise_cons.mp sB).1 c R6
 refine wpS_bind (An TY (wpS_bind (Fj (base:=sa) (n:=na) (hint:=0) hc PF (hB.memAt TY) Uk (by lia) (by lia) sA fun k hk RT FU=>?_)));dsimp only;by_cases hk0:na-k=0
 ·rw[if_pos (by simpa using hk0)];obtain rfl:k=na:=by lia
  refine wpS_pure (h _ PF N5 ?_ fun _ _ _=>rfl);show Runs r (arrOf st).toList 0 (((pendingOf st).setIfInBounds i (sa,k+nb,pa)).eraseIdxIfInBounds (i+1)).toList lo;rw[N5];refine Runs.merge gP (fun _ _ _=>rfl) (fun _ _ _=>rfl) ?_;have e:seg (arrOf st).toList sa (k+nb)=seg (arrOf st).toList sa k++seg (arrOf st).toList (sa+k) nb:=by
   unfold seg;rw[List.take_add,List.drop_drop]
  rw[e];exact List.pairwise_append.mpr ⟨sA,sB,fun x hx y hy=>Nat.le_trans (RT x hx) (U1 y hy)⟩
 rw[if_neg (by simpa using hk0)];obtain⟨ka,gD⟩:∃p,(arrOf st)[sa+k+(na-k)-1]?=some p:=⟨_,getElem?_pos _ (sa+k+(na-k)-1) (by lia)⟩;refine wpS_bind (An gD (wpS_bind (Fz (base:=sa+na) (n:=nb) (hint:=nb-1) hc PF (hB.memAt gD) Uk (by lia) (by lia) sB fun t ht lL ft=>?_)));dsimp only;have aM:∀c∈(seg (arrOf st).toList sa na).drop k,r c<=r ka:=fun c R6=>by
  have iP:(seg (arrOf st).toList sa na)[na-1]?=some ka:=by
   unfold seg;rw[List.getElem?_take,if_pos (by lia),List.getElem?_drop,Array.getElem?_toList];rw[<-gD];congr 1;lia
  obtain⟨j,hj⟩:=List.mem_iff_getElem?.mp R6;rw[List.getElem?_drop]at hj;have g9:=(List.getElem?_eq_some_iff.mp hj).1;have Au:(seg (arrOf st).toList sa na).length<=na:=by unfold seg;rw[List.length_take];lia
  by_cases hje:k+j=na-1
  ·rw[hje,iP]at hj;cases hj;exact Nat.le_refl _
  ·obtain⟨q1,q2⟩:=List.getElem?_eq_some_iff.mp iP;obtain⟨q3,q4⟩:=List.getElem?_eq_some_iff.mp hj
   have:=List.pairwise_iff_getElem.mp sA (k+j) (na-1) q3 q1 (by lia)
   rw[q2,q4]at this;exact this
 by_cases ht0:t=0
 ·rw[if_pos (by simpa using ht0)];subst ht0;refine wpS_pure (h _ PF N5 ?_ fun _ _ _=>rfl);show Runs r (arrOf st).toList 0 (((pendingOf st).setIfInBounds i (sa,na+nb,pa)).eraseIdxIfInBounds (i+1)).toList lo;rw[N5];refine Runs.merge gP (fun _ _ _=>rfl) (fun _ _ _=>rfl) ?_;have e:seg (arrOf st).toList sa (na+nb)=seg (arrOf st).toList sa na++seg (arrOf st).toList (sa+na) nb:=by
   unfold seg;rw[List.take_add,List.drop_drop]
  rw[e];rw[List.drop_zero]at ft;have eA:seg (arrOf st).toList sa k++(seg (arrOf st).toList sa na).drop k=seg (arrOf st).toList sa na:=by
   unfold seg
   have:=List.take_append_drop k (((arrOf st).toList.drop sa).take na)
   rwa [List.take_take,Nat.min_eq_left hk]at this
  refine List.pairwise_append.mpr ⟨sA,sB,fun x hx y hy=>?_⟩;rw[<-eA]at hx;rcases List.mem_append.mp hx with hx|hx
  ·exact Nat.le_trans (RT x hx) (U1 y hy)
  ·exact Nat.le_trans (aM x hx) (ft y hy)
 rw[if_neg (by simpa using ht0)];have ex:((arrOf st).extract (sa+k) (sa+na)).toList=(seg (arrOf st).toList sa na).drop k:=by
  rw[C8];unfold seg;rw[List.drop_take,List.drop_take,List.drop_drop];congr 1;lia
 have ey:((arrOf st).extract (sa+na) (sa+na+t)).toList=seg (arrOf st).toList (sa+na) t:=GP _ _ _;have sx:Srt r ((arrOf st).extract (sa+k) (sa+na)).toList:=by rw[ex];exact sA.sublist (List.drop_sublist _ _)
 have sy:Srt r ((arrOf st).extract (sa+na) (sa+na+t)).toList:=by
  rw[ey];have:seg (arrOf st).toList (sa+na) t=(seg (arrOf st).toList (sa+na) nb).take t:=by unfold seg;rw[List.take_take,Nat.min_eq_left ht]
  rw[this];exact sB.sublist (List.take_sublist _ _)
 have lx:((arrOf st).extract (sa+k) (sa+na)).toList.length=na-k:=by rw[ex];unfold seg;rw[List.length_drop,List.length_take,List.length_drop];lia
 have ly:((arrOf st).extract (sa+na) (sa+na+t)).toList.length=t:=by rw[ey];unfold seg;rw[List.length_take,List.length_drop];lia
 have zx:1<=((arrOf st).extract (sa+k) (sa+na)).size:=by rw[<-Array.length_toList,lx];lia
 have zy:1<=((arrOf st).extract (sa+na) (sa+na+t)).size:=by rw[<-Array.length_toList,ly];lia
 have lS:∀p∈((arrOf st).extract (sa+k) (sa+na)).toList,p∈a₀.toList:=fun p gE=>by
  rw[ex]at gE;exact Uk p (List.mem_of_mem_drop (List.mem_of_mem_take (List.mem_of_mem_drop gE)))
 have nG:∀p∈((arrOf st).extract (sa+na) (sa+na+t)).toList,p∈a₀.toList:=fun p gE=>by
  rw[ey]at gE;exact Uk p (List.mem_of_mem_drop (List.mem_of_mem_take gE))
 have XZ:∀y,((arrOf st).extract (sa+na) (sa+na+t)).toList[0]?=some y->y=kb:=fun y hy=>by
  rw[ey]at hy;unfold seg at hy;rw[List.getElem?_take,if_pos (by lia),List.getElem?_drop,Nat.add_zero,Array.getElem?_toList,TY]at hy;cases hy;rfl
 have finish:∀(out:Array Keyed)(AR:SortSt),Mg r ((arrOf st).extract (sa+k) (sa+na)).toList ((arrOf st).extract (sa+na) (sa+na+t)).toList out.toList →
   Gl a₀ k0 (SortSt.mk' (kindOf st) (arrOf st) (((pendingOf st).setIfInBounds i (sa,na+nb,pa)).eraseIdxIfInBounds (i+1)) (gallopOf st) (failedOf st)) AR →
   Q (failedOf AR).isNone (SortSt.mk' (kindOf AR) (out.toList.zipIdx.foldl (fun a (p:Keyed×Nat)=>a.setIfInBounds (sa+k+p.2) p.1) (arrOf AR)) (pendingOf AR) (gallopOf AR) (failedOf AR)):=by
  intro out AR hM hG;have iq:arrOf AR=arrOf st:=hG.arr;have Zo:(pendingOf AR).toList=pre++(sa,na+nb,pa)::post:=by rw[hG.pend];exact N5
  have pY:out.toList.length=na-k+t:=by rw[hM.perm.length_eq,List.length_append,lx,ly]
  have gA:(failedOf AR).isNone=true:=by rw[hG.base.failed];rfl
  rw[gA];have LW:(out.toList.zipIdx.foldl (fun a (p:Keyed×Nat)=>a.setIfInBounds (sa+k+p.2) p.1) (arrOf AR)).toList=(arrOf st).toList.take (sa+k)++out.toList++(arrOf st).toList.drop (sa+na+t):=by
   rw[iq,Tq _ _ _ (by lia),pY];congr 2;lia
  refine h _ ⟨?_,hG.base.kind,hG.base.failed⟩ Zo ?_ fun j n hj=>?_
  ·refine Array.Perm.trans ?_ hB.perm;rw[Array.perm_iff_toList_perm];show(out.toList.zipIdx.foldl (fun a (p:Keyed×Nat)=>a.setIfInBounds (sa+k+p.2) p.1) (arrOf AR)).toList.Perm (arrOf st).toList;rw[LW];have aK:(arrOf st).toList=(arrOf st).toList.take (sa+k)++(((arrOf st).extract (sa+k) (sa+na)).toList++((arrOf st).extract (sa+na) (sa+na+t)).toList)++(arrOf st).toList.drop (sa+na+t):=by
    rw[C8,C8,<-List.append_assoc,E8 _ (by lia),E8 _ (by lia),List.take_append_drop]
   conv=>rhs;rw[aK]
   exact((hM.perm.append_left _).append_right _)
  ·show Runs r (out.toList.zipIdx.foldl (fun a (p:Keyed×Nat)=>a.setIfInBounds (sa+k+p.2) p.1) (arrOf AR)).toList 0 (pendingOf AR).toList lo;rw[LW,Zo];refine Runs.merge gP (fun j n hj=>?_) (fun j n hj=>?_) ?_
   ·exact ZZ (by lia) j n (by lia)
   ·exact N6 (by lia) (by lia) j n (by lia)
   ·have:=ZV (l:=(arrOf st).toList) (M:=out.toList) (sa:=sa) (k:=k) (i0:=sa+k) (j0:=sa+na+t) (t:=nb-t) rfl (by lia) (by lia)
    rw[show k+out.toList.length+(nb-t)=na+nb by lia]at this;rw[this];refine RM sA sB hk ht RT aM U1 ft ?_;rw[<-ex,<-ey];exact hM
  ·show seg (out.toList.zipIdx.foldl (fun a (p:Keyed×Nat)=>a.setIfInBounds (sa+k+p.2) p.1) (arrOf AR)).toList j n=_;rw[LW];exact N6 (by lia) (by lia) j n (by lia)
 by_cases hle:na-k<=t
 ·rw[if_pos hle];refine wpS_bind (Ot hc PF lS nG sx sy zx zy ?_ ?_ fun out AR hM hG=>wpS_bind (wpS_modify (wpS_bind (wpS_get (wpS_pure (finish out AR hM hG))))))
  ·intro x y hx hy;have qg:=XZ y (by rw[Array.getElem?_toList];exact hy);subst qg;have:x∈((arrOf st).extract (sa+k) (sa+na)).toList:=Array.mem_toList_iff.mpr (Array.mem_of_getElem? hx);rw[ex]at this;exact Nat.le_of_lt (FU x this)
  ·intro x hx y hy;rw[ey]at hy;have jb:x=ka:=by
    rw[lx,C8,List.getElem?_drop,List.getElem?_take]at hx;rw[if_pos (by lia),Array.getElem?_toList]at hx;rw[show sa+k+(na-k-1)=sa+k+(na-k)-1 by lia,gD]at hx;cases hx;rfl
   subst jb;exact Nat.le_of_lt (lL y hy)
 ·rw[if_neg hle];refine wpS_bind (OC hc PF lS nG sx sy zx zy ?_ ?_ fun out AR hM hG=>wpS_bind (wpS_modify (wpS_bind (wpS_get (wpS_pure (finish out AR hM hG))))))
  ·intro y hy x hx;obtain⟨j,hj⟩:=List.mem_iff_getElem?.mp hy;rw[List.getElem?_take]at hj;split at hj
   ·rename_i gc;obtain rfl:j=0:=by lia
    have:=XZ y hj
    subst this;rw[ex]at hx;exact Nat.le_of_lt (FU x hx)
   ·cases hj
  ·intro x hx y hy;rw[ey]at hy;obtain⟨j,hj⟩:=List.mem_iff_getElem?.mp hx;rw[List.getElem?_drop,<-Array.length_toList,lx]at hj;have g9:=(List.getElem?_eq_some_iff.mp hj).1;rw[lx]at g9;obtain rfl:j=0:=by lia
   have jb:x=ka:=by
    rw[Nat.add_zero,C8,List.getElem?_drop,List.getElem?_take,if_pos (by lia),Array.getElem?_toList]at hj;rw[show sa+k+(na-k-1)=sa+k+(na-k)-1 by lia,gD]at hj;cases hj;rfl
   subst jb;exact Nat.le_of_lt (lL y hy)
theorem L6{xs:Array Keyed}{i n:Nat}(h:Up r xs i (i+n)):Srt r (seg xs.toList i n):=by
 rw[Srt,List.pairwise_iff_getElem];intro j k hj hk lp;have e1:(seg xs.toList i n)[j]?=some (seg xs.toList i n)[j]:=List.getElem?_eq_getElem hj;have e2:(seg xs.toList i n)[k]?=some (seg xs.toList i n)[k]:=List.getElem?_eq_getElem hk;have Us:k<n:=by unfold seg at hk;rw[List.length_take]at hk;lia
 have f1:xs.toList[i+j]?=some (seg xs.toList i n)[j]:=by
  rw[<-e1];unfold seg;rw[List.getElem?_take,if_pos (by lia),List.getElem?_drop]
 have f2:xs.toList[i+k]?=some (seg xs.toList i n)[k]:=by
  rw[<-e2];unfold seg;rw[List.getElem?_take,if_pos (by lia),List.getElem?_drop]
 have:=h (i+j) (i+k) (by lia) (by lia) (by lia)
 rw[Dz f1,Dz f2]at this;exact this
theorem OP{xs ys:Array Keyed}{lo:Nat}(h:∀k,k<lo->ys[k]?=xs[k]?)(i n:Nat)(hi:i+n<=lo):seg ys.toList i n=seg xs.toList i n:=by
 refine List.ext_getElem? fun k=>?_;unfold seg;rw[List.getElem?_take,List.getElem?_take];split
 ·rw[List.getElem?_drop,List.getElem?_drop,Array.getElem?_toList,Array.getElem?_toList];exact h _ (by lia)
 ·rfl
theorem VV{p:List (Nat×Nat×Nat)}{i:Nat}(h:i+1<p.length):∃pre sa na pa sb nb pb post,p=pre++(sa,na,pa)::(sb,nb,pb)::post/\pre.length=i:=by refine⟨p.take i,p[i].1,p[i].2.1,p[i].2.2,p[i+1].1,p[i+1].2.1,p[i+1].2.2,p.drop (i+2),?_,by rw[List.length_take];lia⟩;have e1:=List.drop_eq_getElem_cons (show i<p.length by lia);have e2:=List.drop_eq_getElem_cons h;show p=p.take i++p[i]::p[i+1]::p.drop (i+2);rw[<-e2,<-e1,List.take_append_drop]
theorem Runs.last{l:List Keyed}:∀{p:List (Nat×Nat×Nat)}{b lo:Nat}{f:Nat×Nat×Nat->Nat×Nat×Nat},Runs r l b p lo->(∀x,(f x).1=x.1/\(f x).2.1=x.2.1)->∀i,Runs r l b (p.modify i f) lo
 |[],_,_,_,h,_,i=>by cases i<;>simpa using h
 |(st,n,q)::rest,b,lo,f,h,hf,0=>by
  rw[Runs]at h;rw[List.modify_zero_cons];obtain⟨e1,e2⟩:=hf (st,n,q);generalize f (st,n,q)=y at *;obtain⟨y1,y2,y3⟩:=y;simp only at e1 e2;subst e1;subst e2;exact h
 |(st,n,q)::rest,b,lo,f,h,hf,i+1=>by
  rw[Runs]at h;rw[List.modify_succ_cons];exact⟨h.1,h.2.1,h.2.2.1,Runs.last h.2.2.2 hf i⟩
theorem wpS_sortRuns(hc:CmpOk prog w A s a₀ r k0){st:SortSt}(hB:SB a₀ k0 st)(hp:pendingOf st=#[]){Q:Unit->SortSt->Prop}(h:∀AR,SB a₀ k0 AR->Srt r (arrOf AR).toList->Q () AR):wpS (model prog w) A E s sortRuns' Q st:=by
 have hsz:=hB.size;unfold sortRuns';refine wpS_bind (wpS_get ?_);dsimp only;rw[show(arrOf st).size=a₀.size from hsz];refine wpS_bind (wpS_mono (wpS_forRange (I:=fun x c AR=>∃lo,c=(none,lo)/\SB a₀ k0 AR/\lo<=a₀.size/\(x<=lo\/lo=a₀.size)/\Runs r (arrOf AR).toList 0 (pendingOf AR).toList lo)
  (Q:=fun c AR=>c=(none,a₀.size)/\SB a₀ k0 AR/\Runs r (arrOf AR).toList 0 (pendingOf AR).toList a₀.size) ?_ ?_ ⟨0,rfl,hB,by lia,.inl (by lia),by rw[hp];rfl⟩) ?_)
 rotate_left
 ·rintro c AR ⟨lo,rfl,jQ,h1,h2,hR⟩;obtain rfl:lo=a₀.size:=by lia
  exact⟨rfl,jQ,hR⟩
 ·rintro c AR ⟨rfl,jQ,hR⟩;dsimp only;refine wpS_bind (wpS_mono (wpS_forRange (I:=fun x c AR=>c=(none,())/\SB a₀ k0 AR/\Runs r (arrOf AR).toList 0 (pendingOf AR).toList a₀.size/\((pendingOf AR).size<=1\/(pendingOf AR).size+x<=a₀.size))
   (Q:=fun c AR=>c=(none,())/\SB a₀ k0 AR/\Runs r (arrOf AR).toList 0 (pendingOf AR).toList a₀.size/\(pendingOf AR).size<=1) ?_ ?_ ⟨rfl,jQ,hR,.inr (by have:=hR.le;rw[Array.length_toList]at this;lia)⟩) ?_)
  ·rintro x c Bp _ _ ⟨rfl,PF,VM,lX⟩;refine wpS_bind (wpS_get ?_);by_cases hle:(pendingOf Bp).size<=1
   ·rw[if_pos hle];exact wpS_pure ⟨rfl,PF,VM,hle⟩
   rw[if_neg hle];have hpl:(pendingOf Bp).toList.length=(pendingOf Bp).size:=Array.length_toList;have go:∀i,i+1<(pendingOf Bp).size->wpS (model prog w) A E s (mergeAt' i) (fun b Ct=>b=true/\SB a₀ k0 Ct/\Runs r (arrOf Ct).toList 0 (pendingOf Ct).toList a₀.size/\(pendingOf Ct).size+1=(pendingOf Bp).size) Bp:=by
    intro i hi;obtain⟨pre,sa,na,pa,sb,nb,pb,post,e,Ia⟩:=VV (p:=(pendingOf Bp).toList) (i:=i) (by lia);refine JM hc PF e Ia (Nat.le_refl _) VM fun Ct ju Hh cK _=>⟨rfl,ju,cK,?_⟩;have e2:(pendingOf Ct).size=(pre++(sa,na+nb,pa)::post).length:=by rw[<-Hh,Array.length_toList]
    rw[e2,<-hpl,e];simp only[List.length_append,List.length_cons];lia
   have ix:∀(c:Prop) [Decidable c],(if c then(pendingOf Bp).size-2-1 else(pendingOf Bp).size-2)+1<(pendingOf Bp).size:=by
    intro c _;split<;>lia
   refine wpS_bind (wpS_mono (go _ ?_) ?_)
   ·split<;>exact ix _
   ·rintro b Ct ⟨rfl,ju,cK,NM⟩;rw[if_neg (by decide)];exact wpS_pure ⟨rfl,ju,cK,by lia⟩
  ·rintro c Bp ⟨rfl,PF,VM,lX⟩;refine⟨rfl,PF,VM,?_⟩;lia
  ·rintro c Bp ⟨rfl,PF,VM,lX⟩;refine wpS_pure (h Bp PF ?_);have hl:(arrOf Bp).toList.length=a₀.size:=by rw[Array.length_toList];exact PF.size
   have hpl:(pendingOf Bp).toList.length=(pendingOf Bp).size:=Array.length_toList;cases hq:(pendingOf Bp).toList with
   |nil=>
    rw[hq,Runs]at VM;have:(arrOf Bp).toList=[]:=List.eq_nil_of_length_eq_zero (by lia);rw[this];exact List.Pairwise.nil
   |cons q rest=>
    have:rest=[]:=by
     rw[hq,List.length_cons]at hpl;exact List.eq_nil_of_length_eq_zero (by lia)
    subst this;obtain⟨q1,q2,q3⟩:=q;rw[hq,Runs,Runs]at VM;obtain⟨rfl,_,g1,g2⟩:=VM;unfold seg at g1;rw[List.drop_zero,List.take_of_length_le (by lia)]at g1;exact g1
 rintro x c Bp _ hx ⟨lo,rfl,PF,h1,h2,VM⟩;dsimp only;by_cases Jl:lo≥a₀.size
 ·rw[if_pos Jl];obtain rfl:lo=a₀.size:=by lia
  exact wpS_pure ⟨rfl,PF,VM⟩
 rw[if_neg Jl];refine wpS_bind (Nf hc PF (lo:=lo) (nrem:=a₀.size-lo) (by lia) (by lia) fun m Ct lI fc Lf kG=>?_);dsimp only;have cK:Runs r (arrOf Ct).toList 0 (pendingOf Ct).toList lo:=by
  rw[Lf.pend];exact VM.same fun i n _ hi=>OP Lf.low i n hi
 generalize (sortPriv% PySem.Builtin.minRun) a₀.size a₀.size 0=mr;by_cases hmr:m<mr
 case' pos=>
  rw[if_pos hmr];refine wpS_bind (wpS_lift (wpAny_rule ⟨rfl,?_⟩));refine wpS_bind (Kb hc Lf.base (lo:=lo) (n:=min (a₀.size-lo) mr) (ok:=m) (by lia) (by lia) kG fun Gz Zp l0=>?_);rw[if_neg (by decide)];have fz:1<=min (a₀.size-lo) mr:=by lia
  have Xr:lo+min (a₀.size-lo) mr<=a₀.size:=by lia
  have iz:=L6 l0;have i6:=Zp.base;have j3:Runs r (arrOf Gz).toList 0 (pendingOf Gz).toList lo:=by
   rw[Zp.pend];exact cK.same fun i n _ hi=>OP Zp.low i n hi
  clear l0 Zp;generalize min (a₀.size-lo) mr=n at *
 case' neg=>
  rw[if_neg hmr];have fz:1<=m:=lI;have Xr:lo+m<=a₀.size:=by lia
  have iz:=L6 kG;have i6:=Lf.base;have j3:=cK;clear kG Lf cK;generalize m=n at *;generalize Ct=Gz at *
 all_goals
  have fin:∀Iz,SB a₀ k0 Iz->Runs r (arrOf Iz).toList 0 (pendingOf Iz).toList lo->Srt r (seg (arrOf Iz).toList lo n)->∃fi,((none:Option Unit),lo+n)=(none,fi)/\SB a₀ k0 (setPending Iz ((pendingOf Iz).push (lo,n,0)))/\fi<=a₀.size/\(x+1<=fi\/fi=a₀.size)/\Runs r (arrOf Iz).toList 0 ((pendingOf Iz).push (lo,n,0)).toList fi:=by
   intro Iz Vn cy VZ;refine⟨lo+n,rfl,⟨Vn.perm,Vn.kind,Vn.failed⟩,Xr,.inl (by lia),?_⟩;rw[Array.toList_push];exact cy.snoc fz VZ
  refine wpS_bind (wpS_get ?_);cases hbk:(pendingOf Gz).back? with
  |none=>
   dsimp only;exact wpS_bind (wpS_modify (wpS_pure (fin Gz i6 j3 iz)))
  |some q=>
   obtain⟨s1,n1,p1⟩:=q;dsimp only;refine wpS_bind (wpS_mono (wpS_forRange (I:=fun _ c AR=>c=(none,())/\SB a₀ k0 AR/\Runs r (arrOf AR).toList 0 (pendingOf AR).toList lo/\Srt r (seg (arrOf AR).toList lo n))
    (Q:=fun c AR=>c=(none,())/\SB a₀ k0 AR/\Runs r (arrOf AR).toList 0 (pendingOf AR).toList lo/\Srt r (seg (arrOf AR).toList lo n)) ?_ (fun _ _ z=>z) ⟨rfl,i6,j3,iz⟩) ?_)
   ·rintro y c Iz _ _ ⟨rfl,Vn,cy,VZ⟩;refine wpS_bind (wpS_get ?_);by_cases aq:(pendingOf Iz).size > 1
    ·rw[if_pos aq];have hpl:(pendingOf Iz).toList.length=(pendingOf Iz).size:=Array.length_toList;obtain⟨pre,sa,na,pa,sb,nb,pb,post,e,Ia⟩:=VV (p:=(pendingOf Iz).toList) (i:=(pendingOf Iz).size-2) (by lia);have eg:(pendingOf Iz)[(pendingOf Iz).size-2]?=some (sa,na,pa):=by
      rw[<-Array.getElem?_toList,e,List.getElem?_append_right (by lia),Ia,Nat.sub_self];rfl
     rw[eg];dsimp only;split
     ·exact wpS_pure ⟨rfl,Vn,cy,VZ⟩
     ·refine wpS_bind (JM hc Vn e Ia h1 cy fun cS pP qq pX kq=>?_);rw[if_neg (by decide)];exact wpS_pure ⟨rfl,pP,pX,by rw[kq lo n (Nat.le_refl _)];exact VZ⟩
    ·rw[if_neg aq];exact wpS_pure ⟨rfl,Vn,cy,VZ⟩
   ·rintro c Iz ⟨rfl,Vn,cy,VZ⟩;dsimp only;refine wpS_bind (wpS_modify (wpS_bind (wpS_modify (wpS_pure (fin (setPending Iz ((pendingOf Iz).modify ((pendingOf Iz).size-1) fun x=>(x.1,x.2.1,_))) ⟨Vn.perm,Vn.kind,Vn.failed⟩ ?_ VZ)))));show Runs r (arrOf Iz).toList 0 ((pendingOf Iz).modify _ _).toList lo;rw[Array.toList_modify];refine Runs.last cy ?_ _;exact fun x=>⟨rfl,rfl⟩
end
end TS
namespace TF
open PySem PySem.Spec L2
open PyProof.Rows hiding St RelV
mutual
def CW(st:Bool):Dat->Dat->Bool
 |.int a,.int b=>if st then decide (a<b)else decide (a<=b)
 |.tup l,.tup m=>Bs st l m
 |_,_=>false
def Bs(st:Bool):List Dat->List Dat->Bool
 |[],[]=>!st
 |[],_::_=>true
 |_::_,[]=>false
 |x::l,y::m=>if eqD x y then Bs st l m else CW st x y
end
def CB:Nat->Dat->Dat->Bool
 |_,.int _,.int _=>true
 |n+1,.tup l,.tup m=>(l.zip m).all fun p=>CB n p.1 p.2
 |_,_,_=>false
abbrev gK(st:Bool):CmpOp:=if st then .Lt else .LtE
def Yv(st:Bool)(A:Around)(s:Shared)(u v:Value)(b:Bool):Prop:=∀(prog:Program)(w:World)(E:Value->Shared->Prop)(Q:Value->Shared->Prop),Q (.bool b) s->wpAny (model prog w) A (richCompare (gK st) u v) Q E s
section
open PySem.SeqAt
open PySem.AutoSeq1 (wpAny_loadPart')
open PySem.MeetsSeq PySem.MeetsSeq2 PySem.MeetsSeq3
inductive Prs (A:Around) (s:Shared) (st:Bool):List Dat->List Dat->List Value->List Value->Prop
 |nilL {m ws} (h:ws.length=m.length):Prs A s st [] m [] ws
 |nilR {l vs} (h:vs.length=l.length):Prs A s st l [] vs []
 |cons {x y l m u v vs ws} (he:EqAt A s u v (eqD x y)) (hl:Yv st A s u v (CW st x y)) (t:Prs A s st l m vs ws):Prs A s st (x::l) (y::m) (u::vs) (v::ws)
theorem QI(l b:Addr)(items Cj:Array Value)(n n2:Nat)(dd QG:Option Addr)(sl Nv:Array (Option Value))(ds es:List Dat) :
  Meets (Builtin.«tuple.__lt__» ⟨[.ref l,.ref b],[]⟩)
   (fun A R s=>Prs A.in1 s true ds es items.toList Cj.toList/\ds.length=items.size/\es.length=Cj.size/\s.heap.get? l=some { cls:=.type "tuple",dict:=dd,data:=.seq items n,slots:=sl }/\s.heap.get? b=some { cls:=.type "tuple",dict:=QG,data:=.seq Cj n2,slots:=Nv } ∧
    R (.ok (.ret (.bool (Bs true ds es)))) s):=
 .of_wp fun prog w A R s h=>by
  obtain⟨hp,g,d,tk,os⟩:=s;obtain⟨hP,z1,z2,hl,hb,h⟩:=h;have f2:=AutoSeq1.sub_tuple_tuple;wp_walk using wpAny_loadPart' hl,wpAny_loadPart' hb,wpAny_forIn_list _ (fun rest b s'=>b.1=none/\s'=⟨hp,g,d,tk,os⟩/\∃(vs ws:List Value)(HM Jj:List Dat),rest=vs.zip ws ∧
   Prs A.in1 ⟨hp,g,d,tk,os⟩ true HM Jj vs ws/\HM.length+Cj.size=Jj.length+items.size/\R (.ok (.ret (.bool (Bs true HM Jj)))) ⟨hp,g,d,tk,os⟩) _
  case turn=>
   rintro⟨y,x⟩ rest b s' ⟨LR,rfl,vs,ws,HM,Jj,hz,Zg,Au,hR⟩;cases Zg with
   |nilL hq=>rw[List.zip_nil_left]at hz;cases hz
   |nilR hq=>rw[List.zip_nil_right]at hz;cases hz
   |@cons dx dy l' m' u v LQ lO he BC gg=>
    rw[List.zip_cons_cons]at hz;injection hz with RN LD;injection RN with hy hx;subst hy hx;rw[Bs]at hR;simp only[List.length_cons]at Au;refine wpAny_bind (he prog w _ _ ?_);cases hq:eqD dx dy with
    |true=>
     rw[hq,if_pos rfl]at hR;wp_walk;exact⟨rfl,rfl,_,_,_,_,LD,gg,by lia,hR⟩
    |false=>
     rw[hq,if_neg (by decide)]at hR;have bu:∀(E:Value->Shared->Prop)(Q:Value->Shared->Prop),Q (.bool (CW true dx dy)) ⟨hp,g,d,tk,os⟩->wpAny (model prog w) A.in1 (richCompare .Lt y x) Q E ⟨hp,g,d,tk,os⟩:=BC prog w;wp_walk using bu;exact⟨_,rfl,by simpa using hR⟩
  case fin=>
   rintro⟨b1,b2⟩ s' ⟨LR,rfl,vs,ws,HM,Jj,hz,Zg,Au,hR⟩;simp only at LR;subst LR;have hv:Bs true HM Jj=decide (items.size<Cj.size):=by
    cases Zg with
    |nilL hq=>
     cases Jj with
     |nil=>
      simp only[List.length_nil]at Au;rw[Bs];exact(decide_eq_false (by lia)).symm
     |cons y m=>
      simp only[List.length_nil,List.length_cons]at Au;rw[Bs];exact(decide_eq_true (by lia)).symm
    |nilR hq=>
     cases HM with
     |nil=>
      simp only[List.length_nil]at Au;rw[Bs];exact(decide_eq_false (by lia)).symm
     |cons y m=>
      simp only[List.length_nil,List.length_cons]at Au;rw[Bs];exact(decide_eq_false (by lia)).symm
    |cons he BC gg=>rw[List.zip_cons_cons]at hz;cases hz
   rw[hv]at hR;wp_walk;exact⟨_,rfl,by simpa[Builtin.Tuple.tupleCompareSizes]using hR⟩
  case h=>
   exact⟨rfl,rfl,items.toList,Cj.toList,ds,es,rfl,hP,by lia,h⟩
theorem RB(l b:Addr)(items Cj:Array Value)(n n2:Nat)(dd QG:Option Addr)(sl Nv:Array (Option Value))(ds es:List Dat) :
  Meets (Builtin.«tuple.__le__» ⟨[.ref l,.ref b],[]⟩)
   (fun A R s=>Prs A.in1 s false ds es items.toList Cj.toList/\ds.length=items.size/\es.length=Cj.size/\s.heap.get? l=some { cls:=.type "tuple",dict:=dd,data:=.seq items n,slots:=sl }/\s.heap.get? b=some { cls:=.type "tuple",dict:=QG,data:=.seq Cj n2,slots:=Nv } ∧
    R (.ok (.ret (.bool (Bs false ds es)))) s):=
 .of_wp fun prog w A R s h=>by
  obtain⟨hp,g,d,tk,os⟩:=s;obtain⟨hP,z1,z2,hl,hb,h⟩:=h;have f2:=AutoSeq1.sub_tuple_tuple;wp_walk using wpAny_loadPart' hl,wpAny_loadPart' hb,wpAny_forIn_list _ (fun rest b s'=>b.1=none/\s'=⟨hp,g,d,tk,os⟩/\∃(vs ws:List Value)(HM Jj:List Dat),rest=vs.zip ws ∧
   Prs A.in1 ⟨hp,g,d,tk,os⟩ false HM Jj vs ws/\HM.length+Cj.size=Jj.length+items.size/\R (.ok (.ret (.bool (Bs false HM Jj)))) ⟨hp,g,d,tk,os⟩) _
  case turn=>
   rintro⟨y,x⟩ rest b s' ⟨LR,rfl,vs,ws,HM,Jj,hz,Zg,Au,hR⟩;cases Zg with
   |nilL hq=>rw[List.zip_nil_left]at hz;cases hz
   |nilR hq=>rw[List.zip_nil_right]at hz;cases hz
   |@cons dx dy l' m' u v LQ lO he BC gg=>
    rw[List.zip_cons_cons]at hz;injection hz with RN LD;injection RN with hy hx;subst hy hx;rw[Bs]at hR;simp only[List.length_cons]at Au;refine wpAny_bind (he prog w _ _ ?_);cases hq:eqD dx dy with
    |true=>
     rw[hq,if_pos rfl]at hR;wp_walk;exact⟨rfl,rfl,_,_,_,_,LD,gg,by lia,hR⟩
    |false=>
     rw[hq,if_neg (by decide)]at hR;have bu:∀(E:Value->Shared->Prop)(Q:Value->Shared->Prop),Q (.bool (CW false dx dy)) ⟨hp,g,d,tk,os⟩->wpAny (model prog w) A.in1 (richCompare .LtE y x) Q E ⟨hp,g,d,tk,os⟩:=BC prog w;wp_walk using bu;exact⟨_,rfl,by simpa using hR⟩
  case fin=>
   rintro⟨b1,b2⟩ s' ⟨LR,rfl,vs,ws,HM,Jj,hz,Zg,Au,hR⟩;simp only at LR;subst LR;have hv:Bs false HM Jj=decide (items.size<=Cj.size):=by
    cases Zg with
    |nilL hq=>
     cases Jj with
     |nil=>
      simp only[List.length_nil]at Au;rw[Bs];exact(decide_eq_true (by lia)).symm
     |cons y m=>
      simp only[List.length_nil,List.length_cons]at Au;rw[Bs];exact(decide_eq_true (by lia)).symm
    |nilR hq=>
     cases HM with
     |nil=>
      simp only[List.length_nil]at Au;rw[Bs];exact(decide_eq_true (by lia)).symm
     |cons y m=>
      simp only[List.length_nil,List.length_cons]at Au;rw[Bs];exact(decide_eq_false (by lia)).symm
    |cons he BC gg=>rw[List.zip_cons_cons]at hz;cases hz
   rw[hv]at hR;wp_walk;exact⟨_,rfl,by simpa[Builtin.Tuple.tupleCompareSizes]using hR⟩
  case h=>
   exact⟨rfl,rfl,items.toList,Cj.toList,ds,es,rfl,hP,by lia,h⟩
theorem Qs{A:Around}{s:Shared}{st:Bool}:∀{l m:List Dat}{vs ws:List Value},vs.length=l.length->ws.length=m.length →
  (∀(i:Nat) x y u v,l[i]?=some x->m[i]?=some y->vs[i]?=some u->ws[i]?=some v->EqAt A s u v (eqD x y)/\Yv st A s u v (CW st x y))->Prs A s st l m vs ws
 |[],m,vs,ws,h1,h2,_=>by
  obtain rfl:=List.eq_nil_of_length_eq_zero h1;exact .nilL h2
 |_::_,[],vs,ws,h1,h2,_=>by
  obtain rfl:=List.eq_nil_of_length_eq_zero h2;exact .nilR h1
 |x::l,y::m,[],_,h1,_,_=>by simp at h1
 |x::l,y::m,_::_,[],_,h2,_=>by simp at h2
 |x::l,y::m,u::vs,v::ws,h1,h2,h=>by
  obtain⟨a,b⟩:=h 0 x y u v rfl rfl rfl rfl;refine .cons a b (Qs (by simpa using h1) (by simpa using h2) fun i x' y' u' v' g1 g2 g3 g4=>h (i+1) x' y' u' v' (by simpa using g1) (by simpa using g2) (by simpa using g3) (by simpa using g4))
theorem KD{s:Shared}(st:Bool):∀(n:Nat){A:Around}{d e:Dat}{u v:Value},CB n d e=true->AI n d=true->AI n e=true->AtH s.heap d u->AtH s.heap e v->A.units+n<cLine->Yv st A s u v (CW st d e)
 |n,A,.int a,.int b,u,v,ho,_,_,hd,he,hu=>by
  rw[AtH]at hd he;obtain⟨t,rfl⟩:=hd;obtain⟨t',rfl⟩:=he;intro prog w E Q h;rw[CW]at h;cases st with
  |true=>exact(PyProof.Rows.lt_int h:wpAny (model prog w) A (compareOp .Lt (.int a t) (.int b t')) Q E s)
  |false=>exact(PyProof.Rows.le_int h:wpAny (model prog w) A (compareOp .LtE (.int a t) (.int b t')) Q E s)
 |n+1,A,.tup l,.tup m,u,v,ho,pd,pe,hd,he,hu=>by
  rw[AtH]at hd he;obtain⟨a,is,rfl,ti,rl⟩:=hd;obtain⟨b,js,rfl,tj,rm⟩:=he;rw[CB,List.all_eq_true]at ho;rw[AI,List.all_eq_true]at pd pe;have hP:Prs A.in1 s st l m is js:=Qs rl.length rm.length fun i x y u v g1 g2 g3 g4=>by
   obtain⟨u',HH,ru⟩:=rl.get g1;obtain⟨v',Oy,rv⟩:=rm.get g2;rw[g3]at HH;rw[g4]at Oy;cases HH;cases Oy;have p1:=pd x (List.mem_of_getElem? g1);have p2:=pe y (List.mem_of_getElem? g2);have o1:=ho (x,y) (List.mem_of_getElem? (i:=i) (by rw[List.getElem?_zip_eq_some];exact⟨g1,g2⟩));have OV:A.in1.units+n<cLine:=by show A.units+1+n<cLine;lia
   exact⟨(HR n p1 p2 ru rv OV).1,KD st n o1 p1 p2 ru rv OV⟩
  obtain⟨⟨cls,dd,data,sl⟩,Xp,hc,n1,hd⟩:=id ti;obtain⟨⟨b7,QG,data2,Nv⟩,Q4,Nu,n2,hd2⟩:=id tj;simp only at hc hd Nu hd2;subst hc hd Nu hd2;intro prog w E Q h;rw[CW]at h;have z1:l.length=is.toArray.size:=by rw[List.size_toArray,rl.length]
  have z2:m.length=js.toArray.size:=by rw[List.size_toArray,rm.length]
  cases st with
  |true=>
   exact richCompare_meets_room (op:=.Lt) ⟨_,Xp,rfl⟩ ⟨_,Q4,rfl⟩ PySem.F.slot_tuple_lt PySem.F.entry_tuple_lt (PySem.F.args_tuple_lt_2 _ _) (QI a b is.toArray js.toArray n1 n2 dd QG sl Nv l m)
    ⟨hP,z1,z2,Xp,Q4,show Value.bool (Bs true l m)≠Value.notImplemented/\Q (.bool (Bs true l m)) s from⟨(fun x=>nomatch x),h⟩⟩ (by lia)
  |false=>
   exact richCompare_meets_room (op:=.LtE) ⟨_,Xp,rfl⟩ ⟨_,Q4,rfl⟩ PySem.F.slot_tuple_le PySem.F.entry_tuple_le (PySem.F.args_tuple_le_2 _ _) (RB a b is.toArray js.toArray n1 n2 dd QG sl Nv l m)
    ⟨hP,z1,z2,Xp,Q4,show Value.bool (Bs false l m)≠Value.notImplemented/\Q (.bool (Bs false l m)) s from⟨(fun x=>nomatch x),h⟩⟩ (by lia)
 |0,_,.tup _,.tup _,_,_,ho,_,_,_,_,_=>by simp[CB]at ho
 |_,_,.int _,.tup _,_,_,ho,_,_,_,_,_=>by simp[CB]at ho
 |_,_,.tup _,.int _,_,_,ho,_,_,_,_,_=>by simp[CB]at ho
 |_,_,.non,_,_,_,ho,_,_,_,_,_=>by simp[CB]at ho
 |_,_,.bl _,_,_,_,ho,_,_,_,_,_=>by simp[CB]at ho
 |_,_,.str _,_,_,_,ho,_,_,_,_,_=>by simp[CB]at ho
 |_,_,.fn _,_,_,_,ho,_,_,_,_,_=>by simp[CB]at ho
 |_,_,.scr _,_,_,_,ho,_,_,_,_,_=>by simp[CB]at ho
 |_,_,.lst _,_,_,_,ho,_,_,_,_,_=>by simp[CB]at ho
 |_,_,.int _,.non,_,_,ho,_,_,_,_,_=>by simp[CB]at ho
 |_,_,.int _,.bl _,_,_,ho,_,_,_,_,_=>by simp[CB]at ho
 |_,_,.int _,.str _,_,_,ho,_,_,_,_,_=>by simp[CB]at ho
 |_,_,.int _,.fn _,_,_,ho,_,_,_,_,_=>by simp[CB]at ho
 |_,_,.int _,.scr _,_,_,ho,_,_,_,_,_=>by simp[CB]at ho
 |_,_,.int _,.lst _,_,_,ho,_,_,_,_,_=>by simp[CB]at ho
 |_,_,.tup _,.non,_,_,ho,_,_,_,_,_=>by simp[CB]at ho
 |_,_,.tup _,.bl _,_,_,ho,_,_,_,_,_=>by simp[CB]at ho
 |_,_,.tup _,.str _,_,_,ho,_,_,_,_,_=>by simp[CB]at ho
 |_,_,.tup _,.fn _,_,_,ho,_,_,_,_,_=>by simp[CB]at ho
 |_,_,.tup _,.scr _,_,_,ho,_,_,_,_,_=>by simp[CB]at ho
 |_,_,.tup _,.lst _,_,_,ho,_,_,_,_,_=>by simp[CB]at ho
end
end TF
namespace TF
open PySem PySem.Spec L2
open PyProof.Rows hiding St RelV
open HT (lexLt)
section
mutual
theorem AtH.kept{h h':Heap}(k:∀b o,h.get? b=some o->h'.get? b=some o):∀{d:Dat}{u:Value},AtH h d u->AtH h' d u
 |.non,_,r=>by rw[AtH]at r ⊢;exact r
 |.bl _,_,r=>by rw[AtH]at r ⊢;exact r
 |.int _,_,r=>by rw[AtH]at r ⊢;exact r
 |.str _,_,r=>by rw[AtH]at r ⊢;exact r
 |.fn _,_,r=>by rw[AtH]at r ⊢;exact r
 |.scr _,_,r=>by rw[AtH]at r;exact r.elim
 |.tup _,_,r=>by
  rw[AtH]at r ⊢;obtain⟨a,AS,h1,⟨o,h2,h3⟩,h4⟩:=r;exact⟨a,AS,h1,⟨o,k _ _ h2,h3⟩,AtL.kept k h4⟩
 |.lst _,_,r=>by
  rw[AtH]at r ⊢;obtain⟨a,AS,h1,⟨o,h2,h3⟩,h4⟩:=r;exact⟨a,AS,h1,⟨o,k _ _ h2,h3⟩,AtL.kept k h4⟩
theorem AtL.kept{h h':Heap}(k:∀b o,h.get? b=some o->h'.get? b=some o):∀{ds:List Dat}{us:List Value},AtL h ds us->AtL h' ds us
 |[],_,r=>by rw[AtL]at r ⊢;exact r
 |_::_,_,r=>by
  rw[AtL]at r ⊢;obtain⟨u,r',h1,h2,h3⟩:=r;exact⟨u,r',h1,AtH.kept k h2,AtL.kept k h3⟩
end
theorem AtL.mem{h:Heap}:∀{ds:List Dat}{us:List Value},AtL h ds us->∀u∈us,∃d∈ds,AtH h d u
 |[],_,r,u,hu=>by rw[AtL]at r;subst r;cases hu
 |d::ds,_,r,u,hu=>by
  rw[AtL]at r;obtain⟨u',r',rfl,h2,h3⟩:=r;rcases List.mem_cons.mp hu with rfl|hu
  ·exact⟨d,List.mem_cons_self ..,h2⟩
  ·obtain⟨d',h4,h5⟩:=AtL.mem h3 u hu;exact⟨d',List.mem_cons_of_mem _ h4,h5⟩
theorem EM:∀l:List Int,lexLt l l=false
 |[]=>rfl
 |x::l=>by rw[HT.lexLt_cons,if_pos rfl,EM l]
theorem Fm:∀{a b c:List Int},lexLt a b=true->lexLt b c=true->lexLt a c=true
 |[],[],_,h,_=>by cases h
 |[],_::_,[],_,h=>by cases h
 |[],_::_,_::_,_,_=>rfl
 |_::_,[],_,h,_=>by cases h
 |_::_,_::_,[],_,h=>by cases h
 |x::a,y::b,z::c,h1,h2=>by
  rw[HT.lexLt_cons]at *;split at h1<;>split at h2
  ·rename_i e1 e2;subst e1;subst e2;rw[if_pos rfl];exact Fm h1 h2
  ·rename_i e1 e2;subst e1;rw[if_neg e2];exact h2
  ·rename_i e1 e2;subst e2;rw[if_neg e1];exact h1
  ·rename_i e1 e2;simp only[decide_eq_true_eq]at h1 h2;rw[if_neg (by lia)];simp only[decide_eq_true_eq];lia
theorem Ga:∀{a b:List Int},lexLt a b=false->lexLt b a=false->a=b
 |[],[],_,_=>rfl
 |[],_::_,h,_=>by cases h
 |_::_,[],_,h=>by cases h
 |x::a,y::b,h1,h2=>by
  rw[HT.lexLt_cons]at *;by_cases e:x=y
  ·subst e;rw[if_pos rfl]at h1 h2;rw[Ga h1 h2]
  ·rw[if_neg e]at h1;rw[if_neg (Ne.symm e)]at h2;simp only[decide_eq_false_iff_not]at h1 h2;lia
theorem VE{a b c:List Int}(h:lexLt a c=true):lexLt a b=true\/lexLt b c=true:=by
 cases e:lexLt a b with
 |true=>exact .inl rfl
 |false=>
  right;cases e2:lexLt b a with
  |false=>
   have:=Ga e e2
   subst this;exact h
  |true=>exact Fm e2 h
structure OrdL (g:Dat->List Int) (ds:List Dat):Prop where
 lt:∀x∈ds,∀y∈ds,CW true x y=lexLt (g x) (g y)
 ord:∀x∈ds,∀y∈ds,CB 8 x y=true
 pl:∀x∈ds,AI 8 x=true
 tup:∀x∈ds,∃y l,x=.tup (y::l)
 one:(∀x∈ds,∃i l,x=.tup (.int i::l))\/(∀x∈ds,∃k l,x=.tup (.tup k::l))
open Classical in
def Bu(h:Heap)(u:Value):Dat:=if e:∃d,AI 8 d=true/\AtH h d u then Classical.choose e else .non
theorem Bt{h:Heap}{d:Dat}{u:Value}(p:AI 8 d=true)(r:AtH h d u):Bu h u=d:=by have e:∃d,AI 8 d=true/\AtH h d u:=⟨d,p,r⟩;unfold Bu;rw[dif_pos e];obtain⟨a,b⟩:=Classical.choose_spec e;exact AtH.inj 8 a p b r
def rkD(g:Dat->List Int)(ds:List Dat)(d:Dat):Nat:=ds.countP fun z=>lexLt (g z) (g d)
theorem NN(g:Dat->List Int):∀(ds:List Dat){x y:Dat},lexLt (g x) (g y)=true->rkD g ds x<=rkD g ds y/\(x∈ds->rkD g ds x<rkD g ds y)
 |[],x,y,_=>⟨Nat.le_refl _,fun h=>by cases h⟩
 |z::ds,x,y,h=>by
  obtain⟨i1,i2⟩:=NN g ds h;unfold rkD at *;rw[List.countP_cons,List.countP_cons];have imp:lexLt (g z) (g x)=true->lexLt (g z) (g y)=true:=fun e=>Fm e h;constructor
  ·cases e1:lexLt (g z) (g x)with
   |true=>rw[imp e1];simp;exact i1
   |false=>simp;lia
  ·intro hx;rcases List.mem_cons.mp hx with rfl|hx
   ·rw[EM,h];simp;lia
   ·have:=i2 hx
    cases e1:lexLt (g z) (g x)with
    |true=>rw[imp e1];simp;lia
    |false=>simp;lia
theorem WU(g:Dat->List Int)(ds:List Dat){x y:Dat}(hx:x∈ds)(hy:y∈ds):decide (rkD g ds x<rkD g ds y)=lexLt (g x) (g y):=by
 cases e:lexLt (g x) (g y)with
 |true=>exact decide_eq_true ((NN g ds e).2 hx)
 |false=>
  refine decide_eq_false fun BC=>?_;cases e2:lexLt (g y) (g x)with
  |true=>have:=(NN g ds e2).2 hy;lia
  |false=>
   have:=Ga e e2
   unfold rkD at BC;rw[this]at BC;lia
section
variable {prog:Program}{w:World}{A:Around}{E:Value->Shared->Prop}{s:Shared}
theorem Yk{d e:Dat}{u v:Value}(fl:Bool){Q:Bool->Shared->Prop}(hf:fl=true->(∃i,d=.int i)/\∃j,e=.int j)(hl:Yv true A s u v (CW true d e))(rd:AtH s.heap d u)(re:AtH s.heap e v)(h:Q (CW true d e) s):wpAny (model prog w) A (oneLt' fl u v) Q E s:=by
 cases fl with
 |true=>
  obtain⟨⟨i,rfl⟩,j,rfl⟩:=hf rfl;rw[AtH]at rd re;obtain⟨t,rfl⟩:=rd;obtain⟨t',rfl⟩:=re;refine oneLt_int ?_;rw[CW]at h;exact h
 |false=>
  refine PySem.W.kat_one u v ?_;exact hl prog w E _ h
theorem ZC{fl:Bool}{a b:Addr}{l m:List Dat}{is js:List Value}{Q:Bool->Shared->Prop}(ti:s.heap.IsTuple a is.toArray)(tj:s.heap.IsTuple b js.toArray)(rl:AtL s.heap l is)(rm:AtL s.heap m js)(hP:Prs A s true l m is js)(hf:fl=true->∀x y,l[0]?=some x->m[0]?=some y->(∃i,x=.int i)/\∃j,y=.int j)(h:Q (Bs true l m) s):wpAny (model prog w) A (keyLt' (tuples' fl) (.ref a) (.ref b)) Q E s:=by
 obtain⟨o1,h1,_,n1,d1⟩:=ti;obtain⟨o2,h2,_,n2,d2⟩:=tj;refine PySem.W.kat_lt h1 d1 h2 d2 ?_;have z1:is.toArray.size=l.length:=by rw[List.size_toArray,rl.length]
 have z2:js.toArray.size=m.length:=by rw[List.size_toArray,rm.length]
 have gen:∀(i:Nat)(l' m':List Dat)(eD iE:List Value),Prs A s true l' m' eD iE->AtL s.heap l' eD->AtL s.heap m' iE->(fl&&i==0)=true/\l'=l/\m'=m\/(fl&&i==0)=false->l'.length+m.length=m'.length+l.length->Q (Bs true l' m') s →
   PySem.W.KatLex prog w A fl (decide (is.toArray.size<js.toArray.size)) Q (eD.zip iE) i s:=by
  intro i l' m' eD iE Zg
  induction Zg generalizing i with
  |@nilL m' ws hq=>
   intro _ _ _ hl hQ;rw[List.zip_nil_left];refine PySem.W.kat_nil ?_;rw[z1,z2];rw[List.length_nil]at hl;cases m' with
   |nil=>rw[Bs]at hQ;rw[decide_eq_false (by simp at hl;lia)];exact hQ
   |cons y m'=>rw[Bs]at hQ;rw[decide_eq_true (by simp at hl;lia)];exact hQ
  |@nilR l' vs hq=>
   intro _ _ _ hl hQ;rw[List.zip_nil_right];refine PySem.W.kat_nil ?_;rw[z1,z2];rw[List.length_nil]at hl;cases l' with
   |nil=>rw[Bs]at hQ;rw[decide_eq_false (by simp at hl;lia)];exact hQ
   |cons y l'=>rw[Bs]at hQ;rw[decide_eq_false (by simp at hl;lia)];exact hQ
  |@cons x y l' m' u v vs ws he TX t ih=>
   intro r1 r2 eP Au hQ;rw[AtL]at r1 r2;obtain⟨u',LQ,e1,ru,ou⟩:=r1;obtain⟨v',lO,e2,rv,rws⟩:=r2;cases e1;cases e2;rw[List.zip_cons_cons];refine PySem.W.kat_cons (he prog w _ _ ?_);rw[Bs]at hQ;cases hq:eqD x y with
   |true=>
    rw[hq,if_pos rfl]at hQ;refine PySem.W.kat_yes (ih (i+1) ou rws (.inr (by simp)) (by simp at Au;lia) hQ)
   |false=>
    rw[hq,if_neg (by decide)]at hQ;refine PySem.W.kat_no (Yk _ (fun lT=>?_) TX ru rv hQ);rcases eP with⟨g1,g2,g3⟩|g1
    ·refine hf ?_ x y ?_ ?_
     ·cases fl<;>simp_all
     ·rw[<-g2];rfl
     ·rw[<-g3];rfl
    ·rw[g1]at lT;cases lT
 refine gen 0 l m is js hP rl rm ?_ (Nat.add_comm _ _) h;cases fl with
 |true=>exact .inl ⟨rfl,rfl,rfl⟩
 |false=>exact .inr rfl
theorem Yp{g:Dat->List Int}{ds:List Dat}{vs:List Value}(r:AtL s.heap ds vs)(O:OrdL g ds){fl:Bool}(hf:fl=true->∀x∈ds,∃i l,x=.tup (.int i::l))(hu:A.units+8<cLine) :
  TS.CmpOk prog w A s (pairsOf vs) (fun p=>rkD g ds (Bu s.heap p.1)) (tuples' fl):=by
 intro x y hx hy E Q hq;rw[pairsOf_toList]at hx hy;obtain⟨d,hd,rd⟩:=r.mem _ (mem_zip_self hx).2;obtain⟨e,he,re⟩:=r.mem _ (mem_zip_self hy).2;have pN:decide (rkD g ds (Bu s.heap x.1)<rkD g ds (Bu s.heap y.1))=CW true d e:=by
  rw[Bt (O.pl d hd) rd,Bt (O.pl e he) re,WU g ds hd he,<-O.lt d hd e he]
 replace hq:Q (CW true d e) s:=by rw[<-pN];exact hq
 have hl:=KD (A:=A) (s:=s) true 8 (O.ord d hd e he) (O.pl d hd) (O.pl e he) rd re hu;obtain⟨x0,l,rfl⟩:=O.tup d hd;obtain⟨y0,m,rfl⟩:=O.tup e he;have od:=O.ord _ hd _ he;have p1:=O.pl _ hd;have p2:=O.pl _ he;rw[AI,List.all_eq_true]at p1 p2;rw[CB,List.all_eq_true]at od;rw[AtH]at rd re;obtain⟨a,is,ea,ti,rl⟩:=rd;obtain⟨b,js,eb,tj,rm⟩:=re;rw[ea,eb];rw[CW]at hq;refine ZC ti tj rl rm (Qs rl.length rm.length fun i x y u v g1 g2 g3 g4=>?_) (fun h0 x y g1 g2=>?_) hq
 ·obtain⟨u',HH,ru⟩:=rl.get g1;obtain⟨v',Oy,rv⟩:=rm.get g2;rw[g3]at HH;rw[g4]at Oy;cases HH;cases Oy;have q1:=p1 x (List.mem_of_getElem? g1);have q2:=p2 y (List.mem_of_getElem? g2);have o1:=od (x,y) (List.mem_of_getElem? (i:=i) (by rw[List.getElem?_zip_eq_some];exact⟨g1,g2⟩));exact⟨(HR 7 q1 q2 ru rv (by lia)).1,KD true 7 o1 q1 q2 ru rv (by lia)⟩
 ·obtain⟨i,l',e1⟩:=hf h0 _ hd;obtain⟨j,m',e2⟩:=hf h0 _ he;cases e1;cases e2;cases g1;cases g2;exact⟨⟨i,rfl⟩,j,rfl⟩
theorem HW{g:Dat->List Int}{T:Value}:∀{ds:List Dat}{vs:List Value},AtL s.heap ds vs->(∀x∈ds,∃y l,x=.tup (y::l)/\∀u,AtH s.heap y u->PySem.W.Looks (model prog w) s.heap (typeOf u) T)->∃fs,PySem.W.KatTups s.heap vs fs/\fs.length=vs.length/\∀v∈fs,PySem.W.Looks (model prog w) s.heap (typeOf v) T
 |[],_,r,_=>by rw[AtL]at r;subst r;exact⟨[],trivial,rfl,fun _ h=>by cases h⟩
 |d::ds,_,r,h=>by
  rw[AtL]at r;obtain⟨u,LQ,rfl,rd,rr⟩:=r;obtain⟨fs,h1,h2,h3⟩:=HW (g:=g) rr fun x hx=>h x (List.mem_cons_of_mem _ hx);obtain⟨y,l,rfl,hy⟩:=h d (List.mem_cons_self ..);rw[AtH]at rd;obtain⟨a,is,rfl,⟨o,ho,hc,n,hd⟩,rl⟩:=rd;rw[AtL]at rl;obtain⟨u0,eD,rfl,ru,_⟩:=rl;refine⟨u0::fs,.cons ho hc hd rfl h1,by simp[h2],fun v hv=>?_⟩;rcases List.mem_cons.mp hv with rfl|hv
  ·exact hy _ ru
  ·exact h3 v hv
theorem WL{α:Type}{R:α->α->Prop}:∀{l:List α},l.length<2->l.Pairwise R
 |[],_=>.nil
 |[_],_=>List.pairwise_singleton _ _
 |_::_::_,h=>absurd h (by simp)
theorem Ky{g:Dat->List Int}{a:Addr}{ds:List Dat}{vs:List Value}{n:Nat}{P:PySem.Fin->Shared->Prop}(ho:s.heap.get? a=some (seqObj "list" vs.toArray n))(r:AtL s.heap ds vs)(rH:∀b o,b≠a->s.heap.get? b=some o->True)(Tb:∀(h':Heap),(∀b o,b≠a->s.heap.get? b=some o->h'.get? b=some o)->AtL h' ds vs)(O:OrdL g ds)(hsz:vs.length<=sizeLine)(hu:A.units+8<cLine)(h:∀out:Array Value,out.toList.Perm vs->(out.toList.map fun u=>g (Bu s.heap u)).Pairwise (fun x y=>HT.lexLt y x=false)->P (.done (.ret .none)) { s with heap:=sortedHeap s.heap a vs out }) :
  wpAny (model prog w) A (Builtin.«list.sort» ⟨[.ref a],[]⟩) P E s:=by
 rw[list_sort_plain];have ha:a<s.heap.objs.size:=Heap.lt_size ho;refine wpAny_bind (listItems_at ho rfl ?_);refine wpAny_bind (listUpdate_at ho rfl ?_ (by rw[List.size_toArray];exact hsz) (Nat.zero_le _));obtain⟨e1,Xp⟩:∃e1,(s.heap.update a (Obj.mapSeq fun _=>#[])).get? a=some (seqObj "list" #[] e1):=⟨_,get?_update_seq ho (fun _=>#[])⟩;refine wpAny_bind (seqEpoch_at Xp rfl ?_);refine wpAny_bind (wpAny_newTuple ?_ (by show vs.length<=_;exact hsz));refine wpAny_bind (wpAny_newList ?_ (Nat.zero_le _));refine wpAny_holding ?_;have iH:(((s.heap.update a (Obj.mapSeq fun _=>#[])).push (seqObj "tuple" vs.toArray 0)).push (seqObj "list" #[] 0)).get? a=some (seqObj "list" #[] e1):=by
  rw[Heap.get?_push_ne _ _ _ (by rw[size_push',Heap.size_update];exact Nat.ne_of_lt (Nat.lt_succ_of_lt ha)),Heap.get?_push_ne _ _ _ (by rw[Heap.size_update];exact Nat.ne_of_lt ha)];exact Xp
 have keep:∀b o,b≠a->s.heap.get? b=some o->(((s.heap.update a (Obj.mapSeq fun _=>#[])).push (seqObj "tuple" vs.toArray 0)).push (seqObj "list" #[] 0)).get? b=some o:=fun b o hb e=>by
  have BC:b<s.heap.objs.size:=Heap.lt_size e;rw[Heap.get?_push_ne _ _ _ (by rw[size_push',Heap.size_update];exact Nat.ne_of_lt (Nat.lt_succ_of_lt BC)),Heap.get?_push_ne _ _ _ (by rw[Heap.size_update];exact Nat.ne_of_lt BC),Heap.get?_update_ne _ _ _ _ hb];exact e
 have r6:=Tb _ keep;show wpAny (model prog w) A _ P E { s with heap:=((s.heap.update a (Obj.mapSeq fun _=>#[])).push (seqObj "tuple" vs.toArray 0)).push (seqObj "list" #[] 0) };generalize hh6:((s.heap.update a (Obj.mapSeq fun _=>#[])).push (seqObj "tuple" vs.toArray 0)).push (seqObj "list" #[] 0)=h6 at *;have eV:∀u∈vs,Bu h6 u=Bu s.heap u:=fun u HH=>by
  obtain⟨i,hi⟩:=List.mem_iff_getElem?.mp HH;have hl:=r.length;have rR:=(List.getElem?_eq_some_iff.mp hi).1;have hd:ds[i]?=some (ds[i]'(by lia)):=List.getElem?_eq_getElem (by lia);obtain⟨u1,q1,q2⟩:=r.get hd;obtain⟨u2,q3,q4⟩:=r6.get hd;rw[hi]at q1 q3;cases q1;cases q3;have p:=O.pl _ (List.getElem_mem (by lia:i<ds.length));rw[Bt p q2,Bt p q4]
 dsimp only;have kS:vs.toArray.size=vs.length:=by simp
 by_cases h2:vs.toArray.size<2
 ·rw[if_pos h2,if_pos h2];refine wpAny_bind (wpAny_pure ?_);rw[StateT.run_pure];refine wpAny_bind (wpAny_pure ?_);dsimp only;refine wpAny_bind (seqEpoch_at iH rfl ?_);refine wpAny_bind (listUpdate_at iH rfl ?_ (Nat.zero_le _) (by rw[Array.size_map];show(pairsOf vs).size<=_;rw[pairsOf_size];lia));simp only[bne_self_eq_false,Bool.false_eq_true,if_false];have e:(vs.toArray.zip vs.toArray).map (·.2)=vs.toArray:=by
   apply Array.toList_inj.mp;rw[Array.toList_map];show(pairsOf vs).toList.map (·.2)=vs;rw[pairsOf_toList,List.map_snd_zip (Nat.le_refl _)]
  have:=h vs.toArray (by simp) (by
   rw[kS]at h2;exact WL (by simpa using h2))
  refine wpAny_pure ?_;unfold sortedHeap at this;rw[hh6]at this;show P _ { s with heap:=h6.update a (Obj.mapSeq fun _=>(vs.toArray.zip vs.toArray).map (·.2)) };rw[e];exact this
 rw[if_neg h2,if_neg h2];have Bk:0<vs.length:=by lia
 obtain⟨fl,eP,iJ⟩:∃fl:Bool,(fl=true->∀x∈ds,∃i l,x=.tup (.int i::l))/\∀(Q:SortKind->Shared->Prop),Q (tuples' fl) { s with heap:=h6 }->wpAny (model prog w) A (keyKind' vs.toArray) Q E { s with heap:=h6 }:=by
  rcases O.one with Np|Np
  ·refine⟨true,fun _=>Np,fun Q hQ=>?_⟩;obtain⟨fs,k1,k2,k3⟩:=HW (prog:=prog) (w:=w) (s:={ s with heap:=h6 }) (g:=g) (T:=.type "int") r6 fun x hx=>by
    obtain⟨i,l,rfl⟩:=Np x hx;refine⟨_,l,rfl,fun u HH=>?_⟩;rw[AtH]at HH;obtain⟨t,rfl⟩:=HH;exact PySem.W.Looks.of_pure rfl
   exact PySem.W.kat_kind k1 (by lia) k3 rfl hQ
  ·refine⟨false,(fun h=>nomatch h),fun Q hQ=>?_⟩;obtain⟨fs,k1,k2,k3⟩:=HW (prog:=prog) (w:=w) (s:={ s with heap:=h6 }) (g:=g) (T:=.type "tuple") r6 fun x hx=>by
    obtain⟨i,l,rfl⟩:=Np x hx;refine⟨_,l,rfl,fun u HH=>?_⟩;rw[AtH]at HH;obtain⟨b,is,rfl,⟨o,q1,q2,_⟩,_⟩:=HH
    have:=(PySem.W.Looks.ld (M:=model prog w) (part:=none) q1).andThen (f:=fun o=>pure o.cls) (b:=o.cls) .now
    rw[q2]at this;exact(show PySem.W.Looks (model prog w) h6 (typeOf (.ref b)) (.type "tuple")from q2▸(PySem.W.Looks.ld q1).andThen .now)
   exact PySem.W.kat_kind k1 (by lia) k3 rfl hQ
 refine wpAny_bind (iJ _ ?_);have hc:=Yp (prog:=prog) (w:=w) (A:=A) (s:={ s with heap:=h6 }) (g:=g) r6 O eP hu;refine wpAny_bind (wpAny_mono (TS.wpS_sortRuns (st:=SortSt.mk' (tuples' fl) (vs.toArray.zip vs.toArray) #[] 7 none) (Q:=fun _ AR=>TS.SB (pairsOf vs) (tuples' fl) AR/\TS.Srt (fun p=>rkD g ds (Bu h6 p.1)) (arrOf AR).toList) hc ⟨Array.Perm.refl _,rfl,rfl⟩ rfl fun AR b1 b2=>⟨b1,b2⟩) ?_ fun _ _ e=>e);rintro⟨⟨⟩,AR⟩ s' ⟨rfl,hB,hS⟩;dsimp only;refine wpAny_bind (seqEpoch_at iH rfl ?_);have i7:(arrOf AR).toList.Perm (vs.zip vs):=by rw[<-pairsOf_toList];exact Array.perm_iff_toList_perm.mp hB.perm
 refine wpAny_bind (listUpdate_at iH rfl ?_ (Nat.zero_le _) (by rw[Array.size_map,hB.size,pairsOf_size];lia));have i5:failedOf AR=none:=hB.failed;rw[i5];simp only[bne_self_eq_false,Bool.false_eq_true,if_false];refine wpAny_pure ?_
 have:=h ((arrOf AR).map (·.2)) (by
  rw[Array.toList_map]
  have:=i7.map (·.2)
  rwa [List.map_snd_zip (Nat.le_refl _)]at this) (by
  rw[Array.toList_map,List.map_map,List.pairwise_map];refine List.Pairwise.imp_of_mem (fun {x y} hx hy hle=>?_) hS;have mx:=mem_zip_self (i7.mem_iff.mp hx);have my:=mem_zip_self (i7.mem_iff.mp hy);show HT.lexLt (g (Bu s.heap y.2)) (g (Bu s.heap x.2))=false;rw[<-mx.1,<-my.1,<-eV _ mx.2,<-eV _ my.2];obtain⟨dx,lz,pS⟩:=r6.mem _ mx.2;obtain⟨dy,mv,oR⟩:=r6.mem _ my.2;have j4:rkD g ds (Bu h6 x.1)<=rkD g ds (Bu h6 y.1):=hle;rw[Bt (O.pl _ lz) pS,Bt (O.pl _ mv) oR]at j4 ⊢;rw[<-WU g ds mv lz];exact decide_eq_false (by lia))
 unfold sortedHeap at this;rw[hh6]at this;exact this
end
end
end TF
namespace TF
open PySem PySem.Spec L2
open PyProof.Rows hiding St RelV
inductive Tri (K:PySem.W.Frag) (H:Hp):List Dat->List V->List Value->Prop
 |nil:Tri K H [] [] []
 |cons {d v u ds vs us} (h:Rep K H d v) (r:RelV v u) (t:Tri K H ds vs us):Tri K H (d::ds) (v::vs) (u::us)
theorem XE{K:PySem.W.Frag}{H:Hp}:∀{ds:List Dat}{vs:List V}{us:List Value},RepL K H ds vs->Vals vs us->Tri K H ds vs us
 |[],_,_,r,v=>by rw[RepL]at r;subst r;cases v;exact .nil
 |d::ds,_,_,r,v=>by
  rw[RepL]at r;obtain⟨x,r',rfl,h1,h2⟩:=r;cases v with
  |cons q t=>exact .cons h1 q (XE h2 t)
theorem Tri.rep{K:PySem.W.Frag}{H:Hp}{ds:List Dat}{vs:List V}{us:List Value}(h:Tri K H ds vs us):RepL K H ds vs/\Vals vs us:=by
 induction h with
 |nil=>exact⟨RepL.nil,.nil⟩
 |cons h r t ih=>exact⟨RepL.cons h ih.1,.cons r ih.2⟩
theorem Tri.same{K:PySem.W.Frag}{H H':Hp}{ds:List Dat}{vs:List V}{us:List Value}(e:Same H H')(h:Tri K H ds vs us):Tri K H' ds vs us:=by
 induction h with
 |nil=>exact .nil
 |cons h r t ih=>exact .cons (h.same e) r ih
theorem Pd{K:PySem.W.Frag}{H:Hp}{us lF:List Value}(p:lF.Perm us):∀{ds:List Dat}{vs:List V},Tri K H ds vs us->∃HM LQ,Tri K H HM LQ lF/\HM.Perm ds:=by
 induction p with
 |nil=>intro ds vs h;exact⟨ds,vs,h,.refl _⟩
 |cons x p ih=>
  intro ds vs h;cases h with
  |cons h r t=>
   obtain⟨HM,LQ,t',p'⟩:=ih t;exact⟨_,_,.cons h r t',p'.cons _⟩
 |swap x y l=>
  intro ds vs h;cases h with
  |cons h r t=>
   cases t with
   |cons h2 r2 t2=>exact⟨_,_,.cons h2 r2 (.cons h r t2),.swap ..⟩
 |trans p1 p2 i1 i2=>
  intro ds vs h;obtain⟨HM,LQ,t',p'⟩:=i2 h;obtain⟨oH,gG,t2,oz⟩:=i1 t';exact⟨oH,gG,t2,oz.trans p'⟩
theorem Sf{X:Cx}{AD:List (Addr×Obj)}{σ:St}{H:Hp}{s:Shared}(I:Inv X AD σ H s){g:Dat->List Int}{ds:List Dat}{vs:List V}{us:List Value}(h:Tri X.K H ds vs us)(pl:∀d∈ds,AI 8 d=true):us.map (fun u=>g (Bu s.heap u))=ds.map g:=by
 induction h with
 |nil=>rfl
 |cons h r t ih=>
  rw[List.map_cons,List.map_cons,ih fun d hd=>pl d (List.mem_cons_of_mem _ hd)];have p:=pl _ (List.mem_cons_self ..);rw[Bt p (h.at I p r)]
section
variable {X:Cx}{ρ:Rho}{G:Gs}{e a b c:Expr}{d d1 d2:Dat}{ds l m:List Dat}{pos:Pos}
theorem NP(g:Dat->List Int)(ds:List Dat)(O:OrdL g ds)(hu:X.A.units+20<cLine):CM X (.builtin "sorted") (fun xs H Q=>∃p vs H0,xs=[.ref p]/\SqL X.K H p vs/\Same H0 H/\RepL X.K H0 ds vs ∧
  ∀q HM LQ,H q=none->RepL X.K H0 HM LQ->HM.Perm ds->(HM.map g).Pairwise (fun x y=>HT.lexLt y x=false)->Q (.ref q) (upd H q (.lst LQ))):=by
 intro AD s σ H xs us Q I r h;obtain⟨p,vs,H0,rfl,hq,lN,rd,q⟩:=h;obtain⟨u,rfl,rx⟩:=G6 r;cases rx;obtain⟨AS,r',pl,hz⟩:=I.list hq;have T:=XE rd r';have Au:vs.length=AS.length:=r'.length;have ra:AtL s.heap ds AS:=(rd.same lN).at I (by rw[List.all_eq_true];exact O.pl) r';refine Calls.call_function_entry kind_sorted plain_sorted entry_sorted (args_sorted1 _) ?_;unfold Builtin.«sorted»;refine wpAny_bind (m:=checkCount "sorted" 1 1 _) (wpAny_pure ?_);refine wpAny_bind (collect_list pl.isList ?_ (by lia));refine wpAny_bind (wpAny_newList ?_ (by lia));have hsz:((s.heap.push (seqObj "list" #[] 0)).update s.heap.objs.size (Obj.mapSeq (·++AS.toArray))).objs.size=s.heap.objs.size+1:=by
  rw[Heap.size_update,size_push']
 have aQ:(((s.heap.push (seqObj "list" #[] 0)).update s.heap.objs.size (Obj.mapSeq (·++AS.toArray))).push (seqObj "list" AS.toArray 0)).get? (s.heap.objs.size+1)=some (seqObj "list" AS.toArray 0):=by
  rw[<-hsz];exact Heap.get?_push_size _ rfl
 have keep:∀b o,s.heap.get? b=some o->(((s.heap.push (seqObj "list" #[] 0)).update s.heap.objs.size (Obj.mapSeq (·++AS.toArray))).push (seqObj "list" AS.toArray 0)).get? b=some o:=fun b o e=>by
  have BC:b<s.heap.objs.size:=Heap.lt_size e;rw[Heap.get?_push_ne _ _ _ (by rw[hsz];exact Nat.ne_of_lt (Nat.lt_succ_of_lt BC)),Heap.get?_update_ne _ _ _ _ (Nat.ne_of_lt BC),Heap.get?_push_ne _ _ _ (Nat.ne_of_lt BC)];exact e
 show wpAny _ _ _ _ _ { s with heap:=((s.heap.push (seqObj "list" #[] 0)).update s.heap.objs.size (Obj.mapSeq (·++AS.toArray))).push (seqObj "list" AS.toArray 0) };rw[hsz];refine wpAny_bind (wpAny_holding (wpAny_call_entry slot_list_sort ⟨_,aQ,rfl⟩ entry_list_sort (Ky (g:=g) (ds:=ds) aQ (ra.kept keep) (fun _ _ _ _=>trivial) (fun h' k=>ra.kept fun b o e=>k b o (Nat.ne_of_lt (Nat.lt_succ_of_lt (Heap.lt_size e))) (keep b o e)) O (by lia) (by show X.A.units+1+1+8<cLine;lia) fun out hp hs=>⟨_,rfl,?_⟩) (args_list_sort _)));refine wpAny_pure ⟨_,rfl,?_⟩;obtain⟨HM,LQ,T',Zo⟩:=Pd hp T;obtain⟨b5,gY⟩:=T'.rep;have jc:LQ.length<=sizeLine:=by
  have e1:=gY.length;have e2:=hp.length_eq;lia
 obtain⟨ep,jP⟩:=sortedAll_at s.heap AS out;have Fd:∀u∈out.toList,Bu (((s.heap.push (seqObj "list" #[] 0)).update s.heap.objs.size (Obj.mapSeq (·++AS.toArray))).push (seqObj "list" AS.toArray 0)) u=Bu s.heap u:=fun u HH=>by
  obtain⟨d,hd,hr⟩:=ra.mem u (hp.mem_iff.mp HH);rw[Bt (O.pl d hd) hr,Bt (O.pl d hd) (hr.kept keep)]
 have gk:(HM.map g).Pairwise (fun x y=>HT.lexLt y x=false):=by
  rw[<-Sf I (T'.same lN) (fun d hd=>O.pl d (Zo.mem_iff.mp hd))];have e:out.toList.map (fun u=>g (Bu s.heap u))=out.toList.map (fun u=>g (Bu (((s.heap.push (seqObj "list" #[] 0)).update s.heap.objs.size (Obj.mapSeq (·++AS.toArray))).push (seqObj "list" AS.toArray 0)) u)):=
   List.map_congr_left fun u HH=>by rw[Fd u HH]
  rw[e];exact hs
 refine⟨.ref (s.heap.objs.size+1),upd H (s.heap.objs.size+1) (.lst LQ),?_,rfl,q _ HM LQ ?_ b5 Zo gk⟩
 ·refine I.laid (t':=s.toks) (o:=.lst LQ) (fun b o e=>sortedAll_old e) (Nat.le_succ _) ?_;exact⟨jc,out.toList,ep,gY,by rw[Array.toArray_toList];exact jP⟩
 ·exact I.hok.fresh (Nat.le_succ _)
theorem Ui{pp:Pos}(g:Dat->List Int)(hu:X.A.units+20<cLine)(hm:X.mg "sorted"=none)(ha:PX X ρ G a d1)(hl:d1=.lst l\/∃p,d1=.fn p/\G p=some (.lst l))(O:OrdL g l)(hq:∀l',l'.Perm l->(l'.map g).Pairwise (fun x y=>HT.lexLt y x=false)->l'=m)(hg:Gl X "sorted":=by rfl)(he:starEach [a] X.env=(false,eval a X.env)::starEach [] X.env:=by rfl):PX X ρ G (.Call (.Name "sorted" pp) [a] [] pos) (.lst m):=DI (NP g l O hu) hg hm (by decide +kernel) ha (fun H x Q o r k=>by
  have:∃p vs,x=.ref p/\SqL X.K H p vs/\RepL X.K (hid H G) l vs:=by
   rcases hl with rfl|⟨p,rfl,hG⟩
   ·rw[Rep]at r;obtain⟨p,vs,e,h1,h2⟩:=r;exact⟨p,vs,e,SqL.of (AK _ _ h1),h2⟩
   ·obtain⟨vs,h1,h2⟩:=o p _ hG;exact⟨p,vs,r,SqL.of h1,h2⟩
  obtain⟨p,vs,e,h1,h2⟩:=this;refine⟨p,vs,hid H G,by rw[e],h1,AK,h2,fun q HM LQ bW r' NI gk=>?_⟩;obtain rfl:=hq HM NI gk;exact k _ _ (Jy o bW r')) (he:=he)
end
mutual
def flat:Dat->List Int
 |.int i=>[i]
 |.tup l=>BA l
 |_=>[]
def BA:List Dat->List Int
 |[]=>[]
 |d::r=>flat d++BA r
end
abbrev lx:List Int->List Int->Bool:=HT.lexLt
theorem Qt(a b c:List Int):lx (a++b) (a++c)=lx b c:=by
 induction a with
 |nil=>rfl
 |cons x a ih=>show HT.lexLt (x::(a++b)) (x::(a++c))=_;rw[HT.lexLt_cons,if_pos rfl];exact ih
theorem Pa:∀{a a':List Int}(b c:List Int),a.length=a'.length->a≠a'->lx (a++b) (a'++c)=lx a a'
 |[],[],_,_,_,h=>absurd rfl h
 |[],_::_,_,_,h,_=>by simp at h
 |_::_,[],_,_,h,_=>by simp at h
 |x::a,y::a',b,c,hl,hn=>by
  show HT.lexLt (x::(a++b)) (y::(a'++c))=HT.lexLt (x::a) (y::a');rw[HT.lexLt_cons,HT.lexLt_cons];by_cases e:x=y
  ·subst e;rw[if_pos rfl,if_pos rfl];exact Pa b c (by simpa using hl) fun z=>hn (by rw[z])
  ·rw[if_neg e,if_neg e]
structure FlD (c:Nat) (x y:Dat):Prop where
 lx:(flat x).length=c
 ly:(flat y).length=c
 eq:eqD x y=decide (flat x=flat y)
 lt:CW true x y=TF.lx (flat x) (flat y)
theorem Hx{c:Nat}(hc:0<c):∀(l m:List Dat),(∀x∈l,∀y∈m,FlD c x y)->(∀x∈l,(flat x).length=c)->(∀y∈m,(flat y).length=c)->Bs true l m=lx (BA l) (BA m)/\eqL l m=decide (BA l=BA m)
 |[],[],_,_,_=>⟨rfl,rfl⟩
 |[],y::m,_,_,h2=>by
  have:=h2 y (List.mem_cons_self ..)
  have Bk:BA (y::m)≠[]:=by
   intro e;rw[BA]at e
   have:=congrArg List.length e
   simp at this;simp[this]at *;lia
  obtain⟨z,t,e⟩:=List.exists_cons_of_ne_nil Bk;constructor
  ·rw[Bs,BA,e];rfl
  ·rw[show eqL [] (y::m)=false from rfl,show BA ([]:List Dat)=[]from rfl,e];rfl
 |x::l,[],_,h1,_=>by
  have:=h1 x (List.mem_cons_self ..)
  have Bk:BA (x::l)≠[]:=by
   intro e;rw[BA]at e
   have:=congrArg List.length e
   simp at this;simp[this]at *;lia
  obtain⟨z,t,e⟩:=List.exists_cons_of_ne_nil Bk;constructor
  ·rw[Bs,e];rfl
  ·rw[show eqL (x::l) []=false from rfl,e];rfl
 |x::l,y::m,h,h1,h2=>by
  have F:=h x (List.mem_cons_self ..) y (List.mem_cons_self ..);obtain⟨i1,i2⟩:=Hx hc l m (fun x hx y hy=>h x (List.mem_cons_of_mem _ hx) y (List.mem_cons_of_mem _ hy)) (fun x hx=>h1 x (List.mem_cons_of_mem _ hx)) fun y hy=>h2 y (List.mem_cons_of_mem _ hy);rw[Bs,eqL,BA,BA,F.eq,F.lt,i1,i2];by_cases e:flat x=flat y
  ·rw[decide_eq_true e,if_pos rfl,e];refine⟨(Qt _ _ _).symm,?_⟩;rw[Bool.true_and];simp
  ·rw[decide_eq_false e,if_neg (by decide)];refine⟨(Pa _ _ (by rw[F.lx,F.ly]) e).symm,?_⟩;rw[Bool.false_and];refine(decide_eq_false fun z=>e ?_).symm;exact(List.append_inj z (by rw[F.lx,F.ly])).1
theorem TC{c k:Nat}(hc:0<c){l m:List Dat}(h:∀x∈l,∀y∈m,FlD c x y)(h1:∀x∈l,(flat x).length=c)(h2:∀y∈m,(flat y).length=c)(RT:(BA l).length=k)(FU:(BA m).length=k):FlD k (.tup l) (.tup m):=by obtain⟨i1,i2⟩:=Hx hc l m h h1 h2;exact⟨by rw[flat];exact RT,by rw[flat];exact FU,by rw[eqD,flat,flat];exact i2,by rw[CW,flat,flat];exact i1⟩
theorem Sa(i j:Int):FlD 1 (.int i) (.int j):=by
 refine⟨rfl,rfl,?_,?_⟩
 ·simp only[eqD,flat];rw[Bool.eq_iff_iff];simp
 ·rw[CW,flat,flat];show _=HT.lexLt [i] [j];rw[HT.lexLt_cons];by_cases e:i=j
  ·subst e;simp;rfl
  ·rw[if_neg e];rfl
theorem KO(p q:Sq):FlD 2 (sq p) (sq q):=by
 refine TC (c:=1) (by decide) ?_ ?_ ?_ rfl rfl
 ·intro x hx y hy;simp only[List.mem_cons,List.not_mem_nil,or_false]at hx hy;rcases hx with rfl|rfl<;>rcases hy with rfl|rfl<;>exact Sa _ _
 ·intro x hx;simp only[List.mem_cons,List.not_mem_nil,or_false]at hx;rcases hx with rfl|rfl<;>rfl
 ·intro x hx;simp only[List.mem_cons,List.not_mem_nil,or_false]at hx;rcases hx with rfl|rfl<;>rfl
theorem Eh(p q:Sq×Sq):FlD 4 (AY p) (AY q):=by
 refine TC (c:=2) (by decide) ?_ ?_ ?_ rfl rfl
 ·intro x hx y hy;simp only[List.mem_cons,List.not_mem_nil,or_false]at hx hy;rcases hx with rfl|rfl<;>rcases hy with rfl|rfl<;>exact KO _ _
 ·intro x hx;simp only[List.mem_cons,List.not_mem_nil,or_false]at hx;rcases hx with rfl|rfl<;>rfl
 ·intro x hx;simp only[List.mem_cons,List.not_mem_nil,or_false]at hx;rcases hx with rfl|rfl<;>rfl
abbrev DN:=Sq×Sq
abbrev Lay:=List DN
def lay(L:Lay):Dat:=.tup (L.map AY)
theorem R8(L M:Lay):CW true (lay L) (lay M)=lx (flat (lay L)) (flat (lay M))/\eqD (lay L) (lay M)=decide (flat (lay L)=flat (lay M)):=by
 have:=Hx (c:=4) (by decide) (L.map AY) (M.map AY) (fun x hx y hy=>by
  obtain⟨p,_,rfl⟩:=List.mem_map.mp hx;obtain⟨q,_,rfl⟩:=List.mem_map.mp hy;exact Eh p q) (fun x hx=>by obtain⟨p,_,rfl⟩:=List.mem_map.mp hx;rfl) fun x hx=>by obtain⟨p,_,rfl⟩:=List.mem_map.mp hx;rfl
 simp only[lay,CW,eqD,flat];exact this
theorem Cg{p q:DN}(h:AY p=AY q):p=q:=by obtain⟨a,b⟩:=p;obtain⟨c,d⟩:=q;simp only[AY,Dat.tup.injEq,List.cons.injEq,and_true]at h;rw[JI h.1,JI h.2]
theorem GI{p q:Sq}(h:flat (sq p)=flat (sq q)):p=q:=by obtain⟨a,b⟩:=p;obtain⟨c,d⟩:=q;simp[sq,flat,BA]at h;rw[h.1,h.2]
theorem De{p q:DN}(h:flat (AY p)=flat (AY q)):p=q:=by obtain⟨⟨a,b⟩,a',b'⟩:=p;obtain⟨⟨c,d⟩,c',d'⟩:=q;simp[AY,sq,flat,BA]at h;obtain⟨rfl,rfl,rfl,rfl⟩:=h;rfl
theorem FI:∀{L M:Lay},flat (lay L)=flat (lay M)->L=M
 |[],[],_=>rfl
 |[],_::_,h=>by simp[lay,flat,BA,AY,sq]at h
 |_::_,[],h=>by simp[lay,flat,BA,AY,sq]at h
 |p::L,q::M,h=>by
  have h':flat (AY p)++flat (lay L)=flat (AY q)++flat (lay M):=h;obtain⟨h1,h2⟩:=List.append_inj h' (by rw[(Eh p q).lx,(Eh p q).ly]);rw[De h1,FI h2]
theorem X9{L M:Lay}(h:lay L=lay M):L=M:=FI (by rw[h])
structure TyD (α:Type) where
 f:α->Dat
 inj:∀{x y},flat (f x)=flat (f y)->x=y
 lt:∀x y,CW true (f x) (f y)=lx (flat (f x)) (flat (f y))
 eq:∀x y,eqD (f x) (f y)=decide (flat (f x)=flat (f y))
 pl:∀x,AI 8 (f x)=true
 ord:∀x y,CB 8 (f x) (f y)=true
section
variable {α:Type}(T:TyD α)
def TyD.le(x y:α):Bool:=!lx (flat (T.f y)) (flat (T.f x))
def TyD.lt'(x y:α):Prop:=lx (flat (T.f x)) (flat (T.f y))=true
def TyD.sort(l:List α):List α:=l.mergeSort T.le
theorem TyD.sort_perm(l:List α):(T.sort l).Perm l:=List.mergeSort_perm l _
theorem TyD.le_trans(x y z:α)(h1:T.le x y=true)(h2:T.le y z=true):T.le x z=true:=by
 unfold TyD.le at *;simp only[Bool.not_eq_true']at *;cases e:lx (flat (T.f z)) (flat (T.f x))with
 |false=>rfl
 |true=>
  rcases VE (b:=flat (T.f y)) e with q|q
  ·rw[show lx=HT.lexLt from rfl]at h2;rw[h2]at q;cases q
  ·rw[show lx=HT.lexLt from rfl]at h1;rw[h1]at q;cases q
theorem TyD.le_total(x y:α):(T.le x y||T.le y x)=true:=by
 unfold TyD.le;cases e:lx (flat (T.f y)) (flat (T.f x))with
 |false=>rfl
 |true=>
  cases e2:lx (flat (T.f x)) (flat (T.f y))with
  |false=>rfl
  |true=>
   have:=Fm e e2
   rw[EM]at this;cases this
theorem TyD.sort_sorted(l:List α):(T.sort l).Pairwise fun x y=>T.le x y=true:=List.pairwise_mergeSort T.le_trans T.le_total l
theorem TyD.uniq:∀{l m:List α},l.Perm m->l.Pairwise (fun x y=>T.le x y=true)->m.Pairwise (fun x y=>T.le x y=true)->l=m
 |[],m,p,_,_=>by rw[List.nil_perm.mp p]
 |x::l,[],p,_,_=>by have:=p.length_eq;simp at this
 |x::l,y::m,p,h1,h2=>by
  obtain⟨a1,a2⟩:=List.pairwise_cons.mp h1;obtain⟨b1,b2⟩:=List.pairwise_cons.mp h2;have oD:x=y:=by
   have hx:x∈y::m:=p.mem_iff.mp (List.mem_cons_self ..);have hy:y∈x::l:=p.mem_iff.mpr (List.mem_cons_self ..);rcases List.mem_cons.mp hx with e|hx
   ·exact e
   rcases List.mem_cons.mp hy with e|hy
   ·exact e.symm
   have q1:=a1 y hy;have q2:=b1 x hx;unfold TyD.le at q1 q2;simp only[Bool.not_eq_true']at q1 q2;exact T.inj (Ga q2 q1)
  subst oD;rw[TyD.uniq (List.perm_cons _ |>.mp p) a2 b2]
end
theorem Xj{α:Type}(T:TyD α)(l:List α)(one:(∀x,∃i r,T.f x=.tup (.int i::r))\/∀x,x∈l->∃k r,T.f x=.tup (.tup k::r)):OrdL flat (l.map T.f):=by
 refine⟨fun x hx y hy=>?_,fun x hx y hy=>?_,fun x hx=>?_,fun x hx=>?_,?_⟩
 ·obtain⟨p,_,rfl⟩:=List.mem_map.mp hx;obtain⟨q,_,rfl⟩:=List.mem_map.mp hy;exact T.lt p q
 ·obtain⟨p,_,rfl⟩:=List.mem_map.mp hx;obtain⟨q,_,rfl⟩:=List.mem_map.mp hy;exact T.ord p q
 ·obtain⟨p,_,rfl⟩:=List.mem_map.mp hx;exact T.pl p
 ·obtain⟨p,hp,rfl⟩:=List.mem_map.mp hx;rcases one with o|o
  ·obtain⟨i,r,e⟩:=o p;exact⟨_,_,e⟩
  ·obtain⟨i,r,e⟩:=o p hp;exact⟨_,_,e⟩
 ·rcases one with o|o
  ·exact .inl fun x hx=>by obtain⟨p,_,rfl⟩:=List.mem_map.mp hx;exact o p
  ·exact .inr fun x hx=>by obtain⟨p,hp,rfl⟩:=List.mem_map.mp hx;exact o p hp
theorem PJ{α:Type}(f:α->Dat):∀{l':List Dat}{l:List α},l'.Perm (l.map f)->∃m:List α,l'=m.map f/\m.Perm l:=by
 intro l' l p;have:∀{a b:List Dat},a.Perm b->∀l:List α,b=l.map f->∃m:List α,a=m.map f/\m.Perm l:=by
  intro a b p
  induction p with
  |nil=>intro l e;exact⟨[],rfl,by cases l with|nil=>exact .refl _|cons _ _=>simp at e⟩
  |cons x p ih=>
   intro l e;cases l with
   |nil=>simp at e
   |cons y l=>
    rw[List.map_cons]at e;obtain⟨rfl,e2⟩:=List.cons.inj e;obtain⟨m,h1,h2⟩:=ih l e2;exact⟨y::m,by rw[h1];rfl,h2.cons _⟩
  |swap x y r=>
   intro l e
   match l,e with
   |y'::x'::l,e=>
    simp only[List.map_cons,List.cons.injEq]at e;obtain⟨rfl,rfl,rfl⟩:=e;exact⟨x'::y'::l,rfl,.swap ..⟩
   |[],e=>simp at e
   |[_],e=>simp at e
  |trans p1 p2 i1 i2=>
   intro l e;obtain⟨m,h1,h2⟩:=i2 l e;obtain⟨m2,h3,h4⟩:=i1 m h1;exact⟨m2,h3,h4.trans h2⟩
 exact this p l rfl
section
variable {X:Cx}{ρ:Rho}{G:Gs}{a:Expr}{d1:Dat}{pos:Pos}
theorem Hb{α:Type}(T:TyD α)(l:List α){pp:Pos}(hu:X.A.units+20<cLine)(hm:X.mg "sorted"=none)(ha:PX X ρ G a d1)(hl:d1=.lst (l.map T.f)\/∃p,d1=.fn p/\G p=some (.lst (l.map T.f)))(one:(∀x,∃i r,T.f x=.tup (.int i::r))\/∀x,x∈l->∃k r,T.f x=.tup (.tup k::r))(hg:Gl X "sorted":=by rfl)(he:starEach [a] X.env=(false,eval a X.env)::starEach [] X.env:=by rfl):PX X ρ G (.Call (.Name "sorted" pp) [a] [] pos) (.lst ((T.sort l).map T.f)):=Ui flat hu hm ha hl (Xj T l one) (fun l' hp hs=>by
  obtain⟨m,rfl,dk⟩:=PJ T.f hp;rw[TyD.uniq T (dk.trans (T.sort_perm l).symm) ?_ (T.sort_sorted l)];rw[List.map_map,List.pairwise_map]at hs;refine hs.imp fun {x y} h=>?_;unfold TyD.le;have:lx (flat (T.f y)) (flat (T.f x))=false:=h;rw[this];rfl) hg he
end
def TSq:TyD Sq:=⟨sq,GI,fun x y=>(KO x y).lt,fun x y=>(KO x y).eq,fun x=>Ah x 7,fun _ _=>rfl⟩
theorem Co(p:DN):AI 8 (AY p)=true:=by simp only[AY,AI,List.all_cons,List.all_nil,Bool.and_true,Bool.and_eq_true];exact⟨Ah _ 6,Ah _ 6⟩
def TSt:TyD DN:=⟨AY,De,fun x y=>(Eh x y).lt,fun x y=>(Eh x y).eq,Co,fun _ _=>rfl⟩
theorem Um(L:Lay):AI 8 (lay L)=true:=by simp only[lay,AI,List.all_eq_true];intro x hx;obtain⟨p,_,rfl⟩:=List.mem_map.mp hx;simp only[AY,AI,List.all_cons,List.all_nil,Bool.and_true,Bool.and_eq_true];exact⟨Ah _ 5,Ah _ 5⟩
theorem X0(L M:Lay):CB 8 (lay L) (lay M)=true:=by
 simp only[lay,CB,List.all_eq_true];intro x hx
 have:=List.of_mem_zip (show(x.1,x.2)∈_ from hx)
 obtain⟨p,_,e1⟩:=List.mem_map.mp this.1;obtain⟨q,_,e2⟩:=List.mem_map.mp this.2;rw[<-e1,<-e2];rfl
def Jf:TyD Lay:=⟨lay,FI,fun x y=>(R8 x y).1,fun x y=>(R8 x y).2,Um,X0⟩
theorem K9{s:Shared}{A:Around}{n:Nat}(hu:A.units+1+n<cLine){l m:List Dat}{is js:List Value}(hl:l.all (AI n)=true)(hm:m.all (AI n)=true)(rl:AtL s.heap l is)(rm:AtL s.heap m js) :
  ∀j (h1:j<is.toArray.size) (h2:j<js.toArray.size),SeqAt.EqAt A.in1 s is.toArray[j] js.toArray[j] ((fun j=>match l[j]?,m[j]? with|some x,some y=>eqD x y|_,_=>true) j):=by
 intro j h1 h2;have QB:j<is.length:=by simpa using h1
 have TL:j<js.length:=by simpa using h2
 have l1:j<l.length:=by rw[<-rl.length];exact QB
 have l2:j<m.length:=by rw[<-rm.length];exact TL
 obtain⟨u1,f1,q1⟩:=rl.get (List.getElem?_eq_getElem l1);obtain⟨u2,f2,q2⟩:=rm.get (List.getElem?_eq_getElem l2);rw[List.getElem?_eq_getElem QB]at f1;rw[List.getElem?_eq_getElem TL]at f2;cases f1;cases f2;have hx:AI n l[j]=true:=List.all_eq_true.mp hl _ (List.getElem_mem l1);have hy:AI n m[j]=true:=List.all_eq_true.mp hm _ (List.getElem_mem l2)
 have:=(HR (A:=A.in1) n hx hy q1 q2 hu).1
 simpa[List.getElem?_eq_getElem l1,List.getElem?_eq_getElem l2]using this
def R5:Dat->Dat->Bool
 |.tup _,.tup _=>true
 |.lst _,.lst _=>true
 |.int _,.int _=>true
 |.str _,.str _=>true
 |.bl _,.bl _=>true
 |_,_=>false
theorem au{s:Shared}{A:Around}{d e:Dat}{u v:Value}(ha:R5 d e=true)(hd:AI 9 d=true)(he:AI 9 e=true)(rd:AtH s.heap d u)(re:AtH s.heap e v)(hu:A.units+9<cLine):SeqAt.RcNeAt A s u v (!eqD d e):=by
 cases d<;>cases e<;>simp only[R5,Bool.false_eq_true]at ha<;>rw[AtH]at rd re
 ·subst rd;subst re;simp only[eqD];exact SeqAt.RcNeAt.bool_bool _ _
 ·obtain⟨t,rfl⟩:=rd;obtain⟨t',rfl⟩:=re;simp only[eqD];exact SeqAt.RcNeAt.int_int _ _ _ _
 ·obtain⟨t,rfl⟩:=rd;obtain⟨t',rfl⟩:=re;simp only[eqD];exact SeqAt.RcNeAt.str_str _ _ _ _
 ·rename_i l m;obtain⟨a,is,rfl,ti,rl⟩:=rd;obtain⟨b,js,rfl,tj,rm⟩:=re
  have:=SeqAt.RcNeAt.tuples (A:=A) ti tj (by lia) (K9 (n:=8) (by lia) (by simpa[AI]using hd) (by simpa[AI]using he) rl rm)
  rw[eqD,EL];rw[List.size_toArray,List.size_toArray,rl.length,rm.length]at this;exact this
 ·rename_i l m;obtain⟨a,is,rfl,ti,rl⟩:=rd;obtain⟨b,js,rfl,tj,rm⟩:=re;have e1:is.toArray.size=l.length:=by rw[List.size_toArray,rl.length]
  have e2:js.toArray.size=m.length:=by rw[List.size_toArray,rm.length]
  rw[eqD,EL];by_cases hsz:l.length=m.length
  ·have:=SeqAt.RcNeAt.lists (A:=A) ti tj (by rw[e1,e2,hsz]) (by lia) (K9 (n:=8) (by lia) (by simpa[AI]using hd) (by simpa[AI]using he) rl rm)
   rw[e1]at this;rw[hsz,Nat.min_self,beq_self_eq_true,Bool.and_true,<-hsz];exact this
  ·have:=SeqAt.RcNeAt.lists_lengths (A:=A) ti tj (by rw[e1,e2];simpa using hsz) (by lia)
   rw[show(l.length==m.length)=false by simpa using hsz,Bool.and_false];exact this
section
variable {X:Cx}{ρ:Rho}{G:Gs}{e a b c:Expr}{es:List Expr}{d d' d1 d2 d3 k:Dat}{ds l m:List Dat}{pos:Pos}{i j z:Int}{p:Addr}{D:DE}{rest body:List Stmt}
theorem bZ(hu:X.A.units+9<cLine):OpR X (compareOp .NotEq) (fun x y H Q=>∃d e,Rep X.K H d x/\Rep X.K H e y/\R5 d e=true/\AI 9 d=true/\AI 9 e=true/\Q (.bl (!eqD d e)) H):=by intro AD s σ H x y v u Q I rx ry h;obtain⟨d,e,h1,h2,h3,h4,h5,q⟩:=h;exact au h3 h4 h5 (h1.at I h4 rx) (h2.at I h5 ry) hu _ _ _ _ ⟨.bl _,H,I,rfl,q⟩
theorem Yz(st:Bool)(hu:X.A.units+9<cLine):OpR X (compareOp (gK st)) (fun x y H Q=>∃d e,Rep X.K H d x/\Rep X.K H e y/\CB 9 d e=true/\AI 9 d=true/\AI 9 e=true/\Q (.bl (CW st d e)) H):=by
 intro AD s σ H x y v u Q I rx ry h;obtain⟨d,e,h1,h2,h3,h4,h5,q⟩:=h
 have:=KD (A:=X.A) (s:=s) st 9 h3 h4 h5 (h1.at I h4 rx) (h2.at I h5 ry) hu X.prog X.w X.xe (EP X AD σ Q) ⟨.bl _,H,I,rfl,q⟩
 cases st with
 |true=>exact this
 |false=>exact this
theorem SN(hu:X.A.units+9<cLine)(ha:PX X ρ G a d1)(hb:PX X ρ G b d2)(h:R5 d1 d2=true)(p1:AI 9 d1=true)(p2:AI 9 d2=true):PXC X ρ G .NotEq a b (.bl (!eqD d1 d2)):=EI (bZ hu) ha hb fun H x y Q o hx hy k=>⟨d1,d2,hx.same AK,hy.same AK,h,p1,p2,k _ _ (BR o rfl)⟩
theorem Yd(hu:X.A.units+9<cLine)(ha:PX X ρ G a d1)(hb:PX X ρ G b d2)(h:CB 9 d1 d2=true)(p1:AI 9 d1=true)(p2:AI 9 d2=true):PXC X ρ G .Lt a b (.bl (CW true d1 d2)):=EI (Yz true hu) ha hb fun H x y Q o hx hy k=>⟨d1,d2,hx.same AK,hy.same AK,h,p1,p2,k _ _ (BR o rfl)⟩
theorem Yo{Q:Dat->Gs->Prop}(ha:PX X ρ G a (.lst l))(hb:WE X ρ G b fun d G'=>∃m,d=.lst m/\l.length+m.length<=sizeLine/\Q (.lst (l++m)) G'):WE X ρ G (.BinOp a .Add b pos) Q:=Ba (aI WC Ap Ap) fun σ H S=>⟨ρ,G,_,ha,S,fun x H1 ⟨_,_,e1,o1,r1,q1,BV⟩=>by
  subst q1;subst BV;refine⟨ρ,_,_,hb,S.ext e1 o1,fun y H2 ⟨d2,G2,e2,o2,r2,m,hm,hz,q⟩=>?_⟩;subst hm;have Ur:=r1.same e2.hid;rw[Rep]at Ur r2;obtain⟨p1,fA,rfl,h1,s1⟩:=Ur;obtain⟨p2,gG,rfl,h2,s2⟩:=r2;refine⟨p1,p2,fA,gG,rfl,rfl,AK _ _ h1,AK _ _ h2,by rw[s1.length,s2.length];exact hz,fun t ht=>?_⟩;have E3:Ext H2 G2 (upd H2 t (.lst (fA++gG))) G2:=Ext.alloc ht;refine⟨.lst (l++m),G2,(e1.trans e2).trans E3,o2.alloc ht,?_,q⟩;rw[Rep];exact⟨t,fA++gG,rfl,Eu (o2.free ht) A2,(s1.append s2).same E3.hid⟩⟩
end
section
variable {X:Cx}{ρ:Rho}{G:Gs}{elt AM Ai c:Expr}{scope:Scope}{Ax:Pos}{Nc:List Str}{caps:List (Option Nat)}{l:List Dat}{f:Dat->Rho->Option Rho}
theorem P4(g:Dat->Dat)(R:Gs->Prop){Q:Dat->Gs->Prop}(Sc:CompSc X scope Nc caps)(Bm:X.calm=true)(hi:WI X ρ G AM Ai fun l' G'=>l'=l/\R G')(hg:∀C s' H' fp,PGD (Aa X Nc scope C s' H' fp) AM f)(hle:∀d ρ',f d (A8 caps ρ)=some ρ'->ρ'.length=(A8 caps ρ).length/\∀(j:Nat) e,(A8 caps ρ)[j]?=some (some e)->ρ'[j]?=some (some e))(hz:l.length<sizeLine)(CH:∀C s' H' fp G' d,d∈l->∃ρ',f d (A8 caps ρ)=some ρ'/\PX (Aa X Nc scope C s' H' fp) ρ' G' elt (g d))(hQ:∀G',R G'->Q (.lst (l.map g)) G')(Pp:∀x,foldedSetIterable Ai X.env x=pure x:=by intro _;rfl) :
  WE X ρ G (.ListComp elt [⟨AM,Ai,[],0⟩] scope Ax) Q:=by
 refine Me (Pv:=fun i Aw G'=>R G'/\Aw=(l.take i).map g) (GN elt AM Ai scope Ax) Sc Bm (fun AD s σ H I S=>thn (hi AD s σ H I S) fun v s1 h1=>thn h1 fun df s2 hh=>by obtain⟨it,fp,tn,J,H',e,I',T,st,fk,l',G',e',o',wk,q1,q2⟩:=hh;exact⟨it,fp,tn,J,H',e,I',T,st,fk,l',G',e',o',wk,q1,q2,by simp⟩) hg hle (Nat.le_of_lt hz) ?_ ?_ Pp
 ·rintro C s' H' fp Dd i d Aw G' hd ⟨hR,rfl⟩ hD;obtain⟨ρ',h1,h2⟩:=CH C s' H' fp (put G' Dd (.lst ((l.take i).map g))) d (List.mem_of_getElem? hd);refine⟨ρ',h1,DV rfl AH ?_ (PX.we h2 ⟨AH,_,G',?_,hD,Ao,hR,?_⟩)⟩
  ·have:((l.take i).map g).length<=l.length:=by rw[List.length_map,List.length_take];lia
   lia
  ·simp
  ·rw[List.take_add_one,hd];simp
 ·rintro Aw G' ⟨hR,rfl⟩;rw[List.take_length];exact hQ G' hR
end
def Ce(F:List Sq)(z o:Sq):List Sq:=F.filter fun x=>!decide (x=z)&&!decide (x=o)
def AU(F:List Sq):Sq:=F.getLastD (0,0)
def Cr(F:List Sq)(z:Sq):List Sq:=(nbM z).filter F.contains
def D9:Nat->List Sq->List Lay
 |0,F=>if F=[]then[[]]else[]
 |n+1,F=>if F=[]then[[]]else(Cr F (AU F)).flatMap fun o=>(D9 n (Ce F (AU F) o)).map (·++[(o,AU F)])
def BG(F:List Sq):List Lay:=D9 F.length F
theorem Fg{F:List Sq}(h:F≠[]):AU F∈F:=by unfold AU;rw[List.getLastD_eq_getLast?,List.getLast?_eq_some_getLast h];exact List.getLast_mem h
theorem Ml{F:List Sq}(h:F≠[])(o:Sq):(Ce F (AU F) o).length<F.length:=by unfold Ce;refine List.length_filter_lt_length_iff_exists.mpr ⟨_,Fg h,by simp⟩
theorem MD:∀(n m:Nat)(F:List Sq),F.length<=n->F.length<=m->D9 n F=D9 m F
 |0,0,F,_,_=>rfl
 |0,m+1,F,h,_=>by
  have:F=[]:=List.length_eq_zero_iff.mp (by lia);subst this;rfl
 |n+1,0,F,_,h=>by
  have:F=[]:=List.length_eq_zero_iff.mp (by lia);subst this;rfl
 |n+1,m+1,F,h1,h2=>by
  unfold D9;split
  ·rfl
  ·rename_i Bk;have:∀o,D9 n (Ce F (AU F) o)=D9 m (Ce F (AU F) o):=fun o=>MD n m _ (by have:=Ml Bk o;lia) (by have:=Ml Bk o;lia);simp only[this]
theorem B2:BG []=[[]]:=rfl
theorem EW{F:List Sq}(h:F≠[]):BG F=(Cr F (AU F)).flatMap fun o=>(BG (Ce F (AU F) o)).map (·++[(o,AU F)]):=by
 unfold BG;obtain⟨n,hn⟩:∃n,F.length=n+1:=⟨F.length-1,by have:=List.length_pos_iff.mpr h;lia⟩;rw[hn]
 conv=>lhs;unfold D9
 rw[if_neg h];have:∀o,D9 n (Ce F (AU F) o)=D9 (Ce F (AU F) o).length (Ce F (AU F) o):=fun o=>MD _ _ _ (by have:=Ml h o;lia) (Nat.le_refl _);simp only[this]
def BU(l:Lay):List Sq:=l.flatMap fun s=>[s.1,s.2]
structure Cov (F:List Sq) (l:Lay):Prop where
 st:∀s∈l,AN s.1 s.2/\s.2∈nbM s.1
 pm:(BU l).Perm F
theorem B6{l:Lay}{x:Sq}:x∈BU l↔∃s∈l,x=s.1\/x=s.2:=by unfold BU;simp[List.mem_flatMap]
theorem J9{l m:Lay}(h:l.Perm m):(BU l).Perm (BU m):=h.flatMap_right _
theorem Rz{a b:Sq}(h:a∈nbM b):b∈nbM a:=by
 obtain⟨a1,a2⟩:=a;obtain⟨b1,b2⟩:=b;simp only[nbM,List.mem_cons,List.not_mem_nil,or_false,Prod.mk.injEq]at *;rcases h with⟨h1,h2⟩|⟨h1,h2⟩|⟨h1,h2⟩|⟨h1,h2⟩<;>subst h1 h2
 ·exact .inr (.inr (.inr ⟨(Int.sub_add_cancel _ _).symm,rfl⟩))
 ·exact .inr (.inr (.inl ⟨rfl,(Int.sub_add_cancel _ _).symm⟩))
 ·exact .inr (.inl ⟨rfl,(Int.add_sub_cancel _ _).symm⟩)
 ·exact .inl ⟨(Int.add_sub_cancel _ _).symm,rfl⟩
theorem PZ{a b:Sq}(h:a∈nbM b):a≠b:=by rintro rfl;obtain⟨a1,a2⟩:=a;simp only[nbM,List.mem_cons,List.not_mem_nil,or_false,Prod.mk.injEq]at h;lia
theorem KH{F:List Sq}(up:F.Pairwise AN){x:Sq}(hx:x∈F):x=AU F\/AN x (AU F):=by
 have h:F≠[]:=List.ne_nil_of_mem hx;unfold AU;rw[List.getLastD_eq_getLast?,List.getLast?_eq_some_getLast h,Option.getD_some];rw[<-List.dropLast_concat_getLast h]at hx up;rcases List.mem_append.mp hx with h1|h1
 ·right;exact(List.pairwise_append.mp up).2.2 x h1 _ (by simp)
 ·left;simpa using h1
theorem HA{F:List Sq}(up:F.Pairwise AN):F.Nodup:=up.imp fun {a b} HI e=>by subst e;exact AX _ HI
theorem J0{F:List Sq}{z o x:Sq}:x∈Ce F z o↔x∈F/\x≠z/\x≠o:=by simp[Ce]
theorem J6{F:List Sq}(nd:F.Nodup){z o:Sq}(hz:z∈F)(ho:o∈F)(Bk:o≠z):(o::z::Ce F z o).Perm F:=by
 rw[List.perm_ext_iff_of_nodup _ nd]
 ·intro x;simp only[List.mem_cons,J0];by_cases h1:x=o
  ·subst h1;simp[ho]
  ·by_cases h2:x=z
   ·subst h2;simp[hz]
   ·simp[h1,h2]
 ·refine List.nodup_cons.mpr ⟨?_,List.nodup_cons.mpr ⟨?_,nd.sublist List.filter_sublist⟩⟩
  ·simp only[List.mem_cons,J0];rintro(h|h)
   ·exact Bk h
   ·exact h.2.2 rfl
  ·simp[J0]
theorem Ep{F:List Sq}(up:F.Pairwise AN)(z o:Sq):(Ce F z o).Pairwise AN:=up.sublist List.filter_sublist
theorem Fl{F:List Sq}{z o:Sq}:o∈Cr F z↔o∈nbM z/\o∈F:=by simp[Cr]
theorem DK{F:List Sq}(up:F.Pairwise AN){o:Sq}(h:F≠[])(ho:o∈Cr F (AU F)):(Ce F (AU F) o).length+2=F.length:=by
 obtain⟨h1,h2⟩:=Fl.mp ho
 have:=(J6 (HA up) (Fg h) h2 (PZ h1)).length_eq
 simpa using this
theorem M7(l m:Lay):BU (l++m)=BU l++BU m:=by simp[BU]
theorem EN:∀(n:Nat){F:List Sq},F.length<=n->F.Pairwise AN->∀r∈BG F,Cov F r:=by
 intro n
 induction n with
 |zero=>
  intro F hl up r hr;have:F=[]:=List.length_eq_zero_iff.mp (by lia);subst this;rw[B2,List.mem_singleton]at hr;subst hr;exact⟨by simp,.refl _⟩
 |succ n ih=>
  intro F hl up r hr;by_cases h:F=[]
  ·subst h;rw[B2,List.mem_singleton]at hr;subst hr;exact⟨by simp,.refl _⟩
  rw[EW h,List.mem_flatMap]at hr;obtain⟨o,ho,hr⟩:=hr;obtain⟨r',nD,rfl⟩:=List.mem_map.mp hr;have Qo:=DK up h ho;obtain⟨h1,h2⟩:=Fl.mp ho;have C:=ih (by lia) (Ep up _ _) r' nD;refine⟨fun s hs=>?_,?_⟩
  ·rcases List.mem_append.mp hs with hs|hs
   ·exact C.st s hs
   ·rw[List.mem_singleton.mp hs];refine⟨?_,Rz h1⟩;rcases KH up h2 with e|e
    ·exact absurd e (PZ h1)
    ·exact e
  ·rw[M7];show(BU r'++[o,AU F]).Perm F;exact(List.perm_append_comm.trans (C.pm.append_left [o,AU F])).trans (J6 (HA up) (Fg h) h2 (PZ h1))
theorem UC:∀(n:Nat){F:List Sq}{l:Lay},F.length<=n->F.Pairwise AN->Cov F l->∃r∈BG F,r.Perm l:=by
 intro n
 induction n with
 |zero=>
  intro F l hl up C;have:F=[]:=List.length_eq_zero_iff.mp (by lia);subst this
  have:=C.pm.length_eq
  cases l with
  |nil=>exact⟨[],by simp[B2],.refl _⟩
  |cons s l=>simp[BU]at this
 |succ n ih=>
  intro F l hl up C;by_cases h:F=[]
  ·subst h
   have:=C.pm.length_eq
   cases l with
   |nil=>exact⟨[],by simp[B2],.refl _⟩
   |cons s l=>simp[BU]at this
  obtain⟨s,hs,he⟩:=B6.mp (C.pm.mem_iff.mpr (Fg h));have cN:s.1∈F:=C.pm.mem_iff.mp (B6.mpr ⟨s,hs,.inl rfl⟩);have NM:s.2∈F:=C.pm.mem_iff.mp (B6.mpr ⟨s,hs,.inr rfl⟩);obtain⟨slt,iD⟩:=C.st s hs;have hz:s.2=AU F:=by
   rcases he with e|e
   ·rcases KH up NM with q|q
    ·exact q
    ·rw[e]at q;exact absurd (BP slt q) (AX _)
   ·exact e.symm
  have ho:s.1∈Cr F (AU F):=Fl.mpr ⟨hz▸Rz iD,cN⟩;have hp:l.Perm (s::l.erase s):=List.perm_cons_erase hs;have Hh:(s.1::s.2::BU (l.erase s)).Perm F:=by
   refine List.Perm.trans ?_ C.pm;exact(J9 hp).symm
  have Qo:=DK up h ho;have C':Cov (Ce F (AU F) s.1) (l.erase s):=by
   refine⟨fun t ht=>C.st t (List.mem_of_mem_erase ht),?_⟩
   have:=Hh.trans (J6 (HA up) (Fg h) cN (PZ (Fl.mp ho).1)).symm
   rw[hz]at this;exact(List.perm_cons _).mp ((List.perm_cons _).mp this)
  obtain⟨r,hr,oF⟩:=ih (by lia) (Ep up _ _) C';refine⟨r++[(s.1,AU F)],?_,?_⟩
  ·rw[EW h,List.mem_flatMap];exact⟨s.1,ho,List.mem_map.mpr ⟨r,hr,rfl⟩⟩
  ·rw[show(s.1,AU F)=s by rw[<-hz]];exact(List.perm_append_comm.trans (oF.append_left [s])).trans hp.symm
theorem Sw(F:List Sq)(z:Sq):(Cr F z).Nodup:=(Px z).sublist List.filter_sublist
theorem XJ:∀(n:Nat){F:List Sq},F.length<=n->F.Pairwise AN->(BG F).Pairwise fun r r'=>¬r.Perm r':=by
 intro n
 induction n with
 |zero=>
  intro F hl up;have:F=[]:=List.length_eq_zero_iff.mp (by lia);subst this;rw[B2];exact List.pairwise_singleton _ _
 |succ n ih=>
  intro F hl up;by_cases h:F=[]
  ·subst h;rw[B2];exact List.pairwise_singleton _ _
  rw[EW h,List.pairwise_flatMap];refine⟨fun o ho=>?_,?_⟩
  ·rw[List.pairwise_map];have Qo:=DK up h ho;refine(ih (by lia) (Ep up _ o)).imp fun {a b} HI hp=>HI ?_;exact(List.perm_append_right_iff _).mp hp
  ·refine List.Pairwise.imp_of_mem (R:=fun a b=>a≠b) ?_ (Sw F (AU F));intro o o' ho Np Bk x hx y hy hp;obtain⟨r,hr,rfl⟩:=List.mem_map.mp hx;obtain⟨r',nD,rfl⟩:=List.mem_map.mp hy;have hm:(o',AU F)∈r++[(o,AU F)]:=hp.mem_iff.mpr (by simp);rcases List.mem_append.mp hm with hm|hm
   ·have Qo:=DK up h ho;have C:=EN n (by lia) (Ep up _ o) r hr
    have:=C.pm.mem_iff.mp (B6.mpr ⟨_,hm,.inr rfl⟩)
    exact(J0.mp this).2.1 rfl
   ·rw[List.mem_singleton,Prod.mk.injEq]at hm;exact Bk hm.1.symm
theorem PM{F:List Sq}(up:F.Pairwise AN):(Cr F (AU F)).length<=2:=by
 have hs:∀x∈Cr F (AU F),x∈[((AU F).1-1,(AU F).2),((AU F).1,(AU F).2-1)]:=by
  intro x hx;obtain⟨h1,h2⟩:=Fl.mp hx;rcases KH up h2 with e|e
  ·exact absurd e (PZ h1)
  ·generalize AU F=z at *;obtain⟨x1,x2⟩:=x;obtain⟨z1,z2⟩:=z;simp only[nbM,List.mem_cons,List.not_mem_nil,or_false,Prod.mk.injEq]at h1 ⊢;have e':x1<z1\/(x1=z1/\x2<z2):=e;clear e h2 hx;rcases h1 with h1|h1|⟨h1,h3⟩|⟨h1,h3⟩
   ·exact .inl h1
   ·exact .inr h1
   ·lia
   ·lia
 have:=BZ (Sw F (AU F)) hs
 simpa using this
theorem Ib:∀(n:Nat){F:List Sq},F.length<=2*n->F.Pairwise AN->(BG F).length<=2 ^ n:=by
 intro n
 induction n with
 |zero=>
  intro F hl up;have:F=[]:=List.length_eq_zero_iff.mp (by lia);subst this;rw[B2];exact Nat.le_refl _
 |succ n ih=>
  intro F hl up;by_cases h:F=[]
  ·subst h;rw[B2];exact Nat.one_le_two_pow
  rw[EW h,List.length_flatMap];have:∀(l:List Sq),(∀o∈l,o∈Cr F (AU F))->(l.map fun o=>((BG (Ce F (AU F) o)).map (·++[(o,AU F)])).length).sum<=l.length*2 ^ n:=by
   intro l
   induction l with
   |nil=>simp
   |cons o l gU=>
    intro hm;have h1:=gU fun x hx=>hm x (List.mem_cons_of_mem _ hx);have Qo:=DK up h (hm o (List.mem_cons_self ..));have h2:=ih (F:=Ce F (AU F) o) (by lia) (Ep up _ o);rw[List.map_cons,List.sum_cons,List.length_map,List.length_cons,Nat.succ_mul];lia
  have h3:=this _ fun _ h=>h;have h4:=Nat.mul_le_mul_right (2 ^ n) (PM up);rw[Nat.pow_succ,Nat.mul_comm];lia
theorem K0(s t:DN):lx (flat (AY s)) (flat (AY t))=decide (AN s.1 t.1\/(s.1=t.1/\AN s.2 t.2)):=by obtain⟨⟨a,b⟩,c,d⟩:=s;obtain⟨⟨a',b'⟩,c',d'⟩:=t;show HT.lexLt [a,b,c,d] [a',b',c',d']=_;rw[HT.lexLt_cons,HT.lexLt_cons,HT.lexLt_cons,HT.lexLt_cons];have e0:HT.lexLt [] []=false:=rfl;rw[e0,Bool.eq_iff_iff,decide_eq_true_iff];simp only[AN,Prod.mk.injEq];by_cases h1:a=a'<;>by_cases h2:b=b'<;>by_cases h3:c=c'<;>by_cases h4:d=d'<;>simp[h1,h2,h3,h4]<;>lia
theorem Z5(s t:Sq):lx (flat (sq s)) (flat (sq t))=decide (AN s t):=by obtain⟨a,b⟩:=s;obtain⟨a',b'⟩:=t;show HT.lexLt [a,b] [a',b']=_;rw[HT.lexLt_cons,HT.lexLt_cons];have e0:HT.lexLt [] []=false:=rfl;rw[e0,Bool.eq_iff_iff,decide_eq_true_iff];simp only[AN];by_cases h1:a=a'<;>by_cases h2:b=b'<;>simp[h1,h2]<;>lia
structure IsLay (F:List Sq) (l:Lay):Prop extends Cov F l where
 up:l.Pairwise fun s t=>AN s.1 t.1
theorem Vj{l:Lay}(h:(BU l).Nodup):l.Pairwise fun s t=>s.1≠t.1/\s.1≠t.2/\s.2≠t.1/\s.2≠t.2:=by unfold BU List.Nodup at h;rw[List.pairwise_flatMap]at h;refine h.2.imp fun {s t} h=>?_;exact⟨h _ (by simp) _ (by simp),h _ (by simp) _ (by simp),h _ (by simp) _ (by simp),h _ (by simp) _ (by simp)⟩
theorem Cov.perm{F:List Sq}{l m:Lay}(C:Cov F l)(h:m.Perm l):Cov F m:=⟨fun s hs=>C.st s (h.mem_iff.mp hs),(J9 h).trans C.pm⟩
theorem Cov.lay{F:List Sq}{l:Lay}(C:Cov F l)(nd:F.Nodup):IsLay F (TSt.sort l):=by
 have C':=C.perm (TSt.sort_perm l);refine⟨C',?_⟩;have h1:=TSt.sort_sorted l;have h2:=Vj (C'.pm.nodup_iff.mpr nd);refine(h1.and h2).imp fun {s t} h=>?_;obtain⟨h1,h2,_⟩:=h;unfold TyD.le at h1;rw[show TSt.f=AY from rfl,K0]at h1;simp only[Bool.not_eq_true',decide_eq_false_iff_not,not_or,not_and]at h1;rcases Ve s.1 t.1 with h|h|h
 ·exact h
 ·exact absurd h h2
 ·exact absurd h h1.1
theorem IsLay.sorted{F:List Sq}{l:Lay}(I:IsLay F l):l.Pairwise fun x y=>TSt.le x y=true:=I.up.imp fun {s t} h=>by
 unfold TyD.le;rw[show TSt.f=AY from rfl,K0];simp only[Bool.not_eq_true',decide_eq_false_iff_not,not_or,not_and];refine⟨fun h'=>AX _ (BP h h'),fun e=>?_⟩;rw[e]at h;exact absurd h (AX _)
theorem IsLay.uniq{F:List Sq}{l m:Lay}(I:IsLay F l)(J:IsLay F m)(h:l.Perm m):l=m:=TSt.uniq h I.sorted J.sorted
def Bq(F:List Sq):List Lay:=Jf.sort ((BG F).map TSt.sort)
theorem Nm{F:List Sq}(up:F.Pairwise AN){l:Lay}:l∈Bq F↔IsLay F l:=by
 unfold Bq;rw[(Jf.sort_perm _).mem_iff,List.mem_map];constructor
 ·rintro⟨r,hr,rfl⟩;exact(EN _ (Nat.le_refl _) up r hr).lay (HA up)
 ·intro I;obtain⟨r,hr,hp⟩:=UC _ (Nat.le_refl _) up I.toCov;exact⟨r,hr,((EN _ (Nat.le_refl _) up r hr).lay (HA up)).uniq I ((TSt.sort_perm r).trans hp)⟩
theorem bE{F:List Sq}(up:F.Pairwise AN):(Bq F).Nodup:=by unfold Bq;rw[(Jf.sort_perm _).nodup_iff];unfold List.Nodup;rw[List.pairwise_map];refine(XJ _ (Nat.le_refl _) up).imp fun {a b} h e=>h ?_;exact(TSt.sort_perm a).symm.trans (e▸TSt.sort_perm b)
theorem Qb(F:List Sq):(Bq F).Pairwise fun x y=>Jf.le x y=true:=Jf.sort_sorted _
def Od(r:Lay):Dat:=.lst (r.map AY)
def IJ(l:List Lay):Dat:=.lst (l.map Od)
def ValidE(AV:List (Dat×Dat)):Prop:=∀p∈AV,∃F:List Sq,p.1=fl F/\p.2=IJ (BG F)
theorem Qf(F:List Sq):Br 6 (fl F)=true:=by simp only[Br,fl];rw[List.all_eq_true];intro d hd;obtain⟨p,_,rfl⟩:=List.mem_map.mp hd;rfl
theorem ValidE.look{AV:List (Dat×Dat)}(h:ValidE AV){F:List Sq}{d:Dat}(e:Ab AV (fl F)=some d):d=IJ (BG F):=by unfold Ab at e;obtain⟨p,hp,rfl⟩:=Option.map_eq_some_iff.mp e;have hm:=List.mem_of_find?_eq_some hp;have hk:=List.find?_some hp;have HE:p.1=fl F:=of_decide_eq_true hk;obtain⟨F',h1,h2⟩:=h p hm;rw[HE]at h1;rw[Wd h1];exact h2
theorem ValidE.put{AV:List (Dat×Dat)}(h:ValidE AV)(F:List Sq):ValidE (EX AV (fl F) (IJ (BG F))):=by
 unfold EX;intro p hp;split at hp
 ·obtain⟨x,hx,rfl⟩:=List.mem_map.mp hp;by_cases e:x.1=fl F
  ·rw[if_pos e];exact⟨F,e,rfl⟩
  ·rw[if_neg e];exact h x hx
 ·rcases List.mem_append.mp hp with hp|hp
  ·exact h p hp
  ·rw[List.mem_singleton.mp hp];exact⟨F,rfl,rfl⟩
theorem RY(AV:List (Dat×Dat))(k v:Dat):Ab (EX AV k v) k=some v:=by
 by_cases h:(Ab AV k).isSome=true
 ·have:∀(AV:List (Dat×Dat)),(Ab AV k).isSome=true->Ab (AV.map fun x=>if x.1=k then(x.1,v)else x) k=some v:=by
   intro AV
   induction AV with
   |nil=>intro h;simp[Ab]at h
   |cons p r ih=>
    intro h;by_cases e:p.1=k
    ·simp[Ab,e]
    ·have h':(Ab r k).isSome=true:=by simpa[Ab,e]using h
     have:=ih h'
     simpa[Ab,e]using this
  unfold EX;rw[if_pos h];exact this AV h
 ·unfold EX;rw[if_neg h];have hn:AV.find? (fun x=>decide (x.1=k))=none:=by
   cases q:AV.find? (fun x=>decide (x.1=k))with
   |none=>rfl
   |some p=>exact absurd (by simp[Ab,q]) h
  simp[Ab,List.find?_append,hn]
def Ju(n:Nat):SpD:=fun ds G R=>∃(F:List Sq)(kp:Addr)(AV:List (Dat×Dat)),ds=[fl F,.fn kp]/\F.Pairwise AN/\F.length<=2*n/\n<=12/\G kp=some (.dct AV)/\ValidE AV/\AV.length+2 ^ n<=2 ^ 12+1 ∧
 ∀BS,ValidE BS->BS.length+1<=AV.length+2 ^ n->R (IJ (BG F)) (put G kp (.dct BS))
def aT:SpD:=fun ds G R=>∃F:List Sq,ds=[fl F]/\F≠[]/\F.Pairwise AN/\F.length<=24/\R (.lst ((Bq F).map lay)) G
theorem Yw{F:List Sq}(h:F≠[]):atI (F.map sq) (-1)=some (sq (AU F)):=by refine Dr sq ?_;unfold atI ixN;have:0<F.length:=List.length_pos_iff.mpr h;rw[if_neg (by lia),if_pos (by lia)];show F[((F.length:Int)+-1).toNat]?=_;unfold AU;rw[List.getLastD_eq_getLast?,List.getLast?_eq_getElem?];rw[show((F.length:Int)+-1).toNat=F.length-1 by lia,List.getElem?_eq_getElem (by lia)];rfl
theorem Ni{F:List Sq}{l:Lay}(C:Cov F l):2*l.length=F.length:=by
 rw[<-C.pm.length_eq];unfold BU;rw[List.length_flatMap];clear C
 induction l with
 |nil=>rfl
 |cons a l ih=>rw[List.map_cons,List.sum_cons,List.length_cons,<-ih];simp;lia
def via{α β:Type}[Inhabited β](h:α->Dat)(g:α->β)(d:Dat):β:=have:=Classical.propDecidable (∃x,h x=d)
 if e:∃x,h x=d then g e.choose else default
instance:Inhabited Dat:=⟨.non⟩
theorem GV{α β:Type}[Inhabited β]{h:α->Dat}(inj:∀{x y},h x=h y->x=y)(g:α->β)(x:α):via h g (h x)=g x:=by unfold via;have e:∃y,h y=h x:=⟨x,rfl⟩;simp only[e,dif_pos];rw[inj e.choose_spec]
theorem Xv{α:Type}{h:α->Dat}(inj:∀{x y},h x=h y->x=y)(g:α->Dat)(l:List α):(l.map h).map (via h g)=l.map g:=by rw[List.map_map];exact List.map_congr_left fun x _=>GV inj g x
theorem Vg{α:Type}{h:α->Dat}(inj:∀{x y},h x=h y->x=y)(p:α->Bool)(l:List α):((l.map h).filter (via h p)).map id=(l.filter p).map h:=by rw[List.filter_map,List.map_id];have:via h p ∘ h=p:=funext fun x=>GV inj p x;rw[this]
theorem OZ{α:Type}{h:α->Dat}(inj:∀{x y},h x=h y->x=y):∀{l m:List α},l.map h=m.map h->l=m
 |[],[],_=>rfl
 |[],_::_,h=>by simp at h
 |_::_,[],h=>by simp at h
 |p::l,q::m,h=>by
  simp only[List.map_cons,List.cons.injEq]at h;rw[inj h.1,OZ inj h.2]
theorem O9{r r':Lay}(h:Od r=Od r'):r=r':=by simp only[Od,Dat.lst.injEq]at h;exact OZ Cg h
theorem XG(x y:Sq):CW true (sq x) (sq y)=decide (AN x y):=by
 have:=TSq.lt x y
 rw[show TSq.f=sq from rfl,Z5]at this;exact this
def BE(floor:List Sq)(q:Sq)(taken:List Sq):List (List (Sq×Sq)×List Sq):=if taken.contains q=true then[([],taken.drop 1)]else
  (if (floor.contains (q.1,q.2+1)&&!taken.contains (q.1,q.2+1))=true then[([(q,(q.1,q.2+1))],(q.1,q.2+1)::taken)]else[]) ++
  (if floor.contains (q.1+1,q.2)=true then[([(q,(q.1+1,q.2))],taken++[(q.1+1,q.2)])]else[])
def Oe(p:List (Sq×Sq)×List Sq):Dat:=.tup [.tup (p.1.map AY),fl p.2]
def R7:SpD:=fun ds G R=>∃(floor:List Sq)(k:Nat)(q:Sq)(taken:List Sq),ds=[fl floor,.int k,fl taken]/\floor[k]?=some q/\floor.length<=1000/\taken.length<=1000/\R (.lst ((BE floor q taken).map Oe)) G
def C4(floor:List Sq):List Sq->List Sq->Nat
 |[],_=>1
 |q::r,taken=>((BE floor q taken).map fun t=>C4 floor r t.2).sum
def RO(floor:List Sq):Nat:=C4 floor floor []
def Cp(k:Nat)(taken:List Sq):Dat:=.tup [.int k,fl taken]
def Valid(floor:List Sq)(AV:List (Dat×Dat)):Prop:=∀p∈AV,∃(k:Nat)(taken:List Sq),p.1=Cp k taken/\p.2=.int (C4 floor (floor.drop k) taken:Nat)
theorem UT{k k':Nat}{t t':List Sq}(h:Cp k t=Cp k' t'):k=k'/\t=t':=by simp only[Cp,Dat.tup.injEq,List.cons.injEq,Dat.int.injEq,and_true]at h;exact⟨by lia,Wd h.2⟩
theorem Ii(k:Nat)(t:List Sq):Br 6 (Cp k t)=true:=by simp only[Cp,Br,List.all_cons,List.all_nil,Bool.and_true,Bool.true_and,fl];rw[List.all_eq_true];intro d hd;obtain⟨p,_,rfl⟩:=List.mem_map.mp hd;rfl
theorem Valid.look{floor:List Sq}{AV:List (Dat×Dat)}(h:Valid floor AV){k:Nat}{t:List Sq}{d:Dat}(e:Ab AV (Cp k t)=some d):d=.int (C4 floor (floor.drop k) t:Nat):=by unfold Ab at e;obtain⟨p,hp,rfl⟩:=Option.map_eq_some_iff.mp e;have hm:=List.mem_of_find?_eq_some hp;have hk:=List.find?_some hp;have HE:p.1=Cp k t:=of_decide_eq_true hk;obtain⟨k',t',h1,h2⟩:=h p hm;rw[HE]at h1;obtain⟨rfl,rfl⟩:=UT h1;exact h2
theorem Valid.put{floor:List Sq}{AV:List (Dat×Dat)}(h:Valid floor AV)(k:Nat)(t:List Sq):Valid floor (EX AV (Cp k t) (.int (C4 floor (floor.drop k) t:Nat))):=by
 unfold EX;intro p hp;split at hp
 ·obtain⟨x,hx,rfl⟩:=List.mem_map.mp hp;by_cases e:x.1=Cp k t
  ·rw[if_pos e];exact⟨k,t,e,rfl⟩
  ·rw[if_neg e];exact h x hx
 ·rcases List.mem_append.mp hp with hp|hp
  ·exact h p hp
  ·rw[List.mem_singleton.mp hp];exact⟨k,t,rfl,rfl⟩
theorem RD(AV:List (Dat×Dat))(k v:Dat):Ab (EX AV k v) k=some v:=by
 by_cases h:(Ab AV k).isSome=true
 ·have:∀(AV:List (Dat×Dat)),(Ab AV k).isSome=true->Ab (AV.map fun x=>if x.1=k then(x.1,v)else x) k=some v:=by
   intro AV
   induction AV with
   |nil=>intro h;simp[Ab]at h
   |cons p r ih=>
    intro h;by_cases e:p.1=k
    ·simp[Ab,e]
    ·have h':(Ab r k).isSome=true:=by simpa[Ab,e]using h
     have:=ih h'
     simpa[Ab,e]using this
  unfold EX;rw[if_pos h];exact this AV h
 ·unfold EX;rw[if_neg h];have hn:AV.find? (fun x=>decide (x.1=k))=none:=by
   cases q:AV.find? (fun x=>decide (x.1=k))with
   |none=>rfl
   |some p=>exact absurd (by simp[Ab,q]) h
  simp[Ab,List.find?_append,hn]
theorem Tj(floor:List Sq)(q:Sq)(taken:List Sq):(BE floor q taken).length<=2/\∀p∈BE floor q taken,p.2.length<=taken.length+1:=by
 unfold BE;split
 ·refine⟨by simp,fun p hp=>?_⟩;rw[List.mem_singleton.mp hp];simp;lia
 ·constructor
  ·rw[List.length_append];split<;>split<;>simp
  ·intro p hp;rcases List.mem_append.mp hp with hp|hp
   ·split at hp
    ·rw[List.mem_singleton.mp hp];simp
    ·cases hp
   ·split at hp
    ·rw[List.mem_singleton.mp hp];simp
    ·cases hp
def Mj(n:Nat):SpD:=fun ds G R=>∃(floor:List Sq)(k:Nat)(taken:List Sq)(kp:Addr)(AV:List (Dat×Dat)),ds=[fl floor,.int k,fl taken,.fn kp]/\k+n=floor.length/\floor.length<=24/\taken.length<=k/\G kp=some (.dct AV)/\Valid floor AV/\AV.length+2 ^ n<=2 ^ 24+1 ∧
 ∀BS,Valid floor BS->BS.length+1<=AV.length+2 ^ n->R (.int (C4 floor (floor.drop k) taken:Nat)) (put G kp (.dct BS))
def Rp:SpD:=fun ds G R=>∃(floor:List Sq),ds=[fl floor]/\floor.length<=24/\R (.int (RO floor:Nat)) G
def Hi(floor:List Sq):List Sq->List Sq->List Lay
 |[],_=>[[]]
 |q::r,taken=>(BE floor q taken).flatMap fun t=>(Hi floor r t.2).map (t.1++·)
theorem Oi(floor:List Sq):∀(rest taken:List Sq),C4 floor rest taken=(Hi floor rest taken).length
 |[],_=>rfl
 |q::r,taken=>by
  rw[C4,Hi,List.length_flatMap];congr 1;refine List.map_congr_left fun t _=>?_;rw[Oi floor r t.2,List.length_map]
def Bb(rest taken:List Sq):List Sq:=rest.filter fun x=>!taken.contains x
theorem Ft{rest taken:List Sq}{x:Sq}:x∈Bb rest taken↔x∈rest/\x∉taken:=by simp[Bb]
structure WInv (floor rest taken:List Sq):Prop where
 up:floor.Pairwise AN
 pre:∃pre,floor=pre++rest
 tup:taken.Pairwise AN
 tin:∀t∈taken,t∈rest
 bd:∀q r,rest=q::r->∀t∈taken,AN t (q.1+1,q.2)
theorem Zf{l:Lay}:IsLay [] l↔l=[]:=by
 constructor
 ·intro I
  have:=I.pm.length_eq
  cases l with
  |nil=>rfl
  |cons s l=>simp[BU]at this
 ·rintro rfl;exact⟨⟨by simp,.refl _⟩,.nil⟩
def JT(D:List Sq)(o:Sq):List Sq:=D.filter fun x=>!decide (x=o)
theorem Iw{D:List Sq}{o x:Sq}:x∈JT D o↔x∈D/\x≠o:=by simp[JT]
theorem KW{D:List Sq}(nd:D.Nodup){o:Sq}(ho:o∈D):(o::JT D o).Perm D:=by
 rw[List.perm_ext_iff_of_nodup _ nd]
 ·intro x;simp only[List.mem_cons,Iw];by_cases h1:x=o
  ·subst h1;simp[ho]
  ·simp[h1]
 ·exact List.nodup_cons.mpr ⟨fun h=>(Iw.mp h).2 rfl,nd.sublist List.filter_sublist⟩
theorem U8{q o:Sq}(h:o∈nbM q)(BC:AN q o):o=(q.1,q.2+1)\/o=(q.1+1,q.2):=by
 obtain⟨a,b⟩:=q;obtain⟨c,d⟩:=o;simp only[nbM,List.mem_cons,List.not_mem_nil,or_false,Prod.mk.injEq]at h ⊢;have e:a<c\/(a=c/\b<d):=BC;rcases h with⟨h1,h2⟩|⟨h1,h2⟩|h|h
 ·lia
 ·lia
 ·exact .inl h
 ·exact .inr h
theorem Vt{q:Sq}{D:List Sq}(up:(q::D).Pairwise AN){l:Lay}:IsLay (q::D) l↔∃o,(o=(q.1,q.2+1)\/o=(q.1+1,q.2))/\o∈D/\∃l',l=(q,o)::l'/\IsLay (JT D o) l':=by
 obtain⟨uq,uD⟩:=List.pairwise_cons.mp up;constructor
 ·intro I;obtain⟨s,hs,he⟩:=B6.mp (I.pm.mem_iff.mpr (List.mem_cons_self ..));have inD:∀s∈l,s.1∈q::D/\s.2∈q::D:=fun s hs=>⟨I.pm.mem_iff.mp (B6.mpr ⟨s,hs,.inl rfl⟩),I.pm.mem_iff.mp (B6.mpr ⟨s,hs,.inr rfl⟩)⟩;have ge:∀x∈q::D,¬AN x q:=fun x hx h=>by
   rcases List.mem_cons.mp hx with e|hx
   ·subst e;exact AX _ h
   ·exact AX _ (BP h (uq x hx))
  obtain⟨slt,iD⟩:=I.st s hs;have h1:s.1=q:=by
   rcases he with e|e
   ·exact e.symm
   ·rw[<-e]at slt;exact absurd slt (ge _ (inD s hs).1)
  cases l with
  |nil=>cases hs
  |cons a l'=>
   have ha:s=a:=by
    rcases List.mem_cons.mp hs with e|h
    ·exact e
    ·have:=(List.pairwise_cons.mp I.up).1 s h
     rw[h1]at this;exact absurd this (ge _ (inD a (List.mem_cons_self ..)).1)
   subst ha;have NM:s.2∈D:=by
    rcases List.mem_cons.mp (inD s hs).2 with e|h
    ·rw[h1]at slt;rw[e]at slt;exact absurd slt (AX _)
    ·exact h
   rw[h1]at slt iD;refine⟨s.2,U8 iD slt,NM,l',by rw[<-h1],⟨fun t ht=>I.st t (List.mem_cons_of_mem _ ht),?_⟩,(List.pairwise_cons.mp I.up).2⟩;have hp:(s.1::s.2::BU l').Perm (q::D):=I.pm;rw[h1]at hp;exact(List.perm_cons _).mp (((List.perm_cons _).mp hp).trans (KW (HA uD) NM).symm)
 ·rintro⟨o,Yj,bR,l',rfl,I⟩;have BC:=uq o bR;have qC:o∈nbM q:=by
   obtain⟨a,b⟩:=q;rcases Yj with rfl|rfl<;>simp[nbM]
  refine⟨⟨fun t ht=>?_,?_⟩,List.pairwise_cons.mpr ⟨fun t ht=>?_,I.up⟩⟩
  ·rcases List.mem_cons.mp ht with rfl|ht
   ·exact⟨BC,qC⟩
   ·exact I.st t ht
  ·show(q::o::BU l').Perm (q::D);exact List.Perm.cons _ ((List.Perm.cons _ I.pm).trans (KW (HA uD) bR))
  ·have:=I.pm.mem_iff.mp (B6.mpr ⟨t,ht,.inl rfl⟩)
   exact uq _ (Iw.mp this).1
theorem WInv.tail{floor r:List Sq}{q:Sq}{taken:List Sq}(h:WInv floor (q::r) taken):(∀x∈r,AN q x)/\r.Pairwise AN/\∀x,AN q x->x∈floor->x∈r:=by
 obtain⟨pre,e⟩:=h.pre;have hu:=h.up;rw[e,List.pairwise_append]at hu;obtain⟨u1,u2⟩:=List.pairwise_cons.mp hu.2.1;refine⟨u1,u2,fun x hx hm=>?_⟩;rw[e]at hm;rcases List.mem_append.mp hm with hm|hm
 ·exact absurd (BP hx (hu.2.2 x hm q (by simp))) (AX _)
 ·rcases List.mem_cons.mp hm with e|hm
  ·subst e;exact absurd hx (AX _)
  ·exact hm
theorem Oj{q q':Sq}(h:AN q q'):AN (q.1+1,q.2) (q'.1+1,q'.2):=by unfold AN at *;simp only;lia
theorem Zr{α:Type}{p q:Prop}[Decidable p][Decidable q](h:p↔q)(a b:α):(if p then a else b)=if q then a else b:=by
 by_cases c:p
 ·rw[if_pos c,if_pos (h.mp c)]
 ·rw[if_neg c,if_neg fun d=>c (h.mpr d)]
theorem EH{α:Type}{l:List α}{p q:α->Bool}(h:∀x∈l,p x=q x):l.filter p=l.filter q:=List.filter_congr h
theorem U5(floor:List Sq):∀(rest taken:List Sq),WInv floor rest taken->(∀l,l∈Hi floor rest taken↔IsLay (Bb rest taken) l)/\(Hi floor rest taken).Pairwise Jf.lt':=by
 intro rest
 induction rest with
 |nil=>
  intro taken h;rw[Hi,show Bb [] taken=[]from rfl];exact⟨fun l=>by rw[Zf,List.mem_singleton],List.pairwise_singleton _ _⟩
 |cons q r ih=>
  intro taken W;obtain⟨uq,ur,Uk⟩:=W.tail;obtain⟨pre,Ia⟩:=W.pre;have bp:∃pre,floor=pre++r:=⟨pre++[q],by rw[Ia];simp⟩;have kF:∀t∈taken,∀q' r',r=q'::r'->AN t (q'.1+1,q'.2):=fun t ht q' r' e=>BP (W.bd q r rfl t ht) (Oj (uq q' (by rw[e];simp)));rw[Hi];by_cases hq:taken.contains q=true
  ·have bW:q∈taken:=by simpa using hq
   obtain⟨a,tk,rfl⟩:∃a tk,taken=a::tk:=List.exists_cons_of_ne_nil (List.ne_nil_of_mem bW);obtain⟨ua,qV⟩:=List.pairwise_cons.mp W.tup;have ha:a=q:=by
    rcases List.mem_cons.mp bW with e|h
    ·exact e.symm
    ·have h1:=ua q h;rcases List.mem_cons.mp (W.tin a (List.mem_cons_self ..))with e|h2
     ·exact e
     ·exact absurd (BP h1 (uq a h2)) (AX _)
   subst ha;have W':WInv floor r tk:=⟨W.up,bp,qV,fun t ht=>by
    rcases List.mem_cons.mp (W.tin t (List.mem_cons_of_mem _ ht))with e|h
    ·subst e;exact absurd (ua t ht) (AX _)
    ·exact h,fun q' r' e t ht=>kF t (List.mem_cons_of_mem _ ht) q' r' e⟩
   have ef:Bb (a::r) (a::tk)=Bb r tk:=by
    unfold Bb;rw[List.filter_cons,if_neg (by simp)];refine EH fun x hx=>?_;have:x≠a:=fun e=>by subst e;exact AX _ (uq x hx)
    simp[this]
   have es:BE floor a (a::tk)=[([],tk)]:=by unfold BE;rw[if_pos hq];rfl
   rw[es,ef];obtain⟨i1,i2⟩:=ih tk W';simp only[List.flatMap_cons,List.flatMap_nil,List.append_nil,List.nil_append,List.map_id'];exact⟨i1,i2⟩
  ·have bW:q∉taken:=by simpa using hq
   have ef:Bb (q::r) taken=q::Bb r taken:=by
    unfold Bb;rw[List.filter_cons,if_pos (by simpa using bW)]
   have j2:∀t∈taken,AN q t/\t∈r:=fun t ht=>by
    rcases List.mem_cons.mp (W.tin t ht)with e|h
    ·subst e;exact absurd ht bW
    ·exact⟨uq t h,h⟩
   have uD:(q::Bb r taken).Pairwise AN:=List.pairwise_cons.mpr ⟨fun x hx=>uq x (Ft.mp hx).1,ur.sublist List.filter_sublist⟩;have qf:AN q (q.1,q.2+1):=by unfold AN;right;exact⟨rfl,by show q.2<q.2+1;lia⟩
   have qT:AN q (q.1+1,q.2):=by unfold AN;left;show q.1<q.1+1;lia
   have es:BE floor q taken=(if (q.1,q.2+1)∈Bb r taken then[([(q,(q.1,q.2+1))],(q.1,q.2+1)::taken)]else[])++(if (q.1+1,q.2)∈Bb r taken then[([(q,(q.1+1,q.2))],taken++[(q.1+1,q.2)])]else[]):=by
    unfold BE;rw[if_neg hq];congr 1
    ·refine Zr ?_ _ _;rw[Ft];simp only[Bool.and_eq_true,Bool.not_eq_true',List.contains_eq_mem,decide_eq_true_eq,decide_eq_false_iff_not];constructor
     ·rintro⟨h1,h2⟩;exact⟨Uk _ qf h1,h2⟩
     ·rintro⟨h1,h2⟩;exact⟨by rw[Ia];simp[h1],h2⟩
    ·refine Zr ?_ _ _;rw[Ft];simp only[List.contains_eq_mem,decide_eq_true_eq];constructor
     ·intro h1;exact⟨Uk _ qT h1,fun h=>AX _ (W.bd q r rfl _ h)⟩
     ·rintro⟨h1,_⟩;rw[Ia];simp[h1]
   have W1:(q.1,q.2+1)∈Bb r taken->WInv floor r ((q.1,q.2+1)::taken):=fun h=>by
    obtain⟨h1,h2⟩:=Ft.mp h;refine⟨W.up,bp,List.pairwise_cons.mpr ⟨fun t ht=>?_,W.tup⟩,fun t ht=>?_,fun q' r' e t ht=>?_⟩
    ·obtain⟨g1,_⟩:=j2 t ht;have Bk:t≠(q.1,q.2+1):=fun e=>h2 (e▸ht);obtain⟨c,d⟩:=t;simp only[ne_eq,Prod.mk.injEq,not_and]at Bk;unfold AN at *;simp only at *;lia
    ·rcases List.mem_cons.mp ht with rfl|ht
     ·exact h1
     ·exact(j2 t ht).2
    ·rcases List.mem_cons.mp ht with rfl|ht
     ·have:=uq q' (by rw[e];simp)
      unfold AN at *;simp only at *;lia
     ·exact kF t ht q' r' e
   have W2:(q.1+1,q.2)∈Bb r taken->WInv floor r (taken++[(q.1+1,q.2)]):=fun h=>by
    obtain⟨h1,h2⟩:=Ft.mp h;refine⟨W.up,bp,?_,fun t ht=>?_,fun q' r' e t ht=>?_⟩
    ·rw[List.pairwise_append];refine⟨W.tup,List.pairwise_singleton _ _,fun t ht y hy=>?_⟩;rw[List.mem_singleton.mp hy];exact W.bd q r rfl t ht
    ·rcases List.mem_append.mp ht with ht|ht
     ·exact(j2 t ht).2
     ·rw[List.mem_singleton.mp ht];exact h1
    ·rcases List.mem_append.mp ht with ht|ht
     ·exact kF t ht q' r' e
     ·rw[List.mem_singleton.mp ht];exact Oj (uq q' (by rw[e];simp))
   have e1:Bb r ((q.1,q.2+1)::taken)=JT (Bb r taken) (q.1,q.2+1):=by
    unfold Bb JT;rw[List.filter_filter];refine EH fun x _=>?_;rw[Bool.eq_iff_iff];simp[not_or]
   have e2:Bb r (taken++[(q.1+1,q.2)])=JT (Bb r taken) (q.1+1,q.2):=by
    unfold Bb JT;rw[List.filter_filter];refine EH fun x _=>?_;rw[Bool.eq_iff_iff];simp[not_or,and_comm]
   have ck:∀l,l∈((BE floor q taken).flatMap fun t=>(Hi floor r t.2).map (t.1++·))↔IsLay (q::Bb r taken) l:=by
    intro l;rw[Vt uD,es,List.flatMap_append,List.mem_append];constructor
    ·rintro(h|h)
     ·by_cases c:(q.1,q.2+1)∈Bb r taken
      ·rw[if_pos c]at h;simp only[List.flatMap_cons,List.flatMap_nil,List.append_nil,List.mem_map]at h;obtain⟨l',TX,rfl⟩:=h;refine⟨_,.inl rfl,c,l',rfl,?_⟩;rw[<-e1];exact((ih _ (W1 c)).1 l').mp TX
      ·rw[if_neg c]at h;simp at h
     ·by_cases c:(q.1+1,q.2)∈Bb r taken
      ·rw[if_pos c]at h;simp only[List.flatMap_cons,List.flatMap_nil,List.append_nil,List.mem_map]at h;obtain⟨l',TX,rfl⟩:=h;refine⟨_,.inr rfl,c,l',rfl,?_⟩;rw[<-e2];exact((ih _ (W2 c)).1 l').mp TX
      ·rw[if_neg c]at h;simp at h
    ·rintro⟨o,Yj,bR,l',rfl,I⟩;rcases Yj with rfl|rfl
     ·left;rw[if_pos bR];simp only[List.flatMap_cons,List.flatMap_nil,List.append_nil,List.mem_map];refine⟨l',((ih _ (W1 bR)).1 l').mpr (by rw[e1];exact I),rfl⟩
     ·right;rw[if_pos bR];simp only[List.flatMap_cons,List.flatMap_nil,List.append_nil,List.mem_map];refine⟨l',((ih _ (W2 bR)).1 l').mpr (by rw[e2];exact I),rfl⟩
   refine⟨fun l=>by rw[ef];exact ck l,?_⟩;have same:∀(o:Sq)(ls:List Lay),ls.Pairwise Jf.lt'->(ls.map ([(q,o)]++·)).Pairwise Jf.lt':=fun o ls h=>by
    rw[List.pairwise_map];refine h.imp fun {a b} HI=>?_;show lx (flat (AY (q,o))++flat (lay a)) (flat (AY (q,o))++flat (lay b))=true;rw[Qt];exact HI
   rw[es,List.flatMap_append,List.pairwise_append];refine⟨?_,?_,?_⟩
   ·split
    ·rename_i c;simp only[List.flatMap_cons,List.flatMap_nil,List.append_nil];exact same _ _ (ih _ (W1 c)).2
    ·exact .nil
   ·split
    ·rename_i c;simp only[List.flatMap_cons,List.flatMap_nil,List.append_nil];exact same _ _ (ih _ (W2 c)).2
    ·exact .nil
   ·intro x hx y hy;split at hx
    ·split at hy
     ·simp only[List.flatMap_cons,List.flatMap_nil,List.append_nil,List.mem_map]at hx hy;obtain⟨a,_,rfl⟩:=hx;obtain⟨b,_,rfl⟩:=hy;show lx (flat (AY (q,(q.1,q.2+1)))++flat (lay a)) (flat (AY (q,(q.1+1,q.2)))++flat (lay b))=true;rw[Pa (a:=flat (AY (q,(q.1,q.2+1)))) (a':=flat (AY (q,(q.1+1,q.2)))) _ _ rfl ?_,K0,decide_eq_true_eq]
      ·right;refine⟨rfl,?_⟩;left;show q.1<q.1+1;lia
      ·intro e
       have:=De e
       simp at this;lia
     ·simp at hy
    ·simp at hx
theorem gL{F:List Sq}(up:F.Pairwise AN):WInv F F []:=⟨up,⟨[],rfl⟩,.nil,by simp,by simp⟩
theorem gj(F:List Sq):Bb F []=F:=by unfold Bb;rw[List.filter_eq_self];intro a _;rfl
theorem eR{α:Type}(T:TyD α){x y:α}(h:T.lt' x y):T.le x y=true:=by
 unfold TyD.le;unfold TyD.lt' at h;cases e:lx (flat (T.f y)) (flat (T.f x))with
 |false=>rfl
 |true=>
  have:=Fm h e
  rw[EM]at this;cases this
theorem eh{α:Type}(T:TyD α){x y:α}(h:T.lt' x y):x≠y:=by rintro rfl;unfold TyD.lt' at h;rw[show lx=HT.lexLt from rfl,EM]at h;cases h
theorem XM{F:List Sq}(up:F.Pairwise AN):Hi F F []=Bq F:=by obtain⟨h1,h2⟩:=U5 F F [] (gL up);rw[gj]at h1;refine Jf.uniq ?_ (h2.imp fun h=>eR Jf h) (Qb F);rw[List.perm_ext_iff_of_nodup (h2.imp fun h=>eh Jf h) (bE up)];exact fun l=>(h1 l).trans (Nm up).symm
theorem UB{F:List Sq}(up:F.Pairwise AN):RO F=(Bq F).length:=by unfold RO;rw[Oi,XM up]
theorem L0(s t:DN):eqD (AY s) (AY t)=decide (s=t):=by obtain⟨a,b⟩:=s;obtain⟨c,d⟩:=t;show(eqD (sq a) (sq c)&&(eqD (sq b) (sq d)&&true))=_;rw[Kc,Kc,Bool.and_true,Bool.eq_iff_iff];simp
theorem Ip(l:List DN)(s:DN):((l.map AY).any fun e=>eqD e (AY s))=l.contains s:=by
 rw[Bool.eq_iff_iff,List.any_map,List.any_eq_true,List.contains_iff_mem];constructor
 ·rintro⟨x,hx,e⟩;have e':eqD (AY x) (AY s)=true:=e;rw[L0,decide_eq_true_eq]at e';exact e'▸hx
 ·intro h;exact⟨s,h,by show eqD (AY s) (AY s)=true;rw[L0];simp⟩
theorem Ez(l:List DN):(l.map AY).all (AI 8)=true:=by rw[List.all_eq_true];intro d hd;obtain⟨s,_,rfl⟩:=List.mem_map.mp hd;exact Co s
theorem M5{F:List Sq}{l:Lay}(I:IsLay F l):l.Nodup:=I.up.imp fun {s t} h e=>by subst e;exact AX _ h
section
variable {prog:Program}{w:World}{A:Around}{E:Value->Shared->Prop}{s:Shared}
theorem KL{it t:Addr}{i:Nat}{items:Array Value}{x:Value}{Q:Value->Shared->Prop}(hit:s.heap.IsTupleIter it t i)(ht:s.heap.IsTuple t items)(hx:items[i]?=some x)(hQ:∀h',h'.IsTupleIter it t (i+1)->Heap.SameBut it s.heap h'->Q x { s with heap:=h' }):wpAny (model prog w) A (Builtin.SmallTypes.nextOf (.ref it)) Q E s:=by obtain⟨oi,TR,mL,SA⟩:=id hit;obtain⟨ot,i9,_,nt,jh⟩:=ht;unfold Builtin.SmallTypes.nextOf;refine wpAny_bind (wpAny_callSpecial?_slot (name:=Str.ofString "__next__") hit.typeIs F.slot_tuple_iterator_next (wpAny_call_entry F.slot_tuple_iterator_next hit.typeIs F.entry_tuple_iterator_next ?_ (F.args_tuple_iterator_next_1 _)));refine wpAny_bind (m:=field (.ref it) 0) (wpAny_field TR SA (x:=.ref t) rfl ?_);rw[if_neg (show ¬((Value.ref t==Value.none)=true)from Bool.false_ne_true)];refine wpAny_bind (m:=field (.ref it) 1) (wpAny_field TR SA (x:=.int i 0) rfl ?_);refine wpAny_bind (m:=seqItems? (.ref t)) (wpAny_seqItems i9 jh ?_);simp only[Int.toNat_natCast,hx];refine wpAny_bind (wpAny_setField TR SA (by simp) (wpAny_pure ⟨x,rfl,wpAny_pure (hQ _ ⟨_,Heap.get?_update_self _ TR (Obj.isFreed_of_fields (Obj.data_mapFields SA _)),(Obj.cls_mapFields ..).trans mL,?_⟩ (Heap.SameBut.update ..))⟩));rw[Obj.data_mapFields SA];simp[rawInt]
theorem Lx{it t:Addr}{i:Nat}{items:Array Value}{Q:Value->Shared->Prop}(hh:A.handled=none)(hit:s.heap.IsTupleIter it t i)(ht:s.heap.IsTuple t items)(hx:items[i]?=none)(hE:∀h' e,Heap.ExtBut it s.heap h'->(∃o,h'.get? e=some o/\o.cls=.type "StopIteration")->E (.ref e) { s with heap:=h' }):wpAny (model prog w) A (Builtin.SmallTypes.nextOf (.ref it)) Q E s:=by
 obtain⟨oi,TR,mL,SA⟩:=id hit;obtain⟨ot,i9,_,nt,jh⟩:=ht;unfold Builtin.SmallTypes.nextOf;refine wpAny_bind (wpAny_callSpecial?_slot (name:=Str.ofString "__next__") hit.typeIs F.slot_tuple_iterator_next (wpAny_call_entry F.slot_tuple_iterator_next hit.typeIs F.entry_tuple_iterator_next ?_ (F.args_tuple_iterator_next_1 _)));refine wpAny_bind (m:=field (.ref it) 0) (wpAny_field TR SA (x:=.ref t) rfl ?_);rw[if_neg (show ¬((Value.ref t==Value.none)=true)from Bool.false_ne_true)];refine wpAny_bind (m:=field (.ref it) 1) (wpAny_field TR SA (x:=.int i 0) rfl ?_);refine wpAny_bind (m:=seqItems? (.ref t)) (wpAny_seqItems i9 jh ?_);simp only[Int.toNat_natCast,hx];refine wpAny_bind (wpAny_rule (wpAny_bind (wpAny_setField TR SA (by simp) ?_)));refine wpAny_bind (m:=newExc (.type "StopIteration") []) ?_;simp only[newExc,newTuple];refine wpAny_bind (wpAny_newObj_type ?_ (by size_fits));refine wpAny_bind (m:=firstArgMember _ _) (wpAny_of_eq (a:=Value.none) (by first|rfl|(simp only[firstArgMember];rfl)) ?_);refine wpAny_newObj_type ?_ (by size_fits);simp only[raiseNew];refine wpAny_bind (wpAny_handled ?_);first|rw[show A.in1.handled=none from hh]|rw[hh]
 exact wpAny_bind (wpAny_pure (wpAny_throw (hE _ _ (((Heap.SameBut.update ..).extBut.push _).push _) ⟨_,Heap.get?_push_size _ rfl,rfl⟩)))
abbrev tiO(t:Addr):Obj:={ cls:=.type "tuple_iterator",data:=.fields #[.ref t,.int 0 0] }
end
theorem TZ{F:List Sq}(up:F.Pairwise AN):F.Pairwise fun x y=>TSq.le x y=true:=up.imp fun {x y} h=>by
 unfold TyD.le;rw[show TSq.f=sq from rfl,Z5];have:¬AN y x:=fun h'=>AX _ (BP h h');simp[this]
theorem PXT.cast{X:Cx}{ρ:Rho}{G:Gs}{e:Expr}{p q:Bool}(h:PXT X ρ G e p)(z:p=q):PXT X ρ G e q:=z▸h
end TF
namespace TF
open PySem
def Clr(h:Heap)(e:Addr):Prop:=∃oe vs,h.get? e=some oe/\oe.data=.fields vs/\vs[2]?=some .none
theorem Clr.push{h:Heap}{e:Addr}{o:Obj}(b:Clr h e):Clr (h.push o) e:=by obtain⟨oe,vs,a,b,c⟩:=b;exact⟨oe,vs,Heap.get?_push_of_some _ a,b,c⟩
theorem Clr.set{h:Heap}{e b:Addr}{i:Nat}{v:Value}(g:Clr h e)(hi:i≠2\/e≠b):Clr (h.update b (Obj.mapFields (·.setIfInBounds i v))) e:=by
 obtain⟨oe,vs,h1,h2,h3⟩:=g;by_cases q:e=b
 ·subst q;have hd:=Obj.data_mapFields h2 (·.setIfInBounds i v);exact⟨_,_,Heap.get?_update_self _ h1 (Obj.isFreed_of_fields hd),hd,by rw[Array.getElem?_setIfInBounds_ne (hi.resolve_right fun z=>z rfl)];exact h3⟩
 ·exact⟨oe,vs,(Heap.get?_update_other _ _ (Ne.symm q)).trans h1,h2,h3⟩
section
variable {M:Model}{A:Around}{E:Value->Shared->Prop}{s:Shared}{base:Heap}{env:Env}{outer l:List Env}{L e:Addr}{oe:Obj}{vs:Array Value}{head a0 cls:Value}{Q:Unit->Shared->Prop}
def Wrt(base:Heap)(l:List Env)(e:Addr)(cls a0 fl:Value)(h h':Heap):Prop:=Heap.NotedW base l e cls a0 fl h h'/\(Clr h e->Clr h' e)
theorem cH{Zj:Bool}(Tb:A.frames=some (env::outer))(hl:s.heap.FunFrames base (env::outer))(hf:env.frame=some L)(he:s.heap.get? e=some oe)(TY:base.StaysIn s.heap)(jo:base.get? e=none)(hd:oe.data=.fields vs)(hsz:1<vs.size)(h0:vs[0]?=some a0)(h:∀h',Wrt base (env::outer) e oe.cls a0 (rawInt L) s.heap h'->Q () { s with heap:=h' }) :
  wpAny M A (do let a <-frameOf env;let pl <-entryPlaceOf L Zj;let b <-EntryCells.newEntry head a .none (rawInt L) .none pl;setField (.ref e) 1 b) Q E s:=by
 have dt:e∉(env::outer).filterMap (·.frame):=fun hm=>by
  obtain⟨_,o,ho,UG⟩:=hl.mem hm;rw[he]at ho;cases ho;exact UG vs hd
 refine wpAny_bind (wpAny_frameOf_fun Tb hl hf fun h₁ hs₁=>wpAny_bind (wpAny_entryPlaceOf fun pl hpl=>?_));unfold EntryCells.newEntry newFields;refine wpAny_bind (wpAny_newObj_type ?_ (hpl.sizeOk5 _ _ _ _ _));have he₁:h₁.get? e=some oe:=(hs₁.2.1 e dt).trans he;have kb₁:base.StaysIn h₁:=fun b o V6=>(hs₁.2.1 b fun hm=>by rw[(hl.mem hm).1]at V6;cases V6).trans (TY b o V6);generalize htb:({ cls:=.type "traceback",dict:=none,data:=.fields ([head,.ref L,.none,rawInt L,.none]++(if pl.isEmpty then List.replicate 6 Value.none else pl)).toArray }:Obj)=tb;have jW:∃ts,tb.data=.fields ts/\ts[3]?=some (rawInt L):=by
  subst htb;exact⟨_,rfl,by first|(simp;done)|(rcases hpl with rfl|⟨_,_,_,_,_,_,_,rfl⟩<;>simp)⟩
 have pF:tb.isFreed=false:=by subst htb;rfl
 have he₂:=Heap.get?_push_of_some (h:=h₁) tb he₁;refine wpAny_setField he₂ hd hsz (h _ ?_);have eF:h₁.objs.size≠e:=Nat.ne_of_gt (Heap.lt_size he₁);have hd₃:=Obj.data_mapFields hd (·.setIfInBounds 1 (Value.ref h₁.objs.size));have keep:∀b o,b≠e->h₁.get? b=some o->((h₁.push tb).update e (Obj.mapFields (·.setIfInBounds 1 (Value.ref h₁.objs.size)))).get? b=some o:=fun b o hb q=>
  (Heap.get?_update_other _ _ (Ne.symm hb)).trans (Heap.get?_push_of_some _ q)
 have PY:∀b o,s.heap.get? b=some o->(∀vs,o.data≠.fields vs)->b≠e:=fun b o hb UG q=>by
  rw[q,he]at hb;cases hb;exact UG vs hd
 obtain⟨ts,jW,h3⟩:=jW;refine⟨⟨fun b o V6=>keep b o (fun q=>by rw[q,jo]at V6;cases V6) (kb₁ b o V6),hl.of_keeps fun b o hb UG=>?_,?_,fun b o hb UG=>?_⟩,fun g=>Clr.set (Clr.push ?_) (.inl (by decide))⟩
 ·obtain⟨sl,hs⟩:=hs₁.2.2 b o hb;exact⟨_,keep b _ (PY b o hb UG) hs,rfl⟩
 ·exact⟨_,_,h₁.objs.size,tb,ts,Heap.get?_update_self _ he₂ (Obj.isFreed_of_fields hd₃),⟨Obj.cls_mapFields _ _,by rw[Array.getElem?_setIfInBounds_ne (by decide)];exact h0⟩,hd₃,by simp[hsz],kb₁.fresh,eF,(Heap.get?_update_other _ _ (Ne.symm eF)).trans (Heap.get?_push_size h₁ pF),jW,h3⟩
 ·obtain⟨sl,hs⟩:=hs₁.2.2 b o hb;exact⟨sl,keep b _ (PY b o hb UG) hs⟩
 ·obtain⟨o,LQ,q1,q2⟩:=g;exact⟨o,LQ,(hs₁.2.1 e dt).trans q1,q2⟩
theorem QL(Tb:A.frames=some (env::outer))(hl:s.heap.FunFrames base (env::outer))(hf:env.frame=some L)(he:s.heap.get? e=some oe)(TY:base.StaysIn s.heap)(jo:base.get? e=none)(hd:oe.data=.fields vs)(h1:vs[1]?=some .none)(h0:vs[0]?=some a0)(h:∀h',Wrt base (env::outer) e oe.cls a0 (rawInt L) s.heap h'->Q () { s with heap:=h' }):wpAny M A (noteFrame (.ref e) env) Q E s:=by unfold noteFrame;simp only[hf];refine wpAny_bind (wpAny_field he hd h1 ?_);rw[if_neg (by decide)];exact cH Tb hl hf he TY jo hd (Array.getElem?_eq_some_iff.mp h1).1 h0 h
theorem c9{fr:Option Addr}{fl:Value}(TY:base.StaysIn s.heap)(hl:s.heap.FunFrames base l)(ht:s.heap.TracedAtW base e cls a0 fl)(h:∀h',base.StaysIn h'->h'.FunFrames base l->h'.TracedAtW base e cls a0 (fr.elim .none fun f=>rawInt f)->s.heap.UpToSlots h'->(Clr s.heap e->Clr h' e)->Q () { s with heap:=h' }):wpAny M A (setFlight (.ref e) fr) Q E s:=by
 obtain⟨oe,vs,T,oT,ts,he,bY,hd,h1,l9,eF,hT,iA,h3⟩:=ht;have W5:3<ts.size:=(Array.getElem?_eq_some_iff.mp h3).1;have other:∀b,b≠T->(s.heap.update T (Obj.mapFields (·.setIfInBounds 3 (fr.elim Value.none fun f=>rawInt f)))).get? b=s.heap.get? b:=fun b hb=>Heap.get?_update_other _ _ (Ne.symm hb);have PY:∀b o,s.heap.get? b=some o->(∀vs,o.data≠.fields vs)->b≠T:=fun b o hb UG q=>by
  rw[q,hT]at hb;cases hb;exact UG ts iA
 unfold setFlight;refine wpAny_bind (wpAny_field he hd h1 ?_);rw[if_pos (show(Value.ref T != Value.none)=true from by simp)];refine wpAny_setField hT iA W5 (h _ (fun b o V6=>(other b fun q=>by rw[q,l9]at V6;cases V6).trans (TY b o V6))
  (hl.of_keeps fun b o hb UG=>⟨o,(other b (PY b o hb UG)).trans hb,rfl⟩) ?_ (fun b o hb UG=>⟨o.slots,(other b (PY b o hb UG)).trans hb⟩) fun g=>Clr.set g (.inl (by decide)))
 exact⟨oe,vs,T,_,_,(other e (Ne.symm eF)).trans he,bY,hd,h1,l9,eF,Heap.get?_update_self _ hT (Obj.isFreed_of_fields (Obj.data_mapFields iA _)),Obj.data_mapFields iA _,by simp[W5]⟩
end
end TF
namespace TF
open PySem PySem.Spec L2
open PyProof.Rows hiding St RelV
structure Fly (P:Program) (w:World) (outer:List Env) (H:Hp) (h:Heap) (H':Hp) (h':Heap) (ea:Addr) (cls:Value):Prop where
 ex:∃a0 B,Heap.FlyingW B outer ea cls a0 h'/\HOk P w H' B/\(∀b o,h.get? b=some o->H b=none->b∉frs outer->B.get? b=some o)/\∀b o,h.get? b=some o->b∉frs outer->∃o',B.get? b=some o'
 un:Un (frs outer) [] H H' h h'
 free:H' ea=none
theorem Fly.hok{P:Program}{w:World}{outer:List Env}{H H':Hp}{h h':Heap}{ea:Addr}{cls:Value}(f:Fly P w outer H h H' h' ea cls):HOk P w H' h':=by obtain⟨a0,B,fl,hb,_⟩:=f.ex;exact hb.kept fl.1
def CXV(P:Program)(w:World):CXT:=fun outer H s E e s'=>∃ea cls H',e=.ref ea/\s'.os=s.os/\AllBare s'.gens/\Fly P w outer H s.heap H' s'.heap ea cls/\E cls none H'
theorem Zb{outer:List Env}{H H':Hp}{h h1 h2:Heap}(un:Un (frs outer) [] H H' h h1){B:Heap}(c1:∀b o,h.get? b=some o->H b=none->b∉frs outer->B.get? b=some o)(c2:∀b o,h.get? b=some o->b∉frs outer->∃o',B.get? b=some o'){outer0:List Env}(ff:h1.FunFrames B outer0)(HV:∀b∈frs outer,b∈frs outer0)(st:B.StaysIn h2)(up:h1.UpToSlots h2):Un (frs outer) [] H H' h h2:=by
 refine⟨fun b o q n LR _=>st b o (c1 b o q n LR),fun b o q n LR _=>?_,un.free,fun b o q _=>?_,un.tups,un.frzs,un.tbls⟩
 ·obtain⟨sl,e⟩:=un.slot b o q n LR (by simp);obtain⟨_,o2,e2,hd⟩:=ff.mem (HV b LR);rw[e]at e2;cases e2;obtain⟨Nv,e3⟩:=up b _ e hd;exact⟨Nv,e3⟩
 ·by_cases hf:b∈frs outer
  ·obtain⟨_,o2,e2,hd⟩:=ff.mem (HV b hf);obtain⟨Nv,e3⟩:=up b _ e2 hd;exact⟨_,e3⟩
  ·obtain⟨o',e⟩:=c2 b o q hf;exact⟨o',st b o' e⟩
theorem Fly.step{P:Program}{w:World}{outer:List Env}{H H':Hp}{h h1 h2:Heap}{ea:Addr}{cls:Value}(un:Un (frs outer) [] H H' h h1)(free:H' ea=none){a0:Value}{B:Heap}(hb:HOk P w H' B)(c1:∀b o,h.get? b=some o->H b=none->b∉frs outer->B.get? b=some o)(c2:∀b o,h.get? b=some o->b∉frs outer->∃o',B.get? b=some o'){outer0:List Env}(ff:h1.FunFrames B outer0)(HV:∀b∈frs outer,b∈frs outer0)(fl:Heap.FlyingW B outer ea cls a0 h2)(up:h1.UpToSlots h2):Fly P w outer H h H' h2 ea cls:=⟨⟨a0,B,fl,hb,c1,c2⟩,Zb un c1 c2 ff HV fl.1 up,free⟩
theorem VU{P:Program}{w:World}{H:Hp}{h:Heap}{fs:List Addr}(ok:HOk P w H h)(free:∀c∈fs,H c=none):HOk P w H (PySem.W.hideAll h fs):=fun b u q=>by
 have nb:∀c v,H c=some v->c∉fs:=fun c v r hc=>by
  have:=free c hc
  rw[r]at this;cases this
 refine(ok b u q).stay (fun c o hc r=>?_) (fun _ r=>r) fun _ _ r=>r;rcases hc with rfl|hc
 ·exact PySem.W.hideAll_get _ r (nb _ _ q)
 ·exact PySem.W.hideAll_get _ r (nb _ _ hc)
theorem ZR{P:Program}{w:World}{H:Hp}{h:Heap}{ea:Addr}(ok:HOk P w H h)(new:h.get? ea=none):H ea=none:=by
 cases q:H ea with
 |none=>rfl
 |some u=>
  have hl:=(ok ea u q);have:∃o,h.get? ea=some o:=by
   cases u with
   |lst xs=>obtain⟨_,_,_,_,e⟩:=hl;exact⟨_,e⟩
   |tup xs=>obtain⟨_,_,_,o,e,_⟩:=hl;exact⟨_,e⟩
   |dK AV=>obtain⟨_,_,_,_,o,_,_,e,_⟩:=hl;exact⟨_,e⟩
   |dT AV=>obtain⟨_,_,_,_,o,_,_,e,_⟩:=hl;exact⟨_,e⟩
   |set S n=>obtain⟨o,_,_,_,e,_⟩:=hl;exact⟨_,e⟩
   |ins C dx fs=>obtain⟨_,_,_,e,_⟩:=hl;exact⟨_,e⟩
   |own y=>obtain⟨_,e⟩:=hl;exact⟨_,e⟩
   |xd fs=>obtain⟨_,⟨_,_,_,e,_⟩,_⟩:=hl;exact⟨_,e⟩
   |rng lo hi=>obtain⟨_,_,_,e⟩:=hl;exact⟨_,e⟩
   |frz ob u=>obtain⟨e,_⟩:=hl;exact⟨_,e⟩
   |tbl ps=>exact⟨_,(show h.get? ea=some _ from hl)⟩
   |met f y=>exact⟨_,(show h.get? ea=some _ from hl)⟩
   |ext φ=>obtain⟨_,⟨o,e⟩,_⟩:=hl;exact⟨_,e⟩
  obtain⟨o,e⟩:=this;rw[new]at e;cases e
section
variable {X:Cx}{AD:List (Addr×Obj)}{σ:St}{H:Hp}{s:Shared}
theorem Oc{env:Env}{l:List Env}{L:Addr}(h:env.frame=some L):frs (env::l)=L::frs l:=by unfold frs;rw[List.filterMap_cons,h]
theorem Vr{E:Value->Shared->Prop}(I:Inv X AD σ H s)(hx:X.ex=[])(Q7:X.stack=X.env::X.outer)(Tb:X.env.frame=some X.env.locals){h2:Heap}{ea:Addr}{cls:Value}{args:List Value}(hm:Heap.MadeExcOf s.heap h2 ea cls args){tk:Nat}{Q:Unit->Shared->Prop}(hQ:∀h',Fly X.prog X.w X.outer X.H₀ X.s₀.heap H h' ea cls->Clr h' ea->Q () { s with heap:=h',toks:=tk }):wpAny (model X.prog X.w) X.A (leaving X.env (.ref ea)) Q E { s with heap:=h2,toks:=tk }:=by
 have stk:=I.stack;have free:=I.stkFree;have fU:=I.ok.frames;rw[Q7]at stk fU free;have Uk:∀env∈(X.env::X.outer),∀a,env.frame=some a->a∈(X.env::X.outer).filterMap (·.frame):=fun env he b hb=>List.mem_filterMap.mpr ⟨env,he,hb⟩;have n0:(X.env::X.outer).filterMap (·.frame)=X.env.locals::frs X.outer:=Oc Tb;have h9:∀b o,X.s₀.heap.get? b=some o->b≠X.env.locals:=fun b o e=>Nat.ne_of_lt (Nat.lt_of_lt_of_le (Heap.lt_size e) I.ok.above);have fE:∀b o,X.s₀.heap.get? b=some o->b∉frs X.outer->b∉(X.env::X.outer).filterMap (·.frame):=fun b o e hb dk=>by
  rw[n0]at dk;rcases List.mem_cons.mp dk with z|z
  ·exact h9 b o e z
  ·exact hb z
 have iu:=VU I.hok free;have TY:(PySem.W.hideAll s.heap ((X.env::X.outer).filterMap (·.frame))).StaysIn s.heap:=fun b o q=>PySem.W.of_hideAll _ q;have i5:=PySem.W.funFrames_hide stk Uk;obtain⟨t,he,qv,ht⟩:=hm.there;have fresh:∀b,s.heap.get? b=none->(PySem.W.hideAll s.heap ((X.env::X.outer).filterMap (·.frame))).get? b=none:=fun b hb=>by
  cases hq:(PySem.W.hideAll s.heap ((X.env::X.outer).filterMap (·.frame))).get? b with
  |none=>rfl
  |some o'=>have:=TY b o' hq;rw[hb]at this;cases this
 unfold leaving;refine wpAny_bind (QL (s:={ s with heap:=h2,toks:=tk }) (a0:=.ref t) fU (i5.of_keeps fun b o hb _=>⟨o,hm.keeps b o hb,rfl⟩) Tb he (fun b o hb=>hm.keeps b o (TY b o hb)) (fresh ea hm.new) rfl rfl rfl fun h3 ⟨⟨k1,k2,k3,k4⟩,k5⟩=>?_);refine c9 (s:={ s with heap:=h3,toks:=tk }) k1 k2 k3 fun h' l1 l2 l3 l4 l5=>?_;refine hQ h' ?_ (l5 (k5 ⟨_,_,he,rfl,rfl⟩));have qe:Un X.fs [] X.H₀ H X.s₀.heap h2:=by
  have:=I.base
  rw[hx]at this;exact this.trans (Un.kept hm.keeps)
 have Rw:H ea=none:=ZR I.hok hm.new;refine Fly.step qe Rw iu (fun b o q n hb=>?_) (fun b o q hb=>?_) (outer0:=X.env::X.outer) ((PySem.W.funFrames_hide stk Uk).of_keeps fun b o hb _=>⟨o,hm.keeps b o hb,rfl⟩) (fun b hb=>by rw[Oc Tb];exact List.mem_cons_of_mem _ hb) ⟨l1,fresh ea hm.new,l2.2.2,l3⟩ (Heap.UpToSlots.trans (fun b o q n=>k4 b o q n) l4)
 ·have e:=I.base.keep b o q n hb (by rw[hx];simp);exact PySem.W.hideAll_get _ e (fE b o q hb)
 ·obtain⟨o',e⟩:=I.base.there b o q (by rw[hx];simp);exact⟨o',PySem.W.hideAll_get _ e (fE b o q hb)⟩
end
def XPr(X:Cx)(AD:List (Addr×Obj))(H:Hp)(G:Gs)(RX:Value->Gs->Prop)(e:Value)(s':Shared):Prop:=∃ea cls args σ' H' G' s1 h2 tk,e=.ref ea/\s'={ s1 with heap:=h2,toks:=tk }/\Inv X AD σ' H' s1/\Heap.MadeExcOf s1.heap h2 ea cls args/\Ext H G H' G'/\GOk X.K H' G'/\RX cls G'
theorem XPr.trans{X:Cx}{AD:List (Addr×Obj)}{H H1:Hp}{G G1:Gs}{RX:Value->Gs->Prop}{e:Value}{s':Shared}(x:Ext H G H1 G1)(h:XPr X AD H1 G1 RX e s'):XPr X AD H G RX e s':=by obtain⟨ea,cls,args,σ',H',G',s1,h2,tk,a,b,c,d,f,g,r⟩:=h;exact⟨ea,cls,args,σ',H',G',s1,h2,tk,a,b,c,d,x.trans f,g,r⟩
def Lc(X:Cx)(ρ:Rho)(G:Gs)(st:List Stmt)(D:DE)(RX:Value->Gs->Prop):Prop:=∀(AD:List (Addr×Obj))(s:Shared)(σ:St)(H:Hp),Inv X AD σ H s->Stt X H σ ρ G->wpAny (model X.prog X.w) X.A (execs st X.env) (SP X AD (lift X H G D)) (XPr X AD H G RX) s
section
variable {X:Cx}{ρ:Rho}{G:Gs}{D:DE}{RX:Value->Gs->Prop}{st:Stmt}{rest:List Stmt}{c:Expr}{pos:Pos}
theorem Rv{l:List Stmt}(h:WSs X ρ G l D)(hx:X.xe=fun _ _=>False):Lc X ρ G l D RX:=fun AD s σ H I S=>by
 have:=h AD s σ H I S
 rw[hx]at this;exact wpAny_mono this (fun _ _ z=>z) fun _ _ z=>z.elim
theorem VO{x:List Stmt}(hc:WT X ρ G c fun b G'=>(b=true->Lc X ρ G' x { D with nx:=fun _ _=>False } RX)/\(b=false->Lc X ρ G' rest D RX))(hx:X.xe=fun _ _=>False):Lc X ρ G (.If c x [] pos::rest) D RX:=by
 intro AD s σ H I S;have UX:=hc AD s σ H I S;rw[hx]at UX;refine wpAny_execs_cons (wpAny_If (wpAny_mono UX (fun b s1 ⟨H1,I1,G1,e1,o1,q1⟩=>?_) fun _ _ z=>z.elim));cases b with
 |true=>
  rw[if_pos rfl];refine wpAny_mono (q1.1 rfl AD s1 σ H1 I1 (S.ext e1 o1)) (fun f s2 z=>?_) fun _ _ z=>XPr.trans e1 z;cases f with
  |next=>obtain⟨_,_,_,_,_,_,_,q⟩:=z;exact q.elim
  |ret v=>exact SP.trans (D:=D) e1 z
  |brk=>exact SP.trans (D:=D) e1 z
  |cont=>exact SP.trans (D:=D) e1 z
 |false=>
  rw[if_neg Bool.false_ne_true];exact wpAny_execs_nil (wpAny_mono (q1.2 rfl AD s1 σ H1 I1 (S.ext e1 o1)) (fun _ _ z=>SP.trans e1 z) fun _ _ z=>XPr.trans e1 z)
theorem Jt{x:List Stmt}{b:Bool}(hc:PXT X ρ G c b)(ht:b=true->Lc X ρ G x { D with nx:=fun _ _=>False } RX)(hf:b=false->Lc X ρ G rest D RX)(hx:X.xe=fun _ _=>False):Lc X ρ G (.If c x [] pos::rest) D RX:=VO (CF hc ⟨ht,hf⟩) hx
end
theorem Yi{K:PySem.W.Frag}{h:Heap}{C:Addr}{fg:List Value}{newId:String}(X:K.In h)(q:PySem.W.excIn K C fg newId=true) :
  ∃bm N nm qn bs hdct sn sub ab col dd k0 k1 k2 k3 k5 mN,h.get? C=some (excClassObj nm qn C N bs bm hdct sn sub ab col dd k0 k1 k2 k3 k5 newId)/\h.Ns N mN/\mN "__init__"=none/\OwnTail h fg bm/\K.lookup C=some (excClassObj nm qn C N bs bm hdct sn sub ab col dd k0 k1 k2 k3 k5 newId):=by
 unfold PySem.W.excIn at q;split at q
 ·rename_i pJ n8 qN aU;split at q
  ·rename_i C0 nu a0 a1 a2 a3 q8 a5 eW m4;simp only[Bool.and_eq_true,beq_iff_eq,Bool.not_eq_true']at q;obtain⟨⟨⟨⟨⟨rfl,rfl⟩,Zv⟩,tl⟩,cc⟩,WR⟩:=q;obtain⟨qb,oS,qM,qk,pO,iC,oW,jJ,pZ,kL,qH⟩:=n8;dsimp only at eW Zv cc WR;subst eW Zv;obtain⟨nY⟩:=qN;simp only at m4;subst m4;exact⟨nu,qk,qb,pO,oS,iC,oW,jJ,pZ,kL,pJ,a0,a1,a2,a3,a5,_,X _ _ aU,.of_isNs (PySem.W.isNs_of_in X cc),PySem.W.nsMap_none_of_in X cc WR,PySem.W.tail_of_in X tl,aU⟩
  ·cases q
 ·cases q
section
variable {X:Cx}{ρ:Rho}{G:Gs}{D:DE}{RX:Value->Gs->Prop}{rest:List Stmt}{es:List Expr}{e₀:Expr}{ds:List Dat}{pos np Ax:Pos}{x:Str}{C:Addr}{fg:List Value}{newId bK Bn:String}
theorem HU(hx:X.xe=fun _ _=>False)(Bm:X.calm=true)(hC:PySem.W.excIn X.K C fg newId=true)(FB:ExcBaseFacts Bn newId bK fg)(hm:X.mg x=some (.ref C))(ha:PXs X ρ G (e₀::es) ds)(hl:ds.length<=1000)(r:RX (.ref C) G)(hg:Gl X x:=by rfl)(LM:(x==("__debug__":Str))=false:=by decide)(he:starEach (e₀::es) X.env=(false,eval e₀ X.env)::starEach es X.env:=by rfl)(hpl:(backTo Ax (starEach es X.env)).any (·.1)=false:=by rfl):Lc X ρ G (.Raise (some (.Call (.Name x np) (e₀::es) [] Ax)) none pos::rest) D RX:=by
 intro AD s σ H I S;obtain⟨bm,N,nm,qn,bs,hdct,sn,sub,ab,col,dd,k0,k1,k2,k3,k5,mN,oC,oN,oi,tl,_⟩:=Yi I.mod.kin hC;refine wpAny_execs_cons ?_;refine wpAny_Raise_call_subT (C:=C) (nm:=nm) (q:=qn) (N:=N) (bs:=bs) (bm:=bm) (hdct:=hdct) (sn:=sn) (sub:=sub) (ab:=ab) (col:=col) (dd:=dd) (k0:=k0) (k1:=k1) (k2:=k2) (k3:=k3) (k5:=k5) FB (mN:=mN) (tl.hasType FB.hasBase) (I.ok.hd Bm)
  (by rw[he];show(false||(backTo Ax (starEach es X.env)).any (·.1))=false;rw[hpl];rfl) oi (Jq I hg hm ⟨rfl,?_⟩ LM)
 have h1:=ha Ax AD s σ H I S;rw[hx]at h1;rw[he]at h1 ⊢;refine Calls.evalArgs_plain (wpAny_mono h1 (fun us s2 ⟨vs,H2,I2,rv,d',G2,e2,o2,rep,q1,q2⟩=>?_) fun _ _ z=>z.elim);subst q1;subst q2;refine⟨rfl,?_,I2.bk _ _ oC,oN.keeps I2.bk,tl.keeps I2.bk,fun h' e dk=>?_⟩
 ·have:us.length<=1000:=by rw[<-rv.length,rep.length];exact hl
  exact Nat.le_trans this (by rw[sizeLine_eq];decide)
 ·exact⟨e,.ref C,us,σ,H2,G2,s2,h',s2.toks,rfl,rfl,I2,dk,e2,o2,r⟩
end
abbrev SpX:=List Dat->Gs->(Dat->Gs->Prop)->(Value->Gs->Prop)->Prop
def LN(K:PySem.W.Frag)(S:SpX):Sp:=fun vs H Q E=>∃ds G R RX,GOk K H G/\RepL K (hid H G) ds vs/\S ds G R RX/\(∀v H' d G',Ext H G H' G'->GOk K H' G'->Rep K (hid H' G') d v->R d G'->Q v H')/\∀cls H' G',Ext H G H' G'->GOk K H' G'->RX cls G'->E cls none H'
section
variable {P:Program}{w:World}{K:PySem.W.Frag}{mg:Str->Option Value}{base:Heap}
def CXC(P:Program)(w:World):CXT:=fun outer H s E e s'=>∃ea cls H',e=.ref ea/\s'.os=s.os/\AllBare s'.gens/\Fly P w outer H s.heap H' s'.heap ea cls/\Clr s'.heap ea/\E cls none H'
theorem bU{k:Nat}{f:Addr}{fd:FuncData}{ps:List Str}{sp:Sp}(F:FnOk P w K mg base (CXC P w) k f fd ps sp):FnOk P w K mg base (CXV P w) k f fd ps sp:=⟨F.len,fun A outer s H args us vs Q E hr he hb hv hs=>codeAny_mono (F.run A outer s H args us vs Q E hr he hb hv hs) fun r s' hq=>by
  cases r with
  |error er=>obtain⟨ea,cls,H',a,b,c,d,_,e⟩:=hq;exact⟨ea,cls,H',a,b,c,d,e⟩
  |ok fl=>cases fl<;>exact hq⟩
theorem cw{x qual:Str}{st:Stmt}{f:Addr}{fd:FuncData}{N ps:List Str}{k:Nat}{S:SpX}(F:Fun K x qual st f fd)(Sc:FnScope N ps (AF st))(Au:∀ds G R RX,S ds G R RX->ds.length=ps.length)(hb:∀(A1:Value)(A:Around)(outer:List Env)(s:Shared)(H:Hp)(E:XK)(ds:List Dat)(G:Gs)(R:Dat->Gs->Prop)(RX:Value->Gs->Prop),Room k (A.deeper (envOfC qual (AF st) s.heap.objs.size f A1))->S ds G R RX →
   Lc (Io CX0 P w K mg base N qual (AF st) f A1 A outer s H E).nox (Fy N ds) G (Bi st) { nx:=fun _ G'=>R .non G',rt:=R } RX):FnOk P w K mg base (CXC P w) (k+1) f fd ps (LN K S):=by
 obtain⟨oc,od,kV,doc,pm,an,A1,ct,Uq,rfl,lk,Ts⟩:=F.ex;refine ae lk Ts Sc (fun vs H Q E h=>?_) (fun A outer s H vs Q E hr h=>?_)
 ·obtain⟨ds,G,R,RX,_,r,hS,_⟩:=h;rw[r.length];exact Au ds G R RX hS
 ·obtain⟨ds,G,R,RX,o,r,hS,k1,k2⟩:=h;refine⟨fun D σ H1=>D={ nx:=fun _ H'=>Q .non H',rt:=Q }/\σ=start N vs/\H1=H,?_,rfl,rfl,rfl⟩;intro AD s1 σ H1 D I hq;obtain⟨rfl,rfl,rfl⟩:=hq;have hw:=hb A1 A outer s H1 E ds G R RX hr hS AD s1 (start N vs) H1 (I.wish fun _ _=>False) (L1 o r);refine wpAny_mono hw (fun fl s2 z=>?_) fun e s2 z=>?_
  ·refine SP.le (SP.unwish (X:=Io (CXC P w) P w K mg base N qual (AF st) f A1 A outer s H1 E) (E:=fun _ _=>False) z) (fun σ' H'=>?_) (fun v H'=>?_) (fun σ' H'=>?_) fun σ' H'=>?_
   ·rintro⟨ρ',G',e',S',q⟩;exact k1 .non H' .non G' e' S'.own rfl q
   ·rintro⟨d,G',e',o',r',q⟩;exact k1 v H' d G' e' o' r' q
   ·rintro⟨_,_,_,_,q⟩;exact q
   ·rintro⟨_,_,_,_,q⟩;exact q
  ·obtain⟨ea,cls,args,σ',H',G',s3,h2,tk,rfl,rfl,I3,hm,ex,go,rx⟩:=z;have J:Inv (Io (CXC P w) P w K mg base N qual (AF st) f A1 A outer s H1 E) AD σ' H' s3:=Inv.unwish (E:=fun _ _=>False) I3;refine Vr (X:=Io (CXC P w) P w K mg base N qual (AF st) f A1 A outer s H1 E) J rfl rfl rfl hm fun h' jM bg=>?_;exact⟨ea,cls,H',rfl,J.os,J.bare,jM,bg,k2 cls H' G' ex go rx⟩
theorem aO{x qual:Str}{st:Stmt}{f:Addr}{fd:FuncData}{N ps:List Str}{k:Nat}{S:SpX}(F:Fun K x qual st f fd)(Sc:FnScope N ps (AF st))(Au:∀ds G R RX,S ds G R RX->ds.length=ps.length)(hb:∀(A1:Value)(A:Around)(outer:List Env)(s:Shared)(H:Hp)(E:XK)(ds:List Dat)(G:Gs)(R:Dat->Gs->Prop)(RX:Value->Gs->Prop),Room k (A.deeper (envOfC qual (AF st) s.heap.objs.size f A1))->S ds G R RX →
   Lc (Io CX0 P w K mg base N qual (AF st) f A1 A outer s H E).nox (Fy N ds) G (Bi st) { nx:=fun _ G'=>R .non G',rt:=R } RX):FnOk P w K mg base (CXV P w) (k+1) f fd ps (LN K S):=bU (cw F Sc Au hb)
end
structure DfX (P:Program) (w:World) (K:PySem.W.Frag) (mg:Str->Option Value) (base:Heap) (x:Str) (ps:List Str) (k:Nat) (S:SpX):Prop where
 ex:∃f fd,FnOk P w K mg base (CXV P w) k f fd ps (LN K S)/\mg x=some (.ref f)/\PySem.W.keepIn K (.ref f)=true/\Binds K fd ps []
def FXP(X:Cx)(AD:List (Addr×Obj))(σ:St)(H:Hp)(G:Gs)(RX:Value->Gs->Prop)(e:Value)(s':Shared):Prop:=∃ea cls s1 H1 H' G',e=.ref ea/\Inv X AD σ H1 s1/\s'.os=s1.os/\AllBare s'.gens/\Fly X.prog X.w X.stack H1 s1.heap H' s'.heap ea cls/\Ext H G H' G'/\GOk X.K H' G'/\RX cls G'
def WEX(X:Cx)(ρ:Rho)(G:Gs)(e:Expr)(Q:Dat->Gs->Prop)(RX:Value->Gs->Prop):Prop:=∀(AD:List (Addr×Obj))(s:Shared)(σ:St)(H:Hp),Inv X AD σ H s->Stt X H σ ρ G->wpAny (model X.prog X.w) X.A (eval e X.env) (EP X AD σ (Po X H G Q)) (FXP X AD σ H G RX) s
section
variable {X:Cx}{ρ:Rho}{G:Gs}{e:Expr}{es:List Expr}{ds:List Dat}{pos p:Pos}{S:SpX}{k:Nat}{ps:List Str}{x:Str}{Q:Dat->Gs->Prop}{RX:Value->Gs->Prop}{D:DE}{rest:List Stmt}
theorem Vc(hx:X.xe=fun _ _=>False)(F:DfX X.prog X.w X.K X.mg X.base x ps k S)(hr:Room k X.A)(ha:PXs X ρ G (e::es) ds)(hS:S ds G Q RX)(hg:Gl X x:=by rfl)(LM:(x==("__debug__":Str))=false:=by decide)(he:starEach (e::es) X.env=(false,eval e X.env)::starEach es X.env:=by rfl)(hpl:(backTo pos (starEach es X.env)).any (·.1)=false:=by rfl):WEX X ρ G (.Call (.Name x p) (e::es) [] pos) Q RX:=by
 obtain⟨f,fd,F,hm,hk,hb⟩:=F.ex;intro AD s σ H I S0;refine wpAny_Call_Name_kw (Jq I hg hm ?_ LM);have h1:=ha pos AD s σ H I S0;rw[hx]at h1;refine PySem.W.callWith_K (h₀:=X.base) I.ok.mod.kin hk (wpAny_mono h1 (fun us s1 ⟨vs,H1,I1,rv,d',G1,e1,o1,rep,q1,q2⟩=>⟨I1.kIn,?_⟩) fun _ _ z=>z.elim) he hpl;subst q1;subst q2;have VX:LN X.K S vs H1 (Po X H G1 Q) (fun cls dx H'=>∃G',Ext H1 G1 H' G'/\GOk X.K H' G'/\RX cls G'):=⟨d',G1,Q,RX,o1,rep,hS,fun v H' d G' e' o' r' q'=>⟨d,G',e1.trans e',o',r',q'⟩,fun cls H' G' e' o' q'=>⟨G',e',o',q'⟩⟩;have hl:us.length=ps.length:=by rw[<-rv.length];exact F.len _ _ _ _ VX
 refine wpAny_call (codeAny_mono (F.run X.A X.stack s1 H1 ⟨us,[]⟩ us vs _ _ hr I1.env0 (by have:=hb s1 us I1.kIn (by rw[List.append_nil];exact hl);rw[List.append_nil]at this;exact this) rv VX) fun r s' hq=>?_);cases r with
 |error er=>
  obtain⟨ea,cls,H',rfl,h3,h4,jM,G',e',o',q'⟩:=hq;exact⟨ea,cls,s1,H1,H',G',rfl,I1,h3,h4,jM,e1.trans e',o',q'⟩
 |ok fl=>
  cases fl with
  |ret u=>exact I1.after hq
  |next=>exact False.elim hq
  |brk=>exact False.elim hq
  |cont=>exact False.elim hq
abbrev Cx.mk'(X:Cx)(ea:Addr):Cx:={ X with A:=X.A.mark (some (.ref ea)),calm:=false }
end
abbrev Cx.sx(X:Cx)(ea:Addr)(oe:Obj):Cx:={ X with A:=X.A.mark (some (.ref ea)),calm:=false,pn:=(ea,oe)::X.pn,xe:=fun _ _=>False }
section
variable {X:Cx}{ρ:Rho}{G:Gs}{e:Expr}{n:Int}{a b:Str}{k1 k2:Nat}{p1 p2 p3 pos:Pos}
theorem cu{AD:List (Addr×Obj)}{s:Shared}{σ:St}{H:Hp}{Q:Value->Shared->Prop}(hx:PX X ρ G e (.int n))(hn:n.natAbs.log2<1920)(I:Inv X AD σ H s)(S:Stt X H σ ρ G)(h:∀s1 H1 t,Inv X AD σ H1 s1->Ext H G H1 G->GOk X.K H1 G->Q (.str (toString n) t) s1) :
  wpAny (model X.prog X.w) X.A (eval (.FormattedValue e (-1) none p2) X.env) Q X.xe s:=by
 refine wpAny_FormattedValue_plain (thn (hx AD s σ H I S) fun u s1 ⟨x,H1,I1,r1,d,G1,e1,o1,rx,q1,q2⟩=>?_);subst q1;subst q2;rw[Rep]at rx;subst rx;obtain⟨t,rfl⟩:=r1;exact wpAny_formatField_int hn (h _ H1 _ (I1.tok _) e1 o1)
theorem Ux{c:Str}{AD:List (Addr×Obj)}{s:Shared}{σ:St}{H:Hp}{Q:Value->Shared->Prop}(I:Inv X AD σ H s)(S:Stt X H σ ρ G)(h:∀s1 H1 t,Inv X AD σ H1 s1->Ext H G H1 G->GOk X.K H1 G->Q (.str c t) s1) :
  wpAny (model X.prog X.w) X.A (eval (.Constant (.str c) k1 p1) X.env) Q X.xe s:=
 thn (Qn (X:=X) (ρ:=ρ) (G:=G) AD s σ H I S) fun u s1 ⟨x,H1,I1,r1,d,G1,e1,o1,rx,q1,q2⟩=>by
  subst q1;subst q2;rw[Rep]at rx;subst rx;obtain⟨t,rfl⟩:=r1;exact h s1 H1 t I1 e1 o1
theorem bQ(hx:PX X ρ G e (.int n))(hn:n.natAbs.log2<1920)(h1:(Str.empty++a).length<=sizeLine)(h2:(Str.empty++a++Str.ofString (toString n)).length<=sizeLine)(h3:(Str.empty++a++Str.ofString (toString n)++b).length<=sizeLine)(he:evalEach [.Constant (.str a) k1 p1,.FormattedValue e (-1) none p2,.Constant (.str b) k2 p3] X.env=[eval (.Constant (.str a) k1 p1) X.env,eval (.FormattedValue e (-1) none p2) X.env,eval (.Constant (.str b) k2 p3) X.env]:=by rfl) :
  PX X ρ G (.JoinedStr [.Constant (.str a) k1 p1,.FormattedValue e (-1) none p2,.Constant (.str b) k2 p3] pos) (.str (Str.empty++a++Str.ofString (toString n)++b)):=by
 intro AD s σ H I S;refine wpAny_JoinedStr ?_;rw[he];refine Ux I S fun s1 H1 t1 I1 e1 o1=>⟨a,t1,rfl,h1,?_⟩;refine cu hx hn I1 (S.ext e1 o1) fun s2 H2 t2 I2 e2 o2=>⟨_,t2,rfl,h2,?_⟩;refine Ux I2 ((S.ext e1 o1).ext e2 o2) fun s3 H3 t3 I3 e3 o3=>⟨b,t3,rfl,h3,h3,?_⟩;exact⟨.str _,H3,I3.tok _,⟨_,rfl⟩,_,G,e1.trans (e2.trans e3),o3,by rw[Rep],rfl,rfl⟩
end
section
open PySem.SeqAt
open PySem.AutoSeq1 (wpAny_loadPart')
open PySem.MeetsSeq PySem.MeetsSeq2 PySem.MeetsSeq3
def gt2(a b c d:Int):Bool:=if a==c then decide (d<b)else decide (c<a)
theorem RQ(l b:Addr)(a1 a2 b1 b2:Int)(t1 t2 u1 u2:Tok)(n n2:Nat)(dd QG:Option Addr)(sl Nv:Array (Option Value)) :
  Meets (Builtin.«tuple.__gt__» ⟨[.ref l,.ref b],[]⟩)
   (fun A R s=>EqAt A.in1 s (.int a1 t1) (.int b1 u1) (a1==b1)/\EqAt A.in1 s (.int a2 t2) (.int b2 u2) (a2==b2)/\s.heap.get? l=some { cls:=.type "tuple",dict:=dd,data:=.seq #[.int a1 t1,.int a2 t2] n,slots:=sl }/\s.heap.get? b=some { cls:=.type "tuple",dict:=QG,data:=.seq #[.int b1 u1,.int b2 u2] n2,slots:=Nv } ∧
    R (.ok (.ret (.bool (gt2 a1 a2 b1 b2)))) s):=
 .of_wp fun prog w A R s h=>by
  obtain⟨hp,g,d,tk,os⟩:=s;obtain⟨oQ,he2,hl,hb,h⟩:=h;have f2:=AutoSeq1.sub_tuple_tuple;wp_walk using wpAny_loadPart' hl,wpAny_loadPart' hb,wpAny_forIn_list _ (fun rest b s'=>b.1=none/\s'=⟨hp,g,d,tk,os⟩/\(rest=[(.int a1 t1,.int b1 u1),(.int a2 t2,.int b2 u2)]\/(rest=[(.int a2 t2,.int b2 u2)]/\a1=b1)\/(rest=[]/\a1=b1/\a2=b2))) _
  case turn=>
   rintro⟨y,x⟩ rest b s' ⟨LR,rfl,hz⟩;rcases hz with hz|⟨hz,e1⟩|⟨hz,_⟩
   ·injection hz with RN LD;injection RN with hy hx;subst hy hx LD;refine wpAny_bind (oQ prog w _ _ ?_);cases hq:(a1==b1)with
    |true=>
     wp_walk;exact⟨rfl,rfl,.inr (.inl ⟨rfl,by simpa using hq⟩)⟩
    |false=>
     have bu:∀(E:Value->Shared->Prop)(Q:Value->Shared->Prop),Q (.bool (decide (b1<a1))) ⟨hp,g,d,tk,os⟩->wpAny (model prog w) A.in1 (richCompare .Gt (.int a1 t1) (.int b1 u1)) Q E ⟨hp,g,d,tk,os⟩:=fun E Q h=>(PyProof.Rows.gt_int h:wpAny (model prog w) A.in1 (compareOp .Gt (.int a1 t1) (.int b1 u1)) Q E _);have e:gt2 a1 a2 b1 b2=decide (b1<a1):=by unfold gt2;rw[hq];rfl
     rw[e]at h;wp_walk using bu;exact⟨_,rfl,by simpa using h⟩
   ·injection hz with RN LD;injection RN with hy hx;subst hy hx LD;refine wpAny_bind (he2 prog w _ _ ?_);cases hq:(a2==b2)with
    |true=>
     wp_walk;exact⟨rfl,rfl,.inr (.inr ⟨rfl,e1,by simpa using hq⟩)⟩
    |false=>
     have bu:∀(E:Value->Shared->Prop)(Q:Value->Shared->Prop),Q (.bool (decide (b2<a2))) ⟨hp,g,d,tk,os⟩->wpAny (model prog w) A.in1 (richCompare .Gt (.int a2 t2) (.int b2 u2)) Q E ⟨hp,g,d,tk,os⟩:=fun E Q h=>(PyProof.Rows.gt_int h:wpAny (model prog w) A.in1 (compareOp .Gt (.int a2 t2) (.int b2 u2)) Q E _);have e:gt2 a1 a2 b1 b2=decide (b2<a2):=by unfold gt2;rw[e1,beq_self_eq_true];rfl
     rw[e]at h;wp_walk using bu;exact⟨_,rfl,by simpa using h⟩
   ·cases hz
  case fin=>
   rintro⟨rS,rP⟩ s' ⟨LR,rfl,hz⟩;simp only at LR;subst LR;rcases hz with hz|⟨hz,e1⟩|⟨hz,e1,e2⟩
   ·cases hz
   ·cases hz
   ·have e:gt2 a1 a2 b1 b2=false:=by unfold gt2;rw[e1,beq_self_eq_true,e2];simp
    rw[e]at h;wp_walk;exact⟨_,rfl,by simpa[Builtin.Tuple.tupleCompareSizes]using h⟩
  case h=>exact⟨rfl,rfl,.inl rfl⟩
end
section
variable {prog:Program}{w:World}{A:Around}{R:Result->Shared->Prop}{I:Addr}{fp wr:List Addr}{n:Nat}{P:Nat->Value->Prop}{St:Nat->Heap->Prop}{S:Addr}{s:Shared}{c:Nat}
theorem Xu{vb:Value}(W:Walks prog w A.in1 I fp wr n P St)(Ko:S∉fp)(Q7:St n s.heap)(hS:s.heap.get? S=some { cls:=.type "list",dict:=none,data:=.seq #[vb,vb] c,slots:=#[] })(hR:∀h' tk,(∀b o,b∉wr->b≠S->s.heap.get? b=some o->h'.get? b=some o)->R (.ok (.ret vb)) { s with heap:=h',toks:=tk }):codeAny (model prog w) A (.builtin "min.loop" ⟨[.ref I,.none,.ref S],[]⟩) R s:=by have Ws:S∉wr:=fun h=>Ko (W.sub _ h);refine codeAny_builtin F.entry_min_loop ?_;rw[Around.under_plainId F.plain_min_loop _];show wpAny _ A.in1 (seqItems? (.ref S) >>= _) _ _ s;refine wpAny_bind (wpAny_seqItems hS rfl ?_);show wpAny _ A.in1 (tryCatch (pyNext (.ref I)) _ >>= _) _ _ s;refine wpAny_bind (wpAny_tryCatch (W.done s _ _ Q7 fun h' tk HE=>?_));have MA:=HE S _ Ws hS;show wpAny _ A.in1 (updateSeq S (fun _=>#[]) >>= _) _ _ _;refine wpAny_bind ?_;refine wpAny_updateSeq MA rfl (wpAny_bind (wpAny_letGo (wpAny_pure ?_)));exact hR _ tk fun b o cV bx e=>(Heap.get?_update_other _ _ (Ne.symm bx)).trans (HE b o cV e)
theorem V5{vb:Value}{j:Nat}(bt:Bool)(W:Walks prog w A.in1 I fp wr n P St)(Ko:S∉fp)(hj:j<n)(Q7:St j s.heap)(hS:s.heap.get? S=some { cls:=.type "list",dict:=none,data:=.seq #[vb,vb] c,slots:=#[] })(hk:∀v h' tk,P j v->(∀b o,b∉wr->s.heap.get? b=some o->h'.get? b=some o)->(∀(Q' E':Value->Shared->Prop),Q' (.bool bt) { s with heap:=h',toks:=tk }->wpAny (model prog w) A.in1 (richCompare .Lt v vb) Q' E' { s with heap:=h',toks:=tk }) ∧
   ∀ND c',(∀b o,b≠S->h'.get? b=some o->ND.get? b=some o)->St (j+1) ND->ND.get? S=some { cls:=.type "list",dict:=none,data:=.seq #[if bt then v else vb,if bt then v else vb] c',slots:=#[] } →
    codeAny (model prog w) A (.builtin "min.loop" ⟨[.ref I,.none,.ref S],[]⟩) R { s with heap:=ND,toks:=tk }):codeAny (model prog w) A (.builtin "min.loop" ⟨[.ref I,.none,.ref S],[]⟩) R s:=by
 have Ws:S∉wr:=fun h=>Ko (W.sub _ h);have ER:(toString "min"++toString ".loop":String) = "min.loop":=by decide
 refine codeAny_builtin F.entry_min_loop ?_;rw[Around.under_plainId F.plain_min_loop _];show wpAny _ A.in1 (seqItems? (.ref S) >>= _) _ _ s;refine wpAny_bind (wpAny_seqItems hS rfl ?_);show wpAny _ A.in1 (tryCatch (pyNext (.ref I)) _ >>= _) _ _ s;refine wpAny_bind (wpAny_tryCatch (W.item j s _ _ hj Q7 fun v h' tk hP Nk HE=>?_));have MA:=HE S _ Ws hS;obtain⟨cB,go⟩:=hk v h' tk hP HE;show wpAny _ A.in1 (tryCatch (holding [v,v] (richCompare .Lt v vb >>= _)) _ >>= _) _ _ _;refine wpAny_bind (wpAny_tryCatch (wpAny_holding (wpAny_bind (cB _ _ ?_))));refine wpAny_bind (wpAny_holding (wpAny_truthy_bool ?_));refine wpAny_bind (wpAny_letGo (wpAny_pure ?_));cases bt with
 |true=>
  simp only[if_true];refine wpAny_bind ?_;refine wpAny_updateSeq MA rfl (wpAny_bind (wpAny_letGo ?_));rw[ER];refine wpAny_pure ⟨plainId_quiet F.plain_min_loop _,go _ _ (fun b o hb e=>(Heap.get?_update_other _ _ (Ne.symm hb)).trans e) (W.frame _ _ _ Nk fun b ba o e=>?_) (Heap.get?_update_self _ MA rfl)⟩;exact(Heap.get?_update_other _ _ (fun h:S=b=>Ko (by rw[h];exact ba))).trans e
 |false=>
  simp only[Bool.false_eq_true,if_false];refine wpAny_bind (wpAny_letGo ?_);rw[ER];exact wpAny_pure ⟨plainId_quiet F.plain_min_loop _,go _ c (fun b o _ e=>e) Nk MA⟩
theorem TN(W:Walks prog w A.in1 I fp wr n P St)(Ko:S∉fp)(hn:0<n)(Q7:St 0 s.heap)(hS:s.heap.get? S=some { cls:=.type "list",dict:=none,data:=.seq #[] c,slots:=#[] })(hk:∀v ND tk c',P 0 v->(∀b o,b∉wr->b≠S->s.heap.get? b=some o->ND.get? b=some o)->St 1 ND->ND.get? S=some { cls:=.type "list",dict:=none,data:=.seq #[v,v] c',slots:=#[] } →
    codeAny (model prog w) A (.builtin "min.loop" ⟨[.ref I,.none,.ref S],[]⟩) R { s with heap:=ND,toks:=tk }):codeAny (model prog w) A (.builtin "min.loop" ⟨[.ref I,.none,.ref S],[]⟩) R s:=by
 have Ws:S∉wr:=fun h=>Ko (W.sub _ h);have ER:(toString "min"++toString ".loop":String) = "min.loop":=by decide
 refine codeAny_builtin F.entry_min_loop ?_;rw[Around.under_plainId F.plain_min_loop _];show wpAny _ A.in1 (seqItems? (.ref S) >>= _) _ _ s;refine wpAny_bind (wpAny_seqItems hS rfl ?_);show wpAny _ A.in1 (tryCatch (pyNext (.ref I)) _ >>= _) _ _ s;refine wpAny_bind (wpAny_tryCatch (W.item 0 s _ _ hn Q7 fun v h' tk hP Nk HE=>?_));have MA:=HE S _ Ws hS;show wpAny _ A.in1 (updateSeq S (fun _=>#[v,v]) >>= _) _ _ _;refine wpAny_bind ?_;refine wpAny_updateSeq MA rfl ?_;rw[ER];refine wpAny_pure ⟨plainId_quiet F.plain_min_loop _,hk v _ tk _ hP (fun b o cV bx e=>(Heap.get?_update_other _ _ (Ne.symm bx)).trans (HE b o cV e)) (W.frame _ _ _ Nk fun b ba o e=>?_) (Heap.get?_update_self _ MA rfl)⟩;exact(Heap.get?_update_other _ _ (fun h:S=b=>Ko (by rw[h];exact ba))).trans e
end
theorem Ze{prog:Program}{w:World}{A:Around}{s:Shared}{x y:Value}{R:Result->Shared->Prop}{T I S:Addr}{h3:Heap}{c:Nat}(hh:A.handled=none)(bt:Bool)(hc:∀(h':Heap)(tk:Nat)(Q' E':Value->Shared->Prop),(∀c o,s.heap.get? c=some o->h'.get? c=some o)->Q' (.bool bt) { s with heap:=h',toks:=tk }->wpAny (model prog w) A.in1 (richCompare .Lt y x) Q' E' { s with heap:=h',toks:=tk })(old:∀b o,s.heap.get? b=some o->h3.get? b=some o)(hT:h3.IsTuple T #[x,y])(hI:h3.IsTupleIter I T 0)(hS:h3.get? S=some { cls:=.type "list",dict:=none,data:=.seq #[] c,slots:=#[] })(nI:s.heap.objs.size<=I)(nS:s.heap.objs.size<=S)(e1:I≠T)(e2:S≠I)(e3:S≠T)(h:∀h' tk,(∀c o,s.heap.get? c=some o->h'.get? c=some o)->R (.ok (.ret (if bt then y else x))) { s with heap:=h',toks:=tk }):codeAny (model prog w) A (.builtin "min.loop" ⟨[.ref I,.none,.ref S],[]⟩) R { s with heap:=h3 }:=by
 have W:=Walks.tuple (prog:=prog) (w:=w) (A:=A.in1) hh I T e1.symm #[x,y];have Ko:S∉[I,T]:=by simp[e2,e3]
 have lt:∀b o,s.heap.get? b=some o->b∉[I]/\b≠S:=fun b o e=>by
  have h1:b<s.heap.objs.size:=Heap.lt_size e;refine⟨fun hm=>?_,fun z=>?_⟩
  ·rw[List.mem_singleton.mp hm]at h1;exact absurd h1 (Nat.not_lt.mpr nI)
  ·rw[z]at h1;exact absurd h1 (Nat.not_lt.mpr nS)
 refine TN (s:={ s with heap:=h3 }) W Ko (show 0<2 from Nat.zero_lt_succ 1) ⟨hI,hT⟩ hS fun v h4 jF c4 iQ k4 Iz VZ=>?_;have ev:v=x:=by simpa using iQ.symm
 subst ev;refine V5 (s:={ s with heap:=h4,toks:=jF }) (j:=1) bt W Ko (show 1<2 from Nat.lt_succ_self 1) Iz VZ fun u h5 fN jN k5=>?_;have eu:u=y:=by simpa using jN.symm
 subst eu;have Wq:∀b o,s.heap.get? b=some o->h5.get? b=some o:=fun b o e=>k5 b o (lt b o e).1 (k4 b o (lt b o e).1 (lt b o e).2 (old b o e));refine⟨fun Q' E' q=>hc h5 fN Q' E' Wq q,fun h6 c6 k6 kY jx=>?_⟩;refine Xu (s:={ s with heap:=h6,toks:=fN }) W Ko kY jx fun h7 kB k7=>?_;exact h h7 kB fun b o e=>k7 b o (lt b o e).1 (lt b o e).2 (k6 b o (lt b o e).2 (Wq b o e))
theorem Zi{prog:Program}{w:World}{A:Around}{E:Value->Shared->Prop}{s:Shared}{x y:Value}{Q:Value->Shared->Prop}(hh:A.handled=none)(bt:Bool)(hc:∀(h':Heap)(tk:Nat)(Q' E':Value->Shared->Prop),(∀c o,s.heap.get? c=some o->h'.get? c=some o)->Q' (.bool bt) { s with heap:=h',toks:=tk }->wpAny (model prog w) A.in1 (richCompare .Lt y x) Q' E' { s with heap:=h',toks:=tk })(h:∀h' tk,(∀c o,s.heap.get? c=some o->h'.get? c=some o)->Q (if bt then y else x) { s with heap:=h',toks:=tk }):wpAny (model prog w) A (call (.builtin "min") [x,y]) Q E s:=by
 have ER:(toString "min"++toString ".loop":String) = "min.loop":=by decide
 refine call_function_tree F.kind_min F.plain_min F.entry_min (F.args_min2 _ _) ?_;show wpAny _ A.in1 (Builtin.Builtins.bindParams "min" ["key","default"] 0 ⟨[],[]⟩ >>= _) _ _ s;refine wpAny_bind (wpAny_of_eq (show Builtin.Builtins.bindParams "min" ["key","default"] 0 ⟨[],[]⟩=pure [none,none]from rfl) ?_);show wpAny _ A.in1 (newTuple [x,y] >>= _) _ _ s;refine wpAny_bind (wpAny_newObj_type ?_);have hT:(s.heap.push { cls:=.type "tuple",data:=.seq #[x,y] }).IsTuple s.heap.objs.size #[x,y]:=⟨_,Heap.get?_push_size _ rfl,rfl,0,rfl⟩;refine wpAny_bind (wpAny_pyIter_tuple hT ?_);refine wpAny_bind (wpAny_newObj_type ?_);rw[ER];have z1:(s.heap.push { cls:=.type "tuple",data:=.seq #[x,y] }).objs.size=s.heap.objs.size+1:=Heap.size_push ..;have z2:((s.heap.push { cls:=.type "tuple",data:=.seq #[x,y] }).push { cls:=Value.type "tuple_iterator",data:=Data.fields #[Value.ref s.heap.objs.size,Value.int 0 0] }).objs.size=s.heap.objs.size+1+1:=by rw[Heap.size_push,z1]
 refine wpAny_pure ⟨plainId_quiet F.plain_min_loop _,Ze (s:=s) (c:=0) hh bt hc (fun b o e=>Heap.get?_push_of_some _ (Heap.get?_push_of_some _ (Heap.get?_push_of_some _ e))) ((hT.push _).push _) ⟨_,Heap.get?_push_of_some _ (Heap.get?_push_size _ rfl),rfl,rfl⟩ (Heap.get?_push_size _ rfl) ?_ ?_ ?_ ?_ ?_ h⟩
 ·exact Nat.le_trans (Nat.le_succ _) (Nat.le_of_eq z1.symm)
 ·exact Nat.le_trans (Nat.le_trans (Nat.le_succ _) (Nat.le_succ _)) (Nat.le_of_eq z2.symm)
 ·exact fun z=>Nat.succ_ne_self _ (z1.symm.trans z)
 ·exact fun z=>Nat.succ_ne_self _ ((z2.symm.trans z).trans z1)
 ·exact fun z=>absurd (z2.symm.trans z) (Nat.ne_of_gt (Nat.lt_succ_of_lt (Nat.lt_succ_self _)))
section
variable {prog:Program}{w:World}{A:Around}{R:Result->Shared->Prop}{I:Addr}{fp wr:List Addr}{n:Nat}{P:Nat->Value->Prop}{St:Nat->Heap->Prop}{S:Addr}{s:Shared}{c:Nat}
theorem X7{vb:Value}(W:Walks prog w A.in1 I fp wr n P St)(Ko:S∉fp)(Q7:St n s.heap)(hS:s.heap.get? S=some { cls:=.type "list",dict:=none,data:=.seq #[vb,vb] c,slots:=#[] })(hR:∀h' tk,(∀b o,b∉wr->b≠S->s.heap.get? b=some o->h'.get? b=some o)->R (.ok (.ret vb)) { s with heap:=h',toks:=tk }):codeAny (model prog w) A (.builtin "max.loop" ⟨[.ref I,.none,.ref S],[]⟩) R s:=by have Ws:S∉wr:=fun h=>Ko (W.sub _ h);refine codeAny_builtin F.entry_max_loop ?_;rw[Around.under_plainId F.plain_max_loop _];show wpAny _ A.in1 (seqItems? (.ref S) >>= _) _ _ s;refine wpAny_bind (wpAny_seqItems hS rfl ?_);show wpAny _ A.in1 (tryCatch (pyNext (.ref I)) _ >>= _) _ _ s;refine wpAny_bind (wpAny_tryCatch (W.done s _ _ Q7 fun h' tk HE=>?_));have MA:=HE S _ Ws hS;show wpAny _ A.in1 (updateSeq S (fun _=>#[]) >>= _) _ _ _;refine wpAny_bind ?_;refine wpAny_updateSeq MA rfl (wpAny_bind (wpAny_letGo (wpAny_pure ?_)));exact hR _ tk fun b o cV bx e=>(Heap.get?_update_other _ _ (Ne.symm bx)).trans (HE b o cV e)
theorem VY{vb:Value}{j:Nat}(bt:Bool)(W:Walks prog w A.in1 I fp wr n P St)(Ko:S∉fp)(hj:j<n)(Q7:St j s.heap)(hS:s.heap.get? S=some { cls:=.type "list",dict:=none,data:=.seq #[vb,vb] c,slots:=#[] })(hk:∀v h' tk,P j v->(∀b o,b∉wr->s.heap.get? b=some o->h'.get? b=some o)->(∀(Q' E':Value->Shared->Prop),Q' (.bool bt) { s with heap:=h',toks:=tk }->wpAny (model prog w) A.in1 (richCompare .Gt v vb) Q' E' { s with heap:=h',toks:=tk }) ∧
   ∀ND c',(∀b o,b≠S->h'.get? b=some o->ND.get? b=some o)->St (j+1) ND->ND.get? S=some { cls:=.type "list",dict:=none,data:=.seq #[if bt then v else vb,if bt then v else vb] c',slots:=#[] } →
    codeAny (model prog w) A (.builtin "max.loop" ⟨[.ref I,.none,.ref S],[]⟩) R { s with heap:=ND,toks:=tk }):codeAny (model prog w) A (.builtin "max.loop" ⟨[.ref I,.none,.ref S],[]⟩) R s:=by
 have Ws:S∉wr:=fun h=>Ko (W.sub _ h);have ER:(toString "max"++toString ".loop":String) = "max.loop":=by decide
 refine codeAny_builtin F.entry_max_loop ?_;rw[Around.under_plainId F.plain_max_loop _];show wpAny _ A.in1 (seqItems? (.ref S) >>= _) _ _ s;refine wpAny_bind (wpAny_seqItems hS rfl ?_);show wpAny _ A.in1 (tryCatch (pyNext (.ref I)) _ >>= _) _ _ s;refine wpAny_bind (wpAny_tryCatch (W.item j s _ _ hj Q7 fun v h' tk hP Nk HE=>?_));have MA:=HE S _ Ws hS;obtain⟨cB,go⟩:=hk v h' tk hP HE;show wpAny _ A.in1 (tryCatch (holding [v,v] (richCompare .Gt v vb >>= _)) _ >>= _) _ _ _;refine wpAny_bind (wpAny_tryCatch (wpAny_holding (wpAny_bind (cB _ _ ?_))));refine wpAny_bind (wpAny_holding (wpAny_truthy_bool ?_));refine wpAny_bind (wpAny_letGo (wpAny_pure ?_));cases bt with
 |true=>
  simp only[if_true];refine wpAny_bind ?_;refine wpAny_updateSeq MA rfl (wpAny_bind (wpAny_letGo ?_));rw[ER];refine wpAny_pure ⟨plainId_quiet F.plain_max_loop _,go _ _ (fun b o hb e=>(Heap.get?_update_other _ _ (Ne.symm hb)).trans e) (W.frame _ _ _ Nk fun b ba o e=>?_) (Heap.get?_update_self _ MA rfl)⟩;exact(Heap.get?_update_other _ _ (fun h:S=b=>Ko (by rw[h];exact ba))).trans e
 |false=>
  simp only[Bool.false_eq_true,if_false];refine wpAny_bind (wpAny_letGo ?_);rw[ER];exact wpAny_pure ⟨plainId_quiet F.plain_max_loop _,go _ c (fun b o _ e=>e) Nk MA⟩
theorem UW(W:Walks prog w A.in1 I fp wr n P St)(Ko:S∉fp)(hn:0<n)(Q7:St 0 s.heap)(hS:s.heap.get? S=some { cls:=.type "list",dict:=none,data:=.seq #[] c,slots:=#[] })(hk:∀v ND tk c',P 0 v->(∀b o,b∉wr->b≠S->s.heap.get? b=some o->ND.get? b=some o)->St 1 ND->ND.get? S=some { cls:=.type "list",dict:=none,data:=.seq #[v,v] c',slots:=#[] } →
    codeAny (model prog w) A (.builtin "max.loop" ⟨[.ref I,.none,.ref S],[]⟩) R { s with heap:=ND,toks:=tk }):codeAny (model prog w) A (.builtin "max.loop" ⟨[.ref I,.none,.ref S],[]⟩) R s:=by
 have Ws:S∉wr:=fun h=>Ko (W.sub _ h);have ER:(toString "max"++toString ".loop":String) = "max.loop":=by decide
 refine codeAny_builtin F.entry_max_loop ?_;rw[Around.under_plainId F.plain_max_loop _];show wpAny _ A.in1 (seqItems? (.ref S) >>= _) _ _ s;refine wpAny_bind (wpAny_seqItems hS rfl ?_);show wpAny _ A.in1 (tryCatch (pyNext (.ref I)) _ >>= _) _ _ s;refine wpAny_bind (wpAny_tryCatch (W.item 0 s _ _ hn Q7 fun v h' tk hP Nk HE=>?_));have MA:=HE S _ Ws hS;show wpAny _ A.in1 (updateSeq S (fun _=>#[v,v]) >>= _) _ _ _;refine wpAny_bind ?_;refine wpAny_updateSeq MA rfl ?_;rw[ER];refine wpAny_pure ⟨plainId_quiet F.plain_max_loop _,hk v _ tk _ hP (fun b o cV bx e=>(Heap.get?_update_other _ _ (Ne.symm bx)).trans (HE b o cV e)) (W.frame _ _ _ Nk fun b ba o e=>?_) (Heap.get?_update_self _ MA rfl)⟩;exact(Heap.get?_update_other _ _ (fun h:S=b=>Ko (by rw[h];exact ba))).trans e
end
theorem Zh{prog:Program}{w:World}{A:Around}{s:Shared}{x y:Value}{R:Result->Shared->Prop}{T I S:Addr}{h3:Heap}{c:Nat}(hh:A.handled=none)(bt:Bool)(hc:∀(h':Heap)(tk:Nat)(Q' E':Value->Shared->Prop),(∀c o,s.heap.get? c=some o->h'.get? c=some o)->Q' (.bool bt) { s with heap:=h',toks:=tk }->wpAny (model prog w) A.in1 (richCompare .Gt y x) Q' E' { s with heap:=h',toks:=tk })(old:∀b o,s.heap.get? b=some o->h3.get? b=some o)(hT:h3.IsTuple T #[x,y])(hI:h3.IsTupleIter I T 0)(hS:h3.get? S=some { cls:=.type "list",dict:=none,data:=.seq #[] c,slots:=#[] })(nI:s.heap.objs.size<=I)(nS:s.heap.objs.size<=S)(e1:I≠T)(e2:S≠I)(e3:S≠T)(h:∀h' tk,(∀c o,s.heap.get? c=some o->h'.get? c=some o)->R (.ok (.ret (if bt then y else x))) { s with heap:=h',toks:=tk }):codeAny (model prog w) A (.builtin "max.loop" ⟨[.ref I,.none,.ref S],[]⟩) R { s with heap:=h3 }:=by
 have W:=Walks.tuple (prog:=prog) (w:=w) (A:=A.in1) hh I T e1.symm #[x,y];have Ko:S∉[I,T]:=by simp[e2,e3]
 have lt:∀b o,s.heap.get? b=some o->b∉[I]/\b≠S:=fun b o e=>by
  have h1:b<s.heap.objs.size:=Heap.lt_size e;refine⟨fun hm=>?_,fun z=>?_⟩
  ·rw[List.mem_singleton.mp hm]at h1;exact absurd h1 (Nat.not_lt.mpr nI)
  ·rw[z]at h1;exact absurd h1 (Nat.not_lt.mpr nS)
 refine UW (s:={ s with heap:=h3 }) W Ko (show 0<2 from Nat.zero_lt_succ 1) ⟨hI,hT⟩ hS fun v h4 jF c4 iQ k4 Iz VZ=>?_;have ev:v=x:=by simpa using iQ.symm
 subst ev;refine VY (s:={ s with heap:=h4,toks:=jF }) (j:=1) bt W Ko (show 1<2 from Nat.lt_succ_self 1) Iz VZ fun u h5 fN jN k5=>?_;have eu:u=y:=by simpa using jN.symm
 subst eu;have Wq:∀b o,s.heap.get? b=some o->h5.get? b=some o:=fun b o e=>k5 b o (lt b o e).1 (k4 b o (lt b o e).1 (lt b o e).2 (old b o e));refine⟨fun Q' E' q=>hc h5 fN Q' E' Wq q,fun h6 c6 k6 kY jx=>?_⟩;refine X7 (s:={ s with heap:=h6,toks:=fN }) W Ko kY jx fun h7 kB k7=>?_;exact h h7 kB fun b o e=>k7 b o (lt b o e).1 (lt b o e).2 (k6 b o (lt b o e).2 (Wq b o e))
theorem YR{prog:Program}{w:World}{A:Around}{E:Value->Shared->Prop}{s:Shared}{x y:Value}{Q:Value->Shared->Prop}(hh:A.handled=none)(bt:Bool)(hc:∀(h':Heap)(tk:Nat)(Q' E':Value->Shared->Prop),(∀c o,s.heap.get? c=some o->h'.get? c=some o)->Q' (.bool bt) { s with heap:=h',toks:=tk }->wpAny (model prog w) A.in1 (richCompare .Gt y x) Q' E' { s with heap:=h',toks:=tk })(h:∀h' tk,(∀c o,s.heap.get? c=some o->h'.get? c=some o)->Q (if bt then y else x) { s with heap:=h',toks:=tk }):wpAny (model prog w) A (call (.builtin "max") [x,y]) Q E s:=by
 have ER:(toString "max"++toString ".loop":String) = "max.loop":=by decide
 refine call_function_tree F.kind_max F.plain_max F.entry_max (F.args_max2 _ _) ?_;show wpAny _ A.in1 (Builtin.Builtins.bindParams "max" ["key","default"] 0 ⟨[],[]⟩ >>= _) _ _ s;refine wpAny_bind (wpAny_of_eq (show Builtin.Builtins.bindParams "max" ["key","default"] 0 ⟨[],[]⟩=pure [none,none]from rfl) ?_);show wpAny _ A.in1 (newTuple [x,y] >>= _) _ _ s;refine wpAny_bind (wpAny_newObj_type ?_);have hT:(s.heap.push { cls:=.type "tuple",data:=.seq #[x,y] }).IsTuple s.heap.objs.size #[x,y]:=⟨_,Heap.get?_push_size _ rfl,rfl,0,rfl⟩;refine wpAny_bind (wpAny_pyIter_tuple hT ?_);refine wpAny_bind (wpAny_newObj_type ?_);rw[ER];have z1:(s.heap.push { cls:=.type "tuple",data:=.seq #[x,y] }).objs.size=s.heap.objs.size+1:=Heap.size_push ..;have z2:((s.heap.push { cls:=.type "tuple",data:=.seq #[x,y] }).push { cls:=Value.type "tuple_iterator",data:=Data.fields #[Value.ref s.heap.objs.size,Value.int 0 0] }).objs.size=s.heap.objs.size+1+1:=by rw[Heap.size_push,z1]
 refine wpAny_pure ⟨plainId_quiet F.plain_max_loop _,Zh (s:=s) (c:=0) hh bt hc (fun b o e=>Heap.get?_push_of_some _ (Heap.get?_push_of_some _ (Heap.get?_push_of_some _ e))) ((hT.push _).push _) ⟨_,Heap.get?_push_of_some _ (Heap.get?_push_size _ rfl),rfl,rfl⟩ (Heap.get?_push_size _ rfl) ?_ ?_ ?_ ?_ ?_ h⟩
 ·exact Nat.le_trans (Nat.le_succ _) (Nat.le_of_eq z1.symm)
 ·exact Nat.le_trans (Nat.le_trans (Nat.le_succ _) (Nat.le_succ _)) (Nat.le_of_eq z2.symm)
 ·exact fun z=>Nat.succ_ne_self _ (z1.symm.trans z)
 ·exact fun z=>Nat.succ_ne_self _ ((z2.symm.trans z).trans z1)
 ·exact fun z=>absurd (z2.symm.trans z) (Nat.ne_of_gt (Nat.lt_succ_of_lt (Nat.lt_succ_self _)))
instance (p q:Sq):Decidable (AN p q):=by unfold AN;exact inferInstance
def DQ(x y:Sq):Sq:=if AN y x then y else x
def DL(x y:Sq):Sq:=if AN x y then y else x
theorem c7(x y:Sq):gt2 x.1 x.2 y.1 y.2=decide (AN y x):=by
 rw[Bool.eq_iff_iff,decide_eq_true_eq];unfold gt2;split
 ·rename_i h
  have:=eq_of_beq h
  rw[decide_eq_true_eq];unfold AN;lia
 ·rename_i h;have:¬x.1=y.1:=fun z=>h (by rw[z];exact beq_self_eq_true _);rw[decide_eq_true_eq];unfold AN;lia
theorem Y5{s:Shared}{A:Around}{x y:Sq}{u v:Value}(hx:AtH s.heap (sq x) u)(hy:AtH s.heap (sq y) v)(hu:A.units+9<cLine)(prog:Program)(w:World)(E Q:Value->Shared->Prop)(q:Q (.bool (decide (AN y x))) s):wpAny (model prog w) A (richCompare .Gt u v) Q E s:=by
 rw[<-c7]at q;unfold sq at hx hy;rw[AtH]at hx hy;obtain⟨a,is,rfl,ti,rl⟩:=hx;obtain⟨b,js,rfl,tj,rm⟩:=hy;have e1:∃t1 t2,is=[.int x.1 t1,.int x.2 t2]:=by
  simp only[AtL,AtH]at rl;obtain⟨v1,r1,rfl,⟨t1,rfl⟩,v2,r2,rfl,⟨t2,rfl⟩,rfl⟩:=rl;exact⟨t1,t2,rfl⟩
 have e2:∃t1 t2,js=[.int y.1 t1,.int y.2 t2]:=by
  simp only[AtL,AtH]at rm;obtain⟨v1,r1,rfl,⟨t1,rfl⟩,v2,r2,rfl,⟨t2,rfl⟩,rfl⟩:=rm;exact⟨t1,t2,rfl⟩
 obtain⟨t1,t2,rfl⟩:=e1;obtain⟨u1,u2,rfl⟩:=e2;obtain⟨⟨cls,dd,data,sl⟩,Xp,hc,n1,hd⟩:=id ti;obtain⟨⟨b7,QG,data2,Nv⟩,Q4,Nu,n2,hd2⟩:=id tj;simp only at hc hd Nu hd2;subst hc hd Nu hd2;have OV:A.in1.units+0<cLine:=by show A.units+1+0<cLine;lia
 have q1:=(HR (A:=A.in1) (s:=s) 0 (d:=.int x.1) (e:=.int y.1) rfl rfl (by rw[AtH];exact⟨t1,rfl⟩) (by rw[AtH];exact⟨u1,rfl⟩) OV).1;have q2:=(HR (A:=A.in1) (s:=s) 0 (d:=.int x.2) (e:=.int y.2) rfl rfl (by rw[AtH];exact⟨t2,rfl⟩) (by rw[AtH];exact⟨u2,rfl⟩) OV).1;simp only[eqD]at q1 q2;exact richCompare_meets_room (op:=.Gt) ⟨_,Xp,rfl⟩ ⟨_,Q4,rfl⟩ PySem.F.slot_tuple_gt PySem.F.entry_tuple_gt (PySem.F.args_tuple_gt_2 _ _) (RQ a b x.1 x.2 y.1 y.2 t1 t2 u1 u2 n1 n2 dd QG sl Nv)
  ⟨q1,q2,Xp,Q4,⟨(fun x=>nomatch x),q⟩⟩ (by lia)
section
variable {X:Cx}{ρ:Rho}{G:Gs}{e a b c:Expr}{d d1 d2:Dat}{l:List Dat}{pos:Pos}{x y:Sq}
theorem Qq(hc:X.calm=true)(hu:X.A.units+20<cLine)(x y:Sq):CM X (.builtin "min") (fun xs H Q=>∃u v,xs=[u,v]/\Rep X.K H (sq x) u/\Rep X.K H (sq y) v/\Q (if decide (AN y x)then v else u) H):=by
 intro AD s σ H xs us Q I r h;obtain⟨u,v,rfl,hx,hy,q⟩:=h;obtain⟨a,b,rfl,ra,rb⟩:=LG r;refine Zi (I.ok.hd hc) (decide (AN y x)) (fun h' tk Q' E' k q'=>?_) (fun h' tk k=>⟨_,H,I.kept k,?_,q⟩)
 ·have I':=I.kept (t':=tk) k
  have:=KD (A:=X.A.in1) (s:={ s with heap:=h',toks:=tk }) true 9 (d:=sq y) (e:=sq x) rfl (Ah y 8) (Ah x 8) (hy.at I' (Ah y 8) rb) (hx.at I' (Ah x 8) ra) (by show X.A.units+1+9<cLine;lia) X.prog X.w E' Q'
  rw[XG]at this;exact this q'
 ·cases decide (AN y x)with
  |true=>exact rb
  |false=>exact ra
theorem Q8(hc:X.calm=true)(hu:X.A.units+20<cLine)(x y:Sq):CM X (.builtin "max") (fun xs H Q=>∃u v,xs=[u,v]/\Rep X.K H (sq x) u/\Rep X.K H (sq y) v/\Q (if decide (AN x y)then v else u) H):=by
 intro AD s σ H xs us Q I r h;obtain⟨u,v,rfl,hx,hy,q⟩:=h;obtain⟨a,b,rfl,ra,rb⟩:=LG r;refine YR (I.ok.hd hc) (decide (AN x y)) (fun h' tk Q' E' k q'=>?_) (fun h' tk k=>⟨_,H,I.kept k,?_,q⟩)
 ·have I':=I.kept (t':=tk) k;exact Y5 (A:=X.A.in1) (s:={ s with heap:=h',toks:=tk }) (hy.at I' (Ah y 8) rb) (hx.at I' (Ah x 8) ra) (by show X.A.units+1+9<cLine;lia) X.prog X.w E' Q' q'
 ·cases decide (AN x y)with
  |true=>exact rb
  |false=>exact ra
theorem PC{pp:Pos}(hc:X.calm=true)(hu:X.A.units+20<cLine)(hm:X.mg "min"=none)(ha:PX X ρ G a (sq x))(hb:PX X ρ G b (sq y))(hg:Gl X "min":=by rfl)(he:starEach [a,b] X.env=(false,eval a X.env)::starEach [b] X.env:=by rfl)(he2:starEach [b] X.env=(false,eval b X.env)::starEach [] X.env:=by rfl)(hpl:(backTo pos (starEach [b] X.env)).any (·.1)=false:=by rfl):PX X ρ G (.Call (.Name "min" pp) [a,b] [] pos) (sq (DQ x y)):=IB (Qq hc hu x y) hg hm (by decide +kernel) ha hb (fun H u v Q o rx ry k=>by
  refine⟨u,v,rfl,rx.same AK,ry.same AK,k _ _ (BR o ?_)⟩;unfold DQ;by_cases h:AN y x
  ·rw[if_pos h,if_pos (decide_eq_true h)];exact ry
  ·rw[if_neg h,if_neg (by simpa using h)];exact rx) (he:=he) (he2:=he2) (hpl:=hpl)
theorem Ou{pp:Pos}(hc:X.calm=true)(hu:X.A.units+20<cLine)(hm:X.mg "max"=none)(ha:PX X ρ G a (sq x))(hb:PX X ρ G b (sq y))(hg:Gl X "max":=by rfl)(he:starEach [a,b] X.env=(false,eval a X.env)::starEach [b] X.env:=by rfl)(he2:starEach [b] X.env=(false,eval b X.env)::starEach [] X.env:=by rfl)(hpl:(backTo pos (starEach [b] X.env)).any (·.1)=false:=by rfl):PX X ρ G (.Call (.Name "max" pp) [a,b] [] pos) (sq (DL x y)):=IB (Q8 hc hu x y) hg hm (by decide +kernel) ha hb (fun H u v Q o rx ry k=>by
  refine⟨u,v,rfl,rx.same AK,ry.same AK,k _ _ (BR o ?_)⟩;unfold DL;by_cases h:AN x y
  ·rw[if_pos h,if_pos (decide_eq_true h)];exact ry
  ·rw[if_neg h,if_neg (by simpa using h)];exact rx) (he:=he) (he2:=he2) (hpl:=hpl)
theorem Lr:∀(bs:List Bool),((List.range bs.length).all fun i=>bs.getD i true)=bs.all id
 |[]=>rfl
 |b::bs=>by
  rw[List.length_cons,List.range_succ_eq_map,List.all_cons,List.all_map,List.all_cons,<-Lr bs];rfl
theorem Ua(hc:X.calm=true):CM X (.builtin "all") (fun xs H Q=>∃(p:Addr)(bs:List Bool),xs=[.ref p]/\SqL X.K H p (bs.map V.bl)/\Q (.bl (bs.all id)) H):=by
 intro AD s σ H xs us Q I r h;obtain⟨p,bs,rfl,hq,q⟩:=h;obtain⟨u,rfl,rx⟩:=G6 r;cases rx;obtain⟨AS,rv,pl,hz⟩:=I.list hq;have hl:=pl.isList;have BC:=Heap.lt_size (hl.choose_spec.1);have ne:p≠s.heap.objs.size:=Nat.ne_of_lt BC;refine call_all_walk (wpAny_pyIter_list hl ?_);refine⟨_,_,_,_,_,_,fun i=>bs.getD i true,rfl,Walks.list (A:=X.A.in1) (I.ok.hd hc) _ p ne AS.toArray,⟨⟨_,Heap.get?_push_size _ rfl,rfl,rfl⟩,hl.push _⟩,?_,fun h' tk hk=>?_⟩
 ·intro i v s' Q' E' hP hQ;have h1:AS[i]?=some v:=by simpa using hP
  have hi:i<AS.length:=(List.getElem?_eq_some_iff.mp h1).1;have Qo:=rv.length;rw[List.length_map]at Qo;obtain⟨x,hx⟩:∃x,bs[i]?=some x:=⟨bs[i]'(by lia),List.getElem?_eq_getElem (by lia)⟩;have h2:(bs.map V.bl)[i]?=some (V.bl x):=by rw[List.getElem?_map,hx];rfl
  obtain⟨v',g1,g2⟩:=rv.get h2;rw[h1]at g1;cases g1;cases g2;have hQ:Q' (bs.getD i true) s':=hQ;rw[List.getD_eq_getElem?_getD,hx]at hQ;exact wpAny_truthy_bool hQ
 ·have hn:AS.toArray.size=bs.length:=by have:=rv.length;rw[List.length_map]at this;rw[List.size_toArray,<-this]
  rw[hn,Lr];refine⟨.bl _,H,I.kept (fun b o e=>hk b o (fun hm=>?_) (Heap.get?_push_of_some _ e)),rfl,q⟩;have h1:=Heap.lt_size e;rw[List.mem_singleton.mp hm]at h1;exact Nat.lt_irrefl _ h1
theorem TH{K:PySem.W.Frag}{H:Hp}:∀{bs:List Bool}{vs:List V},RepL K H (bs.map .bl) vs->vs=bs.map V.bl
 |[],vs,r=>by
  have:=r.length
  exact List.eq_nil_of_length_eq_zero (by simpa using this)
 |b::bs,vs,r=>by
  rw[List.map_cons,RepL]at r;obtain⟨v,r',rfl,r1,r2⟩:=r;rw[Rep]at r1;rw[r1,TH r2];rfl
theorem Qr{bs:List Bool}{pp:Pos}(hc:X.calm=true)(hm:X.mg "all"=none)(ha:PX X ρ G a (.lst (bs.map .bl)))(hg:Gl X "all":=by rfl)(he:starEach [a] X.env=(false,eval a X.env)::starEach [] X.env:=by rfl):PX X ρ G (.Call (.Name "all" pp) [a] [] pos) (.bl (bs.all id)):=DI (Ua hc) hg hm (by decide +kernel) ha (fun H x Q o r k=>by
  rw[Rep]at r;obtain⟨q,vs,e,h1,r1⟩:=r;exact⟨q,bs,by rw[e],by rw[<-TH r1];exact SqL.of (AK _ _ h1),k _ _ (BR o rfl)⟩) (he:=he)
end
def X5(lo:Int)(n:Nat):It:=⟨fun i _=>i<n,fun i H x H'=>H'=H/\x=.int (lo+i*2),fun i _=>n<=i⟩
theorem Pu{P:Program}{w:World}{K:PySem.W.Frag}{tg:Expr}(it:Addr)(lo:Int)(n:Nat):Turn P w K tg (X5 lo n) [it] it (fun i h=>IsRangeIter h it (lo+(i:Nat)*2) ((n:Int)-(i:Nat)) 2) where
 mem:=by simp
 obj:=fun i h st b hb=>by
  have e:b=it:=by simpa using hb
  subst e;exact⟨_,st,fun v z=>by
   have z':Data.fields _=Data.cell v:=z;cases z'⟩
 keep:=fun i h h' st k=>k it (by simp) _ st
 item:=by
  intro X hP hw hK hc i AD s σ H E I hf st hg;subst hP hw hK;obtain⟨f0,f1,f2,f3,f4,f5⟩:=hf it (by simp);have W:=Walks.range (prog:=X.prog) (w:=X.w) (I.ok.hd hc) it lo 2 n;refine W.item i s _ _ hg st fun v h' tk hv AR kk=>?_;obtain⟨t,rfl⟩:=hv;have I1:Inv X AD σ H { s with heap:=h',toks:=tk }:=I.turned (fun b o hb e=>kk b o (by simpa using hb) e) f0 f1 f3 f4 f5;exact⟨_,rfl,PW (s:={ s with heap:=h',toks:=tk }) (n:="range_iterator") AR rfl rfl (by decide) ⟨.int (lo+i*2),H,I1,⟨t,rfl⟩,⟨rfl,rfl⟩,AR,fun b hb=>(hf b hb).1⟩⟩
 done:=by
  intro X hP hw hK hc i AD s σ H E I hf st hg;subst hP hw hK;obtain⟨f0,f1,f2,f3,f4,f5⟩:=hf it (by simp);exact wpAny_pyNext_range_end (I.ok.hd hc) st (by have:n<=i:=hg;lia) fun h' eb=>⟨rfl,I.turned (t':=s.toks) (fun b o hb e=>eb b o hb e) f0 f1 f3 f4 f5⟩
 self:=fun _ _ _ _ _ st h=>wpAny_pyIter_rangeiter st h
theorem P6{lo hi:Int}{n:Nat}(h:lo<=hi)(hn:(n:Int)=(hi-lo+1) / 2):Builtin.Range.rangeSize lo hi 2=n:=by unfold Builtin.Range.rangeSize;simp only[show(2:Int) > 0 by decide,if_true];split<;>lia
theorem UY{lo hi:Int}{n:Nat}(h0:0<=lo)(h:lo<=hi)(h1:hi<=100000)(hn:(n:Int)=(hi-lo+1) / 2):Builtin.Range.small lo hi 2=true:=by unfold Builtin.Range.small;rw[P6 h hn];simp only[Builtin.Range.rangeFitsLong,Bool.and_eq_true,Bool.or_eq_true,decide_eq_true_eq,beq_iff_eq,show(2:Int) > 0 by decide,if_true];lia
section
variable {X:Cx}{ρ:Rho}{G:Gs}{a b c:Expr}{pos:Pos}
theorem Tr{tg:Expr}{AD:List (Addr×Obj)}{σ:St}{H:Hp}{s:Shared}{R:It->Hp->Prop}{E:Value->Shared->Prop}{lo hi:Int}{n:Nat}{t u v:Tok}{tk:Nat}(I:Inv X AD σ H s)(h0:0<=lo)(h:lo<=hi)(h1:hi<=100000)(hn:(n:Int)=(hi-lo+1) / 2)(q:R (X5 lo n) H):wpAny (model X.prog X.w) X.A (pyIter (.ref s.heap.objs.size)) (PIE X AD σ tg R) E { s with heap:=s.heap.push { cls:=.type "range",data:=.fields #[.int lo t,.int hi u,.int 2 v] },toks:=tk }:=by
 refine wpAny_pyIter_range (IsRange.new ..) (UY h0 h h1 hn) ?_;have I1:Inv X AD σ H { s with heap:=s.heap.push { cls:=.type "range",data:=.fields #[.int lo t,.int hi u,.int 2 v] },toks:=tk }:=I.kept fun b o e=>Heap.get?_push_of_some _ e;refine⟨(s.heap.push { cls:=.type "range",data:=.fields #[.int lo t,.int hi u,.int 2 v] }).objs.size,[(s.heap.push { cls:=.type "range",data:=.fields #[.int lo t,.int hi u,.int 2 v] }).objs.size],_,_,H,rfl,
  I1.kept (t':=tk) fun b o e=>Heap.get?_push_of_some _ e,Pu _ lo n,?_,fun b hb=>?_,q⟩
 ·have e1:lo+((0:Nat):Int)*2=lo:=by simp
  have e2:(n:Int)-((0:Nat):Int)=Builtin.Range.rangeSize lo hi 2:=by rw[P6 h hn];simp
  show IsRangeIter _ _ (lo+((0:Nat):Int)*2) ((n:Int)-((0:Nat):Int)) 2;rw[e1,e2];exact Heap.get?_push_size _ rfl
 ·have e:b=(s.heap.push { cls:=.type "range",data:=.fields #[.int lo t,.int hi u,.int 2 v] }).objs.size:=by simpa using hb
  subst e;exact I1.fpOk (Nat.le_refl _) (I1.hok.fresh (Nat.le_refl _))
def Bd(lo:Int)(n:Nat):List Dat:=(List.range n).map fun i=>.int (lo+(i:Nat)*2)
theorem ZD{K:PySem.W.Frag}{H:Hp}{lo:Int}{n:Nat}:Wk K (X5 lo n) H G (Bd lo n):=by
 intro H' G' e;refine⟨fun i d hd=>?_,by show n<=(Bd lo n).length;simp[Bd]⟩;have hi:i<n:=by
  have:=(List.getElem?_eq_some_iff.mp hd).1
  simpa[Bd]using this
 refine⟨hi,fun x VW ⟨e1,e2⟩=>?_⟩;subst e1;subst e2;refine⟨Ext.refl,fun o=>o,fun _=>?_⟩;have:(Bd lo n)[i]?=some (.int (lo+i*2)):=by simp[Bd,hi]
 rw[this]at hd;cases hd;rfl
theorem OL{lo:Int}{n i:Nat}{d:Dat}(h:(Bd lo n)[i]?=some d):i<n/\d=.int (lo+(i:Nat)*2):=by
 have hi:i<n:=by
  have:=(List.getElem?_eq_some_iff.mp h).1
  simpa[Bd]using this
 refine⟨hi,?_⟩;have:(Bd lo n)[i]?=some (.int (lo+i*2)):=by simp[Bd,hi]
 rw[this]at h;cases h;rfl
theorem OM(lo:Int)(n:Nat):(Bd lo n).length=n:=by simp[Bd]
def gO(ta:TA):TI:=fun σ H R=>ta σ H fun vs H1=>∃(i j:Int)(n:Nat),vs=[.int i,.int j,.int 2]/\(0<=i/\i<=j/\j<=100000/\(n:Int)=(j-i+1) / 2)/\R (X5 i n) H1
theorem TQ{tg:Expr}{ta:TA}{p pos:Pos}(hg:Gl X "range")(hm:X.mg "range"=none)(ha:PA X [a,b,c] ta)(hs:starEach [a,b,c] X.env=(false,eval a X.env)::starEach [b,c] X.env)(NM:(backTo pos (starEach [b,c] X.env)).any (·.1)=false) :
  PI X tg (.Call (.Name "range" p) [a,b,c] [] pos) (gO ta):=by
 intro AD s σ H R I h;refine Call_ (EB I hg hm boot_range (PyProof.Rows.callWith_type1 (thn (ha pos AD s σ H _ I h) fun us s1 ⟨vs,H1,I1,r1,q1⟩=>?_) hs NM));obtain⟨i,j,n,e,⟨q1,q2,q3,q4⟩,q⟩:=q1;subst e;cases r1 with
 |cons r rr=>
  cases rr with
  |cons r' rr=>
   cases rr with
   |cons pI rr=>
    cases rr;obtain⟨t,rfl⟩:=r;obtain⟨t',rfl⟩:=r';obtain⟨rC,rfl⟩:=pI;exact call_range_3 (by decide) (Tr I1 q1 q2 q3 q4 q) (Or.inl (PyProof.noPylong_small (by lia)))
theorem UJ{tg:Expr}{Q:List Dat->Gs->Prop}{i j:Int}(n:Nat){p:Pos}(hm:X.mg "range"=none)(ha:PX X ρ G a (.int i))(hb:PX X ρ G b (.int j))(hc:PX X ρ G c (.int 2))(h0:0<=i/\i<=j/\j<=100000/\(n:Int)=(j-i+1) / 2)(q:Q (Bd i n) G)(hg:Gl X "range":=by rfl)(hs:starEach [a,b,c] X.env=(false,eval a X.env)::starEach [b,c] X.env:=by rfl)(cN:starEach [b,c] X.env=(false,eval b X.env)::starEach [c] X.env:=by rfl)(pj:starEach [c] X.env=(false,eval c X.env)::starEach [] X.env:=by rfl)(NM:(backTo pos (starEach [b,c] X.env)).any (·.1)=false:=by rfl):WI X ρ G tg (.Call (.Name "range" p) [a,b,c] [] pos) Q:=fun AD s σ H I S=>
 TQ hg hm (BL Ap (BL Ap (BL Ap Cz pj) cN) hs) hs NM AD s σ H _ I ⟨ρ,G,_,ha,S,fun x H1 ⟨_,_,e1,o1,r1,q1,BV⟩=>by
  subst q1;subst BV;cases (show x=V.int i from r1);refine⟨ρ,_,_,hb,S.ext e1 o1,fun y H2 ⟨_,_,e2,o2,r2,q2,Fs⟩=>?_⟩;subst q2;subst Fs;cases (show y=V.int j from r2);refine⟨ρ,_,_,hc,(S.ext e1 o1).ext e2 o2,fun z H3 ⟨_,_,e3,o3,r3,q3,j1⟩=>?_⟩;subst q3;subst j1;cases (show z=V.int 2 from r3);exact⟨i,j,n,rfl,h0,_,_,(e1.trans e2).trans e3,o3,ZD,q⟩⟩
end
def CL(l A B:Lay):Lay:=TSt.sort ((l.filter fun s=>!A.contains s)++B)
theorem Vx{α:Type}(p:α->Bool)(l:List α):((l.filter p)++(l.filter fun x=>!p x)).Perm l:=by
 induction l with
 |nil=>exact .nil
 |cons a l ih=>
  rw[List.filter_cons,List.filter_cons];cases h:p a with
  |true=>simpa using ih
  |false=>
   simp only[Bool.not_false,Bool.false_eq_true,if_false,if_true];exact List.perm_middle.trans (.cons _ ih)
theorem bP{l A:Lay}(hl:l.Nodup)(hA:A.Nodup)(sub:∀s∈A,s∈l):(l.filter fun s=>A.contains s).Perm A:=by rw[List.perm_ext_iff_of_nodup (hl.filter _) hA];intro s;simp only[List.mem_filter,List.contains_iff_mem];exact⟨fun h=>h.2,fun h=>⟨sub s h,h⟩⟩
theorem Oq{l A B:Lay}(hl:l.Nodup)(hA:A.Nodup)(sub:∀s∈A,s∈l):(A++l.filter fun s=>!A.contains s).Perm l:=((bP hl hA sub).symm.append_right _).trans (Vx _ l)
structure Swap (l A B:Lay):Prop where
 sub:∀s∈A,s∈l
 nA:A.Nodup
 nB:B.Nodup
 dis:∀s∈A,s∉B
 ok:∀s∈B,AN s.1 s.2/\s.2∈nbM s.1
 pm:(BU B).Perm (BU A)
theorem Hv{F:List Sq}{l A B:Lay}(nd:F.Nodup)(I:IsLay F l)(S:Swap l A B):IsLay F (CL l A B):=by
 refine Cov.lay ⟨fun s hs=>?_,?_⟩ nd
 ·rcases List.mem_append.mp hs with h|h
  ·exact I.st s (List.mem_filter.mp h).1
  ·exact S.ok s h
 ·rw[M7];refine(List.perm_append_comm.trans ?_).trans ((J9 (Oq (B:=B) (M5 I) S.nA S.sub)).trans I.pm);rw[M7];exact S.pm.append_right _
theorem Ge{F:List Sq}{l:Lay}(nd:F.Nodup)(I:IsLay F l){s t:DN}(hs:s∈l)(ht:t∈l){x:Sq}(h1:x=s.1\/x=s.2)(h2:x=t.1\/x=t.2):s=t:=by
 have n1:(BU l).Nodup:=I.pm.nodup_iff.mpr nd;have pw:=Vj n1;by_cases e:s=t
 ·exact e
 ·exfalso;have key:s.1≠t.1/\s.1≠t.2/\s.2≠t.1/\s.2≠t.2:=by
   rw[List.pairwise_iff_getElem]at pw;obtain⟨i,hi,rfl⟩:=List.mem_iff_getElem.mp hs;obtain⟨j,hj,rfl⟩:=List.mem_iff_getElem.mp ht;rcases Nat.lt_trichotomy i j with h|h|h
   ·exact pw i j hi hj h
   ·subst h;exact absurd rfl e
   ·have z:=pw j i hj hi h;exact⟨z.1.symm,z.2.2.1.symm,z.2.1.symm,z.2.2.2.symm⟩
  rcases h1 with rfl|rfl<;>rcases h2 with h|h
  ·exact key.1 h
  ·exact key.2.1 h
  ·exact key.2.2.1 h
  ·exact key.2.2.2 h
theorem W6{F:List Sq}{l A B:Lay}(nd:F.Nodup)(I:IsLay F l)(S:Swap l A B):∀s∈B,s∉l:=by
 intro s hs hl;have h1:s.1∈BU B:=B6.mpr ⟨s,hs,.inl rfl⟩;obtain⟨a,ha,h2⟩:=B6.mp (S.pm.mem_iff.mp h1)
 have:=Ge nd I hl (S.sub a ha) (.inl rfl) h2
 exact S.dis a ha (this▸hs)
theorem GW{l A B:Lay}{s:DN}:s∈CL l A B↔(s∈l/\s∉A)\/s∈B:=by unfold CL;rw[(TSt.sort_perm _).mem_iff,List.mem_append,List.mem_filter];simp
theorem Swap.back{F:List Sq}{l A B:Lay}(I:IsLay F l)(S:Swap l A B):Swap (CL l A B) B A:=⟨fun s hs=>GW.mpr (.inr hs),S.nB,S.nA,fun s hb ha=>S.dis s ha hb,fun s hs=>I.st s (S.sub s hs),S.pm.symm⟩
theorem Ls{F:List Sq}{l A B:Lay}(nd:F.Nodup)(I:IsLay F l)(S:Swap l A B):CL (CL l A B) B A=l:=by
 have J:=Hv nd I S;have J2:=Hv nd J (S.back I);refine J2.uniq I ?_;have new:=W6 nd I S;have p1:((CL l A B).filter fun s=>!B.contains s).Perm (l.filter fun s=>!A.contains s):=by
  refine((TSt.sort_perm _).filter _).trans ?_;rw[List.filter_append];have e1:(B.filter fun s=>!B.contains s)=[]:=List.filter_eq_nil_iff.mpr fun s hs=>by simp[hs]
  have e2:((l.filter fun s=>!A.contains s).filter fun s=>!B.contains s)=l.filter fun s=>!A.contains s:=List.filter_eq_self.mpr fun s hs=>by
   have:s∉B:=fun hb=>new s hb (List.mem_filter.mp hs).1;simp[this]
  rw[e1,e2,List.append_nil]
 unfold CL at p1 ⊢;refine(TSt.sort_perm _).trans ((p1.append_right A).trans (List.perm_append_comm.trans (Oq (B:=B) (M5 I) S.nA S.sub)))
def stM(x y:Sq):DN:=(DQ x y,DL x y)
def Lv(ring:List Sq)(k:Nat):Sq:=if k=0 then ring.getD (ring.length-1) (0,0)else ring.getD (k-1) (0,0)
def As(ring:List Sq)(b:Nat):Lay:=(List.range ((ring.length-b+1) / 2)).map fun i=>stM (Lv ring (b+2*i)) (ring.getD (b+2*i) (0,0))
def CZ(l:Lay)(ring:List Sq):Lay:=if (As ring 1).all l.contains then CL l (As ring 1) (As ring 0)else CL l (As ring 0) (As ring 1)
def B3(q:Sq):List Sq:=[(q.1,q.2),(q.1,q.2+1),(q.1+1,q.2+1),(q.1+1,q.2)]
def Aq(q:Sq):Lay:=[((q.1,q.2),(q.1,q.2+1)),((q.1+1,q.2),(q.1+1,q.2+1))]
def Av(q:Sq):Lay:=[((q.1,q.2),(q.1+1,q.2)),((q.1,q.2+1),(q.1+1,q.2+1))]
theorem VC{x y:Sq}(h:AN x y):stM x y=(x,y):=by unfold stM DQ DL;rw[if_pos h,if_neg fun h2=>AX _ (BP h h2)]
theorem Xe{x y:Sq}(h:AN y x):stM x y=(y,x):=by unfold stM DQ DL;rw[if_pos h,if_neg fun h2=>AX _ (BP h h2)]
theorem NF(q:Sq):As (B3 q) 0=Av q:=by
 have e:As (B3 q) 0=[stM (q.1+1,q.2) (q.1,q.2),stM (q.1,q.2+1) (q.1+1,q.2+1)]:=by simp[As,B3,Lv,List.range_succ]
 rw[e,Xe (by unfold AN;simp only;lia),VC (by unfold AN;simp only;lia)];rfl
theorem Kf(q:Sq):As (B3 q) 1=Aq q:=by
 have e:As (B3 q) 1=[stM (q.1,q.2) (q.1,q.2+1),stM (q.1+1,q.2+1) (q.1+1,q.2)]:=by simp[As,B3,Lv,List.range_succ]
 rw[e,VC (x:=(q.1,q.2)) (y:=(q.1,q.2+1)) (Or.inr ⟨rfl,show q.2<q.2+1 by lia⟩),Xe (x:=(q.1+1,q.2+1)) (y:=(q.1+1,q.2)) (Or.inr ⟨rfl,show q.2<q.2+1 by lia⟩)];rfl
def B1(l:Lay)(q:Sq):Bool:=(As (B3 q) 0).all l.contains||(As (B3 q) 1).all l.contains
def Az(l:Lay):List Sq:=(l.filter fun s=>B1 l s.1).map (·.1)
theorem Dk{l:Lay}{q:Sq}:B1 l q=true↔(∀s∈Av q,s∈l)\/∀s∈Aq q,s∈l:=by unfold B1;rw[NF,Kf,Bool.or_eq_true,List.all_eq_true,List.all_eq_true];simp only[List.contains_iff_mem]
theorem YF(l:Lay)(q:Sq):(∀s∈Aq q,s∈l)->Swap l (Aq q) (Av q):=fun h=>by
 refine⟨h,?_,?_,?_,?_,?_⟩
 ·simp[Aq];lia
 ·simp[Av];lia
 ·simp[Aq,Av];lia
 ·intro s hs;simp only[Av,List.mem_cons,List.not_mem_nil,or_false]at hs;rcases hs with rfl|rfl<;>(refine⟨by unfold AN;simp<;>lia,?_⟩;simp[nbM])
 ·have e1:BU (Aq q)=[(q.1,q.2),(q.1,q.2+1),(q.1+1,q.2),(q.1+1,q.2+1)]:=rfl;have e2:BU (Av q)=[(q.1,q.2),(q.1+1,q.2),(q.1,q.2+1),(q.1+1,q.2+1)]:=rfl;rw[e1,e2];exact .cons _ (.swap ..)
theorem YT(l:Lay)(q:Sq):(∀s∈Av q,s∈l)->Swap l (Av q) (Aq q):=fun h=>by
 refine⟨h,?_,?_,?_,?_,?_⟩
 ·simp[Av];lia
 ·simp[Aq];lia
 ·simp[Aq,Av];lia
 ·intro s hs;simp only[Aq,List.mem_cons,List.not_mem_nil,or_false]at hs;rcases hs with rfl|rfl<;>(refine⟨by unfold AN;simp<;>lia,?_⟩;simp[nbM])
 ·have e1:BU (Aq q)=[(q.1,q.2),(q.1,q.2+1),(q.1+1,q.2),(q.1+1,q.2+1)]:=rfl;have e2:BU (Av q)=[(q.1,q.2),(q.1+1,q.2),(q.1,q.2+1),(q.1+1,q.2+1)]:=rfl;rw[e1,e2];exact .cons _ (.swap ..)
theorem Sg{F:List Sq}{l:Lay}(nd:F.Nodup)(I:IsLay F l){q:Sq}(h1:((q.1,q.2),(q.1,q.2+1))∈l)(h2:((q.1,q.2),(q.1+1,q.2))∈l):False:=by
 have:=Ge nd I h1 h2 (x:=(q.1,q.2)) (.inl rfl) (.inl rfl)
 injection this with _ h;injection h with h _;lia
theorem Hu{F:List Sq}{l:Lay}(nd:F.Nodup)(I:IsLay F l){q:Sq}(h:B1 l q=true):((∀s∈Aq q,s∈l)/\CZ l (B3 q)=CL l (Aq q) (Av q)/\((q.1,q.2),(q.1,q.2+1))∈l)\/((∀s∈Av q,s∈l)/\CZ l (B3 q)=CL l (Av q) (Aq q)/\((q.1,q.2),(q.1,q.2+1))∉l):=by
 have e:(As (B3 q) 1).all l.contains=true↔∀s∈Aq q,s∈l:=by
  rw[Kf,List.all_eq_true];simp only[List.contains_iff_mem]
 by_cases hw:∀s∈Aq q,s∈l
 ·refine .inl ⟨hw,?_,hw _ (List.mem_cons_self ..)⟩;unfold CZ;rw[if_pos (e.mpr hw),NF,Kf]
 ·have ht:∀s∈Av q,s∈l:=(Dk.mp h).resolve_right hw;refine .inr ⟨ht,?_,fun h1=>Sg nd I h1 (ht _ (List.mem_cons_self ..))⟩;unfold CZ;rw[if_neg fun z=>hw (e.mp z),NF,Kf]
theorem Gb{F:List Sq}{l:Lay}(nd:F.Nodup)(I:IsLay F l){q:Sq}(h:B1 l q=true):IsLay F (CZ l (B3 q))/\B1 (CZ l (B3 q)) q=true/\CZ (CZ l (B3 q)) (B3 q)=l:=by
 rcases Hu nd I h with⟨hw,e,h1⟩|⟨ht,e,h1⟩
 ·have S:=YF l q hw;have J:=Hv nd I S;have hB:=(S.back I).sub;have ht:B1 (CL l (Aq q) (Av q)) q=true:=Dk.mpr (.inl hB);rw[e];refine⟨J,ht,?_⟩;rcases Hu nd J ht with⟨qA,e2,h2⟩|⟨ft,e2,h2⟩
  ·exact(Sg nd J h2 (hB _ (List.mem_cons_self ..))).elim
  ·rw[e2];exact Ls nd I S
 ·have S:=YT l q ht;have J:=Hv nd I S;have hB:=(S.back I).sub;have hw:B1 (CL l (Av q) (Aq q)) q=true:=Dk.mpr (.inr hB);rw[e];refine⟨J,hw,?_⟩;rcases Hu nd J hw with⟨qA,e2,h2⟩|⟨ft,e2,h2⟩
  ·rw[e2];exact Ls nd I S
  ·exact(h2 (hB _ (List.mem_cons_self ..))).elim
theorem QH{l:Lay}{q:Sq}(h:B1 l q=true):∃s∈l,s.1=q:=by
 rcases Dk.mp h with h|h
 ·exact⟨_,h _ (List.mem_cons_self ..),rfl⟩
 ·exact⟨_,h _ (List.mem_cons_self ..),rfl⟩
theorem Gi{l:Lay}{q:Sq}:q∈Az l↔B1 l q=true:=by
 unfold Az;simp only[List.mem_map,List.mem_filter];constructor
 ·rintro⟨s,⟨_,h⟩,rfl⟩;exact h
 ·intro h;obtain⟨s,hs,rfl⟩:=QH h;exact⟨s,⟨hs,h⟩,rfl⟩
theorem Ds{F:List Sq}{l:Lay}(I:IsLay F l){s:DN}(hs:s∈l):s.1∈F/\s.2∈F:=⟨I.pm.mem_iff.mp (B6.mpr ⟨s,hs,.inl rfl⟩),I.pm.mem_iff.mp (B6.mpr ⟨s,hs,.inr rfl⟩)⟩
def Na:SpD:=fun ds G R=>∃q:Sq,ds=[sq q]/\R (.lst ((B3 q).map sq)) G
def NU:SpD:=fun ds G R=>∃(ring:List Sq)(b:Nat),ds=[.lst (ring.map sq),.int b]/\b<=1/\1<=ring.length/\ring.length<=1000/\R (.lst ((As ring b).map AY)) G
def KZ:SpD:=fun ds G R=>∃l st:Lay,ds=[lay l,.lst (st.map AY)]/\st.length<=1000/\R (.bl (st.all l.contains)) G
def K7:SpD:=fun ds G R=>∃(l:Lay)(q:Sq),ds=[lay l,sq q]/\R (.bl (B1 l q)) G
def Rj:SpD:=fun ds G R=>∃l:Lay,ds=[lay l]/\l.length<=1000/\R (.lst ((Az l).map sq)) G
def So:SpD:=fun ds G R=>∃(l:Lay)(ring:List Sq),ds=[lay l,.lst (ring.map sq)]/\1<=ring.length/\ring.length<=1000/\l.length<=1000/\R (lay (CZ l ring)) G
def NO:Dat->Bool
 |.tup l=>l.all fun d=>(tyS d).isSome
 |d=>(tyS d).isSome
def JZ:Dat->Bool
 |.tup [_,_]=>true
 |_=>false
def DR:Dat->Bool
 |.tup [.int _,.int _]=>true
 |_=>false
def Oz:SpD:=fun ds G R=>∃(d:Dat)(t:String),ds=[d]/\tyS d=some t/\R (.bl (t=="int")) G
def Sn:SpD:=fun ds G R=>∃(d:Dat)(t:String),ds=[d]/\tyS d=some t/\R (.bl (JZ d)) G
def NJ:SpD:=fun ds G R=>∃d:Dat,ds=[d]/\NO d=true/\R (.bl (DR d)) G
def PV(N:Addr):SpX:=fun ds G R RX=>∃(l:Lay)(d:Dat),ds=[lay l,d]/\NO d=true/\l.length<=1000/\(∀q,d=sq q->B1 l q=true->R (lay (CZ l (B3 q))) G)/\((∀q,d=sq q->B1 l q=false)->RX (.ref N) G)
theorem XF{d:Dat}(h:NO d=true):∃t,tyS d=some t:=by cases d<;>first|exact⟨_,rfl⟩|cases h
theorem U7{d:Dat}(h:DR d=true):∃q,d=sq q:=by
 unfold DR at h;split at h
 ·rename_i a b;exact⟨(a,b),rfl⟩
 ·cases h
theorem Vh{d:Dat}(h:DR d=false)(q:Sq):d≠sq q:=by rintro rfl;cases h
theorem ZF(t:String):(isS t "int"&&!isS t "bool")=(t=="int"):=by
 unfold isS;by_cases h:t = "int"
 ·subst h;rfl
 ·by_cases h2:t = "bool"
  ·subst h2;rfl
  ·have e1:(t=="int")=false:=by simpa using h
   have e2:(t=="bool")=false:=by simpa using h2
   rw[e1,e2];rfl
theorem Sy(t:String):isS t "tuple"=(t=="tuple"):=by unfold isS;rw[show(("tuple":String)=="int")=false from rfl,Bool.and_false,Bool.or_false]
theorem WZ{ring:List Sq}{k:Nat}(h:k<ring.length):atI (ring.map sq) (k:Int)=some (sq (ring.getD k (0,0))):=by refine Dr sq (DC ?_);rw[List.getD_eq_getElem?_getD,List.getElem?_eq_getElem h];rfl
theorem Xk{ring:List Sq}{k:Nat}(h:k<ring.length):atI (ring.map sq) ((k:Int)-1)=some (sq (Lv ring k)):=by
 unfold Lv;by_cases h0:k=0
 ·subst h0;rw[if_pos rfl];refine Dr sq ?_;unfold atI ixN;rw[if_neg (by lia),if_pos (by lia)];have e:(((0:Nat):Int)-1+(ring.length:Int)).toNat=ring.length-1:=by lia
  have e2:ring[ring.length-1]?=some (ring.getD (ring.length-1) (0,0)):=by
   rw[List.getD_eq_getElem?_getD,List.getElem?_eq_getElem (by lia)];rfl
  show ring[_]?=_;rw[e];exact e2
 ·rw[if_neg h0];have e:((k:Int)-1)=((k-1:Nat):Int):=by lia
  rw[e];exact WZ (by lia)
theorem Lu{X:Cx}{ρ:Rho}{G:Gs}{e:Expr}{Q:Dat->Gs->Prop}(h:WEX X ρ G e Q fun _ _=>False):WE X ρ G e Q:=fun AD s σ H I S=>
 wpAny_mono (h AD s σ H I S) (fun _ _ z=>z) fun _ _ ⟨_,_,_,_,_,_,_,_,_,_,_,_,_,z⟩=>z.elim
end TF
namespace TF
section
def sgn(x:Sq):Int:=if (x.1+x.2)%2=0 then 1 else -1
def Cd(H V:Sq->Int)(x:Sq):Int:=V x+H (x.1+1,x.2)-V (x.1,x.2+1)-H x
def BH(x:Sq):Prop:=-1<=x.1/\x.1<=8/\-1<=x.2/\x.2<=8
def Ub(f:Int->Int)(a:Int):Nat->Int
 |0=>0
 |n+1=>Ub f a n+f (a+n)
def pot(H V:Sq->Int)(x:Sq):Int:=Ub (fun j=>H (-1,j)) (-1) (x.2+1).toNat+Ub (fun i=>V (i,x.2)) (-1) (x.1+1).toNat
theorem Wt(H V:Sq->Int){r c:Int}(hr:-1<=r):pot H V (r+1,c)=pot H V (r,c)+V (r,c):=by
 unfold pot;have e:(r+1+1).toNat=(r+1).toNat+1:=by lia
 have e2:(-1:Int)+((r+1).toNat:Int)=r:=by lia
 simp only[e,Ub,e2];lia
theorem cI(H V:Sq->Int){c:Int}(hc:-1<=c):pot H V (-1,c+1)=pot H V (-1,c)+H (-1,c):=by
 unfold pot;have e:(c+1+1).toNat=(c+1).toNat+1:=by lia
 have e2:(-1:Int)+((c+1).toNat:Int)=c:=by lia
 simp only[e,Ub,e2,show((-1:Int)+1).toNat=0 from rfl];lia
theorem XB(H V:Sq->Int)(h0:∀x,BH x->Cd H V x=0){c:Int}(hc:-1<=c/\c<=8):∀n:Nat,n<=10->pot H V (-1+n,c+1)=pot H V (-1+n,c)+H (-1+n,c)
 |0,_=>by
  have:=cI H V hc.1
  simpa using this
 |n+1,hn=>by
  have ih:=XB H V h0 hc n (by lia);have c0:=h0 (-1+n,c) ⟨by simp only;lia,by simp only;lia,by simp only;lia,by simp only;lia⟩;unfold Cd at c0;simp only at c0;have v1:=Wt H V (r:=-1+n) (c:=c+1) (by lia);have v2:=Wt H V (r:=-1+n) (c:=c) (by lia);rw[show(-1+((n+1:Nat):Int))=-1+(n:Int)+1 by lia];lia
theorem fu(H V:Sq->Int)(h0:∀x,BH x->Cd H V x=0){r c:Int}(hr:-1<=r/\r<=9)(hc:-1<=c/\c<=8):pot H V (r,c+1)=pot H V (r,c)+H (r,c):=by
 have:=XB H V h0 hc (r+1).toNat (by lia)
 rw[show(-1+((r+1).toNat:Int))=r by lia]at this;exact this
structure Off (F:List Sq) (H V:Sq->Int):Prop where
 v:∀x,(x∈F\/(x.1,x.2-1)∈F)->V x=0
 h:∀x,(x∈F\/(x.1-1,x.2)∈F)->H x=0
def Fix(F:List Sq)(x:Sq):Prop:=∃H V,Off F H V/\∀y,BH y->Cd H V y=if y=x then 1 else 0
inductive Bare (F:List Sq):Sq->Prop
 |base:Bare F (-1,-1)
 |step {x y:Sq}:Bare F x->y∈nbM x->BH y->y∉F->Bare F y
theorem Bare.out{F:List Sq}(h0:(-1,-1)∉F){x:Sq}(h:Bare F x):x∉F/\BH x:=by
 cases h with
 |base=>exact⟨h0,by unfold BH;simp⟩
 |step _ _ h1 h2=>exact⟨h2,h1⟩
theorem VR(H V:Sq->Int)(s:Sq)(k:Int)(z:Sq):Cd (fun z=>H z+if z=s then k else 0) V z=Cd H V z+(if (z.1+1,z.2)=s then k else 0)-(if z=s then k else 0):=by unfold Cd;simp only;generalize (if (z.1+1,z.2)=s then k else 0)=u;generalize (if z=s then k else 0)=v;lia
theorem RS(H V:Sq->Int)(s:Sq)(k:Int)(z:Sq):Cd H (fun z=>V z+if z=s then k else 0) z=Cd H V z+(if z=s then k else 0)-(if (z.1,z.2+1)=s then k else 0):=by unfold Cd;simp only;generalize (if (z.1,z.2+1)=s then k else 0)=u;generalize (if z=s then k else 0)=v;lia
theorem Zn{p q:Prop}[Decidable p][Decidable q]{k:Int}(h:p↔q):(if p then k else 0)=if q then k else 0:=by
 by_cases hp:p
 ·rw[if_pos hp,if_pos (h.mp hp)]
 ·rw[if_neg hp,if_neg fun z=>hp (h.mpr z)]
theorem aR(z:Sq)(r c k:Int):(if (z.1+1,z.2)=(r,c)then k else 0)=if z=(r-1,c)then k else 0:=Zn ⟨fun h=>by
 have h1:z.1+1=r:=congrArg Prod.fst h;have h2:z.2=c:=congrArg Prod.snd h;exact Prod.ext (show z.1=r-1 by lia) h2,fun h=>by subst h;simp⟩
theorem Wm(z:Sq)(r c k:Int):(if (z.1,z.2+1)=(r,c)then k else 0)=if z=(r,c-1)then k else 0:=Zn ⟨fun h=>by
 have h1:z.1=r:=congrArg Prod.fst h;have h2:z.2+1=c:=congrArg Prod.snd h;exact Prod.ext h1 (show z.2=c-1 by lia),fun h=>by subst h;simp⟩
theorem Jx(p:Prop)[Decidable p]:(if p then(-1:Int)else 0)=-(if p then 1 else 0):=by split<;>rfl
theorem ZS{F:List Sq}(hF:∀x∈F,0<=x.1/\0<=x.2){x:Sq}(h:Bare F x):Fix F x:=by
 have h0:(-1,-1)∉F:=fun h=>by have:=(hF _ h).1;simp at this
 have out:∀{z s:Sq}{k:Int},¬z=s->(if z=s then k else 0)=0:=fun h=>if_neg h
 induction h with
 |base=>
  refine⟨fun _=>0,fun z=>0+if z=(-1,-1)then 1 else 0,⟨fun z hz=>?_,fun _ _=>rfl⟩,fun y hy=>?_⟩
  ·refine(Int.zero_add _).trans (if_neg fun e=>?_);subst e;rcases hz with hz|hz
   ·exact h0 hz
   ·have:=(hF _ hz).1;simp at this
  ·rw[RS (fun _=>0) (fun _=>0),Wm,out (s:=(-1,-1-1)) fun e=>by have:=hy.2.2.1;rw[e]at this;simp at this];unfold Cd;simp
 |step hx hn hb Xl ih=>
  rename_i x y;obtain⟨H,V,off,hc⟩:=ih;have xo:=hx.out h0;obtain⟨r,c⟩:=x;simp only[nbM,List.mem_cons,List.not_mem_nil,or_false]at hn;rcases hn with rfl|rfl|rfl|rfl
  ·refine⟨fun z=>H z+if z=(r,c)then 1 else 0,V,⟨off.v,fun z hz=>?_⟩,fun z hz=>?_⟩
   ·rw[off.h z hz,out];rfl;rintro rfl;exact hz.elim xo.1 Xl
   ·rw[VR,hc z hz,aR];lia
  ·refine⟨H,fun z=>V z+if z=(r,c)then -1 else 0,⟨fun z hz=>?_,off.h⟩,fun z hz=>?_⟩
   ·rw[off.v z hz,out];rfl;rintro rfl;exact hz.elim xo.1 Xl
   ·rw[RS,hc z hz,Wm,Jx,Jx];lia
  ·refine⟨H,fun z=>V z+if z=(r,c+1)then 1 else 0,⟨fun z hz=>?_,off.h⟩,fun z hz=>?_⟩
   ·rw[off.v z hz,out];rfl;rintro rfl;refine hz.elim Xl fun h=>xo.1 ?_;simpa using h
   ·rw[RS,hc z hz,Wm,Int.add_sub_cancel];lia
  ·refine⟨fun z=>H z+if z=(r+1,c)then -1 else 0,V,⟨off.v,fun z hz=>?_⟩,fun z hz=>?_⟩
   ·rw[off.h z hz,out];rfl;rintro rfl;refine hz.elim Xl fun h=>xo.1 ?_;simpa using h
   ·rw[VR,hc z hz,aR,Jx,Jx,Int.add_sub_cancel];lia
theorem Sb{F:List Sq}(k:Sq->Int):∀{L:List Sq},L.Nodup->(∀x∈L,Fix F x)->∃H V,Off F H V/\∀y,BH y->Cd H V y=if y∈L then k y else 0
 |[],_,_=>⟨fun _=>0,fun _=>0,⟨fun _ _=>rfl,fun _ _=>rfl⟩,fun y _=>by simp[Cd]⟩
 |a::L,nd,h=>by
  obtain⟨n1,n2⟩:=List.nodup_cons.mp nd;obtain⟨H,V,off,hc⟩:=Sb k n2 fun x hx=>h x (List.mem_cons_of_mem _ hx);obtain⟨H',V',d7,UX⟩:=h a (List.mem_cons_self ..);refine⟨fun z=>H z+k a*H' z,fun z=>V z+k a*V' z,⟨fun z hz=>?_,fun z hz=>?_⟩,fun y hy=>?_⟩
  ·show V z+k a*V' z=0;rw[off.v z hz,d7.v z hz];simp
  ·show H z+k a*H' z=0;rw[off.h z hz,d7.h z hz];simp
  ·have e:Cd (fun z=>H z+k a*H' z) (fun z=>V z+k a*V' z) y=Cd H V y+k a*Cd H' V' y:=by
    unfold Cd;simp only[Int.mul_sub,Int.mul_add];lia
   rw[e,hc y hy,UX y hy];by_cases ha:y=a
   ·subst ha;rw[if_neg n1,if_pos rfl,if_pos (List.mem_cons_self ..)];simp
   ·rw[if_neg ha];by_cases hL:y∈L
    ·rw[if_pos hL,if_pos (List.mem_cons_of_mem _ hL)];simp
    ·rw[if_neg hL,if_neg (by simp[ha,hL])];simp
theorem YL{F:List Sq}(hF:∀x∈F,0<=x.1/\x.1<=7/\0<=x.2/\x.2<=7)(hB:∀x,BH x->x∉F->Bare F x):∃H V,Off F H V/\∀y,BH y->Cd H V y=if y∈F then 0 else -4*sgn y:=by
 let box:List Sq:=(List.range 10).flatMap fun(i:Nat)=>(List.range 10).map fun(j:Nat)=>((i:Int)-1,(j:Int)-1);have Cn:∀x:Sq,BH x↔x∈box:=fun x=>by
  simp only[box,List.mem_flatMap,List.mem_range,List.mem_map,BH];constructor
  ·intro h;exact⟨(x.1+1).toNat,by lia,(x.2+1).toNat,by lia,by ext<;>simp only<;>lia⟩
  ·rintro⟨i,hi,j,hj,rfl⟩;simp only;lia
 have nd:box.Nodup:=by decide +kernel
 obtain⟨H,V,off,hc⟩:=Sb (F:=F) (fun y=>-4*sgn y) (L:=box.filter fun x=>!F.contains x) (nd.filter _) fun x hx=>by
  rw[List.mem_filter]at hx;exact ZS (fun y hy=>⟨(hF y hy).1,(hF y hy).2.2.1⟩) (hB x ((Cn x).mpr hx.1) (by simpa using hx.2))
 refine⟨H,V,off,fun y hy=>?_⟩;rw[hc y hy];by_cases h:y∈F
 ·rw[if_pos h,if_neg (by simp[h])]
 ·rw[if_neg h,if_pos (by rw[List.mem_filter];exact⟨(Cn y).mp hy,by simpa using h⟩)]
end
section
def crs(l:Lay)(a b:Sq):Int:=if (a,b)∈l then -3 else 1
def V0(l:Lay)(x:Sq):Int:=sgn x*crs l (x.1,x.2-1) x
def H0(l:Lay)(x:Sq):Int:=-(sgn x)*crs l (x.1-1,x.2) x
theorem IQ(r c:Int):sgn (r,c+1)=-(sgn (r,c)):=by unfold sgn;simp only;split<;>split<;>lia
theorem HJ(r c:Int):sgn (r+1,c)=-(sgn (r,c)):=by unfold sgn;simp only;split<;>split<;>lia
theorem aH(l:Lay)(r c:Int):Cd (H0 l) (V0 l) (r,c)=sgn (r,c)*(crs l (r,c-1) (r,c)+crs l (r,c) (r+1,c)+crs l (r,c) (r,c+1)+crs l (r-1,c) (r,c)):=by unfold Cd V0 H0;simp only[IQ,HJ,Int.add_sub_cancel,Int.mul_add,Int.neg_mul,Int.neg_neg];lia
variable {F:List Sq}{l:Lay}
theorem cR(nd:F.Nodup)(I:IsLay F l){r c:Int}(h:(r,c)∈F):crs l (r,c-1) (r,c)+crs l (r,c) (r+1,c)+crs l (r,c) (r,c+1)+crs l (r-1,c) (r,c)=0:=by
 obtain⟨s,hs,hx⟩:=B6.mp (I.pm.mem_iff.mpr h);have st:=I.st s hs;have hJ:∀t∈l,((r,c)=t.1\/(r,c)=t.2)->t=s:=fun t ht h'=>Ge nd I ht hs h' hx;have g:=U8 st.2 st.1;obtain⟨⟨a,b⟩,⟨d,e⟩⟩:=s;have u1:=fun h'=>hJ ((r,c-1),(r,c)) h' (.inr rfl);have u2:=fun h'=>hJ ((r,c),(r+1,c)) h' (.inl rfl);have u3:=fun h'=>hJ ((r,c),(r,c+1)) h' (.inl rfl);have u4:=fun h'=>hJ ((r-1,c),(r,c)) h' (.inr rfl);simp only[Prod.mk.injEq]at hx g u1 u2 u3 u4;unfold crs;rcases hx with⟨rfl,rfl⟩|⟨rfl,rfl⟩<;>rcases g with⟨e1,e2⟩|⟨e1,e2⟩
 ·subst e1 e2;rw[if_neg fun h'=>by have:=u1 h';lia,if_neg fun h'=>by have:=u2 h';lia,if_pos hs,if_neg fun h'=>by have:=u4 h';lia];rfl
 ·subst e1 e2;rw[if_neg fun h'=>by have:=u1 h';lia,if_pos hs,if_neg fun h'=>by have:=u3 h';lia,if_neg fun h'=>by have:=u4 h';lia];rfl
 ·have ea:a=r:=by lia
  have eb:b=c-1:=by lia
  subst ea eb;rw[if_pos hs,if_neg fun h'=>by have:=u2 h';lia,if_neg fun h'=>by have:=u3 h';lia,if_neg fun h'=>by have:=u4 h';lia];rfl
 ·have ea:a=r-1:=by lia
  have eb:b=c:=by lia
  subst ea eb;rw[if_neg fun h'=>by have:=u1 h';lia,if_neg fun h'=>by have:=u2 h';lia,if_neg fun h'=>by have:=u3 h';lia,if_pos hs];rfl
theorem E9(I:IsLay F l){a b:Sq}(h:a∉F\/b∉F):crs l a b=1:=by
 unfold crs;refine if_neg fun hs=>?_
 have:=Ds I hs
 rcases h with h|h
 ·exact h this.1
 ·exact h this.2
theorem Xq(nd:F.Nodup)(I:IsLay F l){x:Sq}(h:x∈F):Cd (H0 l) (V0 l) x=0:=by obtain⟨r,c⟩:=x;rw[aH,cR nd I h];simp
theorem Uz(I:IsLay F l){x:Sq}(h:x∉F):Cd (H0 l) (V0 l) x=4*sgn x:=by obtain⟨r,c⟩:=x;rw[aH,E9 I (.inr h),E9 I (.inl h),E9 I (.inl h),E9 I (.inr h)];lia
structure Hts (F:List Sq) (h:Lay->Sq->Int):Prop where
 dn:∀l,IsLay F l->∀x:Sq,BH x->(x∈F\/(x.1,x.2-1)∈F)->h l (x.1+1,x.2)=h l x+V0 l x
 rt:∀l,IsLay F l->∀x:Sq,BH x->(x∈F\/(x.1-1,x.2)∈F)->h l (x.1,x.2+1)=h l x+H0 l x
 out:∀l m,IsLay F l->IsLay F m->∀x:Sq,BH x->x∉F->h l x=h m x/\h l (x.1+1,x.2)=h m (x.1+1,x.2)/\h l (x.1,x.2+1)=h m (x.1,x.2+1)/\h l (x.1+1,x.2+1)=h m (x.1+1,x.2+1)
theorem b6(nd:F.Nodup)(hF:∀x∈F,0<=x.1/\x.1<=7/\0<=x.2/\x.2<=7)(hB:∀x,BH x->x∉F->Bare F x):∃h:Lay->Sq->Int,Hts F h:=by
 obtain⟨H,V,off,hc⟩:=YL hF hB;have cl:∀l,IsLay F l->∀x,BH x->Cd (fun z=>H0 l z+H z) (fun z=>V0 l z+V z) x=0:=by
  intro l I x hx;have e:Cd (fun z=>H0 l z+H z) (fun z=>V0 l z+V z) x=Cd (H0 l) (V0 l) x+Cd H V x:=by unfold Cd;simp only;lia
  rw[e,hc x hx];by_cases h:x∈F
  ·rw[Xq nd I h,if_pos h];rfl
  ·rw[Uz I h,if_neg h];lia
 let p:Lay->Sq->Int:=fun l=>pot (fun z=>H0 l z+H z) (fun z=>V0 l z+V z);have pV:∀l (x:Sq),-1<=x.1->p l (x.1+1,x.2)=p l x+(V0 l x+V x):=fun l x hx=>Wt _ _ hx;have pH:∀l,IsLay F l->∀x:Sq,-1<=x.1/\x.1<=9->-1<=x.2/\x.2<=8->p l (x.1,x.2+1)=p l x+(H0 l x+H x):=fun l I x h1 h2=>fu _ _ (cl l I) h1 h2;refine⟨p,fun l I x hb hx=>?_,fun l I x hb hx=>?_,?_⟩
 ·rw[pV l x hb.1,off.v x hx];lia
 ·rw[pH l I x ⟨hb.1,by have:=hb.2.1;lia⟩ hb.2.2,off.h x hx];lia
 ·
  have key:∀l m,IsLay F l->IsLay F m->∀x:Sq,Bare F x->p l x=p m x/\p l (x.1+1,x.2)=p m (x.1+1,x.2)/\p l (x.1,x.2+1)=p m (x.1,x.2+1)/\p l (x.1+1,x.2+1)=p m (x.1+1,x.2+1):=by
   intro l m I J;have around:∀x:Sq,x∉F->BH x->(p l x-p m x=p l (x.1+1,x.2)-p m (x.1+1,x.2))/\(p l x-p m x=p l (x.1,x.2+1)-p m (x.1,x.2+1))/\(p l x-p m x=p l (x.1+1,x.2+1)-p m (x.1+1,x.2+1)):=by
    intro x hn hb;obtain⟨r,c⟩:=x;have Sk:=hb.1;have oZ:=hb.2.1;have kK:=hb.2.2.1;have iV:=hb.2.2.2;simp only at Sk oZ kK iV;have v1:∀l,IsLay F l->V0 l (r,c)=sgn (r,c):=fun l I=>by unfold V0;rw[E9 I (.inr hn)];lia
    have h1:∀l,IsLay F l->H0 l (r,c)=-(sgn (r,c)):=fun l I=>by unfold H0;rw[E9 I (.inr hn)];lia
    have v2:∀l,IsLay F l->V0 l (r,c+1)=sgn (r,c+1):=fun l I=>by unfold V0;simp only[Int.add_sub_cancel];rw[E9 I (.inl hn)];lia
    have a1:=pV l (r,c) Sk;have a2:=pV m (r,c) Sk;have b1:=pH l I (r,c) ⟨Sk,by simp only;lia⟩ ⟨kK,iV⟩;have b2:=pH m J (r,c) ⟨Sk,by simp only;lia⟩ ⟨kK,iV⟩;have d1:=pV l (r,c+1) Sk;have d2:=pV m (r,c+1) Sk;rw[v1 l I]at a1;rw[v1 m J]at a2;rw[h1 l I]at b1;rw[h1 m J]at b2;rw[v2 l I]at d1;rw[v2 m J]at d2;simp only at a1 a2 b1 b2 d1 d2 ⊢;lia
   have h0:(-1,-1)∉F:=fun h=>by have:=(hF _ h).1;simp at this
   intro x hx
   induction hx with
   |base=>
    have o:=around (-1,-1) h0 (by unfold BH;simp);have z:∀l:Lay,p l (-1,-1)=0:=fun l=>by
     show pot _ _ (-1,-1)=0;unfold pot;simp[Ub]
    have z1:=z l;have z2:=z m;lia
   |step hx hn hb Xl ih=>
    rename_i x y;have o:=around y Xl hb;obtain⟨r,c⟩:=x;simp only[nbM,List.mem_cons,List.not_mem_nil,or_false]at hn;rcases hn with rfl|rfl|rfl|rfl<;>simp only[Int.sub_add_cancel]at o ih ⊢<;>lia
  exact fun l m I J x hb hn=>key l m I J x (hB x hb hn)
end
section
variable {F:List Sq}
theorem Pq(h:Ca F=false){s:Sq}{t:Int}(ht:t=-1\/t=1)(h1:s∈F)(h2:(s.1+1,s.2+t)∈F)(h3:(s.1,s.2+t)∉F)(h4:(s.1+1,s.2)∉F):False:=by
 have:Ca F=true:=by
  unfold Ca;rw[List.any_eq_true];refine⟨s,h1,?_⟩;rw[List.any_eq_true];refine⟨t,by rcases ht with rfl|rfl<;>simp,?_⟩;unfold Et;simp[h2,h3,h4]
 rw[h]at this;cases this
theorem XY(hp:Ca F=false){x y:Sq}(hx:Bare F x)(aW:x∉F)(lE:BH x)(ha:Adj x y)(hb:BH y)(hn:y∉F):Bare F y:=by
 obtain⟨a,b⟩:=x;obtain⟨c,d⟩:=y;unfold Adj at ha;unfold BH at hb lE;simp only at ha hb lE;have Xn:∀{u v:Int},Bare F (u,v)->∀{u' v':Int},(u'=u-1/\v'=v)\/(u'=u/\v'=v-1)\/(u'=u/\v'=v+1)\/(u'=u+1/\v'=v)->(-1<=u'/\u'≤8/\-1<=v'/\v'≤8)->(u',v')∉F->Bare F (u',v'):=by
  intro u v hu u' v' hn hb hf;refine .step hu ?_ hb hf;simp only[nbM,List.mem_cons,List.not_mem_nil,or_false,Prod.mk.injEq];exact hn
 by_cases h1:a=c\/b=d
 ·by_cases h2:a=c/\b=d
  ·obtain⟨rfl,rfl⟩:=h2;exact hx
  ·exact Xn hx (by lia) hb hn
 ·by_cases hu:(a,d)∈F
  ·by_cases hv:(c,b)∈F
   ·exfalso;by_cases hc:c=a+1
    ·subst hc;have hd:b=d+(b-d):=by lia
     refine Pq hp (s:=(a,d)) (t:=b-d) (by lia) hu ?_ ?_ ?_
     ·simp only;rw[<-hd];exact hv
     ·simp only;rw[<-hd];exact aW
     ·exact hn
    ·have UX:a=c+1:=by lia
     subst UX;have hd:d=b+(d-b):=by lia
     refine Pq hp (s:=(c,b)) (t:=d-b) (by lia) hv ?_ ?_ ?_
     ·simp only;rw[<-hd];exact hu
     ·simp only;rw[<-hd];exact hn
     ·exact aW
   ·exact Xn (Xn hx (u':=c) (v':=b) (by lia) (by lia) hv) (by lia) hb hn
  ·exact Xn (Xn hx (u':=a) (v':=d) (by lia) (by lia) hu) (by lia) hb hn
theorem W9(gd:Good F)(hp:Ca F=false)(hh:∀x,g2 F x->Con Adj (g2 F) (-1,-1) x):∀x,BH x->x∉F->Bare F x:=by
 have h0:(-1,-1)∉F:=fun h=>by have:=(gd.inn _ h).1;simp at this
 have key:∀x,Con Adj (g2 F) (-1,-1) x->Bare F x/\x∉F/\BH x:=by
  intro x h
  induction h with
  |base=>exact⟨.base,h0,by unfold BH;simp⟩
  |step _ ha hg ih=>exact⟨XY hp ih.1 ih.2.1 ih.2.2 ha hg.1 hg.2,hg.2,hg.1⟩
 exact fun x hb hn=>(key x (hh x ⟨hb,hn⟩)).1
end
section
variable {F:List Sq}{s:Sq}
def cor(x:Sq):List Sq:=[x,(x.1,x.2+1),(x.1+1,x.2),(x.1+1,x.2+1)]
theorem Aj{x y:Sq}:y∈cor x↔y=x\/y=(x.1,x.2+1)\/y=(x.1+1,x.2)\/y=(x.1+1,x.2+1):=by simp[cor]
theorem MK{β:Type}(f:Sq->β)(hv:∀x:Sq,(x∈F\/(x.1,x.2-1)∈F)->f (x.1+1,x.2)=f x)(hh:∀x:Sq,(x∈F\/(x.1-1,x.2)∈F)->f (x.1,x.2+1)=f x)(hang:∀x∈F,Con nbR (·∈F) s x)(hs:s∈F):∀x∈F,∀y∈cor x,f y=f s:=by
 have ig:∀x∈F,∀y∈cor x,f y=f x:=by
  intro x hx y hy;rcases Aj.mp hy with rfl|rfl|rfl|rfl
  ·rfl
  ·exact hh x (.inl hx)
  ·exact hv x (.inl hx)
  ·have:=hv (x.1,x.2+1) (.inr (by simp only[Int.add_sub_cancel];exact hx))
   exact this.trans (hh x (.inl hx))
 have all:∀x,Con nbR (·∈F) s x->x∈F->f x=f s:=by
  intro x h
  induction h with
  |base=>exact fun _=>rfl
  |step hx hn hy ih=>
   rename_i x y;intro Xl;have aW:x∈F:=by
    cases hx with
    |base=>exact hs
    |step _ _ g=>exact g
   have h1:=ih aW;have UU:y∈nbM x:=hn;simp only[nbM,List.mem_cons,List.not_mem_nil,or_false]at UU;rcases UU with rfl|rfl|rfl|rfl
   ·rw[<-h1,<-hv _ (.inl Xl)];simp only[Int.sub_add_cancel]
   ·rw[<-h1,<-hh _ (.inl Xl)];simp only[Int.sub_add_cancel]
   ·rw[<-h1];exact ig x aW _ (Aj.mpr (.inr (.inl rfl)))
   ·rw[<-h1];exact ig x aW _ (Aj.mpr (.inr (.inr (.inl rfl))))
 exact fun x hx y hy=>(ig x hx y hy).trans (all x (hang x hx) hx)
structure Pl (F:List Sq) (h:Lay->Sq->Int):Prop where
 gd:Good F
 hts:Hts F h
 hang:∃s∈F,∀x∈F,Con nbR (·∈F) s x
variable {h:Lay->Sq->Int}{l m:Lay}
theorem Pl.box(P:Pl F h){x:Sq}(hx:x∈F\/(x.1,x.2-1)∈F\/(x.1-1,x.2)∈F):BH x:=by unfold BH;rcases hx with hx|hx|hx<;>have:=P.gd.inn _ hx<;>(try simp only at this)<;>lia
theorem Pl.dn(P:Pl F h)(I:IsLay F l){x:Sq}(hx:x∈F\/(x.1,x.2-1)∈F):h l (x.1+1,x.2)=h l x+V0 l x:=P.hts.dn l I x (P.box (hx.elim .inl fun z=>.inr (.inl z))) hx
theorem Pl.rt(P:Pl F h)(I:IsLay F l){x:Sq}(hx:x∈F\/(x.1-1,x.2)∈F):h l (x.1,x.2+1)=h l x+H0 l x:=P.hts.rt l I x (P.box (hx.elim .inl fun z=>.inr (.inr z))) hx
theorem Ck(l:Lay)(a b:Sq):crs l a b=1\/crs l a b=-3:=by unfold crs;split<;>simp
theorem Dx(x:Sq):sgn x=1\/sgn x=-1:=by unfold sgn;split<;>simp
theorem YQ(l m:Lay)(x:Sq):(V0 l x-V0 m x)%4=0:=by unfold V0;rcases Ck l (x.1,x.2-1) x with e1|e1<;>rcases Ck m (x.1,x.2-1) x with e2|e2<;>rcases Dx x with e3|e3<;>rw[e1,e2,e3]<;>decide
theorem Yx(l m:Lay)(x:Sq):(H0 l x-H0 m x)%4=0:=by unfold H0;rcases Ck l (x.1-1,x.2) x with e1|e1<;>rcases Ck m (x.1-1,x.2) x with e2|e2<;>rcases Dx x with e3|e3<;>rw[e1,e2,e3]<;>decide
theorem Zw(l:Lay)(x:Sq):-3<=V0 l x/\V0 l x<=3:=by unfold V0;rcases Ck l (x.1,x.2-1) x with e1|e1<;>rcases Dx x with e3|e3<;>rw[e1,e3]<;>decide
theorem Z2(l:Lay)(x:Sq):-3<=H0 l x/\H0 l x<=3:=by unfold H0;rcases Ck l (x.1-1,x.2) x with e1|e1<;>rcases Dx x with e3|e3<;>rw[e1,e3]<;>decide
theorem Pl.edge(P:Pl F h)(I:IsLay F l)(J:IsLay F m){y:Sq}(hy:0<=y.1/\y.1<=8/\0<=y.2/\y.2<=8)(hb:y∉F\/(y.1-1,y.2)∉F\/(y.1,y.2-1)∉F\/(y.1-1,y.2-1)∉F):h l y=h m y:=by
 obtain⟨r,c⟩:=y;simp only at hy hb;rcases hb with hb|hb|hb|hb
 ·exact(P.hts.out l m I J (r,c) (by unfold BH;simp only;lia) hb).1
 ·have:=(P.hts.out l m I J (r-1,c) (by unfold BH;simp only;lia) hb).2.1
  simp only[Int.sub_add_cancel]at this;exact this
 ·have:=(P.hts.out l m I J (r,c-1) (by unfold BH;simp only;lia) hb).2.2.1
  simp only[Int.sub_add_cancel]at this;exact this
 ·have:=(P.hts.out l m I J (r-1,c-1) (by unfold BH;simp only;lia) hb).2.2.2
  simp only[Int.sub_add_cancel]at this;exact this
theorem Pl.start(P:Pl F h):∃s∈F,∀x∈F,(x=s\/AN s x):=by
 obtain⟨a,t,e⟩:=List.exists_cons_of_ne_nil P.gd.ne;refine⟨a,by rw[e];simp,fun x hx=>?_⟩;rw[e]at hx;rcases List.mem_cons.mp hx with rfl|hx
 ·exact .inl rfl
 ·have:=P.gd.up
  rw[e]at this;exact .inr ((List.pairwise_cons.mp this).1 x hx)
theorem Pl.cor_in(P:Pl F h){x y:Sq}(hx:x∈F)(hy:y∈cor x):0<=y.1/\y.1<=8/\0<=y.2/\y.2<=8:=by
 have:=P.gd.inn x hx
 rcases Aj.mp hy with rfl|rfl|rfl|rfl<;>(try simp only)<;>lia
theorem Pl.zero(P:Pl F h)(I:IsLay F l)(J:IsLay F m){s:Sq}(hs:s∈F)(hm:∀x∈F,(x=s\/AN s x)):h l s=h m s:=by
 have hn:(s.1-1,s.2)∉F:=fun h=>by
  rcases hm _ h with e|e
  ·have:=congrArg Prod.fst e;simp only at this;lia
  ·unfold AN at e;simp only at e;lia
 exact P.edge I J (P.cor_in hs (Aj.mpr (.inl rfl))) (.inr (.inl hn))
theorem Pl.hangs(P:Pl F h){β:Type}(f:Sq->β)(hv:∀x:Sq,(x∈F\/(x.1,x.2-1)∈F)->f (x.1+1,x.2)=f x)(hh:∀x:Sq,(x∈F\/(x.1-1,x.2)∈F)->f (x.1,x.2+1)=f x){x y x' y':Sq}(hx:x∈F)(hy:y∈cor x)(eE:x'∈F)(US:y'∈cor x'):f y=f y':=by obtain⟨s,hs,hang⟩:=P.hang;rw[MK f hv hh hang hs x hx y hy,MK f hv hh hang hs x' eE y' US]
theorem Pl.four(P:Pl F h)(I:IsLay F l)(J:IsLay F m){x y:Sq}(hx:x∈F)(hy:y∈cor x):(h l y-h m y)%4=0:=by
 obtain⟨s,hs,hm⟩:=P.start;have z:=P.zero I J hs hm
 have:=P.hangs (fun z=>(h l z-h m z)%4) (fun x hx=>by
  rw[P.dn I hx,P.dn J hx]
  have:=YQ l m x
  lia) (fun x hx=>by
  rw[P.rt I hx,P.rt J hx]
  have:=Yx l m x
  lia) hx hy hs (Aj.mpr (.inl rfl))
 rw[this,z];simp
theorem Pl.tell(P:Pl F h)(I:IsLay F l)(J:IsLay F m)(e:∀x∈F,∀y∈cor x,h l y=h m y):l=m:=by
 have sub:∀{l m},IsLay F l->IsLay F m->(∀x∈F,∀y∈cor x,h l y=h m y)->∀t∈l,t∈m:=by
  intro l m I J e t ht;obtain⟨h1,h2⟩:=Ds I ht;have g:=U8 (I.st t ht).2 (I.st t ht).1;obtain⟨⟨r,c⟩,⟨r',c'⟩⟩:=t;simp only[Prod.mk.injEq]at h1 h2 g;rcases g with⟨rfl,rfl⟩|⟨rfl,rfl⟩
  ·have a1:=P.dn I (x:=(r',c+1)) (.inl h2);have a2:=P.dn J (x:=(r',c+1)) (.inl h2);rw[e _ h2 _ (Aj.mpr (.inr (.inr (.inl rfl)))),e _ h2 _ (Aj.mpr (.inl rfl))]at a1;have a3:V0 l (r',c+1)=V0 m (r',c+1):=by lia
   unfold V0 crs at a3;simp only[Int.add_sub_cancel]at a3;rw[if_pos ht]at a3;by_cases hm:((r',c),(r',c+1))∈m
   ·exact hm
   ·rw[if_neg hm]at a3;rcases Dx (r',c+1)with e3|e3<;>rw[e3]at a3<;>cases a3
  ·have a1:=P.rt I (x:=(r+1,c')) (.inl h2);have a2:=P.rt J (x:=(r+1,c')) (.inl h2);rw[e _ h2 _ (Aj.mpr (.inr (.inl rfl))),e _ h2 _ (Aj.mpr (.inl rfl))]at a1;have a3:H0 l (r+1,c')=H0 m (r+1,c'):=by lia
   unfold H0 crs at a3;simp only[Int.add_sub_cancel]at a3;rw[if_pos ht]at a3;by_cases hm:((r,c'),(r+1,c'))∈m
   ·exact hm
   ·rw[if_neg hm]at a3;rcases Dx (r+1,c')with e3|e3<;>rw[e3]at a3<;>cases a3
 refine I.uniq J ((List.perm_ext_iff_of_nodup (M5 I) (M5 J)).mpr fun t=>⟨sub I J e t,sub J I (fun x hx y hy=>(e x hx y hy).symm) t⟩)
end
end TF
namespace TF
open PySem PySem.Spec L2
open PyProof.Rows hiding St RelV
structure Zt (h:Heap) (z TI TO i1 i2 l1 l2:Addr) (f0:Value) (k:Nat) (xs ys:Array Value):Prop where
 hz:IsZip h z TI TO f0
 hI:IsPair h TI (.ref i1) (.ref i2)
 hO:∃a b,IsPair h TO a b
 h1:h.IsTupleIter i1 l1 k
 h2:h.IsTupleIter i2 l2 k
 t1:h.IsTuple l1 xs
 t2:h.IsTuple l2 ys
section
variable {prog:Program}{w:World}{A:Around}{E:Value->Shared->Prop}{s:Shared}{z TI TO i1 i2 l1 l2:Addr}{k:Nat}{xs ys:Array Value}{x y:Value}
theorem Kq{Q:Fin->Shared->Prop}(D:ZipApart z TI TO i1 i2 l1 l2)(Z:Zt s.heap z TI TO i1 i2 l1 l2 .none k xs ys)(go:∀h1,IsZip h1 z TI TO .ellipsis->Heap.SameBut z s.heap h1->(match xs[k]? with
   |none=>∀h2 e,Heap.ExtBut i1 h1 h2->(∃o,h2.get? e=some o/\o.cls=.type "StopIteration")->wpAny (model prog w) A (setField (.ref z) 0 .none) (fun _ s'=>E (.ref e) s') E { s with heap:=h2 }
   |some x=>∀h2 h3 b,h2.IsTupleIter i1 l1 (k+1)->Heap.SameBut i1 h1 h2->IsPair h3 TO x b->Heap.SameBut TO h2 h3->(match ys[k]? with
    |none=>∀h4 e,Heap.ExtBut i2 h3 h4->(∃o,h4.get? e=some o/\o.cls=.type "StopIteration")->wpAny (model prog w) A (setField (.ref z) 0 .none) (fun _ s'=>E (.ref e) s') E { s with heap:=h4 }
    |some y=>∀h4 h5,h4.IsTupleIter i2 l2 (k+1)->Heap.SameBut i2 h3 h4->IsPair h5 TO x y->Heap.SameBut TO h4 h5 →
      wpAny (model prog w) A (do let result <-newTuple [x,y];Builtin.SmallTypes.ownedTupleHandOut (.ref z) result;ret result) Q E { s with heap:=h5 })))(hh:A.handled=none):wpAny (model prog w) A (Builtin.«zip.__next__» ⟨[.ref z],[]⟩) Q E s:=by
 obtain⟨a,b,hO⟩:=Z.hO;have hz:=Z.hz;show wpAny _ _ (field (.ref z) 2 >>= _) _ _ _;refine wpAny_bind (wpAny_field hz rfl (x:=.bool false) rfl ?_);show wpAny _ _ (field (.ref z) 3 >>= _) _ _ _;refine wpAny_bind (wpAny_field hz rfl (x:=.ref TI) rfl (wpAny_bind (wpAny_seqItems Z.hI rfl ?_)));show wpAny _ _ (Builtin.SmallTypes.ownedTupleIsFree (.ref z) >>= _) _ _ _;refine wpAny_bind ?_;unfold Builtin.SmallTypes.ownedTupleIsFree;refine wpAny_bind (wpAny_field hz rfl (x:=.none) rfl (wpAny_pure ?_));simp only[if_true];refine wpAny_bind (wpAny_rule (wpAny_bind (wpAny_field hz rfl (x:=.ref TO) rfl (wpAny_bind (wpAny_setField_rec hz (by simp) fun h1 Sl s1=>wpAny_bind ?_)))));replace Sl:IsZip h1 z TI TO .ellipsis:=Sl;have G:=go h1 Sl s1;have a1:h1.IsTupleIter i1 l1 k:=Z.h1.at fun o e=>s1.extBut _ o D.i1z e;have a2:h1.IsTuple l1 xs:=Z.t1.extBut s1.extBut D.l1z;have a3:IsPair h1 TO a b:=s1.extBut _ _ D.TOz hO;simp only[List.zipIdx_cons,List.zipIdx_nil,List.forIn_cons,List.forIn_nil];refine wpAny_bind (wpAny_bind (wpAny_onRaise ?_));show wpAny _ _ (Builtin.SmallTypes.nextOf (.ref i1) >>= _) _ _ _;cases hx:xs[k]? with
 |none=>
  rw[hx]at G;exact wpAny_bind (Lx hh a1 a2 hx fun h2 e s2 he=>G h2 e s2 he)
 |some x=>
  rw[hx]at G;refine wpAny_bind (KL a1 a2 hx fun h2 b1 s2=>wpAny_pure ?_);have b3:IsPair h2 TO a b:=s2.extBut _ _ D.TOi1 a3;refine wpAny_bind (wpAny_seqItems b3 rfl (wpAny_bind (wpAny_updateSeq_pair b3 fun h3 c3 s3=>wpAny_bind (wpAny_letGo (wpAny_pure ?_)))));replace c3:IsPair h3 TO x b:=c3;have G2:=G h2 h3 b b1 s2 c3 s3;refine wpAny_bind (wpAny_bind (wpAny_onRaise ?_));show wpAny _ _ (Builtin.SmallTypes.nextOf (.ref i2) >>= _) _ _ _;have e1:h3.IsTupleIter i2 l2 k:=Z.h2.at fun o e=>s3.extBut _ o D.TOi2.symm (s2.extBut _ o D.i12.symm (s1.extBut _ o D.i2z e));have e2:h3.IsTuple l2 ys:=((Z.t2.extBut s1.extBut D.l2z).extBut s2.extBut D.l2i1).extBut s3.extBut D.l2TO;cases hy:ys[k]? with
  |none=>
   rw[hy]at G2;exact wpAny_bind (Lx hh e1 e2 hy fun h4 e s4 he=>G2 h4 e s4 he)
  |some y=>
   rw[hy]at G2;refine wpAny_bind (KL e1 e2 hy fun h4 d1 s4=>wpAny_pure ?_);have d3:IsPair h4 TO x b:=s4.extBut _ _ D.TOi2 c3;refine wpAny_bind (wpAny_seqItems d3 rfl (wpAny_bind (wpAny_updateSeq_pair d3 fun h5 f3 s5=>wpAny_bind (wpAny_letGo (wpAny_pure (wpAny_pure ?_))))));replace f3:IsPair h5 TO x y:=f3;exact wpAny_bind (wpAny_seqItems f3 rfl (G2 h4 h5 d1 s4 f3 s5))
theorem T4{Q:Option Value->Shared->Prop}(hh:A.in1.handled=none)(D:ZipApart z TI TO i1 i2 l1 l2)(Z:Zt s.heap z TI TO i1 i2 l1 l2 .none k xs ys)(hx:xs[k]?=some x)(hy:ys[k]?=some y)(hQ:∀h',Zt h' z TI TO i1 i2 l1 l2 (rawInt s.heap.objs.size) (k+1) xs ys->IsPair h' s.heap.objs.size x y->(∀c o,c≠z->c≠TO->c≠i1->c≠i2->s.heap.get? c=some o->h'.get? c=some o)->Q (some (.ref s.heap.objs.size)) { s with heap:=h' }) :
  wpAny (model prog w) A (pyNext (.ref z)) Q E s:=by
 have hT:s.TypeIs (.ref z) "zip":=⟨_,Z.hz,rfl⟩;unfold pyNext;refine wpAny_bind (wpAny_attempt (wpAny_callSpecial?_slot (name:=Str.ofString "__next__") hT F.slot_zip_next (wpAny_call_entry F.slot_zip_next hT F.entry_zip_next ?_ (F.args_zip_next_1 _))));refine Kq D Z (fun h1 Sl s1=>?_) hh;rw[hx];intro h2 h3 b b1 s2 c3 s3;rw[hy];intro h4 h5 d1 s4 f3 s5;have hsz:h5.objs.size=s.heap.objs.size:=by rw[s5.1,s4.1,s3.1,s2.1,s1.1]
 have lY:IsZip h5 z TI TO .ellipsis:=s5.extBut _ _ D.TOz.symm (s4.extBut _ _ D.i2z.symm (s3.extBut _ _ D.TOz.symm (s2.extBut _ _ D.i1z.symm Sl)));have k5:∀c o,c≠z->c≠TO->c≠i1->c≠i2->s.heap.get? c=some o->h5.get? c=some o:=fun c o c1 c2 c3 c4 e=>s5.extBut _ _ c2 (s4.extBut _ _ c4 (s3.extBut _ _ c2 (s2.extBut _ _ c3 (s1.extBut _ _ c1 e))));have g1:h5.IsTupleIter i1 l1 (k+1):=b1.at fun o e=>s5.extBut _ o D.TOi1.symm (s4.extBut _ o D.i12 (s3.extBut _ o D.TOi1.symm e));have g2:h5.IsTupleIter i2 l2 (k+1):=d1.at fun o e=>s5.extBut _ o D.TOi2.symm e;have zl:z<h5.objs.size:=Heap.lt_size lY;refine wpAny_bind (wpAny_newTuple (wpAny_bind ?_));unfold Builtin.SmallTypes.ownedTupleHandOut;have pM:IsZip (h5.push { cls:=.type "tuple",data:=.seq #[x,y] }) z TI TO .ellipsis:=Heap.get?_push_of_some _ lY;refine wpAny_bind (wpAny_setField_rec pM (by simp) fun h7 kW s7=>?_);replace kW:IsZip h7 z TI TO (rawInt h5.objs.size):=kW;refine wpAny_setField_rec kW (by simp) fun h8 iG s8=>?_;replace iG:IsZip h8 z TI TO (rawInt h5.objs.size):=iG;have up:∀c o,c≠z->h5.get? c=some o->h8.get? c=some o:=fun c o c1 e=>s8.extBut _ _ c1 (s7.extBut _ _ c1 (Heap.get?_push_of_some _ e));have nO:IsPair h8 h5.objs.size x y:=s8.extBut _ _ (Nat.ne_of_gt zl) (s7.extBut _ _ (Nat.ne_of_gt zl) (Heap.get?_push_size _ rfl));rw[hsz]at iG nO;refine wpAny_pure ⟨_,rfl,wpAny_pure ?_⟩;show Q (some (.ref h5.objs.size)) _;rw[hsz];have kk:∀c o,c≠z->c≠TO->c≠i1->c≠i2->s.heap.get? c=some o->h8.get? c=some o:=fun c o c1 c2 c3 c4 e=>up c o c1 (k5 c o c1 c2 c3 c4 e);refine hQ h8 ⟨iG,kk _ _ D.TIz D.TITO D.TIi1 D.TIi2 Z.hI,⟨x,y,up _ _ D.TOz f3⟩,g1.at fun o e=>up _ o D.i1z e,g2.at fun o e=>up _ o D.i2z e,Z.t1.at fun o e=>kk _ o D.l1z D.l1TO D.l1i1 D.l1i2 e,Z.t2.at fun o e=>kk _ o D.l2z D.l2TO D.l2i1 D.l2i2 e⟩ nO kk
theorem WV{Q:Option Value->Shared->Prop}(hh:A.in1.handled=none)(D:ZipApart z TI TO i1 i2 l1 l2)(Z:Zt s.heap z TI TO i1 i2 l1 l2 .none k xs ys)(jj:xs[k]?=none\/ys[k]?=none)(hQ:∀h',(∀c o,c≠z->c≠TO->c≠i1->c≠i2->s.heap.get? c=some o->h'.get? c=some o)->Q none { s with heap:=h' }):wpAny (model prog w) A (pyNext (.ref z)) Q E s:=by
 have hT:s.TypeIs (.ref z) "zip":=⟨_,Z.hz,rfl⟩;unfold pyNext;refine wpAny_bind (wpAny_attempt (wpAny_callSpecial?_slot (name:=Str.ofString "__next__") hT F.slot_zip_next (wpAny_call_entry F.slot_zip_next hT F.entry_zip_next ?_ (F.args_zip_next_1 _))));refine Kq D Z (fun h1 Sl s1=>?_) hh;cases hx:xs[k]? with
 |none=>
  intro h2 e s2 ⟨oe,dA,gn⟩;have Z0:IsZip h2 z TI TO .ellipsis:=s2 _ _ D.i1z.symm Sl;have j8:e≠z:=fun x=>by subst x;rw[Z0]at dA;cases dA;simp at gn
  refine wpAny_setField_rec Z0 (by simp) fun h3 _ s3=>?_;refine wpAny_bind (wpAny_isInstance (T:="StopIteration") (b:=true) ⟨oe,s3.extBut _ _ j8 dA,gn⟩ isSubtype_stop (wpAny_pure (hQ h3 fun c o c1 _ c3 _ x=>?_)));exact s3.extBut _ _ c1 (s2 _ _ c3 (s1.extBut _ _ c1 x))
 |some x=>
  have hy:ys[k]?=none:=by rcases jj with h|h;rw[hx]at h;cases h;exact h
  intro h2 h3 b b1 s2 c3 s3;rw[hy];intro h4 e s4 ⟨oe,dA,gn⟩;have lM:IsZip h4 z TI TO .ellipsis:=s4 _ _ D.i2z.symm (s3.extBut _ _ D.TOz.symm (s2.extBut _ _ D.i1z.symm Sl));have j8:e≠z:=fun x=>by subst x;rw[lM]at dA;cases dA;simp at gn
  refine wpAny_setField_rec lM (by simp) fun h5 _ s5=>?_;refine wpAny_bind (wpAny_isInstance (T:="StopIteration") (b:=true) ⟨oe,s5.extBut _ _ j8 dA,gn⟩ isSubtype_stop (wpAny_pure (hQ h5 fun c o c1 c2 c3 c4 x=>?_)));exact s5.extBut _ _ c1 (s4 _ _ c4 (s3.extBut _ _ c2 (s2.extBut _ _ c3 (s1.extBut _ _ c1 x))))
end
abbrev zO(I O:Addr):Obj:={ cls:=.type "zip",data:=.fields #[.none,.bool false,.bool false,.ref I,.ref O] }
abbrev prO(a b:Value):Obj:={ cls:=.type "tuple",data:=.seq #[a,b] }
abbrev zq2(h:Heap)(a b:Addr):Heap:=(h.push (tiO a)).push (tiO b)
abbrev zq3(h:Heap)(a b:Addr):Heap:=(zq2 h a b).push (prO (.ref h.objs.size) (.ref (h.push (tiO a)).objs.size))
abbrev zq4(h:Heap)(a b:Addr):Heap:=(zq3 h a b).push (prO .none .none)
abbrev zq5(h:Heap)(a b:Addr):Heap:=(zq4 h a b).push (zO (zq2 h a b).objs.size (zq3 h a b).objs.size)
theorem Rb(a b:Addr)(xs ys:Array Value) :
  Meets (Builtin.«zip.__new__» ⟨[.type "zip",.ref a,.ref b],[]⟩) (fun _ R s=>s.heap.IsTuple a xs/\s.heap.IsTuple b ys/\R (.ok (.ret (.ref (zq4 s.heap a b).objs.size))) { s with heap:=zq5 s.heap a b }):=
 .of_wp fun prog w A R s h=>by
  obtain⟨hp,g,d,tk,os⟩:=s;obtain⟨t1,t2,h⟩:=h;have HV:=sub_zip;have q1:Heap.IsTuple (Shared.heap ⟨hp,g,d,tk,os⟩) a xs:=t1;have q2:Heap.IsTuple (Shared.heap ⟨hp.push (tiO a),g,d,tk,os⟩) b ys:=Heap.IsTuple.push t2 _;wp_walk using wpAny_pyIter_tuple q1,wpAny_pyIter_tuple q2;exact⟨_,rfl,h⟩
section
variable {prog:Program}{w:World}{A:Around}{E:Value->Shared->Prop}{s:Shared}
theorem TM{a b:Addr}{xs ys:Array Value}{Q:Value->Shared->Prop}(t1:s.heap.IsTuple a xs)(t2:s.heap.IsTuple b ys)(h:∀h',Zt h' (s.heap.objs.size+4) (s.heap.objs.size+2) (s.heap.objs.size+3) s.heap.objs.size (s.heap.objs.size+1) a b .none 0 xs ys->(∀c o,s.heap.get? c=some o->h'.get? c=some o)->Q (.ref (s.heap.objs.size+4)) { s with heap:=h' }) :
  wpAny (model prog w) A (call (.type "zip") [.ref a,.ref b]) Q E s:=by
 refine callType_new F.called_zip (by decide) (F.typeCall_zip_2 _ _) (F.newCall_zip_2 _ _) (fun obj=>F.args_object_init_3 obj _ _) F.entry_zip_new (Rb a b xs ys) ⟨t1,t2,?_⟩;have z1:(s.heap.push (tiO a)).objs.size=s.heap.objs.size+1:=Heap.size_push ..;have z2:(zq2 s.heap a b).objs.size=s.heap.objs.size+2:=by rw[Heap.size_push,z1]
 have z3:(zq3 s.heap a b).objs.size=s.heap.objs.size+3:=by rw[Heap.size_push,z2]
 have z4:(zq4 s.heap a b).objs.size=s.heap.objs.size+4:=by rw[Heap.size_push,z3]
 have g5:(zq5 s.heap a b).get? (zq4 s.heap a b).objs.size=some (zO (zq2 s.heap a b).objs.size (zq3 s.heap a b).objs.size):=Heap.get?_push_size _ rfl;have g4:(zq5 s.heap a b).get? (zq3 s.heap a b).objs.size=some (prO .none .none):=Heap.get?_push_of_some _ (Heap.get?_push_size _ rfl);have g3:(zq5 s.heap a b).get? (zq2 s.heap a b).objs.size=some (prO (.ref s.heap.objs.size) (.ref (s.heap.push (tiO a)).objs.size)):=Heap.get?_push_of_some _ (Heap.get?_push_of_some _ (Heap.get?_push_size _ rfl));have g2:(zq5 s.heap a b).get? (s.heap.push (tiO a)).objs.size=some (tiO b):=Heap.get?_push_of_some _ (Heap.get?_push_of_some _ (Heap.get?_push_of_some _ (Heap.get?_push_size _ rfl)));have g1:(zq5 s.heap a b).get? s.heap.objs.size=some (tiO a):=Heap.get?_push_of_some _ (Heap.get?_push_of_some _ (Heap.get?_push_of_some _ (Heap.get?_push_of_some _ (Heap.get?_push_size _ rfl))));have kp:∀c o,s.heap.get? c=some o->(zq5 s.heap a b).get? c=some o:=fun c o e=>Heap.get?_push_of_some _ (Heap.get?_push_of_some _ (Heap.get?_push_of_some _ (Heap.get?_push_of_some _ (Heap.get?_push_of_some _ e))));show _/\_;rw[z2,z3,z4]at g5;rw[z1,z2]at g3;rw[z3]at g4;rw[z1]at g2;rw[z4];exact⟨⟨_,g5,rfl⟩,h _ ⟨g5,g3,⟨_,_,g4⟩,⟨_,g1,rfl,rfl⟩,⟨_,g2,rfl,rfl⟩,t1.at fun o e=>kp _ o e,t2.at fun o e=>kp _ o e⟩ kp⟩
end
def Itz(K:PySem.W.Frag)(a b:Addr):It:=⟨fun i H=>∃xs ys x y,SqT K H a xs/\SqT K H b ys/\xs[i]?=some x/\ys[i]?=some y,fun i H v H'=>∃x y T,H T=none/\v=.ref T/\H'=upd H T (.tup [x,y])/\(∀xs,SqT K H a xs->xs[i]?=some x)/\∀ys,SqT K H b ys->ys[i]?=some y,
  fun i H=>∃xs ys,SqT K H a xs/\SqT K H b ys/\(xs.length<=i\/ys.length<=i)⟩
def Zs(z TI TO i1 i2 l1 l2:Addr)(i:Nat)(h:Heap):Prop:=IsZip h z TI TO .none/\IsPair h TI (.ref i1) (.ref i2)/\(∃a b,IsPair h TO a b)/\h.IsTupleIter i1 l1 i/\h.IsTupleIter i2 l2 i
theorem V2{P:Program}{w:World}{K:PySem.W.Frag}{elts:List Expr}{x1:Nat}{pos:Pos}{z TI TO i1 i2 a b:Addr}(D:ZipApart z TI TO i1 i2 a b):Turn P w K (.Tuple elts x1 pos) (Itz K a b) [z,TI,TO,i1,i2] z (Zs z TI TO i1 i2 a b) where
 mem:=by simp
 obj:=fun i h st c hc=>by
  obtain⟨s1,s2,⟨x,y,s3⟩,⟨o4,s4,c4,d4⟩,⟨o5,s5,c5,d5⟩⟩:=st;simp only[List.mem_cons,List.not_mem_nil,or_false]at hc;rcases hc with rfl|rfl|rfl|rfl|rfl
  ·exact⟨_,s1,fun v z=>by cases z⟩
  ·exact⟨_,s2,fun v z=>by cases z⟩
  ·exact⟨_,s3,fun v z=>by cases z⟩
  ·exact⟨o4,s4,fun v z=>by rw[d4]at z;cases z⟩
  ·exact⟨o5,s5,fun v z=>by rw[d5]at z;cases z⟩
 keep:=fun i h h' st k=>by
  obtain⟨s1,s2,⟨x,y,s3⟩,s4,s5⟩:=st;exact⟨k z (by simp) _ s1,k TI (by simp) _ s2,⟨x,y,k TO (by simp) _ s3⟩,s4.at fun o e=>k i1 (by simp) o e,s5.at fun o e=>k i2 (by simp) o e⟩
 item:=by
  intro X hP hw hK hc i AD s σ H E I hf st hg;subst hP hw hK;obtain⟨xs,ys,x,y,YG,Yu,hx,hy⟩:=hg;obtain⟨T9,ZJ,p1,Sl⟩:=I.tuple YG;obtain⟨Jh,Yl,p2,Z0⟩:=I.tuple Yu;obtain⟨u1,Y7,kd⟩:=ZJ.get hx;obtain⟨u2,OV,kR⟩:=Yl.get hy;obtain⟨s1,s2,s3,s4,s5⟩:=st;refine T4 (by simpa using I.ok.hd hc) D ⟨s1,s2,s3,s4,s5,p1,p2⟩ (by simpa using Y7) (by simpa using OV) fun h1 Z1 hT hk=>?_;refine⟨_,rfl,wpAny_letOwnedTupleGo_zip (s:={ s with heap:=h1 }) Z1.hz fun h2 bw sb=>?_⟩;have Kh:∀c o,c≠z->h1.get? c=some o->h2.get? c=some o:=fun c o hb q=>sb.extBut c o hb q;have UI:H s.heap.objs.size=none:=I.hok.fresh (Nat.le_refl _);have dS:z<s.heap.objs.size:=Heap.lt_size s1;have FU:∀c o,c∉[z,TI,TO,i1,i2]->s.heap.get? c=some o->h2.get? c=some o:=fun c o hm q=>by
   simp only[List.mem_cons,List.not_mem_nil,or_false,not_or]at hm;exact Kh c o hm.1 (hk c o hm.1 hm.2.2.1 hm.2.2.2.1 hm.2.2.2.2 q)
  have Pj:∀c o,H c=some o->c∉[z,TI,TO,i1,i2]:=fun c o q hm=>by
   have:=(hf c hm).1
   rw[q]at this;cases this
  have un:Un (frs X.stack) [z,TI,TO,i1,i2] H (upd H s.heap.objs.size (.tup [x,y])) s.heap h2:=by
   refine⟨fun c o q n hb hc=>FU c o hc q,fun c o q n hb hc=>⟨o.slots,FU c o hc q⟩,fun c o q n hc=>?_,fun c o q hc=>⟨o,FU c o hc q⟩,fun c ys q=>?_,fun c o v q=>?_,fun c ps q=>⟨#[],?_⟩⟩
   ·rw[AZ (Nat.ne_of_lt (Heap.lt_size q))];exact n
   ·rw[AZ (Ak q UI)];exact q
   ·rw[AZ (Ak q UI)];exact q
   ·rw[AZ (Ak q UI),q];simp
  have hok:HOk X.prog X.w (upd H s.heap.objs.size (.tup [x,y])) h2:=fun c v q=>by
   by_cases hb:c=s.heap.objs.size
   ·subst hb;rw[A2]at q;cases q;exact⟨by show 2<=sizeLine;rw[sizeLine_eq];decide,[u1,u2],.cons kd (.cons kR .nil),_,Kh _ _ (Nat.ne_of_gt dS) hT,rfl,_,rfl⟩
   ·rw[AZ hb]at q;refine(I.hok c v q).stay (fun e o hc r=>?_) (fun e r=>by rw[AZ (Ak r UI)];exact r) fun e ys r=>by rw[AZ (Ak r UI)];exact r
    rcases hc with rfl|hc
    ·exact FU _ o (Pj _ _ q) r
    ·exact FU e o (Pj _ _ hc) r
  have I1:Inv X AD σ (upd H s.heap.objs.size (.tup [x,y])) { s with heap:=h2 }:=I.call' (s':={ s with heap:=h2 }) rfl un hok I.bare fun c hb=>by
   have:=hf c hb
   exact⟨this.2.2.2.1,this.2.1,this.2.2.2.2.1,this.2.2.2.2.2⟩
  refine⟨.ref s.heap.objs.size,_,I1,rfl,⟨x,y,_,UI,rfl,rfl,fun zs US=>by rw[I.tuple_inj US YG];exact hx,fun zs US=>by rw[I.tuple_inj US Yu];exact hy⟩,⟨bw,Kh _ _ D.TIz Z1.hI,?_,Z1.h1.at fun o e=>Kh _ o D.i1z e,Z1.h2.at fun o e=>Kh _ o D.i2z e⟩,fun c hb=>?_⟩
  ·obtain⟨a',b',e⟩:=Z1.hO;exact⟨a',b',Kh _ _ D.TOz e⟩
  ·have BC:c<s.heap.objs.size:=by
    simp only[List.mem_cons,List.not_mem_nil,or_false]at hb;obtain⟨a',b',s3⟩:=s3;obtain⟨o4,s4,_⟩:=s4;obtain⟨o5,s5,_⟩:=s5;rcases hb with rfl|rfl|rfl|rfl|rfl
    ·exact Heap.lt_size s1
    ·exact Heap.lt_size s2
    ·exact Heap.lt_size s3
    ·exact Heap.lt_size s4
    ·exact Heap.lt_size s5
   rw[AZ (Nat.ne_of_lt BC)];exact(hf c hb).1
 done:=by
  intro X hP hw hK hc i AD s σ H E I hf st hg;subst hP hw hK;obtain⟨xs,ys,YG,Yu,Yj⟩:=hg;obtain⟨T9,ZJ,p1,Sl⟩:=I.tuple YG;obtain⟨Jh,Yl,p2,Z0⟩:=I.tuple Yu;obtain⟨s1,s2,s3,s4,s5⟩:=st;have l1:=ZJ.length;have l2:=Yl.length;refine WV (by simpa using I.ok.hd hc) D ⟨s1,s2,s3,s4,s5,p1,p2⟩ (Yj.imp (fun h=>by simp;lia) fun h=>by simp;lia) fun h' hk=>⟨rfl,?_⟩;have FU:∀c o,c∉[z,TI,TO,i1,i2]->s.heap.get? c=some o->h'.get? c=some o:=fun c o hm q=>by
   simp only[List.mem_cons,List.not_mem_nil,or_false,not_or]at hm;exact hk c o hm.1 hm.2.2.1 hm.2.2.2.1 hm.2.2.2.2 q
  have Pj:∀c o,H c=some o->c∉[z,TI,TO,i1,i2]:=fun c o q hm=>by
   have:=(hf c hm).1
   rw[q]at this;cases this
  refine I.call' (s':={ s with heap:=h' }) rfl ⟨fun c o q n hb hc=>FU c o hc q,fun c o q n hb hc=>⟨o.slots,FU c o hc q⟩,fun c o q n hc=>n,fun c o q hc=>⟨o,FU c o hc q⟩,fun c ys q=>q,fun c o v q=>q,fun c ps q=>⟨#[],by rw[q];simp⟩⟩ (fun c v q=>?_) I.bare fun c hb=>?_
  ·refine(I.hok c v q).stay (fun e o hc r=>?_) (fun e r=>r) fun e ys r=>r;rcases hc with rfl|hc
   ·exact FU _ o (Pj _ _ q) r
   ·exact FU e o (Pj _ _ hc) r
  ·have:=hf c hb
   exact⟨this.2.2.2.1,this.2.1,this.2.2.2.2.1,this.2.2.2.2.2⟩
 self:=fun A i s Q E st h=>wpAny_pyIter_zip st.1 h
def Fc(l m:List Dat):List Dat:=(l.zip m).map fun p=>.tup [p.1,p.2]
theorem Pm{l m:List Dat}{i:Nat}{d:Dat}(h:(Fc l m)[i]?=some d):∃x y,l[i]?=some x/\m[i]?=some y/\d=.tup [x,y]:=by unfold Fc at h;rw[List.getElem?_map]at h;obtain⟨p,hp,rfl⟩:=Option.map_eq_some_iff.mp h;rw[List.getElem?_zip_eq_some]at hp;exact⟨p.1,p.2,hp.1,hp.2,rfl⟩
theorem cM{K:PySem.W.Frag}{G:Gs}{l m:List Dat}{H:Hp}{a b:Addr}{vs ws:List V}(h1:SqT K (hid H G) a vs)(r1:RepL K (hid H G) l vs)(h2:SqT K (hid H G) b ws)(r2:RepL K (hid H G) m ws):Wk K (Itz K a b) H G (Fc l m):=by
 intro H' G' e;have QB:=Ar AK (Ar e.hid h1);have TL:=Ar AK (Ar e.hid h2);refine⟨fun i d hd=>?_,vs,ws,QB,TL,?_⟩
 ·obtain⟨x,y,hx,hy,rfl⟩:=Pm hd;obtain⟨v,hv,rv⟩:=r1.get hx;obtain⟨u,hu,ru⟩:=r2.get hy;refine⟨⟨vs,ws,v,u,QB,TL,hv,hu⟩,fun xx VW hh=>?_⟩;obtain⟨x',y',T,hT,rfl,rfl,g1,g2⟩:=hh;have e1:=g1 vs QB;have e2:=g2 ws TL;rw[hv]at e1;rw[hu]at e2;cases e1;cases e2;refine⟨Ext.alloc hT,fun o=>o.alloc hT,fun o=>?_⟩;rw[Rep];exact⟨T,[v,u],rfl,SqT.of (Eu (o.free hT) A2),RepL.cons ((rv.same e.hid).same (Ext.alloc hT).hid) (RepL.cons ((ru.same e.hid).same (Ext.alloc hT).hid) RepL.nil)⟩
 ·have l1:=r1.length;have l2:=r2.length;unfold Fc;rw[List.length_map,List.length_zip,l1,l2];lia
section
variable {X:Cx}{ρ:Rho}{G:Gs}{a b:Expr}{l m:List Dat}{pos p1:Pos}{elts:List Expr}{x1:Nat}{c8:Pos}
theorem cj{Q:List Dat->Gs->Prop}(hm:X.mg "zip"=none)(ha:PX X ρ G a (.tup l))(hb:PX X ρ G b (.tup m))(q:Q (Fc l m) G)(hg:Gl X "zip":=by rfl)(he:starEach [a,b] X.env=(false,eval a X.env)::starEach [b] X.env:=by rfl)(he2:starEach [b] X.env=(false,eval b X.env)::starEach [] X.env:=by rfl)(hpl:(backTo pos (starEach [b] X.env)).any (·.1)=false:=by rfl):WI X ρ G (.Tuple elts x1 c8) (.Call (.Name "zip" p1) [a,b] [] pos) Q:=by
 intro AD s σ H I S;refine wpAny_Call_Name_kw (EB I hg hm (by decide +kernel:bootBuiltins "zip"=some (.type "zip")) ?_ (by decide) (by decide));have HI:PXs X ρ G [a,b] [.tup l,.tup m]:=AB ha (AB hb AE he2) he;refine PyProof.Rows.callWith_type1 (thn (HI pos AD s σ H I S) fun us s1 ⟨vs,H1,I1,rv,d',G1,e1,o1,rep,q1,q2⟩=>?_) he hpl;subst q1;subst q2;rw[RepL]at rep;obtain⟨v1,r1,rfl,ra,rep⟩:=rep;rw[RepL]at rep;obtain⟨v2,r2,rfl,rb,rep⟩:=rep;rw[RepL]at rep;subst rep;rw[Rep]at ra rb;obtain⟨pa,as,rfl,h1,g1⟩:=ra;obtain⟨pb,bs,rfl,h2,g2⟩:=rb;obtain⟨u1,u2,rfl,jX,kg⟩:=LG rv;cases jX;cases kg;obtain⟨T9,ZJ,fZ,Sl⟩:=I1.tuple (Ar AK h1);obtain⟨Jh,Yl,fW,Z0⟩:=I1.tuple (Ar AK h2);have la:pa<s1.heap.objs.size:=by obtain⟨o,ho,_⟩:=fZ;exact Heap.lt_size ho
 have lb:pb<s1.heap.objs.size:=by obtain⟨o,ho,_⟩:=fW;exact Heap.lt_size ho
 refine TM (show s1.heap.IsTuple pa T9.toArray from fZ) (show s1.heap.IsTuple pb Jh.toArray from fW) fun h' Z hk=>?_;refine wpAny_pyIter_zip (s:={ s1 with heap:=h' }) Z.hz ?_;have D:=zipApart_new la lb;refine⟨s1.heap.objs.size+4,[s1.heap.objs.size+4,s1.heap.objs.size+2,s1.heap.objs.size+3,s1.heap.objs.size,s1.heap.objs.size+1],_,_,H1,rfl,I1.kept (t':=s1.toks) hk,V2 D,⟨Z.hz,Z.hI,Z.hO,Z.h1,Z.h2⟩,fun c hc=>?_,Fc l m,G1,e1,o1,cM h1 g1 h2 g2,q⟩;have hle:s1.heap.objs.size<=c:=by
  simp only[List.mem_cons,List.not_mem_nil,or_false]at hc;rcases hc with rfl|rfl|rfl|rfl|rfl
  ·exact Nat.le_add_right _ 4
  ·exact Nat.le_add_right _ 2
  ·exact Nat.le_add_right _ 3
  ·exact Nat.le_refl _
  ·exact Nat.le_add_right _ 1
 exact I1.fpOk hle (I1.hok.fresh hle)
end
def Yb(l:List Dat):Bool:=(l.zip (l.drop 1)).all fun p=>CW true p.1 p.2
def O5:SpD:=fun ds G R=>∃l:List Dat,ds=[.tup l]/\l.length<=1000/\(∀p∈l.zip (l.drop 1),CB 9 p.1 p.2=true/\AI 9 p.1=true/\AI 9 p.2=true)/\R (.bl (Yb l)) G
theorem Xh:∀F:List Sq,Yb (F.map sq)=true↔F.Pairwise AN
 |[]=>⟨fun _=>.nil,fun _=>rfl⟩
 |[a]=>⟨fun _=>List.pairwise_singleton _ _,fun _=>rfl⟩
 |a::b::r=>by
  have ih:=Xh (b::r);have e:Yb ((a::b::r).map sq)=(CW true (sq a) (sq b)&&Yb ((b::r).map sq)):=rfl;rw[e,Bool.and_eq_true,ih,XG,decide_eq_true_eq,List.pairwise_cons (l:=b::r)];constructor
  ·rintro⟨h1,h2⟩;refine⟨fun c hc=>?_,h2⟩;rcases List.mem_cons.mp hc with rfl|hc
   ·exact h1
   ·exact BP h1 ((List.pairwise_cons.mp h2).1 c hc)
  ·rintro⟨h1,h2⟩;exact⟨h1 b (List.mem_cons_self ..),h2⟩
theorem Yn(F:List Sq):∀p∈(F.map sq).zip ((F.map sq).drop 1),CB 9 p.1 p.2=true/\AI 9 p.1=true/\AI 9 p.2=true:=by intro p hp;obtain⟨h1,h2⟩:=List.of_mem_zip (a:=p.1) (b:=p.2) hp;obtain⟨x,_,e1⟩:=List.mem_map.mp h1;obtain⟨y,_,e2⟩:=List.mem_map.mp (List.mem_of_mem_drop h2);rw[<-e1,<-e2];exact⟨rfl,Ah x 8,Ah y 8⟩
theorem RepL.rev{K:PySem.W.Frag}{H:Hp}:∀{ds:List Dat}{vs:List V},RepL K H ds vs->RepL K H ds.reverse vs.reverse
 |[],vs,h=>by rw[RepL]at h;subst h;exact RepL.nil
 |d::ds,vs,h=>by
  rw[RepL]at h;obtain⟨v,r,rfl,h1,h2⟩:=h;rw[List.reverse_cons,List.reverse_cons];exact(RepL.rev h2).append (RepL.cons h1 RepL.nil)
end TF
namespace TF
section
variable {α β:Type} [DecidableEq α]
inductive Pn (nb:α->List β) (go:α->β->α) (a:α):Nat->α->Prop
 |zero:Pn nb go a 0 a
 |succ {n:Nat} {u:α} {q:β}:Pn nb go a n u->q∈nb u->Pn nb go a (n+1) (go u q)
inductive Pc (nb:α->List β) (go:α->β->α):α->List β->α->Prop
 |nil {a:α}:Pc nb go a [] a
 |cons {a b:α} {q:β} {qs:List β}:q∈nb a->Pc nb go (go a q) qs b->Pc nb go a (q::qs) b
variable {nb:α->List β}{go:α->β->α}{a:α}
structure Bfs (nb:α->List β) (go:α->β->α) (a:α) (met:List α) (at':Nat) (dep:α->Nat) (par:α->Option (α×β)):Prop where
 nd:met.Nodup
 hd:met[0]?=some a
 da:dep a=0
 pa:par a=none
 pr:∀v∈met,v≠a->∃u q,par v=some (u,q)/\u∈met/\q∈nb u/\go u q=v/\dep v=dep u+1
 srt:∀(i j:Nat) x y,i<=j->met[i]?=some x->met[j]?=some y->dep x<=dep y
 top:∀x,met[at']?=some x->∀v∈met,dep v<=dep x+1
 don:∀(i:Nat) x,i<at'->met[i]?=some x->∀q∈nb x,go x q∈met
 all:∀x,met[at']?=some x->∀n v,n<=dep x->Pn nb go a n v->v∈met
 low:∀v∈met,∀n,Pn nb go a n v->dep v<=n
 ex:∀v∈met,Pn nb go a (dep v) v
theorem ic:Bfs nb go a [a] 0 (fun _=>0) (fun _=>none):=by
 have one:∀{i:Nat}{x},([a]:List α)[i]?=some x->x=a:=fun {i x} h=>by
  have:=List.mem_of_getElem? h
  simpa using this
 refine⟨by simp,rfl,rfl,rfl,fun v hv hn=>absurd (by simpa using hv) hn,fun _ _ _ _ _ _ _=>Nat.le_refl _,fun _ _ _ _=>Nat.zero_le _,fun i x h=>by lia,fun x h n v hn hp=>?_,fun _ _ _ _=>Nat.zero_le _,fun v hv=>?_⟩
 ·have:n=0:=by simpa using hn
  subst this;cases hp;simp
 ·have:v=a:=by simpa using hv
  subst this;exact .zero
theorem Bfs.new{met:List α}{i:Nat}{dep:α->Nat}{par:α->Option (α×β)}(B:Bfs nb go a met i dep par){x:α}(hx:met[i]?=some x){q:β}(hq:q∈nb x)(hn:go x q∉met) :
  Bfs nb go a (met++[go x q]) i (fun z=>if z=go x q then dep x+1 else dep z) (fun z=>if z=go x q then some (x,q)else par z):=by
 have dW:x∈met:=List.mem_of_getElem? hx;have mR:a∈met:=List.mem_of_getElem? B.hd;have old:∀{z},z∈met->z≠go x q:=fun {z} hz e=>hn (e▸hz);have hi:i<met.length:=(List.getElem?_eq_some_iff.mp hx).1;have get:∀{j:Nat}{y},(met++[go x q])[j]?=some y->(met[j]?=some y/\y≠go x q)\/(j=met.length/\y=go x q):=fun {j y} h=>by
  rw[List.getElem?_append]at h;split at h
  ·exact .inl ⟨h,old (List.mem_of_getElem? h)⟩
  ·rename_i hj;have dg:j-met.length=0:=by
    have:=(List.getElem?_eq_some_iff.mp h).1
    simp at this;lia
   rw[dg]at h;cases h;exact .inr ⟨by lia,rfl⟩
 have RU:∀y,(met++[go x q])[i]?=some y->y=x:=fun y h=>by
  rw[List.getElem?_append_left hi,hx]at h;cases h;rfl
 refine⟨?_,?_,?_,?_,fun v hv dU=>?_,fun j k y z lp hy hz=>?_,fun y hy v hv=>?_,fun j y hj hy r hr=>?_,fun y hy n v hle hp=>?_,fun v hv n hp=>?_,fun v hv=>?_⟩
 ·rw[List.nodup_append];exact⟨B.nd,by simp,fun y hy z hz e=>by rw[List.mem_singleton.mp hz]at e;exact old hy e⟩
 ·rw[List.getElem?_append_left (by lia)];exact B.hd
 ·simp only[old mR,if_false];exact B.da
 ·simp only[old mR,if_false];exact B.pa
 ·rcases List.mem_append.mp hv with h|h
  ·obtain⟨u,r,h1,h2,h3,h4,h5⟩:=B.pr v h dU;refine⟨u,r,?_,List.mem_append_left _ h2,h3,h4,?_⟩
   ·simp only[old h,if_false];exact h1
   ·simp only[old h,old h2,if_false];exact h5
  ·have Oy:v=go x q:=List.mem_singleton.mp h;refine⟨x,q,?_,List.mem_append_left _ dW,hq,Oy.symm,?_⟩
   ·simp only[Oy,if_true]
   ·simp only[Oy,if_true,old dW,if_false]
 ·rcases get hy with⟨h1,e1⟩|⟨h1,e1⟩<;>rcases get hz with⟨h2,e2⟩|⟨h2,e2⟩
  ·simp only[e1,e2,if_false];exact B.srt j k y z lp h1 h2
  ·simp only[e1,e2,if_false,if_true];exact B.top x hx y (List.mem_of_getElem? h1)
  ·have:=(List.getElem?_eq_some_iff.mp h2).1;lia
  ·simp only[e1,e2,if_true];exact Nat.le_refl _
 ·have:=RU y hy
  subst this;simp only[old dW,if_false];rcases List.mem_append.mp hv with h|h
  ·simp only[old h,if_false];exact B.top y hx v h
  ·simp only[List.mem_singleton.mp h,if_true];exact Nat.le_refl _
 ·rcases get hy with⟨h1,_⟩|⟨h1,_⟩
  ·exact List.mem_append_left _ (B.don j y hj h1 r hr)
  ·lia
 ·have:=RU y hy
  subst this;simp only[old dW,if_false]at hle;exact List.mem_append_left _ (B.all y hx n v hle hp)
 ·rcases List.mem_append.mp hv with h|h
  ·simp only[old h,if_false];exact B.low v h n hp
  ·have Oy:v=go x q:=List.mem_singleton.mp h;simp only[Oy,if_true];rcases Nat.lt_or_ge (dep x) n with h'|h'
   ·exact h'
   ·exact absurd (Oy▸B.all x hx n v h' hp) hn
 ·rcases List.mem_append.mp hv with h|h
  ·simp only[old h,if_false];exact B.ex v h
  ·have Oy:v=go x q:=List.mem_singleton.mp h;simp only[Oy,if_true];exact .succ (B.ex x dW) hq
theorem Bfs.next{met:List α}{i:Nat}{dep:α->Nat}{par:α->Option (α×β)}(B:Bfs nb go a met i dep par){x:α}(hx:met[i]?=some x)(hd:∀q∈nb x,go x q∈met):Bfs nb go a met (i+1) dep par:=by
 have dW:x∈met:=List.mem_of_getElem? hx;have don:∀(j:Nat) y,j<i+1->met[j]?=some y->∀q∈nb y,go y q∈met:=fun j y hj hy q hq=>by
  by_cases e:j=i
  ·subst e;rw[hx]at hy;cases hy;exact hd q hq
  ·exact B.don j y (by lia) hy q hq
 refine⟨B.nd,B.hd,B.da,B.pa,B.pr,B.srt,fun y hy v hv=>?_,don,fun y hy n v hle hp=>?_,B.low,B.ex⟩
 ·have h1:=B.top x hx v hv;have h2:=B.srt i (i+1) x y (by lia) hx hy;lia
 ·have h1:=B.top x hx y (List.mem_of_getElem? hy);by_cases hn:n<=dep x
  ·exact B.all x hx n v hn hp
  ·have Xr:n=dep x+1:=by lia
   subst Xr;cases hp with
   |succ hu hq=>
    rename_i u r;have mO:=B.all x hx _ u (Nat.le_refl _) hu;have qx:=B.low u mO _ hu;obtain⟨j,hj,ej⟩:=List.mem_iff_getElem.mp mO;have mY:met[j]?=some u:=by rw[List.getElem?_eq_getElem hj,ej]
    rcases Nat.lt_or_ge j (i+1)with h|h
    ·exact don j u h mY r hq
    ·have:=B.srt (i+1) j y u h hy mY
     lia
theorem Bfs.end{met:List α}{i:Nat}{dep:α->Nat}{par:α->Option (α×β)}(B:Bfs nb go a met i dep par)(hi:met.length<=i):∀{n v},Pn nb go a n v->v∈met:=by
 intro n v hp
 induction hp with
 |zero=>exact List.mem_of_getElem? B.hd
 |succ hu hq ih=>
  obtain⟨j,hj,ej⟩:=List.mem_iff_getElem.mp ih;exact B.don j _ (by lia) (by rw[List.getElem?_eq_getElem hj,ej]) _ hq
def Far(nb:α->List β)(go:α->β->α)(a b:α):Option Nat->Prop
 |some n=>Pn nb go a n b/\∀m,Pn nb go a m b->n<=m
 |none=>∀m,¬Pn nb go a m b
theorem Far.uniq{b:α}{x y:Option Nat}(h:Far nb go a b x)(h':Far nb go a b y):x=y:=by
 cases x with
 |none=>
  cases y with
  |none=>rfl
  |some n=>exact(h n h'.1).elim
 |some n=>
  cases y with
  |none=>exact(h' n h.1).elim
  |some m=>rw[Nat.le_antisymm (h.2 m h'.1) (h'.2 n h.1)]
theorem Bfs.far{met:List α}{i:Nat}{dep:α->Nat}{par:α->Option (α×β)}(B:Bfs nb go a met i dep par){b:α}(hb:b∈met):Far nb go a b (some (dep b)):=⟨B.ex b hb,B.low b hb⟩
theorem Bfs.no{met:List α}{i:Nat}{dep:α->Nat}{par:α->Option (α×β)}(B:Bfs nb go a met i dep par)(hi:met.length<=i){b:α}(hb:b∉met):Far nb go a b none:=fun m hp=>hb (B.end hi hp)
end
end TF
namespace TF
open PySem PySem.Spec L2
open PyProof.Rows hiding St RelV
section
variable {X:Cx}{ρ:Rho}{G:Gs}{e a b c:Expr}{d d1 d2:Dat}{l:List Dat}{pos:Pos}{p:Addr}{D:DE}{rest:List Stmt}
theorem Py{apos Ax:Pos}(hx:PX X ρ G a (.fn p))(hG:G p=some (.lst l))(q:WSs X ρ (put G p (.lst l.reverse)) rest D)(GK:attributeBase a "reverse" X.env (eval a X.env)=eval a X.env:=by rfl)(Di:(apos.endLine==Ax.line)=true:=by rfl)(hs:swapsWith (.Call (.Attribute a "reverse" apos) [] [] Ax) none pos.line X.env=pure false:=by rfl):WSs X ρ G (.Expr (.Call (.Attribute a "reverse" apos) [] [] Ax) pos::rest) D:=BX (Pb (SK (WH PySem.F.plainAttrs_list PySem.F.slot_list_reverse PySem.F.type_list_reverse RV Ap GK Di) hs) fun σ H S=>⟨ρ,G,_,hx,S,fun x H1 ⟨_,_,e1,o1,r1,q1,BV⟩=>by
  subst q1;subst BV;cases (show x=V.ref p from r1);obtain⟨vs,h1,r2⟩:=o1 p _ hG;refine⟨.inl ⟨rfl,vs,SqL.of h1⟩,p,vs,rfl,rfl,h1,?_⟩;obtain⟨E,O⟩:=J1 o1 hG r2.rev;exact⟨ρ,_,e1.trans E,S.ext (e1.trans E) O,q⟩⟩)
end
theorem Tf{α:Type}[DecidableEq α]{k:α->Dat}(inj:∀{x y},k x=k y->x=y)(L:List α)(v:α->Dat)(y:α):Ab (L.map fun q=>(k q,v q)) (k y)=if y∈L then some (v y)else none:=by
 induction L with
 |nil=>rfl
 |cons a r ih=>
  unfold Ab at ih ⊢;rw[List.map_cons,List.find?_cons];by_cases h:a=y
  ·subst h;simp
  ·have h1:¬k a=k y:=fun e=>h (inj e);have h2:¬y=a:=fun e=>h e.symm;simp only[decide_eq_false h1];rw[ih];simp[h2]
theorem FE(l:Lay):Br 6 (lay l)=true:=by simp only[Br,lay];rw[List.all_eq_true];intro d hd;obtain⟨p,_,rfl⟩:=List.mem_map.mp hd;rfl
def goM(l:Lay)(q:Sq):Lay:=CZ l (B3 q)
def QZ:Option (Lay×Sq)->Dat
 |none=>.non
 |some (u,q)=>.tup [lay u,sq q]
def cfM(met:List Lay)(par:Lay->Option (Lay×Sq)):List (Dat×Dat):=met.map fun v=>(lay v,QZ (par v))
theorem Mz(met:List Lay)(par:Lay->Option (Lay×Sq))(y:Lay):Ab (cfM met par) (lay y)=if y∈met then some (QZ (par y))else none:=by
 have:=Tf X9 met (fun v=>QZ (par v)) y
 by_cases h:y∈met
 ·rw[if_pos h]at this ⊢;exact this
 ·rw[if_neg h]at this ⊢;exact this
theorem QT(met:List Lay)(par:Lay->Option (Lay×Sq))(y:Lay):(Ab (cfM met par) (lay y)).isSome=met.contains y:=by rw[Mz];by_cases h:y∈met<;>simp[h]
theorem dD{met:List Lay}{par:Lay->Option (Lay×Sq)}{v:Lay}(h:v∉met)(o:Option (Lay×Sq)):EX (cfM met par) (lay v) (QZ o)=cfM (met++[v]) fun z=>if z=v then o else par z:=by
 rw[J7]
 ·unfold cfM;rw[List.map_append];congr 1
  ·refine List.map_congr_left fun z hz=>?_;have:z≠v:=fun e=>h (e▸hz);simp[this]
  ·simp
 ·rw[Mz,if_neg h]
theorem Pn.lay{F:List Sq}(nd:F.Nodup){l:Lay}(I:IsLay F l){n:Nat}{v:Lay}(h:Pn Az goM l n v):IsLay F v:=by
 induction h with
 |zero=>exact I
 |succ hu hq ih=>exact(Gb nd ih (Gi.mp hq)).1
theorem Bfs.lays{F:List Sq}(nd:F.Nodup){l:Lay}(I:IsLay F l){met:List Lay}{i:Nat}{dep:Lay->Nat}{par:Lay->Option (Lay×Sq)}(B:Bfs Az goM l met i dep par):∀v∈met,IsLay F v:=fun v hv=>(B.ex v hv).lay nd I
theorem Bfs.few{F:List Sq}(up:F.Pairwise AN){l:Lay}(I:IsLay F l){met:List Lay}{i:Nat}{dep:Lay->Nat}{par:Lay->Option (Lay×Sq)}(B:Bfs Az goM l met i dep par):met.length<=(Bq F).length:=BZ B.nd fun v hv=>(Nm up).mpr (B.lays (HA up) I v hv)
theorem XA{α β:Type}{nb:α->List β}{go:α->β->α}{a b c:α}{S:List β}{n:Nat}(h:Pn nb go a n b)(h':Pc nb go b S c):Pn nb go a (n+S.length) c:=by
 induction h' generalizing n with
 |nil=>exact h
 |cons hq _ ih=>
  have:=ih (.succ h hq)
  rw[List.length_cons];rw[Nat.add_right_comm]at this;exact this
def dF(l m:Lay):Option (List Sq)->Prop
 |none=>Far Az goM l m none
 |some S=>Pc Az goM l S m/\Far Az goM l m (some S.length)
def Zx:Option (List Sq)->Dat
 |none=>.non
 |some S=>.lst (S.map sq)
def L7:SpD:=fun ds G R=>∃(l b:Lay)(p:Addr)(met:List Lay)(i:Nat)(dep:Lay->Nat)(par:Lay->Option (Lay×Sq)),ds=[.fn p,lay b]/\G p=some (.dct (cfM met par))/\Bfs Az goM l met i dep par/\met.length<=1000/\dep b<=1000/\b∈met/\∀S:List Sq,Pc Az goM l S b->S.length=dep b->R (.lst (S.map sq)) G
def W7(T:Addr):SpX:=fun ds G R RX=>∃(F:List Sq)(l m:Lay),ds=[fl F,lay l,lay m]/\F.Pairwise AN/\F.length<=24/\IsLay F l/\IsLay F m/\(200<(Bq F).length->RX (.ref T) G)/\((Bq F).length<=200->∀o,dF l m o->R (Zx o) G)
theorem Bfs.deep{F:List Sq}{l:Lay}{met:List Lay}{i:Nat}{dep:Lay->Nat}{par:Lay->Option (Lay×Sq)}(B:Bfs Az goM l met i dep par):∀n,∀v∈met,dep v=n->∃L:List Lay,L.Nodup/\L.length=n+1/\(∀x∈L,x∈met/\dep x<=n):=by
 intro n
 induction n with
 |zero=>exact fun v hv hd=>⟨[v],by simp,rfl,fun x hx=>by rw[List.mem_singleton.mp hx];exact⟨hv,by lia⟩⟩
 |succ n ih=>
  intro v hv hd;have dU:v≠l:=fun e=>by rw[e,B.da]at hd;cases hd
  obtain⟨u,q,_,hu,_,_,hd2⟩:=B.pr v hv dU;obtain⟨L,h1,h2,h3⟩:=ih u hu (by lia);refine⟨v::L,List.nodup_cons.mpr ⟨fun h=>?_,h1⟩,by rw[List.length_cons,h2],fun x hx=>?_⟩
  ·have:=(h3 v h).2;lia
  ·rcases List.mem_cons.mp hx with rfl|h
   ·exact⟨hv,by lia⟩
   ·exact⟨(h3 x h).1,by have:=(h3 x h).2;lia⟩
theorem Bfs.dep_le{F:List Sq}{l:Lay}{met:List Lay}{i:Nat}{dep:Lay->Nat}{par:Lay->Option (Lay×Sq)}(B:Bfs Az goM l met i dep par){v:Lay}(hv:v∈met):dep v<met.length:=by
 obtain⟨L,h1,h2,h3⟩:=B.deep (F:=F) _ v hv rfl
 have:=BZ h1 fun x hx=>(h3 x hx).1
 lia
end TF
namespace TF
section
variable {F:List Sq}{h:Lay->Sq->Int}{l m:Lay}
theorem Hs(l A B:Lay)(a b:Sq):crs (CL l A B) a b=if (a,b)∈B then -3 else if (a,b)∈A then 1 else crs l a b:=by
 unfold crs;by_cases hB:(a,b)∈B
 ·rw[if_pos hB,if_pos (GW.mpr (.inr hB))]
 ·rw[if_neg hB];by_cases hA:(a,b)∈A
  ·rw[if_pos hA,if_neg fun z=>?_];rcases GW.mp z with z|z
   ·exact z.2 hA
   ·exact hB z
  ·rw[if_neg hA];by_cases hl:(a,b)∈l
   ·rw[if_pos hl,if_pos (GW.mpr (.inl ⟨hl,hA⟩))]
   ·rw[if_neg hl,if_neg fun z=>?_];rcases GW.mp z with z|z
    ·exact hl z.1
    ·exact hB z
def ctr(q:Sq):Sq:=(q.1+1,q.2+1)
theorem IH(nd:F.Nodup)(I:IsLay F l){a b c:Sq}(HI:(a,b)∈l)(h1:(a,c)∈l):b=c:=by
 have:=Ge nd I HI h1 (x:=a) (.inl rfl) (.inl rfl)
 injection this
theorem MO(nd:F.Nodup)(I:IsLay F l){a b c:Sq}(HI:(a,b)∈l)(h1:(c,b)∈l):a=c:=by
 have:=Ge nd I HI h1 (x:=b) (.inr rfl) (.inr rfl)
 injection this
theorem bq{q:Sq}(hw:∀s∈Aq q,s∈l)(x:Sq):V0 (CL l (Aq q) (Av q)) x-V0 l x=(if (x.1+1,x.2)=ctr q then -4*sgn q else 0)-(if x=ctr q then -4*sgn q else 0):=by
 obtain⟨r,c⟩:=q;obtain⟨i,j⟩:=x;have w1:=hw ((r,c),(r,c+1)) (by simp[Aq]);have w2:=hw ((r+1,c),(r+1,c+1)) (by simp[Aq]);unfold V0;rw[Hs];have hB:((i,j-1),(i,j))∉Av (r,c):=by simp only[Av,List.mem_cons,List.not_mem_nil,or_false,Prod.mk.injEq];lia
 rw[if_neg hB];unfold ctr;by_cases e1:i=r/\j=c+1
 ·obtain⟨rfl,rfl⟩:=e1;rw[if_pos (by simp[Aq]),if_pos rfl,if_neg (by simp only[Prod.mk.injEq];lia)];unfold crs;simp only[Int.add_sub_cancel];rw[if_pos w1,IQ];lia
 ·by_cases e2:i=r+1/\j=c+1
  ·obtain⟨rfl,rfl⟩:=e2;rw[if_pos (by simp[Aq]),if_neg (by simp only[Prod.mk.injEq];lia),if_pos rfl];unfold crs;simp only[Int.add_sub_cancel];rw[if_pos w2,IQ,HJ];lia
  ·rw[if_neg (by simp only[Aq,List.mem_cons,List.not_mem_nil,or_false,Prod.mk.injEq];lia),if_neg (by simp only[Prod.mk.injEq];lia),if_neg (by simp only[Prod.mk.injEq];lia)];lia
theorem br(nd:F.Nodup)(I:IsLay F l){q:Sq}(hw:∀s∈Aq q,s∈l)(x:Sq):H0 (CL l (Aq q) (Av q)) x-H0 l x=(if (x.1,x.2+1)=ctr q then -4*sgn q else 0)-(if x=ctr q then -4*sgn q else 0):=by
 obtain⟨r,c⟩:=q;obtain⟨i,j⟩:=x;have w1:=hw ((r,c),(r,c+1)) (by simp[Aq]);have w2:=hw ((r+1,c),(r+1,c+1)) (by simp[Aq]);unfold H0;rw[Hs];have hA:((i-1,j),(i,j))∉Aq (r,c):=by simp only[Aq,List.mem_cons,List.not_mem_nil,or_false,Prod.mk.injEq];lia
 rw[if_neg hA];unfold ctr;by_cases e1:i=r+1/\j=c
 ·obtain⟨rfl,rfl⟩:=e1;have no:((r,j),(r+1,j))∉l:=fun z=>by have:=IH nd I w1 z;simp only[Prod.mk.injEq]at this;lia
  rw[if_pos (by simp[Av]),if_pos rfl,if_neg (by simp only[Prod.mk.injEq];lia)];unfold crs;simp only[Int.add_sub_cancel];rw[if_neg no,HJ];lia
 ·by_cases e2:i=r+1/\j=c+1
  ·obtain⟨rfl,rfl⟩:=e2;have no:((r,c+1),(r+1,c+1))∉l:=fun z=>by have:=MO nd I w2 z;simp only[Prod.mk.injEq]at this;lia
   rw[if_pos (by simp[Av]),if_neg (by simp only[Prod.mk.injEq];lia),if_pos rfl];unfold crs;simp only[Int.add_sub_cancel];rw[if_neg no,IQ,HJ];lia
  ·rw[if_neg (by simp only[Av,List.mem_cons,List.not_mem_nil,or_false,Prod.mk.injEq];lia),if_neg (by simp only[Prod.mk.injEq];lia),if_neg (by simp only[Prod.mk.injEq];lia)];lia
theorem Y1(nd:F.Nodup)(I:IsLay F l){q:Sq}(ht:∀s∈Av q,s∈l)(x:Sq):V0 (CL l (Av q) (Aq q)) x-V0 l x=(if (x.1+1,x.2)=ctr q then 4*sgn q else 0)-(if x=ctr q then 4*sgn q else 0):=by
 obtain⟨r,c⟩:=q;obtain⟨i,j⟩:=x;have w1:=ht ((r,c),(r+1,c)) (by simp[Av]);have w2:=ht ((r,c+1),(r+1,c+1)) (by simp[Av]);unfold V0;rw[Hs];have hA:((i,j-1),(i,j))∉Av (r,c):=by simp only[Av,List.mem_cons,List.not_mem_nil,or_false,Prod.mk.injEq];lia
 rw[if_neg hA];unfold ctr;by_cases e1:i=r/\j=c+1
 ·obtain⟨rfl,rfl⟩:=e1;have no:((i,c),(i,c+1))∉l:=fun z=>by have:=IH nd I w1 z;simp only[Prod.mk.injEq]at this;lia
  rw[if_pos (by simp[Aq]),if_pos rfl,if_neg (by simp only[Prod.mk.injEq];lia)];unfold crs;simp only[Int.add_sub_cancel];rw[if_neg no,IQ];lia
 ·by_cases e2:i=r+1/\j=c+1
  ·obtain⟨rfl,rfl⟩:=e2;have no:((r+1,c),(r+1,c+1))∉l:=fun z=>by have:=MO nd I w2 z;simp only[Prod.mk.injEq]at this;lia
   rw[if_pos (by simp[Aq]),if_neg (by simp only[Prod.mk.injEq];lia),if_pos rfl];unfold crs;simp only[Int.add_sub_cancel];rw[if_neg no,IQ,HJ];lia
  ·rw[if_neg (by simp only[Aq,List.mem_cons,List.not_mem_nil,or_false,Prod.mk.injEq];lia),if_neg (by simp only[Prod.mk.injEq];lia),if_neg (by simp only[Prod.mk.injEq];lia)];lia
theorem Ym{q:Sq}(ht:∀s∈Av q,s∈l)(x:Sq):H0 (CL l (Av q) (Aq q)) x-H0 l x=(if (x.1,x.2+1)=ctr q then 4*sgn q else 0)-(if x=ctr q then 4*sgn q else 0):=by
 obtain⟨r,c⟩:=q;obtain⟨i,j⟩:=x;have w1:=ht ((r,c),(r+1,c)) (by simp[Av]);have w2:=ht ((r,c+1),(r+1,c+1)) (by simp[Av]);unfold H0;rw[Hs];have hB:((i-1,j),(i,j))∉Aq (r,c):=by simp only[Aq,List.mem_cons,List.not_mem_nil,or_false,Prod.mk.injEq];lia
 rw[if_neg hB];unfold ctr;by_cases e1:i=r+1/\j=c
 ·obtain⟨rfl,rfl⟩:=e1;rw[if_pos (by simp[Av]),if_pos rfl,if_neg (by simp only[Prod.mk.injEq];lia)];unfold crs;simp only[Int.add_sub_cancel];rw[if_pos w1,HJ];lia
 ·by_cases e2:i=r+1/\j=c+1
  ·obtain⟨rfl,rfl⟩:=e2;rw[if_pos (by simp[Av]),if_neg (by simp only[Prod.mk.injEq];lia),if_pos rfl];unfold crs;simp only[Int.add_sub_cancel];rw[if_pos w2,IQ,HJ];lia
  ·rw[if_neg (by simp only[Av,List.mem_cons,List.not_mem_nil,or_false,Prod.mk.injEq];lia),if_neg (by simp only[Prod.mk.injEq];lia),if_neg (by simp only[Prod.mk.injEq];lia)];lia
theorem Pl.lift(P:Pl F h)(I:IsLay F l){n:Lay}(J:IsLay F n){q:Sq}{e:Int}(hv:∀x,V0 n x-V0 l x=(if (x.1+1,x.2)=ctr q then e else 0)-(if x=ctr q then e else 0))(hh:∀x,H0 n x-H0 l x=(if (x.1,x.2+1)=ctr q then e else 0)-(if x=ctr q then e else 0))(hq:ctr q∈F/\(q.1,q.2)∈F){x y:Sq}(hx:x∈F)(hy:y∈cor x):h n y=h l y+if y=ctr q then e else 0:=by
 obtain⟨s,hs,hm⟩:=P.start;have z:=P.zero J I hs hm;have oq:s≠ctr q:=fun e=>by
  have h1:=hm _ hq.2;rw[e]at h1;unfold ctr AN at h1;rcases h1 with h1|h1
  ·have:=congrArg Prod.fst h1;simp only at this;lia
  ·simp only at h1;lia
 have:=P.hangs (fun z=>h n z-(h l z+if z=ctr q then e else 0)) (fun x hx=>by
  rw[P.dn J hx,P.dn I hx]
  have:=hv x
  lia) (fun x hx=>by
  rw[P.rt J hx,P.rt I hx]
  have:=hh x
  lia) hx hy hs (Aj.mpr (.inl rfl))
 rw[z,if_neg oq]at this;lia
theorem Pl.turn(P:Pl F h)(I:IsLay F l){q:Sq}(ht:B1 l q=true):∃e:Int,(((∀s∈Aq q,s∈l)/\e=-4*sgn q)\/((∀s∈Av q,s∈l)/\e=4*sgn q))/\∀x∈F,∀y∈cor x,h (goM l q) y=h l y+if y=ctr q then e else 0:=by
 have nd:=P.gd.nodup;have J:=(Gb nd I ht).1;rcases Hu nd I ht with⟨hw,e,_⟩|⟨hw,e,_⟩
 ·refine⟨-4*sgn q,.inl ⟨hw,rfl⟩,fun x hx y hy=>?_⟩;have hq:ctr q∈F/\(q.1,q.2)∈F:=⟨(Ds I (hw _ (List.mem_cons_of_mem _ (List.mem_cons_self ..)))).2,(Ds I (hw _ (List.mem_cons_self ..))).1⟩;unfold goM;rw[e]at J ⊢;exact P.lift I J (bq hw) (br nd I hw) hq hx hy
 ·refine⟨4*sgn q,.inr ⟨hw,rfl⟩,fun x hx y hy=>?_⟩;have hq:ctr q∈F/\(q.1,q.2)∈F:=⟨(Ds I (hw _ (List.mem_cons_of_mem _ (List.mem_cons_self ..)))).2,(Ds I (hw _ (List.mem_cons_self ..))).1⟩;unfold goM;rw[e]at J ⊢;exact P.lift I J (Y1 nd I hw) (Ym hw) hq hx hy
def apart(h:Lay->Sq->Int)(K:List Sq)(l m:Lay):Nat:=(K.map fun y=>(h l y-h m y).natAbs).sum
theorem Ro{K:List Sq}(nd:K.Nodup){f g:Sq->Nat}{c:Sq}(hc:c∈K)(hs:∀y∈K,y≠c->f y=g y):(K.map f).sum+g c=(K.map g).sum+f c:=by
 induction K with
 |nil=>cases hc
 |cons a K ih=>
  obtain⟨n1,n2⟩:=List.nodup_cons.mp nd;rw[List.map_cons,List.map_cons,List.sum_cons,List.sum_cons];by_cases e:a=c
  ·subst e;have:K.map f=K.map g:=List.map_congr_left fun y hy=>hs y (List.mem_cons_of_mem _ hy) fun z=>n1 (z▸hy);rw[this];lia
  ·have UX:c∈K:=by
    rcases List.mem_cons.mp hc with z|z
    ·exact absurd z.symm e
    ·exact z
   have:=ih n2 UX fun y hy=>hs y (List.mem_cons_of_mem _ hy)
   have:=hs a (List.mem_cons_self ..) e
   lia
structure Cors (F K:List Sq):Prop where
 nd:K.Nodup
 iff:∀y,y∈K↔∃x∈F,y∈cor x
variable {K:List Sq}
theorem Yy{q:Sq}(I:IsLay F l)(C:Cors F K)(ht:B1 l q=true):ctr q∈K:=by
 have:(q.1,q.2)∈F:=by
  rcases Dk.mp ht with hw|hw
  ·exact(Ds I (hw _ (List.mem_cons_self ..))).1
  ·exact(Ds I (hw _ (List.mem_cons_self ..))).1
 exact(C.iff _).mpr ⟨_,this,Aj.mpr (.inr (.inr (.inr rfl)))⟩
theorem Pl.near(P:Pl F h)(C:Cors F K)(I:IsLay F l){q:Sq}(ht:B1 l q=true)(m:Lay):apart h K m (goM l q)<=apart h K m l+4:=by
 obtain⟨e,he,hy⟩:=P.turn I ht;have hc:=Yy I C ht;have hs:=Ro C.nd (f:=fun y=>(h m y-h (goM l q) y).natAbs) (g:=fun y=>(h m y-h l y).natAbs) hc fun y kE Bk=>by
  obtain⟨x,hx,RN⟩:=(C.iff y).mp kE;rw[hy x hx y RN,if_neg Bk];simp
 unfold apart;obtain⟨x,hx,RN⟩:=(C.iff _).mp hc;have Zz:=hy x hx _ RN;rw[if_pos rfl]at Zz;have h4:e=4\/e=-4:=by
  rcases he with⟨_,he⟩|⟨_,he⟩<;>rcases Dx q with z|z<;>rw[z]at he<;>lia
 rw[Zz]at hs;lia
theorem Pl.low(P:Pl F h)(C:Cors F K)(I:IsLay F l){n:Nat}{v:Lay}(hp:Pn Az goM l n v):IsLay F v/\apart h K l v<=4*n:=by
 induction hp with
 |zero=>
  refine⟨I,?_⟩;unfold apart;have:(K.map fun y=>(h l y-h l y).natAbs)=K.map fun _=>0:=List.map_congr_left fun y _=>by simp
  rw[this];clear this C
  induction K with
  |nil=>simp
  |cons a K ih=>simpa using ih
 |succ hu hq ih=>
  have ht:=Gi.mp hq
  have:=P.near C ih.1 ht l
  exact⟨(Gb P.gd.nodup ih.1 ht).1,by lia⟩
theorem Pl.peak(P:Pl F h)(I:IsLay F l)(J:IsLay F m){x v:Sq}(hx:x∈F)(hv:v∈cor x){e:Int}(he:e=1\/e=-1)(hd:e*(h l v-h m v) > 0)(top:∀x∈F,∀y∈cor x,e*(h l y-h m y) > 0->e*h l y<=e*h l v) :
  ∃q,B1 l q=true/\ctr q=v/\∀n,(((∀s∈Aq q,s∈l)/\n=-4*sgn q)\/((∀s∈Av q,s∈l)/\n=4*sgn q))->n=-4*e:=by
 have nd:=P.gd.nodup;have vb:=P.cor_in hx hv;have h4:=P.four I J hx hv;have inn:∀b,(v∉F\/(v.1-1,v.2)∉F\/(v.1,v.2-1)∉F\/(v.1-1,v.2-1)∉F)->b:=fun b hb=>by
  have:=P.edge I J vb hb
  rw[this]at hd;simp at hd
 have f1:v∈F:=Classical.byContradiction fun z=>inn _ (.inl z);have f2:(v.1-1,v.2)∈F:=Classical.byContradiction fun z=>inn _ (.inr (.inl z));have f3:(v.1,v.2-1)∈F:=Classical.byContradiction fun z=>inn _ (.inr (.inr (.inl z)));have f4:(v.1-1,v.2-1)∈F:=Classical.byContradiction fun z=>inn _ (.inr (.inr (.inr z)));clear inn;obtain⟨r,c⟩:=v;simp only at f1 f2 f3 f4 vb;have up1:=P.dn I (x:=(r-1,c)) (.inl f2);have qZ:=P.dn J (x:=(r-1,c)) (.inl f2);have gX:=P.dn I (x:=(r,c)) (.inl f1);have nv:=P.dn J (x:=(r,c)) (.inl f1);have eN:=P.rt I (x:=(r,c-1)) (.inl f3);have qS:=P.rt J (x:=(r,c-1)) (.inl f3);have dv:=P.rt I (x:=(r,c)) (.inl f1);have qG:=P.rt J (x:=(r,c)) (.inl f1);simp only[Int.sub_add_cancel]at up1 qZ gX nv eN qS dv qG;have t1:=top (r-1,c) f2 (r-1,c) (Aj.mpr (.inl rfl));have t2:=top (r,c) f1 (r+1,c) (Aj.mpr (.inr (.inr (.inl rfl))));have t3:=top (r,c-1) f3 (r,c-1) (Aj.mpr (.inl rfl));have t4:=top (r,c) f1 (r,c+1) (Aj.mpr (.inr (.inl rfl)));have b1:=Zw m (r-1,c);have b2:=Zw m (r,c);have b3:=Z2 m (r,c-1);have b4:=Z2 m (r,c);have qa:sgn (r-1,c)=-(sgn (r,c)):=by have:=HJ (r-1) c;simp only[Int.sub_add_cancel]at this;lia
 have qp:sgn (r,c-1)=-(sgn (r,c)):=by have:=IQ r (c-1);simp only[Int.sub_add_cancel]at this;lia
 have lB:sgn (r-1,c-1)=sgn (r,c):=by have:=HJ (r-1) (c-1);simp only[Int.sub_add_cancel]at this;lia
 have v1:V0 l (r-1,c)=-(sgn (r,c))*crs l (r-1,c-1) (r-1,c):=by unfold V0;rw[qa]
 have v2:V0 l (r,c)=sgn (r,c)*crs l (r,c-1) (r,c):=rfl;have w1:H0 l (r,c-1)=sgn (r,c)*crs l (r-1,c-1) (r,c-1):=by unfold H0;rw[qp,Int.neg_neg]
 have w2:H0 l (r,c)=-(sgn (r,c))*crs l (r-1,c) (r,c):=rfl;rw[v1]at up1;rw[v2]at gX;rw[w1]at eN;rw[w2]at dv;have c1:=Ck l (r-1,c-1) (r-1,c);have c2:=Ck l (r,c-1) (r,c);have c3:=Ck l (r-1,c-1) (r,c-1);have c4:=Ck l (r-1,c) (r,c);have mem:∀{a b},crs l a b=-3->(a,b)∈l:=fun {a b} z=>by
  unfold crs at z;by_cases hm:(a,b)∈l
  ·exact hm
  ·rw[if_neg hm]at z;cases z
 have no:∀{a b},crs l a b=1->(a,b)∉l:=fun {a b} z hm=>by
  unfold crs at z;rw[if_pos hm]at z;cases z
 refine⟨(r-1,c-1),?_⟩;have ec:ctr (r-1,c-1)=(r,c):=by unfold ctr;simp only[Int.sub_add_cancel]
 have wd:Aq (r-1,c-1)=[((r-1,c-1),(r-1,c)),((r,c-1),(r,c))]:=by unfold Aq;simp only[Int.sub_add_cancel]
 have tl:Av (r-1,c-1)=[((r-1,c-1),(r,c-1)),((r-1,c),(r,c))]:=by unfold Av;simp only[Int.sub_add_cancel]
 have res:(crs l (r-1,c-1) (r-1,c)=-3/\crs l (r,c-1) (r,c)=-3/\sgn (r,c)=e)\/(crs l (r-1,c-1) (r,c-1)=-3/\crs l (r-1,c) (r,c)=-3/\sgn (r,c)=-e):=by
  rcases he with rfl|rfl<;>rcases Dx (r,c)with sg|sg<;>rw[sg]at up1 gX eN dv ⊢
  ·left;rcases c1 with c1|c1<;>rcases c2 with c2|c2<;>rw[c1]at up1<;>rw[c2]at gX<;>lia
  ·right;rcases c3 with c3|c3<;>rcases c4 with c4|c4<;>rw[c3]at eN<;>rw[c4]at dv<;>lia
  ·right;rcases c3 with c3|c3<;>rcases c4 with c4|c4<;>rw[c3]at eN<;>rw[c4]at dv<;>lia
  ·left;rcases c1 with c1|c1<;>rcases c2 with c2|c2<;>rw[c1]at up1<;>rw[c2]at gX<;>lia
 rcases res with⟨k1,k2,k3⟩|⟨k1,k2,k3⟩
 ·refine⟨Dk.mpr (.inr fun s hs=>?_),ec,fun n hn=>?_⟩
  ·rw[wd]at hs;simp only[List.mem_cons,List.not_mem_nil,or_false]at hs;rcases hs with rfl|rfl
   ·exact mem k1
   ·exact mem k2
  ·rcases hn with⟨_,hn⟩|⟨ht,_⟩
   ·rw[hn,lB,k3]
   ·exfalso;rw[tl]at ht;have z:=ht ((r-1,c-1),(r,c-1)) (by simp)
    have:=IH nd I (mem k1) z
    simp only[Prod.mk.injEq]at this;lia
 ·refine⟨Dk.mpr (.inl fun s hs=>?_),ec,fun n hn=>?_⟩
  ·rw[tl]at hs;simp only[List.mem_cons,List.not_mem_nil,or_false]at hs;rcases hs with rfl|rfl
   ·exact mem k1
   ·exact mem k2
  ·rcases hn with⟨hw,_⟩|⟨_,hn⟩
   ·exfalso;rw[wd]at hw;have z:=hw ((r-1,c-1),(r-1,c)) (by simp)
    have:=IH nd I (mem k1) z
    simp only[Prod.mk.injEq]at this;lia
   ·rw[hn,lB,k3];lia
theorem cA{K:List Sq}(f:Sq->Int)(p:Sq->Prop)(h:∃y∈K,p y):∃v∈K,p v/\∀y∈K,p y->f y<=f v:=by
 induction K with
 |nil=>obtain⟨_,h,_⟩:=h;cases h
 |cons a K ih=>
  by_cases hK:∃y∈K,p y
  ·obtain⟨v,hv,pv,hm⟩:=ih hK;by_cases ha:p a/\f v<f a
   ·refine⟨a,List.mem_cons_self ..,ha.1,fun y hy py=>?_⟩;rcases List.mem_cons.mp hy with rfl|hy
    ·exact Int.le_refl _
    ·have:=hm y hy py;lia
   ·refine⟨v,List.mem_cons_of_mem _ hv,pv,fun y hy py=>?_⟩;rcases List.mem_cons.mp hy with rfl|hy
    ·rcases Int.lt_or_le (f v) (f y)with z|z
     ·exact absurd ⟨py,z⟩ ha
     ·exact z
    ·exact hm y hy py
  ·obtain⟨y,hy,py⟩:=h;rcases List.mem_cons.mp hy with rfl|hy
   ·refine⟨y,List.mem_cons_self ..,py,fun z hz pz=>?_⟩;rcases List.mem_cons.mp hz with rfl|hz
    ·exact Int.le_refl _
    ·exact absurd ⟨z,hz,pz⟩ hK
   ·exact absurd ⟨y,hy,py⟩ hK
theorem Wg{K:List Sq}{f:Sq->Nat}(h:(K.map f).sum=0):∀y∈K,f y=0:=by
 induction K with
 |nil=>exact fun _ h=>nomatch h
 |cons a K ih=>
  rw[List.map_cons,List.sum_cons]at h;intro y hy;rcases List.mem_cons.mp hy with rfl|hy
  ·lia
  ·exact ih (by lia) y hy
theorem Pl.nearer(P:Pl F h)(C:Cors F K)(I:IsLay F l)(J:IsLay F m)(Bk:apart h K l m≠0):∃q,B1 l q=true/\apart h K (goM l q) m+4=apart h K l m:=by
 have ex:∃(e:Int),(e=1\/e=-1)/\∃y∈K,e*(h l y-h m y) > 0:=by
  refine Classical.byContradiction fun no=>Bk ?_;unfold apart;have z:∀y∈K,(h l y-h m y).natAbs=0:=fun y hy=>by
   have h1:¬(1:Int)*(h l y-h m y) > 0:=fun z=>no ⟨1,.inl rfl,y,hy,z⟩;have h2:¬(-1:Int)*(h l y-h m y) > 0:=fun z=>no ⟨-1,.inr rfl,y,hy,z⟩;lia
  have:(K.map fun y=>(h l y-h m y).natAbs)=K.map fun _=>0:=List.map_congr_left fun y hy=>z y hy;rw[this];clear this C z no Bk
  induction K with
  |nil=>rfl
  |cons a K ih=>simpa using ih
 obtain⟨e,he,ey⟩:=ex;obtain⟨v,hv,pv,hm⟩:=cA (fun y=>e*h l y) (fun y=>e*(h l y-h m y) > 0) ey;obtain⟨x,hx,jw⟩:=(C.iff v).mp hv;obtain⟨q,ht,hc,hn⟩:=P.peak I J hx jw he pv fun x hx y hy hp=>hm y ((C.iff y).mpr ⟨x,hx,hy⟩) hp;refine⟨q,ht,?_⟩;obtain⟨n,UU,hy⟩:=P.turn I ht;have en:=hn n UU;have hs:=Ro C.nd (f:=fun y=>(h (goM l q) y-h m y).natAbs) (g:=fun y=>(h l y-h m y).natAbs) hv fun y kE Bk=>by
  obtain⟨x,hx,RN⟩:=(C.iff y).mp kE;rw[hy x hx y RN,if_neg fun z=>Bk (z.trans hc)];simp
 unfold apart;have Zz:=hy x hx v jw;rw[if_pos hc.symm]at Zz;have h4:=P.four I J hx jw;rw[Zz]at hs;rcases he with rfl|rfl<;>lia
theorem Pl.path(P:Pl F h)(C:Cors F K)(J:IsLay F m):∀(n:Nat){l:Lay},IsLay F l->apart h K l m=4*n->∃S,Pc Az goM l S m/\S.length=n
 |0,l,I,e=>by
  have:l=m:=P.tell I J fun x hx y hy=>by
   have:=Wg (f:=fun y=>(h l y-h m y).natAbs) e y ((C.iff y).mpr ⟨x,hx,hy⟩)
   lia
  subst this;exact⟨[],.nil,rfl⟩
 |n+1,l,I,e=>by
  obtain⟨q,ht,hq⟩:=P.nearer C I J (by lia);obtain⟨S,hS,hl⟩:=P.path C J n (l:=goM l q) (Gb P.gd.nodup I ht).1 (by lia);exact⟨q::S,.cons (Gi.mpr ht) hS,by rw[List.length_cons,hl]⟩
theorem XN{K:List Sq}{f:Sq->Nat}(h:∀y∈K,f y%4=0):(K.map f).sum%4=0:=by
 induction K with
 |nil=>rfl
 |cons a K ih=>
  rw[List.map_cons,List.sum_cons];have h1:=h a (List.mem_cons_self ..);have h2:=ih fun y hy=>h y (List.mem_cons_of_mem _ hy);lia
theorem Pl.apart4(P:Pl F h)(C:Cors F K)(I:IsLay F l)(J:IsLay F m):apart h K l m%4=0:=XN fun y hy=>by
 obtain⟨x,hx,RN⟩:=(C.iff y).mp hy
 have:=P.four I J hx RN
 lia
theorem Pl.far(P:Pl F h)(C:Cors F K)(I:IsLay F l)(J:IsLay F m):Far Az goM l m (some (apart h K l m / 4)):=by
 have h4:=P.apart4 C I J;obtain⟨S,hS,hl⟩:=P.path C J (apart h K l m / 4) I (by lia);refine⟨?_,fun n hn=>?_⟩
 ·have:=XA (.zero:Pn Az goM l 0 l) hS
  rw[Nat.zero_add,hl]at this;exact this
 ·have:=(P.low C I hn).2
  lia
def JN(c:Sq):List (Sq×Sq×Sq):=[((c.1-1,c.2),(c.1-1,c.2-1),(c.1-1,c.2)),((c.1,c.2-1),(c.1,c.2-1),(c.1-1,c.2-1)),((c.1,c.2+1),(c.1-1,c.2),(c.1,c.2)),((c.1+1,c.2),(c.1,c.2),(c.1,c.2-1))]
def Lz(F:List Sq)(l:Lay)(a b:Sq):Bool:=(F.contains a||F.contains b)&&!l.contains (DQ a b,DL a b)
def B9(F:List Sq)(l:Lay)(c:Sq):List (Sq×Int):=((JN c).filter fun t=>Lz F l t.2.1 t.2.2).map fun t=>(t.1,sgn t.2.1)
theorem Bo{c y:Sq}{v:Int}:(y,v)∈B9 F l c ↔
  (y=(c.1-1,c.2)/\v=sgn (c.1-1,c.2-1)/\((c.1-1,c.2-1)∈F\/(c.1-1,c.2)∈F)/\((c.1-1,c.2-1),(c.1-1,c.2))∉l) ∨
  (y=(c.1,c.2-1)/\v=sgn (c.1,c.2-1)/\((c.1,c.2-1)∈F\/(c.1-1,c.2-1)∈F)/\((c.1-1,c.2-1),(c.1,c.2-1))∉l) ∨
  (y=(c.1,c.2+1)/\v=sgn (c.1-1,c.2)/\((c.1-1,c.2)∈F\/(c.1,c.2)∈F)/\((c.1-1,c.2),(c.1,c.2))∉l) ∨
  (y=(c.1+1,c.2)/\v=sgn (c.1,c.2)/\((c.1,c.2)∈F\/(c.1,c.2-1)∈F)/\((c.1,c.2-1),(c.1,c.2))∉l):=by
 have a1:¬AN (c.1-1,c.2) (c.1-1,c.2-1):=by unfold AN;dsimp only;lia
 have a2:AN (c.1-1,c.2-1) (c.1-1,c.2):=by unfold AN;dsimp only;lia
 have b1:AN (c.1-1,c.2-1) (c.1,c.2-1):=by unfold AN;dsimp only;lia
 have b2:¬AN (c.1,c.2-1) (c.1-1,c.2-1):=by unfold AN;dsimp only;lia
 have c1:¬AN (c.1,c.2) (c.1-1,c.2):=by unfold AN;dsimp only;lia
 have c2:AN (c.1-1,c.2) (c.1,c.2):=by unfold AN;dsimp only;lia
 have d1:AN (c.1,c.2-1) (c.1,c.2):=by unfold AN;dsimp only;lia
 have d2:¬AN (c.1,c.2) (c.1,c.2-1):=by unfold AN;dsimp only;lia
 unfold B9 JN;simp only[List.mem_map,List.mem_filter,List.mem_cons,List.not_mem_nil,or_false,Lz,Bool.and_eq_true,Bool.or_eq_true,Bool.not_eq_true',List.contains_eq_mem,decide_eq_true_eq,decide_eq_false_iff_not,Prod.mk.injEq];constructor
 ·rintro⟨t,⟨ht,hf,hl⟩,e1,e2⟩;subst e1 e2;rcases ht with rfl|rfl|rfl|rfl
  ·simp only[DQ,DL,if_neg a1,if_pos a2]at hl;exact .inl ⟨rfl,rfl,hf,hl⟩
  ·simp only[DQ,DL,if_pos b1,if_neg b2]at hl;exact .inr (.inl ⟨rfl,rfl,hf,hl⟩)
  ·simp only[DQ,DL,if_neg c1,if_pos c2]at hl;exact .inr (.inr (.inl ⟨rfl,rfl,hf,hl⟩))
  ·simp only[DQ,DL,if_pos d1,if_neg d2]at hl;exact .inr (.inr (.inr ⟨rfl,rfl,hf,hl⟩))
 ·rintro(⟨rfl,rfl,hf,hl⟩|⟨rfl,rfl,hf,hl⟩|⟨rfl,rfl,hf,hl⟩|⟨rfl,rfl,hf,hl⟩)
  ·exact⟨_,⟨.inl rfl,hf,by simp only[DQ,DL,if_neg a1,if_pos a2];exact hl⟩,rfl,rfl⟩
  ·exact⟨_,⟨.inr (.inl rfl),hf,by simp only[DQ,DL,if_pos b1,if_neg b2];exact hl⟩,rfl,rfl⟩
  ·exact⟨_,⟨.inr (.inr (.inl rfl)),hf,by simp only[DQ,DL,if_neg c1,if_pos c2];exact hl⟩,rfl,rfl⟩
  ·exact⟨_,⟨.inr (.inr (.inr rfl)),hf,by simp only[DQ,DL,if_pos d1,if_neg d2];exact hl⟩,rfl,rfl⟩
theorem Nd{a b:Sq}(h:(a,b)∉l):crs l a b=1:=if_neg h
theorem Pl.side(P:Pl F h)(I:IsLay F l){c:Sq}{p:Sq×Int}(hp:p∈B9 F l c):h l p.1=h l c+p.2:=by
 obtain⟨y,v⟩:=p;obtain⟨r,c⟩:=c;rcases Bo.mp hp with⟨rfl,rfl,hf,hl⟩|⟨rfl,rfl,hf,hl⟩|⟨rfl,rfl,hf,hl⟩|⟨rfl,rfl,hf,hl⟩
 ·have:=P.dn I (x:=(r-1,c)) hf.symm
  have e:=IQ (r-1) (c-1);simp only[Int.sub_add_cancel]at this e;unfold V0 at this;rw[Nd hl]at this;simp only at this ⊢;lia
 ·have:=P.rt I (x:=(r,c-1)) hf
  simp only[Int.sub_add_cancel]at this;unfold H0 at this;rw[Nd hl]at this;simp only at this ⊢;lia
 ·have:=P.rt I (x:=(r,c)) hf.symm
  have e:=HJ (r-1) c;simp only[Int.sub_add_cancel]at e;unfold H0 at this;rw[Nd hl]at this;simp only at this ⊢;lia
 ·have:=P.dn I (x:=(r,c)) hf
  unfold V0 at this;rw[Nd hl]at this;simp only at this ⊢;lia
theorem Tu{c:Sq}{p:Sq×Int}(hp:p∈B9 F l c):∃x∈F,p.1∈cor x:=by obtain⟨y,v⟩:=p;obtain⟨r,c⟩:=c;rcases Bo.mp hp with⟨rfl,rfl,hf,hl⟩|⟨rfl,rfl,hf,hl⟩|⟨rfl,rfl,hf,hl⟩|⟨rfl,rfl,hf,hl⟩<;>rcases hf with hf|hf<;>refine⟨_,hf,Aj.mpr ?_⟩<;>simp
theorem gs{p1 p2 p3 p4 a b c d:Prop}(i1:¬p1->(a↔b))(i2:¬p2->(a↔c))(i3:¬p3->(c↔d))(i4:¬p4->(b↔d))(e1:p1->¬p2/\¬p3/\¬p4)(e2:p2->¬p3/\¬p4)(e3:p3->¬p4)(h:a\/b\/c\/d):a/\b/\c/\d:=by
 by_cases h1:p1
 ·obtain⟨n2,n3,n4⟩:=e1 h1
  have:=i2 n2;have:=i3 n3;have:=i4 n4
  clear i1 i2 i3 i4 e1 e2 e3
  grind
 ·have k1:=i1 h1;by_cases h2:p2
  ·obtain⟨n3,n4⟩:=e2 h2
   have:=i3 n3;have:=i4 n4
   clear i1 i2 i3 i4 e1 e2 e3
   grind
  ·have k2:=i2 h2;by_cases h3:p3
   ·have:=i4 (e3 h3)
    clear i1 i2 i3 i4 e1 e2 e3
    grind
   ·have:=i3 h3
    clear i1 i2 i3 i4 e1 e2 e3
    grind
theorem XH(nd:F.Nodup)(I:IsLay F l)(S:Sq->Prop)(cl:∀c,S c->∀p∈B9 F l c,S p.1){x:Sq}(hx:x∈F)(hy:∃y∈cor x,S y):∀y∈cor x,S y:=by
 obtain⟨r,c⟩:=x;have go:∀{a y:Sq}{v:Int},(y,v)∈B9 F l a->S a->S y:=fun h s=>cl _ s _ h;have dis:∀s t:DN,s≠t->((r,c)=s.1\/(r,c)=s.2)->((r,c)=t.1\/(r,c)=t.2)->s∈l->t∉l:=fun s t Bk h1 h2 hs ht=>Bk (Ge nd I hs ht h1 h2);have key:=gs (p1:=((r-1,c),(r,c))∈l) (p2:=((r,c-1),(r,c))∈l) (p3:=((r,c),(r+1,c))∈l) (p4:=((r,c),(r,c+1))∈l) (a:=S (r,c)) (b:=S (r,c+1)) (c:=S (r+1,c)) (d:=S (r+1,c+1))
  (fun n=>⟨go (Bo.mpr (.inr (.inr (.inl ⟨rfl,rfl,.inr hx,n⟩)))),go (v:=sgn (r,c)) (Bo.mpr (.inr (.inl ⟨by simp,by simp,.inl (by simpa using hx),by simpa using n⟩)))⟩)
  (fun n=>⟨go (Bo.mpr (.inr (.inr (.inr ⟨rfl,rfl,.inl hx,n⟩)))),go (v:=sgn (r,c-1)) (Bo.mpr (.inl ⟨by simp,by simp,.inr (by simpa using hx),by simpa using n⟩))⟩)
  (fun n=>⟨go (v:=sgn (r,c)) (Bo.mpr (.inr (.inr (.inl ⟨rfl,by simp,.inl (by simpa using hx),by simpa using n⟩)))),go (v:=sgn (r+1,c)) (Bo.mpr (.inr (.inl ⟨by simp,by simp,.inr (by simpa using hx),by simpa using n⟩)))⟩)
  (fun n=>⟨go (v:=sgn (r,c+1)) (Bo.mpr (.inr (.inr (.inr ⟨rfl,by simp,.inr (by simpa using hx),by simpa using n⟩)))),go (v:=sgn (r,c)) (Bo.mpr (.inl ⟨by simp,by simp,.inl (by simpa using hx),by simpa using n⟩))⟩)
  (fun k=>⟨dis _ _ (by simp;lia) (.inr rfl) (.inr rfl) k,dis _ _ (by simp;lia) (.inr rfl) (.inl rfl) k,dis _ _ (by simp;lia) (.inr rfl) (.inl rfl) k⟩)
  (fun k=>⟨dis _ _ (by simp;lia) (.inr rfl) (.inl rfl) k,dis _ _ (by simp;lia) (.inr rfl) (.inl rfl) k⟩)
  (fun k=>dis _ _ (by simp;lia) (.inl rfl) (.inl rfl) k)
  (by
   obtain⟨y,hy,hs⟩:=hy;rcases Aj.mp hy with rfl|rfl|rfl|rfl
   ·exact .inl hs
   ·exact .inr (.inl hs)
   ·exact .inr (.inr (.inl hs))
   ·exact .inr (.inr (.inr hs)))
 intro y hy;rcases Aj.mp hy with rfl|rfl|rfl|rfl
 ·exact key.1
 ·exact key.2.1
 ·exact key.2.2.1
 ·exact key.2.2.2
theorem Tg(nd:F.Nodup)(I:IsLay F l)(S:Sq->Prop)(cl:∀c,S c->∀p∈B9 F l c,S p.1){s:Sq}(hs:s∈F)(h0:S s)(hang:∀x∈F,Con nbR (·∈F) s x):∀x∈F,∀y∈cor x,S y:=by
 have key:∀x,Con nbR (·∈F) s x->x∈F->∀y∈cor x,S y:=by
  intro x hx
  induction hx with
  |base=>exact fun _=>XH nd I S cl hs ⟨s,Aj.mpr (.inl rfl),h0⟩
  |step hx hn hg ih=>
   rename_i x y;intro Xl;have aW:x∈F:=hx.in hs;have k:=ih aW;obtain⟨r,c⟩:=x;have UU:y∈nbM (r,c):=hn;simp only[nbM,List.mem_cons,List.not_mem_nil,or_false]at UU;refine XH nd I S cl Xl ?_;rcases UU with rfl|rfl|rfl|rfl
   ·exact⟨(r,c),Aj.mpr (by simp),k _ (Aj.mpr (by simp))⟩
   ·exact⟨(r,c),Aj.mpr (by simp),k _ (Aj.mpr (by simp))⟩
   ·exact⟨(r,c+1),Aj.mpr (by simp),k _ (Aj.mpr (by simp))⟩
   ·exact⟨(r+1,c),Aj.mpr (by simp),k _ (Aj.mpr (by simp))⟩
 exact fun x hx=>key x (hang x hx) hx
theorem GA(gd:Good F):F.headD (0,0)∈F:=by
 cases F with
 |nil=>exact absurd rfl gd.ne
 |cons a r=>exact List.mem_cons_self ..
theorem Qx(gd:Good F){x:Sq}(hx:x∈F):x=F.headD (0,0)\/AN (F.headD (0,0)) x:=by
 cases F with
 |nil=>exact absurd rfl gd.ne
 |cons a r=>
  rcases List.mem_cons.mp hx with rfl|hx
  ·exact .inl rfl
  ·exact .inr ((List.pairwise_cons.mp gd.up).1 x hx)
theorem SG(gd:Good F)(hp:C1 F=true):∀x∈F,Con nbR (·∈F) (F.headD (0,0)) x:=by unfold C1 Je at hp;simp only[Bool.and_eq_true,beq_iff_eq]at hp;exact((IF (R:=nbR) (g:=(·∈F)) gd.nodup (fun x=>Iff.rfl) (GA gd)).2.mp (by lia))
theorem fh(gd:Good F)(hp:C1 F=true):∃h,Pl F h:=by
 have hg:=SG gd hp;unfold C1 Dv at hp;simp only[Bool.and_eq_true,beq_iff_eq,Bool.not_eq_true']at hp;obtain⟨_,h2,h3⟩:=hp;rw[K8]at h3;have m1:g2 F (-1,-1):=⟨by decide,fun hm=>by have:=gd.inn _ hm;simp at this⟩;have bl:=OQ gd;have ca:=(IF (R:=n9R) (s:=(-1,-1)) (B:=(EA (-1) (-1) 10 10).filter fun q=>!F.contains q) ((Ee (LF (-1) (-1) 10 10)).filter _) (g:=g2 F) (fun x=>by
  rw[List.mem_filter,Cn];simp only[Bool.not_eq_true',List.contains_eq_mem,decide_eq_false_iff_not,g2];constructor
  ·rintro⟨a,b⟩;exact⟨by lia,b⟩
  ·rintro⟨a,b⟩;exact⟨by lia,b⟩) m1).2.mp (by lia)
 have hB:=W9 gd h3 fun x hx=>(ca x hx).mono (fun a b HI=>RJ.mp HI) fun _ h=>h;obtain⟨h,H⟩:=b6 gd.nodup gd.inn hB;exact⟨h,gd,H,_,GA gd,hg⟩
def Cu(F:List Sq):List Sq:=(EA 0 0 9 9).filter fun y=>F.any fun x=>(cor x).contains y
theorem NL(F:List Sq):(Cu F).Pairwise AN:=(LF 0 0 9 9).sublist List.filter_sublist
theorem IE(gd:Good F){y:Sq}:y∈Cu F↔∃x∈F,y∈cor x:=by
 unfold Cu;rw[List.mem_filter,Cn,List.any_eq_true];simp only[List.contains_eq_mem,decide_eq_true_eq];refine⟨fun h=>h.2,fun h=>⟨?_,h⟩⟩;obtain⟨x,hx,hy⟩:=h
 have:=gd.inn x hx
 rcases Aj.mp hy with rfl|rfl|rfl|rfl<;>(try simp only)<;>lia
theorem YM(gd:Good F):Cors F (Cu F):=⟨Ee (NL F),fun y=>IE gd⟩
theorem Ob(F:List Sq):(Cu F).length<=81:=by
 have:=List.length_filter_le (fun y=>F.any fun x=>(cor x).contains y) (EA 0 0 9 9)
 rw[Hr]at this;exact this
end
end TF
namespace TF
open PySem PySem.Spec L2
open PyProof.Rows hiding St RelV
section
variable {prog:Program}{w:World}{A:Around}{E:Value->Shared->Prop}{s:Shared}{it d:Addr}{od:Obj}{es:Array DictEntry}{i ep:Nat}
def itO(x y:Value)(d:Addr)(i n ep:Nat)(u v:Value):Obj:={ cls:=.type "dict_itemiterator",dict:=none,data:=.fields #[x,y,.ref d,.int i 0,.int n 0,.int ep 0,u,v],slots:=#[] }
theorem Vu{x y u v:Value}{n:Nat}(hit:s.heap.get? it=some (itO x y d i n ep u v)):s.TypeIs (.ref it) "dict_itemiterator":=⟨_,hit,rfl⟩
theorem YB{x y u v:Value}{Q:Option Value->Shared->Prop}(hit:s.heap.get? it=some (itO x y d i es.size ep u v))(Nx:s.heap.get? d=some od)(Fd:od.data=.dict es ep)(hi:i<es.size)(h:∀h1,h1.get? it=some (itO x y d (i+1) es.size ep u v)->Heap.SameBut it s.heap h1->∀(A':Around)(E':Value->Shared->Prop),wpAny (model prog w) A' (Builtin.Dict_items.pairFromOwner (.ref it) 6 es[i].key es[i].val) (fun r s'=>Q (some r) s') E' { s with heap:=h1 }) :
  wpAny (model prog w) A (pyNext (.ref it)) Q E s:=by
 have ty:=Vu hit;have own:Builtin.Dict_items.ownsTuple "dict_itemiterator"=true:=by decide
 unfold pyNext;refine wpAny_bind (wpAny_attempt (wpAny_callSpecial?_slot (name:=Str.ofString "__next__") ty F.slot_dict_itemiterator_next (wpAny_call_entry F.slot_dict_itemiterator_next ty F.entry_dict_itemiterator_next ?_ (F.args_dict_itemiterator_next_1 _))));refine wpAny_bind (wpAny_pure (wpAny_bind (wpAny_bind ?_)));refine wpAny_bind (wpAny_typeNameOfWhole_itemiter ty (wpAny_pure (wpAny_bind (wpAny_fieldsOf hit rfl ?_))));simp only[own,if_true];show wpAny _ _ (if (Value.ref d==Value.none)=true then _ else _) _ _ _;rw[if_neg (show ¬(Value.ref d==Value.none)=true from nofun)];refine wpAny_bind (wpAny_pure (wpAny_bind (wpAny_dictEntries Nx Fd ?_)));rw[if_neg (by simp)];refine wpAny_bind (wpAny_pure (wpAny_bind (wpAny_dictEpoch Nx Fd ?_)));rw[if_neg (by simp)];refine wpAny_pure ?_;simp only[show ¬((i:Int)<0) by lia,if_false,Int.toNat_natCast,Array.getElem?_eq_getElem hi];refine wpAny_bind (wpAny_bind (wpAny_typeNameOfWhole_itemiter ty (wpAny_pure (wpAny_bind (wpAny_isOneOf_itemiter ty ?_)))));show wpAny _ _ (setField (.ref it) 3 (rawInt ((i:Int)+1)) >>= _) _ _ _;refine wpAny_bind (wpAny_setField_rec hit (by simp) fun h1 g1 k1=>?_);have g2:h1.get? it=some (itO x y d (i+1) es.size ep u v):=by
  have e:((i+1:Nat):Int)=(i:Int)+1:=by lia
  unfold itO;rw[e];simpa[rawInt]using g1
 have nN:Shared.TypeIs { s with heap:=h1 } (.ref it) "dict_itemiterator":=⟨_,g2,rfl⟩;refine wpAny_bind (wpAny_holding (wpAny_bind (wpAny_isOneOf_itemiter nN (wpAny_bind (wpAny_isOneOf_itemiter nN ?_)))));refine wpAny_mono (h h1 g2 k1 _ _) (fun r s' q=>?_) (fun _ _ z=>z);exact wpAny_pure ⟨_,rfl,wpAny_pure q⟩
def ItS(h:Heap)(it d:Addr)(i n ep:Nat):Prop:=∃x y u v,h.get? it=some (itO x y d i n ep u v)/\(x=.none\/∃(a:Addr)(oa:Obj),x=rawInt a/\h.get? a=some oa/\it<a)/\∃b,y=.bool b
theorem Wo{key val:Value}{n:Nat}{Q:Value->Shared->Prop}(hs:ItS s.heap it d i n ep)(h:∀h',ItS h' it d i n ep->h'.get? s.heap.objs.size=some { cls:=.type "tuple",data:=.seq #[key,val] }->h'.objs.size=s.heap.objs.size+1->(∀b o,b≠it->s.heap.get? b=some o->h'.get? b=some o)->Q (.ref s.heap.objs.size) { s with heap:=h' }) :
  wpAny (model prog w) A (Builtin.Dict_items.pairFromOwner (.ref it) 6 key val) Q E s:=by
 obtain⟨x,y,u,v,hit,hx,b,rfl⟩:=hs;have lW:it<s.heap.objs.size:=Heap.lt_size hit;unfold Builtin.Dict_items.pairFromOwner;refine wpAny_bind (wpAny_newTuple ?_);obtain⟨h2,d0⟩:∃h2,h2=s.heap.push { cls:=.type "tuple",data:=.seq #[key,val] }:=⟨_,rfl⟩;have t2:h2.get? s.heap.objs.size=some { cls:=.type "tuple",data:=.seq #[key,val] }:=by rw[d0];exact Heap.get?_push_size _ rfl
 have z2:h2.objs.size=s.heap.objs.size+1:=by rw[d0,Heap.size_push]
 have k2:∀c o,s.heap.get? c=some o->h2.get? c=some o:=fun c o e=>by rw[d0];exact Heap.get?_push_of_some _ e
 have g2:=k2 _ _ hit;show wpAny _ _ (Builtin.Dict_items.ownedTupleIsFree (.ref it) >>= _) _ _ { s with heap:=s.heap.push { cls:=.type "tuple",data:=.seq #[key,val] } };rw[<-d0];clear d0;have di:s.heap.objs.size≠it:=Nat.ne_of_gt lW;unfold Builtin.Dict_items.ownedTupleIsFree;rcases hx with rfl|⟨a,oa,rfl,ha,Yc⟩
 ·refine wpAny_bind (wpAny_bind (wpAny_field g2 rfl (x:=.none) rfl (wpAny_pure ?_)));simp only[if_true];refine wpAny_bind (wpAny_field g2 rfl (x:=u) rfl (wpAny_bind (wpAny_field g2 rfl (x:=v) rfl ?_)));refine wpAny_bind (wpAny_setField_rec g2 (by simp) fun h3 g3 k3=>wpAny_bind (wpAny_setField_rec g3 (by simp) fun h4 g4 k4=>wpAny_bind (wpAny_setField_rec g4 (by simp) fun h5 g5 k5=>wpAny_bind (wpAny_setField_rec g5 (by simp) fun h6 g6 k6=>?_))));have kk:∀c o,c≠it->h2.get? c=some o->h6.get? c=some o:=fun c o hc e=>k6.extBut c o hc (k5.extBut c o hc (k4.extBut c o hc (k3.extBut c o hc e)));refine wpAny_bind (wpAny_letGo (wpAny_pure (h h6 ⟨rawInt s.heap.objs.size,.bool false,key,val,g6,.inr ⟨_,_,rfl,kk _ _ di t2,lW⟩,false,rfl⟩ (kk _ _ di t2) ?_ fun c o hc e=>kk c o hc (k2 c o e))));rw[k6.1,k5.1,k4.1,k3.1];exact z2
 ·have dZ:=k2 _ _ ha;refine wpAny_bind (wpAny_bind (wpAny_field g2 rfl (x:=rawInt a) rfl ?_));show wpAny _ _ (loadIfAlive ((a:Int).toNat) >>= _) _ _ _;rw[Int.toNat_natCast];refine wpAny_bind (PySem.W.kdx_alive dZ ?_);simp only[Option.isNone_some,Bool.false_eq_true,if_false];refine wpAny_bind (wpAny_field g2 rfl (x:=.bool b) rfl ?_);cases b with
  |true=>
   rw[if_neg (show ¬(Value.bool true != Value.bool true)=true from nofun)];refine wpAny_pure ?_;simp only[Bool.false_eq_true,if_false];exact wpAny_pure (h h2 ⟨_,_,_,_,g2,.inr ⟨a,oa,rfl,dZ,Yc⟩,true,rfl⟩ t2 z2 fun c o _ e=>k2 c o e)
  |false=>
   rw[if_pos (show(Value.bool false != Value.bool true)=true from rfl)];refine wpAny_bind (wpAny_setField_rec g2 (by simp) fun h3 g3 k3=>wpAny_pure ?_);simp only[Bool.false_eq_true,if_false];refine wpAny_pure (h h3 ⟨_,_,_,_,g3,.inr ⟨a,oa,rfl,k3.extBut _ _ (Nat.ne_of_gt Yc) dZ,Yc⟩,true,rfl⟩ (k3.extBut _ _ di t2) ?_ fun c o hc e=>k3.extBut c o hc (k2 c o e));rw[k3.1];exact z2
theorem X6{Q:Option Value->Shared->Prop}(hs:ItS s.heap it d i es.size ep)(Nx:s.heap.get? d=some od)(Fd:od.data=.dict es ep)(hi:i<es.size)(SA:d≠it)(h:∀h',ItS h' it d (i+1) es.size ep->h'.get? s.heap.objs.size=some { cls:=.type "tuple",data:=.seq #[es[i].key,es[i].val] }->h'.objs.size=s.heap.objs.size+1->(∀b o,b≠it->s.heap.get? b=some o->h'.get? b=some o)->Q (some (.ref s.heap.objs.size)) { s with heap:=h' }) :
  wpAny (model prog w) A (pyNext (.ref it)) Q E s:=by
 obtain⟨x,y,u,v,hit,hx,hy⟩:=hs;refine YB hit Nx Fd hi fun h1 g1 k1 A' E'=>?_;refine Wo (s:={ s with heap:=h1 }) (i:=i+1) ⟨x,y,u,v,g1,?_,hy⟩ fun h' st t z k=>?_
 ·rcases hx with hx|⟨a,oa,e,ha,Yc⟩
  ·exact .inl hx
  ·exact .inr ⟨a,oa,e,k1.extBut a oa (Nat.ne_of_gt Yc) ha,Yc⟩
 ·have e1:h1.objs.size=s.heap.objs.size:=k1.1;simp only[e1]at t z k ⊢;exact h h' st t z fun b o hb e=>k b o hb (k1.extBut b o hb e)
theorem cg{Q:Option Value->Shared->Prop}(hh:A.handled=none)(hs:ItS s.heap it d i es.size ep)(Nx:s.heap.get? d=some od)(Fd:od.data=.dict es ep)(hi:es.size<=i)(h:∀h',Heap.ExtBut it s.heap h'->Q none { s with heap:=h' }):wpAny (model prog w) A (pyNext (.ref it)) Q E s:=by
 obtain⟨x,y,u,v,hit,hx,hy⟩:=hs;have ty:=Vu hit;have own:Builtin.Dict_items.ownsTuple "dict_itemiterator"=true:=by decide
 unfold pyNext;refine wpAny_bind (wpAny_attempt (wpAny_callSpecial?_slot (name:=Str.ofString "__next__") ty F.slot_dict_itemiterator_next (wpAny_call_entry F.slot_dict_itemiterator_next ty F.entry_dict_itemiterator_next ?_ (F.args_dict_itemiterator_next_1 _))));refine wpAny_bind (wpAny_pure (wpAny_bind (wpAny_bind ?_)));refine wpAny_bind (wpAny_typeNameOfWhole_itemiter ty (wpAny_pure (wpAny_bind (wpAny_fieldsOf hit rfl ?_))));simp only[own,if_true];show wpAny _ _ (if (Value.ref d==Value.none)=true then _ else _) _ _ _;rw[if_neg (show ¬(Value.ref d==Value.none)=true from nofun)];refine wpAny_bind (wpAny_pure (wpAny_bind (wpAny_dictEntries Nx Fd ?_)));rw[if_neg (by simp)];refine wpAny_bind (wpAny_pure (wpAny_bind (wpAny_dictEpoch Nx Fd ?_)));rw[if_neg (by simp)];refine wpAny_pure ?_;simp only[show ¬((i:Int)<0) by lia,if_false,Int.toNat_natCast,Array.getElem?_eq_none hi];refine wpAny_bind (wpAny_bind (wpAny_typeNameOfWhole_itemiter ty (wpAny_pure ?_)));show wpAny _ _ (setField (.ref it) 2 .none >>= _) _ _ _;refine wpAny_bind (wpAny_setField hit rfl (by simp) ?_);show wpAny _ _ (newExc (.type "StopIteration") [] >>= _) _ _ _;refine wpAny_bind ?_;simp only[newExc,newTuple];refine wpAny_bind (wpAny_newObj_type ?_ (by size_fits));refine wpAny_bind (m:=firstArgMember _ _) (wpAny_of_eq (a:=Value.none) (by first|rfl|(simp only[firstArgMember];rfl)) (wpAny_newObj_type ?_ (by size_fits)));simp only[raiseNew];refine wpAny_bind (wpAny_handled ?_);rw[show A.in1.handled=none from hh];refine wpAny_bind (wpAny_pure (wpAny_throw (?_:wpAny _ _ _ _ _ _)));refine wpAny_bind (wpAny_isInstance (T:="StopIteration") (b:=true) ⟨_,Heap.get?_push_size _ rfl,rfl⟩ isSubtype_stop (wpAny_pure (h _ (((Heap.SameBut.update ..).extBut.push _).push _))))
theorem ItS.keep{h h':Heap}{S n:Nat}(hs:ItS h it d i n ep)(de:S<it)(k:∀b o,b≠S->h.get? b=some o->h'.get? b=some o):ItS h' it d i n ep:=by
 obtain⟨x,y,u,v,g,hx,hy⟩:=hs;refine⟨x,y,u,v,k _ _ (Nat.ne_of_gt de) g,?_,hy⟩;rcases hx with hx|⟨a,oa,e,ha,Yc⟩
 ·exact .inl hx
 ·exact .inr ⟨a,oa,e,k _ _ (Nat.ne_of_gt (Nat.lt_trans de Yc)) ha,Yc⟩
def VS(es:Array DictEntry)(lo:Addr)(h:Heap)(as:List Addr):Prop:=as.Pairwise (·<·)/\∀(j:Nat)(a:Addr),as[j]?=some a->lo<a/\∃e,es[j]?=some e/\h.get? a=some { cls:=.type "tuple",data:=.seq #[e.key,e.val] }
def lsO(Aw:Array Value)(c:Nat):Obj:={ cls:=.type "list",dict:=none,data:=.seq Aw c,slots:=#[] }
theorem Vd{S I:Addr}{R:Result->Shared->Prop}{h1:Heap}(hh:A.handled=none)(de:S<I)(oG:d≠S)(lr:d≠I)(Fd:od.data=.dict es ep)(hn:es.size<=sizeLine)(res:Value)(hR:∀h' Aw c as,(∀b o,b≠S->b≠I->h1.get? b=some o->h'.get? b=some o)->h'.get? S=some (lsO Aw c)->as.length=es.size->VS es I h' as->Aw.toList=as.map Value.ref->R (.ok (.ret res)) { s with heap:=h' }) :
  ∀(k i:Nat)(h:Heap)(c:Nat)(Aw:Array Value)(as:List Addr),es.size-i=k->i<=es.size->ItS h I d i es.size ep->h.get? d=some od->(∀b o,b≠S->b≠I->h1.get? b=some o->h.get? b=some o)->h.get? S=some (lsO Aw c)->Aw.toList=as.map Value.ref->as.length=i->VS es I h as →
   codeAny (model prog w) A (.builtin "list.extend.loop" ⟨[.ref S,.ref I,res],[]⟩) R { s with heap:=h }:=by
 have nR:S≠I:=Nat.ne_of_lt de;intro k
 induction k with
 |zero=>
  intro i h c Aw as hk hi st hd keep hS XI hl tu;refine codeAny_builtin F.entry_extend_loop ?_;rw[Around.under_plainId F.plain_extend_loop _];show wpAny _ A.in1 (pyNext (.ref I) >>= _) _ _ { s with heap:=h };refine wpAny_bind (cg (s:={ s with heap:=h }) (A:=A.in1) hh st hd Fd (by lia) fun h' ex=>?_);refine wpAny_pure (hR h' Aw c as (fun b o b1 b2 e=>ex b o b2 (keep b o b1 b2 e)) (ex S _ nR hS) (by lia) ⟨tu.1,fun j a hj=>?_⟩ XI);obtain⟨p1,e,p2,p3⟩:=tu.2 j a hj;exact⟨p1,e,p2,ex a _ (Nat.ne_of_gt p1) p3⟩
 |succ k ih=>
  intro i h c Aw as hk hi st hd keep hS XI hl tu;have BC:i<es.size:=by lia
  have hsz:Aw.size=i:=by rw[<-Array.length_toList,XI,List.length_map,hl]
  have oO:S<h.objs.size:=Heap.lt_size hS;have pk:I<h.objs.size:=by obtain⟨_,_,_,_,g,_⟩:=st;exact Heap.lt_size g
  refine codeAny_builtin F.entry_extend_loop ?_;rw[Around.under_plainId F.plain_extend_loop _];show wpAny _ A.in1 (pyNext (.ref I) >>= _) _ _ { s with heap:=h };refine wpAny_bind (X6 (s:={ s with heap:=h }) st hd Fd BC lr fun h' AR t z kp=>?_);dsimp only at t z kp ⊢;have MA:=kp S _ nR hS;have up:∀b o,b≠S->h'.get? b=some o->(h'.update S (Obj.mapSeq fun q=>q.push (Value.ref h.objs.size))).get? b=some o:=fun b o hb e=>(Heap.get?_update_other _ _ (Ne.symm hb)).trans e;show wpAny _ A.in1 (updateSeq S (fun q=>q.push (Value.ref h.objs.size)) >>= _) _ _ { s with heap:=h' };refine wpAny_bind ?_;refine wpAny_updateSeq MA rfl (wpAny_pure ⟨plainId_quiet F.plain_extend_loop _,ih (i+1) _ _ (Aw.push (Value.ref h.objs.size)) (as++[h.objs.size]) (by lia) BC (AR.keep de up) (up d _ oG (kp d _ lr hd)) (fun b o b1 b2 e=>up b o b1 (kp b o b2 (keep b o b1 b2 e))) (Heap.get?_update_self _ MA rfl) (by rw[Array.toList_push,XI,List.map_append];rfl) (by rw[List.length_append,hl];rfl) ?_⟩) (by rw[hsz];lia) (by show(Aw.push (Value.ref h.objs.size)).size<=sizeLine+1;rw[Array.size_push,hsz];lia);refine⟨List.pairwise_append.mpr ⟨tu.1,List.pairwise_singleton _ _,fun a ha b hb=>?_⟩,fun j b hj=>?_⟩
  ·rw[List.mem_singleton.mp hb];obtain⟨j,hj⟩:=List.mem_iff_getElem?.mp ha;obtain⟨_,_,_,p3⟩:=tu.2 j a hj;exact Heap.lt_size p3
  rw[List.getElem?_append]at hj;split at hj
  ·obtain⟨p1,e,p2,p3⟩:=tu.2 j b hj;exact⟨p1,e,p2,up b _ (Nat.ne_of_gt (Nat.lt_trans de p1)) (kp b _ (Nat.ne_of_gt p1) p3)⟩
  ·rename_i dg;have e0:j-as.length=0:=by
    have:=(List.getElem?_eq_some_iff.mp hj).1
    simp only[List.length_cons,List.length_nil]at this;lia
   have ej:j=i:=by lia
   rw[e0]at hj;cases hj;subst ej;exact⟨pk,es[j],Array.getElem?_eq_getElem BC,up _ _ (Nat.ne_of_gt oO) t⟩
theorem LS{r:Addr}{Q:List Value->Shared->Prop}(hh:A.handled=none)(hv:s.heap.IsItemsView r d)(hd:s.heap.get? d=some od)(hex:od.ExactDict)(Fd:od.data=.dict es ep)(hn:es.size<=sizeLine)(h:∀(h':Heap)(as:List Addr),(∀b o,s.heap.get? b=some o->h'.get? b=some o)->as.length=es.size->VS es s.heap.objs.size h' as->Q (as.map Value.ref) { s with heap:=h' }) :
  wpAny (model prog w) A (collect (.ref r)) Q E s:=by
 have hr:r<s.heap.objs.size:=let ⟨_,ho,_⟩:=hv;Heap.lt_size ho;have g8:d<s.heap.objs.size:=Heap.lt_size hd;unfold collect;refine wpAny_bind (wpAny_runValue (codeAny_builtin F.entry_proto_collect ?_));rw[Around.under_plainId F.plain_proto_collect _];refine wpAny_bind (m:=newList []) (wpAny_newObj_type ?_);refine wpAny_pure ⟨plainId_quiet F.plain_list_iadd _,codeAny_builtin F.entry_list_iadd ?_⟩;rw[Around.under_plainId F.plain_list_iadd _];show wpAny _ A.in1 (Builtin.List.listExtendWith (.ref s.heap.objs.size) (.ref r) _) _ _ _;unfold Builtin.List.listExtendWith;obtain⟨hl,eK⟩:∃hl,hl=s.heap.push { cls:=.type "list",data:=.seq ([]:List Value).toArray }:=⟨_,rfl⟩;have zl:hl.objs.size=s.heap.objs.size+1:=by rw[eK,Heap.size_push]
 have kl:∀b o,s.heap.get? b=some o->hl.get? b=some o:=fun b o e=>by rw[eK];exact Heap.get?_push_of_some _ e
 have gS:hl.get? s.heap.objs.size=some (lsO #[] 0):=by rw[eK];exact Heap.get?_push_size _ rfl
 rw[<-eK];clear eK;obtain⟨ov,ip,mK,pU⟩:=hv;have ty:Shared.TypeIs { s with heap:=hl } (.ref r) "dict_items":=⟨ov,kl _ _ ip,mK⟩;refine wpAny_bind (wpAny_typeOf ty ?_);have n1:Builtin.List.listSameRef (.ref s.heap.objs.size) (.ref r)=false:=by
  have:s.heap.objs.size≠r:=Nat.ne_of_gt hr;simp[Builtin.List.listSameRef,this]
 have n2:(Value.type "dict_items"==Value.type "list")=false:=by decide
 have n3:(Value.type "dict_items"==Value.type "tuple")=false:=by decide
 simp only[n1,n2,n3,Bool.or_false,Bool.false_eq_true,if_false];refine wpAny_bind ?_;refine wpAny_pyIter_slot ty F.slot_dict_items_iter (wpAny_call_entry F.slot_dict_items_iter ty F.entry_dict_items_iter ?_ (F.args_dict_items_iter_1 _));unfold Builtin.«dict_items.__iter__»;refine wpAny_bind (wpAny_pure (wpAny_bind ?_));unfold Builtin.Dict_items.dictOf;refine wpAny_bind (wpAny_field (kl _ _ ip) pU (x:=.ref d) rfl (wpAny_pure (wpAny_bind ?_)));unfold Builtin.Dict_items.newIterator;refine wpAny_bind (wpAny_dictEntries (kl _ _ hd) Fd (wpAny_bind (wpAny_dictEpoch (kl _ _ hd) Fd ?_)));have own:Builtin.Dict_items.ownsTuple "dict_itemiterator"=true:=by decide
 simp only[own,if_true];refine wpAny_newObj_type (wpAny_pure ⟨_,rfl,"dict_itemiterator",_,⟨_,Heap.get?_push_size _ rfl,rfl⟩,F.slot_dict_itemiterator_next.lookup,?_⟩) (by simp only[sizeOk,Builtin.Dict_items.ownedTupleFields,List.size_toArray,List.length_append,List.length_cons,List.length_nil,sizeLine_eq];lia);obtain⟨hi,iK⟩:∃hi,hi=hl.push (itO .none (.bool false) d 0 es.size ep .none .none):=⟨_,rfl⟩;have ki:∀b o,hl.get? b=some o->hi.get? b=some o:=fun b o e=>by rw[iK];exact Heap.get?_push_of_some _ e
 have gI:hi.get? (s.heap.objs.size+1)=some (itO .none (.bool false) d 0 es.size ep .none .none):=by rw[iK,<-zl];exact Heap.get?_push_size _ rfl
 dsimp only;show wpAny _ _ _ _ _ { s with heap:=hl.push (itO .none (.bool false) d 0 es.size ep .none .none) };rw[zl,<-iK];clear iK;have qi:Shared.TypeIs { s with heap:=hi } (.ref r) "dict_items":=⟨ov,ki _ _ (kl _ _ ip),mK⟩;have nS:s.heap.objs.size≠s.heap.objs.size+1:=Nat.ne_of_lt (Nat.lt_succ_self _);have key:∀(hx:Heap)(c:Nat),(∀b o,b≠s.heap.objs.size->hi.get? b=some o->hx.get? b=some o)->hx.get? s.heap.objs.size=some (lsO #[] c)->codeAny (model prog w) A (.builtin "list.extend.loop" ⟨[.ref s.heap.objs.size,.ref (s.heap.objs.size+1),.ref s.heap.objs.size],[]⟩) (fun q s'=>∃(h':Heap)(Aw:Array Value)(c:Nat)(as:List Addr),q=.ok (.ret (.ref s.heap.objs.size))/\s'={ s with heap:=h' }/\(∀b o,s.heap.get? b=some o->h'.get? b=some o)/\h'.get? s.heap.objs.size=some (lsO Aw c)/\as.length=es.size/\VS es (s.heap.objs.size+1) h' as/\Aw.toList=as.map Value.ref) { s with heap:=hx }:=by
  intro hx c kx gx;refine Vd (h1:=s.heap) hh (Nat.lt_succ_self _) (Nat.ne_of_lt g8) (Nat.ne_of_lt (Nat.lt_succ_of_lt g8)) Fd hn _ (fun h' Aw c as k1 k2 k3 k4 k5=>⟨h',Aw,c,as,rfl,rfl,fun b o e=>k1 b o (Nat.ne_of_lt (Heap.lt_size e)) (Nat.ne_of_lt (Nat.lt_succ_of_lt (Heap.lt_size e))) e,k2,k3,k4,k5⟩) (es.size-0) 0 hx c #[] [] rfl (Nat.zero_le _) ⟨_,_,_,_,kx _ _ (Ne.symm nS) gI,.inl rfl,false,rfl⟩ (kx _ _ (Nat.ne_of_lt g8) (ki _ _ (kl _ _ hd))) (fun b o b1 b2 e=>kx b o b1 (ki _ _ (kl _ _ e))) gx rfl rfl ⟨.nil,fun j a hj=>by simp at hj⟩
 have fin:∀(q:Result)(s':Shared),(∃(h':Heap)(Aw:Array Value)(c:Nat)(as:List Addr),q=.ok (.ret (.ref s.heap.objs.size))/\s'={ s with heap:=h' }/\(∀b o,s.heap.get? b=some o->h'.get? b=some o)/\h'.get? s.heap.objs.size=some (lsO Aw c)/\as.length=es.size/\VS es (s.heap.objs.size+1) h' as/\Aw.toList=as.map Value.ref)->∃v,q=.ok (.ret v)/\wpAny (model prog w) A (match v with|Value.ref a=>do (match (<-load a).data with|Data.seq xs _=>pure xs.toList|_=>unsupported "internal:collect")|_=>unsupported "internal:collect") Q E s':=by
  rintro q s' ⟨h',Aw,c,as,rfl,rfl,k1,k2,k3,k4,k5⟩;refine⟨_,rfl,?_⟩;refine wpAny_bind (m:=load s.heap.objs.size) (wpAny_load k2 ?_);show wpAny _ _ (pure Aw.toList) _ _ _;rw[k5];exact wpAny_pure (h h' as k1 k3 ⟨k4.1,fun j a hj=>⟨Nat.lt_of_succ_lt (k4.2 j a hj).1,(k4.2 j a hj).2⟩⟩)
 have jl:=ki _ _ gS;refine wpAny_bind (wpAny_holding (PySem.W.kdx_hint qi ?_));have done:∀hx c,(∀b o,b≠s.heap.objs.size->hi.get? b=some o->hx.get? b=some o)->hx.get? s.heap.objs.size=some (lsO #[] c)->codeAny (model prog w) A (.builtin "list.extend.loop" ⟨[.ref s.heap.objs.size,.ref (s.heap.objs.size+1),.ref s.heap.objs.size],[]⟩) (fun q s'=>∃v,q=.ok (.ret v)/\wpAny (model prog w) A (match v with|Value.ref a=>do (match (<-load a).data with|Data.seq xs _=>pure xs.toList|_=>unsupported "internal:collect")|_=>unsupported "internal:collect") Q E s') { s with heap:=hx }:=fun hx c kx gx=>codeAny_mono (key hx c kx gx) fin;refine wpAny_ite_split (fun _=>?_) (fun _=>wpAny_pure ⟨plainId_quiet F.plain_extend_loop _,codeAny_mono (done hi 0 (fun _ _ _ e=>e) jl) fun q s' z=>?_⟩)
 ·refine wpAny_bind (wpAny_rule (wpAny_bind ?_));show wpAny _ _ (updateSeq s.heap.objs.size (fun q=>q.push .none) >>= fun _=>updateSeq s.heap.objs.size (fun q=>q.pop)) _ _ { s with heap:=hi };refine wpAny_bind (wpAny_updateSeq jl rfl ?_);have g2:=Heap.get?_update_self (Obj.mapSeq fun q=>q.push Value.none) jl rfl;refine wpAny_updateSeq (hz:=by seq_fits) g2 rfl ?_;have g3:=Heap.get?_update_self (Obj.mapSeq fun q=>q.pop) g2 rfl;refine wpAny_pure ⟨plainId_quiet F.plain_extend_loop _,codeAny_mono (done _ _ (fun b o hb e=>(Heap.get?_update_other _ _ (Ne.symm hb)).trans ((Heap.get?_update_other _ _ (Ne.symm hb)).trans e)) g3) fun q s' z=>?_⟩;obtain⟨v,rfl,hw⟩:=z;exact hw
 ·obtain⟨v,rfl,hw⟩:=z;exact hw
end
def Kr(H:Hp)(L:Addr->Option (List V)):Hp:=fun a=>match L a with|some vs=>some (.tup vs)|none=>H a
theorem Ek{H:Hp}{L:Addr->Option (List V)}{a:Addr}(h:L a=none):Kr H L a=H a:=by unfold Kr;rw[h]
theorem Ph{H:Hp}{L:Addr->Option (List V)}{a:Addr}{vs:List V}(h:L a=some vs):Kr H L a=some (.tup vs):=by unfold Kr;rw[h]
theorem Inv.laidN{X:Cx}{AD:List (Addr×Obj)}{σ:St}{H:Hp}{s:Shared}{h':Heap}{t':Nat}(I:Inv X AD σ H s)(k:∀b u,s.heap.get? b=some u->h'.get? b=some u){L:Addr->Option (List V)}(hL:∀a vs,L a=some vs->s.heap.objs.size<=a/\vs.length<=sizeLine/\∃AS:List Value,Vals vs AS/\IsTup h' a AS.toArray):Inv X AD σ (Kr H L) { s with heap:=h',toks:=t' }:=by
 have U4:∀b u,s.heap.get? b=some u->L b=none:=fun b u e=>by
  cases q:L b with
  |none=>rfl
  |some vs=>exact absurd (Heap.lt_size e) (Nat.not_lt.mpr (hL b vs q).1)
 have dQ:∀b u,H b=some u->L b=none:=fun b u e=>by
  cases q:L b with
  |none=>rfl
  |some vs=>exact absurd (I.hok b u e).lt (Nat.not_lt.mpr (hL b vs q).1)
 have same:∀b u,H b=some u->Kr H L b=some u:=fun b u e=>by rw[Ek (dQ b u e)];exact e
 refine I.un (t':=t') ⟨fun b u q _ _ _=>k b u q,fun b u q _ _ _=>⟨u.slots,k b u q⟩,fun b u q n _=>by rw[Ek (U4 b u q)];exact n,fun b u q _=>⟨u,k b u q⟩,fun b xs q=>same b _ q,fun b u xs q=>same b _ q,fun b ps q=>⟨#[],by rw[same b _ q];simp⟩⟩ ?_;intro b u e;cases q:L b with
 |some vs=>
  rw[Ph q]at e;cases e;obtain⟨_,h2,AS,h3,h4⟩:=hL b vs q;exact⟨h2,AS,h3,h4⟩
 |none=>
  rw[Ek q]at e;exact(I.hok b u e).stay (fun c v _ z=>k c v z) (fun c z=>same c _ z) fun c xs z=>same c _ z
def pi(p:Sq×Int):Dat:=.tup [sq p.1,.int p.2]
theorem Xb(p q:Sq×Int):FlD 3 (pi p) (pi q):=by
 have F:=KO p.1 q.1;have J:=Hx (c:=1) (by decide) [.int p.2] [.int q.2] (fun x hx y hy=>by rw[List.mem_singleton.mp hx,List.mem_singleton.mp hy];exact Sa _ _) (fun x hx=>by rw[List.mem_singleton.mp hx];rfl) fun x hx=>by rw[List.mem_singleton.mp hx];rfl
 obtain⟨i1,i2⟩:=J;have key:Bs true [sq p.1,.int p.2] [sq q.1,.int q.2]=lx (BA [sq p.1,.int p.2]) (BA [sq q.1,.int q.2])/\eqL [sq p.1,.int p.2] [sq q.1,.int q.2]=decide (BA [sq p.1,.int p.2]=BA [sq q.1,.int q.2]):=by
  rw[show BA [sq p.1,.int p.2]=flat (sq p.1)++BA [.int p.2]from rfl,show BA [sq q.1,.int q.2]=flat (sq q.1)++BA [.int q.2]from rfl,Bs,eqL,F.eq,F.lt,i1,i2];by_cases e:flat (sq p.1)=flat (sq q.1)
  ·rw[decide_eq_true e,if_pos rfl,e];refine⟨(Qt _ _ _).symm,?_⟩;rw[Bool.true_and];simp
  ·rw[decide_eq_false e,if_neg (by decide)];refine⟨(Pa _ _ (by rw[F.lx,F.ly]) e).symm,?_⟩;rw[Bool.false_and];exact(decide_eq_false fun z=>e (List.append_inj z (by rw[F.lx,F.ly])).1).symm
 exact⟨rfl,rfl,by unfold pi;rw[eqD,flat,flat];exact key.2,by unfold pi;rw[CW,flat,flat];exact key.1⟩
theorem PU{p q:Sq×Int}(h:flat (pi p)=flat (pi q)):p=q:=by obtain⟨⟨a,b⟩,c⟩:=p;obtain⟨⟨a',b'⟩,c'⟩:=q;simp[pi,sq,flat,BA]at h;obtain⟨rfl,rfl,rfl⟩:=h;rfl
theorem O6(p:Sq×Int):AI 8 (pi p)=true:=by simp only[pi,AI,List.all_cons,List.all_nil,Bool.and_true,Bool.and_eq_true];exact⟨Ah _ 6,rfl⟩
def TPi:TyD (Sq×Int):=⟨pi,PU,fun x y=>(Xb x y).lt,fun x y=>(Xb x y).eq,O6,fun _ _=>rfl⟩
section
variable {prog:Program}{w:World}{A:Around}{E:Value->Shared->Prop}{s:Shared}
theorem PB{d:Addr}{od:Obj}{Q:Value->Shared->Prop}(hd:s.heap.get? d=some od)(hex:od.ExactDict)(hS:(d==sysModules)=false)(hQ:Q (.ref s.heap.objs.size) { s with heap:=s.heap.push { cls:=.type "dict_items",data:=.fields #[.ref d] } }) :
  wpAny (model prog w) A (call (.builtin "dict.items") [.ref d]) Q E s:=by
 have ty:s.TypeIs (.ref d) "dict":=⟨od,hd,hex.1⟩;refine wpAny_call_entry F.slot_dict_items ty F.entry_dict_items ?_ (F.args_dict_items_1 _);unfold Builtin.«dict.items»;refine wpAny_bind ?_;unfold Builtin.Dict.noArgs;refine wpAny_bind (wpAny_notOrdered_dict ty ?_);show wpAny _ _ (pure d) _ _ s;refine wpAny_pure ?_;show wpAny _ _ (Builtin.Dict.showsAll d >>= _) _ _ s;unfold Builtin.Dict.showsAll;rw[if_neg (by rw[hS];exact nofun)];exact wpAny_bind (wpAny_pure (wpAny_bind (wpAny_newObj_type (wpAny_pure ⟨_,rfl,hQ⟩))))
end
theorem PD{β:Type}:∀{as:List Addr}{vs:List β},as.Pairwise (·<·)->∀(j:Nat) a v,as[j]?=some a->vs[j]?=some v->(as.zip vs).lookup a=some v
 |[],_,_,j,a,v,h,_=>by simp at h
 |_::_,[],_,j,a,v,_,h=>by simp at h
 |b::as,w::vs,nd,j,a,v,h1,h2=>by
  rw[List.zip_cons_cons,List.lookup_cons];cases j with
  |zero=>
   cases h1;cases h2;rw[beq_self_eq_true]
  |succ j=>
   have QB:as[j]?=some a:=h1;have Bk:a≠b:=Nat.ne_of_gt ((List.pairwise_cons.mp nd).1 a (List.mem_of_getElem? QB));rw[show(a==b)=false from beq_eq_false_iff_ne.mpr Bk];exact PD (List.pairwise_cons.mp nd).2 j a v QB h2
theorem Sm{β:Type}:∀{as:List Addr}{vs:List β}{a:Addr}{v:β},(as.zip vs).lookup a=some v->∃j:Nat,as[j]?=some a/\vs[j]?=some v
 |[],_,a,v,h=>by simp at h
 |_::_,[],a,v,h=>by simp at h
 |b::as,w::vs,a,v,h=>by
  rw[List.zip_cons_cons,List.lookup_cons]at h;cases e:a==b with
  |true=>
   rw[e]at h;cases h;exact⟨0,by rw[eq_of_beq e];rfl,rfl⟩
  |false=>
   rw[e]at h;obtain⟨j,h1,h2⟩:=Sm h;exact⟨j+1,h1,h2⟩
theorem DRep.nth{K:PySem.W.Frag}{H:Hp}:∀{AV:List (Dat×Dat)}{xs:List (Dat×Addr×Value)},DRep K H AV xs->∀(j:Nat) k d,AV[j]?=some (k,d)->∃a u,xs[j]?=some (k,a,u)/\Rep K H k (.ref a)/\∃v,RelV v u/\Rep K H d v
 |[],_,h,j,k,d,e=>by simp at e
 |(k',d')::r,_,h,j,k,d,e=>by
  rw[DRep]at h;obtain⟨a,u,L3,rfl,_,h3,h4,h6⟩:=h;cases j with
  |zero=>cases e;exact⟨a,u,rfl,h3,h4⟩
  |succ j=>exact DRep.nth h6 j k d e
theorem SU{K:PySem.W.Frag}{H:Hp}:∀{ds:List Dat}{vs:List V}{us:List Value},vs.length=ds.length->us.length=ds.length->(∀(j:Nat) d v u,ds[j]?=some d->vs[j]?=some v->us[j]?=some u->Rep K H d v/\RelV v u)->Tri K H ds vs us
 |[],[],[],_,_,_=>.nil
 |[],_::_,_,h,_,_=>by simp at h
 |[],[],_::_,_,h,_=>by simp at h
 |_::_,[],_,h,_,_=>by simp at h
 |_::_,_::_,[],_,h,_=>by simp at h
 |d::ds,v::vs,u::us,h1,h2,h=>by
  obtain⟨r1,r2⟩:=h 0 d v u rfl rfl rfl;exact .cons r1 r2 (SU (by simpa using h1) (by simpa using h2) fun j d' v' u' a b c=>h (j+1) d' v' u' a b c)
theorem Pz{H:Hp}{G:Gs}{N:Addr->Option (List V)}(hN:∀b u,H b=some u->N b=none):Ext H G (Kr H N) G:=⟨fun b o h _=>by rw[Ek (hN b o h)];exact h,fun b h=>.inl h⟩
theorem VJ{K:PySem.W.Frag}{H:Hp}{G:Gs}{N:Addr->Option (List V)}(hN:∀b u,H b=some u->N b=none)(o:GOk K H G):GOk K (Kr H N) G:=fun a od e=>by
 have E:=Pz (G:=G) hN;cases od with
 |lst l=>
  obtain⟨vs,h1,h2⟩:=o a _ e;exact⟨vs,by rw[Ek (hN _ _ h1)];exact h1,h2.same E.hid⟩
 |dct AV=>
  obtain⟨xs,h1,h2⟩:=o a _ e;exact⟨xs,by rw[Ek (hN _ _ h1)];exact h1,h2.same E.hid⟩
section
variable {X:Cx}{ρ:Rho}{G:Gs}{a:Expr}{pos p3 Ax apos:Pos}{p:Addr}{L:List (Sq×Int)}
theorem KS(oX:X.mg "sorted"=none)(hu:X.A.units+20<cLine)(Bm:X.calm=true)(ha:PX X ρ G a (.fn p))(hG:G p=some (.dct (L.map fun q=>(sq q.1,.int q.2))))(oM:Gl X "sorted":=by rfl)(GK:attributeBase a "items" X.env (eval a X.env)=eval a X.env:=by rfl)(Di:(apos.endLine==Ax.line)=true:=by rfl)(he2:starEach [.Call (.Attribute a "items" apos) [] [] Ax] X.env=(false,eval (.Call (.Attribute a "items" apos) [] [] Ax) X.env)::starEach [] X.env:=by rfl) :
  PX X ρ G (.Call (.Name "sorted" p3) [.Call (.Attribute a "items" apos) [] [] Ax] [] pos) (.lst ((TPi.sort L).map pi)):=by
 intro AD s σ H I S;refine wpAny_Call_Name_kw (EB I oM oX (by decide +kernel:bootBuiltins "sorted"=some (.builtin "sorted")) ?_ (by decide) (by decide));refine PyProof.Rows.callWith_builtin1 (PyProof.Rows.spliced_more ?_ he2) he2 rfl;refine wpAny_Call_method0_late GK Di (thn (ha AD s σ H I S) fun u s1 ⟨x,H1,I1,rx,_,G1,e1,o1,r1,q1,BV⟩=>?_);subst q1;subst BV;cases (show x=V.ref p from r1);cases rx;obtain⟨xs,h3,r3⟩:=o1 p _ hG;obtain⟨y1,y2,dd⟩:=Hj I1 h3 (r3.same AK);obtain⟨od,es,ep,Nx,hex,Fd,l6,iJ,rA⟩:=id dd;refine⟨"dict","dict.items",PySem.F.plainAttrs_dict,PySem.F.slot_dict_items,PySem.F.type_dict_items,dd.typeIs,?_,?_⟩
 ·intro b hb;cases hb;exact⟨od,Nx,hex.2.1⟩
 refine Calls.callWith_builtin rfl (PySem.evalArgs_none (PB Nx hex y1 (PyProof.Rows.spliced_none ?_)));refine Calls.call_function_entry kind_sorted plain_sorted entry_sorted (args_sorted1 _) ?_;unfold Builtin.«sorted»;refine wpAny_bind (m:=checkCount "sorted" 1 1 _) (wpAny_pure ?_);have hsz:es.size=xs.length:=by rw[<-Array.length_toList,l6,List.length_map]
 refine wpAny_bind (LS (s:={ s1 with heap:=s1.heap.push { cls:=.type "dict_items",data:=.fields #[.ref p] } }) (by simpa using I1.ok.hd Bm) ⟨_,Heap.get?_push_size _ rfl,rfl,rfl⟩ (Heap.get?_push_of_some _ Nx) hex Fd (by rw[hsz];exact y2) fun h1 as kp hl tu=>?_);have Au:xs.length=L.length:=by rw[r3.length,List.length_map]
 have Di:∀n,n<=xs.length->n<=sizeLine:=fun n hn=>Nat.le_trans hn y2;obtain⟨ZG,ji⟩:∃ZG:List (List V),ZG=(xs.zip L).map fun q=>[V.ref q.1.2.1,V.int q.2.2]:=⟨_,rfl⟩;have m7:∀(j:Nat) q,L[j]?=some q->∃ak u t b,xs[j]?=some (sq q.1,ak,u)/\u=Value.int q.2 t/\Rep X.K (hid H1 G1) (sq q.1) (.ref ak)/\as[j]?=some b/\ZG[j]?=some [V.ref ak,V.int q.2]/\s1.heap.objs.size<b/\h1.get? b=some { cls:=.type "tuple",data:=.seq #[Value.ref ak,u] }:=by
  intro j q hj;obtain⟨ak,u,hx,rk,v,rv,rd⟩:=r3.nth j (sq q.1) (.int q.2) (by rw[List.getElem?_map,hj];rfl);rw[Rep]at rd;subst rd;obtain⟨t,rfl⟩:=rv;have g9:j<as.length:=by
   have:=(List.getElem?_eq_some_iff.mp hx).1
   lia
  obtain⟨b,hb⟩:∃b,as[j]?=some b:=⟨as[j],List.getElem?_eq_getElem g9⟩;obtain⟨p1,e,p2,p3⟩:=tu.2 j b hb;have he:e=gH (sq q.1,ak,Value.int q.2 t):=by
   have:es.toList[j]?=some e:=by rw[Array.getElem?_toList];exact p2
   rw[l6,List.getElem?_map,hx]at this;cases this;rfl
  subst he;refine⟨ak,_,t,b,hx,rfl,rk,hb,?_,Nat.lt_trans (Nat.lt_succ_self _) (by have:=p1;simp only[Heap.size_push]at this;exact this),p3⟩;rw[ji,List.getElem?_map,(List.getElem?_zip_eq_some (z:=((sq q.1,ak,Value.int q.2 t),q))).mpr ⟨hx,hj⟩];rfl
 have pG:∀b o,s1.heap.get? b=some o->h1.get? b=some o:=fun b o e=>kp b o (Heap.get?_push_of_some _ e);have lZ:∀b vs,(as.zip ZG).lookup b=some vs->∃(j:Nat)(q:Sq×Int)(ak:Addr)(u:Value)(t:Tok),L[j]?=some q/\vs=[V.ref ak,V.int q.2]/\u=Value.int q.2 t/\s1.heap.objs.size<b/\h1.get? b=some { cls:=.type "tuple",data:=.seq #[Value.ref ak,u] }:=by
  intro b vs e;obtain⟨j,gc,dg⟩:=Sm e;have lD:j<L.length:=by have:=(List.getElem?_eq_some_iff.mp gc).1;lia
  obtain⟨ak,u,t,b',_,HH,_,hb,hv,BC,hg⟩:=m7 j L[j] (List.getElem?_eq_getElem lD);rw[gc]at hb;cases hb;rw[dg]at hv;cases hv;exact⟨j,L[j],ak,u,t,List.getElem?_eq_getElem lD,rfl,HH,BC,hg⟩
 have lG:∀b u,H1 b=some u->(as.zip ZG).lookup b=none:=fun b u e=>by
  cases q:(as.zip ZG).lookup b with
  |none=>rfl
  |some vs=>
   obtain⟨_,_,_,_,_,_,_,_,BC,_⟩:=lZ b vs q;exact absurd (I1.hok b u e).lt (Nat.not_lt.mpr (Nat.le_of_lt BC))
 have I2:Inv X AD σ (Kr H1 fun b=>(as.zip ZG).lookup b) { s1 with heap:=h1 }:=TF.Inv.laidN (t':=s1.toks) I1 pG fun b vs e=>by
  obtain⟨j,q,ak,u,t,_,rfl,rfl,BC,hg⟩:=lZ b vs e;exact⟨Nat.le_of_lt BC,by show 2<=sizeLine;decide,[Value.ref ak,Value.int q.2 t],.cons rfl (.cons ⟨t,rfl⟩ .nil),⟨_,hg,rfl,0,rfl⟩⟩
 have E2:=Pz (G:=G1) lG;have O2:=VJ lG o1;have T:Tri X.K (hid (Kr H1 fun b=>(as.zip ZG).lookup b) G1) (L.map pi) (as.map V.ref) (as.map Value.ref):=by
  refine SU (by rw[List.length_map,List.length_map];lia) (by rw[List.length_map,List.length_map];lia) fun j d v u h1 h2 h3=>?_;rw[List.getElem?_map]at h1 h2 h3;obtain⟨q,hq,rfl⟩:=Option.map_eq_some_iff.mp h1;obtain⟨b,hb,rfl⟩:=Option.map_eq_some_iff.mp h2;rw[hb]at h3;cases h3;refine⟨?_,rfl⟩;obtain⟨ak,u,t,b',_,_,rk,LR,hv,BC,hg⟩:=m7 j q hq;rw[hb]at LR;cases LR;have p8:H1 b=none:=I1.hok.fresh (Nat.le_of_lt BC);unfold pi;rw[Rep];refine⟨b,[V.ref ak,V.int q.2],rfl,SqT.of (Eu (o1.free p8) (Ph (PD tu.1 j b _ hb hv))),RepL.cons (rk.same E2.hid) (RepL.cons (by rw[Rep]) RepL.nil)⟩
 obtain⟨rd,r'⟩:=T.rep;obtain⟨us,dX⟩:∃us,us=as.map Value.ref:=⟨_,rfl⟩;rw[<-dX]at T r' ⊢;have pT:us.length=xs.length:=by rw[dX,List.length_map];lia
 have ra:AtL h1 (L.map pi) us:=(rd.same AK).at I2 (by rw[List.all_map,List.all_eq_true];exact fun x _=>O6 x) r';refine wpAny_bind (wpAny_newList ?_ (Di _ (by lia)));have aQ:(h1.push (seqObj "list" us.toArray 0)).get? h1.objs.size=some (seqObj "list" us.toArray 0):=Heap.get?_push_size _ rfl;have MS:∀b o,h1.get? b=some o->(h1.push (seqObj "list" us.toArray 0)).get? b=some o:=fun b o e=>Heap.get?_push_of_some _ e;have O:=Xj TPi L (.inr fun x _=>⟨_,_,rfl⟩);refine wpAny_bind (wpAny_holding (wpAny_call_entry slot_list_sort ⟨_,aQ,rfl⟩ entry_list_sort (Ky (s:={ s1 with heap:=h1.push (seqObj "list" us.toArray 0) }) (g:=flat) (ds:=L.map pi) aQ (ra.kept MS) (fun _ _ _ _=>trivial) (fun h' k=>ra.kept fun b o e=>k b o (Nat.ne_of_lt (Heap.lt_size e)) (MS b o e)) O (Di _ (by lia)) (by show X.A.units+1+1+8<cLine;lia) fun out hp gk=>⟨_,rfl,?_⟩) (args_list_sort _)));refine wpAny_pure ⟨_,rfl,?_⟩;obtain⟨HM,LQ,T',Zo⟩:=Pd hp T;obtain⟨b5,gY⟩:=T'.rep;have jc:LQ.length<=sizeLine:=by
  have e1:=gY.length;have e2:=hp.length_eq;exact Di _ (by lia)
 obtain⟨V4,jP⟩:=sortedHeap_at (out:=out) aQ;have eX:∀u∈out.toList,Bu (h1.push (seqObj "list" us.toArray 0)) u=Bu h1 u:=fun u HH=>by
  obtain⟨d,hd,hr⟩:=ra.mem u (hp.mem_iff.mp HH);rw[Bt (O.pl d hd) hr,Bt (O.pl d hd) (hr.kept MS)]
 have NM:(HM.map flat).Pairwise (fun x y=>HT.lexLt y x=false):=by
  rw[<-Sf I2 (T'.same AK) (fun d hd=>O.pl d (Zo.mem_iff.mp hd))];have e:out.toList.map (fun u=>flat (Bu h1 u))=out.toList.map (fun u=>flat (Bu (h1.push (seqObj "list" us.toArray 0)) u)):=List.map_congr_left fun u HH=>by rw[eX u HH]
  show(out.toList.map fun u=>flat (Bu h1 u)).Pairwise _;rw[e];exact gk
 obtain⟨m,rfl,hm⟩:=PJ pi Zo;have em:m=TPi.sort L:=by
  refine TyD.uniq TPi (hm.trans (TPi.sort_perm _).symm) ?_ (TPi.sort_sorted _);rw[List.map_map,List.pairwise_map]at NM;refine NM.imp fun {x y} h=>?_;unfold TyD.le;have:lx (flat (TPi.f y)) (flat (TPi.f x))=false:=h;rw[this];rfl
 subst em;refine⟨.ref h1.objs.size,upd (Kr H1 fun b=>(as.zip ZG).lookup b) h1.objs.size (.lst LQ),?_,rfl,?_⟩
 ·refine I2.laid (t':=s1.toks) (o:=.lst LQ) (fun b o e=>?_) (Nat.le_refl _) ⟨jc,out.toList,V4,gY,by rw[Array.toArray_toList];exact jP⟩;rw[sortedHeap_old (Nat.ne_of_lt (Heap.lt_size e)) (by rw[size_push'];exact Nat.lt_succ_of_lt (Heap.lt_size e))];exact MS b o e
 ·exact Po.trans (e1.trans E2) (Jy O2 (I2.hok.fresh (Nat.le_refl _)) b5)
end
section
variable {F:List Sq}{h:Lay->Sq->Int}{l m:Lay}
theorem fM{x y:Sq}(a b:Int)(BC:AN x y):TPi.le (x,a) (y,b)=true:=by
 have e:=TyD.le_total TPi (x,a) (y,b);by_cases h:TPi.le (x,a) (y,b)=true
 ·exact h
 ·exfalso;have hs:TSq.le x y=true:=by
   have:=TZ (F:=[x,y]) (by simp[BC])
   simpa using this
  unfold TyD.le at h hs;simp only[Bool.not_eq_true',Bool.not_eq_false]at h hs;have Bk:flat (sq y)≠flat (sq x):=fun z=>by
   have:=GI z
   subst this;exact AX _ BC
  have F':=KO y x;have:lx (flat (pi (y,b))) (flat (pi (x,a)))=lx (flat (sq y)) (flat (sq x)):=by
   unfold pi;rw[flat,flat];rw[show BA [sq y,.int b]=flat (sq y)++BA [.int b]from rfl,show BA [sq x,.int a]=flat (sq x)++BA [.int a]from rfl];exact Pa _ _ (by rw[F'.lx,F'.ly]) Bk
  have h2:lx (flat (pi (y,b))) (flat (pi (x,a)))=true:=h;rw[this]at h2;have h3:lx (flat (sq y)) (flat (sq x))=false:=hs;rw[h3]at h2;cases h2
theorem Ql(gd:Good F)(v:Sq->Int){L:List (Sq×Int)}(nd:(L.map (·.1)).Nodup)(hv:∀p∈L,p.2=v p.1)(hm:∀y,y∈L.map (·.1)↔y∈Cu F):TPi.sort L=(Cu F).map fun y=>(y,v y):=by
 refine TPi.uniq ((TPi.sort_perm _).trans ?_) (TPi.sort_sorted _) ?_
 ·have e:L=(L.map (·.1)).map fun y=>(y,v y):=by
   rw[List.map_map]
   conv=>lhs;rw[<-List.map_id L]
   refine List.map_congr_left fun p hp=>?_;simp only[id,Function.comp];exact Prod.ext rfl (hv p hp)
  rw[e];exact((List.perm_ext_iff_of_nodup nd (Ee (NL F))).mpr hm).map _
 ·rw[List.pairwise_map];exact(NL F).imp fun {a b} HI=>fM _ _ HI
end
def dq(K:PySem.W.Frag)(a b:Addr):It:=⟨fun i H=>∃xs ys x y,SqL K H a xs/\SqL K H b ys/\xs[i]?=some x/\ys[i]?=some y,fun i H v H'=>∃x y T,H T=none/\v=.ref T/\H'=upd H T (.tup [x,y])/\(∀xs,SqL K H a xs->xs[i]?=some x)/\∀ys,SqL K H b ys->ys[i]?=some y,
  fun i H=>∃xs ys,SqL K H a xs/\SqL K H b ys/\(xs.length<=i\/ys.length<=i)⟩
def ZsL(z TI TO i1 i2 l1 l2:Addr)(i:Nat)(h:Heap):Prop:=IsZip h z TI TO .none/\IsPair h TI (.ref i1) (.ref i2)/\(∃a b,IsPair h TO a b)/\h.IsListIter i1 l1 i/\h.IsListIter i2 l2 i
theorem T1{P:Program}{w:World}{K:PySem.W.Frag}{elts:List Expr}{x1:Nat}{pos:Pos}{z TI TO i1 i2 a b:Addr}(D:ZipApart z TI TO i1 i2 a b):Turn P w K (.Tuple elts x1 pos) (dq K a b) [z,TI,TO,i1,i2] z (ZsL z TI TO i1 i2 a b) where
 mem:=by simp
 obj:=fun i h st c hc=>by
  obtain⟨s1,s2,⟨x,y,s3⟩,⟨o4,s4,c4,d4⟩,⟨o5,s5,c5,d5⟩⟩:=st;simp only[List.mem_cons,List.not_mem_nil,or_false]at hc;rcases hc with rfl|rfl|rfl|rfl|rfl
  ·exact⟨_,s1,fun v z=>by cases z⟩
  ·exact⟨_,s2,fun v z=>by cases z⟩
  ·exact⟨_,s3,fun v z=>by cases z⟩
  ·exact⟨o4,s4,fun v z=>by rw[d4]at z;cases z⟩
  ·exact⟨o5,s5,fun v z=>by rw[d5]at z;cases z⟩
 keep:=fun i h h' st k=>by
  obtain⟨s1,s2,⟨x,y,s3⟩,s4,s5⟩:=st;exact⟨k z (by simp) _ s1,k TI (by simp) _ s2,⟨x,y,k TO (by simp) _ s3⟩,s4.at fun o e=>k i1 (by simp) o e,s5.at fun o e=>k i2 (by simp) o e⟩
 item:=by
  intro X hP hw hK hc i AD s σ H E I hf st hg;subst hP hw hK;obtain⟨xs,ys,x,y,YG,Yu,hx,hy⟩:=hg;obtain⟨T9,ZJ,p1,Sl⟩:=I.list YG;obtain⟨Jh,Yl,p2,Z0⟩:=I.list Yu;obtain⟨u1,Y7,kd⟩:=ZJ.get hx;obtain⟨u2,OV,kR⟩:=Yl.get hy;obtain⟨s1,s2,s3,s4,s5⟩:=st;obtain⟨ta,tb,ke⟩:=id s3;refine wpAny_pyNext_zip_item D s1 s2 ke s4 s5 p1.isList p2.isList (by simpa using Y7) (by simpa using OV) fun h1 y1 y2 y3 y4 hT _ hk=>?_;refine⟨_,rfl,wpAny_letOwnedTupleGo_zip (s:={ s with heap:=h1 }) y1 fun h2 bw sb=>?_⟩;have Kh:∀c o,c≠z->h1.get? c=some o->h2.get? c=some o:=fun c o hb q=>sb.extBut c o hb q;have UI:H s.heap.objs.size=none:=I.hok.fresh (Nat.le_refl _);have dS:z<s.heap.objs.size:=Heap.lt_size s1;have FU:∀c o,c∉[z,TI,TO,i1,i2]->s.heap.get? c=some o->h2.get? c=some o:=fun c o hm q=>by
   simp only[List.mem_cons,List.not_mem_nil,or_false,not_or]at hm;exact Kh c o hm.1 (hk c o hm.1 hm.2.2.1 hm.2.2.2.1 hm.2.2.2.2 q)
  have Pj:∀c o,H c=some o->c∉[z,TI,TO,i1,i2]:=fun c o q hm=>by
   have:=(hf c hm).1
   rw[q]at this;cases this
  have un:Un (frs X.stack) [z,TI,TO,i1,i2] H (upd H s.heap.objs.size (.tup [x,y])) s.heap h2:=by
   refine⟨fun c o q n hb hc=>FU c o hc q,fun c o q n hb hc=>⟨o.slots,FU c o hc q⟩,fun c o q n hc=>?_,fun c o q hc=>⟨o,FU c o hc q⟩,fun c ys q=>?_,fun c o v q=>?_,fun c ps q=>⟨#[],?_⟩⟩
   ·rw[AZ (Nat.ne_of_lt (Heap.lt_size q))];exact n
   ·rw[AZ (Ak q UI)];exact q
   ·rw[AZ (Ak q UI)];exact q
   ·rw[AZ (Ak q UI),q];simp
  have hok:HOk X.prog X.w (upd H s.heap.objs.size (.tup [x,y])) h2:=fun c v q=>by
   by_cases hb:c=s.heap.objs.size
   ·subst hb;rw[A2]at q;cases q;exact⟨by show 2<=sizeLine;rw[sizeLine_eq];decide,[u1,u2],.cons kd (.cons kR .nil),_,Kh _ _ (Nat.ne_of_gt dS) hT,rfl,_,rfl⟩
   ·rw[AZ hb]at q;refine(I.hok c v q).stay (fun e o hc r=>?_) (fun e r=>by rw[AZ (Ak r UI)];exact r) fun e ys r=>by rw[AZ (Ak r UI)];exact r
    rcases hc with rfl|hc
    ·exact FU _ o (Pj _ _ q) r
    ·exact FU e o (Pj _ _ hc) r
  have I1:Inv X AD σ (upd H s.heap.objs.size (.tup [x,y])) { s with heap:=h2 }:=I.call' (s':={ s with heap:=h2 }) rfl un hok I.bare fun c hb=>by
   have:=hf c hb
   exact⟨this.2.2.2.1,this.2.1,this.2.2.2.2.1,this.2.2.2.2.2⟩
  refine⟨.ref s.heap.objs.size,_,I1,rfl,⟨x,y,_,UI,rfl,rfl,fun zs US=>by rw[I.list_inj US YG];exact hx,fun zs US=>by rw[I.list_inj US Yu];exact hy⟩,⟨bw,Kh _ _ D.TIz (hk _ _ D.TIz D.TITO D.TIi1 D.TIi2 s2),?_,y3.at fun o e=>Kh _ o D.i1z e,y4.at fun o e=>Kh _ o D.i2z e⟩,fun c hb=>?_⟩
  ·exact⟨_,_,Kh _ _ D.TOz y2⟩
  ·have BC:c<s.heap.objs.size:=by
    simp only[List.mem_cons,List.not_mem_nil,or_false]at hb;obtain⟨a',b',s3⟩:=s3;obtain⟨o4,s4,_⟩:=s4;obtain⟨o5,s5,_⟩:=s5;rcases hb with rfl|rfl|rfl|rfl|rfl
    ·exact Heap.lt_size s1
    ·exact Heap.lt_size s2
    ·exact Heap.lt_size s3
    ·exact Heap.lt_size s4
    ·exact Heap.lt_size s5
   rw[AZ (Nat.ne_of_lt BC)];exact(hf c hb).1
 done:=by
  intro X hP hw hK hc i AD s σ H E I hf st hg;subst hP hw hK;obtain⟨xs,ys,YG,Yu,Yj⟩:=hg;obtain⟨T9,ZJ,p1,Sl⟩:=I.list YG;obtain⟨Jh,Yl,p2,Z0⟩:=I.list Yu;obtain⟨s1,s2,s3,s4,s5⟩:=st;have l1:=ZJ.length;have l2:=Yl.length;obtain⟨ta,tb,ke⟩:=id s3;refine wpAny_pyNext_zip_end (by simpa using I.ok.hd hc) D s1 s2 ke s4 s5 p1.isList p2.isList (Yj.imp (fun h=>by simp;lia) fun h=>by simp;lia) fun h' hk=>⟨rfl,?_⟩;have FU:∀c o,c∉[z,TI,TO,i1,i2]->s.heap.get? c=some o->h'.get? c=some o:=fun c o hm q=>by
   simp only[List.mem_cons,List.not_mem_nil,or_false,not_or]at hm;exact hk c o hm.1 hm.2.2.1 hm.2.2.2.1 hm.2.2.2.2 q
  have Pj:∀c o,H c=some o->c∉[z,TI,TO,i1,i2]:=fun c o q hm=>by
   have:=(hf c hm).1
   rw[q]at this;cases this
  refine I.call' (s':={ s with heap:=h' }) rfl ⟨fun c o q n hb hc=>FU c o hc q,fun c o q n hb hc=>⟨o.slots,FU c o hc q⟩,fun c o q n hc=>n,fun c o q hc=>⟨o,FU c o hc q⟩,fun c ys q=>q,fun c o v q=>q,fun c ps q=>⟨#[],by rw[q];simp⟩⟩ (fun c v q=>?_) I.bare fun c hb=>?_
  ·refine(I.hok c v q).stay (fun e o hc r=>?_) (fun e r=>r) fun e ys r=>r;rcases hc with rfl|hc
   ·exact FU _ o (Pj _ _ q) r
   ·exact FU e o (Pj _ _ hc) r
  ·have:=hf c hb
   exact⟨this.2.2.2.1,this.2.1,this.2.2.2.2.1,this.2.2.2.2.2⟩
 self:=fun A i s Q E st h=>wpAny_pyIter_zip st.1 h
theorem ZX{K:PySem.W.Frag}{G:Gs}{l m:List Dat}{H:Hp}{a b:Addr}{vs ws:List V}(h1:hid H G a=some (.lst vs))(r1:RepL K (hid H G) l vs)(h2:hid H G b=some (.lst ws))(r2:RepL K (hid H G) m ws):Wk K (dq K a b) H G (Fc l m):=by
 intro H' G' e;have QB:SqL K H' a vs:=SqL.of (AK _ _ (e.hid _ _ h1));have TL:SqL K H' b ws:=SqL.of (AK _ _ (e.hid _ _ h2));refine⟨fun i d hd=>?_,vs,ws,QB,TL,?_⟩
 ·obtain⟨x,y,hx,hy,rfl⟩:=Pm hd;obtain⟨v,hv,rv⟩:=r1.get hx;obtain⟨u,hu,ru⟩:=r2.get hy;refine⟨⟨vs,ws,v,u,QB,TL,hv,hu⟩,fun xx VW hh=>?_⟩;obtain⟨x',y',T,hT,rfl,rfl,g1,g2⟩:=hh;have e1:=g1 vs QB;have e2:=g2 ws TL;rw[hv]at e1;rw[hu]at e2;cases e1;cases e2;refine⟨Ext.alloc hT,fun o=>o.alloc hT,fun o=>?_⟩;rw[Rep];exact⟨T,[v,u],rfl,SqT.of (Eu (o.free hT) A2),RepL.cons ((rv.same e.hid).same (Ext.alloc hT).hid) (RepL.cons ((ru.same e.hid).same (Ext.alloc hT).hid) RepL.nil)⟩
 ·have l1:=r1.length;have l2:=r2.length;unfold Fc;rw[List.length_map,List.length_zip,l1,l2];lia
section
variable {X:Cx}{ρ:Rho}{G:Gs}{a b:Expr}{l m:List Dat}{pos p1:Pos}{elts:List Expr}{x1:Nat}{c8:Pos}
theorem Yr{Q:List Dat->Gs->Prop}(hm:X.mg "zip"=none)(ha:PX X ρ G a (.lst l))(hb:PX X ρ G b (.lst m))(q:Q (Fc l m) G)(hg:Gl X "zip":=by rfl)(he:starEach [a,b] X.env=(false,eval a X.env)::starEach [b] X.env:=by rfl)(he2:starEach [b] X.env=(false,eval b X.env)::starEach [] X.env:=by rfl)(hpl:(backTo pos (starEach [b] X.env)).any (·.1)=false:=by rfl):WI X ρ G (.Tuple elts x1 c8) (.Call (.Name "zip" p1) [a,b] [] pos) Q:=by
 intro AD s σ H I S;refine wpAny_Call_Name_kw (EB I hg hm (by decide +kernel:bootBuiltins "zip"=some (.type "zip")) ?_ (by decide) (by decide));have HI:PXs X ρ G [a,b] [.lst l,.lst m]:=AB ha (AB hb AE he2) he;refine PyProof.Rows.callWith_type1 (thn (HI pos AD s σ H I S) fun us s1 ⟨vs,H1,I1,rv,d',G1,e1,o1,rep,q1,q2⟩=>?_) he hpl;subst q1;subst q2;rw[RepL]at rep;obtain⟨v1,r1,rfl,ra,rep⟩:=rep;rw[RepL]at rep;obtain⟨v2,r2,rfl,rb,rep⟩:=rep;rw[RepL]at rep;subst rep;rw[Rep]at ra rb;obtain⟨pa,as,rfl,h1,g1⟩:=ra;obtain⟨pb,bs,rfl,h2,g2⟩:=rb;obtain⟨u1,u2,rfl,jX,kg⟩:=LG rv;cases jX;cases kg;obtain⟨T9,ZJ,fZ,Sl⟩:=I1.list (SqL.of (AK _ _ h1));obtain⟨Jh,Yl,fW,Z0⟩:=I1.list (SqL.of (AK _ _ h2));have la:pa<s1.heap.objs.size:=by obtain⟨o,ho,_⟩:=fZ.isList;exact Heap.lt_size ho
 have lb:pb<s1.heap.objs.size:=by obtain⟨o,ho,_⟩:=fW.isList;exact Heap.lt_size ho
 refine call_zip_2 fZ.isList fW.isList fun h' y1 y2 y3 y4 y5 _ hk=>?_;refine wpAny_pyIter_zip (s:={ s1 with heap:=h' }) y1 ?_;have D:=zipApart_new la lb;refine⟨s1.heap.objs.size+4,[s1.heap.objs.size+4,s1.heap.objs.size+2,s1.heap.objs.size+3,s1.heap.objs.size,s1.heap.objs.size+1],_,_,H1,rfl,I1.kept (t':=s1.toks) hk,T1 D,⟨y1,y2,⟨_,_,y3⟩,y4,y5⟩,fun c hc=>?_,Fc l m,G1,e1,o1,ZX h1 g1 h2 g2,q⟩;have hle:s1.heap.objs.size<=c:=by
  simp only[List.mem_cons,List.not_mem_nil,or_false]at hc;rcases hc with rfl|rfl|rfl|rfl|rfl
  ·exact Nat.le_add_right _ 4
  ·exact Nat.le_add_right _ 2
  ·exact Nat.le_add_right _ 3
  ·exact Nat.le_refl _
  ·exact Nat.le_add_right _ 1
 exact I1.fpOk hle (I1.hok.fresh hle)
end
theorem Mv:typeLookup (.type "list") "keys"=pure none:=by rw[typeLookup_type,builtinLookup_eq_fast];kernel_rfl
section
variable {prog:Program}{w:World}{A:Around}{E:Value->Shared->Prop}{h:Heap}{g:Array GenState}{d:Drawn}{t:Nat}{os:OsState}{a:Addr}{o:Obj}
theorem RE{tk:Tok}{Q:Fin->Shared->Prop}(hh:A.handled=none){items:Array Value}{n:Nat}{sl:Array (Option Value)}(hx:h.get? a=some { cls:=.type "list",dict:=none,data:=.seq items n,slots:=sl })(hq:∀h' t' e,Heap.NewAttrErr h h' e (.ref a) "keys"->E (.ref e) ⟨h',g,d,t',os⟩) :
  wpAny (model prog w) A (Builtin.«object.__getattribute__» ⟨[.ref a,.str "keys" tk],[]⟩) Q E ⟨h,g,d,t,os⟩:=by
 have hT:(⟨h,g,d,t,os⟩:Shared).TypeIs (.ref a) "list":=⟨_,hx,rfl⟩;have f4:=Mv;repeat (any_goals (first|assumption|wp_step))
 exact wpAny_raiseAttrError hh (fun h' ql e eE=>hq h' ql e eE) (attrMsg_fits (by decide +kernel) (by size_fits))
theorem Pk:typeLookup (.type "list") "__getattr__"=pure none:=by rw[typeLookup_type,builtinLookup_eq_fast];kernel_rfl
theorem TU{Q:Option Value->Shared->Prop}{items:Array Value}{n:Nat}{sl:Array (Option Value)}(hh:A.handled=none)(hx:h.get? a=some { cls:=.type "list",dict:=none,data:=.seq items n,slots:=sl })(hq:∀h' t',(∀b u,h.get? b=some u->h'.get? b=some u)->Q none ⟨h',g,d,t',os⟩):wpAny (model prog w) A (getAttr? (.ref a) "keys") Q E ⟨h,g,d,t,os⟩:=by
 have hT:(⟨h,g,d,t,os⟩:Shared).TypeIs (.ref a) "list":=⟨_,hx,rfl⟩;have f1:=sub_AttributeError;have f2:=F.slot_list_getattribute.lookup;have f3:=F.slot_list_getattribute.bind (.ref a);have f5:=Pk;unfold getAttr? getAttrBy?;repeat (any_goals (first|assumption|wp_step))
 refine codeAny_call_builtin F.slot_list_getattribute.plain F.entry_list_ga (F.slot_list_getattribute.check _ _ _ _ _ _ _ _ (show(⟨h,g,d,t+1,os⟩:Shared).TypeIs (.ref a) "list" from⟨_,hx,rfl⟩) (F.args_list_getattribute_2 _ _) ?_);refine RE (by simpa using hh) hx fun h' t' e ne=>?_;obtain⟨t2,u2,he⟩:=ne.there;show wpAny _ _ (getattributeRaised _ _ _ _ _ _ _) _ _ _;unfold getattributeRaised;repeat (any_goals (first|assumption|wp_step))
 exact hq h' t' ne.keeps
end
theorem MW:plainId "dict.update.loop"=true:=by decide +kernel
theorem Vv:entryFor table "dict.update.loop"=some Builtin.«dict.update.loop»:=entryFor_of_tree (by kernel_rfl)
section
variable {prog:Program}{w:World}{A:Around}{E:Value->Shared->Prop}{s:Shared}
theorem Wu{d it l:Addr}{items:Array Value}{h0:Heap}{R:Result->Shared->Prop}(hh:A.handled=none)(Ut:(Bj prog w).room A.in1)(SA:d≠it)(iC:h0.get? d=none)(ni:h0.get? it=none)(hl:h0.IsList l items)(ps:List (Dat×Addr×Value))(nd:(ps.map (·.1)).Nodup)(hit:∀(j:Nat) q,ps[j]?=some q->∃(t:Addr)(n:Nat)(dd:Option Addr)(sl:Array (Option Value)),items[j]?=some (.ref t)/\h0.get? t=some { cls:=.type "tuple",dict:=dd,data:=.seq #[.ref q.2.1,q.2.2] n,slots:=sl })(Au:items.size=ps.length)(hz:ps.length<=sizeLine)(QX:∀h',(∀b o,h0.get? b=some o->h'.get? b=some o)->∀q∈ps,(Bj prog w).is h' q.1 q.2.1)(hR:∀h' tk,(∀b o,h0.get? b=some o->h'.get? b=some o)->h'.DictOfH (Bj prog w) d ps->R (.ok (.ret .none)) { s with heap:=h',toks:=tk }) :
  ∀(r i:Nat)(h:Heap)(tk:Nat),ps.length-i=r->i<=ps.length->(∀b o,h0.get? b=some o->h.get? b=some o)->h.IsListIter it l i->h.DictOfH (Bj prog w) d (ps.take i) →
   codeAny (model prog w) A (.builtin "dict.update.loop" ⟨[.ref d,.ref it,rawInt i,.none],[]⟩) R { s with heap:=h,toks:=tk }:=by
 have j7:∀b o,h0.get? b=some o->b≠it/\b≠d:=fun b o e=>⟨fun z=>(by rw[z,ni]at e;cases e),fun z=>(by rw[z,iC]at e;cases e)⟩;have lk:∀h':Heap,(∀b o,h0.get? b=some o->h'.get? b=some o)->h'.IsList l items:=fun h' k=>by
  obtain⟨o,h1,h2⟩:=hl;exact⟨o,k _ _ h1,h2⟩
 intro r
 induction r with
 |zero=>
  intro i h tk hr hi keep gi gd;have ei:i=ps.length:=by lia
  subst ei;rw[List.take_length]at gd;refine codeAny_builtin Vv ?_;rw[Around.under_plainId MW _];show wpAny _ A.in1 (pyNext (.ref it) >>= _) _ _ { s with heap:=h,toks:=tk };refine wpAny_bind (wpAny_pyNext_list_end (s:={ s with heap:=h,toks:=tk }) (A:=A.in1) hh gi (lk h keep) (Array.getElem?_eq_none (by lia)) fun h' ex=>?_);show wpAny _ A.in1 (Builtin.Dict.addKeywords d [] >>= _) _ _ _;have k':∀b o,h0.get? b=some o->h'.get? b=some o:=fun b o e=>ex b o (j7 b o e).1 (keep b o e);refine wpAny_bind (wpAny_pure (wpAny_pure (hR h' tk k' ?_)));obtain⟨od,es,ep,g1,g2,g3,g4,g5,g6⟩:=gd;exact⟨od,es,ep,ex d _ SA g1,g2,g3,g4,fun q hq=>QX h' k' q hq,g6⟩
 |succ r ih=>
  intro i h tk hr hi keep gi gd;have BC:i<ps.length:=by lia
  obtain⟨q,hq⟩:∃q,ps[i]?=some q:=⟨ps[i],List.getElem?_eq_getElem BC⟩;obtain⟨t,n,dd,sl,ht,nh⟩:=hit i q hq;refine codeAny_builtin Vv ?_;rw[Around.under_plainId MW _];show wpAny _ A.in1 (pyNext (.ref it) >>= _) _ _ { s with heap:=h,toks:=tk };refine wpAny_bind (wpAny_pyNext_list_item (s:={ s with heap:=h,toks:=tk }) gi (lk h keep) ht fun h1 pC nQ=>?_);have TK:∀b o,h0.get? b=some o->h1.get? b=some o:=fun b o e=>nQ.extBut b o (j7 b o e).1 (keep b o e);have kZ:=TK _ _ nh;have hT:Shared.TypeIs { s with heap:=h1,toks:=tk } (.ref t) "tuple":=⟨_,kZ,rfl⟩;refine wpAny_bind (wpAny_holding (wpAny_bind (wpAny_tryCatch ?_)));unfold Builtin.Dict.pairItems;refine wpAny_bind (wpAny_typeOf hT ?_);rw[if_pos (by decide)];have qU:∀{Q:Option (Array Value)->Shared->Prop}{E:Value->Shared->Prop},Q (some #[Value.ref q.2.1,q.2.2]) { s with heap:=h1,toks:=tk }->wpAny (model prog w) A.in1 (seqItems? (.ref t)) Q E { s with heap:=h1,toks:=tk }:=fun {Q E} hQ=>by
   unfold seqItems?;wp_walk;exact hQ
  refine wpAny_bind (qU (wpAny_pure ?_));show wpAny _ A.in1 (holding [Value.ref q.2.1,q.2.2] (dictSet d (Value.ref q.2.1) q.2.2)) _ _ _;have ox:h1.DictOfH (Bj prog w) d (ps.take i):=by
   obtain⟨od,es,ep,g1,g2,g3,g4,g5,g6⟩:=gd;exact⟨od,es,ep,nQ.extBut d _ SA g1,g2,g3,g4,fun x hx=>QX h1 TK x (List.mem_of_mem_take hx),g6⟩
  have ap:atKey (ps.take i) q.1=none:=atKey_none_of_get fun j p hj=>by
   have pR:j<i:=by
    have:=(List.getElem?_eq_some_iff.mp hj).1
    rw[List.length_take]at this;lia
   rw[List.getElem?_take_of_lt pR]at hj;have e1:(ps.map (·.1))[j]?=some q.1:=by rw[List.getElem?_map,hj];rfl
   have e2:(ps.map (·.1))[i]?=some q.1:=by rw[List.getElem?_map,hq];rfl
   have:=(List.getElem?_inj (by rw[List.length_map];lia) nd).mp (e1.trans e2.symm)
   lia
  have et:ps.take (i+1)=ps.take i++[q]:=by rw[List.take_add_one,hq];rfl
  refine wpAny_holding (wpAny_dictSet_heap (s:={ s with heap:=h1,toks:=tk }) (knd:=Bj prog w) Ut (QX h1 TK q (List.mem_of_getElem? hq)) ox (fun h2 iO mh=>?_) (hsz:=Nat.le_trans (List.length_take_le _ _) (by lia)));rw[storedH_new ap,<-et]at iO;have MS:∀b o,h0.get? b=some o->h2.get? b=some o:=fun b o e=>mh.extBut b o (j7 b o e).2 (TK b o e);refine wpAny_pure ⟨plainId_quiet MW _,?_⟩;exact ih (i+1) h2 _ (by lia) BC MS (pC.at fun o e=>mh.extBut it o (Ne.symm SA) e) iO
theorem Qh{l:Addr}{items:Array Value}{n:Nat}{sl:Array (Option Value)}{ps:List (Dat×Addr×Value)}{Q:Value->Shared->Prop}(hh:A.handled=none)(Ut:(Bj prog w).room A.in1.in1)(hl:s.heap.get? l=some { cls:=.type "list",dict:=none,data:=.seq items n,slots:=sl })(nd:(ps.map (·.1)).Nodup)(hit:∀(j:Nat) q,ps[j]?=some q->∃(t:Addr)(n:Nat)(dd:Option Addr)(sl:Array (Option Value)),items[j]?=some (.ref t)/\s.heap.get? t=some { cls:=.type "tuple",dict:=dd,data:=.seq #[.ref q.2.1,q.2.2] n,slots:=sl })(Au:items.size=ps.length)(hz:ps.length<=sizeLine)(QX:∀h':Heap,(∀b o,s.heap.get? b=some o->h'.get? b=some o)->∀q∈ps,(Bj prog w).is h' q.1 q.2.1)(hR:∀h' tk,(∀b o,s.heap.get? b=some o->h'.get? b=some o)->h'.DictOfH (Bj prog w) s.heap.objs.size ps->Q (.ref s.heap.objs.size) { s with heap:=h',toks:=tk }) :
  wpAny (model prog w) A (call (.type "dict") [.ref l]) Q E s:=by
 refine callType_codes (Q₁:=fun obj s₁=>obj=.ref s.heap.objs.size/\s₁={ s with heap:=s.heap.push { cls:=.type "dict",data:=.dict #[] } }) F.kt_called_dict (F.kt_typeCall_dict_1 _) F.entry_dict_init (kt_code_dict_new _ ⟨rfl,rfl⟩) ?_;rintro obj s₁ ⟨rfl,rfl⟩;have LW:(s.heap.push { cls:=.type "dict",data:=.dict #[] }).DictOfH (Bj prog w) s.heap.objs.size []:=Heap.DictOfH.new s.heap;have k0:∀b o,s.heap.get? b=some o->(s.heap.push { cls:=.type "dict",data:=.dict #[] }).get? b=some o:=fun b o e=>Heap.get?_push_of_some _ e;have aN:=k0 _ _ hl;refine⟨LW.typeIs (s:={ s with heap:=s.heap.push { cls:=.type "dict",data:=.dict #[] } }),F.args_dict_init_2 _ _,?_⟩;unfold Builtin.«dict.__init__»;refine wpAny_bind ?_;unfold Builtin.Dict.selfAndRest;refine wpAny_bind (wpAny_notOrdered_dict (LW.typeIs (s:={ s with heap:=s.heap.push { cls:=.type "dict",data:=.dict #[] } })) ?_);show wpAny _ _ (pure (s.heap.objs.size,[Value.ref l])) _ _ _;refine wpAny_pure ?_;show wpAny _ _ (Builtin.Dict.updateFrom "dict.__init__" s.heap.objs.size (.ref l) [] .none) _ _ _;unfold Builtin.Dict.updateFrom;refine wpAny_bind (wpAny_typeOf (T:="list") ⟨_,aN,rfl⟩ ?_);rw[if_pos (by decide)];refine wpAny_bind (TU (A:=A.in1.in1) (h:=s.heap.push { cls:=.type "dict",data:=.dict #[] }) (by simpa using hh) aN fun h' t' k1=>?_);rw[if_pos (show(none:Option Value).isNone=true from rfl)];have kk:∀b o,s.heap.get? b=some o->h'.get? b=some o:=fun b o e=>k1 b o (k0 b o e);have il:h'.IsList l items:=⟨_,kk _ _ hl,rfl,n,rfl⟩;have nC:s.heap.objs.size<h'.objs.size:=Heap.lt_size (k1 _ _ (Heap.get?_push_size _ rfl));refine wpAny_bind (wpAny_rule (wpAny_bind (wpAny_pyIter_list (s:={ s with heap:=h',toks:=t' }) il (wpAny_pure ⟨plainId_quiet MW _,?_⟩))));refine Wu (A:=A.in1) (h0:=s.heap) (s:=s) (by simpa using hh) Ut (Nat.ne_of_lt nC) ?_ ?_ ⟨_,hl,rfl,n,rfl⟩ ps nd hit Au hz QX (fun h2 tk k2 iO=>⟨rfl,hR h2 tk k2 iO⟩) ps.length 0 _ _ (Nat.sub_zero _) (Nat.zero_le _) (fun b o e=>Heap.get?_push_of_some _ (kk b o e)) ⟨_,Heap.get?_push_size _ rfl,rfl,rfl⟩ ?_
 ·cases e:s.heap.get? s.heap.objs.size with
  |none=>rfl
  |some o=>exact absurd (Heap.lt_size e) (Nat.lt_irrefl _)
 ·cases e:s.heap.get? h'.objs.size with
  |none=>rfl
  |some o=>exact absurd (Heap.lt_size e) (Nat.not_lt.mpr (Nat.le_of_lt nC))
 ·obtain⟨od,es,ep,g1,g2,g3,g4,g5,g6⟩:=LW;exact⟨od,es,ep,Heap.get?_push_of_some _ (k1 _ _ g1),g2,g3,g4,fun x hx=>by simp at hx,g6⟩
end
section
variable {X:Cx}{AD:List (Addr×Obj)}{σ:St}{H:Hp}{s:Shared}{G:Gs}
theorem Ow(I:Inv X AD σ H s):∀{L:List (Sq×Int)}{vs:List V}{AS:List Value},RepL X.K (hid H G) (L.map pi) vs->Vals vs AS →
  ∃ps:List (Dat×Addr×Value),ps.length=L.length/\AS.length=L.length/\ps.map (·.1)=L.map (fun q=>sq q.1)/\DRep X.K (hid H G) (L.map fun q=>(sq q.1,.int q.2)) ps ∧
   ∀(j:Nat) q,ps[j]?=some q->∃(t:Addr)(n:Nat)(dd:Option Addr)(sl:Array (Option Value)),AS[j]?=some (.ref t)/\s.heap.get? t=some { cls:=.type "tuple",dict:=dd,data:=.seq #[.ref q.2.1,q.2.2] n,slots:=sl }
 |[],vs,AS,r,v=>by
  rw[List.map_nil,RepL]at r;subst r;cases v;exact⟨[],rfl,rfl,rfl,rfl,fun j q h=>by simp at h⟩
 |p::L,vs,AS,r,v=>by
  rw[List.map_cons,RepL]at r;obtain⟨v1,w1,rfl,h1,r⟩:=r;cases v with
  |cons rv v=>
  rename_i u us;obtain⟨ps,z1,z2,z3,z4,z5⟩:=Ow I r v;unfold pi at h1;rw[Rep]at h1;obtain⟨t,ws,rfl,ht,aE⟩:=h1;rw[RepL]at aE;obtain⟨a1,w2,rfl,Xo,aE⟩:=aE;rw[RepL]at aE;obtain⟨a2,w3,rfl,dZ,aE⟩:=aE;rw[RepL]at aE;subst aE;rw[Rep]at dZ;subst dZ;have hk:∃k,a1=V.ref k:=by
   have:=Xo
   unfold sq at this;rw[Rep]at this;obtain⟨k,_,e,_⟩:=this;exact⟨k,e⟩
  obtain⟨k,rfl⟩:=hk;cases rv;obtain⟨its',v',tu,_⟩:=I.tuple (Ar AK ht);cases v' with
  |cons q1 v'=>
  cases v' with
  |cons q2 v'=>
  cases v';cases q1;obtain⟨tk,rfl⟩:=q2;refine⟨(sq p.1,k,Value.int p.2 tk)::ps,by simp[z1],by simp[z2],by simp[z3],⟨k,_,ps,rfl,D4 p.1,Xo,⟨.int p.2,⟨tk,rfl⟩,by rw[Rep]⟩,z4⟩,fun j q hj=>?_⟩;cases j with
  |zero=>
   simp only[List.getElem?_cons_zero,Option.some.injEq]at hj;subst hj;obtain⟨o,ho,hc,n,hd⟩:=tu;obtain⟨oc,od,n6,Uq⟩:=o;simp only at hc hd;subst hc;subst hd;exact⟨t,n,od,Uq,rfl,ho⟩
  |succ j=>simpa using z5 j q (by simpa using hj)
theorem U6{p:Addr}{AV:List (Dat×Dat)}{xs:List (Dat×Addr×Value)}(o:GOk X.K H G)(hp:H p=none)(r:DRep X.K (hid H G) AV xs):Ext H G (upd H p (El p xs)) (put G p (.dct AV))/\GOk X.K (upd H p (El p xs)) (put G p (.dct AV)):=by
 obtain⟨E1,O1⟩:=LH (X:=X) o hp;obtain⟨E2,O2⟩:=NR (X:=X) O1 AH (r.same E1.hid);rw[Ao]at E2 O2;have e:upd (upd H p (El p [])) p (El p xs)=upd H p (El p xs):=by
  funext b;by_cases hb:b=p
  ·subst hb;rw[A2,A2]
  ·rw[AZ hb,AZ hb,AZ hb]
 rw[e]at E2 O2;exact⟨E1.trans E2,O2⟩
end
section
variable {X:Cx}{ρ:Rho}{G:Gs}{a:Expr}{L:List (Sq×Int)}{pos pp:Pos}
theorem Vb{Q:Dat->Gs->Prop}(hm:X.mg "dict"=none)(hu:X.A.units+20<cLine)(Bm:X.calm=true)(ha:PX X ρ G a (.lst (L.map pi)))(nd:(L.map (·.1)).Nodup)(h:∀p,G p=none->Q (.fn p) (put G p (.dct (L.map fun q=>(sq q.1,.int q.2)))))(hg:Gl X "dict":=by rfl)(he:starEach [a] X.env=(false,eval a X.env)::starEach [] X.env:=by rfl):WE X ρ G (.Call (.Name "dict" pp) [a] [] pos) Q:=fun AD s σ H I S=>by
 refine wpAny_Call_Name_kw (EB I hg hm (by decide +kernel:bootBuiltins "dict"=some (.type "dict")) ?_ (by decide) (by decide));refine PyProof.Rows.callWith_type1 (PyProof.Rows.spliced_more (thn (ha AD s σ H I S) fun u s1 ⟨x,H1,I1,r1,d,G1,e1,o1,rx,q1,q2⟩=>PyProof.Rows.spliced_none ?_) he) he rfl;subst q1;subst q2;rw[Rep]at rx;obtain⟨p,vs,rfl,h1,h2⟩:=rx;cases r1;obtain⟨AS,r',pl,hz⟩:=I1.list (SqL.of (AK _ _ h1));obtain⟨ps,z1,z2,z3,z4,z5⟩:=Ow I1 h2 r';obtain⟨⟨oc,od,n6,Uq⟩,n,ho,hc,nM,hd⟩:=pl;simp only at hc nM hd;subst hc;subst nM;subst hd;have qY:(ps.map (·.1)).Nodup:=by
  rw[z3]
  have:=List.pairwise_map.mp nd
  exact List.pairwise_map.mpr (this.imp fun {a b} HI e=>HI (GI (by rw[e])))
 have dS:ps.length<=sizeLine:=by
  have:=r'.length
  lia
 refine Qh (ps:=ps) (I1.ok.hd Bm) (show X.A.units+1+1+6<cLine by lia) ho qY (fun j q hj=>by simpa using z5 j q hj) (by simp[z1,z2]) dS (fun h' k q hq=>?_) fun h' tk k gd=>?_
 ·have ik:Inv X AD σ H1 { s1 with heap:=h' }:=I1.kept (t':=s1.toks) k;obtain⟨k1,k2⟩:=z4.keys q hq;exact JA ik k1 (k2.same AK)
 ·obtain⟨od,es,ep,g1,g2,g3,g4,g5,g6⟩:=gd;have hp:H1 s1.heap.objs.size=none:=I1.hok.fresh (Nat.le_refl _);obtain⟨E,O⟩:=U6 (X:=X) o1 hp z4;refine⟨.ref s1.heap.objs.size,_,I1.laid (a:=s1.heap.objs.size) (o:=El s1.heap.objs.size ps) (t':=tk) k (Nat.le_refl _) (K1 ⟨beq_eq_false_iff_ne.mpr (Ne.symm (Nat.ne_of_lt (Inv.big I1))),dS,g6,od,es,ep,g1,g2,g3,g4⟩),rfl,?_⟩;exact⟨.fn s1.heap.objs.size,_,e1.trans E,O,rfl,h _ (o1.free hp)⟩
end
section
variable {X:Cx}{ρ:Rho}{G:Gs}{a b c:Expr}{d:Dat}{pos:Pos}{x y:Str}
theorem XX{p:Bool}(hc:PXT X ρ G c p)(ha:p=true->PX X ρ G a d)(hb:p=false->PX X ρ G b d):PX X ρ G (.IfExp c a b pos) d:=by
 intro AD s σ H I S;refine wpAny_IfExp (thn (hc AD s σ H I S) fun q s1 ⟨H1,I1,_,e1,o1,q1,q2⟩=>?_);subst q1;subst q2;cases q with
 |true=>exact thn (ha rfl AD s1 σ H1 I1 (S.ext e1 o1)) fun _ _ z=>EP.mono z fun _ _ y=>Po.trans e1 y
 |false=>exact thn (hb rfl AD s1 σ H1 I1 (S.ext e1 o1)) fun _ _ z=>EP.mono z fun _ _ y=>Po.trans e1 y
end
def Kd(H H':Hp):Prop:=∀b o,H b=some o->H' b=some o\/∃φ,o=HO.ext φ
theorem d6{K:PySem.W.Frag}{H H':Hp}{a:Addr}{xs:List V}(e:Kd H H')(h:SqT K H a xs):SqT K H' a xs:=by
 rcases h with(h|⟨o,h⟩)|h
 ·rcases e _ _ h with h|⟨φ,h⟩
  ·exact .inl (.inl h)
  ·cases h
 ·rcases e _ _ h with h|⟨φ,h⟩
  ·exact .inl (.inr ⟨o,h⟩)
  ·cases h
 ·exact .inr h
theorem fP{K:PySem.W.Frag}{H H':Hp}{a:Addr}{xs:List V}(e:Kd H H')(h:SqL K H a xs):SqL K H' a xs:=by
 rcases h with(h|⟨o,h⟩)|h
 ·rcases e _ _ h with h|⟨φ,h⟩
  ·exact .inl (.inl h)
  ·cases h
 ·rcases e _ _ h with h|⟨φ,h⟩
  ·exact .inl (.inr ⟨o,h⟩)
  ·cases h
 ·exact .inr h
mutual
theorem Rep.x{K:PySem.W.Frag}{H H':Hp}(e:Kd H H'):∀{d:Dat}{v:V},Rep K H d v->Rep K H' d v
 |.non,_,h=>by simpa[Rep]using h
 |.bl _,_,h=>by simpa[Rep]using h
 |.int _,_,h=>by simpa[Rep]using h
 |.str _,_,h=>by simpa[Rep]using h
 |.fn _,_,h=>by simpa[Rep]using h
 |.scr _,_,h=>by
  obtain⟨a,h1,h2⟩:=(by simpa[Rep]using h:∃a,_=V.ref a/\SqL K H a _);rw[Rep];exact⟨a,h1,fP e h2⟩
 |.tup _,_,h=>by
  rw[Rep]at h ⊢;obtain⟨a,vs,h1,h2,h3⟩:=h;exact⟨a,vs,h1,d6 e h2,RepL.x e h3⟩
 |.lst _,_,h=>by
  rw[Rep]at h ⊢;obtain⟨a,vs,h1,h2,h3⟩:=h;refine⟨a,vs,h1,?_,RepL.x e h3⟩;rcases e _ _ h2 with h|⟨φ,h⟩
  ·exact h
  ·cases h
theorem RepL.x{K:PySem.W.Frag}{H H':Hp}(e:Kd H H'):∀{ds:List Dat}{vs:List V},RepL K H ds vs->RepL K H' ds vs
 |[],_,h=>by rw[RepL]at h ⊢;exact h
 |_::_,_,h=>by
  rw[RepL]at h ⊢;obtain⟨v,r,h1,h2,h3⟩:=h;exact⟨v,r,h1,Rep.x e h2,RepL.x e h3⟩
end
theorem DRep.x{K:PySem.W.Frag}{H H':Hp}(e:Kd H H'):∀{AV:List (Dat×Dat)}{xs:List (Dat×Addr×Value)},DRep K H AV xs->DRep K H' AV xs
 |[],_,h=>h
 |_::_,_,⟨a,u,L3,h1,h2,h3,⟨v,h4,h5⟩,h6⟩=>⟨a,u,L3,h1,h2,h3.x e,⟨v,h4,h5.x e⟩,DRep.x e h6⟩
theorem OwnOk.x{K:PySem.W.Frag}{H H':Hp}{G G':Gs}{a:Addr}{o:OD}(h:OwnOk K H G a o)(e:Kd (hid H G) (hid H' G'))(q:H' a=H a):OwnOk K H' G' a o:=by
 cases o with
 |lst l=>
  obtain⟨vs,h1,h2⟩:=h;exact⟨vs,q.trans h1,h2.x e⟩
 |dct AV=>
  obtain⟨xs,h1,h2⟩:=h;exact⟨xs,q.trans h1,h2.x e⟩
def exO(p:Addr)(o:Obj):HO:=.ext fun h=>h.get? p=some o
theorem aw{P:Program}{w:World}{H:Hp}{h:Heap}{p:Addr}{o:Obj}(e:h.get? p=some o):ObjOk P w H h p (exO p o):=⟨e,⟨o,e⟩,fun _ _ q k=>k _ q⟩
def ItO(p:Addr)(o:Obj)(vs:List V):It:=⟨fun i H=>H p=some (exO p o)/\i<vs.length,fun i H x H'=>H'=H/\vs[i]?=some x,fun i H=>H p=some (exO p o)/\vs.length=i⟩
theorem Vf{P:Program}{w:World}{K:PySem.W.Frag}{tg:Expr}{p it:Addr}{o:Obj}{vs:List V}{AS:List Value}{n:Nat}(hv:Vals vs AS)(aD:o.cls=.type "list")(Nx:o.data=.seq AS.toArray n):Turn P w K tg (ItO p o vs) [it] it (fun i h=>h.IsListIter it p i) where
 mem:=by simp
 obj:=fun i h st b hb=>by
  have e:b=it:=by simpa using hb
  subst e;obtain⟨o,e,c,d⟩:=st;exact⟨o,e,fun v z=>by rw[d]at z;cases z⟩
 keep:=fun i h h' st k=>st.at fun o e=>k it (by simp) o e
 item:=by
  intro X hP hw hK hc i AD s σ H E I hf st hg;subst hP hw hK;obtain⟨hp,hi⟩:=hg;obtain⟨e,_,_⟩:=(show ObjOk X.prog X.w H s.heap p (exO p o)from I.hok p _ hp);obtain⟨f0,f1,f2,f3,f4,f5⟩:=hf it (by simp);have hx:vs[i]?=some vs[i]:=List.getElem?_eq_getElem hi;obtain⟨u,hu,ru⟩:=hv.get hx;refine wpAny_pyNext_list_item st (items:=AS.toArray) ⟨o,e,aD,n,Nx⟩ (x:=u) (by simpa using hu) fun h' AR sb=>?_;have I1:Inv X AD σ H { s with heap:=h' }:=I.turned (t':=s.toks) (fun b o hb e=>(sb.2 b hb).trans e) f0 f1 f3 f4 f5;obtain⟨o,e,c,d⟩:=id AR;exact⟨u,rfl,PW (s:={ s with heap:=h' }) e c d (by decide) ⟨vs[i],H,I1,ru,⟨rfl,hx⟩,AR,fun b hb=>(hf b hb).1⟩⟩
 done:=by
  intro X hP hw hK hc i AD s σ H E I hf st hg;subst hP hw hK;obtain⟨hp,rfl⟩:=hg;obtain⟨e,_,_⟩:=(show ObjOk X.prog X.w H s.heap p (exO p o)from I.hok p _ hp);obtain⟨f0,f1,f2,f3,f4,f5⟩:=hf it (by simp);have hl:=hv.length;exact wpAny_pyNext_list_end (I.ok.hd hc) st (items:=AS.toArray) ⟨o,e,aD,n,Nx⟩ (by simp;lia) fun h' eb=>⟨rfl,I.turned (t':=s.toks) (fun b o hb e=>eb b o hb e) f0 f1 f3 f4 f5⟩
 self:=fun _ _ _ _ _ st h=>wpAny_pyIter_listiter st h
section
variable {X:Cx}{ρ:Rho}{G:Gs}{elt AM Ai:Expr}{scope:Scope}{Ax:Pos}{Nc:List Str}{caps:List (Option Nat)}{f:Dat->Rho->Option Rho}{p:Addr}{l:List Dat}
theorem Wa(g:Dat->Dat)(Sc:CompSc X scope Nc caps)(Bm:X.calm=true)(ha:PX X ρ G Ai (.fn p))(hG:G p=some (.lst l))(hg:∀C s' H' fp,PGD (Aa X Nc scope C s' H' fp) AM f)(hle:∀d ρ',f d (A8 caps ρ)=some ρ'->ρ'.length=(A8 caps ρ).length/\∀(j:Nat) e,(A8 caps ρ)[j]?=some (some e)->ρ'[j]?=some (some e))(hz:l.length<sizeLine)(CH:∀C s' H' fp G' d,d∈l->∃ρ',f d (A8 caps ρ)=some ρ'/\PX (Aa X Nc scope C s' H' fp) ρ' G' elt (g d))(Pp:∀x,foldedSetIterable Ai X.env x=pure x:=by intro _;rfl) :
  PX X ρ G (.ListComp elt [⟨AM,Ai,[],0⟩] scope Ax) (.lst (l.map g)):=by
 intro AD s σ H I S;rw[eval_ListComp];refine wpAny_comprehension_free (use:=none) rfl Pp (D6 fun x hx hf=>I.ok.has x.1 (Sc.free x hx hf)) Sc.kind Sc.names ?_;refine thn (ha AD s σ H I S) fun v s1 ⟨x,H1,I1,rx,_,G1,e1,o1,r1,q1,BV⟩=>?_;subst q1;subst BV;cases (show x=V.ref p from r1);cases rx;obtain⟨vs,hp,dr⟩:=o1 p _ hG;obtain⟨qD,AS,n,hv,pl⟩:=(show ObjOk X.prog X.w H1 s1.heap p (.lst vs)from I1.hok p _ hp);obtain⟨o,ho⟩:∃o:Obj,o={ cls:=Value.type "list",data:=Data.seq AS.toArray n }:=⟨_,rfl⟩;have aD:o.cls=.type "list":=by rw[ho]
 have Nx:o.data=.seq AS.toArray n:=by rw[ho]
 rw[<-ho]at pl;have ll:l.length=vs.length:=dr.length.symm;refine wpAny_pyIter_list (items:=AS.toArray) ⟨o,pl,aD,n,Nx⟩ ?_;have aB:∀b,G1 b=none->b≠p:=fun b h e=>by subst e;rw[hG]at h;cases h
 have iI:∀b,b≠p->upd H1 p (exO p o) b=H1 b:=fun b hb=>AZ hb;have E2:Ext H1 G1 (upd H1 p (exO p o)) (rel G1 p):=⟨fun b u e h=>by rw[iI b (aB b h)];exact e,fun b h=>by
  by_cases hb:b=p
  ·subst hb;rw[CG]at h;exact absurd rfl h
  ·rw[D3 hb]at h;exact .inl h⟩
 have O2:GOk X.K (upd H1 p (exO p o)) (rel G1 p):=fun b u q=>by
  have hb:b≠p:=by rintro rfl;rw[CG]at q;cases q
  rw[D3 hb]at q;exact(o1 b u q).ext E2.hid (iI b hb)
 have hpl:p<s1.heap.objs.size:=Heap.lt_size pl;obtain⟨oi,TR⟩:∃oi:Obj,oi={ cls:=.type "list_iterator",data:=.fields #[.ref p,.int 0 0] }:=⟨_,rfl⟩;have kp:∀b u,s1.heap.get? b=some u->(s1.heap.push oi).get? b=some u:=fun b u e=>Heap.get?_push_of_some _ e;have I2:Inv X AD σ (upd H1 p (exO p o)) { s1 with heap:=s1.heap.push oi,toks:=s1.toks }:=
  I1.write (x:=p) (e:=p) (by rw[hp];trivial) (.inl rfl) (fun b u _ e=>kp b u e) ⟨o,kp _ _ pl⟩ (aw (kp _ _ pl))
 have qI:∀b∈[s1.heap.objs.size],JK X AD (upd H1 p (exO p o)) b:=fun b hb=>by
  rw[List.mem_singleton.mp hb]
  have:=I1.fpOk (b:=s1.heap.objs.size) (Nat.le_refl _) (I1.hok.fresh (Nat.le_refl _))
  obtain⟨f0,f1,f2,f3,f4,f5⟩:=this;exact⟨by rw[iI _ (Nat.ne_of_gt hpl)];exact f0,f1,f2,f3,f4,f5⟩
 have wk:Wk X.K (ItO p o vs) (upd H1 p (exO p o)) (rel G1 p) l:=by
  intro H' G' e;have NI:H' p=some (exO p o):=e.keep p _ A2 CG;refine⟨fun i d hd=>?_,NI,ll.symm⟩;have hi:i<vs.length:=by rw[<-ll];exact(List.getElem?_eq_some_iff.mp hd).1
  refine⟨⟨NI,hi⟩,fun x VW hh=>?_⟩;obtain⟨rfl,hx⟩:=hh;obtain⟨v,Oy,rv⟩:=dr.get hd;rw[hx]at Oy;cases Oy;refine⟨Ext.refl,fun z=>z,fun _=>?_⟩;exact(rv.same E2.hid).same e.hid
 rw[show(s1.heap.push _)=s1.heap.push oi from by rw[TR]];refine Ik (ρ:=ρ) (G:=rel G1 p) (l:=l) (H:=upd H1 p (exO p o)) (RR:=fun Aw C=>compPost (model X.prog X.w) X.A X.xe none (EP X AD σ (Po X H G1 fun d' G'=>d'=.lst (l.map g)/\G'=G1)) Aw C) (fun i Aw G'=>G'=rel G1 p/\Aw=(l.take i).map g) (GN elt AM Ai scope Ax) Sc Bm hg hle (Nat.le_of_lt hz) ?_ I2 (S.ext (e1.trans E2) O2) (Vf (it:=s1.heap.objs.size) hv aD Nx) ⟨_,Heap.get?_push_size _ (by rw[TR];rfl),by rw[TR],by rw[TR];rfl⟩ qI wk ⟨rfl,by simp⟩ ?_
 ·rintro C s' H' fp Dd i d Aw G' hd ⟨rfl,rfl⟩ hD;obtain⟨ρ',h1,h2⟩:=CH C s' H' fp (put (rel G1 p) Dd (.lst ((l.take i).map g))) d (List.mem_of_getElem? hd);refine⟨ρ',h1,DV rfl AH ?_ (PX.we h2 ⟨AH,_,rel G1 p,?_,hD,Ao,rfl,?_⟩)⟩
  ·have:((l.take i).map g).length<=l.length:=by rw[List.length_map,List.length_take];lia
   lia
  ·simp
  ·rw[List.take_add_one,hd];simp
 ·rintro D C s3 sf σc Hf Gf Aw k3 rfl ⟨H3,I3,f3,Ic⟩ ef of fG ⟨rfl,rfl⟩;obtain⟨m,hm,_⟩:=Ic.loc;refine⟨m,hm,fun h' hs=>?_⟩;have If:=KA I3 f3 Ic hs;obtain⟨E3,O3,R3⟩:=Jz (X:=X) of AH;rw[A5 fG]at E3 O3 R3;have E4:=ef.trans E3;have kz:Hf p=some (exO p o):=E4.keep p _ A2 CG;obtain⟨zz,_,_⟩:=(show ObjOk X.prog X.w Hf _ p (exO p o)from If.hok p _ kz);have I4:=If.write (t':=sf.toks) (x:=p) (e:=p) (o:=.lst vs) (by rw[kz];trivial) (.inl rfl) (fun b u _ e=>e) ⟨o,zz⟩ ⟨qD,AS,n,hv,by rw[zz,ho]⟩;have jC:∀b,b≠p->upd Hf p (.lst vs) b=Hf b:=fun b hb=>AZ hb;have oV:∀b u,H1 b=some u->G1 b=none->upd Hf p (.lst vs) b=some u:=fun b u e h=>by
   have hb:=aB b h;rw[jC b hb];exact E4.keep b u (by rw[iI b hb];exact e) (by rw[D3 hb];exact h)
  have E5:Ext H1 G1 (upd Hf p (.lst vs)) G1:=⟨oV,fun b h=>.inl h⟩;have SX:Kd (hid Hf (rel G1 p)) (hid (upd Hf p (.lst vs)) G1):=fun b u h=>by
   obtain⟨h1,h2⟩:=MX h;by_cases hb:b=p
   ·subst hb;rw[kz]at h2;cases h2;exact .inr ⟨_,rfl⟩
   ·rw[D3 hb]at h1;exact .inl (Eu h1 (by rw[jC b hb];exact h2))
  refine⟨.ref D,_,I4,rfl,.lst _,G1,e1.trans E5,fun b u q=>?_,R3.x SX,by rw[List.take_length],rfl⟩;by_cases hb:b=p
  ·subst hb;rw[hG]at q;cases q;exact⟨vs,A2,dr.same E5.hid⟩
  ·exact(O3 b u (by rw[D3 hb];exact q)).x SX (jC b hb)
end
section
variable {X:Cx}{ρ:Rho}{G:Gs}{a:Expr}{pos pp:Pos}{l:List Dat}{i:Int}
theorem bS(hm:X.mg "abs"=none)(ha:PX X ρ G a (.int i))(hg:Gl X "abs":=by rfl)(he:starEach [a] X.env=(false,eval a X.env)::starEach [] X.env:=by rfl):PX X ρ G (.Call (.Name "abs" pp) [a] [] pos) (.int (i.natAbs:Nat)):=PX.cast (DI U3 hg hm (by decide +kernel) ha (fun H x Q o r k=>by
  rw[Rep]at r;subst r;exact⟨i,rfl,k _ _ (BR (d:=.int (if i<0 then -i else i)) o rfl)⟩) (he:=he)) (by congr 1;split<;>lia)
theorem WN{Q:Dat->Gs->Prop}(hm:X.mg "list"=none)(ha:PX X ρ G a (.tup l))(q:∀p,G p=none->Q (.fn p) (put G p (.lst l)))(hg:Gl X "list":=by rfl)(he:starEach [a] X.env=(false,eval a X.env)::starEach [] X.env:=by rfl):WE X ρ G (.Call (.Name "list" pp) [a] [] pos) Q:=Ba (Lp NH hg hm (by decide +kernel) (BL Ap Cz he) (by decide) (by decide) he rfl) fun σ H S=>⟨ρ,G,_,ha,S,fun x H1 ⟨_,_,e1,o1,r1,q1,BV⟩=>by
  subst q1;subst BV;rw[Rep]at r1;obtain⟨p,vs,e,h1,r1⟩:=r1;refine⟨p,vs,by rw[e],.inr (Ar AK h1),fun t ht=>?_⟩;obtain⟨E,O⟩:=Mr o1 ht r1;exact⟨.fn t,_,e1.trans E,O,rfl,q t (o1.free ht)⟩⟩
end
section
variable {prog:Program}{w:World}{A:Around}{E:Value->Shared->Prop}{h:Heap}{g:Array GenState}{d:Drawn}{t:Nat}{os:OsState}{a:Addr}{o:Obj}
 {nm q:Str} {C N:Addr} {bs bm:List Value} {hdct:Bool} {sn:List Str} {sub:List Value} {ab:Bool} {col:Option Bool} {dd:Option Addr} {k0 k1 k2 k3 k5:Option Value} {newId:String}
end
def Sj:SpD:=fun ds G R=>∃F:List Sq,ds=[fl F]/\F.length<=1000/\F.Pairwise AN/\R (.bl true) G
theorem VB(q:Sq):NO (sq q)=true:=rfl
theorem Tc(F:List Sq):((F.map sq).map DR).all id=true:=by rw[List.all_map,List.all_eq_true];intro x hx;obtain⟨q,_,rfl⟩:=List.mem_map.mp hx;rfl
theorem FXP.trans{X:Cx}{AD:List (Addr×Obj)}{σ:St}{H H1:Hp}{G G1:Gs}{RX:Value->Gs->Prop}{e:Value}{s':Shared}(x:Ext H G H1 G1)(h:FXP X AD σ H1 G1 RX e s'):FXP X AD σ H G RX e s':=by obtain⟨ea,cls,s1,H2,H',G',a,b,c,d,f,g,o,r⟩:=h;exact⟨ea,cls,s1,H2,H',G',a,b,c,d,f,x.trans g,o,r⟩
def tri(t:Sq×Sq×Sq):Dat:=.tup [sq t.1,sq t.2.1,sq t.2.2]
def Rn:SpD:=fun ds G R=>∃c:Sq,ds=[sq c]/\R (.lst ((JN c).map tri)) G
def SY:SpD:=fun ds G R=>∃c:Sq,ds=[sq c]/\R (.bl ((c.1+c.2)%2==0)) G
def N7:SpD:=fun ds G R=>∃(F:List Sq)(l:Lay)(a b:Sq),ds=[fl F,lay l,sq a,sq b]/\R (.bl (Lz F l a b)) G
def Ol:SpD:=fun ds G R=>∃(F:List Sq)(l:Lay)(c:Sq),ds=[fl F,lay l,sq c]/\R (.lst ((B9 F l c).map pi)) G
def htL(h:Lay->Sq->Int)(F:List Sq)(l:Lay):List (Sq×Int):=(Cu F).map fun y=>(y,h l y-h l (F.headD (0,0)))
def gw:SpD:=fun ds G R=>∃(F:List Sq)(l:Lay)(h:Lay->Sq->Int),ds=[fl F,lay l]/\Pl F h/\C1 F=true/\IsLay F l/\R (.lst ((htL h F l).map pi)) G
def Zl:SpD:=fun ds G R=>∃(F:List Sq)(l m:Lay)(h:Lay->Sq->Int),ds=[fl F,lay l,lay m]/\Pl F h/\C1 F=true/\IsLay F l/\IsLay F m/\R (.int ((apart h (Cu F) l m / 4:Nat))) G
def N3:SpD:=fun ds G R=>∃i:Int,ds=[.int i]/\R (.bl true) G
def bo(i j k:Nat):Dat->Rho->Option Rho:=fun d ρ=>match d with
 |.tup [a,b,c]=>some (((ρ.set i (some a)).set j (some b)).set k (some c))
 |_=>none
section
variable {X:Cx}{pos:Pos}
theorem ZQ(i j k:Nat){x y z:Str}{px py pz:Pos}{n:Nat}(hc:X.calm=true)(hN:X.N.Nodup)(hi:X.N[i]?=some x:=by rfl)(hj:X.N[j]?=some y:=by rfl)(hk:X.N[k]?=some z:=by rfl)(hx:Loc X.env.scope x:=by first|exact Or.inl rfl|exact Or.inr rfl)(hy:Loc X.env.scope y:=by first|exact Or.inl rfl|exact Or.inr rfl)(hz:Loc X.env.scope z:=by first|exact Or.inl rfl|exact Or.inr rfl)(i8:X.fn x=true\/X.env.scope.names.lookup x=some .local:=by first|exact .inl rfl|exact .inr rfl|assumption)(jE:X.fn y=true\/X.env.scope.names.lookup y=some .local:=by first|exact .inl rfl|exact .inr rfl|assumption)(qJ:X.fn z=true\/X.env.scope.names.lookup z=some .local:=by first|exact .inl rfl|exact .inr rfl|assumption):PGD X (.Tuple [.Name x px,.Name y py,.Name z pz] n pos) (bo i j k):=by
 intro AD s σ H v u ρ ρ' G d I r S q e;cases d<;>simp only[bo,reduceCtorEq]at e;rename_i l
 match l,e,q with
 |[a,b,c],e,q=>
  simp only[Option.some.injEq]at e;subst e;rw[Rep]at q;obtain⟨p,vs,rfl,h1,h2⟩:=q;rw[RepL]at h2;obtain⟨v1,r1,rfl,q1,h2⟩:=h2;rw[RepL]at h2;obtain⟨v2,r2,rfl,q2,h2⟩:=h2;rw[RepL]at h2;obtain⟨v3,r3,rfl,q3,h2⟩:=h2;rw[RepL]at h2;subst h2;exact WO (n:=3) hc (GO (Gj hN hi hx i8) (GO (Gj hN hj hy jE) (GO (Gj hN hk hz qJ) SI))) rfl rfl AD s σ H (.ref p) u (fun σ' H'=>Ext H G H' G/\Stt X H' σ' _ G) I r
   ⟨p,[v1,v2,v3],rfl,Ar AK h1,rfl,v1,[v2,v3],rfl,v2,[v3],rfl,v3,[],rfl,rfl,Ext.refl,((S.set q1).set q2).set q3⟩
 |[],e,_=>simp at e
 |[_],e,_=>simp at e
 |[_,_],e,_=>simp at e
 |_::_::_::_::_,e,_=>simp at e
end
section
variable {F:List Sq}{h:Lay->Sq->Int}{l m:Lay}
def dif(d:Dat):Dat:=match d with
 |.tup [.tup [_,.int a],.tup [_,.int b]]=>.int ((a-b).natAbs:Nat)
 |_=>.non
theorem Qc(h:Lay->Sq->Int)(F:List Sq)(l m:Lay):Fc ((htL h F l).map pi) ((htL h F m).map pi)=(Cu F).map fun y=>.tup [pi (y,h l y-h l (F.headD (0,0))),pi (y,h m y-h m (F.headD (0,0)))]:=by unfold Fc htL;rw[List.map_map,List.map_map,List.zip_map',List.map_map];rfl
theorem Pl.zero'(P:Pl F h)(I:IsLay F l)(J:IsLay F m):h l (F.headD (0,0))=h m (F.headD (0,0)):=P.zero I J (GA P.gd) fun x hx=>Qx P.gd hx
theorem cf(P:Pl F h)(I:IsLay F l)(J:IsLay F m):(Fc ((htL h F l).map pi) ((htL h F m).map pi)).map dif=((Cu F).map fun y=>(((h l y-h m y).natAbs:Nat):Int)).map .int:=by rw[Qc,List.map_map,List.map_map];refine List.map_congr_left fun y _=>?_;have z:=P.zero' I J;show Dat.int ((((h l y-h l (F.headD (0,0)))-(h m y-h m (F.headD (0,0)))).natAbs:Nat):Int)=Dat.int (((h l y-h m y).natAbs:Nat):Int);rw[show(h l y-h l (F.headD (0,0)))-(h m y-h m (F.headD (0,0)))=h l y-h m y by lia]
theorem cQ(K:List Sq)(h:Lay->Sq->Int)(l m:Lay):(K.map fun y=>(((h l y-h m y).natAbs:Nat):Int)).sum=((apart h K l m:Nat):Int):=by
 unfold apart
 induction K with
 |nil=>rfl
 |cons a K ih=>
  rw[List.map_cons,List.map_cons,List.sum_cons,List.sum_cons,ih];lia
end
abbrev Md:List Str:=["square","row","column"]
abbrev En:List Str:=["square"]
theorem sM{N P:List Str}{sc:Scope}(a:sc.kind=.function:=by rfl)(b:sc.isCoroutine=false:=by rfl)(c:sc.isGenerator=false:=by rfl)(d:N.Nodup:=by decide +kernel)(e:N.take P.length=P:=by rfl)(f:∀x∈P,sc.names.lookup x=some .local\/sc.names.lookup x=some .cell:=by decide +kernel)(g:∀y∈sc.names,y.2≠.free:=by decide +kernel):FnScope N P sc:=⟨a,b,c,d,e,f,g⟩
section
variable {P:Program}{w:World}{K:PySem.W.Frag}{mg:Str->Option Value}{base:Heap}
theorem BN{x qual:Str}{st:Stmt}{f:Addr}{fd:FuncData}{N ps:List Str}{k:Nat}{S:SpD}(F:Fun K x qual st f fd)(Sc:FnScope N ps (AF st))(hb:∀(A1:Value)(A:Around)(outer:List Env)(s:Shared)(H:Hp)(E:XK)(ds:List Dat)(G:Gs)(R:Dat->Gs->Prop),Room k (A.deeper (envOfC qual (AF st) s.heap.objs.size f A1))->S ds G R →
   WSs (Io CX0 P w K mg base N qual (AF st) f A1 A outer s H E).nox (Fy N ds) G (Bi st) { nx:=fun _ G'=>R .non G',rt:=R })(Au:∀ds G R,S ds G R->ds.length=ps.length:=by intro _ _ _ h;first|(obtain⟨_,rfl,_⟩:=h;rfl)|(obtain⟨_,_,rfl,_⟩:=h;rfl)|(obtain⟨_,_,_,rfl,_⟩:=h;rfl)|(obtain⟨_,_,_,_,rfl,_⟩:=h;rfl)|(obtain⟨_,_,_,_,_,rfl,_⟩:=h;rfl)|(obtain⟨_,_,_,_,_,_,rfl,_⟩:=h;rfl)|(obtain⟨_,_,_,_,_,_,_,rfl,_⟩:=h;rfl)|(obtain⟨_,_,_,_,_,_,_,_,rfl,_⟩:=h;rfl)):FnOk P w K mg base CX0 (k+1) f fd ps (Af K S):=jv F Sc Au hb
end
theorem D7:FnScope Md En (AF Hw):=sM
abbrev Gy:List Str:=["square","row","column"]
abbrev BQ:List Str:=["square"]
theorem B0:FnScope Gy BQ (AF C6):=sM
abbrev NX:List Str:=["square"]
abbrev IK:List Str:=["square"]
theorem Li:FnScope NX IK (AF IY):=sM
abbrev Pg:List Str:=["thing"]
abbrev GD:List Str:=["thing"]
theorem Mq:FnScope Pg GD (AF Jd):=sM
abbrev Uj:List Str:=["thing"]
abbrev Iv:List Str:=["thing"]
theorem RC:FnScope Uj Iv (AF MG):=sM
abbrev RZ:List Str:=["thing"]
abbrev FV:List Str:=["thing"]
theorem P5:FnScope RZ FV (AF KQ):=sM
abbrev JY:List Str:=["things"]
abbrev GC:List Str:=["things"]
theorem M9:FnScope JY GC (AF D2):=sM
abbrev HB:List Str:=["one","other"]
abbrev LZ:List (Option Nat):=[none,none]
abbrev UE:List Str:=["start","ground","around","found","waiting","square","other"]
abbrev Gq:List Str:=["start","ground","around"]
theorem DJ:FnScope UE Gq (AF Ij):=sM
abbrev Il:List Str:=["floor"]
abbrev Cc:List Str:=["floor"]
theorem Hy:FnScope Il Cc (AF EV):=sM
abbrev DY:List Str:=["floor","rows","columns","bare","row","column"]
abbrev DO:List Str:=["floor"]
theorem BJ:FnScope DY DO (AF Bz):=sM
abbrev Ej:List Str:=["square"]
abbrev Ir:List (Option Nat):=[none]
abbrev EK:List Str:=["square"]
abbrev Ig:List (Option Nat):=[none]
abbrev QF:List Str:=["floor","bare"]
abbrev HX:List Str:=["floor"]
theorem JQ:FnScope QF HX (AF Kz):=sM
abbrev FD:List Str:=["floor","one","other"]
abbrev Be:List Str:=["floor","one","other"]
theorem EJ:FnScope FD Be (AF Bh):=sM
abbrev IX:List Str:=["floor","square","other"]
abbrev CQ:List Str:=["floor"]
theorem CI:FnScope IX CQ (AF Dw):=sM
abbrev Qj:List Str:=["floor"]
abbrev HZ:List Str:=["floor"]
theorem O8:FnScope Qj HZ (AF Km):=sM
abbrev Fb:List Str:=["floor"]
abbrev C2:List Str:=["floor"]
theorem JG:FnScope Fb C2 (AF Cw):=sM
abbrev D1:List Str:=["thing"]
abbrev Hm:List (Option Nat):=[none]
abbrev QP:List Str:=["square"]
abbrev HQ:List Str:=["square"]
theorem Og:FnScope QP HQ (AF Kw):=sM
abbrev N9:List Str:=["corner","row","column","upper_left","upper_right","lower_left","lower_right"]
abbrev Fv:List Str:=["corner"]
theorem Bl:FnScope N9 Fv (AF JR):=sM
abbrev OU:List Str:=["floor","laying","left","right"]
abbrev GX:List Str:=["floor","laying","left","right"]
theorem M3:FnScope OU GX (AF Dt):=sM
abbrev NQ:List Str:=["floor","laying","corner","steps","further","left","right"]
abbrev E6:List Str:=["floor","laying","corner"]
theorem EC:FnScope NQ E6 (AF IM):=sM
abbrev MF:List Str:=["floor","laying","waiting","found","corner","further","rise"]
abbrev JE:List Str:=["floor","laying"]
theorem DH:FnScope MF JE (AF Eg):=sM
abbrev JO:List Str:=["corner"]
abbrev Oo:List (Option Nat):=[none]
abbrev Fn:List Str:=["floor","one","other","apart"]
abbrev DS:List Str:=["floor","one","other"]
theorem FZ:FnScope Fn DS (AF DW):=sM
abbrev Ec:List Str:=["under","over"]
abbrev JC:List (Option Nat):=[none,none]
abbrev Xz:List Str:=["floor","at","taken","square","right","below","found"]
abbrev Yh:List Str:=["floor","at","taken"]
theorem GS:FnScope Xz Yh (AF M8):=sM
abbrev b9:List Str:=["floor","at","taken","known","further"]
abbrev Mi:List Str:=["floor","at","taken","known"]
theorem R9:FnScope b9 Mi (AF Nj):=sM
abbrev X3:List Str:=["floor"]
abbrev Rf:List Str:=["floor"]
theorem Xg:FnScope X3 Rf (AF Rr):=sM
abbrev LJ:List Str:=["ring","begin","stones","at"]
abbrev CS:List Str:=["ring","begin"]
theorem C3:FnScope LJ CS (AF Dh):=sM
abbrev MP:List Str:=["laying","stones"]
abbrev Gk:List Str:=["laying","stones"]
theorem QO:FnScope MP Gk (AF Gr):=sM
abbrev JP:List Str:=["stone","laying"]
abbrev N4:List (Option Nat):=[none,some 0]
abbrev Ea:List Str:=["laying","ring","taken","put","kept"]
abbrev Cf:List Str:=["laying","ring"]
theorem A6:FnScope Ea Cf (AF BY):=sM
abbrev DT:List Str:=["stone","taken"]
abbrev Hc:List (Option Nat):=[none,some 2]
abbrev Tp:List Str:=["square","row","column"]
abbrev Gv:List Str:=["square"]
theorem He:FnScope Tp Gv (AF MT):=sM
abbrev Tn:List Str:=["laying","square","ring"]
abbrev Gh:List Str:=["laying","square"]
theorem Ku:FnScope Tn Gh (AF Lw):=sM
abbrev TB:List Str:=["laying"]
abbrev Nq:List Str:=["laying"]
theorem Wz:FnScope TB Nq (AF Nb):=sM
abbrev MC:List Str:=["stone","laying"]
abbrev Uc:List (Option Nat):=[none,some 0]
abbrev Wx:List Str:=["laying","square"]
abbrev Kx:List Str:=["laying","square"]
theorem Ti:FnScope Wx Kx (AF Pe):=sM
abbrev Qw:List Str:=["came_from","end","squares","step"]
abbrev Hg:List Str:=["came_from","end"]
theorem Du:FnScope Qw Hg (AF HS):=sM
abbrev cU:List Str:=["floor","one","other","came_from","met","at","laying","square","further"]
abbrev Qm:List Str:=["floor","one","other"]
theorem Dq:FnScope cU Qm (AF Q9):=sM
abbrev RH:List Str:=["_law_script","_law_k"]
abbrev Dg:List Str:=["_law_script","_law_k"]
theorem Nz:FnScope RH Dg (AF LI):=sM
abbrev Td:List Str:=["_law_cell_here","_law_prime","_law_many"]
abbrev Gm:List Str:=["_law_cell_here","_law_prime","_law_many"]
theorem Qu:FnScope Td Gm (AF Ln):=sM
abbrev OR:List Str:=["_law_found"]
abbrev Fo:List Str:=["_law_found"]
theorem Ma:FnScope OR Fo (AF Ja):=sM
abbrev GU:List Str:=["_law_script","_law_at","_law_cell_here","_law_rows","_law_wide","_law_down","_law_right","_law_some","_law_r","_law_gone","_law_k","_law_seed","_law_one","_law_left"]
abbrev Fp:List Str:=["_law_script","_law_at"]
theorem Ac:FnScope GU Fp (AF Cq):=sM
abbrev HC:List Str:=["_law_c","_law_down","_law_r","_law_right"]
abbrev Lg:List (Option Nat):=[none,some 5,some 8,some 6]
abbrev G8:List Str:=["_law_one","_law_gone"]
abbrev LX:List (Option Nat):=[none,some 9]
abbrev KJ:List Str:=["_law_floor_here","_law_square","_law_r","_law_c"]
abbrev Eo:List Str:=["_law_floor_here","_law_square"]
theorem Jb:FnScope KJ Eo (AF Ew):=sM
abbrev Hz:List Str:=["_law_one","_law_floor_here"]
abbrev NV:List (Option Nat):=[none,some 0]
abbrev Fu:List Str:=["_law_floor_here","_law_known","_law_found","_law_last","_law_other","_law_left"]
abbrev Bv:List Str:=["_law_floor_here","_law_known"]
theorem B5:FnScope Fu Bv (AF Cs):=sM
abbrev HG:List Str:=["_law_one","_law_last","_law_other"]
abbrev La:List (Option Nat):=[none,some 3,some 4]
abbrev HF:List Str:=["_law_row","_law_last","_law_other"]
abbrev Ld:List (Option Nat):=[none,some 3,some 4]
abbrev MR:List Str:=["_law_floor_here"]
abbrev JJ:List Str:=["_law_floor_here"]
theorem Q0:FnScope MR JJ (AF Gd):=sM
abbrev JV:List Str:=["_law_row"]
abbrev OY:List (Option Nat):=[none]
abbrev JS:List Str:=["_law_floor_here","_law_met","_law_at"]
abbrev Ff:List Str:=["_law_floor_here"]
theorem CU:FnScope JS Ff (AF D0):=sM
abbrev HD:List Str:=["_law_one","_law_met"]
abbrev Le:List (Option Nat):=[none,some 1]
abbrev LU:List Str:=["_law_floor_here","_law_met","_law_todo","_law_r","_law_c","_law_k","_law_one"]
abbrev D8:List Str:=["_law_floor_here"]
theorem BW:FnScope LU D8 (AF EF):=sM
abbrev Kv:List Str:=["_law_floor_here","_law_r","_law_c","_law_step"]
abbrev DU:List Str:=["_law_floor_here"]
theorem Cv:FnScope Kv DU (AF DZ):=sM
abbrev N2:List Str:=["_law_floor_here"]
abbrev GQ:List Str:=["_law_floor_here"]
theorem MZ:FnScope N2 GQ (AF JX):=sM
abbrev fJ:List Str:=["_law_script","_law_floor_here","_law_every_here","_law_one","_law_other","_law_found","_law_many"]
abbrev aZ:List Str:=["_law_script"]
theorem Hd:FnScope fJ aZ (AF Z8):=sM
end TF
namespace TF
open PySem PySem.Spec L2
open PyProof.Rows hiding St RelV
section
variable {P:Program}{w:World}{K:PySem.W.Frag}{mg:Str->Option Value}{base:Heap}{f:Addr}{fd:FuncData}
theorem cJ{T:Addr}(F:Fun K "law" "law" Z8 f fd)(mi:mg "isinstance"=none)(ja:mg "list"=none)(ml:mg "len"=none)(FF:Df P w K mg base "_law_floor" Fp 2 SQ)(FC:Df P w K mg base "_law_cell" Dg 1 NS)(FA:Df P w K mg base "_law_all" JJ 15 aT)(p6:Df P w K mg base "_law_plain" GQ 3 (spF fun F=>.bl (C1 F)))(qj:Df P w K mg base "_law_whole" Fo 1 N3)(FR:DfX P w K mg base "road" Qm 28 (W7 T))(FW:Df P w K mg base "fewest_turns" DS 7 Zl):FnOk P w K mg base CX0 29 f fd aZ (Af K M1):=by
 refine BN (k:=28) F Hd (fun A1 A outer s H E ds G R hr h=>?_);obtain⟨ns,rfl,hR⟩:=h;refine A0 1 Hd.nd (AW FF (hr.mono (by lia)) (AB (AA 0 rfl) (AB AG AE)) ⟨ns,3,rfl,fun q gd=>?_⟩);refine BO (p:=!C1 q) (CO (B7 (AW p6 (hr.mono (by lia)) (AB (AA 1 rfl) AE) ⟨q,rfl,gd,rfl,rfl⟩))) (fun _=>AO Fi hR) (fun hpl=>AJ ?_);have fF:C1 q=true:=by simpa using hpl
 obtain⟨h,pl⟩:=fh gd fF;refine A0 2 Hd.nd (AW FA (hr.mono (by lia)) (AB (AA 1 rfl) AE) ⟨q,rfl,gd.ne,gd.up,gd.len,?_⟩);have cD:∀G:Gs,Jk G (.lst ((Bq q).map lay))=some (Bq q).length:=fun G=>by simp[Jk]
 refine BO (p:=(Bq q).isEmpty||decide ((200:Int)<((Bq q).length:Nat))) ?_ (fun _=>AO Fi hR) (fun hp=>AJ ?_)
 ·refine PXT.cast (Kj (p:=!(!(Bq q).isEmpty)) (CO (Iq (p:=!(Bq q).isEmpty) (AA 2 rfl) ?_)) (fun _=>Js (Ay (J5 (i:=((Bq q).length:Nat)) ?_ AG)))).t (by rw[Bool.not_not])
  ·show some (!((Bq q).map lay).isEmpty)=_;rw[List.isEmpty_map]
  ·exact Bg (n:=(Bq q).length) rfl ml (AA 2 rfl) (cD _)
 rw[Bool.or_eq_false_iff]at hp;have Bk:Bq q≠[]:=by rintro h;rw[h]at hp;cases hp.1
 have Mf:0<(Bq q).length:=List.length_pos_iff.mpr Bk;have dJ:(Bq q).length<=200:=by have:=of_decide_eq_false hp.2;lia
 have Z4:∀c:Int,∃l,IsLay q l/\atI ((Bq q).map lay) (c%((Bq q).length:Int))=some (lay l):=by
  intro c;have h1:=Int.emod_nonneg c (b:=((Bq q).length:Int)) (by lia);have h2:=Int.emod_lt_of_pos c (b:=((Bq q).length:Int)) (by lia);have BC:(c%((Bq q).length:Int)).toNat<(Bq q).length:=by lia
  obtain⟨l,hl⟩:∃l,(Bq q)[(c%((Bq q).length:Int)).toNat]?=some l:=⟨_,List.getElem?_eq_getElem BC⟩;refine⟨l,(Nm gd.up).mp (List.mem_of_getElem? hl),?_⟩;have e:c%((Bq q).length:Int)=(((c%((Bq q).length:Int)).toNat:Nat):Int):=by lia
  rw[e];exact Dr lay (DC hl)
 obtain⟨l,I,jt⟩:=Z4 (CN ns 0);obtain⟨m,J,jr⟩:=Z4 (CN ns 1);refine AQ 3 Hd.nd (EE (AA 2 rfl) (Ie (AW FC (hr.mono (by lia)) (AB (AA 0 rfl) (AB AG AE)) ⟨ns,0,rfl,rfl,rfl⟩) (Bg (n:=(Bq q).length) rfl ml (AA 2 rfl) (cD _)) (by lia)) jt) ?_;refine AQ 4 Hd.nd (EE (AA 2 rfl) (Ie (AW FC (hr.mono (by lia)) (AB (AA 0 rfl) (AB AG AE)) ⟨ns,1,rfl,rfl,rfl⟩) (Bg (n:=(Bq q).length) rfl ml (AA 2 rfl) (cD _)) (by lia)) jr) ?_;have far:=pl.far (YM gd) I J;refine A0 5 Hd.nd (Lu (Vc rfl FR hr (AB (AA 1 rfl) (AB (AA 3 rfl) (AB (AA 4 rfl) AE))) ⟨q,l,m,rfl,gd.up,gd.len,I,J,fun aq=>absurd aq (by lia),fun _ o ho=>?_⟩));cases o with
 |none=>exact absurd (Far.uniq far (show Far Az goM l m none from ho)) (by simp)
 |some S=>
  have eS:apart h (Cu q) l m / 4=S.length:=by
   have:=Far.uniq far ho.2
   simpa using this
  refine A0 6 Hd.nd (AW FW (hr.mono (by lia)) (AB (AA 1 rfl) (AB (AA 3 rfl) (AB (AA 4 rfl) AE))) ⟨q,l,m,h,rfl,pl,fF,I,J,?_⟩);refine AO (PX.cast (d':=.bl true) (B8 (q:=true) (HP (T:="list") (T':="list") mi ja (AA 5 rfl)) fun _=>B8 (p:=true) (q:=true) ?_ fun _=>EG (PX.cast (d':=.bl true) (JF (DB (j:=(S.length:Nat)) (AA 6 rfl) ?_)) (by rw[eS];simp))) rfl) hR
  ·exact AW qj (hr.mono (by lia)) (AB (AA 6 rfl) AE) ⟨_,rfl,rfl,rfl⟩
  ·exact Bg (n:=S.length) rfl ml (AA 5 rfl) (by simp[Zx,Jk])
end
end TF
namespace TF
open PySem PySem.Spec L2
open PyProof.Rows hiding St RelV
section
variable {P:Program}{w:World}{K:PySem.W.Frag}{mg:Str->Option Value}{base:Heap}{f:Addr}{fd:FuncData}
theorem ON(F:Fun K "_law_cell" "_law_cell" LI f fd)(ml:mg "len"=none):FnOk P w K mg base CX0 1 f fd Dg (Af K NS):=by
 refine BN (k:=0) F Nz (fun A1 A outer s H E ds G R hr h=>?_);obtain⟨ns,k,rfl,hR⟩:=h;refine BO (Ay (Nh (AA 1 rfl) (Bg rfl ml (AA 0 rfl) rfl))) (fun hp=>?_) (fun hp=>?_)
 ·have BC:k<ns.length:=by have:=of_decide_eq_true hp;lia
  refine AO (cE (AA 0 rfl) (AA 1 rfl) (DC (List.getElem?_eq_getElem BC))) ?_;have:CN ns k=ns[k]:=by unfold CN;rw[List.getD_eq_getElem?_getD,List.getElem?_eq_getElem BC];rfl
  rw[<-this];exact hR
 ·refine AJ (AO AG ?_);have Jl:ns.length<=k:=by have:=of_decide_eq_false hp;lia
  have:CN ns k=0:=by unfold CN;rw[List.getD_eq_getElem?_getD,List.getElem?_eq_none Jl];rfl
  rw[this]at hR;exact hR
theorem Ra(F:Fun K "_law_mix" "_law_mix" Ln f fd):FnOk P w K mg base CX0 1 f fd Gm (Af K Ww):=by refine BN (k:=0) F Qu (fun A1 A outer s H E ds G R hr h=>?_);obtain⟨c,p,m,rfl,hp,hm,hR⟩:=h;exact AO (Ie (Ie (Q6 (AA 0 rfl) AG (.inr (by decide))) (AA 1 rfl) hp) (AA 2 rfl) hm) hR
theorem GJ{X:Cx}{ρ:Rho}{G:Gs}{pos p:Pos}{ns:List Int}{a b:Expr}{k:Nat}(FL:Df X.prog X.w X.K X.mg X.base "_law_cell" Dg 1 NS)(hr:Room 1 X.A)(ha:PX X ρ G a (.scr ns))(hb:PX X ρ G b (.int (k:Nat)))(hg:Gl X "_law_cell":=by rfl)(he:starEach (a::[b]) X.env=(false,eval a X.env)::starEach [b] X.env:=by rfl)(he2:starEach [b] X.env=(false,eval b X.env)::starEach [] X.env:=by rfl)(hpl:(backTo pos (starEach [b] X.env)).any (·.1)=false:=by rfl):PX X ρ G (.Call (.Name "_law_cell" p) [a,b] [] pos) (.int (CN ns k)):=AW FL hr (AB ha (AB hb AE he2) he) ⟨ns,k,rfl,rfl,rfl⟩ hg (by decide) he hpl
theorem DA{X:Cx}{ρ:Rho}{G:Gs}{pos p:Pos}{a b c:Expr}{x y:Int}{m n:Nat}(FM:Df X.prog X.w X.K X.mg X.base "_law_mix" Gm 1 Ww)(hr:Room 1 X.A)(ha:PX X ρ G a (.int x))(hb:PX X ρ G b (.int y))(hc:PX X ρ G c (.int (m:Nat)))(hy:0<y)(hm:0<m)(hv:Uo x y m=(n:Nat))(hg:Gl X "_law_mix":=by rfl)(he:starEach [a,b,c] X.env=(false,eval a X.env)::starEach [b,c] X.env:=by rfl)(he2:starEach [b,c] X.env=(false,eval b X.env)::starEach [c] X.env:=by rfl)(qL:starEach [c] X.env=(false,eval c X.env)::starEach [] X.env:=by rfl)(hpl:(backTo pos (starEach [b,c] X.env)).any (·.1)=false:=by rfl):PX X ρ G (.Call (.Name "_law_mix" p) [a,b,c] [] pos) (.int (n:Nat)):=AW FM hr (AB ha (AB hb (AB hc AE qL) he2) he) ⟨x,y,m,rfl,hy,by lia,by rw[hv];exact⟨rfl,rfl⟩⟩ hg (by decide) he hpl
theorem M6(F:Fun K "_law_floor" "_law_floor" Cq f fd)(ml:mg "len"=none)(mr:mg "range"=none)(mt:mg "tuple"=none)(mx:mg "max"=none)(mn:mg "min"=none)(FL:Df P w K mg base "_law_cell" Dg 1 NS)(FM:Df P w K mg base "_law_mix" Gm 1 Ww):FnOk P w K mg base CX0 2 f fd Fp (Af K SQ):=by
 refine BN (k:=1) F Ac (fun A1 A outer s H E ds G R hr h=>?_);obtain⟨ns,k,rfl,hR⟩:=h;have hu:(A.deeper (envOfC "_law_floor" (AF Cq) s.heap.objs.size f A1)).units+9<cLine:=by have:=hr.units;lia
 obtain⟨r0,r0l,qX⟩:=C7 (CN ns k) 9973 4 (by decide);obtain⟨w0,rK,oj⟩:=C7 (CN ns k) 9967 5 (by decide);obtain⟨b0,rB,nZ⟩:=C7 (CN ns k) 9901 8 (by decide);obtain⟨q0,qt,oy⟩:=C7 (CN ns k) 9887 4 (by decide);refine AQ 2 Ac.nd (GJ FL hr (AA 0 rfl) (AA 1 rfl)) ?_;refine AQ 3 Ac.nd (PX.cast (d':=.int ((1+r0:Nat):Int)) (Ag AG (DA (m:=4) FM hr (AA 2 rfl) AG AG (by decide) (by decide) qX)) rfl) ?_;refine AQ 4 Ac.nd (PX.cast (d':=.int ((1+w0:Nat):Int)) (Ag AG (DA (m:=5) FM hr (AA 2 rfl) AG AG (by decide) (by decide) oj)) rfl) ?_;refine IW (fun ρ' G'=>G=G'/\∃r wd:Nat,Mo r wd/\ρ'=[some (.scr ns),some (.int k),some (.int (CN ns k)),some (.int (r:Nat)),some (.int (wd:Nat)),none,none,none,none,none,none,none,none,none])
  (Ay (DB (DA (m:=8) FM hr (AA 2 rfl) AG AG (by decide) (by decide) nZ) AG)) (fun hp=>?_) (fun hp=>?_) (fun ρ' G' hM=>?_)
 ·obtain⟨r1,o6,cN⟩:∃r1:Nat,atI [Dat.int 2,.int 3,.int 8,.int 6] ((q0:Nat):Int)=some (.int (r1:Nat))/\0<r1/\Mo r1 (24 / r1):=by
   have:q0=0\/q0=1\/q0=2\/q0=3:=by lia
   rcases this with rfl|rfl|rfl|rfl
   ·exact⟨2,rfl,by decide,.inr (.inl ⟨rfl,rfl⟩)⟩
   ·exact⟨3,rfl,by decide,.inr (.inr (.inl ⟨rfl,rfl⟩))⟩
   ·exact⟨8,rfl,by decide,.inr (.inr (.inr (.inl ⟨rfl,rfl⟩)))⟩
   ·exact⟨6,rfl,by decide,.inr (.inr (.inr (.inr ⟨rfl,rfl⟩)))⟩
  refine AQ 3 Ac.nd (EE (Cb (AB AG (AB AG (AB AG (AB AG AE))))) (DA (m:=4) FM hr (AA 2 rfl) AG AG (by decide) (by decide) oy) o6) ?_;have hb:r1<=8:=by rcases cN.2 with h|h|h|h|h<;>lia
  refine AQ 4 Ac.nd (PX.cast (d':=.int ((24 / r1:Nat):Int)) (Ms AG (AA 3 rfl) ⟨by lia,by lia⟩) rfl) (AJ ⟨rfl,r1,24 / r1,cN.2,rfl⟩)
 ·exact AJ ⟨rfl,1+r0,1+w0,.inl ⟨by lia,by lia,by lia,by lia⟩,rfl⟩
 obtain⟨rfl,r,wd,fK,rfl⟩:=hM;have rO:r<=8/\1<=r:=by rcases fK with h|h|h|h|h<;>lia
 have qO:wd<=12/\1<=wd:=by rcases fK with h|h|h|h|h<;>lia
 obtain⟨hmul,Mf⟩:=T3 fK;obtain⟨dn,rD,oI⟩:=C7 (CN ns (k+1)) 9949 (9-r) (by lia);obtain⟨rt,rE,pD⟩:=C7 (CN ns (k+1)) 9941 (max 1 (9-wd)) (by lia);have nr:rt+min wd 8<=8:=by lia
 refine AQ 5 Ac.nd (DA (m:=9-r) FM hr (GJ (k:=k+1) FL hr (AA 0 rfl) (PX.cast (Ag (AA 1 rfl) AG) rfl)) AG (PX.cast (BD AG (AA 3 rfl)) (by congr 1;lia)) (by decide) (by lia) oI) ?_;refine AQ 6 Ac.nd (DA (m:=max 1 (9-wd)) FM hr (GJ (k:=k+1) FL hr (AA 0 rfl) (PX.cast (Ag (AA 1 rfl) AG) rfl)) AG (PX.cast (Zc rfl mx AG (BD AG (AA 4 rfl))) (by congr 1;lia)) (by decide) (by lia) pD) ?_;refine AQ 7 Ac.nd (Cb AE) ?_;refine Bc (l:=BI 0 r) (fun i ρ' G'=>G=G'/\i<=r/\∃x,ρ'=[some (.scr ns),some (.int k),some (.int (CN ns k)),some (.int (r:Nat)),some (.int (wd:Nat)),some (.int (dn:Nat)),some (.int (rt:Nat)),some (.lst ((K2 i (min wd 8) dn rt).map sq)),x,none,none,none,none,none]) PassesOwn.never rfl
  (Gn rfl mr (AA 3 rfl) (by lia) (by lia) ⟨by rw[Int.toNat_natCast],rfl,Nat.zero_le _,none,rfl⟩) (Ae 8 Ac.nd) ?_ ?_
 ·rintro i dd ρ' G' hd ⟨rfl,hi,x,rfl⟩;obtain⟨BC,rfl⟩:=Ci hd;refine⟨_,rfl,?_⟩;refine AQ 7 Ac.nd (K5 (AA 7 rfl) (ID (Nc:=HC) (caps:=Lg) (l:=BI 0 (min wd 8)) (f:=CP 0) (fun x=>match x with|.int j=>sq ((dn:Int)+(0+(i:Nat)),(rt:Int)+j)|_=>.non)
   (B4 (psc:=AF Cq) (PN:=GU) (by decide +kernel) rfl rfl) rfl (Gn rfl mr (PX.cast (d':=.int ((min wd 8:Nat):Int)) (Xw rfl mn (AA 4 rfl) AG) (by congr 1;lia)) (by lia) (by lia) ⟨by rw[Int.toNat_natCast],rfl⟩)
   (fun C s' H' fp=>Ae 0 (show HC.Nodup by decide +kernel)) (BK rfl) (by rw[CJ];lia) ?_) ?_) (AJ ⟨rfl,BC,some (.int (0+(i:Nat))),?_⟩)
  ·intro C s' H' fp G' x hx _;obtain⟨j,_,rfl⟩:=RA hx;exact⟨_,rfl,AL (AB (Ag (AA 1 rfl) (AA 2 rfl)) (AB (Ag (AA 3 rfl) (AA 0 rfl)) AE))⟩
  ·rw[List.length_map,List.length_map,J4,CJ];have:i*min wd 8<=8*8:=Nat.mul_le_mul (by lia) (by lia);exact sz (by lia)
  ·refine congrArg (fun z=>[some (.scr ns),some (.int k),some (.int (CN ns k)),some (.int (r:Nat)),some (.int (wd:Nat)),some (.int (dn:Nat)),some (.int (rt:Nat)),some (Dat.lst z),some (.int (0+(i:Nat))),none,none,none,none,none]) ?_;rw[Lm,List.map_append];congr 1;unfold BI;rw[List.map_map,List.map_map];refine List.map_congr_left fun j _=>?_;simp[Function.comp,sq]
 rintro ρ' G' ⟨rfl,_,x,rfl⟩;rw[CJ];generalize hL:K2 r (min wd 8) dn rt=L;have j5:L.length=r*min wd 8:=by rw[<-hL,J4]
 have gd:∀F:List Sq,F.Sublist L->F≠[]->Good F:=fun F h1 h2=>XS (r:=r) (w:=min wd 8) (d:=dn) (e:=rt) hmul (by lia) nr (by rw[hL];exact h1) h2;have pl:∀l:List Sq,l.length<=6->(l.map sq).all (AI 8)=true:=fun l _=>DG l 7;refine CY 9 Ac.nd AE (fun p hG=>?_);obtain⟨nk,q9,ng⟩:=C7 (CN ns (k+2)) 9931 4 (by decide);refine Bc (l:=BI 0 nk) (fun i ρ' QC=>∃(gone:List Sq)(y1 y2 y3:Option Dat),gone.length<=2*i/\QC=put G p (.lst (gone.map sq))/\ρ'=[some (.scr ns),some (.int k),some (.int (CN ns k)),some (.int (r:Nat)),some (.int (wd:Nat)),some (.int (dn:Nat)),some (.int (rt:Nat)),some (.lst (L.map sq)),x,some (.fn p),y1,y2,y3,none]) PassesOwn.never rfl
  (Gn rfl mr (DA (m:=4) FM hr (GJ (k:=k+2) FL hr (AA 0 rfl) (PX.cast (Ag (AA 1 rfl) AG) rfl)) AG AG (by decide) (by decide) ng) (by lia) (by lia) ⟨by rw[Int.toNat_natCast],[],none,none,none,Nat.le_refl _,rfl,rfl⟩) (Ae 10 Ac.nd) ?_ ?_
 ·rintro i dd ρ' QC hd ⟨gone,y1,y2,y3,kI,rfl,rfl⟩;obtain⟨BC,rfl⟩:=Ci hd;refine⟨_,rfl,?_⟩;generalize hseed:CN ns (k+3+i)+17*(0+(i:Int))*(0+(i:Int))=seed;refine AQ 11 Ac.nd (PX.cast (d':=.int seed) (Ag (GJ (k:=k+3+i) FL hr (AA 0 rfl) (PX.cast (Ag (Ag (AA 1 rfl) AG) (AA 10 rfl)) (by congr 1;lia))) (Q6 (Q6 AG (AA 10 rfl) (.inl (by decide))) (AA 10 rfl) (.inr (by constructor<;>lia)))) (by rw[hseed])) ?_;obtain⟨ix,rG,nV⟩:=C7 seed 9929 (r*min wd 8) Mf;obtain⟨c3,rL,nq⟩:=C7 seed 9923 3 (by decide);have el:ix<L.length:=by lia
  refine AQ 12 Ac.nd (EE (AA 7 rfl) (DA (m:=r*min wd 8) FM hr (AA 11 rfl) AG (PX.cast (Bg rfl ml (AA 7 rfl) rfl) (by rw[List.length_map,j5])) (by decide) Mf nV) (Dr sq (DC (List.getElem?_eq_getElem el)))) ?_;refine A9 (AA 9 rfl) (AA 12 rfl) AH (by rw[List.length_map];exact sz1 (by lia)) ?_;rw[Ao];refine BO (Ay (J5 (DA (m:=3) FM hr (AA 11 rfl) AG AG (by decide) (by decide) nq) AG)) (fun hp=>?_) (fun hp=>AJ (AJ ?_))
  ·refine A9 (d:=sq (L[ix].1,L[ix].2+1)) (AA 9 rfl) (AL (AB (Am (AA 12 rfl) AG rfl) (AB (Ag (Am (AA 12 rfl) AG rfl) AG) AE))) AH (by rw[List.length_append,List.length_map];exact sz1 (by simp;lia)) (AJ (AJ ?_));rw[Ao];refine⟨gone++[L[ix],(L[ix].1,L[ix].2+1)],_,_,_,by simp;lia,?_,rfl⟩;simp
  ·refine⟨gone++[L[ix]],_,_,_,by simp;lia,?_,rfl⟩;simp
 rintro ρ' QC ⟨gone,y1,y2,y3,kI,rfl,rfl⟩;rw[CJ]at kI;refine AQ 13 Ac.nd (PX.cast (d':=fl (L.filter fun q=>!gone.contains q)) (Ef rfl mt Boot.«tuple» (GY (Nc:=G8) (caps:=LX) (l:=L.map sq) (f:=CP 0) (fun d=>!((gone.map sq).any fun e=>eqD e d)) id
  (B4 (psc:=AF Cq) (PN:=GU) (by decide +kernel) rfl rfl) rfl (Nl (AA 7 rfl) ⟨rfl,rfl⟩)
   (fun C s' H' fp=>Ae 0 (show G8.Nodup by decide +kernel)) (BK rfl) (by rw[List.length_map];lia) ?_)) ?_) ?_
 ·intro C s' H' fp G2 d hd kn;obtain⟨q,_,rfl⟩:=List.mem_map.mp hd;exact⟨_,rfl,Ay (A7 hu (AA 0 rfl) (AA 1 rfl) (.inr (.inr ⟨p,rfl,kn _ _ AH⟩)) (Ah q 7) (pl gone (by lia))),fun _=>AA 0 rfl⟩
 ·rw[K3];unfold fl;congr 3;funext q;rw[A4]
 generalize hF:(L.filter fun q=>!gone.contains q)=F;have HV:F.Sublist L:=by rw[<-hF];exact List.filter_sublist
 refine BO (Iq (AA 13 rfl) rfl) (fun hp=>?_) (fun hp=>AJ ?_)
 ·refine Bx (CK (PX.we (AA 13 rfl) ⟨p,?_⟩));rw[A5 hG];refine hR F (gd F HV ?_);rintro rfl;simp at hp
 ·refine Bx (CK (PX.we (Ef rfl mt Boot.«tuple» (AA 7 rfl)) ⟨p,?_⟩));rw[A5 hG];refine hR L (gd L (List.Sublist.refl _) ?_);rintro rfl;simp at j5;lia
end
end TF
namespace TF
open PySem PySem.Spec L2
open PyProof.Rows hiding St RelV
section
variable {P:Program}{w:World}{K:PySem.W.Frag}{mg:Str->Option Value}{base:Heap}{f:Addr}{fd:FuncData}
theorem P1(F:Fun K "_law_near" "_law_near" Ew f fd):FnOk P w K mg base CX0 1 f fd Eo (Af K QW):=by
 refine BN (k:=0) F Jb (fun A1 A outer s H E ds G R hr h=>?_);obtain⟨q,x,rfl,hR⟩:=h;have hu:(A.deeper (envOfC "_law_near" (AF Ew) s.heap.objs.size f A1)).units+9<cLine:=by have:=hr.units;lia
 refine QN (f:=Fx 2 3) (Dj 2 3 rfl Jb.nd) (AA 1 rfl) rfl ?_;refine AO (GY (Nc:=Hz) (caps:=NV) (l:=(nbM x).map sq) (f:=CP 0) (fun d=>(q.map sq).any fun e=>eqD e d) id
  (B4 (psc:=AF Ew) (PN:=KJ) (by decide +kernel) rfl rfl) rfl
  (Nl (Cb (AB (AL (AB (BD (AA 2 rfl) AG) (AB (AA 3 rfl) AE))) (AB (AL (AB (AA 2 rfl) (AB (BD (AA 3 rfl) AG) AE)))
   (AB (AL (AB (AA 2 rfl) (AB (Ag (AA 3 rfl) AG) AE))) (AB (AL (AB (Ag (AA 2 rfl) AG) (AB (AA 3 rfl) AE))) AE))))) ⟨rfl,rfl⟩)
  (fun C s' H' fp=>Ae 0 (show Hz.Nodup by decide +kernel)) (BK rfl) (show 4<=5000 by decide) ?_) ?_
 ·intro C s' H' fp G2 d hd kn;obtain⟨y,_,rfl⟩:=List.mem_map.mp hd;exact⟨_,rfl,Ay (Hn hu (AA 0 rfl) (AA 1 rfl) (.inl rfl) (BF y) (A3 q)),fun _=>AA 0 rfl⟩
 ·rw[K3];have:(fun y=>(q.map sq).any fun e=>eqD e (sq y))=q.contains:=funext fun y=>A4 q y;rw[this];exact hR
end
end TF
namespace TF
open PySem PySem.Spec L2
open PyProof.Rows hiding St RelV
section
variable {P:Program}{w:World}{K:PySem.W.Frag}{mg:Str->Option Value}{base:Heap}{f:Addr}{fd:FuncData}
theorem Hl(n:Nat)(F:Fun K "_law_every" "_law_every" Cs f fd)(mt:mg "tuple"=none)(FN:Df P w K mg base "_law_near" Eo 1 QW)(ih:∀m,n=m+1->Df P w K mg base "_law_every" Bv (m+2) (Ju m)):FnOk P w K mg base CX0 (n+2) f fd Bv (Af K (Ju n)):=by
 refine BN (k:=n+1) F B5 (fun A1 A outer s H E ds G R hr h=>?_);obtain⟨q,kp,AV,rfl,up,hl,hn,hG,hV,hz,hR⟩:=h;have hu:(A.deeper (envOfC "_law_every" (AF Cs) s.heap.objs.size f A1)).units+9<cLine:=by have:=hr.units;lia
 refine BO (CO (Iq (p:=!q.isEmpty) (AA 0 rfl) (by cases q<;>rfl))) (fun hp=>?_) (fun hp=>AJ ?_)
 ·have hq:q=[]:=by cases q with|nil=>rfl|cons _ _=>simp at hp
  subst hq;refine AO (Cb (AB (Cb AE) AE)) ?_
  have:=hR AV hV (by have:0<2 ^ n:=Nat.pow_pos (by decide);lia)
  rw[EZ hG]at this;exact this
 have Bk:q≠[]:=by rintro rfl;simp at hp
 have nW:0<q.length:=List.length_pos_iff.mpr Bk;obtain⟨m,rfl⟩:∃m,n=m+1:=⟨n-1,by lia⟩;have W:=ih m rfl;have kH:0<2 ^ m:=Nat.pow_pos (by decide);have fo:2 ^ (m+1)=2 ^ m+2 ^ m:=by rw[Nat.pow_succ];lia
 refine IW (fun ρ' G'=>(∃x2 x3 x4 x5,ρ'=[some (fl q),some (.fn kp),x2,x3,x4,x5])/\∃BS,G'=put G kp (.dct BS)/\ValidE BS/\BS.length+1<=AV.length+2 ^ (m+1)/\Ab BS (fl q)=some (IJ (BG q)))
  (Ay (Bw hu (AA 0 rfl) (AA 1 rfl) hG (Qf q) ⟨_,rfl⟩)) (fun Jv=>?_) (fun Jv=>?_) (fun ρ' G' hM=>?_)
 ·refine AQ 2 B5.nd (Cb AE) ?_;refine AQ 3 B5.nd (Am (AA 0 rfl) (Ey AG) (Yw Bk)) ?_;have two:=PM up;refine Bc (l:=(Cr q (AU q)).map sq) (f:=CP 4) (fun i ρ' G'=>(∃x4 x5,ρ'=[some (fl q),some (.fn kp),some (IJ (((Cr q (AU q)).take i).flatMap fun o=>(BG (Ce q (AU q) o)).map (·++[(o,AU q)]))),some (sq (AU q)),x4,x5])/\∃BS,G'=put G kp (.dct BS)/\ValidE BS/\BS.length<=AV.length+i*(2 ^ m-1)) PassesOwn.never rfl
   (By (AW FN (hr.mono (by lia)) (AB (AA 0 rfl) (AB (AA 3 rfl) AE)) ⟨q,AU q,rfl,_,rfl,rfl,⟨none,none,rfl⟩,AV,(EZ hG).symm,hV,by simp⟩)) (Ae 4 B5.nd) ?_ ?_
  ·rintro i dd ρ' G' hd ⟨⟨x4,x5,rfl⟩,Mm,rfl,ao,aN⟩;rw[List.getElem?_map]at hd;obtain⟨o,Np,rfl⟩:=Option.map_eq_some_iff.mp hd;have dR:i<(Cr q (AU q)).length:=(List.getElem?_eq_some_iff.mp Np).1;have ho:o∈Cr q (AU q):=List.mem_of_getElem? Np;have Qo:=DK up Bk ho;have jH:i*(2 ^ m-1)<=2 ^ m-1:=by
    have:i=0\/i=1:=by lia
    rcases this with rfl|rfl<;>lia
   refine⟨_,rfl,?_⟩;refine AQ 5 B5.nd (PX.cast (d':=fl (Ce q (AU q) o)) (Ef rfl mt Boot.«tuple» (GY (Nc:=HG) (caps:=La) (l:=q.map sq) (f:=CP 0) (fun d=>!(eqD d (sq (AU q)))&&!(eqD d (sq o))) id
    (B4 (psc:=AF Cs) (PN:=Fu) (by decide +kernel) rfl rfl) rfl (Es (AA 0 rfl) ⟨rfl,rfl⟩)
     (fun C s' H' fp=>Ae 0 (show HG.Nodup by decide +kernel)) (BK rfl) (by rw[List.length_map];lia) ?_)) ?_) ?_
   ·intro C s' H' fp G2 d hd kn;obtain⟨y,_,rfl⟩:=List.mem_map.mp hd;exact⟨_,rfl,(Cm (Ay (SN hu (AA 0 rfl) (AA 1 rfl) rfl (Ah y 8) (Ah _ 8))) fun _=>DM (Ay (SN hu (AA 0 rfl) (AA 2 rfl) rfl (Ah y 8) (Ah _ 8)))).t,fun _=>AA 0 rfl⟩
   ·rw[K3];unfold fl Ce;congr 3;funext y;rw[Kc,Kc]
   have jz:=fun r hr=>Ni (EN _ (Nat.le_refl _) (Ep up (AU q) o) r hr);have fO:=Ib m (F:=Ce q (AU q) o) (by lia) (Ep up _ _);have ie:2 ^ m<=2 ^ 11:=Nat.pow_le_pow_right (by decide) (by lia);have nT:(2:Nat) ^ 11=2048:=by decide
   have eP:(((Cr q (AU q)).take i).flatMap fun o=>(BG (Ce q (AU q) o)).map (·++[(o,AU q)])).length<=2048:=by
    have:i=0\/i=1:=by lia
    rcases this with rfl|rfl
    ·simp
    ·obtain⟨a,t,e⟩:∃a t,Cr q (AU q)=a::t:=List.exists_cons_of_ne_nil (List.ne_nil_of_mem ho);have ha:a∈Cr q (AU q):=by rw[e];exact List.mem_cons_self ..
     have aK:=DK up Bk ha
     have:=Ib m (F:=Ce q (AU q) a) (by lia) (Ep up _ _)
     rw[e];simp;lia
   refine A0 2 B5.nd (Yo (AA 2 rfl) (P4 (Nc:=HF) (caps:=Ld) (l:=(BG (Ce q (AU q) o)).map Od) (f:=CP 0) (fun d=>match d with|.lst l=>.lst (l++[AY (o,AU q)])|_=>.non)
    (fun G'=>∃BS,G'=put G kp (.dct BS)/\ValidE BS/\BS.length<=AV.length+(i+1)*(2 ^ m-1))
    (B4 (psc:=AF Cs) (PN:=Fu) (by decide +kernel) rfl rfl) rfl
    (By (AW W (hr.mono (by lia)) (AB (AA 5 rfl) (AB (AA 1 rfl) AE)) ⟨Ce q (AU q) o,kp,Mm,rfl,Ep up _ _,by lia,by lia,AH,ao,by lia,fun T7 gr aK=>⟨_,rfl,rfl,T7,Ao,gr,?_⟩⟩))
    (fun C s' H' fp=>Ae 0 (show HF.Nodup by decide +kernel)) (BK rfl) (by rw[List.length_map];exact sz1 (by lia)) ?_ ?_))
   ·have:(i+1)*(2 ^ m-1)=i*(2 ^ m-1)+(2 ^ m-1):=by rw[Nat.add_mul];lia
    lia
   ·intro C s' H' fp G2 d hd;obtain⟨r,mU,rfl⟩:=List.mem_map.mp hd
    have:=jz r mU
    exact⟨_,rfl,K5 (AA 0 rfl) (Cb (AB (AL (AB (AA 2 rfl) (AB (AA 1 rfl) AE))) AE)) (by rw[List.length_map];exact sz (by simp;lia))⟩
   ·rintro G2 ⟨T7,rfl,gr,aK⟩;refine⟨_,rfl,?_,AJ ⟨⟨some (sq o),some (fl (Ce q (AU q) o)),?_⟩,T7,rfl,gr,aK⟩⟩
    ·rw[List.length_map,List.length_map,List.length_map];refine sz (Nat.le_trans (Nat.add_le_add eP (Nat.le_trans fO ie)) (by decide))
    ·refine congrArg (fun z=>[some (fl q),some (.fn kp),some z,some (sq (AU q)),some (sq o),some (fl (Ce q (AU q) o))]) ?_;rw[List.take_add_one,Np,List.flatMap_append];unfold IJ;simp only[Option.toList_some,List.flatMap_cons,List.flatMap_nil,List.append_nil,List.map_append,List.map_map,Dat.lst.injEq];congr 1;refine List.map_congr_left fun r _=>?_;simp[Function.comp,Od]
  ·rintro ρ' G' ⟨⟨x4,x5,rfl⟩,Mm,rfl,ao,aN⟩;rw[List.length_map,List.take_length,<-EW Bk]at *;have Qo:Mm.length<=AV.length+2*(2 ^ m-1):=Nat.le_trans aN (Nat.add_le_add_left (Nat.mul_le_mul_right _ two) _);refine Eb (k:=fl q) (d:=IJ (BG q)) hu (AA 2 rfl) (AA 1 rfl) (AA 0 rfl) AH (Qf q) ⟨_,rfl⟩ (sz1 (by have:(2:Nat) ^ 12=4096:=rfl;lia)) (AJ ⟨⟨_,_,_,_,rfl⟩,?_⟩);rw[Ao];exact⟨_,rfl,ao.put q,by have:=Dp Mm (fl q) (IJ (BG q));lia,RY _ _ _⟩
 ·refine AJ ⟨⟨_,_,_,_,rfl⟩,AV,(EZ hG).symm,hV,by lia,?_⟩;have hs:(Ab AV (fl q)).isSome=true:=by
   cases e:(Ab AV (fl q)).isSome with
   |true=>rfl
   |false=>
    have Hh:(!(Ab AV (fl q)).isSome)=false:=Jv;rw[e]at Hh;cases Hh
  obtain⟨d,hd⟩:=Option.isSome_iff_exists.mp hs;rw[hd,hV.look hd]
 ·obtain⟨⟨x2,x3,x4,x5,rfl⟩,BS,rfl,km,TX,look⟩:=hM;exact AO (IA (k:=fl q) hu (AA 1 rfl) (AA 0 rfl) AH (Qf q) ⟨_,rfl⟩ look) (hR BS km TX)
theorem QS(F:Fun K "_law_all" "_law_all" Gd f fd)(mt:mg "tuple"=none)(ms:mg "sorted"=none)(W:Df P w K mg base "_law_every" Bv 14 (Ju 12)):FnOk P w K mg base CX0 15 f fd JJ (Af K aT):=by
 refine BN (k:=14) F Q0 (fun A1 A outer s H E ds G R hr h=>?_);obtain⟨q,rfl,Bk,up,hl,hR⟩:=h;have hu:(A.deeper (envOfC "_law_all" (AF Gd) s.heap.objs.size f A1)).units+20<cLine:=by have:=hr.units;lia
 have ez:=Ib 12 (F:=q) (by lia) up;have nH:(2:Nat) ^ 12=4096:=by decide
 have V0:ValidE []:=fun _ h=>nomatch h;refine AO (Hb Jf ((BG q).map TSt.sort) (d1:=.lst (((BG q).map TSt.sort).map lay)) hu ms (CK (P4 (Nc:=JV) (caps:=OY) (l:=(BG q).map Od) (f:=CP 0) (via Od fun r=>lay (TSt.sort r))
  (fun G'=>∃p AV,G p=none/\G'=put G p (.dct AV)) (B4 (psc:=AF Gd) (PN:=MR) (by decide +kernel) rfl rfl) rfl
  (By (U0 W hr (Gg (PX.we (AA 0 rfl) (Gg (Rl fun p hp=>XW ⟨q,p,[],rfl,up,by lia,by lia,AH,V0,by decide,fun BS _ _=>⟨_,rfl,rfl,p,BS,hp,Ao⟩⟩))))))
  (fun C s' H' fp=>Ae 0 (show JV.Nodup by decide +kernel)) (BK rfl) (by rw[List.length_map];exact sz1 (by lia)) ?_ ?_)) (.inl rfl) ?_) ?_
 ·intro C s' H' fp G2 d hd;obtain⟨r,mU,rfl⟩:=List.mem_map.mp hd;refine⟨_,rfl,?_⟩;rw[GV O9];exact Ef rfl mt Boot.«tuple» (Hb TSt r hu ms (AA 0 rfl) (.inl rfl) (.inr fun x _=>⟨_,_,rfl⟩))
 ·rintro G' ⟨p,AV,hp,rfl⟩;refine⟨p,?_,?_⟩
  ·rw[Xv O9,List.map_map];rfl
  ·rw[A5 hp]
 ·refine .inr fun x hx=>?_;obtain⟨r,hr,rfl⟩:=List.mem_map.mp hx;have C:=(EN _ (Nat.le_refl _) up r hr).lay (HA up);have hc:=Ni C.toCov;have nW:0<q.length:=List.length_pos_iff.mpr Bk;obtain⟨a,t,e⟩:∃a t,TSt.sort r=a::t:=List.exists_cons_of_ne_nil (by intro h0;rw[h0]at hc;simp at hc;lia);rw[e];exact⟨_,_,rfl⟩
 ·exact hR
end
end TF
namespace TF
open PySem PySem.Spec L2
open PyProof.Rows hiding St RelV
section
variable {P:Program}{w:World}{K:PySem.W.Frag}{mg:Str->Option Value}{base:Heap}{f:Addr}{fd:FuncData}
theorem XO(F:Fun K "steps" "steps" M8 f fd):FnOk P w K mg base CX0 1 f fd ["floor","at","taken"] (Af K R7):=by
 refine BN (k:=0) F GS (fun A1 A outer s H E ds G R hr h=>?_);obtain⟨floor,k,q,taken,rfl,hq,h1,h2,hR⟩:=h;have hu:(A.deeper (envOfC "steps" (AF M8) s.heap.objs.size f A1)).units+9<cLine:=by have:=hr.units;lia
 refine AQ 3 GS.nd (Am (AA 0 rfl) (AA 1 rfl) (Dr sq (DC hq))) ?_;refine BO (Ay (Qa hu (AA 3 rfl) (AA 2 rfl) (.inl rfl) (Ah _ _) (DG _ _))) (fun hp=>?_) (fun hp=>?_)
 ·rw[A4]at hp;refine AO (Cb (AB (AL (AB (AL AE) (AB (Iy (ol:=some 1) (oh:=none) (AA 2 rfl) AG trivial) AE))) AE)) ?_;rw[gq,<-List.map_drop];have e:BE floor q taken=[([],taken.drop 1)]:=by unfold BE;rw[if_pos hp]
  rw[e]at hR;exact hR
 ·rw[A4]at hp;refine AJ ?_;refine AQ 4 GS.nd (AL (AB (Am (AA 3 rfl) AG rfl) (AB (Ag (Am (AA 3 rfl) AG rfl) AG) AE))) ?_;refine AQ 5 GS.nd (AL (AB (Ag (Am (AA 3 rfl) AG rfl) AG) (AB (Am (AA 3 rfl) AG rfl) AE))) ?_;refine CY 6 GS.nd AE (fun p hG=>?_);refine SR (fun G'=>G'=put G p (.lst ((if (floor.contains (q.1,q.2+1)&&!taken.contains (q.1,q.2+1))=true then[([(q,(q.1,q.2+1))],(q.1,q.2+1)::taken)]else[]).map Oe)))
   (Cm (Ay (Qa hu (AA 4 rfl) (AA 0 rfl) (.inl rfl) (Ah (q.1,q.2+1) _) (DG _ _))) (fun _=>DM (Ay (Ul hu (AA 4 rfl) (AA 2 rfl) (.inl rfl) (Ah (q.1,q.2+1) _) (DG _ _))))).t
   (fun Jv=>?_) (fun Jv=>?_) (fun G' ij=>?_)
  ·have Mh:(floor.contains (q.1,q.2+1)&&!taken.contains (q.1,q.2+1))=true:=by
    have e1:=A4 floor (q.1,q.2+1);have e2:=A4 taken (q.1,q.2+1);rw[<-e1,<-e2];exact Jv
   refine A9 (AA 6 rfl) (AL (AB (AL (AB (AL (AB (AA 3 rfl) (AB (AA 4 rfl) AE))) AE)) (AB (Rq (AL (AB (AA 4 rfl) AE)) (AA 2 rfl) ?_) AE))) AH (by decide) (AJ ⟨rfl,?_⟩)
   ·rw[List.length_map];exact sz (by simp;lia)
   ·rw[if_pos Mh,Ao];rfl
  ·have Mh:¬(floor.contains (q.1,q.2+1)&&!taken.contains (q.1,q.2+1))=true:=by
    have e1:=A4 floor (q.1,q.2+1);have e2:=A4 taken (q.1,q.2+1);rw[<-e1,<-e2];exact Bool.eq_false_iff.mp Jv
   refine AJ ⟨rfl,?_⟩;rw[if_neg Mh];rfl
  subst ij;refine SR (fun G'=>G'=put G p (.lst ((BE floor q taken).map Oe)))
   (Ay (Qa hu (AA 5 rfl) (AA 0 rfl) (.inl rfl) (Ah (q.1+1,q.2) _) (DG _ _)))
   (fun Jv=>?_) (fun Jv=>?_) (fun G' ij=>?_)
  ·have Mh:floor.contains (q.1+1,q.2)=true:=by rw[<-A4];exact Jv
   refine A9 (AA 6 rfl) (AL (AB (AL (AB (AL (AB (AA 3 rfl) (AB (AA 5 rfl) AE))) AE)) (AB (Rq (AA 2 rfl) (AL (AB (AA 5 rfl) AE)) ?_) AE))) AH ?_ (AJ ⟨rfl,?_⟩)
   ·rw[List.length_map];exact sz (by simp;lia)
   ·split<;>exact sz1 (by simp)
   ·rw[Ao];unfold BE;rw[if_neg (Bool.eq_false_iff.mp hp),if_pos Mh,List.map_append];refine congrArg (fun z=>put G p (.lst (_++[z]))) ?_;simp only[Oe,fl,AY,List.map_cons,List.map_nil,List.map_append,sq]
  ·have Mh:¬floor.contains (q.1+1,q.2)=true:=by rw[<-A4];exact Bool.eq_false_iff.mp Jv
   refine AJ ⟨rfl,?_⟩;unfold BE;rw[if_neg (Bool.eq_false_iff.mp hp),if_neg Mh,List.append_nil]
  subst ij;refine GZ (AA 6 rfl) AH ?_;rw[A5 hG];exact hR
theorem SV(n:Nat)(F:Fun K "ways" "ways" Nj f fd)(ml:mg "len"=none)(ms:mg "sum"=none)(FS:Df P w K mg base "steps" ["floor","at","taken"] 1 R7)(ih:∀m,n=m+1->Df P w K mg base "ways" ["floor","at","taken","known"] (m+2) (Mj m)):FnOk P w K mg base CX0 (n+2) f fd ["floor","at","taken","known"] (Af K (Mj n)):=by
 refine BN (k:=n+1) F R9 (fun A1 A outer s H E ds G R hr h=>?_);obtain⟨floor,k,taken,kp,AV,rfl,hk,ax,ht,hG,hV,hz,hR⟩:=h;have hu:(A.deeper (envOfC "ways" (AF Nj) s.heap.objs.size f A1)).units+9<cLine:=by have:=hr.units;lia
 refine BO (Ay (DB (AA 1 rfl) (Bg rfl ml (AA 0 rfl) rfl))) (fun hp=>?_) (fun hp=>?_)
 ·refine AO AG ?_;have NI:k=floor.length:=by simp at hp;lia
  have:=hR AV hV (by have:0<2 ^ n:=Nat.pow_pos (by decide);lia)
  rw[EZ hG,NI,List.drop_length]at this;exact this
 refine AJ ?_;have BC:k<floor.length:=by simp at hp;lia
 obtain⟨m,rfl⟩:∃m,n=m+1:=⟨n-1,by lia⟩;have W:=ih m rfl;have hq:floor[k]?=some floor[k]:=List.getElem?_eq_getElem BC;have eY:floor.drop k=floor[k]::floor.drop (k+1):=List.drop_eq_getElem_cons BC;have kH:0<2 ^ m:=Nat.pow_pos (by decide);have fo:2 ^ (m+1)=2 ^ m+2 ^ m:=by rw[Nat.pow_succ];lia
 obtain⟨two,grow⟩:=Tj floor floor[k] taken;refine IW (fun ρ' G'=>(∃x,ρ'=[some (fl floor),some (.int k),some (fl taken),some (.fn kp),x])/\∃BS,G'=put G kp (.dct BS)/\Valid floor BS/\BS.length+1<=AV.length+2 ^ (m+1)/\Ab BS (Cp k taken)=some (.int (C4 floor (floor.drop k) taken:Nat)))
  (Ay (Bw hu (AL (AB (AA 1 rfl) (AB (AA 2 rfl) AE))) (AA 3 rfl) hG (Ii k taken) ⟨_,rfl⟩)) (fun Jv=>?_) (fun Jv=>?_) (fun ρ' G' hM=>?_)
 ·refine Fq 4 (fun i Aw G'=>∃BS,G'=put G kp (.dct BS)/\Valid floor BS/\BS.length<=AV.length+i*(2 ^ m-1)/\Aw=((BE floor floor[k] taken).take i).map fun t=>.int (C4 floor (floor.drop (k+1)) t.2:Nat)) R9.nd (GN _ _ _ _ _)
   (Nc:=["stones","rest","at","floor","known"]) (caps:=[none,none,some 1,some 0,some 3]) (l:=(BE floor floor[k] taken).map Oe) (f:=Fx 0 1)
   (B4 (psc:=AF Nj) (PN:=["floor","at","taken","known","further"]) (by decide +kernel) rfl rfl) rfl
   (By (AW FS (hr.mono (by lia)) (AB (AA 0 rfl) (AB (AA 1 rfl) (AB (AA 2 rfl) AE))) ⟨floor,k,floor[k],taken,rfl,hq,by lia,by lia,_,rfl,rfl,AV,(EZ hG).symm,hV,by simp,by simp⟩))
   (fun C s' H' fp=>Dj 0 1 rfl (show(["stones","rest","at","floor","known"]:List Str).Nodup by decide +kernel)) (Kl rfl rfl) (by rw[List.length_map];exact sz (by lia)) ?_ ?_
  ·rintro C s' H' fp Dd i d Aw G' hd ⟨Mm,rfl,ao,aN,rfl⟩ hD;rw[List.getElem?_map]at hd;obtain⟨t,iT,rfl⟩:=Option.map_eq_some_iff.mp hd;have dR:i<(BE floor floor[k] taken).length:=(List.getElem?_eq_some_iff.mp iT).1;have ck:t∈BE floor floor[k] taken:=List.mem_of_getElem? iT;have Bk:kp≠Dd:=by rintro rfl;rw[AH]at hD;cases hD
   have jH:i*(2 ^ m-1)<=2 ^ m-1:=by
    have:i=0\/i=1:=by lia
    rcases this with rfl|rfl<;>lia
   refine⟨_,rfl,DV rfl AH ?_ (AW W (hr.mono (by lia)) (AB (AA 3 rfl) (AB (Ag (AA 2 rfl) AG) (AB (AA 1 rfl) (AB (AA 4 rfl) AE))))
    ⟨floor,k+1,t.2,kp,Mm,rfl,by lia,ax,by have:=grow t ck;lia,by rw[Ad Bk,AH],ao,by lia,fun T7 gr Qo=>?_⟩)⟩
   ·rw[List.length_map,List.length_take];exact sz1 (by lia)
   ·rw[KC (Ne.symm Bk),Ao];refine⟨AH,_,put G kp (.dct T7),?_,?_,Ao,T7,rfl,gr,?_,?_⟩
    ·simp
    ·rw[Ad (Ne.symm Bk)];rw[Ad (Ne.symm Bk)]at hD;exact hD
    ·have:(i+1)*(2 ^ m-1)=i*(2 ^ m-1)+(2 ^ m-1):=by rw[Nat.add_mul];lia
     lia
    ·rw[List.take_add_one,iT];simp
  ·rintro Aw G' ⟨Mm,rfl,ao,aN,rfl⟩;rw[List.length_map,List.take_length]at *;have es:((BE floor floor[k] taken).map fun t=>Dat.int (C4 floor (floor.drop (k+1)) t.2:Nat))=((BE floor floor[k] taken).map fun t=>((C4 floor (floor.drop (k+1)) t.2:Nat):Int)).map Dat.int:=by rw[List.map_map];rfl
   rw[es];have jm:(((BE floor floor[k] taken).map fun t=>((C4 floor (floor.drop (k+1)) t.2:Nat):Int)).sum)=((C4 floor (floor.drop k) taken:Nat):Int):=by
    rw[eY,C4];generalize BE floor floor[k] taken=l
    induction l with
    |nil=>rfl
    |cons t r kN=>simp only[List.map_cons,List.sum_cons,kN];lia
   have Qo:Mm.length<=AV.length+2*(2 ^ m-1):=Nat.le_trans aN (Nat.add_le_add_left (Nat.mul_le_mul_right _ two) _);refine Eb (k:=Cp k taken) hu (Vy rfl ms (AA 4 rfl)) (AA 3 rfl) (AL (AB (AA 1 rfl) (AB (AA 2 rfl) AE))) AH (Ii k taken) ⟨_,rfl⟩ (by rw[show sizeLine=2 ^ 24 from rfl];lia) (AJ ⟨⟨_,rfl⟩,?_⟩);rw[jm,Ao];exact⟨_,rfl,ao.put k taken,by have:=Dp Mm (Cp k taken) (.int (C4 floor (floor.drop k) taken:Nat));lia,RD _ _ _⟩
 ·refine AJ ⟨⟨_,rfl⟩,AV,(EZ hG).symm,hV,by lia,?_⟩;have hs:(Ab AV (Cp k taken)).isSome=true:=by
   cases q:(Ab AV (Cp k taken)).isSome with
   |true=>rfl
   |false=>
    have Hh:(!(Ab AV (Cp k taken)).isSome)=false:=Jv;rw[q]at Hh;cases Hh
  obtain⟨d,hd⟩:=Option.isSome_iff_exists.mp hs;rw[hd,hV.look hd]
 ·obtain⟨⟨x,rfl⟩,BS,rfl,km,TX,look⟩:=hM;exact AO (IA (k:=Cp k taken) hu (AA 3 rfl) (AL (AB (AA 1 rfl) (AB (AA 2 rfl) AE))) AH (Ii k taken) ⟨_,rfl⟩ look) (hR BS km TX)
theorem WD(F:Fun K "count" "count" Rr f fd)(W:∀n,Df P w K mg base "ways" ["floor","at","taken","known"] (n+2) (Mj n)):FnOk P w K mg base CX0 27 f fd ["floor"] (Af K Rp):=by
 refine BN (k:=26) F Xg (fun A1 A outer s H E ds G R hr h=>?_);obtain⟨floor,rfl,ax,hR⟩:=h;refine Bx (CK (U0 (W floor.length) (hr.mono (by lia)) (Gg (PX.we (AA 0 rfl) (Gg (PX.we AG (Gg (PX.we (AL AE) (Gg (Rl fun p hG=>XW ⟨floor,0,[],p,[],rfl,by lia,ax,Nat.le_refl _,AH,fun _ h=>(nomatch h),?_,fun BS _ _=>?_⟩))))))))))
 ·have:2 ^ floor.length<=2 ^ 24:=Nat.pow_le_pow_right (by decide) ax;simp only[List.length_nil];lia
 ·refine⟨p,?_⟩;rw[Ao,A5 hG];exact hR
end
end TF
namespace TF
open PySem PySem.Spec L2
open PyProof.Rows hiding St RelV
section
variable {P:Program}{w:World}{K:PySem.W.Frag}{mg:Str->Option Value}{base:Heap}{f:Addr}{fd:FuncData}
theorem QJ(F:Fun K "ring_at" "ring_at" MT f fd):FnOk P w K mg base CX0 1 f fd Gv (Af K Na):=by
 refine BN (k:=0) F He (fun A1 A outer s H E ds G R hr h=>?_);obtain⟨q,rfl,hR⟩:=h;refine AQ 1 He.nd (Am (AA 0 rfl) AG rfl) ?_;refine AQ 2 He.nd (Am (AA 0 rfl) AG rfl) ?_;refine AO (Cb (AB (AL (AB (AA 1 rfl) (AB (AA 2 rfl) AE))) (AB (AL (AB (AA 1 rfl) (AB (Ag (AA 2 rfl) AG) AE)))
  (AB (AL (AB (Ag (AA 1 rfl) AG) (AB (Ag (AA 2 rfl) AG) AE))) (AB (AL (AB (Ag (AA 1 rfl) AG) (AB (AA 2 rfl) AE))) AE))))) ?_
 exact hR
theorem Jn(F:Fun K "stones_along" "stones_along" Dh f fd)(mr:mg "range"=none)(ml:mg "len"=none)(mi:mg "min"=none)(ma:mg "max"=none):FnOk P w K mg base CX0 1 f fd CS (Af K NU):=by
 refine BN (k:=0) F C3 (fun A1 A outer s H E ds G R hr h=>?_);obtain⟨ring,b,rfl,hb,h1,h2,hR⟩:=h;have hu:(A.deeper (envOfC "stones_along" (AF Dh) s.heap.objs.size f A1)).units+20<cLine:=by have:=hr.units;lia
 refine CY 2 C3.nd AE (fun p hp=>?_);have hn:(((ring.length-b+1) / 2:Nat):Int)=((ring.length:Int)-(b:Int)+1) / 2:=by lia
 refine Bc (l:=Bd b ((ring.length-b+1) / 2)) (f:=CP 3) (fun i ρ' G'=>(∃x3,ρ'=[some (.lst (ring.map sq)),some (.int b),some (.fn p),x3])/\G'=put G p (.lst (((As ring b).take i).map AY))) PassesOwn.never rfl
  (UJ ((ring.length-b+1) / 2) mr (AA 1 rfl) (Bg (n:=ring.length) rfl ml (AA 0 rfl) (by simp[Jk])) AG ⟨by lia,by lia,by lia,hn⟩ ⟨rfl,⟨none,rfl⟩,by simp⟩) (Ae 3 C3.nd) ?_ ?_
 ·rintro i dd ρ' G' hd ⟨⟨x3,rfl⟩,rfl⟩;obtain⟨hi,rfl⟩:=OL hd;have hk:b+2*i<ring.length:=by lia
  have ek:(b:Int)+(i:Nat)*2=((b+2*i:Nat):Int):=by lia
  have ha:(As ring b)[i]?=some (stM (Lv ring (b+2*i)) (ring.getD (b+2*i) (0,0))):=by
   unfold As;rw[List.getElem?_map,List.getElem?_range hi];rfl
  rw[ek];refine⟨_,rfl,?_⟩;have g1:=Xk hk;have g2:=WZ hk;refine A9 (AA 2 rfl) (AL (AB (PC rfl hu mi (EE (AA 0 rfl) (BD (AA 3 rfl) AG) g1) (EE (AA 0 rfl) (AA 3 rfl) g2)) (AB (Ou rfl hu ma (EE (AA 0 rfl) (BD (AA 3 rfl) AG) g1) (EE (AA 0 rfl) (AA 3 rfl) g2)) AE))) AH ?_ (AJ ⟨⟨_,rfl⟩,?_⟩)
  ·have:((As ring b).take i).length<=1000:=by
    rw[List.length_take];unfold As;rw[List.length_map,List.length_range];lia
   rw[List.length_map];exact sz1 (by lia)
  ·rw[Ao,List.take_add_one,ha,Option.toList_some,List.map_append];rfl
 ·rintro ρ' G' ⟨⟨x3,rfl⟩,rfl⟩;have e:(As ring b).take (Bd (b:Int) ((ring.length-b+1) / 2)).length=As ring b:=by
   refine List.take_of_length_le ?_;rw[OM];unfold As;rw[List.length_map,List.length_range];exact Nat.le_refl _
  rw[e];refine GZ (AA 2 rfl) AH ?_;rw[A5 hp];exact hR
theorem RK(F:Fun K "has_all" "has_all" Gr f fd)(ma:mg "all"=none):FnOk P w K mg base CX0 1 f fd Gk (Af K KZ):=by
 refine BN (k:=0) F QO (fun A1 A outer s H E ds G R hr h=>?_);obtain⟨l,st,rfl,hz,hR⟩:=h;have hu:(A.deeper (envOfC "has_all" (AF Gr) s.heap.objs.size f A1)).units+9<cLine:=by have:=hr.units;lia
 refine AO (Qr (bs:=st.map l.contains) rfl ma (PX.cast (ID (Nc:=JP) (caps:=N4) (l:=st.map AY) (f:=CP 0) (fun d=>.bl ((l.map AY).any fun e=>eqD e d))
  (B4 (psc:=AF Gr) (PN:=MP) (by decide +kernel) rfl rfl) rfl
  (Nl (AA 1 rfl) ⟨rfl,rfl⟩)
  (fun C s' H' fp=>Ae 0 (show JP.Nodup by decide +kernel)) (BK rfl) (by rw[List.length_map];lia) ?_) ?_)) ?_
 ·intro C s' H' fp G2 d hd kn;obtain⟨y,_,rfl⟩:=List.mem_map.mp hd;exact⟨_,rfl,JF (Hn hu (AA 0 rfl) (AA 1 rfl) (.inl rfl) (Co y) (Ez l))⟩
 ·rw[List.map_map,List.map_map];refine congrArg Dat.lst (List.map_congr_left fun y _=>?_);show Dat.bl ((l.map AY).any fun e=>eqD e (AY y))=Dat.bl (l.contains y);rw[Ip]
 ·rw[List.all_map];exact hR
theorem RP(F:Fun K "is_turn" "is_turn" Lw f fd)(FR:Df P w K mg base "ring_at" Gv 1 Na)(FA:Df P w K mg base "stones_along" CS 1 NU)(FH:Df P w K mg base "has_all" Gk 1 KZ):FnOk P w K mg base CX0 2 f fd Gh (Af K K7):=by
 refine BN (k:=1) F Ku (fun A1 A outer s H E ds G R hr h=>?_);obtain⟨l,q,rfl,hR⟩:=h;refine A0 2 Ku.nd (AW FR (hr.mono (by lia)) (AB (AA 1 rfl) AE) ⟨q,rfl,?_⟩);refine AO (ee (AW FH (hr.mono (by lia)) (AB (AA 0 rfl) (AB (AW FA (hr.mono (by lia)) (AB (AA 2 rfl) (AB AG AE)) ⟨B3 q,0,rfl,by decide,(show 1<=4 by decide),(show 4<=1000 by decide),rfl,rfl⟩) AE)) ⟨l,As (B3 q) 0,rfl,(by rw[NF];show 2<=1000;decide),rfl,rfl⟩)
  fun _=>EG (AW FH (hr.mono (by lia)) (AB (AA 0 rfl) (AB (AW FA (hr.mono (by lia)) (AB (AA 2 rfl) (AB AG AE)) ⟨B3 q,1,rfl,by decide,(show 1<=4 by decide),(show 4<=1000 by decide),rfl,rfl⟩) AE)) ⟨l,As (B3 q) 1,rfl,(by rw[Kf];show 2<=1000;decide),rfl,rfl⟩)) ?_
 exact hR
theorem WQ(F:Fun K "turns" "turns" Nb f fd)(FT:Df P w K mg base "is_turn" Gh 2 K7):FnOk P w K mg base CX0 3 f fd Nq (Af K Rj):=by
 refine BN (k:=2) F Wz (fun A1 A outer s H E ds G R hr h=>?_);obtain⟨l,rfl,hz,hR⟩:=h;refine AO (GY (Nc:=MC) (caps:=Uc) (l:=l.map AY) (f:=CP 0) (via AY fun t=>B1 l t.1) (via AY fun t=>sq t.1)
  (B4 (psc:=AF Nb) (PN:=TB) (by decide +kernel) rfl rfl) rfl
  (Es (AA 0 rfl) ⟨rfl,rfl⟩)
  (fun C s' H' fp=>Ae 0 (show MC.Nodup by decide +kernel)) (BK rfl) (by rw[List.length_map];lia) ?_) ?_
 ·intro C s' H' fp G2 d hd kn;obtain⟨y,_,rfl⟩:=List.mem_map.mp hd;rw[GV Cg,GV Cg];exact⟨_,rfl,B7 (AW FT hr (AB (AA 1 rfl) (AB (Am (AA 0 rfl) AG rfl) AE)) ⟨l,y.1,rfl,rfl,rfl⟩),fun _=>Am (AA 0 rfl) AG rfl⟩
 ·have e:((l.map AY).filter (via AY fun t=>B1 l t.1)).map (via AY fun t=>sq t.1)=(Az l).map sq:=by
   rw[List.filter_map,List.map_map];unfold Az;rw[List.map_map];have e1:(via AY fun t=>B1 l t.1) ∘ AY=fun t=>B1 l t.1:=funext fun t=>GV Cg ..;rw[e1];refine List.map_congr_left fun t _=>?_;exact GV Cg ..
  rw[e];exact hR
theorem II(F:Fun K "laid_otherwise" "laid_otherwise" BY f fd)(mt:mg "tuple"=none)(ms:mg "sorted"=none)(FA:Df P w K mg base "stones_along" CS 1 NU)(FH:Df P w K mg base "has_all" Gk 1 KZ):FnOk P w K mg base CX0 2 f fd Cf (Af K So):=by
 refine BN (k:=1) F A6 (fun A1 A outer s H E ds G R hr h=>?_);obtain⟨l,ring,rfl,h1,h2,h3,hR⟩:=h;have hu:(A.deeper (envOfC "laid_otherwise" (AF BY) s.heap.objs.size f A1)).units+20<cLine:=by have:=hr.units;lia
 have YA:(A.deeper (envOfC "laid_otherwise" (AF BY) s.heap.objs.size f A1)).units+9<cLine:=by lia
 have hl:∀b,(As ring b).length<=1000:=fun b=>by
  unfold As;rw[List.length_map,List.length_range];lia
 refine A0 2 A6.nd (AW FA (hr.mono (by lia)) (AB (AA 1 rfl) (AB AG AE)) ⟨ring,1,rfl,by decide,h1,h2,?_⟩);refine A0 3 A6.nd (AW FA (hr.mono (by lia)) (AB (AA 1 rfl) (AB AG AE)) ⟨ring,0,rfl,by decide,h1,h2,?_⟩);refine IW (fun ρ' G'=>G=G'/\∃tk pt:Lay,CZ l ring=CL l tk pt/\tk.length<=1000/\pt.length<=1000/\ρ'=[some (lay l),some (.lst (ring.map sq)),some (.lst (tk.map AY)),some (.lst (pt.map AY)),none])
  (CO (B7 (AW FH (hr.mono (by lia)) (AB (AA 0 rfl) (AB (AA 2 rfl) AE)) ⟨l,As ring 1,rfl,hl 1,rfl,rfl⟩))) (fun hp=>?_) (fun hp=>?_) (fun ρ' G' hM=>?_)
 ·refine A0 2 A6.nd (AW FA (hr.mono (by lia)) (AB (AA 1 rfl) (AB AG AE)) ⟨ring,0,rfl,by decide,h1,h2,?_⟩);refine A0 3 A6.nd (AW FA (hr.mono (by lia)) (AB (AA 1 rfl) (AB AG AE)) ⟨ring,1,rfl,by decide,h1,h2,?_⟩);refine AJ ⟨rfl,As ring 0,As ring 1,?_,hl 0,hl 1,rfl⟩;unfold CZ;rw[if_neg (by simpa using hp)]
 ·refine AJ ⟨rfl,As ring 1,As ring 0,?_,hl 1,hl 0,rfl⟩;unfold CZ;rw[if_pos (by simpa using hp)]
 obtain⟨rfl,tk,pt,e,z1,z2,rfl⟩:=hM;refine Wb 4 (Nc:=DT) (caps:=Hc) (l:=l.map AY) (f:=CP 0) (via AY fun t=>!tk.contains t) id A6.nd
  (B4 (psc:=AF BY) (PN:=Ea) (by decide +kernel) rfl rfl) rfl
  (Es (AA 0 rfl) ⟨rfl,rfl⟩)
  (fun C s' H' fp=>Ae 0 (show DT.Nodup by decide +kernel)) (BK rfl) (by rw[List.length_map];lia) ?_ ?_
 ·intro C s' H' fp G2 d hd kn;obtain⟨y,_,rfl⟩:=List.mem_map.mp hd;rw[GV Cg,<-Ip];exact⟨_,rfl,Ay (A7 YA (AA 0 rfl) (AA 1 rfl) (.inr (.inl rfl)) (Co y) (Ez tk)),fun _=>AA 0 rfl⟩
 rw[Vg Cg];refine AO (Ef rfl mt Boot.«tuple» (Hb TSt ((l.filter fun s=>!tk.contains s)++pt) hu ms (K5 (AA 4 rfl) (AA 3 rfl) ?_) (.inl (by rw[List.map_append];rfl)) (.inr fun x _=>⟨_,_,rfl⟩))) ?_
 ·rw[List.length_map,List.length_map];exact sz (Nat.le_trans (Nat.add_le_add_right (List.length_filter_le _ _) _) (by lia))
 ·rw[e]at hR;exact hR
theorem NG(F:Fun K "is_number" "is_number" Jd f fd)(mi:mg "isinstance"=none)(mn:mg "int"=none)(mb:mg "bool"=none):FnOk P w K mg base CX0 1 f fd GD (Af K Oz):=by refine BN (k:=0) F Mq (fun A1 A outer s H E ds G R hr h=>?_);obtain⟨d,t,rfl,ht,hR⟩:=h;refine AO (B8 (HP (T:="int") (T':="int") mi mn (AA 0 rfl) ht) fun _=>EG (Mw (HP (T:="bool") (T':="bool") mi mb (AA 0 rfl) ht))) ?_;rw[ZF];exact hR
theorem Q5(F:Fun K "is_pair" "is_pair" MG f fd)(mi:mg "isinstance"=none)(mt:mg "tuple"=none)(ml:mg "len"=none):FnOk P w K mg base CX0 1 f fd Iv (Af K Sn):=by
 refine BN (k:=0) F RC (fun A1 A outer s H E ds G R hr h=>?_);obtain⟨d,t,rfl,ht,hR⟩:=h;refine AO (B8 (q:=JZ d) (HP (T:="tuple") (T':="tuple") mi mt (AA 0 rfl) ht) fun hp=>EG ?_) ?_
 ·rw[Sy]at hp;cases d with
  |tup l=>
   refine PX.cast (JF (DB (Bg (n:=l.length) rfl ml (AA 0 rfl) rfl) AG)) ?_
   match l with
   |[]=>rfl
   |[_]=>rfl
   |[_,_]=>rfl
   |_::_::_::r=>
    show Dat.bl (((r.length+1+1+1:Nat):Int)==2)=Dat.bl false;rw[beq_false_of_ne (by lia)]
  |non=>cases ht;cases hp
  |bl _=>cases ht;cases hp
  |int _=>cases ht;cases hp
  |str _=>cases ht;cases hp
  |fn _=>cases ht
  |scr _=>cases ht;cases hp
  |lst _=>cases ht;cases hp
 ·have e:(isS t "tuple"&&JZ d)=JZ d:=by
   rw[Sy];cases d with
   |tup l=>cases ht;rfl
   |fn _=>cases ht
   |non=>cases ht;rfl
   |bl _=>cases ht;rfl
   |int _=>cases ht;rfl
   |str _=>cases ht;rfl
   |scr _=>cases ht;rfl
   |lst _=>cases ht;rfl
  rw[e];exact hR
theorem N0(F:Fun K "is_place" "is_place" KQ f fd)(FP:Df P w K mg base "is_pair" Iv 1 Sn)(FN:Df P w K mg base "is_number" GD 1 Oz):FnOk P w K mg base CX0 2 f fd FV (Af K NJ):=by
 refine BN (k:=1) F P5 (fun A1 A outer s H E ds G R hr h=>?_);obtain⟨d,rfl,hk,hR⟩:=h;obtain⟨t,ht⟩:=XF hk;by_cases hp:JZ d=true
 ·obtain⟨a,b,rfl⟩:∃a b,d=.tup [a,b]:=by
   unfold JZ at hp;split at hp
   ·exact⟨_,_,rfl⟩
   ·cases hp
  have HE:((tyS a).isSome&&((tyS b).isSome&&true))=true:=hk;rw[Bool.and_true,Bool.and_eq_true]at HE;obtain⟨ta,ha⟩:=Option.isSome_iff_exists.mp HE.1;obtain⟨tb,hb⟩:=Option.isSome_iff_exists.mp HE.2;refine AO (B8 (AW FP (hr.mono (by lia)) (AB (AA 0 rfl) AE) ⟨_,t,rfl,ht,rfl,rfl⟩) fun _=>B8 (AW FN (hr.mono (by lia)) (AB (Am (AA 0 rfl) AG rfl) AE) ⟨a,ta,rfl,ha,rfl,rfl⟩) fun _=>EG (AW FN (hr.mono (by lia)) (AB (Am (AA 0 rfl) AG rfl) AE) ⟨b,tb,rfl,hb,rfl,rfl⟩)) ?_;have e:(JZ (.tup [a,b])&&((ta=="int")&&(tb=="int")))=DR (.tup [a,b]):=by
   cases a<;>cases ha<;>cases b<;>cases hb<;>rfl
  rw[e];exact hR
 ·have NI:JZ d=false:=by simpa using hp
  refine AO (B8 (q:=true) (AW FP (hr.mono (by lia)) (AB (AA 0 rfl) AE) ⟨_,t,rfl,ht,rfl,rfl⟩) fun h=>absurd h hp) ?_;have e:DR d=false:=by
   unfold DR;split
   ·cases NI
   ·rfl
  rw[NI,Bool.false_and,<-e];exact hR
theorem UZ{N:Addr}(F:Fun K "turned" "turned" Pe f fd)(hN:mg "NoTurn"=some (.ref N))(xN:PySem.W.excIn K N [.type "ValueError",.type "Exception",.type "BaseException",.type "object"] "ValueError.__new__"=true)(FP:Df P w K mg base "is_place" FV 2 NJ)(FT:Df P w K mg base "is_turn" Gh 2 K7)(FR:Df P w K mg base "ring_at" Gv 1 Na)(FO:Df P w K mg base "laid_otherwise" Cf 2 So):FnOk P w K mg base (CXV P w) 3 f fd Kx (LN K (PV N)):=by
 refine aO (k:=2) F Ti (fun ds G R RX h=>?_) (fun A1 A outer s H E ds G R RX hr h=>?_)
 ·obtain⟨l,d,rfl,_⟩:=h;rfl
 obtain⟨l,d,rfl,hk,hz,hR,hX⟩:=h;cases hp:DR d with
 |false=>
  refine Jt (b:=true) (Kj (p:=true) (q:=true) ?_ (fun h=>absurd h (by decide))).t (fun _=>?_) (fun h=>absurd h (by decide)) rfl
  ·exact PXT.cast (CO (B7 (AW FP hr (AB (AA 1 rfl) AE) ⟨d,rfl,hk,rfl,rfl⟩))) (by rw[hp];rfl)
  ·exact HU rfl rfl xN PySem.F.excBase_ValueError hN (AB Qn AE) (by simp) (hX fun q h=>absurd h (Vh hp q))
 |true=>
  obtain⟨q,rfl⟩:=U7 hp;cases ht:B1 l q with
  |false=>
   refine Jt (b:=true) (Kj (p:=false) (q:=true) ?_ (fun _=>Js ?_)).t (fun _=>?_) (fun h=>absurd h (by decide)) rfl
   ·exact PXT.cast (CO (B7 (AW FP hr (AB (AA 1 rfl) AE) ⟨_,rfl,hk,rfl,rfl⟩))) rfl
   ·exact PXT.cast (CO (B7 (AW FT hr (AB (AA 0 rfl) (AB (AA 1 rfl) AE)) ⟨l,q,rfl,rfl,rfl⟩))) (by rw[ht];rfl)
   ·exact HU rfl rfl xN PySem.F.excBase_ValueError hN (AB Qn AE) (by simp) (hX fun q' h=>by cases JI h;exact ht)
  |true=>
   refine Jt (b:=false) (Kj (p:=false) (q:=false) ?_ (fun _=>Js ?_)).t (fun h=>absurd h (by decide)) (fun _=>Rv ?_ rfl) rfl
   ·exact PXT.cast (CO (B7 (AW FP hr (AB (AA 1 rfl) AE) ⟨_,rfl,hk,rfl,rfl⟩))) rfl
   ·exact PXT.cast (CO (B7 (AW FT hr (AB (AA 0 rfl) (AB (AA 1 rfl) AE)) ⟨l,q,rfl,rfl,rfl⟩))) (by rw[ht];rfl)
   ·exact Bx (AW FO hr (AB (AA 0 rfl) (AB (AW FR (hr.mono (by lia)) (AB (AA 1 rfl) AE) ⟨q,rfl,rfl,rfl⟩) AE)) ⟨l,B3 q,rfl,(show 1<=4 by decide),(show 4<=1000 by decide),hz,hR q rfl ht⟩)
end
end TF
namespace TF
open PySem PySem.Spec L2
open PyProof.Rows hiding St RelV
section
variable {P:Program}{w:World}{K:PySem.W.Frag}{mg:Str->Option Value}{base:Heap}{f:Addr}{fd:FuncData}
theorem Ox(F:Fun K "way_back" "way_back" HS f fd):FnOk P w K mg base CX0 1 f fd Hg (Af K L7):=by
 refine BN (k:=0) F Du (fun A1 A outer s H E ds G R hr h=>?_);obtain⟨l,b,p,met,i,dep,par,rfl,hG,B,hz,qr,hb,hR⟩:=h;have hu:(A.deeper (envOfC "way_back" (AF HS) s.heap.objs.size f A1)).units+9<cLine:=by have:=hr.units;lia
 have look:∀{v},v∈met->Ab (cfM met par) (lay v)=some (QZ (par v)):=fun {v} hv=>by rw[Mz,if_pos hv]
 refine CY 2 Du.nd AE (fun p2 Hh=>?_);have n2:p≠p2:=by rintro rfl;rw[hG]at Hh;cases Hh
 have g1:∀o,put G p2 o p=some (.dct (cfM met par)):=fun o=>by rw[Ad n2];exact hG
 refine AQ 3 Du.nd (IA (k:=lay b) hu (AA 0 rfl) (AA 1 rfl) (g1 _) (FE b) ⟨_,rfl⟩ (look hb)) ?_;refine DD (fun n ρ' G'=>∃(v:Lay)(S:List Sq),v∈met/\Pc Az goM v S.reverse b/\dep v+S.length=dep b/\n=dep v/\ρ'=[some (.fn p),some (lay b),some (.fn p2),some (QZ (par v))]/\G'=put G p2 (.lst (S.map sq))) PassesOwn.never (m0:=dep b) ⟨b,[],hb,.nil,by simp,rfl,rfl,rfl⟩ ?_;rintro n ρ' G' ⟨v,S,hv,hS,hl,rfl,rfl,rfl⟩;by_cases dU:v=l
 ·subst dU;rw[B.pa];refine CF (Ay (PH (AA 3 rfl))) ⟨(fun hc=>by cases (show false=true from hc)),fun hc=>?_⟩;have iC:=B.da;refine Py (AA 2 rfl) AH ?_;rw[Ao];refine GZ (AA 2 rfl) AH ?_;rw[A5 Hh,<-List.map_reverse];exact hR S.reverse hS (by rw[List.length_reverse];lia)
 ·obtain⟨u,q,jD,HH,hq,qK,hd⟩:=B.pr v hv dU;rw[jD];refine CF (Ay (PH (AA 3 rfl))) ⟨fun hc=>?_,(fun hc=>by cases (show true=false from hc))⟩;refine A9 (d:=sq q) (AA 2 rfl) (Am (d:=sq q) (l:=[lay u,sq q]) (AA 3 rfl) AG rfl) AH (by rw[List.length_map];exact sz1 (by lia)) ?_;rw[Ao];refine AQ 3 Du.nd (IA (k:=lay u) hu (AA 0 rfl) (Am (d:=lay u) (l:=[lay u,sq q]) (AA 3 rfl) AG rfl) (g1 _) (FE u) ⟨_,rfl⟩ (look HH)) (AJ ⟨dep u,by lia,u,S++[q],HH,?_,?_,rfl,rfl,?_⟩)
  ·rw[List.reverse_append];refine .cons hq ?_;rw[qK];exact hS
  ·rw[List.length_append,List.length_singleton];lia
  ·rw[List.map_append];rfl
theorem X8{T N:Addr}{tk:Tok}(F:Fun K "road" "road" Q9 f fd)(ml:mg "len"=none)(hM:mg "MOST_TOLD"=some (.int 200 tk))(hT:mg "TooMany"=some (.ref T))(xT:PySem.W.excIn K T [.type "ValueError",.type "Exception",.type "BaseException",.type "object"] "ValueError.__new__"=true)(FC:Df P w K mg base "count" Rf 27 Rp)(FT:Df P w K mg base "turns" Nq 3 Rj)(FX:DfX P w K mg base "turned" Kx 3 (PV N))(FW:Df P w K mg base "way_back" Hg 1 L7):FnOk P w K mg base (CXV P w) 28 f fd Qm (LN K (W7 T)):=by
 refine aO (k:=27) F Dq (fun ds G R RX h=>?_) (fun A1 A outer s H E ds G R RX hr h=>?_)
 ·obtain⟨q,l,m,rfl,_⟩:=h;rfl
 obtain⟨q,l,m,rfl,up,ax,I,J,hX,hR⟩:=h;have hu:(A.deeper (envOfC "road" (AF Q9) s.heap.objs.size f A1)).units+9<cLine:=by have:=hr.units;lia
 have nd:=HA up;have ec:=UB up;refine Jt (Ay (J5 (AW FC hr (AB (AA 0 rfl) AE) ⟨q,rfl,ax,rfl,rfl⟩) (SW hM))) (fun hc=>?_) (fun hc=>?_) rfl
 ·refine HU rfl rfl xT PySem.F.excBase_ValueError hT (AB (bQ (SW hM) (by decide) (by decide +kernel) (by decide +kernel) (by decide +kernel)) AE) (by simp) (hX ?_)
  have:=of_decide_eq_true hc
  lia
 have dJ:(Bq q).length<=200:=by
  have:=of_decide_eq_false hc
  lia
 replace hR:=hR dJ;clear hX hc;refine Rv ?_ rfl;refine A0 3 Dq.nd (XQ hu (fun _ _=>AA 1 rfl) (fun _ _=>Q3) (FE l) ⟨_,rfl⟩ (fun p1 Jv=>?_));refine CY 4 Dq.nd (AB (AA 1 rfl) AE) (fun p2 Hh=>?_);refine AQ 5 Dq.nd AG ?_;have eH:p1≠p2:=by rintro rfl;rw[AH]at Hh;cases Hh
 rw[Ad (Ne.symm eH)]at Hh;obtain⟨GG,dj⟩:∃GG:List Lay->(Lay->Option (Lay×Sq))->Gs,GG=fun met par=>put (put G p1 (.dct (cfM met par))) p2 (.lst (met.map lay)):=⟨_,rfl⟩;have qQ:put (put G p1 (.dct [(lay l,.non)])) p2 (.lst [lay l])=GG [l] (fun _=>none):=by rw[dj];rfl
 have gQ:∀met par,GG met par p1=some (.dct (cfM met par)):=fun met par=>by rw[dj];simp only;rw[Ad eH,AH]
 have iX:∀met par,GG met par p2=some (.lst (met.map lay)):=fun met par=>by rw[dj];simp only;rw[AH]
 have gp:∀met par Em par',put (put (GG met par) p1 (.dct (cfM Em par'))) p2 (.lst (Em.map lay))=GG Em par':=fun met par Em par'=>by
  rw[dj];simp only;rw[bD eH]
 have pQ:∀met par Em par',put (GG met par) p1 (.dct (cfM Em par')) p2=some (.lst (met.map lay)):=fun met par Em par'=>by
  rw[Ad (Ne.symm eH)];exact iX _ _
 have fH:∀met par,rel (rel (GG met par) p2) p1=G:=fun met par=>by
  rw[dj];simp only;rw[A5,A5 Jv];rw[Ad (Ne.symm eH)];exact Hh
 rw[qQ];clear dj;have few:∀{met i dep par},Bfs Az goM l met i dep par->met.length<=200:=fun B=>Nat.le_trans (B.few up I) dJ;refine DD (fun n ρ' G'=>∃(met:List Lay)(i:Nat)(dep:Lay->Nat)(par:Lay->Option (Lay×Sq))(x6 x7 x8:Option Dat),Bfs Az goM l met i dep par/\i<=met.length/\n=200-i/\ρ'=[some (fl q),some (lay l),some (lay m),some (.fn p1),some (.fn p2),some (.int (i:Nat)),x6,x7,x8]/\G'=GG met par) PassesOwn.never (m0:=200) ⟨[l],0,_,_,none,none,none,ic,Nat.zero_le _,rfl,rfl,rfl⟩ ?_;rintro n ρ' G' ⟨met,i,dep,par,x6,x7,x8,B,hi,rfl,rfl,rfl⟩;have OJ:=few B;refine CF (Cm (p:=decide ((i:Int)<(met.length:Int))) (q:=!(met.contains m)) ?_ (fun _=>DM ?_)).t ⟨fun hc=>?_,fun hc=>?_⟩
 ·exact Ay (Nh (AA 5 rfl) (Bg (n:=met.length) rfl ml (AA 4 rfl) (by simp[Jk,iX])))
 ·exact PXT.cast (Ay (Bw hu (AA 2 rfl) (AA 3 rfl) (gQ _ _) (FE m) ⟨_,rfl⟩)) (by rw[QT])
 ·rw[Bool.and_eq_true]at hc;have BC:i<met.length:=by have:=of_decide_eq_true hc.1;lia
  obtain⟨x,hx⟩:∃x,met[i]?=some x:=⟨met[i]'(BC),List.getElem?_eq_getElem _⟩;have Ix:=B.lays nd I x (List.mem_of_getElem? hx);have rJ:=Ni Ix.toCov;refine AQ 6 Dq.nd (dI (l:=met.map lay) (AA 4 rfl) (AA 5 rfl) (iX _ _) (Dr lay (DC hx))) ?_;refine Bc (l:=(Az x).map sq) (f:=CP 7) (fun j ρ' G'=>∃(Em:List Lay)(YN:Lay->Nat)(par':Lay->Option (Lay×Sq))(x7 x8:Option Dat),Bfs Az goM l Em i YN par'/\Em[i]?=some x/\(∀z∈(Az x).take j,goM x z∈Em)/\ρ'=[some (fl q),some (lay l),some (lay m),some (.fn p1),some (.fn p2),some (.int (i:Nat)),some (lay x),x7,x8]/\G'=GG Em par') PassesOwn.never rfl
   (By (AW FT (hr.mono (by lia)) (AB (AA 6 rfl) AE) ⟨x,rfl,by lia,_,rfl,rfl,met,dep,par,_,_,B,hx,by simp,rfl,rfl⟩)) (Ae 7 Dq.nd) ?_ ?_
  ·clear B hx OJ;rintro j dd ρ' G' hd ⟨Em,YN,par',x7,x8,B,hx,hj,rfl,rfl⟩;have OJ:=few B;rw[List.getElem?_map]at hd;obtain⟨z,hz,rfl⟩:=Option.map_eq_some_iff.mp hd;have lq:z∈Az x:=List.mem_of_getElem? hz;have et:(Az x).take (j+1)=(Az x).take j++[z]:=by rw[List.take_add_one,hz];rfl
   refine⟨_,rfl,?_⟩;refine A0 8 Dq.nd (Lu (Vc rfl FX (hr.mono (by lia)) (AB (AA 6 rfl) (AB (AA 7 rfl) AE)) ⟨x,sq z,rfl,rfl,by lia,fun z' e _=>?_,fun h=>?_⟩))
   ·cases JI e;refine BO (PXT.cast (Ay (Bw (k:=lay (goM x z)) hu (AA 8 rfl) (AA 3 rfl) (gQ _ _) (FE _) ⟨_,rfl⟩)) (by rw[QT])) (fun hc=>?_) (fun hc=>?_)
    ·have LW:goM x z∉Em:=by simpa using hc
     refine Eb (k:=lay (goM x z)) (d:=QZ (some (x,z))) hu (AL (AB (AA 6 rfl) (AB (AA 7 rfl) AE))) (AA 3 rfl) (AA 8 rfl) (gQ _ _) (FE _) ⟨_,rfl⟩ (by unfold cfM;rw[List.length_map];exact sz1 (by lia)) ?_;rw[dD LW];refine A9 (d:=lay (goM x z)) (AA 4 rfl) (AA 8 rfl) (pQ _ _ _ _) (by rw[List.length_map];exact sz1 (by lia)) ?_;have e2:Em.map lay++[lay (goM x z)]=(Em++[goM x z]).map lay:=by rw[List.map_append];rfl
     rw[e2,gp];refine AJ (AJ ⟨_,_,_,_,_,B.new hx lq LW,?_,?_,rfl,rfl⟩)
     ·rw[List.getElem?_append_left (List.getElem?_eq_some_iff.mp hx).1];exact hx
     ·intro y hy;rw[et]at hy;rcases List.mem_append.mp hy with h|h
      ·exact List.mem_append_left _ (hj y h)
      ·rw[List.mem_singleton.mp h];simp
    ·have hold:goM x z∈Em:=by simpa using hc
     refine AJ (AJ ⟨_,_,_,_,_,B,hx,?_,rfl,rfl⟩);intro y hy;rw[et]at hy;rcases List.mem_append.mp hy with h|h
     ·exact hj y h
     ·rw[List.mem_singleton.mp h];exact hold
   ·exact absurd (h z rfl) (by rw[Gi.mp lq];decide)
  ·clear B hx OJ;rintro ρ' G' ⟨Em,YN,par',x7,x8,B,hx,hj,rfl,rfl⟩;rw[List.length_map,List.take_length]at hj;have OJ:=few B;have dR:=(List.getElem?_eq_some_iff.mp hx).1;refine V8 5 Dq.nd rfl AG (AJ ⟨200-(i+1),by lia,Em,i+1,YN,par',_,_,_,B.next hx hj,dR,rfl,rfl,rfl⟩)
 ·refine BO (PXT.cast (Ay (Bw (k:=lay m) hu (AA 2 rfl) (AA 3 rfl) (gQ _ _) (FE m) ⟨_,rfl⟩)) (by rw[QT])) (fun Nu=>?_) (fun Nu=>AJ ?_)
  ·have hm:m∉met:=by simpa using Nu
   have Jl:met.length<=i:=by
    rcases Nat.lt_or_ge i met.length with h|h
    ·exfalso;rw[Nu,Bool.and_true]at hc;exact absurd (of_decide_eq_false hc) (by lia)
    ·exact h
   refine Bx (CK (CK (PX.we Q3 ⟨p2,p1,?_⟩)));rw[fH];exact hR none (B.no Jl hm)
  ·have hm:m∈met:=by simpa using Nu
   have g8:=B.dep_le (F:=q) hm;refine Bx (CK (CK (AW FW (hr.mono (by lia)) (AB (AA 3 rfl) (AB (AA 2 rfl) AE)) ⟨l,m,p1,met,i,dep,par,rfl,gQ _ _,B,by lia,by lia,hm,fun S hS hl=>⟨p2,p1,?_⟩⟩)));rw[fH];refine hR (some S) ⟨hS,?_⟩;rw[hl];exact B.far hm
end
end TF
namespace TF
open PySem PySem.Spec L2
open PyProof.Rows hiding St RelV
section
variable {P:Program}{w:World}{K:PySem.W.Frag}{mg:Str->Option Value}{base:Heap}{f:Addr}{fd:FuncData}
theorem M4(F:Fun K "is_rising" "is_rising" D2 f fd)(ma:mg "all"=none)(mz:mg "zip"=none):FnOk P w K mg base CX0 1 f fd GC (Af K O5):=by
 refine BN (k:=0) F M9 (fun A1 A outer s H E ds G R hr h=>?_);obtain⟨l,rfl,hz,ho,hR⟩:=h;have hu:(A.deeper (envOfC "is_rising" (AF D2) s.heap.objs.size f A1)).units+9<cLine:=by have:=hr.units;lia
 refine AO (Qr (bs:=(l.zip (l.drop 1)).map fun p=>CW true p.1 p.2) rfl ma (PX.cast (ID (Nc:=HB) (caps:=LZ) (l:=Fc l (l.drop 1)) (f:=Fx 0 1) (fun d=>match d with|.tup [x,y]=>.bl (CW true x y)|_=>.non)
  (B4 (psc:=AF D2) (PN:=JY) (by decide +kernel) rfl rfl) rfl
  (cj mz (AA 0 rfl) (PX.cast (Iy (ol:=some 1) (oh:=none) (AA 0 rfl) AG trivial) (by rw[gq])) ⟨rfl,rfl⟩)
  (fun C s' H' fp=>Dj 0 1 rfl (show HB.Nodup by decide +kernel)) (Kl rfl rfl) ?_ ?_) ?_)) ?_
 ·unfold Fc;rw[List.length_map,List.length_zip];lia
 ·intro C s' H' fp G2 d hd kn;unfold Fc at hd;obtain⟨p,hp,rfl⟩:=List.mem_map.mp hd;obtain⟨h1,h2,h3⟩:=ho p hp;exact⟨_,rfl,JF (Yd hu (AA 0 rfl) (AA 1 rfl) h1 h2 h3)⟩
 ·unfold Fc;rw[List.map_map,List.map_map];rfl
 ·rw[List.all_map];exact hR
end
end TF
namespace TF
open PySem PySem.Spec L2
open PyProof.Rows hiding St RelV
section
variable {P:Program}{w:World}{K:PySem.W.Frag}{mg:Str->Option Value}{base:Heap}{f:Addr}{fd:FuncData}
theorem HK(F:Fun K "neighbours" "neighbours" Hw f fd):FnOk P w K mg base CX0 1 f fd En (Af K (NC nbM)):=by
 refine BN (k:=0) F D7 (fun A1 A outer s H E ds G R hr h=>?_);obtain⟨q,rfl,hR⟩:=h;refine AQ 1 D7.nd (Am (AA 0 rfl) AG rfl) ?_;refine AQ 2 D7.nd (Am (AA 0 rfl) AG rfl) ?_;exact AO (Cb (AB (AL (AB (BD (AA 1 rfl) AG) (AB (AA 2 rfl) AE))) (AB (AL (AB (AA 1 rfl) (AB (BD (AA 2 rfl) AG) AE)))
  (AB (AL (AB (AA 1 rfl) (AB (Ag (AA 2 rfl) AG) AE))) (AB (AL (AB (Ag (AA 1 rfl) AG) (AB (AA 2 rfl) AE))) AE))))) hR
theorem GR(F:Fun K "corner_neighbours" "corner_neighbours" C6 f fd):FnOk P w K mg base CX0 1 f fd BQ (Af K (NC cnM)):=by
 refine BN (k:=0) F B0 (fun A1 A outer s H E ds G R hr h=>?_);obtain⟨q,rfl,hR⟩:=h;refine AQ 1 B0.nd (Am (AA 0 rfl) AG rfl) ?_;refine AQ 2 B0.nd (Am (AA 0 rfl) AG rfl) ?_;exact AO (Cb (AB (AL (AB (BD (AA 1 rfl) AG) (AB (BD (AA 2 rfl) AG) AE))) (AB (AL (AB (BD (AA 1 rfl) AG) (AB (Ag (AA 2 rfl) AG) AE)))
  (AB (AL (AB (Ag (AA 1 rfl) AG) (AB (BD (AA 2 rfl) AG) AE))) (AB (AL (AB (Ag (AA 1 rfl) AG) (AB (Ag (AA 2 rfl) AG) AE))) AE))))) hR
theorem G0(F:Fun K "all_around" "all_around" IY f fd)(F1:Df P w K mg base "neighbours" En 1 (NC nbM))(F2:Df P w K mg base "corner_neighbours" BQ 1 (NC cnM)):FnOk P w K mg base CX0 2 f fd IK (Af K (NC aaM)):=by refine BN (k:=1) F Li (fun A1 A outer s H E ds G R hr h=>?_);obtain⟨q,rfl,hR⟩:=h;exact AO (K5 (l:=(nbM q).map sq) (m:=(cnM q).map sq) (AW F1 hr (AB (AA 0 rfl) AE) ⟨q,rfl,rfl,rfl⟩) (AW F2 hr (AB (AA 0 rfl) AE) ⟨q,rfl,rfl,rfl⟩) (show 8<=sizeLine by decide)) hR
theorem Ki(kk:Nat)(F:Fun K "reached" "reached" Ij f fd)(ml:mg "len"=none):FnOk P w K mg base CX0 (kk+1) f fd Gq (Af K (Iu P w K mg base kk)):=by
 refine BN (k:=kk) F DJ (fun A1 A outer s H E ds G R hr h=>?_);obtain⟨start,g,gd,f',nb,rfl,oA,FA,kI,hR⟩:=h;have hu:(A.deeper (envOfC "reached" (AF Ij) s.heap.objs.size f A1)).units+9<cLine:=by have:=hr.units;lia
 refine A0 3 DJ.nd (XQ hu (fun _ _=>AA 0 rfl) (fun _ _=>Fi) (D4 start) ⟨_,rfl⟩ (fun p1 Jv=>?_));refine CY 4 DJ.nd (AB (AA 0 rfl) AE) (fun p2 Hh=>?_);have Bk:p1≠p2:=by rintro rfl;rw[AH]at Hh;cases Hh
 have cY:G p2=none:=by rw[Ad (Ne.symm Bk)]at Hh;exact Hh
 have HV:∀L:List Sq,L.Nodup->(∀x∈L,Con (fun a b=>b∈nb a) (·∈g) start x)->L.length<=g.length+1:=fun L h1 h2=>by
  have:=BZ h1 fun x hx=>Yt (h2 x hx)
  simpa using this
 refine DD (fun m ρ' G'=>∃(L W:List Sq)(y5 y6:Option Dat),ρ'=[some (sq start),some gd,some (.fn f'),some (.fn p1),some (.fn p2),y5,y6]/\G'=put (put G p1 (.dct (L.map kvT))) p2 (.lst (W.map sq)) ∧
   L.Nodup/\start∈L/\(∀x∈L,Con (fun a b=>b∈nb a) (·∈g) start x)/\(∀x∈W,x∈L)/\(∀x∈L,x∈W\/∀y∈nb x,y∈g->y∈L)/\m=2*(g.length+1-L.length)+W.length/\m<=2*g.length+1) PassesOwn.never
  (m0:=2*(g.length+1-1)+1) ⟨[start],[start],none,none,rfl,rfl,by simp,by simp,fun x hx=>by rw[List.mem_singleton.mp hx];exact .base,fun x hx=>hx,fun x hx=>.inl hx,rfl,by lia⟩ ?_
 rintro m ρ' G' ⟨L,W,y5,y6,rfl,rfl,nd,hs,hc,hW,Gx,hm,fc⟩;refine CF (Ay (J5 (Bg (n:=W.length) rfl ml (AA 4 rfl) (by simp[Jk,AH])) AG)) ⟨fun hp=>?_,fun hp=>?_⟩
 ·have Mf:0<W.length:=by have:=of_decide_eq_true hp;lia
  obtain⟨W0,x,rfl⟩:∃W0 x,W=W0++[x]:=⟨W.dropLast,W.getLast (List.ne_nil_of_length_pos Mf),(List.dropLast_concat_getLast _).symm⟩;rw[List.length_append,List.length_singleton]at hm;refine A0 5 DJ.nd (RI (d:=sq x) (l:=W0.map sq) (AA 4 rfl) (by rw[AH,List.map_append];rfl) ?_);rw[Ao];have hx:x∈L:=hW x (by simp);have Au:=HV L nd hc;refine Bc (l:=(nb x).map sq) (fun i ρ' G'=>∃(L W:List Sq)(y6:Option Dat),ρ'=[some (sq start),some gd,some (.fn f'),some (.fn p1),some (.fn p2),some (sq x),y6]/\G'=put (put G p1 (.dct (L.map kvT))) p2 (.lst (W.map sq)) ∧
    L.Nodup/\start∈L/\(∀x∈L,Con (fun a b=>b∈nb a) (·∈g) start x)/\(∀x∈W,x∈L)/\x∈L/\(∀z∈L,z∈W\/(∀y∈nb z,y∈g->y∈L)\/z=x)/\(∀y∈(nb x).take i,y∈g->y∈L)/\2*(g.length+1-L.length)+W.length+1<=m) PassesOwn.never rfl
   (By (Va (AA 2 rfl) FA hr (AB (AA 5 rfl) AE) ⟨x,rfl,_,rfl,rfl,L,W0,y6,rfl,rfl,nd,hs,hc,fun z hz=>hW z (by simp[hz]),hx,?_,by simp,by lia⟩)) (Ae 6 DJ.nd) ?_ ?_
  ·intro z hz;rcases Gx z hz with h|h
   ·rcases List.mem_append.mp h with h|h
    ·exact .inl h
    ·exact .inr (.inr (List.mem_singleton.mp h))
   ·exact .inr (.inl h)
  ·clear Au hx Gx hW hc hs nd hm;rintro i dd ρ' G' hd ⟨L,W,y6,rfl,rfl,nd,hs,hc,hW,hx,Gx,hi,hm⟩;rw[List.getElem?_map]at hd;obtain⟨y,hy,rfl⟩:=Option.map_eq_some_iff.mp hd;have ag:y∈nb x:=List.mem_of_getElem? hy;have et:(nb x).take (i+1)=(nb x).take i++[y]:=by rw[List.take_add_one,hy];rfl
   have FY:put (put G p1 (.dct (L.map kvT))) p2 (.lst (W.map sq)) p1=some (.dct (L.map kvT)):=by rw[Ad Bk,AH]
   have Au:=HV L nd hc;refine⟨_,rfl,BO (Cm (Ay (Hn hu (AA 6 rfl) (AA 1 rfl) (oA.elim .inl fun h=>.inr (.inl h)) (BF y) (A3 g))) (fun _=>DM (Ay (Bw hu (AA 6 rfl) (AA 3 rfl) FY (D4 y) ⟨_,rfl⟩)))).t (fun hp=>?_) (fun hp=>AJ (AJ ?_))⟩
   ·rw[A4,Ho]at hp;simp only[Bool.and_eq_true,Bool.not_eq_true',List.contains_eq_mem,decide_eq_true_eq,decide_eq_false_iff_not]at hp;obtain⟨gz,UN⟩:=hp;refine Eb (d:=.bl true) hu Fi (AA 3 rfl) (AA 6 rfl) FY (D4 y) ⟨_,rfl⟩ (by rw[List.length_map];exact sz1 (by lia)) ?_;rw[Wl UN];refine A9 (d:=sq y) (l:=W.map sq) (AA 4 rfl) (AA 6 rfl) (by rw[Ad (Ne.symm Bk),AH]) (by rw[List.length_map];exact sz1 (by lia)) (AJ (AJ ?_));refine⟨L++[y],W++[y],_,rfl,?_,?_,by simp[hs],?_,?_,by simp[hx],?_,?_,?_⟩
    ·rw[bD Bk];simp only[List.map_append,List.map_cons,List.map_nil]
    ·rw[List.nodup_append];exact⟨nd,by simp,fun a ha b hb e=>by rw[List.mem_singleton.mp hb]at e;subst e;exact UN ha⟩
    ·intro z hz;rcases List.mem_append.mp hz with h|h
     ·exact hc z h
     ·rw[List.mem_singleton.mp h];exact .step (hc x hx) ag gz
    ·intro z hz;rcases List.mem_append.mp hz with h|h
     ·exact List.mem_append_left _ (hW z h)
     ·exact List.mem_append_right _ h
    ·intro z hz;rcases List.mem_append.mp hz with h|h
     ·rcases Gx z h with h|h|h
      ·exact .inl (List.mem_append_left _ h)
      ·exact .inr (.inl fun y' h1 h2=>List.mem_append_left _ (h y' h1 h2))
      ·exact .inr (.inr h)
     ·exact .inl (List.mem_append_right _ h)
    ·intro y' h1 h2;rw[et]at h1;rcases List.mem_append.mp h1 with h|h
     ·exact List.mem_append_left _ (hi y' h h2)
     ·exact List.mem_append_right _ h
    ·have VI:=HV (L++[y]) (by
      rw[List.nodup_append];exact⟨nd,by simp,fun a ha b hb e=>by rw[List.mem_singleton.mp hb]at e;subst e;exact UN ha⟩) (by
      intro z hz;rcases List.mem_append.mp hz with h|h
      ·exact hc z h
      ·rw[List.mem_singleton.mp h];exact .step (hc x hx) ag gz)
     simp only[List.length_append,List.length_singleton]at VI ⊢;lia
   ·rw[A4,Ho]at hp;refine⟨L,W,_,rfl,rfl,nd,hs,hc,hW,hx,Gx,?_,hm⟩;intro y' h1 h2;rw[et]at h1;rcases List.mem_append.mp h1 with h|h
    ·exact hi y' h h2
    ·rw[List.mem_singleton.mp h]at h2 ⊢;refine Classical.byContradiction fun hn=>?_;simp[h2,hn]at hp
  ·clear Au hx Gx hW hc hs nd hm;rintro ρ' G' ⟨L,W,y6,rfl,rfl,nd,hs,hc,hW,hx,Gx,hi,hm⟩;rw[List.length_map,List.take_length]at hi;refine AJ ⟨_,hm,L,W,_,y6,rfl,rfl,nd,hs,hc,hW,fun z hz=>?_,rfl,by lia⟩;rcases Gx z hz with h|h|rfl
   ·exact .inl h
   ·exact .inr h
   ·exact .inr hi
 ·have fI:W=[]:=by
   have:=of_decide_eq_false hp
   exact List.eq_nil_of_length_eq_zero (by lia)
  subst fI;refine Bx (CK (PX.we (AA 3 rfl) ⟨p2,?_⟩));rw[A5 (by rw[Ad (Ne.symm Bk)];exact cY)];exact hR p1 L Jv (Uu nd hs hc fun x hx y h1 h2=>by
   rcases Gx x hx with h|h
   ·cases h
   ·exact h y h1 h2)
theorem IG(F:Fun K "hangs_together" "hangs_together" EV f fd)(ml:mg "len"=none)(FR:Df P w K mg base "reached" Gq 2 (Iu P w K mg base 1))(FN:∃f',mg "neighbours"=some (.ref f')/\DfA P w K mg base f' ["square"] 1 (NC nbM)):FnOk P w K mg base CX0 3 f fd Cc (Af K (spF fun F=>.bl (Je F))):=by
 refine BN (k:=2) F Hy (fun A1 A outer s H E ds G R hr h=>?_);obtain⟨q,rfl,gd,hR⟩:=h;obtain⟨f',hm,FA⟩:=FN;have el:=R4 gd;refine AO (JF (DB (i:=(card nbR (·∈q) (q.headD (0,0)):Nat)) (j:=(q.length:Nat)) (CK (Mx ml (AW FR hr (AB (Am (AA 0 rfl) AG el) (AB (AA 0 rfl) (AB (Zy hm) AE)))
  ⟨q.headD (0,0),q,_,f',nbM,rfl,.inl rfl,FA,by have:=gd.len;lia,fun p L hp hL=>⟨p,_,rfl,AH,p,?_,A5 hp⟩⟩))) (Bg rfl ml (AA 0 rfl) (Jr _ _)))) hR
 rw[List.length_map,hL.card]
theorem Jg(F:Fun K "bare_squares" "bare_squares" Bz f fd)(mr:mg "range"=none)(mn:mg "min"=none)(mx:mg "max"=none):FnOk P w K mg base CX0 1 f fd DO (Af K XT):=by
 refine BN (k:=0) F BJ (fun A1 A outer s H E ds G R hr h=>?_);obtain⟨q,r0,r1,c0,c1,rfl,gd,bb,hR⟩:=h;have hu:(A.deeper (envOfC "bare_squares" (AF Bz) s.heap.objs.size f A1)).units+9<cLine:=by have:=hr.units;lia
 have nz:=gd.len;have gh:∀a∈q.map (·.1),0<=a/\a<=7:=fun a ha=>by obtain⟨p,hp,rfl⟩:=List.mem_map.mp ha;have:=gd.inn p hp;lia
 have ed:∀a∈q.map (·.2),0<=a/\a<=7:=fun a ha=>by obtain⟨p,hp,rfl⟩:=List.mem_map.mp ha;have:=gd.inn p hp;lia
 have b1:=gh _ bb.r0m;have b2:=gh _ bb.r1m;have b3:=ed _ bb.c0m;have b4:=ed _ bb.c1m;obtain⟨qP,pK⟩:=bb.le;have step:∀(i:Int)(g:Sq->Int)(d:Dat),d∈q.map sq->∃p,d=sq p:=fun i g d hd=>by obtain⟨p,_,e⟩:=List.mem_map.mp hd;exact⟨p,e.symm⟩
 refine K6 1 (Nc:=Ej) (caps:=Ir) (l:=q.map sq) (f:=CP 0) (fun d=>match d with|.tup [.int a,.int b]=>.int a|_=>.non) BJ.nd
  (B4 (psc:=AF Bz) (PN:=DY) (by decide +kernel) rfl rfl) rfl (Es (AA 0 rfl) ⟨rfl,rfl⟩) (fun C s' H' fp=>Ae 0 (show Ej.Nodup by decide +kernel)) (BK rfl) (by rw[List.length_map];lia) ?_ ?_
 ·intro C s' H' fp G' d hd _;obtain⟨p,_,rfl⟩:=List.mem_map.mp hd;exact⟨_,rfl,Am (AA 0 rfl) AG rfl⟩
 have e1:(q.map sq).map (fun d=>match d with|.tup [.int a,.int b]=>Dat.int a|_=>.non)=(q.map (·.1)).map Dat.int:=by
  rw[List.map_map,List.map_map];rfl
 rw[e1];refine K6 2 (Nc:=EK) (caps:=Ig) (l:=q.map sq) (f:=CP 0) (fun d=>match d with|.tup [.int a,.int b]=>.int b|_=>.non) BJ.nd
  (B4 (psc:=AF Bz) (PN:=DY) (by decide +kernel) rfl rfl) rfl (Es (AA 0 rfl) ⟨rfl,rfl⟩) (fun C s' H' fp=>Ae 0 (show EK.Nodup by decide +kernel)) (BK rfl) (by rw[List.length_map];lia) ?_ ?_
 ·intro C s' H' fp G' d hd _;obtain⟨p,_,rfl⟩:=List.mem_map.mp hd;exact⟨_,rfl,Am (AA 0 rfl) AG rfl⟩
 have e2:(q.map sq).map (fun d=>match d with|.tup [.int a,.int b]=>Dat.int b|_=>.non)=(q.map (·.2)).map Dat.int:=by
  rw[List.map_map,List.map_map];rfl
 rw[e2];refine CY 3 BJ.nd AE (fun p hG=>?_);refine Bc (l:=BI (r0-1) (r1+2-(r0-1)).toNat) (fun i ρ' G'=>∃(y4 y5:Option Dat),ρ'=[some (fl q),some (.lst ((q.map (·.1)).map Dat.int)),some (.lst ((q.map (·.2)).map Dat.int)),some (.fn p),y4,y5] ∧
   G'=put G p (.lst (((EA (r0-1) (c0-1) i (c1+2-(c0-1)).toNat).filter fun z=>!q.contains z).map sq))) PassesOwn.never rfl
  (Lj rfl mr (BD (SO rfl mn (AA 1 rfl) bb.r0m bb.r0l) AG) (Ag (R1 rfl mx (AA 1 rfl) bb.r1m bb.r1l) AG) (by lia) ⟨rfl,none,none,rfl,rfl⟩) (Ae 4 BJ.nd) ?_ ?_
 ·rintro i dd ρ' G' hd ⟨y4,y5,rfl,rfl⟩;obtain⟨BC,rfl⟩:=Ci hd;refine⟨_,rfl,?_⟩;refine Bc (l:=BI (c0-1) (c1+2-(c0-1)).toNat) (fun j ρ' G'=>∃(y5:Option Dat),ρ'=[some (fl q),some (.lst ((q.map (·.1)).map Dat.int)),some (.lst ((q.map (·.2)).map Dat.int)),some (.fn p),some (.int (r0-1+(i:Nat))),y5] ∧
    G'=put G p (.lst (((EA (r0-1) (c0-1) i (c1+2-(c0-1)).toNat++(List.range j).map fun(j:Nat)=>(r0-1+(i:Nat),c0-1+(j:Int))).filter fun z=>!q.contains z).map sq))) PassesOwn.never rfl
   (Lj rfl mr (BD (SO rfl mn (AA 2 rfl) bb.c0m bb.c0l) AG) (Ag (R1 rfl mx (AA 2 rfl) bb.c1m bb.c1l) AG) (by lia) ⟨rfl,y5,rfl,by simp⟩) (Ae 5 BJ.nd) ?_ ?_
  ·rintro j dd ρ' G' hd ⟨y5,rfl,rfl⟩;obtain⟨oP,rfl⟩:=Ci hd;have es:(List.range (j+1)).map (fun(j:Nat)=>((r0-1+(i:Nat),c0-1+(j:Int)):Sq))=(List.range j).map (fun(j:Nat)=>((r0-1+(i:Nat),c0-1+(j:Int)):Sq))++[(r0-1+(i:Nat),c0-1+(j:Int))]:=by
    rw[List.range_succ,List.map_append];rfl
   refine⟨_,rfl,BO (Ay (A7 hu (AL (AB (AA 4 rfl) (AB (AA 5 rfl) AE))) (AA 0 rfl) (.inl rfl) (BF (r0-1+(i:Nat),c0-1+(j:Int))) (A3 q))) (fun hp=>?_) (fun hp=>AJ (AJ ⟨_,rfl,?_⟩))⟩
   ·have NI:(!q.contains (r0-1+(i:Int),c0-1+(j:Int)))=true:=by rw[<-A4];exact hp
    refine A9 (d:=sq (r0-1+(i:Int),c0-1+(j:Int))) (AA 3 rfl) (AL (AB (AA 4 rfl) (AB (AA 5 rfl) AE))) AH ?_ (AJ (AJ ⟨_,rfl,?_⟩))
    ·rw[List.length_map];refine sz1 (Nat.le_trans (List.length_filter_le _ _) ?_);rw[List.length_append,Hr,List.length_map,List.length_range];have:i*(c1+2-(c0-1)).toNat<=10*10:=Nat.mul_le_mul (by lia) (by lia);lia
    ·rw[Ao,es,<-List.append_assoc,W3 _ _ _ NI]
   ·have NI:¬(!q.contains (r0-1+(i:Int),c0-1+(j:Int)))=true:=by rw[<-A4];exact Bool.eq_false_iff.mp hp
    rw[es,<-List.append_assoc,Ug _ _ _ NI]
  ·rintro ρ' G' ⟨y5,rfl,rfl⟩;rw[CJ];refine AJ ⟨_,_,rfl,?_⟩;rw[J8]
 ·rintro ρ' G' ⟨y4,y5,rfl,rfl⟩;rw[CJ];refine GZ (AA 3 rfl) AH ?_;rw[A5 hG];exact hR
theorem OG(F:Fun K "has_hole" "has_hole" Kz f fd)(ml:mg "len"=none)(FB:Df P w K mg base "bare_squares" DO 1 XT)(FR:Df P w K mg base "reached" Gq 3 (Iu P w K mg base 2))(FN:∃f',mg "all_around"=some (.ref f')/\DfA P w K mg base f' ["square"] 2 (NC aaM)):FnOk P w K mg base CX0 4 f fd HX (Af K V9):=by
 refine BN (k:=3) F JQ (fun A1 A outer s H E ds G R hr h=>?_);obtain⟨q,r0,r1,c0,c1,rfl,gd,bb,hR⟩:=h;obtain⟨f',hm,FA⟩:=FN;refine AQ 1 JQ.nd (AW FB (hr.mono (by lia)) (AB (AA 0 rfl) AE) ⟨q,r0,r1,c0,c1,rfl,gd,bb,rfl,rfl⟩) ?_;have el:atI ((DX q r0 r1 c0 c1).map sq) 0=some (sq (r0-1,c0-1)):=by obtain⟨r,e⟩:=UK bb;rw[e];exact DC (j:=0) rfl
 refine AO (JF (Nh (i:=(card aaR (·∈DX q r0 r1 c0 c1) (r0-1,c0-1):Nat)) (j:=((DX q r0 r1 c0 c1).length:Nat)) (CK (Mx ml (AW FR hr (AB (EE (AA 1 rfl) AG el) (AB (AA 1 rfl) (AB (Zy hm) AE)))
  ⟨(r0-1,c0-1),DX q r0 r1 c0 c1,_,f',aaM,rfl,.inr rfl,FA,?_,fun p L hp hL=>⟨p,_,rfl,AH,p,?_,A5 hp⟩⟩))) (Bg rfl ml (AA 1 rfl) (by simp[Jk])))) hR
 ·exact YC gd bb
 ·rw[List.length_map,hL.card]
theorem EO(F:Fun K "meet_by_corner_alone" "meet_by_corner_alone" Bh f fd):FnOk P w K mg base CX0 1 f fd Be (Af K XD):=by
 refine BN (k:=0) F EJ (fun A1 A outer s H E ds G R hr h=>?_);obtain⟨q,s',o,rfl,hR⟩:=h;have hu:(A.deeper (envOfC "meet_by_corner_alone" (AF Bh) s.heap.objs.size f A1)).units+9<cLine:=by have:=hr.units;lia
 refine AO (B8 (JF (Hn hu (AA 2 rfl) (AA 0 rfl) (.inl rfl) (BF o) (A3 q))) fun _=>B8 (JF (A7 hu (AL (AB (Am (AA 1 rfl) AG rfl) (AB (Am (AA 2 rfl) AG rfl) AE))) (AA 0 rfl) (.inl rfl) (BF (s'.1,o.2)) (A3 q)))
  fun _=>EG (JF (A7 hu (AL (AB (Am (AA 2 rfl) AG rfl) (AB (Am (AA 1 rfl) AG rfl) AE))) (AA 0 rfl) (.inl rfl) (BF (o.1,s'.2)) (A3 q)))) ?_
 have e1:=A4 q o;have e2:=A4 q (s'.1,o.2);have e3:=A4 q (o.1,s'.2);unfold MQ at hR;rw[<-e1,<-e2,<-e3]at hR;exact hR
theorem HY(F:Fun K "has_bare_corner" "has_bare_corner" Dw f fd)(FM:Df P w K mg base "meet_by_corner_alone" Be 1 XD)(FC:Df P w K mg base "corner_neighbours" BQ 1 (NC cnM)):FnOk P w K mg base CX0 2 f fd CQ (Af K (spF fun F=>.bl (IC F))):=by
 refine BN (k:=1) F CI (fun A1 A outer s H E ds G R hr h=>?_);obtain⟨q,rfl,gd,hR⟩:=h;replace hR:R (.bl (IC q)) G:=hR;refine Bc (l:=q.map sq) (fun i ρ' G'=>G=G'/\(∃y1 y2,ρ'=[some (fl q),y1,y2])/\((q.take i).any fun s=>(cnM s).any fun o=>MQ q s o)=false) PassesOwn.never rfl (Es (AA 0 rfl) ⟨rfl,rfl,⟨none,none,rfl⟩,by simp⟩) (Ae 1 CI.nd) ?_ ?_
 ·rintro i dd ρ' G' hd ⟨rfl,⟨y1,y2,rfl⟩,Wh⟩;rw[List.getElem?_map]at hd;obtain⟨x,hx,rfl⟩:=Option.map_eq_some_iff.mp hd;refine⟨_,rfl,?_⟩;refine Bc (l:=(cnM x).map sq) (fun j ρ' G'=>G=G'/\(∃y2,ρ'=[some (fl q),some (sq x),y2])/\(((cnM x).take j).any fun o=>MQ q x o)=false) PassesOwn.never rfl (By (AW FC hr (AB (AA 1 rfl) AE) ⟨x,rfl,_,rfl,rfl,rfl,⟨y2,rfl⟩,by simp⟩)) (Ae 2 CI.nd) ?_ ?_
  ·rintro j dd ρ' G' hd ⟨rfl,⟨y2,rfl⟩,NK⟩;rw[List.getElem?_map]at hd;obtain⟨o,ho,rfl⟩:=Option.map_eq_some_iff.mp hd;refine⟨_,rfl,BO (B7 (AW FM hr (AB (AA 0 rfl) (AB (AA 1 rfl) (AB (AA 2 rfl) AE))) ⟨q,x,o,rfl,rfl,rfl⟩)) (fun hp=>AO Fi ?_) (fun hp=>AJ (AJ ⟨rfl,⟨_,rfl⟩,?_⟩))⟩
   ·have:IC q=true:=by
     unfold IC;rw[List.any_eq_true];refine⟨x,List.mem_of_getElem? hx,?_⟩;rw[List.any_eq_true];exact⟨o,List.mem_of_getElem? ho,hp⟩
    rw[this]at hR;exact hR
   ·rw[List.take_add_one,ho,List.any_append,NK];simp[hp]
  ·rintro ρ' G' ⟨rfl,⟨y2,rfl⟩,NK⟩;rw[List.length_map,List.take_length]at NK;refine AJ ⟨rfl,⟨_,_,rfl⟩,?_⟩;rw[List.take_add_one,hx,List.any_append,Wh];simp[NK]
 ·rintro ρ' G' ⟨rfl,⟨y1,y2,rfl⟩,Wh⟩;rw[List.length_map,List.take_length]at Wh;refine AO Fi ?_;have:IC q=false:=Wh;rw[this]at hR;exact hR
theorem O7(F:Fun K "is_plain" "is_plain" Km f fd)(ml:mg "len"=none)(F1:Df P w K mg base "hangs_together" Cc 3 (spF fun F=>.bl (Je F)))(F2:Df P w K mg base "has_hole" HX 4 V9)(F3:Df P w K mg base "has_bare_corner" CQ 2 (spF fun F=>.bl (IC F))):FnOk P w K mg base CX0 5 f fd HZ (Af K (spF fun F=>.bl (C1 F))):=by
 refine BN (k:=4) F O8 (fun A1 A outer s H E ds G R hr h=>?_);obtain⟨q,rfl,gd,hR⟩:=h;obtain⟨r0,r1,c0,c1,bb⟩:=iZ gd.ne;refine BO (Ay (DB (Bg rfl ml (AA 0 rfl) (Jr _ _)) AG)) (fun hp=>?_) (fun hp=>AJ ?_)
 ·exfalso
  have:=List.length_pos_iff.mpr gd.ne
  rw[beq_iff_eq]at hp;lia
 refine AO (B8 (AW F1 (hr.mono (by lia)) (AB (AA 0 rfl) AE) ⟨q,rfl,gd,rfl,rfl⟩) fun _=>B8 (Mw (AW F2 hr (AB (AA 0 rfl) AE) ⟨q,r0,r1,c0,c1,rfl,gd,bb,rfl,rfl⟩)) fun _=>EG (Mw (AW F3 (hr.mono (by lia)) (AB (AA 0 rfl) AE) ⟨q,rfl,gd,rfl,rfl⟩))) ?_;rw[Za gd bb];exact hR
end
end TF
namespace TF
open PySem PySem.Spec L2
open PyProof.Rows hiding St RelV
section
variable {P:Program}{w:World}{K:PySem.W.Frag}{mg:Str->Option Value}{base:Heap}{f:Addr}{fd:FuncData}
theorem M0(F:Fun K "_law_hangs" "_law_hangs" D0 f fd)(ml:mg "len"=none)(FN:Df P w K mg base "_law_near" Eo 1 QW):FnOk P w K mg base CX0 2 f fd Ff (Af K (spF fun F=>.bl (Je F))):=by
 refine BN (k:=1) F CU (fun A1 A outer s H E ds G R hr h=>?_);obtain⟨q,rfl,gd,hR⟩:=h;replace hR:R (.bl (Je q)) G:=hR;have hu:(A.deeper (envOfC "_law_hangs" (AF D0) s.heap.objs.size f A1)).units+9<cLine:=by have:=hr.units;lia
 have nz:=gd.len;have h0:q.headD (0,0)∈q:=by
  cases q with
  |nil=>exact absurd rfl gd.ne
  |cons a r=>exact List.mem_cons_self ..
 refine AQ 1 CU.nd (Cb (AB (Am (AA 0 rfl) AG (R4 gd)) AE)) ?_;refine AQ 2 CU.nd AG ?_;refine DD (fun m ρ' G'=>G=G'/\∃(L:List Sq)(a:Nat),ρ'=[some (fl q),some (.lst (L.map sq)),some (.int (a:Nat))]/\L.Nodup/\q.headD (0,0)∈L/\(∀x∈L,Con nbR (·∈q) (q.headD (0,0)) x)/\(∀x∈L,x∈q)/\(∀x∈L.take a,∀y∈nbM x,y∈q->y∈L)/\m=q.length-a/\a<=L.length) PassesOwn.never (m0:=q.length)
  ⟨rfl,[q.headD (0,0)],0,rfl,by simp,by simp,fun x hx=>by rw[List.mem_singleton.mp hx];exact .base,fun x hx=>by rw[List.mem_singleton.mp hx];exact h0,by simp,rfl,by simp⟩ ?_
 rintro m ρ' G' ⟨rfl,L,a,rfl,nd,hs,hc,Uk,Gx,hm,lH⟩;have j5:=BZ nd Uk;refine CF (Ay (Nh (AA 2 rfl) (Bg rfl ml (AA 1 rfl) rfl))) ⟨fun hp=>?_,fun hp=>?_⟩
 ·have BC:a<L.length:=by have:=of_decide_eq_true hp;rw[List.length_map]at this;lia
  refine AQ 1 CU.nd (K5 (AA 1 rfl) (GY (Nc:=HD) (caps:=Le) (l:=((nbM L[a]).filter q.contains).map sq) (f:=CP 0) (fun d=>!((L.map sq).any fun e=>eqD e d)) id
   (B4 (psc:=AF D0) (PN:=JS) (by decide +kernel) rfl rfl) rfl
   (By (AW FN hr (AB (AA 0 rfl) (AB (EE (AA 1 rfl) (AA 2 rfl) (Dr sq (DC (List.getElem?_eq_getElem BC)))) AE)) ⟨q,L[a],rfl,_,rfl,rfl,rfl⟩))
   (fun C s' H' fp=>Ae 0 (show HD.Nodup by decide +kernel)) (BK rfl) ?_ ?_) ?_) ?_
  ·rw[List.length_map];exact Nat.le_trans (List.length_filter_le _ _) (show 4<=5000 by decide)
  ·intro C s' H' fp G2 d hd kn;obtain⟨y,_,rfl⟩:=List.mem_map.mp hd;exact⟨_,rfl,Ay (A7 hu (AA 0 rfl) (AA 1 rfl) (.inr (.inl rfl)) (BF y) (A3 L)),fun _=>AA 0 rfl⟩
  ·rw[K3,List.length_map,List.length_map]
   have:=Nat.le_trans (List.length_filter_le (fun y=>!((L.map sq).any fun e=>eqD e (sq y))) ((nbM L[a]).filter q.contains)) (Nat.le_trans (List.length_filter_le _ _) (show 4<=5000 by decide))
   have h4:(((nbM L[a]).filter q.contains).filter fun y=>!((L.map sq).any fun e=>eqD e (sq y))).length<=4:=Nat.le_trans (List.length_filter_le _ _) (Nat.le_trans (List.length_filter_le _ _) (Nat.le_refl 4));exact sz (by lia)
  refine AQ 2 CU.nd (PX.cast (d':=.int ((a+1:Nat):Int)) (Ag (AA 2 rfl) AG) rfl) (AJ ?_);have ef:(fun y=>!((L.map sq).any fun e=>eqD e (sq y)))=fun y=>!L.contains y:=funext fun y=>by rw[A4]
  have em:∀y,y∈(((nbM L[a]).filter q.contains).filter fun y=>!L.contains y)↔y∈nbM L[a]/\y∈q/\y∉L:=fun y=>by
   simp only[List.mem_filter,List.contains_eq_mem,decide_eq_true_eq,Bool.not_eq_true',decide_eq_false_iff_not,and_assoc]
  refine⟨q.length-(a+1),by lia,rfl,L++(((nbM L[a]).filter q.contains).filter fun y=>!L.contains y),a+1,?_,?_,List.mem_append_left _ hs,?_,?_,?_,rfl,by rw[List.length_append];lia⟩
  ·rw[K3,ef,<-List.map_append];rfl
  ·rw[List.nodup_append];refine⟨nd,((Px _).filter _).filter _,fun x hx y hy e=>?_⟩;subst e;exact((em x).mp hy).2.2 hx
  ·intro x hx;rcases List.mem_append.mp hx with h|h
   ·exact hc x h
   ·obtain⟨h1,h2,_⟩:=(em x).mp h;exact .step (hc _ (List.getElem_mem BC)) h1 h2
  ·intro x hx;rcases List.mem_append.mp hx with h|h
   ·exact Uk x h
   ·exact((em x).mp h).2.1
  ·intro x hx y h1 h2;rw[List.take_append_of_le_length (by lia),List.take_add_one,List.getElem?_eq_getElem BC]at hx;rcases List.mem_append.mp hx with h|h
   ·exact List.mem_append_left _ (Gx x h y h1 h2)
   ·simp at h;subst h;by_cases hy:y∈L
    ·exact List.mem_append_left _ hy
    ·exact List.mem_append_right _ ((em y).mpr ⟨h1,h2,hy⟩)
 ·have Jl:a=L.length:=by have:=of_decide_eq_false hp;rw[List.length_map]at this;lia
  rw[Jl,List.take_length]at Gx;have rl:RL nbR (·∈q) (q.headD (0,0)) L:=Uu nd hs hc Gx;refine AO (JF (DB (Bg rfl ml (AA 1 rfl) rfl) (Bg rfl ml (AA 0 rfl) (Jr _ _)))) ?_;unfold Je at hR;rw[rl.card]at hR;rw[List.length_map];exact hR
theorem Ks(F:Fun K "_law_no_hole" "_law_no_hole" EF f fd)(ml:mg "len"=none)(mr:mg "range"=none):FnOk P w K mg base CX0 1 f fd D8 (Af K (spF fun F=>.bl (Dv F))):=by
 refine BN (k:=0) F BW (fun A1 A outer s H E ds G R hr h=>?_);obtain⟨q,rfl,gd,hR⟩:=h;replace hR:R (.bl (Dv q)) G:=hR;have hu:(A.deeper (envOfC "_law_no_hole" (AF EF) s.heap.objs.size f A1)).units+9<cLine:=by have:=hr.units;lia
 refine A0 1 BW.nd (XQ (k:=sq (-1,-1)) hu (fun _ _=>AL (AB (Ey AG) (AB (Ey AG) AE))) (fun _ _=>Fi) (D4 _) ⟨_,rfl⟩ (fun p1 Jv=>?_));refine CY (ds:=[sq (-1,-1)]) 2 BW.nd (AB (AL (AB (Ey AG) (AB (Ey AG) AE))) AE) (fun p2 Hh=>?_);have Bk:p1≠p2:=by rintro rfl;rw[AH]at Hh;cases Hh
 have cY:G p2=none:=by rw[Ad (Ne.symm Bk)]at Hh;exact Hh
 have m1:g2 q (-1,-1):=⟨by decide,fun hm=>by have:=gd.inn _ hm;simp at this⟩;have HV:∀L:List Sq,L.Nodup->(∀x∈L,Con n9R (g2 q) (-1,-1) x)->L.length<=100:=fun L h1 h2=>by
  have:=BZ h1 (m:=EA (-1) (-1) 10 10) fun x hx=>Cn.mpr (by have:=((h2 x hx).in m1).1;lia)
  rw[Hr]at this;exact this
 refine DD (fun m ρ' G'=>∃(L W:List Sq)(y3 y4 y5 y6:Option Dat),ρ'=[some (fl q),some (.fn p1),some (.fn p2),y3,y4,y5,y6]/\G'=put (put G p1 (.dct (L.map kvT))) p2 (.lst (W.map sq)) ∧
   L.Nodup/\(-1,-1)∈L/\(∀x∈L,Con n9R (g2 q) (-1,-1) x)/\(∀x∈W,x∈L)/\(∀x∈L,x∈W\/∀y∈n9 x,g2 q y->y∈L)/\m=2*(100-L.length)+W.length/\m<=200) PassesOwn.never
  (m0:=2*(100-1)+1) ⟨[(-1,-1)],[(-1,-1)],none,none,none,none,rfl,rfl,by simp,by simp,fun x hx=>by rw[List.mem_singleton.mp hx];exact .base,fun x hx=>hx,fun x hx=>.inl hx,rfl,by lia⟩ ?_
 rintro m ρ' G' ⟨L,W,y3,y4,y5,y6,rfl,rfl,nd,hs,hc,hW,Gx,hm,fc⟩;refine CF (RF (AA 2 rfl) AH rfl) ⟨fun hp=>?_,fun hp=>?_⟩
 ·have Mf:0<W.length:=by
   cases W with
   |nil=>simp at hp
   |cons a r=>simp
  obtain⟨W0,x,rfl⟩:∃W0 x,W=W0++[x]:=⟨W.dropLast,W.getLast (List.ne_nil_of_length_pos Mf),(List.dropLast_concat_getLast _).symm⟩;rw[List.length_append,List.length_singleton]at hm;refine Ov (f:=Fx 3 4) (Dj 3 4 rfl BW.nd) (RI (d:=sq x) (l:=W0.map sq) (AA 2 rfl) (by rw[AH,List.map_append];rfl) ⟨_,rfl,?_⟩);rw[Ao];have hx:x∈L:=hW x (by simp);have Au:=HV L nd hc;refine Bc (l:=BI 0 9) (fun i ρ' G'=>∃(L W:List Sq)(y5 y6:Option Dat),ρ'=[some (fl q),some (.fn p1),some (.fn p2),some (.int x.1),some (.int x.2),y5,y6]/\G'=put (put G p1 (.dct (L.map kvT))) p2 (.lst (W.map sq)) ∧
    L.Nodup/\(-1,-1)∈L/\(∀x∈L,Con n9R (g2 q) (-1,-1) x)/\(∀x∈W,x∈L)/\x∈L/\(∀z∈L,z∈W\/(∀y∈n9 z,g2 q y->y∈L)\/z=x)/\(∀y∈(n9 x).take i,g2 q y->y∈L)/\2*(100-L.length)+W.length+1<=m) PassesOwn.never rfl
   (Gn rfl mr AG (by decide) (by decide) ⟨rfl,L,W0,y5,y6,rfl,rfl,nd,hs,hc,fun z hz=>hW z (by simp[hz]),hx,?_,by simp,by lia⟩) (Ae 5 BW.nd) ?_ ?_
  ·intro z hz;rcases Gx z hz with h|h
   ·rcases List.mem_append.mp h with h|h
    ·exact .inl h
    ·exact .inr (.inr (List.mem_singleton.mp h))
   ·exact .inr (.inl h)
  ·clear Au hx Gx hW hc hs nd hm;rintro i dd ρ' G' hd ⟨L,W,y5,y6,rfl,rfl,nd,hs,hc,hW,hx,Gx,hi,hm⟩;obtain⟨BC,rfl⟩:=Ci hd;obtain⟨y,mC⟩:∃y:Sq,y=(x.1+((i / 3:Nat):Int)-1,x.2+((i%3:Nat):Int)-1):=⟨_,rfl⟩;have hy:(n9 x)[i]?=some y:=by unfold n9;rw[List.getElem?_map,List.getElem?_range BC,mC];rfl
   have ag:y∈n9 x:=List.mem_of_getElem? hy;have et:(n9 x).take (i+1)=(n9 x).take i++[y]:=by rw[List.take_add_one,hy];rfl
   have FY:put (put G p1 (.dct (L.map kvT))) p2 (.lst (W.map sq)) p1=some (.dct (L.map kvT)):=by rw[Ad Bk,AH]
   have Au:=HV L nd hc;refine⟨_,rfl,?_⟩;refine AQ 6 BW.nd (PX.cast (d':=sq y) (AL (AB (BD (Ag (AA 3 rfl) (Ms (AA 5 rfl) AG ⟨by decide,by decide⟩)) AG) (AB (BD (Ag (AA 4 rfl) (Ie (AA 5 rfl) AG (by decide))) AG) AE))) ?_) ?_
   ·rw[mC];simp only[sq,Dat.tup.injEq,List.cons.injEq,Dat.int.injEq,and_true];lia
   refine BO (Cm (Om (Ey AG) (Am (AA 6 rfl) AG rfl) AG) fun _=>Cm (Om (Ey AG) (Am (AA 6 rfl) AG rfl) AG) fun _=>Cm (Ay (A7 hu (AA 6 rfl) (AA 0 rfl) (.inl rfl) (BF y) (A3 q))) fun _=>DM (Ay (Bw hu (AA 6 rfl) (AA 1 rfl) FY (D4 y) ⟨_,rfl⟩))).t (fun hp=>?_) (fun hp=>AJ (AJ ?_))
   ·rw[A4,Ho]at hp;simp only[Bool.and_eq_true,Bool.not_eq_true',List.contains_eq_mem,decide_eq_true_eq,decide_eq_false_iff_not]at hp;obtain⟨⟨k1,k2⟩,⟨k3,k4⟩,k5,UN⟩:=hp;have gz:g2 q y:=⟨⟨k1,k2,k3,k4⟩,k5⟩;refine Eb (d:=.bl true) hu Fi (AA 1 rfl) (AA 6 rfl) FY (D4 y) ⟨_,rfl⟩ (by rw[List.length_map];exact sz1 (by lia)) ?_;rw[Wl UN];refine A9 (d:=sq y) (l:=W.map sq) (AA 2 rfl) (AA 6 rfl) (by rw[Ad (Ne.symm Bk),AH]) (by rw[List.length_map];exact sz1 (by lia)) (AJ (AJ ?_));refine⟨L++[y],W++[y],_,_,rfl,?_,?_,by simp[hs],?_,?_,by simp[hx],?_,?_,?_⟩
    ·rw[bD Bk];simp only[List.map_append,List.map_cons,List.map_nil]
    ·rw[List.nodup_append];exact⟨nd,by simp,fun a ha b hb e=>by rw[List.mem_singleton.mp hb]at e;subst e;exact UN ha⟩
    ·intro z hz;rcases List.mem_append.mp hz with h|h
     ·exact hc z h
     ·rw[List.mem_singleton.mp h];exact .step (hc x hx) ag gz
    ·intro z hz;rcases List.mem_append.mp hz with h|h
     ·exact List.mem_append_left _ (hW z h)
     ·exact List.mem_append_right _ h
    ·intro z hz;rcases List.mem_append.mp hz with h|h
     ·rcases Gx z h with h|h|h
      ·exact .inl (List.mem_append_left _ h)
      ·exact .inr (.inl fun y' h1 h2=>List.mem_append_left _ (h y' h1 h2))
      ·exact .inr (.inr h)
     ·exact .inl (List.mem_append_right _ h)
    ·intro y' h1 h2;rw[et]at h1;rcases List.mem_append.mp h1 with h|h
     ·exact List.mem_append_left _ (hi y' h h2)
     ·exact List.mem_append_right _ h
    ·have VI:=HV (L++[y]) (by
      rw[List.nodup_append];exact⟨nd,by simp,fun a ha b hb e=>by rw[List.mem_singleton.mp hb]at e;subst e;exact UN ha⟩) (by
      intro z hz;rcases List.mem_append.mp hz with h|h
      ·exact hc z h
      ·rw[List.mem_singleton.mp h];exact .step (hc x hx) ag gz)
     simp only[List.length_append,List.length_singleton]at VI ⊢;lia
   ·rw[A4,Ho]at hp;refine⟨L,W,_,_,rfl,rfl,nd,hs,hc,hW,hx,Gx,?_,hm⟩;intro y' h1 h2;rw[et]at h1;rcases List.mem_append.mp h1 with h|h
    ·exact hi y' h h2
    ·rw[List.mem_singleton.mp h]at h2 ⊢;refine Classical.byContradiction fun hn=>?_;obtain⟨⟨k1,k2,k3,k4⟩,k5⟩:=h2;simp[k1,k2,k3,k4,k5,hn]at hp
  ·clear Au hx Gx hW hc hs nd hm;rintro ρ' G' ⟨L,W,y5,y6,rfl,rfl,nd,hs,hc,hW,hx,Gx,hi,hm⟩;rw[CJ,show(n9 x).take 9=n9 x from List.take_of_length_le (by simp[n9])]at hi;refine AJ ⟨_,hm,L,W,_,_,_,_,rfl,rfl,nd,hs,hc,hW,fun z hz=>?_,rfl,by lia⟩;rcases Gx z hz with h|h|rfl
   ·exact .inl h
   ·exact .inr h
   ·exact .inr hi
 ·have fI:W=[]:=by
   cases W with
   |nil=>rfl
   |cons a r=>simp at hp
  subst fI;have rl:RL n9R (g2 q) (-1,-1) L:=Uu nd hs hc fun x hx y h1 h2=>by
   rcases Gx x hx with h|h
   ·cases h
   ·exact h y h1 h2
  refine Bx (CK (CK (PX.we (JF (DB (Ye ml (AA 1 rfl) (by rw[Ad Bk,AH])) (BD AG (Bg rfl ml (AA 0 rfl) (Jr _ _))))) ⟨p2,p1,?_⟩)));rw[A5 (by rw[Ad (Ne.symm Bk)];exact cY),A5 Jv,List.length_map];unfold Dv at hR;rw[rl.card]at hR;exact hR
theorem Ji(F:Fun K "_law_no_pinch" "_law_no_pinch" DZ f fd):FnOk P w K mg base CX0 1 f fd DU (Af K (spF fun F=>.bl (!Ca F))):=by
 refine BN (k:=0) F Cv (fun A1 A outer s H E ds G R hr h=>?_);obtain⟨q,rfl,gd,hR⟩:=h;replace hR:R (.bl (!Ca q)) G:=hR;have hu:(A.deeper (envOfC "_law_no_pinch" (AF DZ) s.heap.objs.size f A1)).units+9<cLine:=by have:=hr.units;lia
 refine Bc (l:=q.map sq) (f:=Fx 1 2) (fun i ρ' G'=>G=G'/\(∃y1 y2 y3,ρ'=[some (fl q),y1,y2,y3])/\((q.take i).any fun s=>[(-1:Int),1].any fun t=>Et q s t)=false) PassesOwn.never rfl (Es (AA 0 rfl) ⟨rfl,rfl,⟨none,none,none,rfl⟩,by simp⟩) (Dj 1 2 rfl Cv.nd) ?_ ?_
 ·rintro i dd ρ' G' hd ⟨rfl,⟨y1,y2,y3,rfl⟩,Wh⟩;rw[List.getElem?_map]at hd;obtain⟨x,hx,rfl⟩:=Option.map_eq_some_iff.mp hd;refine⟨_,rfl,?_⟩;refine Bc (l:=[(-1:Int),1].map Dat.int) (fun j ρ' G'=>G=G'/\(∃y3,ρ'=[some (fl q),some (.int x.1),some (.int x.2),y3])/\(([(-1:Int),1].take j).any fun t=>Et q x t)=false) PassesOwn.never rfl (Es (AL (AB (Ey AG) (AB AG AE))) ⟨rfl,rfl,⟨y3,rfl⟩,by simp⟩) (Ae 3 Cv.nd) ?_ ?_
  ·rintro j dd ρ' G' hd ⟨rfl,⟨y3,rfl⟩,NK⟩;rw[List.getElem?_map]at hd;obtain⟨o,ho,rfl⟩:=Option.map_eq_some_iff.mp hd;have e1:=A4 q (x.1+1,x.2+o);have e2:=A4 q (x.1,x.2+o);have e3:=A4 q (x.1+1,x.2);refine⟨_,rfl,BO (p:=Et q x o) ?_ (fun hp=>AO Fi ?_) (fun hp=>AJ (AJ ⟨rfl,⟨_,rfl⟩,?_⟩))⟩
   ·unfold Et;rw[<-e1,<-e2,<-e3];exact(Cm (Ay (Hn hu (AL (AB (Ag (AA 1 rfl) AG) (AB (Ag (AA 2 rfl) (AA 3 rfl)) AE))) (AA 0 rfl) (.inl rfl) (BF (x.1+1,x.2+o)) (A3 q))) fun _=>Cm (Ay (A7 hu (AL (AB (AA 1 rfl) (AB (Ag (AA 2 rfl) (AA 3 rfl)) AE))) (AA 0 rfl) (.inl rfl) (BF (x.1,x.2+o)) (A3 q)))
     fun _=>DM (Ay (A7 hu (AL (AB (Ag (AA 1 rfl) AG) (AB (AA 2 rfl) AE))) (AA 0 rfl) (.inl rfl) (BF (x.1+1,x.2)) (A3 q)))).t
   ·have:Ca q=true:=by
     unfold Ca;rw[List.any_eq_true];refine⟨x,List.mem_of_getElem? hx,?_⟩;rw[List.any_eq_true];exact⟨o,List.mem_of_getElem? ho,hp⟩
    rw[this]at hR;exact hR
   ·rw[List.take_add_one,ho,List.any_append,NK];simp[hp]
  ·rintro ρ' G' ⟨rfl,⟨y3,rfl⟩,NK⟩;rw[List.length_map,List.take_length]at NK;refine AJ ⟨rfl,⟨_,_,_,rfl⟩,?_⟩;rw[List.take_add_one,hx,List.any_append,Wh,Option.toList_some,List.any_cons,NK];rfl
 ·rintro ρ' G' ⟨rfl,⟨y1,y2,y3,rfl⟩,Wh⟩;rw[List.length_map,List.take_length]at Wh;refine AO Fi ?_;have:Ca q=false:=Wh;rw[this]at hR;exact hR
theorem Mk(F:Fun K "_law_plain" "_law_plain" JX f fd)(F1:Df P w K mg base "_law_hangs" Ff 2 (spF fun F=>.bl (Je F)))(F2:Df P w K mg base "_law_no_hole" D8 1 (spF fun F=>.bl (Dv F)))(F3:Df P w K mg base "_law_no_pinch" DU 1 (spF fun F=>.bl (!Ca F))):FnOk P w K mg base CX0 3 f fd GQ (Af K (spF fun F=>.bl (C1 F))):=by refine BN (k:=2) F MZ (fun A1 A outer s H E ds G R hr h=>?_);obtain⟨q,rfl,gd,hR⟩:=h;refine AO (B8 (AW F1 hr (AB (AA 0 rfl) AE) ⟨q,rfl,gd,rfl,rfl⟩) fun _=>B8 (AW F2 (hr.mono (by lia)) (AB (AA 0 rfl) AE) ⟨q,rfl,gd,rfl,rfl⟩) fun _=>EG (AW F3 (hr.mono (by lia)) (AB (AA 0 rfl) AE) ⟨q,rfl,gd,rfl,rfl⟩)) ?_;rw[<-K8];exact hR
end
end TF
namespace TF
open PySem PySem.Spec L2
open PyProof.Rows hiding St RelV
section
variable {P:Program}{w:World}{K:PySem.W.Frag}{mg:Str->Option Value}{base:Heap}{f:Addr}{fd:FuncData}
theorem Im(F:Fun K "holds_squares" "holds_squares" Cw f fd)(mi:mg "isinstance"=none)(mt:mg "tuple"=none)(ma:mg "all"=none)(FP:Df P w K mg base "is_place" FV 2 NJ)(FR:Df P w K mg base "is_rising" GC 1 O5):FnOk P w K mg base CX0 3 f fd C2 (Af K Sj):=by
 refine BN (k:=2) F JG (fun A1 A outer s H E ds G R hr h=>?_);obtain⟨M,rfl,hz,up,hR⟩:=h;refine AO (B8 (HP (T:="tuple") (T':="tuple") mi mt (AA 0 rfl)) fun _=>B8 (q:=true) (Qr (bs:=(M.map sq).map DR) rfl ma (PX.cast (ID (Nc:=D1) (caps:=Hm) (l:=M.map sq) (f:=CP 0) (fun d=>.bl (DR d))
  (B4 (psc:=AF Cw) (PN:=Fb) (by decide +kernel) rfl rfl) rfl
  (Es (AA 0 rfl) ⟨rfl,rfl⟩)
  (fun C s' H' fp=>Ae 0 (show D1.Nodup by decide +kernel)) (BK rfl) (by rw[List.length_map];lia) ?_) (by simp[List.map_map,Function.comp_def]))) fun _=>EG (PX.cast (AW FR (hr.mono (by lia)) (AB (AA 0 rfl) AE) ⟨M.map sq,rfl,by rw[List.length_map];exact hz,Yn M,rfl,rfl⟩) (by rw[(Xh M).mpr up]))) ?_
 ·intro C s' H' fp G2 d hd kn;obtain⟨q,_,rfl⟩:=List.mem_map.mp hd;exact⟨_,rfl,AW FP hr (AB (AA 0 rfl) AE) ⟨sq q,rfl,VB q,rfl,rfl⟩⟩
 ·rw[Tc];exact hR
end
end TF
namespace TF
open PySem PySem.Spec L2
open PyProof.Rows hiding St RelV
section
variable {P:Program}{w:World}{K:PySem.W.Frag}{mg:Str->Option Value}{base:Heap}{f:Addr}{fd:FuncData}
theorem N1(F:Fun K "is_light" "is_light" Kw f fd):FnOk P w K mg base CX0 1 f fd HQ (Af K SY):=by refine BN (k:=0) F Og (fun A1 A outer s H E ds G R hr h=>?_);obtain⟨q,rfl,hR⟩:=h;exact AO (JF (DB (Ie (Ag (Am (AA 0 rfl) AG rfl) (Am (AA 0 rfl) AG rfl)) AG (by decide)) AG)) hR
theorem Nn(F:Fun K "ways_from" "ways_from" JR f fd):FnOk P w K mg base CX0 1 f fd Fv (Af K Rn):=by
 refine BN (k:=0) F Bl (fun A1 A outer s H E ds G R hr h=>?_);obtain⟨q,rfl,hR⟩:=h;refine AQ 1 Bl.nd (Am (AA 0 rfl) AG rfl) ?_;refine AQ 2 Bl.nd (Am (AA 0 rfl) AG rfl) ?_;refine AQ 3 Bl.nd (AL (AB (BD (AA 1 rfl) AG) (AB (BD (AA 2 rfl) AG) AE))) ?_;refine AQ 4 Bl.nd (AL (AB (BD (AA 1 rfl) AG) (AB (AA 2 rfl) AE))) ?_;refine AQ 5 Bl.nd (AL (AB (AA 1 rfl) (AB (BD (AA 2 rfl) AG) AE))) ?_;refine AQ 6 Bl.nd (AL (AB (AA 1 rfl) (AB (AA 2 rfl) AE))) ?_;exact AO (Cb (AB (AL (AB (AL (AB (BD (AA 1 rfl) AG) (AB (AA 2 rfl) AE))) (AB (AA 3 rfl) (AB (AA 4 rfl) AE))))
  (AB (AL (AB (AL (AB (AA 1 rfl) (AB (BD (AA 2 rfl) AG) AE))) (AB (AA 5 rfl) (AB (AA 3 rfl) AE))))
  (AB (AL (AB (AL (AB (AA 1 rfl) (AB (Ag (AA 2 rfl) AG) AE))) (AB (AA 4 rfl) (AB (AA 6 rfl) AE))))
  (AB (AL (AB (AL (AB (Ag (AA 1 rfl) AG) (AB (AA 2 rfl) AE))) (AB (AA 6 rfl) (AB (AA 5 rfl) AE)))) AE))))) hR
theorem Ng(F:Fun K "is_walked" "is_walked" Dt f fd)(mi:mg "min"=none)(ma:mg "max"=none):FnOk P w K mg base CX0 1 f fd GX (Af K N7):=by
 refine BN (k:=0) F M3 (fun A1 A outer s H E ds G R hr h=>?_);obtain⟨q,l,a,b,rfl,hR⟩:=h;have hu:(A.deeper (envOfC "is_walked" (AF Dt) s.heap.objs.size f A1)).units+20<cLine:=by have:=hr.units;lia
 have YA:(A.deeper (envOfC "is_walked" (AF Dt) s.heap.objs.size f A1)).units+9<cLine:=by lia
 unfold Lz at hR;refine BO (Cm (Ay (A7 YA (AA 2 rfl) (AA 0 rfl) (.inl rfl) (BF a) (A3 q))) fun _=>DM (Ay (A7 YA (AA 3 rfl) (AA 0 rfl) (.inl rfl) (BF b) (A3 q)))).t (fun hp=>?_) (fun hp=>AJ ?_)
 ·rw[A4,A4]at hp;simp only[Bool.and_eq_true,Bool.not_eq_true']at hp;rw[hp.1,hp.2]at hR;exact AO Fi hR
 ·rw[A4,A4]at hp;have NI:(q.contains a||q.contains b)=true:=by
   cases h1:q.contains a<;>cases h2:q.contains b<;>rw[h1,h2]at hp<;>simp at hp ⊢
  rw[NI,Bool.true_and]at hR;refine AO (JF (A7 (d1:=AY (DQ a b,DL a b)) YA (AL (AB (PC rfl hu mi (AA 2 rfl) (AA 3 rfl)) (AB (Ou rfl hu ma (AA 2 rfl) (AA 3 rfl)) AE))) (AA 1 rfl) (.inl rfl) (Co _) (Ez l))) ?_;rw[Ip];exact hR
theorem Lb(F:Fun K "steps_from" "steps_from" IM f fd)(FL:Df P w K mg base "is_light" HQ 1 SY)(FW:Df P w K mg base "ways_from" Fv 1 Rn)(FK:Df P w K mg base "is_walked" GX 1 N7):FnOk P w K mg base CX0 2 f fd E6 (Af K Ol):=by
 refine BN (k:=1) F EC (fun A1 A outer s H E ds G R hr h=>?_);obtain⟨q,l,c,rfl,hR⟩:=h;refine CY 3 EC.nd AE (fun p hp=>?_);refine Bc (l:=(JN c).map tri) (f:=bo 4 5 6) (fun i ρ' G'=>(∃x4 x5 x6,ρ'=[some (fl q),some (lay l),some (sq c),some (.fn p),x4,x5,x6])/\G'=put G p (.lst (((((JN c).take i).filter fun t=>Lz q l t.2.1 t.2.2).map fun t=>(t.1,sgn t.2.1)).map pi))) PassesOwn.never rfl
  (By (AW FW hr (AB (AA 2 rfl) AE) ⟨c,rfl,_,rfl,rfl,⟨none,none,none,rfl⟩,by simp⟩)) (ZQ 4 5 6 rfl EC.nd) ?_ ?_
 ·rintro i dd ρ' G' hd ⟨⟨x4,x5,x6,rfl⟩,rfl⟩;rw[List.getElem?_map]at hd;obtain⟨t,ht,rfl⟩:=Option.map_eq_some_iff.mp hd;have hi:i<4:=(List.getElem?_eq_some_iff.mp ht).1;have et:(JN c).take (i+1)=(JN c).take i++[t]:=by rw[List.take_add_one,ht];rfl
  have Au:((((JN c).take i).filter fun t=>Lz q l t.2.1 t.2.2).map fun t=>(t.1,sgn t.2.1)).length<=4:=by
   rw[List.length_map];exact Nat.le_trans (List.length_filter_le _ _) (by rw[List.length_take];lia)
  refine⟨_,rfl,?_⟩;refine BO (B7 (AW FK hr (AB (AA 0 rfl) (AB (AA 1 rfl) (AB (AA 5 rfl) (AB (AA 6 rfl) AE)))) ⟨q,l,t.2.1,t.2.2,rfl,rfl,rfl⟩)) (fun hw=>?_) (fun hw=>AJ (AJ ?_))
  ·refine A9 (d:=pi (t.1,sgn t.2.1)) (AA 3 rfl) (AL (AB (AA 4 rfl) (AB (XX (B7 (AW FL hr (AB (AA 5 rfl) AE) ⟨t.2.1,rfl,rfl,rfl⟩)) (fun hl=>PX.cast AG ?_) (fun hl=>PX.cast (Ey AG) ?_)) AE))) AH (by rw[List.length_map];exact sz1 (by lia)) (AJ (AJ ⟨⟨_,_,_,rfl⟩,?_⟩))
   ·unfold sgn;rw[if_pos (by simpa using hl)]
   ·unfold sgn;rw[if_neg (by simpa using hl)]
   ·rw[Ao,et,List.filter_append,List.map_append,List.map_append];rw[List.filter_cons_of_pos (by simpa using hw)];rfl
  ·refine⟨⟨_,_,_,rfl⟩,?_⟩;rw[et,List.filter_append,List.filter_cons_of_neg (by simpa using hw)];simp
 ·rintro ρ' G' ⟨⟨x4,x5,x6,rfl⟩,rfl⟩;rw[List.length_map,List.take_of_length_le (Nat.le_refl _)];refine GZ (AA 3 rfl) AH ?_;rw[A5 hp];exact hR
end
end TF
namespace TF
open PySem PySem.Spec L2
open PyProof.Rows hiding St RelV
def kvI(v:Sq->Int)(y:Sq):Dat×Dat:=(sq y,.int (v y))
theorem IL(v:Sq->Int)(L:List Sq)(y:Sq):Ab (L.map (kvI v)) (sq y)=if y∈L then some (.int (v y))else none:=OF L (fun y=>.int (v y)) y
theorem Y2{v:Sq->Int}{L:List Sq}{y:Sq}(h:y∉L):EX (L.map (kvI v)) (sq y) (.int (v y))=(L++[y]).map (kvI v):=by
 rw[J7,List.map_append]
 ·rfl
 ·rw[IL,if_neg h]
theorem W8{F:List Sq}(gd:Good F):QR (F.map sq) none (some 1)=[sq (F.headD (0,0))]:=by
 cases F with
 |nil=>exact absurd rfl gd.ne
 |cons a r=>simp[QR,HT.sIx]
section
variable {P:Program}{w:World}{K:PySem.W.Frag}{mg:Str->Option Value}{base:Heap}{f:Addr}{fd:FuncData}
theorem QY(F:Fun K "heights" "heights" Eg f fd)(ml:mg "len"=none)(ja:mg "list"=none)(md:mg "dict"=none)(ph:mg "sorted"=none)(FH:Df P w K mg base "holds_squares" C2 3 Sj)(FP:Df P w K mg base "is_plain" HZ 5 (spF fun F=>.bl (C1 F)))(FS:Df P w K mg base "steps_from" E6 2 Ol) :
  FnOk P w K mg base CX0 6 f fd JE (Af K gw):=by
 refine BN (k:=5) F DH (fun A1 A outer s H E ds G R hr h=>?_);obtain⟨q,l,h,rfl,pl,hp,I,hR⟩:=h;have gd:=pl.gd;have hang:=SG gd hp;have ax:=gd.len;have hu:(A.deeper (envOfC "heights" (AF Eg) s.heap.objs.size f A1)).units+20<cLine:=by have:=hr.units;lia
 have YA:(A.deeper (envOfC "heights" (AF Eg) s.heap.objs.size f A1)).units+9<cLine:=by lia
 obtain⟨x0,Yq⟩:∃x0,x0=q.headD (0,0):=⟨_,rfl⟩;obtain⟨v,hv⟩:∃v:Sq->Int,v=fun y=>h l y-h l x0:=⟨_,rfl⟩;have v0:v x0=0:=by rw[hv];simp
 have vs:∀{c:Sq}{p:Sq×Int},p∈B9 q l c->v p.1=v c+p.2:=fun hp=>by
  have:=pl.side I hp
  rw[hv];simp only;lia
 have c0:x0∈Cu q:=(IE gd).mpr ⟨_,by rw[Yq];exact GA gd,Aj.mpr (.inl rfl)⟩;refine BO (p:=false) (PXT.cast (Kj (CO (B7 (AW FH (hr.mono (by lia)) (AB (AA 0 rfl) AE) ⟨q,rfl,by lia,gd.up,rfl,rfl⟩))) (fun _=>Js (CO (B7 (AW FP hr (AB (AA 0 rfl) AE) ⟨q,rfl,gd,rfl,rfl⟩))))).t (by rw[hp];rfl)) (fun h=>absurd h (by decide)) (fun _=>AJ ?_);refine A0 2 DH.nd (WN (l:=[sq x0]) ja (PX.cast (Iy (ol:=none) (oh:=some 1) (AA 0 rfl) trivial AG) (by rw[W8 gd,Yq])) (fun p2 Hh=>?_));refine A0 3 DH.nd (Vb (L:=[(x0,0)]) md hu rfl (PX.cast (Wa (Nc:=JO) (caps:=Oo) (f:=CP 0) (l:=[sq x0]) (fun d=>.tup [d,.int 0])
  (B4 (psc:=AF Eg) (PN:=MF) (by decide +kernel) rfl rfl) rfl (AA 2 rfl) AH
  (fun C s' H' fp=>Ae 0 (show JO.Nodup by decide +kernel)) (BK rfl) (by exact sz1 (show 1<=5000 by decide)) (fun C s' H' fp G' d hd=>⟨_,rfl,AL (AB (AA 0 rfl) (AB AG AE))⟩)) rfl) (by simp) (fun p1 Jv=>?_))
 have Bk:p2≠p1:=by rintro rfl;rw[AH]at Jv;cases Jv
 have Mh:G p1=none:=by rw[Ad (Ne.symm Bk)]at Jv;exact Jv
 have few:∀L:List Sq,L.Nodup->(∀x∈L,x∈Cu q)->L.length<=81:=fun L h1 h2=>Nat.le_trans (BZ h1 h2) (Ob q);refine DD (fun m ρ' G'=>∃(L W:List Sq)(y4 y5 y6:Option Dat),ρ'=[some (fl q),some (lay l),some (.fn p2),some (.fn p1),y4,y5,y6]/\G'=put (put G p2 (.lst (W.map sq))) p1 (.dct (L.map (kvI v))) ∧
   L.Nodup/\x0∈L/\(∀x∈L,x∈Cu q)/\(∀x∈W,x∈L)/\(∀x∈L,x∈W\/∀p∈B9 q l x,p.1∈L)/\m=2*(81-L.length)+W.length/\m<=200) PassesOwn.never
  (m0:=2*(81-1)+1) ⟨[x0],[x0],none,none,none,rfl,by rw[show kvI v=fun y=>(sq y,Dat.int (v y))from rfl];simp only[List.map_cons,List.map_nil,v0],by simp,by simp,fun x hx=>by rw[List.mem_singleton.mp hx];exact c0,fun x hx=>hx,fun x hx=>.inl hx,rfl,by lia⟩ ?_
 rintro m ρ' G' ⟨L,W,y4,y5,y6,rfl,rfl,nd,hs,hc,hW,Gx,hm,fc⟩;have Fe:put (put G p2 (.lst (W.map sq))) p1 (.dct (L.map (kvI v))) p2=some (.lst (W.map sq)):=by rw[Ad Bk,AH]
 refine CF (Ay (J5 (Bg (n:=W.length) rfl ml (AA 2 rfl) (by show(match put (put G p2 (.lst (W.map sq))) p1 (.dct (L.map (kvI v))) p2 with|some (.lst l)=>some l.length|_=>none)=_;rw[Fe];simp)) AG)) ⟨fun hp=>?_,fun hp=>?_⟩
 ·have Mf:0<W.length:=by have:=of_decide_eq_true hp;lia
  obtain⟨W0,x,rfl⟩:∃W0 x,W=W0++[x]:=⟨W.dropLast,W.getLast (List.ne_nil_of_length_pos Mf),(List.dropLast_concat_getLast _).symm⟩;rw[List.length_append,List.length_singleton]at hm;refine A0 4 DH.nd (RI (d:=sq x) (l:=W0.map sq) (AA 2 rfl) (by rw[Fe,List.map_append];rfl) ?_);have eG:∀(W1:List Sq),put (put (put G p2 (.lst (W1.map sq))) p1 (.dct (L.map (kvI v)))) p2 (.lst (W0.map sq))=put (put G p2 (.lst (W0.map sq))) p1 (.dct (L.map (kvI v))):=fun W1=>by
   rw[KC (Ne.symm Bk),Ao]
  rw[eG];have hx:x∈L:=hW x (by simp);have Au:=few L nd hc;refine Bc (l:=(B9 q l x).map pi) (f:=Fx 5 6) (fun i ρ' G'=>∃(L W:List Sq)(y5 y6:Option Dat),ρ'=[some (fl q),some (lay l),some (.fn p2),some (.fn p1),some (sq x),y5,y6]/\G'=put (put G p2 (.lst (W.map sq))) p1 (.dct (L.map (kvI v))) ∧
    L.Nodup/\x0∈L/\(∀x∈L,x∈Cu q)/\(∀x∈W,x∈L)/\x∈L/\(∀z∈L,z∈W\/(∀p∈B9 q l z,p.1∈L)\/z=x)/\(∀p∈(B9 q l x).take i,p.1∈L)/\2*(81-L.length)+W.length+1<=m) PassesOwn.never rfl
   (By (AW FS (hr.mono (by lia)) (AB (AA 0 rfl) (AB (AA 1 rfl) (AB (AA 4 rfl) AE))) ⟨q,l,x,rfl,_,rfl,rfl,L,W0,y5,y6,rfl,rfl,nd,hs,hc,fun z hz=>hW z (by simp[hz]),hx,?_,by simp,by lia⟩)) (Dj 5 6 rfl DH.nd) ?_ ?_
  ·intro z hz;rcases Gx z hz with h|h
   ·rcases List.mem_append.mp h with h|h
    ·exact .inl h
    ·exact .inr (.inr (List.mem_singleton.mp h))
   ·exact .inr (.inl h)
  ·clear Au hx Gx hW hc hs nd hm eG Fe;rintro i dd ρ' G' hd ⟨L,W,y5,y6,rfl,rfl,nd,hs,hc,hW,hx,Gx,hi,hm⟩;rw[List.getElem?_map]at hd;obtain⟨⟨y,e⟩,hy,rfl⟩:=Option.map_eq_some_iff.mp hd;have ag:(y,e)∈B9 q l x:=List.mem_of_getElem? hy;have et:(B9 q l x).take (i+1)=(B9 q l x).take i++[(y,e)]:=by rw[List.take_add_one,hy];rfl
   have FY:put (put G p2 (.lst (W.map sq))) p1 (.dct (L.map (kvI v))) p1=some (.dct (L.map (kvI v))):=AH;have Au:=few L nd hc;refine⟨_,rfl,?_⟩;refine BO (Ay (Bw YA (AA 5 rfl) (AA 3 rfl) FY (D4 y) ⟨_,rfl⟩)) (fun hp=>?_) (fun hp=>AJ (AJ ?_))
   ·have UN:y∉L:=fun hm=>by rw[IL,if_pos hm]at hp;simp at hp
    have mB:y∈Cu q:=(IE gd).mpr (Tu ag);refine Eb (d:=.int (v y)) YA (PX.cast (Ag (IA (d:=.int (v x)) YA (AA 3 rfl) (AA 4 rfl) FY (D4 x) ⟨_,rfl⟩ (by rw[IL,if_pos hx])) (AA 6 rfl)) (by rw[vs ag])) (AA 3 rfl) (AA 5 rfl) FY (D4 y) ⟨_,rfl⟩ (by rw[List.length_map];exact sz1 (by lia)) ?_;rw[Y2 UN,Ao];refine A9 (d:=sq y) (l:=W.map sq) (AA 2 rfl) (AA 5 rfl) (by rw[Ad Bk,AH]) (by rw[List.length_map];exact sz1 (by lia)) (AJ (AJ ?_));have Qo:L.length+1<=81:=by
     have:=few (L++[y]) (by rw[List.nodup_append];exact⟨nd,by simp,fun a ha b hb e=>by rw[List.mem_singleton.mp hb]at e;subst e;exact UN ha⟩) fun z hz=>by
      rcases List.mem_append.mp hz with h|h
      ·exact hc z h
      ·rw[List.mem_singleton.mp h];exact mB
     simpa using this
    refine⟨L++[y],W++[y],_,_,rfl,?_,?_,by simp[hs],?_,?_,by simp[hx],?_,?_,?_⟩
    ·rw[KC (Ne.symm Bk),Ao];simp only[List.map_append,List.map_cons,List.map_nil]
    ·rw[List.nodup_append];exact⟨nd,by simp,fun a ha b hb e=>by rw[List.mem_singleton.mp hb]at e;subst e;exact UN ha⟩
    ·intro z hz;rcases List.mem_append.mp hz with h|h
     ·exact hc z h
     ·rw[List.mem_singleton.mp h];exact mB
    ·intro z hz;rcases List.mem_append.mp hz with h|h
     ·exact List.mem_append_left _ (hW z h)
     ·exact List.mem_append_right _ h
    ·intro z hz;rcases List.mem_append.mp hz with h|h
     ·rcases Gx z h with h|h|h
      ·exact .inl (List.mem_append_left _ h)
      ·exact .inr (.inl fun p hp=>List.mem_append_left _ (h p hp))
      ·exact .inr (.inr h)
     ·exact .inl (List.mem_append_right _ h)
    ·intro p hp;rw[et]at hp;rcases List.mem_append.mp hp with h|h
     ·exact List.mem_append_left _ (hi p h)
     ·rw[List.mem_singleton.mp h];simp
    ·simp only[List.length_append,List.length_singleton];lia
   ·have UN:y∈L:=by
     refine Classical.byContradiction fun hn=>?_;rw[IL,if_neg hn]at hp;simp at hp
    refine⟨L,W,_,_,rfl,rfl,nd,hs,hc,hW,hx,Gx,fun p hp=>?_,hm⟩;rw[et]at hp;rcases List.mem_append.mp hp with h|h
    ·exact hi p h
    ·rw[List.mem_singleton.mp h];exact UN
  ·clear Au hx Gx hW hc hs nd eG Fe;rintro ρ' G' ⟨L,W,y5,y6,rfl,rfl,nd,hs,hc,hW,hx,Gx,hi,rQ⟩;rw[List.length_map,List.take_length]at hi;refine AJ ⟨2*(81-L.length)+W.length,by lia,L,W,_,_,_,rfl,rfl,nd,hs,hc,hW,fun z hz=>?_,rfl,by lia⟩;rcases Gx z hz with h|h|h
   ·exact .inl h
   ·exact .inr h
   ·subst h;exact .inr hi
 ·have fI:W=[]:=by
   cases W with
   |nil=>rfl
   |cons a r=>simp at hp
  subst fI;have all:=Tg gd.nodup I (·∈L) (fun c UX p NI=>by
   rcases Gx c UX with h|h
   ·cases h
   ·exact h p NI) (s:=x0) (by rw[Yq];exact GA gd) hs (by rw[Yq];exact hang)
  have eL:L.map (kvI v)=(L.map fun y=>(y,v y)).map fun q=>(sq q.1,Dat.int q.2):=by rw[List.map_map];rfl
  refine Bx (CK (CK (PX.we (KS (L:=L.map fun y=>(y,v y)) ph hu rfl (AA 3 rfl) (by rw[AH,eL])) ⟨p1,p2,?_⟩)));rw[A5 (by rw[Ad (Ne.symm Bk)];exact Mh),A5 Hh];rw[Ql gd v (L:=L.map fun y=>(y,v y)) (by rw[List.map_map];simpa[Function.comp_def]using nd) (fun p NI=>by obtain⟨y,_,rfl⟩:=List.mem_map.mp NI;rfl) fun y=>by
   rw[List.map_map];simp only[Function.comp_def,List.map_id'];exact⟨hc y,fun hy=>by obtain⟨z,hz,ny⟩:=(IE gd).mp hy;exact all z hz y ny⟩]
  unfold htL at hR;rw[<-Yq]at hR;rw[hv];exact hR
end
end TF
namespace TF
open PySem PySem.Spec L2
open PyProof.Rows hiding St RelV
section
variable {P:Program}{w:World}{K:PySem.W.Frag}{mg:Str->Option Value}{base:Heap}{f:Addr}{fd:FuncData}
theorem Tt(F:Fun K "fewest_turns" "fewest_turns" DW f fd)(mz:mg "zip"=none)(ma:mg "abs"=none)(ms:mg "sum"=none)(FH:Df P w K mg base "heights" JE 6 gw):FnOk P w K mg base CX0 7 f fd DS (Af K Zl):=by
 refine BN (k:=6) F FZ (fun A1 A outer s H E ds G R hr h=>?_);obtain⟨q,l,m,h,rfl,pl,hp,I,J,hR⟩:=h;have hl:=Ob q;refine K6 3 (Nc:=Ec) (caps:=JC) (l:=Fc ((htL h q l).map pi) ((htL h q m).map pi)) (f:=Fx 0 1) dif FZ.nd
  (B4 (psc:=AF DW) (PN:=Fn) (by decide +kernel) rfl rfl) rfl
  (Yr mz (AW FH hr (AB (AA 0 rfl) (AB (AA 1 rfl) AE)) ⟨q,l,h,rfl,pl,hp,I,rfl,rfl⟩) (AW FH hr (AB (AA 0 rfl) (AB (AA 2 rfl) AE)) ⟨q,m,h,rfl,pl,hp,J,rfl,rfl⟩) ⟨rfl,rfl⟩)
  (fun C s' H' fp=>Dj 0 1 rfl (show Ec.Nodup by decide +kernel)) (Kl rfl rfl) (by rw[Qc,List.length_map];lia) ?_ ?_
 ·intro C s' H' fp G2 d hd kn;rw[Qc]at hd;obtain⟨y,_,rfl⟩:=List.mem_map.mp hd;exact⟨_,rfl,bS ma (BD (Am (AA 0 rfl) AG rfl) (Am (AA 1 rfl) AG rfl))⟩
 ·rw[cf pl I J];refine AO (PX.cast (Ms (Vy rfl ms (AA 3 rfl)) AG ⟨by decide,by decide⟩) ?_) hR;rw[cQ];congr 1
theorem NT(F:Fun K "_law_whole" "_law_whole" Ja f fd)(mi:mg "isinstance"=none)(mn:mg "int"=none)(mb:mg "bool"=none):FnOk P w K mg base CX0 1 f fd Fo (Af K N3):=by refine BN (k:=0) F Ma (fun A1 A outer s H E ds G R hr h=>?_);obtain⟨i,rfl,hR⟩:=h;refine AO (B8 (HP (T:="int") (T':="int") mi mn (AA 0 rfl)) fun _=>EG (Mw (HP (T:="bool") (T':="bool") mi mb (AA 0 rfl)))) ?_;exact hR
end
theorem FJ{α:Type}{us:List α}(h:us.length=1):∃a,us=[a]:=by
 cases us with
 |nil=>simp at h
 |cons a us=>
 cases us with
 |nil=>exact⟨a,rfl⟩
 |cons z us=>simp at h;try lia
theorem Er{α:Type}{us:List α}(h:us.length=2):∃a b,us=[a,b]:=by
 cases us with
 |nil=>simp at h
 |cons a us=>
 cases us with
 |nil=>simp at h
 |cons b us=>
 cases us with
 |nil=>exact⟨a,b,rfl⟩
 |cons z us=>simp at h;try lia
theorem Ex{α:Type}{us:List α}(h:us.length=3):∃a b c,us=[a,b,c]:=by
 cases us with
 |nil=>simp at h
 |cons a us=>
 cases us with
 |nil=>simp at h
 |cons b us=>
 cases us with
 |nil=>simp at h
 |cons c us=>
 cases us with
 |nil=>exact⟨a,b,c,rfl⟩
 |cons z us=>simp at h;try lia
theorem FQ{α:Type}{us:List α}(h:us.length=4):∃a b c d,us=[a,b,c,d]:=by
 cases us with
 |nil=>simp at h
 |cons a us=>
 cases us with
 |nil=>simp at h
 |cons b us=>
 cases us with
 |nil=>simp at h
 |cons c us=>
 cases us with
 |nil=>simp at h
 |cons d us=>
 cases us with
 |nil=>exact⟨a,b,c,d,rfl⟩
 |cons z us=>simp at h;try lia
theorem aX{β:Type}{a:Nat}{b:β}:∀{l:List (Nat×β)},(l.map (·.1)).Nodup->(a,b)∈l->l.lookup a=some b
 |p::l,nd,h=>by
  obtain⟨n1,n2⟩:=List.nodup_cons.mp nd;obtain⟨c,d⟩:=p;rcases List.mem_cons.mp h with e|h2
  ·cases e;simp
  ·have Bk:(a==c)=false:=by
    rw[beq_eq_false_iff_ne];intro e;subst e;exact n1 (List.mem_map.mpr ⟨(a,b),h2,rfl⟩)
   rw[List.lookup_cons,Bk];exact aX n2 h2
theorem hl_ok(w:World)(p:Str×Nat×Nat×Value)(hm:p∈hT):(hK w).lookup p.2.2.1=some (hF p).2:=by show List.lookup _ (hT.map hF++_)=_;rw[List.lookup_append,aX (b:=(hF p).2) (by decide +kernel) (List.mem_map.mpr ⟨p,hm,rfl⟩)];rfl
section
variable {K:PySem.W.Frag}{h:Heap}{mg:Str->Option Value}
theorem hG(hb:hB K=true)(hl:∀p∈hT,K.lookup p.2.2.1=some (hF p).2)(X:K.In h)(G:h.Ns mainGlobals mg)(i:Nat){u:Str}{k f:Nat}{m:Value}(e:hT[i]?=some (u,k,f,m)):Fun K u u (top k) f (hD (u,k,f,m))/\mg u=some (.ref f):=by have hm:=List.mem_of_getElem? e;unfold hB at hb;have a:=List.all_eq_true.mp (Bool.and_eq_true_iff.mp hb).1 _ hm;simp only[Bool.and_eq_true,beq_iff_eq]at a;have l:K.lookup f=some ⟨.type "function",none,.func (PySem.W.fnOf u u (C9 (top k)) (Bi (top k)) (AF (top k)) .none .none .none m none (.ref (f-1)) .none),#[]⟩:=hl _ hm;exact⟨bB l a.1.2 a.2,PySem.W.mg_of X G a.1.1⟩
theorem hZ(hb:hB K=true)(X:K.In h)(G:h.Ns mainGlobals mg)(i:Nat){x:Str}(e:hZs[i]?=some x):mg x=none:=by unfold hB at hb;simp only[Bool.and_eq_true]at hb;exact PySem.W.mg_none_of X G (beq_iff_eq.mp (List.all_eq_true.mp hb.2.1 _ (List.mem_of_getElem? e)))
theorem hI(hb:hB K=true)(X:K.In h)(G:h.Ns mainGlobals mg)(i:Nat){x:Str}{v:Value}(e:hIs[i]?=some (x,v)):mg x=some v:=by unfold hB at hb;simp only[Bool.and_eq_true]at hb;exact PySem.W.mg_of X G (beq_iff_eq.mp (List.all_eq_true.mp hb.2.2.1 _ (List.mem_of_getElem? e)))
theorem hX(hb:hB K=true)(X:K.In h)(G:h.Ns mainGlobals mg)(i:Nat){x:Str}{a:Nat}(e:hCs[i]?=some (x,a)):mg x=some (.ref a)/\PySem.W.excIn K a [.type "ValueError",.type "Exception",.type "BaseException",.type "object"] "ValueError.__new__"=true:=by unfold hB at hb;simp only[Bool.and_eq_true]at hb;have a:=List.all_eq_true.mp hb.2.2.2.1 _ (List.mem_of_getElem? e);simp only[Bool.and_eq_true,beq_iff_eq]at a;exact⟨PySem.W.mg_of X G a.1,a.2⟩
end
section
variable (P:Program)(w:World)(K:PySem.W.Frag)(mg:Str->Option Value)(base:Heap){x:Str}{st:Stmt}{f:Addr}{fd:FuncData}{ps:List Str}{n:Nat}
theorem mkD{S:SpD}(F:Fun K x x st f fd/\mg x=some (.ref f))(o:FnOk P w K mg base CX0 n f fd ps (Af K S))(b:∀(kV doc pm:Value)(an:Option Addr)(A1 ct:Value)(us:List Value),us.length=ps.length->bindArgs (PySem.W.fnOf x x (C9 st) (Bi st) (AF st) .none kV doc pm an A1 ct) ⟨us,[]⟩=pure (ps.zip us):=by intro _ _ _ _ _ _ us hl;first|(obtain⟨_,rfl⟩:=FJ hl;rfl)|(obtain⟨_,_,rfl⟩:=Er hl;rfl)|(obtain⟨_,_,_,rfl⟩:=Ex hl;rfl)|(obtain⟨_,_,_,_,rfl⟩:=FQ hl;rfl)):Df P w K mg base x ps n S:=⟨f,fd,o,F.2,F.1.kp,F.1.binds b⟩
theorem mkX{S:SpX}(F:Fun K x x st f fd/\mg x=some (.ref f))(o:FnOk P w K mg base (CXV P w) n f fd ps (LN K S))(b:∀(kV doc pm:Value)(an:Option Addr)(A1 ct:Value)(us:List Value),us.length=ps.length->bindArgs (PySem.W.fnOf x x (C9 st) (Bi st) (AF st) .none kV doc pm an A1 ct) ⟨us,[]⟩=pure (ps.zip us):=by intro _ _ _ _ _ _ us hl;first|(obtain⟨_,rfl⟩:=FJ hl;rfl)|(obtain⟨_,_,rfl⟩:=Er hl;rfl)|(obtain⟨_,_,_,rfl⟩:=Ex hl;rfl)|(obtain⟨_,_,_,_,rfl⟩:=FQ hl;rfl)):DfX P w K mg base x ps n S:=⟨f,fd,o,F.2,F.1.kp,F.1.binds b⟩
theorem mkA{S:SpD}(F:Fun K x x st f fd/\mg x=some (.ref f))(o:FnOk P w K mg base CX0 n f fd ps (Af K S))(b:∀(kV doc pm:Value)(an:Option Addr)(A1 ct:Value)(us:List Value),us.length=ps.length->bindArgs (PySem.W.fnOf x x (C9 st) (Bi st) (AF st) .none kV doc pm an A1 ct) ⟨us,[]⟩=pure (ps.zip us):=by intro _ _ _ _ _ _ us hl;first|(obtain⟨_,rfl⟩:=FJ hl;rfl)|(obtain⟨_,_,rfl⟩:=Er hl;rfl)|(obtain⟨_,_,_,rfl⟩:=Ex hl;rfl)|(obtain⟨_,_,_,_,rfl⟩:=FQ hl;rfl)):∃f,mg x=some (.ref f)/\DfA P w K mg base f ps n S:=⟨f,F.2,fd,o,F.1.kp,F.1.binds b⟩
end
theorem all_mk{l:PySem.W.OpenLaw}{w:World}{K:PySem.W.Frag}{h:Heap}{mg:Str->Option Value}{fa:Addr}(hb:hB K=true)(hl:∀p∈hT,K.lookup p.2.2.1=some (hF p).2)(X:K.In h)(G:h.Ns mainGlobals mg)(oJ:mg "law"=some (.ref fa)) :
  ∃fd:FuncData,(∀(s:Shared)(v:Value),BindsTo s fd ⟨[v],[]⟩ [("_law_script",v)])/\∀base:Heap,K.In base->base.Ns mainGlobals mg->FnOk l.prog w K mg base CX0 29 fa fd ["_law_script"] (Af K M1):=by
 have F0:=hG hb hl X G 0 rfl;have F1:=hG hb hl X G 1 rfl;have F2:=hG hb hl X G 2 rfl;have F3:=hG hb hl X G 3 rfl;have F4:=hG hb hl X G 4 rfl;have F5:=hG hb hl X G 5 rfl;have F6:=hG hb hl X G 6 rfl;have F7:=hG hb hl X G 7 rfl;have F8:=hG hb hl X G 8 rfl;have F9:=hG hb hl X G 9 rfl;have mP:=hG hb hl X G 10 rfl;have lh:=hG hb hl X G 11 rfl;have mZ:=hG hb hl X G 12 rfl;have m8:=hG hb hl X G 13 rfl;have lK:=hG hb hl X G 14 rfl;have lV:=hG hb hl X G 15 rfl;have l8:=hG hb hl X G 16 rfl;have mF:=hG hb hl X G 17 rfl;have mM:=hG hb hl X G 18 rfl;have m6:=hG hb hl X G 19 rfl;have mJ:=hG hb hl X G 20 rfl;have nP:=hG hb hl X G 21 rfl;have aS:=hG hb hl X G 22 rfl;have lJ:=hG hb hl X G 23 rfl;have mS:=hG hb hl X G 24 rfl;have lR:=hG hb hl X G 25 rfl;have lA:=hG hb hl X G 26 rfl;have nE:=hG hb hl X G 27 rfl;have mf:=hG hb hl X G 28 rfl;have mE:=hG hb hl X G 29 rfl;have l7:=hG hb hl X G 30 rfl;have nL:=hG hb hl X G 31 rfl;have lQ:=hG hb hl X G 32 rfl;have m5:=hG hb hl X G 33 rfl;have mT:=hG hb hl X G 34 rfl;have m3:=hG hb hl X G 35 rfl;have lg:=hG hb hl X G 36 rfl;have Z7:=hG hb hl X G 37 rfl;have mW:=hG hb hl X G 38 rfl;have lU:=hG hb hl X G 39 rfl;have mj:=hG hb hl X G 40 rfl;have nK:=hG hb hl X G 41 rfl;have lC:=hG hb hl X G 42 rfl;have mI:=hG hb hl X G 43 rfl;have mV:=hG hb hl X G 44 rfl;have C5:=hZ hb X G 0 rfl;have Jp:=hZ hb X G 1 rfl;have Sx:=hZ hb X G 2 rfl;have SF:=hZ hb X G 3 rfl;have FG:=hZ hb X G 4 rfl;have WM:=hZ hb X G 5 rfl;have Kk:=hZ hb X G 6 rfl;have CT:=hZ hb X G 7 rfl;have WX:=hZ hb X G 8 rfl;have ah:=hZ hb X G 9 rfl;have WK:=hZ hb X G 10 rfl;have Xd:=hZ hb X G 11 rfl;have aC:=hZ hb X G 12 rfl;have gf:=hZ hb X G 13 rfl;have cG:=hZ hb X G 14 rfl;have OK:=hI hb X G 0 rfl;obtain⟨Te,Ud⟩:=hX hb X G 0 rfl;obtain⟨V3,Wr⟩:=hX hb X G 1 rfl;have e:=oJ.symm.trans mV.2;cases e;refine⟨hD (hR "law" 56 350 hM5),fun s v=>.of_eq rfl,fun base _ _=>?_⟩;have mD:=@mkD l.prog w K mg base;have mX:=@mkX l.prog w K mg base;have IT:=mD F0 (HK F0.1);have Mb:=mkA l.prog w K mg base F0 (HK F0.1);have CA:=mD F1 (GR F1.1);have YO:=mD F2 (G0 F2.1 IT CA);have NZ:=mkA l.prog w K mg base F2 (G0 F2.1 IT CA);have Qv:=mD F3 (Ki 1 F3.1 C5);have QE:=mD F3 (Ki 2 F3.1 C5);have JH:=mD F4 (IG F4.1 C5 Qv Mb);have KI:=mD F5 (Jg F5.1 Jp Sx SF);have QK:=mD F6 (OG F6.1 C5 KI QE NZ);have dB:=mD F7 (EO F7.1);have IP:=mD F8 (HY F8.1 dB CA);have Qp:=mD F9 (O7 F9.1 C5 JH QK IP);have VN:=mD mP (NG mP.1 CT ah WK);have YE:=mD lh (Q5 lh.1 CT FG C5);have Rx:=mD mZ (N0 mZ.1 YE VN);have Uw:=mD m8 (M4 m8.1 Xd aC);have ZO:=mD lK (Im lK.1 CT FG Xd Rx Uw);have YZ:=mD lV (N1 lV.1);have ZN:=mD l8 (Nn l8.1);have Wf:=mD mF (Ng mF.1 Sx SF);have XU:=mD mM (Lb mM.1 YZ ZN Wf);have Tw:=mD m6 (QY m6.1 C5 WX cG Kk ZO Qp XU);have gF:=mD mJ (Tt mJ.1 aC gf WM Tw);have Rm:=mD nP (XO nP.1);have bH:∀n,Df l.prog w K mg base "ways" Mi (n+2) (Mj n):=by
  intro n
  induction n with
  |zero=>exact⟨_,_,SV 0 aS.1 C5 WM Rm (fun m h=>by cases h),aS.2,aS.1.kp,aS.1.binds (ps:=Mi) (by intro _ _ _ _ _ _ us hl;first|(obtain⟨_,rfl⟩:=FJ hl;rfl)|(obtain⟨_,_,rfl⟩:=Er hl;rfl)|(obtain⟨_,_,_,rfl⟩:=Ex hl;rfl)|(obtain⟨_,_,_,_,rfl⟩:=FQ hl;rfl))⟩
  |succ m ih=>exact⟨_,_,SV (m+1) aS.1 C5 WM Rm (fun m' h=>by cases h;exact ih),aS.2,aS.1.kp,aS.1.binds (ps:=Mi) (by intro _ _ _ _ _ _ us hl;first|(obtain⟨_,rfl⟩:=FJ hl;rfl)|(obtain⟨_,_,rfl⟩:=Er hl;rfl)|(obtain⟨_,_,_,rfl⟩:=Ex hl;rfl)|(obtain⟨_,_,_,_,rfl⟩:=FQ hl;rfl))⟩
 have YK:=mD lJ (WD lJ.1 bH);have Lk:=mD mS (QJ mS.1);have SS:=mD lR (Jn lR.1 Jp C5 Sx SF);have MB:=mD lA (RK lA.1 Xd);have Ly:=mD nE (RP nE.1 Lk SS MB);have YW:=mD mf (WQ mf.1 Ly);have Ys:=mD mE (II mE.1 FG Kk SS MB);have W4:=mX l7 (UZ l7.1 V3 Wr Rx Ly Lk Ys);have Q2:=mD nL (Ox nL.1);have cn:=mX lQ (X8 lQ.1 C5 OK Te Ud YK YW W4 Q2);have LC:=mD m5 (ON m5.1 C5);have UL:=mD mT (Ra mT.1);have PK:=mD m3 (M6 m3.1 C5 Jp FG SF Sx LC UL);have Ha:=mD lg (P1 lg.1);have P2:∀n,Df l.prog w K mg base "_law_every" Bv (n+2) (Ju n):=by
  intro n
  induction n with
  |zero=>exact⟨_,_,Hl 0 Z7.1 FG Ha (fun m h=>by cases h),Z7.2,Z7.1.kp,Z7.1.binds (ps:=Bv) (by intro _ _ _ _ _ _ us hl;first|(obtain⟨_,rfl⟩:=FJ hl;rfl)|(obtain⟨_,_,rfl⟩:=Er hl;rfl)|(obtain⟨_,_,_,rfl⟩:=Ex hl;rfl)|(obtain⟨_,_,_,_,rfl⟩:=FQ hl;rfl))⟩
  |succ m ih=>exact⟨_,_,Hl (m+1) Z7.1 FG Ha (fun m' h=>by cases h;exact ih),Z7.2,Z7.1.kp,Z7.1.binds (ps:=Bv) (by intro _ _ _ _ _ _ us hl;first|(obtain⟨_,rfl⟩:=FJ hl;rfl)|(obtain⟨_,_,rfl⟩:=Er hl;rfl)|(obtain⟨_,_,_,rfl⟩:=Ex hl;rfl)|(obtain⟨_,_,_,_,rfl⟩:=FQ hl;rfl))⟩
 have Th:=mD mW (QS mW.1 FG Kk (P2 12));have Pw:=mD lU (M0 lU.1 C5 Ha);have LV:=mD mj (Ks mj.1 C5 Jp);have Ka:=mD nK (Ji nK.1);have OW:=mD lC (Mk lC.1 Pw LV Ka);have Y4:=mD mI (NT mI.1 CT ah WK);exact cJ mV.1 CT WX C5 PK LC Th OW Y4 cn gF
theorem walk{l:PySem.W.OpenLaw}{q:Program}{loose:List Str}{XP:(Str->Option Value)->Heap->Prop}{YP:World->Heap->Prop}{d:DefRec}{K:Params->PySem.W.Frag}(hn:l.most=some 63)(eO:d.params.defaults=[])(hY:∀(w:World)(h:Heap),YP w h->(K w.params).In h)(F:∀(w:World)(mg:Str->Option Value)(fa:Addr)(h:Heap),(K w.params).In h->h.Ns mainGlobals mg->mg d.name=some (.ref fa) →
   ∃fd:FuncData,(∀(s:Shared)(u:Value),BindsTo s fd ⟨[u],[]⟩ [("_law_script",u)])/\∀base:Heap,(K w.params).In base->base.Ns mainGlobals mg->FnOk l.prog w (K w.params) mg base CX0 29 fa fd ["_law_script"] (Af (K w.params) M1)) :
  PySem.W.WalkO q loose XP YP l.row.toRowW d [] (fun f vs=>PySem.call f vs):=
 L2.walk_of (n:=63) (k:=29) (x:="_law_script") (CX:=fun _=>CX0) (sp:=fun w=>Af (K w.params) M1) hn (by decide) eO ⟨rfl,by decide,by decide⟩ hY F
  (fun w H a ns hl _ hS=>⟨[.scr ns],g0,fun d _=>d=.bl true,gu,RepL.cons (by rw[aj,Rep];exact⟨a,rfl,hS⟩) RepL.nil,⟨ns,rfl,rfl⟩,fun v H' d G' _ _ r q=>by
   subst q;rw[Rep]at r;exact r⟩) fun _ _ _ _ _ z=>z
end TF
open PySem PySem.W PyProof.Rows
set_option maxRecDepth 100000 in
set_option maxHeartbeats 0 in
theorem PySem.Challenge.cw_tilefloor_k10_whole_roads_in_plain_floor_holds : PySem.Challenge.rw_tilefloor_k10_whole_roads_in_plain_floor.Holds := by
 refine holds_law (by kernel_rfl) fun jy=>?_
 refine PySem.W.holds_open (q:=TF.hQ) (loose:=[]) (Xt:=TF.hXt) (XP:=XL TF.hQ []) (Yf:=fun s=>TF.hAs.map s.heap.get?) (Ya:=fun w=>(TF.hK w).map fun p=>some p.2) (YP:=fun w h=>(TF.hK w).In h) (N:=4592) TF.hLeft (fun w s x=>Frag.in_of (TF.hAs_ok w) x) (fun w h h' x k=>Frag.In.keeps x k) (fun s e=>xl_of s (Bool.and_eq_true_iff.mp e).1) XL.keeps (by rfl) (by rfl) (by rfl) (fun s e=>recFacts_of (Bool.and_eq_true_iff.mp e).2) (by rfl) jy (by decide +kernel) ⟨rfl,rfl,rfl,rfl,rfl,by decide +kernel⟩ ?hw ?hc
 case hw=>w_witness2
 case hc=>
  intro w₀ s₀ s₁ mg mb G Y
  refine TF.walk (l:=PySem.Challenge.rw_tilefloor_k10_whole_roads_in_plain_floor) (K:=fun _=>TF.hK w₀) (YP:=fun _ h=>(TF.hK w₀).In h) rfl rfl (fun w h Y=>Y) ?F w₀ s₀ s₁ mg mb G Y
  clear Y G mg mb
  intro w mg fa h KX G Qi
  exact TF.all_mk (TF.hB_ok w₀) (TF.hl_ok w₀) KX G Qi
