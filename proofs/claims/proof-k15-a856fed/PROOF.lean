import PyProof.Rows.All
import Wide.All
import OpenK.AllK
import PySem.Challenge.RW_tilefloor_k15_nothing_is_kept
noncomputable section
set_option maxHeartbeats 4000000
set_option bootstrap.genMatcherCode false
set_option genSizeOf false
set_option Elab.async false
set_option linter.all false
set_option maxRecDepth 100000
set_option maxHeartbeats 4000000
namespace L2
open PySem PySem.Spec PyProof.Rows
def DR(s:Stmt):Arguments:=match s with
 |.FunctionDef _ a _ _ _ _ _ _ _ _=>a
 |_=>{ posonlyargs:=[],args:=[],vararg:=none,kwonlyargs:=[],kw_defaults:=[],kwarg:=none,defaults:=[] }
def CJ(s:Stmt):List Stmt:=match s with
 |.FunctionDef _ _ b _ _ _ _ _ _ _=>b
 |_=>[]
def AF(s:Stmt):Scope:=match s with
 |.FunctionDef _ _ _ _ _ _ sc _ _ _=>sc
 |_=>{ kind:=.function,names:=[],isGenerator:=false,isCoroutine:=false }
end L2
namespace TF
open PySem PySem.Spec L2
open PyProof.Rows hiding St RelV
def aP(K:PySem.W.Frag)(C Dc:Addr):Bool:=match K.lookup C with
 |some ⟨_,_,.cls cd,_⟩=>cd.mro.contains (.ref Dc)
 |_=>false
def top(i:Nat):Stmt:=PySem.Challenge.pw_tilefloor_k15_nothing_is_kept.main.body.getD i (.Pass ⟨0,0,0,0⟩)
abbrev Ip:Stmt:=top 6
abbrev DQ:Stmt:=top 7
abbrev Io:Stmt:=top 8
abbrev J5:Stmt:=top 9
abbrev ND:Stmt:=top 10
abbrev MC:Stmt:=top 11
abbrev EB:Stmt:=top 12
abbrev Jn:Stmt:=top 13
abbrev Jt:Stmt:=top 14
abbrev Ee:Stmt:=top 15
abbrev CC:Stmt:=top 16
abbrev Kx:Stmt:=top 17
abbrev Bt:Stmt:=top 18
abbrev EH:Stmt:=top 19
abbrev K7:Stmt:=top 20
abbrev Fp:Stmt:=top 23
abbrev BR:Stmt:=top 24
abbrev Oy:Stmt:=top 25
abbrev Ow:Stmt:=top 26
abbrev JV:Stmt:=top 27
abbrev T8:Stmt:=top 28
abbrev Me:Stmt:=top 29
abbrev ES:Stmt:=top 30
abbrev HJ:Stmt:=top 31
abbrev Kt:Stmt:=top 32
abbrev IG:Stmt:=top 34
abbrev Gj:Stmt:=top 35
abbrev Nw:Stmt:=top 36
abbrev Dt:Stmt:=top 37
abbrev HY:Stmt:=top 38
abbrev Bm:Stmt:=top 39
abbrev NR:Stmt:=top 41
abbrev M6:Stmt:=top 42
abbrev OK:Stmt:=top 43
abbrev QE:Stmt:=top 44
abbrev IA:Stmt:=top 45
abbrev R9:Stmt:=top 46
abbrev DK:Stmt:=top 48
abbrev LW:Stmt:=top 49
abbrev KW:Stmt:=top 50
abbrev EA:Stmt:=top 51
abbrev Ik:Stmt:=top 52
abbrev Ed:Stmt:=top 53
abbrev Lo:Stmt:=top 55
abbrev Mz:Stmt:=top 56
abbrev C8:Stmt:=top 57
abbrev Fb:Stmt:=top 58
abbrev DB:Stmt:=top 59
abbrev Ha:Stmt:=top 60
abbrev KO:Stmt:=top 61
abbrev Hx:Stmt:=top 62
abbrev Hs:Stmt:=top 63
abbrev Xv:Stmt:=top 64
section
def hM0:Value:=.str "tilefloor.floors" 255
def hM1:Value:=.str "tilefloor.heights" 591
def hM2:Value:=.str "tilefloor.laying" 377
def hM3:Value:=.str "tilefloor.rings" 472
def hM4:Value:=.str "tilefloor.turns" 532
def hM5:Value:=.str "law_tilefloor_k15_nothing_is_kept" 648
def hR(u:Str)(k f:Nat)(m:Value):Str×Nat×Nat×Value:=(u,k,f,m)
def hT:List (Str×Nat×Nat×Value):=[hR "neighbours" 6 70 hM0,hR "corner_neighbours" 7 77 hM0,hR "all_around" 8 84 hM0,hR "reached" 14 124 hM0,hR "hangs_together" 15 131 hM0,hR "bare_squares" 16 136 hM0,hR "has_hole" 17 143 hM0,hR "meet_by_corner_alone" 18 150 hM0,hR "has_bare_corner" 19 157 hM0,hR "is_plain" 20 164 hM0,hR "is_number" 9 91 hM0,hR "is_pair" 10 98 hM0,hR "is_place" 11 105 hM0,hR "is_rising" 12 110 hM0,hR "holds_squares" 48 307 hM1,hR "is_light" 49 314 hM1,hR "ways_from" 50 321 hM1,hR "is_walked" 51 328 hM1,hR "steps_from" 52 335 hM1,hR "heights" 53 340 hM1,hR "pair_along" 23 171 hM2,hR "crowd_unless_paired" 24 178 hM2,hR "laid" 25 183 hM2,hR "steps" 26 190 hM2,hR "ways" 27 195 hM2,hR "gone_on" 29 209 hM2,hR "all_layings" 30 214 hM2,hR "count" 28 202 hM2,hR "without" 31 219 hM2,hR "fixed" 32 224 hM2,hR "covered" 13 117 hM0,hR "partners" 34 231 hM3,hR "ring_from" 35 238 hM3,hR "rings" 36 245 hM3,hR "ring_at" 41 269 hM4,hR "stones_along" 37 252 hM3,hR "has_all" 38 257 hM3,hR "is_turn" 42 276 hM4,hR "turns" 43 281 hM4,hR "laid_otherwise" 39 262 hM3,hR "turned" 44 288 hM4,hR "way_back" 45 295 hM4,hR "road" 46 302 hM4,hR "_law_cell" 55 347 hM5,hR "_law_mix" 56 354 hM5,hR "_law_floor" 57 359 hM5,hR "_law_near" 58 364 hM5,hR "_law_every" 59 369 hM5,hR "_law_all" 60 374 hM5,hR "_law_lists" 61 381 hM5,hR "_law_twin" 62 386 hM5,hR "_law_emptied" 63 393 hM5,hR "law" 64 400 hM5]
def hD(p:Str×Nat×Nat×Value):FuncData:=PySem.W.fnOf p.1 p.1 (DR (top p.2.1)) (CJ (top p.2.1)) (AF (top p.2.1)) .none .none .none p.2.2.2 none (.ref (p.2.2.1-1)) .none
def hF(p:Str×Nat×Nat×Value):Addr×Obj:=(p.2.2.1,⟨.type "function",none,.func (hD p),#[]⟩)
def hOb(w:World)(a:Nat):Obj:=((PySem.W.openEnds treeTable PySem.Challenge.rw_tilefloor_k15_nothing_is_kept.row.prog w 5106).bind fun s=>s.heap.get? a).getD { cls:=.none,data:=.plain }
def hOt:List Nat:=[2,3,15,22,23,24,25,28,35,36,37,40,47,48,49,52,59,60,61,64,66,67,69,71,73,74,76,78,80,81,83,85,87,88,90,92,94,95,97,99,101,102,104,106,109,111,113,114,116,118,120,121,123,125,127,128,130,132,135,137,139,140,142,144,146,147,149,151,153,154,156,158,160,161,163,165,167,168,170,172,174,175,177,179,182,184,186,187,189,191,194,196,198,199,201,203,205,206,208,210,213,215,218,220,223,225,227,228,230,232,234,235,237,239,241,242,244,246,248,249,251,253,256,258,261,263,265,266,268,270,272,273,275,277,280,282,284,285,287,289,291,292,294,296,298,299,301,303,306,308,310,311,313,315,317,318,320,322,324,325,327,329,331,332,334,336,339,341,343,344,346,348,350,351,353,355,358,360,363,365,368,370,373,375,377,378,380,382,385,387,389,390,392,394,396,397,399]
def hK(w:World):PySem.W.Frag:=hT.map hF++hOt.map fun a=>(a,hOb w a)
def hAs:List Nat:=hT.map (·.2.2.1)++hOt
def hQ:Program:=PySem.W.view PySem.Challenge.pw_tilefloor_k15_nothing_is_kept [1,2,3,4,6,7,8,9,10,11,12,13,14,15,16,17,18,19,20,22,23,24,25,26,27,28,29,30,31,32,34,35,36,37,38,39,41,42,43,44,45,46,48,49,50,51,52,53,55,56,57,58,59,60,61,62,63,64]
theorem hAs_ok(w:World):hAs=(hK w).map (·.1):=by kernel_rfl
def hXt(s:Shared):Bool:=PySem.W.xlAt hQ [] s&&PySem.W.recOk (PySem.W.RowW.records (PySem.W.OpenRow.toRowW (PySem.W.OpenLaw.row PySem.Challenge.rw_tilefloor_k15_nothing_is_kept))) s
def hZs:List Str:=["len","range","min","max","tuple","sum","sorted","isinstance","list","int","bool","all","zip","dict"]
def hP(x:Str)(v:Value):Str×Value:=(x,v)
def hIs:List (Str×Value):=[hP "MOST_TOLD" (.int 200 (379))]
def hC(x:Str)(a:Nat):Str×Nat:=(x,a)
def hCs:List (Str×Nat):=[]
def hUs:List (Nat×Nat):=[]
def hB(K:PySem.W.Frag):Bool:=hT.all (fun p=>PySem.W.nsIn K mainGlobals p.1==some (some (.ref p.2.2.1))&&PySem.W.codeIn K (.ref (p.2.2.1-1)) p.1&&PySem.W.keepIn K (.ref p.2.2.1))&&(hZs.all (fun x=>PySem.W.nsIn K mainGlobals x==some none)&&(hIs.all (fun p=>PySem.W.nsIn K mainGlobals p.1==some (some p.2))&&(hCs.all (fun p=>PySem.W.nsIn K mainGlobals p.1==some (some (.ref p.2))&&PySem.W.excIn K p.2 [.type "ValueError",.type "Exception",.type "BaseException",.type "object"] "ValueError.__new__")&&(hUs.all (fun p=>aP K p.1 p.2)&&true))))
theorem gU{σ α1 α2 α3 α4 α5 α6 α7 α8 α9 β:Type}{o:Option σ}{f1:σ->α1}{f2:σ->α2}{f3:σ->α3}{f4:σ->α4}{f5:σ->α5}{f6:σ->α6}{f7:σ->α7}{f8:σ->α8}{f9:σ->α9}{y:σ->β}{a1:α1}{a2:α2}{a3:α3}{a4:α4}{a5:α5}{a6:α6}{a7:α7}{a8:α8}{a9:α9}{b:β}(h1:o.map f1=some a1)(h2:o.map (fun s=>(f2 s,f3 s))=some (a2,a3))(h3:o.map (fun s=>(f4 s,f5 s,f6 s))=some (a4,a5,a6))(h4:o.map (fun s=>(f7 s,f8 s,f9 s))=some (a7,a8,a9))(h5:o.map y=some b) :
  o.map (fun s=>((f1 s,f2 s,f3 s,f4 s,f5 s,f6 s,f7 s,f8 s,f9 s),y s))=some ((a1,a2,a3,a4,a5,a6,a7,a8,a9),b):=by
 cases o with
 |none=>cases h1
 |some s=>cases h1;cases h2;cases h3;cases h4;cases h5;rfl
open PySem.W in
theorem hL1(w:World):(openEnds treeTable PySem.Challenge.rw_tilefloor_k15_nothing_is_kept.row.prog w 5106).map (fun s=>seen ((recsOf hQ).map (·.name)) (ownsOf hQ) [] { s with gens:=#[] })=some (expectedOf hQ):=by kernel_rfl
open PySem.W in
theorem hL2(w:World):(openEnds treeTable PySem.Challenge.rw_tilefloor_k15_nothing_is_kept.row.prog w 5106).map (fun s=>((s.heap.bltView,s.heap.keysOk (looseW hQ []) ((recsOf hQ).map (·.name)) ((litsOf hQ).map (·.1)) ((clssOf hQ (looseW hQ [])).map (·.name))&&s.heap.accountedOkI (importedModules PySem.Challenge.rw_tilefloor_k15_nothing_is_kept.row.prog.main.body)&&s.heap.isNs mainGlobals&&s.heap.isNs builtinsNs&&tablesOk hQ s.heap&&hXt s&&(if true then s.gens.size==0 else !leftWithCleanup s.gens)),(plainSeenD hQ [] s,wideSeen hQ s,clsSeenW hQ [] s)))=some ((bltViewBooted,true),(plainGoodD hQ [],wideGood hQ,clsGoodW hQ [])):=by kernel_rfl
open PySem.W in
theorem hL3(w:World):(openEnds treeTable PySem.Challenge.rw_tilefloor_k15_nothing_is_kept.row.prog w 5106).map (fun s=>(tabsOk hQ s,pinSeenD hQ (drecsOf hQ) s,plainSeenE hQ (looseW hQ []) s))=some (true,pinGoodD (drecsOf hQ),plainGoodE hQ (looseW hQ [])):=by kernel_rfl
open PySem.W in
theorem hL5(w:World):((openEnds treeTable PySem.Challenge.rw_tilefloor_k15_nothing_is_kept.row.prog w 5106).map (fun s=>hAs.map s.heap.get?),hB (hK w))=(some ((hK w).map fun p=>some p.2),true):=by kernel_rfl
theorem hQa{α β γ:Type}{o:Option γ}{f:γ->α}{g:γ->β}{a:α}{b:β}(h:o.map (fun s=>(f s,g s))=some (a,b)):o.map f=some a/\o.map g=some b:=by
 cases o with
 |none=>cases h
 |some s=>cases h;exact ⟨rfl,rfl⟩
theorem hQb{α β:Type}{a c:α}{b d:β}(h:(a,b)=(c,d)):a=c/\b=d:=by
 cases h;exact ⟨rfl,rfl⟩
theorem hLeft:PySem.W.LeftO PySem.Challenge.rw_tilefloor_k15_nothing_is_kept.row.prog hQ [] hXt (fun s=>hAs.map s.heap.get?) (fun w=>(hK w).map fun p=>some p.2) 5106:=fun w=>gU (hL1 w) (hQa (hL2 w)).1 (hL3 w) (hQa (hL2 w)).2 (hQb (hL5 w)).1
theorem hB_ok(w:World):hB (hK w)=true:=(hQb (hL5 w)).2
end
end TF
namespace L2
open PySem PySem.Spec PyProof.Rows
abbrev Key:=Sum Int Str
def b8:Key->Value->Bool
 |.inl k,v=>Value.isInt k v
 |.inr x,v=>Value.isStrOf x v
def kK(w:World):Key->Int
 |.inl k=>hashInt k
 |.inr x=>hashStr w x
theorem BV:∀{k:Key}{v:Value},b8 k v=true->(∃i t,k=Sum.inl i/\v=Value.int i t)\/(∃x t,k=Sum.inr x/\v=Value.str x t)
 |.inl i,v,h=>by
  obtain⟨t,e⟩:=Value.isInt_shape (k:=i) (v:=v) h;exact .inl ⟨i,t,rfl,e⟩
 |.inr x,v,h=>by
  obtain⟨t,e⟩:=Value.isStrOf_shape (x:=x) (v:=v) h;exact .inr ⟨x,t,rfl,e⟩
theorem dj(a b:Int):decide ((Sum.inl a:Key)=Sum.inl b)=(a==b):=by
 by_cases e:a=b
 ·subst e;simp
 ·have h:¬(Sum.inl a:Key)=Sum.inl b:=fun q=>e (Sum.inl.inj q);rw[decide_eq_false h];exact(beq_eq_false_iff_ne.mpr e).symm
theorem d8(a b:Str):decide ((Sum.inr a:Key)=Sum.inr b)=decide (a=b):=by
 by_cases e:a=b
 ·subst e;simp
 ·have h:¬(Sum.inr a:Key)=Sum.inr b:=fun q=>e (Sum.inr.inj q);rw[decide_eq_false h,decide_eq_false e]
theorem dI(a:Int)(b:Str):decide ((Sum.inl a:Key)=Sum.inr b)=false:=decide_eq_false (fun q=>nomatch q)
theorem dN(a:Str)(b:Int):decide ((Sum.inr a:Key)=Sum.inl b)=false:=decide_eq_false (fun q=>nomatch q)
def Nq(prog:Program)(w:World):PySem.KeyKind prog w Key where
 is:=b8
 hash:=kK w
 inj:=fun v a b ha hb=>by
  rcases BV ha with⟨i,t,rfl,rfl⟩|⟨x,t,rfl,rfl⟩
  ·rcases BV hb with⟨j,u,rfl,e⟩|⟨y,u,rfl,e⟩
   ·injection e with e1 _;rw[e1]
   ·exact nomatch e
  ·rcases BV hb with⟨j,u,rfl,e⟩|⟨y,u,rfl,e⟩
   ·exact nomatch e
   ·injection e with e1 _;rw[e1]
 byValue:=fun k v h=>by
  rcases BV h with⟨i,t,rfl,rfl⟩|⟨x,t,rfl,rfl⟩<;>rfl
 pyHash:=fun hv h=>by
  rcases BV hv with⟨i,t,rfl,rfl⟩|⟨x,t,rfl,rfl⟩
  ·exact wpAny_pyHash_int h
  ·exact wpAny_pyHash_str h
 eqBool:=fun hu hv h=>by
  rcases BV hu with⟨i,t,rfl,rfl⟩|⟨x,t,rfl,rfl⟩
  ·rcases BV hv with⟨j,u,rfl,rfl⟩|⟨y,u,rfl,rfl⟩
   ·rw[dj]at h;exact wpAny_eqBool_int h
   ·rw[dI]at h;exact SeqAt.EqAt.int_str i t y u _ _ _ _ h
  ·rcases BV hv with⟨j,u,rfl,rfl⟩|⟨y,u,rfl,rfl⟩
   ·rw[dN]at h;exact SeqAt.EqAt.str_int x t j u _ _ _ _ h
   ·rw[d8]at h;exact wpAny_eqBool_str h
 «strs»:=fun k x t v h=>by
  rcases BV h with⟨i,u,rfl,e⟩|⟨y,u,rfl,e⟩
  ·exact nomatch e
  ·injection e with e1 _
   subst e1
   cases v<;>rfl
inductive V where
 |non|bl (b:Bool)|int (i:Int)|str (x:Str)|byt (b:Array UInt8)|flt (b:UInt64)|ref (a:Addr)|ty (n:String)
 deriving DecidableEq
def RelV:V->Value->Prop
 |.non,u=>u=Value.none
 |.bl b,u=>u=Value.bool b
 |.int i,u=>∃t,u=Value.int i t
 |.str x,u=>∃t,u=Value.str x t
 |.byt b,u=>∃t,u=Value.bytes b t
 |.flt b,u=>∃t,u=Value.float b t
 |.ref a,u=>u=Value.ref a
 |.ty n,u=>u=Value.type n
abbrev Vals:List V->List Value->Prop:=Paired RelV
theorem Vals.length{xs:List V}{us:List Value}(r:Vals xs us):xs.length=us.length:=Paired.length r
theorem Vals.get:∀{xs:List V}{us:List Value}{i:Nat}{x:V},Vals xs us->xs[i]?=some x->∃u,us[i]?=some u/\RelV x u
 |_,_,_,_,.nil,e=>by simp at e
 |_,_,0,_,.cons r _,e=>by simp at e;subst e;exact⟨_,rfl,r⟩
 |_,_,i+1,x,.cons _ t,e=>by
  obtain⟨u,h1,h2⟩:=Vals.get (i:=i) (x:=x) t (by simpa using e);exact⟨u,by simpa using h1,h2⟩
theorem Vals.append:∀{xs ys:List V}{us ws:List Value},Vals xs us->Vals ys ws->Vals (xs++ys) (us++ws)
 |_,_,_,_,.nil,s=>s
 |_,_,_,_,.cons r t,s=>.cons r (Vals.append t s)
theorem Vals.take:∀{xs:List V}{us:List Value}(n:Nat),Vals xs us->Vals (xs.take n) (us.take n)
 |_,_,0,_=>.nil
 |_,_,_+1,.nil=>.nil
 |_,_,n+1,.cons r t=>.cons r (Vals.take n t)
theorem Vals.drop:∀{xs:List V}{us:List Value}(n:Nat),Vals xs us->Vals (xs.drop n) (us.drop n)
 |_,_,0,r=>r
 |_,_,_+1,.nil=>.nil
 |_,_,n+1,.cons _ t=>Vals.drop n t
def dc:Option V->Option Value->Prop
 |some v,some u=>RelV v u
 |none,none=>True
 |_,_=>False
def KV{κ:Type}:List (κ×V)->List (κ×Value)->Prop:=Paired fun(p:κ×V)(q:κ×Value)=>p.1=q.1/\RelV p.2 q.2
def kV:Key->V
 |.inl i=>.int i
 |.inr x=>.str x
inductive HO where
  |lst (xs:List V)
  |tup (xs:List V)
  |dK (AR:List (Key×V))|dT (AR:List (List Key×V))
  |set (S:Int->Bool) (n:Nat)
  |ins (C dx:Addr) (fs:List (Str×V))
  |own (x:Addr)
  |xd (fs:List (Str×V))
  |met (f x:Addr)
  |rng (lo hi:Int)
  |frz (o:Obj) (u:HO)
  |tbl (ps:Array Value)
  |ext (φ:Heap->Prop)
abbrev Hp:=Addr->Option HO
def upd(H:Hp)(a:Addr)(o:HO):Hp:=fun b=>if b=a then some o else H b
theorem BJ{H:Hp}{a:Addr}{o:HO}:upd H a o a=some o:=by unfold upd;rw[if_pos rfl]
theorem Al{H:Hp}{a b:Addr}{o:HO}(h:b≠a):upd H a o b=H b:=by unfold upd;rw[if_neg h]
theorem A9{H:Hp}{a b:Addr}{o:HO}(h:H a=some o)(h':H b=none):a≠b:=by intro e;subst e;rw[h]at h';cases h'
section
variable (P:Program)(w:World)
def ObjOk(H:Hp)(h:Heap)(a:Addr):HO->Prop
 |.lst xs=>xs.length<=sizeLine/\∃(AY:List Value)(n:Nat),Vals xs AY/\h.get? a=some { cls:=.type "list",data:=.seq AY.toArray n }
 |.tup xs=>xs.length<=sizeLine/\∃AY:List Value,Vals xs AY/\IsTup h a AY.toArray
 |.dK AR=>AR.length<=sizeLine/\(a==sysModules)=false/\∃vs,KV AR vs/\h.DictOf (Nq P w) a vs
 |.dT AR=>AR.length<=sizeLine/\(a==sysModules)=false/\∃xs:List (List Key×Addr×Value),
   Paired (fun(p:List Key×V)(q:List Key×Addr×Value)=>p.1=q.1/\H q.2.1=some (.tup (p.1.map kV))/\RelV p.2 q.2.2) AR xs ∧
   ∃o es ep,h.get? a=some o/\o.ExactDict/\o.data=.dict es ep/\es.toList=xs.map (entryOfKey (tupleKind (Nq P w)))/\(xs.map (·.1)).Nodup
 |.set S n=>h.SetOf (intKind P w) a S n
 |.ins C dx fs=>H dx=some (.own a)/\fs.length<=1000/\dx≠a/\h.get? a=some (PySem.W.instObj C dx) ∧
   ∃mA,h.Ns1 dx mA/\(∀f,dc (fs.lookup f) (mA f))/\PySem.Within mA (fs.map (·.1))
 |.own _=>∃o,h.get? a=some o
 |.xd fs=>∃mA,h.Ns1 a mA/\∀f,dc (fs.lookup f) (mA f)
 |.rng lo hi=>∃t u v,h.get? a=some { cls:=.type "range",data:=.fields #[.int lo t,.int hi u,.int 1 v] }
 |.frz o u=>h.get? a=some o/\ObjOk H h a u
 |.tbl ps=>h.get? a=some { cls:=.none,data:=.fields ps }
 |.met f x=>h.get? a=some (PySem.W.methodObj (.ref f) (.ref x))
 |.ext φ=>φ h/\(∃o,h.get? a=some o)/\∀h1 h2:Heap,φ h1->(∀o,h1.get? a=some o->h2.get? a=some o)->φ h2
def HOk(H:Hp)(h:Heap):Prop:=∀a o,H a=some o->ObjOk P w H h a o
end
section
variable {P:Program}{w:World}{H H':Hp}{h h':Heap}{a:Addr}{o:HO}
theorem ObjOk.lt(x:ObjOk P w H h a o):a<h.objs.size:=by
 cases o with
 |lst xs=>obtain⟨_,_,_,_,e⟩:=x;exact Heap.lt_size e
 |tup xs=>obtain⟨_,_,_,p⟩:=x;exact p.lt
 |dK AR=>obtain⟨_,_,_,_,o,_,_,e,_⟩:=x;exact Heap.lt_size e
 |dT AR=>obtain⟨_,_,_,_,o,_,_,e,_⟩:=x;exact Heap.lt_size e
 |set S n=>obtain⟨o,_,_,_,e,_⟩:=x;exact Heap.lt_size e
 |ins C dx fs=>obtain⟨_,_,_,e,_⟩:=x;exact Heap.lt_size e
 |own y=>obtain⟨_,e⟩:=x;exact Heap.lt_size e
 |xd fs=>obtain⟨_,⟨_,_,_,e,_⟩,_⟩:=x;exact Heap.lt_size e
 |rng lo hi=>obtain⟨_,_,_,e⟩:=x;exact Heap.lt_size e
 |frz ob u=>obtain⟨e,_⟩:=x;exact Heap.lt_size e
 |tbl ps=>exact Heap.lt_size (show h.get? a=some _ from x)
 |met f y=>exact Heap.lt_size (show h.get? a=some _ from x)
 |ext φ=>obtain⟨_,⟨_,e⟩,_⟩:=x;exact Heap.lt_size e
theorem Paired.mapP{α β:Type}{F G:α->β->Prop}:∀{l₁:List α}{l₂:List β},Paired F l₁ l₂->(∀a b,F a b->G a b)->Paired G l₁ l₂
 |_,_,.nil,_=>.nil
 |_,_,.cons r t,f=>.cons (f _ _ r) (Paired.mapP t f)
theorem ObjOk.stay(x:ObjOk P w H h a o)(k:∀b u,(b=a\/H b=some (.own a))->h.get? b=some u->h'.get? b=some u)(ho:∀b,H b=some (.own a)->H' b=some (.own a))(ht:∀b xs,H b=some (.tup xs)->H' b=some (.tup xs)):ObjOk P w H' h' a o:=by
 induction o with
 |lst xs=>obtain⟨z,AY,n,r,e⟩:=x;exact⟨z,AY,n,r,k _ _ (.inl rfl) e⟩
 |tup xs=>obtain⟨z,AY,r,ob,e,c⟩:=x;exact⟨z,AY,r,ob,k _ _ (.inl rfl) e,c⟩
 |dK AR=>obtain⟨z,y,vs,r,ob,es,ep,e,c⟩:=x;exact⟨z,y,vs,r,ob,es,ep,k _ _ (.inl rfl) e,c⟩
 |dT AR=>
  obtain⟨z,y,xs,r,ob,es,ep,e,c⟩:=x;exact⟨z,y,xs,Paired.mapP r fun p q z=>⟨z.1,ht _ _ z.2.1,z.2.2⟩,ob,es,ep,k _ _ (.inl rfl) e,c⟩
 |set S n=>obtain⟨ob,es,ep,t,e,c⟩:=x;exact⟨ob,es,ep,t,k _ _ (.inl rfl) e,c⟩
 |ins C dx fs=>
  obtain⟨d,z,ne,e,mA,⟨od,es,ep,e2,c⟩,r⟩:=x;exact⟨ho _ d,z,ne,k _ _ (.inl rfl) e,mA,⟨od,es,ep,k _ _ (.inr d) e2,c⟩,r⟩
 |own y=>obtain⟨ob,e⟩:=x;exact⟨ob,k _ _ (.inl rfl) e⟩
 |xd fs=>obtain⟨mA,⟨od,es,ep,e,c⟩,r⟩:=x;exact⟨mA,⟨od,es,ep,k _ _ (.inl rfl) e,c⟩,r⟩
 |rng lo hi=>obtain⟨t,u,v,e⟩:=x;exact⟨t,u,v,k _ _ (.inl rfl) e⟩
 |frz ob u ih=>obtain⟨e,q⟩:=x;exact⟨k _ _ (.inl rfl) e,ih q⟩
 |tbl ps=>
  have e:h.get? a=some { cls:=.none,data:=.fields ps }:=x;show h'.get? a=some { cls:=.none,data:=.fields ps };exact k a _ (.inl rfl) e
 |met f y=>
  have e:h.get? a=some (PySem.W.methodObj (.ref f) (.ref y)):=x;show h'.get? a=some (PySem.W.methodObj (.ref f) (.ref y));exact k a _ (.inl rfl) e
 |ext φ=>obtain⟨p,⟨o,e⟩,st⟩:=x;exact⟨st _ _ p fun o q=>k _ _ (.inl rfl) q,⟨o,k _ _ (.inl rfl) e⟩,st⟩
theorem HOk.lt(x:HOk P w H h)(e:H a=some o):a<h.objs.size:=(x a o e).lt
theorem HOk.fresh(x:HOk P w H h)(e:h.objs.size<=a):H a=none:=by
 cases q:H a with
 |none=>rfl
 |some u=>exact absurd (Nat.lt_of_lt_of_le (x.lt q) e) (Nat.lt_irrefl _)
theorem HOk.kept(x:HOk P w H h)(k:∀b u,h.get? b=some u->h'.get? b=some u):HOk P w H h':=fun a o e=>
 (x a o e).stay (fun b u _ q=>k b u q) (fun _ q=>q) fun _ _ q=>q
theorem HOk.laid(x:HOk P w H h)(k:∀b u,h.get? b=some u->h'.get? b=some u)(hp:h.objs.size<=a)(new:ObjOk P w (upd H a o) h' a o):HOk P w (upd H a o) h':=fun b u e=>by
 have hn:=x.fresh hp;by_cases hb:b=a
 ·subst hb;rw[BJ]at e;cases e;exact new
 ·rw[Al hb]at e;exact(x b u e).stay (fun c v _ q=>k c v q) (fun c q=>by rw[Al (A9 q hn)];exact q) fun c xs q=>by rw[Al (A9 q hn)];exact q
end
def Rd(H:Hp)(a:Addr)(u:HO):Prop:=H a=some u\/∃o,H a=some (.frz o u)
theorem Rd.ok{P:Program}{w:World}{H:Hp}{h:Heap}{a:Addr}{u:HO}(r:Rd H a u)(x:HOk P w H h):ObjOk P w H h a u:=by
 rcases r with r|⟨o,r⟩
 ·exact x a u r
 ·obtain⟨_,q⟩:=x a _ r;exact q
def Mut:Option HO->Prop
 |some (.lst _)=>True
 |some (.dK _)=>True
 |some (.dT _)=>True
 |some (.set _ _)=>True
 |some (.ins _ _ _)=>True
 |some (.ext _)=>True
 |_=>False
section
variable {P:Program}{w:World}{H:Hp}{h h':Heap}{x e:Addr}{o':HO}
theorem HOk.write(ok:HOk P w H h)(mu:Mut (H x))(he:e=x\/H e=some (.own x))(k:∀b u,b≠e->h.get? b=some u->h'.get? b=some u)(fi:∃u,h'.get? e=some u)(new:ObjOk P w (upd H x o') h' x o'):HOk P w (upd H x o') h':=fun b u q=>by
 have gR:∀c y,H c=some (.own y)->c≠x:=fun c y r z=>by subst z;rw[r]at mu;exact mu
 have jk:∀c xs,H c=some (.tup xs)->c≠x:=fun c xs r z=>by subst z;rw[r]at mu;exact mu
 by_cases hb:b=x
 ·subst hb;rw[BJ]at q;cases q;exact new
 ·rw[Al hb]at q;by_cases hbe:b=e
  ·have q':H b=some (.own x):=by
    rcases he with z|z
    ·exact absurd (hbe.trans z) hb
    ·rw[hbe];exact z
   rw[q]at q';cases q';obtain⟨v,hv⟩:=fi;exact⟨v,by rw[hbe];exact hv⟩
  ·refine(ok b u q).stay (fun c v hc r=>k c v ?_ r) (fun c r=>by rw[Al (gR c b r)];exact r) fun c xs r=>by rw[Al (jk c xs r)];exact r
   rcases hc with rfl|hc
   ·exact hbe
   ·rintro rfl;rcases he with z|z
    ·exact gR c b hc z
    ·rw[hc]at z;cases z;exact hb rfl
end
structure Un (fs ex:List Addr) (H H':Hp) (h h':Heap):Prop where
 keep:∀b o,h.get? b=some o->H b=none->b∉fs->b∉ex->h'.get? b=some o
 slot:∀b o,h.get? b=some o->H b=none->b∈fs->b∉ex->∃sl,h'.get? b=some { o with slots:=sl }
 free:∀b o,h.get? b=some o->H b=none->b∉ex->H' b=none
 there:∀b o,h.get? b=some o->b∉ex->∃o',h'.get? b=some o'
 tups:∀b xs,H b=some (.tup xs)->H' b=some (.tup xs)
 frzs:∀b o u,H b=some (.frz o u)->H' b=some (.frz o u)
 tbls:∀b ps,H b=some (.tbl ps)->∃more,H' b=some (.tbl (ps++more))
section
variable {fs pj ex sk:List Addr}{H H1 H2:Hp}{h h1 h2 h':Heap}{a x e:Addr}{o:HO}
theorem Un.any(u:Un fs ex H H1 h h1){b:Addr}{ob:Obj}(q:h.get? b=some ob)(n:H b=none)(hx:b∉ex):∃sl,h1.get? b=some { ob with slots:=sl }:=by
 by_cases hb:b∈fs
 ·exact u.slot b ob q n hb hx
 ·exact⟨ob.slots,u.keep b ob q n hb hx⟩
theorem Un.trans(a:Un fs ex H H1 h h1)(b:Un fs ex H1 H2 h1 h2):Un fs ex H H2 h h2 where
 keep:=fun c ob q n hc hx=>b.keep c ob (a.keep c ob q n hc hx) (a.free c ob q n hx) hc hx
 slot:=fun c ob q n hc hx=>by
  obtain⟨sl,e1⟩:=a.slot c ob q n hc hx;obtain⟨jn,e2⟩:=b.slot c _ e1 (a.free c ob q n hx) hc hx;exact⟨jn,e2⟩
 free:=fun c ob q n hx=>by
  obtain⟨o',e1⟩:=a.there c ob q hx;exact b.free c o' e1 (a.free c ob q n hx) hx
 there:=fun c ob q hx=>by
  obtain⟨o',e1⟩:=a.there c ob q hx;exact b.there c o' e1 hx
 tups:=fun c xs q=>b.tups c xs (a.tups c xs q)
 frzs:=fun c ob xs q=>b.frzs c ob xs (a.frzs c ob xs q)
 tbls:=fun c ps q=>by
  obtain⟨m1,e1⟩:=a.tbls c ps q;obtain⟨m2,e2⟩:=b.tbls c _ e1;exact⟨m1++m2,by rw[e2,Array.append_assoc]⟩
theorem Un.kept(k:∀b u,h.get? b=some u->h'.get? b=some u):Un fs ex H H h h':=⟨fun b ob q _ _ _=>k b ob q,fun b ob q _ _ _=>⟨ob.slots,k b ob q⟩,fun _ _ _ n _=>n,fun b ob q _=>⟨ob,k b ob q⟩,fun _ _ q=>q,fun _ _ _ q=>q,fun _ ps q=>⟨#[],by rw[q];simp⟩⟩
theorem Un.refl:Un fs ex H H h h:=Un.kept fun _ _ q=>q
theorem Un.laid(k:∀b u,h.get? b=some u->h'.get? b=some u)(hp:h.objs.size<=a)(hn:H a=none):Un fs ex H (upd H a o) h h' where
 keep:=fun b u q _ _ _=>k b u q
 slot:=fun b u q _ _ _=>⟨u.slots,k b u q⟩
 free:=fun b u q n _=>by rw[Al (Nat.ne_of_lt (Nat.lt_of_lt_of_le (Heap.lt_size q) hp))];exact n
 there:=fun b u q _=>⟨u,k b u q⟩
 tups:=fun b xs q=>by rw[Al (A9 q hn)];exact q
 frzs:=fun b u xs q=>by rw[Al (A9 q hn)];exact q
 tbls:=fun b ps q=>⟨#[],by rw[Al (A9 q hn),q];simp⟩
theorem Un.write(mu:Mut (H x))(he:e=x\/H e=some (.own x))(k:∀b u,b≠e->h.get? b=some u->h'.get? b=some u)(fi:∃u,h'.get? e=some u):Un fs ex H (upd H x o) h h':=by
 have hx:∀b,H b=none->b≠x:=fun b n z=>by subst z;rw[n]at mu;exact mu
 have hb:∀b,H b=none->b≠e:=fun b n z=>by
  subst z;rcases he with r|r
  ·exact hx b n r
  ·rw[n]at r;cases r
 have hm:∀b u,H b=some u->¬Mut (some u)->b≠x:=fun b u q nm z=>by subst z;rw[q]at mu;exact nm mu
 refine⟨fun b u q n _ _=>k b u (hb b n) q,fun b u q n _ _=>⟨u.slots,k b u (hb b n) q⟩,fun b u q n _=>by rw[Al (hx b n)];exact n,fun b u q _=>?_,
  fun b xs q=>by rw[Al (hm b _ q fun z=>z)];exact q,fun b u xs q=>by rw[Al (hm b _ q fun z=>z)];exact q,fun b ps q=>⟨#[],by rw[Al (hm b _ q fun z=>z),q];simp⟩⟩
 by_cases hbe:b=e
 ·subst hbe;exact fi
 ·exact⟨u,k b u hbe q⟩
end
def trk(h:Heap)(H:Hp):List Addr:=(List.range h.objs.size).filter fun a=>(H a).isSome
def OA(h:Heap)(H:Hp):Heap:=PySem.W.hideAll h (trk h H)
theorem Vb(h:Heap)(H:Hp):(OA h H).objs.size=h.objs.size:=PySem.W.hideAll_size _ _
theorem YQ{h:Heap}{H:Hp}{b:Addr}{o:Obj}(e:h.get? b=some o)(n:H b=none):(OA h H).get? b=some o:=PySem.W.hideAll_get _ e fun hm=>by
  have q:(H b).isSome=true:=(List.mem_filter.mp hm).2;rw[n]at q;simp at q
theorem bG{h:Heap}{H:Hp}{b:Addr}{o:Obj}(e:(OA h H).get? b=some o):h.get? b=some o/\H b=none:=by
 have e':h.get? b=some o:=PySem.W.of_hideAll (trk h H) e;refine⟨e',?_⟩;cases q:H b with
 |none=>rfl
 |some x=>
  have hm:b∈trk h H:=List.mem_filter.mpr ⟨List.mem_range.mpr (Heap.lt_size e'),by simp[q]⟩;have z:(OA h H).get? b=none:=PySem.W.hideAll_none (trk h H) hm;rw[z]at e;cases e
structure Mod (K:PySem.W.Frag) (mg:Str->Option Value) (base:Heap):Prop where
 kin:K.In base
 glob:base.Ns mainGlobals mg
 blt:∃mb,base.Ns builtinsNs mb/\∀x:Str,x≠"__name__"->mb x=bootBuiltins x
 nolimit:base.NoLimit
structure Cx where
 prog:Program
 w:World
 K:PySem.W.Frag
 mg:Str->Option Value
 base:Heap
 A:Around
 N:List Str
 s₀:Shared
 H₀:Hp
 env:Env
 outer:List Env
 stack:List Env
 ex:List Addr
 fn:Str->Bool
 calm:Bool
 pn:List (Addr×Obj)
 xe:Value->Shared->Prop
def frs(l:List Env):List Addr:=l.filterMap (·.frame)
abbrev Cx.fs(X:Cx):List Addr:=frs X.outer
def Vis(sc:Scope)(x:Str):Prop:=sc.names.lookup x=some .local\/sc.names.lookup x=some .cell\/sc.names.lookup x=some .free
def Loc(sc:Scope)(x:Str):Prop:=sc.names.lookup x=some .local\/sc.names.lookup x=some .cell
def kU(env:Env)(h:Heap)(m:Str->Option Value)(x:Str)(u:Value):Prop:=(env.kindOf x=some .local/\m x=some u)\/((env.kindOf x=some .cell\/env.kindOf x=some .free)/\∃c,env.cells.lookup x=some c/\h.IsCell c (some u))
structure Cx.Ok (X:Cx):Prop where
 mod:Mod X.K X.mg X.base
 kind:X.env.scope.kind=.function
 glob:X.env.globals=mainGlobals
 blt:X.env.builtins=builtinsNs
 above:X.s₀.heap.objs.size<=X.env.locals
 inj:∀x y c,X.env.cells.lookup x=some c->X.env.cells.lookup y=some c->x=y
 has:∀x,(X.env.kindOf x=some .cell\/X.env.kindOf x=some .free)->∃c,X.env.cells.lookup x=some c
 cab:∀x c,X.fn x=true->X.env.cells.lookup x=some c->X.s₀.heap.objs.size<=c
 hd:X.calm=true->X.A.handled=none
 frames:X.A.frames=some X.stack
 stk:X.stack=X.outer\/(X.stack=X.env::X.outer/\X.env.frame=some X.env.locals)
 exf:∀b∈X.ex,b≠X.env.locals/\∀x c,X.env.cells.lookup x=some c->c≠b
 bs:∀b o,X.base.get? b=some o->X.s₀.heap.get? b=some o/\X.H₀ b=none
 bsz:X.base.objs.size<=X.s₀.heap.objs.size
 noex:∀b o,X.base.get? b=some o->b∉X.ex
 exfs:∀b∈X.ex,b∉X.fs
 funs:X.s₀.heap.FunFrames X.base X.outer
 frf:∀b∈X.fs,X.H₀ b=none
structure Inv (X:Cx) (AD:List (Addr×Obj)) (σ:List (Option V)) (H:Hp) (s:Shared):Prop where
 ok:X.Ok
 os:s.os=X.s₀.os
 bare:AllBare s.gens
 base:Un X.fs X.ex X.H₀ H X.s₀.heap s.heap
 loc:∃m,s.heap.Ns X.env.locals m/\∀(i:Nat)(x:Str)(v:V),X.N[i]?=some x->σ[i]?=some (some v)->Vis X.env.scope x->∃u,RelV v u/\kU X.env s.heap m x u
 cell:∀x c,X.env.cells.lookup x=some c->∃v,s.heap.IsCell c v
 free:H X.env.locals=none
 freeC:∀x c,X.env.cells.lookup x=some c->H c=none
 pin:∀p∈X.pn++AD,s.heap.get? p.1=some p.2/\H p.1=none/\p.1≠X.env.locals/\p.1∉X.fs/\∀v,p.2.data≠.cell v
 hok:HOk X.prog X.w H s.heap
 len:σ.length=X.N.length
section
variable {X:Cx}{AD:List (Addr×Obj)}{σ:List (Option V)}{H H':Hp}{s:Shared}{h':Heap}
theorem Cx.Ok.nofr(ok:X.Ok){b:Addr}{o:Obj}(e:X.base.get? b=some o):b∉X.fs:=fun hb=>by
 have:=(ok.funs.mem hb).1
 rw[e]at this;cases this
theorem Inv.bs(I:Inv X AD σ H s):∀b o,X.base.get? b=some o->s.heap.get? b=some o/\H b=none:=fun b o e=>
 ⟨I.base.keep b o (I.ok.bs b o e).1 (I.ok.bs b o e).2 (I.ok.nofr e) (I.ok.noex b o e),I.base.free b o (I.ok.bs b o e).1 (I.ok.bs b o e).2 (I.ok.noex b o e)⟩
theorem Inv.bk(I:Inv X AD σ H s):∀b o,X.base.get? b=some o->s.heap.get? b=some o:=fun b o e=>(I.bs b o e).1
theorem Inv.mod(I:Inv X AD σ H s):Mod X.K X.mg X.base:=I.ok.mod
theorem Inv.kIn(I:Inv X AD σ H s):X.K.In s.heap:=I.ok.mod.kin.keeps I.bk
theorem Inv.lt(I:Inv X AD σ H s):X.env.locals<s.heap.objs.size:=let ⟨_,hn,_⟩:=I.loc;hn.lt
theorem Inv.sz(I:Inv X AD σ H s):X.s₀.heap.objs.size<=s.heap.objs.size:=Nat.le_trans I.ok.above (Nat.le_of_lt I.lt)
theorem Inv.nofs(I:Inv X AD σ H s){a:Addr}(h:s.heap.objs.size<=a):a∉X.fs:=fun hb=>by
 obtain⟨_,o,ho,_⟩:=I.ok.funs.mem hb;exact absurd (Nat.lt_of_lt_of_le (Heap.lt_size ho) (Nat.le_trans I.sz h)) (Nat.lt_irrefl _)
theorem Inv.cne(I:Inv X AD σ H s):∀x c,X.env.cells.lookup x=some c->c≠X.env.locals:=fun x c e z=>by
 obtain⟨v,o,ho,hd⟩:=I.cell x c e;obtain⟨m,⟨o',es,ep,Je,pL,_⟩,_⟩:=I.loc;rw[z,Je]at ho;cases ho;rw[pL]at hd;cases hd
theorem Inv.funs(I:Inv X AD σ H s):s.heap.FunFrames X.base X.outer:=by
 have all:∀(l:List Env),(∀b∈frs l,b∈X.fs)->X.s₀.heap.FunFrames X.base l->s.heap.FunFrames X.base l:=by
  intro l
  induction l with
  |nil=>intro _ _;trivial
  |cons env r ih=>
   intro hs hl;obtain⟨hk,⟨L,o,hf,hn,ho,hd⟩,hr⟩:=hl;have hL:L∈X.fs:=hs L (by unfold frs;rw[List.filterMap_cons,hf];exact List.mem_cons_self);obtain⟨sl,e⟩:=I.base.slot L o ho (I.ok.frf L hL) hL fun z=>I.ok.exfs L z hL;exact⟨hk,⟨L,_,hf,hn,e,hd⟩,ih (fun b hb=>hs b (by unfold frs;rw[List.filterMap_cons,hf];exact List.mem_cons_of_mem _ hb)) hr⟩
 exact all X.outer (fun _ hb=>hb) I.ok.funs
theorem Inv.stack(I:Inv X AD σ H s):s.heap.FunFrames X.base X.stack:=by
 rcases I.ok.stk with e|⟨e,hf⟩
 ·rw[e];exact I.funs
 ·rw[e];obtain⟨m,hn,_⟩:=I.loc;refine .cons (by rw[I.ok.kind];decide) hf hn ?_ I.funs;exact Heap.get?_none_of_le (Nat.le_trans I.ok.bsz I.ok.above)
theorem Inv.stkSub(I:Inv X AD σ H s):∀b∈frs X.stack,b∈X.env.locals::X.fs:=fun b hb=>by
 rcases I.ok.stk with e|⟨e,hf⟩
 ·rw[e]at hb;exact List.mem_cons_of_mem _ hb
 ·rw[e]at hb;unfold frs at hb;rw[List.filterMap_cons,hf]at hb;exact hb
theorem Inv.stkFree(I:Inv X AD σ H s):∀b∈frs X.stack,H b=none:=fun b hb=>by
 rcases List.mem_cons.mp (I.stkSub b hb)with e|hb
 ·rw[e];exact I.free
 ·obtain⟨_,o,ho,_⟩:=I.ok.funs.mem hb;exact I.base.free b o ho (I.ok.frf b hb) fun z=>I.ok.exfs b z hb
theorem Inv.step{g':Array GenState}{t':Nat}{d':Drawn}{ch:List Addr}(I:Inv X AD σ H s)(UC:∀b∈ch,(b∈X.ex\/X.s₀.heap.objs.size<=b)/\b≠X.env.locals/\(∀x c,X.env.cells.lookup x=some c->c≠b)/\∀p∈X.pn++AD,p.1≠b)(keep:∀b o,b≠X.env.locals->b∉X.fs->b∉ch->s.heap.get? b=some o->H b=none->h'.get? b=some o)(slot:∀b o,b≠X.env.locals->b∈X.fs->b∉ch->s.heap.get? b=some o->H b=none->∃sl,h'.get? b=some { o with slots:=sl })(free:∀b o,b∉ch->s.heap.get? b=some o->H b=none->H' b=none)(there:∀b o,b∉ch->s.heap.get? b=some o->∃o',h'.get? b=some o')(tups:∀b xs,H b=some (.tup xs)->H' b=some (.tup xs))(frzs:∀b o u,H b=some (.frz o u)->H' b=some (.frz o u))(tbls:∀b ps,H b=some (.tbl ps)->∃more,H' b=some (.tbl (ps++more)))(ns:∀m,s.heap.Ns X.env.locals m->h'.Ns X.env.locals m)(hok:HOk X.prog X.w H' h')(hg:AllBare g') :
  Inv X AD σ H' { s with heap:=h',gens:=g',drawn:=d',toks:=t' }:=by
 have mf:∀b o,X.s₀.heap.get? b=some o->b≠X.env.locals:=fun b o e=>Nat.ne_of_lt (Nat.lt_of_lt_of_le (Heap.lt_size e) I.ok.above);have ji:∀b o,X.s₀.heap.get? b=some o->b∉X.ex->b∉ch:=fun b o e hx hb=>by
  rcases(UC b hb).1 with z|z
  ·exact hx z
  ·exact absurd (Nat.lt_of_lt_of_le (Heap.lt_size e) z) (Nat.lt_irrefl _)
 have cellK:∀x c,X.env.cells.lookup x=some c->∀v,s.heap.IsCell c v->h'.IsCell c v:=fun x c e v ⟨o,ho,hd⟩=>by
  have Ys:c∉ch:=fun z=>(UC c z).2.2.1 x c e rfl;by_cases hc:c∈X.fs
  ·obtain⟨sl,q⟩:=slot c o (I.cne x c e) hc Ys ho (I.freeC x c e);exact⟨_,q,hd⟩
  ·exact⟨o,keep c o (I.cne x c e) hc Ys ho (I.freeC x c e),hd⟩
 refine⟨I.ok,I.os,hg,⟨fun b o e n hb hx=>?_,fun b o e n hb hx=>?_,fun b o e n hx=>?_,fun b o e hx=>?_,fun b xs e=>tups b xs (I.base.tups b xs e),fun b o xs e=>frzs b o xs (I.base.frzs b o xs e),fun b ps e=>?_⟩,?_,fun x c e=>?_,?_,fun x c e=>?_,fun p hp=>?_,hok,I.len⟩
 ·exact keep b o (mf b o e) hb (ji b o e hx) (I.base.keep b o e n hb hx) (I.base.free b o e n hx)
 ·obtain⟨sl,e1⟩:=I.base.slot b o e n hb hx;obtain⟨jn,e2⟩:=slot b _ (mf b o e) hb (ji b o e hx) e1 (I.base.free b o e n hx);exact⟨jn,e2⟩
 ·obtain⟨o',e1⟩:=I.base.there b o e hx;exact free b o' (ji b o e hx) e1 (I.base.free b o e n hx)
 ·obtain⟨o',e1⟩:=I.base.there b o e hx;exact there b o' (ji b o e hx) e1
 ·obtain⟨m1,e1⟩:=I.base.tbls b ps e;obtain⟨m2,e2⟩:=tbls b _ e1;exact⟨m1++m2,by rw[e2,Array.append_assoc]⟩
 ·obtain⟨m,hn,hl⟩:=I.loc;refine⟨m,ns m hn,fun i x v e1 e2 e3=>?_⟩;obtain⟨u,r,l⟩:=hl i x v e1 e2 e3;refine⟨u,r,?_⟩;rcases l with l|⟨k,c,e,z⟩
  ·exact .inl l
  ·exact .inr ⟨k,c,e,cellK x c e _ z⟩
 ·obtain⟨v,z⟩:=I.cell x c e;exact⟨v,cellK x c e v z⟩
 ·obtain⟨m,⟨o,_,_,ho,_⟩,_⟩:=I.loc;exact free _ o (fun z=>(UC _ z).2.1 rfl) ho I.free
 ·obtain⟨v,o,ho,hd⟩:=I.cell x c e;exact free c o (fun z=>(UC c z).2.2.1 x c e rfl) ho (I.freeC x c e)
 ·obtain⟨e,n,ne,nf,d⟩:=I.pin p hp;have Ys:p.1∉ch:=fun z=>(UC p.1 z).2.2.2 p hp rfl;exact⟨keep p.1 p.2 ne nf Ys e n,free p.1 p.2 Ys e n,ne,nf,d⟩
theorem Inv.un{t':Nat}(I:Inv X AD σ H s)(u:Un X.fs [] H H' s.heap h')(hok:HOk X.prog X.w H' h'):Inv X AD σ H' { s with heap:=h',toks:=t' }:=by
 obtain⟨m,⟨o,es,ep,ho,r⟩,_⟩:=id I.loc;obtain⟨sl,hL⟩:=u.any ho I.free (by simp);exact I.step (g':=s.gens) (d':=s.drawn) (ch:=[]) (fun _ z=>nomatch z) (fun b o _ hb _ e n=>u.keep b o e n hb (by simp)) (fun b o _ hb _ e n=>u.slot b o e n hb (by simp)) (fun b o _ e n=>u.free b o e n (by simp)) (fun b o _ e=>u.there b o e (by simp)) u.tups u.frzs u.tbls (fun m' hm=>by
  obtain⟨o',Ke,XC,Je,r'⟩:=hm;rw[ho]at Je;cases Je;exact⟨_,Ke,XC,hL,r'⟩) hok I.bare
theorem Inv.call{g':Array GenState}{t':Nat}{d':Drawn}{ch:List Addr}(I:Inv X AD σ H s)(u:Un (frs X.stack) ch H H' s.heap h')(hok:HOk X.prog X.w H' h')(hg:AllBare g')(UC:∀b∈ch,(b∈X.ex\/X.s₀.heap.objs.size<=b)/\b≠X.env.locals/\(∀x c,X.env.cells.lookup x=some c->c≠b)/\∀p∈X.pn++AD,p.1≠b) :
  Inv X AD σ H' { s with heap:=h',gens:=g',drawn:=d',toks:=t' }:=by
 obtain⟨m,⟨o,es,ep,ho,r⟩,_⟩:=id I.loc;obtain⟨sl,hL⟩:=u.any ho I.free fun z=>(UC _ z).2.1 rfl;exact I.step (ch:=ch) UC (fun b o hL hb hc e n=>u.keep b o e n (fun z=>(List.mem_cons.mp (I.stkSub b z)).elim hL hb) hc) (fun b o _ _ hc e n=>u.any e n hc) (fun b o hc e n=>u.free b o e n hc) (fun b o hc e=>u.there b o e hc) u.tups u.frzs u.tbls (fun m' hm=>by
  obtain⟨o',Ke,XC,Je,r'⟩:=hm;rw[ho]at Je;cases Je;exact⟨_,Ke,XC,hL,r'⟩) hok hg
theorem Inv.turned{t':Nat}{it:Addr}(I:Inv X AD σ H s)(k:∀b o,b≠it->s.heap.get? b=some o->h'.get? b=some o)(hn:H it=none)(hL:it≠X.env.locals)(h1:it∈X.ex\/X.s₀.heap.objs.size<=it)(h2:∀x c,X.env.cells.lookup x=some c->c≠it)(h3:∀p∈X.pn++AD,p.1≠it):Inv X AD σ H { s with heap:=h',toks:=t' }:=by
 have fc:∀b u,H b=some u->b≠it:=fun b u e z=>by rw[z,hn]at e;cases e
 refine I.step (g':=s.gens) (d':=s.drawn) (ch:=[it]) (fun b hb=>?_) (fun b o _ _ hc e _=>k b o (fun z=>hc (by simp[z])) e) (fun b o _ _ hc e _=>⟨o.slots,k b o (fun z=>hc (by simp[z])) e⟩) (fun _ _ _ _ n=>n)
  (fun b o hc e=>⟨o,k b o (fun z=>hc (by simp[z])) e⟩) (fun _ _ e=>e) (fun _ _ _ e=>e) (fun b ps e=>⟨#[],by rw[e];simp⟩) (fun m hm=>?_) (fun b u e=>?_) I.bare
 ·have e:b=it:=by simpa using hb
  subst e;exact⟨h1,hL,h2,h3⟩
 ·obtain⟨o,es,ep,ho,r⟩:=hm;exact⟨o,es,ep,k _ o (Ne.symm hL) ho,r⟩
 ·refine(I.hok b u e).stay (fun c v hc q=>k c v ?_ q) (fun _ q=>q) fun _ _ q=>q;rcases hc with z|z
  ·rw[z];exact fc b u e
  ·exact fc c _ z
theorem Inv.tok(I:Inv X AD σ H s)(t:Nat):Inv X AD σ H { s with toks:=t }:=I.un (h':=s.heap) (t':=t) Un.refl I.hok
theorem Inv.kept{t':Nat}(I:Inv X AD σ H s)(k:∀b u,s.heap.get? b=some u->h'.get? b=some u):Inv X AD σ H { s with heap:=h',toks:=t' }:=I.un (Un.kept k) (I.hok.kept k)
theorem Inv.laid{a:Addr}{o:HO}{t':Nat}(I:Inv X AD σ H s)(k:∀b u,s.heap.get? b=some u->h'.get? b=some u)(hp:s.heap.objs.size<=a)(new:ObjOk X.prog X.w (upd H a o) h' a o) :
  Inv X AD σ (upd H a o) { s with heap:=h',toks:=t' }:=I.un (Un.laid k hp (I.hok.fresh hp)) (I.hok.laid k hp new)
theorem Inv.write{x e:Addr}{o:HO}{t':Nat}(I:Inv X AD σ H s)(mu:Mut (H x))(he:e=x\/H e=some (.own x))(k:∀b u,b≠e->s.heap.get? b=some u->h'.get? b=some u)(fi:∃u,h'.get? e=some u)(new:ObjOk X.prog X.w (upd H x o) h' x o):Inv X AD σ (upd H x o) { s with heap:=h',toks:=t' }:=I.un (Un.write mu he k fi) (I.hok.write mu he k fi new)
theorem Inv.pins_of{bT:List (Addr×Obj)}(I:Inv X AD σ H s)(h:∀p∈bT,s.heap.get? p.1=some p.2/\H p.1=none/\p.1≠X.env.locals/\p.1∉X.fs/\∀v,p.2.data≠.cell v):Inv X bT σ H s:=⟨I.ok,I.os,I.bare,I.base,I.loc,I.cell,I.free,I.freeC,fun p hp=>(List.mem_append.mp hp).elim (fun z=>I.pin p (List.mem_append_left _ z)) (h p),I.hok,I.len⟩
theorem Qg{N:List Str}(hN:N.Nodup){i j:Nat}{x:Str}(a:N[i]?=some x)(b:N[j]?=some x):i=j:=by obtain⟨h1,e1⟩:=List.getElem?_eq_some_iff.mp a;obtain⟨h2,e2⟩:=List.getElem?_eq_some_iff.mp b;exact(List.getElem_inj hN).mp (e1.trans e2.symm)
theorem Mo{M:Model}{A:Around}{E:Value->Shared->Prop}{i:Nat}{x:Str}{v:V}{u:Value}{Q:Unit->Shared->Prop}(I:Inv X AD σ H s)(hN:X.N.Nodup)(hi:X.N[i]?=some x)(hx:Loc X.env.scope x)(r:RelV v u)(h:∀s',Inv X AD (σ.set i (some v)) H s'->(∃a,Heap.SameBut a s.heap s'.heap/\(a=X.env.locals\/X.env.cells.lookup x=some a))->Q () s')(hf:X.fn x=true\/X.env.scope.names.lookup x=some .local:=by first|exact .inl rfl|exact .inr rfl|assumption):wpAny M A (storeName X.env x u) Q E s:=by
 obtain⟨m,hn,hl⟩:=id I.loc;have lr:(X.env.scope.kind==.class||(X.env.scope.kind==.module&&X.env.locals != X.env.globals))=false:=by rw[I.ok.kind];rfl
 have hiσ:i<σ.length:=by rw[I.len];exact(List.getElem?_eq_some_iff.mp hi).1
 have cne:=I.cne;have tracked:∀{a:Addr}{h':Heap},(∃o,s.heap.get? a=some o/\H a=none)->Heap.SameBut a s.heap h'->HOk X.prog X.w H h':=fun {a h'} ha hs b ob e=>by
  obtain⟨_,_,bg⟩:=ha;refine(I.hok b ob e).stay (fun c w' hc q=>(hs.2 c ?_).trans q) (fun _ q=>q) fun _ _ q=>q;rintro rfl;rcases hc with rfl|hc
  ·rw[bg]at e;cases e
  ·rw[bg]at hc;cases hc
 rcases hx with hk|hk
 ·refine wpAny_storeName_local hk hn (fun h' fu hs=>?_) lr;obtain⟨oL,_,_,bz,_⟩:=id hn;refine h _ ⟨I.ok,I.os,I.bare,⟨fun b o e n hb hx=>?_,fun b o e n hb hx=>?_,I.base.free,fun b o e hx=>?_,I.base.tups,I.base.frzs,I.base.tbls⟩,⟨_,fu,fun j y v' e1 e2 e3=>?_⟩,fun y c e=>?_,I.free,I.freeC,fun p hp=>?_,tracked ⟨oL,bz,I.free⟩ hs,by simpa using I.len⟩ ⟨_,hs,.inl rfl⟩
  ·exact(hs.2 b (Nat.ne_of_lt (Nat.lt_of_lt_of_le (Heap.lt_size e) I.ok.above))).trans (I.base.keep b o e n hb hx)
  ·obtain⟨sl,e1⟩:=I.base.slot b o e n hb hx;exact⟨sl,(hs.2 b (Nat.ne_of_lt (Nat.lt_of_lt_of_le (Heap.lt_size e) I.ok.above))).trans e1⟩
  ·obtain⟨o',e1⟩:=I.base.there b o e hx;exact⟨o',(hs.2 b (Nat.ne_of_lt (Nat.lt_of_lt_of_le (Heap.lt_size e) I.ok.above))).trans e1⟩
  ·by_cases hj:j=i
   ·subst hj;rw[hi]at e1;cases e1;rw[List.getElem?_set_self hiσ]at e2;cases e2;exact⟨u,r,.inl ⟨hk,by simp⟩⟩
   ·rw[List.getElem?_set_ne (Ne.symm hj)]at e2;obtain⟨u',r',q⟩:=hl j y v' e1 e2 e3;refine⟨u',r',?_⟩;rcases q with⟨k,e⟩|⟨k,c,e,z⟩
    ·refine .inl ⟨k,?_⟩;have:y≠x:=fun e=>hj (Qg hN e1 (e▸hi));simp[this,e]
    ·exact .inr ⟨k,c,e,z.sameBut hs (cne y c e)⟩
  ·obtain⟨w',z⟩:=I.cell y c e;exact⟨w',z.sameBut hs (cne y c e)⟩
  ·obtain⟨e,n,ne,nf,d⟩:=I.pin p hp;exact⟨(hs.2 p.1 ne).trans e,n,ne,nf,d⟩
 ·have fv:X.fn x=true:=by
   rcases hf with z|z
   ·exact z
   ·rw[z]at hk;cases hk
  obtain⟨c,hc⟩:=I.ok.has x (.inl hk);obtain⟨w',z⟩:=I.cell x c hc;refine wpAny_storeName_cell I.ok.kind hk hc z (fun h' pI hs=>?_);obtain⟨oc,br,lW⟩:=id z;refine h { s with heap:=h' } ⟨I.ok,I.os,I.bare,⟨fun b o e n hb hx=>?_,fun b o e n hb hx=>?_,I.base.free,fun b o e hx=>?_,I.base.tups,I.base.frzs,I.base.tbls⟩,⟨m,hn.sameBut hs (Ne.symm (cne x c hc)),fun j y v' e1 e2 e3=>?_⟩,fun y c' e=>?_,I.free,I.freeC,fun p hp=>?_,tracked ⟨oc,br,I.freeC x c hc⟩ hs,by simpa using I.len⟩ ⟨c,hs,.inr hc⟩
  ·exact(hs.2 b (Nat.ne_of_lt (Nat.lt_of_lt_of_le (Heap.lt_size e) (I.ok.cab x c fv hc)))).trans (I.base.keep b o e n hb hx)
  ·obtain⟨sl,e1⟩:=I.base.slot b o e n hb hx;exact⟨sl,(hs.2 b (Nat.ne_of_lt (Nat.lt_of_lt_of_le (Heap.lt_size e) (I.ok.cab x c fv hc)))).trans e1⟩
  ·obtain⟨o',e1⟩:=I.base.there b o e hx;exact⟨o',(hs.2 b (Nat.ne_of_lt (Nat.lt_of_lt_of_le (Heap.lt_size e) (I.ok.cab x c fv hc)))).trans e1⟩
  ·by_cases hj:j=i
   ·subst hj;rw[hi]at e1;cases e1;rw[List.getElem?_set_self hiσ]at e2;cases e2;exact⟨u,r,.inr ⟨.inl hk,c,hc,pI⟩⟩
   ·rw[List.getElem?_set_ne (Ne.symm hj)]at e2;obtain⟨u',r',q⟩:=hl j y v' e1 e2 e3;refine⟨u',r',?_⟩;rcases q with q|⟨k,c',e,z'⟩
    ·exact .inl q
    ·refine .inr ⟨k,c',e,z'.sameBut hs ?_⟩;rintro rfl;exact hj (Qg hN e1 (I.ok.inj _ _ _ e hc▸hi))
  ·by_cases hcc:c'=c
   ·subst hcc;exact⟨_,pI⟩
   ·obtain⟨w2,z2⟩:=I.cell y c' e;exact⟨w2,z2.sameBut hs hcc⟩
  ·obtain⟨e,n,ne,nf,d⟩:=I.pin p hp;refine⟨(hs.2 p.1 ?_).trans e,n,ne,nf,d⟩;intro q;rw[q,br]at e;have q':oc=p.2:=Option.some.inj e;exact d w' (by rw[<-q'];exact lW)
theorem LS{M:Model}{A:Around}{E:Value->Shared->Prop}{i:Nat}{x:Str}{v:V}{u:Value}{Q:Unit->Shared->Prop}(I:Inv X AD σ H s)(hN:X.N.Nodup)(hi:X.N[i]?=some x)(hx:Loc X.env.scope x)(r:RelV v u)(h:∀s',Inv X AD (σ.set i (some v)) H s'->Q () s')(hf:X.fn x=true\/X.env.scope.names.lookup x=some .local:=by first|exact .inl rfl|exact .inr rfl|assumption):wpAny M A (storeName X.env x u) Q E s:=Mo I hN hi hx r (fun s' I' _=>h s' I') hf
theorem Inv.call'{s':Shared}{ch:List Addr}(I:Inv X AD σ H s)(ho:s'.os=s.os)(u:Un (frs X.stack) ch H H' s.heap s'.heap)(hok:HOk X.prog X.w H' s'.heap)(hg:AllBare s'.gens)(UC:∀b∈ch,(b∈X.ex\/X.s₀.heap.objs.size<=b)/\b≠X.env.locals/\(∀x c,X.env.cells.lookup x=some c->c≠b)/\∀p∈X.pn++AD,p.1≠b):Inv X AD σ H' s':=by obtain⟨h',g',d',t',o'⟩:=s';have e:o'=s.os:=ho;subst e;exact I.call (g':=g') (t':=t') (d':=d') u hok hg UC
end
abbrev XK:=Value->Option Addr->Hp->Prop
abbrev St:=List (Option V)
abbrev VK:=V->Hp->Prop
abbrev TE:=St->Hp->VK->Prop
abbrev TT:=St->Hp->(Bool->Hp->Prop)->Prop
abbrev TA:=St->Hp->(List V->Hp->Prop)->Prop
structure Ends where
 nx:St->Hp->Prop
 rt:VK
 bk:St->Hp->Prop:=fun _ _=>False
 ct:St->Hp->Prop:=fun _ _=>False
abbrev TS:=Ends->St->Hp->Prop
def EP(X:Cx)(AD:List (Addr×Obj))(σ:St)(Q:VK)(u:Value)(s':Shared):Prop:=∃v H',Inv X AD σ H' s'/\RelV v u/\Q v H'
def TP(X:Cx)(AD:List (Addr×Obj))(σ:St)(Q:Bool->Hp->Prop)(b:Bool)(s':Shared):Prop:=∃H',Inv X AD σ H' s'/\Q b H'
def AP(X:Cx)(AD:List (Addr×Obj))(σ:St)(Q:List V->Hp->Prop)(us:List Value)(s':Shared):Prop:=∃vs H',Inv X AD σ H' s'/\Vals vs us/\Q vs H'
def SP(X:Cx)(AD:List (Addr×Obj))(D:Ends)(f:Flow)(s':Shared):Prop:=match f with
 |.next=>∃σ' H',Inv X AD σ' H' s'/\D.nx σ' H'
 |.brk=>∃σ' H',Inv X AD σ' H' s'/\D.bk σ' H'
 |.cont=>∃σ' H',Inv X AD σ' H' s'/\D.ct σ' H'
 |.ret u=>∃v σ' H',Inv X AD σ' H' s'/\RelV v u/\D.rt v H'
def PE(X:Cx)(e:Expr)(t:TE):Prop:=∀(AD:List (Addr×Obj))(s:Shared)(σ:St)(H:Hp)(Q:VK),Inv X AD σ H s->t σ H Q->wpAny (model X.prog X.w) X.A (eval e X.env) (EP X AD σ Q) X.xe s
def PT(X:Cx)(e:Expr)(t:TT):Prop:=∀(AD:List (Addr×Obj))(s:Shared)(σ:St)(H:Hp)(Q:Bool->Hp->Prop),Inv X AD σ H s->t σ H Q->wpAny (model X.prog X.w) X.A (isTrue e X.env (eval e X.env)) (TP X AD σ Q) X.xe s
def PA(X:Cx)(es:List Expr)(t:TA):Prop:=∀(pos:Pos)(AD:List (Addr×Obj))(s:Shared)(σ:St)(H:Hp)(Q:List V->Hp->Prop),Inv X AD σ H s->t σ H Q->wpAny (model X.prog X.w) X.A (spliced (backTo pos (starEach es X.env))) (AP X AD σ Q) X.xe s
def PS(X:Cx)(st:Stmt)(t:TS):Prop:=∀(AD:List (Addr×Obj))(s:Shared)(σ:St)(H:Hp)(D:Ends),Inv X AD σ H s->t D σ H->wpAny (model X.prog X.w) X.A (exec st X.env) (SP X AD D) X.xe s
def PSs(X:Cx)(st:List Stmt)(t:TS):Prop:=∀(AD:List (Addr×Obj))(s:Shared)(σ:St)(H:Hp)(D:Ends),Inv X AD σ H s->t D σ H->wpAny (model X.prog X.w) X.A (execs st X.env) (SP X AD D) X.xe s
theorem thn{α:Type}{t:Sem α}{Q Q':α->Shared->Prop}{M:Model}{A:Around}{E:Value->Shared->Prop}{s:Shared}(h:wpAny M A t Q E s)(hQ:∀a s,Q a s->Q' a s):wpAny M A t Q' E s:=wpAny_mono h hQ fun _ _ x=>x
section
variable {X:Cx}
def ku(i:Nat):TE:=fun σ H Q=>∃v,σ[i]?=some (some v)/\Q v H
def tC(v:V):TE:=fun _ H Q=>Q v H
theorem eF{i:Nat}{x:Str}{pos:Pos}(hN:X.N[i]?=some x)(hv:Vis X.env.scope x)(hd:(x==("__debug__":Str))=false:=by decide)(WR:(x==("__classdict__":Str))=false:=by decide):PE X (.Name x pos) (ku i):=by
 intro AD s σ H Q I h;obtain⟨v,e,h⟩:=h;obtain⟨m,hn,hl⟩:=I.loc;obtain⟨u,r,l⟩:=hl i x v hN e hv;have fin:EP X AD σ Q u s:=⟨v,H,I,r,h⟩;rcases l with⟨hk,hm⟩|⟨hk,c,hc,T7⟩
 ·exact wpAny_Name (wpAny_loadName_local I.ok.kind hk hn hm fin) hd
 ·rcases hk with hk|hk
  ·exact wpAny_Name (wpAny_loadName_cell I.ok.kind hk hc T7 fin) hd
  ·exact wpAny_Name (wpAny_loadName_free I.ok.kind hk hc T7 fin WR) hd
theorem eI{i j pos}:PE X (.Constant (.int i) j pos) (tC (.int i)):=fun _ _ _ H _ I h=>wpAny_Constant_int ⟨.int i,H,I.tok _,⟨_,rfl⟩,h⟩
theorem g7{b j pos}:PE X (.Constant (.bool b) j pos) (tC (.bl b)):=fun _ _ _ H _ I h=>Constant_bool ⟨.bl b,H,I,rfl,h⟩
theorem dF{j pos}:PE X (.Constant .none j pos) (tC .non):=fun _ _ _ H _ I h=>Constant_none ⟨.non,H,I,rfl,h⟩
theorem dC{x j pos}:PE X (.Constant (.str x) j pos) (tC (.str x)):=fun _ _ _ H _ I h=>Calls.Constant_str ⟨.str x,H,I.tok _,⟨_,rfl⟩,h⟩
def Gl(X:Cx)(x:Str):Prop:=X.env.kindOf x=some .globalImplicit
theorem Ud{E:Value->Shared->Prop}{AD:List (Addr×Obj)}{s:Shared}{σ:St}{H:Hp}{x:Str}{u:Value}{pos:Pos}{Q:Value->Shared->Prop}(I:Inv X AD σ H s)(hg:Gl X x)(hm:X.mg x=some u)(h:Q u s)(hd:(x==("__debug__":Str))=false:=by decide):wpAny (model X.prog X.w) X.A (eval (.Name x pos) X.env) Q E s:=Calls.Name_function_global I.ok.kind hg (Calls.loadGlobal_global (by rw[I.ok.glob];exact I.mod.glob.keeps I.bk) hm h) hd
theorem Ff{E:Value->Shared->Prop}{AD:List (Addr×Obj)}{s:Shared}{σ:St}{H:Hp}{x:Str}{u:Value}{pos:Pos}{Q:Value->Shared->Prop}(I:Inv X AD σ H s)(hg:Gl X x)(hm:X.mg x=none)(hv:bootBuiltins x=some u)(h:Q u s)(hn:x≠"__name__":=by decide)(hd:(x==("__debug__":Str))=false:=by decide):wpAny (model X.prog X.w) X.A (eval (.Name x pos) X.env) Q E s:=by obtain⟨mb,h1,h2⟩:=I.mod.blt;exact Calls.Name_function_global I.ok.kind hg (Calls.loadGlobal_builtin (by rw[I.ok.glob];exact I.mod.glob.keeps I.bk) hm (by rw[I.ok.blt];exact h1.keeps I.bk) ((h2 x hn).trans hv) h) hd
theorem Td{x:Str}{v:V}{u:Value}{pos:Pos}(hg:Gl X x)(hm:X.mg x=some u)(r:RelV v u)(hd:(x==("__debug__":Str))=false:=by decide):PE X (.Name x pos) (tC v):=fun _ _ _ H _ I h=>Ud I hg hm ⟨v,H,I,r,h⟩ hd
theorem Ur{x:Str}{v:V}{u:Value}{pos:Pos}(hg:Gl X x)(hm:X.mg x=none)(hv:bootBuiltins x=some u)(r:RelV v u)(hn:x≠"__name__":=by decide)(hd:(x==("__debug__":Str))=false:=by decide):PE X (.Name x pos) (tC v):=fun _ _ _ H _ I h=>Ff I hg hm hv ⟨v,H,I,r,h⟩ hn hd
variable {a b:Expr}{ta tb:TE}{pos:Pos}
theorem K8(b:Expr){op:CmpOp}(h:op≠.In)(h2:op≠.NotIn):behindInMarks op b=false:=by
 have e1:(op==CmpOp.In)=false:=by cases op<;>first|rfl|exact absurd rfl h
 have e2:(op==CmpOp.NotIn)=false:=by cases op<;>first|rfl|exact absurd rfl h2
 cases b<;>simp[behindInMarks,e1,e2]
variable {tA si:TT}{rest:List Expr}
end
def SqL(K:PySem.W.Frag)(H:Hp)(a:Addr)(xs:List V):Prop:=Rd H a (.lst xs) ∨
  ∃(o:Obj)(AY:Array Value)(n:Nat),K.lookup a=some o/\o.cls=.type "list"/\o.dict=none/\o.data=.seq AY n/\AY.size<=sizeLine/\Vals xs AY.toList
def SqT(K:PySem.W.Frag)(H:Hp)(a:Addr)(xs:List V):Prop:=Rd H a (.tup xs) ∨
  ∃(o:Obj)(AY:Array Value)(n:Nat),K.lookup a=some o/\o.cls=.type "tuple"/\o.data=.seq AY n/\AY.size<=sizeLine/\Vals xs AY.toList
def lg:Value->Option V
 |.none=>some .non
 |.bool b=>some (.bl b)
 |.int i _=>some (.int i)
 |.str x _=>some (.str x)
 |.bytes b _=>some (.byt b)
 |.float b _=>some (.flt b)
 |.ref a=>some (.ref a)
 |.type n=>some (.ty n)
 |_=>none
theorem RelV.abs{x:V}{u:Value}(r:RelV x u):lg u=some x:=by
 cases x with
 |non=>cases r;rfl
 |bl _=>cases r;rfl
 |int _=>obtain⟨t,rfl⟩:=r;rfl
 |str _=>obtain⟨t,rfl⟩:=r;rfl
 |byt _=>obtain⟨t,rfl⟩:=r;rfl
 |flt _=>obtain⟨t,rfl⟩:=r;rfl
 |ref _=>cases r;rfl
 |ty _=>cases r;rfl
theorem RelV.inj{x y:V}{u:Value}(r:RelV x u)(q:RelV y u):x=y:=Option.some.inj (r.abs.symm.trans q.abs)
theorem Vals.inj:∀{xs ys:List V}{us:List Value},Vals xs us->Vals ys us->xs=ys
 |_,_,_,.nil,.nil=>rfl
 |_,_,_,.cons r t,.cons r' t'=>by rw[r.inj r',Vals.inj t t']
section
variable {X:Cx}{AD:List (Addr×Obj)}{σ:St}{H:Hp}{s:Shared}{a:Addr}{xs ys:List V}
theorem SqL.of{K:PySem.W.Frag}(h:H a=some (.lst xs)):SqL K H a xs:=.inl (.inl h)
theorem SqT.of{K:PySem.W.Frag}(h:H a=some (.tup xs)):SqT K H a xs:=.inl (.inl h)
theorem Inv.list(I:Inv X AD σ H s)(h:SqL X.K H a xs):∃AY:List Value,Vals xs AY/\PlainL s.heap a AY.toArray/\xs.length<=sizeLine:=by
 rcases h with h|⟨o,AY,n,hk,hc,hd,hs,hz,r⟩
 ·obtain⟨z,AY,n,r,e⟩:=h.ok I.hok;exact⟨AY,r,⟨_,n,e,rfl,rfl,rfl⟩,z⟩
 ·refine⟨AY.toList,r,⟨o,n,I.kIn a o hk,hc,hd,by simpa using hs⟩,?_⟩;have e:=r.length;simp only[Array.length_toList]at e;lia
theorem Inv.tuple(I:Inv X AD σ H s)(h:SqT X.K H a xs):∃AY:List Value,Vals xs AY/\IsTup s.heap a AY.toArray/\xs.length<=sizeLine:=by
 rcases h with h|⟨o,AY,n,hk,hc,hs,hz,r⟩
 ·obtain⟨z,AY,r,p⟩:=h.ok I.hok;exact⟨AY,r,p,z⟩
 ·refine⟨AY.toList,r,⟨o,I.kIn a o hk,hc,n,by simpa using hs⟩,?_⟩;have e:=r.length;simp only[Array.length_toList]at e;lia
theorem Inv.list_inj(I:Inv X AD σ H s)(h:SqL X.K H a xs)(h':SqL X.K H a ys):xs=ys:=by
 obtain⟨AY,r,⟨o,n,e,_,_,d⟩,_⟩:=I.list h;obtain⟨its',r',⟨o',n',e',_,_,d'⟩,_⟩:=I.list h';rw[e]at e';cases e';rw[d]at d';injection d' with d1 _;have:AY=its':=by simpa using congrArg Array.toList d1
 subst this;exact r.inj r'
theorem Inv.tuple_inj(I:Inv X AD σ H s)(h:SqT X.K H a xs)(h':SqT X.K H a ys):xs=ys:=by
 obtain⟨AY,r,⟨o,e,_,n,d⟩,_⟩:=I.tuple h;obtain⟨its',r',⟨o',e',_,n',d'⟩,_⟩:=I.tuple h';rw[e]at e';cases e';rw[d]at d';injection d' with d1 _;have:AY=its':=by simpa using congrArg Array.toList d1
 subst this;exact r.inj r'
end
abbrev Cx.wish(X:Cx)(E:Value->Shared->Prop):Cx:={ X with xe:=E }
abbrev Cx.nox(X:Cx):Cx:=X.wish fun _ _=>False
theorem Cx.Ok.wish{X:Cx}(ok:X.Ok)(E:Value->Shared->Prop):(X.wish E).Ok:=⟨ok.mod,ok.kind,ok.glob,ok.blt,ok.above,ok.inj,ok.has,ok.cab,ok.hd,ok.frames,ok.stk,ok.exf,ok.bs,ok.bsz,ok.noex,ok.exfs,ok.funs,ok.frf⟩
theorem Cx.Ok.unwish{X:Cx}{E:Value->Shared->Prop}(ok:(X.wish E).Ok):X.Ok:=⟨ok.mod,ok.kind,ok.glob,ok.blt,ok.above,ok.inj,ok.has,ok.cab,ok.hd,ok.frames,ok.stk,ok.exf,ok.bs,ok.bsz,ok.noex,ok.exfs,ok.funs,ok.frf⟩
section
variable {X:Cx}{AD:List (Addr×Obj)}{σ:St}{H:Hp}{s:Shared}{E:Value->Shared->Prop}
theorem Inv.wish(I:Inv X AD σ H s)(E:Value->Shared->Prop):Inv (X.wish E) AD σ H s:=⟨I.ok.wish E,I.os,I.bare,I.base,I.loc,I.cell,I.free,I.freeC,I.pin,I.hok,I.len⟩
theorem Inv.unwish(I:Inv (X.wish E) AD σ H s):Inv X AD σ H s:=⟨I.ok.unwish,I.os,I.bare,I.base,I.loc,I.cell,I.free,I.freeC,I.pin,I.hok,I.len⟩
theorem SP.unwish{D:Ends}{f:Flow}{s':Shared}(h:SP (X.wish E) AD D f s'):SP X AD D f s':=by
 cases f with
 |next=>obtain⟨σ',H',I,q⟩:=h;exact⟨σ',H',I.unwish,q⟩
 |brk=>obtain⟨σ',H',I,q⟩:=h;exact⟨σ',H',I.unwish,q⟩
 |cont=>obtain⟨σ',H',I,q⟩:=h;exact⟨σ',H',I.unwish,q⟩
 |ret u=>obtain⟨v,σ',H',I,r,q⟩:=h;exact⟨v,σ',H',I.unwish,r,q⟩
theorem PSs.nox{st:List Stmt}{t:TS}(h:PSs X.nox st t):PSs X st t:=fun AD s σ H D I hw=>
 wpAny_mono (h AD s σ H D (I.wish _) hw) (fun _ _ q=>q.unwish) fun _ _ z=>False.elim z
end
section
variable {X:Cx}{st:Stmt}{rest:List Stmt}{t u:TS}{e:Expr}{te:TE}{pos:Pos}
theorem Inv.quiet{AD:List (Addr×Obj)}{σ:St}{H:Hp}{s:Shared}(I:Inv X AD σ H s):interactive X.env=false:=by simp[interactive,I.ok.kind]
def i7(te:TE):TS:=fun D σ H=>te σ H fun _ H1=>D.nx σ H1
theorem Ij(he:PE X e te)(hs:swapsWith e none pos.line X.env=pure false:=by rfl):PS X (.Expr e pos) (i7 te):=by intro AD s σ H D I h;exact wpAny_Expr_any (thn (he AD s σ H _ I h) fun v s1 ⟨x,H1,I1,r1,q1⟩=>⟨σ,H1,I1,q1⟩) I.quiet hs
end
abbrev TG:=V->St->Hp->(St->Hp->Prop)->Prop
abbrev TGs:=List V->St->Hp->(St->Hp->Prop)->Prop
def PG(X:Cx)(AN:Expr)(t:TG):Prop:=∀(AD:List (Addr×Obj))(s:Shared)(σ:St)(H:Hp)(v:V)(u:Value)(Q:St->Hp->Prop),Inv X AD σ H s->RelV v u->t v σ H Q →
  wpAny (model X.prog X.w) X.A (assign AN X.env u) (fun _ s'=>∃σ' H',Inv X AD σ' H' s'/\Q σ' H') X.xe s
def PGs(X:Cx)(ts:List Expr)(t:TGs):Prop:=∀(AD:List (Addr×Obj))(s:Shared)(σ:St)(H:Hp)(vs:List V)(us:List Value)(Q:St->Hp->Prop),Inv X AD σ H s->Vals vs us->t vs σ H Q →
  wpAny (model X.prog X.w) X.A (assignInOrder ((assignEach ts X.env).map (·.2)) us) (fun _ s'=>∃σ' H',Inv X AD σ' H' s'/\Q σ' H') X.xe s
abbrev TIp:=V->V->Hp->VK->Prop
def PIp(X:Cx)(op:Operator)(t:TIp):Prop:=∀(AD:List (Addr×Obj))(s:Shared)(σ:St)(H:Hp)(x y:V)(v u:Value)(Q:VK),Inv X AD σ H s->RelV x v->RelV y u->t x y H Q →
  wpAny (model X.prog X.w) X.A (inplaceOp op v u) (EP X AD σ Q) X.xe s
section
variable {X:Cx}{pos:Pos}
def cB(i:Nat):TG:=fun v σ H Q=>Q (σ.set i (some v)) H
theorem HH{i:Nat}{x:Str}(hN:X.N.Nodup)(hi:X.N[i]?=some x)(hx:Loc X.env.scope x)(hf:X.fn x=true\/X.env.scope.names.lookup x=some .local:=by first|exact .inl rfl|exact .inr rfl|assumption):PG X (.Name x pos) (cB i):=by intro AD s σ H v u Q I r h;exact wpAny_assign_Name (LS I hN hi hx r (fun s' I'=>⟨_,H,I',h⟩) hf)
def lh:TGs:=fun vs σ H Q=>vs=[]/\Q σ H
def iV(t:TG)(u:TGs):TGs:=fun vs σ H Q=>∃v r,vs=v::r/\t v σ H fun σ' H'=>u r σ' H' Q
theorem Tc:PGs X [] lh:=by intro AD s σ H vs us Q I r h;obtain⟨e,h⟩:=h;subst e;cases r;exact assignInOrder_nil ⟨σ,H,I,h⟩
theorem Gn{e:Expr}{es:List Expr}{t:TG}{u:TGs}(h1:PG X e t)(h2:PGs X es u)(hs:(assignEach (e::es) X.env).map (·.2)=assign e X.env::(assignEach es X.env).map (·.2):=by rfl):PGs X (e::es) (iV t u):=by
 intro AD s σ H vs us Q I r h;obtain⟨v,vr,e1,h⟩:=h;subst e1;cases r with
 |cons r rr=>
  rw[hs];refine assignInOrder_cons (thn (h1 AD s σ H _ _ _ I r h) fun _ s1 ⟨σ1,H1,I1,q1⟩=>?_);exact h2 AD s1 σ1 H1 _ _ Q I1 rr q1
def kY(K:PySem.W.Frag)(n:Nat)(t:TGs):TG:=fun v σ H Q=>∃a xs,v=.ref a/\SqT K H a xs/\xs.length=n/\t xs σ H Q
theorem Y2{es:List Expr}{k:Nat}{t:TGs}{n:Nat}(hc:X.calm=true)(h:PGs X es t)(hn:(assignEach es X.env).length=n:=by rfl)(Hu:(assignEach es X.env).findIdx? (·.1)=none:=by rfl):PG X (.Tuple es k pos) (kY X.K n t):=by intro AD s σ H v u Q I r hw;obtain⟨a,xs,e1,hq,hl,hw⟩:=hw;subst e1;cases r;obtain⟨AY,rv,ht,hz⟩:=I.tuple hq;refine assign_Tuple_tuple (I.ok.hd hc) ht (by simp[hn,<-hl,rv.length]) Hu fun h' hx=>?_;have I1:Inv X AD σ H { s with heap:=h' }:=I.kept (t':=s.toks) fun b o e=>hx b o (Nat.ne_of_lt (Heap.lt_size e)) e;exact h AD _ σ H xs _ Q I1 (by simpa using rv) hw
def jx(te:TE)(g:TG):TS:=fun D σ H=>te σ H fun x H1=>g x σ H1 D.nx
theorem Yr{i:Nat}{x:Str}{e:Expr}{te:TE}{pos':Pos}(hN:X.N.Nodup)(hi:X.N[i]?=some x)(hx:Loc X.env.scope x)(he:PE X e te)(hs:swapsWith e (some (.Name x pos')) pos.line X.env=pure false:=by rfl)(hf:X.fn x=true\/X.env.scope.names.lookup x=some .local:=by first|exact .inl rfl|exact .inr rfl|assumption) :
  PS X (.Assign [.Name x pos'] e pos) (jx te (cB i)):=by
 intro AD s σ H D I h;refine wpAny_Assign_Name (thn (he AD s σ H _ I h) fun v s1 ⟨y,H1,I1,r1,q1⟩=>?_) hs;exact LS I1 hN hi hx r1 (fun s2 I2=>⟨_,H1,I2,q1⟩) hf
def km(i:Nat)(te:TE)(ti:TIp):TS:=fun D σ H=>∃x,σ[i]?=some (some x)/\te σ H fun y H1=>ti x y H1 fun z H2=>D.nx (σ.set i (some z)) H2
theorem er{i:Nat}{x:Str}{e:Expr}{te:TE}{op:Operator}{ti:TIp}{pos':Pos}(hN:X.N.Nodup)(hi:X.N[i]?=some x)(hx:Loc X.env.scope x)(he:PE X e te)(ho:PIp X op ti)(hf:X.fn x=true\/X.env.scope.names.lookup x=some .local:=by first|exact .inl rfl|exact .inr rfl|assumption) :
  PS X (.AugAssign (.Name x pos') op e pos) (km i te ti):=by
 intro AD s σ H D I h;obtain⟨v,e1,h⟩:=h;obtain⟨m,hn,hl⟩:=I.loc;have pW:Vis X.env.scope x:=by rcases hx with k|k;exact .inl k;exact .inr (.inl k)
 obtain⟨u,r,l⟩:=hl i x v hi e1 pW;refine wpAny_AugAssign_Name ?_;have go:wpAny (model X.prog X.w) X.A (eval e X.env) (fun w s₂=>wpAny (model X.prog X.w) X.A (inplaceOp op u w) (fun r s₃=>wpAny (model X.prog X.w) X.A (storeName X.env x r) (fun _=>SP X AD D .next) X.xe s₃) X.xe s₂) X.xe s:=by
  refine thn (he AD s σ H _ I h) fun w s1 ⟨y,H1,I1,r1,q1⟩=>?_;refine thn (ho AD s1 σ H1 v y u w _ I1 r r1 q1) fun z s2 ⟨zv,H2,I2,r2,q2⟩=>?_;exact LS I2 hN hi hx r2 (fun s3 I3=>⟨_,H2,I3,q2⟩) hf
 rcases l with⟨hk,hm⟩|⟨hk,c,hc,T7⟩
 ·exact wpAny_loadName_local I.ok.kind hk hn hm go
 ·rcases hk with hk|hk
  ·exact wpAny_loadName_cell I.ok.kind hk hc T7 go
  ·rcases hx with k|k
   ·have:X.env.scope.names.lookup x=some .free:=hk;rw[k]at this;cases this
   ·have:X.env.scope.names.lookup x=some .free:=hk;rw[k]at this;cases this
def ipI(f:Int->Int->Int):TIp:=fun x y H Q=>∃i j,x=.int i/\y=.int j/\Q (.int (f i j)) H
theorem fT:PIp X .Add (ipI fun i j=>i+j):=by intro AD s σ H x y v u Q I r1 r2 h;obtain⟨i,j,e1,e2,q⟩:=h;subst e1;subst e2;obtain⟨t,rfl⟩:=r1;obtain⟨t',rfl⟩:=r2;exact iadd_int ⟨.int _,H,I.tok _,⟨_,rfl⟩,q⟩
end
structure It where
 go:Nat->Hp->Prop
 yld:Nat->Hp->V->Hp->Prop
 stop:Nat->Hp->Prop
def Jq(X:Cx)(AD:List (Addr×Obj))(H:Hp)(b:Addr):Prop:=H b=none/\b≠X.env.locals/\b∉X.fs/\(b∈X.ex\/X.s₀.heap.objs.size<=b)/\(∀x c,X.env.cells.lookup x=some c->c≠b)/\∀p∈X.pn++AD,p.1≠b
theorem Inv.fpOk{X:Cx}{AD:List (Addr×Obj)}{σ:St}{H H':Hp}{s:Shared}{b:Addr}(I:Inv X AD σ H s)(hb:s.heap.objs.size<=b)(hn:H' b=none):Jq X AD H' b:=by
 refine⟨hn,Nat.ne_of_gt (Nat.lt_of_lt_of_le I.lt hb),I.nofs hb,.inr (Nat.le_trans I.sz hb),fun x c e z=>?_,fun p hp z=>?_⟩
 ·obtain⟨v,q⟩:=I.cell x c e;exact absurd (Nat.lt_of_lt_of_le q.lt (by rw[z];exact hb)) (Nat.lt_irrefl _)
 ·exact absurd (Nat.lt_of_lt_of_le (Heap.lt_size (I.pin p hp).1) (by rw[z];exact hb)) (Nat.lt_irrefl _)
structure Turn (P:Program) (w:World) (K:PySem.W.Frag) (tg:Expr) (J:It) (fp:List Addr) (it:Addr) (tn:Nat->Heap->Prop):Prop where
 mem:it∈fp
 obj:∀i h,tn i h->∀b∈fp,∃o,h.get? b=some o/\∀v,o.data≠.cell v
 keep:∀i h h',tn i h->(∀b∈fp,∀o,h.get? b=some o->h'.get? b=some o)->tn i h'
 item:∀(X:Cx),X.prog=P->X.w=w->X.K=K->X.calm=true->∀(i:Nat)(AD:List (Addr×Obj))(s:Shared)(σ:St)(H:Hp)(E:Value->Shared->Prop),Inv X AD σ H s->(∀b∈fp,Jq X AD H b)->tn i s.heap->J.go i H →
  wpAny (model P w) X.A (pyNext (.ref it)) (fun r s1=>∃u,r=some u ∧
   wpAny (model P w) X.A (letOwnedTupleGo tg (.ref it) u) (fun _ s2=>∃x H',Inv X AD σ H' s2/\RelV x u/\J.yld i H x H'/\tn (i+1) s2.heap/\∀b∈fp,H' b=none) E s1) E s
 done:∀(X:Cx),X.prog=P->X.w=w->X.K=K->X.calm=true->∀(i:Nat)(AD:List (Addr×Obj))(s:Shared)(σ:St)(H:Hp)(E:Value->Shared->Prop),Inv X AD σ H s->(∀b∈fp,Jq X AD H b)->tn i s.heap->J.stop i H →
  wpAny (model P w) X.A (pyNext (.ref it)) (fun r s1=>r=none/\Inv X AD σ H s1) E s
 self:∀(A:Around)(i:Nat)(s:Shared)(Q:Value->Shared->Prop)(E:Value->Shared->Prop),tn i s.heap->Q (.ref it) s->wpAny (model P w) A (pyIter (.ref it)) Q E s
abbrev TI:=St->Hp->(It->Hp->Prop)->Prop
def PIE(X:Cx)(AD:List (Addr×Obj))(σ:St)(tg:Expr)(R:It->Hp->Prop)(fb:Value)(s2:Shared):Prop:=∃(it:Addr)(fp:List Addr)(tn:Nat->Heap->Prop)(J:It)(H':Hp),fb=.ref it/\Inv X AD σ H' s2/\Turn X.prog X.w X.K tg J fp it tn/\tn 0 s2.heap/\(∀b∈fp,Jq X AD H' b)/\R J H'
def PI(X:Cx)(tg An:Expr)(wi:TI):Prop:=∀(AD:List (Addr×Obj))(s:Shared)(σ:St)(H:Hp)(R:It->Hp->Prop),Inv X AD σ H s->wi σ H R →
  wpAny (model X.prog X.w) X.A (eval An X.env) (fun v s1=>wpAny (model X.prog X.w) X.A (pyIter v) (PIE X AD σ tg R) X.xe s1) X.xe s
theorem Pm{M : Model}{A : Around}{E : Value → Shared → Prop}{s : Shared}{tg : Expr}{it : Addr}{u : Value}{o : Obj}{n : String}{vs : Array Value}{Q : Unit → Shared → Prop}(ho : s.heap.get? it = some o)(hc : o.cls = .type n)(hd : o.data = .fields vs)(hn : ["enumerate", "zip", "dict_itemiterator", "dict_reverseitemiterator", "odict_iterator", "itertools.zip_longest", "itertools.pairwise"].contains n = false)(hQ : Q () s) : wpAny M A (letOwnedTupleGo tg (.ref it) u) Q E s := by
  unfold letOwnedTupleGo;cases tg <;> first
    | exact wpAny_pure hQ
    | (cases u <;> first
        | exact wpAny_pure hQ
        | (refine wpAny_bind (wpAny_load ho ?_)
           rw[hc, hd];show wpAny M A (if (["enumerate", "zip", "dict_itemiterator", "dict_reverseitemiterator", "odict_iterator", "itertools.zip_longest", "itertools.pairwise"].contains n && vs[0]? == some (rawInt _)) = true then _ else _) Q E s;rw[if_neg (by intro h; rw[hn, Bool.false_and] at h; cases h)];exact wpAny_pure hQ))
def Itl(K:PySem.W.Frag)(a:Addr):It:=⟨fun i H=>∃xs x,SqL K H a xs/\xs[i]?=some x,fun i H x H'=>H'=H/\∀xs,SqL K H a xs->xs[i]?=some x,fun i H=>∃xs,SqL K H a xs/\xs.length<=i⟩
def Itt(K:PySem.W.Frag)(a:Addr):It:=⟨fun i H=>∃xs x,SqT K H a xs/\xs[i]?=some x,fun i H x H'=>H'=H/\∀xs,SqT K H a xs->xs[i]?=some x,fun i H=>∃xs,SqT K H a xs/\xs.length<=i⟩
def Itr(lo:Int)(n:Nat):It:=⟨fun i _=>i<n,fun i H x H'=>H'=H/\x=.int (lo+i),fun i _=>n<=i⟩
theorem V5{P:Program}{w:World}{K:PySem.W.Frag}{tg:Expr}(a it:Addr):Turn P w K tg (Itl K a) [it] it (fun i h=>h.IsListIter it a i) where
 mem:=by simp
 obj:=fun i h st b hb=>by
  have e:b=it:=by simpa using hb
  subst e;obtain⟨o,e,c,d⟩:=st;exact⟨o,e,fun v z=>by rw[d]at z;cases z⟩
 keep:=fun i h h' st k=>st.at fun o e=>k it (by simp) o e
 item:=by
  intro X hP hw hK hc i AD s σ H E I hf st hg;subst hP hw hK;obtain⟨xs,x,hq,hx⟩:=hg;obtain⟨AY,rv,p,hz⟩:=I.list hq;obtain⟨u,hu,ru⟩:=rv.get hx;obtain⟨f0,f1,f2,f3,f4,f5⟩:=hf it (by simp);refine wpAny_pyNext_list_item st p.isList (x:=u) (by simpa using hu) fun h' AX sb=>?_;have I1:Inv X AD σ H { s with heap:=h' }:=I.turned (t':=s.toks) (fun b o hb e=>(sb.2 b hb).trans e) f0 f1 f3 f4 f5;obtain⟨o,e,c,d⟩:=id AX;exact⟨u,rfl,Pm (s:={ s with heap:=h' }) e c d (by decide) ⟨x,H,I1,ru,⟨rfl,fun ys hy=>by rw[I.list_inj hy hq];exact hx⟩,AX,fun b hb=>(hf b hb).1⟩⟩
 done:=by
  intro X hP hw hK hc i AD s σ H E I hf st hg;subst hP hw hK;obtain⟨xs,hq,hx⟩:=hg;obtain⟨AY,rv,p,hz⟩:=I.list hq;obtain⟨f0,f1,f2,f3,f4,f5⟩:=hf it (by simp);have hl:=rv.length;exact wpAny_pyNext_list_end (I.ok.hd hc) st p.isList (by simp;lia) fun h' eb=>⟨rfl,I.turned (t':=s.toks) (fun b o hb e=>eb b o hb e) f0 f1 f3 f4 f5⟩
 self:=fun _ _ _ _ _ st h=>wpAny_pyIter_listiter st h
theorem Rc{P:Program}{w:World}{K:PySem.W.Frag}{tg:Expr}(a it:Addr):Turn P w K tg (Itt K a) [it] it (fun i h=>h.IsTupleIter it a i) where
 mem:=by simp
 obj:=fun i h st b hb=>by
  have e:b=it:=by simpa using hb
  subst e;obtain⟨o,e,c,d⟩:=st;exact⟨o,e,fun v z=>by rw[d]at z;cases z⟩
 keep:=fun i h h' st k=>st.at fun o e=>k it (by simp) o e
 item:=by
  intro X hP hw hK hc i AD s σ H E I hf st hg;subst hP hw hK;obtain⟨xs,x,hq,hx⟩:=hg;obtain⟨AY,rv,p,hz⟩:=I.tuple hq;obtain⟨u,hu,ru⟩:=rv.get hx;obtain⟨f0,f1,f2,f3,f4,f5⟩:=hf it (by simp);refine wpAny_pyNext_tuple_item st (show s.heap.IsTuple a AY.toArray from p) (x:=u) (by simpa using hu) fun h' AX sb=>?_;have I1:Inv X AD σ H { s with heap:=h' }:=I.turned (t':=s.toks) (fun b o hb e=>(sb.2 b hb).trans e) f0 f1 f3 f4 f5;obtain⟨o,e,c,d⟩:=id AX;exact⟨u,rfl,Pm (s:={ s with heap:=h' }) e c d (by decide) ⟨x,H,I1,ru,⟨rfl,fun ys hy=>by rw[I.tuple_inj hy hq];exact hx⟩,AX,fun b hb=>(hf b hb).1⟩⟩
 done:=by
  intro X hP hw hK hc i AD s σ H E I hf st hg;subst hP hw hK;obtain⟨xs,hq,hx⟩:=hg;obtain⟨AY,rv,p,hz⟩:=I.tuple hq;obtain⟨f0,f1,f2,f3,f4,f5⟩:=hf it (by simp);have hl:=rv.length;exact wpAny_pyNext_tuple_end (I.ok.hd hc) st (show s.heap.IsTuple a AY.toArray from p) (by simp;lia) fun h' eb=>⟨rfl,I.turned (t':=s.toks) (fun b o hb e=>eb b o hb e) f0 f1 f3 f4 f5⟩
 self:=fun _ _ _ _ _ st h=>wpAny_pyIter_tupleiter st h
theorem Rq{P:Program}{w:World}{K:PySem.W.Frag}{tg:Expr}(it:Addr)(lo:Int)(n:Nat):Turn P w K tg (Itr lo n) [it] it (fun i h=>IsRangeIter h it (lo+(i:Nat)*1) ((n:Int)-(i:Nat)) 1) where
 mem:=by simp
 obj:=fun i h st b hb=>by
  have e:b=it:=by simpa using hb
  subst e;exact⟨_,st,fun v z=>by
   have z':Data.fields _=Data.cell v:=z;cases z'⟩
 keep:=fun i h h' st k=>k it (by simp) _ st
 item:=by
  intro X hP hw hK hc i AD s σ H E I hf st hg;subst hP hw hK;obtain⟨f0,f1,f2,f3,f4,f5⟩:=hf it (by simp);have W:=Walks.range (prog:=X.prog) (w:=X.w) (I.ok.hd hc) it lo 1 n;refine W.item i s _ _ hg st fun v h' tk hv AX kk=>?_;obtain⟨t,rfl⟩:=hv;have I1:Inv X AD σ H { s with heap:=h',toks:=tk }:=I.turned (fun b o hb e=>kk b o (by simpa using hb) e) f0 f1 f3 f4 f5;refine⟨_,rfl,Pm (s:={ s with heap:=h',toks:=tk }) (n:="range_iterator") AX rfl rfl (by decide) ⟨.int (lo+i),H,I1,⟨t,?_⟩,⟨rfl,rfl⟩,AX,fun b hb=>(hf b hb).1⟩⟩;rw[Int.mul_one]
 done:=by
  intro X hP hw hK hc i AD s σ H E I hf st hg;subst hP hw hK;obtain⟨f0,f1,f2,f3,f4,f5⟩:=hf it (by simp);exact wpAny_pyNext_range_end (I.ok.hd hc) st (by have:n<=i:=hg;lia) fun h' eb=>⟨rfl,I.turned (t':=s.toks) (fun b o hb e=>eb b o hb e) f0 f1 f3 f4 f5⟩
 self:=fun _ _ _ _ _ st h=>wpAny_pyIter_rangeiter st h
section
variable {X:Cx}{tg:Expr}
def gH(K:PySem.W.Frag)(tl:TE):TI:=fun σ H R=>tl σ H fun x H1=>∃a,x=.ref a/\(∃xs,SqL K H1 a xs)/\R (Itl K a) H1
def l3(K:PySem.W.Frag)(tl:TE):TI:=fun σ H R=>tl σ H fun x H1=>∃a,x=.ref a/\(∃xs,SqT K H1 a xs)/\R (Itt K a) H1
theorem aq{l:Expr}{tl:TE}(hl:PE X l tl):PI X tg l (gH X.K tl):=by
 intro AD s σ H R I h;refine thn (hl AD s σ H _ I h) fun v s1 ⟨x,H1,I1,r1,q1⟩=>?_;obtain⟨a,e,⟨xs,hq⟩,q⟩:=q1;subst e;cases r1;obtain⟨AY,rv,p,hz⟩:=I1.list hq;refine wpAny_pyIter_list p.isList ?_;refine⟨s1.heap.objs.size,[s1.heap.objs.size],_,_,H1,rfl,I1.kept (t':=s1.toks) fun b o e=>Heap.get?_push_of_some _ e,V5 a _,⟨_,Heap.get?_push_size _ rfl,rfl,rfl⟩,fun b hb=>?_,q⟩;have e:b=s1.heap.objs.size:=by simpa using hb
 subst e;exact I1.fpOk (Nat.le_refl _) (I1.hok.fresh (Nat.le_refl _))
theorem eE{l:Expr}{tl:TE}(hl:PE X l tl):PI X tg l (l3 X.K tl):=by
 intro AD s σ H R I h;refine thn (hl AD s σ H _ I h) fun v s1 ⟨x,H1,I1,r1,q1⟩=>?_;obtain⟨a,e,⟨xs,hq⟩,q⟩:=q1;subst e;cases r1;obtain⟨AY,rv,p,hz⟩:=I1.tuple hq;refine wpAny_pyIter_tuple (show s1.heap.IsTuple a AY.toArray from p) ?_;refine⟨s1.heap.objs.size,[s1.heap.objs.size],_,_,H1,rfl,I1.kept (t':=s1.toks) fun b o e=>Heap.get?_push_of_some _ e,Rc a _,⟨_,Heap.get?_push_size _ rfl,rfl,rfl⟩,fun b hb=>?_,q⟩;have e:b=s1.heap.objs.size:=by simpa using hb
 subst e;exact I1.fpOk (Nat.le_refl _) (I1.hok.fresh (Nat.le_refl _))
theorem QU{AD:List (Addr×Obj)}{σ:St}{H:Hp}{s:Shared}{R:It->Hp->Prop}{E:Value->Shared->Prop}{lo hi:Int}{t u v:Tok}{tk:Nat}(I:Inv X AD σ H s)(h1:-(2 ^ 62)<=lo)(h2:lo<2 ^ 62)(h3:-(2 ^ 62)<=hi)(h4:hi<2 ^ 62)(q:R (Itr lo (hi-lo).toNat) H):wpAny (model X.prog X.w) X.A (pyIter (.ref s.heap.objs.size)) (PIE X AD σ tg R) E { s with heap:=s.heap.push { cls:=.type "range",data:=.fields #[.int lo t,.int hi u,.int 1 v] },toks:=tk }:=by
 refine wpAny_pyIter_range (IsRange.new ..) (small_one h1 h2 h3 h4) ?_;have I1:Inv X AD σ H { s with heap:=s.heap.push { cls:=.type "range",data:=.fields #[.int lo t,.int hi u,.int 1 v] },toks:=tk }:=I.kept fun b o e=>Heap.get?_push_of_some _ e;refine⟨(s.heap.push { cls:=.type "range",data:=.fields #[.int lo t,.int hi u,.int 1 v] }).objs.size,[(s.heap.push { cls:=.type "range",data:=.fields #[.int lo t,.int hi u,.int 1 v] }).objs.size],_,_,H,rfl,
  I1.kept (t':=tk) fun b o e=>Heap.get?_push_of_some _ e,Rq _ lo (hi-lo).toNat,?_,fun b hb=>?_,q⟩
 ·have e1:lo+((0:Nat):Int)*1=lo:=by simp
  have e2:(((hi-lo).toNat:Nat):Int)-((0:Nat):Int)=Builtin.Range.rangeSize lo hi 1:=by rw[rangeSize_one];split<;>lia
  show IsRangeIter _ _ (lo+((0:Nat):Int)*1) ((((hi-lo).toNat:Nat):Int)-((0:Nat):Int)) 1;rw[e1,e2];exact Heap.get?_push_size _ rfl
 ·have e:b=(s.heap.push { cls:=.type "range",data:=.fields #[.int lo t,.int hi u,.int 1 v] }).objs.size:=by simpa using hb
  subst e;exact I1.fpOk (Nat.le_refl _) (I1.hok.fresh (Nat.le_refl _))
def gh(ta:TA):TI:=fun σ H R=>ta σ H fun vs H1=>∃j:Int,vs=[.int j]/\-(2 ^ 62)<=j/\j<2 ^ 62/\R (Itr 0 j.toNat) H1
def g8(ta:TA):TI:=fun σ H R=>ta σ H fun vs H1=>∃i j:Int,vs=[.int i,.int j]/\(-(2 ^ 62)<=i/\i<2 ^ 62/\-(2 ^ 62)<=j/\j<2 ^ 62)/\R (Itr i (j-i).toNat) H1
theorem VX{a:Expr}{ta:TA}{p pos:Pos}(hg:Gl X "range")(hm:X.mg "range"=none)(ha:PA X [a] ta)(hs:starEach [a] X.env=[(false,eval a X.env)]:=by rfl):PI X tg (.Call (.Name "range" p) [a] [] pos) (gh ta):=by
 intro AD s σ H R I h;refine Call_ (Ff I hg hm boot_range (PyProof.Rows.callWith_type1 (thn (ha pos AD s σ H _ I h) fun us s1 ⟨vs,H1,I1,r1,q1⟩=>?_) hs rfl));obtain⟨j,e,q1,q2,q⟩:=q1;subst e;cases r1 with
 |cons r rr=>
  cases rr;obtain⟨t,rfl⟩:=r;exact call_range_1 (QU I1 (by lia) (by lia) q1 q2 (by simpa using q))
theorem Vp{a b:Expr}{ta:TA}{p pos:Pos}(hg:Gl X "range")(hm:X.mg "range"=none)(ha:PA X [a,b] ta)(hs:starEach [a,b] X.env=[(false,eval a X.env),(false,eval b X.env)]:=by rfl)(MT:starEach [b] X.env=[(false,eval b X.env)]:=by rfl) :
  PI X tg (.Call (.Name "range" p) [a,b] [] pos) (g8 ta):=by
 intro AD s σ H R I h;refine Call_ (Ff I hg hm boot_range (PyProof.Rows.callWith_type1 (thn (ha pos AD s σ H _ I h) fun us s1 ⟨vs,H1,I1,r1,q1⟩=>?_) (by rw[hs,MT]) (by rw[MT];rfl)));obtain⟨i,j,e,⟨q1,q2,q3,q4⟩,q⟩:=q1;subst e;cases r1 with
 |cons r rr=>
  cases rr with
  |cons r' rr=>
   cases rr;obtain⟨t,rfl⟩:=r;obtain⟨t',rfl⟩:=r';exact call_range_2 (QU I1 q1 q2 q3 q4 q)
def Ot(fp:List Addr)(h:Heap):List (Addr×Obj):=fp.filterMap fun b=>(h.get? b).map fun o=>(b,o)
theorem E6{fp:List Addr}{h:Heap}{b:Addr}{o:Obj}(hb:b∈fp)(e:h.get? b=some o):(b,o)∈Ot fp h:=List.mem_filterMap.mpr ⟨b,hb,by rw[e];rfl⟩
theorem WD{fp:List Addr}{h:Heap}{p:Addr×Obj}(hp:p∈Ot fp h):p.1∈fp/\h.get? p.1=some p.2:=by
 obtain⟨b,hb,e⟩:=List.mem_filterMap.mp hp;cases q:h.get? b with
 |none=>rw[q]at e;cases e
 |some o=>
  rw[q]at e;have e':(b,o)=p:=Option.some.inj e;subst e';exact⟨hb,q⟩
theorem Inv.pinned{AD:List (Addr×Obj)}{σ:St}{H:Hp}{s:Shared}{fp:List Addr}(I:Inv X AD σ H s)(hf:∀b∈fp,Jq X AD H b)(ho:∀b∈fp,∃o,s.heap.get? b=some o/\∀v,o.data≠.cell v):Inv X (AD++Ot fp s.heap) σ H s:=I.pins_of fun p hp=>(List.mem_append.mp hp).elim (fun z=>I.pin p (List.mem_append_right _ z)) fun z=>by
  obtain⟨hb,e⟩:=WD z;obtain⟨f0,f1,f2,_⟩:=hf p.1 hb;obtain⟨o,e',d⟩:=ho p.1 hb;rw[e]at e';cases e';exact⟨e,f0,f1,f2,d⟩
theorem Inv.unpinned{AD pl:List (Addr×Obj)}{σ:St}{H:Hp}{s:Shared}(I:Inv X (AD++pl) σ H s):Inv X AD σ H s:=I.pins_of fun p hp=>I.pin p (List.mem_append_right _ (List.mem_append_left _ hp))
end
abbrev R2:=V->V->Hp->VK->Prop
def OpR(X:Cx)(f:Value->Value->Sem Value)(r:R2):Prop:=∀(AD:List (Addr×Obj))(s:Shared)(σ:St)(H:Hp)(x y:V)(v u:Value)(Q:VK),Inv X AD σ H s->RelV x v->RelV y u->r x y H Q →
  wpAny (model X.prog X.w) X.A (f v u) (EP X AD σ Q) X.xe s
def UnR(X:Cx)(f:Value->Sem Value)(r:V->Hp->VK->Prop):Prop:=∀(AD:List (Addr×Obj))(s:Shared)(σ:St)(H:Hp)(x:V)(v:Value)(Q:VK),Inv X AD σ H s->RelV x v->r x H Q →
  wpAny (model X.prog X.w) X.A (f v) (EP X AD σ Q) X.xe s
def Cc(X:Cx)(f:Value)(r:List V->Hp->VK->Prop):Prop:=∀(AD:List (Addr×Obj))(s:Shared)(σ:St)(H:Hp)(xs:List V)(us:List Value)(Q:VK),Inv X AD σ H s->Vals xs us->r xs H Q →
  wpAny (model X.prog X.w) X.A (call f us) (EP X AD σ Q) X.xe s
def lZ(X:Cx)(r:V->Hp->(Bool->Hp->Prop)->Prop):Prop:=∀(AD:List (Addr×Obj))(s:Shared)(σ:St)(H:Hp)(x:V)(v:Value)(Q:Bool->Hp->Prop),Inv X AD σ H s->RelV x v->r x H Q →
  wpAny (model X.prog X.w) X.A (truthy v) (TP X AD σ Q) X.xe s
def tOp(r:R2)(ta tb:TE):TE:=fun σ H Q=>ta σ H fun x H1=>tb σ H1 fun y H2=>r x y H2 Q
def tUn(r:V->Hp->VK->Prop)(ta:TE):TE:=fun σ H Q=>ta σ H fun x H1=>r x H1 Q
def rI(C:Int->Int->Prop)(g:Int->Int->V):R2:=fun x y H Q=>∃i j,x=.int i/\y=.int j/\C i j/\Q (g i j) H
def rI0(g:Int->Int->V):R2:=fun x y H Q=>∃i j,x=.int i/\y=.int j/\Q (g i j) H
def rU(g:Int->V):V->Hp->VK->Prop:=fun x H Q=>∃i,x=.int i/\Q (g i) H
section
variable {X:Cx}{a b c:Expr}{ta tb tc:TE}{pos:Pos}
theorem i3(ha:PE X a ta)(hb:PE X b tb){AD:List (Addr×Obj)}{s:Shared}{σ:St}{H:Hp}{R:V->V->Hp->Prop}(I:Inv X AD σ H s)(h:ta σ H fun x H1=>tb σ H1 fun y H2=>R x y H2){Q:Value->Shared->Prop}{f:Value->Value->Sem Value}(hf:∀v u s2 x y H2,Inv X AD σ H2 s2->RelV x v->RelV y u->R x y H2->wpAny (model X.prog X.w) X.A (f v u) Q X.xe s2) :
  wpAny (model X.prog X.w) X.A (eval a X.env) (fun v s₁=>wpAny (model X.prog X.w) X.A (eval b X.env) (fun u s₂=>wpAny (model X.prog X.w) X.A (f v u) Q X.xe s₂) X.xe s₁) X.xe s:=by
 refine thn (ha AD s σ H _ I h) fun v s1 ⟨x,H1,I1,r1,q1⟩=>?_;refine thn (hb AD s1 σ H1 _ I1 q1) fun u s2 ⟨y,H2,I2,r2,q2⟩=>?_;exact hf v u s2 x y H2 I2 r1 r2 q2
theorem ba{op:Operator}{r:R2}(ho:OpR X (binaryOp op) r)(ha:PE X a ta)(hb:PE X b tb):PE X (.BinOp a op b pos) (tOp r ta tb):=by intro AD s σ H Q I h;exact wpAny_BinOp (i3 ha hb I h fun v u s2 x y H2 I2 rx ry q=>ho AD s2 σ H2 x y v u Q I2 rx ry q)
theorem iz{op:UnaryOp}{r:V->Hp->VK->Prop}(ho:UnR X (unaryOp op) r)(ha:PE X a ta):PE X (.UnaryOp op a pos) (tUn r ta):=by intro AD s σ H Q I h;exact UnaryOp_ (thn (ha AD s σ H _ I h) fun v s1 ⟨x,H1,I1,r1,q1⟩=>ho AD s1 σ H1 x v Q I1 r1 q1)
theorem opI{f:Value->Value->Sem Value}{C:Int->Int->Prop}{g:Int->Int->Int}(rule:∀(i j:Int)(t u:Tok)(s:Shared)(Q:Value->Shared->Prop)(E:Value->Shared->Prop),C i j->Q (.int (g i j) s.toks) { s with toks:=s.toks+1 }->wpAny (model X.prog X.w) X.A (f (.int i t) (.int j u)) Q E s) :
  OpR X f (rI C fun i j=>.int (g i j)):=by
 intro AD s σ H x y v u Q I rx ry h;obtain⟨i,j,rfl,rfl,hc,q⟩:=h;obtain⟨t,rfl⟩:=rx;obtain⟨t',rfl⟩:=ry;exact rule i j t t' s _ _ hc ⟨.int (g i j),H,I.tok _,⟨_,rfl⟩,q⟩
theorem hX{f:Value->Value->Sem Value}{g:Int->Int->Int}(rule:∀(i j:Int)(t u:Tok)(s:Shared)(Q:Value->Shared->Prop)(E:Value->Shared->Prop),Q (.int (g i j) s.toks) { s with toks:=s.toks+1 }->wpAny (model X.prog X.w) X.A (f (.int i t) (.int j u)) Q E s) :
  OpR X f (rI0 fun i j=>.int (g i j)):=by
 intro AD s σ H x y v u Q I rx ry h;obtain⟨i,j,rfl,rfl,q⟩:=h;obtain⟨t,rfl⟩:=rx;obtain⟨t',rfl⟩:=ry;exact rule i j t t' s _ _ ⟨.int (g i j),H,I.tok _,⟨_,rfl⟩,q⟩
theorem gn{f:Value->Value->Sem Value}{g:Int->Int->Bool}(rule:∀(i j:Int)(t u:Tok)(s:Shared)(Q:Value->Shared->Prop)(E:Value->Shared->Prop),Q (.bool (g i j)) s->wpAny (model X.prog X.w) X.A (f (.int i t) (.int j u)) Q E s) :
  OpR X f (rI0 fun i j=>.bl (g i j)):=by
 intro AD s σ H x y v u Q I rx ry h;obtain⟨i,j,rfl,rfl,q⟩:=h;obtain⟨t,rfl⟩:=rx;obtain⟨t',rfl⟩:=ry;exact rule i j t t' s _ _ ⟨.bl (g i j),H,I,rfl,q⟩
def gw(i j:Int):Prop:=0<j/\j<1073741824
def CMul(i j:Int):Prop:=(-(2 ^ 64)<i/\i<2 ^ 64)\/(-(2 ^ 64)<j/\j<2 ^ 64)
theorem CMul.ok{i j:Int}(h:CMul i j):IntMulOk i j:=by
 rcases h with⟨h1,h2⟩|⟨h1,h2⟩
 ·exact .of_left (intBits_le_64 h1 h2)
 ·exact .of_right (intBits_le_64 h1 h2)
theorem fL:OpR X (binaryOp .Add) (rI0 fun i j=>.int (i+j)):=hX fun _ _ _ _ _ _ _ q=>add_int q
theorem fI:OpR X (binaryOp .Sub) (rI0 fun i j=>.int (i-j)):=hX fun _ _ _ _ _ _ _ q=>sub_int q
theorem dE:OpR X (binaryOp .Mult) (rI CMul fun i j=>.int (i*j)):=opI fun _ _ _ _ _ _ _ hc q=>mul_int q hc.ok
theorem Z4:OpR X (binaryOp .FloorDiv) (rI gw fun i j=>.int (i / j)):=opI fun i j _ _ _ _ _ hc q=>by
 have h1:(0:Int)<j:=hc.1;have h2:j<1073741824:=hc.2;exact floordiv_int (by lia) (by rw[Int.fdiv_eq_ediv_of_nonneg i (by lia)];exact q) (.inl (PyProof.noPylong_small (by lia)))
theorem fD:OpR X (binaryOp .Mod) (rI (fun _ j=>0<j) fun i j=>.int (i%j)):=opI fun i j _ _ _ _ _ hc q=>by
 have h1:(0:Int)<j:=hc;exact mod_int' (by lia) (by rw[Int.fmod_eq_emod_of_nonneg i (by lia)];exact q)
theorem unI{f:Value->Sem Value}{g:Int->Int}(rule:∀(i:Int)(t:Tok)(s:Shared)(Q:Value->Shared->Prop)(E:Value->Shared->Prop),Q (.int (g i) s.toks) { s with toks:=s.toks+1 }->wpAny (model X.prog X.w) X.A (f (.int i t)) Q E s) :
  UnR X f (rU fun i=>.int (g i)):=by
 intro AD s σ H x v Q I rx h;obtain⟨i,rfl,q⟩:=h;obtain⟨t,rfl⟩:=rx;exact rule i t s _ _ ⟨.int (g i),H,I.tok _,⟨_,rfl⟩,q⟩
theorem da:UnR X (unaryOp .USub) (rU fun i=>.int (-i)):=unI fun _ _ _ _ _ q=>neg_int q
end
def kz:V->V->Bool
 |.non,.non=>true|.non,.int _=>true|.int _,.non=>true|.non,.bl _=>true|.bl _,.non=>true|.non,.str _=>true|.str _,.non=>true
 |.int _,.int _=>true|.bl _,.bl _=>true|.str _,.str _=>true|.byt _,.byt _=>true
 |.int _,.str _=>true|.str _,.int _=>true|.bl _,.str _=>true|.str _,.bl _=>true
 |_,_=>false
def rEq:R2:=fun x y H Q=>kz x y=true/\Q (.bl (decide (x=y))) H
theorem UI{i j:Int}:decide (V.int i=V.int j)=(i==j):=by rw[Bool.eq_iff_iff];simp
theorem eY{i j:Bool}:decide (V.bl i=V.bl j)=(i==j):=by rw[Bool.eq_iff_iff];simp
theorem aJ{i j:Str}:decide (V.str i=V.str j)=(i==j):=by rw[Bool.eq_iff_iff];simp
theorem ZU{i j:Array UInt8}:decide (V.byt i=V.byt j)=(i.toList==j.toList):=by rw[Bool.eq_iff_iff];cases i;cases j;simp
section
variable {X:Cx}{a b c:Expr}{ta tb tc:TE}{pos:Pos}
theorem CP{AD:List (Addr×Obj)}{σ:St}{H:Hp}{s:Shared}{Q:VK}{k k':Bool}(I:Inv X AD σ H s)(q:Q (.bl k) H)(e:k=k'):EP X AD σ Q (.bool k') s:=by subst e;exact⟨.bl k,H,I,rfl,q⟩
theorem ir:OpR X (compareOp .Eq) rEq:=by
 intro AD s σ H x y v u Q I rx ry h;obtain⟨hs,q⟩:=h;cases x with
 |non=>
  cases rx;cases y with
  |non=>cases ry;exact PySem.EqNone.eq_none_none (CP I q (by simp))
  |bl j=>cases ry;exact PySem.EqNone.eq_none_bool (CP I q (by simp))
  |int j=>obtain⟨t',rfl⟩:=ry;exact PySem.EqNone.eq_none_int (CP I q (by simp))
  |str j=>obtain⟨t',rfl⟩:=ry;exact PySem.EqNone.eq_none_str (CP I q (by simp))
  |_=>exact absurd (show false=true from hs) Bool.false_ne_true
 |bl i=>
  cases rx;cases y with
  |non=>cases ry;exact PySem.EqNone.eq_bool_none (CP I q (by simp))
  |bl j=>cases ry;exact eq_bool (CP I q eY)
  |str j=>obtain⟨t',rfl⟩:=ry;exact PySem.EqMixed.eq_bool_str (CP I q (by simp))
  |_=>exact absurd (show false=true from hs) Bool.false_ne_true
 |int i=>
  obtain⟨t,rfl⟩:=rx;cases y with
  |non=>cases ry;exact PySem.EqNone.eq_int_none (CP I q (by simp))
  |int j=>obtain⟨t',rfl⟩:=ry;exact eq_int (CP I q UI)
  |str j=>obtain⟨t',rfl⟩:=ry;exact PySem.EqMixed.eq_int_str (CP I q (by simp))
  |_=>exact absurd (show false=true from hs) Bool.false_ne_true
 |str i=>
  obtain⟨t,rfl⟩:=rx;cases y with
  |non=>cases ry;exact PySem.EqNone.eq_str_none (CP I q (by simp))
  |bl j=>cases ry;exact PySem.EqMixed.eq_str_bool (CP I q (by simp))
  |int j=>obtain⟨t',rfl⟩:=ry;exact PySem.EqMixed.eq_str_int (CP I q (by simp))
  |str j=>obtain⟨t',rfl⟩:=ry;exact eq_str (CP I q aJ)
  |_=>exact absurd (show false=true from hs) Bool.false_ne_true
 |byt i=>
  obtain⟨t,rfl⟩:=rx;cases y with
  |byt j=>obtain⟨t',rfl⟩:=ry;exact PySem.W.eq_bytes (CP I q ZU)
  |_=>exact absurd (show false=true from hs) Bool.false_ne_true
 |_=>cases y<;>exact absurd (show false=true from hs) Bool.false_ne_true
theorem gP:OpR X (compareOp .Lt) (rI0 fun i j=>.bl (decide (i<j))):=gn fun _ _ _ _ _ _ _ q=>lt_int q
theorem cG:OpR X (compareOp .Gt) (rI0 fun i j=>.bl (decide (j<i))):=gn fun _ _ _ _ _ _ _ q=>gt_int q
theorem bS:OpR X (compareOp .IsNot) (fun x y H Q=>y=.non/\Q (.bl (!decide (x=.non))) H):=by
 intro AD s σ H x y v u Q I rx ry h;obtain⟨rfl,q⟩:=h;cases ry;refine isnot_none_gen (CP I q ?_);cases x<;>first
  |(cases rx;rfl)
  |(obtain⟨t,rfl⟩:=rx;rfl)
def eU(K:PySem.W.Frag)(x:V)(H:Hp)(k:Bool):Prop:=match x with
 |.non=>k=false
 |.bl b=>k=b
 |.int i=>k=(i != 0)
 |.str y=>y.length<=sizeLine/\k=((y.length:Int) != 0)
 |.byt y=>y.size<=sizeLine/\k=((y.size:Int) != 0)
 |.ref p=>(∃xs,SqL K H p xs/\k=!xs.isEmpty)\/(∃xs,SqT K H p xs/\k=!xs.isEmpty)\/∃AR,H p=some (.dK AR)/\k=!AR.isEmpty
 |_=>False
theorem SD{κ:Type}{AR:List (κ×V)}{vs:List (κ×Value)}(r:KV AR vs):(!vs.isEmpty)=!AR.isEmpty:=by cases r<;>rfl
theorem MB{xs:List V}{AY:List Value}(r:Vals xs AY):(!AY.toArray.isEmpty)=!xs.isEmpty:=by cases r<;>simp
theorem ME:(sizeLine:Nat)<2 ^ 63:=by rw[sizeLine_eq];decide
theorem fQ:lZ X (fun x H Q=>∃k,eU X.K x H k/\Q k H):=by
 intro AD s σ H x v Q I rx h;obtain⟨k,e,q⟩:=h;have hl:=ME;have hs:sizeLine=16777216:=sizeLine_eq;cases x with
 |non=>
  cases rx;have e':k=false:=e;subst e';exact truthy_none ⟨H,I,q⟩
 |bl b=>
  cases rx;have e':k=b:=e;subst e';exact wpAny_truthy_bool ⟨H,I,q⟩
 |int i=>
  obtain⟨t,rfl⟩:=rx;have e':k=(i != 0):=e;subst e';exact PySem.P.truthy_int ⟨H,I,q⟩
 |str y=>
  obtain⟨t,rfl⟩:=rx;obtain⟨hy,e'⟩:y.length<=sizeLine/\k=((y.length:Int) != 0):=e;subst e';exact PySem.P.truthy_str (by lia) ⟨H,I.tok _,q⟩
 |byt y=>
  obtain⟨t,rfl⟩:=rx;obtain⟨hy,e'⟩:y.size<=sizeLine/\k=((y.size:Int) != 0):=e;subst e';exact PySem.W.truthy_bytes (by lia) ⟨H,I.tok _,q⟩
 |ref p=>
  cases rx;have e':(∃xs,SqL X.K H p xs/\k=!xs.isEmpty)\/(∃xs,SqT X.K H p xs/\k=!xs.isEmpty)\/∃AR,H p=some (.dK AR)/\k=!AR.isEmpty:=e;rcases e' with⟨xs,hx,e'⟩|⟨xs,hx,e'⟩|⟨AR,hx,e'⟩
  ·subst e';obtain⟨AY,r,pl,hz⟩:=I.list hx;have A2:=r.length;exact wpAny_truthy_list pl.isList (by simp only[List.size_toArray];lia) ⟨H,I.tok _,by rw[MB r];exact q⟩
  ·subst e';obtain⟨AY,r,pl,hz⟩:=I.tuple hx;have A2:=r.length;exact truthy_tuple pl (by simp only[List.size_toArray];lia) ⟨H,I.tok _,by rw[MB r];exact q⟩
  ·subst e';obtain⟨hz,hS,vs,r,m⟩:AR.length<=sizeLine/\(p==sysModules)=false/\∃vs,KV AR vs/\s.heap.DictOf (Nq X.prog X.w) p vs:=I.hok p _ hx;have A2:AR.length=vs.length:=Paired.length r;exact wpAny_truthy_dict hS m (by lia) ⟨H,I.tok _,by rw[SD r];exact q⟩
 |_=>exact(show False from e).elim
theorem Y9(ha:PE X a ta)(he:∀whole,isTrue a X.env whole=(do let v <-whole;standAt a.pos;holding [v] (truthy v))) :
  PT X a (fun σ H Q=>ta σ H fun x H'=>∃k,eU X.K x H' k/\Q k H'):=by
 intro AD s σ H Q I h;exact isTrue_plain (thn (ha AD s σ H _ I h) fun v s1 ⟨x,H1,I1,r1,q1⟩=>fQ AD s1 σ H1 x v Q I1 r1 q1) (he _)
theorem JQ{x:V}{us:List Value}(r:Vals [x] us):∃u,us=[u]/\RelV x u:=by
 cases r with
 |cons r1 r2=>cases r2;exact⟨_,rfl,r1⟩
theorem M0{x y:V}{us:List Value}(r:Vals [x,y] us):∃u w',us=[u,w']/\RelV x u/\RelV y w':=by
 cases r with
 |cons r1 r2=>
  cases r2 with
  |cons r3 r4=>cases r4;exact⟨_,_,rfl,r1,r3⟩
theorem Uw(hc:X.calm=true):Cc X (.builtin "max") (fun xs H Q=>∃i j,xs=[.int i,.int j]/\Q (.int (if j > i then j else i)) H):=by
 intro AD s σ H xs us Q I r h;obtain⟨i,j,rfl,q⟩:=h;obtain⟨u,w',rfl,⟨t,rfl⟩,⟨t',rfl⟩⟩:=M0 r;refine max_two_ints (I.ok.hd hc) fun h' tk k=>⟨_,H,I.kept k,?_,q⟩;by_cases hj:j > i
 ·rw[if_pos hj,if_pos hj];exact⟨_,rfl⟩
 ·rw[if_neg hj,if_neg hj];exact⟨_,rfl⟩
theorem VS(hc:X.calm=true):Cc X (.builtin "min") (fun xs H Q=>∃i j,xs=[.int i,.int j]/\Q (.int (if j<i then j else i)) H):=by
 intro AD s σ H xs us Q I r h;obtain⟨i,j,rfl,q⟩:=h;obtain⟨u,w',rfl,⟨t,rfl⟩,⟨t',rfl⟩⟩:=M0 r;refine min_two_ints (I.ok.hd hc) fun h' tk k=>⟨_,H,I.kept k,?_,q⟩;by_cases hj:j<i
 ·rw[if_pos hj,if_pos hj];exact⟨_,rfl⟩
 ·rw[if_neg hj,if_neg hj];exact⟨_,rfl⟩
end
structure ObjM (h:Heap) (x dx C:Addr) (mA:Str->Option Value):Prop where
 obj:h.get? x=some (PySem.W.instObj C dx)
 ns:h.Ns1 dx mA
 ne:dx≠x
theorem Vw{h:Heap}{dx:Addr}{mA:Str->Option Value}(n:h.Ns1 dx mA):∃od,h.get? dx=some od/\∀name,PySem.W.lookIn name od=some (mA name):=by
 obtain⟨o,es,ep,ho,hd,hk,_,hm⟩:=n;refine⟨o,ho,fun name=>?_⟩;have e:=hm name;unfold nsFind findBy at e;rw[<-Array.find?_toList]at e;unfold PySem.W.lookIn;rw[hd];dsimp only;split
 ·rename_i y q;rw[q]at e;exact congrArg some e
 ·rename_i q;rw[q]at e;have a:es.toList.any (·.refKey)=false:=by
   rw[List.any_eq_false];intro y hy;obtain⟨z,t,SS⟩:=hk y (Array.mem_toList_iff.mp hy);simp[DictEntry.refKey,SS]
  have a':¬es.toList.any (·.refKey)=true:=by rw[a];exact Bool.false_ne_true
  rw[if_neg a'];exact congrArg some e
theorem ObjM.look{h:Heap}{x dx C:Addr}{mA:Str->Option Value}(I:ObjM h x dx C mA):∃od,PySem.W.InstAt h x (PySem.W.instObj C dx) C (some od)/\∀name,PySem.W.lookIn name od=some (mA name):=let ⟨od,ho,hl⟩:=Vw I.ns
 ⟨od,⟨I.obj,rfl,rfl,ho⟩,hl⟩
section
variable {P:Program}{w:World}{H H':Hp}{h h':Heap}{a C dx:Addr}{fs pj:List (Str×V)}
theorem bO(hok:HOk P w H h)(e:H a=some (.ins C dx fs)):∃mA,ObjM h a dx C mA/\(∀f,dc (fs.lookup f) (mA f))/\PySem.Within mA (fs.map (·.1))/\fs.length<=1000/\H dx=some (.own a):=by obtain⟨d,z,ne,ob,mA,n,r,q⟩:=(show ObjOk P w H h a (.ins C dx fs)from hok a _ e);exact⟨mA,⟨ob,n,ne⟩,r,q,z,d⟩
end
structure Cls (K:PySem.W.Frag) (C:Addr):Prop where
 pg:PySem.W.plainGet K C Str.empty=true
 hd:PySem.W.hasDictIn K C=true
 po:PySem.W.plainOver K C=true
 sa:PySem.W.findIn K (.ref C) "__setattr__"=some (some (.builtin "object.__setattr__"))
theorem Cls.get{K:PySem.W.Frag}{C:Addr}(c:Cls K C)(f:Str):PySem.W.plainGet K C f=true:=c.pg
section
variable {X:Cx}{AD:List (Addr×Obj)}{σ:St}{H:Hp}{s:Shared}{A:Around}{E:Value->Shared->Prop}{Q:Value->Shared->Prop}{c:Value}{b:Bool}
inductive TyOf (K:PySem.W.Frag) (H:Hp):V->Value->Prop where
 |non:TyOf K H .non (.type "NoneType")
 |bl (x:Bool):TyOf K H (.bl x) (.type "bool")
 |int (i:Int):TyOf K H (.int i) (.type "int")
 |str (x:Str):TyOf K H (.str x) (.type "str")
 |flt (x:UInt64):TyOf K H (.flt x) (.type "float")
 |lst {a:Addr} {xs:List V} (e:H a=some (.lst xs)):TyOf K H (.ref a) (.type "list")
 |frz {a:Addr} {o:Obj} {xs:List V} (e:H a=some (.frz o (.lst xs))):TyOf K H (.ref a) (.type "list")
 |tup {a:Addr} {xs:List V} (e:H a=some (.tup xs)):TyOf K H (.ref a) (.type "tuple")
 |dK {a:Addr} {AR:List (Key×V)} (e:H a=some (.dK AR)):TyOf K H (.ref a) (.type "dict")
 |dT {a:Addr} {AR:List (List Key×V)} (e:H a=some (.dT AR)):TyOf K H (.ref a) (.type "dict")
 |ins {a C dx:Addr} {fs:List (Str×V)} (e:H a=some (.ins C dx fs)) (cl:Cls K C) (ha:PySem.W.findIn K (.ref C) "__class__"=some (some (.builtin "object.__class__")))
   (hn:PySem.W.specialIn K (.builtin "object.__class__") "__get__"=some (some (.builtin "getset_descriptor.__get__"))) (oV:PySem.W.takesIn K (.builtin "object.__class__")=some true)
   (hm:PySem.W.mroIn K C (.type "object")=some true):TyOf K H (.ref a) (.ref C)
theorem HE{x:V}{u t:Value}(I:Inv X AD σ H s)(rx:RelV x u)(ty:TyOf X.K H x t)(e:PySem.W.kitOne X.K t c=some b)(h:∀tk,Q (.bool b) { s with toks:=tk }) :
  wpAny (model X.prog X.w) A (call (.builtin "isinstance") [u,c]) Q E s:=by
 cases ty with
 |non=>cases (show u=Value.none from rx);exact PySem.W.kia_one PySem.W.kitx_none I.kIn True.intro e (fun z=>nomatch z) h
 |bl y=>cases (show u=Value.bool y from rx);exact PySem.W.kia_one PySem.W.kitx_bool I.kIn True.intro e (fun z=>nomatch z) h
 |int i=>obtain⟨t,q⟩:=(show ∃t,u=Value.int i t from rx);cases q;exact PySem.W.kia_one PySem.W.kitx_int I.kIn True.intro e (fun z=>nomatch z) h
 |str y=>obtain⟨t,q⟩:=(show ∃t,u=Value.str y t from rx);cases q;exact PySem.W.kia_one PySem.W.kitx_str I.kIn True.intro e (fun z=>nomatch z) h
 |flt y=>obtain⟨t,q⟩:=(show ∃t,u=Value.float y t from rx);cases q;exact PySem.W.kia_one PySem.W.kitx_float I.kIn True.intro e (fun z=>nomatch z) h
 |@lst a xs ea=>
  cases (show u=Value.ref a from rx);obtain⟨_,_,n,_,h1⟩:=(show ObjOk X.prog X.w H s.heap a (.lst xs)from I.hok a _ ea);exact PySem.W.kia_one PySem.W.kitx_list I.kIn ⟨_,h1,rfl⟩ e (fun z=>nomatch z) h
 |@frz a ob xs ea=>
  cases (show u=Value.ref a from rx);obtain⟨_,_,_,n,_,h1⟩:=(show ObjOk X.prog X.w H s.heap a (.frz ob (.lst xs))from I.hok a _ ea);exact PySem.W.kia_one PySem.W.kitx_list I.kIn ⟨_,h1,rfl⟩ e (fun z=>nomatch z) h
 |@tup a xs ea=>
  cases (show u=Value.ref a from rx);obtain⟨_,_,_,p⟩:=(show ObjOk X.prog X.w H s.heap a (.tup xs)from I.hok a _ ea);obtain⟨o,h1,h2,_⟩:=p;exact PySem.W.kia_one PySem.W.kitx_tuple I.kIn ⟨o,h1,h2⟩ e (fun z=>nomatch z) h
 |@dK a AR ea=>
  cases (show u=Value.ref a from rx);obtain⟨_,_,vs,_,p⟩:=(show ObjOk X.prog X.w H s.heap a (.dK AR)from I.hok a _ ea);obtain⟨o,es,ep,h1,h2,_⟩:=p;exact PySem.W.kia_one PySem.W.kitx_dict I.kIn ⟨o,h1,h2.1⟩ e (fun z=>nomatch z) h
 |@dT a AR ea=>
  cases (show u=Value.ref a from rx);obtain⟨_,_,xs,_,o,es,ep,h1,h2,_⟩:=(show ObjOk X.prog X.w H s.heap a (.dT AR)from I.hok a _ ea);exact PySem.W.kia_one PySem.W.kitx_dict I.kIn ⟨o,h1,h2.1⟩ e (fun z=>nomatch z) h
 |@ins a C dx fs ea cl ha hn oV hm=>
  cases (show u=Value.ref a from rx);obtain⟨mA,O,_⟩:=bO I.hok ea;obtain⟨od,J,_⟩:=O.look;exact PySem.W.kia_one (PySem.W.kitx_own (cl.get _) cl.hd ha hn oV hm) I.kIn J e (fun z=>nomatch z) h
end
structure Room (k:Nat) (A:Around):Prop where
 hd:A.handled=none
 dp:A.depth+3*k+5<recursionLimit
 un:A.units+16*k+200<cLine
theorem Room.mono{j k:Nat}{A:Around}(r:Room k A)(h:j<=k):Room j A:=⟨r.hd,by have:=r.dp;lia,by have:=r.un;lia⟩
theorem Room.deeper{k:Nat}{A:Around}(r:Room (k+1) A)(env:Env):Room k (A.deeper env):=⟨r.hd,by have:=r.dp;show A.depth+1+3*k+5<_;lia,by have:=r.un;show A.units+3+16*k+200<_;lia⟩
theorem Room.depth{k:Nat}{A:Around}(r:Room k A):A.depth<recursionLimit:=by have:=r.dp;lia
theorem Room.units{k:Nat}{A:Around}(r:Room k A):A.units+64<cLine:=by have:=r.un;lia
def mG:TA:=fun _ H Q=>Q [] H
def ie(ta:TE)(tr:TA):TA:=fun σ H Q=>ta σ H fun x H1=>tr σ H1 fun xs H2=>Q (x::xs) H2
section
variable {X:Cx}{e:Expr}{es:List Expr}{te:TE}{t:TA}{pos:Pos}
theorem Cb:PA X [] mG:=fun _ _ _ _ H Q I h=>Calls.spliced_nil ⟨[],H,I,.nil,h⟩
theorem BG(ha:PE X e te)(hr:PA X es t)(hs:starEach (e::es) X.env=(false,eval e X.env)::starEach es X.env:=by rfl):PA X (e::es) (ie te t):=by intro pos AD s σ H Q I h;rw[hs];show wpAny _ _ (spliced ((false,eval e X.env)::backTo pos (starEach es X.env))) _ _ s;refine Calls.spliced_cons (thn (ha AD s σ H _ I h) fun u s1 ⟨x,H1,I1,r1,q1⟩=>?_);exact thn (hr pos AD s1 σ H1 _ I1 q1) fun us s2 ⟨xs,H2,I2,r2,q2⟩=>⟨x::xs,H2,I2,.cons r1 r2,q2⟩
def kI(t:TA):TE:=fun σ H Q=>t σ H fun xs H1=>xs.length<=sizeLine/\∀p,H1 p=none->Q (.ref p) (upd H1 p (.tup xs))
def mE(t:TA):TE:=fun σ H Q=>t σ H fun xs H1=>xs.length<=sizeLine/\∀p,H1 p=none->Q (.ref p) (upd H1 p (.lst xs))
theorem c7{x1}(h:PA X es t):PE X (.Tuple es x1 pos) (kI t):=by intro AD s σ H Q I hq;refine wpAny_Tuple_spliced (thn (h pos AD s σ H _ I hq) fun us s1 ⟨xs,H1,I1,r,z,q⟩=>⟨by rw[<-r.length];exact z,?_⟩);have hf:H1 s1.heap.objs.size=none:=I1.hok.fresh (Nat.le_refl _);refine⟨.ref s1.heap.objs.size,upd H1 s1.heap.objs.size (.tup xs),I1.laid (t':=s1.toks) (fun b u e=>Heap.get?_push_of_some _ e) (Nat.le_refl _) ?_,rfl,q _ hf⟩;exact⟨z,us,r,⟨_,Heap.get?_push_size _ rfl,rfl,_,rfl⟩⟩
theorem Xf(h:PA X es t):PE X (.List es pos) (mE t):=by intro AD s σ H Q I hq;refine wpAny_List_spliced (thn (h pos AD s σ H _ I hq) fun us s1 ⟨xs,H1,I1,r,z,q⟩=>⟨by rw[<-r.length];exact z,?_⟩);have hf:H1 s1.heap.objs.size=none:=I1.hok.fresh (Nat.le_refl _);refine⟨.ref s1.heap.objs.size,upd H1 s1.heap.objs.size (.lst xs),I1.laid (t':=s1.toks) (fun b u e=>Heap.get?_push_of_some _ e) (Nat.le_refl _) ?_,rfl,q _ hf⟩;exact⟨z,us,0,r,Heap.get?_push_size _ rfl⟩
end
abbrev Sp:=List V->Hp->VK->XK->Prop
abbrev CXT:=List Env->Hp->Shared->XK->Value->Shared->Prop
structure Env0 (P:Program) (w:World) (K:PySem.W.Frag) (mg:Str->Option Value) (base:Heap) (A:Around) (outer:List Env) (s:Shared) (H:Hp):Prop where
 frames:A.frames=some outer
 mod:Mod K mg base
 bs:∀b o,base.get? b=some o->s.heap.get? b=some o/\H b=none
 bsz:base.objs.size<=s.heap.objs.size
 funs:s.heap.FunFrames base outer
 frf:∀b∈frs outer,H b=none
 hok:HOk P w H s.heap
 bare:AllBare s.gens
def CE(outer:List Env)(P:Program)(w:World)(H:Hp)(s:Shared)(Q:VK)(u:Value)(s':Shared):Prop:=∃v H',s'.os=s.os/\AllBare s'.gens/\Un (frs outer) [] H H' s.heap s'.heap/\HOk P w H' s'.heap/\RelV v u/\Q v H'
def CR(CX:CXT)(outer:List Env)(P:Program)(w:World)(H:Hp)(s:Shared)(Q:VK)(E:XK)(r:Result)(s':Shared):Prop:=match r with
 |.ok (.ret u)=>CE outer P w H s Q u s'
 |.ok _=>False
 |.error e=>CX outer H s E e s'
structure FnOk (P:Program) (w:World) (K:PySem.W.Frag) (mg:Str->Option Value) (base:Heap) (CX:CXT) (k:Nat) (f:Addr) (fd:FuncData) (ps:List Str) (sp:Sp):Prop where
 len:∀vs H Q E,sp vs H Q E->vs.length=ps.length
 run:∀(A:Around)(outer:List Env)(s:Shared)(H:Hp)(args:Args)(us:List Value)(vs:List V)(Q:VK)(E:XK),Room k A->Env0 P w K mg base A outer s H->BindsTo s fd args (ps.zip us)->Vals vs us->sp vs H Q E →
  codeAny (model P w) A (.call (.ref f) args) (CR CX outer P w H s Q E) s
section
variable {X:Cx}{AD:List (Addr×Obj)}{σ:St}{H:Hp}{s s':Shared}
theorem Inv.env0(I:Inv X AD σ H s):Env0 X.prog X.w X.K X.mg X.base X.A X.stack s H:=⟨I.ok.frames,I.ok.mod,I.bs,Nat.le_trans I.ok.bsz I.sz,I.stack,I.stkFree,I.hok,I.bare⟩
theorem Inv.after{Q:VK}{u:Value}(I:Inv X AD σ H s)(h:CE X.stack X.prog X.w H s Q u s'):EP X AD σ Q u s':=by obtain⟨v,H',os,bare,un,hok,r,q⟩:=h;obtain⟨hh,g,d,t,qu⟩:=s';obtain rfl:qu=s.os:=os;exact⟨v,H',I.call (h':=hh) (g':=g) (d':=d) (t':=t) (ch:=[]) un hok bare (fun b z=>absurd z (by simp)),r,q⟩
end
def gX(sp:Sp)(cH:List V)(E:XK)(t:TA):TE:=fun σ H Q=>t σ H fun vs H1=>sp (vs++cH) H1 Q E
def Binds(K:PySem.W.Frag)(fd:FuncData)(ps:List Str)(ds:List Value):Prop:=∀(s:Shared)(us:List Value),K.In s.heap->(us++ds).length=ps.length->BindsTo s fd ⟨us,[]⟩ (ps.zip (us++ds))
theorem Binds.all{K:PySem.W.Frag}{fd:FuncData}{ps:List Str}(h:∀us:List Value,us.length=ps.length->bindArgs fd ⟨us,[]⟩=pure (ps.zip us)):Binds K fd ps []:=fun s us _ hl=>by
 rw[List.append_nil]at hl ⊢;exact .of_eq (h us hl)
def R4(CX:CXT)(X:Cx)(E:XK):Prop:=∀(AD:List (Addr×Obj))(σ:St)(H:Hp)(s:Shared)(e:Value)(s':Shared),Inv X AD σ H s->CX X.stack H s E e s'->X.xe e s'
section
variable {X:Cx}{CX:CXT}{k:Nat}{f C:Addr}{fd:FuncData}{ps:List Str}{sp:Sp}{cH:List V}{ds:List Value}{E:XK}{x m:Str}{p pos apos:Pos}{e o:Expr}{es:List Expr}{ta:TE}{t:TA}
theorem W9{AD:List (Addr×Obj)}{σ:St}{H:Hp}{s:Shared}{Q:VK}{us:List Value}{vs:List V}(F:FnOk X.prog X.w X.K X.mg X.base CX k f fd ps sp)(hr:Room k X.A)(hb:Binds X.K fd ps ds)(hd:Vals cH ds)(hx:R4 CX X E)(I:Inv X AD σ H s)(r:Vals vs us)(h:sp (vs++cH) H Q E):wpAny (model X.prog X.w) X.A (call (.ref f) us) (EP X AD σ Q) X.xe s:=by
 have r2:Vals (vs++cH) (us++ds):=r.append hd;have hl:(us++ds).length=ps.length:=by rw[<-r2.length];exact F.len _ _ _ _ h
 refine wpAny_call (codeAny_mono (F.run X.A X.stack s H ⟨us,[]⟩ (us++ds) (vs++cH) Q E hr I.env0 (hb s us I.kIn hl) r2 h) fun r s' hq=>?_);cases r with
 |error e=>exact hx AD σ H s e s' I hq
 |ok fl=>
  cases fl with
  |ret u=>exact I.after hq
  |next=>exact False.elim hq
  |brk=>exact False.elim hq
  |cont=>exact False.elim hq
theorem UH(F:FnOk X.prog X.w X.K X.mg X.base CX k f fd ps sp)(hr:Room k X.A)(hg:Gl X x)(hm:X.mg x=some (.ref f))(hk:PySem.W.keepIn X.K (.ref f)=true)(hb:Binds X.K fd ps ds)(hd:Vals cH ds)(hx:R4 CX X E)(ha:PA X (e::es) t)(MM:(x==("__debug__":Str))=false:=by decide)(he:starEach (e::es) X.env=(false,eval e X.env)::starEach es X.env:=by rfl)(hpl:(backTo pos (starEach es X.env)).any (·.1)=false:=by rfl) :
  PE X (.Call (.Name x p) (e::es) [] pos) (gX sp cH E t):=by
 intro AD s σ H Q I h;refine wpAny_Call_Name_kw (Ud I hg hm ?_ MM);refine PySem.W.callWith_K (h₀:=X.base) I.ok.mod.kin hk (thn (ha pos AD s σ H _ I h) fun us s1 ⟨vs,H1,I1,r,q⟩=>⟨I1.kIn,?_⟩) he hpl;exact W9 F hr hb hd hx I1 r q
end
structure FnScope (N P:List Str) (sc:Scope):Prop where
 kind:sc.kind=.function
 co:sc.isCoroutine=false
 gen:sc.isGenerator=false
 nd:N.Nodup
 pre:N.take P.length=P
 par:∀x∈P,sc.names.lookup x=some .local\/sc.names.lookup x=some .cell
 nofree:∀y∈sc.names,y.2≠.free
theorem NV{kindOf:Str->Option NameKind}{x:Str}:∀{binds:List (Str×Value)}{m:Str->Option Value},(∀v,(x,v)∉binds)->bindL kindOf binds m x=m x
 |[],_,_=>rfl
 |(n,v)::r,m,h=>by
  unfold bindL;rw[NV fun w hw=>h w (List.mem_cons_of_mem _ hw)];split
  ·have:x≠n:=by rintro rfl;exact h v List.mem_cons_self
   simp[this]
  ·rfl
theorem Ml{kindOf:Str->Option NameKind}{x:Str}:∀{binds:List (Str×Value)}{m:Str->Option Value},(∀v,(x,v)∉binds)->bindC kindOf binds m x=m x
 |[],_,_=>rfl
 |(n,v)::r,m,h=>by
  unfold bindC;rw[Ml fun w hw=>h w (List.mem_cons_of_mem _ hw)];split
  ·rfl
  ·have:x≠n:=by rintro rfl;exact h v List.mem_cons_self
   simp[this]
theorem NK{kindOf:Str->Option NameKind}{x:Str}{v:Value}:∀{P:List Str}{vs:List Value}{i:Nat}{m:Str->Option Value},P.Nodup->P[i]?=some x->vs[i]?=some v->kindOf x=some .local →
  bindL kindOf (P.zip vs) m x=some v
 |[],_,_,_,_,h,_,_=>by simp at h
 |_::_,[],_,_,_,_,h,_=>by simp at h
 |p::P,w::vs,0,m,nd,h1,h2,hk=>by
  simp at h1 h2;subst h1;subst h2;show bindL kindOf ((p,w)::P.zip vs) m p=_;unfold bindL;rw[NV fun v hv=>(List.nodup_cons.mp nd).1 (List.of_mem_zip hv).1,if_pos hk];simp
 |p::P,w::vs,i+1,m,nd,h1,h2,hk=>by
  show bindL kindOf ((p,w)::P.zip vs) m x=_;unfold bindL;exact NK (i:=i) (List.nodup_cons.mp nd).2 (by simpa using h1) (by simpa using h2) hk
theorem NT{kindOf:Str->Option NameKind}{x:Str}{v:Value}:∀{P:List Str}{vs:List Value}{i:Nat}{m:Str->Option Value},P.Nodup->P[i]?=some x->vs[i]?=some v->kindOf x≠some .local →
  bindC kindOf (P.zip vs) m x=some v
 |[],_,_,_,_,h,_,_=>by simp at h
 |_::_,[],_,_,_,_,h,_=>by simp at h
 |p::P,w::vs,0,m,nd,h1,h2,hk=>by
  simp at h1 h2;subst h1;subst h2;show bindC kindOf ((p,w)::P.zip vs) m p=_;unfold bindC;rw[Ml fun v hv=>(List.nodup_cons.mp nd).1 (List.of_mem_zip hv).1,if_neg hk];simp
 |p::P,w::vs,i+1,m,nd,h1,h2,hk=>by
  show bindC kindOf ((p,w)::P.zip vs) m x=_;unfold bindC;exact NT (i:=i) (List.nodup_cons.mp nd).2 (by simpa using h1) (by simpa using h2) hk
def start(N:List Str)(vs:List V):St:=vs.map some++List.replicate (N.length-vs.length) none
def Pn(CX:CXT)(P:Program)(w:World)(K:PySem.W.Frag)(mg:Str->Option Value)(base:Heap)(N:List Str)(qual:Str)(scope:Scope)(f:Addr)(cd:Value)(A:Around)(outer:List Env)(s:Shared)(H:Hp)(E:XK):Cx where
 prog:=P
 w:=w
 K:=K
 mg:=mg
 base:=base
 A:=A.deeper (envOfC qual scope s.heap.objs.size f cd)
 N:=N
 s₀:=s
 H₀:=H
 env:=envOfC qual scope s.heap.objs.size f cd
 outer:=outer
 stack:=envOfC qual scope s.heap.objs.size f cd::outer
 ex:=[]
 calm:=true
 fn:=fun _=>true
 pn:=[]
 xe:=fun e s'=>wpAny (model P w) (A.deeper (envOfC qual scope s.heap.objs.size f cd)) (leaving (envOfC qual scope s.heap.objs.size f cd) e) (fun _ fZ=>CX outer H s E e fZ) (fun e' fZ=>CX outer H s E e' fZ) s'
theorem Qy{sc:Scope}{n:Nat}{x:Str}(h:sc.names.lookup x=some .cell):∃c,(cellsFrom n sc.names []).lookup x=some c:=by have q:=PySem.W.cellsFrom_some sc.names n [] (.inl h);exact Option.isSome_iff_exists.mp q
theorem U1{CX:CXT}{P:Program}{w:World}{K:PySem.W.Frag}{mg:Str->Option Value}{base:Heap}{N ps:List Str}{qual:Str}{scope:Scope}{f:Addr}{cd:Value}{A:Around}{outer:List Env}{s s1:Shared}{H:Hp}{E:XK}{us:List Value}{vs:List V}(S:FnScope N ps scope)(hd:A.handled=none)(e0:Env0 P w K mg base A outer s H)(hl:vs.length=ps.length)(r:Vals vs us)(x:InCallC s s.heap.objs.size (bindL (envOfC qual scope s.heap.objs.size f cd).kindOf (ps.zip us) fun _=>none) (cellsFrom (s.heap.objs.size+1) scope.names []) (bindC (envOfC qual scope s.heap.objs.size f cd).kindOf (ps.zip us) fun _=>none) s1) :
  Inv (Pn CX P w K mg base N qual scope f cd A outer s H E) [] (start N vs) H s1:=by
 have hpl:ps.length<=N.length:=by have:=congrArg List.length S.pre;rw[List.length_take]at this;lia
 obtain⟨h1,tk,rfl,hk⟩:=x.done;have ip:∀b:Addr,b∉(Pn CX P w K mg base N qual scope f cd A outer s H E).ex:=fun b z=>absurd (show b∈([]:List Addr)from z) (by simp);refine⟨⟨e0.mod,S.kind,rfl,rfl,Nat.le_refl _,fun y z c h1 h2=>?_,fun y hy=>?_,fun y c _ h=>?_,fun _=>hd,Around.frames_deeper e0.frames,.inr ⟨rfl,rfl⟩,fun b z=>absurd z (ip b),e0.bs,e0.bsz,fun b _ _=>ip b,fun b z=>absurd z (ip b),e0.funs,e0.frf⟩,
  rfl,e0.bare,Un.kept hk,⟨_,x.toInCall.ns,fun i y v h1 h2 h3=>?_⟩,fun y c h=>⟨_,x.cell y c h⟩,e0.hok.fresh (Nat.le_refl _),fun y c h=>?_,fun p hp=>absurd (show p∈([]:List (Addr×Obj))from hp) (by simp),e0.hok.kept hk,?_⟩
 ·exact name_of_addr x.apart (PySem.mem_of_lookup h1) (PySem.mem_of_lookup h2)
 ·have hy:scope.names.lookup y=some .cell\/scope.names.lookup y=some .free:=hy;rcases hy with hy|hy
  ·exact Qy hy
  ·exact absurd rfl (S.nofree _ (PySem.mem_of_lookup hy))
 ·exact Nat.le_of_lt (x.above y c (PySem.mem_of_lookup h))
 ·have hi:i<vs.length:=by
   unfold start at h2;by_cases hi:i<vs.length
   ·exact hi
   ·rw[List.getElem?_append_right (by simpa using hi)]at h2;rw[List.getElem?_replicate]at h2;split at h2<;>cases h2
  have ha:vs[i]?=some v:=by
   unfold start at h2;rw[List.getElem?_append_left (by simpa using hi),List.getElem?_map]at h2;cases e:vs[i]? with
   |none=>rw[e]at h2;cases h2
   |some a=>rw[e]at h2;cases h2;rfl
  obtain⟨u,hu,rv⟩:=r.get ha;have hp:ps[i]?=some y:=by
   rw[<-S.pre,List.getElem?_take_of_lt (by lia)];exact h1
  have n6:ps.Nodup:=by rw[<-S.pre];exact S.nd.sublist (List.take_sublist _ _)
  refine⟨u,rv,?_⟩;rcases S.par y (List.mem_of_getElem? hp)with k|k
  ·exact .inl ⟨k,NK n6 hp hu k⟩
  ·obtain⟨c,e⟩:=Qy (n:=s.heap.objs.size+1) k;refine .inr ⟨.inl k,c,e,?_⟩;have q:=x.cell y c e;rw[NT n6 hp hu (by show scope.names.lookup y≠_;rw[k];decide)]at q;exact q
 ·exact e0.hok.fresh (Nat.le_of_lt (x.above y c (PySem.mem_of_lookup h)))
 ·unfold start;show _=N.length;rw[List.length_append,List.length_map,List.length_replicate];lia
theorem iu{CX:CXT}{P:Program}{w:World}{K:PySem.W.Frag}{mg:Str->Option Value}{base:Heap}{k:Nat}{f:Addr}{name qual:Str}{params:Arguments}{body:List Stmt}{scope:Scope}{dV kV doc pm A1 ct oc:Value}{an od:Option Addr}{W6:Array (Option Value)}{N ps:List Str}{sp:Sp}(lk:K.lookup f=some ⟨oc,od,.func (PySem.W.fnOf name qual params body scope dV kV doc pm an A1 ct),W6⟩)(WR:PySem.W.codeIn K A1 qual=true)(S:FnScope N ps scope)(len:∀vs H Q E,sp vs H Q E->vs.length=ps.length)(YW:∀(A:Around)(outer:List Env)(s:Shared)(H:Hp)(vs:List V)(Q:VK)(E:XK),Room k (A.deeper (envOfC qual scope s.heap.objs.size f A1))->sp vs H Q E →
   ∃t,PSs (Pn CX P w K mg base N qual scope f A1 A outer s H E) body t/\t { nx:=fun _ H'=>Q .non H',rt:=Q } (start N vs) H) :
  FnOk P w K mg base CX (k+1) f (PySem.W.fnOf name qual params body scope dV kV doc pm an A1 ct) ps sp:=by
 refine⟨len,fun A outer s H args us vs Q E hr e0 hb r cA=>?_⟩;have hl:=len _ _ _ _ cA;have KX:K.In s.heap:=e0.mod.kin.keeps fun b o e=>(e0.bs b o e).1;have lim:s.heap.NoLimit:=e0.mod.nolimit.keeps fun b o e=>(e0.bs b o e).1;have iq:∀y∈ps.zip us,scope.names.lookup y.1=some .local\/(scope.names.lookup y.1=some .cell/\((cellsFrom (s.heap.objs.size+1) scope.names []).lookup y.1).isSome=true):=fun⟨n,v⟩ hy=>by
  rcases S.par n (List.of_mem_zip hy).1 with q|q
  ·exact .inl q
  ·exact .inr ⟨q,PySem.W.cellsFrom_some _ _ _ (.inl q)⟩
 refine codeAny_call_function hr.depth (KX _ _ lk) rfl S.co S.gen rfl (PySem.W.codeRec_of KX WR) (hb _ _ _ _ ?_);refine wpAny_newFunctionEnv_cells S.kind iq fun env he s1 x=>?_;subst he;refine⟨lim.keeps x.toInCall.keep,codeAny_func ?_⟩;obtain⟨t,ht,hq⟩:=YW A outer s H vs Q E (hr.deeper _) cA;have I:Inv (Pn CX P w K mg base N qual scope f A1 A outer s H E) [] (start N vs) H s1:=U1 S hr.hd e0 hl r x;refine wpAny_mono (ht [] s1 (start N vs) H _ I hq) (fun fl s' hs=>?_) fun e s' hs=>hs;have fin:∀{σ':St}{H':Hp}{v:V}{u:Value},Inv (Pn CX P w K mg base N qual scope f A1 A outer s H E) [] σ' H' s'->RelV v u->Q v H'->CE outer P w H s Q u s':=
  fun {σ' H' v u} J rv q=>⟨v,H',J.os,J.bare,J.base,J.hok,rv,q⟩
 cases fl with
 |ret u=>
  obtain⟨v,σ',H',J,rv,q⟩:=hs;exact fin J rv q
 |next=>
  obtain⟨σ',H',J,q⟩:=hs;exact fin (v:=V.non) (u:=Value.none) J rfl q
 |brk=>
  obtain⟨_,_,_,q⟩:=hs;exact False.elim q
 |cont=>
  obtain⟨_,_,_,q⟩:=hs;exact False.elim q
section
variable {X:Cx}{x:Str}{p pos:Pos}{e:Expr}{es:List Expr}{t:TA}{id T:String}{r:List V->Hp->VK->Prop}
def tCB(r:List V->Hp->VK->Prop)(t:TA):TE:=fun σ H Q=>t σ H fun vs H1=>r vs H1 Q
theorem Gb(hc:Cc X (.builtin id) r)(hg:Gl X x)(hm:X.mg x=none)(hv:bootBuiltins x=some (.builtin id))(ha:PA X (e::es) t)(hn:x≠"__name__":=by decide)(MM:(x==("__debug__":Str))=false:=by decide)(he:starEach (e::es) X.env=(false,eval e X.env)::starEach es X.env:=by rfl)(hpl:(backTo pos (starEach es X.env)).any (·.1)=false:=by rfl):PE X (.Call (.Name x p) (e::es) [] pos) (tCB r t):=by intro AD s σ H Q I h;refine wpAny_Call_Name_kw (Ff I hg hm hv ?_ hn MM);exact PyProof.Rows.callWith_builtin1 (thn (ha pos AD s σ H _ I h) fun us s1 ⟨vs,H1,I1,r1,q1⟩=>hc AD s1 σ H1 vs us Q I1 r1 q1) he hpl
theorem Mh(hc:Cc X (.type T) r)(hg:Gl X x)(hm:X.mg x=none)(hv:bootBuiltins x=some (.type T))(ha:PA X (e::es) t)(hn:x≠"__name__":=by decide)(MM:(x==("__debug__":Str))=false:=by decide)(he:starEach (e::es) X.env=(false,eval e X.env)::starEach es X.env:=by rfl)(hpl:(backTo pos (starEach es X.env)).any (·.1)=false:=by rfl):PE X (.Call (.Name x p) (e::es) [] pos) (tCB r t):=by intro AD s σ H Q I h;refine wpAny_Call_Name_kw (Ff I hg hm hv ?_ hn MM);exact PyProof.Rows.callWith_type1 (thn (ha pos AD s σ H _ I h) fun us s1 ⟨vs,H1,I1,r1,q1⟩=>hc AD s1 σ H1 vs us Q I1 r1 q1) he hpl
end
end L2
namespace HT
open PySem PyProof.Rows
def lexLt:List Int->List Int->Bool
 |[],[]=>false
 |[],_::_=>true
 |_::_,[]=>false
 |x::xs,y::ys=>if x=y then lexLt xs ys else decide (x<y)
theorem lexLt_cons(x y:Int)(xs ys:List Int):lexLt (x::xs) (y::ys)=if x=y then lexLt xs ys else decide (x<y):=rfl
section
variable {prog:Program}{w:World}{A:Around}{E:Value->Shared->Prop}{s:Shared}
theorem cat_tup{t b:Addr}{vs ws:List Value}{Q:Value->Shared->Prop}(ht:IsTup s.heap t vs.toArray)(hb:IsTup s.heap b ws.toArray)(hv:vs≠[])(h1:ws=[]->Q (.ref t) s)(h2:ws≠[]->Q (.ref s.heap.objs.size) { s with heap:=s.heap.push { cls:=.type "tuple",data:=.seq (vs++ws).toArray } })(hsz:vs.length+ws.length<=sizeLine):wpAny (model prog w) A (binaryOp .Add (.ref t) (.ref b)) Q E s:=by
 obtain⟨⟨cls,dd,data,sl⟩,ho,hc,n,hd⟩:=id ht;obtain⟨⟨dv,So,data2,PC⟩,Sr,RC,n2,hd2⟩:=id hb;simp only at hc hd RC hd2;subst hc hd RC hd2;have e:vs.toArray++ws.toArray=(vs++ws).toArray:=by simp
 by_cases hw:ws=[]
 ·exact concat_meets ⟨_,ho,rfl⟩ ⟨_,Sr,rfl⟩ noFill_tuple_add seq_tuple_add PySem.F.slot_tuple_add PySem.F.entry_tuple_add (PySem.F.args_tuple_add_2 _ _)
   (tuple_addW1 t b vs.toArray ws.toArray n n2 dd So sl PC (by simpa using hv) (by simp[hw])) ⟨ho,Sr,h1 hw⟩
 ·refine concat_meets ⟨_,ho,rfl⟩ ⟨_,Sr,rfl⟩ noFill_tuple_add seq_tuple_add PySem.F.slot_tuple_add PySem.F.entry_tuple_add (PySem.F.args_tuple_add_2 _ _)
   (tuple_addW2 t b vs.toArray ws.toArray n n2 dd So sl PC (by simpa using hv) (by simpa using hw) (by rw[List.size_toArray,List.size_toArray];exact hsz)) ⟨ho,Sr,?_⟩
  rw[e];exact h2 hw
def sIx(n d:Nat):Option Int->Nat
 |none=>d
 |some v=>if v<0 then(v+(n:Int)).toNat else min v.toNat n
theorem sIx_none(n d:Nat):sIx n d none=d:=rfl
theorem sIx_nat(n d k:Nat):sIx n d (some (k:Int))=min k n:=by show(if (k:Int)<0 then((k:Int)+(n:Int)).toNat else min (k:Int).toNat n)=min k n;rw[if_neg (by lia),Int.toNat_natCast]
theorem di(n d:Nat)(hd:d<=n)(o:Option Int):sIx n d o<=n:=by
 cases o with
 |none=>exact hd
 |some v=>
  show(if v<0 then(v+(n:Int)).toNat else min v.toNat n)<=n;by_cases hv:v<0
  ·rw[if_pos hv];lia
  ·rw[if_neg hv];exact Nat.min_le_right _ _
theorem T4(v:Int)(n d:Nat):(if v<0 then max (v+(n:Int)) 0 else min v (n:Int))=((sIx n d (some v):Nat):Int):=by
 show(if v<0 then max (v+(n:Int)) 0 else min v (n:Int))=(((if v<0 then(v+(n:Int)).toNat else min v.toNat n):Nat):Int);by_cases hv:v<0
 ·simp only[if_pos hv];lia
 ·simp only[if_neg hv];lia
theorem Sd(lo hi:Option Int)(n:Nat):Builtin.Slice.sliceAdjust lo hi 1 (n:Int)=(((sIx n 0 lo:Nat):Int),((sIx n n hi:Nat):Int)):=by
 have h1:¬((1:Int)<0):=by lia
 unfold Builtin.Slice.sliceAdjust;simp only[h1,if_false];refine Prod.ext ?_ ?_
 ·cases lo with
  |none=>rfl
  |some v=>exact T4 v n 0
 ·cases hi with
  |none=>rfl
  |some v=>exact T4 v n n
theorem RZ(i j:Nat):Builtin.Slice.slicePlaces (i:Int) (j:Int) 1=j-i:=by
 unfold Builtin.Slice.slicePlaces;have h1:(1:Int) > 0:=by lia
 simp only[h1,if_true,Int.ediv_one];split<;>lia
theorem Lq{v:Value}{o:Option Int}{Q:Option Int->Shared->Prop}(p:IsPart v o)(h:Q o s):wpAny (model prog w) A (Builtin.Slice.slicePartIndex v) Q E s:=by
 cases p with
 |none=>exact slicePart_none h
 |int i t=>exact slicePart_int h
theorem sliceApplied_gen{sl:Addr}{vl vu:Value}{lo hi:Option Int}{n:Nat}{Q:Int×Int×Nat->Shared->Prop}(hs:s.heap.IsSliceOf sl vl vu .none)(pl:IsPart vl lo)(pu:IsPart vu hi)(h:Q (((sIx n 0 lo:Nat):Int),1,sIx n n hi-sIx n 0 lo) s):wpAny (model prog w) A (Builtin.Slice.sliceApplied (.ref sl) (pure (n:Int))) Q E s:=by obtain⟨os,eR,jh,gk⟩:=id hs;unfold Builtin.Slice.sliceApplied Builtin.Slice.sliceFields;refine wpAny_bind (wpAny_bind (wpAny_field eR gk (x:=vl) rfl (wpAny_bind (wpAny_field eR gk (x:=vu) rfl (wpAny_bind (wpAny_field eR gk (x:=.none) rfl (wpAny_pure ?_)))))));refine wpAny_bind (slicePart_none ?_);show wpAny _ _ (if ((1:Int)==0)=true then _ else _) _ _ s;rw[if_neg (by decide)];refine wpAny_bind (Lq pl (wpAny_bind (Lq pu (wpAny_bind (wpAny_pure ?_)))));show wpAny _ _ (match Builtin.Slice.sliceAdjust lo hi 1 (n:Int)with|(lo,hi)=>pure (lo,(1:Int),Builtin.Slice.slicePlaces lo hi 1)) _ _ s;rw[Sd lo hi n];show wpAny _ _ (pure (((sIx n 0 lo:Nat):Int),(1:Int),Builtin.Slice.slicePlaces ((sIx n 0 lo:Nat):Int) ((sIx n n hi:Nat):Int) 1)) _ _ s;rw[RZ];exact wpAny_pure h
theorem YN(xs:Array Value)(i k:Nat):((List.range k).filterMap fun(m:Nat)=>xs[((i:Int)+(m:Int)*1).toNat]?).toArray=((xs.toList.drop i).take k).toArray:=by
 have e:(fun(m:Nat)=>xs[((i:Int)+(m:Int)*1).toNat]?)=fun m=>xs[i+m]?:=by
  funext m;have:((i:Int)+(m:Int)*1).toNat=i+m:=by lia
  rw[this]
 rw[e]
 have:=pick_run xs i k
 rw[List.filterMap_map]at this;have e2:((fun x=>xs[x]?) ∘ fun x=>i+x)=fun m=>xs[i+m]?:=rfl;rw[e2]at this;rw[this]
theorem getItem_tuple_cut{t sl:Addr}{items:Array Value}{vl vu:Value}{lo hi:Option Int}{Q:Value->Shared->Prop}(ht:IsTup s.heap t items)(hs:s.heap.IsSliceOf sl vl vu .none)(pl:IsPart vl lo)(pu:IsPart vu hi)(hw:¬(sIx items.size 0 lo=0/\sIx items.size items.size hi=items.size))(h:Q (.ref s.heap.objs.size) { s with heap:=s.heap.push { cls:=.type "tuple",data:=.seq ((items.toList.drop (sIx items.size 0 lo)).take (sIx items.size items.size hi-sIx items.size 0 lo)).toArray } })(hsz:items.size<=sizeLine):wpAny (model prog w) A (getItem (.ref t) (.ref sl)) Q E s:=by
 have Uu:sizeOk (.seq ((items.toList.drop (sIx items.size 0 lo)).take (sIx items.size items.size hi-sIx items.size 0 lo)).toArray):=by
  show((items.toList.drop (sIx items.size 0 lo)).take (sIx items.size items.size hi-sIx items.size 0 lo)).toArray.size<=sizeLine;rw[List.size_toArray,List.length_take,List.length_drop,Array.length_toList];lia
 have hj:sIx items.size items.size hi<=items.size:=di _ _ (Nat.le_refl _) hi;obtain⟨os,eR,jh,gk⟩:=id hs;have mH:s.TypeIs (.ref sl) "slice":=⟨os,eR,jh⟩;unfold getItem;try with_reducible refine wpAny_holding ?_
 first|refine wpAny_bind (wpAny_pure ?_)|skip
 refine wpAny_bind (wpAny_sequenceKey ht.typeIs (by decide) ?_);refine wpAny_bind (wpAny_callSpecial?_slot (name:=Str.ofString "__getitem__") ht.typeIs PyProof.Rows.slot_tuple_getitem
  (wpAny_call_entry PyProof.Rows.slot_tuple_getitem ht.typeIs entry_tuple_getitem ?_ (args_tuple_getitem _ _)))
 show wpAny _ _ (Builtin.Tuple.tupleItemsOf (.ref t) >>= _) _ _ s;refine wpAny_bind (tupleItemsOf_ ht ?_);refine wpAny_bind (wpAny_typeOf mH ?_);rw[if_pos (by decide)];refine wpAny_bind (sliceApplied_gen hs pl pu ?_);have Rl:¬((((sIx items.size 0 lo:Nat):Int)==0&&(1:Int)==1&&(sIx items.size items.size hi-sIx items.size 0 lo)==items.size)=true):=by
  intro q;rw[Bool.and_eq_true,Bool.and_eq_true]at q;have q1:((sIx items.size 0 lo:Nat):Int)=0:=eq_of_beq q.1.1;have q2:sIx items.size items.size hi-sIx items.size 0 lo=items.size:=eq_of_beq q.2;exact hw ⟨by lia,by lia⟩
 show wpAny _ _ (if (((sIx items.size 0 lo:Nat):Int)==0&&(1:Int)==1&&(sIx items.size items.size hi-sIx items.size 0 lo)==items.size)=true then _ else _) _ _ s;rw[if_neg Rl,YN];first
  |exact wpAny_bind (m:=Builtin.Tuple.tupleExact _) (wpAny_newObj_type (wpAny_pure ⟨_,rfl,wpAny_pure h⟩) Uu)
  |exact wpAny_bind (m:=Builtin.Tuple.tupleExact _) (wpAny_newObj_type (wpAny_bind (wpAny_pure (wpAny_pure ⟨_,rfl,wpAny_pure h⟩))) Uu)
  |exact wpAny_bind (wpAny_bind (m:=Builtin.Tuple.tupleExact _) (wpAny_newObj_type (wpAny_pure (wpAny_pure ⟨_,rfl,wpAny_pure h⟩)) Uu))
  |exact wpAny_bind (wpAny_bind (m:=Builtin.Tuple.tupleExact _) (wpAny_newObj_type (wpAny_pure ⟨_,rfl,wpAny_pure h⟩) Uu))
end
end HT
namespace L2
open PySem PySem.Spec PyProof.Rows
abbrev TO:=St->Hp->(Option Int->Hp->Prop)->Prop
def PO(X:Cx)(e:Option Expr)(t:TO):Prop:=∀(AD:List (Addr×Obj))(s:Shared)(σ:St)(H:Hp)(Q:Option Int->Hp->Prop),Inv X AD σ H s->t σ H Q →
  wpAny (model X.prog X.w) X.A (evalPart e X.env) (fun u s'=>∃o H',Inv X AD σ H' s'/\IsPart u o/\Q o H') X.xe s
def Z6:TO:=fun _ H Q=>Q none H
def iU(t:TE):TO:=fun σ H Q=>t σ H fun x H1=>∃i,x=.int i/\Q (some i) H1
theorem Hz{ns:List Int}:∀{us:List Value},Vals (ns.map V.int) us->IntsAre us ns:=by
 induction ns with
 |nil=>intro us r;rw[List.map_nil]at r;cases r;exact .nil
 |cons n ns ih=>
  intro us r;rw[List.map_cons]at r;cases r with
  |cons r1 r2=>
   obtain⟨t,e⟩:=r1;subst e;exact .cons n t (ih r2)
section
variable {X:Cx}{e:Expr}{te:TE}{lo hi:Option Expr}{tl th:TO}{pos p2:Pos}
theorem aF:PO X none Z6:=by intro AD s σ H Q I h;rw[evalPart_none];exact wpAny_pure ⟨none,H,I,.none,h⟩
theorem Zz(h:PE X e te):PO X (some e) (iU te):=by intro AD s σ H Q I hw;rw[evalPart_some];refine thn (h AD s σ H _ I hw) fun u s1 ⟨x,H1,I1,r1,q1⟩=>?_;obtain⟨i,rfl,q⟩:=q1;obtain⟨t,rfl⟩:=r1;exact⟨some i,H1,I1,.int i t,q⟩
def SlR(X:Cx)(r:V->Option Int->Option Int->Hp->VK->Prop):Prop:=∀(AD:List (Addr×Obj))(s:Shared)(σ:St)(H:Hp)(x:V)(v vl vu:Value)(lo hi:Option Int)(sl:Addr)(Q:VK),Inv X AD σ H s->RelV x v->s.heap.IsSliceOf sl vl vu .none->IsPart vl lo->IsPart vu hi->r x lo hi H Q →
  ∃T id,typeLookup (.type T) "__getitem__"=pure (some (.builtin id))/\s.TypeIs v T/\wpAny (model X.prog X.w) X.A (getItem v (.ref sl)) (EP X AD σ Q) X.xe s
def tSl(r:V->Option Int->Option Int->Hp->VK->Prop)(te:TE)(tl th:TO):TE:=fun σ H Q=>te σ H fun x H1=>tl σ H1 fun l H2=>th σ H2 fun u H3=>r x l u H3 Q
theorem Yq{r:V->Option Int->Option Int->Hp->VK->Prop}(hr:SlR X r)(he:PE X e te)(hl:PO X lo tl)(hu:PO X hi th):PE X (.Subscript e (.Slice lo hi none p2) pos) (tSl r te tl th):=by intro AD s σ H Q I h;refine Subscript_ (thn (he AD s σ H _ I h) fun v s1 ⟨x,H1,I1,r1,q1⟩=>?_);refine wpAny_Slice (thn (hl AD s1 σ H1 _ I1 q1) fun vl s2 ⟨l,H2,I2,pl,q2⟩=>thn (hu AD s2 σ H2 _ I2 q2) fun vu s3 ⟨u,H3,I3,pu,q3⟩=>?_);rw[evalPart_none];refine wpAny_pure ?_;have I4:Inv X AD σ H3 { s3 with heap:=s3.heap.push { cls:=.type "slice",data:=.fields #[vl,vu,.none] } }:=I3.kept (t':=s3.toks) fun b ob q=>Heap.get?_push_of_some _ q;obtain⟨T,id,hT,ht,hg⟩:=hr AD { s3 with heap:=s3.heap.push { cls:=.type "slice",data:=.fields #[vl,vu,.none] } } σ H3 x v vl vu l u s3.heap.objs.size Q I4 r1 (Heap.IsSliceOf.new ..) pl pu q3;show wpAny (model X.prog X.w) X.A (subscriptTail e (.Slice lo hi none p2) v (.ref s3.heap.objs.size)) (EP X AD σ Q) X.xe { s3 with heap:=s3.heap.push { cls:=.type "slice",data:=.fields #[vl,vu,.none] } };exact tail_any (ops:=[.ref s3.heap.objs.size,v]) ht hT hg (by with_unfolding_all rfl)
def MX(xs:List V)(lo hi:Option Int):List V:=(xs.drop (HT.sIx xs.length 0 lo)).take (HT.sIx xs.length xs.length hi-HT.sIx xs.length 0 lo)
theorem Qj(xs:List V)(lo hi:Option Int):(MX xs lo hi).length<=xs.length:=by unfold MX;rw[List.length_take,List.length_drop];lia
def jo(K:PySem.W.Frag):V->Option Int->Option Int->Hp->VK->Prop:=fun x lo hi H Q=>∃a xs,x=.ref a/\SqT K H a xs ∧
 ¬(HT.sIx xs.length 0 lo=0/\HT.sIx xs.length xs.length hi=xs.length)/\∀p,H p=none->Q (.ref p) (upd H p (.tup (MX xs lo hi)))
theorem eK:SlR X (jo X.K):=by
 intro AD s σ H x v vl vu lo hi sl Q I rx hs pl pu h;obtain⟨a,xs,rfl,hx,hw,q⟩:=h;cases rx;obtain⟨AY,r,ht,hz⟩:=I.tuple hx;have A2:AY.toArray.size=xs.length:=by rw[List.size_toArray];exact r.length.symm
 refine⟨"tuple",_,PyProof.Rows.slot_tuple_getitem.lookup,ht.typeIs,?_⟩;refine HT.getItem_tuple_cut ht hs pl pu (by rw[A2];exact hw) ?_ (by rw[A2];exact hz);rw[A2];refine⟨.ref s.heap.objs.size,_,I.laid (t':=s.toks) (o:=.tup (MX xs lo hi)) (fun b ob q=>Heap.get?_push_of_some _ q) (Nat.le_refl _) ?_,rfl,q _ (I.hok.fresh (Nat.le_refl _))⟩;exact⟨Nat.le_trans (Qj xs lo hi) hz,_,(r.drop (HT.sIx xs.length 0 lo)).take (HT.sIx xs.length xs.length hi-HT.sIx xs.length 0 lo),IsTup.new _ _⟩
def fw(K:PySem.W.Frag):R2:=fun x y H Q=>∃a b xs ys,x=.ref a/\y=.ref b/\SqT K H a xs/\SqT K H b ys/\xs≠[]/\xs.length+ys.length<=sizeLine ∧
 (ys=[]->Q (.ref a) H)/\(ys≠[]->∀p,H p=none->Q (.ref p) (upd H p (.tup (xs++ys))))
theorem Vals.nil_iff{xs:List V}{us:List Value}(r:Vals xs us):us=[]↔xs=[]:=by
 cases r with
 |nil=>simp
 |cons _ _=>simp
theorem Z7:OpR X (binaryOp .Add) (fw X.K):=by intro AD s σ H x y v u Q I rx ry h;obtain⟨a,b,xs,ys,rfl,rfl,ha,hb,hx,hz,q1,q2⟩:=h;cases rx;cases ry;obtain⟨AY,r1,p1,_⟩:=I.tuple ha;obtain⟨Ju,r2,p2,_⟩:=I.tuple hb;refine HT.cat_tup p1 p2 (fun z=>hx (r1.nil_iff.mp z)) (fun z=>⟨.ref a,H,I,rfl,q1 (r2.nil_iff.mp z)⟩) (fun z=>?_) (by rw[<-r1.length,<-r2.length];exact hz);refine⟨.ref s.heap.objs.size,_,I.laid (t':=s.toks) (o:=.tup (xs++ys)) (fun b ob q=>Heap.get?_push_of_some _ q) (Nat.le_refl _) ?_,rfl,q2 (fun w=>z (r2.nil_iff.mpr w)) _ (I.hok.fresh (Nat.le_refl _))⟩;exact⟨by rw[List.length_append];exact hz,_,r1.append r2,IsTup.new _ _⟩
end
def ixN(n:Nat)(i:Int):Option Nat:=if 0<=i then(if i<n then some i.toNat else none)else if -(n:Int)<=i then some (i+n).toNat else none
def atI{α:Type}(xs:List α)(i:Int):Option α:=(ixN xs.length i).bind fun j=>xs[j]?
theorem aT{n:Nat}{i:Int}{j:Nat}(h:ixN n i=some j):seqIndex? i n=some j/\j<n/\-(n:Int)<=i/\i<n:=by
 unfold ixN at h;by_cases h0:0<=i
 ·rw[if_pos h0]at h;by_cases h1:i<n
  ·rw[if_pos h1]at h;have e:i.toNat=j:=Option.some.inj h;exact⟨by rw[seqIndex_of h0 h1,e],by lia,by lia,h1⟩
  ·rw[if_neg h1]at h;cases h
 ·rw[if_neg h0]at h;by_cases h1:-(n:Int)<=i
  ·rw[if_pos h1]at h;have e:(i+n).toNat=j:=Option.some.inj h;exact⟨by rw[seqIndex_neg (by lia) h1,e],by lia,h1,by lia⟩
  ·rw[if_neg h1]at h;cases h
theorem TZ{α:Type}{xs:List α}{i:Int}{v:α}(h:atI xs i=some v):∃j,seqIndex? i xs.length=some j/\xs[j]?=some v/\j<xs.length/\-(xs.length:Int)<=i/\i<xs.length:=by
 unfold atI at h;cases e:ixN xs.length i with
 |none=>rw[e]at h;cases h
 |some j=>
  rw[e]at h;obtain⟨h1,h2,h3,h4⟩:=aT e;exact⟨j,h1,h,h2,h3,h4⟩
theorem C7{α:Type}{xs:List α}{j:Nat}{v:α}(h:xs[j]?=some v):atI xs (j:Int)=some v:=by
 have hj:j<xs.length:=(List.getElem?_eq_some_iff.mp h).1;have e:ixN xs.length (j:Int)=some j:=by
  unfold ixN;rw[if_pos (by lia),if_pos (by lia)];simp
 unfold atI;rw[e];exact h
def E9(b:Expr):Prop:=∀o i,subscripted b false o i=operate [o,i] (getItem o i)
def IxR(X:Cx)(r:R2):Prop:=∀(value slice:Expr)(AD:List (Addr×Obj))(s:Shared)(σ:St)(H:Hp)(x y:V)(v u:Value)(Q:VK),Inv X AD σ H s->RelV x v->RelV y u->r x y H Q →
  subscripted slice false v u=operate [v,u] (getItem v u)->wpAny (model X.prog X.w) X.A (subscriptTail value slice v u) (EP X AD σ Q) X.xe s
def MtR(X:Cx)(id:String)(r:V->List V->Hp->VK->Prop):Prop:=∀(AD:List (Addr×Obj))(s:Shared)(σ:St)(H:Hp)(x:V)(xs:List V)(v:Value)(us:List Value)(Q:VK),Inv X AD σ H s->RelV x v->Vals xs us->r x xs H Q →
  wpAny (model X.prog X.w) X.A (call (.builtin id) (v::us)) (EP X AD σ Q) X.xe s
section
variable {X:Cx}{a b:Expr}{ta tb:TE}{pos:Pos}
theorem Tb{r:R2}(hr:IxR X r)(ha:PE X a ta)(hb:PE X b tb)(hs:E9 b):PE X (.Subscript a b pos) (tOp r ta tb):=by intro AD s σ H Q I h;exact Subscript_ (i3 ha hb I h fun v u s2 x y H2 I2 rx ry q=>hr a b AD s2 σ H2 x y v u Q I2 rx ry q (hs _ _))
def lG(K:PySem.W.Frag):R2:=fun x y H Q=>∃p xs i v,x=.ref p/\y=.int i/\SqL K H p xs/\atI xs i=some v/\Q v H
def lK(K:PySem.W.Frag):R2:=fun x y H Q=>∃p xs i v,x=.ref p/\y=.int i/\SqT K H p xs/\atI xs i=some v/\Q v H
theorem OX:IxR X (lG X.K):=by
 intro value slice AD s σ H x y v u Q I rx ry h hs;obtain⟨p,xs,i,z,rfl,rfl,hq,he,q⟩:=h;cases rx;obtain⟨t,rfl⟩:=ry;obtain⟨AY,r,pl,hz⟩:=I.list hq;obtain⟨j,h1,h2,h3,h4,h5⟩:=TZ he;obtain⟨w,ew,iR⟩:=r.get h2;have hl:=r.length;have hn:=ME;have fin:EP X AD σ Q w s:=⟨z,H,I,iR,q⟩;by_cases h0:0<=i
 ·have hj:i.toNat=j:=by
   rw[seqIndex_of h0 h5]at h1;exact Option.some.inj h1
  exact item_listR pl.isList h0 (by lia) (by rw[hj];simpa using ew) fin hs
 ·have hj:(i+(AY.toArray.size:Int)).toNat=j:=by
   rw[seqIndex_neg (by lia) h4]at h1;rw[List.size_toArray,<-hl];exact Option.some.inj h1
  exact subscriptTail_builtinR (x:=w) pl.isList.typeIs slot_list_getitem.lookup
   (wpAny_getItem_list_neg (Q:=fun r s'=>r=w/\EP X AD σ Q r s') pl.isList (by lia) (by rw[List.size_toArray]<;>lia) (by lia) (by rw[hj];simpa using ew) ⟨rfl,fin⟩) hs
theorem eV:IxR X (lK X.K):=by
 intro value slice AD s σ H x y v u Q I rx ry h hs;obtain⟨p,xs,i,z,rfl,rfl,hq,he,q⟩:=h;cases rx;obtain⟨t,rfl⟩:=ry;obtain⟨AY,r,pl,hz⟩:=I.tuple hq;obtain⟨j,h1,h2,h3,h4,h5⟩:=TZ he;obtain⟨w,ew,iR⟩:=r.get h2;have hl:=r.length;have hn:=ME;have fin:EP X AD σ Q w s:=⟨z,H,I,iR,q⟩;exact subscriptTail_builtinR (x:=w) pl.typeIs slot_tuple_getitem.lookup
  (getItem_tuple (j:=j) (Q:=fun r s'=>r=w/\EP X AD σ Q r s') pl (by lia) (by lia) (by rw[List.size_toArray,<-hl];exact h1) (by simpa using ew) ⟨rfl,fin⟩) hs
def Wq:V->Bool
 |.non=>true
 |.bl _=>true
 |.int _=>true
 |.str _=>true
 |_=>false
def eqV:V->V->Bool
 |.non,.non=>true
 |.bl a,.bl b=>a==b
 |.bl a,.int b=>(if a then 1 else 0)==b
 |.int a,.bl b=>a==(if b then 1 else 0)
 |.int a,.int b=>a==b
 |.str a,.str b=>a==b
 |_,_=>false
theorem eQ{A:Around}{s:Shared}{y x:V}{u v:Value}(ry:RelV y u)(rx:RelV x v)(fy:Wq y=true)(fx:Wq x=true):SeqAt.EqAt A s u v (eqV y x):=by
 cases y with
 |non=>
  cases ry;cases x with
  |non=>cases rx;exact SeqAt.EqAt.same _
  |bl b=>cases rx;exact SeqAt.EqAt.none_bool b
  |int b=>obtain⟨t,rfl⟩:=rx;exact SeqAt.EqAt.none_int b t
  |str b=>obtain⟨t,rfl⟩:=rx;exact SeqAt.EqAt.none_str b t
  |_=>exact absurd (show false=true from fx) Bool.false_ne_true
 |bl a=>
  cases ry;cases x with
  |non=>cases rx;exact SeqAt.EqAt.bool_none a
  |bl b=>cases rx;exact SeqAt.EqAt.bool_bool a b
  |int b=>obtain⟨t,rfl⟩:=rx;exact SeqAt.EqAt.bool_int a b t
  |str b=>obtain⟨t,rfl⟩:=rx;exact SeqAt.EqAt.bool_str a b t
  |_=>exact absurd (show false=true from fx) Bool.false_ne_true
 |int a=>
  obtain⟨t',rfl⟩:=ry;cases x with
  |non=>cases rx;exact SeqAt.EqAt.int_none a t'
  |bl b=>cases rx;exact SeqAt.EqAt.int_bool a t' b
  |int b=>obtain⟨t,rfl⟩:=rx;exact SeqAt.EqAt.int_int a t' b t
  |str b=>obtain⟨t,rfl⟩:=rx;exact SeqAt.EqAt.int_str a t' b t
  |_=>exact absurd (show false=true from fx) Bool.false_ne_true
 |str a=>
  obtain⟨t',rfl⟩:=ry;cases x with
  |non=>cases rx;exact SeqAt.EqAt.str_none a t'
  |bl b=>cases rx;exact SeqAt.EqAt.str_bool a t' b
  |int b=>obtain⟨t,rfl⟩:=rx;exact SeqAt.EqAt.str_int a t' b t
  |str b=>obtain⟨t,rfl⟩:=rx;exact SeqAt.EqAt.str_str a t' b t
  |_=>exact absurd (show false=true from fx) Bool.false_ne_true
 |_=>exact absurd (show false=true from fy) Bool.false_ne_true
theorem OW:Cc X (.builtin "len") (fun xs H Q=>∃p ys,xs=[.ref p]/\(SqL X.K H p ys\/SqT X.K H p ys)/\Q (.int ys.length) H):=by
 intro AD s σ H xs us Q I r h;obtain⟨p,ys,rfl,hq,q⟩:=h;obtain⟨u,rfl,rx⟩:=JQ r;cases rx;have hn:=ME;rcases hq with hq|hq
 ·obtain⟨AY,r',pl,hz⟩:=I.list hq;have A2:=r'.length;exact Calls.call_len_list pl.isList (by simp only[List.size_toArray]<;>lia) ⟨.int ys.length,H,I.tok _,⟨s.toks+1,by rw[List.size_toArray,A2]⟩,q⟩
 ·obtain⟨AY,r',pl,hz⟩:=I.tuple hq;have A2:=r'.length;exact len_tuple pl (by simp only[List.size_toArray]<;>lia) ⟨.int ys.length,H,I.tok _,⟨s.toks+1,by rw[List.size_toArray,A2]⟩,q⟩
theorem JG:Cc X (.type "list") (fun xs H Q=>∃p ys,xs=[.ref p]/\(SqL X.K H p ys\/SqT X.K H p ys)/\∀l,H l=none->Q (.ref l) (upd H l (.lst ys))):=by
 intro AD s σ H xs us Q I r h;obtain⟨p,ys,rfl,hq,q⟩:=h;obtain⟨u,rfl,rx⟩:=JQ r;cases rx;have fin:∀(AY:List Value),Vals ys AY->ys.length<=sizeLine->∀(h':Heap)(c':Nat),(∀b o',s.heap.get? b=some o'->h'.get? b=some o') →
   h'.get? s.heap.objs.size=some { cls:=.type "list",dict:=none,data:=.seq AY.toArray c',slots:=#[] }->EP X AD σ Q (.ref s.heap.objs.size) { s with heap:=h' }:=fun AY r' hz h' c' kp e=>
  ⟨.ref s.heap.objs.size,_,I.laid (t':=s.toks) kp (Nat.le_refl _) (show ObjOk X.prog X.w _ h' _ (.lst ys)from⟨hz,AY,c',r',e⟩),rfl,q _ (I.hok.fresh (Nat.le_refl _))⟩
 rcases hq with hq|hq
 ·obtain⟨AY,r',pl,hz⟩:=I.list hq;have A2:=r'.length;obtain⟨o,ho,hc,n,hd⟩:=pl.isList;exact call_list_seq p (.inl rfl) ho hc hd (fun h' c' kp e=>fin AY r' hz h' c' kp e) (by simp only[List.size_toArray]<;>lia)
 ·obtain⟨AY,r',pl,hz⟩:=I.tuple hq;have A2:=r'.length;obtain⟨o,ho,hc,n,hd⟩:=pl;exact call_list_seq p (.inr rfl) ho hc hd (fun h' c' kp e=>fin AY r' hz h' c' kp e) (by simp only[List.size_toArray]<;>lia)
theorem MF:Cc X (.type "tuple") (fun xs H Q=>∃p ys,xs=[.ref p]/\((SqL X.K H p ys/\∀l,H l=none->Q (.ref l) (upd H l (.tup ys)))\/(SqT X.K H p ys/\Q (.ref p) H))):=by
 intro AD s σ H xs us Q I r h;obtain⟨p,ys,rfl,h⟩:=h;obtain⟨u,rfl,rx⟩:=JQ r;cases rx;rcases h with⟨hq,q⟩|⟨hq,q⟩
 ·obtain⟨AY,r',pl,hz⟩:=I.list hq;have A2:=r'.length;refine call_tuple_list pl.isList (fun h' kp=>?_) (by simp only[List.size_toArray]<;>lia);have I1:Inv X AD σ H { s with heap:=h' }:=I.kept (t':=s.toks) kp;have I2:Inv X AD σ (upd H h'.objs.size (.tup ys)) { s with heap:=h'.push { cls:=.type "tuple",data:=.seq AY.toArray } }:=
   I1.laid (t':=s.toks) (fun b o e=>Heap.get?_push_of_some _ e) (Nat.le_refl _) (show ObjOk X.prog X.w _ _ _ (.tup ys)from⟨hz,AY,r',IsTup.new _ _⟩)
  exact⟨.ref h'.objs.size,_,I2,rfl,q _ (I1.hok.fresh (Nat.le_refl _))⟩
 ·obtain⟨AY,r',pl,hz⟩:=I.tuple hq;exact call_tuple_same pl ⟨.ref p,H,I,rfl,q⟩
def tyV(K:PySem.W.Frag)(T:String)(x:V)(H:Hp):Prop:=match x with
 |.str _=>T = "str"
 |.int _=>T = "int"
 |.ref p=>(T = "list"/\∃xs,SqL K H p xs)\/(T = "tuple"/\∃o,K.lookup p=some o/\o.cls=.type "tuple"/\o.dict=none) ∨
   (T = "dict"/\((∃AR,H p=some (.dK AR))\/∃AR,H p=some (.dT AR)))\/(T = "set"/\∃S n,H p=some (.set S n))
 |_=>False
theorem YI{AD:List (Addr×Obj)}{σ:St}{H:Hp}{s:Shared}{T:String}{x:V}{v:Value}(I:Inv X AD σ H s)(r:RelV x v)(ty:tyV X.K T x H) :
  s.TypeIs v T/\∀a,v=.ref a->∃ob,s.heap.get? a=some ob/\ob.dict=none:=by
 cases x with
 |str z=>
  obtain⟨t,rfl⟩:=r;cases (show T = "str" from ty);exact⟨typeIs_str s z t,fun _ e=>nomatch e⟩
 |int i=>
  obtain⟨t,rfl⟩:=r;cases (show T = "int" from ty);exact⟨typeIs_int s i t,fun _ e=>nomatch e⟩
 |ref p=>
  cases r;rcases ty with⟨rfl,xs,hq⟩|⟨rfl,o,hk,hc,hd⟩|⟨rfl,hk⟩|⟨rfl,S,n,hk⟩
  ·obtain⟨AY,_,pl,_⟩:=I.list hq;refine⟨pl.isList.typeIs,fun a e=>?_⟩;cases e;obtain⟨o,n,e,c,hd,_⟩:=pl;exact⟨o,e,hd⟩
  ·refine⟨⟨o,I.kIn p o hk,hc⟩,fun a e=>?_⟩;cases e;exact⟨o,I.kIn _ o hk,hd⟩
  ·have z:∃o,s.heap.get? p=some o/\o.ExactDict:=by
    rcases hk with⟨AR,hk⟩|⟨AR,hk⟩
    ·obtain⟨_,_,_,_,o,_,_,e,ex,_⟩:=I.hok p _ hk;exact⟨o,e,ex⟩
    ·obtain⟨_,_,_,_,o,_,_,e,ex,_⟩:=I.hok p _ hk;exact⟨o,e,ex⟩
   obtain⟨o,e,ex⟩:=z;refine⟨⟨o,e,ex.1⟩,fun a e2=>?_⟩;cases e2;exact⟨o,e,ex.2.1⟩
  ·obtain⟨o,_,_,_,e,ex,_⟩:=I.hok p _ hk;refine⟨⟨o,e,ex.1⟩,fun a e2=>?_⟩;cases e2;exact⟨o,e,ex.2.1⟩
 |_=>exact False.elim ty
def l9(K:PySem.W.Frag)(T:String)(r:V->List V->Hp->VK->Prop)(to:TE):TE:=fun σ H Q=>to σ H fun x H1=>tyV K T x H1/\r x [] H1 Q
def tBM(K:PySem.W.Frag)(T:String)(r:V->List V->Hp->VK->Prop)(to:TE)(t:TA):TE:=fun σ H Q=>to σ H fun x H1=>tyV K T x H1/\t σ H1 fun xs H2=>r x xs H2 Q
variable {o e:Expr}{es:List Expr}{to:TE}{t:TA}{name:Str}{apos Aq:Pos}{T id:String}{r:V->List V->Hp->VK->Prop}
theorem RM(pa:PlainAttrs T)(slot:Slot T name id)(lI:typeOf (.builtin id)=pure (.type "method_descriptor"))(hm:MtR X id r)(ho:PE X o to)(C9:attributeBase o name X.env (eval o X.env)=eval o X.env:=by rfl)(CV:(apos.endLine==Aq.line)=true:=by rfl):PE X (.Call (.Attribute o name apos) [] [] Aq) (l9 X.K T r to):=by intro AD s σ H Q I h;refine wpAny_Call_method0_late C9 CV (thn (ho AD s σ H _ I h) fun v s1 ⟨x,H1,I1,r1,ty,q1⟩=>?_);obtain⟨h1,h2⟩:=YI I1 r1 ty;exact⟨T,id,pa,slot,lI,h1,h2,Calls.callWith_builtin rfl (PySem.evalArgs_none (hm AD s1 σ H1 x [] v [] Q I1 r1 .nil q1))⟩
theorem bW(pa:PlainAttrs T)(slot:Slot T name id)(lI:typeOf (.builtin id)=pure (.type "method_descriptor"))(hm:MtR X id r)(ho:PE X o to)(ha:PA X (e::es) t)(C9:attributeBase o name X.env (eval o X.env)=eval o X.env:=by rfl)(SR:((backTo Aq (starEach (e::es) X.env)).all (fun x=>!x.1)&&(backToKw Aq (keywordEach [] X.env)).all (fun x=>x.1.isSome)
   && decide ((e::es).length+([]:List Keyword).length+(if ([]:List Keyword).isEmpty then 0 else 1)<30))=true:=by rfl)(CV:(apos.endLine==Aq.line)=true:=by rfl)(hs:starEach (e::es) X.env=(false,eval e X.env)::starEach es X.env:=by rfl)(fO:(backTo Aq (starEach es X.env)).any (·.1)=false:=by rfl) :
  PE X (.Call (.Attribute o name apos) (e::es) [] Aq) (tBM X.K T r to t):=by
 intro AD s σ H Q I h;refine wpAny_Call_method_late C9 SR CV rfl (thn (ho AD s σ H _ I h) fun v s1 ⟨x,H1,I1,r1,ty,q1⟩=>?_);obtain⟨h1,h2⟩:=YI I1 r1 ty;refine⟨T,id,pa,slot,lI,h1,h2,?_⟩;have hA:=ha Aq AD s1 σ H1 _ I1 q1;rw[hs]at hA ⊢;refine Calls.callWith_builtin (by show(false||(backTo Aq (starEach es X.env)).any (·.1))=false;rw[fO]<;>rfl) (Calls.evalArgs_plain ?_);exact thn hA fun us s2 ⟨vs,H2,I2,r2,q2⟩=>hm AD s2 σ H2 x vs v us Q I2 r1 r2 q2
end
def MtM(X:Cx)(id:String)(r:V->List V->Hp->VK->Prop):Prop:=∀(AD:List (Addr×Obj))(s:Shared)(σ:St)(H:Hp)(x:V)(xs:List V)(v:Value)(us:List Value)(Q:VK),Inv X AD σ H s->RelV x v->Vals xs us->r x xs H Q →
  wpAny (model X.prog X.w) X.A (call (.builtin id) (v::us)) (EP X AD σ Q) X.xe s
theorem Vals.one:∀{x:V}{us:List Value},Vals [x] us->∃u,us=[u]/\RelV x u
 |_,_,.cons r .nil=>⟨_,rfl,r⟩
theorem Vals.zero:∀{us:List Value},Vals [] us->us=[]
 |_,.nil=>rfl
theorem Vals.dropLast{xs:List V}{us:List Value}(h:Vals xs us):Vals xs.dropLast us.dropLast:=by
 induction h with
 |nil=>exact .nil
 |cons r t ih=>
  cases t with
  |nil=>exact .nil
  |cons q t'=>exact .cons r ih
theorem Vals.reverse{xs:List V}{us:List Value}(h:Vals xs us):Vals xs.reverse us.reverse:=by
 induction h with
 |nil=>exact .nil
 |cons r t ih=>rw[List.reverse_cons,List.reverse_cons];exact Vals.append ih (.cons r .nil)
theorem Ss{α:Type}(l:List α):l.eraseIdx (l.length-1)=l.dropLast:=by
 induction l with
 |nil=>rfl
 |cons a r ih=>
  cases r with
  |nil=>rfl
  |cons b r=>
   have e:(a::b::r).length-1=((b::r).length-1)+1:=by
    have h1:(a::b::r).length=r.length+2:=rfl;have h2:(b::r).length=r.length+1:=rfl;lia
   rw[e,List.eraseIdx_cons_succ,ih];all_goals rfl
section
variable {X:Cx}{AD:List (Addr×Obj)}{σ:St}{H:Hp}{s:Shared}{l b:Addr}{xs ys zs:List V}
theorem Inv.lset{AY its':List Value}{n:Nat}{f:Array Value->Array Value}{t':Nat}(I:Inv X AD σ H s)(hH:H l=some (.lst xs))(e:s.heap.get? l=some { cls:=.type "list",data:=.seq AY.toArray n })(hf:f AY.toArray=its'.toArray)(hv:Vals ys its')(hz:ys.length<=sizeLine) :
  Inv X AD σ (upd H l (.lst ys)) { s with heap:=s.heap.update l (Obj.mapSeq f),toks:=t' }:=by
 have q:=PySem.IsL.update e f;rw[hf]at q;refine I.write (x:=l) (e:=l) (by rw[hH];exact trivial) (.inl rfl) (fun b' u hb hu=>(Heap.get?_update_other s.heap (Obj.mapSeq f) (Ne.symm hb)).trans hu) ⟨_,q⟩ ?_;exact⟨hz,its',_,hv,q⟩
theorem Inv.lnew{AY:List Value}{t':Nat}(I:Inv X AD σ H s)(hv:Vals ys AY)(hz:ys.length<=sizeLine) :
  Inv X AD σ (upd H s.heap.objs.size (.lst ys)) { s with heap:=s.heap.push { cls:=.type "list",data:=.seq AY.toArray },toks:=t' }:=
 I.laid (fun _ _ q=>Heap.get?_push_of_some _ q) (Nat.le_refl _) ⟨hz,AY,0,hv,Heap.get?_push_size _ rfl⟩
theorem Inv.fresh(I:Inv X AD σ H s):H s.heap.objs.size=none:=I.hok.fresh (Nat.le_refl _)
theorem Inv.lstM(I:Inv X AD σ H s)(hH:H l=some (.lst xs)):xs.length<=sizeLine/\∃(AY:List Value)(n:Nat),Vals xs AY/\xs.length=AY.length/\s.heap.get? l=some { cls:=.type "list",data:=.seq AY.toArray n }:=by obtain⟨z,AY,n,r,e⟩:=I.hok l _ hH;exact⟨z,AY,n,r,r.length,e⟩
theorem Yo{n:Nat}(h:n<=sizeLine):Builtin.List.listTooLong n=false:=by unfold Builtin.List.listTooLong;exact decide_eq_false (by lia)
end
section
variable {X:Cx}
def ao:V->List V->Hp->VK->Prop:=fun x vs H Q=>∃l xs y,x=.ref l/\vs=[y]/\H l=some (.lst xs)/\xs.length<sizeLine/\Q .non (upd H l (.lst (xs++[y])))
theorem NI:MtM X "list.append" ao:=by intro AD s σ H x vs v us Q I rx rv h;obtain⟨l,xs,y,rfl,rfl,hH,hz,q⟩:=h;cases rx;obtain⟨u,rfl,ru⟩:=rv.one;obtain⟨z,AY,n,r,hl,e⟩:=I.lstM hH;refine call_meets F.slot_list_append ⟨_,e,rfl⟩ F.entry_list_append (F.args_list_append_2 _ _) (PySem.list_append l AY.toArray n u (by rw[List.size_toArray];lia)) ⟨e,?_⟩;refine⟨.non,_,I.lset (its':=AY++[u]) hH e (by simp) (r.append (.cons ru .nil)) ?_,rfl,q⟩;rw[List.length_append,List.length_singleton];lia
def lp:V->List V->Hp->VK->Prop:=fun x vs H Q=>∃l xs y,x=.ref l/\vs=[]/\H l=some (.lst xs)/\xs[xs.length-1]?=some y/\Q y (upd H l (.lst xs.dropLast))
theorem dP:MtM X "list.pop" lp:=by
 intro AD s σ H x vs v us Q I rx rv h;obtain⟨l,xs,y,rfl,rfl,hH,hy,q⟩:=h;cases rx;have bu:=rv.zero;subst bu;obtain⟨z,AY,n,r,hl,e⟩:=I.lstM hH;obtain⟨u,hu,ru⟩:=r.get hy;have dO:AY.toArray[AY.toArray.size-1]?=some u:=by
  show AY.toArray[AY.length-1]?=some u;rw[<-Array.getElem?_toList,<-hl];exact hu
 refine call_meets F.slot_list_pop ⟨_,e,rfl⟩ F.entry_list_pop (F.args_list_pop_1 _) (MeetsSeq.list_pop_last l AY.toArray n u dO (by rw[List.size_toArray];lia)) ⟨e,?_⟩;refine⟨y,_,I.lset (its':=AY.dropLast) hH e ?_ r.dropLast ?_,ru,q⟩
 ·show AY.toArray.eraseIdxIfInBounds (AY.toArray.size-1)=AY.dropLast.toArray;rw[List.size_toArray,List.eraseIdxIfInBounds_toArray,Ss]
 ·rw[List.length_dropLast];lia
def X2:V->List V->Hp->VK->Prop:=fun x vs H Q=>∃l xs,x=.ref l/\vs=[]/\H l=some (.lst xs)/\Q .non (upd H l (.lst xs.reverse))
theorem SJ:MtM X "list.reverse" X2:=by intro AD s σ H x vs v us Q I rx rv h;obtain⟨l,xs,rfl,rfl,hH,q⟩:=h;cases rx;have bu:=rv.zero;subst bu;obtain⟨z,AY,n,r,hl,e⟩:=I.lstM hH;refine call_meets F.slot_list_reverse ⟨_,e,rfl⟩ F.entry_list_reverse (F.args_list_reverse_1 _) (AutoSeq1.list_reverse_list_0 l AY.toArray n (by rw[List.size_toArray];lia)) ⟨e,?_⟩;refine⟨.non,_,I.lset (its':=AY.reverse) hH e (by simp) r.reverse ?_,rfl,q⟩;rw[List.length_reverse];lia
def eW:V->List V->Hp->VK->Prop:=fun x vs H Q=>∃l xs,x=.ref l/\vs=[]/\H l=some (.lst xs)/\Q .non (upd H l (.lst []))
theorem Xl:MtM X "list.clear" eW:=by intro AD s σ H x vs v us Q I rx rv h;obtain⟨l,xs,rfl,rfl,hH,q⟩:=h;cases rx;have bu:=rv.zero;subst bu;obtain⟨z,AY,n,r,hl,e⟩:=I.lstM hH;refine call_meets F.slot_list_clear ⟨_,e,rfl⟩ F.entry_list_clear (F.args_list_clear_1 _) (AutoSeq1.list_clear_list_0 l AY.toArray n (by rw[List.size_toArray];lia)) ⟨e,?_⟩;exact⟨.non,_,I.lset (its':=[]) (ys:=[]) hH e rfl .nil (Nat.zero_le _),rfl,q⟩
def mF:R2:=fun x y H Q=>∃l b xs zs,x=.ref l/\y=.ref b/\H l=some (.lst xs)/\H b=some (.lst zs)/\xs.length+zs.length<=sizeLine/\∀p,H p=none->Q (.ref p) (upd H p (.lst (xs++zs)))
theorem SO:OpR X (binaryOp .Add) mF:=by
 intro AD s σ H x y v u Q I rx ry h;obtain⟨l,b,xs,zs,rfl,rfl,hH,hB,hz,q⟩:=h;cases rx;cases ry;obtain⟨z,AY,n,r,hl,e⟩:=I.lstM hH;obtain⟨z2,Ju,n2,r2,RB,e2⟩:=I.lstM hB;refine PySem.P.add_list e e2 ?_ (by rw[List.size_toArray,List.size_toArray];lia);have ea:AY.toArray++Ju.toArray=(AY++Ju).toArray:=by simp
 rw[ea];exact⟨.ref _,_,I.lnew (t':=s.toks) (r.append r2) (by rw[List.length_append];lia),rfl,q _ I.fresh⟩
end
end L2
namespace Att
open PySem PySem.W PySem.Calls PyProof.Rows
theorem KZ{P:Params}{h:Heap}:∀(ns:List Int)(vs:List Value),WellAll P h vs (ns.map WData.int)->IntsAre vs ns:=by
 intro ns
 induction ns with
 |nil=>
  intro vs w;rw[List.map_nil]at w;cases w;exact .nil
 |cons n ns ih=>
  intro vs w;rw[List.map_cons]at w;cases w with
  |cons a b=>
   cases a;exact .cons _ _ (ih _ b)
theorem V8{l:OpenLaw}{n:Nat}(hn:l.most=some n){P:Params}{h:Heap}{args:List WData}{vals:List Value}(Jy:l.row.toRowW.claim.pre args=true)(j1:WellAll P h vals args) :
  ∃a vs ns,vals=[Value.ref a]/\args=[WData.list (ns.map WData.int)]/\h.get? a=some { cls:=.type "list",data:=.seq vs.toArray }/\IntsAre vs ns/\ns.length<=n:=by
 have gY:WShape.hasAll [] args [.list .int]=true:=(pre_splitW Jy).1;have hc:l.pre.holds [] { args:=args }=true:=(pre_splitW Jy).2;obtain⟨d,r,rfl,h1,h2⟩:=hasAllW_cons gY;obtain rfl:=hasAllW_nil h2;obtain⟨xs,rfl,h3⟩:=hasW_list h1;obtain⟨ns,rfl⟩:=items_int h3;have A2:ns.length<=n:=by
  unfold OpenLaw.pre at hc;have h4:(WTm.not (.lt (.lit (.int (n:Int))) (.len (.arg 0)))).holds [] { args:=[.list (ns.map .int)] }=true:=by
   have h4:=(holds_andW hc).1;rw[hn]at h4;exact h4
  have h5:=condW_of h4 (w_not (w_lt w_lit (w_len_list (w_arg rfl))));rw[List.length_map]at h5;refine Nat.le_of_not_lt fun q=>?_;have q':(n:Int)<((ns.length:Nat):Int):=by lia
  first
   |(rw[decide_eq_true q']at h5;exact absurd h5 (by decide))
   |(simp at h5;lia)
 cases j1 with
 |cons w1 w2=>
  cases w2;cases w1 with
  |list ho X6=>exact⟨_,_,ns,rfl,rfl,ho,KZ ns _ X6,A2⟩
theorem Uy(l:OpenLaw)(args:List WData):l.row.toRowW.claim.post args (.bool true) args=true:=postW_of (r:=l.row.toRowW) (X:=(true==true))
  (show WShape.has [] (.bool true) .bool=true by first|rfl|decide|simp[WShape.has,WShape.arms,WShape.armsAll])
  (show(WTm.eq .res (.lit (.bool true))).value [] { args:=args,res:=some (.bool true),after:=args }=some (.bool (true==true))from w_eq_bool (w_res rfl) w_lit) rfl
theorem attach_call{l:OpenLaw}{n:Nat}{q:Program}{loose:List Str}{XP:(Str->Option Value)->Heap->Prop}{YP:World->Heap->Prop}{d:DefRec}(hn:l.most=some n)(iC:d.params.defaults=[])(call:∀(w:World)(s₀ s₁:Shared)(mg mb:Str->Option Value)(fa:Addr)(o:Obj)(pm cd doc:Value)(a:Addr)(vs:List Value)(ns:List Int),
   Ground q loose [] XP w s₀ mg mb s₁.heap->YP w s₁.heap →
   s₁.heap.get? fa=some o->o.data=.func (docDef d.name d.params d.body d.scope pm cd doc)->s₁.heap.CodeRec cd d.name->mg d.name=some (.ref fa) →
   s₁.heap.get? a=some { cls:=.type "list",data:=.seq vs.toArray }->IntsAre vs ns->ns.length<=n->s₁.gens=#[] →
   codeAny (model l.prog w) callerA (.call (.ref fa) ⟨[.ref a],[]⟩) (fun r s'=>r=.ok (.ret (.bool true))/\OldK s₁.heap s'.heap/\s'.os=s₁.os/\AllBare s'.gens) s₁) :
  WalkO q loose XP YP l.row.toRowW d [] (fun f vs=>PySem.call f vs):=by
 intro w s₀ s₁ mg mb G Y fa o pm cd doc dV kV ho hd WR hD Ry hg args vals as Jy sO tG j1 qA;obtain rfl:dV=.none:=Dflts.none hD iC;obtain rfl:kV=.none:=Dflts.noKw hD;obtain⟨a,vs,ns,rfl,rfl,ck,hints,A2⟩:=V8 hn Jy j1;refine enter_call (codeAny_mono (call w s₀ s₁ mg mb fa o pm cd doc a vs ns G Y ho (fd_plain hd) WR Ry ck hints A2 hg) fun r s' hq=>?_);obtain⟨rfl,h2,h3,h4⟩:=hq;exact⟨.inl ⟨.bool true,.bool true,[],rfl,fun _=>rfl,.bool true,Uy l _,fun _=>⟨List.Pairwise.nil,fun _ hm=>(nomatch hm)⟩⟩,h2,h3,h4⟩
end Att
namespace L2
open PySem PySem.Spec PyProof.Rows
theorem NH:∀{vs:List Value}{ns:List Int},IntsAre vs ns->Vals (ns.map V.int) vs
 |_,_,.nil=>.nil
 |_,_,.cons n t h=>.cons ⟨t,rfl⟩ (NH h)
def cz(H:Hp):Prop:=∀b,H b=none\/∃o xs,H b=some (.frz o (.lst xs))
theorem Xj{P:Program}{w:World}{K:PySem.W.Frag}{mg mb:Str->Option Value}{CX:CXT}{k:Nat}{fa a:Addr}{fd:FuncData}{x:Str}{sp:Sp}{s₁:Shared}{vs:List Value}{ns:List Int}(KX:K.In s₁.heap)(RG:s₁.heap.Ns mainGlobals mg)(hb:s₁.heap.Ns builtinsNs mb)(rR:∀x:Str,x≠"__name__"->mb x=bootBuiltins x)(jq:s₁.heap.NoLimit)(hg:s₁.gens=#[])(ha:s₁.heap.get? a=some { cls:=.type "list",data:=.seq vs.toArray })(hi:IntsAre vs ns)(hl:ns.length<=sizeLine)(hr:Room k callerA)(F:∀base:Heap,K.In base->base.Ns mainGlobals mg->FnOk P w K mg base CX k fa fd [x] sp)(iw:∀(s:Shared)(u:Value),BindsTo s fd ⟨[u],[]⟩ [(x,u)])(cA:∀H:Hp,cz H->SqL K H a (ns.map V.int)->sp [.ref a] H (fun v _=>v=.bl true) fun _ _ _=>False)(ko:∀H e s',CX [] H s₁ (fun _ _ _=>False) e s'->False) :
  codeAny (model P w) callerA (.call (.ref fa) ⟨[.ref a],[]⟩) (fun r s'=>r=.ok (.ret (.bool true))/\OldK s₁.heap s'.heap/\s'.os=s₁.os/\AllBare s'.gens) s₁:=by
 have rv:=NH hi;have kq:=hi.length;have core:∀H:Hp,cz H->SqL K H a (ns.map V.int)->HOk P w H s₁.heap->(∀b,H b≠none->b=a)->(H a≠none->K.lookup a=none) →
   codeAny (model P w) callerA (.call (.ref fa) ⟨[.ref a],[]⟩) (fun r s'=>r=.ok (.ret (.bool true))/\OldK s₁.heap s'.heap/\s'.os=s₁.os/\AllBare s'.gens) s₁:=by
  intro H hO hS hok hA hK;have UX:∀{b:Addr}{o:Obj},s₁.heap.get? b=some o->H b=none->(OA s₁.heap H).get? b=some o:=fun e n=>YQ e n;have ip:∀{b:Addr}{o:Obj}{es:Array DictEntry}{ep:Nat},s₁.heap.get? b=some o->o.data=.dict es ep->H b=none:=fun {b o es ep} e d=>by
   cases q:H b with
   |none=>rfl
   |some u=>
    have e':b=a:=hA b (by rw[q];simp);subst e';rw[ha]at e;cases e;have d':Data.seq vs.toArray _=Data.dict es ep:=d;cases d'
  have jb:∀{b:Addr}{m:Str->Option Value},s₁.heap.Ns b m->(OA s₁.heap H).Ns b m:=fun {b m} ⟨o,es,ep,e,d,r⟩=>⟨o,es,ep,UX e (ip e d),d,r⟩;have oG:K.In (OA s₁.heap H):=fun b o e=>UX (KX b o e) (by
   cases q:H b with
   |none=>rfl
   |some u=>
    have e':b=a:=hA b (by rw[q];simp);subst e';rw[hK (by rw[q];simp)]at e;cases e)
  have hM:Mod K mg (OA s₁.heap H):=⟨oG,jb RG,⟨mb,jb hb,rR⟩,let ⟨mc,h1,h2⟩:=jq;⟨mc,jb h1,h2⟩⟩;have e0:Env0 P w K mg (OA s₁.heap H) callerA [] s₁ H:=⟨rfl,hM,fun b o e=>bG e,Nat.le_of_eq (Vb _ _),trivial,fun b hb=>absurd (show b∈([]:List Addr)from hb) (by simp),hok,.of_eq hg⟩;refine codeAny_mono ((F _ oG (jb RG)).run callerA [] s₁ H ⟨[.ref a],[]⟩ [.ref a] [.ref a] _ _ hr e0 (iw s₁ (.ref a)) (.cons rfl .nil) (cA H hO hS)) fun r s' h=>?_;cases r with
  |error e=>exact(ko H e s' h).elim
  |ok fl=>
   cases fl with
   |next=>exact False.elim h
   |brk=>exact False.elim h
   |cont=>exact False.elim h
   |ret u=>
    obtain⟨v,H',os,bare,un,aU,r',q⟩:=h;have q':v=.bl true:=q;subst q';obtain rfl:u=Value.bool true:=r';refine⟨rfl,OldK.of_keep fun b o e=>?_,os,bare⟩;cases q:H b with
    |none=>exact un.keep b o e q (by intro z;exact absurd (show b∈([]:List Addr)from z) (by simp)) (by simp)
    |some u=>
     rcases hO b with z|⟨ob,xs,z⟩
     ·rw[q]at z;cases z
     ·have z2:=un.frzs b ob _ z;obtain⟨e1,_⟩:=hok b _ z;obtain⟨e2,_⟩:=aU b _ z2;rw[e]at e1;cases e1;exact e2
 cases hk:K.lookup a with
 |some o=>
  have e:=KX a o hk;rw[ha]at e;cases e;refine core (fun _=>none) (fun _=>.inl rfl) (.inr ⟨_,vs.toArray,_,hk,rfl,rfl,rfl,by rw[List.size_toArray,kq];exact hl,by simpa using rv⟩) (fun b u z=>by have z':(none:Option HO)=some u:=z;cases z') (fun b z=>absurd rfl z) fun z=>absurd rfl z
 |none=>
  refine core (fun b=>if b=a then some (.frz { cls:=.type "list",data:=.seq vs.toArray } (.lst (ns.map V.int)))else none) (fun b=>?_) (.inl (.inr ⟨{ cls:=.type "list",data:=.seq vs.toArray },if_pos rfl⟩)) (fun b u z=>?_) (fun b z=>?_) fun _=>hk
  ·by_cases hb:b=a
   ·exact .inr ⟨_,_,if_pos hb⟩
   ·exact .inl (if_neg hb)
  ·by_cases hb:b=a
   ·have z':=(if_pos hb).symm.trans z;cases z';subst hb;exact⟨ha,by rw[List.length_map];exact hl,vs,_,rv,ha⟩
   ·have z':=(if_neg hb).symm.trans z;cases z'
  ·by_cases hb:b=a
   ·exact hb
   ·exact absurd (if_neg hb) z
theorem walk_of{l:PySem.W.OpenLaw}{n k:Nat}{q:Program}{loose:List Str}{XP:(Str->Option Value)->Heap->Prop}{YP:World->Heap->Prop}{d:DefRec}{K:Params->PySem.W.Frag}{CX:World->CXT}{sp:World->Sp}{x:Str}(hn:l.most=some n)(fA:n<=sizeLine)(iC:d.params.defaults=[])(hr:Room k callerA)(hY:∀(w:World)(h:Heap),YP w h->(K w.params).In h)(F:∀(w:World)(mg:Str->Option Value)(fa:Addr)(h:Heap),(K w.params).In h->h.Ns mainGlobals mg->mg d.name=some (.ref fa) →
   ∃fd:FuncData,(∀(s:Shared)(u:Value),BindsTo s fd ⟨[u],[]⟩ [(x,u)]) ∧
    ∀base:Heap,(K w.params).In base->base.Ns mainGlobals mg->FnOk l.prog w (K w.params) mg base (CX w) k fa fd [x] (sp w))(cA:∀(w:World)(H:Hp)(a:Addr)(ns:List Int),ns.length<=n->cz H->SqL (K w.params) H a (ns.map V.int)->sp w [.ref a] H (fun v _=>v=.bl true) fun _ _ _=>False)(ko:∀(w:World)(H:Hp)(s:Shared)(e:Value)(s':Shared),CX w [] H s (fun _ _ _=>False) e s'->False) :
  PySem.W.WalkO q loose XP YP l.row.toRowW d [] (fun f vs=>PySem.call f vs):=by
 refine Att.attach_call hn iC fun w s₀ s₁ mg mb fa o pm cd doc a vs ns G Y ho hd WR Ry ck hints A2 hg=>?_;have KX:=hY w _ Y;obtain⟨fd,hb,hF⟩:=F w mg fa _ KX G.T.g Ry;exact Xj KX G.T.g G.T.b G.T.builtins G.T.nolimit hg ck hints (Nat.le_trans A2 fA) hr hF hb (fun H hO hS=>cA w H a ns A2 hO hS) fun H e s'=>ko w H s₁ e s'
abbrev CX0:CXT:=fun _ _ _ _ _ _=>False
abbrev E0:XK:=fun _ _ _=>False
theorem Y8{X:Cx}:R4 CX0 X E0:=fun _ _ _ _ _ _ _ h=>h.elim
structure Fun (K:PySem.W.Frag) (x qual:Str) (st:Stmt) (f:Addr) (fd:FuncData):Prop where
 ex:∃(oc:Value)(od:Option Addr)(kV doc pm:Value)(an:Option Addr)(A1 ct:Value)(W6:Array (Option Value)),
  fd=PySem.W.fnOf x qual (DR st) (CJ st) (AF st) .none kV doc pm an A1 ct/\K.lookup f=some ⟨oc,od,.func fd,W6⟩/\PySem.W.codeIn K A1 qual=true
 kp:PySem.W.keepIn K (.ref f)=true
section
variable {P:Program}{w:World}{K:PySem.W.Frag}{mg:Str->Option Value}{base:Heap}
theorem Fun.ok{x qual:Str}{st:Stmt}{f:Addr}{fd:FuncData}{N ps:List Str}{k:Nat}{sp:Sp}(F:Fun K x qual st f fd)(S:FnScope N ps (AF st))(len:∀vs H Q E,sp vs H Q E->vs.length=ps.length)(YW:∀(A1:Value)(A:Around)(outer:List Env)(s:Shared)(H:Hp)(vs:List V)(Q:VK)(E:XK),Room k (A.deeper (envOfC qual (AF st) s.heap.objs.size f A1))->sp vs H Q E →
   ∃t,PSs (Pn CX0 P w K mg base N qual (AF st) f A1 A outer s H E).nox (CJ st) t/\t { nx:=fun _ H'=>Q .non H',rt:=Q } (start N vs) H):FnOk P w K mg base CX0 (k+1) f fd ps sp:=by
 obtain⟨oc,od,kV,doc,pm,an,A1,ct,W6,rfl,lk,WR⟩:=F.ex;refine iu lk WR S len fun A outer s H vs Q E hr cA=>?_;obtain⟨t,h,q⟩:=YW A1 A outer s H vs Q E hr cA;exact⟨t,h.nox,q⟩
theorem Fun.binds{x qual:Str}{st:Stmt}{f:Addr}{fd:FuncData}{ps:List Str}(F:Fun K x qual st f fd)(h:∀(kV doc pm:Value)(an:Option Addr)(A1 ct:Value)(us:List Value),us.length=ps.length->bindArgs (PySem.W.fnOf x qual (DR st) (CJ st) (AF st) .none kV doc pm an A1 ct) ⟨us,[]⟩=pure (ps.zip us)):Binds K fd ps []:=by obtain⟨oc,od,kV,doc,pm,an,A1,ct,W6,rfl,lk,WR⟩:=F.ex;exact .all (h kV doc pm an A1 ct)
theorem dQ{x qual:Str}{st:Stmt}{f:Addr}{oc:Value}{od an:Option Addr}{W6:Array (Option Value)}{kV doc pm A1 ct:Value}(l:K.lookup f=some ⟨oc,od,.func (PySem.W.fnOf x qual (DR st) (CJ st) (AF st) .none kV doc pm an A1 ct),W6⟩)(c:PySem.W.codeIn K A1 qual=true)(k:PySem.W.keepIn K (.ref f)=true):Fun K x qual st f (PySem.W.fnOf x qual (DR st) (CJ st) (AF st) .none kV doc pm an A1 ct):=⟨⟨oc,od,kV,doc,pm,an,A1,ct,W6,rfl,l,c⟩,k⟩
end
theorem Jl{n:Nat}(h:n<=1000):n<sizeLine:=Nat.lt_of_le_of_lt h (by decide)
def Same(H H':Hp):Prop:=∀b o,H b=some o->H' b=some o
theorem Same.seq{K:PySem.W.Frag}{H H':Hp}{a:Addr}{xs:List V}(e:Same H H')(h:SqL K H a xs):SqL K H' a xs:=by
 rcases h with(h|⟨o,h⟩)|h
 ·exact .inl (.inl (e _ _ h))
 ·exact .inl (.inr ⟨o,e _ _ h⟩)
 ·exact .inr h
end L2
namespace TF
open PySem PySem.Spec L2
open PyProof.Rows hiding St RelV
inductive Dat where
 |non|bl (b:Bool)|int (i:Int)|str (x:Str)|fn (a:Addr)|scr (ns:List Int)|tup (l:List Dat)|lst (l:List Dat)
mutual
def Rep(K:PySem.W.Frag)(H:Hp):Dat->V->Prop
 |.non,v=>v=.non
 |.bl b,v=>v=.bl b
 |.int i,v=>v=.int i
 |.str x,v=>v=.str x
 |.fn a,v=>v=.ref a
 |.scr ns,v=>∃a,v=.ref a/\SqL K H a (ns.map V.int)
 |.tup l,v=>∃a vs,v=.ref a/\SqT K H a vs/\RepL K H l vs
 |.lst l,v=>∃a vs,v=.ref a/\H a=some (.lst vs)/\RepL K H l vs
def RepL(K:PySem.W.Frag)(H:Hp):List Dat->List V->Prop
 |[],vs=>vs=[]
 |d::ds,vs=>∃v r,vs=v::r/\Rep K H d v/\RepL K H ds r
end
theorem Av{K:PySem.W.Frag}{H H':Hp}{a:Addr}{xs:List V}(e:Same H H')(h:SqT K H a xs):SqT K H' a xs:=by
 rcases h with(h|⟨o,h⟩)|h
 ·exact .inl (.inl (e _ _ h))
 ·exact .inl (.inr ⟨o,e _ _ h⟩)
 ·exact .inr h
mutual
theorem Rep.same{K:PySem.W.Frag}{H H':Hp}(e:Same H H'):∀{d:Dat}{v:V},Rep K H d v->Rep K H' d v
 |.non,_,h=>by simpa[Rep]using h
 |.bl _,_,h=>by simpa[Rep]using h
 |.int _,_,h=>by simpa[Rep]using h
 |.str _,_,h=>by simpa[Rep]using h
 |.fn _,_,h=>by simpa[Rep]using h
 |.scr _,_,h=>by
  obtain⟨a,h1,h2⟩:=(by simpa[Rep]using h:∃a,_=V.ref a/\SqL K H a _);rw[Rep];exact⟨a,h1,e.seq h2⟩
 |.tup _,_,h=>by
  rw[Rep]at h ⊢;obtain⟨a,vs,h1,h2,h3⟩:=h;exact⟨a,vs,h1,Av e h2,RepL.same e h3⟩
 |.lst _,_,h=>by
  rw[Rep]at h ⊢;obtain⟨a,vs,h1,h2,h3⟩:=h;exact⟨a,vs,h1,e _ _ h2,RepL.same e h3⟩
theorem RepL.same{K:PySem.W.Frag}{H H':Hp}(e:Same H H'):∀{ds:List Dat}{vs:List V},RepL K H ds vs->RepL K H' ds vs
 |[],_,h=>by rw[RepL]at h ⊢;exact h
 |_::_,_,h=>by
  rw[RepL]at h ⊢;obtain⟨v,r,h1,h2,h3⟩:=h;exact⟨v,r,h1,Rep.same e h2,RepL.same e h3⟩
end
theorem RepL.length{K:PySem.W.Frag}{H:Hp}:∀{ds:List Dat}{vs:List V},RepL K H ds vs->vs.length=ds.length
 |[],_,h=>by rw[RepL]at h;subst h;rfl
 |_::_,_,h=>by
  rw[RepL]at h;obtain⟨v,r,rfl,_,h3⟩:=h;rw[List.length_cons,List.length_cons,RepL.length h3]
theorem RepL.get{K:PySem.W.Frag}{H:Hp}:∀{ds:List Dat}{vs:List V}{i:Nat}{d:Dat},RepL K H ds vs->ds[i]?=some d->∃v,vs[i]?=some v/\Rep K H d v
 |[],_,_,_,_,e=>by simp at e
 |_::_,_,0,_,h,e=>by
  rw[RepL]at h;obtain⟨v,r,rfl,h2,_⟩:=h;simp at e;subst e;exact⟨v,rfl,h2⟩
 |_::_,_,i+1,d,h,e=>by
  rw[RepL]at h;obtain⟨v,r,rfl,_,h3⟩:=h;obtain⟨u,h4,h5⟩:=RepL.get (i:=i) (d:=d) h3 (by simpa using e);exact⟨u,by simpa using h4,h5⟩
theorem RepL.nil{K:PySem.W.Frag}{H:Hp}:RepL K H [] []:=by rw[RepL]
theorem RepL.cons{K:PySem.W.Frag}{H:Hp}{d:Dat}{ds:List Dat}{v:V}{vs:List V}(h:Rep K H d v)(t:RepL K H ds vs):RepL K H (d::ds) (v::vs):=by rw[RepL];exact⟨v,vs,rfl,h,t⟩
theorem RepL.append{K:PySem.W.Frag}{H:Hp}:∀{ds es:List Dat}{vs us:List V},RepL K H ds vs->RepL K H es us->RepL K H (ds++es) (vs++us)
 |[],_,_,_,h,t=>by rw[RepL]at h;subst h;exact t
 |_::_,_,_,_,h,t=>by
  rw[RepL]at h;obtain⟨v,r,rfl,h2,h3⟩:=h;exact RepL.cons h2 (RepL.append h3 t)
theorem RepL.drop{K:PySem.W.Frag}{H:Hp}:∀(n:Nat){ds:List Dat}{vs:List V},RepL K H ds vs->RepL K H (ds.drop n) (vs.drop n)
 |0,_,_,h=>h
 |_+1,[],_,h=>by rw[RepL]at h;subst h;simpa using RepL.nil
 |n+1,_::_,_,h=>by
  rw[RepL]at h;obtain⟨v,r,rfl,_,h3⟩:=h;exact RepL.drop n h3
theorem RepL.take{K:PySem.W.Frag}{H:Hp}:∀(n:Nat){ds:List Dat}{vs:List V},RepL K H ds vs->RepL K H (ds.take n) (vs.take n)
 |0,_,_,_=>by simpa using RepL.nil
 |_+1,[],_,h=>by rw[RepL]at h;subst h;simpa using RepL.nil
 |n+1,_::_,_,h=>by
  rw[RepL]at h;obtain⟨v,r,rfl,h2,h3⟩:=h;exact RepL.cons h2 (RepL.take n h3)
theorem RepL.ints{K:PySem.W.Frag}{H:Hp}:∀{ns:List Int}{vs:List V},RepL K H (ns.map Dat.int) vs->vs=ns.map V.int
 |[],_,h=>by rw[List.map_nil,RepL]at h;subst h;rfl
 |_::_,_,h=>by
  rw[List.map_cons,RepL]at h;obtain⟨v,r,rfl,h2,h3⟩:=h;rw[Rep]at h2;subst h2;rw[RepL.ints h3];rfl
inductive OD where
 |lst (l:List Dat)
 |dct (AR:List (Dat×Dat))
abbrev Gs:=Addr->Option OD
def g0:Gs:=fun _=>none
def put(G:Gs)(a:Addr)(o:OD):Gs:=fun b=>if b=a then some o else G b
def rel(G:Gs)(a:Addr):Gs:=fun b=>if b=a then none else G b
theorem AG{G:Gs}{a:Addr}{o:OD}:put G a o a=some o:=by simp[put]
theorem AL{G:Gs}{a b:Addr}{o:OD}(h:b≠a):put G a o b=G b:=by simp[put,h]
theorem CS{G:Gs}{a:Addr}:rel G a a=none:=by simp[rel]
theorem Cy{G:Gs}{a b:Addr}(h:b≠a):rel G a b=G b:=by simp[rel,h]
theorem Ah{G:Gs}{a:Addr}{o:OD}(h:G a=none):rel (put G a o) a=G:=by
 funext b;by_cases e:b=a
 ·subst e;rw[CS,h]
 ·rw[Cy e,AL e]
theorem Ab{G:Gs}{a:Addr}{o u:OD}:put (put G a o) a u=put G a u:=by
 funext b;by_cases e:b=a
 ·subst e;rw[AG,AG]
 ·rw[AL e,AL e,AL e]
theorem Cd{G:Gs}{a b:Addr}{o u:OD}(h:a≠b):put (put G a o) b u=put (put G b u) a o:=by
 funext c;by_cases e:c=a
 ·subst e;rw[AL h,AG,AG]
 ·by_cases f:c=b
  ·subst f;rw[AG,AL e,AG]
  ·rw[AL f,AL e,AL e,AL f]
theorem Dv{G:Gs}{a:Addr}{o:OD}(h:G a=some o):put G a o=G:=by
 funext b;by_cases e:b=a
 ·subst e;rw[AG,h]
 ·rw[AL e]
def hid(H:Hp)(G:Gs):Hp:=fun b=>if (G b).isSome then none else H b
theorem JI{H:Hp}{G:Gs}{b:Addr}{o:HO}(h:hid H G b=some o):G b=none/\H b=some o:=by
 unfold hid at h;cases e:G b with
 |none=>rw[e]at h;exact⟨rfl,by simpa using h⟩
 |some u=>rw[e]at h;simp at h
theorem Fn{H:Hp}{G:Gs}{b:Addr}{o:HO}(h1:G b=none)(h2:H b=some o):hid H G b=some o:=by unfold hid;rw[h1];simpa using h2
theorem AK{H:Hp}{G:Gs}:Same (hid H G) H:=fun _ _ h=>(JI h).2
structure Ext (H:Hp) (G:Gs) (H':Hp) (G':Gs):Prop where
 keep:∀b o,H b=some o->G b=none->H' b=some o
 new:∀b,G' b≠none->G b≠none\/H b=none
theorem Ext.refl{H:Hp}{G:Gs}:Ext H G H G:=⟨fun _ _ h _=>h,fun _ h=>.inl h⟩
theorem Ext.hid{H H':Hp}{G G':Gs}(e:Ext H G H' G'):Same (hid H G) (hid H' G'):=fun b o h=>by
 obtain⟨h1,h2⟩:=JI h;refine Fn ?_ (e.keep b o h2 h1);cases q:G' b with
 |none=>rfl
 |some u=>
  rcases e.new b (by rw[q];exact nofun)with z|z
  ·exact absurd h1 z
  ·rw[h2]at z;cases z
theorem Ext.trans{H H1 H2:Hp}{G G1 G2:Gs}(a:Ext H G H1 G1)(b:Ext H1 G1 H2 G2):Ext H G H2 G2:=by
 refine⟨fun c o h h'=>?_,fun c h=>?_⟩
 ·have h1:=a.keep c o h h';refine b.keep c o h1 ?_;cases q:G1 c with
  |none=>rfl
  |some u=>
   rcases a.new c (by rw[q];exact nofun)with z|z
   ·exact absurd h' z
   ·rw[h]at z;cases z
 ·rcases b.new c h with z|z
  ·exact a.new c z
  ·cases q:G c with
   |some u=>exact .inl nofun
   |none=>
    right;cases r:H c with
    |none=>rfl
    |some o=>rw[a.keep c o r q]at z;cases z
theorem Ext.alloc{H:Hp}{G:Gs}{p:Addr}{o:HO}(h:H p=none):Ext H G (upd H p o) G:=⟨fun b u e _=>by rw[Al (A9 e h)];exact e,fun _ h=>.inl h⟩
def B1:Nat->Dat->Bool
 |_,.int _=>true
 |n+1,.tup l=>l.all (B1 n)
 |_,_=>false
mutual
def KL:Dat->Int
 |.int i=>hashInt i
 |.tup l=>reduceHash (Builtin.Tuple.tupleHashOf (EC l))
 |_=>0
def EC:List Dat->List Int
 |[]=>[]
 |d::r=>KL d::EC r
end
def iI(x:Dat×Addr×Value):DictEntry:=⟨KL x.1,.ref x.2.1,x.2.2⟩
def ON(a:Addr)(xs:List (Dat×Addr×Value))(h:Heap):Prop:=(a==sysModules)=false/\xs.length<=sizeLine/\(xs.map (·.1)).Nodup/\∃o es ep,h.get? a=some o/\o.ExactDict/\o.data=.dict es ep/\es.toList=xs.map iI
def E7(a:Addr)(xs:List (Dat×Addr×Value)):HO:=.ext (ON a xs)
def DRep(K:PySem.W.Frag)(H:Hp):List (Dat×Dat)->List (Dat×Addr×Value)->Prop
 |[],xs=>xs=[]
 |(k,d)::r,xs=>∃a u Mc,xs=(k,a,u)::Mc/\B1 6 k=true/\Rep K H k (.ref a)/\(∃v,RelV v u/\Rep K H d v)/\DRep K H r Mc
theorem DRep.same{K:PySem.W.Frag}{H H':Hp}(e:Same H H'):∀{AR:List (Dat×Dat)}{xs:List (Dat×Addr×Value)},DRep K H AR xs->DRep K H' AR xs
 |[],_,h=>h
 |_::_,_,⟨a,u,Mc,h1,h2,h3,⟨v,h4,h5⟩,h6⟩=>⟨a,u,Mc,h1,h2,h3.same e,⟨v,h4,h5.same e⟩,DRep.same e h6⟩
section
variable (K:PySem.W.Frag)
def OwnOk(H:Hp)(G:Gs)(a:Addr):OD->Prop
 |.lst l=>∃vs,H a=some (.lst vs)/\RepL K (hid H G) l vs
 |.dct AR=>∃xs,H a=some (E7 a xs)/\DRep K (hid H G) AR xs
def GOk(H:Hp)(G:Gs):Prop:=∀a o,G a=some o->OwnOk K H G a o
end
section
variable {K:PySem.W.Frag}{H H':Hp}{G G':Gs}{a p:Addr}
theorem OwnOk.there{o:OD}(h:OwnOk K H G a o):∃u,H a=some u:=by
 cases o with
 |lst l=>obtain⟨vs,h,_⟩:=h;exact⟨_,h⟩
 |dct AR=>obtain⟨xs,h,_⟩:=h;exact⟨_,h⟩
theorem OwnOk.ext{o:OD}(h:OwnOk K H G a o)(e:Same (hid H G) (hid H' G'))(q:H' a=H a):OwnOk K H' G' a o:=by
 cases o with
 |lst l=>
  obtain⟨vs,h1,h2⟩:=h;exact⟨vs,q.trans h1,h2.same e⟩
 |dct AR=>
  obtain⟨xs,h1,h2⟩:=h;exact⟨xs,q.trans h1,h2.same e⟩
theorem GOk.free(h:GOk K H G)(hp:H p=none):G p=none:=by
 cases q:G p with
 |none=>rfl
 |some o=>obtain⟨u,e⟩:=(h p o q).there;rw[hp]at e;cases e
theorem GOk.alloc{o:HO}(h:GOk K H G)(hp:H p=none):GOk K (upd H p o) G:=fun b u q=>
 (h b u q).ext (Ext.alloc hp).hid (Al (by rintro rfl;rw[h.free hp]at q;cases q))
theorem jH:GOk K H g0:=fun _ _ h=>nomatch h
theorem fS:hid H g0=H:=by funext b;simp[hid,g0]
end
abbrev Rho:=List (Option Dat)
structure Stt (X:Cx) (H:Hp) (σ:St) (ρ:Rho) (G:Gs):Prop where
 env:∀(i:Nat) d,ρ[i]?=some (some d)->∃v,σ[i]?=some (some v)/\Rep X.K (hid H G) d v
 len:ρ.length=σ.length
 own:GOk X.K H G
theorem Stt.ext{X:Cx}{H H':Hp}{σ:St}{ρ:Rho}{G G':Gs}(S:Stt X H σ ρ G)(e:Ext H G H' G')(o:GOk X.K H' G'):Stt X H' σ ρ G':=⟨fun i d h=>let ⟨v,h1,h2⟩:=S.env i d h;⟨v,h1,h2.same e.hid⟩,S.len,o⟩
theorem Stt.set{X:Cx}{H:Hp}{σ:St}{ρ:Rho}{G:Gs}{i:Nat}{d:Dat}{v:V}(S:Stt X H σ ρ G)(r:Rep X.K (hid H G) d v):Stt X H (σ.set i (some v)) (ρ.set i (some d)) G:=by
 refine⟨fun j e h=>?_,by rw[List.length_set,List.length_set,S.len],S.own⟩;by_cases hj:i=j
 ·subst hj;have hl:i<ρ.length:=by
   have:=(List.getElem?_eq_some_iff.mp h).1
   rwa [List.length_set]at this
  rw[List.getElem?_set_self hl]at h;cases h;exact⟨v,by rw[List.getElem?_set_self (by rw[<-S.len];exact hl)],r⟩
 ·rw[List.getElem?_set_ne hj]at h;rw[List.getElem?_set_ne hj];exact S.env j e h
section
variable (X:Cx)
def Po(H:Hp)(G:Gs)(Q:Dat->Gs->Prop):VK:=fun v H'=>∃d G',Ext H G H' G'/\GOk X.K H' G'/\Rep X.K (hid H' G') d v/\Q d G'
def PoT(H:Hp)(G:Gs)(Q:Bool->Gs->Prop):Bool->Hp->Prop:=fun b H'=>∃G',Ext H G H' G'/\GOk X.K H' G'/\Q b G'
def PoA(H:Hp)(G:Gs)(Q:List Dat->Gs->Prop):List V->Hp->Prop:=fun vs H'=>∃ds G',Ext H G H' G'/\GOk X.K H' G'/\RepL X.K (hid H' G') ds vs/\Q ds G'
def WE(ρ:Rho)(G:Gs)(e:Expr)(Q:Dat->Gs->Prop):Prop:=∀(AD:List (Addr×Obj))(s:Shared)(σ:St)(H:Hp),Inv X AD σ H s->Stt X H σ ρ G->wpAny (model X.prog X.w) X.A (eval e X.env) (EP X AD σ (Po X H G Q)) X.xe s
def WT(ρ:Rho)(G:Gs)(e:Expr)(Q:Bool->Gs->Prop):Prop:=∀(AD:List (Addr×Obj))(s:Shared)(σ:St)(H:Hp),Inv X AD σ H s->Stt X H σ ρ G->wpAny (model X.prog X.w) X.A (isTrue e X.env (eval e X.env)) (TP X AD σ (PoT X H G Q)) X.xe s
def WA(ρ:Rho)(G:Gs)(es:List Expr)(Q:List Dat->Gs->Prop):Prop:=∀(pos:Pos)(AD:List (Addr×Obj))(s:Shared)(σ:St)(H:Hp),Inv X AD σ H s->Stt X H σ ρ G->wpAny (model X.prog X.w) X.A (spliced (backTo pos (starEach es X.env))) (AP X AD σ (PoA X H G Q)) X.xe s
def PX(ρ:Rho)(G:Gs)(e:Expr)(d:Dat):Prop:=WE X ρ G e fun d' G'=>d'=d/\G'=G
def PXT(ρ:Rho)(G:Gs)(e:Expr)(b:Bool):Prop:=WT X ρ G e fun b' G'=>b'=b/\G'=G
def PXs(ρ:Rho)(G:Gs)(es:List Expr)(ds:List Dat):Prop:=WA X ρ G es fun d' G'=>d'=ds/\G'=G
end
theorem EP.mono{X:Cx}{AD:List (Addr×Obj)}{σ:St}{Q Q':VK}{u:Value}{s:Shared}(h:EP X AD σ Q u s)(k:∀v H,Q v H->Q' v H):EP X AD σ Q' u s:=let ⟨v,H,I,r,q⟩:=h;⟨v,H,I,r,k v H q⟩
theorem TP.mono{X:Cx}{AD:List (Addr×Obj)}{σ:St}{Q Q':Bool->Hp->Prop}{u:Bool}{s:Shared}(h:TP X AD σ Q u s)(k:∀v H,Q v H->Q' v H):TP X AD σ Q' u s:=let ⟨H,I,q⟩:=h;⟨H,I,k _ H q⟩
theorem AP.mono{X:Cx}{AD:List (Addr×Obj)}{σ:St}{Q Q':List V->Hp->Prop}{u:List Value}{s:Shared}(h:AP X AD σ Q u s)(k:∀v H,Q v H->Q' v H):AP X AD σ Q' u s:=let ⟨v,H,I,r,q⟩:=h;⟨v,H,I,r,k v H q⟩
theorem Po.mono{X:Cx}{H:Hp}{G:Gs}{Q Q':Dat->Gs->Prop}{v:V}{H':Hp}(h:Po X H G Q v H')(k:∀d G',Q d G'->Q' d G'):Po X H G Q' v H':=let ⟨d,G',e,o,r,q⟩:=h;⟨d,G',e,o,r,k d G' q⟩
theorem Po.trans{X:Cx}{H H1:Hp}{G G1:Gs}{Q:Dat->Gs->Prop}{v:V}{H':Hp}(e:Ext H G H1 G1)(h:Po X H1 G1 Q v H'):Po X H G Q v H':=let ⟨d,G',e',o,r,q⟩:=h;⟨d,G',e.trans e',o,r,q⟩
theorem PoT.trans{X:Cx}{H H1:Hp}{G G1:Gs}{Q:Bool->Gs->Prop}{v:Bool}{H':Hp}(e:Ext H G H1 G1)(h:PoT X H1 G1 Q v H'):PoT X H G Q v H':=let ⟨G',e',o,q⟩:=h;⟨G',e.trans e',o,q⟩
section
variable {X:Cx}{ρ:Rho}{G:Gs}{e a b:Expr}{es:List Expr}{d d' d1 d2:Dat}{ds:List Dat}{pos:Pos}
theorem Bn{t:TE}{Q:Dat->Gs->Prop}(h:PE X e t)(hq:∀σ H,Stt X H σ ρ G->t σ H (Po X H G Q)):WE X ρ G e Q:=fun AD s σ H I S=>h AD s σ H _ I (hq σ H S)
def tW(X:Cx)(e:Expr):TE:=fun σ H Q'=>∃ρ G R,WE X ρ G e R/\Stt X H σ ρ G/\∀v H',Po X H G R v H'->Q' v H'
theorem Ax:PE X e (tW X e):=fun AD s σ H Q I ⟨_,_,_,h,S,k⟩=>thn (h AD s σ H I S) fun _ _ q=>EP.mono q k
theorem gj{t:TT}{Q:Bool->Gs->Prop}(h:PT X e t)(hq:∀σ H,Stt X H σ ρ G->t σ H (PoT X H G Q)):WT X ρ G e Q:=fun AD s σ H I S=>h AD s σ H _ I (hq σ H S)
theorem UK{t:TA}{Q:List Dat->Gs->Prop}(h:PA X es t)(hq:∀σ H,Stt X H σ ρ G->t σ H (PoA X H G Q)):WA X ρ G es Q:=fun pos AD s σ H I S=>h pos AD s σ H _ I (hq σ H S)
def tWA(X:Cx)(es:List Expr):TA:=fun σ H Q'=>∃ρ G R,WA X ρ G es R/\Stt X H σ ρ G/\∀v H',PoA X H G R v H'->Q' v H'
theorem Ly:PA X es (tWA X es):=fun pos AD s σ H Q I ⟨_,_,_,h,S,k⟩=>thn (h pos AD s σ H I S) fun _ _ q=>AP.mono q k
theorem WE.mono{Q Q':Dat->Gs->Prop}(h:WE X ρ G e Q)(k:∀d G',Q d G'->Q' d G'):WE X ρ G e Q':=fun AD s σ H I S=>thn (h AD s σ H I S) fun _ _ q=>EP.mono q fun _ _ z=>Po.mono z k
theorem PX.we{Q:Dat->Gs->Prop}(h:PX X ρ G e d)(q:Q d G):WE X ρ G e Q:=WE.mono h fun _ _ ⟨h1,h2⟩=>by subst h1;subst h2;exact q
theorem PX.cast(h:PX X ρ G e d)(q:d=d'):PX X ρ G e d':=q▸h
theorem po1{H H':Hp}{v:V}(e:Ext H G H' G)(o:GOk X.K H' G)(r:Rep X.K (hid H' G) d v):Po X H G (fun d' G'=>d'=d/\G'=G) v H':=⟨d,G,e,o,r,rfl,rfl⟩
theorem Bc{H:Hp}{v:V}(o:GOk X.K H G)(r:Rep X.K (hid H G) d v):Po X H G (fun d' G'=>d'=d/\G'=G) v H:=po1 Ext.refl o r
theorem AA(i:Nat){x:Str}(hi:ρ[i]?=some (some d))(hN:X.N[i]?=some x:=by rfl)(hv:Vis X.env.scope x:=by first|exact Or.inl rfl|exact Or.inr (Or.inl rfl)|exact Or.inr (Or.inr rfl))(hd:(x==("__debug__":Str))=false:=by decide)(WR:(x==("__classdict__":Str))=false:=by decide):PX X ρ G (.Name x pos) d:=Bn (eF hN hv hd WR) fun σ H S=>let ⟨v,h1,h2⟩:=S.env i d hi;⟨v,h1,Bc S.own h2⟩
theorem AH{i:Int}{j}:PX X ρ G (.Constant (.int i) j pos) (.int i):=Bn eI fun σ H S=>Bc S.own rfl
theorem Kv{i:Bool}{j}:PX X ρ G (.Constant (.bool i) j pos) (.bl i):=Bn g7 fun σ H S=>Bc S.own rfl
theorem XE{j}:PX X ρ G (.Constant .none j pos) .non:=Bn dF fun σ H S=>Bc S.own rfl
theorem Lh{x:Str}{j}:PX X ρ G (.Constant (.str x) j pos) (.str x):=Bn dC fun σ H S=>Bc S.own rfl
theorem J7{op:Operator}{r:R2}(ho:OpR X (binaryOp op) r)(ha:PX X ρ G a d1)(hb:PX X ρ G b d2)(hr:∀(H:Hp)(x y:V)(Q:VK),GOk X.K H G->Rep X.K (hid H G) d1 x->Rep X.K (hid H G) d2 y->(∀v H',Po X H G (fun d' G'=>d'=d/\G'=G) v H'->Q v H')->r x y H Q):PX X ρ G (.BinOp a op b pos) d:=Bn (ba ho Ax Ax) fun σ H S=>⟨ρ,G,_,ha,S,fun x H1 ⟨_,_,e1,o1,r1,q1,BX⟩=>by
  subst q1;subst BX;refine⟨ρ,_,_,hb,S.ext e1 o1,fun y H2 ⟨_,_,e2,o2,r2,q2,FQ⟩=>?_⟩;subst q2;subst FQ;exact hr H2 x y _ o2 (r1.same e2.hid) r2 fun v H' z=>Po.trans (e1.trans e2) z⟩
end
mutual
def eqD:Dat->Dat->Bool
 |.non,.non=>true
 |.bl a,.bl b=>a==b
 |.bl a,.int b=>(if a then 1 else 0)==b
 |.int a,.bl b=>a==(if b then 1 else 0)
 |.int a,.int b=>a==b
 |.str a,.str b=>a==b
 |.tup l,.tup m=>eqL l m
 |.lst l,.lst m=>eqL l m
 |_,_=>false
def eqL:List Dat->List Dat->Bool
 |[],[]=>true
 |x::xs,y::ys=>eqD x y&&eqL xs ys
 |_,_=>false
end
def Ap:Dat->Bool
 |.non=>true|.bl _=>true|.int _=>true|.str _=>true|_=>false
def AJ:Nat->Dat->Bool
 |0,d=>Ap d
 |n+1,.tup l=>l.all (AJ n)
 |n+1,.lst l=>l.all (AJ n)
 |_+1,d=>Ap d
theorem Gg{d:Dat}(h:Ap d=true):∀n,AJ n d=true
 |0=>h
 |n+1=>by cases d<;>first|exact h|(simp[Ap]at h)
theorem HB:∀(n:Nat)(d:Dat),AJ n d=true->eqD d d=true:=by
 intro n
 induction n with
 |zero=>intro d h;cases d<;>simp_all[AJ,Ap,eqD]
 |succ n ih=>
  have hl:∀l:List Dat,l.all (AJ n)=true->eqL l l=true:=by
   intro l
   induction l with
   |nil=>intro _;simp[eqL]
   |cons x r lO=>
    intro h;simp only[List.all_cons,Bool.and_eq_true]at h;simp only[eqL,Bool.and_eq_true];exact⟨ih x h.1,lO h.2⟩
  intro d h;cases d<;>simp_all[AJ,Ap,eqD]
theorem Ew:∀(l m:List Dat),eqL l m=((List.range (min l.length m.length)).all (fun j=>match l[j]?,m[j]? with|some x,some y=>eqD x y|_,_=>true)&&l.length==m.length)
 |[],[]=>by simp[eqL]
 |[],_::_=>by simp[eqL]
 |_::_,[]=>by simp[eqL]
 |x::l,y::m=>by
  rw[eqL,Ew l m,List.length_cons,List.length_cons,Nat.succ_min_succ,List.range_succ_eq_map,List.all_cons,List.all_map];simp only[List.getElem?_cons_zero,Function.comp_def,List.getElem?_cons_succ,Nat.succ_eq_add_one,Bool.and_assoc];congr 2;rw[Bool.eq_iff_iff];simp
mutual
def AtH(h:Heap):Dat->Value->Prop
 |.non,u=>u=.none
 |.bl b,u=>u=.bool b
 |.int i,u=>∃t,u=.int i t
 |.str x,u=>∃t,u=.str x t
 |.fn a,u=>u=.ref a
 |.scr _,_=>False
 |.tup l,u=>∃a AY,u=.ref a/\h.IsTuple a AY.toArray/\AtL h l AY
 |.lst l,u=>∃a AY,u=.ref a/\h.IsList a AY.toArray/\AtL h l AY
def AtL(h:Heap):List Dat->List Value->Prop
 |[],us=>us=[]
 |d::ds,us=>∃u r,us=u::r/\AtH h d u/\AtL h ds r
end
theorem AtL.length{h:Heap}:∀{ds:List Dat}{us:List Value},AtL h ds us->us.length=ds.length
 |[],_,r=>by rw[AtL]at r;subst r;rfl
 |_::_,_,r=>by
  rw[AtL]at r;obtain⟨u,r,rfl,_,h3⟩:=r;rw[List.length_cons,List.length_cons,AtL.length h3]
theorem AtL.get{h:Heap}:∀{ds:List Dat}{us:List Value}{i:Nat}{d:Dat},AtL h ds us->ds[i]?=some d->∃u,us[i]?=some u/\AtH h d u
 |[],_,_,_,_,e=>by simp at e
 |_::_,_,0,_,r,e=>by
  rw[AtL]at r;obtain⟨u,r,rfl,h2,_⟩:=r;simp at e;subst e;exact⟨u,rfl,h2⟩
 |_::_,_,i+1,d,r,e=>by
  rw[AtL]at r;obtain⟨u,r,rfl,_,h3⟩:=r;obtain⟨u',h4,h5⟩:=AtL.get (i:=i) (d:=d) h3 (by simpa using e);exact⟨u',by simpa using h4,h5⟩
section
variable {X:Cx}{AD:List (Addr×Obj)}{σ:St}{H:Hp}{s:Shared}
mutual
theorem Rep.at(I:Inv X AD σ H s):∀{d:Dat}{v:V}{u:Value}{n:Nat},AJ n d=true->Rep X.K H d v->RelV v u->AtH s.heap d u
 |.non,_,_,_,_,r,q=>by rw[Rep]at r;subst r;cases q;rw[AtH]
 |.bl _,_,_,_,_,r,q=>by rw[Rep]at r;subst r;cases q;rw[AtH]
 |.int _,_,_,_,_,r,q=>by rw[Rep]at r;subst r;rw[AtH];exact q
 |.str _,_,_,_,_,r,q=>by rw[Rep]at r;subst r;rw[AtH];exact q
 |.fn _,_,_,_,_,r,q=>by rw[Rep]at r;subst r;cases q;rw[AtH]
 |.scr _,_,_,n,p,_,_=>by cases n<;>simp[AJ,Ap]at p
 |.tup l,_,_,n,p,r,q=>by
  rw[Rep]at r;obtain⟨a,vs,rfl,h1,h2⟩:=r;cases q;obtain⟨AY,rv,ht,_⟩:=I.tuple h1;rw[AtH];refine⟨a,AY,rfl,ht,?_⟩;cases n with
  |zero=>simp[AJ,Ap]at p
  |succ n=>exact RepL.at I (n:=n) (by simpa[AJ]using p) h2 rv
 |.lst l,_,_,n,p,r,q=>by
  rw[Rep]at r;obtain⟨a,vs,rfl,h1,h2⟩:=r;cases q;obtain⟨AY,rv,ht,_⟩:=I.list (SqL.of h1);rw[AtH];refine⟨a,AY,rfl,ht.isList,?_⟩;cases n with
  |zero=>simp[AJ,Ap]at p
  |succ n=>exact RepL.at I (n:=n) (by simpa[AJ]using p) h2 rv
theorem RepL.at(I:Inv X AD σ H s):∀{ds:List Dat}{vs:List V}{us:List Value}{n:Nat},ds.all (AJ n)=true->RepL X.K H ds vs->Vals vs us->AtL s.heap ds us
 |[],_,_,_,_,r,q=>by rw[RepL]at r;subst r;cases q;rw[AtL]
 |d::ds,_,_,n,p,r,q=>by
  rw[RepL]at r;obtain⟨v,r,rfl,h1,h2⟩:=r;cases q with
  |cons q1 q2=>
   simp only[List.all_cons,Bool.and_eq_true]at p;rw[AtL];exact⟨_,_,rfl,Rep.at I p.1 h1 q1,RepL.at I p.2 h2 q2⟩
end
end
theorem AtH.flat{h:Heap}{d:Dat}{u:Value}(r:AtH h d u)(f:Ap d=true):∃v,RelV v u/\Wq v=true/\∀(d':Dat)(u':Value)(v':V),Ap d'=true->AtH h d' u'->RelV v' u'->eqV v v'=eqD d d':=by
 cases d<;>simp only[Ap,Bool.false_eq_true]at f<;>rw[AtH]at r
 ·subst r;refine⟨.non,rfl,rfl,fun d' u' v' f' r' q'=>?_⟩;cases d'<;>simp only[Ap,Bool.false_eq_true]at f'<;>rw[AtH]at r'<;>first|(subst r';cases v'<;>simp_all[RelV,eqV,eqD];done)|(obtain⟨t,rfl⟩:=r';cases v'<;>simp_all[RelV,eqV,eqD])
 ·subst r;refine⟨.bl _,rfl,rfl,fun d' u' v' f' r' q'=>?_⟩;cases d'<;>simp only[Ap,Bool.false_eq_true]at f'<;>rw[AtH]at r'<;>first|(subst r';cases v'<;>simp_all[RelV,eqV,eqD];done)|(obtain⟨t,rfl⟩:=r';cases v'<;>simp_all[RelV,eqV,eqD])
 ·refine⟨.int _,r,rfl,fun d' u' v' f' r' q'=>?_⟩;cases d'<;>simp only[Ap,Bool.false_eq_true]at f'<;>rw[AtH]at r'<;>first|(subst r';cases v'<;>simp_all[RelV,eqV,eqD];done)|(obtain⟨t,rfl⟩:=r';cases v'<;>simp_all[RelV,eqV,eqD])
 ·refine⟨.str _,r,rfl,fun d' u' v' f' r' q'=>?_⟩;cases d'<;>simp only[Ap,Bool.false_eq_true]at f'<;>rw[AtH]at r'<;>first|(subst r';cases v'<;>simp_all[RelV,eqV,eqD];done)|(obtain⟨t,rfl⟩:=r';cases v'<;>simp_all[RelV,eqV,eqD])
theorem Qw{h:Heap}{a:Addr}{xs ys:Array Value}(h1:h.IsTuple a xs)(h2:h.IsList a ys):False:=by obtain⟨o,e,c,_⟩:=h1;obtain⟨o',e',c',_⟩:=h2;rw[e]at e';cases e';rw[c]at c';exact absurd c' (by decide)
theorem Vg{h:Heap}{a:Addr}{xs ys:List Value}(h1:h.IsTuple a xs.toArray)(h2:h.IsTuple a ys.toArray):xs=ys:=by obtain⟨o,e,c,n,d⟩:=h1;obtain⟨o',e',c',n',d'⟩:=h2;rw[e]at e';cases e';rw[d]at d';injection d' with d1 _;simpa using congrArg Array.toList d1
theorem WN{h:Heap}{a:Addr}{xs ys:List Value}(h1:h.IsList a xs.toArray)(h2:h.IsList a ys.toArray):xs=ys:=by obtain⟨o,e,c,n,d⟩:=h1;obtain⟨o',e',c',n',d'⟩:=h2;rw[e]at e';cases e';rw[d]at d';injection d' with d1 _;simpa using congrArg Array.toList d1
theorem AtH.inj{h:Heap}:∀(n:Nat){d d':Dat}{u:Value},AJ n d=true->AJ n d'=true->AtH h d u->AtH h d' u->d=d':=by
 have flat:∀{d d':Dat}{u:Value},Ap d=true->Ap d'=true->AtH h d u->AtH h d' u->d=d':=by
  intro d d' u f f' r r';cases d<;>simp only[Ap,Bool.false_eq_true]at f<;>cases d'<;>simp only[Ap,Bool.false_eq_true]at f'<;>simp only[AtH]at r r' <;>
   first
   |rfl
   |(subst r;cases r';rfl)
   |(obtain⟨t,rfl⟩:=r;obtain⟨t',e⟩:=r';cases e;rfl)
   |(exfalso;subst r;cases r';done)
   |(exfalso;subst r;obtain⟨t',e⟩:=r';cases e;done)
   |(exfalso;obtain⟨t,rfl⟩:=r;cases r';done)
   |(exfalso;obtain⟨t,rfl⟩:=r;obtain⟨t',e⟩:=r';cases e;done)
 have Tp:∀{d:Dat}{u:Value}{a:Addr},Ap d=true->AtH h d u->u=.ref a->False:=by
  intro d u a f r e;subst e;cases d<;>simp only[Ap,Bool.false_eq_true]at f<;>rw[AtH]at r<;>first|(cases r;done)|(obtain⟨t,e⟩:=r;cases e;done)
 intro n
 induction n with
 |zero=>intro d d' u h h' r r';exact flat h h' r r'
 |succ n ih=>
  have hl:∀(l m:List Dat)(us:List Value),l.all (AJ n)=true->m.all (AJ n)=true->AtL h l us->AtL h m us->l=m:=by
   intro l
   induction l with
   |nil=>
    intro m us _ _ r r';rw[AtL]at r;subst r;cases m with
    |nil=>rfl
    |cons y m=>rw[AtL]at r';obtain⟨_,_,e,_⟩:=r';cases e
   |cons x l gG=>
    intro m us h h' r r';rw[AtL]at r;obtain⟨v,rr,rfl,r1,r2⟩:=r;cases m with
    |nil=>rw[AtL]at r';cases r'
    |cons y m=>
     rw[AtL]at r';obtain⟨v',tN,e,WH,Vm⟩:=r';cases e;simp only[List.all_cons,Bool.and_eq_true]at h h';rw[ih h.1 h'.1 r1 WH,gG m _ h.2 h'.2 r2 Vm]
  intro d d' u h h' r r';by_cases f:Ap d=true
  ·by_cases f':Ap d'=true
   ·exact flat f f' r r'
   ·exfalso;cases d'<;>simp[AJ,Ap]at h' f'
    ·rw[AtH]at r';obtain⟨a,_,e,_⟩:=r';exact Tp f r e
    ·rw[AtH]at r';obtain⟨a,_,e,_⟩:=r';exact Tp f r e
  ·by_cases f':Ap d'=true
   ·exfalso;cases d<;>simp[AJ,Ap]at h f
    ·rw[AtH]at r;obtain⟨a,_,e,_⟩:=r;exact Tp f' r' e
    ·rw[AtH]at r;obtain⟨a,_,e,_⟩:=r;exact Tp f' r' e
   ·cases d<;>simp[AJ,Ap]at h f<;>cases d'<;>simp[AJ,Ap]at h' f'<;>simp only[AtH]at r r'<;>obtain⟨a,xs,e1,t1,l1⟩:=r<;>obtain⟨b,ys,e2,t2,l2⟩:=r'<;>subst e1<;>cases e2
    ·have:=Vg t1 t2
     subst this;rw[hl _ _ _ (List.all_eq_true.mpr h) (List.all_eq_true.mpr h') l1 l2]
    ·exact(Qw t1 t2).elim
    ·exact(Qw t2 t1).elim
    ·have:=WN t1 t2
     subst this;rw[hl _ _ _ (List.all_eq_true.mpr h) (List.all_eq_true.mpr h') l1 l2]
theorem Rep.inj{X:Cx}{AD:List (Addr×Obj)}{σ:St}{H:Hp}{s:Shared}(I:Inv X AD σ H s)(n:Nat){d d':Dat}{v:V}{u:Value}(h:AJ n d=true)(h':AJ n d'=true)(r:Rep X.K H d v)(r':Rep X.K H d' v)(q:RelV v u):d=d':=AtH.inj n h h' (r.at I h q) (r'.at I h' q)
theorem GN{s:Shared}:∀(n:Nat){A:Around}{d e:Dat}{u v:Value},AJ n d=true->AJ n e=true->AtH s.heap d u->AtH s.heap e v->A.units+n<cLine →
  SeqAt.EqAt A s u v (eqD d e)/\SeqAt.RcAt A s u v (eqD d e):=by
 have bX:∀{A:Around}{d e:Dat}{u v:Value},Ap d=true->Ap e=true->AtH s.heap d u->AtH s.heap e v->SeqAt.EqAt A s u v (eqD d e)/\SeqAt.RcAt A s u v (eqD d e):=by
  intro A d e u v fd fe rd re;constructor
  ·obtain⟨x,hx,fx,h1⟩:=AtH.flat rd fd;obtain⟨y,hy,fy,_⟩:=AtH.flat re fe;rw[<-h1 e v y fe re hy];exact eQ hx hy fx fy
  ·cases d<;>simp only[Ap,Bool.false_eq_true]at fd<;>cases e<;>simp only[Ap,Bool.false_eq_true]at fe<;>simp only[AtH]at rd re<;>simp only[eqD]
   ·subst rd;subst re;exact SeqAt.RcAt.none_none
   ·subst rd;subst re;exact SeqAt.RcAt.none_bool _
   ·subst rd;obtain⟨_,rfl⟩:=re;exact SeqAt.RcAt.none_int _ _
   ·subst rd;obtain⟨_,rfl⟩:=re;exact SeqAt.RcAt.none_str _ _
   ·subst rd;subst re;exact SeqAt.RcAt.bool_none _
   ·subst rd;subst re;exact SeqAt.RcAt.bool_bool _ _
   ·subst rd;obtain⟨_,rfl⟩:=re;exact SeqAt.RcAt.bool_int _ _ _
   ·subst rd;obtain⟨_,rfl⟩:=re;exact SeqAt.RcAt.bool_str _ _ _
   ·obtain⟨_,rfl⟩:=rd;subst re;exact SeqAt.RcAt.int_none _ _
   ·obtain⟨_,rfl⟩:=rd;subst re;exact SeqAt.RcAt.int_bool _ _ _
   ·obtain⟨_,rfl⟩:=rd;obtain⟨_,rfl⟩:=re;exact SeqAt.RcAt.int_int _ _ _ _
   ·obtain⟨_,rfl⟩:=rd;obtain⟨_,rfl⟩:=re;exact SeqAt.RcAt.int_str _ _ _ _
   ·obtain⟨_,rfl⟩:=rd;subst re;exact SeqAt.RcAt.str_none _ _
   ·obtain⟨_,rfl⟩:=rd;subst re;exact SeqAt.RcAt.str_bool _ _ _
   ·obtain⟨_,rfl⟩:=rd;obtain⟨_,rfl⟩:=re;exact SeqAt.RcAt.str_int _ _ _ _
   ·obtain⟨_,rfl⟩:=rd;obtain⟨_,rfl⟩:=re;exact SeqAt.RcAt.str_str _ _ _ _
 intro n
 induction n with
 |zero=>intro A d e u v hd he rd re _;exact bX hd he rd re
 |succ n ih=>
  intro A d e u v hd he rd re hu;have DN:A.units<cLine:=by lia
  have items:∀(l m:List Dat)(is js:List Value),l.all (AJ n)=true->m.all (AJ n)=true->AtL s.heap l is->AtL s.heap m js →
    ∀j (h1:j<is.toArray.size) (h2:j<js.toArray.size),SeqAt.EqAt A.in1 s is.toArray[j] js.toArray[j] ((fun j=>match l[j]?,m[j]? with|some x,some y=>eqD x y|_,_=>true) j):=by
   intro l m is js hl hm rl rm j h1 h2;have PD:j<is.length:=by simpa using h1
   have RW:j<js.length:=by simpa using h2
   have l1:j<l.length:=by rw[<-rl.length];exact PD
   have l2:j<m.length:=by rw[<-rm.length];exact RW
   obtain⟨u1,f1,q1⟩:=rl.get (List.getElem?_eq_getElem l1);obtain⟨u2,f2,q2⟩:=rm.get (List.getElem?_eq_getElem l2);rw[List.getElem?_eq_getElem PD]at f1;rw[List.getElem?_eq_getElem RW]at f2;cases f1;cases f2;have hx:AJ n l[j]=true:=List.all_eq_true.mp hl _ (List.getElem_mem l1);have hy:AJ n m[j]=true:=List.all_eq_true.mp hm _ (List.getElem_mem l2)
   have:=(ih (A:=A.in1) hx hy q1 q2 (by show A.units+1+n<cLine;lia)).1
   simpa[List.getElem?_eq_getElem l1,List.getElem?_eq_getElem l2]using this
  by_cases fd:Ap d=true
  ·by_cases fe:Ap e=true
   ·exact bX fd fe rd re
   ·cases e<;>simp[AJ,Ap]at he fe
    ·rw[AtH]at re;obtain⟨b,js,rfl,tj,rm⟩:=re;cases d<;>simp only[Ap,Bool.false_eq_true]at fd<;>rw[AtH]at rd
     ·subst rd;exact⟨.none_tuple tj DN,.none_tuple tj DN⟩
     ·subst rd;exact⟨.bool_tuple _ tj DN,.bool_tuple _ tj DN⟩
     ·obtain⟨t,rfl⟩:=rd;exact⟨.int_tuple _ _ tj DN,.int_tuple _ _ tj DN⟩
     ·obtain⟨t,rfl⟩:=rd;exact⟨.str_tuple _ _ tj DN,.str_tuple _ _ tj DN⟩
    ·rw[AtH]at re;obtain⟨b,js,rfl,tj,rm⟩:=re;cases d<;>simp only[Ap,Bool.false_eq_true]at fd<;>rw[AtH]at rd
     ·subst rd;exact⟨.none_list tj DN,.none_list tj DN⟩
     ·subst rd;exact⟨.bool_list _ tj DN,.bool_list _ tj DN⟩
     ·obtain⟨t,rfl⟩:=rd;exact⟨.int_list _ _ tj DN,.int_list _ _ tj DN⟩
     ·obtain⟨t,rfl⟩:=rd;exact⟨.str_list _ _ tj DN,.str_list _ _ tj DN⟩
  ·cases d with
   |tup l=>
    have cy:=rd;rw[AtH]at rd;obtain⟨a,is,rfl,ti,rl⟩:=rd;cases e with
    |tup m=>
     have lV:=re;rw[AtH]at re;obtain⟨b,js,rfl,tj,rm⟩:=re;have rc:SeqAt.RcAt A s (.ref a) (.ref b) (eqD (.tup l) (.tup m)):=by
      have:=SeqAt.RcAt.tuples ti tj DN (items l m is js (by simpa[AJ]using hd) (by simpa[AJ]using he) rl rm)
      rw[eqD,Ew];have e1:is.toArray.size=l.length:=by rw[List.size_toArray,rl.length]
      have e2:js.toArray.size=m.length:=by rw[List.size_toArray,rm.length]
      rw[e1,e2]at this;exact this
     refine⟨?_,rc⟩;by_cases Oj:a=b
     ·subst Oj
      have:=AtH.inj (n+1) hd he cy lV
      rw[<-this,HB (n+1) _ hd];exact SeqAt.EqAt.same _
     ·exact SeqAt.EqAt.of_refs Oj rc
    |lst m=>
     rw[AtH]at re;obtain⟨b,js,rfl,tj,rm⟩:=re;exact⟨.tuple_list ti tj DN,.tuple_list ti tj DN⟩
    |fn a=>simp[AJ,Ap]at he
    |scr a=>simp[AJ,Ap]at he
    |non=>rw[AtH]at re;subst re;exact⟨.tuple_none ti DN,.tuple_none ti DN⟩
    |bl b=>rw[AtH]at re;subst re;exact⟨.tuple_bool _ ti DN,.tuple_bool _ ti DN⟩
    |int b=>rw[AtH]at re;obtain⟨t,rfl⟩:=re;exact⟨.tuple_int _ _ ti DN,.tuple_int _ _ ti DN⟩
    |str b=>rw[AtH]at re;obtain⟨t,rfl⟩:=re;exact⟨.tuple_str _ _ ti DN,.tuple_str _ _ ti DN⟩
   |lst l=>
    have cy:=rd;rw[AtH]at rd;obtain⟨a,is,rfl,ti,rl⟩:=rd;cases e with
    |tup m=>
     rw[AtH]at re;obtain⟨b,js,rfl,tj,rm⟩:=re;exact⟨.list_tuple ti tj DN,.list_tuple ti tj DN⟩
    |lst m=>
     have lV:=re;rw[AtH]at re;obtain⟨b,js,rfl,tj,rm⟩:=re;have e1:is.toArray.size=l.length:=by rw[List.size_toArray,rl.length]
     have e2:js.toArray.size=m.length:=by rw[List.size_toArray,rm.length]
     have rc:SeqAt.RcAt A s (.ref a) (.ref b) (eqD (.lst l) (.lst m)):=by
      rw[eqD,Ew];by_cases hsz:l.length=m.length
      ·have:=SeqAt.RcAt.lists ti tj (by rw[e1,e2,hsz]) DN (items l m is js (by simpa[AJ]using hd) (by simpa[AJ]using he) rl rm)
       rw[e1]at this;rw[hsz,Nat.min_self,beq_self_eq_true,Bool.and_true,<-hsz];exact this
      ·have:=SeqAt.RcAt.lists_lengths ti tj (by rw[e1,e2];simpa using hsz) DN
       rw[show(l.length==m.length)=false by simpa using hsz,Bool.and_false];exact this
     refine⟨?_,rc⟩;by_cases Oj:a=b
     ·subst Oj
      have:=AtH.inj (n+1) hd he cy lV
      rw[<-this,HB (n+1) _ hd];exact SeqAt.EqAt.same _
     ·exact SeqAt.EqAt.of_refs Oj rc
    |fn a=>simp[AJ,Ap]at he
    |scr a=>simp[AJ,Ap]at he
    |non=>rw[AtH]at re;subst re;exact⟨.list_none ti DN,.list_none ti DN⟩
    |bl b=>rw[AtH]at re;subst re;exact⟨.list_bool _ ti DN,.list_bool _ ti DN⟩
    |int b=>rw[AtH]at re;obtain⟨t,rfl⟩:=re;exact⟨.list_int _ _ ti DN,.list_int _ _ ti DN⟩
    |str b=>rw[AtH]at re;obtain⟨t,rfl⟩:=re;exact⟨.list_str _ _ ti DN,.list_str _ _ ti DN⟩
   |fn a=>simp[AJ,Ap]at hd
   |scr a=>simp[AJ,Ap]at hd
   |non=>simp[Ap]at fd
   |bl a=>simp[Ap]at fd
   |int a=>simp[Ap]at fd
   |str a=>simp[Ap]at fd
section
variable {X:Cx}
def lR(K:PySem.W.Frag):R2:=fun x y H Q=>∃d e,Rep K H d x/\Rep K H e y/\AJ 9 d=true/\AJ 9 e=true/\Q (.bl (eqD d e)) H
theorem fK(hu:X.A.units+9<cLine):OpR X (compareOp .Eq) (lR X.K):=by intro AD s σ H x y v u Q I rx ry h;obtain⟨d,e,rd,re,pd,pe,q⟩:=h;exact(GN 9 pd pe (rd.at I pd rx) (re.at I pe ry) hu).2 _ _ _ _ ⟨.bl _,H,I,rfl,q⟩
def CQ(K:PySem.W.Frag)(H:Hp)(l:List Dat)(x:Dat)(u:Value):Bool:=open Classical in if h:∃d v,d∈l/\RelV v u/\Rep K H d v then eqD (Classical.choose h) x else false
theorem Md{AD:List (Addr×Obj)}{σ:St}{H:Hp}{s:Shared}(I:Inv X AD σ H s){l:List Dat}{x d:Dat}{v:V}{u:Value}(hl:l.all (AJ 8)=true)(hd:d∈l)(r:RelV v u)(q:Rep X.K H d v) :
  CQ X.K H l x u=eqD d x:=by
 have h:∃d v,d∈l/\RelV v u/\Rep X.K H d v:=⟨d,v,hd,r,q⟩;unfold CQ;rw[dif_pos h];obtain⟨v',h1,h2,h3⟩:=Classical.choose_spec h;have e:v'=v:=h2.inj r;subst e;have p:=List.all_eq_true.mp hl;rw[Rep.inj I 8 (p _ h1) (p _ hd) h3 q r]
theorem Dm{AD:List (Addr×Obj)}{σ:St}{H:Hp}{s:Shared}(I:Inv X AD σ H s){x:Dat}{L:List Dat}(hL:L.all (AJ 8)=true) :
  ∀{l:List Dat}{vs:List V}{us:List Value},(∀d∈l,d∈L)->RepL X.K H l vs->Vals vs us->us.any (CQ X.K H L x)=l.any fun d=>eqD d x
 |[],_,_,_,rl,rv=>by rw[RepL]at rl;subst rl;cases rv;rfl
 |d::l,_,_,hs,rl,rv=>by
  rw[RepL]at rl;obtain⟨v,r,rfl,r1,r2⟩:=rl;cases rv with
  |cons q1 q2=>
   rw[List.any_cons,List.any_cons,Md I hL (hs d List.mem_cons_self) q1 r1,Dm I hL (fun e he=>hs e (List.mem_cons_of_mem _ he)) r2 q2]
theorem Dw{AD:List (Addr×Obj)}{σ:St}{H:Hp}{s:Shared}(I:Inv X AD σ H s){x:Dat}{y:V}{w:Value}{A:Around}(hx:AJ 8 x=true)(rx:Rep X.K H x y)(ry:RelV y w)(hu:A.units+8<cLine){L:List Dat}(hL:L.all (AJ 8)=true) :
  ∀{l:List Dat}{vs:List V}{us:List Value},(∀d∈l,d∈L)->RepL X.K H l vs->Vals vs us->∀u∈us,SeqAt.EqAt A s u w (CQ X.K H L x u)
 |[],_,_,_,rl,rv,u,hm=>by rw[RepL]at rl;subst rl;cases rv;cases hm
 |d::l,_,_,hs,rl,rv,u,hm=>by
  rw[RepL]at rl;obtain⟨v,r,rfl,r1,r2⟩:=rl;cases rv with
  |cons q1 q2=>
   rcases List.mem_cons.mp hm with e|hm
   ·subst e;rw[Md I hL (hs d List.mem_cons_self) q1 r1];exact(GN 8 (List.all_eq_true.mp hL d (hs d List.mem_cons_self)) hx (r1.at I (List.all_eq_true.mp hL d (hs d List.mem_cons_self)) q1) (rx.at I hx ry) hu).1
   ·exact Dw I hx rx ry hu hL (fun e he=>hs e (List.mem_cons_of_mem _ he)) r2 q2 u hm
def gp(K:PySem.W.Frag)(neg:Bool):R2:=fun x y H Q=>∃p vs d l,y=.ref p/\(H p=some (.lst vs)\/SqT K H p vs)/\RepL K H l vs/\Rep K H d x/\AJ 8 d=true/\l.all (AJ 8)=true/\Q (.bl (if neg then !(l.any fun e=>eqD e d)else l.any fun e=>eqD e d)) H
theorem Wg(hu:X.A.units+9<cLine):OpR X (compareOp .In) (gp X.K false):=by
 intro AD s σ H x y v u Q I rx ry h;obtain⟨p,vs,d,l,rfl,hq,rl,rd,pd,pl,q⟩:=h;cases ry;have JF:X.A.in1.units+8<cLine:=by show X.A.units+1+8<cLine;lia
 rcases hq with hq|hq
 ·obtain⟨AY,r,fH,hz⟩:=I.list (SqL.of hq);refine SeqAt.in_listAt (CQ X.K H l d) fH.isList (fun w hw=>Dw I pd rd rx JF pl (fun _ h=>h) rl r w (by simpa using hw)) ⟨.bl _,H,I,rfl,?_⟩;rw[show AY.toArray.any (CQ X.K H l d)=AY.any (CQ X.K H l d) by simp,Dm I pl (fun _ h=>h) rl r];exact q
 ·obtain⟨AY,r,fH,hz⟩:=I.tuple hq;refine SeqAt.in_tupleAt (CQ X.K H l d) fH (fun w hw=>Dw I pd rd rx JF pl (fun _ h=>h) rl r w (by simpa using hw)) ⟨.bl _,H,I,rfl,?_⟩;rw[show AY.toArray.any (CQ X.K H l d)=AY.any (CQ X.K H l d) by simp,Dm I pl (fun _ h=>h) rl r];exact q
theorem NM(hu:X.A.units+9<cLine):OpR X (compareOp .NotIn) (gp X.K true):=by
 intro AD s σ H x y v u Q I rx ry h;obtain⟨p,vs,d,l,rfl,hq,rl,rd,pd,pl,q⟩:=h;cases ry;have JF:X.A.in1.units+8<cLine:=by show X.A.units+1+8<cLine;lia
 rcases hq with hq|hq
 ·obtain⟨AY,r,fH,hz⟩:=I.list (SqL.of hq);refine SeqAt.notIn_listAt (CQ X.K H l d) fH.isList (fun w hw=>Dw I pd rd rx JF pl (fun _ h=>h) rl r w (by simpa using hw)) ⟨.bl _,H,I,rfl,?_⟩;rw[show AY.toArray.any (CQ X.K H l d)=AY.any (CQ X.K H l d) by simp,Dm I pl (fun _ h=>h) rl r];exact q
 ·obtain⟨AY,r,fH,hz⟩:=I.tuple hq;refine SeqAt.notIn_tupleAt (CQ X.K H l d) fH (fun w hw=>Dw I pd rd rx JF pl (fun _ h=>h) rl r w (by simpa using hw)) ⟨.bl _,H,I,rfl,?_⟩;rw[show AY.toArray.any (CQ X.K H l d)=AY.any (CQ X.K H l d) by simp,Dm I pl (fun _ h=>h) rl r];exact q
end
section
variable {X:Cx}{ρ:Rho}{G:Gs}{e a b c:Expr}{es:List Expr}{d d' d1 d2:Dat}{ds l m:List Dat}{pos:Pos}{i j k:Int}
theorem Aw(ha:PX X ρ G a (.int i))(hb:PX X ρ G b (.int j)):PX X ρ G (.BinOp a .Add b pos) (.int (i+j)):=J7 fL ha hb fun H x y Q o hx hy k=>⟨i,j,hx,hy,k _ _ (Bc o rfl)⟩
theorem Bi(ha:PX X ρ G a (.int i))(hb:PX X ρ G b (.int j)):PX X ρ G (.BinOp a .Sub b pos) (.int (i-j)):=J7 fI ha hb fun H x y Q o hx hy k=>⟨i,j,hx,hy,k _ _ (Bc o rfl)⟩
theorem Sv(ha:PX X ρ G a (.int i))(hb:PX X ρ G b (.int j))(hc:CMul i j):PX X ρ G (.BinOp a .Mult b pos) (.int (i*j)):=J7 dE ha hb fun H x y Q o hx hy k=>⟨i,j,hx,hy,hc,k _ _ (Bc o rfl)⟩
theorem Na(ha:PX X ρ G a (.int i))(hb:PX X ρ G b (.int j))(hc:0<j):PX X ρ G (.BinOp a .Mod b pos) (.int (i%j)):=J7 fD ha hb fun H x y Q o hx hy k=>⟨i,j,hx,hy,hc,k _ _ (Bc o rfl)⟩
theorem ZS(ha:PX X ρ G a (.int i))(hb:PX X ρ G b (.int j))(hc:gw i j):PX X ρ G (.BinOp a .FloorDiv b pos) (.int (i / j)):=J7 Z4 ha hb fun H x y Q o hx hy k=>⟨i,j,hx,hy,hc,k _ _ (Bc o rfl)⟩
theorem Rb(ha:PX X ρ G a (.int i)):PX X ρ G (.UnaryOp .USub a pos) (.int (-i)):=Bn (iz da Ax) fun σ H S=>⟨ρ,G,_,ha,S,fun x H1 ⟨_,_,e1,o1,r1,q1,BX⟩=>by
  subst q1;subst BX;exact⟨i,r1,Po.trans e1 (Bc o1 rfl)⟩⟩
def PXC(X:Cx)(ρ:Rho)(G:Gs)(op:CmpOp)(a b:Expr)(d:Dat):Prop:=∀(AD:List (Addr×Obj))(s:Shared)(σ:St)(H:Hp),Inv X AD σ H s->Stt X H σ ρ G →
  wpAny (model X.prog X.w) X.A (eval a X.env) (fun v s₁=>wpAny (model X.prog X.w) X.A (eval b X.env) (fun u s₂=>wpAny (model X.prog X.w) X.A (compareOp op v u) (EP X AD σ (Po X H G fun d' G'=>d'=d/\G'=G)) X.xe s₂) X.xe s₁) X.xe s
theorem Dy{op:CmpOp}{r:R2}(ho:OpR X (compareOp op) r)(ha:PX X ρ G a d1)(hb:PX X ρ G b d2)(hr:∀(H:Hp)(x y:V)(Q:VK),GOk X.K H G->Rep X.K (hid H G) d1 x->Rep X.K (hid H G) d2 y->(∀v H',Po X H G (fun d' G'=>d'=d/\G'=G) v H'->Q v H')->r x y H Q):PXC X ρ G op a b d:=by intro AD s σ H I S;refine thn (ha AD s σ H I S) fun v s1 ⟨x,H1,I1,rx,_,_,e1,o1,r1,q1,BX⟩=>?_;subst q1;subst BX;refine thn (hb AD s1 σ H1 I1 (S.ext e1 o1)) fun u s2 ⟨y,H2,I2,ry,_,_,e2,o2,r2,q2,FQ⟩=>?_;subst q2;subst FQ;exact ho AD s2 σ H2 x y v u _ I2 rx ry (hr H2 x y _ o2 (r1.same e2.hid) r2 fun v H' z=>Po.trans (e1.trans e2) z)
theorem Iz{op:CmpOp}(h:PXC X ρ G op a b d)(hm:behindInMarks op b=false:=by first|exact K8 _ (by decide) (by decide)|rfl):PX X ρ G (.Compare a [op] [b] pos) d:=fun AD s σ H I S=>wpAny_Compare1 (h AD s σ H I S) hm
theorem Ao{op:CmpOp}{p:Bool}(h:PXC X ρ G op a b (.bl p))(hm:behindInMarks op b=false:=by first|exact K8 _ (by decide) (by decide)|rfl):PXT X ρ G (.Compare a [op] [b] pos) p:=by intro AD s σ H I S;refine wpAny_isTrue_Compare1 (thn (h AD s σ H I S) fun v s1 h1=>thn h1 fun u s2 h2=>thn h2 fun c s3 ⟨x,H1,I1,r1,_,_,e1,o1,q1,q2,FQ⟩=>?_) hm;subst q2;subst FQ;cases (show x=V.bl p from q1);cases r1;exact wpAny_truthy_bool ⟨H1,I1,_,e1,o1,rfl,rfl⟩
theorem Ou(ha:PX X ρ G a (.int i))(hb:PX X ρ G b (.int j)):PXC X ρ G .Lt a b (.bl (decide (i<j))):=Dy gP ha hb fun H x y Q o hx hy k=>⟨i,j,hx,hy,k _ _ (Bc o rfl)⟩
theorem FU(ha:PX X ρ G a (.int i))(hb:PX X ρ G b (.int j)):PXC X ρ G .Gt a b (.bl (decide (j<i))):=Dy cG ha hb fun H x y Q o hx hy k=>⟨i,j,hx,hy,k _ _ (Bc o rfl)⟩
theorem EI(ha:PX X ρ G a (.int i))(hb:PX X ρ G b (.int j)):PXC X ρ G .Eq a b (.bl (i==j)):=Dy ir ha hb fun H x y Q o hx hy k=>by
  cases (show x=V.int i from hx);cases (show y=V.int j from hy);exact⟨rfl,by rw[UI];exact k _ _ (Bc o rfl)⟩
theorem Jz(hu:X.A.units+9<cLine)(ha:PX X ρ G a d1)(hb:PX X ρ G b d2)(p1:AJ 9 d1=true)(p2:AJ 9 d2=true):PXC X ρ G .Eq a b (.bl (eqD d1 d2)):=Dy (fK hu) ha hb fun H x y Q o hx hy k=>⟨d1,d2,hx.same AK,hy.same AK,p1,p2,k _ _ (Bc o rfl)⟩
theorem in_of{H:Hp}{K:PySem.W.Frag}{y:V}(hy:Rep K (hid H G) (.tup l) y\/Rep K (hid H G) (.lst l) y):∃p vs,y=.ref p/\(H p=some (.lst vs)\/SqT K H p vs)/\RepL K H l vs:=by
 rcases hy with hy|hy
 ·rw[Rep]at hy;obtain⟨p,vs,e,h1,h2⟩:=hy;exact⟨p,vs,e,.inr (Av AK h1),h2.same AK⟩
 ·rw[Rep]at hy;obtain⟨p,vs,e,h1,h2⟩:=hy;exact⟨p,vs,e,.inl (AK _ _ h1),h2.same AK⟩
theorem SY(hu:X.A.units+9<cLine)(ha:PX X ρ G a d1)(hb:PX X ρ G b d2)(hl:d2=.tup l\/d2=.lst l)(p1:AJ 8 d1=true)(p2:l.all (AJ 8)=true):PXC X ρ G .In a b (.bl (l.any fun e=>eqD e d1)):=Dy (Wg hu) ha hb fun H x y Q o hx hy k=>by
  obtain⟨p,vs,e,h1,h2⟩:=in_of (H:=H) (G:=G) (l:=l) (K:=X.K) (y:=y) (by rcases hl with z|z<;>subst z;exact .inl hy;exact .inr hy);exact⟨p,vs,d1,l,e,h1,h2,hx.same AK,p1,p2,k _ _ (Bc o rfl)⟩
theorem Ux(hu:X.A.units+9<cLine)(ha:PX X ρ G a d1)(hb:PX X ρ G b d2)(hl:d2=.tup l\/d2=.lst l)(p1:AJ 8 d1=true)(p2:l.all (AJ 8)=true):PXC X ρ G .NotIn a b (.bl (!(l.any fun e=>eqD e d1))):=Dy (NM hu) ha hb fun H x y Q o hx hy k=>by
  obtain⟨p,vs,e,h1,h2⟩:=in_of (H:=H) (G:=G) (l:=l) (K:=X.K) (y:=y) (by rcases hl with z|z<;>subst z;exact .inl hy;exact .inr hy);exact⟨p,vs,d1,l,e,h1,h2,hx.same AK,p1,p2,k _ _ (Bc o rfl)⟩
theorem Ge{op}(h:PX X ρ G a d):PX X ρ G (.BoolOp op [a] pos) d:=fun AD s σ H I S=>BoolOp_one (h AD s σ H I S)
theorem DJ{rest:List Expr}{p q:Bool}(ha:PX X ρ G a (.bl p))(hb:p=true->PX X ρ G (.BoolOp .And (b::rest) pos) (.bl q)):PX X ρ G (.BoolOp .And (a::b::rest) pos) (.bl (p&&q)):=by
 intro AD s σ H I S;refine BoolOp_and (thn (ha AD s σ H I S) fun v s1 ⟨x,H1,I1,r1,_,_,e1,o1,rx,q1,BX⟩=>?_);subst q1;subst BX;cases (show x=V.bl p from rx);cases r1;refine wpAny_truthy_bool ?_;cases p with
 |true=>exact thn (hb rfl AD s1 σ H1 I1 (S.ext e1 o1)) fun _ _ z=>EP.mono z fun _ _ y=>Po.trans e1 y
 |false=>exact⟨.bl false,H1,I1,rfl,.bl false,_,e1,o1,rfl,rfl,rfl⟩
theorem iK{rest:List Expr}{p q:Bool}(ha:PX X ρ G a (.bl p))(hb:p=false->PX X ρ G (.BoolOp .Or (b::rest) pos) (.bl q)):PX X ρ G (.BoolOp .Or (a::b::rest) pos) (.bl (p||q)):=by
 intro AD s σ H I S;refine BoolOp_or (thn (ha AD s σ H I S) fun v s1 ⟨x,H1,I1,r1,_,_,e1,o1,rx,q1,BX⟩=>?_);subst q1;subst BX;cases (show x=V.bl p from rx);cases r1;refine wpAny_truthy_bool ?_;cases p with
 |false=>exact thn (hb rfl AD s1 σ H1 I1 (S.ext e1 o1)) fun _ _ z=>EP.mono z fun _ _ y=>Po.trans e1 y
 |true=>exact⟨.bl true,H1,I1,rfl,.bl true,_,e1,o1,rfl,rfl,rfl⟩
theorem R7{p:Bool}(ha:PX X ρ G a (.bl p)):PX X ρ G (.UnaryOp .Not a pos) (.bl (!p)):=by intro AD s σ H I S;refine UnaryOp_ (thn (ha AD s σ H I S) fun v s1 ⟨x,H1,I1,r1,_,_,e1,o1,rx,q1,BX⟩=>?_);subst q1;subst BX;cases (show x=V.bl p from rx);cases r1;exact not_of (wpAny_truthy_bool ⟨.bl (!p),H1,I1,rfl,.bl (!p),_,e1,o1,rfl,rfl,rfl⟩)
def PXW(X:Cx)(ρ:Rho)(G:Gs)(e:Expr)(b:Bool):Prop:=∀(whole:Sem Value)(AD:List (Addr×Obj))(s:Shared)(σ:St)(H:Hp),Inv X AD σ H s->Stt X H σ ρ G->wpAny (model X.prog X.w) X.A (isTrue e X.env whole) (TP X AD σ (PoT X H G fun b' G'=>b'=b/\G'=G)) X.xe s
theorem PXW.t{p:Bool}(h:PXW X ρ G e p):PXT X ρ G e p:=fun AD s σ H I S=>h _ AD s σ H I S
theorem CY{p:Bool}{Q:Bool->Gs->Prop}(h:PXT X ρ G e p)(q:Q p G):WT X ρ G e Q:=fun AD s σ H I S=>thn (h AD s σ H I S) fun _ _ z=>TP.mono z fun _ _ ⟨_,e,o,q1,q2⟩=>by
 subst q1;subst q2;exact⟨_,e,o,q⟩
theorem El{p:Bool}(h:PXT X ρ G a p):PXW X ρ G (.BoolOp .And [a] pos) p:=by
 intro wh AD s σ H I S;refine isTrue_and (thn (h AD s σ H I S) fun c s1 e=>?_);cases c with
 |true=>exact isTrue_and_nil e
 |false=>exact e
theorem TV{p:Bool}(h:PXT X ρ G a p):PXW X ρ G (.BoolOp .Or [a] pos) p:=by
 intro wh AD s σ H I S;refine isTrue_or (thn (h AD s σ H I S) fun c s1 e=>?_);cases c with
 |false=>exact isTrue_or_nil e
 |true=>exact e
theorem HC{rest:List Expr}{p q:Bool}(ha:PXT X ρ G a p)(hb:p=true->PXW X ρ G (.BoolOp .And (b::rest) pos) q):PXW X ρ G (.BoolOp .And (a::b::rest) pos) (p&&q):=by
 intro wh AD s σ H I S;refine isTrue_and (thn (ha AD s σ H I S) fun c s1 ⟨H1,I1,_,e1,o1,q1,q2⟩=>?_);subst q1;subst q2;cases c with
 |true=>exact thn (hb rfl wh AD s1 σ H1 I1 (S.ext e1 o1)) fun _ _ z=>TP.mono z fun _ _ y=>PoT.trans e1 y
 |false=>exact⟨H1,I1,_,e1,o1,rfl,rfl⟩
theorem Yj{rest:List Expr}{p q:Bool}(ha:PXT X ρ G a p)(hb:p=false->PXW X ρ G (.BoolOp .Or (b::rest) pos) q):PXW X ρ G (.BoolOp .Or (a::b::rest) pos) (p||q):=by
 intro wh AD s σ H I S;refine isTrue_or (thn (ha AD s σ H I S) fun c s1 ⟨H1,I1,_,e1,o1,q1,q2⟩=>?_);subst q1;subst q2;cases c with
 |false=>exact thn (hb rfl wh AD s1 σ H1 I1 (S.ext e1 o1)) fun _ _ z=>TP.mono z fun _ _ y=>PoT.trans e1 y
 |true=>exact⟨H1,I1,_,e1,o1,rfl,rfl⟩
theorem DS{p:Bool}(ha:PXT X ρ G a p):PXT X ρ G (.UnaryOp .Not a pos) (!p):=by intro AD s σ H I S;refine isTrue_not (Q:=TP X AD σ (PoT X H G fun b' G'=>b'=(!p)/\G'=G)) (thn (ha AD s σ H I S) fun c s1 ⟨H1,I1,_,e1,o1,q1,q2⟩=>?_);subst q1;subst q2;exact⟨H1,I1,_,e1,o1,rfl,rfl⟩
theorem B4{p:Bool}(h:PX X ρ G e (.bl p))(he:∀whole,isTrue e X.env whole=(do let v <-whole;standAt e.pos;holding [v] (truthy v)):=by intro _;rfl):PXT X ρ G e p:=by intro AD s σ H I S;refine isTrue_plain (thn (h AD s σ H I S) fun v s1 ⟨x,H1,I1,r1,_,_,e1,o1,rx,q1,BX⟩=>?_) (he _);subst q1;subst BX;cases (show x=V.bl p from rx);cases r1;exact wpAny_truthy_bool ⟨H1,I1,_,e1,o1,rfl,rfl⟩
def du:Dat->Option Bool
 |.non=>some false
 |.bl b=>some b
 |.int i=>some (i != 0)
 |.tup l=>some (!l.isEmpty)
 |.lst l=>some (!l.isEmpty)
 |_=>none
theorem Zp{K:PySem.W.Frag}{H:Hp}{v:V}{p:Bool}(h:du d=some p)(r:Rep K (hid H G) d v):eU K v H p:=by
 cases d<;>simp only[du,Option.some.injEq,reduceCtorEq]at h<;>subst h<;>rw[Rep]at r
 ·subst r;rfl
 ·subst r;rfl
 ·subst r;rfl
 ·obtain⟨a,vs,rfl,h1,h2⟩:=r;refine .inr (.inl ⟨vs,Av AK h1,?_⟩)
  have:=h2.length
  rename_i l;cases l<;>cases vs<;>simp_all
 ·obtain⟨a,vs,rfl,h1,h2⟩:=r;refine .inl ⟨vs,SqL.of (AK _ _ h1),?_⟩
  have:=h2.length
  rename_i l;cases l<;>cases vs<;>simp_all
theorem HQ{p:Bool}(h:PX X ρ G e d)(ht:du d=some p)(he:∀whole,isTrue e X.env whole=(do let v <-whole;standAt e.pos;holding [v] (truthy v)):=by intro _;rfl):PXT X ρ G e p:=gj (Y9 Ax he) fun σ H S=>⟨ρ,G,_,h,S,fun x H1 ⟨_,_,e1,o1,r1,q1,BX⟩=>by
  subst q1;subst BX;exact⟨p,Zp ht r1,_,e1,o1,rfl,rfl⟩⟩
theorem AE:PXs X ρ G [] []:=UK Cb fun σ H S=>⟨[],G,Ext.refl,S.own,RepL.nil,rfl,rfl⟩
theorem AB(ha:PX X ρ G e d)(hr:PXs X ρ G es ds)(hs:starEach (e::es) X.env=(false,eval e X.env)::starEach es X.env:=by rfl):PXs X ρ G (e::es) (d::ds):=UK (BG Ax Ly hs) fun σ H S=>⟨ρ,G,_,ha,S,fun x H1 ⟨_,_,e1,o1,r1,q1,BX⟩=>by
  subst q1;subst BX;refine⟨ρ,_,_,hr,S.ext e1 o1,fun xs H2 ⟨_,_,e2,o2,r2,q2,FQ⟩=>?_⟩;subst q2;subst FQ;exact⟨_,_,e1.trans e2,o2,RepL.cons (r1.same e2.hid) r2,rfl,rfl⟩⟩
theorem Kg{H:Hp}{p:Addr}{vs:List V}(o:GOk X.K H G)(hp:H p=none)(r:RepL X.K (hid H G) ds vs):Po X H G (fun d' G'=>d'=.tup ds/\G'=G) (.ref p) (upd H p (.tup vs)):=po1 (Ext.alloc hp) (o.alloc hp) (by rw[Rep];exact⟨p,vs,rfl,SqT.of (Fn (o.free hp) BJ),r.same (Ext.alloc hp).hid⟩)
theorem HW{H:Hp}{p:Addr}{vs:List V}(o:GOk X.K H G)(hp:H p=none)(r:RepL X.K (hid H G) ds vs):Po X H G (fun d' G'=>d'=.lst ds/\G'=G) (.ref p) (upd H p (.lst vs)):=po1 (Ext.alloc hp) (o.alloc hp) (by rw[Rep];exact⟨p,vs,rfl,Fn (o.free hp) BJ,r.same (Ext.alloc hp).hid⟩)
theorem AM{x1}(h:PXs X ρ G es ds)(hz:ds.length<=1000:=by first|decide|(simp;done)):PX X ρ G (.Tuple es x1 pos) (.tup ds):=Bn (c7 Ly) fun σ H S=>⟨ρ,G,_,h,S,fun vs H1 ⟨_,_,e1,o1,r1,q1,BX⟩=>by
  subst q1;subst BX;exact⟨by rw[r1.length];exact Nat.le_of_lt (Jl hz),fun p hp=>Po.trans e1 (Kg o1 hp r1)⟩⟩
theorem B8(h:PXs X ρ G es ds)(hz:ds.length<=1000:=by first|decide|(simp;done)):PX X ρ G (.List es pos) (.lst ds):=Bn (Xf Ly) fun σ H S=>⟨ρ,G,_,h,S,fun vs H1 ⟨_,_,e1,o1,r1,q1,BX⟩=>by
  subst q1;subst BX;exact⟨by rw[r1.length];exact Nat.le_of_lt (Jl hz),fun p hp=>Po.trans e1 (HW o1 hp r1)⟩⟩
theorem Ol(ha:PX X ρ G a (.lst l))(hb:PX X ρ G b (.lst m))(hz:l.length+m.length<=sizeLine):PX X ρ G (.BinOp a .Add b pos) (.lst (l++m)):=J7 SO ha hb fun H x y Q o hx hy k=>by
  rw[Rep]at hx hy;obtain⟨p,vs,e1,h1,r1⟩:=hx;obtain⟨q,us,e2,h2,r2⟩:=hy;exact⟨p,q,vs,us,e1,e2,AK _ _ h1,AK _ _ h2,by rw[r1.length,r2.length];exact hz,fun t ht=>k _ _ (HW o ht (r1.append r2))⟩
theorem N2{K:PySem.W.Frag}{H:Hp}{vs:List V}(r:RepL K H l vs)(h:atI l i=some d):∃v,atI vs i=some v/\Rep K H d v:=by
 unfold atI at h ⊢;rw[r.length];cases q:ixN l.length i with
 |none=>rw[q]at h;cases h
 |some j=>rw[q]at h;exact r.get h
theorem Au(ha:PX X ρ G a (.tup l))(hb:PX X ρ G b (.int i))(hi:atI l i=some d)(hs:E9 b:=by intro _ _;rfl):PX X ρ G (.Subscript a b pos) d:=Bn (Tb eV Ax Ax hs) fun σ H S=>⟨ρ,G,_,ha,S,fun x H1 ⟨_,_,e1,o1,r1,q1,BX⟩=>by
  subst q1;subst BX;refine⟨ρ,_,_,hb,S.ext e1 o1,fun y H2 ⟨_,_,e2,o2,r2,q2,FQ⟩=>?_⟩;subst q2;subst FQ;have r1:=r1.same e2.hid;rw[Rep]at r1;obtain⟨p,vs,e3,h3,r3⟩:=r1;obtain⟨v,h4,r4⟩:=N2 r3 hi;exact⟨p,vs,i,v,e3,r2,Av AK h3,h4,Po.trans (e1.trans e2) (Bc o2 r4)⟩⟩
theorem DP(ha:PX X ρ G a (.lst l))(hb:PX X ρ G b (.int i))(hi:atI l i=some d)(hs:E9 b:=by intro _ _;rfl):PX X ρ G (.Subscript a b pos) d:=Bn (Tb OX Ax Ax hs) fun σ H S=>⟨ρ,G,_,ha,S,fun x H1 ⟨_,_,e1,o1,r1,q1,BX⟩=>by
  subst q1;subst BX;refine⟨ρ,_,_,hb,S.ext e1 o1,fun y H2 ⟨_,_,e2,o2,r2,q2,FQ⟩=>?_⟩;subst q2;subst FQ;have r1:=r1.same e2.hid;rw[Rep]at r1;obtain⟨p,vs,e3,h3,r3⟩:=r1;obtain⟨v,h4,r4⟩:=N2 r3 hi;exact⟨p,vs,i,v,e3,r2,SqL.of (AK _ _ h3),h4,Po.trans (e1.trans e2) (Bc o2 r4)⟩⟩
theorem dm{ns:List Int}{z:Int}(ha:PX X ρ G a (.scr ns))(hb:PX X ρ G b (.int i))(hi:atI ns i=some z)(hs:E9 b:=by intro _ _;rfl):PX X ρ G (.Subscript a b pos) (.int z):=Bn (Tb OX Ax Ax hs) fun σ H S=>⟨ρ,G,_,ha,S,fun x H1 ⟨_,_,e1,o1,r1,q1,BX⟩=>by
  subst q1;subst BX;refine⟨ρ,_,_,hb,S.ext e1 o1,fun y H2 ⟨_,_,e2,o2,r2,q2,FQ⟩=>?_⟩;subst q2;subst FQ;have r1:=r1.same e2.hid;rw[Rep]at r1;obtain⟨p,e3,h3⟩:=r1;refine⟨p,_,i,V.int z,e3,r2,Same.seq AK h3,?_,Po.trans (e1.trans e2) (Bc o2 rfl)⟩;unfold atI at hi ⊢;rw[List.length_map];cases q:ixN ns.length i with
  |none=>rw[q]at hi;cases hi
  |some j=>rw[q]at hi;show(ns.map V.int)[j]?=_;rw[List.getElem?_map,show ns[j]?=some z from hi];rfl⟩
theorem c9{p:Addr}(ha:PX X ρ G a (.fn p))(hb:PX X ρ G b (.int i))(hG:G p=some (.lst l))(hi:atI l i=some d)(hs:E9 b:=by intro _ _;rfl):PX X ρ G (.Subscript a b pos) d:=Bn (Tb OX Ax Ax hs) fun σ H S=>⟨ρ,G,_,ha,S,fun x H1 ⟨_,_,e1,o1,r1,q1,BX⟩=>by
  subst q1;subst BX;refine⟨ρ,_,_,hb,S.ext e1 o1,fun y H2 ⟨_,_,e2,o2,r2,q2,FQ⟩=>?_⟩;subst q2;subst FQ;obtain⟨vs,h3,r3⟩:=o2 p _ hG;obtain⟨v,h4,r4⟩:=N2 r3 hi;exact⟨p,vs,i,v,r1,r2,SqL.of h3,h4,Po.trans (e1.trans e2) (Bc o2 r4)⟩⟩
theorem En{f:Str}{id:String}{r:List V->Hp->VK->Prop}{p:Pos}(hc:Cc X (.builtin id) r)(hg:Gl X f)(hm:X.mg f=none)(hv:bootBuiltins f=some (.builtin id))(ha:PX X ρ G a d1)(hr:∀(H:Hp)(x:V)(Q:VK),GOk X.K H G->Rep X.K (hid H G) d1 x->(∀v H',Po X H G (fun d' G'=>d'=d/\G'=G) v H'->Q v H')->r [x] H Q)(hn:f≠"__name__":=by decide)(MM:(f==("__debug__":Str))=false:=by decide)(he:starEach [a] X.env=(false,eval a X.env)::starEach [] X.env:=by rfl):PX X ρ G (.Call (.Name f p) [a] [] pos) d:=Bn (Gb hc hg hm hv (BG Ax Cb he) hn MM he rfl) fun σ H S=>⟨ρ,G,_,ha,S,fun x H1 ⟨_,_,e1,o1,r1,q1,BX⟩=>by
  subst q1;subst BX;exact hr H1 x _ o1 r1 fun v H' z=>Po.trans e1 z⟩
theorem NB{f:Str}{T:String}{r:List V->Hp->VK->Prop}{p:Pos}(hc:Cc X (.type T) r)(hg:Gl X f)(hm:X.mg f=none)(hv:bootBuiltins f=some (.type T))(ha:PX X ρ G a d1)(hr:∀(H:Hp)(x:V)(Q:VK),GOk X.K H G->Rep X.K (hid H G) d1 x->(∀v H',Po X H G (fun d' G'=>d'=d/\G'=G) v H'->Q v H')->r [x] H Q)(hn:f≠"__name__":=by decide)(MM:(f==("__debug__":Str))=false:=by decide)(he:starEach [a] X.env=(false,eval a X.env)::starEach [] X.env:=by rfl):PX X ρ G (.Call (.Name f p) [a] [] pos) d:=Bn (Mh hc hg hm hv (BG Ax Cb he) hn MM he rfl) fun σ H S=>⟨ρ,G,_,ha,S,fun x H1 ⟨_,_,e1,o1,r1,q1,BX⟩=>by
  subst q1;subst BX;exact hr H1 x _ o1 r1 fun v H' z=>Po.trans e1 z⟩
def JC(G:Gs):Dat->Option Nat
 |.tup l=>some l.length
 |.lst l=>some l.length
 |.scr ns=>some ns.length
 |.fn p=>match G p with|some (.lst l)=>some l.length|_=>none
 |_=>none
theorem bA{K:PySem.W.Frag}{H:Hp}{v:V}{n:Nat}(h:JC G d=some n)(o:GOk K H G)(r:Rep K (hid H G) d v):∃p ys,v=.ref p/\(SqL K H p ys\/SqT K H p ys)/\ys.length=n:=by
 cases d<;>simp only[JC,Option.some.injEq,reduceCtorEq]at h<;>rw[Rep]at r
 ·split at h
  ·rename_i p l hG;cases h;obtain⟨vs,h3,r3⟩:=o _ _ hG;exact⟨_,vs,r,.inl (SqL.of h3),r3.length⟩
  ·cases h
 ·obtain⟨p,e,q⟩:=r;exact⟨p,_,e,.inl (Same.seq AK q),by rw[List.length_map];exact h⟩
 ·obtain⟨p,vs,e,q,r⟩:=r;exact⟨p,vs,e,.inr (Av AK q),by rw[r.length];exact h⟩
 ·obtain⟨p,vs,e,q,r⟩:=r;exact⟨p,vs,e,.inl (SqL.of (AK _ _ q)),by rw[r.length];exact h⟩
theorem Bp{n:Nat}{p:Pos}(hg:Gl X "len")(hm:X.mg "len"=none)(ha:PX X ρ G a d1)(h:JC G d1=some n)(he:starEach [a] X.env=(false,eval a X.env)::starEach [] X.env:=by rfl):PX X ρ G (.Call (.Name "len" p) [a] [] pos) (.int n):=En OW hg hm PySem.boot_len ha (fun H x Q o r k=>by
  obtain⟨q,ys,e,hq,hl⟩:=bA h o r;exact⟨q,ys,by rw[e],hq,k _ _ (Bc o (by rw[hl];rfl))⟩) (he:=he)
theorem Cz{p:Pos}(hg:Gl X "tuple")(hm:X.mg "tuple"=none)(hv:bootBuiltins "tuple"=some (.type "tuple"))(ha:PX X ρ G a (.lst l))(he:starEach [a] X.env=(false,eval a X.env)::starEach [] X.env:=by rfl):PX X ρ G (.Call (.Name "tuple" p) [a] [] pos) (.tup l):=NB MF hg hm hv ha (fun H x Q o r k=>by
  rw[Rep]at r;obtain⟨q,vs,e,h1,r1⟩:=r;exact⟨q,vs,by rw[e],.inl ⟨SqL.of (AK _ _ h1),fun t ht=>k _ _ (Kg o ht r1)⟩⟩) (he:=he)
end
structure DE where
 nx:Rho->Gs->Prop
 rt:Dat->Gs->Prop
 bk:Rho->Gs->Prop:=fun _ _=>False
 ct:Rho->Gs->Prop:=fun _ _=>False
def lft(X:Cx)(H:Hp)(G:Gs)(q:Rho->Gs->Prop):St->Hp->Prop:=fun σ' H'=>∃ρ' G',Ext H G H' G'/\Stt X H' σ' ρ' G'/\q ρ' G'
def Lv(X:Cx)(H:Hp)(G:Gs)(D:DE):Ends where
 nx:=lft X H G D.nx
 rt:=Po X H G D.rt
 bk:=lft X H G D.bk
 ct:=lft X H G D.ct
def WS(X:Cx)(ρ:Rho)(G:Gs)(st:Stmt)(D:DE):Prop:=∀(AD:List (Addr×Obj))(s:Shared)(σ:St)(H:Hp),Inv X AD σ H s->Stt X H σ ρ G->wpAny (model X.prog X.w) X.A (exec st X.env) (SP X AD (Lv X H G D)) X.xe s
def WSs(X:Cx)(ρ:Rho)(G:Gs)(st:List Stmt)(D:DE):Prop:=∀(AD:List (Addr×Obj))(s:Shared)(σ:St)(H:Hp),Inv X AD σ H s->Stt X H σ ρ G->wpAny (model X.prog X.w) X.A (execs st X.env) (SP X AD (Lv X H G D)) X.xe s
theorem SP.le{X:Cx}{AD:List (Addr×Obj)}{D D':Ends}{f:Flow}{s:Shared}(h:SP X AD D f s)(h1:∀σ H,D.nx σ H->D'.nx σ H)(h2:∀v H,D.rt v H->D'.rt v H)(h3:∀σ H,D.bk σ H->D'.bk σ H)(h4:∀σ H,D.ct σ H->D'.ct σ H):SP X AD D' f s:=by
 cases f with
 |next=>obtain⟨σ,H,I,q⟩:=h;exact⟨σ,H,I,h1 _ _ q⟩
 |brk=>obtain⟨σ,H,I,q⟩:=h;exact⟨σ,H,I,h3 _ _ q⟩
 |cont=>obtain⟨σ,H,I,q⟩:=h;exact⟨σ,H,I,h4 _ _ q⟩
 |ret u=>obtain⟨v,σ,H,I,r,q⟩:=h;exact⟨v,σ,H,I,r,h2 _ _ q⟩
theorem Ek{X:Cx}{H H1:Hp}{G G1:Gs}{q:Rho->Gs->Prop}(e:Ext H G H1 G1){σ:St}{H':Hp}(h:lft X H1 G1 q σ H'):lft X H G q σ H':=let ⟨ρ',G',e',S,q⟩:=h;⟨ρ',G',e.trans e',S,q⟩
theorem Lp{X:Cx}{H:Hp}{G:Gs}{q q':Rho->Gs->Prop}(k:∀ρ G,q ρ G->q' ρ G){σ:St}{H':Hp}(h:lft X H G q σ H'):lft X H G q' σ H':=let ⟨ρ',G',e',S,q⟩:=h;⟨ρ',G',e',S,k _ _ q⟩
theorem SP.trans{X:Cx}{AD:List (Addr×Obj)}{D:DE}{f:Flow}{s:Shared}{H H1:Hp}{G G1:Gs}(e:Ext H G H1 G1)(h:SP X AD (Lv X H1 G1 D) f s):SP X AD (Lv X H G D) f s:=SP.le h (fun _ _ q=>Ek e q) (fun _ _ q=>Po.trans e q) (fun _ _ q=>Ek e q) (fun _ _ q=>Ek e q)
section
variable {X:Cx}{ρ:Rho}{G:Gs}{e a b c:Expr}{es:List Expr}{d d' d1 d2:Dat}{ds l m:List Dat}{pos:Pos}{D:DE}{rest body:List Stmt}{st:Stmt}
theorem AI(h:D.nx ρ G):WSs X ρ G [] D:=fun AD s σ H I S=>wpAny_execs_nil ⟨σ,H,I,ρ,G,Ext.refl,S,h⟩
theorem BP(h:WS X ρ G st { D with nx:=fun ρ' G'=>WSs X ρ' G' rest D }):WSs X ρ G (st::rest) D:=by
 intro AD s σ H I S;refine wpAny_execs_cons (thn (h AD s σ H I S) fun f s1 q=>?_);cases f with
 |next=>
  obtain⟨σ',H',I',ρ',G',e',S',q⟩:=q;exact thn (q AD s1 σ' H' I' S') fun _ _ z=>SP.trans e' z
 |ret v=>exact q
 |brk=>exact q
 |cont=>exact q
theorem KP{t:TS}(h:PS X st t)(hq:∀σ H,Stt X H σ ρ G->t (Lv X H G D) σ H):WS X ρ G st D:=fun AD s σ H I S=>h AD s σ H _ I (hq σ H S)
def fz(X:Cx)(st:List Stmt):TS:=fun D' σ H=>∃ρ G D,WSs X ρ G st D/\Stt X H σ ρ G/\(∀σ' H',(Lv X H G D).nx σ' H'->D'.nx σ' H')/\(∀v H',(Lv X H G D).rt v H'->D'.rt v H')/\(∀σ' H',(Lv X H G D).bk σ' H'->D'.bk σ' H')/\(∀σ' H',(Lv X H G D).ct σ' H'->D'.ct σ' H')
theorem cw{st:List Stmt}:PSs X st (fz X st):=fun AD s σ H D' I ⟨ρ,G,D,h,S,h1,h2,h3,h4⟩=>thn (h AD s σ H I S) fun _ _ q=>SP.le q h1 h2 h3 h4
theorem WSs.mono{st:List Stmt}{D':DE}(h:WSs X ρ G st D)(h1:∀ρ G,D.nx ρ G->D'.nx ρ G)(h2:∀d G,D.rt d G->D'.rt d G)(h3:∀ρ G,D.bk ρ G->D'.bk ρ G)(h4:∀ρ G,D.ct ρ G->D'.ct ρ G):WSs X ρ G st D':=fun AD s σ H I S=>
 thn (h AD s σ H I S) fun _ _ q=>SP.le q (fun _ _ z=>Lp h1 z) (fun _ _ z=>Po.mono z h2) (fun _ _ z=>Lp h3 z) (fun _ _ z=>Lp h4 z)
theorem BC(h:WE X ρ G e D.rt):WSs X ρ G (.Return (some e) pos::rest) D:=BP fun AD s σ H I S=>
 wpAny_Return_some (thn (h AD s σ H I S) fun v s1 ⟨x,H1,I1,r1,q1⟩=>⟨x,σ,H1,I1,r1,q1⟩)
theorem AV(h:PX X ρ G e d)(q:D.rt d G):WSs X ρ G (.Return (some e) pos::rest) D:=BC (h.we q)
theorem JR(h:WE X ρ G e fun _ G'=>WSs X ρ G' rest D)(hs:swapsWith e none pos.line X.env=pure false:=by rfl):WSs X ρ G (.Expr e pos::rest) D:=BP (KP (Ij Ax hs) fun σ H S=>⟨ρ,G,_,h,S,fun v H' ⟨d,G',e',o',r',q'⟩=>⟨ρ,G',e',S.ext e' o',q'⟩⟩)
theorem Af(i:Nat){x:Str}{pos':Pos}(hN:X.N.Nodup)(h:WE X ρ G e fun d G'=>WSs X (ρ.set i (some d)) G' rest D)(hi:X.N[i]?=some x:=by rfl)(hx:Loc X.env.scope x:=by first|exact Or.inl rfl|exact Or.inr rfl)(hs:swapsWith e (some (.Name x pos')) pos.line X.env=pure false:=by rfl)(hf:X.fn x=true\/X.env.scope.names.lookup x=some .local:=by first|exact .inl rfl|exact .inr rfl|assumption):WSs X ρ G (.Assign [.Name x pos'] e pos::rest) D:=BP (KP (Yr (i:=i) hN hi hx Ax hs hf) fun σ H S=>⟨ρ,G,_,h,S,fun v H' ⟨d,G',e',o',r',q'⟩=>⟨_,G',e',(S.ext e' o').set r',q'⟩⟩)
theorem AS(i:Nat){x:Str}{pos':Pos}(hN:X.N.Nodup)(h:PX X ρ G e d)(q:WSs X (ρ.set i (some d)) G rest D)(hi:X.N[i]?=some x:=by rfl)(hx:Loc X.env.scope x:=by first|exact Or.inl rfl|exact Or.inr rfl)(hs:swapsWith e (some (.Name x pos')) pos.line X.env=pure false:=by rfl)(hf:X.fn x=true\/X.env.scope.names.lookup x=some .local:=by first|exact .inl rfl|exact .inr rfl|assumption):WSs X ρ G (.Assign [.Name x pos'] e pos::rest) D:=Af i hN (h.we q) hi hx hs hf
def PGD(X:Cx)(tg:Expr)(f:Dat->Rho->Option Rho):Prop:=∀(AD:List (Addr×Obj))(s:Shared)(σ:St)(H:Hp)(v:V)(u:Value)(ρ ρ':Rho)(G:Gs)(d:Dat),Inv X AD σ H s->RelV v u->Stt X H σ ρ G->Rep X.K (hid H G) d v->f d ρ=some ρ' →
  wpAny (model X.prog X.w) X.A (assign tg X.env u) (fun _ s'=>∃σ' H',Inv X AD σ' H' s'/\Ext H G H' G/\Stt X H' σ' ρ' G) X.xe s
def BW(i:Nat):Dat->Rho->Option Rho:=fun d ρ=>some (ρ.set i (some d))
def Fu(i j:Nat):Dat->Rho->Option Rho:=fun d ρ=>match d with
 |.tup [a,b]=>some ((ρ.set i (some a)).set j (some b))
 |_=>none
theorem Aa(i:Nat){x:Str}(hN:X.N.Nodup)(hi:X.N[i]?=some x:=by rfl)(hx:Loc X.env.scope x:=by first|exact Or.inl rfl|exact Or.inr rfl)(hf:X.fn x=true\/X.env.scope.names.lookup x=some .local:=by first|exact .inl rfl|exact .inr rfl|assumption):PGD X (.Name x pos) (BW i):=by intro AD s σ H v u ρ ρ' G d I r S q e;cases e;exact HH hN hi hx hf AD s σ H v u (fun σ' H'=>Ext H G H' G/\Stt X H' σ' _ G) I r ⟨Ext.refl,S.set q⟩
theorem DH(i j:Nat){x y:Str}{px py:Pos}{k:Nat}(hc:X.calm=true)(hN:X.N.Nodup)(hi:X.N[i]?=some x:=by rfl)(hj:X.N[j]?=some y:=by rfl)(hx:Loc X.env.scope x:=by first|exact Or.inl rfl|exact Or.inr rfl)(hy:Loc X.env.scope y:=by first|exact Or.inl rfl|exact Or.inr rfl)(kA:X.fn x=true\/X.env.scope.names.lookup x=some .local:=by first|exact .inl rfl|exact .inr rfl|assumption)(l4:X.fn y=true\/X.env.scope.names.lookup y=some .local:=by first|exact .inl rfl|exact .inr rfl|assumption):PGD X (.Tuple [.Name x px,.Name y py] k pos) (Fu i j):=by
 intro AD s σ H v u ρ ρ' G d I r S q e;cases d<;>simp only[Fu,reduceCtorEq]at e;rename_i l
 match l,e,q with
 |[a,b],e,q=>
  simp only[Option.some.injEq]at e;subst e;rw[Rep]at q;obtain⟨p,vs,rfl,h1,h2⟩:=q;rw[RepL]at h2;obtain⟨v1,r1,rfl,q1,h2⟩:=h2;rw[RepL]at h2;obtain⟨v2,r2,rfl,q2,h2⟩:=h2;rw[RepL]at h2;subst h2;exact Y2 (n:=2) hc (Gn (HH hN hi hx kA) (Gn (HH hN hj hy l4) Tc)) rfl rfl AD s σ H (.ref p) u (fun σ' H'=>Ext H G H' G/\Stt X H' σ' _ G) I r
   ⟨p,[v1,v2],rfl,Av AK h1,rfl,v1,[v2],rfl,v2,[],rfl,rfl,Ext.refl,(S.set q1).set q2⟩
 |[],e,_=>simp at e
 |[_],e,_=>simp at e
 |_::_::_::_,e,_=>simp at e
theorem R6{tg:Expr}{f:Dat->Rho->Option Rho}{ρ':Rho}(hg:PGD X tg f)(h:PX X ρ G e d)(hf:f d ρ=some ρ')(q:WSs X ρ' G rest D)(hs:swapsWithSole [tg] e pos.line X.env=pure false:=by rfl)(hw:swappedStores [tg] e X.env=pure none:=by rfl)(h1:(assignEach [tg] X.env).map (·.2)=[assign tg X.env]:=by rfl):WSs X ρ G (.Assign [tg] e pos::rest) D:=BP fun AD s σ H I S=>by
 refine wpAny_Assign_stores (thn (h AD s σ H I S) fun v s1 ⟨x,H1,I1,r1,_,_,e1,o1,rx,q1,BX⟩=>?_) hs hw;subst q1;subst BX;rw[h1];exact thn (hg AD s1 σ H1 x v ρ ρ' _ _ I1 r1 (S.ext e1 o1) rx hf) fun _ s2 ⟨σ2,H2,I2,e2,S2⟩=>⟨σ2,H2,I2,ρ',_,e1.trans e2,S2,q⟩
theorem Ug{x y:List Stmt}(hc:WT X ρ G c fun p G'=>(p=true->WSs X ρ G' x { D with nx:=fun ρ' G'=>WSs X ρ' G' rest D })/\(p=false->WSs X ρ G' y { D with nx:=fun ρ' G'=>WSs X ρ' G' rest D })):WSs X ρ G (.If c x y pos::rest) D:=BP fun AD s σ H I S=>by
 refine wpAny_If (thn (hc AD s σ H I S) fun p s1 ⟨H1,I1,G1,e1,o1,q1⟩=>?_);cases p with
 |true=>exact thn (q1.1 rfl AD s1 σ H1 I1 (S.ext e1 o1)) fun _ _ z=>SP.trans e1 z
 |false=>exact thn (q1.2 rfl AD s1 σ H1 I1 (S.ext e1 o1)) fun _ _ z=>SP.trans e1 z
theorem Ar{x y:List Stmt}{p:Bool}(hc:PXT X ρ G c p)(ht:p=true->WSs X ρ G x { D with nx:=fun ρ' G'=>WSs X ρ' G' rest D })(hf:p=false->WSs X ρ G y { D with nx:=fun ρ' G'=>WSs X ρ' G' rest D }):WSs X ρ G (.If c x y pos::rest) D:=Ug (CY hc ⟨ht,hf⟩)
def Wk(K:PySem.W.Frag)(J:It)(H:Hp)(G:Gs)(l:List Dat):Prop:=∀H' G',Ext H G H' G'->(∀(i:Nat) d,l[i]?=some d->J.go i H'/\∀x ZE,J.yld i H' x ZE->Ext H' G' ZE G'/\(GOk K H' G'->GOk K ZE G')/\(GOk K H' G'->Rep K (hid ZE G') d x))/\J.stop l.length H'
def WI(X:Cx)(ρ:Rho)(G:Gs)(tg An:Expr)(Q:List Dat->Gs->Prop):Prop:=∀(AD:List (Addr×Obj))(s:Shared)(σ:St)(H:Hp),Inv X AD σ H s->Stt X H σ ρ G →
  wpAny (model X.prog X.w) X.A (eval An X.env) (fun v s1=>wpAny (model X.prog X.w) X.A (pyIter v) (PIE X AD σ tg fun J H'=>∃l G',Ext H G H' G'/\GOk X.K H' G'/\Wk X.K J H' G' l/\Q l G') X.xe s1) X.xe s
theorem Zu{K:PySem.W.Frag}{H:Hp}{p:Addr}{vs:List V}(h:hid H G p=some (.lst vs))(r:RepL K (hid H G) l vs):Wk K (Itl K p) H G l:=by
 intro H' G' e;have h':=AK _ _ (e.hid _ _ h);refine⟨fun i d hd=>?_,vs,SqL.of h',by rw[r.length];exact Nat.le_refl _⟩;obtain⟨v,hv,rv⟩:=r.get hd;refine⟨⟨vs,v,SqL.of h',hv⟩,fun x ZE ⟨e1,y⟩=>?_⟩;subst e1
 have:=y vs (SqL.of h')
 rw[hv]at this;cases this;exact⟨Ext.refl,fun o=>o,fun _=>rv.same e.hid⟩
theorem eP{K:PySem.W.Frag}{H:Hp}{p:Addr}{vs:List V}(h:SqT K (hid H G) p vs)(r:RepL K (hid H G) l vs):Wk K (Itt K p) H G l:=by
 intro H' G' e;have h':=Av AK (Av e.hid h);refine⟨fun i d hd=>?_,vs,h',by rw[r.length];exact Nat.le_refl _⟩;obtain⟨v,hv,rv⟩:=r.get hd;refine⟨⟨vs,v,h',hv⟩,fun x ZE ⟨e1,y⟩=>?_⟩;subst e1
 have:=y vs h'
 rw[hv]at this;cases this;exact⟨Ext.refl,fun o=>o,fun _=>rv.same e.hid⟩
def BK(lo:Int)(n:Nat):List Dat:=(List.range n).map fun i=>.int (lo+(i:Nat))
theorem Wm{K:PySem.W.Frag}{H:Hp}{lo:Int}{n:Nat}:Wk K (Itr lo n) H G (BK lo n):=by
 intro H' G' e;refine⟨fun i d hd=>?_,by show n<=(BK lo n).length;simp[BK]⟩;have hi:i<n:=by
  have:=(List.getElem?_eq_some_iff.mp hd).1
  simpa[BK]using this
 refine⟨hi,fun x ZE ⟨e1,e2⟩=>?_⟩;subst e1;subst e2;refine⟨Ext.refl,fun o=>o,fun _=>?_⟩;have:(BK lo n)[i]?=some (.int (lo+i)):=by simp[BK,hi]
 rw[this]at hd;cases hd;rfl
theorem Bl{tg An:Expr}{Q:List Dat->Gs->Prop}(h:WE X ρ G An fun d G'=>∃l,d=.lst l/\Q l G'):WI X ρ G tg An Q:=fun AD s σ H I S=>
 aq Ax AD s σ H _ I ⟨ρ,G,_,h,S,fun x H1 ⟨d,G',e1,o1,r1,l,q1,q⟩=>by
  subst q1;rw[Rep]at r1;obtain⟨p,vs,e2,h2,r2⟩:=r1;exact⟨p,e2,⟨vs,SqL.of (AK _ _ h2)⟩,l,G',e1,o1,Zu h2 r2,q⟩⟩
theorem ar{tg An:Expr}{Q:List Dat->Gs->Prop}(h:WE X ρ G An fun d G'=>∃l,d=.tup l/\Q l G'):WI X ρ G tg An Q:=fun AD s σ H I S=>
 eE Ax AD s σ H _ I ⟨ρ,G,_,h,S,fun x H1 ⟨d,G',e1,o1,r1,l,q1,q⟩=>by
  subst q1;rw[Rep]at r1;obtain⟨p,vs,e2,h2,r2⟩:=r1;exact⟨p,e2,⟨vs,Av AK h2⟩,l,G',e1,o1,eP h2 r2,q⟩⟩
theorem Fc{tg An:Expr}{Q:List Dat->Gs->Prop}(h:PX X ρ G An (.lst l))(q:Q l G):WI X ρ G tg An Q:=Bl (h.we ⟨l,rfl,q⟩)
theorem C3{tg An:Expr}{Q:List Dat->Gs->Prop}(h:PX X ρ G An (.tup l))(q:Q l G):WI X ρ G tg An Q:=ar (h.we ⟨l,rfl,q⟩)
theorem HG{tg:Expr}{Q:List Dat->Gs->Prop}{n:Int}{p:Pos}(hg:Gl X "range")(hm:X.mg "range"=none)(ha:PX X ρ G a (.int n))(h1:-(2 ^ 62)<=n)(h2:n<2 ^ 62)(q:Q (BK 0 n.toNat) G)(hs:starEach [a] X.env=[(false,eval a X.env)]:=by rfl):WI X ρ G tg (.Call (.Name "range" p) [a] [] pos) Q:=fun AD s σ H I S=>
 VX hg hm (BG Ax Cb hs) hs AD s σ H _ I ⟨ρ,G,_,ha,S,fun x H1 ⟨_,_,e1,o1,r1,q1,BX⟩=>by
  subst q1;subst BX;cases (show x=V.int n from r1);exact⟨n,rfl,h1,h2,_,_,e1,o1,Wm,q⟩⟩
theorem NO{tg:Expr}{Q:List Dat->Gs->Prop}{i n:Int}{p:Pos}(hg:Gl X "range")(hm:X.mg "range"=none)(ha:PX X ρ G a (.int i))(hb:PX X ρ G b (.int n))(h0:-(2 ^ 62)<=i/\i<2 ^ 62/\-(2 ^ 62)<=n/\n<2 ^ 62)(q:Q (BK i (n-i).toNat) G)(hs:starEach [a,b] X.env=[(false,eval a X.env),(false,eval b X.env)]:=by rfl)(MT:starEach [b] X.env=[(false,eval b X.env)]:=by rfl):WI X ρ G tg (.Call (.Name "range" p) [a,b] [] pos) Q:=fun AD s σ H I S=>
 Vp hg hm (BG Ax (BG Ax Cb MT) (by rw[hs,MT])) hs MT AD s σ H _ I ⟨ρ,G,_,ha,S,fun x H1 ⟨_,_,e1,o1,r1,q1,BX⟩=>by
  subst q1;subst BX;cases (show x=V.int i from r1);refine⟨ρ,_,_,hb,S.ext e1 o1,fun y H2 ⟨_,_,e2,o2,r2,q2,FQ⟩=>?_⟩;subst q2;subst FQ;cases (show y=V.int n from r2);exact⟨i,n,rfl,h0,_,_,e1.trans e2,o2,Wm,q⟩⟩
theorem A7{tg An:Expr}{f:Dat->Rho->Option Rho}(Pv:Nat->Rho->Gs->Prop)(hp:PassesOwn (model X.prog X.w) X.A X.env X.xe)(hc:X.calm=true)(hi:WI X ρ G tg An fun l' G'=>l'=l/\Pv 0 ρ G')(hg:PGD X tg f)(hs:∀(i:Nat) d ρ' G',l[i]?=some d->Pv i ρ' G'->∃ρ'',f d ρ'=some ρ''/\WSs X ρ'' G' body { nx:=Pv (i+1),ct:=Pv (i+1),bk:=fun ρ' G'=>WSs X ρ' G' rest D,rt:=D.rt })(hd:∀ρ' G',Pv l.length ρ' G'->WSs X ρ' G' rest D)(Mq:∀x,foldedSetIterable An X.env x=pure x:=by intro _;rfl):WSs X ρ G (.For tg An body [] pos::rest) D:=BP fun AD s σ H I S=>by
 refine wpAny_For (thn (hi AD s σ H I S) fun v s1 h1=>thn h1 fun fb s2 h2=>?_) Mq;obtain⟨it,fp,tn,J,H2,e,I2,T,DA,f2,l',G2,e2,o2,wk,q,p0⟩:=h2;subst e;subst q;have Rm:∀{H':Hp},(∀b∈fp,H' b=none)->∀b∈fp,Jq X AD H' b:=fun hn b hb=>⟨hn b hb,(f2 b hb).2⟩;refine codeAny_forLoop_any (fun n s'=>∃i σ' H' ρ' G',i+n=l'.length/\Inv X AD σ' H' s'/\tn i s'.heap/\(∀b∈fp,H' b=none)/\Ext H2 G2 H' G'/\Stt X H' σ' ρ' G'/\Pv i ρ' G') ?_ l'.length
  ⟨0,σ,H2,ρ,G2,Nat.zero_add _,I2,DA,fun b hb=>(f2 b hb).1,Ext.refl,S.ext e2 o2,p0⟩
 rintro n s3 ⟨i,σ3,H3,ρ3,G3,hn,I3,He,oT,e3,S3,p3⟩;obtain⟨dJ,j2⟩:=wk H3 G3 e3;cases n with
 |zero=>
  have fu:i=l'.length:=by lia
  subst fu;refine wpAny_passesOwn hp (thn (T.done X rfl rfl rfl hc _ AD s3 σ3 H3 X.xe I3 (Rm oT) He j2) fun r s4 ⟨hr,I4⟩=>?_);subst hr;exact wpAny_execs_nil ⟨σ3,H3,I4,ρ3,G3,e2.trans e3,S3,hd ρ3 G3 p3⟩
 |succ n=>
  have A6:i<l'.length:=by lia
  obtain⟨go,dJ⟩:=dJ i _ (List.getElem?_eq_getElem A6);obtain⟨ρ4,qr,w4⟩:=hs i _ ρ3 G3 (List.getElem?_eq_getElem A6) p3;refine wpAny_passesOwn hp (thn (T.item X rfl rfl rfl hc i AD s3 σ3 H3 X.xe I3 (Rm oT) He go) fun r s4 ⟨u,hr,h4⟩=>?_);subst hr;refine wpAny_passesOwn hp (thn h4 fun _ s5 ⟨x,H5,I5,r5,y5,eX,jg⟩=>?_);obtain⟨e5,o5,ic⟩:=dJ x H5 y5;have kf:=ic S3.own;have pk:=I5.pinned (Rm jg) (T.obj _ _ eX);refine wpAny_passesOwn hp (thn (hg _ s5 σ3 H5 x u ρ3 ρ4 G3 _ pk r5 (S3.ext e5 (o5 S3.own)) kf qr) fun _ s6 ⟨σ6,H6,I6,e6,S6⟩=>?_);refine wpAny_passesOwn hp (thn (w4 _ s6 σ6 H6 I6 S6) fun f s7 q7=>?_);have again:∀{σ7:St}{H7:Hp},Inv X (AD++Ot fp s5.heap) σ7 H7 s7->lft X H6 G3 (Pv (i+1)) σ7 H7->∃m,m<n+1/\∃i σ' H' ρ' G',i+m=l'.length/\Inv X AD σ' H' s7/\tn i s7.heap/\(∀b∈fp,H' b=none)/\Ext H2 G2 H' G'/\Stt X H' σ' ρ' G'/\Pv i ρ' G':=fun {σ7 H7} I7 ⟨ρ7,G7,e7,S7,p7⟩=>by
   refine⟨n,Nat.lt_succ_self _,i+1,σ7,H7,ρ7,G7,by lia,I7.unpinned,T.keep _ _ _ eX fun b hb o e=>(I7.pin (b,o) (List.mem_append_right _ (List.mem_append_right _ (E6 hb e)))).1,fun b hb=>?_,(e3.trans (e5.trans (e6.trans e7))),S7,p7⟩;obtain⟨o,e,d⟩:=T.obj _ _ eX b hb;exact(I7.pin (b,o) (List.mem_append_right _ (List.mem_append_right _ (E6 hb e)))).2.1
  have whole:Ext H G H6 G3:=e2.trans (e3.trans (e5.trans e6));cases f with
  |next=>obtain⟨σ7,H7,I7,n7⟩:=q7;exact again I7 n7
  |cont=>obtain⟨σ7,H7,I7,n7⟩:=q7;exact again I7 n7
  |brk=>obtain⟨σ7,H7,I7,q7⟩:=q7;exact⟨σ7,H7,I7.unpinned,Ek whole q7⟩
  |ret v=>obtain⟨x7,σ7,H7,I7,r7,q7⟩:=q7;exact⟨x7,σ7,H7,I7.unpinned,r7,Po.trans whole q7⟩
theorem Cv(Pv:Nat->Rho->Gs->Prop)(hp:PassesOwn (model X.prog X.w) X.A X.env X.xe){m0:Nat}(h0:Pv m0 ρ G)(hs:∀m ρ' G',Pv m ρ' G'->WT X ρ' G' c fun p Lr=>(p=true->WSs X ρ' Lr body { nx:=fun ρ2 G2=>∃m',m'<m/\Pv m' ρ2 G2,ct:=fun ρ2 G2=>∃m',m'<m/\Pv m' ρ2 G2,bk:=fun ρ' G'=>WSs X ρ' G' rest D,rt:=D.rt })/\(p=false->WSs X ρ' Lr rest D)) :
  WSs X ρ G (.While c body [] pos::rest) D:=BP fun AD s σ H I S=>by
 refine wpAny_While (codeAny_whileLoop (fun n s'=>∃σ' H' ρ' G',Inv X AD σ' H' s'/\Ext H G H' G'/\Stt X H' σ' ρ' G'/\Pv n ρ' G') ?_ m0 ⟨σ,H,ρ,G,I,Ext.refl,S,h0⟩);rintro n s1 ⟨σ1,H1,ρ1,G1,I1,e1,S1,p1⟩;refine wpAny_passesOwn hp (thn (hs n ρ1 G1 p1 AD s1 σ1 H1 I1 S1) fun p s2 ⟨H2,I2,G2,e2,o2,q2⟩=>?_);cases p with
 |true=>
  rw[if_pos rfl];refine wpAny_passesOwn hp (thn (q2.1 rfl AD s2 σ1 H2 I2 (S1.ext e2 o2)) fun f s3 q3=>?_);cases f with
  |next=>
   obtain⟨σ3,H3,I3,ρ3,G3,e3,S3,m',hm,p3⟩:=q3;exact⟨m',hm,σ3,H3,ρ3,G3,I3,e1.trans (e2.trans e3),S3,p3⟩
  |cont=>
   obtain⟨σ3,H3,I3,ρ3,G3,e3,S3,m',hm,p3⟩:=q3;exact⟨m',hm,σ3,H3,ρ3,G3,I3,e1.trans (e2.trans e3),S3,p3⟩
  |brk=>obtain⟨σ3,H3,I3,q3⟩:=q3;exact⟨σ3,H3,I3,Ek (e1.trans e2) q3⟩
  |ret v=>obtain⟨x3,σ3,H3,I3,r3,q3⟩:=q3;exact⟨x3,σ3,H3,I3,r3,Po.trans (e1.trans e2) q3⟩
 |false=>
  rw[if_neg Bool.false_ne_true];exact wpAny_execs_nil ⟨σ1,H2,I2,ρ1,G2,e1.trans e2,S1.ext e2 o2,q2.2 rfl⟩
theorem Nu{H:Hp}{p:Addr}{vs:List V}(o:GOk X.K H G)(hp:H p=none)(r:RepL X.K (hid H G) ds vs):Ext H G (upd H p (.lst vs)) (put G p (.lst ds))/\GOk X.K (upd H p (.lst vs)) (put G p (.lst ds)):=by
 have hG:=o.free hp;have E:Ext H G (upd H p (.lst vs)) (put G p (.lst ds)):=⟨fun b u e _=>by rw[Al (A9 e hp)];exact e,fun b h=>by
  by_cases hb:b=p
  ·subst hb;exact .inr hp
  ·rw[AL hb]at h;exact .inl h⟩
 refine⟨E,fun b u q=>?_⟩;by_cases hb:b=p
 ·subst hb;rw[AG]at q;cases q;exact⟨vs,BJ,r.same E.hid⟩
 ·rw[AL hb]at q;exact(o b u q).ext E.hid (Al hb)
theorem HV{H:Hp}{p:Addr}{l:List Dat}{vs:List V}(o:GOk X.K H G)(hG:G p=some (.lst l))(r:RepL X.K (hid H G) ds vs):Ext H G (upd H p (.lst vs)) (put G p (.lst ds))/\GOk X.K (upd H p (.lst vs)) (put G p (.lst ds)):=by
 have E:Ext H G (upd H p (.lst vs)) (put G p (.lst ds)):=⟨fun b u e h=>by
  have:b≠p:=by rintro rfl;rw[hG]at h;cases h
  rw[Al this];exact e,fun b h=>by
  by_cases hb:b=p
  ·subst hb;left;rw[hG];exact nofun
  ·rw[AL hb]at h;exact .inl h⟩
 refine⟨E,fun b u q=>?_⟩;by_cases hb:b=p
 ·subst hb;rw[AG]at q;cases q;exact⟨vs,BJ,r.same E.hid⟩
 ·rw[AL hb]at q;exact(o b u q).ext E.hid (Al hb)
theorem Il{H:Hp}{p:Addr}{l:List Dat}(o:GOk X.K H G)(hG:G p=some (.lst l)):Ext H G H (rel G p)/\GOk X.K H (rel G p)/\Rep X.K (hid H (rel G p)) (.lst l) (.ref p):=by
 have E:Ext H G H (rel G p):=⟨fun b u e _=>e,fun b h=>by
  by_cases hb:b=p
  ·subst hb;rw[CS]at h;exact absurd rfl h
  ·rw[Cy hb]at h;exact .inl h⟩
 refine⟨E,fun b u q=>?_,?_⟩
 ·by_cases hb:b=p
  ·subst hb;rw[CS]at q;cases q
  ·rw[Cy hb]at q;exact(o b u q).ext E.hid rfl
 ·obtain⟨vs,h1,r1⟩:=o p _ hG;rw[Rep];exact⟨p,vs,rfl,Fn CS h1,r1.same E.hid⟩
theorem BY(i:Nat){x:Str}{pos':Pos}(hN:X.N.Nodup)(h:PXs X ρ G es ds)(q:∀p,G p=none->WSs X (ρ.set i (some (.fn p))) (put G p (.lst ds)) rest D)(hz:ds.length<=1000:=by first|decide|(simp;done))(hi:X.N[i]?=some x:=by rfl)(hx:Loc X.env.scope x:=by first|exact Or.inl rfl|exact Or.inr rfl)(hs:swapsWith (.List es p2) (some (.Name x pos')) pos.line X.env=pure false:=by rfl)(hf:X.fn x=true\/X.env.scope.names.lookup x=some .local:=by first|exact .inl rfl|exact .inr rfl|assumption):WSs X ρ G (.Assign [.Name x pos'] (.List es p2) pos::rest) D:=BP (KP (Yr (i:=i) hN hi hx (Xf Ly) hs hf) fun σ H S=>⟨ρ,G,_,h,S,fun vs H1 ⟨_,_,e1,o1,r1,q1,BX⟩=>by
  subst q1;subst BX;refine⟨by rw[r1.length];exact Nat.le_of_lt (Jl hz),fun p hp=>?_⟩;obtain⟨E,O⟩:=Nu o1 hp r1;exact⟨_,_,e1.trans E,Stt.set (d:=.fn p) (v:=.ref p) (S.ext (e1.trans E) O) rfl,q p (o1.free hp)⟩⟩)
theorem A0{p:Addr}{apos Aq:Pos}(hx:PX X ρ G a (.fn p))(h:PX X ρ G e d)(hG:G p=some (.lst l))(hz:l.length<sizeLine)(q:WSs X ρ (put G p (.lst (l++[d]))) rest D)(C9:attributeBase a "append" X.env (eval a X.env)=eval a X.env:=by rfl)(CV:(apos.endLine==Aq.line)=true:=by rfl)(he:starEach [e] X.env=(false,eval e X.env)::starEach [] X.env:=by rfl)(SR:((backTo Aq (starEach [e] X.env)).all (fun x=>!x.1)&&(backToKw Aq (keywordEach [] X.env)).all (fun x=>x.1.isSome)&&decide (([e]:List Expr).length+([]:List Keyword).length+(if ([]:List Keyword).isEmpty then 0 else 1)<30))=true:=by rfl)(hs:swapsWith (.Call (.Attribute a "append" apos) [e] [] Aq) none pos.line X.env=pure false:=by rfl):WSs X ρ G (.Expr (.Call (.Attribute a "append" apos) [e] [] Aq) pos::rest) D:=BP (KP (Ij (bW PySem.F.plainAttrs_list PySem.F.slot_list_append PySem.F.type_list_append NI Ax (BG Ax Cb he) C9 SR CV he rfl) hs) fun σ H S=>⟨ρ,G,_,hx,S,fun x H1 ⟨_,_,e1,o1,r1,q1,BX⟩=>by
  subst q1;subst BX;cases (show x=V.ref p from r1);obtain⟨cV,h1,_⟩:=o1 p _ hG;refine⟨.inl ⟨rfl,cV,SqL.of h1⟩,ρ,_,_,h,S.ext e1 o1,fun y H2 ⟨_,_,e2,o2,r2,q2,FQ⟩=>?_⟩;subst q2;subst FQ;obtain⟨vs,h2,r3⟩:=o2 p _ hG;refine⟨p,vs,y,rfl,rfl,h2,by rw[r3.length];exact hz,?_⟩;obtain⟨E,O⟩:=HV o2 hG (r3.append (RepL.cons r2 RepL.nil));exact⟨ρ,_,(e1.trans e2).trans E,S.ext ((e1.trans e2).trans E) O,q⟩⟩)
theorem Dx{p:Addr}(h:PX X ρ G e (.fn p))(hG:G p=some (.lst l))(q:D.rt (.lst l) (rel G p)):WSs X ρ G (.Return (some e) pos::rest) D:=BC fun AD s σ H I S=>thn (h AD s σ H I S) fun v s1 z=>EP.mono z fun x H1 ⟨_,_,e1,o1,r1,q1,BX⟩=>by
  subst q1;subst BX;cases (show x=V.ref p from r1);obtain⟨E,O,R⟩:=Il o1 hG;exact⟨_,_,e1.trans E,O,R,q⟩
end
theorem Ef{α β:Type}{f:α->β->Sem (ForInStep β)}{g:β->α->β}:∀(l:List α)(c:β),(∀x∈l,∀c,f x c=pure (.yield (g c x)))->forIn l c f=(pure (l.foldl g c):Sem β)
 |[],_,_=>rfl
 |x::l,c,h=>by
  rw[List.forIn_cons,h x List.mem_cons_self,pure_bind];exact Ef l _ fun y hy=>h y (List.mem_cons_of_mem _ hy)
def clF(env:Env):List (Str×Addr)->Str×NameKind->List (Str×Addr):=fun cs x=>if (x.2==NameKind.free)=true then(x.1,(env.cells.lookup x.1).getD 0)::cs else cs
def Yn(scope:Scope)(env:Env):List (Str×Addr):=scope.names.foldl (clF env) []
theorem ER{scope:Scope}{env:Env}(h:∀x∈scope.names,x.2=.free->∃c,env.cells.lookup x.1=some c):closureFor scope env=pure (Yn scope env):=by
 simp only[closureFor];rw[Ef (g:=clF env) scope.names [] (fun x hx c=>?_)]
 ·rfl
 ·obtain⟨n,kind⟩:=x;by_cases hk:kind=.free
  ·subst hk;obtain⟨a,ha⟩:=h _ hx rfl;simp only[cellOf,clF,ha,beq_self_eq_true,if_true,Option.getD_some,pure_bind]
  ·have:(kind==NameKind.free)=false:=by simpa using hk
   simp only[clF,this,Bool.false_eq_true,if_false]
theorem Tw{env:Env}{x:Str}{c:Addr}:∀(l:List (Str×NameKind))(cs:List (Str×Addr)),(x,c)∈l.foldl (clF env) cs->(x,c)∈cs\/((x,NameKind.free)∈l/\c=(env.cells.lookup x).getD 0)
 |[],_,h=>.inl h
 |(n,k)::l,cs,h=>by
  rcases Tw l _ h with h|⟨h1,h2⟩
  ·unfold clF at h;by_cases hk:(k==NameKind.free)=true
   ·rw[if_pos hk]at h;rcases List.mem_cons.mp h with e|h
    ·cases e;exact .inr ⟨by rw[eq_of_beq hk];exact List.mem_cons_self,rfl⟩
    ·exact .inl h
   ·rw[if_neg hk]at h;exact .inl h
  ·exact .inr ⟨List.mem_cons_of_mem _ h1,h2⟩
theorem UY{env:Env}{x:Str}:∀(l:List (Str×NameKind))(cs:List (Str×Addr)),((x,NameKind.free)∈l\/∃c,(x,c)∈cs)->∃c,(x,c)∈l.foldl (clF env) cs
 |[],_,h=>by
  rcases h with h|h
  ·cases h
  ·exact h
 |(n,k)::l,cs,h=>by
  refine UY l _ ?_;rcases h with h|⟨c,h⟩
  ·rcases List.mem_cons.mp h with e|h
   ·cases e;right;refine⟨(env.cells.lookup x).getD 0,?_⟩;unfold clF;rw[if_pos (by rfl)];exact List.mem_cons_self
   ·exact .inl h
  ·right;refine⟨c,?_⟩;unfold clF;split
   ·exact List.mem_cons_of_mem _ h
   ·exact h
theorem LG{α:Type}{x:Str}{c:α}:∀{l:List (Str×α)},l.lookup x=some c->(x,c)∈l
 |[],h=>by simp at h
 |(n,k)::l,h=>by
  by_cases e:x=n
  ·subst e;simp only[List.lookup_cons,beq_self_eq_true]at h;cases h;exact List.mem_cons_self
  ·have:(x==n)=false:=by simpa using e
   simp only[List.lookup_cons,this]at h;exact List.mem_cons_of_mem _ (LG h)
theorem L5{α:Type}{x:Str}{c:α}:∀{l:List (Str×α)},(x,c)∈l->∃c',l.lookup x=some c'
 |[],h=>by cases h
 |(n,k)::l,h=>by
  by_cases e:x=n
  ·subst e;exact⟨k,by simp[List.lookup_cons]⟩
  ·have:(x==n)=false:=by simpa using e
   rcases List.mem_cons.mp h with q|q
   ·cases q;exact absurd rfl e
   ·obtain⟨c',h'⟩:=L5 q;exact⟨c',by simpa[List.lookup_cons,this]using h'⟩
def Ag(X:Cx)(Nc:List Str)(scope:Scope)(C:Addr)(s:Shared)(H:Hp)(fp:List Addr):Cx where
 prog:=X.prog
 w:=X.w
 K:=X.K
 mg:=X.mg
 base:=X.base
 A:=X.A
 N:=Nc
 s₀:=s
 H₀:=H
 env:=compEnvC scope (Yn scope X.env) C X.env
 outer:=X.stack
 stack:=X.stack
 ex:=fp
 fn:=fun _=>false
 calm:=true
 pn:=[]
 xe:=fun _ _=>False
def Wz(psc:Scope)(PN:List Str)(scope:Scope)(Nc:List Str)(caps:List (Option Nat)):Bool:=decide (scope.kind=.function)&&scope.names.all (fun x=>decide (x.2≠.cell))&&scope.names.all (fun x=>decide (x.2=.local->scope.names.lookup x.1=some .local)) &&
 scope.names.all (fun x=>decide (x.2=.free->scope.names.lookup x.1=some .free/\(psc.names.lookup x.1=some .cell\/psc.names.lookup x.1=some .free)))&&decide Nc.Nodup&&decide (caps.length=Nc.length) &&
 (caps.zip Nc).all (fun q=>match q.1 with|none=>true|some j=>decide (PN[j]?=some q.2)&&decide ((q.2,NameKind.free)∈scope.names))
structure CompSc (X:Cx) (scope:Scope) (Nc:List Str) (caps:List (Option Nat)):Prop where
 kind:scope.kind=.function
 nocell:∀x∈scope.names,x.2≠.cell
 names:∀x∈scope.names,x.2=.local->scope.names.lookup x.1=some .local
 free:∀x∈scope.names,x.2=.free->X.env.kindOf x.1=some .cell\/X.env.kindOf x.1=some .free
 sole:∀x∈scope.names,x.2=.free->scope.names.lookup x.1=some .free
 nd:Nc.Nodup
 len:caps.length=Nc.length
 caps:∀(i j:Nat)(x:Str),caps[i]?=some (some j)->Nc[i]?=some x->X.N[j]?=some x/\(x,NameKind.free)∈scope.names
theorem Bk{X:Cx}{psc:Scope}{PN:List Str}{scope:Scope}{Nc:List Str}{caps:List (Option Nat)}(h:Wz psc PN scope Nc caps=true)(h1:X.env.scope=psc)(h2:X.N=PN):CompSc X scope Nc caps:=by
 unfold Wz at h;simp only[Bool.and_eq_true,decide_eq_true_eq,List.all_eq_true]at h;obtain⟨⟨⟨⟨⟨⟨a,b⟩,c⟩,d⟩,e⟩,f⟩,g⟩:=h;refine⟨a,b,c,fun x hx hf=>?_,fun x hx hf=>(d x hx hf).1,e,f,fun i j x hi hj=>?_⟩
 ·have:=(d x hx hf).2
  show X.env.scope.names.lookup x.1=_\/X.env.scope.names.lookup x.1=_;rw[h1];exact this
 ·have hm:(some j,x)∈caps.zip Nc:=List.mem_of_getElem? (i:=i) (by rw[List.getElem?_zip_eq_some];exact⟨hi,hj⟩)
  have:=g _ hm
  simp only[Bool.and_eq_true,decide_eq_true_eq]at this;rw[h2];exact this
def BI{α:Type}(caps:List (Option Nat))(l:List (Option α)):List (Option α):=caps.map fun o=>o.bind fun j=>(l[j]?).join
theorem Pp{α:Type}{caps:List (Option Nat)}{l:List (Option α)}{i:Nat}{v:α}(h:(BI caps l)[i]?=some (some v)):∃j,caps[i]?=some (some j)/\l[j]?=some (some v):=by
 unfold BI at h;rw[List.getElem?_map]at h;cases q:caps[i]? with
 |none=>rw[q]at h;cases h
 |some o=>
  rw[q]at h;cases o with
  |none=>simp at h
  |some j=>
   refine⟨j,rfl,?_⟩;simp only[Option.map_some,Option.bind_some,Option.some.injEq]at h;cases z:l[j]? with
   |none=>rw[z]at h;simp at h
   |some u=>rw[z]at h;simp only[Option.join_some]at h;rw[h]
theorem Ws{α:Type}{caps:List (Option Nat)}{l:List (Option α)}{i j:Nat}{v:α}(h:caps[i]?=some (some j))(h':l[j]?=some (some v)):(BI caps l)[i]?=some (some v):=by unfold BI;rw[List.getElem?_map,h];simp[h']
section
variable {X:Cx}{AD:List (Addr×Obj)}{σ:St}{H:Hp}{s:Shared}{scope:Scope}{Nc:List Str}{caps:List (Option Nat)}{fp:List Addr}{ρ:Rho}{G:Gs}
theorem De(I:Inv X AD σ H s)(Sc:CompSc X scope Nc caps){x:Str}{c:Addr}(h:(Yn scope X.env).lookup x=some c):X.env.cells.lookup x=some c/\(x,NameKind.free)∈scope.names:=by
 rcases Tw _ _ (LG h)with h|⟨h1,h2⟩
 ·cases h
 ·obtain⟨c',hc⟩:=I.ok.has x (Sc.free _ h1 rfl);rw[hc]at h2;exact⟨by rw[hc,h2];rfl,h1⟩
theorem Tj(I:Inv X AD σ H s)(Sc:CompSc X scope Nc caps){x:Str}(h:(x,NameKind.free)∈scope.names):∃c,(Yn scope X.env).lookup x=some c/\X.env.cells.lookup x=some c:=by obtain⟨c,hm⟩:=UY (env:=X.env) scope.names [] (.inl h);obtain⟨c',hc⟩:=L5 hm;exact⟨c',hc,(De I Sc hc).1⟩
theorem IT{env:Env}{x:Str}:∀{names:List (Str×NameKind)}{k:NameKind},(names.map fun(n,k)=>if (k==NameKind.free&&env.scope.kind==.function&&env.kindOf n==some .cell)then(n,NameKind.cell)else(n,k)).lookup x=some k →
  ∃k',(x,k')∈names/\(k=k'\/(k'=.free/\k=.cell))
 |[],_,h=>by simp at h
 |(n,k0)::r,k,h=>by
  rw[List.map_cons]at h;by_cases e:x=n
  ·subst e;by_cases hc:(k0==NameKind.free&&env.scope.kind==.function&&env.kindOf x==some .cell)=true
   ·simp only[hc,if_true,List.lookup_cons,beq_self_eq_true]at h;cases h;simp only[Bool.and_eq_true]at hc;exact⟨k0,List.mem_cons_self,.inr ⟨eq_of_beq hc.1.1,rfl⟩⟩
   ·simp only[hc,Bool.false_eq_true,if_false,List.lookup_cons,beq_self_eq_true]at h;cases h;exact⟨k0,List.mem_cons_self,.inl rfl⟩
  ·have hx:(x==n)=false:=by simpa using e
   have:(List.map (fun(x:Str×NameKind)=>match x with|(n,k)=>if (k==NameKind.free&&env.scope.kind==.function&&env.kindOf n==some .cell)then(n,NameKind.cell)else(n,k)) r).lookup x=some k:=by
    by_cases hc:(k0==NameKind.free&&env.scope.kind==.function&&env.kindOf n==some .cell)=true
    ·simp only[hc,if_true,List.lookup_cons,hx]at h;exact h
    ·simp only[hc,Bool.false_eq_true,if_false,List.lookup_cons,hx]at h;exact h
   obtain⟨k',h1,h2⟩:=IT this;exact⟨k',List.mem_cons_of_mem _ h1,h2⟩
theorem JO{env:Env}{x:Str}:∀{names:List (Str×NameKind)},names.lookup x=some .free->(names.map fun(n,k)=>if (k==NameKind.free&&env.scope.kind==.function&&env.kindOf n==some .cell)then(n,NameKind.cell)else(n,k)).lookup x=some .cell ∨
  (names.map fun(n,k)=>if (k==NameKind.free&&env.scope.kind==.function&&env.kindOf n==some .cell)then(n,NameKind.cell)else(n,k)).lookup x=some .free
 |[],h=>by simp at h
 |(n,k0)::r,h=>by
  rw[List.map_cons];by_cases e:x=n
  ·subst e;simp only[List.lookup_cons,beq_self_eq_true]at h;cases h;by_cases hc:(NameKind.free==NameKind.free&&env.scope.kind==.function&&env.kindOf x==some .cell)=true
   ·left;show List.lookup x ((if (NameKind.free==NameKind.free&&env.scope.kind==.function&&env.kindOf x==some .cell)=true then(x,NameKind.cell)else(x,NameKind.free))::_)=_;rw[if_pos hc,List.lookup_cons,beq_self_eq_true]
   ·right;show List.lookup x ((if (NameKind.free==NameKind.free&&env.scope.kind==.function&&env.kindOf x==some .cell)=true then(x,NameKind.cell)else(x,NameKind.free))::_)=_;rw[if_neg hc,List.lookup_cons,beq_self_eq_true]
  ·have hx:(x==n)=false:=by simpa using e
   simp only[List.lookup_cons,hx]at h;have ih:=JO (env:=env) h;by_cases hc:(k0==NameKind.free&&env.scope.kind==.function&&env.kindOf n==some .cell)=true
   ·simp only[hc,if_true,List.lookup_cons,hx];exact ih
   ·simp only[hc,Bool.false_eq_true,if_false,List.lookup_cons,hx];exact ih
theorem RV(I:Inv X AD σ H s)(Sc:CompSc X scope Nc caps)(CG:X.calm=true){h₁:Heap}{tk:Nat}(hf:∀b∈fp,Jq X AD H b)(A6:∀b∈fp,b<s.heap.objs.size)(RG:∃m,h₁.Ns s.heap.objs.size m)(hk:∀b u,s.heap.get? b=some u->h₁.get? b=some u) :
  Inv (Ag X Nc scope s.heap.objs.size s H fp) [] (BI caps σ) H { s with heap:=h₁,toks:=tk }:=by
 have iM:∀x,((Ag X Nc scope s.heap.objs.size s H fp).env.kindOf x=some .cell\/(Ag X Nc scope s.heap.objs.size s H fp).env.kindOf x=some .free)->(x,NameKind.free)∈scope.names:=fun x hx=>by
  have hh:∃k,(k=NameKind.cell\/k=NameKind.free)/\(Ag X Nc scope s.heap.objs.size s H fp).env.kindOf x=some k:=by
   rcases hx with h|h
   ·exact⟨_,.inl rfl,h⟩
   ·exact⟨_,.inr rfl,h⟩
  obtain⟨k,hk,h⟩:=hh;obtain⟨k',h1,h2⟩:=IT (env:=X.env) h;rcases h2 with e|⟨e,_⟩
  ·subst e;rcases hk with e|e
   ·subst e;exact absurd rfl (Sc.nocell _ h1)
   ·subst e;exact h1
  ·subst e;exact h1
 refine⟨?_,rfl,I.bare,Un.kept hk,?_,fun x c e=>?_,?_,fun x c e=>?_,fun p hp=>?_,I.hok.kept hk,?_⟩
 ·refine⟨I.ok.mod,Sc.kind,I.ok.glob,I.ok.blt,Nat.le_refl _,fun x y c h1 h2=>?_,fun x h=>?_,fun x c h=>?_,fun _=>I.ok.hd CG,I.ok.frames,.inl rfl,fun b hb=>?_,I.bs,Nat.le_trans I.ok.bsz I.sz,fun b o e hb=>?_,fun b hb GV=>?_,I.stack,I.stkFree⟩
  ·exact I.ok.inj x y c (De I Sc h1).1 (De I Sc h2).1
  ·obtain⟨c,h1,_⟩:=Tj I Sc (iM x h);exact⟨c,h1⟩
  ·exact absurd h Bool.false_ne_true
  ·exact⟨Nat.ne_of_lt (A6 b hb),fun x c e=>(hf b hb).2.2.2.2.1 x c (De I Sc e).1⟩
  ·rcases(hf b hb).2.2.2.1 with z|z
   ·exact I.ok.noex b o e z
   ·exact absurd (Nat.lt_of_lt_of_le (Heap.lt_size e) (Nat.le_trans I.ok.bsz z)) (Nat.lt_irrefl _)
  ·rcases List.mem_cons.mp (I.stkSub b GV)with z|z
   ·exact(hf b hb).2.1 z
   ·exact(hf b hb).2.2.1 z
 ·obtain⟨m,hm⟩:=RG;refine⟨m,hm,fun i x v h1 h2 h3=>?_⟩;obtain⟨j,hj,hv⟩:=Pp h2;obtain⟨hN,ZF⟩:=Sc.caps i j x hj h1;obtain⟨c,q8,RC⟩:=Tj I Sc ZF;have kx:=Sc.free _ ZF rfl;obtain⟨m0,_,hl⟩:=I.loc;obtain⟨u,ru,lk⟩:=hl j x v hN hv (by rcases kx with z|z;exact .inr (.inl z);exact .inr (.inr z));refine⟨u,ru,?_⟩;rcases lk with⟨z,_⟩|⟨_,c',e',cell⟩
  ·rcases kx with y|y<;>(have y':X.env.kindOf x=_:=y;rw[z]at y';cases y')
  ·rw[RC]at e';cases e';exact .inr ⟨JO (Sc.sole _ ZF rfl),c,q8,cell.keeps hk⟩
 ·obtain⟨v,z⟩:=I.cell x c (De I Sc e).1;exact⟨v,z.keeps hk⟩
 ·exact I.hok.fresh (Nat.le_refl _)
 ·exact I.freeC x c (De I Sc e).1
 ·cases hp
 ·unfold BI;rw[List.length_map];exact Sc.len
end
theorem LX{X:Cx}{AD:List (Addr×Obj)}{σ σc:St}{H Hf:Hp}{s sf:Shared}{scope:Scope}{Nc:List Str}{fp:List Addr}{h':Heap}(I:Inv X AD σ H s)(hf:∀b∈fp,Jq X AD H b)(Ic:Inv (Ag X Nc scope s.heap.objs.size s H fp) [] σc Hf sf)(hs:Heap.SameBut s.heap.objs.size sf.heap h'):Inv X AD σ Hf { sf with heap:=h' }:=by
 have UC:∀b∈fp,(b∈X.ex\/X.s₀.heap.objs.size<=b)/\b≠X.env.locals/\(∀x c,X.env.cells.lookup x=some c->c≠b)/\∀p∈X.pn++AD,p.1≠b:=fun b hb=>
  ⟨(hf b hb).2.2.2.1,(hf b hb).2.1,(hf b hb).2.2.2.2.1,(hf b hb).2.2.2.2.2⟩
 have I1:Inv X AD σ Hf sf:=I.call' Ic.os Ic.base Ic.hok Ic.bare UC;have hC:Hf s.heap.objs.size=none:=Ic.free;refine I1.turned (t':=sf.toks) (it:=s.heap.objs.size) (fun b o hb e=>hs.extBut b o hb e) hC (Nat.ne_of_gt I.lt) (.inr I.sz) (fun x c e z=>?_) fun p hp z=>?_
 ·obtain⟨v,o,ho,_⟩:=I.cell x c e;rw[z]at ho;exact absurd (Heap.lt_size ho) (Nat.lt_irrefl _)
 ·have:=(I.pin p hp).1
  rw[z]at this;exact absurd (Heap.lt_size this) (Nat.lt_irrefl _)
def Lc(elt:Expr)(env:Env)(Az:Value):Sem Unit:=eval elt env >>= fun x=>call (.builtin "list.append") [Az,x] >>= fun _=>pure ()
def QK(c elt:Expr)(env:Env)(Az:Value):Sem Unit:=isTrue c env (eval c env) >>= fun ok=>if ok=true then Lc elt env Az else pure ()
def Ll(elt AN An:Expr)(ifs:List Expr)(scope:Scope)(pos:Pos)(tail:Env->Value->Sem Unit):Prop:=∀(it Az:Value)(env:Env),compTurn (.ListComp elt [⟨AN,An,ifs,0⟩] scope pos) 0 it Az env=(standAt An.pos >>= fun _=>pyNext it >>= fun r=>match r with
   |none=>pure (.done .next)
   |some v=>letOwnedTupleGo AN it v >>= fun _=>assign AN env v >>= fun _=>tail env Az >>= fun _=>
     again (.compLoop (.ListComp elt [⟨AN,An,ifs,0⟩] scope pos) 0 it Az env))
theorem Gq(elt AN An:Expr)(scope:Scope)(pos:Pos):Ll elt AN An [] scope pos (Lc elt):=fun it Az env=>by rfl
theorem Qb(elt AN An c:Expr)(scope:Scope)(pos:Pos):Ll elt AN An [c] scope pos (QK c elt):=fun it Az env=>by
 have e:compTurn (.ListComp elt [⟨AN,An,[c],0⟩] scope pos) 0 it Az env=(standAt An.pos >>= fun _=>pyNext it >>= fun r=>match r with
   |none=>pure (.done .next)
   |some v=>letOwnedTupleGo AN it v >>= fun _=>assign AN env v >>= fun _=>
     (forIn [c] true fun c r=>if r=true then(isTrue c env (eval c env) >>= fun ok=>pure (ForInStep.yield ok))else pure (ForInStep.yield r)) >>= fun ok=>
      if ok=true then(Lc elt env Az >>= fun _=>again (.compLoop (.ListComp elt [⟨AN,An,[c],0⟩] scope pos) 0 it Az env))else again (.compLoop (.ListComp elt [⟨AN,An,[c],0⟩] scope pos) 0 it Az env)):=by rfl
 rw[e];refine congrArg _ (funext fun _=>congrArg _ (funext fun r=>?_));cases r with
 |none=>rfl
 |some v=>
  refine congrArg (letOwnedTupleGo AN it v >>= ·) (funext fun _=>congrArg (assign AN env v >>= ·) (funext fun _=>?_));unfold QK;simp only[List.forIn_cons,List.forIn_nil,if_true,bind_assoc,pure_bind];refine congrArg (isTrue c env (eval c env) >>= ·) (funext fun ok=>?_);cases ok<;>simp
def KC(Xc:Cx)(ρ:Rho)(G:Gs)(tl:Sem Unit)(Q:Gs->Prop):Prop:=∀(AD:List (Addr×Obj))(s:Shared)(σ:St)(H:Hp),Inv Xc AD σ H s->Stt Xc H σ ρ G->wpAny (model Xc.prog Xc.w) Xc.A tl (fun _ s'=>∃H' G',Inv Xc AD σ H' s'/\Ext H G H' G'/\GOk Xc.K H' G'/\Q G') (fun _ _=>False) s
section
variable {X:Cx}{AD:List (Addr×Obj)}{σ:St}{H:Hp}{s:Shared}{scope:Scope}{Nc:List Str}{caps:List (Option Nat)}{ρ:Rho}{G:Gs}{elt AN An c:Expr}{ifs:List Expr}{Aq:Pos}{l:List Dat}{f:Dat->Rho->Option Rho}{tail:Env->Value->Sem Unit}
theorem Js(Pv:Nat->List Dat->Gs->Prop)(ht:Ll elt AN An ifs scope Aq tail)(Sc:CompSc X scope Nc caps)(CG:X.calm=true)(hg:∀C s' H' fp,PGD (Ag X Nc scope C s' H' fp) AN f)(hle:∀d ρ',f d (BI caps ρ)=some ρ'->ρ'.length=(BI caps ρ).length/\∀(j:Nat) e,(BI caps ρ)[j]?=some (some e)->ρ'[j]?=some (some e))(hz:l.length<=sizeLine)(CW:∀C s' H' fp D i d Az G',l[i]?=some d->Pv i Az G'->G' D=none->∃ρ',f d (BI caps ρ)=some ρ' ∧
   KC (Ag X Nc scope C s' H' fp) ρ' (put G' D (.lst Az)) (tail (Ag X Nc scope C s' H' fp).env (.ref D)) fun Lr=>∃EW G4,EW.length<=Az.length+1/\G4 D=none/\Lr=put G4 D (.lst EW)/\Pv (i+1) EW G4){it:Addr}{fp:List Addr}{tn:Nat->Heap->Prop}{J:It}(I:Inv X AD σ H s)(S:Stt X H σ ρ G)(T:Turn X.prog X.w X.K AN J fp it tn)(st:tn 0 s.heap)(hf:∀b∈fp,Jq X AD H b)(wk:Wk X.K J H G l)(p0:Pv 0 [] G){E:Value->Shared->Prop}{RR:Value->Addr->Result->Shared->Prop}(rj:∀D C s3 sf σc Hf Gf Az,(∀b o,s.heap.get? b=some o->s3.heap.get? b=some o)->C=s3.heap.objs.size->(∃H3,Inv X AD σ H3 s3/\(∀b∈fp,Jq X AD H3 b)/\Inv (Ag X Nc scope C s3 H3 fp) [] σc Hf sf)->Ext H G Hf (put Gf D (.lst Az))->GOk X.K Hf (put Gf D (.lst Az))->Gf D=none->Pv l.length Az Gf->RR (.ref D) C (.ok .next) sf) :
  wpAny (model X.prog X.w) X.A (newList []) (fun Az s₃=>wpAny (model X.prog X.w) X.A (newFunctionEnv scope X.env.globals (Yn scope X.env) [] X.env.qual none .none (some X.env)) (fun jA s₄=>
   codeAny (model X.prog X.w) X.A (.compStart (.ListComp elt [⟨AN,An,ifs,0⟩] scope Aq) 0 (.ref it) Az { jA with scope:=relabel scope X.env }) (RR Az jA.locals) s₄) E s₃) E s:=by
 refine wpAny_newObj_type (wpAny_newFunctionEnv Sc.nocell (by intro y hy;simp at hy) (fun h₁ RG₁ RD₁=>?_) Sc.kind);dsimp only at RG₁ RD₁ ⊢;have I3:Inv X AD σ (upd H s.heap.objs.size (.lst [])) { s with heap:=s.heap.push { cls:=.type "list",data:=.seq ([]:List Value).toArray },toks:=s.toks }:=I.lnew (ys:=[]) (AY:=[]) .nil (Nat.zero_le _);have hD:H s.heap.objs.size=none:=I.hok.fresh (Nat.le_refl _);obtain⟨E3,O3⟩:=Nu (X:=X) (ds:=[]) S.own hD RepL.nil;have nE:∀b∈fp,b<s.heap.objs.size:=fun b hb=>by obtain⟨o,e,_⟩:=T.obj 0 _ st b hb;exact Heap.lt_size e
 have ne2:∀b∈fp,b≠s.heap.objs.size:=fun b hb=>Nat.ne_of_lt (nE b hb);have f3:∀b∈fp,Jq X AD (upd H s.heap.objs.size (.lst [])) b:=fun b hb=>⟨by rw[Al (ne2 b hb)];exact(hf b hb).1,(hf b hb).2⟩;generalize hs3:({ s with heap:=s.heap.push { cls:=.type "list",data:=.seq ([]:List Value).toArray },toks:=s.toks }:Shared)=s3 at I3;have e3:s3.heap=s.heap.push { cls:=.type "list",data:=.seq ([]:List Value).toArray }:=by rw[<-hs3]
 have k3:∀b o,s.heap.get? b=some o->s3.heap.get? b=some o:=fun b o e=>by rw[e3];exact Heap.get?_push_of_some _ e
 have hC:s3.heap.objs.size=s.heap.objs.size+1:=by rw[e3,Heap.size_push]
 have nQ:∀b∈fp,b<s3.heap.objs.size:=fun b hb=>by rw[hC];exact Nat.lt_succ_of_lt (nE b hb)
 rw[<-e3]at RG₁ RD₁;have hk:∀b u,s3.heap.get? b=some u->h₁.get? b=some u:=fun b u e=>RD₁.extBut b u (Nat.ne_of_lt (Heap.lt_size e)) (Heap.get?_push_of_some _ e);have Ic:=RV (tk:=s.toks+([]:List (Str×Value)).length) I3 Sc CG f3 nQ ⟨_,RG₁⟩ hk;have B3:tn 0 h₁:=T.keep _ _ _ st fun b hb o e=>hk b o (k3 b o e);have pX:Stt (Ag X Nc scope s3.heap.objs.size s3 (upd H s.heap.objs.size (.lst [])) fp) (upd H s.heap.objs.size (.lst [])) (BI caps σ) (BI caps ρ) (put G s.heap.objs.size (.lst [])):=by
  refine⟨fun i d h=>?_,by unfold BI;rw[List.length_map,List.length_map],O3⟩;obtain⟨j,hj,hd⟩:=Pp h;obtain⟨v,hv,rv⟩:=S.env j d hd;exact⟨v,Ws hj hv,rv.same E3.hid⟩
 have oE:∀H' G',Ext (upd H s.heap.objs.size (.lst [])) (put G s.heap.objs.size (.lst [])) H' G'->Ext H G H' G':=fun H' G' e=>E3.trans e;have loop:∀s4:Shared,s4={ s3 with heap:=h₁,toks:=s.toks+([]:List (Str×Value)).length } →
   codeAny (model X.prog X.w) X.A (.compLoop (.ListComp elt [⟨AN,An,ifs,0⟩] scope Aq) 0 (.ref it) (.ref s.heap.objs.size) (Ag X Nc scope s3.heap.objs.size s3 (upd H s.heap.objs.size (.lst [])) fp).env) (RR (.ref s.heap.objs.size) s3.heap.objs.size) s4:=by
  rintro s4 rfl;refine codeAny_loop rfl (fun n s'=>∃i Az σ' H' G',i+n=l.length/\Az.length<=i/\Inv (Ag X Nc scope s3.heap.objs.size s3 (upd H s.heap.objs.size (.lst [])) fp) [] σ' H' s'/\tn i s'.heap/\(∀b∈fp,H' b=none) ∧
    Ext (upd H s.heap.objs.size (.lst [])) (put G s.heap.objs.size (.lst [])) H' (put G' s.heap.objs.size (.lst Az))/\Stt (Ag X Nc scope s3.heap.objs.size s3 (upd H s.heap.objs.size (.lst [])) fp) H' σ' (BI caps ρ) (put G' s.heap.objs.size (.lst Az))/\G' s.heap.objs.size=none/\Pv i Az G') ?_ l.length
   ⟨0,[],_,_,G,Nat.zero_add _,Nat.le_refl _,Ic,B3,fun b hb=>(f3 b hb).1,Ext.refl,pX,S.own.free hD,p0⟩
  rintro n s5 ⟨i,Az,σ5,H5,G5,hn,WW,I5,eX,jg,e5,S5,mU,p5⟩;show wpAny (model X.prog X.w) X.A ((compTurn (.ListComp elt [⟨AN,An,ifs,0⟩] scope Aq) 0 (.ref it) (.ref s.heap.objs.size) (Ag X Nc scope s3.heap.objs.size s3 (upd H s.heap.objs.size (.lst [])) fp).env).onRaise (fun x=>do noteFrame x (Ag X Nc scope s3.heap.objs.size s3 (upd H s.heap.objs.size (.lst [])) fp).env;theTreesLotGoes x)) _ _ s5;refine wpAny_noted ?_;rw[ht];refine wpAny_bind (wpAny_standAt (wpAny_bind ?_));have Rm:∀{H':Hp},(∀b∈fp,H' b=none)->∀b∈fp,Jq (Ag X Nc scope s3.heap.objs.size s3 (upd H s.heap.objs.size (.lst [])) fp) [] H' b:=fun hn b hb=>
   ⟨hn b hb,Nat.ne_of_lt (nQ b hb),Ic.ok.exfs b hb,.inl hb,(Ic.ok.exf b hb).2,fun p hp=>by cases hp⟩
  obtain⟨dJ,j2⟩:=wk H5 _ (oE _ _ e5);cases n with
  |zero=>
   have fu:i=l.length:=by lia
   subst fu;refine thn (T.done (Ag X Nc scope s3.heap.objs.size s3 (upd H s.heap.objs.size (.lst [])) fp) rfl rfl rfl rfl _ [] s5 σ5 H5 _ I5 (Rm jg) eX j2) fun r s6 ⟨hr,I6⟩=>?_;subst hr;exact wpAny_pure (rj _ _ s3 s6 σ5 H5 G5 Az k3 rfl ⟨_,I3,f3,I6⟩ (oE _ _ e5) S5.own mU p5)
  |succ n=>
   have A6:i<l.length:=by lia
   obtain⟨go,dJ⟩:=dJ i _ (List.getElem?_eq_getElem A6);obtain⟨ρ6,mP,w6⟩:=CW s3.heap.objs.size s3 (upd H s.heap.objs.size (.lst [])) fp s.heap.objs.size i _ Az G5 (List.getElem?_eq_getElem A6) p5 mU;refine thn (T.item (Ag X Nc scope s3.heap.objs.size s3 (upd H s.heap.objs.size (.lst [])) fp) rfl rfl rfl rfl i [] s5 σ5 H5 _ I5 (Rm jg) eX go) fun r s6 ⟨u,hr,h6⟩=>?_;subst hr;refine wpAny_bind (thn h6 fun _ s7 ⟨x,H7,I7,r7,y7,kW,qW⟩=>?_);obtain⟨e7,o7,jD⟩:=dJ x H7 y7;have lQ:=jD S5.own;have qG:=I7.pinned (Rm qW) (T.obj _ _ kW);refine wpAny_bind (wpAny_mono (hg _ _ _ _ _ s7 σ5 H7 x u (BI caps ρ) ρ6 _ _ qG r7 (S5.ext e7 (o7 S5.own)) lQ mP) (fun _ s8 ⟨σ8,H8,I8,e8,S8⟩=>?_) fun _ _ z=>z.elim);refine wpAny_bind (wpAny_mono (w6 _ s8 σ8 H8 I8 S8) (fun _ s9 ⟨H9,G9,I9,e9,o9,EW,G4,sm,sL,eG,p9⟩=>?_) fun _ _ z=>z.elim);subst eG;refine wpAny_pure ⟨rfl,n,Nat.lt_succ_self _,i+1,EW,σ8,H9,G4,by lia,by lia,I9.unpinned (AD:=[]),T.keep _ _ _ kW fun b hb o e=>(I9.pin (b,o) (List.mem_append_right _ (List.mem_append_right _ (E6 hb e)))).1,fun b hb=>?_,e5.trans (e7.trans (e8.trans e9)),?_,sL,p9⟩
   ·obtain⟨o,e,d⟩:=T.obj _ _ kW b hb;exact(I9.pin (b,o) (List.mem_append_right _ (List.mem_append_right _ (E6 hb e)))).2.1
   ·obtain⟨z1,z2⟩:=hle _ _ mP;have S9:=S8.ext e9 o9;exact⟨fun j e h=>S9.env j e (z2 j e h),by rw[<-S9.len,z1],o9⟩
 subst hs3;exact codeAny_compStart_list (loop _ rfl) (T.self _ 0 _ _ _ B3 (loop _ rfl))
theorem Du{Xc:Cx}{ρ:Rho}{G:Gs}{D:Addr}{Az:List Dat}{Q:Gs->Prop}(hx:Xc.xe=fun _ _=>False)(hG:G D=some (.lst Az))(hz:Az.length<sizeLine)(h:WE Xc ρ G elt fun v G'=>G' D=some (.lst Az)/\Q (put G' D (.lst (Az++[v])))):KC Xc ρ G (Lc elt Xc.env (.ref D)) Q:=by
 intro AD s σ H I S;unfold Lc;have h':=h AD s σ H I S;rw[hx]at h';refine wpAny_bind (thn h' fun u s1 ⟨x,H1,I1,r1,d,G1,e1,o1,q1,Fo,z1⟩=>?_);obtain⟨vs,h1,r2⟩:=o1 D _ Fo
 have:=NI (X:=Xc) AD s1 σ H1 (.ref D) [x] (.ref D) [u] (fun _ H'=>∃G',Ext H G H' G'/\GOk Xc.K H' G'/\Q G') I1 rfl (.cons r1 .nil) ⟨D,vs,x,rfl,rfl,h1,by rw[r2.length];exact hz,by
  obtain⟨E,O⟩:=HV o1 Fo (r2.append (RepL.cons q1 RepL.nil));exact⟨_,e1.trans E,O,z1⟩⟩
 rw[hx]at this;refine wpAny_bind (thn this fun _ s2 ⟨_,H2,I2,_,G2,e2,o2,z2⟩=>wpAny_pure ⟨H2,G2,I2,e2,o2,z2⟩)
theorem Rp{Xc:Cx}{ρ:Rho}{G:Gs}{D:Addr}{Q:Gs->Prop}(hx:Xc.xe=fun _ _=>False)(h:WT Xc ρ G c fun p G'=>(p=true->KC Xc ρ G' (Lc elt Xc.env (.ref D)) Q)/\(p=false->Q G')):KC Xc ρ G (QK c elt Xc.env (.ref D)) Q:=by
 intro AD s σ H I S;unfold QK;have h':=h AD s σ H I S;rw[hx]at h';refine wpAny_bind (thn h' fun p s1 ⟨H1,I1,G1,e1,o1,q1⟩=>?_);cases p with
 |true=>
  rw[if_pos rfl];exact thn (q1.1 rfl AD s1 σ H1 I1 (S.ext e1 o1)) fun _ s2 ⟨H2,G2,I2,e2,o2,z2⟩=>⟨H2,G2,I2,e1.trans e2,o2,z2⟩
 |false=>
  rw[if_neg Bool.false_ne_true];exact wpAny_pure ⟨H1,G1,I1,e1,o1,q1.2 rfl⟩
theorem Nf(Pv:Nat->List Dat->Gs->Prop){Q:Dat->Gs->Prop}(ht:Ll elt AN An ifs scope Aq tail)(Sc:CompSc X scope Nc caps)(CG:X.calm=true)(hi:WI X ρ G AN An fun l' G'=>l'=l/\Pv 0 [] G')(hg:∀C s' H' fp,PGD (Ag X Nc scope C s' H' fp) AN f)(hle:∀d ρ',f d (BI caps ρ)=some ρ'->ρ'.length=(BI caps ρ).length/\∀(j:Nat) e,(BI caps ρ)[j]?=some (some e)->ρ'[j]?=some (some e))(hz:l.length<=sizeLine)(CW:∀C s' H' fp D i d Az G',l[i]?=some d->Pv i Az G'->G' D=none->∃ρ',f d (BI caps ρ)=some ρ' ∧
   KC (Ag X Nc scope C s' H' fp) ρ' (put G' D (.lst Az)) (tail (Ag X Nc scope C s' H' fp).env (.ref D)) fun Lr=>∃EW G4,EW.length<=Az.length+1/\G4 D=none/\Lr=put G4 D (.lst EW)/\Pv (i+1) EW G4)(hd:∀Az G',Pv l.length Az G'->Q (.lst Az) G')(Mq:∀x,foldedSetIterable An X.env x=pure x:=by intro _;rfl):WE X ρ G (.ListComp elt [⟨AN,An,ifs,0⟩] scope Aq) Q:=by
 intro AD s σ H I S;rw[eval_ListComp];refine wpAny_comprehension_free (use:=none) rfl Mq (ER fun x hx hf=>I.ok.has x.1 (Sc.free x hx hf)) Sc.kind Sc.names ?_;refine thn (hi AD s σ H I S) fun v s1 h1=>thn h1 fun fb s2 h2=>?_;obtain⟨it,fp,tn,J,H2,e,I2,T,DA,f2,l',G2,e2,o2,wk,q,p0⟩:=h2;subst e;subst q;refine Js (RR:=fun Az C=>compPost (model X.prog X.w) X.A X.xe none (EP X AD σ (Po X H G Q)) Az C) Pv ht Sc CG hg hle hz CW I2 (S.ext e2 o2) T DA f2 wk p0 ?_;rintro D C s3 sf σc Hf Gf Az k3 rfl ⟨H3,I3,f3,Ic⟩ ef of iE pf;obtain⟨m,hm,_⟩:=Ic.loc;refine⟨m,hm,fun h' hs=>⟨.ref D,Hf,LX I3 f3 Ic hs,rfl,.lst Az,Gf,?_,?_,?_,hd Az Gf pf⟩⟩;all_goals
  obtain⟨E,O,R⟩:=Il (X:=X) of AG;rw[Ah iE]at E O R;first
  |exact e2.trans (ef.trans E)
  |exact O
  |exact R
end
abbrev SpD:=List Dat->Gs->(Dat->Gs->Prop)->Prop
def Ae(K:PySem.W.Frag)(S:SpD):Sp:=fun vs H Q _=>∃ds G R,GOk K H G/\RepL K (hid H G) ds vs/\S ds G R/\∀v H' d G',Ext H G H' G'->GOk K H' G'->Rep K (hid H' G') d v->R d G'->Q v H'
def J3(N:List Str)(ds:List Dat):Rho:=ds.map some++List.replicate (N.length-ds.length) none
theorem Vn{X:Cx}{H:Hp}{N:List Str}{ds:List Dat}{vs:List V}{G:Gs}(o:GOk X.K H G)(r:RepL X.K (hid H G) ds vs):Stt X H (start N vs) (J3 N ds) G:=by
 refine⟨fun i d h=>?_,by unfold L2.start J3;rw[List.length_append,List.length_append,List.length_map,List.length_map,r.length,List.length_replicate,List.length_replicate],o⟩;unfold J3 at h;by_cases hi:i<ds.length
 ·rw[List.getElem?_append_left (by rw[List.length_map];exact hi),List.getElem?_map]at h;cases q:ds[i]? with
  |none=>rw[q]at h;cases h
  |some d'=>
   rw[q]at h;cases h;obtain⟨v,hv,rv⟩:=r.get q;refine⟨v,?_,rv⟩;unfold L2.start;rw[List.getElem?_append_left (by rw[List.length_map,r.length];exact hi),List.getElem?_map,hv];rfl
 ·rw[List.getElem?_append_right (by rw[List.length_map];lia),List.length_map]at h;exfalso
  have:=List.mem_of_getElem? h
  rw[List.mem_replicate]at this;cases this.2
section
variable {P:Program}{w:World}{K:PySem.W.Frag}{mg:Str->Option Value}{base:Heap}
theorem mC{x qual:Str}{st:Stmt}{f:Addr}{fd:FuncData}{N ps:List Str}{k:Nat}{S:SpD}(F:Fun K x qual st f fd)(Sc:FnScope N ps (AF st))(A2:∀ds G R,S ds G R->ds.length=ps.length)(hb:∀(A1:Value)(A:Around)(outer:List Env)(s:Shared)(H:Hp)(E:XK)(ds:List Dat)(G:Gs)(R:Dat->Gs->Prop),Room k (A.deeper (envOfC qual (AF st) s.heap.objs.size f A1))->S ds G R →
   WSs (Pn CX0 P w K mg base N qual (AF st) f A1 A outer s H E).nox (J3 N ds) G (CJ st) { nx:=fun _ G'=>R .non G',rt:=R }):FnOk P w K mg base CX0 (k+1) f fd ps (Ae K S):=by
 refine F.ok Sc (fun vs H Q E h=>?_) (fun A1 A outer s H vs Q E hr h=>?_)
 ·obtain⟨ds,G,R,_,r,hS,_⟩:=h;rw[r.length];exact A2 ds G R hS
 ·obtain⟨ds,G,R,o,r,hS,k⟩:=h;refine⟨fz _ (CJ st),cw,J3 N ds,G,_,hb A1 A outer s H E ds G R hr hS,Vn o r,?_,?_,?_,?_⟩
  ·rintro σ' H' ⟨ρ',G',e',S',q⟩;exact k .non H' .non G' e' S'.own rfl q
  ·rintro v H' ⟨d,G',e',o',r',q⟩;exact k v H' d G' e' o' r' q
  ·rintro σ' H' ⟨_,_,_,_,q⟩;exact q
  ·rintro σ' H' ⟨_,_,_,_,q⟩;exact q
end
section
variable {X:Cx}{ρ:Rho}{G:Gs}{e:Expr}{es:List Expr}{ds:List Dat}{pos p:Pos}{S:SpD}{k:Nat}{f:Addr}{fd:FuncData}{ps:List Str}{x:Str}{Q:Dat->Gs->Prop}
theorem az(F:FnOk X.prog X.w X.K X.mg X.base CX0 k f fd ps (Ae X.K S))(hr:Room k X.A)(hm:X.mg x=some (.ref f))(hk:PySem.W.keepIn X.K (.ref f)=true)(hb:Binds X.K fd ps [])(ha:PXs X ρ G (e::es) ds)(hS:S ds G Q)(hg:Gl X x:=by rfl)(MM:(x==("__debug__":Str))=false:=by decide)(he:starEach (e::es) X.env=(false,eval e X.env)::starEach es X.env:=by rfl)(hpl:(backTo pos (starEach es X.env)).any (·.1)=false:=by rfl):WE X ρ G (.Call (.Name x p) (e::es) [] pos) Q:=Bn (UH F hr hg hm hk hb .nil Y8 Ly MM he hpl) fun σ H St=>⟨ρ,G,_,ha,St,fun vs H1 ⟨_,_,e1,o1,r1,q1,BX⟩=>by
  subst q1;subst BX;refine⟨_,_,Q,o1,by rw[List.append_nil];exact r1,hS,fun v H' d G' e' o' r' q'=>⟨d,G',e1.trans e',o',r',q'⟩⟩⟩
end
structure Df (P:Program) (w:World) (K:PySem.W.Frag) (mg:Str->Option Value) (base:Heap) (x:Str) (ps:List Str) (k:Nat) (S:SpD):Prop where
 ex:∃f fd,FnOk P w K mg base CX0 k f fd ps (Ae K S)/\mg x=some (.ref f)/\PySem.W.keepIn K (.ref f)=true/\Binds K fd ps []
section
variable {X:Cx}{ρ:Rho}{G:Gs}{e:Expr}{es:List Expr}{ds:List Dat}{pos p:Pos}{S:SpD}{k:Nat}{ps:List Str}{x:Str}{Q:Dat->Gs->Prop}
theorem AO(F:Df X.prog X.w X.K X.mg X.base x ps k S)(hr:Room k X.A)(ha:PXs X ρ G (e::es) ds)(hS:S ds G Q)(hg:Gl X x:=by rfl)(MM:(x==("__debug__":Str))=false:=by decide)(he:starEach (e::es) X.env=(false,eval e X.env)::starEach es X.env:=by rfl)(hpl:(backTo pos (starEach es X.env)).any (·.1)=false:=by rfl):WE X ρ G (.Call (.Name x p) (e::es) [] pos) Q:=by obtain⟨f,fd,F,hm,hk,hb⟩:=F.ex;exact az F hr hm hk hb ha hS hg MM he hpl
end
mutual
def Dat.same:Dat->Dat->Bool
 |.non,.non=>true
 |.bl a,.bl b=>a==b
 |.int a,.int b=>a==b
 |.str a,.str b=>a==b
 |.fn a,.fn b=>a==b
 |.scr a,.scr b=>a==b
 |.tup l,.tup m=>Dat.sameL l m
 |.lst l,.lst m=>Dat.sameL l m
 |_,_=>false
def Dat.sameL:List Dat->List Dat->Bool
 |[],[]=>true
 |x::xs,y::ys=>Dat.same x y&&Dat.sameL xs ys
 |_,_=>false
end
mutual
theorem Dat.same_eq:∀{a b:Dat},Dat.same a b=true->a=b
 |.non,b,h=>by cases b<;>simp_all[Dat.same]
 |.bl _,b,h=>by cases b<;>simp_all[Dat.same]
 |.int _,b,h=>by cases b<;>simp_all[Dat.same]
 |.str _,b,h=>by cases b<;>simp_all[Dat.same]
 |.fn _,b,h=>by cases b<;>simp_all[Dat.same]
 |.scr _,b,h=>by cases b<;>simp_all[Dat.same]
 |.tup l,b,h=>by
  cases b<;>simp only[Dat.same,Bool.false_eq_true]at h;rw[Dat.sameL_eq h]
 |.lst l,b,h=>by
  cases b<;>simp only[Dat.same,Bool.false_eq_true]at h;rw[Dat.sameL_eq h]
theorem Dat.sameL_eq:∀{a b:List Dat},Dat.sameL a b=true->a=b
 |[],b,h=>by cases b<;>simp_all[Dat.sameL]
 |x::xs,b,h=>by
  cases b with
  |nil=>simp[Dat.sameL]at h
  |cons y ys=>
   simp only[Dat.sameL,Bool.and_eq_true]at h;rw[Dat.same_eq h.1,Dat.sameL_eq h.2]
end
mutual
theorem Dat.same_refl:∀(a:Dat),Dat.same a a=true
 |.non=>by simp[Dat.same]
 |.bl _=>by simp[Dat.same]
 |.int _=>by simp[Dat.same]
 |.str _=>by simp[Dat.same]
 |.fn _=>by simp[Dat.same]
 |.scr _=>by simp[Dat.same]
 |.tup l=>by simp only[Dat.same];exact Dat.sameL_refl l
 |.lst l=>by simp only[Dat.same];exact Dat.sameL_refl l
theorem Dat.sameL_refl:∀(a:List Dat),Dat.sameL a a=true
 |[]=>by simp[Dat.sameL]
 |x::xs=>by simp only[Dat.sameL,Bool.and_eq_true];exact⟨Dat.same_refl x,Dat.sameL_refl xs⟩
end
instance:DecidableEq Dat:=fun a b=>decidable_of_iff (Dat.same a b=true) ⟨Dat.same_eq,fun h=>h▸Dat.same_refl a⟩
theorem Dk:∀{n:Nat}{d:Dat},B1 n d=true->AJ n d=true:=by
 intro n
 induction n with
 |zero=>intro d h;cases d<;>simp_all[B1,AJ,Ap]
 |succ n ih=>
  intro d h;cases d<;>simp only[B1,Bool.false_eq_true]at h<;>first|rfl|skip
  simp only[AJ,List.all_eq_true]at h ⊢;exact fun x hx=>ih (h x hx)
theorem ay:∀{n:Nat}{d e:Dat},B1 n d=true->B1 n e=true->eqD d e=decide (d=e):=by
 intro n
 induction n with
 |zero=>
  intro d e h h';cases d<;>simp only[B1,Bool.false_eq_true]at h<;>cases e<;>simp only[B1,Bool.false_eq_true]at h';rename_i a b;by_cases z:a=b<;>simp[eqD,z]
 |succ n ih=>
  have hl:∀(l m:List Dat),l.all (B1 n)=true->m.all (B1 n)=true->eqL l m=decide (l=m):=by
   intro l
   induction l with
   |nil=>intro m _ _;cases m<;>simp[eqL]
   |cons x l gG=>
    intro m h h';cases m with
    |nil=>simp[eqL]
    |cons y m=>
     simp only[List.all_cons,Bool.and_eq_true]at h h';rw[eqL,ih h.1 h'.1,gG m h.2 h'.2];by_cases z1:x=y<;>by_cases z2:l=m<;>simp[z1,z2]
  intro d e h h';cases d<;>simp only[B1,Bool.false_eq_true]at h<;>cases e<;>simp only[B1,Bool.false_eq_true]at h'
  ·rename_i a b;by_cases z:a=b<;>simp[eqD,z]
  ·simp[eqD]
  ·simp[eqD]
  ·rename_i l m;rw[eqD,hl l m h h'];by_cases z:l=m<;>simp[z]
mutual
def Iw:Dat->Nat
 |.tup l=>Gu l+1
 |_=>1
def Gu:List Dat->Nat
 |[]=>0
 |d::r=>Iw d+Gu r
end
theorem JP:∀(a b:List Dat),EC (a++b)=EC a++EC b
 |[],_=>by simp[EC]
 |d::a,b=>by simp only[List.cons_append,EC];rw[JP a b]
theorem Ih:∀(a b:List Dat),Gu (a++b)=Gu a+Gu b
 |[],_=>by simp[Gu]
 |d::a,b=>by simp only[List.cons_append,Gu];rw[Ih a b];lia
section
variable {prog:Program}{w:World}
theorem aB:∀(n:Nat){A:Around}{E:Value->Shared->Prop}{s:Shared}{d:Dat}{u:Value}{Q:Int->Shared->Prop},B1 n d=true->AtH s.heap d u->A.units+n<cLine->Q (KL d) { s with toks:=s.toks+Iw d } →
  wpAny (model prog w) A (pyHash u) Q E s:=by
 have Qz:∀{A:Around}{E:Value->Shared->Prop}{s:Shared}{i:Int}{u:Value}{Q:Int->Shared->Prop},AtH s.heap (.int i) u->Q (KL (.int i)) { s with toks:=s.toks+Iw (.int i) }->wpAny (model prog w) A (pyHash u) Q E s:=by
  intro A E s i u Q r h;rw[AtH]at r;obtain⟨t,rfl⟩:=r;rw[KL,Iw]at h
  ·exact wpAny_pyHash_int h
  ·intro l;exact nofun
 intro n
 induction n with
 |zero=>
  intro A E s d u Q hk r hu h;cases d<;>simp only[B1,Bool.false_eq_true]at hk;exact Qz r h
 |succ n ih=>
  intro A E s d u Q hk r hu h;cases d<;>simp only[B1,Bool.false_eq_true]at hk
  ·exact Qz r h
  rename_i l;rw[AtH]at r;obtain⟨a,AY,rfl,ht,hi⟩:=r;have hT:s.TypeIs (.ref a) "tuple":=let ⟨o,ho,hc,_⟩:=ht;⟨o,ho,hc⟩;obtain⟨o,ho,_,m,hd⟩:=ht;unfold pyHash;first|unfold pyHashByItsType|skip
  first|refine wpAny_bind (wpAny_cRoomFor_or (.inr (by lia)) ?_)|skip
  refine wpAny_bind (wpAny_specialOf hT F.slot_tuple_hash.lookup ?_);show wpAny _ _ (if (some (Value.builtin "tuple.__hash__")==some Value.none)=true then _ else _) Q E s;rw[if_neg (by rw[beq_builtin_none];exact Bool.false_ne_true)];refine wpAny_bind (wpAny_specialOf hT F.slot_tuple_hash.lookup ?_);show wpAny _ _ (callSpecialIfBoundUnlessNone? (.ref a) "__hash__" _ >>= _) Q E s;refine wpAny_bind (wpAny_callSpecialIfBoundUnlessNone?_slot hT F.slot_tuple_hash (wpAny_call_entry F.slot_tuple_hash hT F.entry_tuple_hash ?_ (F.args_tuple_hash_1 _)));show wpAny _ _ (Builtin.Tuple.tupleItemsOf (.ref a) >>= _) _ _ s;refine wpAny_bind (wpAny_tupleItemsOf ho hd ?_);refine wpAny_bind ?_;rw[<-Array.forIn_toList];refine wpAny_forIn_list _
   (fun rest (b:Array Int) s'=>∃done left,l=done++left/\AtL s.heap left rest/\b.toList=EC done/\s'={ s with toks:=s.toks+Gu done })
   _ ?_ ?_ _ _ ⟨[],l,rfl,hi,rfl,rfl⟩
  ·rintro x rest b s' ⟨done,left,rfl,hl,hb,rfl⟩;cases left with
   |nil=>rw[AtL]at hl;cases hl
   |cons k kd=>
    rw[AtL]at hl;obtain⟨u,r,e,h1,PB⟩:=hl;cases e;have jK:B1 n k=true:=by
     have:=List.all_eq_true.mp hk k (by simp)
     exact this
    refine wpAny_bind (ih jK h1 (by show A.units+1+n<cLine;lia) ?_);have fin:∃WV bj,done++k::kd=WV++bj/\AtL s.heap bj rest/\(b.push (KL k)).toList=EC WV/\({ s with toks:=s.toks+Gu done+Iw k }:Shared)={ s with toks:=s.toks+Gu WV }:=
     ⟨done++[k],kd,by simp,PB,by simp[hb,JP,EC],by rw[Ih];simp[Gu,Nat.add_assoc]⟩
    first
     |exact wpAny_pure fin
     |exact wpAny_bind (wpAny_pure (wpAny_pure fin))
  ·rintro b s' ⟨done,left,rfl,hl,hb,rfl⟩;cases left with
   |cons k kd=>rw[AtL]at hl;obtain⟨_,_,e,_⟩:=hl;cases e
   |nil=>
    rw[List.append_nil,KL,Iw]at h;show wpAny _ _ (retInt (Builtin.Tuple.tupleHashOf b.toList)) _ _ _;rw[hb];refine wpAny_ret_mkInt ?_;show wpAny _ _ (if (decide (-(2:Int) ^ 63<=Builtin.Tuple.tupleHashOf (EC done))&&decide (Builtin.Tuple.tupleHashOf (EC done)<2 ^ 63))=true then _ else _) Q E _;unfold reduceHash at h;by_cases hr:(decide (-(2:Int) ^ 63<=Builtin.Tuple.tupleHashOf (EC done))&&decide (Builtin.Tuple.tupleHashOf (EC done)<2 ^ 63))=true
    ·rw[if_pos hr];rw[if_pos hr]at h;exact wpAny_pure (by simpa[Nat.add_assoc]using h)
    ·rw[if_neg hr];rw[if_neg hr]at h;exact wpAny_bind (wpAny_rule (wpAny_pure (by simpa[Nat.add_assoc]using h)))
theorem Xi:∀(n m:Nat){A:Around}{E:Value->Shared->Prop}{s:Shared}{d:Dat}{u:Value}{Q:Bool->Shared->Prop},n<=m->B1 n d=true->AtH s.heap d u->Q true s->wpAny (model prog w) A (eqIsQuiet m u) Q E s:=by
 have Qz:∀{m:Nat}{A:Around}{E:Value->Shared->Prop}{s:Shared}{i:Int}{u:Value}{Q:Bool->Shared->Prop},AtH s.heap (.int i) u->Q true s->wpAny (model prog w) A (eqIsQuiet m u) Q E s:=by
  intro m A E s i u Q r h;rw[AtH]at r;obtain⟨t,rfl⟩:=r;rw[eqIsQuiet_byValue m rfl];exact wpAny_pure h
 intro n
 induction n with
 |zero=>
  intro m A E s d u Q _ hk r h;cases d<;>simp only[B1,Bool.false_eq_true]at hk;exact Qz r h
 |succ n ih=>
  intro m A E s d u Q hm hk r h;cases d<;>simp only[B1,Bool.false_eq_true]at hk
  ·exact Qz r h
  rename_i l;obtain⟨m',rfl⟩:∃m',m=m'+1:=⟨m-1,by lia⟩;rw[AtH]at r;obtain⟨a,AY,rfl,ht,hi⟩:=r;have hT:s.TypeIs (.ref a) "tuple":=let ⟨o,ho,hc,_⟩:=ht;⟨o,ho,hc⟩;obtain⟨o,ho,_,q,hd⟩:=ht;unfold eqIsQuiet;refine wpAny_bind (wpAny_specialOf hT F.slot_tuple_eq.lookup ?_);show wpAny _ _ (isInstance (.ref a) (.type "tuple") >>= _) _ _ s;refine wpAny_bind (wpAny_isInstance hT isSubtype_tuple_tuple ?_);simp only[Bool.not_true,Bool.false_eq_true,if_false];refine wpAny_bind (wpAny_seqItems ho hd ?_);refine wpAny_bind ?_;show wpAny _ _ (forIn AY.toArray _ _) _ _ s;rw[<-Array.forIn_toList];refine wpAny_forIn_list _ (fun rest r s'=>r.1=none/\s'=s/\∃left,AtL s.heap left rest/\left.all (B1 n)=true) _ ?_ ?_ _ _ ⟨rfl,rfl,l,hi,hk⟩
  ·rintro v rest r s' ⟨hr,rfl,left,hl,X6⟩;cases left with
   |nil=>rw[AtL]at hl;cases hl
   |cons k ks=>
    rw[AtL]at hl;obtain⟨u,r',e,h1,PB⟩:=hl;cases e;simp only[List.all_cons,Bool.and_eq_true]at X6;refine wpAny_bind (ih m' (by lia) X6.1 h1 ?_);simp only[Bool.not_true,Bool.false_eq_true,if_false];exact wpAny_pure ⟨rfl,rfl,ks,PB,X6.2⟩
  ·rintro⟨r1,r2⟩ s' ⟨hr,rfl,_⟩;simp only at hr;subst hr;exact wpAny_pure h
def cE(h:Heap)(k:Dat)(a:Addr):Prop:=B1 6 k=true/\AtH h k (.ref a)
mutual
theorem AtH.keeps{h h':Heap}{d:Addr}{o:Obj}{es ep}(ho:h.get? d=some o)(hd:o.data=.dict es ep)(hs:Heap.SameBut d h h'):∀{k:Dat}{u:Value},AtH h k u->AtH h' k u
 |.non,_,r=>by rw[AtH]at r ⊢;exact r
 |.bl _,_,r=>by rw[AtH]at r ⊢;exact r
 |.int _,_,r=>by rw[AtH]at r ⊢;exact r
 |.str _,_,r=>by rw[AtH]at r ⊢;exact r
 |.fn _,_,r=>by rw[AtH]at r ⊢;exact r
 |.scr _,_,r=>by rw[AtH]at r;exact r.elim
 |.tup l,_,r=>by
  rw[AtH]at r ⊢;obtain⟨a,AY,e,⟨o',h1,h2,n,h3⟩,h4⟩:=r;have BS:a≠d:=by
   rintro rfl;rw[ho]at h1;cases h1;rw[hd]at h3;cases h3
  exact⟨a,AY,e,⟨o',(hs.2 a BS).trans h1,h2,n,h3⟩,AtL.keeps ho hd hs h4⟩
 |.lst l,_,r=>by
  rw[AtH]at r ⊢;obtain⟨a,AY,e,⟨o',h1,h2,n,h3⟩,h4⟩:=r;have BS:a≠d:=by
   rintro rfl;rw[ho]at h1;cases h1;rw[hd]at h3;cases h3
  exact⟨a,AY,e,⟨o',(hs.2 a BS).trans h1,h2,n,h3⟩,AtL.keeps ho hd hs h4⟩
theorem AtL.keeps{h h':Heap}{d:Addr}{o:Obj}{es ep}(ho:h.get? d=some o)(hd:o.data=.dict es ep)(hs:Heap.SameBut d h h'):∀{k:List Dat}{u:List Value},AtL h k u->AtL h' k u
 |[],_,r=>by rw[AtL]at r ⊢;exact r
 |_::_,_,r=>by
  rw[AtL]at r ⊢;obtain⟨u,q,e,h1,h2⟩:=r;exact⟨u,q,e,AtH.keeps ho hd hs h1,AtL.keeps ho hd hs h2⟩
end
def Be(prog:Program)(w:World):HeapKind prog w Dat where
 is:=cE
 hash:=KL
 draws:=Iw
 room:=fun A=>A.units+6<cLine
 inj:=fun hx hy=>AtH.inj 6 (Dk hx.1) (Dk hy.1) hx.2 hy.2
 keeps:=fun x ho hd hs=>⟨x.1,x.2.keeps ho hd hs⟩
 pyHash:=fun hu hk h=>aB 6 hk.1 hk.2 hu h
 eqBool:=fun hu hx hy h=>(GN 6 (Dk hx.1) (Dk hy.1) hx.2 hy.2 hu).1 _ _ _ _ (by rw[ay hx.1 hy.1];exact h)
 quiet:=fun hk h=>Xi 6 8 (by decide) hk.1 hk.2 h
end
def Ac(AR:List (Dat×Dat))(k:Dat):Option Dat:=(AR.find? fun x=>decide (x.1=k)).map (·.2)
def DM(AR:List (Dat×Dat))(k v:Dat):List (Dat×Dat):=if (Ac AR k).isSome then AR.map (fun x=>if x.1=k then(x.1,v)else x)else AR++[(k,v)]
theorem K3{AR:List (Dat×Dat)}{k v:Dat}(h:Ac AR k=none):DM AR k v=AR++[(k,v)]:=by simp[DM,h]
theorem DRep.length{K:PySem.W.Frag}{H:Hp}:∀{AR:List (Dat×Dat)}{xs:List (Dat×Addr×Value)},DRep K H AR xs->xs.length=AR.length
 |[],_,h=>by rw[DRep]at h;subst h;rfl
 |(k,d)::r,_,h=>by
  rw[DRep]at h;obtain⟨a,u,Mc,rfl,_,_,_,h6⟩:=h;rw[List.length_cons,List.length_cons,DRep.length h6]
theorem DRep.keys{K:PySem.W.Frag}{H:Hp}:∀{AR:List (Dat×Dat)}{xs:List (Dat×Addr×Value)},DRep K H AR xs->∀x∈xs,B1 6 x.1=true/\Rep K H x.1 (.ref x.2.1)
 |[],_,h,x,hx=>by rw[DRep]at h;subst h;cases hx
 |(k,d)::r,_,h,x,hx=>by
  rw[DRep]at h;obtain⟨a,u,Mc,rfl,h2,h3,_,h6⟩:=h;rcases List.mem_cons.mp hx with e|hx
  ·subst e;exact⟨h2,h3⟩
  ·exact DRep.keys h6 x hx
theorem DRep.look{K:PySem.W.Frag}{H:Hp}(k:Dat):∀{AR:List (Dat×Dat)}{xs:List (Dat×Addr×Value)},DRep K H AR xs->(Ac AR k).isSome=(atKey xs k).isSome/\∀d,Ac AR k=some d->∃p v,atKey xs k=some p/\RelV v p.2/\Rep K H d v
 |[],_,h=>by rw[DRep]at h;subst h;exact⟨rfl,fun d e=>by simp[Ac]at e⟩
 |(k',d')::r,_,h=>by
  rw[DRep]at h;obtain⟨a,u,Mc,rfl,_,_,⟨v,h4,h5⟩,h6⟩:=h;by_cases e:k'=k
  ·subst e;refine⟨by simp[Ac,atKey],fun d hd=>⟨(a,u),v,by simp[atKey],h4,?_⟩⟩;simp[Ac]at hd;subst hd;exact h5
  ·have:=DRep.look k h6
   have e1:Ac ((k',d')::r) k=Ac r k:=by simp[Ac,e]
   have e2:atKey ((k',a,u)::Mc) k=atKey Mc k:=by simp[atKey,e]
   rw[e1,e2];exact this
theorem DRep.put{K:PySem.W.Frag}{H:Hp}{k d:Dat}{a:Addr}{u:Value}{v:V}(hk:B1 6 k=true)(ra:Rep K H k (.ref a))(ru:RelV v u)(rd:Rep K H d v){AR:List (Dat×Dat)}{xs:List (Dat×Addr×Value)}(h:DRep K H AR xs) :
  DRep K H (DM AR k d) (storedH xs k a u):=by
 have look:=(DRep.look k h).1;have app:∀{AR:List (Dat×Dat)}{xs:List (Dat×Addr×Value)},DRep K H AR xs->DRep K H (AR++[(k,d)]) (xs++[(k,a,u)]):=by
  intro AR
  induction AR with
  |nil=>intro xs h;rw[DRep]at h;subst h;exact⟨a,u,[],rfl,hk,ra,⟨v,ru,rd⟩,rfl⟩
  |cons p r ih=>
   intro xs h;obtain⟨k',d'⟩:=p;rw[DRep]at h;obtain⟨a',u',Mc,rfl,h2,h3,h4,h6⟩:=h;exact⟨a',u',_,rfl,h2,h3,h4,ih h6⟩
 have map:∀{AR:List (Dat×Dat)}{xs:List (Dat×Addr×Value)},DRep K H AR xs->DRep K H (AR.map fun x=>if x.1=k then(x.1,d)else x) (xs.map (putAt k u)):=by
  intro AR
  induction AR with
  |nil=>intro xs h;rw[DRep]at h;subst h;rfl
  |cons p r ih=>
   intro xs h;obtain⟨k',d'⟩:=p;rw[DRep]at h;obtain⟨a',u',Mc,rfl,h2,h3,h4,h6⟩:=h;rw[List.map_cons,List.map_cons];by_cases e:k'=k
   ·simp only[e,if_true,putAt];subst e;exact⟨a',u,_,rfl,h2,h3,⟨v,ru,rd⟩,ih h6⟩
   ·simp only[e,if_false,putAt];exact⟨a',u',_,rfl,h2,h3,h4,ih h6⟩
 unfold DM storedH;rw[look];by_cases e:(atKey xs k).isSome=true
 ·rw[if_pos e,if_pos e];exact map h
 ·rw[if_neg e,if_neg e];exact app h
section
variable {X:Cx}{AD:List (Addr×Obj)}{σ:St}{H:Hp}{s:Shared}{p:Addr}{G:Gs}{AR:List (Dat×Dat)}{xs:List (Dat×Addr×Value)}
theorem Inv.big(I:Inv X AD σ H s):sysModules<s.heap.objs.size:=by have h:mainGlobals<s.heap.objs.size:=(I.mod.glob.keeps I.bk).lt;exact Nat.lt_trans (by decide) h
theorem IL(I:Inv X AD σ H s){k:Dat}{a:Addr}(hk:B1 6 k=true)(r:Rep X.K H k (.ref a)):cE s.heap k a:=⟨hk,r.at I (Dk hk) rfl⟩
theorem Fi(I:Inv X AD σ H s)(h:H p=some (E7 p xs))(r:DRep X.K H AR xs):(p==sysModules)=false/\xs.length<=sizeLine/\s.heap.DictOfH (Be X.prog X.w) p xs:=by obtain⟨⟨h1,h2,h3,o,es,ep,h4,h5,h6,h7⟩,_,_⟩:=(show ObjOk X.prog X.w H s.heap p (.ext (ON p xs))from I.hok p _ h);exact⟨h1,h2,o,es,ep,h4,h5,h6,h7,fun x hx=>IL I (r.keys x hx).1 (r.keys x hx).2,h3⟩
theorem K2{P:Program}{w:World}{H:Hp}{h:Heap}(d:ON p xs h):ObjOk P w H h p (E7 p xs):=by obtain⟨h1,h2,h3,o,es,ep,h4,h5⟩:=id d;exact⟨d,⟨o,h4⟩,fun k1 k2 ⟨g1,g2,g3,o',Ke,XC,g4,g5⟩ hk=>⟨g1,g2,g3,o',Ke,XC,hk _ g4,g5⟩⟩
theorem Nj{Mc:List (Dat×Addr×Value)}{BM:List (Dat×Dat)}(o:GOk X.K H G)(hG:G p=some (.dct AR))(r:DRep X.K (hid H G) BM Mc):Ext H G (upd H p (E7 p Mc)) (put G p (.dct BM))/\GOk X.K (upd H p (E7 p Mc)) (put G p (.dct BM)):=by
 have E:Ext H G (upd H p (E7 p Mc)) (put G p (.dct BM)):=⟨fun b u e h=>by
  have:b≠p:=by rintro rfl;rw[hG]at h;cases h
  rw[Al this];exact e,fun b h=>by
  by_cases hb:b=p
  ·subst hb;left;rw[hG];exact nofun
  ·rw[AL hb]at h;exact .inl h⟩
 refine⟨E,fun b u q=>?_⟩;by_cases hb:b=p
 ·subst hb;rw[AG]at q;cases q;exact⟨Mc,BJ,r.same E.hid⟩
 ·rw[AL hb]at q;exact(o b u q).ext E.hid (Al hb)
theorem Ky(o:GOk X.K H G)(hp:H p=none):Ext H G (upd H p (E7 p [])) (put G p (.dct []))/\GOk X.K (upd H p (E7 p [])) (put G p (.dct [])):=by
 have E:Ext H G (upd H p (E7 p [])) (put G p (.dct [])):=⟨fun b u e _=>by rw[Al (A9 e hp)];exact e,fun b h=>by
  by_cases hb:b=p
  ·subst hb;exact .inr hp
  ·rw[AL hb]at h;exact .inl h⟩
 refine⟨E,fun b u q=>?_⟩;by_cases hb:b=p
 ·subst hb;rw[AG]at q;cases q;exact⟨[],BJ,rfl⟩
 ·rw[AL hb]at q;exact(o b u q).ext E.hid (Al hb)
end
section
variable {X:Cx}{ρ:Rho}{G:Gs}{e a b c:Expr}{d k:Dat}{p:Addr}{AR:List (Dat×Dat)}{pos:Pos}
theorem BQ(hu:X.A.units+9<cLine)(ha:PX X ρ G a k)(hb:PX X ρ G b (.fn p))(hG:G p=some (.dct AR))(hk:B1 6 k=true)(hr:∃l,k=.tup l):PXC X ρ G .NotIn a b (.bl (!(Ac AR k).isSome)):=by
 intro AD s σ H I S;refine thn (ha AD s σ H I S) fun v s1 ⟨x,H1,I1,rx,_,_,e1,o1,r1,q1,BX⟩=>?_;subst q1;subst BX;refine thn (hb AD s1 σ H1 I1 (S.ext e1 o1)) fun u s2 ⟨y,H2,I2,ry,_,_,e2,o2,r2,q2,FQ⟩=>?_;subst q2;subst FQ;cases (show y=V.ref p from r2);cases ry;obtain⟨l,rfl⟩:=hr;have WH:=(r1.same e2.hid).same AK;have hx:∃t,x=V.ref t:=by rw[Rep]at WH;obtain⟨t,_,e,_⟩:=WH;exact⟨t,e⟩
 obtain⟨t,rfl⟩:=hx;cases rx;obtain⟨xs,h3,r3⟩:=o2 p _ hG;obtain⟨z1,z2,dd⟩:=Fi I2 h3 (r3.same AK);refine wpAny_notIn_heap (knd:=Be X.prog X.w) (show X.A.units+1+6<cLine by lia) (IL I2 hk WH) z1 dd ⟨.bl _,H2,I2.tok _,rfl,.bl _,_,e1.trans e2,o2,?_,rfl,rfl⟩;rw[<-(DRep.look _ r3).1];rfl
end
section
variable {X:Cx}
def iJ(K:PySem.W.Frag):R2:=fun x y H Q=>∃a b xs ys,x=.ref a/\y=.ref b/\SqT K H a xs/\SqT K H b ys/\xs.length+ys.length<=sizeLine ∧
 (xs=[]->Q (.ref b) H)/\(ys=[]->Q (.ref a) H)/\∀p,H p=none->Q (.ref p) (upd H p (.tup (xs++ys)))
theorem aZ:OpR X (binaryOp .Add) (iJ X.K):=by
 intro AD s σ H x y v u Q I rx ry h;obtain⟨a,b,xs,ys,rfl,rfl,ha,hb,hz,q0,q1,q2⟩:=h;by_cases hx:xs=[]
 ·cases rx;cases ry;obtain⟨AY,r1,p1,_⟩:=I.tuple ha;obtain⟨Ju,r2,p2,_⟩:=I.tuple hb;obtain⟨⟨cls,dd,data,sl⟩,ho,hc,n,hd⟩:=id p1;obtain⟨⟨dv,So,data2,PC⟩,Sr,RC,n2,hd2⟩:=id p2;simp only at hc hd RC hd2;subst hc hd RC hd2;exact concat_meets ⟨_,ho,rfl⟩ ⟨_,Sr,rfl⟩ noFill_tuple_add seq_tuple_add PySem.F.slot_tuple_add PySem.F.entry_tuple_add (PySem.F.args_tuple_add_2 _ _)
   (tuple_addW0 a b AY.toArray Ju.toArray n n2 dd So sl PC (by rw[r1.nil_iff.mpr hx];rfl)) ⟨ho,Sr,.ref b,H,I,rfl,q0 hx⟩
 ·exact Z7 AD s σ H (.ref a) (.ref b) v u Q I rx ry ⟨a,b,xs,ys,rfl,rfl,ha,hb,hx,hz,q1,fun _=>q2⟩
def kR(K:PySem.W.Frag):V->Option Int->Option Int->Hp->VK->Prop:=fun x lo hi H Q=>∃a xs,x=.ref a/\SqT K H a xs/\(MX xs lo hi=xs->Q (.ref a) H)/\∀p,H p=none->Q (.ref p) (upd H p (.tup (MX xs lo hi)))
theorem Z9:SlR X (kR X.K):=by
 intro AD s σ H x v vl vu lo hi sl Q I rx hs pl pu h;obtain⟨a,xs,rfl,hx,q1,q2⟩:=h;by_cases hw:HT.sIx xs.length 0 lo=0/\HT.sIx xs.length xs.length hi=xs.length
 ·cases rx;obtain⟨AY,r,ht,hz⟩:=I.tuple hx;have A2:AY.toArray.size=xs.length:=by rw[List.size_toArray];exact r.length.symm
  have cut:MX xs lo hi=xs:=by unfold MX;rw[hw.1,hw.2];simp
  refine⟨"tuple",_,PyProof.Rows.slot_tuple_getitem.lookup,ht.typeIs,?_⟩;obtain⟨os,eR,jh,gk⟩:=id hs;have mH:s.TypeIs (.ref sl) "slice":=⟨os,eR,jh⟩;unfold getItem;try with_reducible refine wpAny_holding ?_
  first|refine wpAny_bind (wpAny_pure ?_)|skip
  refine wpAny_bind (wpAny_sequenceKey ht.typeIs (by decide) ?_);refine wpAny_bind (wpAny_callSpecial?_slot (name:=Str.ofString "__getitem__") ht.typeIs PyProof.Rows.slot_tuple_getitem
   (wpAny_call_entry PyProof.Rows.slot_tuple_getitem ht.typeIs entry_tuple_getitem ?_ (args_tuple_getitem _ _)))
  show wpAny _ _ (Builtin.Tuple.tupleItemsOf (.ref a) >>= _) _ _ s;refine wpAny_bind (tupleItemsOf_ ht ?_);refine wpAny_bind (wpAny_typeOf mH ?_);rw[if_pos (by decide)];refine wpAny_bind (HT.sliceApplied_gen hs pl pu ?_);have lP:(((HT.sIx AY.toArray.size 0 lo:Nat):Int)==0&&(1:Int)==1&&(HT.sIx AY.toArray.size AY.toArray.size hi-HT.sIx AY.toArray.size 0 lo)==AY.toArray.size)=true:=by
   rw[A2,hw.1,hw.2];simp
  show wpAny _ _ (if (((HT.sIx AY.toArray.size 0 lo:Nat):Int)==0&&(1:Int)==1&&(HT.sIx AY.toArray.size AY.toArray.size hi-HT.sIx AY.toArray.size 0 lo)==AY.toArray.size)=true then _ else _) _ _ s;rw[if_pos lP];refine wpAny_bind ?_;unfold Builtin.Tuple.tupleIsExact;refine wpAny_bind (wpAny_typeOf ht.typeIs (wpAny_pure ?_));rw[if_pos (by decide)];exact wpAny_bind (wpAny_rule (wpAny_pure ⟨_,rfl,wpAny_pure ⟨.ref a,H,I,rfl,q1 cut⟩⟩))
 ·exact eK AD s σ H (.ref a) v vl vu lo hi sl Q I rx hs pl pu ⟨a,xs,rfl,hx,hw,q2⟩
end
theorem D9(AR:List (Dat×Dat))(k v:Dat):(DM AR k v).length<=AR.length+1:=by
 unfold DM;split
 ·rw[List.length_map];lia
 ·rw[List.length_append,List.length_singleton];exact Nat.le_refl _
section
variable {X:Cx}{ρ:Rho}{G:Gs}{e a b c:Expr}{es:List Expr}{d d' d1 d2 k:Dat}{ds l m:List Dat}{pos:Pos}{i j:Int}{p:Addr}{AR:List (Dat×Dat)}{D:DE}{rest:List Stmt}
theorem Nn(ha:PX X ρ G a (.tup l))(hb:PX X ρ G b (.tup m))(hz:l.length+m.length<=sizeLine):PX X ρ G (.BinOp a .Add b pos) (.tup (l++m)):=J7 aZ ha hb fun H x y Q o hx hy k=>by
  have kM:=hx;have dO:=hy;rw[Rep]at hx hy;obtain⟨p,vs,e1,h1,r1⟩:=hx;obtain⟨q,us,e2,h2,r2⟩:=hy;refine⟨p,q,vs,us,e1,e2,Av AK h1,Av AK h2,by rw[r1.length,r2.length];exact hz,fun z=>?_,fun z=>?_,fun t ht=>k _ _ (Kg o ht (r1.append r2))⟩
  ·have hl:l=[]:=by have:=r1.length;rw[z]at this;cases l<;>simp_all
   subst hl;rw[<-e2];exact k _ _ (Bc o (by rw[List.nil_append];exact dO))
  ·have hm:m=[]:=by have:=r2.length;rw[z]at this;cases m<;>simp_all
   subst hm;rw[<-e1];exact k _ _ (Bc o (by rw[List.append_nil];exact kM))
def PXo(X:Cx)(ρ:Rho)(G:Gs)(e:Option Expr)(o:Option Int):Prop:=match e,o with
 |none,none=>True
 |some e,some i=>PX X ρ G e (.int i)
 |_,_=>False
def Sw(l:List Dat)(lo hi:Option Int):List Dat:=(l.drop (HT.sIx l.length 0 lo)).take (HT.sIx l.length l.length hi-HT.sIx l.length 0 lo)
def tWo(X:Cx)(e:Option Expr):TO:=fun σ H Q'=>∃ρ G o,PXo X ρ G e o/\Stt X H σ ρ G/\∀H',Ext H G H' G->GOk X.K H' G->Q' o H'
theorem bo{e:Option Expr}:PO X e (tWo X e):=by
 intro AD s σ H Q I ⟨ρ,G,o,h,S,k⟩;cases e with
 |none=>
  cases o with
  |none=>exact aF AD s σ H Q I (k H Ext.refl S.own)
  |some i=>exact h.elim
 |some e=>
  cases o with
  |none=>exact h.elim
  |some i=>
   refine Zz (Ax (X:=X) (e:=e)) AD s σ H Q I ⟨ρ,G,_,h,S,fun v H' ⟨d,G',e',o',r',q1,q2⟩=>?_⟩;subst q1;subst q2;exact⟨i,r',k H' e' o'⟩
theorem Uo{K:PySem.W.Frag}{H:Hp}{vs:List V}{lo hi:Option Int}(r:RepL K H l vs):RepL K H (Sw l lo hi) (MX vs lo hi):=by unfold Sw MX;rw[r.length];exact(r.drop _).take _
theorem Jv{lo hi:Option Expr}{p2:Pos}{ol oh:Option Int}(ha:PX X ρ G a (.tup l))(hl:PXo X ρ G lo ol)(hh:PXo X ρ G hi oh):PX X ρ G (.Subscript a (.Slice lo hi none p2) pos) (.tup (Sw l ol oh)):=Bn (Yq Z9 Ax bo bo) fun σ H S=>⟨ρ,G,_,ha,S,fun x H1 ⟨_,_,e1,o1,r1,q1,BX⟩=>by
  subst q1;subst BX;refine⟨ρ,_,ol,hl,S.ext e1 o1,fun H2 e2 o2=>⟨ρ,_,oh,hh,S.ext (e1.trans e2) o2,fun H3 e3 o3=>?_⟩⟩;have r3:=r1.same (e2.trans e3).hid;have sd:=r3;rw[Rep]at r3;obtain⟨p,vs,e4,h4,r4⟩:=r3;refine⟨p,vs,e4,Av AK h4,fun z=>?_,fun t ht=>Po.trans (e1.trans (e2.trans e3)) (Kg o3 ht (Uo r4))⟩;refine Po.trans (e1.trans (e2.trans e3)) (Bc o3 ?_);rw[Rep];exact⟨p,vs,rfl,h4,by have:=Uo (lo:=ol) (hi:=oh) r4;rw[z]at this;exact this⟩⟩
theorem U0(hc:X.calm=true):Cc X (.builtin "sum") (fun xs H Q=>∃(p:Addr)(ns:List Int),xs=[.ref p]/\SqL X.K H p (ns.map V.int)/\Q (.int ns.sum) H):=by
 intro AD s σ H xs us Q I r h;obtain⟨p,ns,rfl,hq,q⟩:=h;obtain⟨u,rfl,rx⟩:=JQ r;cases rx;obtain⟨AY,r',pl,hz⟩:=I.list hq;have hi:IntsAre AY ns:=Hz r';obtain⟨xs,hx⟩:=hi.allInts.items;have hl:=pl.isList;rw[hx]at hl;refine PySem.sum_intListG (I.ok.hd hc) hl fun h' tk t' hk=>⟨.int ns.sum,H,I.kept hk,⟨t',?_⟩,q⟩;have e:ns=xs.toList.map (·.1):=by
  rw[<-hi.numsOf,<-nums_intItems,<-hx]
 rw[preSum_eq,List.take_of_length_le (by simp),<-e]
theorem dg{ns:List Int}{pp:Pos}(hc:X.calm=true)(hm:X.mg "sum"=none)(ha:PX X ρ G a (.lst (ns.map .int)))(hg:Gl X "sum":=by rfl)(he:starEach [a] X.env=(false,eval a X.env)::starEach [] X.env:=by rfl):PX X ρ G (.Call (.Name "sum" pp) [a] [] pos) (.int ns.sum):=En (U0 hc) hg hm boot_sum ha (fun H x Q o r k=>by
  rw[Rep]at r;obtain⟨q,vs,e,h1,r1⟩:=r;exact⟨q,ns,by rw[e],by rw[<-r1.ints];exact SqL.of (AK _ _ h1),k _ _ (Bc o rfl)⟩) (he:=he)
theorem Wh{Q:List Dat->Gs->Prop}(h:Q [] G):WA X ρ G [] Q:=UK Cb fun σ H S=>⟨[],G,Ext.refl,S.own,RepL.nil,h⟩
theorem HN{Q:List Dat->Gs->Prop}(h:WE X ρ G e fun d G1=>WA X ρ G1 es fun ds G2=>Q (d::ds) G2)(hs:starEach (e::es) X.env=(false,eval e X.env)::starEach es X.env:=by rfl):WA X ρ G (e::es) Q:=UK (BG Ax Ly hs) fun σ H S=>⟨ρ,G,_,h,S,fun x H1 ⟨d,G1,e1,o1,r1,w1⟩=>⟨ρ,G1,_,w1,S.ext e1 o1,fun xs H2 ⟨ds,G2,e2,o2,r2,q2⟩=>⟨d::ds,G2,e1.trans e2,o2,RepL.cons (r1.same e2.hid) r2,q2⟩⟩⟩
theorem YB{S:SpD}{kk:Nat}{ps:List Str}{x:Str}{pp:Pos}{Q:Dat->Gs->Prop}(F:Df X.prog X.w X.K X.mg X.base x ps kk S)(hr:Room kk X.A)(ha:WA X ρ G (e::es) fun ds G'=>S ds G' Q)(hg:Gl X x:=by rfl)(MM:(x==("__debug__":Str))=false:=by decide)(he:starEach (e::es) X.env=(false,eval e X.env)::starEach es X.env:=by rfl)(hpl:(backTo pos (starEach es X.env)).any (·.1)=false:=by rfl):WE X ρ G (.Call (.Name x pp) (e::es) [] pos) Q:=by obtain⟨f,fd,F,hm,hk,hb⟩:=F.ex;exact Bn (UH F hr hg hm hk hb .nil Y8 Ly MM he hpl) fun σ H St=>⟨ρ,G,_,ha,St,fun vs H1 ⟨ds,G1,e1,o1,r1,q1⟩=>⟨ds,G1,Q,o1,by rw[List.append_nil];exact r1,q1,fun v H' d G' e' o' r' q'=>⟨d,G',e1.trans e',o',r',q'⟩⟩⟩
theorem FJ{Q:Dat->Gs->Prop}(h:∀p,G p=none->Q (.fn p) (put G p (.dct []))):WE X ρ G (.Dict [] [] pos) Q:=fun AD s σ H I S=>by
 refine wpAny_Dict_empty ⟨.ref s.heap.objs.size,_,I.laid (a:=s.heap.objs.size) (o:=E7 s.heap.objs.size []) (t':=s.toks) (fun _ _ q=>Heap.get?_push_of_some _ q) (Nat.le_refl _) ?_,rfl,?_⟩
 ·refine K2 ⟨beq_eq_false_iff_ne.mpr (Ne.symm (Nat.ne_of_lt (Inv.big I))),Nat.zero_le _,List.nodup_nil,_,#[],0,Heap.get?_push_size _ rfl,⟨rfl,rfl,rfl⟩,rfl,rfl⟩
 ·have hp:H s.heap.objs.size=none:=I.hok.fresh (Nat.le_refl _);obtain⟨E,O⟩:=Ky (X:=X) S.own hp;exact⟨.fn s.heap.objs.size,_,E,O,rfl,h _ (S.own.free hp)⟩
theorem Bw(hu:X.A.units+9<cLine)(ha:PX X ρ G a (.fn p))(hb:PX X ρ G b k)(hG:G p=some (.dct AR))(hk:B1 6 k=true)(hr:∃l,k=.tup l)(hl:Ac AR k=some d)(hs:E9 b:=by intro _ _;rfl):PX X ρ G (.Subscript a b pos) d:=by
 intro AD s σ H I S;refine Subscript_ (thn (ha AD s σ H I S) fun u s1 ⟨x,H1,I1,rx,_,_,e1,o1,r1,q1,BX⟩=>?_);subst q1;subst BX;refine thn (hb AD s1 σ H1 I1 (S.ext e1 o1)) fun iv s2 ⟨y,H2,I2,ry,_,_,e2,o2,r2,q2,FQ⟩=>?_;subst q2;subst FQ;cases (show x=V.ref p from r1);cases rx;obtain⟨l,rfl⟩:=hr;have Vm:=r2.same AK;have hx:∃t,y=V.ref t:=by rw[Rep]at Vm;obtain⟨t,_,e,_⟩:=Vm;exact⟨t,e⟩
 obtain⟨t,rfl⟩:=hx;cases ry;obtain⟨xs,h3,r3⟩:=o2 p _ hG;obtain⟨z1,z2,dd⟩:=Fi I2 h3 (r3.same AK);obtain⟨q,v,hq,rv,rd⟩:=(DRep.look _ r3).2 d hl;refine tail_any (ops:=[.ref p,.ref t]) dd.typeIs PySem.F.slot_dict_getitem.lookup ?_ (hs _ _);exact wpAny_getItem_heap (knd:=Be X.prog X.w) (show X.A.units+1+6<cLine by lia) (IL I2 hk Vm) dd hq ⟨v,H2,I2.tok _,rv,d,_,e1.trans e2,o2,rd,rfl,rfl⟩
theorem CT{pos':Pos}(hu:X.A.units+9<cLine)(hv:PX X ρ G e d)(ha:PX X ρ G a (.fn p))(hb:PX X ρ G b k)(hG:G p=some (.dct AR))(hk:B1 6 k=true)(hr:∃l,k=.tup l)(hz:AR.length<sizeLine)(q:WSs X ρ (put G p (.dct (DM AR k d))) rest D)(hs:swapsWith e (some (.Subscript a b pos')) pos.line X.env=pure false:=by rfl):WSs X ρ G (.Assign [.Subscript a b pos'] e pos::rest) D:=BP fun AD s σ H I S=>by
 refine wpAny_Assign_Subscript (thn (hv AD s σ H I S) fun r s0 ⟨vv,H0,I0,qs,_,_,e0,o0,r0,q0,p6⟩=>?_) hs;subst q0;subst p6;refine thn (ha AD s0 σ H0 I0 (S.ext e0 o0)) fun u s1 ⟨x,H1,I1,rx,_,_,e1,o1,r1,q1,BX⟩=>?_;subst q1;subst BX;refine thn (hb AD s1 σ H1 I1 (S.ext (e0.trans e1) o1)) fun iv s2 ⟨y,H2,I2,ry,_,_,e2,o2,r2,q2,FQ⟩=>?_;subst q2;subst FQ;cases (show x=V.ref p from r1);cases rx;obtain⟨l,rfl⟩:=hr;have Vm:=r2.same AK;have hx:∃t,y=V.ref t:=by rw[Rep]at Vm;obtain⟨t,_,e,_⟩:=Vm;exact⟨t,e⟩
 obtain⟨t,rfl⟩:=hx;cases ry;obtain⟨xs,h3,r3⟩:=o2 p _ hG;obtain⟨z1,z2,dd⟩:=Fi I2 h3 (r3.same AK);have rn:=DRep.put hk r2 qs (r0.same (e1.trans e2).hid) r3;refine wpAny_setItem_heap (hsz:=z2) (knd:=Be X.prog X.w) (show X.A.units+1+6<cLine by lia) (IL I2 hk Vm) dd fun h' kJ RD=>?_;obtain⟨E,O⟩:=Nj (X:=X) o2 hG rn;obtain⟨o',Ke,XC,g1,g2,g3,g4,_,g5⟩:=kJ;refine⟨σ,_,I2.write (x:=p) (e:=p) (t':=s2.toks+Iw (.tup l)) (by rw[h3];exact True.intro) (.inl rfl) (fun b o hb z=>(RD.2 b hb).trans z) ⟨o',g1⟩ (K2 ⟨z1,?_,g5,o',Ke,XC,g1,g2,g3,g4⟩),ρ,_,(e0.trans (e1.trans e2)).trans E,S.ext ((e0.trans (e1.trans e2)).trans E) O,q⟩;exact Nat.le_trans (Nat.le_of_eq rn.length) (Nat.le_trans (D9 _ _ _) hz)
end
section
variable {X:Cx}{ρ:Rho}{G:Gs}{elt AN An:Expr}{ifs:List Expr}{scope:Scope}{Aq pos pos':Pos}{tail:Env->Value->Sem Unit}{Nc:List Str}{caps:List (Option Nat)}{l:List Dat}{f:Dat->Rho->Option Rho}{D:DE}{rest:List Stmt}
theorem GA(n:Nat){x:Str}(Pv:Nat->List Dat->Gs->Prop)(hN:X.N.Nodup)(ht:Ll elt AN An ifs scope Aq tail)(Sc:CompSc X scope Nc caps)(CG:X.calm=true)(hi:WI X ρ G AN An fun l' G'=>l'=l/\Pv 0 [] G')(hg:∀C s' H' fp,PGD (Ag X Nc scope C s' H' fp) AN f)(hle:∀d ρ',f d (BI caps ρ)=some ρ'->ρ'.length=(BI caps ρ).length/\∀(j:Nat) e,(BI caps ρ)[j]?=some (some e)->ρ'[j]?=some (some e))(hz:l.length<=sizeLine)(CW:∀C s' H' fp D i d Az G',l[i]?=some d->Pv i Az G'->G' D=none->∃ρ',f d (BI caps ρ)=some ρ' ∧
   KC (Ag X Nc scope C s' H' fp) ρ' (put G' D (.lst Az)) (tail (Ag X Nc scope C s' H' fp).env (.ref D)) fun Lr=>∃EW G4,EW.length<=Az.length+1/\G4 D=none/\Lr=put G4 D (.lst EW)/\Pv (i+1) EW G4)(hd:∀Az G',Pv l.length Az G'->WSs X (ρ.set n (some (.lst Az))) G' rest D)(hn:X.N[n]?=some x:=by rfl)(hx:X.env.kindOf x=some .local:=by rfl)(iQ:swapsWith (.ListComp elt [⟨AN,An,ifs,0⟩] scope Aq) (some (.Name x pos')) pos.line X.env=pure true:=by rfl)(Mq:∀x,foldedSetIterable An X.env x=pure x:=by intro _;rfl):WSs X ρ G (.Assign [.Name x pos'] (.ListComp elt [⟨AN,An,ifs,0⟩] scope Aq) pos::rest) D:=BP fun AD s σ H I S=>by
 rw[exec_Assign_Name_used _ _ _ _ iQ];refine wpAny_bind (wpAny_standAt (wpAny_bind ?_));show wpAny _ X.A (do let _ <-comprehension (.ListComp elt [⟨AN,An,ifs,0⟩] scope Aq) scope X.env _ (newList []) false (eval An X.env) (some (assign (.Name x pos') X.env))) _ _ s;refine wpAny_bind (wpAny_mono (wpAny_comprehension_free (use:=some (assign (.Name x pos') X.env)) (Q:=fun _ s'=>SP X AD (Lv X H G { D with nx:=fun ρ' G'=>WSs X ρ' G' rest D }) .next s') rfl Mq (ER fun x hx hf=>I.ok.has x.1 (Sc.free x hx hf)) Sc.kind Sc.names
  (thn (hi AD s σ H I S) fun v s1 h1=>thn h1 fun fb s2 h2=>?_)) (fun _ s' hq=>wpAny_pure (wpAny_pure hq)) fun _ _ e=>e)
 obtain⟨it,fp,tn,J,H2,e,I2,T,DA,f2,l',G2,e2,o2,wk,q,p0⟩:=h2;subst e;subst q;refine Js (RR:=fun Az C=>compPost (model X.prog X.w) X.A X.xe (some (assign (.Name x pos') X.env)) (fun _ s'=>SP X AD (Lv X H G { D with nx:=fun ρ' G'=>WSs X ρ' G' rest D }) .next s') Az C) Pv ht Sc CG hg hle hz CW I2 (S.ext e2 o2) T DA f2 wk p0 ?_;rintro Dd C s3 sf σc Hf Gf Az k3 rfl ⟨H3,I3,f3,Ic⟩ ef of iE pf;obtain⟨m,hm,_⟩:=Ic.loc;have UC:∀b∈fp,(b∈X.ex\/X.s₀.heap.objs.size<=b)/\b≠X.env.locals/\(∀x c,X.env.cells.lookup x=some c->c≠b)/\∀p∈X.pn++AD,p.1≠b:=fun b hb=>
  ⟨(f3 b hb).2.2.2.1,(f3 b hb).2.1,(f3 b hb).2.2.2.2.1,(f3 b hb).2.2.2.2.2⟩
 have I1:Inv X AD σ Hf sf:=I3.call' Ic.os Ic.base Ic.hok Ic.bare UC;have hC:Hf s3.heap.objs.size=none:=Ic.free;have cQ:∀x c,X.env.cells.lookup x=some c->c≠s3.heap.objs.size:=fun x c e z=>by
  obtain⟨v,o,ho,_⟩:=I3.cell x c e;rw[z]at ho;exact absurd (Heap.lt_size ho) (Nat.lt_irrefl _)
 obtain⟨E,O,R⟩:=Il (X:=X) of AG;rw[Ah iE]at E O R;show wpAny (model X.prog X.w) X.A (assign (.Name x pos') X.env (.ref Dd)) _ _ sf;refine wpAny_assign_Name (Mo I1 hN hn (.inl hx) (v:=.ref Dd) (show RelV (V.ref Dd) (Value.ref Dd)from rfl) (fun fZ qd RD=>?_) (.inr hx));obtain⟨a,sb,ha⟩:=RD;have BS:s3.heap.objs.size≠a:=by
  rcases ha with z|z
  ·rw[z];exact Nat.ne_of_gt I3.lt
  ·exact Ne.symm (cQ _ _ z)
 refine⟨m,Heap.Ns.sameBut (show sf.heap.Ns s3.heap.objs.size m from hm) sb BS,fun h' hs=>?_⟩;have If:Inv X AD (σ.set n (some (.ref Dd))) Hf { fZ with heap:=h' }:=by
  refine qd.turned (t':=fZ.toks) (it:=s3.heap.objs.size) (fun b o hb e=>hs.extBut b o hb e) hC (Nat.ne_of_gt I3.lt) (.inr I3.sz) cQ fun p hp z=>?_
  have:=(I3.pin p hp).1
  rw[z]at this;exact absurd (Heap.lt_size this) (Nat.lt_irrefl _)
 exact⟨_,Hf,If,_,Gf,e2.trans (ef.trans E),(S.ext (e2.trans (ef.trans E)) O).set R,hd Az Gf pf⟩
end
abbrev Sq:=Int×Int
def sq(p:Sq):Dat:=.tup [.int p.1,.int p.2]
def fl(l:List Sq):Dat:=.tup (l.map sq)
def AU(p:Sq×Sq):Dat:=.tup [sq p.1,sq p.2]
theorem Hw(p q:Sq):eqD (sq p) (sq q)=decide (p=q):=by obtain⟨a,b⟩:=p;obtain⟨c,d⟩:=q;simp only[sq,eqD,eqL,Bool.and_true];rw[Bool.eq_iff_iff];simp[Prod.ext_iff]
theorem BL(l:List Sq)(p:Sq):((l.map sq).any fun e=>eqD e (sq p))=l.contains p:=by
 rw[List.any_map];have:(fun e=>eqD e (sq p)) ∘ sq=fun q=>q==p:=by
  funext q;simp only[Function.comp,Hw];rw[Bool.eq_iff_iff];simp
 rw[this]
 induction l with
 |nil=>rfl
 |cons q l ih=>
  rw[List.any_cons,List.contains_cons,ih];congr 1;rw[Bool.eq_iff_iff,beq_iff_eq,beq_iff_eq];exact eq_comm
theorem AZ(p:Sq)(n:Nat):AJ (n+1) (sq p)=true:=by simp only[sq,AJ,List.all_cons,List.all_nil,Bool.and_true,Bool.and_eq_true];exact⟨Gg rfl n,Gg rfl n⟩
theorem DZ(l:List Sq)(n:Nat):(l.map sq).all (AJ (n+1))=true:=by rw[List.all_eq_true];intro d hd;obtain⟨p,_,rfl⟩:=List.mem_map.mp hd;exact AZ p n
theorem EX{p q:Sq}(h:sq p=sq q):p=q:=by obtain⟨a,b⟩:=p;obtain⟨c,d⟩:=q;simp only[sq,Dat.tup.injEq,List.cons.injEq,Dat.int.injEq,and_true]at h;rw[h.1,h.2]
theorem LU:∀{l m:List Sq},l.map sq=m.map sq->l=m
 |[],[],_=>rfl
 |[],_::_,h=>by simp at h
 |_::_,[],h=>by simp at h
 |p::l,q::m,h=>by
  simp only[List.map_cons,List.cons.injEq]at h;rw[EX h.1,LU h.2]
theorem Xq{l m:List Sq}(h:fl l=fl m):l=m:=by simp only[fl,Dat.tup.injEq]at h;exact LU h
theorem EE{α β:Type}(f:α->β){l:List α}{i:Int}{x:α}(h:atI l i=some x):atI (l.map f) i=some (f x):=by
 unfold atI at h ⊢;rw[List.length_map];cases q:ixN l.length i with
 |none=>rw[q]at h;cases h
 |some j=>rw[q]at h;show(l.map f)[j]?=_;rw[List.getElem?_map,show l[j]?=some x from h];rfl
def By(ns:List Int)(k:Nat):Int:=ns.getD k 0
section
variable {X:Cx}{ρ:Rho}{G:Gs}{e a b c:Expr}{es:List Expr}{d:Dat}{pos:Pos}{D:DE}{rest x y:List Stmt}{p:Bool}
theorem Fm(M:Rho->Gs->Prop)(hc:PXT X ρ G c p)(ht:p=true->WSs X ρ G x { D with nx:=M })(hf:p=false->WSs X ρ G y { D with nx:=M })(hr:∀ρ' G',M ρ' G'->WSs X ρ' G' rest D):WSs X ρ G (.If c x y pos::rest) D:=Ar hc (fun h=>(ht h).mono (fun ρ' G' q=>hr ρ' G' q) (fun _ _ q=>q) (fun _ _ q=>q) fun _ _ q=>q) (fun h=>(hf h).mono (fun ρ' G' q=>hr ρ' G' q) (fun _ _ q=>q) (fun _ _ q=>q) fun _ _ q=>q)
theorem UO(M:Gs->Prop)(hc:PXT X ρ G c p)(ht:p=true->WSs X ρ G x { D with nx:=fun ρ' G'=>ρ'=ρ/\M G' })(hf:p=false->WSs X ρ G y { D with nx:=fun ρ' G'=>ρ'=ρ/\M G' })(hr:∀G',M G'->WSs X ρ G' rest D):WSs X ρ G (.If c x y pos::rest) D:=Fm (fun ρ' G'=>ρ'=ρ/\M G') hc ht hf fun ρ' G' ⟨h1,h2⟩=>by subst h1;exact hr G' h2
theorem BO{Q:Dat->Gs->Prop}(h:WE X ρ G e fun d G'=>∃q,Q d (rel G' q)):WE X ρ G e Q:=fun AD s σ H I S=>
 thn (h AD s σ H I S) fun _ _ z=>EP.mono z fun v H' ⟨d,G',e',o',r',q,hq⟩=>by
  have E:Ext H' G' H' (rel G' q):=⟨fun b u z _=>z,fun b hb=>by
   by_cases hq:b=q
   ·subst hq;rw[CS]at hb;exact absurd rfl hb
   ·rw[Cy hq]at hb;exact .inl hb⟩
  refine⟨d,rel G' q,e'.trans E,fun b u z=>?_,r'.same E.hid,hq⟩;by_cases hbq:b=q
  ·subst hbq;rw[CS]at z;cases z
  ·rw[Cy hbq]at z;exact(o' b u z).ext E.hid rfl
theorem BE{ρ:Rho}{i:Nat}(h:ρ[i]?=some none):∀d ρ',BW i d ρ=some ρ'->ρ'.length=ρ.length/\∀(j:Nat) e,ρ[j]?=some (some e)->ρ'[j]?=some (some e):=by
 intro d ρ' e;cases e;refine⟨List.length_set,fun j e' h'=>?_⟩;by_cases z:i=j
 ·subst z;rw[h]at h';cases h'
 ·rw[List.getElem?_set_ne z];exact h'
theorem LF{ρ:Rho}{i j:Nat}(h:ρ[i]?=some none)(h':ρ[j]?=some none):∀d ρ',Fu i j d ρ=some ρ'->ρ'.length=ρ.length/\∀(k:Nat) e,ρ[k]?=some (some e)->ρ'[k]?=some (some e):=by
 intro d ρ' e;cases d<;>simp only[Fu,reduceCtorEq]at e;rename_i l
 match l,e with
 |[a,b],e=>
  simp only[Option.some.injEq]at e;subst e;refine⟨by rw[List.length_set,List.length_set],fun k e' hk=>?_⟩;by_cases z:j=k
  ·subst z;rw[h']at hk;cases hk
  ·rw[List.getElem?_set_ne z];by_cases z2:i=k
   ·subst z2;rw[h]at hk;cases hk
   ·rw[List.getElem?_set_ne z2];exact hk
 |[],e=>simp at e
 |[_],e=>simp at e
 |_::_::_::_,e=>simp at e
end
section
variable {X:Cx}{ρ:Rho}{G:Gs}{e a b c:Expr}{es:List Expr}{d d' d1 d2 d3 k:Dat}{ds l m:List Dat}{pos:Pos}{i j z:Int}{p:Addr}{AR:List (Dat×Dat)}{D:DE}{rest body:List Stmt}
theorem Ia{f:Str}{id:String}{r:List V->Hp->VK->Prop}{pp:Pos}(hc:Cc X (.builtin id) r)(hg:Gl X f)(hm:X.mg f=none)(hv:bootBuiltins f=some (.builtin id))(ha:PX X ρ G a d1)(hb:PX X ρ G b d2)(hr:∀(H:Hp)(x y:V)(Q:VK),GOk X.K H G->Rep X.K (hid H G) d1 x->Rep X.K (hid H G) d2 y->(∀v H',Po X H G (fun d' G'=>d'=d/\G'=G) v H'->Q v H')->r [x,y] H Q)(hn:f≠"__name__":=by decide)(MM:(f==("__debug__":Str))=false:=by decide)(he:starEach [a,b] X.env=(false,eval a X.env)::starEach [b] X.env:=by rfl)(he2:starEach [b] X.env=(false,eval b X.env)::starEach [] X.env:=by rfl)(hpl:(backTo pos (starEach [b] X.env)).any (·.1)=false:=by rfl):PX X ρ G (.Call (.Name f pp) [a,b] [] pos) d:=Bn (Gb hc hg hm hv (BG Ax (BG Ax Cb he2) he) hn MM he hpl) fun σ H S=>⟨ρ,G,_,ha,S,fun x H1 ⟨_,_,e1,o1,r1,q1,BX⟩=>by
  subst q1;subst BX;refine⟨ρ,_,_,hb,S.ext e1 o1,fun y H2 ⟨_,_,e2,o2,r2,q2,FQ⟩=>?_⟩;subst q2;subst FQ;exact hr H2 x y _ o2 (r1.same e2.hid) r2 fun v H' z=>Po.trans (e1.trans e2) z⟩
theorem ZX{pp:Pos}(hc:X.calm=true)(hm:X.mg "max"=none)(ha:PX X ρ G a (.int i))(hb:PX X ρ G b (.int j))(hg:Gl X "max":=by rfl)(he:starEach [a,b] X.env=(false,eval a X.env)::starEach [b] X.env:=by rfl)(he2:starEach [b] X.env=(false,eval b X.env)::starEach [] X.env:=by rfl)(hpl:(backTo pos (starEach [b] X.env)).any (·.1)=false:=by rfl):PX X ρ G (.Call (.Name "max" pp) [a,b] [] pos) (.int (max i j)):=Ia (Uw hc) hg hm (by decide +kernel) ha hb (fun H x y Q o rx ry k=>by
  rw[Rep]at rx ry;subst rx;subst ry;refine⟨i,j,rfl,k _ _ (Bc o ?_)⟩;rw[Rep];congr 1;split<;>lia) (he:=he) (he2:=he2) (hpl:=hpl)
theorem Zj{pp:Pos}(hc:X.calm=true)(hm:X.mg "min"=none)(ha:PX X ρ G a (.int i))(hb:PX X ρ G b (.int j))(hg:Gl X "min":=by rfl)(he:starEach [a,b] X.env=(false,eval a X.env)::starEach [b] X.env:=by rfl)(he2:starEach [b] X.env=(false,eval b X.env)::starEach [] X.env:=by rfl)(hpl:(backTo pos (starEach [b] X.env)).any (·.1)=false:=by rfl):PX X ρ G (.Call (.Name "min" pp) [a,b] [] pos) (.int (min i j)):=Ia (VS hc) hg hm (by decide +kernel) ha hb (fun H x y Q o rx ry k=>by
  rw[Rep]at rx ry;subst rx;subst ry;refine⟨i,j,rfl,k _ _ (Bc o ?_)⟩;rw[Rep];congr 1;split<;>lia) (he:=he) (he2:=he2) (hpl:=hpl)
theorem VQ(hc:X.calm=true):Cc X (.builtin "min") (fun xs H Q=>∃(p:Addr)(ns:List Int),xs=[.ref p]/\SqL X.K H p (ns.map V.int)/\ns≠[]/\∀M,M∈ns->(∀a∈ns,M<=a)->Q (.int M) H):=by
 intro AD s σ H xs us Q I r h;obtain⟨p,ns,rfl,hq,BS,q⟩:=h;obtain⟨u,rfl,rx⟩:=JQ r;cases rx;obtain⟨AY,r',pl,hz⟩:=I.list hq;have hi:IntsAre AY ns:=Hz r';obtain⟨xs,hx⟩:=hi.allInts.items;have RG:ns=xs.toList.map (·.1):=by rw[<-hi.numsOf,<-nums_intItems,<-hx]
 have hsz:0<xs.size:=by
  have h3:0<ns.length:=List.length_pos_iff.mpr BS;rw[RG,List.length_map,Array.length_toList]at h3;exact h3
 have hl:=pl.isList;rw[hx]at hl;refine min_intList (I.ok.hd hc) hl hsz fun v h' tk hv hk=>?_;obtain⟨t,rfl⟩:=intItems_at hv;obtain⟨h1,h2⟩:=argBest_lt (numAt xs) (xs.size-1);refine⟨.int _,H,I.kept hk,⟨t,rfl⟩,q _ ?_ fun a ha=>?_⟩
 ·rw[RG,numAt_eq];exact getD_mem (by rw[List.length_map,Array.length_toList];lia)
 ·rw[RG]at ha;obtain⟨j,hj,rfl⟩:=mem_getD ha;rw[List.length_map,Array.length_toList]at hj;rw[<-numAt_eq];exact h2 j (by lia)
theorem VR(hc:X.calm=true):Cc X (.builtin "max") (fun xs H Q=>∃(p:Addr)(ns:List Int),xs=[.ref p]/\SqL X.K H p (ns.map V.int)/\ns≠[]/\∀M,M∈ns->(∀a∈ns,a<=M)->Q (.int M) H):=by
 intro AD s σ H xs us Q I r h;obtain⟨p,ns,rfl,hq,BS,q⟩:=h;obtain⟨u,rfl,rx⟩:=JQ r;cases rx;obtain⟨AY,r',pl,hz⟩:=I.list hq;have hi:IntsAre AY ns:=Hz r';obtain⟨xs,hx⟩:=hi.allInts.items;have RG:ns=xs.toList.map (·.1):=by rw[<-hi.numsOf,<-nums_intItems,<-hx]
 have hsz:0<xs.size:=by
  have h3:0<ns.length:=List.length_pos_iff.mpr BS;rw[RG,List.length_map,Array.length_toList]at h3;exact h3
 have hl:=pl.isList;rw[hx]at hl;refine max_intList (I.ok.hd hc) hl hsz fun v h' tk hv hk=>?_;obtain⟨t,rfl⟩:=intItems_at hv;obtain⟨h1,h2⟩:=argBest_gt (numAt xs) (xs.size-1);refine⟨.int _,H,I.kept hk,⟨t,rfl⟩,q _ ?_ fun a ha=>?_⟩
 ·rw[RG,numAt_eq];exact getD_mem (by rw[List.length_map,Array.length_toList];lia)
 ·rw[RG]at ha;obtain⟨j,hj,rfl⟩:=mem_getD ha;rw[List.length_map,Array.length_toList]at hj;rw[<-numAt_eq];exact h2 j (by lia)
theorem Us{ns:List Int}{M:Int}{pp:Pos}(hc:X.calm=true)(hm:X.mg "min"=none)(ha:PX X ρ G a (.lst (ns.map .int)))(h1:M∈ns)(h2:∀a∈ns,M<=a)(hg:Gl X "min":=by rfl)(he:starEach [a] X.env=(false,eval a X.env)::starEach [] X.env:=by rfl):PX X ρ G (.Call (.Name "min" pp) [a] [] pos) (.int M):=En (VQ hc) hg hm (by decide +kernel) ha (fun H x Q o r k=>by
  rw[Rep]at r;obtain⟨q,vs,e,g1,r1⟩:=r;refine⟨q,ns,by rw[e],by rw[<-r1.ints];exact SqL.of (AK _ _ g1),List.ne_nil_of_mem h1,fun M' g2 g3=>?_⟩;obtain rfl:M'=M:=Int.le_antisymm (g3 _ h1) (h2 _ g2);exact k _ _ (Bc o rfl)) (he:=he)
theorem T9{ns:List Int}{M:Int}{pp:Pos}(hc:X.calm=true)(hm:X.mg "max"=none)(ha:PX X ρ G a (.lst (ns.map .int)))(h1:M∈ns)(h2:∀a∈ns,a<=M)(hg:Gl X "max":=by rfl)(he:starEach [a] X.env=(false,eval a X.env)::starEach [] X.env:=by rfl):PX X ρ G (.Call (.Name "max" pp) [a] [] pos) (.int M):=En (VR hc) hg hm (by decide +kernel) ha (fun H x Q o r k=>by
  rw[Rep]at r;obtain⟨q,vs,e,g1,r1⟩:=r;refine⟨q,ns,by rw[e],by rw[<-r1.ints];exact SqL.of (AK _ _ g1),List.ne_nil_of_mem h1,fun M' g2 g3=>?_⟩;obtain rfl:M'=M:=Int.le_antisymm (h2 _ g2) (g3 _ h1);exact k _ _ (Bc o rfl)) (he:=he)
def Tf(G:Gs)(d:Dat)(l:List Dat):Prop:=d=.tup l\/d=.lst l\/∃p,d=.fn p/\G p=some (.lst l)
theorem WX{H:Hp}{K:PySem.W.Frag}{y:V}(h:Tf G d l)(o:GOk K H G)(r:Rep K (hid H G) d y):∃p vs,y=.ref p/\(H p=some (.lst vs)\/SqT K H p vs)/\RepL K H l vs:=by
 rcases h with rfl|rfl|⟨p,rfl,hG⟩
 ·exact in_of (.inl r)
 ·exact in_of (.inr r)
 ·obtain⟨vs,h3,r3⟩:=o p _ hG;exact⟨p,vs,r,.inl h3,r3.same AK⟩
theorem Ii(hu:X.A.units+9<cLine)(ha:PX X ρ G a d1)(hb:PX X ρ G b d2)(hl:Tf G d2 l)(p1:AJ 8 d1=true)(p2:l.all (AJ 8)=true):PXC X ρ G .In a b (.bl (l.any fun e=>eqD e d1)):=Dy (Wg hu) ha hb fun H x y Q o hx hy k=>by
  obtain⟨p,vs,h1,h2,h3⟩:=WX hl o hy;exact⟨p,vs,d1,l,h1,h2,h3,hx.same AK,p1,p2,k _ _ (Bc o rfl)⟩
theorem Br(hu:X.A.units+9<cLine)(ha:PX X ρ G a d1)(hb:PX X ρ G b d2)(hl:Tf G d2 l)(p1:AJ 8 d1=true)(p2:l.all (AJ 8)=true):PXC X ρ G .NotIn a b (.bl (!(l.any fun e=>eqD e d1))):=Dy (NM hu) ha hb fun H x y Q o hx hy k=>by
  obtain⟨p,vs,h1,h2,h3⟩:=WX hl o hy;exact⟨p,vs,d1,l,h1,h2,h3,hx.same AK,p1,p2,k _ _ (Bc o rfl)⟩
theorem dW(ha:PX X ρ G a d1)(hb:PX X ρ G b (.int i))(hl:Tf G d1 l)(hi:atI l i=some d)(hs:E9 b:=by intro _ _;rfl):PX X ρ G (.Subscript a b pos) d:=by
 rcases hl with rfl|rfl|⟨p,rfl,hG⟩
 ·exact Au ha hb hi hs
 ·exact DP ha hb hi hs
 ·exact c9 ha hb hG hi hs
theorem YS{apos Aq:Pos}{Q:Dat->Gs->Prop}(hx:PX X ρ G a (.fn p))(hG:G p=some (.lst (l++[d])))(q:Q d (put G p (.lst l)))(C9:attributeBase a "pop" X.env (eval a X.env)=eval a X.env:=by rfl)(CV:(apos.endLine==Aq.line)=true:=by rfl):WE X ρ G (.Call (.Attribute a "pop" apos) [] [] Aq) Q:=Bn (RM PySem.F.plainAttrs_list PySem.F.slot_list_pop PySem.F.type_list_pop dP Ax C9 CV) fun σ H S=>⟨ρ,G,_,hx,S,fun x H1 ⟨_,_,e1,o1,r1,q1,BX⟩=>by
  subst q1;subst BX;cases (show x=V.ref p from r1);obtain⟨vs,h1,r2⟩:=o1 p _ hG;have hl:=r2.length;rw[List.length_append,List.length_singleton]at hl;obtain⟨y,hy,ry⟩:=r2.get (i:=l.length) (d:=d) (by simp);refine⟨.inl ⟨rfl,vs,SqL.of h1⟩,p,vs,y,rfl,rfl,h1,by rw[hl];exact hy,?_⟩;have r3:=r2.take l.length;rw[List.take_left'  rfl,show vs.take l.length=vs.dropLast by rw[List.dropLast_eq_take,hl];rfl]at r3;obtain⟨E,O⟩:=HV o1 hG r3;exact⟨d,_,e1.trans E,O,ry.same E.hid,q⟩⟩
theorem XN(n:Nat){x:Str}{pos':Pos}(hN:X.N.Nodup)(hv:ρ[n]?=some (some (.int i)))(h:PX X ρ G e (.int j))(q:WSs X (ρ.set n (some (.int (i+j)))) G rest D)(hi:X.N[n]?=some x:=by rfl)(hx:Loc X.env.scope x:=by first|exact Or.inl rfl|exact Or.inr rfl)(hf:X.fn x=true\/X.env.scope.names.lookup x=some .local:=by first|exact .inl rfl|exact .inr rfl|assumption):WSs X ρ G (.AugAssign (.Name x pos') .Add e pos::rest) D:=BP (KP (er (i:=n) hN hi hx Ax fT hf) fun σ H S=>by
  obtain⟨v,h1,h2⟩:=S.env n _ hv;refine⟨v,h1,ρ,G,_,h,S,fun y H1 ⟨_,_,e1,o1,r1,q1,BX⟩=>?_⟩;subst q1;subst BX;exact⟨i,j,h2,r1,_,_,e1,Stt.set (d:=.int (i+j)) (v:=.int (i+j)) (S.ext e1 o1) rfl,q⟩)
def b5:Dat->Bool
 |.non=>true
 |_=>false
theorem bD{K:PySem.W.Frag}{H:Hp}{v:V}(r:Rep K H d v):decide (v=.non)=b5 d:=by
 cases d<;>rw[Rep]at r<;>first
  |(subst r;rfl)
  |(obtain⟨_,rfl,_⟩:=r;rfl)
  |(obtain⟨_,_,rfl,_⟩:=r;rfl)
theorem Lf{n pos'}(ha:PX X ρ G a d1):PXC X ρ G .IsNot a (.Constant .none n pos') (.bl (!b5 d1)):=Dy bS ha XE fun H x y Q o hx hy k=>⟨hy,k _ _ (Bc o (by rw[bD hx];rfl))⟩
theorem P6:Cc X (.builtin "len") (fun xs H Q=>∃p ys,xs=[.ref p]/\H p=some (E7 p ys)/\Q (.int ys.length) H):=by
 intro AD s σ H xs us Q I r h;obtain⟨p,ys,rfl,hp,q⟩:=h;obtain⟨u,rfl,rx⟩:=JQ r;cases rx;obtain⟨⟨h1,h2,h3,o,es,ep,h4,h5,h6,h7⟩,_,_⟩:=(show ObjOk X.prog X.w H s.heap p (.ext (ON p ys))from I.hok p _ hp);have hsz:es.size=ys.length:=by rw[<-Array.length_toList,h7,List.length_map]
 have hm:MeetsIn X.prog X.w (Builtin.«dict.__len__» ⟨[.ref p],[]⟩) (fun _ R s'=>s'.heap.get? p=some o/\R (.ok (.ret (.int ys.length s'.toks))) { s' with toks:=s'.toks+1 }):=
  .of_wp fun A R s' ⟨ho,h⟩=>by
   show wpAny _ _ (dictSize p >>= _) _ _ s';unfold dictSize;refine wpAny_bind (wpAny_bind (wpAny_dictEntries ho h6 (wpAny_pure ?_)));show wpAny _ _ (Builtin.Dict.pendingCount p >>= _) _ _ s';refine wpAny_bind (wpAny_pendingCount_other h1 ?_);refine wpAny_ret_mkInt ?_;rw[Nat.add_zero,hsz];exact h
 have ht:s.TypeIs (.ref p) "dict":=⟨o,h4,h5.1⟩;have hl:=ME;refine Calls.call_function_entry kind_len plain_len entry_len (args_len1 _) ?_;unfold Builtin.«len»;refine wpAny_bind (m:=oneArg "len" _) (wpAny_pure ?_);refine wpAny_bind (m:=callSpecial? (.ref p) (Str.ofString "__len__")) (wpAny_callSpecial?_slot (name:=Str.ofString "__len__") ht F.slot_dict_len
  (call_meetsIn F.slot_dict_len ht F.entry_dict_len (F.args_dict_len_1 _) hm ⟨h4,?_⟩))
 show wpAny _ _ _ _ _ { s with toks:=s.toks+1 };refine wpAny_bind (wpAny_holding (wpAny_pure ?_));refine wpAny_bind (wpAny_letGo ?_);show wpAny _ _ (if ((ys.length:Nat):Int)<0 then _ else _) _ _ _;rw[if_neg (by lia)];show wpAny _ _ (if ((ys.length:Nat):Int)≥2 ^ 63 then _ else _) _ _ _;rw[if_neg (by lia)];exact wpAny_bind (wpAny_mkInt (wpAny_pure ⟨_,rfl,.int ys.length,H,I.tok _,⟨_,rfl⟩,q⟩))
theorem UN{pp:Pos}{Q:Dat->Gs->Prop}(hm:X.mg "len"=none)(ha:WE X ρ G a fun d G'=>∃p AR,d=.fn p/\G' p=some (.dct AR)/\Q (.int AR.length) G')(hg:Gl X "len":=by rfl)(he:starEach [a] X.env=(false,eval a X.env)::starEach [] X.env:=by rfl):WE X ρ G (.Call (.Name "len" pp) [a] [] pos) Q:=Bn (Gb P6 hg hm PySem.boot_len (BG Ax Cb he) (by decide) (by decide) he rfl) fun σ H S=>⟨ρ,G,_,ha,S,fun x H1 ⟨_,G1,e1,o1,r1,p,AR,q1,hG,q⟩=>by
  subst q1;cases (show x=V.ref p from r1);obtain⟨xs,h1,r2⟩:=o1 p _ hG;refine⟨p,xs,rfl,h1,.int AR.length,G1,e1,o1,?_,q⟩;rw[Rep,r2.length]⟩
structure DfA (P:Program) (w:World) (K:PySem.W.Frag) (mg:Str->Option Value) (base:Heap) (f:Addr) (ps:List Str) (k:Nat) (S:SpD):Prop where
 ex:∃fd,FnOk P w K mg base CX0 k f fd ps (Ae K S)/\PySem.W.keepIn K (.ref f)=true/\Binds K fd ps []
theorem YE{S:SpD}{kk:Nat}{ps:List Str}{x:Str}{pp:Pos}{f:Addr}{Q:Dat->Gs->Prop}(hx:PX X ρ G (.Name x pp) (.fn f))(F:DfA X.prog X.w X.K X.mg X.base f ps kk S)(hr:Room kk X.A)(ha:PXs X ρ G (e::es) ds)(hS:S ds G Q)(he:starEach (e::es) X.env=(false,eval e X.env)::starEach es X.env:=by rfl)(hpl:(backTo pos (starEach es X.env)).any (·.1)=false:=by rfl):WE X ρ G (.Call (.Name x pp) (e::es) [] pos) Q:=by obtain⟨fd,F,hk,hb⟩:=F.ex;intro AD s σ H I S0;refine wpAny_Call_Name_kw (thn (hx AD s σ H I S0) fun v s1 ⟨y,H1,I1,r1,_,_,e1,o1,rx,q1,BX⟩=>?_);subst q1;subst BX;cases (show y=V.ref f from rx);cases r1;refine PySem.W.callWith_K (h₀:=X.base) I1.ok.mod.kin hk (thn (ha pos AD s1 σ H1 I1 (S0.ext e1 o1)) fun us s2 ⟨vs,H2,I2,r,_,_,e2,o2,r2,q2,FQ⟩=>⟨I2.kIn,?_⟩) he hpl;subst q2;subst FQ;exact W9 F hr hb .nil Y8 I2 r ⟨_,_,Q,o2,by rw[List.append_nil];exact r2,hS,fun v H' d G' e' o' r' q'=>⟨d,G',(e1.trans e2).trans e',o',r',q'⟩⟩
theorem cS{x:Str}{f:Addr}(hm:X.mg x=some (.ref f))(hg:Gl X x:=by rfl)(hd:(x==("__debug__":Str))=false:=by decide):PX X ρ G (.Name x pos) (.fn f):=Bn (Td (v:=.ref f) hg hm rfl hd) fun σ H S=>Bc S.own rfl
theorem UE{x:Str}{t:Tok}(hm:X.mg x=some (.int i t))(hg:Gl X x:=by rfl)(hd:(x==("__debug__":Str))=false:=by decide):PX X ρ G (.Name x pos) (.int i):=Bn (Td (v:=.int i) hg hm ⟨t,rfl⟩ hd) fun σ H S=>Bc S.own rfl
theorem cR{Q:Dat->Gs->Prop}(hu:X.A.units+9<cLine)(ha:∀p,G p=none->PX X ρ (put G p (.dct [])) a k)(hb:∀p,G p=none->PX X ρ (put G p (.dct [])) b d)(hk:B1 6 k=true)(hr:∃l,k=.tup l)(h:∀p,G p=none->Q (.fn p) (put G p (.dct [(k,d)]))):WE X ρ G (.Dict [some a] [b] pos) Q:=fun AD s σ H I S=>by
 have hp:H s.heap.objs.size=none:=I.hok.fresh (Nat.le_refl _);have VH:=S.own.free hp;obtain⟨E0,O0⟩:=Ky (X:=X) S.own hp;have I0:Inv X AD σ (upd H s.heap.objs.size (E7 s.heap.objs.size [])) { s with heap:=s.heap.push { cls:=.type "dict",data:=.dict #[] } }:=
  I.laid (a:=s.heap.objs.size) (o:=E7 s.heap.objs.size []) (t':=s.toks) (fun _ _ q=>Heap.get?_push_of_some _ q) (Nat.le_refl _)
   (K2 ⟨beq_eq_false_iff_ne.mpr (Ne.symm (Nat.ne_of_lt (Inv.big I))),Nat.zero_le _,List.nodup_nil,_,#[],0,Heap.get?_push_size _ rfl,⟨rfl,rfl,rfl⟩,rfl,rfl⟩)
 refine wpAny_Dict_any rfl rfl (by simp) (show 1<=15 by decide) ?_;show wpAny _ _ (evalPairs [(eval a X.env,do let x <-eval b X.env;standAt pos;pure x)]) _ _ _;refine evalPairs_cons (thn (ha _ VH AD _ σ _ I0 (S.ext E0 O0)) fun kv s1 ⟨x,H1,I1,rx,_,_,e1,o1,r1,q1,BX⟩=>?_);subst q1;subst BX;refine wpAny_bind (thn (hb _ VH AD s1 σ H1 I1 (S.ext (E0.trans e1) o1)) fun vv s2 ⟨y,H2,I2,ry,_,_,e2,o2,r2,q2,FQ⟩=>?_);subst q2;subst FQ;refine wpAny_bind (wpAny_standAt (wpAny_pure (evalPairs_nil ?_)));obtain⟨l,rfl⟩:=hr;have WH:=(r1.same e2.hid).same AK;have hx:∃t,x=V.ref t:=by rw[Rep]at WH;obtain⟨t,_,e,_⟩:=WH;exact⟨t,e⟩
 obtain⟨t,rfl⟩:=hx;cases rx;obtain⟨xs,h3,r3⟩:=o2 s.heap.objs.size _ AG;obtain⟨z1,z2,dd⟩:=Fi I2 h3 (r3.same AK);have rn:=DRep.put hk (r1.same e2.hid) ry r2 r3;unfold storeAll;rw[List.forIn_cons];refine wpAny_bind (wpAny_bind (wpAny_dictSet_heap (hsz:=z2) (knd:=Be X.prog X.w) (show X.A.units+6<cLine by lia) (IL I2 hk WH) dd fun h' kJ RD=>wpAny_pure ?_));show wpAny _ _ (forIn [] PUnit.unit _) _ _ _;rw[List.forIn_nil];refine wpAny_pure ?_;obtain⟨E,O⟩:=Nj (X:=X) o2 AG rn;obtain⟨o',Ke,XC,g1,g2,g3,g4,_,g5⟩:=kJ;refine⟨.ref s.heap.objs.size,_,I2.write (x:=s.heap.objs.size) (e:=s.heap.objs.size) (t':=s2.toks+Iw (.tup l)) (by rw[h3];exact True.intro) (.inl rfl) (fun b o hb z=>(RD.2 b hb).trans z) ⟨o',g1⟩ (K2 ⟨z1,?_,g5,o',Ke,XC,g1,g2,g3,g4⟩),rfl,?_⟩
 ·refine Nat.le_trans (Nat.le_of_eq rn.length) (Nat.le_trans (D9 _ _ _) ?_);exact(by decide:1<=sizeLine)
 ·rw[Ab]at E O;exact⟨.fn s.heap.objs.size,_,E0.trans (e1.trans (e2.trans E)),O,rfl,h _ VH⟩
end
def tyS:Dat->Option String
 |.non=>some "NoneType"
 |.bl _=>some "bool"
 |.int _=>some "int"
 |.str _=>some "str"
 |.fn _=>none
 |.scr _=>some "list"
 |.tup _=>some "tuple"
 |.lst _=>some "list"
def isS(t c:String):Bool:=t==c||(t=="bool"&&c=="int")
theorem dz{K:PySem.W.Frag}(t c:String)(ht:t∈["NoneType","bool","int","str","tuple","list"])(hc:c∈["bool","int","str","tuple","list"]):PySem.W.kitOne K (.type t) (.type c)=some (isS t c):=by simp only[List.mem_cons,List.not_mem_nil,or_false]at ht hc;rcases ht with rfl|rfl|rfl|rfl|rfl|rfl<;>rcases hc with rfl|rfl|rfl|rfl|rfl<;>rfl
section
variable {X:Cx}{ρ:Rho}{G:Gs}{e a b c:Expr}{d:Dat}{pos:Pos}
theorem c8{AD:List (Addr×Obj)}{σ:St}{H:Hp}{s:Shared}{A:Around}{E:Value->Shared->Prop}{Q:Value->Shared->Prop}{cl:Value}{q:Bool}{v:V}{u:Value}{t:String}(I:Inv X AD σ H s)(ru:RelV v u)(r:Rep X.K H d v)(ht:tyS d=some t)(ek:PySem.W.kitOne X.K (.type t) cl=some q)(h:∀tk,Q (.bool q) { s with toks:=tk }):wpAny (model X.prog X.w) A (call (.builtin "isinstance") [u,cl]) Q E s:=by
 cases d with
 |fn a=>cases ht
 |non=>cases ht;rw[Rep]at r;subst r;exact HE I ru (.non) ek h
 |bl b=>cases ht;rw[Rep]at r;subst r;exact HE I ru (.bl b) ek h
 |int b=>cases ht;rw[Rep]at r;subst r;exact HE I ru (.int b) ek h
 |str b=>cases ht;rw[Rep]at r;subst r;exact HE I ru (.str b) ek h
 |scr ns=>
  cases ht;rw[Rep]at r;obtain⟨a,rfl,hq⟩:=r;cases ru;obtain⟨AY,r',pl,hz⟩:=I.list hq;obtain⟨o,h1,h2,_⟩:=pl.isList;exact PySem.W.kia_one PySem.W.kitx_list I.kIn ⟨_,h1,h2⟩ ek (fun z=>nomatch z) h
 |tup l=>
  cases ht;rw[Rep]at r;obtain⟨a,vs,rfl,hq,_⟩:=r;cases ru;obtain⟨AY,r',pl,hz⟩:=I.tuple hq;obtain⟨o,h1,h2,_⟩:=pl;exact PySem.W.kia_one PySem.W.kitx_tuple I.kIn ⟨_,h1,h2⟩ ek (fun z=>nomatch z) h
 |lst l=>
  cases ht;rw[Rep]at r;obtain⟨a,vs,rfl,hq,_⟩:=r;cases ru;obtain⟨AY,r',pl,hz⟩:=I.list (SqL.of hq);obtain⟨o,h1,h2,_⟩:=pl.isList;exact PySem.W.kia_one PySem.W.kitx_list I.kIn ⟨_,h1,h2⟩ ek (fun z=>nomatch z) h
theorem Pj{d:Dat}{t:String}{T:String}(ht:tyS d=some t)(hT:T∈["bool","int","str","tuple","list"]):Cc X (.builtin "isinstance") (fun xs H Q=>∃v,xs=[v,.ty T]/\Rep X.K H d v/\Q (.bl (isS t T)) H):=by intro AD s σ H xs us Q I r h;obtain⟨v,rfl,rd,q⟩:=h;obtain⟨u,w',rfl,ru,iR⟩:=M0 r;cases (show w'=Value.type T from iR);refine c8 I ru rd ht (dz t T ?_ hT) fun tk=>⟨.bl _,H,I.tok _,rfl,q⟩;cases d<;>simp only[tyS,Option.some.injEq,reduceCtorEq]at ht<;>subst ht<;>decide
theorem Jm{t:String}{T:Str}{T':String}{pp p2:Pos}(hm:X.mg "isinstance"=none)(hT:X.mg T=none)(ha:PX X ρ G a d)(ht:tyS d=some t:=by rfl)(hb:bootBuiltins T=some (.type T'):=by decide +kernel)(lu:T'∈["bool","int","str","tuple","list"]:=by decide)(hg:Gl X "isinstance":=by rfl)(mB:Gl X T:=by rfl)(hn:T≠"__name__":=by decide)(MM:(T==("__debug__":Str))=false:=by decide)(he:starEach [a,.Name T p2] X.env=(false,eval a X.env)::starEach [.Name T p2] X.env:=by rfl):PX X ρ G (.Call (.Name "isinstance" pp) [a,.Name T p2] [] pos) (.bl (isS t T')):=Bn (Gb (Pj ht lu) hg hm (by decide +kernel) (BG Ax (BG (Ur (v:=.ty T') mB hT hb rfl hn MM) Cb) he) (by decide) (by decide) he rfl) fun σ H S=>⟨ρ,G,_,ha,S,fun x H1 ⟨_,_,e1,o1,r1,q1,BX⟩=>by
  subst q1;subst BX;exact⟨x,rfl,r1.same AK,Po.trans e1 (Bc o1 rfl)⟩⟩
end
def Kn(G G':Gs):Prop:=∀q o,G q=some o->G' q=some o
theorem Yh{G:Gs}{p:Addr}{o:OD}(h:G p=none):Kn G (put G p o):=fun q u e=>by
 by_cases hq:q=p
 ·subst hq;rw[h]at e;cases e
 ·rw[AL hq];exact e
section
variable {X:Cx}{ρ:Rho}{G:Gs}{elt AN An c:Expr}{ifs:List Expr}{scope:Scope}{Aq pos pos':Pos}{Nc:List Str}{caps:List (Option Nat)}{l:List Dat}{f:Dat->Rho->Option Rho}{D:DE}{rest:List Stmt}
theorem TL{tg it:Expr}{Pv:Nat->List Dat->Gs->Prop}(hi:WI X ρ G tg it fun l' G'=>l'=l/\G'=G)(h0:Pv 0 [] G):WI X ρ G tg it fun l' G'=>l'=l/\Pv 0 [] G':=fun AD s σ H I S=>
 thn (hi AD s σ H I S) fun v s1 h1=>thn h1 fun fb s2 hh=>by
  obtain⟨it,fp,tn,J,H',e,I',T,st,fk,l',G',e',o',wk,q1,q2⟩:=hh;exact⟨it,fp,tn,J,H',e,I',T,st,fk,l',G',e',o',wk,q1,by rw[q2];exact h0⟩
theorem Pl(g:Dat->Dat)(hz:l.length<=5000)(CW:∀C s' H' fp G' d,d∈l->Kn G G'->∃ρ',f d (BI caps ρ)=some ρ'/\PX (Ag X Nc scope C s' H' fp) ρ' G' elt (g d)) :
  ∀C s' H' fp Dd i d Az G',l[i]?=some d->(G'=G/\Az=(l.take i).map g)->G' Dd=none->∃ρ',f d (BI caps ρ)=some ρ' ∧
   KC (Ag X Nc scope C s' H' fp) ρ' (put G' Dd (.lst Az)) (Lc elt (Ag X Nc scope C s' H' fp).env (.ref Dd)) fun Lr=>∃EW G4,EW.length<=Az.length+1/\G4 Dd=none/\Lr=put G4 Dd (.lst EW)/\(G4=G/\EW=(l.take (i+1)).map g):=by
 rintro C s' H' fp Dd i d Az G' hd ⟨rfl,rfl⟩ hD;obtain⟨ρ',h1,h2⟩:=CW C s' H' fp (put G' Dd (.lst ((l.take i).map g))) d (List.mem_of_getElem? hd) (Yh hD);refine⟨ρ',h1,Du rfl AG ?_ (PX.we h2 ⟨AG,_,G',?_,hD,Ab,rfl,?_⟩)⟩
 ·have:((l.take i).map g).length<=l.length:=by rw[List.length_map,List.length_take];lia
  exact Nat.lt_of_le_of_lt (Nat.le_trans this hz) (by decide)
 ·simp
 ·rw[List.take_add_one,hd];simp
theorem Pt(p:Dat->Bool)(g:Dat->Dat)(hz:l.length<=5000)(CW:∀C s' H' fp G' d,d∈l->Kn G G'->∃ρ',f d (BI caps ρ)=some ρ'/\PXT (Ag X Nc scope C s' H' fp) ρ' G' c (p d)/\(p d=true->PX (Ag X Nc scope C s' H' fp) ρ' G' elt (g d))) :
  ∀C s' H' fp Dd i d Az G',l[i]?=some d->(G'=G/\Az=((l.take i).filter p).map g)->G' Dd=none->∃ρ',f d (BI caps ρ)=some ρ' ∧
   KC (Ag X Nc scope C s' H' fp) ρ' (put G' Dd (.lst Az)) (QK c elt (Ag X Nc scope C s' H' fp).env (.ref Dd)) fun Lr=>∃EW G4,EW.length<=Az.length+1/\G4 Dd=none/\Lr=put G4 Dd (.lst EW)/\(G4=G/\EW=((l.take (i+1)).filter p).map g):=by
 rintro C s' H' fp Dd i d Az G' hd ⟨rfl,rfl⟩ hD;obtain⟨ρ',h1,h2,h3⟩:=CW C s' H' fp (put G' Dd (.lst (((l.take i).filter p).map g))) d (List.mem_of_getElem? hd) (Yh hD);have et:(l.take (i+1)).filter p=(l.take i).filter p++(if p d=true then[d]else[]):=by
  rw[List.take_add_one,hd,List.filter_append];simp only[Option.toList_some,List.filter_cons,List.filter_nil]
 refine⟨ρ',h1,Rp rfl (CY h2 ⟨fun hp=>?_,fun hp=>?_⟩)⟩
 ·refine Du rfl AG ?_ (PX.we (h3 hp) ⟨AG,_,G',?_,hD,Ab,rfl,?_⟩)
  ·have:(((l.take i).filter p).map g).length<=l.length:=by
    rw[List.length_map];exact Nat.le_trans (List.length_filter_le _ _) (by rw[List.length_take];lia)
   exact Nat.lt_of_le_of_lt (Nat.le_trans this hz) (by decide)
  ·simp
  ·rw[et,if_pos hp];simp
 ·refine⟨_,G',?_,hD,rfl,rfl,?_⟩
  ·simp
  ·rw[et,if_neg (by rw[hp];decide)];simp
theorem Gm(g:Dat->Dat)(Sc:CompSc X scope Nc caps)(CG:X.calm=true)(hi:WI X ρ G AN An fun l' G'=>l'=l/\G'=G)(hg:∀C s' H' fp,PGD (Ag X Nc scope C s' H' fp) AN f)(hle:∀d ρ',f d (BI caps ρ)=some ρ'->ρ'.length=(BI caps ρ).length/\∀(j:Nat) e,(BI caps ρ)[j]?=some (some e)->ρ'[j]?=some (some e))(hz:l.length<=5000)(CW:∀C s' H' fp G' d,d∈l->Kn G G'->∃ρ',f d (BI caps ρ)=some ρ'/\PX (Ag X Nc scope C s' H' fp) ρ' G' elt (g d))(Mq:∀x,foldedSetIterable An X.env x=pure x:=by intro _;rfl) :
  PX X ρ G (.ListComp elt [⟨AN,An,[],0⟩] scope Aq) (.lst (l.map g)):=
 Nf (Pv:=fun i Az G'=>G'=G/\Az=(l.take i).map g) (Gq elt AN An scope Aq) Sc CG (TL (Pv:=fun i Az G'=>G'=G/\Az=(l.take i).map g) hi ⟨rfl,by simp⟩) hg hle (Nat.le_trans hz (by decide)) (Pl g hz CW) (by
  rintro Az G' ⟨rfl,rfl⟩;rw[List.take_length];exact⟨rfl,rfl⟩) Mq
theorem Dr(p:Dat->Bool)(g:Dat->Dat)(Sc:CompSc X scope Nc caps)(CG:X.calm=true)(hi:WI X ρ G AN An fun l' G'=>l'=l/\G'=G)(hg:∀C s' H' fp,PGD (Ag X Nc scope C s' H' fp) AN f)(hle:∀d ρ',f d (BI caps ρ)=some ρ'->ρ'.length=(BI caps ρ).length/\∀(j:Nat) e,(BI caps ρ)[j]?=some (some e)->ρ'[j]?=some (some e))(hz:l.length<=5000)(CW:∀C s' H' fp G' d,d∈l->Kn G G'->∃ρ',f d (BI caps ρ)=some ρ'/\PXT (Ag X Nc scope C s' H' fp) ρ' G' c (p d)/\(p d=true->PX (Ag X Nc scope C s' H' fp) ρ' G' elt (g d)))(Mq:∀x,foldedSetIterable An X.env x=pure x:=by intro _;rfl) :
  PX X ρ G (.ListComp elt [⟨AN,An,[c],0⟩] scope Aq) (.lst ((l.filter p).map g)):=
 Nf (Pv:=fun i Az G'=>G'=G/\Az=((l.take i).filter p).map g) (Qb elt AN An c scope Aq) Sc CG (TL (Pv:=fun i Az G'=>G'=G/\Az=((l.take i).filter p).map g) hi ⟨rfl,by simp⟩) hg hle (Nat.le_trans hz (by decide)) (Pt p g hz CW) (by
  rintro Az G' ⟨rfl,rfl⟩;rw[List.take_length];exact⟨rfl,rfl⟩) Mq
theorem Q3(n:Nat){x:Str}(g:Dat->Dat)(hN:X.N.Nodup)(Sc:CompSc X scope Nc caps)(CG:X.calm=true)(hi:WI X ρ G AN An fun l' G'=>l'=l/\G'=G)(hg:∀C s' H' fp,PGD (Ag X Nc scope C s' H' fp) AN f)(hle:∀d ρ',f d (BI caps ρ)=some ρ'->ρ'.length=(BI caps ρ).length/\∀(j:Nat) e,(BI caps ρ)[j]?=some (some e)->ρ'[j]?=some (some e))(hz:l.length<=5000)(CW:∀C s' H' fp G' d,d∈l->Kn G G'->∃ρ',f d (BI caps ρ)=some ρ'/\PX (Ag X Nc scope C s' H' fp) ρ' G' elt (g d))(q:WSs X (ρ.set n (some (.lst (l.map g)))) G rest D)(hn:X.N[n]?=some x:=by rfl)(hx:X.env.kindOf x=some .local:=by rfl)(iQ:swapsWith (.ListComp elt [⟨AN,An,[],0⟩] scope Aq) (some (.Name x pos')) pos.line X.env=pure true:=by rfl)(Mq:∀x,foldedSetIterable An X.env x=pure x:=by intro _;rfl):WSs X ρ G (.Assign [.Name x pos'] (.ListComp elt [⟨AN,An,[],0⟩] scope Aq) pos::rest) D:=GA n (fun i Az G'=>G'=G/\Az=(l.take i).map g) hN (Gq elt AN An scope Aq) Sc CG (TL (Pv:=fun i Az G'=>G'=G/\Az=(l.take i).map g) hi ⟨rfl,by simp⟩) hg hle (Nat.le_trans hz (by decide)) (Pl g hz CW) (by
  rintro Az G' ⟨rfl,rfl⟩;rw[List.take_length];exact q) hn hx iQ Mq
theorem XU(n:Nat){x:Str}(p:Dat->Bool)(g:Dat->Dat)(hN:X.N.Nodup)(Sc:CompSc X scope Nc caps)(CG:X.calm=true)(hi:WI X ρ G AN An fun l' G'=>l'=l/\G'=G)(hg:∀C s' H' fp,PGD (Ag X Nc scope C s' H' fp) AN f)(hle:∀d ρ',f d (BI caps ρ)=some ρ'->ρ'.length=(BI caps ρ).length/\∀(j:Nat) e,(BI caps ρ)[j]?=some (some e)->ρ'[j]?=some (some e))(hz:l.length<=5000)(CW:∀C s' H' fp G' d,d∈l->Kn G G'->∃ρ',f d (BI caps ρ)=some ρ'/\PXT (Ag X Nc scope C s' H' fp) ρ' G' c (p d)/\(p d=true->PX (Ag X Nc scope C s' H' fp) ρ' G' elt (g d)))(q:WSs X (ρ.set n (some (.lst ((l.filter p).map g)))) G rest D)(hn:X.N[n]?=some x:=by rfl)(hx:X.env.kindOf x=some .local:=by rfl)(iQ:swapsWith (.ListComp elt [⟨AN,An,[c],0⟩] scope Aq) (some (.Name x pos')) pos.line X.env=pure true:=by rfl)(Mq:∀x,foldedSetIterable An X.env x=pure x:=by intro _;rfl):WSs X ρ G (.Assign [.Name x pos'] (.ListComp elt [⟨AN,An,[c],0⟩] scope Aq) pos::rest) D:=GA n (fun i Az G'=>G'=G/\Az=((l.take i).filter p).map g) hN (Qb elt AN An c scope Aq) Sc CG (TL (Pv:=fun i Az G'=>G'=G/\Az=((l.take i).filter p).map g) hi ⟨rfl,by simp⟩) hg hle (Nat.le_trans hz (by decide)) (Pt p g hz CW) (by
  rintro Az G' ⟨rfl,rfl⟩;rw[List.take_length];exact q) hn hx iQ Mq
end
def AQ(p q:Sq):Prop:=p.1<q.1\/(p.1=q.1/\p.2<q.2)
instance (p q:Sq):Decidable (AQ p q):=by unfold AQ;infer_instance
theorem AW(p:Sq):¬AQ p p:=by unfold AQ;lia
theorem BH{p q r:Sq}(h:AQ p q)(h':AQ q r):AQ p r:=by unfold AQ at *;lia
theorem Lm(p q:Sq):AQ p q\/p=q\/AQ q p:=by obtain⟨a,b⟩:=p;obtain⟨c,d⟩:=q;unfold AQ;simp only[Prod.mk.injEq];lia
structure Good (F:List Sq):Prop where
 ne:F≠[]
 up:F.Pairwise AQ
 inn:∀p∈F,0<=p.1/\p.1<=7/\0<=p.2/\p.2<=7
 len:F.length<=24
theorem Good.nodup{F:List Sq}(h:Good F):F.Nodup:=h.up.imp fun {a b} Oj e=>by subst e;exact AW _ Oj
def MA(r w d e:Nat):List Sq:=(List.range r).flatMap fun i=>(List.range w).map fun j=>(((d+i:Nat):Int),((e+j:Nat):Int))
theorem La(r w d e:Nat):(MA r w d e).length=r*w:=by
 unfold MA
 induction r with
 |zero=>simp
 |succ r ih=>rw[List.range_succ,List.flatMap_append,List.length_append,ih];simp[Nat.succ_mul]
theorem Qa{r w d e:Nat}{p:Sq}:p∈MA r w d e↔∃i j:Nat,i<r/\j<w/\p=(((d+i:Nat):Int),((e+j:Nat):Int)):=by
 unfold MA;simp only[List.mem_flatMap,List.mem_map,List.mem_range];constructor
 ·rintro⟨i,hi,j,hj,rfl⟩;exact⟨i,j,hi,hj,rfl⟩
 ·rintro⟨i,j,hi,hj,rfl⟩;exact⟨i,hi,j,hj,rfl⟩
theorem My(i w d e:Nat):MA (i+1) w d e=MA i w d e++(List.range w).map fun j=>(((d+i:Nat):Int),((e+j:Nat):Int)):=by unfold MA;rw[List.range_succ,List.flatMap_append];simp
theorem bM(r w d e:Nat):(MA r w d e).Pairwise AQ:=by
 induction r with
 |zero=>exact List.Pairwise.nil
 |succ r ih=>
  rw[My,List.pairwise_append];refine⟨ih,?_,fun p hp q hq=>?_⟩
  ·rw[List.pairwise_map];refine List.Pairwise.imp (fun {a b} h=>?_) List.pairwise_lt_range;exact .inr ⟨rfl,by show((e+a:Nat):Int)<((e+b:Nat):Int);lia⟩
  ·obtain⟨i,j,hi,hj,rfl⟩:=Qa.mp hp;obtain⟨j',_,rfl⟩:=List.mem_map.mp hq;exact .inl (by show((d+i:Nat):Int)<((d+r:Nat):Int);lia)
theorem WL{r w d e:Nat}(h1:r*w<=24)(h2:d+r<=8)(h3:e+w<=8){F:List Sq}(hs:F.Sublist (MA r w d e))(BS:F≠[]):Good F:=by
 refine⟨BS,(bM r w d e).sublist hs,fun p hp=>?_,?_⟩
 ·obtain⟨i,j,hi,hj,rfl⟩:=Qa.mp (hs.subset hp);show 0<=((d+i:Nat):Int)/\((d+i:Nat):Int)<=7/\0<=((e+j:Nat):Int)/\((e+j:Nat):Int)<=7;lia
 ·exact Nat.le_trans hs.length_le (by rw[La];exact h1)
def Oc(r w:Nat):Prop:=(1<=r/\r<=4/\1<=w/\w<=5)\/(r=2/\w=12)\/(r=3/\w=8)\/(r=8/\w=3)\/(r=6/\w=4)
theorem VF{r w:Nat}(h:Oc r w):r*min w 8<=24/\0<r*min w 8:=by
 rcases h with⟨h1,h2,h3,h4⟩|⟨rfl,rfl⟩|⟨rfl,rfl⟩|⟨rfl,rfl⟩|⟨rfl,rfl⟩
 ·have:min w 8=w:=by lia
  rw[this];exact⟨Nat.le_trans (Nat.mul_le_mul h2 h4) (by decide),Nat.mul_pos h1 h3⟩
 all_goals decide
def Vd(c p m:Int):Int:=c*48271%p%m
theorem DU(c p:Int)(m:Nat)(hm:0<m):∃r:Nat,r<m/\Vd c p (m:Int)=(r:Int):=by
 refine⟨(Vd c p m).toNat,?_,?_⟩
 ·have:=Int.emod_lt_of_pos (c*48271%p) (show(0:Int)<m by lia)
  have:=Int.emod_nonneg (c*48271%p) (show(m:Int)≠0 by lia)
  unfold Vd;lia
 ·have:=Int.emod_nonneg (c*48271%p) (show(m:Int)≠0 by lia)
  unfold Vd;lia
theorem N1(L:List Sq)(p:Dat->Bool):((L.map sq).filter p).map id=(L.filter fun q=>p (sq q)).map sq:=by rw[List.map_id,List.filter_map];rfl
theorem sz{n:Nat}(h:n<=5000):n<=sizeLine:=Nat.le_trans h (by decide)
theorem sz1{n:Nat}(h:n<=5000):n<sizeLine:=Nat.lt_of_le_of_lt h (by decide)
theorem C5(i:Int)(n:Nat):(BK i n).length=n:=by simp[BK]
theorem C0{lo:Int}{n i:Nat}{d:Dat}(h:(BK lo n)[i]?=some d):i<n/\d=.int (lo+(i:Nat)):=by
 have A6:i<n:=by
  have:=(List.getElem?_eq_some_iff.mp h).1
  simpa[BK]using this
 have:(BK lo n)[i]?=some (.int (lo+i)):=by simp[BK,A6]
 rw[this]at h;cases h;exact⟨A6,rfl⟩
theorem Rn{lo:Int}{n:Nat}{d:Dat}(h:d∈BK lo n):∃i:Nat,i<n/\d=.int (lo+(i:Nat)):=by obtain⟨i,hi⟩:=List.mem_iff_getElem?.mp h;exact⟨i,C0 hi⟩
def Nm:SpD:=fun ds G R=>∃(ns:List Int)(k:Nat),ds=[.scr ns,.int k]/\R (.int (By ns k)) G
def Yx:SpD:=fun ds G R=>∃(c p m:Int),ds=[.int c,.int p,.int m]/\0<p/\0<m/\R (.int (Vd c p m)) G
def TK:SpD:=fun ds G R=>∃(ns:List Int)(k:Nat),ds=[.scr ns,.int k]/\∀F,Good F->R (fl F) G
end TF
namespace TF
section
theorem BD{α:Type}[DecidableEq α]:∀{l m:List α},l.Nodup->(∀x∈l,x∈m)->l.length<=m.length
 |[],_,_,_=>Nat.zero_le _
 |a::r,m,hn,hs=>by
  obtain⟨h1,h2⟩:=List.nodup_cons.mp hn;have ha:=hs a (List.mem_cons_self ..);have:r.length<=(m.erase a).length:=BD h2 fun x hx=>by
   have BS:x≠a:=by rintro rfl;exact h1 hx
   exact(List.mem_erase_of_ne BS).mpr (hs x (List.mem_cons_of_mem _ hx))
  rw[List.length_erase_of_mem ha]at this;have hp:0<m.length:=List.length_pos_of_mem ha;rw[List.length_cons];lia
theorem U2{α:Type}[DecidableEq α]{l m:List α}(h1:l.Nodup)(h2:m.Nodup)(h:∀x,x∈l↔x∈m):l.length=m.length:=Nat.le_antisymm (BD h1 fun x hx=>(h x).mp hx) (BD h2 fun x hx=>(h x).mpr hx)
theorem VW{α:Type}[DecidableEq α]{l m:List α}(h1:l.Nodup)(hs:∀x∈l,x∈m)(hl:m.length<=l.length)(hm:m.Nodup):∀x∈m,x∈l:=by intro x hx;refine Classical.byContradiction fun hn=>?_;have:l.length<=(m.erase x).length:=BD h1 fun y hy=>(List.mem_erase_of_ne (by rintro rfl;exact hn hy)).mpr (hs y hy);rw[List.length_erase_of_mem hx]at this;have hp:0<m.length:=List.length_pos_of_mem hx;lia
inductive Con (R:Sq->Sq->Prop) (g:Sq->Prop) (s:Sq):Sq->Prop
 |base:Con R g s s
 |step {x y:Sq}:Con R g s x->R x y->g y->Con R g s y
section
variable {R R':Sq->Sq->Prop}{g g':Sq->Prop}{s x y:Sq}
theorem Con.trans(h:Con R g s x)(h':Con R g x y):Con R g s y:=by
 induction h' with
 |base=>exact h
 |step _ r gy ih=>exact .step ih r gy
theorem Con.mono(hR:∀x y,R x y->R' x y)(hg:∀x,g x->g' x)(h:Con R g s x):Con R' g' s x:=by
 induction h with
 |base=>exact .base
 |step _ r gy ih=>exact .step ih (hR _ _ r) (hg _ gy)
theorem Con.in(h:Con R g s x)(hs:g s):g x:=by
 cases h with
 |base=>exact hs
 |step _ _ gy=>exact gy
theorem Con.symm(hR:∀x y,R x y->R y x)(hs:g s)(h:Con R g s x):Con R g x s:=by
 induction h with
 |base=>exact .base
 |@step x y hx r gy ih=>exact Con.trans (.step .base (hR _ _ r) (hx.in hs)) ih
end
structure RL (R:Sq->Sq->Prop) (g:Sq->Prop) (s:Sq) (L:List Sq):Prop where
 nd:L.Nodup
 iff:∀x,x∈L↔Con R g s x
open Classical in
def card(R:Sq->Sq->Prop)(g:Sq->Prop)(s:Sq):Nat:=if h:∃L,RL R g s L then(Classical.choose h).length else 0
theorem RL.card{R:Sq->Sq->Prop}{g:Sq->Prop}{s:Sq}{L:List Sq}(h:RL R g s L):card R g s=L.length:=by have hx:∃L,RL R g s L:=⟨L,h⟩;unfold TF.card;rw[dif_pos hx];have h':=Classical.choose_spec hx;exact U2 h'.nd h.nd fun x=>(h'.iff x).trans (h.iff x).symm
theorem RL.all{R:Sq->Sq->Prop}{g:Sq->Prop}{s:Sq}{L B:List Sq}(h:RL R g s L)(hB:B.Nodup)(hg:∀x,x∈B↔g x)(hs:g s):L.length<=B.length/\(L.length=B.length↔∀x,g x->Con R g s x):=by have sub:∀x∈L,x∈B:=fun x hx=>(hg x).mpr (((h.iff x).mp hx).in hs);have le:=BD h.nd sub;refine⟨le,fun e x hx=>(h.iff x).mp (VW h.nd sub (by lia) hB x ((hg x).mpr hx)),fun a=>?_⟩;exact Nat.le_antisymm le (BD hB fun x hx=>(h.iff x).mpr (a x ((hg x).mp hx)))
def nbM(q:Sq):List Sq:=[(q.1-1,q.2),(q.1,q.2-1),(q.1,q.2+1),(q.1+1,q.2)]
def cnM(q:Sq):List Sq:=[(q.1-1,q.2-1),(q.1-1,q.2+1),(q.1+1,q.2-1),(q.1+1,q.2+1)]
def aaM(q:Sq):List Sq:=nbM q++cnM q
structure BB (F:List Sq) (r0 r1 c0 c1:Int):Prop where
 r0m:r0∈F.map (·.1)
 r0l:∀a∈F.map (·.1),r0<=a
 r1m:r1∈F.map (·.1)
 r1l:∀a∈F.map (·.1),a<=r1
 c0m:c0∈F.map (·.2)
 c0l:∀a∈F.map (·.2),c0<=a
 c1m:c1∈F.map (·.2)
 c1l:∀a∈F.map (·.2),a<=c1
theorem X7:∀(l:List Int),l≠[]->∃m∈l,∀a∈l,m<=a
 |[a],_=>⟨a,by simp,by simp⟩
 |a::b::r,_=>by
  obtain⟨m,h1,h2⟩:=X7 (b::r) (by simp);by_cases h:a<=m
  ·exact⟨a,List.mem_cons_self ..,fun x hx=>by rcases List.mem_cons.mp hx with rfl|hx;exact Int.le_refl _;exact Int.le_trans h (h2 x hx)⟩
  ·exact⟨m,List.mem_cons_of_mem _ h1,fun x hx=>by rcases List.mem_cons.mp hx with rfl|hx;lia;exact h2 x hx⟩
theorem Xa:∀(l:List Int),l≠[]->∃m∈l,∀a∈l,a<=m
 |[a],_=>⟨a,by simp,by simp⟩
 |a::b::r,_=>by
  obtain⟨m,h1,h2⟩:=Xa (b::r) (by simp);by_cases h:m<=a
  ·exact⟨a,List.mem_cons_self ..,fun x hx=>by rcases List.mem_cons.mp hx with rfl|hx;exact Int.le_refl _;exact Int.le_trans (h2 x hx) h⟩
  ·exact⟨m,List.mem_cons_of_mem _ h1,fun x hx=>by rcases List.mem_cons.mp hx with rfl|hx;lia;exact h2 x hx⟩
theorem mL{F:List Sq}(h:F≠[]):∃r0 r1 c0 c1,BB F r0 r1 c0 c1:=by obtain⟨r0,a1,a2⟩:=X7 (F.map (·.1)) (by simpa using h);obtain⟨r1,b1,b2⟩:=Xa (F.map (·.1)) (by simpa using h);obtain⟨c0,d1,d2⟩:=X7 (F.map (·.2)) (by simpa using h);obtain⟨c1,e1,e2⟩:=Xa (F.map (·.2)) (by simpa using h);exact⟨r0,r1,c0,c1,a1,a2,b1,b2,d1,d2,e1,e2⟩
theorem BB.in{F:List Sq}{r0 r1 c0 c1:Int}(b:BB F r0 r1 c0 c1){p:Sq}(h:p∈F):r0<=p.1/\p.1<=r1/\c0<=p.2/\p.2<=c1:=⟨b.r0l _ (List.mem_map_of_mem h),b.r1l _ (List.mem_map_of_mem h),b.c0l _ (List.mem_map_of_mem h),b.c1l _ (List.mem_map_of_mem h)⟩
def Ie(a b:Int)(m n:Nat):List Sq:=(List.range m).flatMap fun i=>(List.range n).map fun j=>(a+(i:Nat),b+(j:Nat))
theorem Zl{a b:Int}{m n:Nat}{p:Sq}:p∈Ie a b m n↔a<=p.1/\p.1<a+m/\b<=p.2/\p.2<b+n:=by
 unfold Ie;simp only[List.mem_flatMap,List.mem_map,List.mem_range];constructor
 ·rintro⟨i,hi,j,hj,rfl⟩;show a<=a+(i:Int)/\a+(i:Int)<a+m/\b<=b+(j:Int)/\b+(j:Int)<b+n;lia
 ·rintro⟨h1,h2,h3,h4⟩;refine⟨(p.1-a).toNat,by lia,(p.2-b).toNat,by lia,?_⟩;obtain⟨x,y⟩:=p;simp only[Prod.mk.injEq]at *;lia
theorem Qu(a b:Int)(m n:Nat):Ie a b (m+1) n=Ie a b m n++(List.range n).map fun j=>(a+(m:Nat),b+(j:Nat)):=by unfold Ie;rw[List.range_succ,List.flatMap_append];simp
theorem Oi(a b:Int)(m n:Nat):(Ie a b m n).length=m*n:=by
 induction m with
 |zero=>simp[Ie]
 |succ m ih=>rw[Qu,List.length_append,ih];simp[Nat.succ_mul]
def Hi(F:List Sq)(r0 r1 c0 c1:Int):List Sq:=(Ie (r0-1) (c0-1) (r1+2-(r0-1)).toNat (c1+2-(c0-1)).toNat).filter fun q=>!F.contains q
section
variable {F:List Sq}{r0 r1 c0 c1:Int}
def g1(F:List Sq)(r0 r1 c0 c1:Int)(p:Sq):Prop:=(r0-1<=p.1/\p.1<=r1+1/\c0-1<=p.2/\p.2<=c1+1)/\p∉F
def g2(F:List Sq)(p:Sq):Prop:=(-1<=p.1/\p.1<=8/\-1<=p.2/\p.2<=8)/\p∉F
theorem BB.le(b:BB F r0 r1 c0 c1):r0<=r1/\c0<=c1:=⟨b.r0l _ b.r1m,b.c0l _ b.c1m⟩
end
def Qf(F:List Sq)(s o:Sq):Bool:=F.contains o&&(!F.contains (s.1,o.2)&&!F.contains (o.1,s.2))
def LP(F:List Sq):Bool:=F.any fun s=>(cnM s).any fun o=>Qf F s o
end
abbrev nbR:Sq->Sq->Prop:=fun p q=>q∈nbM p
abbrev aaR:Sq->Sq->Prop:=fun p q=>q∈aaM p
def Ym(F:List Sq):Bool:=(((card nbR (·∈F) (F.headD (0,0)):Nat):Int)==((F.length:Nat):Int))
def W7(F:List Sq)(r0 r1 c0 c1:Int):Bool:=decide (((card aaR (·∈Hi F r0 r1 c0 c1) (r0-1,c0-1):Nat):Int)<(((Hi F r0 r1 c0 c1).length:Nat):Int))
end TF
namespace TF
open PySem PySem.Spec L2
open PyProof.Rows hiding St RelV
theorem mK{G:Gs}{p1 p2:Addr}{A B A' B':OD}(h:p1≠p2):put (put (put (put G p1 A) p2 B) p1 A') p2 B'=put (put G p1 A') p2 B':=by
 funext b;simp only[put];by_cases h2:b=p2
 ·simp[h2]
 ·by_cases h1:b=p1
  ·simp[h1]
  ·simp[h1,h2]
theorem Wi(L:List Sq)(p:Sq->Bool)(z:Sq)(h:p z=true):((L++[z]).filter p).map sq=(L.filter p).map sq++[sq z]:=by rw[List.filter_append,List.map_append];simp[h]
theorem VB(L:List Sq)(p:Sq->Bool)(z:Sq)(h:¬p z=true):(L++[z]).filter p=L.filter p:=by rw[List.filter_append];simp[h]
theorem Tq(G:Gs)(q:List Sq):JC G (fl q)=some q.length:=by simp[JC,fl]
theorem Zi{F:List Sq}(gd:Good F):atI (F.map sq) 0=some (sq (F.headD (0,0))):=by
 cases F with
 |nil=>exact absurd rfl gd.ne
 |cons a r=>exact C7 (j:=0) rfl
theorem A5(q:Sq):B1 6 (sq q)=true:=rfl
def kvT(q:Sq):Dat×Dat:=(sq q,.bl true)
theorem L7(L:List Sq)(v:Sq->Dat)(y:Sq):Ac (L.map fun q=>(sq q,v q)) (sq y)=if y∈L then some (v y)else none:=by
 induction L with
 |nil=>rfl
 |cons a r ih=>
  unfold Ac at ih ⊢;rw[List.map_cons,List.find?_cons];by_cases h:a=y
  ·subst h;simp
  ·have BS:sq a≠sq y:=fun e=>h (EX e);rw[decide_eq_false BS];simp only;rw[ih];have:(y∈a::r)↔y∈r:=by simp[Ne.symm h]
   simp only[this]
theorem JD(L:List Sq)(y:Sq):(Ac (L.map kvT) (sq y)).isSome=L.contains y:=by
 have:=L7 L (fun _=>.bl true) y
 have e:(L.map fun q=>(sq q,Dat.bl true))=L.map kvT:=rfl;rw[e]at this;rw[this];by_cases h:y∈L<;>simp[h]
theorem Wx{L:List Sq}{y:Sq}(h:y∉L):DM (L.map kvT) (sq y) (.bl true)=(L++[y]).map kvT:=by
 rw[K3,List.map_append]
 ·rfl
 ·have:=JD L y
  cases e:Ac (L.map kvT) (sq y)with
  |none=>rfl
  |some d=>rw[e]at this;simp[h]at this
def MN(nb:Sq->List Sq):SpD:=fun ds G R=>∃q:Sq,ds=[sq q]/\R (.lst ((nb q).map sq)) G
def Jw(P:Program)(w:World)(K:PySem.W.Frag)(mg:Str->Option Value)(base:Heap)(kk:Nat):SpD:=fun ds G R=>∃(start:Sq)(g:List Sq)(gd:Dat)(f:Addr)(nb:Sq->List Sq),
 ds=[sq start,gd,.fn f]/\(gd=.tup (g.map sq)\/gd=.lst (g.map sq))/\DfA P w K mg base f ["square"] kk (MN nb)/\g.length<=1000 ∧
  ∀p L,G p=none->RL (fun a b=>b∈nb a) (·∈g) start L->R (.fn p) (put G p (.dct (L.map kvT)))
def spF(v:List Sq->Dat):SpD:=fun ds G R=>∃F:List Sq,ds=[fl F]/\Good F/\R (v F) G
def Xs:SpD:=fun ds G R=>∃(F:List Sq)(r0 r1 c0 c1:Int),ds=[fl F]/\Good F/\BB F r0 r1 c0 c1/\R (.lst ((Hi F r0 r1 c0 c1).map sq)) G
def Yb:SpD:=fun ds G R=>∃(F:List Sq)(r0 r1 c0 c1:Int),ds=[fl F]/\Good F/\BB F r0 r1 c0 c1/\R (.bl (W7 F r0 r1 c0 c1)) G
def YM:SpD:=fun ds G R=>∃(F:List Sq)(s o:Sq),ds=[fl F,sq s,sq o]/\R (.bl (Qf F s o)) G
theorem au{nb:Sq->List Sq}{g:List Sq}{s x:Sq}(h:Con (fun a b=>b∈nb a) (·∈g) s x):x∈s::g:=by
 cases h with
 |base=>exact List.mem_cons_self ..
 |step _ _ gy=>exact List.mem_cons_of_mem _ gy
theorem gz{R:Sq->Sq->Prop}{g:Sq->Prop}{s:Sq}{L:List Sq}(nd:L.Nodup)(hs:s∈L)(hc:∀x∈L,Con R g s x)(cl:∀x∈L,∀y,R x y->g y->y∈L):RL R g s L:=⟨nd,fun x=>⟨hc x,fun h=>by
  induction h with
  |base=>exact hs
  |step _ r gy ih=>exact cl _ ih _ r gy⟩⟩
theorem VV{F:List Sq}{r0 r1 c0 c1:Int}(b:BB F r0 r1 c0 c1):∃r,Hi F r0 r1 c0 c1=(r0-1,c0-1)::r:=by
 obtain⟨h1,h2⟩:=b.le;unfold Hi;obtain⟨m,hm⟩:∃m,(r1+2-(r0-1)).toNat=m+1:=⟨(r1+2-(r0-1)).toNat-1,by lia⟩;obtain⟨n,hn⟩:∃n,(c1+2-(c0-1)).toNat=n+1:=⟨(c1+2-(c0-1)).toNat-1,by lia⟩;rw[hm,hn];have e:∃r,Ie (r0-1) (c0-1) (m+1) (n+1)=(r0-1,c0-1)::r:=by
  unfold Ie;rw[show List.range (m+1)=0::(List.range m).map Nat.succ from List.range_succ_eq_map,List.flatMap_cons,show List.range (n+1)=0::(List.range n).map Nat.succ from List.range_succ_eq_map,List.map_cons];exact⟨_,by simp;rfl⟩
 obtain⟨r,e⟩:=e;rw[e,List.filter_cons,if_pos]
 ·exact⟨_,rfl⟩
 ·simp only[Bool.not_eq_true',List.contains_eq_mem,decide_eq_false_iff_not];intro hm
  have:=b.in hm
  simp only at this;lia
theorem av{F:List Sq}(gd:Good F){r0 r1 c0 c1:Int}(b:BB F r0 r1 c0 c1):(Hi F r0 r1 c0 c1).length<=1000:=by
 have gQ:∀a∈F.map (·.1),0<=a/\a<=7:=fun a ha=>by obtain⟨p,hp,rfl⟩:=List.mem_map.mp ha;have:=gd.inn p hp;lia
 have gb:∀a∈F.map (·.2),0<=a/\a<=7:=fun a ha=>by obtain⟨p,hp,rfl⟩:=List.mem_map.mp ha;have:=gd.inn p hp;lia
 have b1:=gQ _ b.r0m;have b2:=gQ _ b.r1m;have b3:=gb _ b.c0m;have b4:=gb _ b.c1m;refine Nat.le_trans (List.length_filter_le _ _) ?_;rw[Oi];have:(r1+2-(r0-1)).toNat*(c1+2-(c0-1)).toNat<=10*10:=Nat.mul_le_mul (by lia) (by lia);lia
theorem B0(q:Sq):AJ 8 (sq q)=true:=AZ q 7
theorem Ba(l:List Sq):(l.map sq).all (AJ 8)=true:=DZ l 7
theorem Yt(q:Sq):(nbM q).Nodup:=by obtain⟨a,b⟩:=q;simp only[nbM,List.nodup_cons,List.mem_cons,List.not_mem_nil,or_false,Prod.mk.injEq,List.nodup_nil,and_true,not_false_eq_true];lia
def YF:SpD:=fun ds G R=>∃(F:List Sq)(q:Sq),ds=[fl F,sq q]/\R (.lst (((nbM q).filter F.contains).map sq)) G
theorem i5(l:List Dat):Sw l (some 1) none=l.drop 1:=by
 unfold Sw;cases l with
 |nil=>rfl
 |cons x r=>
  have e:HT.sIx (x::r).length 0 (some 1)=1:=by
   have:=HT.sIx_nat (x::r).length 0 1
   rw[show((1:Nat):Int)=1 from rfl]at this;rw[this,List.length_cons];lia
  rw[e,HT.sIx_none];simp
end TF
namespace TS
open PySem PyProof.Rows
section
variable {prog:Program}{w:World}{A:Around}{E:Value->Shared->Prop}{s:Shared}{a₀:Array Keyed}{r:Keyed->Nat}{k0:SortKind}
def CmpOk(prog:Program)(w:World)(A:Around)(s:Shared)(a₀:Array Keyed)(r:Keyed->Nat)(k0:SortKind):Prop:=∀x y,x∈a₀.toList->y∈a₀.toList->∀(E:Value->Shared->Prop)(Q:Bool->Shared->Prop),Q (decide (r x<r y)) s->wpAny (model prog w) A (keyLt' k0 x.1 y.1) Q E s
structure SB (a₀:Array Keyed) (k0:SortKind) (st:SortSt):Prop where
 perm:(arrOf st).Perm a₀
 kind:kindOf st=k0
 failed:failedOf st=none
theorem SB.size{st:SortSt}(h:SB a₀ k0 st):(arrOf st).size=a₀.size:=h.perm.size_eq
theorem SB.mem{st:SortSt}(h:SB a₀ k0 st){p:Keyed}(hp:p∈(arrOf st).toList):p∈a₀.toList:=(Array.perm_iff_toList_perm.mp h.perm).mem_iff.mp hp
theorem SB.memAt{st:SortSt}(h:SB a₀ k0 st){i:Nat}{p:Keyed}(hp:(arrOf st)[i]?=some p):p∈a₀.toList:=h.mem (by
 have:=Array.mem_of_getElem? hp
 exact Array.mem_toList_iff.mpr this)
theorem SB.setArr{st:SortSt}(h:SB a₀ k0 st){xs:Array Keyed}(hp:xs.Perm (arrOf st)):SB a₀ k0 (setArr st xs):=⟨hp.trans h.perm,h.kind,h.failed⟩
def Rk(r:Keyed->Nat)(xs:Array Keyed)(i:Nat):Nat:=match xs[i]? with
 |some p=>r p
 |none=>0
theorem TQ{xs:Array Keyed}{i:Nat}{p:Keyed}(h:xs[i]?=some p):Rk r xs i=r p:=by unfold Rk;rw[h]
theorem Gp{xs ys:Array Keyed}{i j:Nat}(h:xs[i]?=ys[j]?):Rk r xs i=Rk r ys j:=by unfold Rk;rw[h]
theorem Et{xs:Array Keyed}{i j:Nat}(hj:j<=xs.size)(k:Nat):Rk r (mirror xs i j ((j-i) / 2)) k=if i<=k/\k<j then Rk r xs (i+j-1-k)else Rk r xs k:=by
 have e:=getElem?_mirror_all (i:=i) hj k;by_cases h:i<=k/\k<j
 ·rw[if_pos h]at e ⊢;exact Gp e
 ·rw[if_neg h]at e ⊢;exact Gp e
theorem U7{xs:Array Keyed}{i j:Nat}(hj:j<=xs.size){k:Nat}(hk:k<i):(mirror xs i j ((j-i) / 2))[k]?=xs[k]?:=by rw[getElem?_mirror_all (i:=i) hj k,if_neg (by lia)]
theorem LL(hc:CmpOk prog w A s a₀ r k0){st:SortSt}(hB:SB a₀ k0 st){x y:Keyed}(hx:x∈a₀.toList)(hy:y∈a₀.toList){Q:Option Bool->SortSt->Prop}(h:Q (some (decide (r x<r y))) st):wpS (model prog w) A E s (lt' x y) Q st:=by rw[lt'_eq];refine wpS_bind (wpS_get ?_);rw[hB.kind];refine wpS_bind (wpS_lift (wpAny_attempt (hc x y hx hy _ _ ⟨rfl,?_⟩)));exact wpS_pure h
theorem As{st:SortSt}{xs:Array Keyed}{i:Nat}{p:Keyed}(hp:xs[i]?=some p){Q:Keyed->SortSt->Prop}(h:Q p st):wpS (model prog w) A E s (elem' xs i) Q st:=by rw[elem'_eq,hp];exact wpS_pure h
theorem Eg(hc:CmpOk prog w A s a₀ r k0){st:SortSt}(hB:SB a₀ k0 st){i j:Nat}(hi:i<a₀.size)(hj:j<a₀.size){Q:Option Bool->SortSt->Prop}(h:Q (some (decide (Rk r (arrOf st) i<Rk r (arrOf st) j))) st):wpS (model prog w) A E s (ltAt' i j) Q st:=by have ei:(arrOf st)[i]?=some ((arrOf st)[i]'(by rw[hB.size];exact hi)):=getElem?_pos _ i (by rw[hB.size];exact hi);have ej:(arrOf st)[j]?=some ((arrOf st)[j]'(by rw[hB.size];exact hj)):=getElem?_pos _ j (by rw[hB.size];exact hj);rw[TQ ei,TQ ej]at h;rw[ltAt'_eq];refine wpS_bind (wpS_get ?_);refine wpS_bind (As ei ?_);refine wpS_bind (As ej ?_);exact LL hc hB (hB.memAt ei) (hB.memAt ej) h
def M9:Nat->Nat->StateT SortSt Sem (Option Nat):=sortPriv% PySem.Builtin.countRun
def J4:Nat->Nat->Nat->StateT SortSt Sem Bool:=sortPriv% PySem.Builtin.binarySort
def Kq:Bool->Keyed->Array Keyed->Nat->Nat->Nat->StateT SortSt Sem (Option Nat):=sortPriv% PySem.Builtin.gallop
def QF:Array Keyed->Array Keyed->StateT SortSt Sem (Array Keyed):=sortPriv% PySem.Builtin.mergeLo
def QQ:Array Keyed->Array Keyed->StateT SortSt Sem (Array Keyed):=sortPriv% PySem.Builtin.mergeHi
structure Kp (a₀:Array Keyed) (k0:SortKind) (lo:Nat) (st AX:SortSt):Prop where
 base:SB a₀ k0 AX
 pend:pendingOf AX=pendingOf st
 low:∀k,k<lo->(arrOf AX)[k]?=(arrOf st)[k]?
theorem Kp.refl{st:SortSt}{lo:Nat}(h:SB a₀ k0 st):Kp a₀ k0 lo st st:=⟨h,rfl,fun _ _=>rfl⟩
theorem Kp.trans{st B3 DA:SortSt}{lo:Nat}(h:Kp a₀ k0 lo st B3)(h':Kp a₀ k0 lo B3 DA):Kp a₀ k0 lo st DA:=⟨h'.base,h'.pend.trans h.pend,fun k hk=>(h'.low k hk).trans (h.low k hk)⟩
theorem Kp.mirror{st:SortSt}{lo i j:Nat}(h:SB a₀ k0 st)(hi:lo<=i)(hj:j<=a₀.size):Kp a₀ k0 lo st (PyProof.Rows.setArr st (mirror (arrOf st) i j ((j-i) / 2))):=⟨h.setArr (mirror_perm _ _ _ _),rfl,fun k hk=>U7 (by rw[h.size];exact hj) (by lia)⟩
def Up(r:Keyed->Nat)(xs:Array Keyed)(a b:Nat):Prop:=∀i j,a<=i->i<=j->j<b->Rk r xs i<=Rk r xs j
def Dn(r:Keyed->Nat)(xs:Array Keyed)(a b:Nat):Prop:=∀i j,a<=i->i<=j->j<b->Rk r xs j<=Rk r xs i
theorem eJ(xs:Array Keyed)(a:Nat):Up r xs a (a+1):=fun i j h1 h2 h3=>by
 obtain rfl:i=j:=by lia
 exact Nat.le_refl _
theorem Tz{xs:Array Keyed}{a b:Nat}(h:Up r xs a b)(Oj:a<b)(hl:Rk r xs (b-1)<=Rk r xs b):Up r xs a (b+1):=fun i j h1 h2 h3=>by
 by_cases hj:j<b
 ·exact h i j h1 h2 hj
 ·obtain rfl:j=b:=by lia
  by_cases hi:i=j
  ·subst hi;exact Nat.le_refl _
  ·exact Nat.le_trans (h i (j-1) h1 (by lia) (by lia)) hl
theorem Oa{xs:Array Keyed}{a b:Nat}(h:Dn r xs a b)(Oj:a<b)(hl:Rk r xs b<=Rk r xs (b-1)):Dn r xs a (b+1):=fun i j h1 h2 h3=>by
 by_cases hj:j<b
 ·exact h i j h1 h2 hj
 ·obtain rfl:j=b:=by lia
  by_cases hi:i=j
  ·subst hi;exact Nat.le_refl _
  ·exact Nat.le_trans hl (h i (j-1) h1 (by lia) (by lia))
theorem Rx{M:Model}{σ α:Type}{c:Prop}[Decidable c]{m t:StateT σ Sem α}{Q:α->σ->Prop}{st:σ}{P:σ->Prop}(ht:∀B3,P B3->wpS M A E s t Q B3)(h:(∀B3,P B3->wpS M A E s t Q B3)->wpS M A E s (if c then m else t) Q st):wpS M A E s (if c then m else t) Q st:=h ht
theorem Q0{M:Model}{σ α:Type}{c:Prop}[Decidable c]{m t:StateT σ Sem α}{Q:α->σ->Prop}{st:σ}{P:σ->Prop}(ht:∀B3,P B3->wpS M A E s t Q B3)(h:(∀B3,P B3->wpS M A E s t Q B3)->wpS M A E s (if c then m else t) Q st):wpS M A E s (if c then m else t) Q st:=h ht
theorem Oq(hc:CmpOk prog w A s a₀ r k0){st:SortSt}(hB:SB a₀ k0 st){lo nrem:Nat}(h1:1<=nrem)(h2:lo+nrem<=a₀.size){Q:Option Nat->SortSt->Prop}(h:∀m AX,1<=m->m<=nrem->Kp a₀ k0 lo st AX->Up r (arrOf AX) lo (lo+m)->Q (some m) AX):wpS (model prog w) A E s (M9 lo nrem) Q st:=by
 unfold M9;refine wpS_bind (wpS_mono (wpS_forRange (I:=fun x c AX=>AX=st/\c=(none,x)/\x<=nrem/\Up r (arrOf st) lo (lo+x))
  (Q:=fun c AX=>AX=st/\∃n,c=(none,n)/\1<=n/\n<=nrem/\Up r (arrOf st) lo (lo+n)/\(n=nrem\/Rk r (arrOf st) (lo+n)<Rk r (arrOf st) (lo+n-1))) ?_ ?_ ⟨rfl,rfl,h1,eJ _ _⟩) ?_)
 ·rintro x c AX UG R8 ⟨rfl,rfl,hx,hU⟩;refine wpS_bind (Eg hc hB (by lia) (by lia) ?_);dsimp only;by_cases A6:Rk r (arrOf AX) (lo+x)<Rk r (arrOf AX) (lo+x-1)
  ·rw[decide_eq_true A6,if_pos rfl];exact wpS_pure ⟨rfl,x,rfl,UG,hx,hU,.inr A6⟩
  ·rw[decide_eq_false A6,if_neg (by decide)];exact wpS_pure ⟨rfl,rfl,by lia,Tz (b:=lo+x) hU (by lia) (by lia)⟩
 ·rintro c AX ⟨rfl,rfl,hx,hU⟩;have e:max 1 nrem=nrem:=by lia
  rw[e]at hU ⊢;exact⟨rfl,nrem,rfl,h1,Nat.le_refl _,hU,.inl rfl⟩
 rintro c AX ⟨rfl,n,rfl,gF,fA,hU,dq⟩;dsimp only;by_cases hnn:n=nrem
 ·rw[if_pos (by simpa using hnn)];exact wpS_pure (h n _ gF fA (Kp.refl hB) hU)
 rw[if_neg (by simpa using hnn)];have A6:=dq.resolve_left hnn;refine Rx (P:=fun B3=>Kp a₀ k0 lo AX B3/\Dn r (arrOf B3) lo (lo+(n+1))) ?tail ?rest
 case rest=>
  intro tail;by_cases hgt:n > 1
  ·rw[if_pos hgt];refine wpS_bind (Eg hc hB (by lia) (by lia) ?_);dsimp only;by_cases hrose:Rk r (arrOf AX) lo<Rk r (arrOf AX) (lo+n-1)
   ·rw[decide_eq_true hrose,if_pos rfl];exact wpS_pure (h n _ gF fA (Kp.refl hB) hU)
   ·rw[decide_eq_false hrose,if_neg (by decide)];refine wpS_bind (wpS_modify (tail _ ⟨Kp.mirror hB (Nat.le_refl _) (by lia),?_⟩));have hsz:lo+n<=(arrOf AX).size:=by rw[hB.size];lia
    have heq:∀k,lo<=k->k<lo+n->Rk r (arrOf AX) k=Rk r (arrOf AX) (lo+n-1):=fun k g1 g2=>by
     have:=hU lo k (Nat.le_refl _) g1 g2
     have:=hU k (lo+n-1) g1 (by lia) (by lia)
     lia
    have hR:∀k,Rk r (mirror (arrOf AX) lo (lo+n) ((lo+n-lo) / 2)) k=Rk r (arrOf AX) k:=fun k=>by
     rw[Et hsz];split
     ·rw[heq _ (by lia) (by lia),heq k (by lia) (by lia)]
     ·rfl
    intro i j g1 g2 g3;show Rk r (mirror (arrOf AX) lo (lo+n) ((lo+n-lo) / 2)) j<=Rk r (mirror (arrOf AX) lo (lo+n) ((lo+n-lo) / 2)) i;rw[hR,hR];by_cases hj:j=lo+n
    ·subst hj;by_cases hi:i=lo+n
     ·subst hi;exact Nat.le_refl _
     ·rw[heq i g1 (by lia)];lia
    ·rw[heq i g1 (by lia),heq j (by lia) (by lia)];exact Nat.le_refl _
  ·rw[if_neg hgt];obtain rfl:n=1:=by lia
   refine tail _ ⟨Kp.refl hB,?_⟩;intro i j g1 g2 g3;by_cases hi:i=j
   ·subst hi;exact Nat.le_refl _
   ·obtain rfl:i=lo:=by lia
    obtain rfl:j=i+1:=by lia
    have:i+1-1=i:=by lia
    rw[this]at A6;lia
 case tail=>
  rintro B3 ⟨oZ,qc⟩;refine wpS_bind (wpS_lift (wpAny_rule ⟨rfl,?_⟩));refine wpS_bind (wpS_mono (wpS_forRange (I:=fun x c AX=>∃OY,c=(none,x,OY)/\x<=nrem/\Kp a₀ k0 lo B3 AX/\Dn r (arrOf AX) lo (lo+x)/\OY+1<=x/\∀i,lo+x-(OY+1)<=i->i<lo+x->Rk r (arrOf AX) i=Rk r (arrOf AX) (lo+x-1))
   (Q:=fun c AX=>∃m OY,c=(none,m,OY)/\n+1<=m/\m<=nrem/\Kp a₀ k0 lo B3 AX/\Dn r (arrOf AX) lo (lo+m)/\OY+1<=m/\∀i,lo+m-(OY+1)<=i->i<lo+m->Rk r (arrOf AX) i=Rk r (arrOf AX) (lo+m-1)) ?_ ?_ ⟨0,rfl,by lia,Kp.refl oZ.base,qc,by lia,fun i g1 g2=>by congr 1;lia⟩) ?_)
  ·rintro x c DA UG R8 ⟨OY,rfl,hx,MI,ZD,hq,he⟩;have hsz:lo+x<=(arrOf DA).size:=by rw[MI.base.size];lia
   dsimp only;refine wpS_bind (Eg hc MI.base (by lia) (by lia) ?_);dsimp only;by_cases RB:Rk r (arrOf DA) (lo+x)<Rk r (arrOf DA) (lo+x-1)
   ·rw[decide_eq_true RB,if_pos rfl];by_cases hneq:OY > 0
    ·rw[if_pos hneq];refine wpS_bind (wpS_modify (wpS_pure ⟨0,rfl,by lia,MI.trans (Kp.mirror MI.base (by lia) (by lia)),?_,by lia,fun i g1 g2=>by congr 1;lia⟩));have hR:∀k,Rk r (mirror (arrOf DA) (lo+x-(OY+1)) (lo+x) ((lo+x-(lo+x-(OY+1))) / 2)) k=Rk r (arrOf DA) k:=fun k=>by
      rw[Et hsz];split
      ·rw[he _ (by lia) (by lia),he k (by lia) (by lia)]
      ·rfl
     intro i j g1 g2 g3;show Rk r (mirror (arrOf DA) _ _ _) j<=Rk r (mirror (arrOf DA) _ _ _) i;rw[hR,hR];exact Oa (b:=lo+x) ZD (by lia) (by lia) i j g1 g2 g3
    ·rw[if_neg hneq];exact wpS_pure ⟨0,rfl,by lia,MI,Oa (b:=lo+x) ZD (by lia) (by lia),by lia,fun i g1 g2=>by congr 1;lia⟩
   ·rw[decide_eq_false RB,if_neg (by decide)];refine wpS_bind (Eg hc MI.base (by lia) (by lia) ?_);dsimp only;by_cases cL:Rk r (arrOf DA) (lo+x-1)<Rk r (arrOf DA) (lo+x)
    ·rw[decide_eq_true cL,if_pos rfl];exact wpS_pure ⟨x,OY,rfl,UG,hx,MI,ZD,hq,he⟩
    ·rw[decide_eq_false cL,if_neg (by decide)];refine wpS_pure ⟨OY+1,rfl,by lia,MI,Oa (b:=lo+x) ZD (by lia) (by lia),by lia,fun i g1 g2=>?_⟩;have e:lo+(x+1)-1=lo+x:=by lia
     rw[e];by_cases hi:i=lo+x
     ·subst hi;rfl
     ·rw[he i (by lia) (by lia)];lia
  ·rintro c DA ⟨OY,rfl,hx,MI,ZD,hq,he⟩;have e:max (n+1) nrem=nrem:=by lia
   rw[e]at ZD hq he ⊢;exact⟨nrem,OY,rfl,by lia,Nat.le_refl _,MI,ZD,hq,he⟩
  rintro c DA ⟨m,OY,rfl,nh,jX,MI,ZD,hq,he⟩;dsimp only;have hsz:lo+m<=(arrOf DA).size:=by rw[MI.base.size];lia
  refine Q0 (P:=fun He=>Kp a₀ k0 lo B3 He/\Dn r (arrOf He) lo (lo+m)) ?_ ?_
  ·rintro He ⟨b9,rD⟩;have jF:lo+m<=(arrOf He).size:=by rw[b9.base.size];lia
   have oR:=Kp.mirror (lo:=lo) (i:=lo) (j:=lo+m) b9.base (Nat.le_refl _) (by lia);refine wpS_bind (wpS_modify ?_);refine wpS_bind (wpS_mono (wpS_forRange (I:=fun x c AX=>AX=PyProof.Rows.setArr He (mirror (arrOf He) lo (lo+m) ((lo+m-lo) / 2))/\c=(none,x)/\x<=nrem/\Up r (mirror (arrOf He) lo (lo+m) ((lo+m-lo) / 2)) lo (lo+x))
    (Q:=fun c AX=>AX=PyProof.Rows.setArr He (mirror (arrOf He) lo (lo+m) ((lo+m-lo) / 2))/\∃n,c=(none,n)/\1<=n/\n<=nrem/\Up r (mirror (arrOf He) lo (lo+m) ((lo+m-lo) / 2)) lo (lo+n)) ?_ ?_ ⟨rfl,rfl,jX,?_⟩) ?_)
   ·rintro x c AX UG R8 ⟨rfl,rfl,hx,hU⟩;refine wpS_bind (Eg hc oR.base (by lia) (by lia) ?_);dsimp only;by_cases A6:Rk r (mirror (arrOf He) lo (lo+m) ((lo+m-lo) / 2)) (lo+x)<Rk r (mirror (arrOf He) lo (lo+m) ((lo+m-lo) / 2)) (lo+x-1)
    ·rw[decide_eq_true A6,if_pos rfl];exact wpS_pure ⟨rfl,x,rfl,by lia,hx,hU⟩
    ·rw[decide_eq_false A6,if_neg (by decide)];exact wpS_pure ⟨rfl,rfl,by lia,Tz (b:=lo+x) hU (by lia) (by lia)⟩
   ·rintro c AX ⟨rfl,rfl,hx,hU⟩;have e:max m nrem=nrem:=by lia
    rw[e]at hU ⊢;exact⟨rfl,nrem,rfl,h1,Nat.le_refl _,hU⟩
   ·intro i j g1 g2 g3;rw[Et jF,Et jF,if_pos (by lia),if_pos (by lia)];exact rD _ _ (by lia) (by lia) (by lia)
   ·rintro c AX ⟨rfl,n',rfl,jr,lF,rq⟩;exact wpS_pure (h n' _ jr lF (oZ.trans (b9.trans oR)) rq)
  ·intro tail;by_cases hneq:OY > 0
   ·rw[if_pos hneq];refine wpS_bind (wpS_modify (tail _ ⟨MI.trans (Kp.mirror MI.base (by lia) (by lia)),?_⟩));have hR:∀k,Rk r (mirror (arrOf DA) (lo+m-(OY+1)) (lo+m) ((lo+m-(lo+m-(OY+1))) / 2)) k=Rk r (arrOf DA) k:=fun k=>by
     rw[Et hsz];split
     ·rw[he _ (by lia) (by lia),he k (by lia) (by lia)]
     ·rfl
    intro i j g1 g2 g3;show Rk r (mirror (arrOf DA) _ _ _) j<=Rk r (mirror (arrOf DA) _ _ _) i;rw[hR,hR];exact ZD i j g1 g2 g3
   ·rw[if_neg hneq];exact tail _ ⟨MI,ZD⟩
theorem Mv{xs:Array Keyed}{src d:Nat}(hs:src<xs.size)(hd:d<=src)(k:Nat):Rk r (bubble xs src d) k=if k=src-d then Rk r xs src else if src-d<k/\k<=src then Rk r xs (k-1)else Rk r xs k:=by
 have e:=getElem?_bubble hs d hd k;by_cases h1:k=src-d
 ·rw[if_pos h1]at e ⊢;exact Gp e
 ·rw[if_neg h1]at e ⊢;by_cases h2:src-d<k/\k<=src
  ·rw[if_pos h2]at e ⊢;exact Gp e
  ·rw[if_neg h2]at e ⊢;exact Gp e
theorem Lk(hc:CmpOk prog w A s a₀ r k0){st:SortSt}(hB:SB a₀ k0 st){lo n ok:Nat}(h2:lo+n<=a₀.size)(hok:ok<=n)(hU:Up r (arrOf st) lo (lo+ok)){Q:Bool->SortSt->Prop}(h:∀AX,Kp a₀ k0 lo st AX->Up r (arrOf AX) lo (lo+n)->Q true AX):wpS (model prog w) A E s (J4 lo n ok) Q st:=by
 unfold J4;refine wpS_bind (wpS_mono (wpS_forRange (I:=fun k c AX=>c=(none,())/\Kp a₀ k0 lo st AX/\Up r (arrOf AX) lo (lo+min k n))
  (Q:=fun c AX=>c=(none,())/\Kp a₀ k0 lo st AX/\Up r (arrOf AX) lo (lo+n)) ?_ ?_ ⟨rfl,Kp.refl hB,?_⟩) ?_)
 ·rintro k c B3 Rt Iq ⟨rfl,hK,bf⟩;have e:min k n=k:=by lia
  rw[e]at bf;have hsz:lo+k<(arrOf B3).size:=by rw[hK.base.size];lia
  dsimp only;refine wpS_bind (wpS_mono (wpS_forRange (I:=fun x c AX=>AX=B3/\∃l u,c=(none,l,u)/\l<=u/\u<=k/\u-l<=k-x/\(∀i,i<l->Rk r (arrOf B3) (lo+i)<=Rk r (arrOf B3) (lo+k))/\∀i,u<=i->i<k->Rk r (arrOf B3) (lo+k)<Rk r (arrOf B3) (lo+i))
   (Q:=fun c AX=>AX=B3/\∃l u,c=(none,l,u)/\l<=k/\(∀i,i<l->Rk r (arrOf B3) (lo+i)<=Rk r (arrOf B3) (lo+k))/\∀i,l<=i->i<k->Rk r (arrOf B3) (lo+k)<Rk r (arrOf B3) (lo+i)) ?_ ?_ ⟨rfl,0,k,rfl,by lia,by lia,by lia,fun i hi=>by lia,fun i g1 g2=>by lia⟩) ?_)
  ·rintro x c DA UG R8 ⟨rfl,l,u,rfl,g1,g2,g3,g4,g5⟩;dsimp only;by_cases Kk:l≥u
   ·rw[if_pos Kk];exact wpS_pure ⟨rfl,l,u,rfl,by lia,g4,fun i q1 q2=>g5 i (by lia) q2⟩
   ·rw[if_neg Kk];refine wpS_bind (Eg hc hK.base (by lia) (by lia) ?_);dsimp only;by_cases hl:Rk r (arrOf DA) (lo+k)<Rk r (arrOf DA) (lo+(l+u) / 2)
    ·rw[decide_eq_true hl,if_pos rfl];refine wpS_pure ⟨rfl,l,(l+u) / 2,rfl,by lia,by lia,by lia,g4,fun i q1 q2=>?_⟩
     have:=bf (lo+(l+u) / 2) (lo+i) (by lia) (by lia) (by lia)
     lia
    ·rw[decide_eq_false hl,if_neg (by decide)];refine wpS_pure ⟨rfl,(l+u) / 2+1,u,rfl,by lia,by lia,by lia,fun i q1=>?_,g5⟩
     have:=bf (lo+i) (lo+(l+u) / 2) (by lia) (by lia) (by lia)
     lia
  ·rintro c DA ⟨rfl,l,u,rfl,g1,g2,g3,g4,g5⟩;exact⟨rfl,l,u,rfl,by lia,g4,fun i q1 q2=>g5 i (by lia) q2⟩
  ·rintro c DA ⟨rfl,l,u,rfl,g1,g2,g3⟩;dsimp only;refine wpS_bind (wpS_modify (wpS_pure ⟨rfl,hK.trans ⟨hK.base.setArr (bubble_perm _ (lo+k) (lo+k-(lo+l))),rfl,fun q hq=>?_⟩,?_⟩))
   ·show(bubble (arrOf DA) (lo+k) (lo+k-(lo+l)))[q]?=_;rw[getElem?_bubble hsz _ (by lia),if_neg (by lia),if_neg (by lia)]
   ·have e1:min (k+1) n=k+1:=by lia
    rw[e1];intro i j q1 q2 q3;show Rk r (bubble (arrOf DA) (lo+k) (lo+k-(lo+l))) i<=Rk r (bubble (arrOf DA) (lo+k) (lo+k-(lo+l))) j;rw[Mv hsz (by lia),Mv hsz (by lia),show lo+k-(lo+k-(lo+l))=lo+l by lia];have a1:∀i,lo<=i->i<lo+l->Rk r (arrOf DA) i<=Rk r (arrOf DA) (lo+k):=fun i z1 z2=>by
     have:=g2 (i-lo) (by lia)
     rwa [show lo+(i-lo)=i by lia]at this
    have a2:∀i,lo+l<=i->i<lo+k->Rk r (arrOf DA) (lo+k)<Rk r (arrOf DA) i:=fun i z1 z2=>by
     have:=g3 (i-lo) (by lia) (by lia)
     rwa [show lo+(i-lo)=i by lia]at this
    repeat' split
    all_goals first
     |(exfalso;lia)
     |exact Nat.le_refl _
     |exact Nat.le_of_lt (a2 _ (by lia) (by lia))
     |exact a1 _ (by lia) (by lia)
     |exact bf _ _ (by lia) (by lia) (by lia)
 ·rintro c B3 ⟨rfl,hK,bf⟩;refine⟨rfl,hK,?_⟩;have e:min (max (max ok 1) n) n=n:=by lia
  rwa [e]at bf
 ·intro i j g1 g2 g3;by_cases h0:ok=0
  ·obtain rfl:i=j:=by lia
   exact Nat.le_refl _
  ·exact hU i j g1 g2 (by lia)
 ·rintro c B3 ⟨rfl,hK,bf⟩;exact wpS_pure (h B3 hK bf)
def Bf(r:Keyed->Nat)(left:Bool)(key:Keyed)(xs:Array Keyed)(i:Nat):Bool:=if left then decide (Rk r xs i<r key)else !decide (r key<Rk r xs i)
theorem bH{left:Bool}{key:Keyed}{xs:Array Keyed}{a b i j:Nat}(hU:Up r xs a b)(h1:a<=i)(h2:i<=j)(h3:j<b)(h:Bf r left key xs j=true):Bf r left key xs i=true:=by
 have:=hU i j h1 h2 h3
 unfold Bf at *;cases left
 ·simp at *;lia
 ·simp at *;lia
theorem Li(hc:CmpOk prog w A s a₀ r k0){st:SortSt}(hB:SB a₀ k0 st){left:Bool}{key:Keyed}{xs:Array Keyed}{base n hint:Nat}(hk:key∈a₀.toList)(hx:∀p∈xs.toList,p∈a₀.toList)(hsz:base+n<=xs.size)(hh:hint<n)(hU:Up r xs base (base+n)){Q:Option Nat->SortSt->Prop}(h:∀k,k<=n->(∀i,i<k->Bf r left key xs (base+i)=true)->(∀i,k<=i->i<n->Bf r left key xs (base+i)=false)->Q (some k) st):wpS (model prog w) A E s (Kq left key xs base n hint) Q st:=by
 have beyond:∀(i:Nat)(Q:Option Bool->SortSt->Prop),i<n->Q (some (Bf r left key xs (base+i))) st->wpS (model prog w) A E s (do
   let x <-elem' xs (base+i)
   if left then lt' x key else return (<-lt' key x).map (!·)) Q st:=by
  intro i Q hi hQ;have e:xs[base+i]?=some (xs[base+i]'(by lia)):=getElem?_pos _ _ (by lia);have hm:(xs[base+i]'(by lia))∈a₀.toList:=hx _ (Array.mem_toList_iff.mpr (Array.mem_of_getElem? e));refine wpS_bind (As e ?_);unfold Bf at hQ;rw[TQ e]at hQ;cases left with
  |true=>
   rw[if_pos rfl]at hQ ⊢;exact LL hc hB hm hk hQ
  |false=>
   rw[if_neg (by decide)]at hQ ⊢;exact wpS_bind (LL hc hB hk hm (wpS_pure hQ))
 have mono:∀i j,i<=j->j<n->Bf r left key xs (base+j)=true->Bf r left key xs (base+i)=true:=fun i j g1 g2 g3=>bH hU (by lia) (by lia) (by lia) g3;have T6:∀i j,i<=j->j<n->Bf r left key xs (base+i)=false->Bf r left key xs (base+j)=false:=fun i j g1 g2 g3=>by
  cases e:Bf r left key xs (base+j)with
  |false=>rfl
  |true=>rw[mono i j g1 g2 e]at g3;cases g3
 unfold Kq;refine wpS_bind (beyond hint _ hh ?_);dsimp only;cases hr:Bf r left key xs (base+hint)with
 |true=>
  rw[if_pos rfl];refine wpS_bind (wpS_mono (wpS_forRange (I:=fun x c AX=>AX=st/\∃la o,c=(none,la,o)/\la<o/\x+1<=o/\la<n-hint/\Bf r left key xs (base+(hint+la))=true)
   (Q:=fun c AX=>AX=st/\∃la o,c=(none,la,o)/\la<o/\la<n-hint/\Bf r left key xs (base+(hint+la))=true/\(n-hint<=o\/Bf r left key xs (base+(hint+o))=false)) ?_ ?_ ⟨rfl,0,1,rfl,by lia,by lia,by lia,hr⟩) ?_)
  ·rintro x c AX UG R8 ⟨rfl,la,o,rfl,g1,g2,g3,g4⟩;dsimp only;by_cases Kk:o≥n-hint
   ·rw[if_pos Kk];exact wpS_pure ⟨rfl,la,o,rfl,g1,g3,g4,.inl Kk⟩
   ·rw[if_neg Kk];refine wpS_bind (beyond (hint+o) _ (by lia) ?_);dsimp only;cases hb:Bf r left key xs (base+(hint+o))with
    |true=>
     rw[if_neg (by decide)];exact wpS_pure ⟨rfl,o,2*o+1,rfl,by lia,by lia,by lia,hb⟩
    |false=>
     rw[if_pos (by decide)];exact wpS_pure ⟨rfl,la,o,rfl,g1,g3,g4,.inr hb⟩
  ·rintro c AX ⟨rfl,la,o,rfl,g1,g2,g3,g4⟩;exact⟨rfl,la,o,rfl,g1,g3,g4,.inl (by lia)⟩
  rintro c AX ⟨rfl,la,o,rfl,g1,g3,g4,g5⟩;dsimp only;have t1:∀i,i<hint+la+1->Bf r left key xs (base+i)=true:=fun i hi=>mono i (hint+la) (by lia) (by lia) g4;have t2:∀i,hint+min o (n-hint)<=i->i<n->Bf r left key xs (base+i)=false:=fun i q1 q2=>by
   rcases g5 with z|z
   ·lia
   ·exact T6 (hint+o) i (by lia) q2 z
  refine wpS_bind (wpS_mono (wpS_forRange (I:=fun x c B3=>B3=AX/\∃l u,c=(none,l,u)/\l<=u/\u<=n/\u-l<=n-x/\(∀i,i<l->Bf r left key xs (base+i)=true)/\∀i,u<=i->i<n->Bf r left key xs (base+i)=false)
   (Q:=fun c B3=>B3=AX/\∃l u,c=(none,l,u)/\u<=n/\(∀i,i<u->Bf r left key xs (base+i)=true)/\∀i,u<=i->i<n->Bf r left key xs (base+i)=false) ?_ ?_ ⟨rfl,_,_,rfl,by lia,by lia,by lia,t1,t2⟩) ?_)
  ·rintro x c B3 UG R8 ⟨rfl,l,u,rfl,q1,q2,q3,q4,q5⟩;dsimp only;by_cases Kk:l≥u
   ·rw[if_pos Kk];exact wpS_pure ⟨rfl,l,u,rfl,q2,fun i hi=>q4 i (by lia),q5⟩
   ·rw[if_neg Kk];refine wpS_bind (beyond (l+(u-l) / 2) _ (by lia) ?_);dsimp only;cases hb:Bf r left key xs (base+(l+(u-l) / 2))with
    |true=>
     rw[if_pos rfl];exact wpS_pure ⟨rfl,_,_,rfl,by lia,by lia,by lia,fun i hi=>mono i (l+(u-l) / 2) (by lia) (by lia) hb,q5⟩
    |false=>
     rw[if_neg (by decide)];exact wpS_pure ⟨rfl,_,_,rfl,by lia,by lia,by lia,q4,fun i z1 z2=>T6 (l+(u-l) / 2) i z1 z2 hb⟩
  ·rintro c B3 ⟨rfl,l,u,rfl,q1,q2,q3,q4,q5⟩;exact⟨rfl,l,u,rfl,q2,fun i hi=>q4 i (by lia),q5⟩
  ·rintro c B3 ⟨rfl,l,u,rfl,q2,q4,q5⟩;exact wpS_pure (h u q2 q4 q5)
 |false=>
  rw[if_neg (by decide)];refine wpS_bind (wpS_mono (wpS_forRange (I:=fun x c AX=>AX=st/\∃la o,c=(none,la,o)/\la<o/\x+1<=o/\la<hint+1/\Bf r left key xs (base+(hint-la))=false)
   (Q:=fun c AX=>AX=st/\∃la o,c=(none,la,o)/\la<o/\la<hint+1/\Bf r left key xs (base+(hint-la))=false/\(hint+1<=o\/Bf r left key xs (base+(hint-o))=true)) ?_ ?_ ⟨rfl,0,1,rfl,by lia,by lia,by lia,hr⟩) ?_)
  ·rintro x c AX UG R8 ⟨rfl,la,o,rfl,g1,g2,g3,g4⟩;dsimp only;by_cases Kk:o≥hint+1
   ·rw[if_pos Kk];exact wpS_pure ⟨rfl,la,o,rfl,g1,g3,g4,.inl Kk⟩
   ·rw[if_neg Kk];refine wpS_bind (beyond (hint-o) _ (by lia) ?_);dsimp only;cases hb:Bf r left key xs (base+(hint-o))with
    |true=>
     rw[if_pos rfl];exact wpS_pure ⟨rfl,la,o,rfl,g1,g3,g4,.inr hb⟩
    |false=>
     rw[if_neg (by decide)];exact wpS_pure ⟨rfl,o,2*o+1,rfl,by lia,by lia,by lia,hb⟩
  ·rintro c AX ⟨rfl,la,o,rfl,g1,g2,g3,g4⟩;exact⟨rfl,la,o,rfl,g1,g3,g4,.inl (by lia)⟩
  rintro c AX ⟨rfl,la,o,rfl,g1,g3,g4,g5⟩;dsimp only;have t1:∀i,i<hint+1-min o (hint+1)->Bf r left key xs (base+i)=true:=fun i hi=>by
   rcases g5 with z|z
   ·lia
   ·exact mono i (hint-o) (by lia) (by lia) z
  have t2:∀i,hint-la<=i->i<n->Bf r left key xs (base+i)=false:=fun i q1 q2=>T6 (hint-la) i q1 q2 g4;refine wpS_bind (wpS_mono (wpS_forRange (I:=fun x c B3=>B3=AX/\∃l u,c=(none,l,u)/\l<=u/\u<=n/\u-l<=n-x/\(∀i,i<l->Bf r left key xs (base+i)=true)/\∀i,u<=i->i<n->Bf r left key xs (base+i)=false)
   (Q:=fun c B3=>B3=AX/\∃l u,c=(none,l,u)/\u<=n/\(∀i,i<u->Bf r left key xs (base+i)=true)/\∀i,u<=i->i<n->Bf r left key xs (base+i)=false) ?_ ?_ ⟨rfl,_,_,rfl,by lia,by lia,by lia,t1,t2⟩) ?_)
  ·rintro x c B3 UG R8 ⟨rfl,l,u,rfl,q1,q2,q3,q4,q5⟩;dsimp only;by_cases Kk:l≥u
   ·rw[if_pos Kk];exact wpS_pure ⟨rfl,l,u,rfl,q2,fun i hi=>q4 i (by lia),q5⟩
   ·rw[if_neg Kk];refine wpS_bind (beyond (l+(u-l) / 2) _ (by lia) ?_);dsimp only;cases hb:Bf r left key xs (base+(l+(u-l) / 2))with
    |true=>
     rw[if_pos rfl];exact wpS_pure ⟨rfl,_,_,rfl,by lia,by lia,by lia,fun i hi=>mono i (l+(u-l) / 2) (by lia) (by lia) hb,q5⟩
    |false=>
     rw[if_neg (by decide)];exact wpS_pure ⟨rfl,_,_,rfl,by lia,by lia,by lia,q4,fun i z1 z2=>T6 (l+(u-l) / 2) i z1 z2 hb⟩
  ·rintro c B3 ⟨rfl,l,u,rfl,q1,q2,q3,q4,q5⟩;exact⟨rfl,l,u,rfl,q2,fun i hi=>q4 i (by lia),q5⟩
  ·rintro c B3 ⟨rfl,l,u,rfl,q2,q4,q5⟩;exact wpS_pure (h u q2 q4 q5)
def le(r:Keyed->Nat)(x y:Keyed):Prop:=r x<=r y
abbrev Srt(r:Keyed->Nat)(l:List Keyed):Prop:=l.Pairwise (le r)
theorem ED{xs:Array Keyed}{i:Nat}{p:Keyed}(h:xs.toList[i]?=some p):Rk r xs i=r p:=TQ (by rw[<-Array.getElem?_toList];exact h)
theorem cJ{xs:Array Keyed}{base n:Nat}(hsz:base+n<=xs.size)(h:Srt r ((xs.toList.drop base).take n)):Up r xs base (base+n):=by
 intro i j g1 g2 g3;by_cases e:i=j
 ·subst e;exact Nat.le_refl _
 have hl:xs.toList.length=xs.size:=Array.length_toList;have hi:((xs.toList.drop base).take n)[i-base]?=some (xs.toList[i]'(by lia)):=by
  rw[List.getElem?_take,if_pos (by lia),List.getElem?_drop,show base+(i-base)=i by lia,List.getElem?_eq_getElem]
 have hj:((xs.toList.drop base).take n)[j-base]?=some (xs.toList[j]'(by lia)):=by
  rw[List.getElem?_take,if_pos (by lia),List.getElem?_drop,show base+(j-base)=j by lia,List.getElem?_eq_getElem]
 obtain⟨kC,rQ⟩:=List.getElem?_eq_some_iff.mp hi;obtain⟨gV,jR⟩:=List.getElem?_eq_some_iff.mp hj
 have:=List.pairwise_iff_getElem.mp h (i-base) (j-base) kC gV (by lia)
 rw[rQ,jR]at this;rw[ED (List.getElem?_eq_getElem (show i<xs.toList.length by lia)),ED (List.getElem?_eq_getElem (show j<xs.toList.length by lia))];exact this
theorem G8(hc:CmpOk prog w A s a₀ r k0){st:SortSt}(hB:SB a₀ k0 st){key:Keyed}{xs:Array Keyed}{base n hint:Nat}(hk:key∈a₀.toList)(hx:∀p∈xs.toList,p∈a₀.toList)(hsz:base+n<=xs.size)(hh:hint<n)(hS:Srt r ((xs.toList.drop base).take n)){Q:Option Nat->SortSt->Prop}(h:∀k,k<=n->(∀c∈(xs.toList.drop base).take k,r c<=r key)->(∀c∈((xs.toList.drop base).take n).drop k,r key<r c)->Q (some k) st):wpS (model prog w) A E s (Kq false key xs base n hint) Q st:=by
 refine Li hc hB hk hx hsz hh (cJ hsz hS) fun k Hc h1 h2=>h k Hc (fun c UM=>?_) fun c UM=>?_
 ·obtain⟨i,hi⟩:=List.mem_iff_getElem?.mp UM;rw[List.getElem?_take]at hi;split at hi
  ·rename_i A6;rw[List.getElem?_drop]at hi
   have:=h1 i A6
   unfold Bf at this;rw[ED hi]at this;simp at this;exact this
  ·cases hi
 ·obtain⟨i,hi⟩:=List.mem_iff_getElem?.mp UM;rw[List.getElem?_drop,List.getElem?_take]at hi;split at hi
  ·rename_i A6;rw[List.getElem?_drop]at hi
   have:=h2 (k+i) (by lia) A6
   unfold Bf at this;rw[ED hi]at this;simp at this;exact this
  ·cases hi
theorem GJ(hc:CmpOk prog w A s a₀ r k0){st:SortSt}(hB:SB a₀ k0 st){key:Keyed}{xs:Array Keyed}{base n hint:Nat}(hk:key∈a₀.toList)(hx:∀p∈xs.toList,p∈a₀.toList)(hsz:base+n<=xs.size)(hh:hint<n)(hS:Srt r ((xs.toList.drop base).take n)){Q:Option Nat->SortSt->Prop}(h:∀k,k<=n->(∀c∈(xs.toList.drop base).take k,r c<r key)->(∀c∈((xs.toList.drop base).take n).drop k,r key<=r c)->Q (some k) st):wpS (model prog w) A E s (Kq true key xs base n hint) Q st:=by
 refine Li hc hB hk hx hsz hh (cJ hsz hS) fun k Hc h1 h2=>h k Hc (fun c UM=>?_) fun c UM=>?_
 ·obtain⟨i,hi⟩:=List.mem_iff_getElem?.mp UM;rw[List.getElem?_take]at hi;split at hi
  ·rename_i A6;rw[List.getElem?_drop]at hi
   have:=h1 i A6
   unfold Bf at this;rw[ED hi]at this;simpa using this
  ·cases hi
 ·obtain⟨i,hi⟩:=List.mem_iff_getElem?.mp UM;rw[List.getElem?_drop,List.getElem?_take]at hi;split at hi
  ·rename_i A6;rw[List.getElem?_drop]at hi
   have:=h2 (k+i) (by lia) A6
   unfold Bf at this;rw[ED hi]at this;simpa using this
  ·cases hi
theorem Qi{out C LA LB:List Keyed}(h1:Srt r (out++LA))(h2:Srt r (out++(C++LB)))(h3:∀c∈C,∀y∈LA,r c<=r y):Srt r ((out++C)++LA)/\Srt r ((out++C)++LB):=by
 constructor
 ·rw[List.append_assoc];obtain⟨a1,a2,a3⟩:=List.pairwise_append.mp h1;obtain⟨b1,b2,b3⟩:=List.pairwise_append.mp h2;obtain⟨c1,c2,c3⟩:=List.pairwise_append.mp b2;refine List.pairwise_append.mpr ⟨a1,List.pairwise_append.mpr ⟨c1,a2,h3⟩,fun x hx y hy=>?_⟩;rcases List.mem_append.mp hy with hy|hy
  ·exact b3 x hx y (List.mem_append_left _ hy)
  ·exact a3 x hx y hy
 ·rw[List.append_assoc];exact h2
structure ML (r:Keyed->Nat) (la lb out:List Keyed) (ia ib:Nat):Prop where
 perm:out.Perm (la.take ia++lb.take ib)
 sa:Srt r (out++la.drop ia)
 sb:Srt r (out++lb.drop ib)
theorem ML.pushB{la lb out:List Keyed}{ia ib k:Nat}(h:ML r la lb out ia ib)(hle:∀c∈(lb.drop ib).take k,∀y∈la.drop ia,r c<=r y):ML r la lb (out++(lb.drop ib).take k) ia (ib+k):=by
 have e:(lb.drop ib).take k++lb.drop (ib+k)=lb.drop ib:=by rw[<-List.drop_drop,List.take_append_drop]
 obtain⟨p1,p2⟩:=Qi (C:=(lb.drop ib).take k) (LB:=lb.drop (ib+k)) h.sa (by rw[e];exact h.sb) hle;refine⟨?_,p1,p2⟩;rw[List.take_add,<-List.append_assoc];exact h.perm.append_right _
theorem ML.pushA{la lb out:List Keyed}{ia ib k:Nat}(h:ML r la lb out ia ib)(hle:∀c∈(la.drop ia).take k,∀y∈lb.drop ib,r c<=r y):ML r la lb (out++(la.drop ia).take k) (ia+k) ib:=by
 have e:(la.drop ia).take k++la.drop (ia+k)=la.drop ia:=by rw[<-List.drop_drop,List.take_append_drop]
 obtain⟨p1,p2⟩:=Qi (C:=(la.drop ia).take k) (LB:=la.drop (ia+k)) h.sb (by rw[e];exact h.sa) hle;refine⟨?_,p2,p1⟩;rw[List.take_add,List.append_assoc];refine(h.perm.append_right _).trans ?_;rw[List.append_assoc];exact List.Perm.append_left _ List.perm_append_comm
structure Mg (r:Keyed->Nat) (la lb out:List Keyed):Prop where
 perm:out.Perm (la++lb)
 srt:Srt r out
theorem ML.doneB{la lb out:List Keyed}{ia ib:Nat}(h:ML r la lb out ia ib)(hb:lb.length<=ib):Mg r la lb (out++la.drop ia++lb.drop ib):=by
 have e:lb.drop ib=[]:=List.drop_eq_nil_of_le hb;rw[e,List.append_nil];refine⟨?_,h.sa⟩
 have:=h.perm.append_right (la.drop ia)
 rw[List.take_of_length_le hb]at this;refine this.trans ?_;rw[List.append_assoc];refine(List.Perm.append_left _ List.perm_append_comm).trans ?_;rw[<-List.append_assoc,List.take_append_drop]
theorem ML.doneA{la lb out:List Keyed}{ia ib:Nat}(h:ML r la lb out ia ib)(ha:la.length<=ia):Mg r la lb (out++la.drop ia++lb.drop ib):=by
 have e:la.drop ia=[]:=List.drop_eq_nil_of_le ha;rw[e,List.append_nil];refine⟨?_,h.sb⟩
 have:=h.perm.append_right (lb.drop ib)
 rw[List.take_of_length_le ha]at this;refine this.trans ?_;rw[List.append_assoc,List.take_append_drop]
theorem ML.lastA{la lb out:List Keyed}{ia ib:Nat}(h:ML r la lb out ia ib)(ha:ia+1=la.length)(hl:∀x,la[la.length-1]?=some x->∀y∈lb,r y<=r x):Mg r la lb (out++lb.drop ib++la.drop ia):=by
 have hd:∀x∈la.drop ia,∀y∈lb,r y<=r x:=fun x hx=>by
  obtain⟨i,hi⟩:=List.mem_iff_getElem?.mp hx;rw[List.getElem?_drop]at hi
  have:=(List.getElem?_eq_some_iff.mp hi).1
  have e:ia+i=la.length-1:=by lia
  rw[e]at hi;exact hl x hi
 constructor
 ·have:=(h.perm.append_right (lb.drop ib)).append_right (la.drop ia)
  refine this.trans ?_;rw[List.append_assoc,List.append_assoc,<-List.append_assoc (lb.take ib),List.take_append_drop];refine(List.Perm.append_left _ List.perm_append_comm).trans ?_;rw[<-List.append_assoc,List.take_append_drop]
 ·obtain⟨a1,a2,a3⟩:=List.pairwise_append.mp h.sa;obtain⟨b1,b2,b3⟩:=List.pairwise_append.mp h.sb;refine List.pairwise_append.mpr ⟨h.sb,a2,fun x hx y hy=>?_⟩;rcases List.mem_append.mp hx with hx|hx
  ·exact a3 x hx y hy
  ·exact hd y hy x (List.mem_of_mem_drop hx)
structure Gl (a₀:Array Keyed) (k0:SortKind) (st AX:SortSt):Prop where
 base:SB a₀ k0 AX
 arr:arrOf AX=arrOf st
 pend:pendingOf AX=pendingOf st
theorem Gl.refl{st:SortSt}(h:SB a₀ k0 st):Gl a₀ k0 st st:=⟨h,rfl,rfl⟩
theorem Er(a:Array Keyed)(i:Nat):(a.extract i).toList=a.toList.drop i:=by simp[List.take_of_length_le]
theorem GX(a:Array Keyed)(i k:Nat):(a.extract i (i+k)).toList=(a.toList.drop i).take k:=by simp
theorem J1{a:Array Keyed}{i:Nat}(h:i<a.size):∃p,a[i]?=some p/\a.toList[i]?=some p/\p∈a.toList/\a.toList.drop i=p::a.toList.drop (i+1):=by
 have hl:i<a.toList.length:=by rw[Array.length_toList];exact h
 refine⟨a.toList[i],?_,List.getElem?_eq_getElem hl,List.getElem_mem hl,List.drop_eq_getElem_cons hl⟩;rw[<-Array.getElem?_toList];exact List.getElem?_eq_getElem hl
theorem HR{X Y:List Keyed}(h:Srt r (X++Y)):Srt r Y:=(List.pairwise_append.mp h).2.1
structure Hid (P:Prop):Prop where
 h:P
theorem Ji{P Q:Prop}(c:Hid P->Q)(k:P):Q:=c ⟨k⟩
theorem PW(hc:CmpOk prog w A s a₀ r k0){st:SortSt}(hB:SB a₀ k0 st){a b:Array Keyed}(ha:∀p∈a.toList,p∈a₀.toList)(hb:∀p∈b.toList,p∈a₀.toList)(sa:Srt r a.toList)(sb:Srt r b.toList)(za:1<=a.size)(zb:1<=b.size)(hf:∀x y,a[0]?=some x->b[0]?=some y->r y<=r x)(hl:∀x,a.toList[a.toList.length-1]?=some x->∀y∈b.toList,r y<=r x){Q:Array Keyed->SortSt->Prop}(h:∀out AX,Mg r a.toList b.toList out.toList->Gl a₀ k0 st AX->Q out AX):wpS (model prog w) A E s (QF a b) Q st:=by
 unfold QF;refine wpS_bind (wpS_lift (wpAny_rule ⟨rfl,?_⟩));have jO:a.toList.length=a.size:=Array.length_toList;have qg:b.toList.length=b.size:=Array.length_toList;obtain⟨y0,oA,sR,tI,kg⟩:=J1 (a:=b) (i:=0) (by lia);obtain⟨x0,ee,UG,R8,iY⟩:=J1 (a:=a) (i:=0) (by lia);rw[List.drop_zero]at kg iY;have lU:ML r a.toList b.toList (#[y0]:Array Keyed).toList 0 1:=by
  refine⟨?_,?_,?_⟩
  ·rw[kg];simp
  ·show Srt r ([y0]++a.toList.drop 0);rw[List.drop_zero];refine List.pairwise_append.mpr ⟨List.pairwise_singleton _ _,sa,fun u hu v hv=>?_⟩;rw[List.mem_singleton.mp hu];have h0:=hf x0 y0 ee oA;rw[iY]at hv sa;rcases List.mem_cons.mp hv with rfl|hv
   ·exact h0
   ·exact Nat.le_trans h0 ((List.pairwise_cons.mp sa).1 v hv)
  ·show Srt r ([y0]++b.toList.drop 1);have:[y0]++b.toList.drop (0+1)=b.toList:=kg.symm;rw[Nat.zero_add]at this;rw[this];exact sb
 refine wpS_bind (As oA ?_);dsimp only;have OR:∀{out:Array Keyed}{ia ib:Nat},ML r a.toList b.toList out.toList ia ib->b.size<=ib->Mg r a.toList b.toList (out++a.extract ia++b.extract ib).toList:=fun hm hb=>by
  rw[Array.toList_append,Array.toList_append,Er,Er];exact hm.doneB (by lia)
 have fG:∀{out:Array Keyed}{ia ib:Nat},ML r a.toList b.toList out.toList ia ib->a.size<=ia->Mg r a.toList b.toList (out++a.extract ia++b.extract ib).toList:=fun hm hb=>by
  rw[Array.toList_append,Array.toList_append,Er,Er];exact hm.doneA (by lia)
 have Nr:∀{out:Array Keyed}{ia ib:Nat},ML r a.toList b.toList out.toList ia ib->ia+1=a.size->Mg r a.toList b.toList (out++b.extract ib++a.extract ia).toList:=fun hm hb=>by
  rw[Array.toList_append,Array.toList_append,Er,Er];exact hm.lastA (by lia) hl
 have pB:∀{out:Array Keyed}{ia ib:Nat}{p:Keyed},ML r a.toList b.toList out.toList ia ib->b.toList.drop ib=p::b.toList.drop (ib+1)->(∀y∈a.toList.drop ia,r p<=r y)->ML r a.toList b.toList (out.push p).toList ia (ib+1):=fun {out ia ib p} hm hd hle=>by
  have:=hm.pushB (k:=1) (fun c hc y hy=>by rw[hd]at hc;simp at hc;subst hc;exact hle y hy)
  rw[hd]at this;rw[Array.toList_push];simpa using this
 have pA:∀{out:Array Keyed}{ia ib:Nat}{p:Keyed},ML r a.toList b.toList out.toList ia ib->a.toList.drop ia=p::a.toList.drop (ia+1)->(∀y∈b.toList.drop ib,r p<=r y)->ML r a.toList b.toList (out.push p).toList (ia+1) ib:=fun {out ia ib p} hm hd hle=>by
  have:=hm.pushA (k:=1) (fun c hc y hy=>by rw[hd]at hc;simp at hc;subst hc;exact hle y hy)
  rw[hd]at this;rw[Array.toList_push];simpa using this
 by_cases hb1:1=b.size
 ·rw[if_pos (by simpa using hb1)];exact wpS_pure (h _ _ (OR lU (by lia)) (Gl.refl hB))
 rw[if_neg (by simpa using hb1)];by_cases ZG:0+1=a.size
 ·rw[if_pos (by simpa using ZG)];exact wpS_pure (h _ _ (Nr lU ZG) (Gl.refl hB))
 rw[if_neg (by simpa using ZG)];refine wpS_bind (wpS_get ?_);refine wpS_bind (wpS_mono (wpS_forRange (I:=fun x c AX=>∃out ia ib mg,c=(none,out,ia,ib,mg)/\Gl a₀ k0 st AX/\ML r a.toList b.toList out.toList ia ib/\ia+1<a.size/\ib<b.size/\x+1<=ia+ib)
  (Q:=fun c AX=>∃res rest,c=(some res,rest)/\Gl a₀ k0 st AX/\Mg r a.toList b.toList res.toList) ?_ ?_ ⟨_,_,_,_,rfl,Gl.refl hB,lU,by lia,by lia,by lia⟩) ?_)
 rotate_left
 ·rintro c AX ⟨out,ia,ib,mg,rfl,hG,hM,g1,g2,g3⟩;lia
 ·rintro c AX ⟨res,rest,rfl,hG,hM⟩;exact wpS_pure (h res AX hM hG)
 rintro x c B3 _ _ ⟨out,ia,ib,mg,rfl,hG,hM,g1,g2,g3⟩;dsimp only;refine wpS_bind (wpS_mono (wpS_forRange (I:=fun y c AX=>∃GF UU Ua ac bc,c=(none,GF,UU,Ua,ac,bc)/\Gl a₀ k0 st AX/\ML r a.toList b.toList GF.toList UU Ua/\UU+1<a.size/\Ua<b.size/\ia+ib+y<=UU+Ua)
  (Q:=fun c AX=>(∃GF UU Ua ac bc,c=(none,GF,UU,Ua,ac,bc)/\Gl a₀ k0 st AX/\ML r a.toList b.toList GF.toList UU Ua/\UU+1<a.size/\Ua<b.size/\ia+ib+1<=UU+Ua)\/∃res rest,c=(some res,rest)/\Gl a₀ k0 st AX/\Mg r a.toList b.toList res.toList) ?_ ?_ ⟨_,_,_,_,_,rfl,hG,hM,g1,g2,by lia⟩) ?_)
 ·rintro y c DA _ _ ⟨GF,UU,Ua,ac,bc,rfl,Fo,hM1,q1,q2,q3⟩;obtain⟨u,DN,fN,RS,WB⟩:=J1 (a:=b) (i:=Ua) q2;obtain⟨v,Yl,iB,cZ,VI⟩:=J1 (a:=a) (i:=UU) (by lia);dsimp only;refine wpS_bind (As DN (wpS_bind (As Yl (wpS_bind (LL hc Fo.base (hb u RS) (ha v cZ) ?_)))));dsimp only;have Yy:=HR hM1.sa;have Y6:=HR hM1.sb;rw[VI]at Yy;rw[WB]at Y6;by_cases A6:r u<r v
  ·rw[decide_eq_true A6,if_pos rfl];refine wpS_bind (As DN ?_);have hM2:=pB hM1 WB (fun z hz=>by
    rw[VI]at hz;rcases List.mem_cons.mp hz with rfl|hz
    ·lia
    ·exact Nat.le_trans (Nat.le_of_lt A6) ((List.pairwise_cons.mp Yy).1 z hz))
   try dsimp only
   by_cases e1:Ua+1=b.size
   ·rw[if_pos (by simpa using e1)];exact wpS_pure (.inr ⟨_,_,rfl,Fo,OR hM2 (by lia)⟩)
   ·rw[if_neg (by simpa using e1)];by_cases e2:bc+1≥mg
    ·rw[if_pos e2];exact wpS_pure (.inl ⟨_,_,_,_,_,rfl,Fo,hM2,q1,by lia,by lia⟩)
    ·rw[if_neg e2];exact wpS_pure ⟨_,_,_,_,_,rfl,Fo,hM2,q1,by lia,by lia⟩
  ·rw[decide_eq_false A6,if_neg (by decide)];refine wpS_bind (As Yl ?_);have hM2:=pA hM1 VI (fun z hz=>by
    rw[WB]at hz;rcases List.mem_cons.mp hz with rfl|hz
    ·lia
    ·have:=(List.pairwise_cons.mp Y6).1 z hz
     unfold le at this;lia)
   try dsimp only
   by_cases e1:UU+1+1=a.size
   ·rw[if_pos (by simpa using e1)];exact wpS_pure (.inr ⟨_,_,rfl,Fo,Nr hM2 e1⟩)
   ·rw[if_neg (by simpa using e1)];by_cases e2:ac+1≥mg
    ·rw[if_pos e2];exact wpS_pure (.inl ⟨_,_,_,_,_,rfl,Fo,hM2,by lia,q2,by lia⟩)
    ·rw[if_neg e2];exact wpS_pure ⟨_,_,_,_,_,rfl,Fo,hM2,by lia,q2,by lia⟩
 ·rintro c AX ⟨GF,UU,Ua,ac,bc,rfl,Fo,hM1,q1,q2,q3⟩;lia
 rintro c DA (⟨GF,UU,Ua,ac,bc,rfl,Fo,hM1,q1,q2,q3⟩|⟨res,rest,rfl,Fo,hM1⟩)
 rotate_left
 ·dsimp only;exact wpS_pure ⟨_,_,rfl,Fo,hM1⟩
 dsimp only;refine wpS_bind (wpS_lift (wpAny_rule ⟨rfl,?_⟩));refine wpS_bind (wpS_mono (wpS_forRange (I:=fun y c AX=>∃Cr Hn Ga mg ac bc,c=(none,Cr,Hn,Ga,mg,ac,bc)/\Gl a₀ k0 st AX/\ML r a.toList b.toList Cr.toList Hn Ga/\Hn+1<a.size/\Ga<b.size/\ia+ib+1<=Hn+Ga)
  (Q:=fun c AX=>(∃Cr Hn Ga mg ac bc,c=(none,Cr,Hn,Ga,mg,ac,bc)/\Gl a₀ k0 st AX/\ML r a.toList b.toList Cr.toList Hn Ga/\Hn+1<a.size/\Ga<b.size/\ia+ib+1<=Hn+Ga)\/∃res rest,c=(some res,rest)/\Gl a₀ k0 st AX/\Mg r a.toList b.toList res.toList) ?_ ?_ ⟨_,_,_,_,_,_,rfl,Fo,hM1,q1,q2,q3⟩) ?_)
 ·rintro y c He _ _ ⟨Cr,Hn,Ga,Wu,iP,gr,rfl,Ey,hM2,w1,w2,w3⟩;obtain⟨u,DN,fN,RS,WB⟩:=J1 (a:=b) (i:=Ga) w2;dsimp only;have Nh:∀g,Gl a₀ k0 st (SortSt.mk' (kindOf He) (arrOf He) (pendingOf He) g (failedOf He)):=fun g=>⟨⟨Ey.base.perm,Ey.base.kind,Ey.base.failed⟩,Ey.arr,Ey.pend⟩;apply Ji
  ·intro key;by_cases Ry:Wu > 1
   ·rw[if_pos Ry];clear Ry;generalize Wu-1=g;revert g;exact key.h
   ·rw[if_neg Ry];clear Ry;generalize Wu=g;revert g;exact key.h
  intro g;apply Ji;intro key;refine wpS_bind (wpS_modify ?_);refine wpS_bind (As DN (wpS_bind (G8 (base:=Hn) (n:=a.size-Hn) (hint:=0) hc (Nh _).base (hb u RS) ha (by lia) (by lia) (by rw[List.take_of_length_le (by simp)];exact HR hM2.sa) fun k hk Rt Iq=>?_)));dsimp only;have fh:(a.toList.drop Hn).take (a.size-Hn)=a.toList.drop Hn:=List.take_of_length_le (by simp);rw[fh,List.drop_drop]at Iq;have Y6:=HR hM2.sb;rw[WB]at Y6;have hM3:=hM2.pushA (k:=k) fun c hc z hz=>by
   have e1:=Rt c hc;rw[WB]at hz;rcases List.mem_cons.mp hz with ez|hz
   ·rw[ez];exact e1
   ·exact Nat.le_trans e1 ((List.pairwise_cons.mp Y6).1 z hz)
  have eo:(Cr++a.extract Hn (Hn+k)).toList=Cr.toList++(a.toList.drop Hn).take k:=by rw[Array.toList_append,GX]
  rw[<-eo]at hM3
  ·by_cases hk0:k > 0
   ·rw[if_pos hk0];by_cases e1:Hn+k+1=a.size
    ·rw[if_pos (by simpa using e1)];exact wpS_pure (.inr ⟨_,_,rfl,Nh _,Nr hM3 e1⟩)
    rw[if_neg (by simpa using e1)];by_cases e2:Hn+k=a.size
    ·rw[if_pos (by simpa using e2)];exact wpS_pure (.inr ⟨_,_,rfl,Nh _,fG hM3 (by lia)⟩)
    rw[if_neg (by simpa using e2)];have ag:Hn+k+1<a.size/\ia+ib+1<=Hn+k+Ga:=by lia
    revert hM3 ag Iq;generalize Cr++a.extract Hn (Hn+k)=EU;generalize Hn+k=cD;generalize k=Zv;revert EU cD Zv;exact key.h
   ·rw[if_neg hk0];have WG:k=0:=by lia
    have ag:Hn+1<a.size/\ia+ib+1<=Hn+Ga:=by lia
    have j4:Cr++a.extract Hn (Hn+0)=Cr:=Array.toList_inj.mp (by rw[Array.toList_append,GX];simp);rw[WG,j4,Nat.add_zero]at hM3;rw[WG,Nat.add_zero]at Iq;revert hM3 ag Iq;generalize Cr=EU;generalize Hn=cD;generalize k=Zv;revert EU cD Zv;exact key.h
  intro EU cD Zv Iq hM3 ag;refine wpS_bind (As DN ?_);have hM4:=pB hM3 WB (fun z hz=>Nat.le_of_lt (Iq z hz));by_cases e3:Ga+1=b.size
  ·rw[if_pos (by simpa using e3)];exact wpS_pure (.inr ⟨_,_,rfl,Nh _,OR hM4 (by lia)⟩)
  rw[if_neg (by simpa using e3)];obtain⟨v,Yl,iB,cZ,VI⟩:=J1 (a:=a) (i:=cD) (by lia);apply Ji;intro key;refine wpS_bind (As Yl (wpS_bind (GJ (base:=Ga+1) (n:=b.size-(Ga+1)) (hint:=0) hc (Nh _).base (ha v cZ) hb (by lia) (by lia) (by rw[List.take_of_length_le (by simp)];exact HR hM4.sb) fun k' Hc QT Nk=>?_)));dsimp only;have kH:(b.toList.drop (Ga+1)).take (b.size-(Ga+1))=b.toList.drop (Ga+1):=List.take_of_length_le (by simp);rw[kH,List.drop_drop]at Nk;have Yy:=HR hM4.sa;rw[VI]at Yy;have hM5:=hM4.pushB (k:=k') fun c hc z hz=>by
   have e1:=QT c hc;rw[VI]at hz;rcases List.mem_cons.mp hz with ez|hz
   ·rw[ez];exact Nat.le_of_lt e1
   ·exact Nat.le_trans (Nat.le_of_lt e1) ((List.pairwise_cons.mp Yy).1 z hz)
  have kX:(EU.push u++b.extract (Ga+1) (Ga+1+k')).toList=(EU.push u).toList++(b.toList.drop (Ga+1)).take k':=by rw[Array.toList_append,GX]
  rw[<-kX]at hM5
  ·by_cases hk0':k' > 0
   ·rw[if_pos hk0'];by_cases e4:Ga+1+k'=b.size
    ·rw[if_pos (by simpa using e4)];exact wpS_pure (.inr ⟨_,_,rfl,Nh _,OR hM5 (by lia)⟩)
    rw[if_neg (by simpa using e4)];have Y5:Ga+1+k'<b.size/\ia+ib+1<=cD+(Ga+1+k'):=by lia
    revert hM5 Y5 Nk;generalize EU.push u++b.extract (Ga+1) (Ga+1+k')=N0;generalize Ga+1+k'=jT;generalize k'=bR;revert N0 jT bR;exact key.h
   ·rw[if_neg hk0'];have WG:k'=0:=by lia
    have Y5:Ga+1<b.size/\ia+ib+1<=cD+(Ga+1):=by lia
    have d6:EU.push u++b.extract (Ga+1) (Ga+1+0)=EU.push u:=Array.toList_inj.mp (by rw[Array.toList_append,GX];simp);rw[WG,d6,Nat.add_zero]at hM5;rw[WG,Nat.add_zero]at Nk;revert hM5 Y5 Nk;generalize EU.push u=N0;generalize Ga+1=jT;generalize k'=bR;revert N0 jT bR;exact key.h
  intro N0 jT bR Nk hM5 Y5;refine wpS_bind (As Yl ?_);have dB:=pA hM5 VI (fun z hz=>Nk z hz);by_cases e5:cD+1+1=a.size
  ·rw[if_pos (by simpa using e5)];exact wpS_pure (.inr ⟨_,_,rfl,Nh _,Nr dB e5⟩)
  rw[if_neg (by simpa using e5)];split
  ·exact wpS_pure (.inl ⟨_,_,_,_,_,_,rfl,Nh _,dB,by lia,Y5.1,by lia⟩)
  ·exact wpS_pure ⟨_,_,_,_,_,_,rfl,Nh _,dB,by lia,Y5.1,by lia⟩
 ·rintro c AX ⟨Cr,Hn,Ga,Wu,iP,gr,rfl,Ey,hM2,w1,w2,w3⟩;exact .inl ⟨_,_,_,_,_,_,rfl,Ey,hM2,w1,w2,w3⟩
 ·rintro c He (⟨Cr,Hn,Ga,Wu,iP,gr,rfl,Ey,hM2,w1,w2,w3⟩|⟨res,rest,rfl,Ey,hM2⟩)
  ·dsimp only;refine wpS_bind (wpS_modify (wpS_pure ⟨_,_,_,_,rfl,⟨⟨Ey.base.perm,Ey.base.kind,Ey.base.failed⟩,Ey.arr,Ey.pend⟩,hM2,w1,w2,by lia⟩))
  ·dsimp only;exact wpS_pure ⟨_,_,rfl,Ey,hM2⟩
structure MH (r:Keyed->Nat) (la lb O:List Keyed) (na nb:Nat):Prop where
 perm:O.Perm (la.drop na++lb.drop nb)
 sa:Srt r (la.take na++O)
 sb:Srt r (lb.take nb++O)
theorem NQ{X Y C O:List Keyed}(h1:Srt r (Y++O))(h2:Srt r ((X++C)++O))(h3:∀y∈Y,∀c∈C,r y<=r c):Srt r (Y++(C++O))/\Srt r (X++(C++O)):=by
 rw[List.append_assoc]at h2;refine⟨?_,h2⟩;obtain⟨a1,a2,a3⟩:=List.pairwise_append.mp h1;obtain⟨b1,b2,b3⟩:=List.pairwise_append.mp h2;refine List.pairwise_append.mpr ⟨a1,b2,fun x hx y hy=>?_⟩;rcases List.mem_append.mp hy with hy|hy
 ·exact h3 x hx y hy
 ·exact a3 x hx y hy
theorem Fl(l:List Keyed){k n:Nat}(h:k<=n):l.take k++(l.take n).drop k=l.take n:=by
 have:=List.take_append_drop k (l.take n)
 rwa [List.take_take,Nat.min_eq_left h]at this
theorem K1(l:List Keyed){k n:Nat}(h:k<=n):(l.take n).drop k++l.drop n=l.drop k:=by
 rw[List.drop_take];have e:l.drop n=(l.drop k).drop (n-k):=by rw[List.drop_drop];congr 1;lia
 rw[e,List.take_append_drop]
theorem MH.pushA{la lb O:List Keyed}{na nb k:Nat}(h:MH r la lb O na nb)(hk:k<=na)(hle:∀y∈lb.take nb,∀c∈(la.take na).drop k,r y<=r c):MH r la lb ((la.take na).drop k++O) k nb:=by obtain⟨p1,p2⟩:=NQ (X:=la.take k) (C:=(la.take na).drop k) h.sb (by rw[Fl la hk];exact h.sa) hle;refine⟨?_,p2,p1⟩;rw[<-K1 la hk,List.append_assoc];exact h.perm.append_left _
theorem MH.pushB{la lb O:List Keyed}{na nb k:Nat}(h:MH r la lb O na nb)(hk:k<=nb)(hle:∀y∈la.take na,∀c∈(lb.take nb).drop k,r y<=r c):MH r la lb ((lb.take nb).drop k++O) na k:=by obtain⟨p1,p2⟩:=NQ (X:=lb.take k) (C:=(lb.take nb).drop k) h.sa (by rw[Fl lb hk];exact h.sb) hle;refine⟨?_,p1,p2⟩;rw[<-K1 lb hk];refine(h.perm.append_left _).trans ?_;rw[<-List.append_assoc,<-List.append_assoc];exact List.perm_append_comm.append_right _
theorem MH.doneA{la lb O:List Keyed}{nb:Nat}(h:MH r la lb O 0 nb):Mg r la lb (la.take 0++lb.take nb++O):=by rw[List.take_zero,List.nil_append];refine⟨?_,h.sb⟩;refine(h.perm.append_left _).trans ?_;rw[List.drop_zero,<-List.append_assoc];refine(List.perm_append_comm.append_right _).trans ?_;rw[List.append_assoc,List.take_append_drop]
theorem MH.doneB{la lb O:List Keyed}{na:Nat}(h:MH r la lb O na 0):Mg r la lb (la.take na++lb.take 0++O):=by rw[List.take_zero,List.append_nil];refine⟨?_,h.sa⟩;refine(h.perm.append_left _).trans ?_;rw[List.drop_zero,<-List.append_assoc,List.take_append_drop]
theorem MH.firstB{la lb O:List Keyed}{na:Nat}(h:MH r la lb O na 1)(hf:∀y∈lb.take 1,∀x∈la,r y<=r x):Mg r la lb (lb.take 1++la.take na++O):=by
 constructor
 ·rw[List.append_assoc];refine((h.perm.append_left _).append_left _).trans ?_;rw[<-List.append_assoc (la.take na),List.take_append_drop,<-List.append_assoc];refine(List.perm_append_comm.append_right _).trans ?_;rw[List.append_assoc,List.take_append_drop]
 ·rw[List.append_assoc];obtain⟨b1,b2,b3⟩:=List.pairwise_append.mp h.sb;refine List.pairwise_append.mpr ⟨b1,h.sa,fun x hx y hy=>?_⟩;rcases List.mem_append.mp hy with hy|hy
  ·exact hf x hx y (List.mem_of_mem_take hy)
  ·exact b3 x hx y hy
theorem Eh(a:Array Keyed)(n:Nat):(a.extract 0 n).toList=a.toList.take n:=by simp
theorem DT(a:Array Keyed)(k n:Nat):(a.extract k n).toList=(a.toList.take n).drop k:=by simp[List.drop_take]
theorem Gw{a:Array Keyed}{n:Nat}(h:n<a.size):∃p,a[n]?=some p/\p∈a.toList/\(a.toList.take (n+1)).drop n=[p]/\a.toList.take (n+1)=a.toList.take n++[p]:=by
 have hl:n<a.toList.length:=by rw[Array.length_toList];exact h
 refine⟨a.toList[n],?_,List.getElem_mem hl,?_,?_⟩
 ·rw[<-Array.getElem?_toList];exact List.getElem?_eq_getElem hl
 ·rw[List.drop_take,show n+1-n=1 by lia,List.drop_eq_getElem_cons hl];rfl
 ·rw[List.take_add_one,List.getElem?_eq_getElem hl];rfl
theorem QH(hc:CmpOk prog w A s a₀ r k0){st:SortSt}(hB:SB a₀ k0 st){a b:Array Keyed}(ha:∀p∈a.toList,p∈a₀.toList)(hb:∀p∈b.toList,p∈a₀.toList)(sa:Srt r a.toList)(sb:Srt r b.toList)(za:1<=a.size)(zb:1<=b.size)(hf:∀y∈b.toList.take 1,∀x∈a.toList,r y<=r x)(hl:∀x∈a.toList.drop (a.size-1),∀y∈b.toList,r y<=r x){Q:Array Keyed->SortSt->Prop}(h:∀out AX,Mg r a.toList b.toList out.toList->Gl a₀ k0 st AX->Q out AX):wpS (model prog w) A E s (QQ a b) Q st:=by
 unfold QQ;refine wpS_bind (wpS_lift (wpAny_rule ⟨rfl,?_⟩));have jO:a.toList.length=a.size:=Array.length_toList;have qg:b.toList.length=b.size:=Array.length_toList;obtain⟨x0,ee,UG,R8,iY⟩:=Gw (a:=a) (n:=a.size-1) (by lia);rw[show a.size-1+1=a.size by lia,List.take_of_length_le (by lia)]at R8 iY;have lB:MH r a.toList b.toList (#[x0]:Array Keyed).toList.reverse (a.size-1) b.size:=by
  refine⟨?_,?_,?_⟩
  ·rw[R8,List.drop_eq_nil_of_le (by lia)];simp
  ·show Srt r (a.toList.take (a.size-1)++[x0]);rw[<-iY];exact sa
  ·show Srt r (b.toList.take b.size++[x0]);rw[List.take_of_length_le (by lia)];refine List.pairwise_append.mpr ⟨sb,List.pairwise_singleton _ _,fun u hu v hv=>?_⟩;rw[List.mem_singleton.mp hv];exact hl x0 (by rw[R8];simp) u hu
 have OR:∀{out:Array Keyed}{na nb:Nat},MH r a.toList b.toList out.toList.reverse na nb->na=0->Mg r a.toList b.toList (a.extract 0 na++b.extract 0 nb++out.reverse).toList:=fun hm e=>by
  subst e;rw[Array.toList_append,Array.toList_append,Eh,Eh,Array.toList_reverse];exact hm.doneA
 have fG:∀{out:Array Keyed}{na nb:Nat},MH r a.toList b.toList out.toList.reverse na nb->nb=0->Mg r a.toList b.toList (a.extract 0 na++b.extract 0 nb++out.reverse).toList:=fun hm e=>by
  subst e;rw[Array.toList_append,Array.toList_append,Eh,Eh,Array.toList_reverse];exact hm.doneB
 have Nr:∀{out:Array Keyed}{na nb:Nat},MH r a.toList b.toList out.toList.reverse na nb->nb=1->Mg r a.toList b.toList (b.extract 0 nb++a.extract 0 na++out.reverse).toList:=fun hm e=>by
  subst e;rw[Array.toList_append,Array.toList_append,Eh,Eh,Array.toList_reverse];exact hm.firstB hf
 have pA:∀{out:Array Keyed}{na nb:Nat}{p:Keyed},MH r a.toList b.toList out.toList.reverse (na+1) nb->(a.toList.take (na+1)).drop na=[p]->(∀y∈b.toList.take nb,r y<=r p)->MH r a.toList b.toList (out.push p).toList.reverse na nb:=fun {out na nb p} hm hd hle=>by
  have:=hm.pushA (k:=na) (by lia) (fun y hy c hc=>by rw[hd]at hc;rw[List.mem_singleton.mp hc];exact hle y hy)
  rw[hd]at this;rw[Array.toList_push,List.reverse_append];exact this
 have pB:∀{out:Array Keyed}{na nb:Nat}{p:Keyed},MH r a.toList b.toList out.toList.reverse na (nb+1)->(b.toList.take (nb+1)).drop nb=[p]->(∀y∈a.toList.take na,r y<=r p)->MH r a.toList b.toList (out.push p).toList.reverse na nb:=fun {out na nb p} hm hd hle=>by
  have:=hm.pushB (k:=nb) (by lia) (fun y hy c hc=>by rw[hd]at hc;rw[List.mem_singleton.mp hc];exact hle y hy)
  rw[hd]at this;rw[Array.toList_push,List.reverse_append];exact this
 refine wpS_bind (As ee ?_);dsimp only;by_cases ZG:a.size-1=0
 ·rw[if_pos (by simpa using ZG)];exact wpS_pure (h _ _ (OR lB ZG) (Gl.refl hB))
 rw[if_neg (by simpa using ZG)];by_cases hb1:b.size=1
 ·rw[if_pos (by simpa using hb1)];exact wpS_pure (h _ _ (Nr lB hb1) (Gl.refl hB))
 rw[if_neg (by simpa using hb1)];refine wpS_bind (wpS_get ?_);refine wpS_bind (wpS_mono (wpS_forRange (I:=fun x c AX=>∃na nb out mg,c=(none,na,nb,out,mg)/\Gl a₀ k0 st AX/\MH r a.toList b.toList out.toList.reverse na nb/\1<=na/\2<=nb/\na<a.size/\nb<=b.size/\na+nb+x+1<=a.size+b.size)
  (Q:=fun c AX=>∃res rest,c=(some res,rest)/\Gl a₀ k0 st AX/\Mg r a.toList b.toList res.toList) ?_ ?_ ⟨_,_,_,_,rfl,Gl.refl hB,lB,by lia,by lia,by lia,by lia,by lia⟩) ?_)
 rotate_left
 ·rintro c AX ⟨na,nb,out,mg,rfl,hG,hM,g1,g2,g3,g4,g5⟩;lia
 ·rintro c AX ⟨res,rest,rfl,hG,hM⟩;exact wpS_pure (h res AX hM hG)
 rintro x c B3 _ _ ⟨na,nb,out,mg,rfl,hG,hM,g1,g2,g3,g4,g5⟩;dsimp only;refine wpS_bind (wpS_mono (wpS_forRange (I:=fun y c AX=>∃RF RE GF ac bc,c=(none,RF,RE,GF,ac,bc)/\Gl a₀ k0 st AX/\MH r a.toList b.toList GF.toList.reverse RF RE/\1<=RF/\2<=RE/\RF<a.size/\RE<=b.size/\RF+RE+y<=na+nb)
  (Q:=fun c AX=>(∃RF RE GF ac bc,c=(none,RF,RE,GF,ac,bc)/\Gl a₀ k0 st AX/\MH r a.toList b.toList GF.toList.reverse RF RE/\1<=RF/\2<=RE/\RF<a.size/\RE<=b.size/\RF+RE+1<=na+nb)\/∃res rest,c=(some res,rest)/\Gl a₀ k0 st AX/\Mg r a.toList b.toList res.toList) ?_ ?_ ⟨_,_,_,_,_,rfl,hG,hM,g1,g2,g3,g4,by lia⟩) ?_)
 ·rintro y c DA _ _ ⟨RF,RE,GF,ac,bc,rfl,Fo,hM1,q1,q2,q3,q4,q5⟩;obtain⟨n,rfl⟩:∃n,RF=n+1:=⟨RF-1,by lia⟩;obtain⟨m,rfl⟩:∃m,RE=m+1:=⟨RE-1,by lia⟩;obtain⟨u,DN,fN,RS,WB⟩:=Gw (a:=b) (n:=m) (by lia);obtain⟨v,Yl,iB,cZ,VI⟩:=Gw (a:=a) (n:=n) (by lia);dsimp only;simp only[Nat.add_sub_cancel];refine wpS_bind (As DN (wpS_bind (As Yl (wpS_bind (LL hc Fo.base (hb u fN) (ha v iB) ?_)))));dsimp only;have Yy:=(List.pairwise_append.mp hM1.sa).1;have Y6:=(List.pairwise_append.mp hM1.sb).1;rw[VI]at Yy;rw[WB]at Y6;by_cases A6:r u<r v
  ·rw[decide_eq_true A6,if_pos rfl];refine wpS_bind (As Yl ?_);have hM2:=pA hM1 cZ (fun z hz=>by
    rw[WB]at hz;rcases List.mem_append.mp hz with hz|hz
    ·exact Nat.le_trans ((List.pairwise_append.mp Y6).2.2 z hz u (by simp)) (Nat.le_of_lt A6)
    ·rw[List.mem_singleton.mp hz];lia)
   by_cases e1:n=0
   ·rw[if_pos (by simpa using e1)];exact wpS_pure (.inr ⟨_,_,rfl,Fo,OR hM2 e1⟩)
   ·rw[if_neg (by simpa using e1)];by_cases e2:ac+1≥mg
    ·rw[if_pos e2];exact wpS_pure (.inl ⟨_,_,_,_,_,rfl,Fo,hM2,by lia,by lia,by lia,by lia,by lia⟩)
    ·rw[if_neg e2];exact wpS_pure ⟨_,_,_,_,_,rfl,Fo,hM2,by lia,by lia,by lia,by lia,by lia⟩
  ·rw[decide_eq_false A6,if_neg (by decide)];refine wpS_bind (As DN ?_);have hM2:=pB hM1 RS (fun z hz=>by
    rw[VI]at hz;rcases List.mem_append.mp hz with hz|hz
    ·have:=(List.pairwise_append.mp Yy).2.2 z hz v (by simp)
     unfold le at this;lia
    ·rw[List.mem_singleton.mp hz];lia)
   by_cases e1:m=1
   ·rw[if_pos (by simpa using e1)];exact wpS_pure (.inr ⟨_,_,rfl,Fo,Nr hM2 e1⟩)
   ·rw[if_neg (by simpa using e1)];by_cases e2:bc+1≥mg
    ·rw[if_pos e2];exact wpS_pure (.inl ⟨_,_,_,_,_,rfl,Fo,hM2,by lia,by lia,by lia,by lia,by lia⟩)
    ·rw[if_neg e2];exact wpS_pure ⟨_,_,_,_,_,rfl,Fo,hM2,by lia,by lia,by lia,by lia,by lia⟩
 ·rintro c AX ⟨RF,RE,GF,ac,bc,rfl,Fo,hM1,q1,q2,q3,q4,q5⟩;lia
 rintro c DA (⟨RF,RE,GF,ac,bc,rfl,Fo,hM1,q1,q2,q3,q4,q5⟩|⟨res,rest,rfl,Fo,hM1⟩)
 rotate_left
 ·dsimp only;exact wpS_pure ⟨_,_,rfl,Fo,hM1⟩
 dsimp only;refine wpS_bind (wpS_lift (wpAny_rule ⟨rfl,?_⟩));refine wpS_bind (wpS_mono (wpS_forRange (I:=fun y c AX=>∃IY RH Cr mg ac bc,c=(none,IY,RH,Cr,mg,ac,bc)/\Gl a₀ k0 st AX/\MH r a.toList b.toList Cr.toList.reverse IY RH/\1<=IY/\2<=RH/\IY<a.size/\RH<=b.size/\IY+RH+1<=na+nb)
  (Q:=fun c AX=>(∃IY RH Cr mg ac bc,c=(none,IY,RH,Cr,mg,ac,bc)/\Gl a₀ k0 st AX/\MH r a.toList b.toList Cr.toList.reverse IY RH/\1<=IY/\2<=RH/\IY<a.size/\RH<=b.size/\IY+RH+1<=na+nb)\/∃res rest,c=(some res,rest)/\Gl a₀ k0 st AX/\Mg r a.toList b.toList res.toList) ?_ ?_ ⟨_,_,_,_,_,_,rfl,Fo,hM1,q1,q2,q3,q4,q5⟩) ?_)
 ·rintro y c He _ _ ⟨IY,RH,Cr,Wu,iP,gr,rfl,Ey,hM2,w1,w2,w3,w4,w5⟩;obtain⟨m,rfl⟩:∃m,RH=m+1:=⟨RH-1,by lia⟩;obtain⟨u,DN,fN,RS,WB⟩:=Gw (a:=b) (n:=m) (by lia);have Nh:∀g,Gl a₀ k0 st (SortSt.mk' (kindOf He) (arrOf He) (pendingOf He) g (failedOf He)):=fun g=>⟨⟨Ey.base.perm,Ey.base.kind,Ey.base.failed⟩,Ey.arr,Ey.pend⟩;dsimp only;simp only[Nat.add_sub_cancel];apply Ji
  ·intro key;by_cases Ry:Wu > 1
   ·rw[if_pos Ry];clear Ry;generalize Wu-1=g;revert g;exact key.h
   ·rw[if_neg Ry];clear Ry;generalize Wu=g;revert g;exact key.h
  intro g;apply Ji;intro key;refine wpS_bind (wpS_modify ?_);refine wpS_bind (As DN (wpS_bind (G8 (base:=0) (n:=IY) (hint:=IY-1) hc (Nh _).base (hb u fN) ha (by lia) (by lia) (by rw[List.drop_zero];exact(List.pairwise_append.mp hM2.sa).1) fun k hk Rt Iq=>?_)));dsimp only;rw[List.drop_zero]at Rt Iq;have Y6:=(List.pairwise_append.mp hM2.sb).1;rw[WB]at Y6;have hM3:=hM2.pushA (k:=k) hk fun z hz c hc=>by
   have e1:=Iq c hc;rw[WB]at hz;rcases List.mem_append.mp hz with hz|hz
   ·exact Nat.le_trans ((List.pairwise_append.mp Y6).2.2 z hz u (by simp)) (Nat.le_of_lt e1)
   ·rw[List.mem_singleton.mp hz];exact Nat.le_of_lt e1
  have eo:(Cr++(a.extract k IY).reverse).toList.reverse=(a.toList.take IY).drop k++Cr.toList.reverse:=by
   rw[Array.toList_append,List.reverse_append,Array.toList_reverse,List.reverse_reverse,DT]
  rw[<-eo]at hM3
  ·by_cases hk0:IY-k > 0
   ·rw[if_pos hk0];by_cases e1:k=0
    ·rw[if_pos (by simpa using e1)];exact wpS_pure (.inr ⟨_,_,rfl,Nh _,OR hM3 e1⟩)
    rw[if_neg (by simpa using e1)];have ag:1<=k/\k<a.size/\k+(m+1)+1<=na+nb:=by lia
    generalize IY-k=Zv;revert hM3 ag Rt;generalize Cr++(a.extract k IY).reverse=EU;generalize k=fX;revert EU fX Zv;exact key.h
   ·rw[if_neg hk0];have WG:k=IY:=by lia
    have ag:1<=IY/\IY<a.size/\IY+(m+1)+1<=na+nb:=by lia
    have j4:Cr++(a.extract IY IY).reverse=Cr:=Array.toList_inj.mp (by rw[Array.toList_append,Array.toList_reverse,DT];simp);rw[WG,j4]at hM3;rw[WG]at Rt;generalize IY-k=Zv;revert hM3 ag Rt;generalize Cr=EU;generalize IY=fX;revert EU fX Zv;exact key.h
  intro Zv EU fX Rt hM3 ag;refine wpS_bind (As DN ?_);have hM4:=pB hM3 RS (fun z hz=>Rt z hz);by_cases e3:m=1
  ·rw[if_pos (by simpa using e3)];exact wpS_pure (.inr ⟨_,_,rfl,Nh _,Nr hM4 e3⟩)
  rw[if_neg (by simpa using e3)];obtain⟨n,rfl⟩:∃n,fX=n+1:=⟨fX-1,by lia⟩;obtain⟨v,Yl,iB,cZ,VI⟩:=Gw (a:=a) (n:=n) (by lia);simp only[Nat.add_sub_cancel];apply Ji;intro key;refine wpS_bind (As Yl (wpS_bind (GJ (base:=0) (n:=m) (hint:=m-1) hc (Nh _).base (ha v iB) hb (by lia) (by lia) (by rw[List.drop_zero];exact(List.pairwise_append.mp hM4.sb).1) fun k' Hc QT Nk=>?_)));dsimp only;rw[List.drop_zero]at QT Nk;have Yy:=(List.pairwise_append.mp hM4.sa).1;rw[VI]at Yy;have hM5:=hM4.pushB (k:=k') Hc fun z hz c hc=>by
   have e1:=Nk c hc;rw[VI]at hz;rcases List.mem_append.mp hz with hz|hz
   ·exact Nat.le_trans ((List.pairwise_append.mp Yy).2.2 z hz v (by simp)) e1
   ·rw[List.mem_singleton.mp hz];exact e1
  have kX:(EU.push u++(b.extract k' m).reverse).toList.reverse=(b.toList.take m).drop k'++(EU.push u).toList.reverse:=by
   rw[Array.toList_append,List.reverse_append,Array.toList_reverse,List.reverse_reverse,DT]
  rw[<-kX]at hM5
  ·by_cases hk0':m-k' > 0
   ·rw[if_pos hk0'];by_cases e4:k'=1
    ·rw[if_pos (by simpa using e4)];exact wpS_pure (.inr ⟨_,_,rfl,Nh _,Nr hM5 e4⟩)
    rw[if_neg (by simpa using e4)];by_cases e5:k'=0
    ·rw[if_pos (by simpa using e5)];exact wpS_pure (.inr ⟨_,_,rfl,Nh _,fG hM5 e5⟩)
    rw[if_neg (by simpa using e5)];have Y5:2<=k'/\k'≤b.size/\n+k'+1<=na+nb:=by lia
    generalize m-k'=bR;revert hM5 Y5 QT;generalize EU.push u++(b.extract k' m).reverse=N0;generalize k'=jd;revert N0 jd bR;exact key.h
   ·rw[if_neg hk0'];have WG:k'=m:=by lia
    have Y5:2<=m/\m<=b.size/\n+m+1<=na+nb:=by lia
    have d6:EU.push u++(b.extract m m).reverse=EU.push u:=Array.toList_inj.mp (by rw[Array.toList_append,Array.toList_reverse,DT];simp);rw[WG,d6]at hM5;rw[WG]at QT;generalize m-k'=bR;revert hM5 Y5 QT;generalize EU.push u=N0;generalize m=jd;revert N0 jd bR;exact key.h
  intro bR N0 jd QT hM5 Y5;refine wpS_bind (As Yl ?_);have dB:=pA hM5 cZ (fun z hz=>Nat.le_of_lt (QT z hz));by_cases e6:n=0
  ·rw[if_pos (by simpa using e6)];exact wpS_pure (.inr ⟨_,_,rfl,Nh _,OR dB e6⟩)
  rw[if_neg (by simpa using e6)];split
  ·exact wpS_pure (.inl ⟨_,_,_,_,_,_,rfl,Nh _,dB,by lia,by lia,by lia,by lia,by lia⟩)
  ·exact wpS_pure ⟨_,_,_,_,_,_,rfl,Nh _,dB,by lia,by lia,by lia,by lia,by lia⟩
 ·rintro c AX ⟨IY,RH,Cr,Wu,iP,gr,rfl,Ey,hM2,w1,w2,w3,w4,w5⟩;exact .inl ⟨_,_,_,_,_,_,rfl,Ey,hM2,w1,w2,w3,w4,w5⟩
 ·rintro c He (⟨IY,RH,Cr,Wu,iP,gr,rfl,Ey,hM2,w1,w2,w3,w4,w5⟩|⟨res,rest,rfl,Ey,hM2⟩)
  ·dsimp only;refine wpS_bind (wpS_modify (wpS_pure ⟨_,_,_,_,rfl,⟨⟨Ey.base.perm,Ey.base.kind,Ey.base.failed⟩,Ey.arr,Ey.pend⟩,hM2,w1,w2,w3,w4,by lia⟩))
  ·dsimp only;exact wpS_pure ⟨_,_,rfl,Ey,hM2⟩
abbrev seg(l:List Keyed)(i n:Nat):List Keyed:=(l.drop i).take n
def Runs(r:Keyed->Nat)(l:List Keyed):Nat->List (Nat×Nat×Nat)->Nat->Prop
 |b,[],lo=>b=lo
 |b,(st,n,_)::rest,lo=>st=b/\1<=n/\Srt r (seg l b n)/\Runs r l (b+n) rest lo
theorem Runs.le{l:List Keyed}:∀{p:List (Nat×Nat×Nat)}{b lo:Nat},Runs r l b p lo->b+p.length<=lo
 |[],_,_,h=>by rw[Runs]at h;subst h;simp
 |(st,n,_)::rest,b,lo,h=>by
  rw[Runs]at h
  have:=Runs.le h.2.2.2
  rw[List.length_cons];lia
theorem Runs.same{l l':List Keyed}:∀{p:List (Nat×Nat×Nat)}{b lo:Nat},Runs r l b p lo->(∀i n,b<=i->i+n<=lo->seg l' i n=seg l i n)->Runs r l' b p lo
 |[],_,_,h,_=>h
 |(st,n,_)::rest,b,lo,h,e=>by
  rw[Runs]at h ⊢
  have:=Runs.le h.2.2.2
  exact⟨h.1,h.2.1,by rw[e b n (Nat.le_refl _) (by lia)];exact h.2.2.1,Runs.same h.2.2.2 fun i n' h1 h2=>e i n' (by lia) h2⟩
theorem Runs.snoc{l:List Keyed}:∀{p:List (Nat×Nat×Nat)}{b lo n pw:Nat},Runs r l b p lo->1<=n->Srt r (seg l lo n)->Runs r l b (p++[(lo,n,pw)]) (lo+n)
 |[],b,lo,n,pw,h,h1,h2=>by
  rw[Runs]at h;subst h;exact⟨rfl,h1,h2,rfl⟩
 |(st,m,_)::rest,b,lo,n,pw,h,h1,h2=>by
  rw[Runs]at h;exact⟨h.1,h.2.1,h.2.2.1,Runs.snoc h.2.2.2 h1 h2⟩
theorem Runs.merge{l l':List Keyed}:∀{pre:List (Nat×Nat×Nat)}{b lo sa na pa sb nb pb:Nat}{post:List (Nat×Nat×Nat)},Runs r l b (pre++(sa,na,pa)::(sb,nb,pb)::post) lo →
  (∀i n,i+n<=sa->seg l' i n=seg l i n)->(∀i n,sa+na+nb<=i->seg l' i n=seg l i n)->Srt r (seg l' sa (na+nb))->Runs r l' b (pre++(sa,na+nb,pa)::post) lo
 |[],b,lo,sa,na,pa,sb,nb,pb,post,h,h1,h2,h3=>by
  rw[List.nil_append,Runs,Runs]at h;obtain⟨rfl,g1,g2,rfl,g3,g4,g5⟩:=h;refine⟨rfl,by lia,h3,?_⟩;rw[Nat.add_assoc]at g5;exact g5.same fun i n q1 q2=>h2 i n (by lia)
 |(st,n,_)::rest,b,lo,sa,na,pa,sb,nb,pb,post,h,h1,h2,h3=>by
  rw[List.cons_append,Runs]at h;obtain⟨rfl,g1,g2,g3⟩:=h;have qz:st+n<=sa:=by
   have:∀{pre:List (Nat×Nat×Nat)}{b:Nat},Runs r l b (pre++(sa,na,pa)::(sb,nb,pb)::post) lo->b<=sa:=by
    intro pre
    induction pre with
    |nil=>intro b h;rw[List.nil_append,Runs]at h;lia
    |cons x r' ih=>intro b h;obtain⟨x1,x2,x3⟩:=x;rw[List.cons_append,Runs]at h;have:=ih h.2.2.2;lia
   exact this g3
  refine⟨rfl,g1,by rw[h1 st n qz];exact g2,Runs.merge g3 h1 h2 h3⟩
theorem Runs.at{l:List Keyed}:∀{pre:List (Nat×Nat×Nat)}{b lo sa na pa sb nb pb:Nat}{post:List (Nat×Nat×Nat)},Runs r l b (pre++(sa,na,pa)::(sb,nb,pb)::post) lo →
  b<=sa/\sb=sa+na/\1<=na/\1<=nb/\sb+nb<=lo/\Srt r (seg l sa na)/\Srt r (seg l sb nb)
 |[],b,lo,sa,na,pa,sb,nb,pb,post,h=>by
  rw[List.nil_append,Runs,Runs]at h;obtain⟨rfl,g1,g2,rfl,g3,g4,g5⟩:=h
  have:=g5.le
  exact⟨Nat.le_refl _,rfl,g1,g3,by lia,g2,g4⟩
 |(st,n,_)::rest,b,lo,sa,na,pa,sb,nb,pb,post,h=>by
  rw[List.cons_append,Runs]at h;obtain⟨rfl,g1,g2,g3⟩:=h;obtain⟨q1,q2⟩:=Runs.at g3;exact⟨by lia,q2⟩
theorem Pk(off:Nat):∀(ms:List Keyed)(j:Nat)(xs:Array Keyed)(k:Nat),off+j+ms.length<=xs.size →
  ((ms.zipIdx j).foldl (fun a (p:Keyed×Nat)=>a.setIfInBounds (off+p.2) p.1) xs)[k]?=if off+j<=k/\k<off+j+ms.length then ms[k-(off+j)]? else xs[k]?
 |[],j,xs,k,_=>by simp;lia
 |m::ms,j,xs,k,h=>by
  rw[List.zipIdx_cons,List.foldl_cons];rw[List.length_cons]at h;rw[Pk off ms (j+1) _ k (by rw[Array.size_setIfInBounds];lia)];rw[List.length_cons];by_cases h1:off+(j+1)<=k/\k<off+(j+1)+ms.length
  ·rw[if_pos h1,if_pos (by lia)];obtain⟨q,hq⟩:∃q,k-(off+j)=q+1:=⟨k-(off+j)-1,by lia⟩;rw[hq,List.getElem?_cons_succ];congr 1;lia
  ·rw[if_neg h1,Array.getElem?_setIfInBounds];by_cases h2:off+j=k
   ·rw[if_pos h2,if_pos (by lia),if_pos (by lia)];have:k-(off+j)=0:=by lia
    rw[this];rfl
   ·rw[if_neg h2,if_neg (by lia)]
theorem Uz(off:Nat)(ms:List Keyed)(xs:Array Keyed)(h:off+ms.length<=xs.size):((ms.zipIdx).foldl (fun a (p:Keyed×Nat)=>a.setIfInBounds (off+p.2) p.1) xs).toList=xs.toList.take off++ms++xs.toList.drop (off+ms.length):=by
 have hl:xs.toList.length=xs.size:=Array.length_toList;refine List.ext_getElem? fun k=>?_;rw[Array.getElem?_toList,Pk off ms 0 xs k (by lia),Nat.add_zero,List.append_assoc];by_cases h1:k<off
 ·rw[if_neg (by lia),List.getElem?_append_left (by rw[List.length_take];lia),List.getElem?_take,if_pos h1,Array.getElem?_toList]
 ·rw[List.getElem?_append_right (by rw[List.length_take];lia),List.length_take,show min off xs.toList.length=off by lia];by_cases h2:k<off+ms.length
  ·rw[if_pos (by lia),List.getElem?_append_left (by lia)]
  ·rw[if_neg (by lia),List.getElem?_append_right (by lia),List.getElem?_drop,Array.getElem?_toList];congr 1;lia
theorem Z3{l M:List Keyed}{i0 j0:Nat}(hi:i0<=l.length)(i n:Nat)(h:i+n<=i0):seg (l.take i0++M++l.drop j0) i n=seg l i n:=by unfold seg;rw[List.append_assoc,List.drop_append_of_le_length (by rw[List.length_take];lia),List.take_append_of_le_length (by rw[List.length_drop,List.length_take];lia),List.drop_take,List.take_take];congr 1;lia
theorem Pd{l M:List Keyed}{i0 j0:Nat}(hi:i0+M.length=j0)(hj:j0<=l.length)(i n:Nat)(h:j0<=i):seg (l.take i0++M++l.drop j0) i n=seg l i n:=by
 unfold seg;have e:(l.take i0++M).length=j0:=by rw[List.length_append,List.length_take];lia
 rw[List.drop_append,List.drop_eq_nil_of_le (by lia),List.nil_append,e,List.drop_drop];congr 2;lia
theorem aW{l M:List Keyed}{sa k i0 j0 t:Nat}(h0:i0=sa+k)(hi:i0+M.length=j0)(hj:j0+t<=l.length):seg (l.take i0++M++l.drop j0) sa (k+M.length+t)=seg l sa k++M++seg l j0 t:=by
 unfold seg;subst h0;rw[List.append_assoc,List.drop_append_of_le_length (by rw[List.length_take];lia),List.drop_take,show sa+k-sa=k by lia];have hP:((l.drop sa).take k).length=k:=by rw[List.length_take,List.length_drop];lia
 generalize (l.drop sa).take k=P0 at *;subst hP;rw[Nat.add_assoc,List.take_length_add_append,List.take_length_add_append,List.append_assoc]
theorem aL{xs:Array Keyed}{i n:Nat}{p:Keyed}(h:xs[i]?=some p)(hn:1<=n):∃t,seg xs.toList i n=p::t:=by
 have hp:xs.toList[i]?=some p:=by rw[Array.getElem?_toList];exact h
 obtain⟨hl,e⟩:=List.getElem?_eq_some_iff.mp hp;unfold seg;rw[List.drop_eq_getElem_cons hl,e];obtain⟨m,rfl⟩:∃m,n=m+1:=⟨n-1,by lia⟩;exact⟨_,List.take_succ_cons ..⟩
theorem ZN{M:Model}{σ:Type}{x:σ}{Q:PUnit->σ->Prop}{st:σ}(h:Q ⟨⟩ x):wpS M A E s (set x:StateT σ Sem PUnit) Q st:=by unfold wpS;rw[StateT.run_set];exact wpAny_pure ⟨rfl,h⟩
theorem SI{l M:List Keyed}{sa na nb k t:Nat}{gm gs:Keyed}(sA:Srt r (seg l sa na))(sB:Srt r (seg l (sa+na) nb))(hk:k<=na)(ht:t<=nb)(h1:∀c∈seg l sa k,r c<=r gm)(h2:∀c∈(seg l sa na).drop k,r c<=r gs)(h3:∀c∈seg l (sa+na) nb,r gm<=r c)(h4:∀c∈(seg l (sa+na) nb).drop t,r gs<=r c)(hM:Mg r ((seg l sa na).drop k) (seg l (sa+na) t) M):Srt r (seg l sa k++M++seg l (sa+na+t) (nb-t)):=by
 have eA:seg l sa k++(seg l sa na).drop k=seg l sa na:=by
  unfold seg
  have:=List.take_append_drop k ((l.drop sa).take na)
  rwa [List.take_take,Nat.min_eq_left hk]at this
 have eT:(seg l (sa+na) nb).drop t=seg l (sa+na+t) (nb-t):=by
  unfold seg;rw[List.drop_take,List.drop_drop]
 have eB:seg l (sa+na) t++(seg l (sa+na) nb).drop t=seg l (sa+na) nb:=by
  unfold seg
  have:=List.take_append_drop t ((l.drop (sa+na)).take nb)
  rwa [List.take_take,Nat.min_eq_left ht]at this
 rw[<-eT];rw[<-eA]at sA;have fF:=h3;rw[<-eB]at sB fF;obtain⟨a1,a2,a3⟩:=List.pairwise_append.mp sA;obtain⟨b1,b2,b3⟩:=List.pairwise_append.mp sB;have mm:∀c∈M,c∈(seg l sa na).drop k\/c∈seg l (sa+na) t:=fun c hc=>List.mem_append.mp (hM.perm.mem_iff.mp hc);rw[List.append_assoc];refine List.pairwise_append.mpr ⟨a1,List.pairwise_append.mpr ⟨hM.srt,b2,fun x hx y hy=>?_⟩,fun x hx y hy=>?_⟩
 ·rcases mm x hx with hx|hx
  ·exact Nat.le_trans (h2 x hx) (h4 y hy)
  ·exact b3 x hx y hy
 ·have UG:=h1 x hx;rcases List.mem_append.mp hy with hy|hy
  ·rcases mm y hy with hy|hy
   ·exact a3 x hx y hy
   ·exact Nat.le_trans UG (fF y (List.mem_append_left _ hy))
  ·exact Nat.le_trans UG (fF y (List.mem_append_right _ hy))
theorem KA(hc:CmpOk prog w A s a₀ r k0){st:SortSt}(hB:SB a₀ k0 st){i lo:Nat}{pre post:List (Nat×Nat×Nat)}{sa na pa sb nb pb:Nat}(hp:(pendingOf st).toList=pre++(sa,na,pa)::(sb,nb,pb)::post)(hi:pre.length=i)(qA:lo<=a₀.size)(hR:Runs r (arrOf st).toList 0 (pendingOf st).toList lo){Q:Bool->SortSt->Prop}(h:∀AX,SB a₀ k0 AX->(pendingOf AX).toList=pre++(sa,na+nb,pa)::post->Runs r (arrOf AX).toList 0 (pendingOf AX).toList lo->(∀i n,lo<=i->seg (arrOf AX).toList i n=seg (arrOf st).toList i n)->Q true AX):wpS (model prog w) A E s (mergeAt' i) Q st:=by
 have jC:=hR;rw[hp]at jC;obtain⟨_,rfl,z1,z2,z3,sA,sB⟩:=Runs.at jC;have hsz:=hB.size;have hl:(arrOf st).toList.length=a₀.size:=by rw[Array.length_toList];exact hsz
 have hpl:(pendingOf st).toList.length=(pendingOf st).size:=Array.length_toList;have e1:(pendingOf st)[i]?=some (sa,na,pa):=by
  rw[<-Array.getElem?_toList,hp,List.getElem?_append_right (by lia),hi,Nat.sub_self];rfl
 have e2:(pendingOf st)[i+1]?=some (sa+na,nb,pb):=by
  rw[<-Array.getElem?_toList,hp,List.getElem?_append_right (by lia),hi,show i+1-i=1 by lia];rfl
 have PY:(((pendingOf st).setIfInBounds i (sa,na+nb,pa)).eraseIdxIfInBounds (i+1)).toList=pre++(sa,na+nb,pa)::post:=by
  rw[Array.toList_eraseIdxIfInBounds,Array.toList_setIfInBounds,hp,<-hi];rw[List.set_append_right _ _ (Nat.le_refl _),Nat.sub_self,List.set_cons_zero,List.eraseIdx_append_of_length_le (by lia),show pre.length+1-pre.length=1 by lia];rfl
 have Rf:∀p∈(arrOf st).toList,p∈a₀.toList:=fun p hp=>hB.mem hp;obtain⟨kb,jV⟩:∃p,(arrOf st)[sa+na]?=some p:=⟨_,getElem?_pos _ (sa+na) (by lia)⟩;unfold mergeAt';refine wpS_bind (wpS_get ?_);rw[e1,e2];dsimp only;refine wpS_bind (ZN ?_);have Pr:SB a₀ k0 (SortSt.mk' (kindOf st) (arrOf st) (((pendingOf st).setIfInBounds i (sa,na+nb,pa)).eraseIdxIfInBounds (i+1)) (gallopOf st) (failedOf st)):=⟨hB.perm,hB.kind,hB.failed⟩;obtain⟨tB,ro⟩:=aL (n:=nb) jV z2;have W8:∀c∈seg (arrOf st).toList (sa+na) nb,r kb<=r c:=fun c UM=>by
  rw[ro]at UM sB;rcases List.mem_cons.mp UM with rfl|UM
  ·exact Nat.le_refl _
  ·exact(List.pairwise_cons.mp sB).1 c UM
 refine wpS_bind (As jV (wpS_bind (G8 (base:=sa) (n:=na) (hint:=0) hc Pr (hB.memAt jV) Rf (by lia) (by lia) sA fun k hk Rt Iq=>?_)));dsimp only;by_cases hk0:na-k=0
 ·rw[if_pos (by simpa using hk0)];obtain rfl:k=na:=by lia
  refine wpS_pure (h _ Pr PY ?_ fun _ _ _=>rfl);show Runs r (arrOf st).toList 0 (((pendingOf st).setIfInBounds i (sa,k+nb,pa)).eraseIdxIfInBounds (i+1)).toList lo;rw[PY];refine Runs.merge jC (fun _ _ _=>rfl) (fun _ _ _=>rfl) ?_;have e:seg (arrOf st).toList sa (k+nb)=seg (arrOf st).toList sa k++seg (arrOf st).toList (sa+k) nb:=by
   unfold seg;rw[List.take_add,List.drop_drop]
  rw[e];exact List.pairwise_append.mpr ⟨sA,sB,fun x hx y hy=>Nat.le_trans (Rt x hx) (W8 y hy)⟩
 rw[if_neg (by simpa using hk0)];obtain⟨ka,i4⟩:∃p,(arrOf st)[sa+k+(na-k)-1]?=some p:=⟨_,getElem?_pos _ (sa+k+(na-k)-1) (by lia)⟩;refine wpS_bind (As i4 (wpS_bind (GJ (base:=sa+na) (n:=nb) (hint:=nb-1) hc Pr (hB.memAt i4) Rf (by lia) (by lia) sB fun t ht mT iD=>?_)));dsimp only;have cT:∀c∈(seg (arrOf st).toList sa na).drop k,r c<=r ka:=fun c UM=>by
  have fh:(seg (arrOf st).toList sa na)[na-1]?=some ka:=by
   unfold seg;rw[List.getElem?_take,if_pos (by lia),List.getElem?_drop,Array.getElem?_toList];rw[<-i4];congr 1;lia
  obtain⟨j,hj⟩:=List.mem_iff_getElem?.mp UM;rw[List.getElem?_drop]at hj;have jM:=(List.getElem?_eq_some_iff.mp hj).1;have A2:(seg (arrOf st).toList sa na).length<=na:=by unfold seg;rw[List.length_take];lia
  by_cases hje:k+j=na-1
  ·rw[hje,fh]at hj;cases hj;exact Nat.le_refl _
  ·obtain⟨q1,q2⟩:=List.getElem?_eq_some_iff.mp fh;obtain⟨q3,q4⟩:=List.getElem?_eq_some_iff.mp hj
   have:=List.pairwise_iff_getElem.mp sA (k+j) (na-1) q3 q1 (by lia)
   rw[q2,q4]at this;exact this
 by_cases ht0:t=0
 ·rw[if_pos (by simpa using ht0)];subst ht0;refine wpS_pure (h _ Pr PY ?_ fun _ _ _=>rfl);show Runs r (arrOf st).toList 0 (((pendingOf st).setIfInBounds i (sa,na+nb,pa)).eraseIdxIfInBounds (i+1)).toList lo;rw[PY];refine Runs.merge jC (fun _ _ _=>rfl) (fun _ _ _=>rfl) ?_;have e:seg (arrOf st).toList sa (na+nb)=seg (arrOf st).toList sa na++seg (arrOf st).toList (sa+na) nb:=by
   unfold seg;rw[List.take_add,List.drop_drop]
  rw[e];rw[List.drop_zero]at iD;have eA:seg (arrOf st).toList sa k++(seg (arrOf st).toList sa na).drop k=seg (arrOf st).toList sa na:=by
   unfold seg
   have:=List.take_append_drop k (((arrOf st).toList.drop sa).take na)
   rwa [List.take_take,Nat.min_eq_left hk]at this
  refine List.pairwise_append.mpr ⟨sA,sB,fun x hx y hy=>?_⟩;rw[<-eA]at hx;rcases List.mem_append.mp hx with hx|hx
  ·exact Nat.le_trans (Rt x hx) (W8 y hy)
  ·exact Nat.le_trans (cT x hx) (iD y hy)
 rw[if_neg (by simpa using ht0)];have ex:((arrOf st).extract (sa+k) (sa+na)).toList=(seg (arrOf st).toList sa na).drop k:=by
  rw[DT];unfold seg;rw[List.drop_take,List.drop_take,List.drop_drop];congr 1;lia
 have ey:((arrOf st).extract (sa+na) (sa+na+t)).toList=seg (arrOf st).toList (sa+na) t:=GX _ _ _;have sx:Srt r ((arrOf st).extract (sa+k) (sa+na)).toList:=by rw[ex];exact sA.sublist (List.drop_sublist _ _)
 have sy:Srt r ((arrOf st).extract (sa+na) (sa+na+t)).toList:=by
  rw[ey];have:seg (arrOf st).toList (sa+na) t=(seg (arrOf st).toList (sa+na) nb).take t:=by unfold seg;rw[List.take_take,Nat.min_eq_left ht]
  rw[this];exact sB.sublist (List.take_sublist _ _)
 have lx:((arrOf st).extract (sa+k) (sa+na)).toList.length=na-k:=by rw[ex];unfold seg;rw[List.length_drop,List.length_take,List.length_drop];lia
 have ly:((arrOf st).extract (sa+na) (sa+na+t)).toList.length=t:=by rw[ey];unfold seg;rw[List.length_take,List.length_drop];lia
 have zx:1<=((arrOf st).extract (sa+k) (sa+na)).size:=by rw[<-Array.length_toList,lx];lia
 have zy:1<=((arrOf st).extract (sa+na) (sa+na+t)).size:=by rw[<-Array.length_toList,ly];lia
 have m6:∀p∈((arrOf st).extract (sa+k) (sa+na)).toList,p∈a₀.toList:=fun p gc=>by
  rw[ex]at gc;exact Rf p (List.mem_of_mem_drop (List.mem_of_mem_take (List.mem_of_mem_drop gc)))
 have n8:∀p∈((arrOf st).extract (sa+na) (sa+na+t)).toList,p∈a₀.toList:=fun p gc=>by
  rw[ey]at gc;exact Rf p (List.mem_of_mem_drop (List.mem_of_mem_take gc))
 have YJ:∀y,((arrOf st).extract (sa+na) (sa+na+t)).toList[0]?=some y->y=kb:=fun y hy=>by
  rw[ey]at hy;unfold seg at hy;rw[List.getElem?_take,if_pos (by lia),List.getElem?_drop,Nat.add_zero,Array.getElem?_toList,jV]at hy;cases hy;rfl
 have finish:∀(out:Array Keyed)(AX:SortSt),Mg r ((arrOf st).extract (sa+k) (sa+na)).toList ((arrOf st).extract (sa+na) (sa+na+t)).toList out.toList →
   Gl a₀ k0 (SortSt.mk' (kindOf st) (arrOf st) (((pendingOf st).setIfInBounds i (sa,na+nb,pa)).eraseIdxIfInBounds (i+1)) (gallopOf st) (failedOf st)) AX →
   Q (failedOf AX).isNone (SortSt.mk' (kindOf AX) (out.toList.zipIdx.foldl (fun a (p:Keyed×Nat)=>a.setIfInBounds (sa+k+p.2) p.1) (arrOf AX)) (pendingOf AX) (gallopOf AX) (failedOf AX)):=by
  intro out AX hM hG;have lE:arrOf AX=arrOf st:=hG.arr;have bU:(pendingOf AX).toList=pre++(sa,na+nb,pa)::post:=by rw[hG.pend];exact PY
  have sP:out.toList.length=na-k+t:=by rw[hM.perm.length_eq,List.length_append,lx,ly]
  have fv:(failedOf AX).isNone=true:=by rw[hG.base.failed];rfl
  rw[fv];have MY:(out.toList.zipIdx.foldl (fun a (p:Keyed×Nat)=>a.setIfInBounds (sa+k+p.2) p.1) (arrOf AX)).toList=(arrOf st).toList.take (sa+k)++out.toList++(arrOf st).toList.drop (sa+na+t):=by
   rw[lE,Uz _ _ _ (by lia),sP];congr 2;lia
  refine h _ ⟨?_,hG.base.kind,hG.base.failed⟩ bU ?_ fun j n hj=>?_
  ·refine Array.Perm.trans ?_ hB.perm;rw[Array.perm_iff_toList_perm];show(out.toList.zipIdx.foldl (fun a (p:Keyed×Nat)=>a.setIfInBounds (sa+k+p.2) p.1) (arrOf AX)).toList.Perm (arrOf st).toList;rw[MY];have cL:(arrOf st).toList=(arrOf st).toList.take (sa+k)++(((arrOf st).extract (sa+k) (sa+na)).toList++((arrOf st).extract (sa+na) (sa+na+t)).toList)++(arrOf st).toList.drop (sa+na+t):=by
    rw[DT,DT,<-List.append_assoc,Fl _ (by lia),Fl _ (by lia),List.take_append_drop]
   conv=>rhs;rw[cL]
   exact((hM.perm.append_left _).append_right _)
  ·show Runs r (out.toList.zipIdx.foldl (fun a (p:Keyed×Nat)=>a.setIfInBounds (sa+k+p.2) p.1) (arrOf AX)).toList 0 (pendingOf AX).toList lo;rw[MY,bU];refine Runs.merge jC (fun j n hj=>?_) (fun j n hj=>?_) ?_
   ·exact Z3 (by lia) j n (by lia)
   ·exact Pd (by lia) (by lia) j n (by lia)
   ·have:=aW (l:=(arrOf st).toList) (M:=out.toList) (sa:=sa) (k:=k) (i0:=sa+k) (j0:=sa+na+t) (t:=nb-t) rfl (by lia) (by lia)
    rw[show k+out.toList.length+(nb-t)=na+nb by lia]at this;rw[this];refine SI sA sB hk ht Rt cT W8 iD ?_;rw[<-ex,<-ey];exact hM
  ·show seg (out.toList.zipIdx.foldl (fun a (p:Keyed×Nat)=>a.setIfInBounds (sa+k+p.2) p.1) (arrOf AX)).toList j n=_;rw[MY];exact Pd (by lia) (by lia) j n (by lia)
 by_cases hle:na-k<=t
 ·rw[if_pos hle];refine wpS_bind (PW hc Pr m6 n8 sx sy zx zy ?_ ?_ fun out AX hM hG=>wpS_bind (wpS_modify (wpS_bind (wpS_get (wpS_pure (finish out AX hM hG))))))
  ·intro x y hx hy;have qX:=YJ y (by rw[Array.getElem?_toList];exact hy);subst qX;have:x∈((arrOf st).extract (sa+k) (sa+na)).toList:=Array.mem_toList_iff.mpr (Array.mem_of_getElem? hx);rw[ex]at this;exact Nat.le_of_lt (Iq x this)
  ·intro x hx y hy;rw[ey]at hy;have k9:x=ka:=by
    rw[lx,DT,List.getElem?_drop,List.getElem?_take]at hx;rw[if_pos (by lia),Array.getElem?_toList]at hx;rw[show sa+k+(na-k-1)=sa+k+(na-k)-1 by lia,i4]at hx;cases hx;rfl
   subst k9;exact Nat.le_of_lt (mT y hy)
 ·rw[if_neg hle];refine wpS_bind (QH hc Pr m6 n8 sx sy zx zy ?_ ?_ fun out AX hM hG=>wpS_bind (wpS_modify (wpS_bind (wpS_get (wpS_pure (finish out AX hM hG))))))
  ·intro y hy x hx;obtain⟨j,hj⟩:=List.mem_iff_getElem?.mp hy;rw[List.getElem?_take]at hj;split at hj
   ·rename_i gV;obtain rfl:j=0:=by lia
    have:=YJ y hj
    subst this;rw[ex]at hx;exact Nat.le_of_lt (Iq x hx)
   ·cases hj
  ·intro x hx y hy;rw[ey]at hy;obtain⟨j,hj⟩:=List.mem_iff_getElem?.mp hx;rw[List.getElem?_drop,<-Array.length_toList,lx]at hj;have jM:=(List.getElem?_eq_some_iff.mp hj).1;rw[lx]at jM;obtain rfl:j=0:=by lia
   have k9:x=ka:=by
    rw[Nat.add_zero,DT,List.getElem?_drop,List.getElem?_take,if_pos (by lia),Array.getElem?_toList]at hj;rw[show sa+k+(na-k-1)=sa+k+(na-k)-1 by lia,i4]at hj;cases hj;rfl
   subst k9;exact Nat.le_of_lt (mT y hy)
theorem NP{xs:Array Keyed}{i n:Nat}(h:Up r xs i (i+n)):Srt r (seg xs.toList i n):=by
 rw[Srt,List.pairwise_iff_getElem];intro j k hj hk sv;have e1:(seg xs.toList i n)[j]?=some (seg xs.toList i n)[j]:=List.getElem?_eq_getElem hj;have e2:(seg xs.toList i n)[k]?=some (seg xs.toList i n)[k]:=List.getElem?_eq_getElem hk;have WG:k<n:=by unfold seg at hk;rw[List.length_take]at hk;lia
 have f1:xs.toList[i+j]?=some (seg xs.toList i n)[j]:=by
  rw[<-e1];unfold seg;rw[List.getElem?_take,if_pos (by lia),List.getElem?_drop]
 have f2:xs.toList[i+k]?=some (seg xs.toList i n)[k]:=by
  rw[<-e2];unfold seg;rw[List.getElem?_take,if_pos (by lia),List.getElem?_drop]
 have:=h (i+j) (i+k) (by lia) (by lia) (by lia)
 rw[ED f1,ED f2]at this;exact this
theorem PU{xs ys:Array Keyed}{lo:Nat}(h:∀k,k<lo->ys[k]?=xs[k]?)(i n:Nat)(hi:i+n<=lo):seg ys.toList i n=seg xs.toList i n:=by
 refine List.ext_getElem? fun k=>?_;unfold seg;rw[List.getElem?_take,List.getElem?_take];split
 ·rw[List.getElem?_drop,List.getElem?_drop,Array.getElem?_toList,Array.getElem?_toList];exact h _ (by lia)
 ·rfl
theorem YD{p:List (Nat×Nat×Nat)}{i:Nat}(h:i+1<p.length):∃pre sa na pa sb nb pb post,p=pre++(sa,na,pa)::(sb,nb,pb)::post/\pre.length=i:=by refine⟨p.take i,p[i].1,p[i].2.1,p[i].2.2,p[i+1].1,p[i+1].2.1,p[i+1].2.2,p.drop (i+2),?_,by rw[List.length_take];lia⟩;have e1:=List.drop_eq_getElem_cons (show i<p.length by lia);have e2:=List.drop_eq_getElem_cons h;show p=p.take i++p[i]::p[i+1]::p.drop (i+2);rw[<-e2,<-e1,List.take_append_drop]
theorem Runs.last{l:List Keyed}:∀{p:List (Nat×Nat×Nat)}{b lo:Nat}{f:Nat×Nat×Nat->Nat×Nat×Nat},Runs r l b p lo->(∀x,(f x).1=x.1/\(f x).2.1=x.2.1)->∀i,Runs r l b (p.modify i f) lo
 |[],_,_,_,h,_,i=>by cases i<;>simpa using h
 |(st,n,q)::rest,b,lo,f,h,hf,0=>by
  rw[Runs]at h;rw[List.modify_zero_cons];obtain⟨e1,e2⟩:=hf (st,n,q);generalize f (st,n,q)=y at *;obtain⟨y1,y2,y3⟩:=y;simp only at e1 e2;subst e1;subst e2;exact h
 |(st,n,q)::rest,b,lo,f,h,hf,i+1=>by
  rw[Runs]at h;rw[List.modify_succ_cons];exact⟨h.1,h.2.1,h.2.2.1,Runs.last h.2.2.2 hf i⟩
theorem wpS_sortRuns(hc:CmpOk prog w A s a₀ r k0){st:SortSt}(hB:SB a₀ k0 st)(hp:pendingOf st=#[]){Q:Unit->SortSt->Prop}(h:∀AX,SB a₀ k0 AX->Srt r (arrOf AX).toList->Q () AX):wpS (model prog w) A E s sortRuns' Q st:=by
 have hsz:=hB.size;unfold sortRuns';refine wpS_bind (wpS_get ?_);dsimp only;rw[show(arrOf st).size=a₀.size from hsz];refine wpS_bind (wpS_mono (wpS_forRange (I:=fun x c AX=>∃lo,c=(none,lo)/\SB a₀ k0 AX/\lo<=a₀.size/\(x<=lo\/lo=a₀.size)/\Runs r (arrOf AX).toList 0 (pendingOf AX).toList lo)
  (Q:=fun c AX=>c=(none,a₀.size)/\SB a₀ k0 AX/\Runs r (arrOf AX).toList 0 (pendingOf AX).toList a₀.size) ?_ ?_ ⟨0,rfl,hB,by lia,.inl (by lia),by rw[hp];rfl⟩) ?_)
 rotate_left
 ·rintro c AX ⟨lo,rfl,j5,h1,h2,hR⟩;obtain rfl:lo=a₀.size:=by lia
  exact⟨rfl,j5,hR⟩
 ·rintro c AX ⟨rfl,j5,hR⟩;dsimp only;refine wpS_bind (wpS_mono (wpS_forRange (I:=fun x c AX=>c=(none,())/\SB a₀ k0 AX/\Runs r (arrOf AX).toList 0 (pendingOf AX).toList a₀.size/\((pendingOf AX).size<=1\/(pendingOf AX).size+x<=a₀.size))
   (Q:=fun c AX=>c=(none,())/\SB a₀ k0 AX/\Runs r (arrOf AX).toList 0 (pendingOf AX).toList a₀.size/\(pendingOf AX).size<=1) ?_ ?_ ⟨rfl,j5,hR,.inr (by have:=hR.le;rw[Array.length_toList]at this;lia)⟩) ?_)
  ·rintro x c B3 _ _ ⟨rfl,Pr,RU,nH⟩;refine wpS_bind (wpS_get ?_);by_cases hle:(pendingOf B3).size<=1
   ·rw[if_pos hle];exact wpS_pure ⟨rfl,Pr,RU,hle⟩
   rw[if_neg hle];have hpl:(pendingOf B3).toList.length=(pendingOf B3).size:=Array.length_toList;have go:∀i,i+1<(pendingOf B3).size->wpS (model prog w) A E s (mergeAt' i) (fun b DA=>b=true/\SB a₀ k0 DA/\Runs r (arrOf DA).toList 0 (pendingOf DA).toList a₀.size/\(pendingOf DA).size+1=(pendingOf B3).size) B3:=by
    intro i hi;obtain⟨pre,sa,na,pa,sb,nb,pb,post,e,Jy⟩:=YD (p:=(pendingOf B3).toList) (i:=i) (by lia);refine KA hc Pr e Jy (Nat.le_refl _) RU fun DA jt Ft WJ _=>⟨rfl,jt,WJ,?_⟩;have e2:(pendingOf DA).size=(pre++(sa,na+nb,pa)::post).length:=by rw[<-Ft,Array.length_toList]
    rw[e2,<-hpl,e];simp only[List.length_append,List.length_cons];lia
   have ix:∀(c:Prop) [Decidable c],(if c then(pendingOf B3).size-2-1 else(pendingOf B3).size-2)+1<(pendingOf B3).size:=by
    intro c _;split<;>lia
   refine wpS_bind (wpS_mono (go _ ?_) ?_)
   ·split<;>exact ix _
   ·rintro b DA ⟨rfl,jt,WJ,MT⟩;rw[if_neg (by decide)];exact wpS_pure ⟨rfl,jt,WJ,by lia⟩
  ·rintro c B3 ⟨rfl,Pr,RU,nH⟩;refine⟨rfl,Pr,RU,?_⟩;lia
  ·rintro c B3 ⟨rfl,Pr,RU,nH⟩;refine wpS_pure (h B3 Pr ?_);have hl:(arrOf B3).toList.length=a₀.size:=by rw[Array.length_toList];exact Pr.size
   have hpl:(pendingOf B3).toList.length=(pendingOf B3).size:=Array.length_toList;cases hq:(pendingOf B3).toList with
   |nil=>
    rw[hq,Runs]at RU;have:(arrOf B3).toList=[]:=List.eq_nil_of_length_eq_zero (by lia);rw[this];exact List.Pairwise.nil
   |cons q rest=>
    have:rest=[]:=by
     rw[hq,List.length_cons]at hpl;exact List.eq_nil_of_length_eq_zero (by lia)
    subst this;obtain⟨q1,q2,q3⟩:=q;rw[hq,Runs,Runs]at RU;obtain⟨rfl,_,g1,g2⟩:=RU;unfold seg at g1;rw[List.drop_zero,List.take_of_length_le (by lia)]at g1;exact g1
 rintro x c B3 _ hx ⟨lo,rfl,Pr,h1,h2,RU⟩;dsimp only;by_cases Kk:lo≥a₀.size
 ·rw[if_pos Kk];obtain rfl:lo=a₀.size:=by lia
  exact wpS_pure ⟨rfl,Pr,RU⟩
 rw[if_neg Kk];refine wpS_bind (Oq hc Pr (lo:=lo) (nrem:=a₀.size-lo) (by lia) (by lia) fun m DA nh jX MI kZ=>?_);dsimp only;have WJ:Runs r (arrOf DA).toList 0 (pendingOf DA).toList lo:=by
  rw[MI.pend];exact RU.same fun i n _ hi=>PU MI.low i n hi
 generalize (sortPriv% PySem.Builtin.minRun) a₀.size a₀.size 0=mr;by_cases hmr:m<mr
 case' pos=>
  rw[if_pos hmr];refine wpS_bind (wpS_lift (wpAny_rule ⟨rfl,?_⟩));refine wpS_bind (Lk hc MI.base (lo:=lo) (n:=min (a₀.size-lo) mr) (ok:=m) (by lia) (by lia) kZ fun He b9 om=>?_);rw[if_neg (by decide)];have gF:1<=min (a₀.size-lo) mr:=by lia
  have fA:lo+min (a₀.size-lo) mr<=a₀.size:=by lia
  have j6:=NP om;have kh:=b9.base;have ky:Runs r (arrOf He).toList 0 (pendingOf He).toList lo:=by
   rw[b9.pend];exact WJ.same fun i n _ hi=>PU b9.low i n hi
  clear om b9;generalize min (a₀.size-lo) mr=n at *
 case' neg=>
  rw[if_neg hmr];have gF:1<=m:=nh;have fA:lo+m<=a₀.size:=by lia
  have j6:=NP kZ;have kh:=MI.base;have ky:=WJ;clear kZ MI WJ;generalize m=n at *;generalize DA=He at *
 all_goals
  have fin:∀JY,SB a₀ k0 JY->Runs r (arrOf JY).toList 0 (pendingOf JY).toList lo->Srt r (seg (arrOf JY).toList lo n)->∃g9,((none:Option Unit),lo+n)=(none,g9)/\SB a₀ k0 (setPending JY ((pendingOf JY).push (lo,n,0)))/\g9<=a₀.size/\(x+1<=g9\/g9=a₀.size)/\Runs r (arrOf JY).toList 0 ((pendingOf JY).push (lo,n,0)).toList g9:=by
   intro JY XW dw Xk;refine⟨lo+n,rfl,⟨XW.perm,XW.kind,XW.failed⟩,fA,.inl (by lia),?_⟩;rw[Array.toList_push];exact dw.snoc gF Xk
  refine wpS_bind (wpS_get ?_);cases hbk:(pendingOf He).back? with
  |none=>
   dsimp only;exact wpS_bind (wpS_modify (wpS_pure (fin He kh ky j6)))
  |some q=>
   obtain⟨s1,n1,p1⟩:=q;dsimp only;refine wpS_bind (wpS_mono (wpS_forRange (I:=fun _ c AX=>c=(none,())/\SB a₀ k0 AX/\Runs r (arrOf AX).toList 0 (pendingOf AX).toList lo/\Srt r (seg (arrOf AX).toList lo n))
    (Q:=fun c AX=>c=(none,())/\SB a₀ k0 AX/\Runs r (arrOf AX).toList 0 (pendingOf AX).toList lo/\Srt r (seg (arrOf AX).toList lo n)) ?_ (fun _ _ z=>z) ⟨rfl,kh,ky,j6⟩) ?_)
   ·rintro y c JY _ _ ⟨rfl,XW,dw,Xk⟩;refine wpS_bind (wpS_get ?_);by_cases hgt:(pendingOf JY).size > 1
    ·rw[if_pos hgt];have hpl:(pendingOf JY).toList.length=(pendingOf JY).size:=Array.length_toList;obtain⟨pre,sa,na,pa,sb,nb,pb,post,e,Jy⟩:=YD (p:=(pendingOf JY).toList) (i:=(pendingOf JY).size-2) (by lia);have eg:(pendingOf JY)[(pendingOf JY).size-2]?=some (sa,na,pa):=by
      rw[<-Array.getElem?_toList,e,List.getElem?_append_right (by lia),Jy,Nat.sub_self];rfl
     rw[eg];dsimp only;split
     ·exact wpS_pure ⟨rfl,XW,dw,Xk⟩
     ·refine wpS_bind (KA hc XW e Jy h1 dw fun eX qv tE qk j3=>?_);rw[if_neg (by decide)];exact wpS_pure ⟨rfl,qv,qk,by rw[j3 lo n (Nat.le_refl _)];exact Xk⟩
    ·rw[if_neg hgt];exact wpS_pure ⟨rfl,XW,dw,Xk⟩
   ·rintro c JY ⟨rfl,XW,dw,Xk⟩;dsimp only;refine wpS_bind (wpS_modify (wpS_bind (wpS_modify (wpS_pure (fin (setPending JY ((pendingOf JY).modify ((pendingOf JY).size-1) fun x=>(x.1,x.2.1,_))) ⟨XW.perm,XW.kind,XW.failed⟩ ?_ Xk)))));show Runs r (arrOf JY).toList 0 ((pendingOf JY).modify _ _).toList lo;rw[Array.toList_modify];refine Runs.last dw ?_ _;exact fun x=>⟨rfl,rfl⟩
end
end TS
namespace TF
open PySem PySem.Spec L2
open PyProof.Rows hiding St RelV
mutual
def Cq(st:Bool):Dat->Dat->Bool
 |.int a,.int b=>if st then decide (a<b)else decide (a<=b)
 |.tup l,.tup m=>CF st l m
 |_,_=>false
def CF(st:Bool):List Dat->List Dat->Bool
 |[],[]=>!st
 |[],_::_=>true
 |_::_,[]=>false
 |x::l,y::m=>if eqD x y then CF st l m else Cq st x y
end
def CN:Nat->Dat->Dat->Bool
 |_,.int _,.int _=>true
 |n+1,.tup l,.tup m=>(l.zip m).all fun p=>CN n p.1 p.2
 |_,_,_=>false
abbrev gM(st:Bool):CmpOp:=if st then .Lt else .LtE
def bP(st:Bool)(A:Around)(s:Shared)(u v:Value)(b:Bool):Prop:=∀(prog:Program)(w:World)(E:Value->Shared->Prop)(Q:Value->Shared->Prop),Q (.bool b) s->wpAny (model prog w) A (richCompare (gM st) u v) Q E s
section
open PySem.SeqAt
open PySem.AutoSeq1 (wpAny_loadPart')
open PySem.MeetsSeq PySem.MeetsSeq2 PySem.MeetsSeq3
inductive Prs (A:Around) (s:Shared) (st:Bool):List Dat->List Dat->List Value->List Value->Prop
 |nilL {m ws} (h:ws.length=m.length):Prs A s st [] m [] ws
 |nilR {l vs} (h:vs.length=l.length):Prs A s st l [] vs []
 |cons {x y l m u v vs ws} (he:EqAt A s u v (eqD x y)) (hl:bP st A s u v (Cq st x y)) (t:Prs A s st l m vs ws):Prs A s st (x::l) (y::m) (u::vs) (v::ws)
theorem SK(l b:Addr)(items Bv:Array Value)(n n2:Nat)(dd So:Option Addr)(sl PC:Array (Option Value))(ds es:List Dat) :
  Meets (Builtin.«tuple.__lt__» ⟨[.ref l,.ref b],[]⟩)
   (fun A R s=>Prs A.in1 s true ds es items.toList Bv.toList/\ds.length=items.size/\es.length=Bv.size/\s.heap.get? l=some { cls:=.type "tuple",dict:=dd,data:=.seq items n,slots:=sl }/\s.heap.get? b=some { cls:=.type "tuple",dict:=So,data:=.seq Bv n2,slots:=PC } ∧
    R (.ok (.ret (.bool (CF true ds es)))) s):=
 .of_wp fun prog w A R s h=>by
  obtain⟨hp,g,d,tk,os⟩:=s;obtain⟨hP,z1,z2,hl,hb,h⟩:=h;have f2:=AutoSeq1.sub_tuple_tuple;wp_walk using wpAny_loadPart' hl,wpAny_loadPart' hb,wpAny_forIn_list _ (fun rest b s'=>b.1=none/\s'=⟨hp,g,d,tk,os⟩/\∃(vs ws:List Value)(II Ke:List Dat),rest=vs.zip ws ∧
   Prs A.in1 ⟨hp,g,d,tk,os⟩ true II Ke vs ws/\II.length+Bv.size=Ke.length+items.size/\R (.ok (.ret (.bool (CF true II Ke)))) ⟨hp,g,d,tk,os⟩) _
  case turn=>
   rintro⟨y,x⟩ rest b s' ⟨GV,rfl,vs,ws,II,Ke,hz,ZT,A2,hR⟩;cases ZT with
   |nilL hq=>rw[List.zip_nil_left]at hz;cases hz
   |nilR hq=>rw[List.zip_nil_right]at hz;cases hz
   |@cons dx dy l' m' u v MP ox he A6 iT=>
    rw[List.zip_cons_cons]at hz;injection hz with de Ln;injection de with hy hx;subst hy hx;rw[CF]at hR;simp only[List.length_cons]at A2;refine wpAny_bind (he prog w _ _ ?_);cases hq:eqD dx dy with
    |true=>
     rw[hq,if_pos rfl]at hR;wp_walk;exact⟨rfl,rfl,_,_,_,_,Ln,iT,by lia,hR⟩
    |false=>
     rw[hq,if_neg (by decide)]at hR;have eO:∀(E:Value->Shared->Prop)(Q:Value->Shared->Prop),Q (.bool (Cq true dx dy)) ⟨hp,g,d,tk,os⟩->wpAny (model prog w) A.in1 (richCompare .Lt y x) Q E ⟨hp,g,d,tk,os⟩:=A6 prog w;wp_walk using eO;exact⟨_,rfl,by simpa using hR⟩
  case fin=>
   rintro⟨b1,b2⟩ s' ⟨GV,rfl,vs,ws,II,Ke,hz,ZT,A2,hR⟩;simp only at GV;subst GV;have hv:CF true II Ke=decide (items.size<Bv.size):=by
    cases ZT with
    |nilL hq=>
     cases Ke with
     |nil=>
      simp only[List.length_nil]at A2;rw[CF];exact(decide_eq_false (by lia)).symm
     |cons y m=>
      simp only[List.length_nil,List.length_cons]at A2;rw[CF];exact(decide_eq_true (by lia)).symm
    |nilR hq=>
     cases II with
     |nil=>
      simp only[List.length_nil]at A2;rw[CF];exact(decide_eq_false (by lia)).symm
     |cons y m=>
      simp only[List.length_nil,List.length_cons]at A2;rw[CF];exact(decide_eq_false (by lia)).symm
    |cons he A6 iT=>rw[List.zip_cons_cons]at hz;cases hz
   rw[hv]at hR;wp_walk;exact⟨_,rfl,by simpa[Builtin.Tuple.tupleCompareSizes]using hR⟩
  case h=>
   exact⟨rfl,rfl,items.toList,Bv.toList,ds,es,rfl,hP,by lia,h⟩
theorem TC(l b:Addr)(items Bv:Array Value)(n n2:Nat)(dd So:Option Addr)(sl PC:Array (Option Value))(ds es:List Dat) :
  Meets (Builtin.«tuple.__le__» ⟨[.ref l,.ref b],[]⟩)
   (fun A R s=>Prs A.in1 s false ds es items.toList Bv.toList/\ds.length=items.size/\es.length=Bv.size/\s.heap.get? l=some { cls:=.type "tuple",dict:=dd,data:=.seq items n,slots:=sl }/\s.heap.get? b=some { cls:=.type "tuple",dict:=So,data:=.seq Bv n2,slots:=PC } ∧
    R (.ok (.ret (.bool (CF false ds es)))) s):=
 .of_wp fun prog w A R s h=>by
  obtain⟨hp,g,d,tk,os⟩:=s;obtain⟨hP,z1,z2,hl,hb,h⟩:=h;have f2:=AutoSeq1.sub_tuple_tuple;wp_walk using wpAny_loadPart' hl,wpAny_loadPart' hb,wpAny_forIn_list _ (fun rest b s'=>b.1=none/\s'=⟨hp,g,d,tk,os⟩/\∃(vs ws:List Value)(II Ke:List Dat),rest=vs.zip ws ∧
   Prs A.in1 ⟨hp,g,d,tk,os⟩ false II Ke vs ws/\II.length+Bv.size=Ke.length+items.size/\R (.ok (.ret (.bool (CF false II Ke)))) ⟨hp,g,d,tk,os⟩) _
  case turn=>
   rintro⟨y,x⟩ rest b s' ⟨GV,rfl,vs,ws,II,Ke,hz,ZT,A2,hR⟩;cases ZT with
   |nilL hq=>rw[List.zip_nil_left]at hz;cases hz
   |nilR hq=>rw[List.zip_nil_right]at hz;cases hz
   |@cons dx dy l' m' u v MP ox he A6 iT=>
    rw[List.zip_cons_cons]at hz;injection hz with de Ln;injection de with hy hx;subst hy hx;rw[CF]at hR;simp only[List.length_cons]at A2;refine wpAny_bind (he prog w _ _ ?_);cases hq:eqD dx dy with
    |true=>
     rw[hq,if_pos rfl]at hR;wp_walk;exact⟨rfl,rfl,_,_,_,_,Ln,iT,by lia,hR⟩
    |false=>
     rw[hq,if_neg (by decide)]at hR;have eO:∀(E:Value->Shared->Prop)(Q:Value->Shared->Prop),Q (.bool (Cq false dx dy)) ⟨hp,g,d,tk,os⟩->wpAny (model prog w) A.in1 (richCompare .LtE y x) Q E ⟨hp,g,d,tk,os⟩:=A6 prog w;wp_walk using eO;exact⟨_,rfl,by simpa using hR⟩
  case fin=>
   rintro⟨b1,b2⟩ s' ⟨GV,rfl,vs,ws,II,Ke,hz,ZT,A2,hR⟩;simp only at GV;subst GV;have hv:CF false II Ke=decide (items.size<=Bv.size):=by
    cases ZT with
    |nilL hq=>
     cases Ke with
     |nil=>
      simp only[List.length_nil]at A2;rw[CF];exact(decide_eq_true (by lia)).symm
     |cons y m=>
      simp only[List.length_nil,List.length_cons]at A2;rw[CF];exact(decide_eq_true (by lia)).symm
    |nilR hq=>
     cases II with
     |nil=>
      simp only[List.length_nil]at A2;rw[CF];exact(decide_eq_true (by lia)).symm
     |cons y m=>
      simp only[List.length_nil,List.length_cons]at A2;rw[CF];exact(decide_eq_false (by lia)).symm
    |cons he A6 iT=>rw[List.zip_cons_cons]at hz;cases hz
   rw[hv]at hR;wp_walk;exact⟨_,rfl,by simpa[Builtin.Tuple.tupleCompareSizes]using hR⟩
  case h=>
   exact⟨rfl,rfl,items.toList,Bv.toList,ds,es,rfl,hP,by lia,h⟩
theorem Sz{A:Around}{s:Shared}{st:Bool}:∀{l m:List Dat}{vs ws:List Value},vs.length=l.length->ws.length=m.length →
  (∀(i:Nat) x y u v,l[i]?=some x->m[i]?=some y->vs[i]?=some u->ws[i]?=some v->EqAt A s u v (eqD x y)/\bP st A s u v (Cq st x y))->Prs A s st l m vs ws
 |[],m,vs,ws,h1,h2,_=>by
  obtain rfl:=List.eq_nil_of_length_eq_zero h1;exact .nilL h2
 |_::_,[],vs,ws,h1,h2,_=>by
  obtain rfl:=List.eq_nil_of_length_eq_zero h2;exact .nilR h1
 |x::l,y::m,[],_,h1,_,_=>by simp at h1
 |x::l,y::m,_::_,[],_,h2,_=>by simp at h2
 |x::l,y::m,u::vs,v::ws,h1,h2,h=>by
  obtain⟨a,b⟩:=h 0 x y u v rfl rfl rfl rfl;refine .cons a b (Sz (by simpa using h1) (by simpa using h2) fun i x' y' u' v' g1 g2 g3 g4=>h (i+1) x' y' u' v' (by simpa using g1) (by simpa using g2) (by simpa using g3) (by simpa using g4))
theorem Le{s:Shared}(st:Bool):∀(n:Nat){A:Around}{d e:Dat}{u v:Value},CN n d e=true->AJ n d=true->AJ n e=true->AtH s.heap d u->AtH s.heap e v->A.units+n<cLine->bP st A s u v (Cq st d e)
 |n,A,.int a,.int b,u,v,ho,_,_,hd,he,hu=>by
  rw[AtH]at hd he;obtain⟨t,rfl⟩:=hd;obtain⟨t',rfl⟩:=he;intro prog w E Q h;rw[Cq]at h;cases st with
  |true=>exact(PyProof.Rows.lt_int h:wpAny (model prog w) A (compareOp .Lt (.int a t) (.int b t')) Q E s)
  |false=>exact(PyProof.Rows.le_int h:wpAny (model prog w) A (compareOp .LtE (.int a t) (.int b t')) Q E s)
 |n+1,A,.tup l,.tup m,u,v,ho,pd,pe,hd,he,hu=>by
  rw[AtH]at hd he;obtain⟨a,is,rfl,ti,rl⟩:=hd;obtain⟨b,js,rfl,tj,rm⟩:=he;rw[CN,List.all_eq_true]at ho;rw[AJ,List.all_eq_true]at pd pe;have hP:Prs A.in1 s st l m is js:=Sz rl.length rm.length fun i x y u v g1 g2 g3 g4=>by
   obtain⟨u',JF,ru⟩:=rl.get g1;obtain⟨v',bZ,rv⟩:=rm.get g2;rw[g3]at JF;rw[g4]at bZ;cases JF;cases bZ;have p1:=pd x (List.mem_of_getElem? g1);have p2:=pe y (List.mem_of_getElem? g2);have o1:=ho (x,y) (List.mem_of_getElem? (i:=i) (by rw[List.getElem?_zip_eq_some];exact⟨g1,g2⟩));have RS:A.in1.units+n<cLine:=by show A.units+1+n<cLine;lia
   exact⟨(GN n p1 p2 ru rv RS).1,Le st n o1 p1 p2 ru rv RS⟩
  obtain⟨⟨cls,dd,data,sl⟩,ZA,hc,n1,hd⟩:=id ti;obtain⟨⟨dv,So,data2,PC⟩,Sr,RC,n2,hd2⟩:=id tj;simp only at hc hd RC hd2;subst hc hd RC hd2;intro prog w E Q h;rw[Cq]at h;have z1:l.length=is.toArray.size:=by rw[List.size_toArray,rl.length]
  have z2:m.length=js.toArray.size:=by rw[List.size_toArray,rm.length]
  cases st with
  |true=>
   exact richCompare_meets_room (op:=.Lt) ⟨_,ZA,rfl⟩ ⟨_,Sr,rfl⟩ PySem.F.slot_tuple_lt PySem.F.entry_tuple_lt (PySem.F.args_tuple_lt_2 _ _) (SK a b is.toArray js.toArray n1 n2 dd So sl PC l m)
    ⟨hP,z1,z2,ZA,Sr,show Value.bool (CF true l m)≠Value.notImplemented/\Q (.bool (CF true l m)) s from⟨(fun x=>nomatch x),h⟩⟩ (by lia)
  |false=>
   exact richCompare_meets_room (op:=.LtE) ⟨_,ZA,rfl⟩ ⟨_,Sr,rfl⟩ PySem.F.slot_tuple_le PySem.F.entry_tuple_le (PySem.F.args_tuple_le_2 _ _) (TC a b is.toArray js.toArray n1 n2 dd So sl PC l m)
    ⟨hP,z1,z2,ZA,Sr,show Value.bool (CF false l m)≠Value.notImplemented/\Q (.bool (CF false l m)) s from⟨(fun x=>nomatch x),h⟩⟩ (by lia)
 |0,_,.tup _,.tup _,_,_,ho,_,_,_,_,_=>by simp[CN]at ho
 |_,_,.int _,.tup _,_,_,ho,_,_,_,_,_=>by simp[CN]at ho
 |_,_,.tup _,.int _,_,_,ho,_,_,_,_,_=>by simp[CN]at ho
 |_,_,.non,_,_,_,ho,_,_,_,_,_=>by simp[CN]at ho
 |_,_,.bl _,_,_,_,ho,_,_,_,_,_=>by simp[CN]at ho
 |_,_,.str _,_,_,_,ho,_,_,_,_,_=>by simp[CN]at ho
 |_,_,.fn _,_,_,_,ho,_,_,_,_,_=>by simp[CN]at ho
 |_,_,.scr _,_,_,_,ho,_,_,_,_,_=>by simp[CN]at ho
 |_,_,.lst _,_,_,_,ho,_,_,_,_,_=>by simp[CN]at ho
 |_,_,.int _,.non,_,_,ho,_,_,_,_,_=>by simp[CN]at ho
 |_,_,.int _,.bl _,_,_,ho,_,_,_,_,_=>by simp[CN]at ho
 |_,_,.int _,.str _,_,_,ho,_,_,_,_,_=>by simp[CN]at ho
 |_,_,.int _,.fn _,_,_,ho,_,_,_,_,_=>by simp[CN]at ho
 |_,_,.int _,.scr _,_,_,ho,_,_,_,_,_=>by simp[CN]at ho
 |_,_,.int _,.lst _,_,_,ho,_,_,_,_,_=>by simp[CN]at ho
 |_,_,.tup _,.non,_,_,ho,_,_,_,_,_=>by simp[CN]at ho
 |_,_,.tup _,.bl _,_,_,ho,_,_,_,_,_=>by simp[CN]at ho
 |_,_,.tup _,.str _,_,_,ho,_,_,_,_,_=>by simp[CN]at ho
 |_,_,.tup _,.fn _,_,_,ho,_,_,_,_,_=>by simp[CN]at ho
 |_,_,.tup _,.scr _,_,_,ho,_,_,_,_,_=>by simp[CN]at ho
 |_,_,.tup _,.lst _,_,_,ho,_,_,_,_,_=>by simp[CN]at ho
end
end TF
namespace TF
open PySem PySem.Spec L2
open PyProof.Rows hiding St RelV
open HT (lexLt)
section
mutual
theorem AtH.kept{h h':Heap}(k:∀b o,h.get? b=some o->h'.get? b=some o):∀{d:Dat}{u:Value},AtH h d u->AtH h' d u
 |.non,_,r=>by rw[AtH]at r ⊢;exact r
 |.bl _,_,r=>by rw[AtH]at r ⊢;exact r
 |.int _,_,r=>by rw[AtH]at r ⊢;exact r
 |.str _,_,r=>by rw[AtH]at r ⊢;exact r
 |.fn _,_,r=>by rw[AtH]at r ⊢;exact r
 |.scr _,_,r=>by rw[AtH]at r;exact r.elim
 |.tup _,_,r=>by
  rw[AtH]at r ⊢;obtain⟨a,AY,h1,⟨o,h2,h3⟩,h4⟩:=r;exact⟨a,AY,h1,⟨o,k _ _ h2,h3⟩,AtL.kept k h4⟩
 |.lst _,_,r=>by
  rw[AtH]at r ⊢;obtain⟨a,AY,h1,⟨o,h2,h3⟩,h4⟩:=r;exact⟨a,AY,h1,⟨o,k _ _ h2,h3⟩,AtL.kept k h4⟩
theorem AtL.kept{h h':Heap}(k:∀b o,h.get? b=some o->h'.get? b=some o):∀{ds:List Dat}{us:List Value},AtL h ds us->AtL h' ds us
 |[],_,r=>by rw[AtL]at r ⊢;exact r
 |_::_,_,r=>by
  rw[AtL]at r ⊢;obtain⟨u,r',h1,h2,h3⟩:=r;exact⟨u,r',h1,AtH.kept k h2,AtL.kept k h3⟩
end
theorem AtL.mem{h:Heap}:∀{ds:List Dat}{us:List Value},AtL h ds us->∀u∈us,∃d∈ds,AtH h d u
 |[],_,r,u,hu=>by rw[AtL]at r;subst r;cases hu
 |d::ds,_,r,u,hu=>by
  rw[AtL]at r;obtain⟨u',r',rfl,h2,h3⟩:=r;rcases List.mem_cons.mp hu with rfl|hu
  ·exact⟨d,List.mem_cons_self ..,h2⟩
  ·obtain⟨d',h4,h5⟩:=AtL.mem h3 u hu;exact⟨d',List.mem_cons_of_mem _ h4,h5⟩
theorem Ea:∀l:List Int,lexLt l l=false
 |[]=>rfl
 |x::l=>by rw[HT.lexLt_cons,if_pos rfl,Ea l]
theorem Gk:∀{a b c:List Int},lexLt a b=true->lexLt b c=true->lexLt a c=true
 |[],[],_,h,_=>by cases h
 |[],_::_,[],_,h=>by cases h
 |[],_::_,_::_,_,_=>rfl
 |_::_,[],_,h,_=>by cases h
 |_::_,_::_,[],_,h=>by cases h
 |x::a,y::b,z::c,h1,h2=>by
  rw[HT.lexLt_cons]at *;split at h1<;>split at h2
  ·rename_i e1 e2;subst e1;subst e2;rw[if_pos rfl];exact Gk h1 h2
  ·rename_i e1 e2;subst e1;rw[if_neg e2];exact h2
  ·rename_i e1 e2;subst e2;rw[if_neg e1];exact h1
  ·rename_i e1 e2;simp only[decide_eq_true_eq]at h1 h2;rw[if_neg (by lia)];simp only[decide_eq_true_eq];lia
theorem HI:∀{a b:List Int},lexLt a b=false->lexLt b a=false->a=b
 |[],[],_,_=>rfl
 |[],_::_,h,_=>by cases h
 |_::_,[],_,h=>by cases h
 |x::a,y::b,h1,h2=>by
  rw[HT.lexLt_cons]at *;by_cases e:x=y
  ·subst e;rw[if_pos rfl]at h1 h2;rw[HI h1 h2]
  ·rw[if_neg e]at h1;rw[if_neg (Ne.symm e)]at h2;simp only[decide_eq_false_iff_not]at h1 h2;lia
theorem Yk{a b c:List Int}(h:lexLt a c=true):lexLt a b=true\/lexLt b c=true:=by
 cases e:lexLt a b with
 |true=>exact .inl rfl
 |false=>
  right;cases e2:lexLt b a with
  |false=>
   have:=HI e e2
   subst this;exact h
  |true=>exact Gk e2 h
structure OrdL (g:Dat->List Int) (ds:List Dat):Prop where
 lt:∀x∈ds,∀y∈ds,Cq true x y=lexLt (g x) (g y)
 ord:∀x∈ds,∀y∈ds,CN 8 x y=true
 pl:∀x∈ds,AJ 8 x=true
 tup:∀x∈ds,∃y l,x=.tup (y::l)
 one:(∀x∈ds,∃i l,x=.tup (.int i::l))\/(∀x∈ds,∃k l,x=.tup (.tup k::l))
open Classical in
def B9(h:Heap)(u:Value):Dat:=if e:∃d,AJ 8 d=true/\AtH h d u then Classical.choose e else .non
theorem CB{h:Heap}{d:Dat}{u:Value}(p:AJ 8 d=true)(r:AtH h d u):B9 h u=d:=by have e:∃d,AJ 8 d=true/\AtH h d u:=⟨d,p,r⟩;unfold B9;rw[dif_pos e];obtain⟨a,b⟩:=Classical.choose_spec e;exact AtH.inj 8 a p b r
def rkD(g:Dat->List Int)(ds:List Dat)(d:Dat):Nat:=ds.countP fun z=>lexLt (g z) (g d)
theorem Nz(g:Dat->List Int):∀(ds:List Dat){x y:Dat},lexLt (g x) (g y)=true->rkD g ds x<=rkD g ds y/\(x∈ds->rkD g ds x<rkD g ds y)
 |[],x,y,_=>⟨Nat.le_refl _,fun h=>by cases h⟩
 |z::ds,x,y,h=>by
  obtain⟨i1,i2⟩:=Nz g ds h;unfold rkD at *;rw[List.countP_cons,List.countP_cons];have imp:lexLt (g z) (g x)=true->lexLt (g z) (g y)=true:=fun e=>Gk e h;constructor
  ·cases e1:lexLt (g z) (g x)with
   |true=>rw[imp e1];simp;exact i1
   |false=>simp;lia
  ·intro hx;rcases List.mem_cons.mp hx with rfl|hx
   ·rw[Ea,h];simp;lia
   ·have:=i2 hx
    cases e1:lexLt (g z) (g x)with
    |true=>rw[imp e1];simp;lia
    |false=>simp;lia
theorem X1(g:Dat->List Int)(ds:List Dat){x y:Dat}(hx:x∈ds)(hy:y∈ds):decide (rkD g ds x<rkD g ds y)=lexLt (g x) (g y):=by
 cases e:lexLt (g x) (g y)with
 |true=>exact decide_eq_true ((Nz g ds e).2 hx)
 |false=>
  refine decide_eq_false fun A6=>?_;cases e2:lexLt (g y) (g x)with
  |true=>have:=(Nz g ds e2).2 hy;lia
  |false=>
   have:=HI e e2
   unfold rkD at A6;rw[this]at A6;lia
section
variable {prog:Program}{w:World}{A:Around}{E:Value->Shared->Prop}{s:Shared}
theorem Zc{d e:Dat}{u v:Value}(fl:Bool){Q:Bool->Shared->Prop}(hf:fl=true->(∃i,d=.int i)/\∃j,e=.int j)(hl:bP true A s u v (Cq true d e))(rd:AtH s.heap d u)(re:AtH s.heap e v)(h:Q (Cq true d e) s):wpAny (model prog w) A (oneLt' fl u v) Q E s:=by
 cases fl with
 |true=>
  obtain⟨⟨i,rfl⟩,j,rfl⟩:=hf rfl;rw[AtH]at rd re;obtain⟨t,rfl⟩:=rd;obtain⟨t',rfl⟩:=re;refine oneLt_int ?_;rw[Cq]at h;exact h
 |false=>
  refine PySem.W.kat_one u v ?_;exact hl prog w E _ h
theorem ZR{fl:Bool}{a b:Addr}{l m:List Dat}{is js:List Value}{Q:Bool->Shared->Prop}(ti:s.heap.IsTuple a is.toArray)(tj:s.heap.IsTuple b js.toArray)(rl:AtL s.heap l is)(rm:AtL s.heap m js)(hP:Prs A s true l m is js)(hf:fl=true->∀x y,l[0]?=some x->m[0]?=some y->(∃i,x=.int i)/\∃j,y=.int j)(h:Q (CF true l m) s):wpAny (model prog w) A (keyLt' (tuples' fl) (.ref a) (.ref b)) Q E s:=by
 obtain⟨o1,h1,_,n1,d1⟩:=ti;obtain⟨o2,h2,_,n2,d2⟩:=tj;refine PySem.W.kat_lt h1 d1 h2 d2 ?_;have z1:is.toArray.size=l.length:=by rw[List.size_toArray,rl.length]
 have z2:js.toArray.size=m.length:=by rw[List.size_toArray,rm.length]
 have gen:∀(i:Nat)(l' m':List Dat)(iH jP:List Value),Prs A s true l' m' iH jP->AtL s.heap l' iH->AtL s.heap m' jP->(fl&&i==0)=true/\l'=l/\m'=m\/(fl&&i==0)=false->l'.length+m.length=m'.length+l.length->Q (CF true l' m') s →
   PySem.W.KatLex prog w A fl (decide (is.toArray.size<js.toArray.size)) Q (iH.zip jP) i s:=by
  intro i l' m' iH jP ZT
  induction ZT generalizing i with
  |@nilL m' ws hq=>
   intro _ _ _ hl hQ;rw[List.zip_nil_left];refine PySem.W.kat_nil ?_;rw[z1,z2];rw[List.length_nil]at hl;cases m' with
   |nil=>rw[CF]at hQ;rw[decide_eq_false (by simp at hl;lia)];exact hQ
   |cons y m'=>rw[CF]at hQ;rw[decide_eq_true (by simp at hl;lia)];exact hQ
  |@nilR l' vs hq=>
   intro _ _ _ hl hQ;rw[List.zip_nil_right];refine PySem.W.kat_nil ?_;rw[z1,z2];rw[List.length_nil]at hl;cases l' with
   |nil=>rw[CF]at hQ;rw[decide_eq_false (by simp at hl;lia)];exact hQ
   |cons y l'=>rw[CF]at hQ;rw[decide_eq_false (by simp at hl;lia)];exact hQ
  |@cons x y l' m' u v vs ws he PB t ih=>
   intro r1 r2 gL A2 hQ;rw[AtL]at r1 r2;obtain⟨u',MP,e1,ru,rY⟩:=r1;obtain⟨v',ox,e2,rv,rws⟩:=r2;cases e1;cases e2;rw[List.zip_cons_cons];refine PySem.W.kat_cons (he prog w _ _ ?_);rw[CF]at hQ;cases hq:eqD x y with
   |true=>
    rw[hq,if_pos rfl]at hQ;refine PySem.W.kat_yes (ih (i+1) rY rws (.inr (by simp)) (by simp at A2;lia) hQ)
   |false=>
    rw[hq,if_neg (by decide)]at hQ;refine PySem.W.kat_no (Zc _ (fun oo=>?_) PB ru rv hQ);rcases gL with⟨g1,g2,g3⟩|g1
    ·refine hf ?_ x y ?_ ?_
     ·cases fl<;>simp_all
     ·rw[<-g2];rfl
     ·rw[<-g3];rfl
    ·rw[g1]at oo;cases oo
 refine gen 0 l m is js hP rl rm ?_ (Nat.add_comm _ _) h;cases fl with
 |true=>exact .inl ⟨rfl,rfl,rfl⟩
 |false=>exact .inr rfl
theorem ZL{g:Dat->List Int}{ds:List Dat}{vs:List Value}(r:AtL s.heap ds vs)(O:OrdL g ds){fl:Bool}(hf:fl=true->∀x∈ds,∃i l,x=.tup (.int i::l))(hu:A.units+8<cLine) :
  TS.CmpOk prog w A s (pairsOf vs) (fun p=>rkD g ds (B9 s.heap p.1)) (tuples' fl):=by
 intro x y hx hy E Q hq;rw[pairsOf_toList]at hx hy;obtain⟨d,hd,rd⟩:=r.mem _ (mem_zip_self hx).2;obtain⟨e,he,re⟩:=r.mem _ (mem_zip_self hy).2;have rT:decide (rkD g ds (B9 s.heap x.1)<rkD g ds (B9 s.heap y.1))=Cq true d e:=by
  rw[CB (O.pl d hd) rd,CB (O.pl e he) re,X1 g ds hd he,<-O.lt d hd e he]
 replace hq:Q (Cq true d e) s:=by rw[<-rT];exact hq
 have hl:=Le (A:=A) (s:=s) true 8 (O.ord d hd e he) (O.pl d hd) (O.pl e he) rd re hu;obtain⟨x0,l,rfl⟩:=O.tup d hd;obtain⟨y0,m,rfl⟩:=O.tup e he;have od:=O.ord _ hd _ he;have p1:=O.pl _ hd;have p2:=O.pl _ he;rw[AJ,List.all_eq_true]at p1 p2;rw[CN,List.all_eq_true]at od;rw[AtH]at rd re;obtain⟨a,is,ea,ti,rl⟩:=rd;obtain⟨b,js,eb,tj,rm⟩:=re;rw[ea,eb];rw[Cq]at hq;refine ZR ti tj rl rm (Sz rl.length rm.length fun i x y u v g1 g2 g3 g4=>?_) (fun h0 x y g1 g2=>?_) hq
 ·obtain⟨u',JF,ru⟩:=rl.get g1;obtain⟨v',bZ,rv⟩:=rm.get g2;rw[g3]at JF;rw[g4]at bZ;cases JF;cases bZ;have q1:=p1 x (List.mem_of_getElem? g1);have q2:=p2 y (List.mem_of_getElem? g2);have o1:=od (x,y) (List.mem_of_getElem? (i:=i) (by rw[List.getElem?_zip_eq_some];exact⟨g1,g2⟩));exact⟨(GN 7 q1 q2 ru rv (by lia)).1,Le true 7 o1 q1 q2 ru rv (by lia)⟩
 ·obtain⟨i,l',e1⟩:=hf h0 _ hd;obtain⟨j,m',e2⟩:=hf h0 _ he;cases e1;cases e2;cases g1;cases g2;exact⟨⟨i,rfl⟩,j,rfl⟩
theorem IF{g:Dat->List Int}{T:Value}:∀{ds:List Dat}{vs:List Value},AtL s.heap ds vs->(∀x∈ds,∃y l,x=.tup (y::l)/\∀u,AtH s.heap y u->PySem.W.Looks (model prog w) s.heap (typeOf u) T)->∃fs,PySem.W.KatTups s.heap vs fs/\fs.length=vs.length/\∀v∈fs,PySem.W.Looks (model prog w) s.heap (typeOf v) T
 |[],_,r,_=>by rw[AtL]at r;subst r;exact⟨[],trivial,rfl,fun _ h=>by cases h⟩
 |d::ds,_,r,h=>by
  rw[AtL]at r;obtain⟨u,MP,rfl,rd,rr⟩:=r;obtain⟨fs,h1,h2,h3⟩:=IF (g:=g) rr fun x hx=>h x (List.mem_cons_of_mem _ hx);obtain⟨y,l,rfl,hy⟩:=h d (List.mem_cons_self ..);rw[AtH]at rd;obtain⟨a,is,rfl,⟨o,ho,hc,n,hd⟩,rl⟩:=rd;rw[AtL]at rl;obtain⟨u0,iH,rfl,ru,_⟩:=rl;refine⟨u0::fs,.cons ho hc hd rfl h1,by simp[h2],fun v hv=>?_⟩;rcases List.mem_cons.mp hv with rfl|hv
  ·exact hy _ ru
  ·exact h3 v hv
theorem Yg{α:Type}{R:α->α->Prop}:∀{l:List α},l.length<2->l.Pairwise R
 |[],_=>.nil
 |[_],_=>List.pairwise_singleton _ _
 |_::_::_,h=>absurd h (by simp)
theorem L4{g:Dat->List Int}{a:Addr}{ds:List Dat}{vs:List Value}{n:Nat}{P:PySem.Fin->Shared->Prop}(ho:s.heap.get? a=some (seqObj "list" vs.toArray n))(r:AtL s.heap ds vs)(tK:∀b o,b≠a->s.heap.get? b=some o->True)(ZF:∀(h':Heap),(∀b o,b≠a->s.heap.get? b=some o->h'.get? b=some o)->AtL h' ds vs)(O:OrdL g ds)(hsz:vs.length<=sizeLine)(hu:A.units+8<cLine)(h:∀out:Array Value,out.toList.Perm vs->(out.toList.map fun u=>g (B9 s.heap u)).Pairwise (fun x y=>HT.lexLt y x=false)->P (.done (.ret .none)) { s with heap:=sortedHeap s.heap a vs out }) :
  wpAny (model prog w) A (Builtin.«list.sort» ⟨[.ref a],[]⟩) P E s:=by
 rw[list_sort_plain];have ha:a<s.heap.objs.size:=Heap.lt_size ho;refine wpAny_bind (listItems_at ho rfl ?_);refine wpAny_bind (listUpdate_at ho rfl ?_ (by rw[List.size_toArray];exact hsz) (Nat.zero_le _));obtain⟨e1,ZA⟩:∃e1,(s.heap.update a (Obj.mapSeq fun _=>#[])).get? a=some (seqObj "list" #[] e1):=⟨_,get?_update_seq ho (fun _=>#[])⟩;refine wpAny_bind (seqEpoch_at ZA rfl ?_);refine wpAny_bind (wpAny_newTuple ?_ (by show vs.length<=_;exact hsz));refine wpAny_bind (wpAny_newList ?_ (Nat.zero_le _));refine wpAny_holding ?_;have jW:(((s.heap.update a (Obj.mapSeq fun _=>#[])).push (seqObj "tuple" vs.toArray 0)).push (seqObj "list" #[] 0)).get? a=some (seqObj "list" #[] e1):=by
  rw[Heap.get?_push_ne _ _ _ (by rw[size_push',Heap.size_update];exact Nat.ne_of_lt (Nat.lt_succ_of_lt ha)),Heap.get?_push_ne _ _ _ (by rw[Heap.size_update];exact Nat.ne_of_lt ha)];exact ZA
 have keep:∀b o,b≠a->s.heap.get? b=some o->(((s.heap.update a (Obj.mapSeq fun _=>#[])).push (seqObj "tuple" vs.toArray 0)).push (seqObj "list" #[] 0)).get? b=some o:=fun b o hb e=>by
  have A6:b<s.heap.objs.size:=Heap.lt_size e;rw[Heap.get?_push_ne _ _ _ (by rw[size_push',Heap.size_update];exact Nat.ne_of_lt (Nat.lt_succ_of_lt A6)),Heap.get?_push_ne _ _ _ (by rw[Heap.size_update];exact Nat.ne_of_lt A6),Heap.get?_update_ne _ _ _ _ hb];exact e
 have r6:=ZF _ keep;show wpAny (model prog w) A _ P E { s with heap:=((s.heap.update a (Obj.mapSeq fun _=>#[])).push (seqObj "tuple" vs.toArray 0)).push (seqObj "list" #[] 0) };generalize hh6:((s.heap.update a (Obj.mapSeq fun _=>#[])).push (seqObj "tuple" vs.toArray 0)).push (seqObj "list" #[] 0)=h6 at *;have gK:∀u∈vs,B9 h6 u=B9 s.heap u:=fun u JF=>by
  obtain⟨i,hi⟩:=List.mem_iff_getElem?.mp JF;have hl:=r.length;have tO:=(List.getElem?_eq_some_iff.mp hi).1;have hd:ds[i]?=some (ds[i]'(by lia)):=List.getElem?_eq_getElem (by lia);obtain⟨u1,q1,q2⟩:=r.get hd;obtain⟨u2,q3,q4⟩:=r6.get hd;rw[hi]at q1 q3;cases q1;cases q3;have p:=O.pl _ (List.getElem_mem (by lia:i<ds.length));rw[CB p q2,CB p q4]
 dsimp only;have kE:vs.toArray.size=vs.length:=by simp
 by_cases h2:vs.toArray.size<2
 ·rw[if_pos h2,if_pos h2];refine wpAny_bind (wpAny_pure ?_);rw[StateT.run_pure];refine wpAny_bind (wpAny_pure ?_);dsimp only;refine wpAny_bind (seqEpoch_at jW rfl ?_);refine wpAny_bind (listUpdate_at jW rfl ?_ (Nat.zero_le _) (by rw[Array.size_map];show(pairsOf vs).size<=_;rw[pairsOf_size];lia));simp only[bne_self_eq_false,Bool.false_eq_true,if_false];have e:(vs.toArray.zip vs.toArray).map (·.2)=vs.toArray:=by
   apply Array.toList_inj.mp;rw[Array.toList_map];show(pairsOf vs).toList.map (·.2)=vs;rw[pairsOf_toList,List.map_snd_zip (Nat.le_refl _)]
  have:=h vs.toArray (by simp) (by
   rw[kE]at h2;exact Yg (by simpa using h2))
  refine wpAny_pure ?_;unfold sortedHeap at this;rw[hh6]at this;show P _ { s with heap:=h6.update a (Obj.mapSeq fun _=>(vs.toArray.zip vs.toArray).map (·.2)) };rw[e];exact this
 rw[if_neg h2,if_neg h2];have BS:0<vs.length:=by lia
 obtain⟨fl,gL,jK⟩:∃fl:Bool,(fl=true->∀x∈ds,∃i l,x=.tup (.int i::l))/\∀(Q:SortKind->Shared->Prop),Q (tuples' fl) { s with heap:=h6 }->wpAny (model prog w) A (keyKind' vs.toArray) Q E { s with heap:=h6 }:=by
  rcases O.one with Je|Je
  ·refine⟨true,fun _=>Je,fun Q hQ=>?_⟩;obtain⟨fs,k1,k2,k3⟩:=IF (prog:=prog) (w:=w) (s:={ s with heap:=h6 }) (g:=g) (T:=.type "int") r6 fun x hx=>by
    obtain⟨i,l,rfl⟩:=Je x hx;refine⟨_,l,rfl,fun u JF=>?_⟩;rw[AtH]at JF;obtain⟨t,rfl⟩:=JF;exact PySem.W.Looks.of_pure rfl
   exact PySem.W.kat_kind k1 (by lia) k3 rfl hQ
  ·refine⟨false,(fun h=>nomatch h),fun Q hQ=>?_⟩;obtain⟨fs,k1,k2,k3⟩:=IF (prog:=prog) (w:=w) (s:={ s with heap:=h6 }) (g:=g) (T:=.type "tuple") r6 fun x hx=>by
    obtain⟨i,l,rfl⟩:=Je x hx;refine⟨_,l,rfl,fun u JF=>?_⟩;rw[AtH]at JF;obtain⟨b,is,rfl,⟨o,q1,q2,_⟩,_⟩:=JF
    have:=(PySem.W.Looks.ld (M:=model prog w) (part:=none) q1).andThen (f:=fun o=>pure o.cls) (b:=o.cls) .now
    rw[q2]at this;exact(show PySem.W.Looks (model prog w) h6 (typeOf (.ref b)) (.type "tuple")from q2▸(PySem.W.Looks.ld q1).andThen .now)
   exact PySem.W.kat_kind k1 (by lia) k3 rfl hQ
 refine wpAny_bind (jK _ ?_);have hc:=ZL (prog:=prog) (w:=w) (A:=A) (s:={ s with heap:=h6 }) (g:=g) r6 O gL hu;refine wpAny_bind (wpAny_mono (TS.wpS_sortRuns (st:=SortSt.mk' (tuples' fl) (vs.toArray.zip vs.toArray) #[] 7 none) (Q:=fun _ AX=>TS.SB (pairsOf vs) (tuples' fl) AX/\TS.Srt (fun p=>rkD g ds (B9 h6 p.1)) (arrOf AX).toList) hc ⟨Array.Perm.refl _,rfl,rfl⟩ rfl fun AX b1 b2=>⟨b1,b2⟩) ?_ fun _ _ e=>e);rintro⟨⟨⟩,AX⟩ s' ⟨rfl,hB,hS⟩;dsimp only;refine wpAny_bind (seqEpoch_at jW rfl ?_);have jz:(arrOf AX).toList.Perm (vs.zip vs):=by rw[<-pairsOf_toList];exact Array.perm_iff_toList_perm.mp hB.perm
 refine wpAny_bind (listUpdate_at jW rfl ?_ (Nat.zero_le _) (by rw[Array.size_map,hB.size,pairsOf_size];lia));have ri:failedOf AX=none:=hB.failed;rw[ri];simp only[bne_self_eq_false,Bool.false_eq_true,if_false];refine wpAny_pure ?_
 have:=h ((arrOf AX).map (·.2)) (by
  rw[Array.toList_map]
  have:=jz.map (·.2)
  rwa [List.map_snd_zip (Nat.le_refl _)]at this) (by
  rw[Array.toList_map,List.map_map,List.pairwise_map];refine List.Pairwise.imp_of_mem (fun {x y} hx hy hle=>?_) hS;have mx:=mem_zip_self (jz.mem_iff.mp hx);have my:=mem_zip_self (jz.mem_iff.mp hy);show HT.lexLt (g (B9 s.heap y.2)) (g (B9 s.heap x.2))=false;rw[<-mx.1,<-my.1,<-gK _ mx.2,<-gK _ my.2];obtain⟨dx,oX,pV⟩:=r6.mem _ mx.2;obtain⟨dy,oK,sG⟩:=r6.mem _ my.2;have lz:rkD g ds (B9 h6 x.1)<=rkD g ds (B9 h6 y.1):=hle;rw[CB (O.pl _ oX) pV,CB (O.pl _ oK) sG]at lz ⊢;rw[<-X1 g ds oK oX];exact decide_eq_false (by lia))
 unfold sortedHeap at this;rw[hh6]at this;exact this
end
end
end TF
namespace TF
open PySem PySem.Spec L2
open PyProof.Rows hiding St RelV
inductive Tri (K:PySem.W.Frag) (H:Hp):List Dat->List V->List Value->Prop
 |nil:Tri K H [] [] []
 |cons {d v u ds vs us} (h:Rep K H d v) (r:RelV v u) (t:Tri K H ds vs us):Tri K H (d::ds) (v::vs) (u::us)
theorem Y3{K:PySem.W.Frag}{H:Hp}:∀{ds:List Dat}{vs:List V}{us:List Value},RepL K H ds vs->Vals vs us->Tri K H ds vs us
 |[],_,_,r,v=>by rw[RepL]at r;subst r;cases v;exact .nil
 |d::ds,_,_,r,v=>by
  rw[RepL]at r;obtain⟨x,r',rfl,h1,h2⟩:=r;cases v with
  |cons q t=>exact .cons h1 q (Y3 h2 t)
theorem Tri.rep{K:PySem.W.Frag}{H:Hp}{ds:List Dat}{vs:List V}{us:List Value}(h:Tri K H ds vs us):RepL K H ds vs/\Vals vs us:=by
 induction h with
 |nil=>exact⟨RepL.nil,.nil⟩
 |cons h r t ih=>exact⟨RepL.cons h ih.1,.cons r ih.2⟩
theorem Tri.same{K:PySem.W.Frag}{H H':Hp}{ds:List Dat}{vs:List V}{us:List Value}(e:Same H H')(h:Tri K H ds vs us):Tri K H' ds vs us:=by
 induction h with
 |nil=>exact .nil
 |cons h r t ih=>exact .cons (h.same e) r ih
theorem Qp{K:PySem.W.Frag}{H:Hp}{us mY:List Value}(p:mY.Perm us):∀{ds:List Dat}{vs:List V},Tri K H ds vs us->∃II MP,Tri K H II MP mY/\II.Perm ds:=by
 induction p with
 |nil=>intro ds vs h;exact⟨ds,vs,h,.refl _⟩
 |cons x p ih=>
  intro ds vs h;cases h with
  |cons h r t=>
   obtain⟨II,MP,t',p'⟩:=ih t;exact⟨_,_,.cons h r t',p'.cons _⟩
 |swap x y l=>
  intro ds vs h;cases h with
  |cons h r t=>
   cases t with
   |cons h2 r2 t2=>exact⟨_,_,.cons h2 r2 (.cons h r t2),.swap ..⟩
 |trans p1 p2 i1 i2=>
  intro ds vs h;obtain⟨II,MP,t',p'⟩:=i2 h;obtain⟨qa,gE,t2,qR⟩:=i1 t';exact⟨qa,gE,t2,qR.trans p'⟩
theorem TJ{X:Cx}{AD:List (Addr×Obj)}{σ:St}{H:Hp}{s:Shared}(I:Inv X AD σ H s){g:Dat->List Int}{ds:List Dat}{vs:List V}{us:List Value}(h:Tri X.K H ds vs us)(pl:∀d∈ds,AJ 8 d=true):us.map (fun u=>g (B9 s.heap u))=ds.map g:=by
 induction h with
 |nil=>rfl
 |cons h r t ih=>
  rw[List.map_cons,List.map_cons,ih fun d hd=>pl d (List.mem_cons_of_mem _ hd)];have p:=pl _ (List.mem_cons_self ..);rw[CB p (h.at I p r)]
section
variable {X:Cx}{ρ:Rho}{G:Gs}{e a b c:Expr}{d d1 d2:Dat}{ds l m:List Dat}{pos:Pos}
theorem O8(g:Dat->List Int)(ds:List Dat)(O:OrdL g ds)(hu:X.A.units+20<cLine):Cc X (.builtin "sorted") (fun xs H Q=>∃p vs H0,xs=[.ref p]/\SqL X.K H p vs/\Same H0 H/\RepL X.K H0 ds vs ∧
  ∀q II MP,H q=none->RepL X.K H0 II MP->II.Perm ds->(II.map g).Pairwise (fun x y=>HT.lexLt y x=false)->Q (.ref q) (upd H q (.lst MP))):=by
 intro AD s σ H xs us Q I r h;obtain⟨p,vs,H0,rfl,hq,me,rd,q⟩:=h;obtain⟨u,rfl,rx⟩:=JQ r;cases rx;obtain⟨AY,r',pl,hz⟩:=I.list hq;have T:=Y3 rd r';have A2:vs.length=AY.length:=r'.length;have ra:AtL s.heap ds AY:=(rd.same me).at I (by rw[List.all_eq_true];exact O.pl) r';refine Calls.call_function_entry kind_sorted plain_sorted entry_sorted (args_sorted1 _) ?_;unfold Builtin.«sorted»;refine wpAny_bind (m:=checkCount "sorted" 1 1 _) (wpAny_pure ?_);refine wpAny_bind (collect_list pl.isList ?_ (by lia));refine wpAny_bind (wpAny_newList ?_ (by lia));have hsz:((s.heap.push (seqObj "list" #[] 0)).update s.heap.objs.size (Obj.mapSeq (·++AY.toArray))).objs.size=s.heap.objs.size+1:=by
  rw[Heap.size_update,size_push']
 have bz:(((s.heap.push (seqObj "list" #[] 0)).update s.heap.objs.size (Obj.mapSeq (·++AY.toArray))).push (seqObj "list" AY.toArray 0)).get? (s.heap.objs.size+1)=some (seqObj "list" AY.toArray 0):=by
  rw[<-hsz];exact Heap.get?_push_size _ rfl
 have keep:∀b o,s.heap.get? b=some o->(((s.heap.push (seqObj "list" #[] 0)).update s.heap.objs.size (Obj.mapSeq (·++AY.toArray))).push (seqObj "list" AY.toArray 0)).get? b=some o:=fun b o e=>by
  have A6:b<s.heap.objs.size:=Heap.lt_size e;rw[Heap.get?_push_ne _ _ _ (by rw[hsz];exact Nat.ne_of_lt (Nat.lt_succ_of_lt A6)),Heap.get?_update_ne _ _ _ _ (Nat.ne_of_lt A6),Heap.get?_push_ne _ _ _ (Nat.ne_of_lt A6)];exact e
 show wpAny _ _ _ _ _ { s with heap:=((s.heap.push (seqObj "list" #[] 0)).update s.heap.objs.size (Obj.mapSeq (·++AY.toArray))).push (seqObj "list" AY.toArray 0) };rw[hsz];refine wpAny_bind (wpAny_holding (wpAny_call_entry slot_list_sort ⟨_,bz,rfl⟩ entry_list_sort (L4 (g:=g) (ds:=ds) bz (ra.kept keep) (fun _ _ _ _=>trivial) (fun h' k=>ra.kept fun b o e=>k b o (Nat.ne_of_lt (Nat.lt_succ_of_lt (Heap.lt_size e))) (keep b o e)) O (by lia) (by show X.A.units+1+1+8<cLine;lia) fun out hp hs=>⟨_,rfl,?_⟩) (args_list_sort _)));refine wpAny_pure ⟨_,rfl,?_⟩;obtain⟨II,MP,T',bU⟩:=Qp hp T;obtain⟨cy,hJ⟩:=T'.rep;have gu:MP.length<=sizeLine:=by
  have e1:=hJ.length;have e2:=hp.length_eq;lia
 obtain⟨ep,kF⟩:=sortedAll_at s.heap AY out;have Fx:∀u∈out.toList,B9 (((s.heap.push (seqObj "list" #[] 0)).update s.heap.objs.size (Obj.mapSeq (·++AY.toArray))).push (seqObj "list" AY.toArray 0)) u=B9 s.heap u:=fun u JF=>by
  obtain⟨d,hd,hr⟩:=ra.mem u (hp.mem_iff.mp JF);rw[CB (O.pl d hd) hr,CB (O.pl d hd) (hr.kept keep)]
 have i8:(II.map g).Pairwise (fun x y=>HT.lexLt y x=false):=by
  rw[<-TJ I (T'.same me) (fun d hd=>O.pl d (bU.mem_iff.mp hd))];have e:out.toList.map (fun u=>g (B9 s.heap u))=out.toList.map (fun u=>g (B9 (((s.heap.push (seqObj "list" #[] 0)).update s.heap.objs.size (Obj.mapSeq (·++AY.toArray))).push (seqObj "list" AY.toArray 0)) u)):=
   List.map_congr_left fun u JF=>by rw[Fx u JF]
  rw[e];exact hs
 refine⟨.ref (s.heap.objs.size+1),upd H (s.heap.objs.size+1) (.lst MP),?_,rfl,q _ II MP ?_ cy bU i8⟩
 ·refine I.laid (t':=s.toks) (o:=.lst MP) (fun b o e=>sortedAll_old e) (Nat.le_succ _) ?_;exact⟨gu,out.toList,ep,hJ,by rw[Array.toArray_toList];exact kF⟩
 ·exact I.hok.fresh (Nat.le_succ _)
theorem Vh{pp:Pos}(g:Dat->List Int)(hu:X.A.units+20<cLine)(hm:X.mg "sorted"=none)(ha:PX X ρ G a d1)(hl:d1=.lst l\/∃p,d1=.fn p/\G p=some (.lst l))(O:OrdL g l)(hq:∀l',l'.Perm l->(l'.map g).Pairwise (fun x y=>HT.lexLt y x=false)->l'=m)(hg:Gl X "sorted":=by rfl)(he:starEach [a] X.env=(false,eval a X.env)::starEach [] X.env:=by rfl):PX X ρ G (.Call (.Name "sorted" pp) [a] [] pos) (.lst m):=En (O8 g l O hu) hg hm (by decide +kernel) ha (fun H x Q o r k=>by
  have:∃p vs,x=.ref p/\SqL X.K H p vs/\RepL X.K (hid H G) l vs:=by
   rcases hl with rfl|⟨p,rfl,hG⟩
   ·rw[Rep]at r;obtain⟨p,vs,e,h1,h2⟩:=r;exact⟨p,vs,e,SqL.of (AK _ _ h1),h2⟩
   ·obtain⟨vs,h1,h2⟩:=o p _ hG;exact⟨p,vs,r,SqL.of h1,h2⟩
  obtain⟨p,vs,e,h1,h2⟩:=this;refine⟨p,vs,hid H G,by rw[e],h1,AK,h2,fun q II MP YA r' To i8=>?_⟩;obtain rfl:=hq II To i8;exact k _ _ (HW o YA r')) (he:=he)
end
mutual
def flat:Dat->List Int
 |.int i=>[i]
 |.tup l=>BZ l
 |_=>[]
def BZ:List Dat->List Int
 |[]=>[]
 |d::r=>flat d++BZ r
end
abbrev lx:List Int->List Int->Bool:=HT.lexLt
theorem RO(a b c:List Int):lx (a++b) (a++c)=lx b c:=by
 induction a with
 |nil=>rfl
 |cons x a ih=>show HT.lexLt (x::(a++b)) (x::(a++c))=_;rw[HT.lexLt_cons,if_pos rfl];exact ih
theorem UP:∀{a a':List Int}(b c:List Int),a.length=a'.length->a≠a'->lx (a++b) (a'++c)=lx a a'
 |[],[],_,_,_,h=>absurd rfl h
 |[],_::_,_,_,h,_=>by simp at h
 |_::_,[],_,_,h,_=>by simp at h
 |x::a,y::a',b,c,hl,hn=>by
  show HT.lexLt (x::(a++b)) (y::(a'++c))=HT.lexLt (x::a) (y::a');rw[HT.lexLt_cons,HT.lexLt_cons];by_cases e:x=y
  ·subst e;rw[if_pos rfl,if_pos rfl];exact UP b c (by simpa using hl) fun z=>hn (by rw[z])
  ·rw[if_neg e,if_neg e]
structure FlD (c:Nat) (x y:Dat):Prop where
 lx:(flat x).length=c
 ly:(flat y).length=c
 eq:eqD x y=decide (flat x=flat y)
 lt:Cq true x y=TF.lx (flat x) (flat y)
theorem Iu{c:Nat}(hc:0<c):∀(l m:List Dat),(∀x∈l,∀y∈m,FlD c x y)->(∀x∈l,(flat x).length=c)->(∀y∈m,(flat y).length=c)->CF true l m=lx (BZ l) (BZ m)/\eqL l m=decide (BZ l=BZ m)
 |[],[],_,_,_=>⟨rfl,rfl⟩
 |[],y::m,_,_,h2=>by
  have:=h2 y (List.mem_cons_self ..)
  have BS:BZ (y::m)≠[]:=by
   intro e;rw[BZ]at e
   have:=congrArg List.length e
   simp at this;simp[this]at *;lia
  obtain⟨z,t,e⟩:=List.exists_cons_of_ne_nil BS;constructor
  ·rw[CF,BZ,e];rfl
  ·rw[show eqL [] (y::m)=false from rfl,show BZ ([]:List Dat)=[]from rfl,e];rfl
 |x::l,[],_,h1,_=>by
  have:=h1 x (List.mem_cons_self ..)
  have BS:BZ (x::l)≠[]:=by
   intro e;rw[BZ]at e
   have:=congrArg List.length e
   simp at this;simp[this]at *;lia
  obtain⟨z,t,e⟩:=List.exists_cons_of_ne_nil BS;constructor
  ·rw[CF,e];rfl
  ·rw[show eqL (x::l) []=false from rfl,e];rfl
 |x::l,y::m,h,h1,h2=>by
  have F:=h x (List.mem_cons_self ..) y (List.mem_cons_self ..);obtain⟨i1,i2⟩:=Iu hc l m (fun x hx y hy=>h x (List.mem_cons_of_mem _ hx) y (List.mem_cons_of_mem _ hy)) (fun x hx=>h1 x (List.mem_cons_of_mem _ hx)) fun y hy=>h2 y (List.mem_cons_of_mem _ hy);rw[CF,eqL,BZ,BZ,F.eq,F.lt,i1,i2];by_cases e:flat x=flat y
  ·rw[decide_eq_true e,if_pos rfl,e];refine⟨(RO _ _ _).symm,?_⟩;rw[Bool.true_and];simp
  ·rw[decide_eq_false e,if_neg (by decide)];refine⟨(UP _ _ (by rw[F.lx,F.ly]) e).symm,?_⟩;rw[Bool.false_and];refine(decide_eq_false fun z=>e ?_).symm;exact(List.append_inj z (by rw[F.lx,F.ly])).1
theorem UL{c k:Nat}(hc:0<c){l m:List Dat}(h:∀x∈l,∀y∈m,FlD c x y)(h1:∀x∈l,(flat x).length=c)(h2:∀y∈m,(flat y).length=c)(Rt:(BZ l).length=k)(Iq:(BZ m).length=k):FlD k (.tup l) (.tup m):=by obtain⟨i1,i2⟩:=Iu hc l m h h1 h2;exact⟨by rw[flat];exact Rt,by rw[flat];exact Iq,by rw[eqD,flat,flat];exact i2,by rw[Cq,flat,flat];exact i1⟩
theorem Uc(i j:Int):FlD 1 (.int i) (.int j):=by
 refine⟨rfl,rfl,?_,?_⟩
 ·simp only[eqD,flat];rw[Bool.eq_iff_iff];simp
 ·rw[Cq,flat,flat];show _=HT.lexLt [i] [j];rw[HT.lexLt_cons];by_cases e:i=j
  ·subst e;simp;rfl
  ·rw[if_neg e];rfl
theorem OP(p q:Sq):FlD 2 (sq p) (sq q):=by
 refine UL (c:=1) (by decide) ?_ ?_ ?_ rfl rfl
 ·intro x hx y hy;simp only[List.mem_cons,List.not_mem_nil,or_false]at hx hy;rcases hx with rfl|rfl<;>rcases hy with rfl|rfl<;>exact Uc _ _
 ·intro x hx;simp only[List.mem_cons,List.not_mem_nil,or_false]at hx;rcases hx with rfl|rfl<;>rfl
 ·intro x hx;simp only[List.mem_cons,List.not_mem_nil,or_false]at hx;rcases hx with rfl|rfl<;>rfl
theorem Ej(p q:Sq×Sq):FlD 4 (AU p) (AU q):=by
 refine UL (c:=2) (by decide) ?_ ?_ ?_ rfl rfl
 ·intro x hx y hy;simp only[List.mem_cons,List.not_mem_nil,or_false]at hx hy;rcases hx with rfl|rfl<;>rcases hy with rfl|rfl<;>exact OP _ _
 ·intro x hx;simp only[List.mem_cons,List.not_mem_nil,or_false]at hx;rcases hx with rfl|rfl<;>rfl
 ·intro x hx;simp only[List.mem_cons,List.not_mem_nil,or_false]at hx;rcases hx with rfl|rfl<;>rfl
abbrev Bz:=Sq×Sq
abbrev Lay:=List Bz
def lay(L:Lay):Dat:=.tup (L.map AU)
theorem Tn(L M:Lay):Cq true (lay L) (lay M)=lx (flat (lay L)) (flat (lay M))/\eqD (lay L) (lay M)=decide (flat (lay L)=flat (lay M)):=by
 have:=Iu (c:=4) (by decide) (L.map AU) (M.map AU) (fun x hx y hy=>by
  obtain⟨p,_,rfl⟩:=List.mem_map.mp hx;obtain⟨q,_,rfl⟩:=List.mem_map.mp hy;exact Ej p q) (fun x hx=>by obtain⟨p,_,rfl⟩:=List.mem_map.mp hx;rfl) fun x hx=>by obtain⟨p,_,rfl⟩:=List.mem_map.mp hx;rfl
 simp only[lay,Cq,eqD,flat];exact this
theorem CI{p q:Bz}(h:AU p=AU q):p=q:=by obtain⟨a,b⟩:=p;obtain⟨c,d⟩:=q;simp only[AU,Dat.tup.injEq,List.cons.injEq,and_true]at h;rw[EX h.1,EX h.2]
theorem KG{p q:Sq}(h:flat (sq p)=flat (sq q)):p=q:=by obtain⟨a,b⟩:=p;obtain⟨c,d⟩:=q;simp[sq,flat,BZ]at h;rw[h.1,h.2]
theorem Ds{p q:Bz}(h:flat (AU p)=flat (AU q)):p=q:=by obtain⟨⟨a,b⟩,a',b'⟩:=p;obtain⟨⟨c,d⟩,c',d'⟩:=q;simp[AU,sq,flat,BZ]at h;obtain⟨rfl,rfl,rfl,rfl⟩:=h;rfl
theorem JA:∀{L M:Lay},flat (lay L)=flat (lay M)->L=M
 |[],[],_=>rfl
 |[],_::_,h=>by simp[lay,flat,BZ,AU,sq]at h
 |_::_,[],h=>by simp[lay,flat,BZ,AU,sq]at h
 |p::L,q::M,h=>by
  have h':flat (AU p)++flat (lay L)=flat (AU q)++flat (lay M):=h;obtain⟨h1,h2⟩:=List.append_inj h' (by rw[(Ej p q).lx,(Ej p q).ly]);rw[Ds h1,JA h2]
structure TyD (α:Type) where
 f:α->Dat
 inj:∀{x y},flat (f x)=flat (f y)->x=y
 lt:∀x y,Cq true (f x) (f y)=lx (flat (f x)) (flat (f y))
 eq:∀x y,eqD (f x) (f y)=decide (flat (f x)=flat (f y))
 pl:∀x,AJ 8 (f x)=true
 ord:∀x y,CN 8 (f x) (f y)=true
section
variable {α:Type}(T:TyD α)
def TyD.le(x y:α):Bool:=!lx (flat (T.f y)) (flat (T.f x))
def TyD.lt'(x y:α):Prop:=lx (flat (T.f x)) (flat (T.f y))=true
def TyD.sort(l:List α):List α:=l.mergeSort T.le
theorem TyD.sort_perm(l:List α):(T.sort l).Perm l:=List.mergeSort_perm l _
theorem TyD.le_trans(x y z:α)(h1:T.le x y=true)(h2:T.le y z=true):T.le x z=true:=by
 unfold TyD.le at *;simp only[Bool.not_eq_true']at *;cases e:lx (flat (T.f z)) (flat (T.f x))with
 |false=>rfl
 |true=>
  rcases Yk (b:=flat (T.f y)) e with q|q
  ·rw[show lx=HT.lexLt from rfl]at h2;rw[h2]at q;cases q
  ·rw[show lx=HT.lexLt from rfl]at h1;rw[h1]at q;cases q
theorem TyD.le_total(x y:α):(T.le x y||T.le y x)=true:=by
 unfold TyD.le;cases e:lx (flat (T.f y)) (flat (T.f x))with
 |false=>rfl
 |true=>
  cases e2:lx (flat (T.f x)) (flat (T.f y))with
  |false=>rfl
  |true=>
   have:=Gk e e2
   rw[Ea]at this;cases this
theorem TyD.sort_sorted(l:List α):(T.sort l).Pairwise fun x y=>T.le x y=true:=List.pairwise_mergeSort T.le_trans T.le_total l
theorem TyD.uniq:∀{l m:List α},l.Perm m->l.Pairwise (fun x y=>T.le x y=true)->m.Pairwise (fun x y=>T.le x y=true)->l=m
 |[],m,p,_,_=>by rw[List.nil_perm.mp p]
 |x::l,[],p,_,_=>by have:=p.length_eq;simp at this
 |x::l,y::m,p,h1,h2=>by
  obtain⟨a1,a2⟩:=List.pairwise_cons.mp h1;obtain⟨b1,b2⟩:=List.pairwise_cons.mp h2;have qm:x=y:=by
   have hx:x∈y::m:=p.mem_iff.mp (List.mem_cons_self ..);have hy:y∈x::l:=p.mem_iff.mpr (List.mem_cons_self ..);rcases List.mem_cons.mp hx with e|hx
   ·exact e
   rcases List.mem_cons.mp hy with e|hy
   ·exact e.symm
   have q1:=a1 y hy;have q2:=b1 x hx;unfold TyD.le at q1 q2;simp only[Bool.not_eq_true']at q1 q2;exact T.inj (HI q2 q1)
  subst qm;rw[TyD.uniq (List.perm_cons _ |>.mp p) a2 b2]
end
theorem Wt{α:Type}(T:TyD α)(l:List α)(one:(∀x,∃i r,T.f x=.tup (.int i::r))\/∀x,x∈l->∃k r,T.f x=.tup (.tup k::r)):OrdL flat (l.map T.f):=by
 refine⟨fun x hx y hy=>?_,fun x hx y hy=>?_,fun x hx=>?_,fun x hx=>?_,?_⟩
 ·obtain⟨p,_,rfl⟩:=List.mem_map.mp hx;obtain⟨q,_,rfl⟩:=List.mem_map.mp hy;exact T.lt p q
 ·obtain⟨p,_,rfl⟩:=List.mem_map.mp hx;obtain⟨q,_,rfl⟩:=List.mem_map.mp hy;exact T.ord p q
 ·obtain⟨p,_,rfl⟩:=List.mem_map.mp hx;exact T.pl p
 ·obtain⟨p,hp,rfl⟩:=List.mem_map.mp hx;rcases one with o|o
  ·obtain⟨i,r,e⟩:=o p;exact⟨_,_,e⟩
  ·obtain⟨i,r,e⟩:=o p hp;exact⟨_,_,e⟩
 ·rcases one with o|o
  ·exact .inl fun x hx=>by obtain⟨p,_,rfl⟩:=List.mem_map.mp hx;exact o p
  ·exact .inr fun x hx=>by obtain⟨p,hp,rfl⟩:=List.mem_map.mp hx;exact o p hp
theorem Pw{α:Type}(f:α->Dat):∀{l':List Dat}{l:List α},l'.Perm (l.map f)->∃m:List α,l'=m.map f/\m.Perm l:=by
 intro l' l p;have:∀{a b:List Dat},a.Perm b->∀l:List α,b=l.map f->∃m:List α,a=m.map f/\m.Perm l:=by
  intro a b p
  induction p with
  |nil=>intro l e;exact⟨[],rfl,by cases l with|nil=>exact .refl _|cons _ _=>simp at e⟩
  |cons x p ih=>
   intro l e;cases l with
   |nil=>simp at e
   |cons y l=>
    rw[List.map_cons]at e;obtain⟨rfl,e2⟩:=List.cons.inj e;obtain⟨m,h1,h2⟩:=ih l e2;exact⟨y::m,by rw[h1];rfl,h2.cons _⟩
  |swap x y r=>
   intro l e
   match l,e with
   |y'::x'::l,e=>
    simp only[List.map_cons,List.cons.injEq]at e;obtain⟨rfl,rfl,rfl⟩:=e;exact⟨x'::y'::l,rfl,.swap ..⟩
   |[],e=>simp at e
   |[_],e=>simp at e
  |trans p1 p2 i1 i2=>
   intro l e;obtain⟨m,h1,h2⟩:=i2 l e;obtain⟨m2,h3,h4⟩:=i1 m h1;exact⟨m2,h3,h4.trans h2⟩
 exact this p l rfl
section
variable {X:Cx}{ρ:Rho}{G:Gs}{a:Expr}{d1:Dat}{pos:Pos}
theorem D3{α:Type}(T:TyD α)(l:List α){pp:Pos}(hu:X.A.units+20<cLine)(hm:X.mg "sorted"=none)(ha:PX X ρ G a d1)(hl:d1=.lst (l.map T.f)\/∃p,d1=.fn p/\G p=some (.lst (l.map T.f)))(one:(∀x,∃i r,T.f x=.tup (.int i::r))\/∀x,x∈l->∃k r,T.f x=.tup (.tup k::r))(hg:Gl X "sorted":=by rfl)(he:starEach [a] X.env=(false,eval a X.env)::starEach [] X.env:=by rfl):PX X ρ G (.Call (.Name "sorted" pp) [a] [] pos) (.lst ((T.sort l).map T.f)):=Vh flat hu hm ha hl (Wt T l one) (fun l' hp hs=>by
  obtain⟨m,rfl,q9⟩:=Pw T.f hp;rw[TyD.uniq T (q9.trans (T.sort_perm l).symm) ?_ (T.sort_sorted l)];rw[List.map_map,List.pairwise_map]at hs;refine hs.imp fun {x y} h=>?_;unfold TyD.le;have:lx (flat (T.f y)) (flat (T.f x))=false:=h;rw[this];rfl) hg he
end
def TSq:TyD Sq:=⟨sq,KG,fun x y=>(OP x y).lt,fun x y=>(OP x y).eq,fun x=>AZ x 7,fun _ _=>rfl⟩
theorem DG(p:Bz):AJ 8 (AU p)=true:=by simp only[AU,AJ,List.all_cons,List.all_nil,Bool.and_true,Bool.and_eq_true];exact⟨AZ _ 6,AZ _ 6⟩
def TSt:TyD Bz:=⟨AU,Ds,fun x y=>(Ej x y).lt,fun x y=>(Ej x y).eq,DG,fun _ _=>rfl⟩
theorem VO(L:Lay):AJ 8 (lay L)=true:=by simp only[lay,AJ,List.all_eq_true];intro x hx;obtain⟨p,_,rfl⟩:=List.mem_map.mp hx;simp only[AU,AJ,List.all_cons,List.all_nil,Bool.and_true,Bool.and_eq_true];exact⟨AZ _ 5,AZ _ 5⟩
theorem aX(L M:Lay):CN 8 (lay L) (lay M)=true:=by
 simp only[lay,CN,List.all_eq_true];intro x hx
 have:=List.of_mem_zip (show(x.1,x.2)∈_ from hx)
 obtain⟨p,_,e1⟩:=List.mem_map.mp this.1;obtain⟨q,_,e2⟩:=List.mem_map.mp this.2;rw[<-e1,<-e2];rfl
def Kd:TyD Lay:=⟨lay,JA,fun x y=>(Tn x y).1,fun x y=>(Tn x y).2,VO,aX⟩
theorem K4{s:Shared}{A:Around}{n:Nat}(hu:A.units+1+n<cLine){l m:List Dat}{is js:List Value}(hl:l.all (AJ n)=true)(hm:m.all (AJ n)=true)(rl:AtL s.heap l is)(rm:AtL s.heap m js) :
  ∀j (h1:j<is.toArray.size) (h2:j<js.toArray.size),SeqAt.EqAt A.in1 s is.toArray[j] js.toArray[j] ((fun j=>match l[j]?,m[j]? with|some x,some y=>eqD x y|_,_=>true) j):=by
 intro j h1 h2;have PD:j<is.length:=by simpa using h1
 have RW:j<js.length:=by simpa using h2
 have l1:j<l.length:=by rw[<-rl.length];exact PD
 have l2:j<m.length:=by rw[<-rm.length];exact RW
 obtain⟨u1,f1,q1⟩:=rl.get (List.getElem?_eq_getElem l1);obtain⟨u2,f2,q2⟩:=rm.get (List.getElem?_eq_getElem l2);rw[List.getElem?_eq_getElem PD]at f1;rw[List.getElem?_eq_getElem RW]at f2;cases f1;cases f2;have hx:AJ n l[j]=true:=List.all_eq_true.mp hl _ (List.getElem_mem l1);have hy:AJ n m[j]=true:=List.all_eq_true.mp hm _ (List.getElem_mem l2)
 have:=(GN (A:=A.in1) n hx hy q1 q2 hu).1
 simpa[List.getElem?_eq_getElem l1,List.getElem?_eq_getElem l2]using this
def UB:Dat->Dat->Bool
 |.tup _,.tup _=>true
 |.lst _,.lst _=>true
 |.int _,.int _=>true
 |.str _,.str _=>true
 |.bl _,.bl _=>true
 |_,_=>false
theorem dR{s:Shared}{A:Around}{d e:Dat}{u v:Value}(ha:UB d e=true)(hd:AJ 9 d=true)(he:AJ 9 e=true)(rd:AtH s.heap d u)(re:AtH s.heap e v)(hu:A.units+9<cLine):SeqAt.RcNeAt A s u v (!eqD d e):=by
 cases d<;>cases e<;>simp only[UB,Bool.false_eq_true]at ha<;>rw[AtH]at rd re
 ·subst rd;subst re;simp only[eqD];exact SeqAt.RcNeAt.bool_bool _ _
 ·obtain⟨t,rfl⟩:=rd;obtain⟨t',rfl⟩:=re;simp only[eqD];exact SeqAt.RcNeAt.int_int _ _ _ _
 ·obtain⟨t,rfl⟩:=rd;obtain⟨t',rfl⟩:=re;simp only[eqD];exact SeqAt.RcNeAt.str_str _ _ _ _
 ·rename_i l m;obtain⟨a,is,rfl,ti,rl⟩:=rd;obtain⟨b,js,rfl,tj,rm⟩:=re
  have:=SeqAt.RcNeAt.tuples (A:=A) ti tj (by lia) (K4 (n:=8) (by lia) (by simpa[AJ]using hd) (by simpa[AJ]using he) rl rm)
  rw[eqD,Ew];rw[List.size_toArray,List.size_toArray,rl.length,rm.length]at this;exact this
 ·rename_i l m;obtain⟨a,is,rfl,ti,rl⟩:=rd;obtain⟨b,js,rfl,tj,rm⟩:=re;have e1:is.toArray.size=l.length:=by rw[List.size_toArray,rl.length]
  have e2:js.toArray.size=m.length:=by rw[List.size_toArray,rm.length]
  rw[eqD,Ew];by_cases hsz:l.length=m.length
  ·have:=SeqAt.RcNeAt.lists (A:=A) ti tj (by rw[e1,e2,hsz]) (by lia) (K4 (n:=8) (by lia) (by simpa[AJ]using hd) (by simpa[AJ]using he) rl rm)
   rw[e1]at this;rw[hsz,Nat.min_self,beq_self_eq_true,Bool.and_true,<-hsz];exact this
  ·have:=SeqAt.RcNeAt.lists_lengths (A:=A) ti tj (by rw[e1,e2];simpa using hsz) (by lia)
   rw[show(l.length==m.length)=false by simpa using hsz,Bool.and_false];exact this
section
variable {X:Cx}{ρ:Rho}{G:Gs}{e a b c:Expr}{es:List Expr}{d d' d1 d2 d3 k:Dat}{ds l m:List Dat}{pos:Pos}{i j z:Int}{p:Addr}{D:DE}{rest body:List Stmt}
theorem cc(hu:X.A.units+9<cLine):OpR X (compareOp .NotEq) (fun x y H Q=>∃d e,Rep X.K H d x/\Rep X.K H e y/\UB d e=true/\AJ 9 d=true/\AJ 9 e=true/\Q (.bl (!eqD d e)) H):=by intro AD s σ H x y v u Q I rx ry h;obtain⟨d,e,h1,h2,h3,h4,h5,q⟩:=h;exact dR h3 h4 h5 (h1.at I h4 rx) (h2.at I h5 ry) hu _ _ _ _ ⟨.bl _,H,I,rfl,q⟩
theorem Za(st:Bool)(hu:X.A.units+9<cLine):OpR X (compareOp (gM st)) (fun x y H Q=>∃d e,Rep X.K H d x/\Rep X.K H e y/\CN 9 d e=true/\AJ 9 d=true/\AJ 9 e=true/\Q (.bl (Cq st d e)) H):=by
 intro AD s σ H x y v u Q I rx ry h;obtain⟨d,e,h1,h2,h3,h4,h5,q⟩:=h
 have:=Le (A:=X.A) (s:=s) st 9 h3 h4 h5 (h1.at I h4 rx) (h2.at I h5 ry) hu X.prog X.w X.xe (EP X AD σ Q) ⟨.bl _,H,I,rfl,q⟩
 cases st with
 |true=>exact this
 |false=>exact this
theorem OO(hu:X.A.units+9<cLine)(ha:PX X ρ G a d1)(hb:PX X ρ G b d2)(h:UB d1 d2=true)(p1:AJ 9 d1=true)(p2:AJ 9 d2=true):PXC X ρ G .NotEq a b (.bl (!eqD d1 d2)):=Dy (cc hu) ha hb fun H x y Q o hx hy k=>⟨d1,d2,hx.same AK,hy.same AK,h,p1,p2,k _ _ (Bc o rfl)⟩
theorem Tu(hu:X.A.units+9<cLine)(ha:PX X ρ G a d1)(hb:PX X ρ G b d2)(h:CN 9 d1 d2=true)(p1:AJ 9 d1=true)(p2:AJ 9 d2=true):PXC X ρ G .Lt a b (.bl (Cq true d1 d2)):=Dy (Za true hu) ha hb fun H x y Q o hx hy k=>⟨d1,d2,hx.same AK,hy.same AK,h,p1,p2,k _ _ (Bc o rfl)⟩
theorem ZZ{Q:Dat->Gs->Prop}(ha:PX X ρ G a (.lst l))(hb:WE X ρ G b fun d G'=>∃m,d=.lst m/\l.length+m.length<=sizeLine/\Q (.lst (l++m)) G'):WE X ρ G (.BinOp a .Add b pos) Q:=Bn (ba SO Ax Ax) fun σ H S=>⟨ρ,G,_,ha,S,fun x H1 ⟨_,_,e1,o1,r1,q1,BX⟩=>by
  subst q1;subst BX;refine⟨ρ,_,_,hb,S.ext e1 o1,fun y H2 ⟨d2,G2,e2,o2,r2,m,hm,hz,q⟩=>?_⟩;subst hm;have WH:=r1.same e2.hid;rw[Rep]at WH r2;obtain⟨p1,cV,rfl,h1,s1⟩:=WH;obtain⟨p2,gE,rfl,h2,s2⟩:=r2;refine⟨p1,p2,cV,gE,rfl,rfl,AK _ _ h1,AK _ _ h2,by rw[s1.length,s2.length];exact hz,fun t ht=>?_⟩;have E3:Ext H2 G2 (upd H2 t (.lst (cV++gE))) G2:=Ext.alloc ht;refine⟨.lst (l++m),G2,(e1.trans e2).trans E3,o2.alloc ht,?_,q⟩;rw[Rep];exact⟨t,cV++gE,rfl,Fn (o2.free ht) BJ,(s1.append s2).same E3.hid⟩⟩
end
section
variable {X:Cx}{ρ:Rho}{G:Gs}{elt AN An c:Expr}{scope:Scope}{Aq:Pos}{Nc:List Str}{caps:List (Option Nat)}{l:List Dat}{f:Dat->Rho->Option Rho}
theorem PZ(g:Dat->Dat)(R:Gs->Prop){Q:Dat->Gs->Prop}(Sc:CompSc X scope Nc caps)(CG:X.calm=true)(hi:WI X ρ G AN An fun l' G'=>l'=l/\R G')(hg:∀C s' H' fp,PGD (Ag X Nc scope C s' H' fp) AN f)(hle:∀d ρ',f d (BI caps ρ)=some ρ'->ρ'.length=(BI caps ρ).length/\∀(j:Nat) e,(BI caps ρ)[j]?=some (some e)->ρ'[j]?=some (some e))(hz:l.length<sizeLine)(CW:∀C s' H' fp G' d,d∈l->∃ρ',f d (BI caps ρ)=some ρ'/\PX (Ag X Nc scope C s' H' fp) ρ' G' elt (g d))(hQ:∀G',R G'->Q (.lst (l.map g)) G')(Mq:∀x,foldedSetIterable An X.env x=pure x:=by intro _;rfl) :
  WE X ρ G (.ListComp elt [⟨AN,An,[],0⟩] scope Aq) Q:=by
 refine Nf (Pv:=fun i Az G'=>R G'/\Az=(l.take i).map g) (Gq elt AN An scope Aq) Sc CG (fun AD s σ H I S=>thn (hi AD s σ H I S) fun v s1 h1=>thn h1 fun fb s2 hh=>by obtain⟨it,fp,tn,J,H',e,I',T,st,fk,l',G',e',o',wk,q1,q2⟩:=hh;exact⟨it,fp,tn,J,H',e,I',T,st,fk,l',G',e',o',wk,q1,q2,by simp⟩) hg hle (Nat.le_of_lt hz) ?_ ?_ Mq
 ·rintro C s' H' fp Dd i d Az G' hd ⟨hR,rfl⟩ hD;obtain⟨ρ',h1,h2⟩:=CW C s' H' fp (put G' Dd (.lst ((l.take i).map g))) d (List.mem_of_getElem? hd);refine⟨ρ',h1,Du rfl AG ?_ (PX.we h2 ⟨AG,_,G',?_,hD,Ab,hR,?_⟩)⟩
  ·have:((l.take i).map g).length<=l.length:=by rw[List.length_map,List.length_take];lia
   lia
  ·simp
  ·rw[List.take_add_one,hd];simp
 ·rintro Az G' ⟨hR,rfl⟩;rw[List.take_length];exact hQ G' hR
end
def Bd(F:List Sq)(z o:Sq):List Sq:=F.filter fun x=>!decide (x=z)&&!decide (x=o)
def Ad(F:List Sq):Sq:=F.getLastD (0,0)
def DD(F:List Sq)(z:Sq):List Sq:=(nbM z).filter F.contains
def EJ:Nat->List Sq->List Lay
 |0,F=>if F=[]then[[]]else[]
 |n+1,F=>if F=[]then[[]]else(DD F (Ad F)).flatMap fun o=>(EJ n (Bd F (Ad F) o)).map (·++[(o,Ad F)])
def BN(F:List Sq):List Lay:=EJ F.length F
theorem GR{F:List Sq}(h:F≠[]):Ad F∈F:=by unfold Ad;rw[List.getLastD_eq_getLast?,List.getLast?_eq_some_getLast h];exact List.getLast_mem h
theorem NY{F:List Sq}(h:F≠[])(o:Sq):(Bd F (Ad F) o).length<F.length:=by unfold Bd;refine List.length_filter_lt_length_iff_exists.mpr ⟨_,GR h,by simp⟩
theorem M5:∀(n m:Nat)(F:List Sq),F.length<=n->F.length<=m->EJ n F=EJ m F
 |0,0,F,_,_=>rfl
 |0,m+1,F,h,_=>by
  have:F=[]:=List.length_eq_zero_iff.mp (by lia);subst this;rfl
 |n+1,0,F,_,h=>by
  have:F=[]:=List.length_eq_zero_iff.mp (by lia);subst this;rfl
 |n+1,m+1,F,h1,h2=>by
  unfold EJ;split
  ·rfl
  ·rename_i BS;have:∀o,EJ n (Bd F (Ad F) o)=EJ m (Bd F (Ad F) o):=fun o=>M5 n m _ (by have:=NY BS o;lia) (by have:=NY BS o;lia);simp only[this]
theorem B7:BN []=[[]]:=rfl
theorem Ex{F:List Sq}(h:F≠[]):BN F=(DD F (Ad F)).flatMap fun o=>(BN (Bd F (Ad F) o)).map (·++[(o,Ad F)]):=by
 unfold BN;obtain⟨n,hn⟩:∃n,F.length=n+1:=⟨F.length-1,by have:=List.length_pos_iff.mpr h;lia⟩;rw[hn]
 conv=>lhs;unfold EJ
 rw[if_neg h];have:∀o,EJ n (Bd F (Ad F) o)=EJ (Bd F (Ad F) o).length (Bd F (Ad F) o):=fun o=>M5 _ _ _ (by have:=NY h o;lia) (Nat.le_refl _);simp only[this]
def Aj(l:Lay):List Sq:=l.flatMap fun s=>[s.1,s.2]
structure Cov (F:List Sq) (l:Lay):Prop where
 st:∀s∈l,AQ s.1 s.2/\s.2∈nbM s.1
 pm:(Aj l).Perm F
theorem A3{l:Lay}{x:Sq}:x∈Aj l↔∃s∈l,x=s.1\/x=s.2:=by unfold Aj;simp[List.mem_flatMap]
theorem JE{l m:Lay}(h:l.Perm m):(Aj l).Perm (Aj m):=h.flatMap_right _
theorem Ez{a b:Sq}(h:a∈nbM b):b∈nbM a:=by
 obtain⟨a1,a2⟩:=a;obtain⟨b1,b2⟩:=b;simp only[nbM,List.mem_cons,List.not_mem_nil,or_false,Prod.mk.injEq]at *;rcases h with⟨h1,h2⟩|⟨h1,h2⟩|⟨h1,h2⟩|⟨h1,h2⟩<;>subst h1 h2
 ·exact .inr (.inr (.inr ⟨(Int.sub_add_cancel _ _).symm,rfl⟩))
 ·exact .inr (.inr (.inl ⟨rfl,(Int.sub_add_cancel _ _).symm⟩))
 ·exact .inr (.inl ⟨rfl,(Int.add_sub_cancel _ _).symm⟩)
 ·exact .inl ⟨(Int.add_sub_cancel _ _).symm,rfl⟩
theorem Hj{a b:Sq}(h:a∈nbM b):a≠b:=by rintro rfl;obtain⟨a1,a2⟩:=a;simp only[nbM,List.mem_cons,List.not_mem_nil,or_false,Prod.mk.injEq]at h;lia
theorem MD{F:List Sq}(up:F.Pairwise AQ){x:Sq}(hx:x∈F):x=Ad F\/AQ x (Ad F):=by
 have h:F≠[]:=List.ne_nil_of_mem hx;unfold Ad;rw[List.getLastD_eq_getLast?,List.getLast?_eq_some_getLast h,Option.getD_some];rw[<-List.dropLast_concat_getLast h]at hx up;rcases List.mem_append.mp hx with h1|h1
 ·right;exact(List.pairwise_append.mp up).2.2 x h1 _ (by simp)
 ·left;simpa using h1
theorem EG{F:List Sq}(up:F.Pairwise AQ):F.Nodup:=up.imp fun {a b} Oj e=>by subst e;exact AW _ Oj
theorem Ks{F:List Sq}{z o x:Sq}:x∈Bd F z o↔x∈F/\x≠z/\x≠o:=by simp[Bd]
theorem GY{F:List Sq}(nd:F.Nodup){z o:Sq}(hz:z∈F)(ho:o∈F)(BS:o≠z):(o::z::Bd F z o).Perm F:=by
 rw[List.perm_ext_iff_of_nodup _ nd]
 ·intro x;simp only[List.mem_cons,Ks];by_cases h1:x=o
  ·subst h1;simp[ho]
  ·by_cases h2:x=z
   ·subst h2;simp[hz]
   ·simp[h1,h2]
 ·refine List.nodup_cons.mpr ⟨?_,List.nodup_cons.mpr ⟨?_,nd.sublist List.filter_sublist⟩⟩
  ·simp only[List.mem_cons,Ks];rintro(h|h)
   ·exact BS h
   ·exact h.2.2 rfl
  ·simp[Ks]
theorem Dg{F:List Sq}(up:F.Pairwise AQ)(z o:Sq):(Bd F z o).Pairwise AQ:=up.sublist List.filter_sublist
theorem GD{F:List Sq}{z o:Sq}:o∈DD F z↔o∈nbM z/\o∈F:=by simp[DD]
theorem D7{F:List Sq}(up:F.Pairwise AQ){o:Sq}(h:F≠[])(ho:o∈DD F (Ad F)):(Bd F (Ad F) o).length+2=F.length:=by
 obtain⟨h1,h2⟩:=GD.mp ho
 have:=(GY (EG up) (GR h) h2 (Hj h1)).length_eq
 simpa using this
theorem HZ(l m:Lay):Aj (l++m)=Aj l++Aj m:=by simp[Aj]
theorem EY:∀(n:Nat){F:List Sq},F.length<=n->F.Pairwise AQ->∀r∈BN F,Cov F r:=by
 intro n
 induction n with
 |zero=>
  intro F hl up r hr;have:F=[]:=List.length_eq_zero_iff.mp (by lia);subst this;rw[B7,List.mem_singleton]at hr;subst hr;exact⟨by simp,.refl _⟩
 |succ n ih=>
  intro F hl up r hr;by_cases h:F=[]
  ·subst h;rw[B7,List.mem_singleton]at hr;subst hr;exact⟨by simp,.refl _⟩
  rw[Ex h,List.mem_flatMap]at hr;obtain⟨o,ho,hr⟩:=hr;obtain⟨r',ja,rfl⟩:=List.mem_map.mp hr;have RB:=D7 up h ho;obtain⟨h1,h2⟩:=GD.mp ho;have C:=ih (by lia) (Dg up _ _) r' ja;refine⟨fun s hs=>?_,?_⟩
  ·rcases List.mem_append.mp hs with hs|hs
   ·exact C.st s hs
   ·rw[List.mem_singleton.mp hs];refine⟨?_,Ez h1⟩;rcases MD up h2 with e|e
    ·exact absurd e (Hj h1)
    ·exact e
  ·rw[HZ];show(Aj r'++[o,Ad F]).Perm F;exact(List.perm_append_comm.trans (C.pm.append_left [o,Ad F])).trans (GY (EG up) (GR h) h2 (Hj h1))
theorem V1:∀(n:Nat){F:List Sq}{l:Lay},F.length<=n->F.Pairwise AQ->Cov F l->∃r∈BN F,r.Perm l:=by
 intro n
 induction n with
 |zero=>
  intro F l hl up C;have:F=[]:=List.length_eq_zero_iff.mp (by lia);subst this
  have:=C.pm.length_eq
  cases l with
  |nil=>exact⟨[],by simp[B7],.refl _⟩
  |cons s l=>simp[Aj]at this
 |succ n ih=>
  intro F l hl up C;by_cases h:F=[]
  ·subst h
   have:=C.pm.length_eq
   cases l with
   |nil=>exact⟨[],by simp[B7],.refl _⟩
   |cons s l=>simp[Aj]at this
  obtain⟨s,hs,he⟩:=A3.mp (C.pm.mem_iff.mpr (GR h));have KY:s.1∈F:=C.pm.mem_iff.mp (A3.mpr ⟨s,hs,.inl rfl⟩);have MT:s.2∈F:=C.pm.mem_iff.mp (A3.mpr ⟨s,hs,.inr rfl⟩);obtain⟨slt,jJ⟩:=C.st s hs;have hz:s.2=Ad F:=by
   rcases he with e|e
   ·rcases MD up MT with q|q
    ·exact q
    ·rw[e]at q;exact absurd (BH slt q) (AW _)
   ·exact e.symm
  have ho:s.1∈DD F (Ad F):=GD.mpr ⟨hz▸Ez jJ,KY⟩;have hp:l.Perm (s::l.erase s):=List.perm_cons_erase hs;have Ft:(s.1::s.2::Aj (l.erase s)).Perm F:=by
   refine List.Perm.trans ?_ C.pm;exact(JE hp).symm
  have RB:=D7 up h ho;have C':Cov (Bd F (Ad F) s.1) (l.erase s):=by
   refine⟨fun t ht=>C.st t (List.mem_of_mem_erase ht),?_⟩
   have:=Ft.trans (GY (EG up) (GR h) KY (Hj (GD.mp ho).1)).symm
   rw[hz]at this;exact(List.perm_cons _).mp ((List.perm_cons _).mp this)
  obtain⟨r,hr,qV⟩:=ih (by lia) (Dg up _ _) C';refine⟨r++[(s.1,Ad F)],?_,?_⟩
  ·rw[Ex h,List.mem_flatMap];exact⟨s.1,ho,List.mem_map.mpr ⟨r,hr,rfl⟩⟩
  ·rw[show(s.1,Ad F)=s by rw[<-hz]];exact(List.perm_append_comm.trans (qV.append_left [s])).trans hp.symm
theorem UQ(F:List Sq)(z:Sq):(DD F z).Nodup:=(Yt z).sublist List.filter_sublist
theorem X3:∀(n:Nat){F:List Sq},F.length<=n->F.Pairwise AQ->(BN F).Pairwise fun r r'=>¬r.Perm r':=by
 intro n
 induction n with
 |zero=>
  intro F hl up;have:F=[]:=List.length_eq_zero_iff.mp (by lia);subst this;rw[B7];exact List.pairwise_singleton _ _
 |succ n ih=>
  intro F hl up;by_cases h:F=[]
  ·subst h;rw[B7];exact List.pairwise_singleton _ _
  rw[Ex h,List.pairwise_flatMap];refine⟨fun o ho=>?_,?_⟩
  ·rw[List.pairwise_map];have RB:=D7 up h ho;refine(ih (by lia) (Dg up _ o)).imp fun {a b} Oj hp=>Oj ?_;exact(List.perm_append_right_iff _).mp hp
  ·refine List.Pairwise.imp_of_mem (R:=fun a b=>a≠b) ?_ (UQ F (Ad F));intro o o' ho Je BS x hx y hy hp;obtain⟨r,hr,rfl⟩:=List.mem_map.mp hx;obtain⟨r',ja,rfl⟩:=List.mem_map.mp hy;have hm:(o',Ad F)∈r++[(o,Ad F)]:=hp.mem_iff.mpr (by simp);rcases List.mem_append.mp hm with hm|hm
   ·have RB:=D7 up h ho;have C:=EY n (by lia) (Dg up _ o) r hr
    have:=C.pm.mem_iff.mp (A3.mpr ⟨_,hm,.inr rfl⟩)
    exact(Ks.mp this).2.1 rfl
   ·rw[List.mem_singleton,Prod.mk.injEq]at hm;exact BS hm.1.symm
theorem QY{F:List Sq}(up:F.Pairwise AQ):(DD F (Ad F)).length<=2:=by
 have hs:∀x∈DD F (Ad F),x∈[((Ad F).1-1,(Ad F).2),((Ad F).1,(Ad F).2-1)]:=by
  intro x hx;obtain⟨h1,h2⟩:=GD.mp hx;rcases MD up h2 with e|e
  ·exact absurd e (Hj h1)
  ·generalize Ad F=z at *;obtain⟨x1,x2⟩:=x;obtain⟨z1,z2⟩:=z;simp only[nbM,List.mem_cons,List.not_mem_nil,or_false,Prod.mk.injEq]at h1 ⊢;have e':x1<z1\/(x1=z1/\x2<z2):=e;clear e h2 hx;rcases h1 with h1|h1|⟨h1,h3⟩|⟨h1,h3⟩
   ·exact .inl h1
   ·exact .inr h1
   ·lia
   ·lia
 have:=BD (UQ F (Ad F)) hs
 simpa using this
theorem Jx:∀(n:Nat){F:List Sq},F.length<=2*n->F.Pairwise AQ->(BN F).length<=2 ^ n:=by
 intro n
 induction n with
 |zero=>
  intro F hl up;have:F=[]:=List.length_eq_zero_iff.mp (by lia);subst this;rw[B7];exact Nat.le_refl _
 |succ n ih=>
  intro F hl up;by_cases h:F=[]
  ·subst h;rw[B7];exact Nat.one_le_two_pow
  rw[Ex h,List.length_flatMap];have:∀(l:List Sq),(∀o∈l,o∈DD F (Ad F))->(l.map fun o=>((BN (Bd F (Ad F) o)).map (·++[(o,Ad F)])).length).sum<=l.length*2 ^ n:=by
   intro l
   induction l with
   |nil=>simp
   |cons o l gG=>
    intro hm;have h1:=gG fun x hx=>hm x (List.mem_cons_of_mem _ hx);have RB:=D7 up h (hm o (List.mem_cons_self ..));have h2:=ih (F:=Bd F (Ad F) o) (by lia) (Dg up _ o);rw[List.map_cons,List.sum_cons,List.length_map,List.length_cons,Nat.succ_mul];lia
  have h3:=this _ fun _ h=>h;have h4:=Nat.mul_le_mul_right (2 ^ n) (QY up);rw[Nat.pow_succ,Nat.mul_comm];lia
theorem Lb(s t:Bz):lx (flat (AU s)) (flat (AU t))=decide (AQ s.1 t.1\/(s.1=t.1/\AQ s.2 t.2)):=by obtain⟨⟨a,b⟩,c,d⟩:=s;obtain⟨⟨a',b'⟩,c',d'⟩:=t;show HT.lexLt [a,b,c,d] [a',b',c',d']=_;rw[HT.lexLt_cons,HT.lexLt_cons,HT.lexLt_cons,HT.lexLt_cons];have e0:HT.lexLt [] []=false:=rfl;rw[e0,Bool.eq_iff_iff,decide_eq_true_iff];simp only[AQ,Prod.mk.injEq];by_cases h1:a=a'<;>by_cases h2:b=b'<;>by_cases h3:c=c'<;>by_cases h4:d=d'<;>simp[h1,h2,h3,h4]<;>lia
theorem YU(s t:Sq):lx (flat (sq s)) (flat (sq t))=decide (AQ s t):=by obtain⟨a,b⟩:=s;obtain⟨a',b'⟩:=t;show HT.lexLt [a,b] [a',b']=_;rw[HT.lexLt_cons,HT.lexLt_cons];have e0:HT.lexLt [] []=false:=rfl;rw[e0,Bool.eq_iff_iff,decide_eq_true_iff];simp only[AQ];by_cases h1:a=a'<;>by_cases h2:b=b'<;>simp[h1,h2]<;>lia
structure IsLay (F:List Sq) (l:Lay):Prop extends Cov F l where
 up:l.Pairwise fun s t=>AQ s.1 t.1
theorem Ww{l:Lay}(h:(Aj l).Nodup):l.Pairwise fun s t=>s.1≠t.1/\s.1≠t.2/\s.2≠t.1/\s.2≠t.2:=by unfold Aj List.Nodup at h;rw[List.pairwise_flatMap]at h;refine h.2.imp fun {s t} h=>?_;exact⟨h _ (by simp) _ (by simp),h _ (by simp) _ (by simp),h _ (by simp) _ (by simp),h _ (by simp) _ (by simp)⟩
theorem Cov.perm{F:List Sq}{l m:Lay}(C:Cov F l)(h:m.Perm l):Cov F m:=⟨fun s hs=>C.st s (h.mem_iff.mp hs),(JE h).trans C.pm⟩
theorem Cov.lay{F:List Sq}{l:Lay}(C:Cov F l)(nd:F.Nodup):IsLay F (TSt.sort l):=by
 have C':=C.perm (TSt.sort_perm l);refine⟨C',?_⟩;have h1:=TSt.sort_sorted l;have h2:=Ww (C'.pm.nodup_iff.mpr nd);refine(h1.and h2).imp fun {s t} h=>?_;obtain⟨h1,h2,_⟩:=h;unfold TyD.le at h1;rw[show TSt.f=AU from rfl,Lb]at h1;simp only[Bool.not_eq_true',decide_eq_false_iff_not,not_or,not_and]at h1;rcases Lm s.1 t.1 with h|h|h
 ·exact h
 ·exact absurd h h2
 ·exact absurd h h1.1
theorem IsLay.sorted{F:List Sq}{l:Lay}(I:IsLay F l):l.Pairwise fun x y=>TSt.le x y=true:=I.up.imp fun {s t} h=>by
 unfold TyD.le;rw[show TSt.f=AU from rfl,Lb];simp only[Bool.not_eq_true',decide_eq_false_iff_not,not_or,not_and];refine⟨fun h'=>AW _ (BH h h'),fun e=>?_⟩;rw[e]at h;exact absurd h (AW _)
theorem IsLay.uniq{F:List Sq}{l m:Lay}(I:IsLay F l)(J:IsLay F m)(h:l.Perm m):l=m:=TSt.uniq h I.sorted J.sorted
def A8(F:List Sq):List Lay:=Kd.sort ((BN F).map TSt.sort)
theorem C6{F:List Sq}(up:F.Pairwise AQ){l:Lay}:l∈A8 F↔IsLay F l:=by
 unfold A8;rw[(Kd.sort_perm _).mem_iff,List.mem_map];constructor
 ·rintro⟨r,hr,rfl⟩;exact(EY _ (Nat.le_refl _) up r hr).lay (EG up)
 ·intro I;obtain⟨r,hr,hp⟩:=V1 _ (Nat.le_refl _) up I.toCov;exact⟨r,hr,((EY _ (Nat.le_refl _) up r hr).lay (EG up)).uniq I ((TSt.sort_perm r).trans hp)⟩
theorem Sl{F:List Sq}(up:F.Pairwise AQ):(A8 F).Nodup:=by unfold A8;rw[(Kd.sort_perm _).nodup_iff];unfold List.Nodup;rw[List.pairwise_map];refine(X3 _ (Nat.le_refl _) up).imp fun {a b} h e=>h ?_;exact(TSt.sort_perm a).symm.trans (e▸TSt.sort_perm b)
theorem SE(F:List Sq):(A8 F).Pairwise fun x y=>Kd.le x y=true:=Kd.sort_sorted _
def P4(r:Lay):Dat:=.lst (r.map AU)
def IZ(l:List Lay):Dat:=.lst (l.map P4)
def ValidE(AR:List (Dat×Dat)):Prop:=∀p∈AR,∃F:List Sq,p.1=fl F/\p.2=IZ (BN F)
theorem TB(F:List Sq):B1 6 (fl F)=true:=by simp only[B1,fl];rw[List.all_eq_true];intro d hd;obtain⟨p,_,rfl⟩:=List.mem_map.mp hd;rfl
theorem ValidE.look{AR:List (Dat×Dat)}(h:ValidE AR){F:List Sq}{d:Dat}(e:Ac AR (fl F)=some d):d=IZ (BN F):=by unfold Ac at e;obtain⟨p,hp,rfl⟩:=Option.map_eq_some_iff.mp e;have hm:=List.mem_of_find?_eq_some hp;have hk:=List.find?_some hp;have Hc:p.1=fl F:=of_decide_eq_true hk;obtain⟨F',h1,h2⟩:=h p hm;rw[Hc]at h1;rw[Xq h1];exact h2
theorem ValidE.put{AR:List (Dat×Dat)}(h:ValidE AR)(F:List Sq):ValidE (DM AR (fl F) (IZ (BN F))):=by
 unfold DM;intro p hp;split at hp
 ·obtain⟨x,hx,rfl⟩:=List.mem_map.mp hp;by_cases e:x.1=fl F
  ·rw[if_pos e];exact⟨F,e,rfl⟩
  ·rw[if_neg e];exact h x hx
 ·rcases List.mem_append.mp hp with hp|hp
  ·exact h p hp
  ·rw[List.mem_singleton.mp hp];exact⟨F,rfl,rfl⟩
theorem RY(AR:List (Dat×Dat))(k v:Dat):Ac (DM AR k v) k=some v:=by
 by_cases h:(Ac AR k).isSome=true
 ·have:∀(AR:List (Dat×Dat)),(Ac AR k).isSome=true->Ac (AR.map fun x=>if x.1=k then(x.1,v)else x) k=some v:=by
   intro AR
   induction AR with
   |nil=>intro h;simp[Ac]at h
   |cons p r ih=>
    intro h;by_cases e:p.1=k
    ·simp[Ac,e]
    ·have h':(Ac r k).isSome=true:=by simpa[Ac,e]using h
     have:=ih h'
     simpa[Ac,e]using this
  unfold DM;rw[if_pos h];exact this AR h
 ·unfold DM;rw[if_neg h];have hn:AR.find? (fun x=>decide (x.1=k))=none:=by
   cases q:AR.find? (fun x=>decide (x.1=k))with
   |none=>rfl
   |some p=>exact absurd (by simp[Ac,q]) h
  simp[Ac,List.find?_append,hn]
def Kj(n:Nat):SpD:=fun ds G R=>∃(F:List Sq)(kp:Addr)(AR:List (Dat×Dat)),ds=[fl F,.fn kp]/\F.Pairwise AQ/\F.length<=2*n/\n<=12/\G kp=some (.dct AR)/\ValidE AR/\AR.length+2 ^ n<=2 ^ 12+1 ∧
 ∀BM,ValidE BM->BM.length+1<=AR.length+2 ^ n->R (IZ (BN F)) (put G kp (.dct BM))
def cP:SpD:=fun ds G R=>∃F:List Sq,ds=[fl F]/\F≠[]/\F.Pairwise AQ/\F.length<=24/\R (.lst ((A8 F).map lay)) G
theorem aH{F:List Sq}(h:F≠[]):atI (F.map sq) (-1)=some (sq (Ad F)):=by refine EE sq ?_;unfold atI ixN;have:0<F.length:=List.length_pos_iff.mpr h;rw[if_neg (by lia),if_pos (by lia)];show F[((F.length:Int)+-1).toNat]?=_;unfold Ad;rw[List.getLastD_eq_getLast?,List.getLast?_eq_getElem?];rw[show((F.length:Int)+-1).toNat=F.length-1 by lia,List.getElem?_eq_getElem (by lia)];rfl
theorem Fj{F:List Sq}{l:Lay}(C:Cov F l):2*l.length=F.length:=by
 rw[<-C.pm.length_eq];unfold Aj;rw[List.length_flatMap];clear C
 induction l with
 |nil=>rfl
 |cons a l ih=>rw[List.map_cons,List.sum_cons,List.length_cons,<-ih];simp;lia
def via{α β:Type}[Inhabited β](h:α->Dat)(g:α->β)(d:Dat):β:=have:=Classical.propDecidable (∃x,h x=d)
 if e:∃x,h x=d then g e.choose else default
instance:Inhabited Dat:=⟨.non⟩
theorem C1{α β:Type}[Inhabited β]{h:α->Dat}(inj:∀{x y},h x=h y->x=y)(g:α->β)(x:α):via h g (h x)=g x:=by unfold via;have e:∃y,h y=h x:=⟨x,rfl⟩;simp only[e,dif_pos];rw[inj e.choose_spec]
theorem Zq{α:Type}{h:α->Dat}(inj:∀{x y},h x=h y->x=y)(g:α->Dat)(l:List α):(l.map h).map (via h g)=l.map g:=by rw[List.map_map];exact List.map_congr_left fun x _=>C1 inj g x
theorem aK{α:Type}{h:α->Dat}(inj:∀{x y},h x=h y->x=y)(p:α->Bool)(g:α->Dat)(l:List α):((l.map h).filter (via h p)).map (via h g)=(l.filter p).map g:=by rw[List.filter_map,List.map_map];have:via h p ∘ h=p:=funext fun x=>C1 inj p x;rw[this];exact List.map_congr_left fun x _=>C1 inj g x
theorem PQ{α:Type}{h:α->Dat}(inj:∀{x y},h x=h y->x=y)(p:α->Bool)(l:List α):((l.map h).filter (via h p)).map id=(l.filter p).map h:=by rw[List.filter_map,List.map_id];have:via h p ∘ h=p:=funext fun x=>C1 inj p x;rw[this]
theorem Pu{α:Type}{h:α->Dat}(inj:∀{x y},h x=h y->x=y):∀{l m:List α},l.map h=m.map h->l=m
 |[],[],_=>rfl
 |[],_::_,h=>by simp at h
 |_::_,[],h=>by simp at h
 |p::l,q::m,h=>by
  simp only[List.map_cons,List.cons.injEq]at h;rw[inj h.1,Pu inj h.2]
theorem QW{r r':Lay}(h:P4 r=P4 r'):r=r':=by simp only[P4,Dat.lst.injEq]at h;exact Pu CI h
section
variable {X:Cx}{ρ:Rho}{G:Gs}{e a b c:Expr}{es:List Expr}{d d' d1 d2 d3 k:Dat}{ds l m:List Dat}{pos:Pos}{i j z:Int}{p:Addr}{D:DE}{rest body:List Stmt}{AR:List (Dat×Dat)}
theorem WZ{apos Aq:Pos}(hu:X.A.units+9<cLine)(ha:PX X ρ G a (.fn p))(hb:PX X ρ G b k)(hG:G p=some (.dct AR))(hk:B1 6 k=true)(hr:∃l,k=.tup l)(C9:attributeBase a "get" X.env (eval a X.env)=eval a X.env:=by rfl)(SR:((backTo Aq (starEach [b] X.env)).all (fun x=>!x.1)&&(backToKw Aq (keywordEach [] X.env)).all (fun x=>x.1.isSome)&&decide (([b]:List Expr).length+([]:List Keyword).length+(if ([]:List Keyword).isEmpty then 0 else 1)<30))=true:=by rfl)(CV:(apos.endLine==Aq.line)=true:=by rfl)(hs:starEach [b] X.env=(false,eval b X.env)::starEach [] X.env:=by rfl)(hpl:(backTo Aq (starEach [] X.env)).any (·.1)=false:=by rfl) :
  PX X ρ G (.Call (.Attribute a "get" apos) [b] [] Aq) ((Ac AR k).getD .non):=by
 intro AD s σ H I S;refine wpAny_Call_method_late C9 SR CV rfl (thn (ha AD s σ H I S) fun u s1 ⟨x,H1,I1,rx,_,G1,e1,o1,r1,q1,BX⟩=>?_);subst q1;subst BX;cases (show x=V.ref p from r1);cases rx;obtain⟨sU,qL,qY⟩:=o1 p _ hG;obtain⟨y1,y2,mw⟩:=Fi I1 qL (qY.same AK);refine⟨"dict","dict.get",PySem.F.plainAttrs_dict,PySem.F.slot_dict_get,PySem.F.type_dict_get,mw.typeIs,?_,?_⟩
 ·obtain⟨o,es,ep,ho,hc,_⟩:=mw;intro b hb;cases hb;exact⟨o,ho,hc.2.1⟩
 have hA:=(AB hb AE hs:PXs X ρ G1 [b] [k]) Aq AD s1 σ H1 I1 (S.ext e1 o1);rw[hs]at hA ⊢;refine Calls.callWith_builtin (by show(false||(backTo Aq (starEach [] X.env)).any (·.1))=false;rw[hpl];rfl) (Calls.evalArgs_plain ?_);refine thn hA fun us s2 ⟨vs,H2,I2,rv,_,G2,e2,o2,r2,q2,FQ⟩=>?_;subst q2;subst FQ;obtain⟨y,rfl,rZ⟩:∃y,vs=[y]/\Rep X.K (hid H2 G2) k y:=by
  cases vs with
  |nil=>have:=r2.length;simp at this
  |cons y t=>
   have:=r2.length
   cases t with
   |nil=>
    obtain⟨z,hz,rz⟩:=r2.get (i:=0) (d:=k) rfl;cases hz;exact⟨y,rfl,rz⟩
   |cons _ _=>simp at this
 obtain⟨u2,rfl,ry⟩:=rv.one;obtain⟨l,rfl⟩:=hr;have Vm:=rZ.same AK;have hx:∃t,y=V.ref t:=by rw[Rep]at Vm;obtain⟨t,_,e,_⟩:=Vm;exact⟨t,e⟩
 obtain⟨t,rfl⟩:=hx;cases ry;obtain⟨xs,h3,r3⟩:=o2 p _ hG;obtain⟨z1,z2,dd⟩:=Fi I2 h3 (r3.same AK);refine call_meetsIn PySem.F.slot_dict_get dd.typeIs PySem.F.entry_dict_get (PySem.F.args_dict_get_2 _ _) (meetsH_dict_get (Be X.prog X.w) p t z1) ⟨show X.A.units+1+6<cLine by lia,_,_,IL I2 hk Vm,dd,?_⟩;cases hl:Ac AR (.tup l)with
 |none=>
  have:=(DRep.look (.tup l) r3).1
  rw[hl]at this;have hn:atKey xs (.tup l)=none:=by
   cases q:atKey xs (.tup l)with
   |none=>rfl
   |some _=>rw[q]at this;cases this
  rw[hn];exact⟨.non,H2,I2.tok _,rfl,.non,_,e1.trans e2,o2,rfl,rfl,rfl⟩
 |some d=>
  obtain⟨q,v,hq,rv,rd⟩:=(DRep.look _ r3).2 d hl;rw[hq];exact⟨v,H2,I2.tok _,rv,d,_,e1.trans e2,o2,rd,rfl,rfl⟩
end
abbrev PM:=List (Sq×Sq)
def kvS(pm:PM):List (Dat×Dat):=pm.map fun p=>(sq p.1,sq p.2)
def lk(pm:PM)(x:Sq):Option Sq:=(pm.find? fun p=>decide (p.1=x)).map (·.2)
def pt(pm:PM)(x y:Sq):PM:=if (lk pm x).isSome then pm.map (fun p=>if p.1=x then(p.1,y)else p)else pm++[(x,y)]
theorem CA(pm:PM)(x:Sq):Ac (kvS pm) (sq x)=(lk pm x).map sq:=by
 unfold kvS lk Ac
 induction pm with
 |nil=>rfl
 |cons p r ih=>
  rw[List.map_cons,List.find?_cons,List.find?_cons];by_cases h:p.1=x
  ·subst h;simp
  ·have BS:sq p.1≠sq x:=fun e=>h (EX e);rw[decide_eq_false BS,decide_eq_false h];exact ih
theorem O5(pm:PM)(x y:Sq):DM (kvS pm) (sq x) (sq y)=kvS (pt pm x y):=by
 unfold DM pt;rw[CA,Option.isSome_map];split
 ·unfold kvS;rw[List.map_map,List.map_map];refine List.map_congr_left fun p _=>?_;simp only[Function.comp];by_cases h:p.1=x
  ·subst h;simp
  ·have BS:sq p.1≠sq x:=fun e=>h (EX e);rw[if_neg BS,if_neg h]
 ·unfold kvS;rw[List.map_append];rfl
theorem bh(pm:PM)(x y z:Sq):lk (pt pm x y) z=if z=x then some y else lk pm z:=by
 unfold pt;split
 ·rename_i h
  induction pm with
  |nil=>simp[lk]at h
  |cons p r ih=>
   by_cases e:p.1=x
   ·by_cases ez:z=x
    ·subst ez;simp[lk,e]
    ·have e':∀(r:PM),lk (r.map fun p=>if p.1=x then(p.1,y)else p) z=lk r z:=by
      intro r
      induction r with
      |nil=>rfl
      |cons q r ih=>
       unfold lk at ih ⊢;rw[List.map_cons,List.find?_cons,List.find?_cons];by_cases hq:q.1=x
       ·rw[if_pos hq];have:q.1≠z:=fun h=>ez (h▸hq);simp only[decide_eq_false this];exact ih
       ·rw[if_neg hq];by_cases hz:q.1=z
        ·simp[hz]
        ·simp only[decide_eq_false hz];exact ih
     rw[if_neg ez];exact e' (p::r)
   ·have h':(lk r x).isSome=true:=by
     unfold lk at h ⊢;rw[List.find?_cons,decide_eq_false e]at h;exact h
    have:=ih h'
    unfold lk at this ⊢;rw[List.map_cons,if_neg e,List.find?_cons,List.find?_cons];by_cases hz:p.1=z
    ·have:z≠x:=fun e2=>e (hz.trans e2);simp[hz,this]
    ·simp only[decide_eq_false hz];exact this
 ·rename_i h;have hn:lk pm x=none:=by
   cases q:lk pm x with
   |none=>rfl
   |some _=>rw[q]at h;exact absurd rfl h
  unfold lk at hn ⊢;rw[List.find?_append];by_cases hz:z=x
  ·subst hz;rw[Option.map_eq_none_iff]at hn;rw[hn];simp
  ·rw[if_neg hz];have:x≠z:=Ne.symm hz;cases q:pm.find? fun p=>decide (p.1=z)with
   |none=>simp[this]
   |some p=>simp
structure KeysIn (F:List Sq) (pm:PM):Prop where
 nd:(pm.map (·.1)).Nodup
 inn:∀p∈pm,p.1∈F
theorem Sk{pm:PM}{x:Sq}:(lk pm x).isSome=true↔x∈pm.map (·.1):=by unfold lk;rw[Option.isSome_map,List.find?_isSome];simp only[List.mem_map,decide_eq_true_eq]
theorem Yz{pm:PM}(nd:(pm.map (·.1)).Nodup){p:Sq×Sq}(h:p∈pm):lk pm p.1=some p.2:=by
 unfold lk
 induction pm with
 |nil=>cases h
 |cons q r ih=>
  rw[List.find?_cons];rw[List.map_cons,List.nodup_cons]at nd;rcases List.mem_cons.mp h with e|h'
  ·subst e;simp
  ·have:q.1≠p.1:=fun e=>nd.1 (e▸List.mem_map.mpr ⟨p,h',rfl⟩);simp only[decide_eq_false this];exact ih nd.2 h'
theorem KeysIn.pt{F:List Sq}{pm:PM}(h:KeysIn F pm){x:Sq}(hx:x∈F)(y:Sq):KeysIn F (pt pm x y):=by
 unfold TF.pt;split
 ·have e:(pm.map fun p=>if p.1=x then(p.1,y)else p).map (·.1)=pm.map (·.1):=by
   rw[List.map_map];refine List.map_congr_left fun p _=>?_;simp only[Function.comp];split<;>rfl
  refine⟨by rw[e];exact h.nd,fun p hp=>?_⟩;have:p.1∈pm.map (·.1):=by rw[<-e];exact List.mem_map.mpr ⟨p,hp,rfl⟩
  obtain⟨q,hq,e2⟩:=List.mem_map.mp this;rw[<-e2];exact h.inn q hq
 ·rename_i hn;refine⟨?_,fun p hp=>?_⟩
  ·rw[List.map_append,List.nodup_append];refine⟨h.nd,by simp,fun a ha b hb e=>hn ?_⟩;simp at hb;subst hb;subst e;exact Sk.mpr ha
  ·rcases List.mem_append.mp hp with hp|hp
   ·exact h.inn p hp
   ·rw[List.mem_singleton.mp hp];exact hx
theorem KeysIn.len{F:List Sq}{pm:PM}(h:KeysIn F pm):pm.length<=F.length:=by
 have:=BD h.nd (m:=F) fun x hx=>by obtain⟨p,hp,rfl⟩:=List.mem_map.mp hx;exact h.inn p hp
 simpa using this
theorem KeysIn.nil(F:List Sq):KeysIn F []:=⟨by simp,fun p h=>nomatch h⟩
structure MOk (F:List Sq) (m:Sq->Option Sq):Prop where
 ok:∀x y,m x=some y->m y=some x/\y∈nbM x/\x∈F/\y∈F
def US(F:List Sq)(m:Sq->Option Sq)(o:Sq):Prop:=∀x y,x≠o->m x=some y->y≠o/\m y=some x/\y∈nbM x/\x∈F/\y∈F
def two(m:Sq->Option Sq)(s o:Sq):Sq->Option Sq:=fun z=>if z=o then some s else if z=s then some o else m z
theorem Sh{F:List Sq}{m:Sq->Option Sq}{s o:Sq}(h:US F m o)(hs:s∈F)(ho:o∈F)(hn:s∈nbM o)(hm:m s=none):MOk F (two m s o):=by
 have BS:s≠o:=Hj hn;refine⟨fun x y e=>?_⟩;unfold two at e ⊢;by_cases h1:x=o
 ·subst h1;rw[if_pos rfl]at e;cases e;rw[if_neg BS,if_pos rfl];exact⟨rfl,hn,ho,hs⟩
 ·rw[if_neg h1]at e;by_cases h2:x=s
  ·subst h2;rw[if_pos rfl]at e;cases e;rw[if_pos rfl];exact⟨rfl,Ez hn,hs,ho⟩
  ·rw[if_neg h2]at e;obtain⟨g1,g2,g3,g4,g5⟩:=h x y h1 e;have:y≠s:=by rintro rfl;rw[hm]at g2;cases g2
   rw[if_neg g1,if_neg this];exact⟨g2,g3,g4,g5⟩
theorem Sy{F:List Sq}{m:Sq->Option Sq}{s o f:Sq}(h:US F m o)(hs:s∈F)(ho:o∈F)(hn:s∈nbM o)(hm:m s=some f):US F (two m s o) f/\m f=some s/\f∈F/\f≠o/\f≠s:=by
 have BS:s≠o:=Hj hn;obtain⟨g1,g2,g3,g4,g5⟩:=h s f BS hm;have Mq:f≠s:=Hj g3;refine⟨fun x y hx e=>?_,g2,g5,g1,Mq⟩;unfold two at e ⊢;by_cases h1:x=o
 ·subst h1;rw[if_pos rfl]at e;cases e;rw[if_neg BS,if_pos rfl];exact⟨Ne.symm Mq,rfl,hn,ho,hs⟩
 ·rw[if_neg h1]at e;by_cases h2:x=s
  ·subst h2;rw[if_pos rfl]at e;cases e;rw[if_pos rfl];exact⟨Ne.symm g1,rfl,Ez hn,hs,ho⟩
  ·rw[if_neg h2]at e;obtain⟨k1,k2,k3,k4,k5⟩:=h x y h1 e;have rS:y≠s:=by rintro rfl;rw[hm]at k2;cases k2;exact hx rfl
   have sC:y≠f:=by rintro rfl;rw[g2]at k2;cases k2;exact h2 rfl
   rw[if_neg k1,if_neg rS];exact⟨sC,k2,k3,k4,k5⟩
def col(x:Sq):Int:=(x.1+x.2)%2
theorem cb{x y:Sq}(h:y∈nbM x):col y≠col x:=by obtain⟨a,b⟩:=x;obtain⟨c,d⟩:=y;simp only[nbM,List.mem_cons,List.not_mem_nil,or_false,Prod.mk.injEq,col]at *;lia
theorem Ti{x y:Sq}(h:y∈nbM x):col y=1-col x:=by
 obtain⟨a,b⟩:=x;obtain⟨c,d⟩:=y;simp only[nbM,List.mem_cons,List.not_mem_nil,or_false,Prod.mk.injEq,col]at *;rcases h with⟨h1,h2⟩|⟨h1,h2⟩|⟨h1,h2⟩|⟨h1,h2⟩<;>subst h1 h2
 ·lia
 ·lia
 ·lia
 ·lia
theorem aa{x y z:Sq}(h:y∈nbM x)(h':z∈nbM y):col z=col x:=by rw[Ti h',Ti h];exact Int.sub_sub_self 1 _
structure Tr (F:List Sq) (m:Sq->Option Sq) (st:Sq) (L:List Sq) (t:PM):Prop where
 nd:(t.map (·.1)).Nodup
 len:L.length=t.length+1
 hd:L[0]?=some st
 at_:∀k p,t[k]?=some p->m p.1=L[k+1]?/\(∃j,j<=k/\L[j]?=some p.2)/\p.2∈nbM p.1/\p.1∈F
 co:∀x∈L,col x=col st
 inn:∀x∈L,x∈F
 nL:L.Nodup
theorem Xr{F:List Sq}(m:Sq->Option Sq){st:Sq}(h:st∈F):Tr F m st [st] []:=⟨by simp,rfl,rfl,fun k p h=>by simp at h,fun x hx=>by rw[List.mem_singleton.mp hx],fun x hx=>by rw[List.mem_singleton.mp hx];exact h,by simp⟩
theorem iS{α:Type}{L:List α}(nd:L.Nodup){i j:Nat}{x:α}(h1:L[i]?=some x)(h2:L[j]?=some x):i=j:=by
 obtain⟨a1,b1⟩:=List.getElem?_eq_some_iff.mp h1;obtain⟨a2,b2⟩:=List.getElem?_eq_some_iff.mp h2;have h:=List.pairwise_iff_getElem.mp nd;refine Classical.byContradiction fun BS=>?_;rcases Nat.lt_or_gt_of_ne BS with q|q
 ·exact h i j a1 a2 q (b1.trans b2.symm)
 ·exact h j i a2 a1 q (b2.trans b1.symm)
theorem Tr.more{F:List Sq}{m:Sq->Option Sq}{st:Sq}{L:List Sq}{t:PM}(T:Tr F m st L t)(M:MOk F m)(Hu:m st=none){a:Nat}{s o y:Sq}(hs:L[a]?=some s)(ho:o∈F)(hn:o∈nbM s)(hk:o∉t.map (·.1))(hy:m o=some y) :
  Tr F m st (L++[y]) (t++[(o,s)]):=by
 obtain⟨g1,g2,g3,g4⟩:=M.ok o y hy;have jO:a<L.length:=(List.getElem?_eq_some_iff.mp hs).1;have dM:y∉L:=by
  intro hm;obtain⟨k,Hc⟩:=List.mem_iff_getElem?.mp hm;cases k with
  |zero=>
   rw[T.hd]at Hc;cases Hc;rw[Hu]at g1;cases g1
  |succ k=>
   have A6:k+1<L.length:=(List.getElem?_eq_some_iff.mp Hc).1;have Ro:k<t.length:=by have:=T.len;lia
   obtain⟨e1,_⟩:=T.at_ k t[k] (List.getElem?_eq_getElem Ro);rw[Hc]at e1
   have:=(M.ok _ _ e1).1
   rw[g1]at this;cases this;exact hk (List.mem_map.mpr ⟨t[k],List.getElem_mem _,rfl⟩)
 refine⟨?_,?_,?_,?_,?_,?_,?_⟩
 ·rw[List.map_append,List.nodup_append];refine⟨T.nd,by simp,fun a ha b hb e=>?_⟩;simp at hb;subst hb;subst e;exact hk ha
 ·simp[T.len]
 ·rw[List.getElem?_append_left (by have:=T.len;lia)];exact T.hd
 ·intro k p hp;rcases Nat.lt_or_ge k t.length with h|h
  ·rw[List.getElem?_append_left h]at hp;obtain⟨e1,⟨j,hj,e2⟩,e3⟩:=T.at_ k p hp;refine⟨?_,⟨j,hj,?_⟩,e3⟩
   ·rw[List.getElem?_append_left (by have:=T.len;lia)];exact e1
   ·rw[List.getElem?_append_left (List.getElem?_eq_some_iff.mp e2).1];exact e2
  ·have Iq:k=t.length:=by
    have:=(List.getElem?_eq_some_iff.mp hp).1
    simp at this;lia
   subst Iq;rw[List.getElem?_append_right (Nat.le_refl _)]at hp;simp at hp;subst hp;refine⟨?_,⟨a,by have:=T.len;lia,?_⟩,Ez hn,ho⟩
   ·rw[List.getElem?_append_right (by have:=T.len;lia),show t.length+1-L.length=0 by have:=T.len;lia];exact hy
   ·rw[List.getElem?_append_left jO];exact hs
 ·intro x hx;rcases List.mem_append.mp hx with h|h
  ·exact T.co x h
  ·rw[List.mem_singleton.mp h,aa hn g2];exact T.co s (List.mem_of_getElem? hs)
 ·intro x hx;rcases List.mem_append.mp hx with h|h
  ·exact T.inn x h
  ·rw[List.mem_singleton.mp h];exact g4
 ·rw[List.nodup_append];refine⟨T.nL,by simp,fun a ha b hb e=>?_⟩;simp at hb;subst hb;subst e;exact dM ha
structure Back (F:List Sq) (m:Sq->Option Sq) (L:List Sq) (t:PM) (e:Sq) (j:Nat) (o:Sq) (m':Sq->Option Sq):Prop where
 stale:US F m' o
 oin:o∈F
 par:∃s,L[j]?=some s/\lk t o=some s/\s∈nbM o
 same:∀i x,i<=j->L[i]?=some x->m' x=m x
 dom:∀x,((m' x).isSome=true\/x=o)↔((m x).isSome=true\/x=e)
theorem RI{F:List Sq}{m:Sq->Option Sq}{L:List Sq}{t:PM}{e s:Sq}{j:Nat}(M:MOk F m)(he:m e=none)(Rf:e∈F)(hs:L[j]?=some s)(kP:lk t e=some s)(hn:s∈nbM e):Back F m L t e j e m:=⟨fun x y hx h=>by
  obtain⟨g1,g2,g3,g4⟩:=M.ok x y h;have pR:y≠e:=by
   rintro rfl;rw[he]at g1;cases g1
  exact⟨pR,g1,g2,g3,g4⟩,Rf,⟨s,hs,kP,hn⟩,fun _ _ _ _=>rfl,fun x=>Iff.rfl⟩
theorem VG{F:List Sq}{m:Sq->Option Sq}{st:Sq}{L:List Sq}{t t':PM}{e o s:Sq}{m':Sq->Option Sq}{j:Nat}(T:Tr F m st L t)(B:Back F m L t' e j o m')(hs:lk t' o=some s)(hm:m' s=none)(M:MOk F m)(Hu:m st=none) :
  MOk F (two m' s o)/\∀x,(two m' s o x).isSome=true↔((m x).isSome=true\/x=e\/x=st):=by
 obtain⟨s',h1,h2,h3⟩:=B.par;rw[hs]at h2;cases h2;have kN:=T.inn s (List.mem_of_getElem? h1);have nF:s=st:=by
  have:=B.same j s (Nat.le_refl _) h1
  rw[hm]at this;cases j with
  |zero=>rw[T.hd]at h1;cases h1;rfl
  |succ k=>
   have A6:k+1<L.length:=(List.getElem?_eq_some_iff.mp h1).1;have Ro:k<t.length:=by have:=T.len;lia
   obtain⟨e1,_⟩:=T.at_ k t[k] (List.getElem?_eq_getElem Ro);rw[h1]at e1;have q:=(M.ok _ _ e1).1;rw[q]at this;cases this
 refine⟨Sh B.stale kN B.oin h3 hm,fun x=>?_⟩
 have:=B.dom x
 unfold two;by_cases e1:x=o
 ·rw[if_pos e1]
  have:=this.mp (.inr e1)
  simp only[Option.isSome_some,true_iff];rcases this with h|h
  ·exact .inl h
  ·exact .inr (.inl h)
 ·rw[if_neg e1];by_cases e2:x=s
  ·rw[if_pos e2];simp only[Option.isSome_some,true_iff];exact .inr (.inr (e2.trans nF))
  ·rw[if_neg e2];rw[nF]at e2;constructor
   ·intro h;rcases this.mp (.inl h)with h|h
    ·exact .inl h
    ·exact .inr (.inl h)
   ·intro h;rcases h with h|h|h
    ·rcases this.mpr (.inl h)with h|h
     ·exact h
     ·exact absurd h e1
    ·rcases this.mpr (.inr h)with h|h
     ·exact h
     ·exact absurd h e1
    ·exact absurd h e2
theorem U8{F:List Sq}{m:Sq->Option Sq}{st:Sq}{L:List Sq}{t:PM}{e e' s' o s f:Sq}{m':Sq->Option Sq}{j:Nat}(T:Tr F m st L t)(hk:e'∉t.map (·.1))(B:Back F m L (t++[(e',s')]) e j o m')(hs:lk (t++[(e',s')]) o=some s)(hm:m' s=some f)(M:MOk F m)(Hu:m st=none) :
  ∃j',j'<j/\Back F m L (t++[(e',s')]) e j' f (two m' s o):=by
 obtain⟨s2,h1,h2,h3⟩:=B.par;rw[hs]at h2;cases h2;have kN:=T.inn s (List.mem_of_getElem? h1);obtain⟨g1,g2,g3,g4,g5⟩:=Sy B.stale kN B.oin h3 hm;have jE:=B.same j s (Nat.le_refl _) h1;rw[hm]at jE;obtain⟨k,rfl⟩:∃k,j=k+1:=by
  cases j with
  |zero=>rw[T.hd]at h1;cases h1;rw[Hu]at jE;cases jE
  |succ k=>exact⟨k,rfl⟩
 have A6:k+1<L.length:=(List.getElem?_eq_some_iff.mp h1).1;have Ro:k<t.length:=by have:=T.len;lia
 obtain⟨e1,⟨j',pN,e2⟩,e3,e4⟩:=T.at_ k t[k] (List.getElem?_eq_getElem Ro);rw[h1]at e1;have q:=(M.ok _ _ e1).1;rw[q]at jE;cases jE;refine⟨j',by lia,g1,g3,⟨t[k].2,e2,?_,e3⟩,?_,?_⟩
 ·refine Yz (p:=t[k]) ?_ (List.mem_append_left _ (List.getElem_mem _));rw[List.map_append,List.nodup_append];refine⟨T.nd,by simp,fun a ha b hb e=>?_⟩;simp at hb;subst hb;subst e;exact hk ha
 ·intro i x hi hx;have n1:x≠o:=by
   rintro rfl
   have:=T.co x (List.mem_of_getElem? hx)
   have h5:=T.co s (List.mem_of_getElem? h1);exact cb h3 (h5.trans this.symm)
  have n2:x≠s:=by
   rintro rfl
   have:=iS T.nL hx h1
   lia
  unfold two;rw[if_neg n1,if_neg n2];exact B.same i x (by lia) hx
 ·intro x;rw[<-B.dom x];unfold two;by_cases a1:x=o
  ·simp[a1]
  ·rw[if_neg a1];by_cases a2:x=s
   ·subst a2;rw[if_pos rfl,hm];simp
   ·rw[if_neg a2];by_cases a3:x=t[k].1
    ·subst a3;rw[g2];simp
    ·simp[a1,a3]
structure CrowdP (F C:List Sq):Prop where
 ne:C≠[]
 up:C.Pairwise AQ
 inn:∀x∈C,x∈F
 co:∀x∈C,∀y∈C,col x=col y
 few:∃ks:List Sq,ks.length<C.length/\∀x∈C,∀y∈nbM x,y∈F->y∈ks
theorem bN{L:List Sq}(nd:L.Nodup):(TSq.sort L).Pairwise AQ:=by
 have h1:=TSq.sort_sorted L;have h2:(TSq.sort L).Nodup:=(TSq.sort_perm L).nodup_iff.mpr nd;refine(h1.and h2).imp fun {s t} h=>?_;obtain⟨h1,h2⟩:=h;unfold TyD.le at h1;rw[show TSq.f=sq from rfl,YU]at h1;simp only[Bool.not_eq_true',decide_eq_false_iff_not]at h1;rcases Lm s t with h|h|h
 ·exact h
 ·exact absurd h h2
 ·exact absurd h h1
theorem Tr.crowd{F:List Sq}{m:Sq->Option Sq}{st:Sq}{L:List Sq}{t:PM}(T:Tr F m st L t)(cl:∀x∈L,∀y∈nbM x,y∈F->y∈t.map (·.1)):CrowdP F (TSq.sort L):=by
 have hm:∀x,x∈TSq.sort L↔x∈L:=fun x=>(TSq.sort_perm L).mem_iff;have hl:(TSq.sort L).length=t.length+1:=by rw[(TSq.sort_perm L).length_eq,T.len]
 refine⟨?_,bN T.nL,fun x hx=>T.inn x ((hm x).mp hx),fun x hx y hy=>?_,t.map (·.1),?_,fun x hx=>cl x ((hm x).mp hx)⟩
 ·intro e;rw[e]at hl;simp at hl
 ·rw[T.co x ((hm x).mp hx),T.co y ((hm y).mp hy)]
 ·rw[List.length_map,hl];lia
theorem WO(pm:PM)(s o:Sq):lk (pt (pt pm s o) o s)=two (lk pm) s o:=by funext z;rw[bh,bh];rfl
theorem Sg(x y:Sq):Cq true (sq x) (sq y)=decide (AQ x y):=by
 have:=TSq.lt x y
 rw[show TSq.f=sq from rfl,YU]at this;exact this
def NJ(F:List Sq)(m:Sq->Option Sq):Lay:=(F.filter fun x=>decide (AQ x ((m x).getD x))).map fun x=>(x,(m x).getD x)
theorem YZ{F:List Sq}(up:F.Pairwise AQ){m:Sq->Option Sq}(M:MOk F m)(ZJ:∀x∈F,(m x).isSome=true):IsLay F (NJ F m):=by
 have get:∀x∈F,m x=some ((m x).getD x):=fun x hx=>by
  obtain⟨y,hy⟩:=Option.isSome_iff_exists.mp (ZJ x hx);rw[hy];rfl
 have Hu:∀s∈NJ F m,s.1∈F/\m s.1=some s.2/\AQ s.1 s.2:=fun s hs=>by
  unfold NJ at hs;obtain⟨x,hx,rfl⟩:=List.mem_map.mp hs;rw[List.mem_filter,decide_eq_true_eq]at hx;exact⟨hx.1,get x hx.1,hx.2⟩
 have pE:(NJ F m).Pairwise fun s t=>AQ s.1 t.1:=by
  unfold NJ;rw[List.pairwise_map];exact up.sublist List.filter_sublist
 refine⟨⟨fun s hs=>?_,?_⟩,pE⟩
 ·obtain⟨h1,h2,h3⟩:=Hu s hs;exact⟨h3,(M.ok _ _ h2).2.1⟩
 ·rw[List.perm_ext_iff_of_nodup _ (EG up)]
  ·intro x;rw[A3];constructor
   ·rintro⟨s,hs,e⟩;obtain⟨h1,h2,h3⟩:=Hu s hs;rcases e with rfl|rfl
    ·exact h1
    ·exact(M.ok _ _ h2).2.2.2
   ·intro hx;have hm:=get x hx;obtain⟨g1,g2,g3,g4⟩:=M.ok _ _ hm;rcases Lm x ((m x).getD x)with h|h|h
    ·exact⟨(x,(m x).getD x),List.mem_map.mpr ⟨x,by rw[List.mem_filter,decide_eq_true_eq];exact⟨hx,h⟩,rfl⟩,.inl rfl⟩
    ·exact absurd h.symm (Hj g2)
    ·refine⟨((m x).getD x,x),List.mem_map.mpr ⟨(m x).getD x,?_,?_⟩,.inr rfl⟩
     ·rw[List.mem_filter,decide_eq_true_eq,g1];exact⟨g4,h⟩
     ·rw[g1];rfl
  ·unfold Aj List.Nodup;rw[List.pairwise_flatMap];refine⟨fun s hs=>?_,?_⟩
   ·obtain⟨h1,h2,h3⟩:=Hu s hs
    have:=Ne.symm (Hj (M.ok _ _ h2).2.1)
    simp[this]
   ·refine pE.imp_of_mem fun {s t} hs ht A6=>?_;obtain⟨h1,h2,h3⟩:=Hu s hs;obtain⟨k1,k2,k3⟩:=Hu t ht;have inj:∀a b c,m a=some c->m b=some c->a=b:=fun a b c e1 e2=>by
     have q1:=(M.ok _ _ e1).1;have q2:=(M.ok _ _ e2).1;rw[q1]at q2;cases q2;rfl
    have BS:s.1≠t.1:=fun e=>AW _ (e▸A6);have n2:s.2≠t.2:=fun e=>BS (inj _ _ _ h2 (e▸k2));have n3:s.1≠t.2:=fun e=>by
     have q:=(M.ok _ _ k2).1;rw[<-e,h2]at q;have q':s.2=t.1:=Option.some.inj q;rw[e,q']at h3;exact AW _ (BH h3 k3)
    have n4:s.2≠t.1:=fun e=>by
     have q:=(M.ok _ _ h2).1;rw[e,k2]at q;have q':t.2=s.1:=Option.some.inj q;rw[q']at k3;rw[e]at h3;exact AW _ (BH h3 k3)
    intro x hx y hy;simp only[List.mem_cons,List.not_mem_nil,or_false]at hx hy;rcases hx with rfl|rfl<;>rcases hy with rfl|rfl<;>assumption
def ptn(l:Lay)(x:Sq):Option Sq:=l.findSome? fun s=>if s.1=x then some s.2 else if s.2=x then some s.1 else none
theorem Om{l:Lay}(nd:(Aj l).Nodup){s:Bz}(hs:s∈l):ptn l s.1=some s.2/\ptn l s.2=some s.1:=by
 induction l with
 |nil=>cases hs
 |cons a l ih=>
  have dU:([a.1,a.2]++Aj l).Nodup:=nd;rw[List.nodup_append]at dU;obtain⟨n1,n2,n3⟩:=dU;have BS:a.1≠a.2:=by simpa using n1
  unfold ptn;rw[List.findSome?_cons,List.findSome?_cons];rcases List.mem_cons.mp hs with rfl|hs
  ·rw[if_pos rfl,if_neg BS,if_pos rfl];exact⟨rfl,rfl⟩
  ·have m1:s.1∈Aj l:=A3.mpr ⟨s,hs,.inl rfl⟩;have m2:s.2∈Aj l:=A3.mpr ⟨s,hs,.inr rfl⟩;have k1:a.1≠s.1:=n3 _ (by simp) _ m1;have k2:a.1≠s.2:=n3 _ (by simp) _ m2;have k3:a.2≠s.1:=n3 _ (by simp) _ m1;have k4:a.2≠s.2:=n3 _ (by simp) _ m2;rw[if_neg k1,if_neg k3,if_neg k2,if_neg k4];exact ih n2 hs
theorem Xy{l:Lay}{x y:Sq}(h:ptn l x=some y):(x,y)∈l\/(y,x)∈l:=by
 obtain⟨s,hs,e⟩:=List.exists_of_findSome?_eq_some h;by_cases h1:s.1=x
 ·rw[if_pos h1]at e;cases e;exact .inl (h1▸hs)
 ·rw[if_neg h1]at e;by_cases h2:s.2=x
  ·rw[if_pos h2]at e;cases e;exact .inr (h2▸hs)
  ·rw[if_neg h2]at e;cases e
theorem Cov.mok{F:List Sq}{l:Lay}(C:Cov F l)(nd:F.Nodup):MOk F (ptn l)/\∀x∈F,(ptn l x).isSome=true:=by
 have dU:=C.pm.nodup_iff.mpr nd;refine⟨⟨fun x y h=>?_⟩,fun x hx=>?_⟩
 ·rcases Xy h with h|h
  ·exact⟨(Om dU h).2,(C.st _ h).2,C.pm.mem_iff.mp (A3.mpr ⟨_,h,.inl rfl⟩),C.pm.mem_iff.mp (A3.mpr ⟨_,h,.inr rfl⟩)⟩
  ·exact⟨(Om dU h).1,Ez (C.st _ h).2,C.pm.mem_iff.mp (A3.mpr ⟨_,h,.inr rfl⟩),C.pm.mem_iff.mp (A3.mpr ⟨_,h,.inl rfl⟩)⟩
 ·obtain⟨s,hs,e⟩:=A3.mp (C.pm.mem_iff.mpr hx);rcases e with rfl|rfl
  ·rw[(Om dU hs).1];rfl
  ·rw[(Om dU hs).2];rfl
theorem CrowdP.none{F C:List Sq}(K:CrowdP F C)(nd:F.Nodup){l:Lay}(I:Cov F l):False:=by
 obtain⟨M,ZJ⟩:=I.mok nd;obtain⟨ks,hl,hk⟩:=K.few;have get:∀x∈C,ptn l x=some ((ptn l x).getD x):=fun x hx=>by
  obtain⟨y,hy⟩:=Option.isSome_iff_exists.mp (ZJ x (K.inn x hx));rw[hy];rfl
 have nC:(C.map fun x=>(ptn l x).getD x).Nodup:=by
  unfold List.Nodup;rw[List.pairwise_map];refine(EG K.up).imp_of_mem fun {a b} ha hb BS e=>BS ?_;have q1:=(M.ok _ _ (get a ha)).1;have q2:=(M.ok _ _ (get b hb)).1;rw[e,q2]at q1;cases q1;rfl
 have:=BD nC (m:=ks) fun y hy=>by
  obtain⟨x,hx,rfl⟩:=List.mem_map.mp hy;have g:=M.ok _ _ (get x hx);exact hk x hx _ g.2.1 g.2.2.2
 rw[List.length_map]at this;lia
def Am(floor:List Sq)(q:Sq)(taken:List Sq):List (List (Sq×Sq)×List Sq):=if taken.contains q=true then[([],taken.drop 1)]else
  (if (floor.contains (q.1,q.2+1)&&!taken.contains (q.1,q.2+1))=true then[([(q,(q.1,q.2+1))],(q.1,q.2+1)::taken)]else[]) ++
  (if floor.contains (q.1+1,q.2)=true then[([(q,(q.1+1,q.2))],taken++[(q.1+1,q.2)])]else[])
def Mj(p:List (Sq×Sq)×List Sq):Dat:=.tup [.tup (p.1.map AU),fl p.2]
def N7:SpD:=fun ds G R=>∃(floor:List Sq)(k:Nat)(q:Sq)(taken:List Sq),ds=[fl floor,.int k,fl taken]/\floor[k]?=some q/\floor.length<=1000/\taken.length<=1000/\R (.lst ((Am floor q taken).map Mj)) G
def Bj(floor:List Sq):List Sq->List Sq->Nat
 |[],_=>1
 |q::r,taken=>((Am floor q taken).map fun t=>Bj floor r t.2).sum
def Cp(floor:List Sq):Nat:=Bj floor floor []
def CM(k:Nat)(taken:List Sq):Dat:=.tup [.int k,fl taken]
def Valid(floor:List Sq)(AR:List (Dat×Dat)):Prop:=∀p∈AR,∃(k:Nat)(taken:List Sq),p.1=CM k taken/\p.2=.int (Bj floor (floor.drop k) taken:Nat)
theorem Mp{k k':Nat}{t t':List Sq}(h:CM k t=CM k' t'):k=k'/\t=t':=by simp only[CM,Dat.tup.injEq,List.cons.injEq,Dat.int.injEq,and_true]at h;exact⟨by lia,Xq h.2⟩
theorem Eo(k:Nat)(t:List Sq):B1 6 (CM k t)=true:=by simp only[CM,B1,List.all_cons,List.all_nil,Bool.and_true,Bool.true_and,fl];rw[List.all_eq_true];intro d hd;obtain⟨p,_,rfl⟩:=List.mem_map.mp hd;rfl
theorem Valid.look{floor:List Sq}{AR:List (Dat×Dat)}(h:Valid floor AR){k:Nat}{t:List Sq}{d:Dat}(e:Ac AR (CM k t)=some d):d=.int (Bj floor (floor.drop k) t:Nat):=by unfold Ac at e;obtain⟨p,hp,rfl⟩:=Option.map_eq_some_iff.mp e;have hm:=List.mem_of_find?_eq_some hp;have hk:=List.find?_some hp;have Hc:p.1=CM k t:=of_decide_eq_true hk;obtain⟨k',t',h1,h2⟩:=h p hm;rw[Hc]at h1;obtain⟨rfl,rfl⟩:=Mp h1;exact h2
theorem Valid.put{floor:List Sq}{AR:List (Dat×Dat)}(h:Valid floor AR)(k:Nat)(t:List Sq):Valid floor (DM AR (CM k t) (.int (Bj floor (floor.drop k) t:Nat))):=by
 unfold DM;intro p hp;split at hp
 ·obtain⟨x,hx,rfl⟩:=List.mem_map.mp hp;by_cases e:x.1=CM k t
  ·rw[if_pos e];exact⟨k,t,e,rfl⟩
  ·rw[if_neg e];exact h x hx
 ·rcases List.mem_append.mp hp with hp|hp
  ·exact h p hp
  ·rw[List.mem_singleton.mp hp];exact⟨k,t,rfl,rfl⟩
theorem R5(AR:List (Dat×Dat))(k v:Dat):Ac (DM AR k v) k=some v:=by
 by_cases h:(Ac AR k).isSome=true
 ·have:∀(AR:List (Dat×Dat)),(Ac AR k).isSome=true->Ac (AR.map fun x=>if x.1=k then(x.1,v)else x) k=some v:=by
   intro AR
   induction AR with
   |nil=>intro h;simp[Ac]at h
   |cons p r ih=>
    intro h;by_cases e:p.1=k
    ·simp[Ac,e]
    ·have h':(Ac r k).isSome=true:=by simpa[Ac,e]using h
     have:=ih h'
     simpa[Ac,e]using this
  unfold DM;rw[if_pos h];exact this AR h
 ·unfold DM;rw[if_neg h];have hn:AR.find? (fun x=>decide (x.1=k))=none:=by
   cases q:AR.find? (fun x=>decide (x.1=k))with
   |none=>rfl
   |some p=>exact absurd (by simp[Ac,q]) h
  simp[Ac,List.find?_append,hn]
theorem HS(floor:List Sq)(q:Sq)(taken:List Sq):(Am floor q taken).length<=2/\∀p∈Am floor q taken,p.2.length<=taken.length+1:=by
 unfold Am;split
 ·refine⟨by simp,fun p hp=>?_⟩;rw[List.mem_singleton.mp hp];simp;lia
 ·constructor
  ·rw[List.length_append];split<;>split<;>simp
  ·intro p hp;rcases List.mem_append.mp hp with hp|hp
   ·split at hp
    ·rw[List.mem_singleton.mp hp];simp
    ·cases hp
   ·split at hp
    ·rw[List.mem_singleton.mp hp];simp
    ·cases hp
def Ox:SpD:=fun ds G R=>∃(floor:List Sq),ds=[fl floor]/\floor.length<=24/\R (.int (Cp floor:Nat)) G
def DF(floor:List Sq):List Sq->List Sq->List Lay
 |[],_=>[[]]
 |q::r,taken=>(Am floor q taken).flatMap fun t=>(DF floor r t.2).map (t.1++·)
theorem IS(floor:List Sq):∀(rest taken:List Sq),Bj floor rest taken=(DF floor rest taken).length
 |[],_=>rfl
 |q::r,taken=>by
  rw[Bj,DF,List.length_flatMap];congr 1;refine List.map_congr_left fun t _=>?_;rw[IS floor r t.2,List.length_map]
def Bo(rest taken:List Sq):List Sq:=rest.filter fun x=>!taken.contains x
theorem Fz{rest taken:List Sq}{x:Sq}:x∈Bo rest taken↔x∈rest/\x∉taken:=by simp[Bo]
structure WInv (floor rest taken:List Sq):Prop where
 up:floor.Pairwise AQ
 pre:∃pre,floor=pre++rest
 tup:taken.Pairwise AQ
 tin:∀t∈taken,t∈rest
 bd:∀q r,rest=q::r->∀t∈taken,AQ t (q.1+1,q.2)
theorem aR{l:Lay}:IsLay [] l↔l=[]:=by
 constructor
 ·intro I
  have:=I.pm.length_eq
  cases l with
  |nil=>rfl
  |cons s l=>simp[Aj]at this
 ·rintro rfl;exact⟨⟨by simp,.refl _⟩,.nil⟩
def J6(D:List Sq)(o:Sq):List Sq:=D.filter fun x=>!decide (x=o)
theorem J0{D:List Sq}{o x:Sq}:x∈J6 D o↔x∈D/\x≠o:=by simp[J6]
theorem LV{D:List Sq}(nd:D.Nodup){o:Sq}(ho:o∈D):(o::J6 D o).Perm D:=by
 rw[List.perm_ext_iff_of_nodup _ nd]
 ·intro x;simp only[List.mem_cons,J0];by_cases h1:x=o
  ·subst h1;simp[ho]
  ·simp[h1]
 ·exact List.nodup_cons.mpr ⟨fun h=>(J0.mp h).2 rfl,nd.sublist List.filter_sublist⟩
theorem gD{q o:Sq}(h:o∈nbM q)(A6:AQ q o):o=(q.1,q.2+1)\/o=(q.1+1,q.2):=by
 obtain⟨a,b⟩:=q;obtain⟨c,d⟩:=o;simp only[nbM,List.mem_cons,List.not_mem_nil,or_false,Prod.mk.injEq]at h ⊢;have e:a<c\/(a=c/\b<d):=A6;rcases h with⟨h1,h2⟩|⟨h1,h2⟩|h|h
 ·lia
 ·lia
 ·exact .inl h
 ·exact .inr h
theorem Xu{q:Sq}{D:List Sq}(up:(q::D).Pairwise AQ){l:Lay}:IsLay (q::D) l↔∃o,(o=(q.1,q.2+1)\/o=(q.1+1,q.2))/\o∈D/\∃l',l=(q,o)::l'/\IsLay (J6 D o) l':=by
 obtain⟨uq,uD⟩:=List.pairwise_cons.mp up;constructor
 ·intro I;obtain⟨s,hs,he⟩:=A3.mp (I.pm.mem_iff.mpr (List.mem_cons_self ..));have inD:∀s∈l,s.1∈q::D/\s.2∈q::D:=fun s hs=>⟨I.pm.mem_iff.mp (A3.mpr ⟨s,hs,.inl rfl⟩),I.pm.mem_iff.mp (A3.mpr ⟨s,hs,.inr rfl⟩)⟩;have ge:∀x∈q::D,¬AQ x q:=fun x hx h=>by
   rcases List.mem_cons.mp hx with e|hx
   ·subst e;exact AW _ h
   ·exact AW _ (BH h (uq x hx))
  obtain⟨slt,jJ⟩:=I.st s hs;have h1:s.1=q:=by
   rcases he with e|e
   ·exact e.symm
   ·rw[<-e]at slt;exact absurd slt (ge _ (inD s hs).1)
  cases l with
  |nil=>cases hs
  |cons a l'=>
   have ha:s=a:=by
    rcases List.mem_cons.mp hs with e|h
    ·exact e
    ·have:=(List.pairwise_cons.mp I.up).1 s h
     rw[h1]at this;exact absurd this (ge _ (inD a (List.mem_cons_self ..)).1)
   subst ha;have MT:s.2∈D:=by
    rcases List.mem_cons.mp (inD s hs).2 with e|h
    ·rw[h1]at slt;rw[e]at slt;exact absurd slt (AW _)
    ·exact h
   rw[h1]at slt jJ;refine⟨s.2,gD jJ slt,MT,l',by rw[<-h1],⟨fun t ht=>I.st t (List.mem_cons_of_mem _ ht),?_⟩,(List.pairwise_cons.mp I.up).2⟩;have hp:(s.1::s.2::Aj l').Perm (q::D):=I.pm;rw[h1]at hp;exact(List.perm_cons _).mp (((List.perm_cons _).mp hp).trans (LV (EG uD) MT).symm)
 ·rintro⟨o,dq,fJ,l',rfl,I⟩;have A6:=uq o fJ;have iO:o∈nbM q:=by
   obtain⟨a,b⟩:=q;rcases dq with rfl|rfl<;>simp[nbM]
  refine⟨⟨fun t ht=>?_,?_⟩,List.pairwise_cons.mpr ⟨fun t ht=>?_,I.up⟩⟩
  ·rcases List.mem_cons.mp ht with rfl|ht
   ·exact⟨A6,iO⟩
   ·exact I.st t ht
  ·show(q::o::Aj l').Perm (q::D);exact List.Perm.cons _ ((List.Perm.cons _ I.pm).trans (LV (EG uD) fJ))
  ·have:=I.pm.mem_iff.mp (A3.mpr ⟨t,ht,.inl rfl⟩)
   exact uq _ (J0.mp this).1
theorem WInv.tail{floor r:List Sq}{q:Sq}{taken:List Sq}(h:WInv floor (q::r) taken):(∀x∈r,AQ q x)/\r.Pairwise AQ/\∀x,AQ q x->x∈floor->x∈r:=by
 obtain⟨pre,e⟩:=h.pre;have hu:=h.up;rw[e,List.pairwise_append]at hu;obtain⟨u1,u2⟩:=List.pairwise_cons.mp hu.2.1;refine⟨u1,u2,fun x hx hm=>?_⟩;rw[e]at hm;rcases List.mem_append.mp hm with hm|hm
 ·exact absurd (BH hx (hu.2.2 x hm q (by simp))) (AW _)
 ·rcases List.mem_cons.mp hm with e|hm
  ·subst e;exact absurd hx (AW _)
  ·exact hm
theorem Qk{q q':Sq}(h:AQ q q'):AQ (q.1+1,q.2) (q'.1+1,q'.2):=by unfold AQ at *;simp only;lia
theorem b6{α:Type}{p q:Prop}[Decidable p][Decidable q](h:p↔q)(a b:α):(if p then a else b)=if q then a else b:=by
 by_cases c:p
 ·rw[if_pos c,if_pos (h.mp c)]
 ·rw[if_neg c,if_neg fun d=>c (h.mpr d)]
theorem EN{α:Type}{l:List α}{p q:α->Bool}(h:∀x∈l,p x=q x):l.filter p=l.filter q:=List.filter_congr h
theorem XI(floor:List Sq):∀(rest taken:List Sq),WInv floor rest taken->(∀l,l∈DF floor rest taken↔IsLay (Bo rest taken) l)/\(DF floor rest taken).Pairwise Kd.lt':=by
 intro rest
 induction rest with
 |nil=>
  intro taken h;rw[DF,show Bo [] taken=[]from rfl];exact⟨fun l=>by rw[aR,List.mem_singleton],List.pairwise_singleton _ _⟩
 |cons q r ih=>
  intro taken W;obtain⟨uq,ur,Rf⟩:=W.tail;obtain⟨pre,Jy⟩:=W.pre;have dt:∃pre,floor=pre++r:=⟨pre++[q],by rw[Jy];simp⟩;have kB:∀t∈taken,∀q' r',r=q'::r'->AQ t (q'.1+1,q'.2):=fun t ht q' r' e=>BH (W.bd q r rfl t ht) (Qk (uq q' (by rw[e];simp)));rw[DF];by_cases hq:taken.contains q=true
  ·have YA:q∈taken:=by simpa using hq
   obtain⟨a,tk,rfl⟩:∃a tk,taken=a::tk:=List.exists_cons_of_ne_nil (List.ne_nil_of_mem YA);obtain⟨ua,qQ⟩:=List.pairwise_cons.mp W.tup;have ha:a=q:=by
    rcases List.mem_cons.mp YA with e|h
    ·exact e.symm
    ·have h1:=ua q h;rcases List.mem_cons.mp (W.tin a (List.mem_cons_self ..))with e|h2
     ·exact e
     ·exact absurd (BH h1 (uq a h2)) (AW _)
   subst ha;have W':WInv floor r tk:=⟨W.up,dt,qQ,fun t ht=>by
    rcases List.mem_cons.mp (W.tin t (List.mem_cons_of_mem _ ht))with e|h
    ·subst e;exact absurd (ua t ht) (AW _)
    ·exact h,fun q' r' e t ht=>kB t (List.mem_cons_of_mem _ ht) q' r' e⟩
   have ef:Bo (a::r) (a::tk)=Bo r tk:=by
    unfold Bo;rw[List.filter_cons,if_neg (by simp)];refine EN fun x hx=>?_;have:x≠a:=fun e=>by subst e;exact AW _ (uq x hx)
    simp[this]
   have es:Am floor a (a::tk)=[([],tk)]:=by unfold Am;rw[if_pos hq];rfl
   rw[es,ef];obtain⟨i1,i2⟩:=ih tk W';simp only[List.flatMap_cons,List.flatMap_nil,List.append_nil,List.nil_append,List.map_id'];exact⟨i1,i2⟩
  ·have YA:q∉taken:=by simpa using hq
   have ef:Bo (q::r) taken=q::Bo r taken:=by
    unfold Bo;rw[List.filter_cons,if_pos (by simpa using YA)]
   have ju:∀t∈taken,AQ q t/\t∈r:=fun t ht=>by
    rcases List.mem_cons.mp (W.tin t ht)with e|h
    ·subst e;exact absurd ht YA
    ·exact⟨uq t h,h⟩
   have uD:(q::Bo r taken).Pairwise AQ:=List.pairwise_cons.mpr ⟨fun x hx=>uq x (Fz.mp hx).1,ur.sublist List.filter_sublist⟩;have qo:AQ q (q.1,q.2+1):=by unfold AQ;right;exact⟨rfl,by show q.2<q.2+1;lia⟩
   have pZ:AQ q (q.1+1,q.2):=by unfold AQ;left;show q.1<q.1+1;lia
   have es:Am floor q taken=(if (q.1,q.2+1)∈Bo r taken then[([(q,(q.1,q.2+1))],(q.1,q.2+1)::taken)]else[])++(if (q.1+1,q.2)∈Bo r taken then[([(q,(q.1+1,q.2))],taken++[(q.1+1,q.2)])]else[]):=by
    unfold Am;rw[if_neg hq];congr 1
    ·refine b6 ?_ _ _;rw[Fz];simp only[Bool.and_eq_true,Bool.not_eq_true',List.contains_eq_mem,decide_eq_true_eq,decide_eq_false_iff_not];constructor
     ·rintro⟨h1,h2⟩;exact⟨Rf _ qo h1,h2⟩
     ·rintro⟨h1,h2⟩;exact⟨by rw[Jy];simp[h1],h2⟩
    ·refine b6 ?_ _ _;rw[Fz];simp only[List.contains_eq_mem,decide_eq_true_eq];constructor
     ·intro h1;exact⟨Rf _ pZ h1,fun h=>AW _ (W.bd q r rfl _ h)⟩
     ·rintro⟨h1,_⟩;rw[Jy];simp[h1]
   have W1:(q.1,q.2+1)∈Bo r taken->WInv floor r ((q.1,q.2+1)::taken):=fun h=>by
    obtain⟨h1,h2⟩:=Fz.mp h;refine⟨W.up,dt,List.pairwise_cons.mpr ⟨fun t ht=>?_,W.tup⟩,fun t ht=>?_,fun q' r' e t ht=>?_⟩
    ·obtain⟨g1,_⟩:=ju t ht;have BS:t≠(q.1,q.2+1):=fun e=>h2 (e▸ht);obtain⟨c,d⟩:=t;simp only[ne_eq,Prod.mk.injEq,not_and]at BS;unfold AQ at *;simp only at *;lia
    ·rcases List.mem_cons.mp ht with rfl|ht
     ·exact h1
     ·exact(ju t ht).2
    ·rcases List.mem_cons.mp ht with rfl|ht
     ·have:=uq q' (by rw[e];simp)
      unfold AQ at *;simp only at *;lia
     ·exact kB t ht q' r' e
   have W2:(q.1+1,q.2)∈Bo r taken->WInv floor r (taken++[(q.1+1,q.2)]):=fun h=>by
    obtain⟨h1,h2⟩:=Fz.mp h;refine⟨W.up,dt,?_,fun t ht=>?_,fun q' r' e t ht=>?_⟩
    ·rw[List.pairwise_append];refine⟨W.tup,List.pairwise_singleton _ _,fun t ht y hy=>?_⟩;rw[List.mem_singleton.mp hy];exact W.bd q r rfl t ht
    ·rcases List.mem_append.mp ht with ht|ht
     ·exact(ju t ht).2
     ·rw[List.mem_singleton.mp ht];exact h1
    ·rcases List.mem_append.mp ht with ht|ht
     ·exact kB t ht q' r' e
     ·rw[List.mem_singleton.mp ht];exact Qk (uq q' (by rw[e];simp))
   have e1:Bo r ((q.1,q.2+1)::taken)=J6 (Bo r taken) (q.1,q.2+1):=by
    unfold Bo J6;rw[List.filter_filter];refine EN fun x _=>?_;rw[Bool.eq_iff_iff];simp[not_or]
   have e2:Bo r (taken++[(q.1+1,q.2)])=J6 (Bo r taken) (q.1+1,q.2):=by
    unfold Bo J6;rw[List.filter_filter];refine EN fun x _=>?_;rw[Bool.eq_iff_iff];simp[not_or,and_comm]
   have U6:∀l,l∈((Am floor q taken).flatMap fun t=>(DF floor r t.2).map (t.1++·))↔IsLay (q::Bo r taken) l:=by
    intro l;rw[Xu uD,es,List.flatMap_append,List.mem_append];constructor
    ·rintro(h|h)
     ·by_cases c:(q.1,q.2+1)∈Bo r taken
      ·rw[if_pos c]at h;simp only[List.flatMap_cons,List.flatMap_nil,List.append_nil,List.mem_map]at h;obtain⟨l',PB,rfl⟩:=h;refine⟨_,.inl rfl,c,l',rfl,?_⟩;rw[<-e1];exact((ih _ (W1 c)).1 l').mp PB
      ·rw[if_neg c]at h;simp at h
     ·by_cases c:(q.1+1,q.2)∈Bo r taken
      ·rw[if_pos c]at h;simp only[List.flatMap_cons,List.flatMap_nil,List.append_nil,List.mem_map]at h;obtain⟨l',PB,rfl⟩:=h;refine⟨_,.inr rfl,c,l',rfl,?_⟩;rw[<-e2];exact((ih _ (W2 c)).1 l').mp PB
      ·rw[if_neg c]at h;simp at h
    ·rintro⟨o,dq,fJ,l',rfl,I⟩;rcases dq with rfl|rfl
     ·left;rw[if_pos fJ];simp only[List.flatMap_cons,List.flatMap_nil,List.append_nil,List.mem_map];refine⟨l',((ih _ (W1 fJ)).1 l').mpr (by rw[e1];exact I),rfl⟩
     ·right;rw[if_pos fJ];simp only[List.flatMap_cons,List.flatMap_nil,List.append_nil,List.mem_map];refine⟨l',((ih _ (W2 fJ)).1 l').mpr (by rw[e2];exact I),rfl⟩
   refine⟨fun l=>by rw[ef];exact U6 l,?_⟩;have same:∀(o:Sq)(ls:List Lay),ls.Pairwise Kd.lt'->(ls.map ([(q,o)]++·)).Pairwise Kd.lt':=fun o ls h=>by
    rw[List.pairwise_map];refine h.imp fun {a b} Oj=>?_;show lx (flat (AU (q,o))++flat (lay a)) (flat (AU (q,o))++flat (lay b))=true;rw[RO];exact Oj
   rw[es,List.flatMap_append,List.pairwise_append];refine⟨?_,?_,?_⟩
   ·split
    ·rename_i c;simp only[List.flatMap_cons,List.flatMap_nil,List.append_nil];exact same _ _ (ih _ (W1 c)).2
    ·exact .nil
   ·split
    ·rename_i c;simp only[List.flatMap_cons,List.flatMap_nil,List.append_nil];exact same _ _ (ih _ (W2 c)).2
    ·exact .nil
   ·intro x hx y hy;split at hx
    ·split at hy
     ·simp only[List.flatMap_cons,List.flatMap_nil,List.append_nil,List.mem_map]at hx hy;obtain⟨a,_,rfl⟩:=hx;obtain⟨b,_,rfl⟩:=hy;show lx (flat (AU (q,(q.1,q.2+1)))++flat (lay a)) (flat (AU (q,(q.1+1,q.2)))++flat (lay b))=true;rw[UP (a:=flat (AU (q,(q.1,q.2+1)))) (a':=flat (AU (q,(q.1+1,q.2)))) _ _ rfl ?_,Lb,decide_eq_true_eq]
      ·right;refine⟨rfl,?_⟩;left;show q.1<q.1+1;lia
      ·intro e
       have:=Ds e
       simp at this;lia
     ·simp at hy
    ·simp at hx
theorem i9{F:List Sq}(up:F.Pairwise AQ):WInv F F []:=⟨up,⟨[],rfl⟩,.nil,by simp,by simp⟩
theorem ij(F:List Sq):Bo F []=F:=by unfold Bo;rw[List.filter_eq_self];intro a _;rfl
theorem iZ{α:Type}(T:TyD α){x y:α}(h:T.lt' x y):T.le x y=true:=by
 unfold TyD.le;unfold TyD.lt' at h;cases e:lx (flat (T.f y)) (flat (T.f x))with
 |false=>rfl
 |true=>
  have:=Gk h e
  rw[Ea]at this;cases this
theorem h9{α:Type}(T:TyD α){x y:α}(h:T.lt' x y):x≠y:=by rintro rfl;unfold TyD.lt' at h;rw[show lx=HT.lexLt from rfl,Ea]at h;cases h
theorem Qq{F:List Sq}(up:F.Pairwise AQ):DF F F []=A8 F:=by obtain⟨h1,h2⟩:=XI F F [] (i9 up);rw[ij]at h1;refine Kd.uniq ?_ (h2.imp fun h=>iZ Kd h) (SE F);rw[List.perm_ext_iff_of_nodup (h2.imp fun h=>h9 Kd h) (Sl up)];exact fun l=>(h1 l).trans (C6 up).symm
theorem HD{F:List Sq}(up:F.Pairwise AQ):Cp F=(A8 F).length:=by unfold Cp;rw[IS,Qq up]
theorem NN(s t:Bz):eqD (AU s) (AU t)=decide (s=t):=by obtain⟨a,b⟩:=s;obtain⟨c,d⟩:=t;show(eqD (sq a) (sq c)&&(eqD (sq b) (sq d)&&true))=_;rw[Hw,Hw,Bool.and_true,Bool.eq_iff_iff];simp
theorem Jo(l:List Bz)(s:Bz):((l.map AU).any fun e=>eqD e (AU s))=l.contains s:=by
 rw[Bool.eq_iff_iff,List.any_map,List.any_eq_true,List.contains_iff_mem];constructor
 ·rintro⟨x,hx,e⟩;have e':eqD (AU x) (AU s)=true:=e;rw[NN,decide_eq_true_eq]at e';exact e'▸hx
 ·intro h;exact⟨s,h,by show eqD (AU s) (AU s)=true;rw[NN];simp⟩
theorem FZ(l:List Bz):(l.map AU).all (AJ 8)=true:=by rw[List.all_eq_true];intro d hd;obtain⟨s,_,rfl⟩:=List.mem_map.mp hd;exact DG s
theorem Ob{F:List Sq}{l:Lay}(I:IsLay F l):l.Nodup:=I.up.imp fun {s t} h e=>by subst e;exact AW _ h
theorem X9{F:List Sq}{l:Lay}(C:Cov F l){s:Bz}(hs:s∈l):s.1∈F/\s.2∈F:=⟨C.pm.mem_iff.mp (A3.mpr ⟨s,hs,.inl rfl⟩),C.pm.mem_iff.mp (A3.mpr ⟨s,hs,.inr rfl⟩)⟩
theorem NA{F:List Sq}(nd:F.Nodup){l:Lay}(I:IsLay F l){s:Bz}(hs:s∈l):IsLay (Bd F s.1 s.2) (l.erase s):=by
 have hp:(s::l.erase s).Perm l:=(List.perm_cons_erase hs).symm;have Rf:=X9 I.toCov hs;have BS:s.2≠s.1:=fun e=>by have:=(I.st s hs).1;rw[e]at this;exact AW _ this
 refine⟨⟨fun t ht=>I.st t (List.mem_of_mem_erase ht),?_⟩,I.up.sublist List.erase_sublist⟩;have h1:(s.1::s.2::Aj (l.erase s)).Perm F:=(JE hp).trans I.pm;have h2:(s.1::s.2::Bd F s.1 s.2).Perm F:=(List.Perm.swap _ _ _).trans (GY nd Rf.1 Rf.2 BS);exact(List.perm_cons _).mp ((List.perm_cons _).mp (h1.trans h2.symm))
theorem Zd{F:List Sq}(nd:F.Nodup){s:Bz}(h1:s.1∈F)(h2:s.2∈F)(A6:AQ s.1 s.2)(iO:s.2∈nbM s.1){m:Lay}(C:Cov (Bd F s.1 s.2) m):Cov F (s::m):=by
 have BS:s.2≠s.1:=fun e=>by rw[e]at A6;exact AW _ A6
 refine⟨fun t ht=>?_,?_⟩
 ·rcases List.mem_cons.mp ht with e|h
  ·rw[e];exact⟨A6,iO⟩
  ·exact C.st t h
 ·have h3:(s.1::s.2::Bd F s.1 s.2).Perm F:=(List.Perm.swap _ _ _).trans (GY nd h1 h2 BS);exact(((C.pm.cons _).cons _).trans h3:(s.1::s.2::Aj m).Perm F)
theorem V3{F:List Sq}(up:F.Pairwise AQ){l:Lay}(I:IsLay F l){s:Bz}(hs:s∈l):(A8 (Bd F s.1 s.2)).length=((A8 F).filter (·.contains s)).length:=by
 have nd:=EG up;have Rf:=X9 I.toCov hs;obtain⟨A6,iO⟩:=I.st s hs;have nR:=Dg up s.1 s.2;have hp:(A8 (Bd F s.1 s.2)).Perm (((A8 F).filter (·.contains s)).map (·.erase s)):=by
  rw[List.perm_ext_iff_of_nodup (Sl nR)]
  ·intro m;rw[C6 nR,List.mem_map];constructor
   ·intro J;have C:=Zd nd Rf.1 Rf.2 A6 iO J.toCov;have L:=C.lay nd;have pm:=TSt.sort_perm (s::m);have hm:s∈TSt.sort (s::m):=pm.mem_iff.mpr (List.mem_cons_self ..);refine⟨TSt.sort (s::m),?_,?_⟩
    ·rw[List.mem_filter,C6 up];exact⟨L,by simpa using hm⟩
    ·refine(NA nd L hm).uniq J ?_;exact(List.perm_cons s).mp ((List.perm_cons_erase hm).symm.trans pm)
   ·rintro⟨L,hL,rfl⟩;rw[List.mem_filter,C6 up]at hL;exact NA nd hL.1 (by simpa using hL.2)
  ·unfold List.Nodup;rw[List.pairwise_map];refine((Sl up).sublist List.filter_sublist).imp_of_mem fun {a b} ha hb BS e=>BS ?_;rw[List.mem_filter,C6 up]at ha hb;have rL:s∈a:=by simpa using ha.2
   have GV:s∈b:=by simpa using hb.2
   refine ha.1.uniq hb.1 ((List.perm_cons_erase rL).trans ?_);rw[e];exact(List.perm_cons_erase GV).symm
 rw[hp.length_eq,List.length_map]
def FY(F:List Sq):List Bz:=match A8 F with|[]=>[]|l::_=>l.filter fun s=>(A8 F).all (·.contains s)
theorem XG{F:List Sq}(up:F.Pairwise AQ){l:Lay}(I:IsLay F l):(l.filter fun s=>decide (Cp (Bd F s.1 s.2)=Cp F))=FY F:=by
 have nd:=EG up;have e1:(l.filter fun s=>decide (Cp (Bd F s.1 s.2)=Cp F))=l.filter fun s=>(A8 F).all (·.contains s):=by
  refine List.filter_congr fun s hs=>?_;rw[HD up,HD (Dg up _ _),V3 up I hs,Bool.eq_iff_iff,decide_eq_true_eq,List.length_filter_eq_length_iff,List.all_eq_true]
 have hl:l∈A8 F:=(C6 up).mpr I;rw[e1];obtain⟨k,r,hA⟩:∃k r,A8 F=k::r:=List.exists_cons_of_ne_nil (List.ne_nil_of_mem hl);have J:IsLay F k:=(C6 up).mp (by rw[hA];exact List.mem_cons_self ..);have ef:FY F=k.filter fun s=>(A8 F).all (·.contains s):=by
  unfold FY;split
  ·rename_i h;rw[hA]at h;cases h
  ·rename_i h;rw[hA]at h;cases h;rfl
 rw[ef];have hk:k∈A8 F:=by rw[hA];exact List.mem_cons_self ..
 refine TSt.uniq ?_ (I.sorted.sublist List.filter_sublist) (J.sorted.sublist List.filter_sublist);rw[List.perm_ext_iff_of_nodup ((Ob I).sublist List.filter_sublist) ((Ob J).sublist List.filter_sublist)];intro s;simp only[List.mem_filter];constructor
 ·rintro⟨_,h⟩;refine⟨?_,h⟩;rw[List.all_eq_true]at h;simpa using h k hk
 ·rintro⟨_,h⟩;refine⟨?_,h⟩;rw[List.all_eq_true]at h;simpa using h l hl
theorem aS(F:List Sq)(s:Bz):(F.filter fun x=>!([s.1,s.2].contains x))=Bd F s.1 s.2:=by unfold Bd;refine List.filter_congr fun x _=>?_;rw[Bool.eq_iff_iff];simp[not_or]
def Mt:SpD:=fun ds G R=>∃(F:List Sq)(s:Bz),ds=[fl F,AU s]/\F.length<=24/\R (fl (Bd F s.1 s.2)) G
def Uj:SpD:=fun ds G R=>∃F:List Sq,ds=[fl F]/\F.Pairwise AQ/\F.length<=24/\R (.lst ((FY F).map AU)) G
section
variable {prog:Program}{w:World}{A:Around}{E:Value->Shared->Prop}{s:Shared}
theorem LZ{it t:Addr}{i:Nat}{items:Array Value}{x:Value}{Q:Value->Shared->Prop}(hit:s.heap.IsTupleIter it t i)(ht:s.heap.IsTuple t items)(hx:items[i]?=some x)(hQ:∀h',h'.IsTupleIter it t (i+1)->Heap.SameBut it s.heap h'->Q x { s with heap:=h' }):wpAny (model prog w) A (Builtin.SmallTypes.nextOf (.ref it)) Q E s:=by obtain⟨oi,Vs,mW,Ut⟩:=id hit;obtain⟨ot,mM,_,nt,kS⟩:=ht;unfold Builtin.SmallTypes.nextOf;refine wpAny_bind (wpAny_callSpecial?_slot (name:=Str.ofString "__next__") hit.typeIs F.slot_tuple_iterator_next (wpAny_call_entry F.slot_tuple_iterator_next hit.typeIs F.entry_tuple_iterator_next ?_ (F.args_tuple_iterator_next_1 _)));refine wpAny_bind (m:=field (.ref it) 0) (wpAny_field Vs Ut (x:=.ref t) rfl ?_);rw[if_neg (show ¬((Value.ref t==Value.none)=true)from Bool.false_ne_true)];refine wpAny_bind (m:=field (.ref it) 1) (wpAny_field Vs Ut (x:=.int i 0) rfl ?_);refine wpAny_bind (m:=seqItems? (.ref t)) (wpAny_seqItems mM kS ?_);simp only[Int.toNat_natCast,hx];refine wpAny_bind (wpAny_setField Vs Ut (by simp) (wpAny_pure ⟨x,rfl,wpAny_pure (hQ _ ⟨_,Heap.get?_update_self _ Vs (Obj.isFreed_of_fields (Obj.data_mapFields Ut _)),(Obj.cls_mapFields ..).trans mW,?_⟩ (Heap.SameBut.update ..))⟩));rw[Obj.data_mapFields Ut];simp[rawInt]
theorem NF{it t:Addr}{i:Nat}{items:Array Value}{Q:Value->Shared->Prop}(hh:A.handled=none)(hit:s.heap.IsTupleIter it t i)(ht:s.heap.IsTuple t items)(hx:items[i]?=none)(hE:∀h' e,Heap.ExtBut it s.heap h'->(∃o,h'.get? e=some o/\o.cls=.type "StopIteration")->E (.ref e) { s with heap:=h' }):wpAny (model prog w) A (Builtin.SmallTypes.nextOf (.ref it)) Q E s:=by
 obtain⟨oi,Vs,mW,Ut⟩:=id hit;obtain⟨ot,mM,_,nt,kS⟩:=ht;unfold Builtin.SmallTypes.nextOf;refine wpAny_bind (wpAny_callSpecial?_slot (name:=Str.ofString "__next__") hit.typeIs F.slot_tuple_iterator_next (wpAny_call_entry F.slot_tuple_iterator_next hit.typeIs F.entry_tuple_iterator_next ?_ (F.args_tuple_iterator_next_1 _)));refine wpAny_bind (m:=field (.ref it) 0) (wpAny_field Vs Ut (x:=.ref t) rfl ?_);rw[if_neg (show ¬((Value.ref t==Value.none)=true)from Bool.false_ne_true)];refine wpAny_bind (m:=field (.ref it) 1) (wpAny_field Vs Ut (x:=.int i 0) rfl ?_);refine wpAny_bind (m:=seqItems? (.ref t)) (wpAny_seqItems mM kS ?_);simp only[Int.toNat_natCast,hx];refine wpAny_bind (wpAny_rule (wpAny_bind (wpAny_setField Vs Ut (by simp) ?_)));refine wpAny_bind (m:=newExc (.type "StopIteration") []) ?_;simp only[newExc,newTuple];refine wpAny_bind (wpAny_newObj_type ?_ (by size_fits));refine wpAny_bind (m:=firstArgMember _ _) (wpAny_of_eq (a:=Value.none) (by first|rfl|(simp only[firstArgMember];rfl)) ?_);refine wpAny_newObj_type ?_ (by size_fits);simp only[raiseNew];refine wpAny_bind (wpAny_handled ?_);first|rw[show A.in1.handled=none from hh]|rw[hh]
 exact wpAny_bind (wpAny_pure (wpAny_throw (hE _ _ (((Heap.SameBut.update ..).extBut.push _).push _) ⟨_,Heap.get?_push_size _ rfl,rfl⟩)))
abbrev tiO(t:Addr):Obj:={ cls:=.type "tuple_iterator",data:=.fields #[.ref t,.int 0 0] }
end
theorem Vz{F:List Sq}(up:F.Pairwise AQ):F.Pairwise fun x y=>TSq.le x y=true:=up.imp fun {x y} h=>by
 unfold TyD.le;rw[show TSq.f=sq from rfl,YU];have:¬AQ y x:=fun h'=>AW _ (BH h h');simp[this]
theorem Wd{F:List Sq}(up:F.Pairwise AQ){l:Lay}(C:Cov F l):TSq.sort (Aj l)=F:=TSq.uniq ((TSq.sort_perm _).trans C.pm) (TSq.sort_sorted _) (Vz up)
theorem Th(l:Lay):(Aj l).length=2*l.length:=by
 induction l with
 |nil=>rfl
 |cons a l ih=>simp only[Aj,List.flatMap_cons,List.length_append,List.length_cons,List.length_nil]at *;lia
theorem PXT.cast{X:Cx}{ρ:Rho}{G:Gs}{e:Expr}{p q:Bool}(h:PXT X ρ G e p)(z:p=q):PXT X ρ G e q:=z▸h
structure Fly (P:Program) (w:World) (outer:List Env) (H:Hp) (h:Heap) (H':Hp) (h':Heap) (ea:Addr) (cls:Value):Prop where
 ex:∃a0 B,Heap.FlyingW B outer ea cls a0 h'/\HOk P w H' B/\(∀b o,h.get? b=some o->H b=none->b∉frs outer->B.get? b=some o)/\∀b o,h.get? b=some o->b∉frs outer->∃o',B.get? b=some o'
 un:Un (frs outer) [] H H' h h'
 free:H' ea=none
theorem Fly.hok{P:Program}{w:World}{outer:List Env}{H H':Hp}{h h':Heap}{ea:Addr}{cls:Value}(f:Fly P w outer H h H' h' ea cls):HOk P w H' h':=by obtain⟨a0,B,fl,hb,_⟩:=f.ex;exact hb.kept fl.1
def CXV(P:Program)(w:World):CXT:=fun outer H s E e s'=>∃ea cls H',e=.ref ea/\s'.os=s.os/\AllBare s'.gens/\Fly P w outer H s.heap H' s'.heap ea cls/\E cls none H'
theorem Zx{outer:List Env}{H H':Hp}{h h1 h2:Heap}(un:Un (frs outer) [] H H' h h1){B:Heap}(c1:∀b o,h.get? b=some o->H b=none->b∉frs outer->B.get? b=some o)(c2:∀b o,h.get? b=some o->b∉frs outer->∃o',B.get? b=some o'){Lg:List Env}(ff:h1.FunFrames B Lg)(L6:∀b∈frs outer,b∈frs Lg)(st:B.StaysIn h2)(up:h1.UpToSlots h2):Un (frs outer) [] H H' h h2:=by
 refine⟨fun b o q n GV _=>st b o (c1 b o q n GV),fun b o q n GV _=>?_,un.free,fun b o q _=>?_,un.tups,un.frzs,un.tbls⟩
 ·obtain⟨sl,e⟩:=un.slot b o q n GV (by simp);obtain⟨_,o2,e2,hd⟩:=ff.mem (L6 b GV);rw[e]at e2;cases e2;obtain⟨PC,e3⟩:=up b _ e hd;exact⟨PC,e3⟩
 ·by_cases hf:b∈frs outer
  ·obtain⟨_,o2,e2,hd⟩:=ff.mem (L6 b hf);obtain⟨PC,e3⟩:=up b _ e2 hd;exact⟨_,e3⟩
  ·obtain⟨o',e⟩:=c2 b o q hf;exact⟨o',st b o' e⟩
theorem Fly.step{P:Program}{w:World}{outer:List Env}{H H':Hp}{h h1 h2:Heap}{ea:Addr}{cls:Value}(un:Un (frs outer) [] H H' h h1)(free:H' ea=none){a0:Value}{B:Heap}(hb:HOk P w H' B)(c1:∀b o,h.get? b=some o->H b=none->b∉frs outer->B.get? b=some o)(c2:∀b o,h.get? b=some o->b∉frs outer->∃o',B.get? b=some o'){Lg:List Env}(ff:h1.FunFrames B Lg)(L6:∀b∈frs outer,b∈frs Lg)(fl:Heap.FlyingW B outer ea cls a0 h2)(up:h1.UpToSlots h2):Fly P w outer H h H' h2 ea cls:=⟨⟨a0,B,fl,hb,c1,c2⟩,Zx un c1 c2 ff L6 fl.1 up,free⟩
abbrev SpX:=List Dat->Gs->(Dat->Gs->Prop)->(Value->Gs->Prop)->Prop
def cC(K:PySem.W.Frag)(S:SpX):Sp:=fun vs H Q E=>∃ds G R RX,GOk K H G/\RepL K (hid H G) ds vs/\S ds G R RX/\(∀v H' d G',Ext H G H' G'->GOk K H' G'->Rep K (hid H' G') d v->R d G'->Q v H')/\∀cls H' G',Ext H G H' G'->GOk K H' G'->RX cls G'->E cls none H'
structure DfX (P:Program) (w:World) (K:PySem.W.Frag) (mg:Str->Option Value) (base:Heap) (x:Str) (ps:List Str) (k:Nat) (S:SpX):Prop where
 ex:∃f fd,FnOk P w K mg base (CXV P w) k f fd ps (cC K S)/\mg x=some (.ref f)/\PySem.W.keepIn K (.ref f)=true/\Binds K fd ps []
section
variable {X:Cx}{ρ:Rho}{G:Gs}{e:Expr}{es:List Expr}{ds:List Dat}{pos p:Pos}{S:SpX}{k:Nat}{ps:List Str}{x:Str}{Q:Dat->Gs->Prop}{RX:Value->Gs->Prop}{D:DE}{rest:List Stmt}
abbrev Cx.mk'(X:Cx)(ea:Addr):Cx:={ X with A:=X.A.mark (some (.ref ea)),calm:=false }
end
abbrev Cx.sx(X:Cx)(ea:Addr)(oe:Obj):Cx:={ X with A:=X.A.mark (some (.ref ea)),calm:=false,pn:=(ea,oe)::X.pn,xe:=fun _ _=>False }
def IH(AR:List (Dat×Dat))(k:Nat)(t:List Sq):Prop:=(Ac AR (CM k t)).isSome=true
def Closed(floor:List Sq)(AR:List (Dat×Dat)):Prop:=∀(k:Nat)(q:Sq)(t:List Sq),IH AR k t->floor[k]?=some q->∀p∈Am floor q t,k+1<floor.length->IH AR (k+1) p.2
theorem Jr{AR:List (Dat×Dat)}{k:Dat}:(Ac AR k).isSome=true↔∃p∈AR,p.1=k:=by
 unfold Ac;rw[Option.isSome_map];constructor
 ·intro h;obtain⟨p,hp⟩:=Option.isSome_iff_exists.mp h;have h2:=List.find?_some hp;exact⟨p,List.mem_of_find?_eq_some hp,of_decide_eq_true h2⟩
 ·rintro⟨p,hp,e⟩;rw[List.find?_isSome];exact⟨p,hp,decide_eq_true e⟩
theorem N3{AR:List (Dat×Dat)}{k v k':Dat}:(Ac (DM AR k v) k').isSome=true↔(Ac AR k').isSome=true\/k'=k:=by
 rw[Jr,Jr];unfold DM;split
 ·rename_i h;obtain⟨p0,sD,e0⟩:=Jr.mp h;constructor
  ·rintro⟨p,hp,rfl⟩;obtain⟨x,hx,rfl⟩:=List.mem_map.mp hp;left;refine⟨x,hx,?_⟩;split<;>rfl
  ·rintro(⟨p,hp,rfl⟩|rfl)
   ·refine⟨_,List.mem_map.mpr ⟨p,hp,rfl⟩,?_⟩;split<;>rfl
   ·refine⟨_,List.mem_map.mpr ⟨p0,sD,rfl⟩,?_⟩;rw[if_pos e0];exact e0
 ·constructor
  ·rintro⟨p,hp,rfl⟩;rcases List.mem_append.mp hp with hp|hp
   ·exact .inl ⟨p,hp,rfl⟩
   ·rw[List.mem_singleton.mp hp];exact .inr rfl
  ·rintro(⟨p,hp,rfl⟩|rfl)
   ·exact⟨p,List.mem_append_left _ hp,rfl⟩
   ·exact⟨_,List.mem_append_right _ (List.mem_singleton.mpr rfl),rfl⟩
def IU(n:Nat):SpD:=fun ds G R=>∃(floor:List Sq)(k:Nat)(taken:List Sq)(kp:Addr)(AR:List (Dat×Dat)),ds=[fl floor,.int k,fl taken,.fn kp]/\k+n=floor.length/\floor.length<=24/\taken.length<=k/\G kp=some (.dct AR)/\Valid floor AR/\Closed floor AR/\AR.length+2 ^ n<=2 ^ 24+1 ∧
 ∀BM,Valid floor BM->Closed floor BM->(∀k t,IH AR k t->IH BM k t)->(k<floor.length->IH BM k taken)->BM.length+1<=AR.length+2 ^ n->R (.int (Bj floor (floor.drop k) taken:Nat)) (put G kp (.dct BM))
def Um:SpD:=fun ds G R=>∃(floor:List Sq)(k:Nat)(taken:List Sq)(kp:Addr)(AR:List (Dat×Dat)),ds=[fl floor,.int k,fl taken,.fn kp]/\k<=floor.length/\G kp=some (.dct AR)/\Valid floor AR/\(k<floor.length->IH AR k taken)/\R (.int (Bj floor (floor.drop k) taken:Nat)) G
theorem Closed.put{floor:List Sq}{AR:List (Dat×Dat)}{k:Nat}{q:Sq}{t:List Sq}{v:Dat}(h:Closed floor AR)(hq:floor[k]?=some q)(hs:∀p∈Am floor q t,k+1<floor.length->IH AR (k+1) p.2):Closed floor (DM AR (CM k t) v):=by
 intro k' q' t' hk YA p hp A6;refine N3.mpr (.inl ?_);rcases N3.mp hk with z|z
 ·exact h k' q' t' z YA p hp A6
 ·obtain⟨rfl,rfl⟩:=Mp z;rw[hq]at YA;cases YA;exact hs p hp A6
abbrev Bg:=Lay×List Sq
def bgD(b:Bg):Dat:=.tup [lay b.1,fl b.2]
def M3(floor:List Sq)(k:Nat)(q:Sq)(b:Bg):List Bg:=((Am floor q b.2).filter fun p=>decide (0<Bj floor (floor.drop (k+1)) p.2)).map fun p=>(b.1++p.1,p.2)
def Cu(floor:List Sq)(k:Nat)(q:Sq)(bs:List Bg):List Bg:=bs.flatMap (M3 floor k q)
def OM(floor rest:List Sq)(bs:List Bg):List Lay:=bs.flatMap fun b=>(DF floor rest b.2).map (b.1++·)
theorem Yw{floor:List Sq}{k:Nat}{q:Sq}(hq:floor[k]?=some q)(bs:List Bg):OM floor (floor.drop (k+1)) (Cu floor k q bs)=OM floor (floor.drop k) bs:=by
 have A6:k<floor.length:=(List.getElem?_eq_some_iff.mp hq).1;have hd:floor.drop k=q::floor.drop (k+1):=by
  rw[List.drop_eq_getElem_cons A6];rw[List.getElem?_eq_getElem A6]at hq;cases hq;rfl
 unfold OM Cu;rw[List.flatMap_assoc];congr 1;funext b;rw[hd,DF];unfold M3;rw[List.flatMap_map,List.map_flatMap];have key:∀l:List (List (Sq×Sq)×List Sq),(l.filter fun p=>decide (0<Bj floor (floor.drop (k+1)) p.2)).flatMap (fun p=>(DF floor (floor.drop (k+1)) p.2).map (fun x=>b.1++p.1++x))=l.flatMap fun p=>((DF floor (floor.drop (k+1)) p.2).map (p.1++·)).map (b.1++·):=by
  intro l
  induction l with
  |nil=>rfl
  |cons p l ih=>
   have e:(DF floor (floor.drop (k+1)) p.2).map (fun x=>b.1++p.1++x)=((DF floor (floor.drop (k+1)) p.2).map (p.1++·)).map (b.1++·):=by
    rw[List.map_map];refine List.map_congr_left fun x _=>?_;simp[List.append_assoc]
   rw[List.filter_cons,List.flatMap_cons];by_cases h:0<Bj floor (floor.drop (k+1)) p.2
   ·rw[if_pos (decide_eq_true h),List.flatMap_cons,ih,e]
   ·rw[if_neg (by simpa using h),ih];have:DF floor (floor.drop (k+1)) p.2=[]:=by
     rw[IS]at h;exact List.length_eq_zero_iff.mp (by lia)
    rw[this];rfl
 exact key _
theorem bB{floor rest:List Sq}{bs:List Bg}(h:∀b∈bs,0<Bj floor rest b.2):bs.length<=(OM floor rest bs).length:=by
 induction bs with
 |nil=>exact Nat.zero_le _
 |cons b bs ih=>
  have h1:=h b (List.mem_cons_self ..);have h2:=ih fun x hx=>h x (List.mem_cons_of_mem _ hx);rw[IS]at h1;unfold OM at *;rw[List.flatMap_cons,List.length_append,List.length_map,List.length_cons];lia
structure BInv (floor:List Sq) (AR:List (Dat×Dat)) (k:Nat) (bs:List Bg):Prop where
 out:OM floor (floor.drop k) bs=A8 floor
 fewL:bs.length<=(A8 floor).length+1
 key:k<floor.length->∀b∈bs,IH AR k b.2
 len:∀b∈bs,b.2.length<=k/\b.1.length<=k
theorem BInv.few{floor:List Sq}{AR:List (Dat×Dat)}{k:Nat}{bs:List Bg}(h:BInv floor AR k bs)(h2:(A8 floor).length<=200):bs.length<=201:=by
 have:=h.fewL
 lia
theorem Mw{floor:List Sq}{q:Sq}{t:List Sq}:∀p∈Am floor q t,p.1.length<=1:=by
 unfold Am;intro p hp;split at hp
 ·rw[List.mem_singleton.mp hp];simp
 ·rcases List.mem_append.mp hp with hp|hp
  ·split at hp
   ·rw[List.mem_singleton.mp hp];simp
   ·cases hp
  ·split at hp
   ·rw[List.mem_singleton.mp hp];simp
   ·cases hp
theorem BInv.next{floor:List Sq}{AR:List (Dat×Dat)}{k:Nat}{q:Sq}{bs:List Bg}(h:BInv floor AR k bs)(hc:Closed floor AR)(hq:floor[k]?=some q):BInv floor AR (k+1) (Cu floor k q bs):=by
 have A6:k<floor.length:=(List.getElem?_eq_some_iff.mp hq).1;have mem:∀b'∈Cu floor k q bs,∃b∈bs,∃p∈Am floor q b.2,0<Bj floor (floor.drop (k+1)) p.2/\b'=(b.1++p.1,p.2):=fun b' GV=>by
  unfold Cu at GV;obtain⟨b,hb,h1⟩:=List.mem_flatMap.mp GV;unfold M3 at h1;obtain⟨p,hp,rfl⟩:=List.mem_map.mp h1;rw[List.mem_filter,decide_eq_true_eq]at hp;exact⟨b,hb,p,hp.1,hp.2,rfl⟩
 have ho:OM floor (floor.drop (k+1)) (Cu floor k q bs)=A8 floor:=by rw[Yw hq];exact h.out
 refine⟨ho,?_,fun hk b' GV=>?_,fun b' GV=>?_⟩
 ·have h1:=bB (floor:=floor) (rest:=floor.drop (k+1)) (bs:=Cu floor k q bs) fun b' GV=>by
   obtain⟨b,hb,p,hp,h1,rfl⟩:=mem b' GV;exact h1
  rw[ho]at h1;lia
 ·obtain⟨b,hb,p,hp,h1,rfl⟩:=mem b' GV;exact hc k q b.2 (h.key A6 b hb) hq p hp hk
 ·obtain⟨b,hb,p,hp,h1,rfl⟩:=mem b' GV;have z:=(HS floor q b.2).2 p hp;have z2:=Mw p hp;have z3:=h.len b hb;simp only[List.length_append];lia
theorem BInv.zero{floor:List Sq}{AR:List (Dat×Dat)}(up:floor.Pairwise AQ)(h:0<floor.length->IH AR 0 []):BInv floor AR 0 [([],[])]:=by
 refine⟨?_,by simp,fun hk b hb=>?_,fun b hb=>?_⟩
 ·rw[<-Qq up];simp[OM]
 ·rw[List.mem_singleton.mp hb];exact h hk
 ·rw[List.mem_singleton.mp hb];exact⟨Nat.le_refl _,Nat.le_refl _⟩
theorem BInv.done{floor:List Sq}{AR:List (Dat×Dat)}{bs:List Bg}(h:BInv floor AR floor.length bs):bs.map (·.1)=A8 floor:=by
 rw[<-h.out,List.drop_length];unfold OM;clear h
 induction bs with
 |nil=>rfl
 |cons b bs ih=>
  rw[List.map_cons,List.flatMap_cons,<-ih];simp[DF]
def Yu:SpD:=fun ds G R=>∃(floor:List Sq)(k:Nat)(q:Sq)(bs:List Bg)(kp:Addr)(AR:List (Dat×Dat)),ds=[fl floor,.int k,.lst (bs.map bgD),.fn kp]/\floor[k]?=some q/\floor.length<=24/\bs.length<=201/\G kp=some (.dct AR)/\Valid floor AR/\Closed floor AR/\BInv floor AR k bs/\R (.lst ((Cu floor k q bs).map bgD)) G
section
variable {X:Cx}{ρ:Rho}{G:Gs}{a b:Expr}{d:Dat}{pos:Pos}{i j:Int}
theorem fP{Q:Bool->Gs->Prop}(ha:WE X ρ G a fun d G'=>∃i,d=.int i/\PX X ρ G' b (.int j)/\Q (decide (j<i)) G')(hm:behindInMarks .Gt b=false:=by first|exact K8 _ (by decide) (by decide)|rfl):WT X ρ G (.Compare a [.Gt] [b] pos) Q:=by intro AD s σ H I S;refine wpAny_isTrue_Compare1 (thn (ha AD s σ H I S) fun v s1 ⟨x,H1,I1,rx,d,G1,e1,o1,r1,i,hd,hb,q⟩=>thn (hb AD s1 σ H1 I1 (S.ext e1 o1)) fun u s2 ⟨y,H2,I2,ry,_,G2,e2,o2,r2,q2,FQ⟩=>?_) hm;subst q2;subst FQ;subst hd;have h2:=cG (X:=X) AD s2 σ H2 x y v u (Po X H2 G2 fun d' G'=>d'=.bl (decide (j<i))/\G'=G2) I2 rx ry ⟨i,j,r1,r2,Bc o2 rfl⟩;refine thn h2 fun c s3 ⟨z,H3,I3,r3,_,_,e3,o3,q3,q4,rf⟩=>?_;subst q4;subst rf;cases (show z=V.bl _ from q3);cases r3;exact wpAny_truthy_bool ⟨H3,I3,_,(e1.trans e2).trans e3,o3,q⟩
end
section
open PySem.SeqAt
open PySem.AutoSeq1 (wpAny_loadPart')
open PySem.MeetsSeq PySem.MeetsSeq2 PySem.MeetsSeq3
def gt2(a b c d:Int):Bool:=if a==c then decide (d<b)else decide (c<a)
theorem Sf(l b:Addr)(a1 a2 b1 b2:Int)(t1 t2 u1 u2:Tok)(n n2:Nat)(dd So:Option Addr)(sl PC:Array (Option Value)) :
  Meets (Builtin.«tuple.__gt__» ⟨[.ref l,.ref b],[]⟩)
   (fun A R s=>EqAt A.in1 s (.int a1 t1) (.int b1 u1) (a1==b1)/\EqAt A.in1 s (.int a2 t2) (.int b2 u2) (a2==b2)/\s.heap.get? l=some { cls:=.type "tuple",dict:=dd,data:=.seq #[.int a1 t1,.int a2 t2] n,slots:=sl }/\s.heap.get? b=some { cls:=.type "tuple",dict:=So,data:=.seq #[.int b1 u1,.int b2 u2] n2,slots:=PC } ∧
    R (.ok (.ret (.bool (gt2 a1 a2 b1 b2)))) s):=
 .of_wp fun prog w A R s h=>by
  obtain⟨hp,g,d,tk,os⟩:=s;obtain⟨qM,he2,hl,hb,h⟩:=h;have f2:=AutoSeq1.sub_tuple_tuple;wp_walk using wpAny_loadPart' hl,wpAny_loadPart' hb,wpAny_forIn_list _ (fun rest b s'=>b.1=none/\s'=⟨hp,g,d,tk,os⟩/\(rest=[(.int a1 t1,.int b1 u1),(.int a2 t2,.int b2 u2)]\/(rest=[(.int a2 t2,.int b2 u2)]/\a1=b1)\/(rest=[]/\a1=b1/\a2=b2))) _
  case turn=>
   rintro⟨y,x⟩ rest b s' ⟨GV,rfl,hz⟩;rcases hz with hz|⟨hz,e1⟩|⟨hz,_⟩
   ·injection hz with de Ln;injection de with hy hx;subst hy hx Ln;refine wpAny_bind (qM prog w _ _ ?_);cases hq:(a1==b1)with
    |true=>
     wp_walk;exact⟨rfl,rfl,.inr (.inl ⟨rfl,by simpa using hq⟩)⟩
    |false=>
     have eO:∀(E:Value->Shared->Prop)(Q:Value->Shared->Prop),Q (.bool (decide (b1<a1))) ⟨hp,g,d,tk,os⟩->wpAny (model prog w) A.in1 (richCompare .Gt (.int a1 t1) (.int b1 u1)) Q E ⟨hp,g,d,tk,os⟩:=fun E Q h=>(PyProof.Rows.gt_int h:wpAny (model prog w) A.in1 (compareOp .Gt (.int a1 t1) (.int b1 u1)) Q E _);have e:gt2 a1 a2 b1 b2=decide (b1<a1):=by unfold gt2;rw[hq];rfl
     rw[e]at h;wp_walk using eO;exact⟨_,rfl,by simpa using h⟩
   ·injection hz with de Ln;injection de with hy hx;subst hy hx Ln;refine wpAny_bind (he2 prog w _ _ ?_);cases hq:(a2==b2)with
    |true=>
     wp_walk;exact⟨rfl,rfl,.inr (.inr ⟨rfl,e1,by simpa using hq⟩)⟩
    |false=>
     have eO:∀(E:Value->Shared->Prop)(Q:Value->Shared->Prop),Q (.bool (decide (b2<a2))) ⟨hp,g,d,tk,os⟩->wpAny (model prog w) A.in1 (richCompare .Gt (.int a2 t2) (.int b2 u2)) Q E ⟨hp,g,d,tk,os⟩:=fun E Q h=>(PyProof.Rows.gt_int h:wpAny (model prog w) A.in1 (compareOp .Gt (.int a2 t2) (.int b2 u2)) Q E _);have e:gt2 a1 a2 b1 b2=decide (b2<a2):=by unfold gt2;rw[e1,beq_self_eq_true];rfl
     rw[e]at h;wp_walk using eO;exact⟨_,rfl,by simpa using h⟩
   ·cases hz
  case fin=>
   rintro⟨tH,tM⟩ s' ⟨GV,rfl,hz⟩;simp only at GV;subst GV;rcases hz with hz|⟨hz,e1⟩|⟨hz,e1,e2⟩
   ·cases hz
   ·cases hz
   ·have e:gt2 a1 a2 b1 b2=false:=by unfold gt2;rw[e1,beq_self_eq_true,e2];simp
    rw[e]at h;wp_walk;exact⟨_,rfl,by simpa[Builtin.Tuple.tupleCompareSizes]using h⟩
  case h=>exact⟨rfl,rfl,.inl rfl⟩
end
section
variable {prog:Program}{w:World}{A:Around}{R:Result->Shared->Prop}{I:Addr}{fp wr:List Addr}{n:Nat}{P:Nat->Value->Prop}{St:Nat->Heap->Prop}{S:Addr}{s:Shared}{c:Nat}
theorem aC{vb:Value}(W:Walks prog w A.in1 I fp wr n P St)(K5:S∉fp)(Hu:St n s.heap)(hS:s.heap.get? S=some { cls:=.type "list",dict:=none,data:=.seq #[vb,vb] c,slots:=#[] })(hR:∀h' tk,(∀b o,b∉wr->b≠S->s.heap.get? b=some o->h'.get? b=some o)->R (.ok (.ret vb)) { s with heap:=h',toks:=tk }):codeAny (model prog w) A (.builtin "min.loop" ⟨[.ref I,.none,.ref S],[]⟩) R s:=by have Xm:S∉wr:=fun h=>K5 (W.sub _ h);refine codeAny_builtin F.entry_min_loop ?_;rw[Around.under_plainId F.plain_min_loop _];show wpAny _ A.in1 (seqItems? (.ref S) >>= _) _ _ s;refine wpAny_bind (wpAny_seqItems hS rfl ?_);show wpAny _ A.in1 (tryCatch (pyNext (.ref I)) _ >>= _) _ _ s;refine wpAny_bind (wpAny_tryCatch (W.done s _ _ Hu fun h' tk Hc=>?_));have Mn:=Hc S _ Xm hS;show wpAny _ A.in1 (updateSeq S (fun _=>#[]) >>= _) _ _ _;refine wpAny_bind ?_;refine wpAny_updateSeq Mn rfl (wpAny_bind (wpAny_letGo (wpAny_pure ?_)));exact hR _ tk fun b o fU cm e=>(Heap.get?_update_other _ _ (Ne.symm cm)).trans (Hc b o fU e)
theorem Wn{vb:Value}{j:Nat}(bt:Bool)(W:Walks prog w A.in1 I fp wr n P St)(K5:S∉fp)(hj:j<n)(Hu:St j s.heap)(hS:s.heap.get? S=some { cls:=.type "list",dict:=none,data:=.seq #[vb,vb] c,slots:=#[] })(hk:∀v h' tk,P j v->(∀b o,b∉wr->s.heap.get? b=some o->h'.get? b=some o)->(∀(Q' E':Value->Shared->Prop),Q' (.bool bt) { s with heap:=h',toks:=tk }->wpAny (model prog w) A.in1 (richCompare .Lt v vb) Q' E' { s with heap:=h',toks:=tk }) ∧
   ∀OJ c',(∀b o,b≠S->h'.get? b=some o->OJ.get? b=some o)->St (j+1) OJ->OJ.get? S=some { cls:=.type "list",dict:=none,data:=.seq #[if bt then v else vb,if bt then v else vb] c',slots:=#[] } →
    codeAny (model prog w) A (.builtin "min.loop" ⟨[.ref I,.none,.ref S],[]⟩) R { s with heap:=OJ,toks:=tk }):codeAny (model prog w) A (.builtin "min.loop" ⟨[.ref I,.none,.ref S],[]⟩) R s:=by
 have Xm:S∉wr:=fun h=>K5 (W.sub _ h);have Eu:(toString "min"++toString ".loop":String) = "min.loop":=by decide
 refine codeAny_builtin F.entry_min_loop ?_;rw[Around.under_plainId F.plain_min_loop _];show wpAny _ A.in1 (seqItems? (.ref S) >>= _) _ _ s;refine wpAny_bind (wpAny_seqItems hS rfl ?_);show wpAny _ A.in1 (tryCatch (pyNext (.ref I)) _ >>= _) _ _ s;refine wpAny_bind (wpAny_tryCatch (W.item j s _ _ hj Hu fun v h' tk hP OZ Hc=>?_));have Mn:=Hc S _ Xm hS;obtain⟨d0,go⟩:=hk v h' tk hP Hc;show wpAny _ A.in1 (tryCatch (holding [v,v] (richCompare .Lt v vb >>= _)) _ >>= _) _ _ _;refine wpAny_bind (wpAny_tryCatch (wpAny_holding (wpAny_bind (d0 _ _ ?_))));refine wpAny_bind (wpAny_holding (wpAny_truthy_bool ?_));refine wpAny_bind (wpAny_letGo (wpAny_pure ?_));cases bt with
 |true=>
  simp only[if_true];refine wpAny_bind ?_;refine wpAny_updateSeq Mn rfl (wpAny_bind (wpAny_letGo ?_));rw[Eu];refine wpAny_pure ⟨plainId_quiet F.plain_min_loop _,go _ _ (fun b o hb e=>(Heap.get?_update_other _ _ (Ne.symm hb)).trans e) (W.frame _ _ _ OZ fun b fV o e=>?_) (Heap.get?_update_self _ Mn rfl)⟩;exact(Heap.get?_update_other _ _ (fun h:S=b=>K5 (by rw[h];exact fV))).trans e
 |false=>
  simp only[Bool.false_eq_true,if_false];refine wpAny_bind (wpAny_letGo ?_);rw[Eu];exact wpAny_pure ⟨plainId_quiet F.plain_min_loop _,go _ c (fun b o _ e=>e) OZ Mn⟩
theorem Uv(W:Walks prog w A.in1 I fp wr n P St)(K5:S∉fp)(hn:0<n)(Hu:St 0 s.heap)(hS:s.heap.get? S=some { cls:=.type "list",dict:=none,data:=.seq #[] c,slots:=#[] })(hk:∀v OJ tk c',P 0 v->(∀b o,b∉wr->b≠S->s.heap.get? b=some o->OJ.get? b=some o)->St 1 OJ->OJ.get? S=some { cls:=.type "list",dict:=none,data:=.seq #[v,v] c',slots:=#[] } →
    codeAny (model prog w) A (.builtin "min.loop" ⟨[.ref I,.none,.ref S],[]⟩) R { s with heap:=OJ,toks:=tk }):codeAny (model prog w) A (.builtin "min.loop" ⟨[.ref I,.none,.ref S],[]⟩) R s:=by
 have Xm:S∉wr:=fun h=>K5 (W.sub _ h);have Eu:(toString "min"++toString ".loop":String) = "min.loop":=by decide
 refine codeAny_builtin F.entry_min_loop ?_;rw[Around.under_plainId F.plain_min_loop _];show wpAny _ A.in1 (seqItems? (.ref S) >>= _) _ _ s;refine wpAny_bind (wpAny_seqItems hS rfl ?_);show wpAny _ A.in1 (tryCatch (pyNext (.ref I)) _ >>= _) _ _ s;refine wpAny_bind (wpAny_tryCatch (W.item 0 s _ _ hn Hu fun v h' tk hP OZ Hc=>?_));have Mn:=Hc S _ Xm hS;show wpAny _ A.in1 (updateSeq S (fun _=>#[v,v]) >>= _) _ _ _;refine wpAny_bind ?_;refine wpAny_updateSeq Mn rfl ?_;rw[Eu];refine wpAny_pure ⟨plainId_quiet F.plain_min_loop _,hk v _ tk _ hP (fun b o fU cm e=>(Heap.get?_update_other _ _ (Ne.symm cm)).trans (Hc b o fU e)) (W.frame _ _ _ OZ fun b fV o e=>?_) (Heap.get?_update_self _ Mn rfl)⟩;exact(Heap.get?_update_other _ _ (fun h:S=b=>K5 (by rw[h];exact fV))).trans e
end
theorem Zw{prog:Program}{w:World}{A:Around}{s:Shared}{x y:Value}{R:Result->Shared->Prop}{T I S:Addr}{h3:Heap}{c:Nat}(hh:A.handled=none)(bt:Bool)(hc:∀(h':Heap)(tk:Nat)(Q' E':Value->Shared->Prop),(∀c o,s.heap.get? c=some o->h'.get? c=some o)->Q' (.bool bt) { s with heap:=h',toks:=tk }->wpAny (model prog w) A.in1 (richCompare .Lt y x) Q' E' { s with heap:=h',toks:=tk })(old:∀b o,s.heap.get? b=some o->h3.get? b=some o)(hT:h3.IsTuple T #[x,y])(hI:h3.IsTupleIter I T 0)(hS:h3.get? S=some { cls:=.type "list",dict:=none,data:=.seq #[] c,slots:=#[] })(nI:s.heap.objs.size<=I)(nS:s.heap.objs.size<=S)(e1:I≠T)(e2:S≠I)(e3:S≠T)(h:∀h' tk,(∀c o,s.heap.get? c=some o->h'.get? c=some o)->R (.ok (.ret (if bt then y else x))) { s with heap:=h',toks:=tk }):codeAny (model prog w) A (.builtin "min.loop" ⟨[.ref I,.none,.ref S],[]⟩) R { s with heap:=h3 }:=by
 have W:=Walks.tuple (prog:=prog) (w:=w) (A:=A.in1) hh I T e1.symm #[x,y];have K5:S∉[I,T]:=by simp[e2,e3]
 have lt:∀b o,s.heap.get? b=some o->b∉[I]/\b≠S:=fun b o e=>by
  have h1:b<s.heap.objs.size:=Heap.lt_size e;refine⟨fun hm=>?_,fun z=>?_⟩
  ·rw[List.mem_singleton.mp hm]at h1;exact absurd h1 (Nat.not_lt.mpr nI)
  ·rw[z]at h1;exact absurd h1 (Nat.not_lt.mpr nS)
 refine Uv (s:={ s with heap:=h3 }) W K5 (show 0<2 from Nat.zero_lt_succ 1) ⟨hI,hT⟩ hS fun v h4 l5 c4 lM k4 JY Xk=>?_;have ev:v=x:=by simpa using lM.symm
 subst ev;refine Wn (s:={ s with heap:=h4,toks:=l5 }) (j:=1) bt W K5 (show 1<2 from Nat.lt_succ_self 1) JY Xk fun u h5 iW l6 k5=>?_;have eu:u=y:=by simpa using l6.symm
 subst eu;have XD:∀b o,s.heap.get? b=some o->h5.get? b=some o:=fun b o e=>k5 b o (lt b o e).1 (k4 b o (lt b o e).1 (lt b o e).2 (old b o e));refine⟨fun Q' E' q=>hc h5 iW Q' E' XD q,fun h6 c6 k6 k8 kj=>?_⟩;refine aC (s:={ s with heap:=h6,toks:=iW }) W K5 k8 kj fun h7 j8 k7=>?_;exact h h7 j8 fun b o e=>k7 b o (lt b o e).1 (lt b o e).2 (k6 b o (lt b o e).2 (XD b o e))
theorem Zy{prog:Program}{w:World}{A:Around}{E:Value->Shared->Prop}{s:Shared}{x y:Value}{Q:Value->Shared->Prop}(hh:A.handled=none)(bt:Bool)(hc:∀(h':Heap)(tk:Nat)(Q' E':Value->Shared->Prop),(∀c o,s.heap.get? c=some o->h'.get? c=some o)->Q' (.bool bt) { s with heap:=h',toks:=tk }->wpAny (model prog w) A.in1 (richCompare .Lt y x) Q' E' { s with heap:=h',toks:=tk })(h:∀h' tk,(∀c o,s.heap.get? c=some o->h'.get? c=some o)->Q (if bt then y else x) { s with heap:=h',toks:=tk }):wpAny (model prog w) A (call (.builtin "min") [x,y]) Q E s:=by
 have Eu:(toString "min"++toString ".loop":String) = "min.loop":=by decide
 refine call_function_tree F.kind_min F.plain_min F.entry_min (F.args_min2 _ _) ?_;show wpAny _ A.in1 (Builtin.Builtins.bindParams "min" ["key","default"] 0 ⟨[],[]⟩ >>= _) _ _ s;refine wpAny_bind (wpAny_of_eq (show Builtin.Builtins.bindParams "min" ["key","default"] 0 ⟨[],[]⟩=pure [none,none]from rfl) ?_);show wpAny _ A.in1 (newTuple [x,y] >>= _) _ _ s;refine wpAny_bind (wpAny_newObj_type ?_);have hT:(s.heap.push { cls:=.type "tuple",data:=.seq #[x,y] }).IsTuple s.heap.objs.size #[x,y]:=⟨_,Heap.get?_push_size _ rfl,rfl,0,rfl⟩;refine wpAny_bind (wpAny_pyIter_tuple hT ?_);refine wpAny_bind (wpAny_newObj_type ?_);rw[Eu];have z1:(s.heap.push { cls:=.type "tuple",data:=.seq #[x,y] }).objs.size=s.heap.objs.size+1:=Heap.size_push ..;have z2:((s.heap.push { cls:=.type "tuple",data:=.seq #[x,y] }).push { cls:=Value.type "tuple_iterator",data:=Data.fields #[Value.ref s.heap.objs.size,Value.int 0 0] }).objs.size=s.heap.objs.size+1+1:=by rw[Heap.size_push,z1]
 refine wpAny_pure ⟨plainId_quiet F.plain_min_loop _,Zw (s:=s) (c:=0) hh bt hc (fun b o e=>Heap.get?_push_of_some _ (Heap.get?_push_of_some _ (Heap.get?_push_of_some _ e))) ((hT.push _).push _) ⟨_,Heap.get?_push_of_some _ (Heap.get?_push_size _ rfl),rfl,rfl⟩ (Heap.get?_push_size _ rfl) ?_ ?_ ?_ ?_ ?_ h⟩
 ·exact Nat.le_trans (Nat.le_succ _) (Nat.le_of_eq z1.symm)
 ·exact Nat.le_trans (Nat.le_trans (Nat.le_succ _) (Nat.le_succ _)) (Nat.le_of_eq z2.symm)
 ·exact fun z=>Nat.succ_ne_self _ (z1.symm.trans z)
 ·exact fun z=>Nat.succ_ne_self _ ((z2.symm.trans z).trans z1)
 ·exact fun z=>absurd (z2.symm.trans z) (Nat.ne_of_gt (Nat.lt_succ_of_lt (Nat.lt_succ_self _)))
section
variable {prog:Program}{w:World}{A:Around}{R:Result->Shared->Prop}{I:Addr}{fp wr:List Addr}{n:Nat}{P:Nat->Value->Prop}{St:Nat->Heap->Prop}{S:Addr}{s:Shared}{c:Nat}
theorem af{vb:Value}(W:Walks prog w A.in1 I fp wr n P St)(K5:S∉fp)(Hu:St n s.heap)(hS:s.heap.get? S=some { cls:=.type "list",dict:=none,data:=.seq #[vb,vb] c,slots:=#[] })(hR:∀h' tk,(∀b o,b∉wr->b≠S->s.heap.get? b=some o->h'.get? b=some o)->R (.ok (.ret vb)) { s with heap:=h',toks:=tk }):codeAny (model prog w) A (.builtin "max.loop" ⟨[.ref I,.none,.ref S],[]⟩) R s:=by have Xm:S∉wr:=fun h=>K5 (W.sub _ h);refine codeAny_builtin F.entry_max_loop ?_;rw[Around.under_plainId F.plain_max_loop _];show wpAny _ A.in1 (seqItems? (.ref S) >>= _) _ _ s;refine wpAny_bind (wpAny_seqItems hS rfl ?_);show wpAny _ A.in1 (tryCatch (pyNext (.ref I)) _ >>= _) _ _ s;refine wpAny_bind (wpAny_tryCatch (W.done s _ _ Hu fun h' tk Hc=>?_));have Mn:=Hc S _ Xm hS;show wpAny _ A.in1 (updateSeq S (fun _=>#[]) >>= _) _ _ _;refine wpAny_bind ?_;refine wpAny_updateSeq Mn rfl (wpAny_bind (wpAny_letGo (wpAny_pure ?_)));exact hR _ tk fun b o fU cm e=>(Heap.get?_update_other _ _ (Ne.symm cm)).trans (Hc b o fU e)
theorem W5{vb:Value}{j:Nat}(bt:Bool)(W:Walks prog w A.in1 I fp wr n P St)(K5:S∉fp)(hj:j<n)(Hu:St j s.heap)(hS:s.heap.get? S=some { cls:=.type "list",dict:=none,data:=.seq #[vb,vb] c,slots:=#[] })(hk:∀v h' tk,P j v->(∀b o,b∉wr->s.heap.get? b=some o->h'.get? b=some o)->(∀(Q' E':Value->Shared->Prop),Q' (.bool bt) { s with heap:=h',toks:=tk }->wpAny (model prog w) A.in1 (richCompare .Gt v vb) Q' E' { s with heap:=h',toks:=tk }) ∧
   ∀OJ c',(∀b o,b≠S->h'.get? b=some o->OJ.get? b=some o)->St (j+1) OJ->OJ.get? S=some { cls:=.type "list",dict:=none,data:=.seq #[if bt then v else vb,if bt then v else vb] c',slots:=#[] } →
    codeAny (model prog w) A (.builtin "max.loop" ⟨[.ref I,.none,.ref S],[]⟩) R { s with heap:=OJ,toks:=tk }):codeAny (model prog w) A (.builtin "max.loop" ⟨[.ref I,.none,.ref S],[]⟩) R s:=by
 have Xm:S∉wr:=fun h=>K5 (W.sub _ h);have Eu:(toString "max"++toString ".loop":String) = "max.loop":=by decide
 refine codeAny_builtin F.entry_max_loop ?_;rw[Around.under_plainId F.plain_max_loop _];show wpAny _ A.in1 (seqItems? (.ref S) >>= _) _ _ s;refine wpAny_bind (wpAny_seqItems hS rfl ?_);show wpAny _ A.in1 (tryCatch (pyNext (.ref I)) _ >>= _) _ _ s;refine wpAny_bind (wpAny_tryCatch (W.item j s _ _ hj Hu fun v h' tk hP OZ Hc=>?_));have Mn:=Hc S _ Xm hS;obtain⟨d0,go⟩:=hk v h' tk hP Hc;show wpAny _ A.in1 (tryCatch (holding [v,v] (richCompare .Gt v vb >>= _)) _ >>= _) _ _ _;refine wpAny_bind (wpAny_tryCatch (wpAny_holding (wpAny_bind (d0 _ _ ?_))));refine wpAny_bind (wpAny_holding (wpAny_truthy_bool ?_));refine wpAny_bind (wpAny_letGo (wpAny_pure ?_));cases bt with
 |true=>
  simp only[if_true];refine wpAny_bind ?_;refine wpAny_updateSeq Mn rfl (wpAny_bind (wpAny_letGo ?_));rw[Eu];refine wpAny_pure ⟨plainId_quiet F.plain_max_loop _,go _ _ (fun b o hb e=>(Heap.get?_update_other _ _ (Ne.symm hb)).trans e) (W.frame _ _ _ OZ fun b fV o e=>?_) (Heap.get?_update_self _ Mn rfl)⟩;exact(Heap.get?_update_other _ _ (fun h:S=b=>K5 (by rw[h];exact fV))).trans e
 |false=>
  simp only[Bool.false_eq_true,if_false];refine wpAny_bind (wpAny_letGo ?_);rw[Eu];exact wpAny_pure ⟨plainId_quiet F.plain_max_loop _,go _ c (fun b o _ e=>e) OZ Mn⟩
theorem Vi(W:Walks prog w A.in1 I fp wr n P St)(K5:S∉fp)(hn:0<n)(Hu:St 0 s.heap)(hS:s.heap.get? S=some { cls:=.type "list",dict:=none,data:=.seq #[] c,slots:=#[] })(hk:∀v OJ tk c',P 0 v->(∀b o,b∉wr->b≠S->s.heap.get? b=some o->OJ.get? b=some o)->St 1 OJ->OJ.get? S=some { cls:=.type "list",dict:=none,data:=.seq #[v,v] c',slots:=#[] } →
    codeAny (model prog w) A (.builtin "max.loop" ⟨[.ref I,.none,.ref S],[]⟩) R { s with heap:=OJ,toks:=tk }):codeAny (model prog w) A (.builtin "max.loop" ⟨[.ref I,.none,.ref S],[]⟩) R s:=by
 have Xm:S∉wr:=fun h=>K5 (W.sub _ h);have Eu:(toString "max"++toString ".loop":String) = "max.loop":=by decide
 refine codeAny_builtin F.entry_max_loop ?_;rw[Around.under_plainId F.plain_max_loop _];show wpAny _ A.in1 (seqItems? (.ref S) >>= _) _ _ s;refine wpAny_bind (wpAny_seqItems hS rfl ?_);show wpAny _ A.in1 (tryCatch (pyNext (.ref I)) _ >>= _) _ _ s;refine wpAny_bind (wpAny_tryCatch (W.item 0 s _ _ hn Hu fun v h' tk hP OZ Hc=>?_));have Mn:=Hc S _ Xm hS;show wpAny _ A.in1 (updateSeq S (fun _=>#[v,v]) >>= _) _ _ _;refine wpAny_bind ?_;refine wpAny_updateSeq Mn rfl ?_;rw[Eu];refine wpAny_pure ⟨plainId_quiet F.plain_max_loop _,hk v _ tk _ hP (fun b o fU cm e=>(Heap.get?_update_other _ _ (Ne.symm cm)).trans (Hc b o fU e)) (W.frame _ _ _ OZ fun b fV o e=>?_) (Heap.get?_update_self _ Mn rfl)⟩;exact(Heap.get?_update_other _ _ (fun h:S=b=>K5 (by rw[h];exact fV))).trans e
end
theorem ai{prog:Program}{w:World}{A:Around}{s:Shared}{x y:Value}{R:Result->Shared->Prop}{T I S:Addr}{h3:Heap}{c:Nat}(hh:A.handled=none)(bt:Bool)(hc:∀(h':Heap)(tk:Nat)(Q' E':Value->Shared->Prop),(∀c o,s.heap.get? c=some o->h'.get? c=some o)->Q' (.bool bt) { s with heap:=h',toks:=tk }->wpAny (model prog w) A.in1 (richCompare .Gt y x) Q' E' { s with heap:=h',toks:=tk })(old:∀b o,s.heap.get? b=some o->h3.get? b=some o)(hT:h3.IsTuple T #[x,y])(hI:h3.IsTupleIter I T 0)(hS:h3.get? S=some { cls:=.type "list",dict:=none,data:=.seq #[] c,slots:=#[] })(nI:s.heap.objs.size<=I)(nS:s.heap.objs.size<=S)(e1:I≠T)(e2:S≠I)(e3:S≠T)(h:∀h' tk,(∀c o,s.heap.get? c=some o->h'.get? c=some o)->R (.ok (.ret (if bt then y else x))) { s with heap:=h',toks:=tk }):codeAny (model prog w) A (.builtin "max.loop" ⟨[.ref I,.none,.ref S],[]⟩) R { s with heap:=h3 }:=by
 have W:=Walks.tuple (prog:=prog) (w:=w) (A:=A.in1) hh I T e1.symm #[x,y];have K5:S∉[I,T]:=by simp[e2,e3]
 have lt:∀b o,s.heap.get? b=some o->b∉[I]/\b≠S:=fun b o e=>by
  have h1:b<s.heap.objs.size:=Heap.lt_size e;refine⟨fun hm=>?_,fun z=>?_⟩
  ·rw[List.mem_singleton.mp hm]at h1;exact absurd h1 (Nat.not_lt.mpr nI)
  ·rw[z]at h1;exact absurd h1 (Nat.not_lt.mpr nS)
 refine Vi (s:={ s with heap:=h3 }) W K5 (show 0<2 from Nat.zero_lt_succ 1) ⟨hI,hT⟩ hS fun v h4 l5 c4 lM k4 JY Xk=>?_;have ev:v=x:=by simpa using lM.symm
 subst ev;refine W5 (s:={ s with heap:=h4,toks:=l5 }) (j:=1) bt W K5 (show 1<2 from Nat.lt_succ_self 1) JY Xk fun u h5 iW l6 k5=>?_;have eu:u=y:=by simpa using l6.symm
 subst eu;have XD:∀b o,s.heap.get? b=some o->h5.get? b=some o:=fun b o e=>k5 b o (lt b o e).1 (k4 b o (lt b o e).1 (lt b o e).2 (old b o e));refine⟨fun Q' E' q=>hc h5 iW Q' E' XD q,fun h6 c6 k6 k8 kj=>?_⟩;refine af (s:={ s with heap:=h6,toks:=iW }) W K5 k8 kj fun h7 j8 k7=>?_;exact h h7 j8 fun b o e=>k7 b o (lt b o e).1 (lt b o e).2 (k6 b o (lt b o e).2 (XD b o e))
theorem ZV{prog:Program}{w:World}{A:Around}{E:Value->Shared->Prop}{s:Shared}{x y:Value}{Q:Value->Shared->Prop}(hh:A.handled=none)(bt:Bool)(hc:∀(h':Heap)(tk:Nat)(Q' E':Value->Shared->Prop),(∀c o,s.heap.get? c=some o->h'.get? c=some o)->Q' (.bool bt) { s with heap:=h',toks:=tk }->wpAny (model prog w) A.in1 (richCompare .Gt y x) Q' E' { s with heap:=h',toks:=tk })(h:∀h' tk,(∀c o,s.heap.get? c=some o->h'.get? c=some o)->Q (if bt then y else x) { s with heap:=h',toks:=tk }):wpAny (model prog w) A (call (.builtin "max") [x,y]) Q E s:=by
 have Eu:(toString "max"++toString ".loop":String) = "max.loop":=by decide
 refine call_function_tree F.kind_max F.plain_max F.entry_max (F.args_max2 _ _) ?_;show wpAny _ A.in1 (Builtin.Builtins.bindParams "max" ["key","default"] 0 ⟨[],[]⟩ >>= _) _ _ s;refine wpAny_bind (wpAny_of_eq (show Builtin.Builtins.bindParams "max" ["key","default"] 0 ⟨[],[]⟩=pure [none,none]from rfl) ?_);show wpAny _ A.in1 (newTuple [x,y] >>= _) _ _ s;refine wpAny_bind (wpAny_newObj_type ?_);have hT:(s.heap.push { cls:=.type "tuple",data:=.seq #[x,y] }).IsTuple s.heap.objs.size #[x,y]:=⟨_,Heap.get?_push_size _ rfl,rfl,0,rfl⟩;refine wpAny_bind (wpAny_pyIter_tuple hT ?_);refine wpAny_bind (wpAny_newObj_type ?_);rw[Eu];have z1:(s.heap.push { cls:=.type "tuple",data:=.seq #[x,y] }).objs.size=s.heap.objs.size+1:=Heap.size_push ..;have z2:((s.heap.push { cls:=.type "tuple",data:=.seq #[x,y] }).push { cls:=Value.type "tuple_iterator",data:=Data.fields #[Value.ref s.heap.objs.size,Value.int 0 0] }).objs.size=s.heap.objs.size+1+1:=by rw[Heap.size_push,z1]
 refine wpAny_pure ⟨plainId_quiet F.plain_max_loop _,ai (s:=s) (c:=0) hh bt hc (fun b o e=>Heap.get?_push_of_some _ (Heap.get?_push_of_some _ (Heap.get?_push_of_some _ e))) ((hT.push _).push _) ⟨_,Heap.get?_push_of_some _ (Heap.get?_push_size _ rfl),rfl,rfl⟩ (Heap.get?_push_size _ rfl) ?_ ?_ ?_ ?_ ?_ h⟩
 ·exact Nat.le_trans (Nat.le_succ _) (Nat.le_of_eq z1.symm)
 ·exact Nat.le_trans (Nat.le_trans (Nat.le_succ _) (Nat.le_succ _)) (Nat.le_of_eq z2.symm)
 ·exact fun z=>Nat.succ_ne_self _ (z1.symm.trans z)
 ·exact fun z=>Nat.succ_ne_self _ ((z2.symm.trans z).trans z1)
 ·exact fun z=>absurd (z2.symm.trans z) (Nat.ne_of_gt (Nat.lt_succ_of_lt (Nat.lt_succ_self _)))
instance (p q:Sq):Decidable (AQ p q):=by unfold AQ;exact inferInstance
def Dl(x y:Sq):Sq:=if AQ y x then y else x
def D4(x y:Sq):Sq:=if AQ x y then y else x
theorem cj(x y:Sq):gt2 x.1 x.2 y.1 y.2=decide (AQ y x):=by
 rw[Bool.eq_iff_iff,decide_eq_true_eq];unfold gt2;split
 ·rename_i h
  have:=eq_of_beq h
  rw[decide_eq_true_eq];unfold AQ;lia
 ·rename_i h;have:¬x.1=y.1:=fun z=>h (by rw[z];exact beq_self_eq_true _);rw[decide_eq_true_eq];unfold AQ;lia
theorem ZP{s:Shared}{A:Around}{x y:Sq}{u v:Value}(hx:AtH s.heap (sq x) u)(hy:AtH s.heap (sq y) v)(hu:A.units+9<cLine)(prog:Program)(w:World)(E Q:Value->Shared->Prop)(q:Q (.bool (decide (AQ y x))) s):wpAny (model prog w) A (richCompare .Gt u v) Q E s:=by
 rw[<-cj]at q;unfold sq at hx hy;rw[AtH]at hx hy;obtain⟨a,is,rfl,ti,rl⟩:=hx;obtain⟨b,js,rfl,tj,rm⟩:=hy;have e1:∃t1 t2,is=[.int x.1 t1,.int x.2 t2]:=by
  simp only[AtL,AtH]at rl;obtain⟨v1,r1,rfl,⟨t1,rfl⟩,v2,r2,rfl,⟨t2,rfl⟩,rfl⟩:=rl;exact⟨t1,t2,rfl⟩
 have e2:∃t1 t2,js=[.int y.1 t1,.int y.2 t2]:=by
  simp only[AtL,AtH]at rm;obtain⟨v1,r1,rfl,⟨t1,rfl⟩,v2,r2,rfl,⟨t2,rfl⟩,rfl⟩:=rm;exact⟨t1,t2,rfl⟩
 obtain⟨t1,t2,rfl⟩:=e1;obtain⟨u1,u2,rfl⟩:=e2;obtain⟨⟨cls,dd,data,sl⟩,ZA,hc,n1,hd⟩:=id ti;obtain⟨⟨dv,So,data2,PC⟩,Sr,RC,n2,hd2⟩:=id tj;simp only at hc hd RC hd2;subst hc hd RC hd2;have RS:A.in1.units+0<cLine:=by show A.units+1+0<cLine;lia
 have q1:=(GN (A:=A.in1) (s:=s) 0 (d:=.int x.1) (e:=.int y.1) rfl rfl (by rw[AtH];exact⟨t1,rfl⟩) (by rw[AtH];exact⟨u1,rfl⟩) RS).1;have q2:=(GN (A:=A.in1) (s:=s) 0 (d:=.int x.2) (e:=.int y.2) rfl rfl (by rw[AtH];exact⟨t2,rfl⟩) (by rw[AtH];exact⟨u2,rfl⟩) RS).1;simp only[eqD]at q1 q2;exact richCompare_meets_room (op:=.Gt) ⟨_,ZA,rfl⟩ ⟨_,Sr,rfl⟩ PySem.F.slot_tuple_gt PySem.F.entry_tuple_gt (PySem.F.args_tuple_gt_2 _ _) (Sf a b x.1 x.2 y.1 y.2 t1 t2 u1 u2 n1 n2 dd So sl PC)
  ⟨q1,q2,ZA,Sr,⟨(fun x=>nomatch x),q⟩⟩ (by lia)
section
variable {X:Cx}{ρ:Rho}{G:Gs}{e a b c:Expr}{d d1 d2:Dat}{l:List Dat}{pos:Pos}{x y:Sq}
theorem Rh(hc:X.calm=true)(hu:X.A.units+20<cLine)(x y:Sq):Cc X (.builtin "min") (fun xs H Q=>∃u v,xs=[u,v]/\Rep X.K H (sq x) u/\Rep X.K H (sq y) v/\Q (if decide (AQ y x)then v else u) H):=by
 intro AD s σ H xs us Q I r h;obtain⟨u,v,rfl,hx,hy,q⟩:=h;obtain⟨a,b,rfl,ra,rb⟩:=M0 r;refine Zy (I.ok.hd hc) (decide (AQ y x)) (fun h' tk Q' E' k q'=>?_) (fun h' tk k=>⟨_,H,I.kept k,?_,q⟩)
 ·have I':=I.kept (t':=tk) k
  have:=Le (A:=X.A.in1) (s:={ s with heap:=h',toks:=tk }) true 9 (d:=sq y) (e:=sq x) rfl (AZ y 8) (AZ x 8) (hy.at I' (AZ y 8) rb) (hx.at I' (AZ x 8) ra) (by show X.A.units+1+9<cLine;lia) X.prog X.w E' Q'
  rw[Sg]at this;exact this q'
 ·cases decide (AQ y x)with
  |true=>exact rb
  |false=>exact ra
theorem RP(hc:X.calm=true)(hu:X.A.units+20<cLine)(x y:Sq):Cc X (.builtin "max") (fun xs H Q=>∃u v,xs=[u,v]/\Rep X.K H (sq x) u/\Rep X.K H (sq y) v/\Q (if decide (AQ x y)then v else u) H):=by
 intro AD s σ H xs us Q I r h;obtain⟨u,v,rfl,hx,hy,q⟩:=h;obtain⟨a,b,rfl,ra,rb⟩:=M0 r;refine ZV (I.ok.hd hc) (decide (AQ x y)) (fun h' tk Q' E' k q'=>?_) (fun h' tk k=>⟨_,H,I.kept k,?_,q⟩)
 ·have I':=I.kept (t':=tk) k;exact ZP (A:=X.A.in1) (s:={ s with heap:=h',toks:=tk }) (hy.at I' (AZ y 8) rb) (hx.at I' (AZ x 8) ra) (by show X.A.units+1+9<cLine;lia) X.prog X.w E' Q' q'
 ·cases decide (AQ x y)with
  |true=>exact rb
  |false=>exact ra
theorem Pe{pp:Pos}(hc:X.calm=true)(hu:X.A.units+20<cLine)(hm:X.mg "min"=none)(ha:PX X ρ G a (sq x))(hb:PX X ρ G b (sq y))(hg:Gl X "min":=by rfl)(he:starEach [a,b] X.env=(false,eval a X.env)::starEach [b] X.env:=by rfl)(he2:starEach [b] X.env=(false,eval b X.env)::starEach [] X.env:=by rfl)(hpl:(backTo pos (starEach [b] X.env)).any (·.1)=false:=by rfl):PX X ρ G (.Call (.Name "min" pp) [a,b] [] pos) (sq (Dl x y)):=Ia (Rh hc hu x y) hg hm (by decide +kernel) ha hb (fun H u v Q o rx ry k=>by
  refine⟨u,v,rfl,rx.same AK,ry.same AK,k _ _ (Bc o ?_)⟩;unfold Dl;by_cases h:AQ y x
  ·rw[if_pos h,if_pos (decide_eq_true h)];exact ry
  ·rw[if_neg h,if_neg (by simpa using h)];exact rx) (he:=he) (he2:=he2) (hpl:=hpl)
theorem Qv{pp:Pos}(hc:X.calm=true)(hu:X.A.units+20<cLine)(hm:X.mg "max"=none)(ha:PX X ρ G a (sq x))(hb:PX X ρ G b (sq y))(hg:Gl X "max":=by rfl)(he:starEach [a,b] X.env=(false,eval a X.env)::starEach [b] X.env:=by rfl)(he2:starEach [b] X.env=(false,eval b X.env)::starEach [] X.env:=by rfl)(hpl:(backTo pos (starEach [b] X.env)).any (·.1)=false:=by rfl):PX X ρ G (.Call (.Name "max" pp) [a,b] [] pos) (sq (D4 x y)):=Ia (RP hc hu x y) hg hm (by decide +kernel) ha hb (fun H u v Q o rx ry k=>by
  refine⟨u,v,rfl,rx.same AK,ry.same AK,k _ _ (Bc o ?_)⟩;unfold D4;by_cases h:AQ x y
  ·rw[if_pos h,if_pos (decide_eq_true h)];exact ry
  ·rw[if_neg h,if_neg (by simpa using h)];exact rx) (he:=he) (he2:=he2) (hpl:=hpl)
theorem NX:∀(bs:List Bool),((List.range bs.length).all fun i=>bs.getD i true)=bs.all id
 |[]=>rfl
 |b::bs=>by
  rw[List.length_cons,List.range_succ_eq_map,List.all_cons,List.all_map,List.all_cons,<-NX bs];rfl
theorem Vt(hc:X.calm=true):Cc X (.builtin "all") (fun xs H Q=>∃(p:Addr)(bs:List Bool),xs=[.ref p]/\SqL X.K H p (bs.map V.bl)/\Q (.bl (bs.all id)) H):=by
 intro AD s σ H xs us Q I r h;obtain⟨p,bs,rfl,hq,q⟩:=h;obtain⟨u,rfl,rx⟩:=JQ r;cases rx;obtain⟨AY,rv,pl,hz⟩:=I.list hq;have hl:=pl.isList;have A6:=Heap.lt_size (hl.choose_spec.1);have ne:p≠s.heap.objs.size:=Nat.ne_of_lt A6;refine call_all_walk (wpAny_pyIter_list hl ?_);refine⟨_,_,_,_,_,_,fun i=>bs.getD i true,rfl,Walks.list (A:=X.A.in1) (I.ok.hd hc) _ p ne AY.toArray,⟨⟨_,Heap.get?_push_size _ rfl,rfl,rfl⟩,hl.push _⟩,?_,fun h' tk hk=>?_⟩
 ·intro i v s' Q' E' hP hQ;have h1:AY[i]?=some v:=by simpa using hP
  have hi:i<AY.length:=(List.getElem?_eq_some_iff.mp h1).1;have RB:=rv.length;rw[List.length_map]at RB;obtain⟨x,hx⟩:∃x,bs[i]?=some x:=⟨bs[i]'(by lia),List.getElem?_eq_getElem (by lia)⟩;have h2:(bs.map V.bl)[i]?=some (V.bl x):=by rw[List.getElem?_map,hx];rfl
  obtain⟨v',g1,g2⟩:=rv.get h2;rw[h1]at g1;cases g1;cases g2;have hQ:Q' (bs.getD i true) s':=hQ;rw[List.getD_eq_getElem?_getD,hx]at hQ;exact wpAny_truthy_bool hQ
 ·have hn:AY.toArray.size=bs.length:=by have:=rv.length;rw[List.length_map]at this;rw[List.size_toArray,<-this]
  rw[hn,NX];refine⟨.bl _,H,I.kept (fun b o e=>hk b o (fun hm=>?_) (Heap.get?_push_of_some _ e)),rfl,q⟩;have h1:=Heap.lt_size e;rw[List.mem_singleton.mp hm]at h1;exact Nat.lt_irrefl _ h1
theorem Te{K:PySem.W.Frag}{H:Hp}:∀{bs:List Bool}{vs:List V},RepL K H (bs.map .bl) vs->vs=bs.map V.bl
 |[],vs,r=>by
  have:=r.length
  exact List.eq_nil_of_length_eq_zero (by simpa using this)
 |b::bs,vs,r=>by
  rw[List.map_cons,RepL]at r;obtain⟨v,r',rfl,r1,r2⟩:=r;rw[Rep]at r1;rw[r1,Te r2];rfl
theorem R1{bs:List Bool}{pp:Pos}(hc:X.calm=true)(hm:X.mg "all"=none)(ha:PX X ρ G a (.lst (bs.map .bl)))(hg:Gl X "all":=by rfl)(he:starEach [a] X.env=(false,eval a X.env)::starEach [] X.env:=by rfl):PX X ρ G (.Call (.Name "all" pp) [a] [] pos) (.bl (bs.all id)):=En (Vt hc) hg hm (by decide +kernel) ha (fun H x Q o r k=>by
  rw[Rep]at r;obtain⟨q,vs,e,h1,r1⟩:=r;exact⟨q,bs,by rw[e],by rw[<-Te r1];exact SqL.of (AK _ _ h1),k _ _ (Bc o rfl)⟩) (he:=he)
end
def bF(lo:Int)(n:Nat):It:=⟨fun i _=>i<n,fun i H x H'=>H'=H/\x=.int (lo+i*2),fun i _=>n<=i⟩
theorem RA{P:Program}{w:World}{K:PySem.W.Frag}{tg:Expr}(it:Addr)(lo:Int)(n:Nat):Turn P w K tg (bF lo n) [it] it (fun i h=>IsRangeIter h it (lo+(i:Nat)*2) ((n:Int)-(i:Nat)) 2) where
 mem:=by simp
 obj:=fun i h st b hb=>by
  have e:b=it:=by simpa using hb
  subst e;exact⟨_,st,fun v z=>by
   have z':Data.fields _=Data.cell v:=z;cases z'⟩
 keep:=fun i h h' st k=>k it (by simp) _ st
 item:=by
  intro X hP hw hK hc i AD s σ H E I hf st hg;subst hP hw hK;obtain⟨f0,f1,f2,f3,f4,f5⟩:=hf it (by simp);have W:=Walks.range (prog:=X.prog) (w:=X.w) (I.ok.hd hc) it lo 2 n;refine W.item i s _ _ hg st fun v h' tk hv AX kk=>?_;obtain⟨t,rfl⟩:=hv;have I1:Inv X AD σ H { s with heap:=h',toks:=tk }:=I.turned (fun b o hb e=>kk b o (by simpa using hb) e) f0 f1 f3 f4 f5;exact⟨_,rfl,Pm (s:={ s with heap:=h',toks:=tk }) (n:="range_iterator") AX rfl rfl (by decide) ⟨.int (lo+i*2),H,I1,⟨t,rfl⟩,⟨rfl,rfl⟩,AX,fun b hb=>(hf b hb).1⟩⟩
 done:=by
  intro X hP hw hK hc i AD s σ H E I hf st hg;subst hP hw hK;obtain⟨f0,f1,f2,f3,f4,f5⟩:=hf it (by simp);exact wpAny_pyNext_range_end (I.ok.hd hc) st (by have:n<=i:=hg;lia) fun h' eb=>⟨rfl,I.turned (t':=s.toks) (fun b o hb e=>eb b o hb e) f0 f1 f3 f4 f5⟩
 self:=fun _ _ _ _ _ st h=>wpAny_pyIter_rangeiter st h
theorem Qm{lo hi:Int}{n:Nat}(h:lo<=hi)(hn:(n:Int)=(hi-lo+1) / 2):Builtin.Range.rangeSize lo hi 2=n:=by unfold Builtin.Range.rangeSize;simp only[show(2:Int) > 0 by decide,if_true];split<;>lia
theorem Vv{lo hi:Int}{n:Nat}(h0:0<=lo)(h:lo<=hi)(h1:hi<=100000)(hn:(n:Int)=(hi-lo+1) / 2):Builtin.Range.small lo hi 2=true:=by unfold Builtin.Range.small;rw[Qm h hn];simp only[Builtin.Range.rangeFitsLong,Bool.and_eq_true,Bool.or_eq_true,decide_eq_true_eq,beq_iff_eq,show(2:Int) > 0 by decide,if_true];lia
section
variable {X:Cx}{ρ:Rho}{G:Gs}{a b c:Expr}{pos:Pos}
theorem WC{tg:Expr}{AD:List (Addr×Obj)}{σ:St}{H:Hp}{s:Shared}{R:It->Hp->Prop}{E:Value->Shared->Prop}{lo hi:Int}{n:Nat}{t u v:Tok}{tk:Nat}(I:Inv X AD σ H s)(h0:0<=lo)(h:lo<=hi)(h1:hi<=100000)(hn:(n:Int)=(hi-lo+1) / 2)(q:R (bF lo n) H):wpAny (model X.prog X.w) X.A (pyIter (.ref s.heap.objs.size)) (PIE X AD σ tg R) E { s with heap:=s.heap.push { cls:=.type "range",data:=.fields #[.int lo t,.int hi u,.int 2 v] },toks:=tk }:=by
 refine wpAny_pyIter_range (IsRange.new ..) (Vv h0 h h1 hn) ?_;have I1:Inv X AD σ H { s with heap:=s.heap.push { cls:=.type "range",data:=.fields #[.int lo t,.int hi u,.int 2 v] },toks:=tk }:=I.kept fun b o e=>Heap.get?_push_of_some _ e;refine⟨(s.heap.push { cls:=.type "range",data:=.fields #[.int lo t,.int hi u,.int 2 v] }).objs.size,[(s.heap.push { cls:=.type "range",data:=.fields #[.int lo t,.int hi u,.int 2 v] }).objs.size],_,_,H,rfl,
  I1.kept (t':=tk) fun b o e=>Heap.get?_push_of_some _ e,RA _ lo n,?_,fun b hb=>?_,q⟩
 ·have e1:lo+((0:Nat):Int)*2=lo:=by simp
  have e2:(n:Int)-((0:Nat):Int)=Builtin.Range.rangeSize lo hi 2:=by rw[Qm h hn];simp
  show IsRangeIter _ _ (lo+((0:Nat):Int)*2) ((n:Int)-((0:Nat):Int)) 2;rw[e1,e2];exact Heap.get?_push_size _ rfl
 ·have e:b=(s.heap.push { cls:=.type "range",data:=.fields #[.int lo t,.int hi u,.int 2 v] }).objs.size:=by simpa using hb
  subst e;exact I1.fpOk (Nat.le_refl _) (I1.hok.fresh (Nat.le_refl _))
def Bq(lo:Int)(n:Nat):List Dat:=(List.range n).map fun i=>.int (lo+(i:Nat)*2)
theorem Zo{K:PySem.W.Frag}{H:Hp}{lo:Int}{n:Nat}:Wk K (bF lo n) H G (Bq lo n):=by
 intro H' G' e;refine⟨fun i d hd=>?_,by show n<=(Bq lo n).length;simp[Bq]⟩;have hi:i<n:=by
  have:=(List.getElem?_eq_some_iff.mp hd).1
  simpa[Bq]using this
 refine⟨hi,fun x ZE ⟨e1,e2⟩=>?_⟩;subst e1;subst e2;refine⟨Ext.refl,fun o=>o,fun _=>?_⟩;have:(Bq lo n)[i]?=some (.int (lo+i*2)):=by simp[Bq,hi]
 rw[this]at hd;cases hd;rfl
theorem QD{lo:Int}{n i:Nat}{d:Dat}(h:(Bq lo n)[i]?=some d):i<n/\d=.int (lo+(i:Nat)*2):=by
 have hi:i<n:=by
  have:=(List.getElem?_eq_some_iff.mp h).1
  simpa[Bq]using this
 refine⟨hi,?_⟩;have:(Bq lo n)[i]?=some (.int (lo+i*2)):=by simp[Bq,hi]
 rw[this]at h;cases h;rfl
theorem Q7(lo:Int)(n:Nat):(Bq lo n).length=n:=by simp[Bq]
def iN(ta:TA):TI:=fun σ H R=>ta σ H fun vs H1=>∃(i j:Int)(n:Nat),vs=[.int i,.int j,.int 2]/\(0<=i/\i<=j/\j<=100000/\(n:Int)=(j-i+1) / 2)/\R (bF i n) H1
theorem VE{tg:Expr}{ta:TA}{p pos:Pos}(hg:Gl X "range")(hm:X.mg "range"=none)(ha:PA X [a,b,c] ta)(hs:starEach [a,b,c] X.env=(false,eval a X.env)::starEach [b,c] X.env)(MT:(backTo pos (starEach [b,c] X.env)).any (·.1)=false) :
  PI X tg (.Call (.Name "range" p) [a,b,c] [] pos) (iN ta):=by
 intro AD s σ H R I h;refine Call_ (Ff I hg hm boot_range (PyProof.Rows.callWith_type1 (thn (ha pos AD s σ H _ I h) fun us s1 ⟨vs,H1,I1,r1,q1⟩=>?_) hs MT));obtain⟨i,j,n,e,⟨q1,q2,q3,q4⟩,q⟩:=q1;subst e;cases r1 with
 |cons r rr=>
  cases rr with
  |cons r' rr=>
   cases rr with
   |cons qH rr=>
    cases rr;obtain⟨t,rfl⟩:=r;obtain⟨t',rfl⟩:=r';obtain⟨sg,rfl⟩:=qH;exact call_range_3 (by decide) (WC I1 q1 q2 q3 q4 q) (Or.inl (PyProof.noPylong_small (by lia)))
theorem VN{tg:Expr}{Q:List Dat->Gs->Prop}{i j:Int}(n:Nat){p:Pos}(hm:X.mg "range"=none)(ha:PX X ρ G a (.int i))(hb:PX X ρ G b (.int j))(hc:PX X ρ G c (.int 2))(h0:0<=i/\i<=j/\j<=100000/\(n:Int)=(j-i+1) / 2)(q:Q (Bq i n) G)(hg:Gl X "range":=by rfl)(hs:starEach [a,b,c] X.env=(false,eval a X.env)::starEach [b,c] X.env:=by rfl)(KY:starEach [b,c] X.env=(false,eval b X.env)::starEach [c] X.env:=by rfl)(ft:starEach [c] X.env=(false,eval c X.env)::starEach [] X.env:=by rfl)(MT:(backTo pos (starEach [b,c] X.env)).any (·.1)=false:=by rfl):WI X ρ G tg (.Call (.Name "range" p) [a,b,c] [] pos) Q:=fun AD s σ H I S=>
 VE hg hm (BG Ax (BG Ax (BG Ax Cb ft) KY) hs) hs MT AD s σ H _ I ⟨ρ,G,_,ha,S,fun x H1 ⟨_,_,e1,o1,r1,q1,BX⟩=>by
  subst q1;subst BX;cases (show x=V.int i from r1);refine⟨ρ,_,_,hb,S.ext e1 o1,fun y H2 ⟨_,_,e2,o2,r2,q2,FQ⟩=>?_⟩;subst q2;subst FQ;cases (show y=V.int j from r2);refine⟨ρ,_,_,hc,(S.ext e1 o1).ext e2 o2,fun z H3 ⟨_,_,e3,o3,r3,q3,qf⟩=>?_⟩;subst q3;subst qf;cases (show z=V.int 2 from r3);exact⟨i,j,n,rfl,h0,_,_,(e1.trans e2).trans e3,o3,Zo,q⟩⟩
end
def D8(l A B:Lay):Lay:=TSt.sort ((l.filter fun s=>!A.contains s)++B)
theorem Xp{α:Type}(p:α->Bool)(l:List α):((l.filter p)++(l.filter fun x=>!p x)).Perm l:=by
 induction l with
 |nil=>exact .nil
 |cons a l ih=>
  rw[List.filter_cons,List.filter_cons];cases h:p a with
  |true=>simpa using ih
  |false=>
   simp only[Bool.not_false,Bool.false_eq_true,if_false,if_true];exact List.perm_middle.trans (.cons _ ih)
theorem dZ{l A:Lay}(hl:l.Nodup)(hA:A.Nodup)(sub:∀s∈A,s∈l):(l.filter fun s=>A.contains s).Perm A:=by rw[List.perm_ext_iff_of_nodup (hl.filter _) hA];intro s;simp only[List.mem_filter,List.contains_iff_mem];exact⟨fun h=>h.2,fun h=>⟨sub s h,h⟩⟩
theorem QL{l A B:Lay}(hl:l.Nodup)(hA:A.Nodup)(sub:∀s∈A,s∈l):(A++l.filter fun s=>!A.contains s).Perm l:=((dZ hl hA sub).symm.append_right _).trans (Xp _ l)
structure Swap (l A B:Lay):Prop where
 sub:∀s∈A,s∈l
 nA:A.Nodup
 nB:B.Nodup
 dis:∀s∈A,s∉B
 ok:∀s∈B,AQ s.1 s.2/\s.2∈nbM s.1
 pm:(Aj B).Perm (Aj A)
theorem Iv{F:List Sq}{l A B:Lay}(nd:F.Nodup)(I:IsLay F l)(S:Swap l A B):IsLay F (D8 l A B):=by
 refine Cov.lay ⟨fun s hs=>?_,?_⟩ nd
 ·rcases List.mem_append.mp hs with h|h
  ·exact I.st s (List.mem_filter.mp h).1
  ·exact S.ok s h
 ·rw[HZ];refine(List.perm_append_comm.trans ?_).trans ((JE (QL (B:=B) (Ob I) S.nA S.sub)).trans I.pm);rw[HZ];exact S.pm.append_right _
theorem O6{F:List Sq}{l:Lay}(nd:F.Nodup)(I:IsLay F l){s t:Bz}(hs:s∈l)(ht:t∈l){x:Sq}(h1:x=s.1\/x=s.2)(h2:x=t.1\/x=t.2):s=t:=by
 have n1:(Aj l).Nodup:=I.pm.nodup_iff.mpr nd;have pw:=Ww n1;by_cases e:s=t
 ·exact e
 ·exfalso;have key:s.1≠t.1/\s.1≠t.2/\s.2≠t.1/\s.2≠t.2:=by
   rw[List.pairwise_iff_getElem]at pw;obtain⟨i,hi,rfl⟩:=List.mem_iff_getElem.mp hs;obtain⟨j,hj,rfl⟩:=List.mem_iff_getElem.mp ht;rcases Nat.lt_trichotomy i j with h|h|h
   ·exact pw i j hi hj h
   ·subst h;exact absurd rfl e
   ·have z:=pw j i hj hi h;exact⟨z.1.symm,z.2.2.1.symm,z.2.1.symm,z.2.2.2.symm⟩
  rcases h1 with rfl|rfl<;>rcases h2 with h|h
  ·exact key.1 h
  ·exact key.2.1 h
  ·exact key.2.2.1 h
  ·exact key.2.2.2 h
theorem Xn{F:List Sq}{l A B:Lay}(nd:F.Nodup)(I:IsLay F l)(S:Swap l A B):∀s∈B,s∉l:=by
 intro s hs hl;have h1:s.1∈Aj B:=A3.mpr ⟨s,hs,.inl rfl⟩;obtain⟨a,ha,h2⟩:=A3.mp (S.pm.mem_iff.mp h1)
 have:=O6 nd I hl (S.sub a ha) (.inl rfl) h2
 exact S.dis a ha (this▸hs)
theorem YV{l A B:Lay}{s:Bz}:s∈D8 l A B↔(s∈l/\s∉A)\/s∈B:=by unfold D8;rw[(TSt.sort_perm _).mem_iff,List.mem_append,List.mem_filter];simp
theorem Swap.back{F:List Sq}{l A B:Lay}(I:IsLay F l)(S:Swap l A B):Swap (D8 l A B) B A:=⟨fun s hs=>YV.mpr (.inr hs),S.nB,S.nA,fun s hb ha=>S.dis s ha hb,fun s hs=>I.st s (S.sub s hs),S.pm.symm⟩
theorem Mm{F:List Sq}{l A B:Lay}(nd:F.Nodup)(I:IsLay F l)(S:Swap l A B):D8 (D8 l A B) B A=l:=by
 have J:=Iv nd I S;have J2:=Iv nd J (S.back I);refine J2.uniq I ?_;have new:=Xn nd I S;have p1:((D8 l A B).filter fun s=>!B.contains s).Perm (l.filter fun s=>!A.contains s):=by
  refine((TSt.sort_perm _).filter _).trans ?_;rw[List.filter_append];have e1:(B.filter fun s=>!B.contains s)=[]:=List.filter_eq_nil_iff.mpr fun s hs=>by simp[hs]
  have e2:((l.filter fun s=>!A.contains s).filter fun s=>!B.contains s)=l.filter fun s=>!A.contains s:=List.filter_eq_self.mpr fun s hs=>by
   have:s∉B:=fun hb=>new s hb (List.mem_filter.mp hs).1;simp[this]
  rw[e1,e2,List.append_nil]
 unfold D8 at p1 ⊢;refine(TSt.sort_perm _).trans ((p1.append_right A).trans (List.perm_append_comm.trans (QL (B:=B) (Ob I) S.nA S.sub)))
def stM(x y:Sq):Bz:=(Dl x y,D4 x y)
def M7(ring:List Sq)(k:Nat):Sq:=if k=0 then ring.getD (ring.length-1) (0,0)else ring.getD (k-1) (0,0)
def Ay(ring:List Sq)(b:Nat):Lay:=(List.range ((ring.length-b+1) / 2)).map fun i=>stM (M7 ring (b+2*i)) (ring.getD (b+2*i) (0,0))
def Cw(l:Lay)(ring:List Sq):Lay:=if (Ay ring 1).all l.contains then D8 l (Ay ring 1) (Ay ring 0)else D8 l (Ay ring 0) (Ay ring 1)
def CL(q:Sq):List Sq:=[(q.1,q.2),(q.1,q.2+1),(q.1+1,q.2+1),(q.1+1,q.2)]
def Cg(q:Sq):Lay:=[((q.1,q.2),(q.1,q.2+1)),((q.1+1,q.2),(q.1+1,q.2+1))]
def Ct(q:Sq):Lay:=[((q.1,q.2),(q.1+1,q.2)),((q.1,q.2+1),(q.1+1,q.2+1))]
theorem XO{x y:Sq}(h:AQ x y):stM x y=(x,y):=by unfold stM Dl D4;rw[if_pos h,if_neg fun h2=>AW _ (BH h h2)]
theorem XR{x y:Sq}(h:AQ y x):stM x y=(y,x):=by unfold stM Dl D4;rw[if_pos h,if_neg fun h2=>AW _ (BH h h2)]
theorem Od(q:Sq):Ay (CL q) 0=Ct q:=by
 have e:Ay (CL q) 0=[stM (q.1+1,q.2) (q.1,q.2),stM (q.1,q.2+1) (q.1+1,q.2+1)]:=by simp[Ay,CL,M7,List.range_succ]
 rw[e,XR (by unfold AQ;simp only;lia),XO (by unfold AQ;simp only;lia)];rfl
theorem Lu(q:Sq):Ay (CL q) 1=Cg q:=by
 have e:Ay (CL q) 1=[stM (q.1,q.2) (q.1,q.2+1),stM (q.1+1,q.2+1) (q.1+1,q.2)]:=by simp[Ay,CL,M7,List.range_succ]
 rw[e,XO (x:=(q.1,q.2)) (y:=(q.1,q.2+1)) (Or.inr ⟨rfl,show q.2<q.2+1 by lia⟩),XR (x:=(q.1+1,q.2+1)) (y:=(q.1+1,q.2)) (Or.inr ⟨rfl,show q.2<q.2+1 by lia⟩)];rfl
def D5(l:Lay)(q:Sq):Bool:=(Ay (CL q) 0).all l.contains||(Ay (CL q) 1).all l.contains
def Cn(l:Lay):List Sq:=(l.filter fun s=>D5 l s.1).map (·.1)
theorem L9{l:Lay}{q:Sq}:D5 l q=true↔(∀s∈Ct q,s∈l)\/∀s∈Cg q,s∈l:=by unfold D5;rw[Od,Lu,Bool.or_eq_true,List.all_eq_true,List.all_eq_true];simp only[List.contains_iff_mem]
theorem ax(l:Lay)(q:Sq):(∀s∈Cg q,s∈l)->Swap l (Cg q) (Ct q):=fun h=>by
 refine⟨h,?_,?_,?_,?_,?_⟩
 ·simp[Cg];lia
 ·simp[Ct];lia
 ·simp[Cg,Ct];lia
 ·intro s hs;simp only[Ct,List.mem_cons,List.not_mem_nil,or_false]at hs;rcases hs with rfl|rfl<;>(refine⟨by unfold AQ;simp<;>lia,?_⟩;simp[nbM])
 ·have e1:Aj (Cg q)=[(q.1,q.2),(q.1,q.2+1),(q.1+1,q.2),(q.1+1,q.2+1)]:=rfl;have e2:Aj (Ct q)=[(q.1,q.2),(q.1+1,q.2),(q.1,q.2+1),(q.1+1,q.2+1)]:=rfl;rw[e1,e2];exact .cons _ (.swap ..)
theorem Ze(l:Lay)(q:Sq):(∀s∈Ct q,s∈l)->Swap l (Ct q) (Cg q):=fun h=>by
 refine⟨h,?_,?_,?_,?_,?_⟩
 ·simp[Ct];lia
 ·simp[Cg];lia
 ·simp[Cg,Ct];lia
 ·intro s hs;simp only[Cg,List.mem_cons,List.not_mem_nil,or_false]at hs;rcases hs with rfl|rfl<;>(refine⟨by unfold AQ;simp<;>lia,?_⟩;simp[nbM])
 ·have e1:Aj (Cg q)=[(q.1,q.2),(q.1,q.2+1),(q.1+1,q.2),(q.1+1,q.2+1)]:=rfl;have e2:Aj (Ct q)=[(q.1,q.2),(q.1+1,q.2),(q.1,q.2+1),(q.1+1,q.2+1)]:=rfl;rw[e1,e2];exact .cons _ (.swap ..)
theorem Uk{F:List Sq}{l:Lay}(nd:F.Nodup)(I:IsLay F l){q:Sq}(h1:((q.1,q.2),(q.1,q.2+1))∈l)(h2:((q.1,q.2),(q.1+1,q.2))∈l):False:=by
 have:=O6 nd I h1 h2 (x:=(q.1,q.2)) (.inl rfl) (.inl rfl)
 injection this with _ h;injection h with h _;lia
theorem K6{F:List Sq}{l:Lay}(nd:F.Nodup)(I:IsLay F l){q:Sq}(h:D5 l q=true):((∀s∈Cg q,s∈l)/\Cw l (CL q)=D8 l (Cg q) (Ct q)/\((q.1,q.2),(q.1,q.2+1))∈l)\/((∀s∈Ct q,s∈l)/\Cw l (CL q)=D8 l (Ct q) (Cg q)/\((q.1,q.2),(q.1,q.2+1))∉l):=by
 have e:(Ay (CL q) 1).all l.contains=true↔∀s∈Cg q,s∈l:=by
  rw[Lu,List.all_eq_true];simp only[List.contains_iff_mem]
 by_cases hw:∀s∈Cg q,s∈l
 ·refine .inl ⟨hw,?_,hw _ (List.mem_cons_self ..)⟩;unfold Cw;rw[if_pos (e.mpr hw),Od,Lu]
 ·have ht:∀s∈Ct q,s∈l:=(L9.mp h).resolve_right hw;refine .inr ⟨ht,?_,fun h1=>Uk nd I h1 (ht _ (List.mem_cons_self ..))⟩;unfold Cw;rw[if_neg fun z=>hw (e.mp z),Od,Lu]
theorem VA{F:List Sq}{l:Lay}(nd:F.Nodup)(I:IsLay F l){q:Sq}(h:D5 l q=true):IsLay F (Cw l (CL q))/\D5 (Cw l (CL q)) q=true/\Cw (Cw l (CL q)) (CL q)=l:=by
 rcases K6 nd I h with⟨hw,e,h1⟩|⟨ht,e,h1⟩
 ·have S:=ax l q hw;have J:=Iv nd I S;have hB:=(S.back I).sub;have ht:D5 (D8 l (Cg q) (Ct q)) q=true:=L9.mpr (.inl hB);rw[e];refine⟨J,ht,?_⟩;rcases K6 nd J ht with⟨pQ,e2,h2⟩|⟨iD,e2,h2⟩
  ·exact(Uk nd J h2 (hB _ (List.mem_cons_self ..))).elim
  ·rw[e2];exact Mm nd I S
 ·have S:=Ze l q ht;have J:=Iv nd I S;have hB:=(S.back I).sub;have hw:D5 (D8 l (Ct q) (Cg q)) q=true:=L9.mpr (.inr hB);rw[e];refine⟨J,hw,?_⟩;rcases K6 nd J hw with⟨pQ,e2,h2⟩|⟨iD,e2,h2⟩
  ·rw[e2];exact Mm nd I S
  ·exact(h2 (hB _ (List.mem_cons_self ..))).elim
theorem Ub{F:List Sq}{l:Lay}(I:IsLay F l){s:Bz}(hs:s∈l):s.1∈F/\s.2∈F:=⟨I.pm.mem_iff.mp (A3.mpr ⟨s,hs,.inl rfl⟩),I.pm.mem_iff.mp (A3.mpr ⟨s,hs,.inr rfl⟩)⟩
def Np:SpD:=fun ds G R=>∃q:Sq,ds=[sq q]/\R (.lst ((CL q).map sq)) G
def Ni:SpD:=fun ds G R=>∃(ring:List Sq)(b:Nat),ds=[.lst (ring.map sq),.int b]/\b<=1/\1<=ring.length/\ring.length<=1000/\R (.lst ((Ay ring b).map AU)) G
def Lx:SpD:=fun ds G R=>∃l st:Lay,ds=[lay l,.lst (st.map AU)]/\st.length<=1000/\R (.bl (st.all l.contains)) G
def Ld:SpD:=fun ds G R=>∃(l:Lay)(q:Sq),ds=[lay l,sq q]/\R (.bl (D5 l q)) G
def N5:SpD:=fun ds G R=>∃l:Lay,ds=[lay l]/\l.length<=1000/\R (.lst ((Cn l).map sq)) G
def Tg:SpD:=fun ds G R=>∃(l:Lay)(ring:List Sq),ds=[lay l,.lst (ring.map sq)]/\1<=ring.length/\ring.length<=1000/\l.length<=1000/\R (lay (Cw l ring)) G
theorem X8{ring:List Sq}{k:Nat}(h:k<ring.length):atI (ring.map sq) (k:Int)=some (sq (ring.getD k (0,0))):=by refine EE sq (C7 ?_);rw[List.getD_eq_getElem?_getD,List.getElem?_eq_getElem h];rfl
theorem YK{ring:List Sq}{k:Nat}(h:k<ring.length):atI (ring.map sq) ((k:Int)-1)=some (sq (M7 ring k)):=by
 unfold M7;by_cases h0:k=0
 ·subst h0;rw[if_pos rfl];refine EE sq ?_;unfold atI ixN;rw[if_neg (by lia),if_pos (by lia)];have e:(((0:Nat):Int)-1+(ring.length:Int)).toNat=ring.length-1:=by lia
  have e2:ring[ring.length-1]?=some (ring.getD (ring.length-1) (0,0)):=by
   rw[List.getD_eq_getElem?_getD,List.getElem?_eq_getElem (by lia)];rfl
  show ring[_]?=_;rw[e];exact e2
 ·rw[if_neg h0];have e:((k:Int)-1)=((k-1:Nat):Int):=by lia
  rw[e];exact X8 (by lia)
end TF
namespace TF
section
def sgn(x:Sq):Int:=if (x.1+x.2)%2=0 then 1 else -1
end
section
def crs(l:Lay)(a b:Sq):Int:=if (a,b)∈l then -3 else 1
def V0(l:Lay)(x:Sq):Int:=sgn x*crs l (x.1,x.2-1) x
def H0(l:Lay)(x:Sq):Int:=-(sgn x)*crs l (x.1-1,x.2) x
variable {F:List Sq}{l:Lay}
end
section
variable {F:List Sq}{s:Sq}
def cor(x:Sq):List Sq:=[x,(x.1,x.2+1),(x.1+1,x.2),(x.1+1,x.2+1)]
theorem O9{x y:Sq}:y∈cor x↔y=x\/y=(x.1,x.2+1)\/y=(x.1+1,x.2)\/y=(x.1+1,x.2+1):=by simp[cor]
variable {h:Lay->Sq->Int}{l m:Lay}
end
end TF
namespace TF
open PySem PySem.Spec L2
open PyProof.Rows hiding St RelV
structure Zt (h:Heap) (z TI TO i1 i2 l1 l2:Addr) (f0:Value) (k:Nat) (xs ys:Array Value):Prop where
 hz:IsZip h z TI TO f0
 hI:IsPair h TI (.ref i1) (.ref i2)
 hO:∃a b,IsPair h TO a b
 h1:h.IsTupleIter i1 l1 k
 h2:h.IsTupleIter i2 l2 k
 t1:h.IsTuple l1 xs
 t2:h.IsTuple l2 ys
section
variable {prog:Program}{w:World}{A:Around}{E:Value->Shared->Prop}{s:Shared}{z TI TO i1 i2 l1 l2:Addr}{k:Nat}{xs ys:Array Value}{x y:Value}
theorem LH{Q:Fin->Shared->Prop}(D:ZipApart z TI TO i1 i2 l1 l2)(Z:Zt s.heap z TI TO i1 i2 l1 l2 .none k xs ys)(go:∀h1,IsZip h1 z TI TO .ellipsis->Heap.SameBut z s.heap h1->(match xs[k]? with
   |none=>∀h2 e,Heap.ExtBut i1 h1 h2->(∃o,h2.get? e=some o/\o.cls=.type "StopIteration")->wpAny (model prog w) A (setField (.ref z) 0 .none) (fun _ s'=>E (.ref e) s') E { s with heap:=h2 }
   |some x=>∀h2 h3 b,h2.IsTupleIter i1 l1 (k+1)->Heap.SameBut i1 h1 h2->IsPair h3 TO x b->Heap.SameBut TO h2 h3->(match ys[k]? with
    |none=>∀h4 e,Heap.ExtBut i2 h3 h4->(∃o,h4.get? e=some o/\o.cls=.type "StopIteration")->wpAny (model prog w) A (setField (.ref z) 0 .none) (fun _ s'=>E (.ref e) s') E { s with heap:=h4 }
    |some y=>∀h4 h5,h4.IsTupleIter i2 l2 (k+1)->Heap.SameBut i2 h3 h4->IsPair h5 TO x y->Heap.SameBut TO h4 h5 →
      wpAny (model prog w) A (do let result <-newTuple [x,y];Builtin.SmallTypes.ownedTupleHandOut (.ref z) result;ret result) Q E { s with heap:=h5 })))(hh:A.handled=none):wpAny (model prog w) A (Builtin.«zip.__next__» ⟨[.ref z],[]⟩) Q E s:=by
 obtain⟨a,b,hO⟩:=Z.hO;have hz:=Z.hz;show wpAny _ _ (field (.ref z) 2 >>= _) _ _ _;refine wpAny_bind (wpAny_field hz rfl (x:=.bool false) rfl ?_);show wpAny _ _ (field (.ref z) 3 >>= _) _ _ _;refine wpAny_bind (wpAny_field hz rfl (x:=.ref TI) rfl (wpAny_bind (wpAny_seqItems Z.hI rfl ?_)));show wpAny _ _ (Builtin.SmallTypes.ownedTupleIsFree (.ref z) >>= _) _ _ _;refine wpAny_bind ?_;unfold Builtin.SmallTypes.ownedTupleIsFree;refine wpAny_bind (wpAny_field hz rfl (x:=.none) rfl (wpAny_pure ?_));simp only[if_true];refine wpAny_bind (wpAny_rule (wpAny_bind (wpAny_field hz rfl (x:=.ref TO) rfl (wpAny_bind (wpAny_setField_rec hz (by simp) fun h1 Wc s1=>wpAny_bind ?_)))));replace Wc:IsZip h1 z TI TO .ellipsis:=Wc;have G:=go h1 Wc s1;have a1:h1.IsTupleIter i1 l1 k:=Z.h1.at fun o e=>s1.extBut _ o D.i1z e;have a2:h1.IsTuple l1 xs:=Z.t1.extBut s1.extBut D.l1z;have a3:IsPair h1 TO a b:=s1.extBut _ _ D.TOz hO;simp only[List.zipIdx_cons,List.zipIdx_nil,List.forIn_cons,List.forIn_nil];refine wpAny_bind (wpAny_bind (wpAny_onRaise ?_));show wpAny _ _ (Builtin.SmallTypes.nextOf (.ref i1) >>= _) _ _ _;cases hx:xs[k]? with
 |none=>
  rw[hx]at G;exact wpAny_bind (NF hh a1 a2 hx fun h2 e s2 he=>G h2 e s2 he)
 |some x=>
  rw[hx]at G;refine wpAny_bind (LZ a1 a2 hx fun h2 b1 s2=>wpAny_pure ?_);have b3:IsPair h2 TO a b:=s2.extBut _ _ D.TOi1 a3;refine wpAny_bind (wpAny_seqItems b3 rfl (wpAny_bind (wpAny_updateSeq_pair b3 fun h3 c3 s3=>wpAny_bind (wpAny_letGo (wpAny_pure ?_)))));replace c3:IsPair h3 TO x b:=c3;have G2:=G h2 h3 b b1 s2 c3 s3;refine wpAny_bind (wpAny_bind (wpAny_onRaise ?_));show wpAny _ _ (Builtin.SmallTypes.nextOf (.ref i2) >>= _) _ _ _;have e1:h3.IsTupleIter i2 l2 k:=Z.h2.at fun o e=>s3.extBut _ o D.TOi2.symm (s2.extBut _ o D.i12.symm (s1.extBut _ o D.i2z e));have e2:h3.IsTuple l2 ys:=((Z.t2.extBut s1.extBut D.l2z).extBut s2.extBut D.l2i1).extBut s3.extBut D.l2TO;cases hy:ys[k]? with
  |none=>
   rw[hy]at G2;exact wpAny_bind (NF hh e1 e2 hy fun h4 e s4 he=>G2 h4 e s4 he)
  |some y=>
   rw[hy]at G2;refine wpAny_bind (LZ e1 e2 hy fun h4 d1 s4=>wpAny_pure ?_);have d3:IsPair h4 TO x b:=s4.extBut _ _ D.TOi2 c3;refine wpAny_bind (wpAny_seqItems d3 rfl (wpAny_bind (wpAny_updateSeq_pair d3 fun h5 f3 s5=>wpAny_bind (wpAny_letGo (wpAny_pure (wpAny_pure ?_))))));replace f3:IsPair h5 TO x y:=f3;exact wpAny_bind (wpAny_seqItems f3 rfl (G2 h4 h5 d1 s4 f3 s5))
theorem U5{Q:Option Value->Shared->Prop}(hh:A.in1.handled=none)(D:ZipApart z TI TO i1 i2 l1 l2)(Z:Zt s.heap z TI TO i1 i2 l1 l2 .none k xs ys)(hx:xs[k]?=some x)(hy:ys[k]?=some y)(hQ:∀h',Zt h' z TI TO i1 i2 l1 l2 (rawInt s.heap.objs.size) (k+1) xs ys->IsPair h' s.heap.objs.size x y->(∀c o,c≠z->c≠TO->c≠i1->c≠i2->s.heap.get? c=some o->h'.get? c=some o)->Q (some (.ref s.heap.objs.size)) { s with heap:=h' }) :
  wpAny (model prog w) A (pyNext (.ref z)) Q E s:=by
 have hT:s.TypeIs (.ref z) "zip":=⟨_,Z.hz,rfl⟩;unfold pyNext;refine wpAny_bind (wpAny_attempt (wpAny_callSpecial?_slot (name:=Str.ofString "__next__") hT F.slot_zip_next (wpAny_call_entry F.slot_zip_next hT F.entry_zip_next ?_ (F.args_zip_next_1 _))));refine LH D Z (fun h1 Wc s1=>?_) hh;rw[hx];intro h2 h3 b b1 s2 c3 s3;rw[hy];intro h4 h5 d1 s4 f3 s5;have hsz:h5.objs.size=s.heap.objs.size:=by rw[s5.1,s4.1,s3.1,s2.1,s1.1]
 have nz:IsZip h5 z TI TO .ellipsis:=s5.extBut _ _ D.TOz.symm (s4.extBut _ _ D.i2z.symm (s3.extBut _ _ D.TOz.symm (s2.extBut _ _ D.i1z.symm Wc)));have k5:∀c o,c≠z->c≠TO->c≠i1->c≠i2->s.heap.get? c=some o->h5.get? c=some o:=fun c o c1 c2 c3 c4 e=>s5.extBut _ _ c2 (s4.extBut _ _ c4 (s3.extBut _ _ c2 (s2.extBut _ _ c3 (s1.extBut _ _ c1 e))));have g1:h5.IsTupleIter i1 l1 (k+1):=b1.at fun o e=>s5.extBut _ o D.TOi1.symm (s4.extBut _ o D.i12 (s3.extBut _ o D.TOi1.symm e));have g2:h5.IsTupleIter i2 l2 (k+1):=d1.at fun o e=>s5.extBut _ o D.TOi2.symm e;have zl:z<h5.objs.size:=Heap.lt_size nz;refine wpAny_bind (wpAny_newTuple (wpAny_bind ?_));unfold Builtin.SmallTypes.ownedTupleHandOut;have rp:IsZip (h5.push { cls:=.type "tuple",data:=.seq #[x,y] }) z TI TO .ellipsis:=Heap.get?_push_of_some _ nz;refine wpAny_bind (wpAny_setField_rec rp (by simp) fun h7 mJ s7=>?_);replace mJ:IsZip h7 z TI TO (rawInt h5.objs.size):=mJ;refine wpAny_setField_rec mJ (by simp) fun h8 je s8=>?_;replace je:IsZip h8 z TI TO (rawInt h5.objs.size):=je;have up:∀c o,c≠z->h5.get? c=some o->h8.get? c=some o:=fun c o c1 e=>s8.extBut _ _ c1 (s7.extBut _ _ c1 (Heap.get?_push_of_some _ e));have m8:IsPair h8 h5.objs.size x y:=s8.extBut _ _ (Nat.ne_of_gt zl) (s7.extBut _ _ (Nat.ne_of_gt zl) (Heap.get?_push_size _ rfl));rw[hsz]at je m8;refine wpAny_pure ⟨_,rfl,wpAny_pure ?_⟩;show Q (some (.ref h5.objs.size)) _;rw[hsz];have kk:∀c o,c≠z->c≠TO->c≠i1->c≠i2->s.heap.get? c=some o->h8.get? c=some o:=fun c o c1 c2 c3 c4 e=>up c o c1 (k5 c o c1 c2 c3 c4 e);refine hQ h8 ⟨je,kk _ _ D.TIz D.TITO D.TIi1 D.TIi2 Z.hI,⟨x,y,up _ _ D.TOz f3⟩,g1.at fun o e=>up _ o D.i1z e,g2.at fun o e=>up _ o D.i2z e,Z.t1.at fun o e=>kk _ o D.l1z D.l1TO D.l1i1 D.l1i2 e,Z.t2.at fun o e=>kk _ o D.l2z D.l2TO D.l2i1 D.l2i2 e⟩ m8 kk
theorem Xb{Q:Option Value->Shared->Prop}(hh:A.in1.handled=none)(D:ZipApart z TI TO i1 i2 l1 l2)(Z:Zt s.heap z TI TO i1 i2 l1 l2 .none k xs ys)(l8:xs[k]?=none\/ys[k]?=none)(hQ:∀h',(∀c o,c≠z->c≠TO->c≠i1->c≠i2->s.heap.get? c=some o->h'.get? c=some o)->Q none { s with heap:=h' }):wpAny (model prog w) A (pyNext (.ref z)) Q E s:=by
 have hT:s.TypeIs (.ref z) "zip":=⟨_,Z.hz,rfl⟩;unfold pyNext;refine wpAny_bind (wpAny_attempt (wpAny_callSpecial?_slot (name:=Str.ofString "__next__") hT F.slot_zip_next (wpAny_call_entry F.slot_zip_next hT F.entry_zip_next ?_ (F.args_zip_next_1 _))));refine LH D Z (fun h1 Wc s1=>?_) hh;cases hx:xs[k]? with
 |none=>
  intro h2 e s2 ⟨oe,dS,gC⟩;have gf:IsZip h2 z TI TO .ellipsis:=s2 _ _ D.i1z.symm Wc;have j9:e≠z:=fun x=>by subst x;rw[gf]at dS;cases dS;simp at gC
  refine wpAny_setField_rec gf (by simp) fun h3 _ s3=>?_;refine wpAny_bind (wpAny_isInstance (T:="StopIteration") (b:=true) ⟨oe,s3.extBut _ _ j9 dS,gC⟩ isSubtype_stop (wpAny_pure (hQ h3 fun c o c1 _ c3 _ x=>?_)));exact s3.extBut _ _ c1 (s2 _ _ c3 (s1.extBut _ _ c1 x))
 |some x=>
  have hy:ys[k]?=none:=by rcases l8 with h|h;rw[hx]at h;cases h;exact h
  intro h2 h3 b b1 s2 c3 s3;rw[hy];intro h4 e s4 ⟨oe,dS,gC⟩;have pH:IsZip h4 z TI TO .ellipsis:=s4 _ _ D.i2z.symm (s3.extBut _ _ D.TOz.symm (s2.extBut _ _ D.i1z.symm Wc));have j9:e≠z:=fun x=>by subst x;rw[pH]at dS;cases dS;simp at gC
  refine wpAny_setField_rec pH (by simp) fun h5 _ s5=>?_;refine wpAny_bind (wpAny_isInstance (T:="StopIteration") (b:=true) ⟨oe,s5.extBut _ _ j9 dS,gC⟩ isSubtype_stop (wpAny_pure (hQ h5 fun c o c1 c2 c3 c4 x=>?_)));exact s5.extBut _ _ c1 (s4 _ _ c4 (s3.extBut _ _ c2 (s2.extBut _ _ c3 (s1.extBut _ _ c1 x))))
end
abbrev zO(I O:Addr):Obj:={ cls:=.type "zip",data:=.fields #[.none,.bool false,.bool false,.ref I,.ref O] }
abbrev prO(a b:Value):Obj:={ cls:=.type "tuple",data:=.seq #[a,b] }
abbrev zq2(h:Heap)(a b:Addr):Heap:=(h.push (tiO a)).push (tiO b)
abbrev zq3(h:Heap)(a b:Addr):Heap:=(zq2 h a b).push (prO (.ref h.objs.size) (.ref (h.push (tiO a)).objs.size))
abbrev zq4(h:Heap)(a b:Addr):Heap:=(zq3 h a b).push (prO .none .none)
abbrev zq5(h:Heap)(a b:Addr):Heap:=(zq4 h a b).push (zO (zq2 h a b).objs.size (zq3 h a b).objs.size)
theorem Rj(a b:Addr)(xs ys:Array Value) :
  Meets (Builtin.«zip.__new__» ⟨[.type "zip",.ref a,.ref b],[]⟩) (fun _ R s=>s.heap.IsTuple a xs/\s.heap.IsTuple b ys/\R (.ok (.ret (.ref (zq4 s.heap a b).objs.size))) { s with heap:=zq5 s.heap a b }):=
 .of_wp fun prog w A R s h=>by
  obtain⟨hp,g,d,tk,os⟩:=s;obtain⟨t1,t2,h⟩:=h;have L6:=sub_zip;have q1:Heap.IsTuple (Shared.heap ⟨hp,g,d,tk,os⟩) a xs:=t1;have q2:Heap.IsTuple (Shared.heap ⟨hp.push (tiO a),g,d,tk,os⟩) b ys:=Heap.IsTuple.push t2 _;wp_walk using wpAny_pyIter_tuple q1,wpAny_pyIter_tuple q2;exact⟨_,rfl,h⟩
section
variable {prog:Program}{w:World}{A:Around}{E:Value->Shared->Prop}{s:Shared}
theorem VP{a b:Addr}{xs ys:Array Value}{Q:Value->Shared->Prop}(t1:s.heap.IsTuple a xs)(t2:s.heap.IsTuple b ys)(h:∀h',Zt h' (s.heap.objs.size+4) (s.heap.objs.size+2) (s.heap.objs.size+3) s.heap.objs.size (s.heap.objs.size+1) a b .none 0 xs ys->(∀c o,s.heap.get? c=some o->h'.get? c=some o)->Q (.ref (s.heap.objs.size+4)) { s with heap:=h' }) :
  wpAny (model prog w) A (call (.type "zip") [.ref a,.ref b]) Q E s:=by
 refine callType_new F.called_zip (by decide) (F.typeCall_zip_2 _ _) (F.newCall_zip_2 _ _) (fun obj=>F.args_object_init_3 obj _ _) F.entry_zip_new (Rj a b xs ys) ⟨t1,t2,?_⟩;have z1:(s.heap.push (tiO a)).objs.size=s.heap.objs.size+1:=Heap.size_push ..;have z2:(zq2 s.heap a b).objs.size=s.heap.objs.size+2:=by rw[Heap.size_push,z1]
 have z3:(zq3 s.heap a b).objs.size=s.heap.objs.size+3:=by rw[Heap.size_push,z2]
 have z4:(zq4 s.heap a b).objs.size=s.heap.objs.size+4:=by rw[Heap.size_push,z3]
 have g5:(zq5 s.heap a b).get? (zq4 s.heap a b).objs.size=some (zO (zq2 s.heap a b).objs.size (zq3 s.heap a b).objs.size):=Heap.get?_push_size _ rfl;have g4:(zq5 s.heap a b).get? (zq3 s.heap a b).objs.size=some (prO .none .none):=Heap.get?_push_of_some _ (Heap.get?_push_size _ rfl);have g3:(zq5 s.heap a b).get? (zq2 s.heap a b).objs.size=some (prO (.ref s.heap.objs.size) (.ref (s.heap.push (tiO a)).objs.size)):=Heap.get?_push_of_some _ (Heap.get?_push_of_some _ (Heap.get?_push_size _ rfl));have g2:(zq5 s.heap a b).get? (s.heap.push (tiO a)).objs.size=some (tiO b):=Heap.get?_push_of_some _ (Heap.get?_push_of_some _ (Heap.get?_push_of_some _ (Heap.get?_push_size _ rfl)));have g1:(zq5 s.heap a b).get? s.heap.objs.size=some (tiO a):=Heap.get?_push_of_some _ (Heap.get?_push_of_some _ (Heap.get?_push_of_some _ (Heap.get?_push_of_some _ (Heap.get?_push_size _ rfl))));have kp:∀c o,s.heap.get? c=some o->(zq5 s.heap a b).get? c=some o:=fun c o e=>Heap.get?_push_of_some _ (Heap.get?_push_of_some _ (Heap.get?_push_of_some _ (Heap.get?_push_of_some _ (Heap.get?_push_of_some _ e))));show _/\_;rw[z2,z3,z4]at g5;rw[z1,z2]at g3;rw[z3]at g4;rw[z1]at g2;rw[z4];exact⟨⟨_,g5,rfl⟩,h _ ⟨g5,g3,⟨_,_,g4⟩,⟨_,g1,rfl,rfl⟩,⟨_,g2,rfl,rfl⟩,t1.at fun o e=>kp _ o e,t2.at fun o e=>kp _ o e⟩ kp⟩
end
def Itz(K:PySem.W.Frag)(a b:Addr):It:=⟨fun i H=>∃xs ys x y,SqT K H a xs/\SqT K H b ys/\xs[i]?=some x/\ys[i]?=some y,fun i H v H'=>∃x y T,H T=none/\v=.ref T/\H'=upd H T (.tup [x,y])/\(∀xs,SqT K H a xs->xs[i]?=some x)/\∀ys,SqT K H b ys->ys[i]?=some y,
  fun i H=>∃xs ys,SqT K H a xs/\SqT K H b ys/\(xs.length<=i\/ys.length<=i)⟩
def Zs(z TI TO i1 i2 l1 l2:Addr)(i:Nat)(h:Heap):Prop:=IsZip h z TI TO .none/\IsPair h TI (.ref i1) (.ref i2)/\(∃a b,IsPair h TO a b)/\h.IsTupleIter i1 l1 i/\h.IsTupleIter i2 l2 i
theorem Xw{P:Program}{w:World}{K:PySem.W.Frag}{elts:List Expr}{x1:Nat}{pos:Pos}{z TI TO i1 i2 a b:Addr}(D:ZipApart z TI TO i1 i2 a b):Turn P w K (.Tuple elts x1 pos) (Itz K a b) [z,TI,TO,i1,i2] z (Zs z TI TO i1 i2 a b) where
 mem:=by simp
 obj:=fun i h st c hc=>by
  obtain⟨s1,s2,⟨x,y,s3⟩,⟨o4,s4,c4,d4⟩,⟨o5,s5,c5,d5⟩⟩:=st;simp only[List.mem_cons,List.not_mem_nil,or_false]at hc;rcases hc with rfl|rfl|rfl|rfl|rfl
  ·exact⟨_,s1,fun v z=>by cases z⟩
  ·exact⟨_,s2,fun v z=>by cases z⟩
  ·exact⟨_,s3,fun v z=>by cases z⟩
  ·exact⟨o4,s4,fun v z=>by rw[d4]at z;cases z⟩
  ·exact⟨o5,s5,fun v z=>by rw[d5]at z;cases z⟩
 keep:=fun i h h' st k=>by
  obtain⟨s1,s2,⟨x,y,s3⟩,s4,s5⟩:=st;exact⟨k z (by simp) _ s1,k TI (by simp) _ s2,⟨x,y,k TO (by simp) _ s3⟩,s4.at fun o e=>k i1 (by simp) o e,s5.at fun o e=>k i2 (by simp) o e⟩
 item:=by
  intro X hP hw hK hc i AD s σ H E I hf st hg;subst hP hw hK;obtain⟨xs,ys,x,y,jf,jS,hx,hy⟩:=hg;obtain⟨fR,jL,p1,Wc⟩:=I.tuple jf;obtain⟨Ju,jc,p2,gf⟩:=I.tuple jS;obtain⟨u1,fN,pP⟩:=jL.get hx;obtain⟨u2,RS,qb⟩:=jc.get hy;obtain⟨s1,s2,s3,s4,s5⟩:=st;refine U5 (by simpa using I.ok.hd hc) D ⟨s1,s2,s3,s4,s5,p1,p2⟩ (by simpa using fN) (by simpa using RS) fun h1 Z1 hT hk=>?_;refine⟨_,rfl,wpAny_letOwnedTupleGo_zip (s:={ s with heap:=h1 }) Z1.hz fun h2 lL sb=>?_⟩;have RD:∀c o,c≠z->h1.get? c=some o->h2.get? c=some o:=fun c o hb q=>sb.extBut c o hb q;have fq:H s.heap.objs.size=none:=I.hok.fresh (Nat.le_refl _);have jZ:z<s.heap.objs.size:=Heap.lt_size s1;have Iq:∀c o,c∉[z,TI,TO,i1,i2]->s.heap.get? c=some o->h2.get? c=some o:=fun c o hm q=>by
   simp only[List.mem_cons,List.not_mem_nil,or_false,not_or]at hm;exact RD c o hm.1 (hk c o hm.1 hm.2.2.1 hm.2.2.2.1 hm.2.2.2.2 q)
  have Ys:∀c o,H c=some o->c∉[z,TI,TO,i1,i2]:=fun c o q hm=>by
   have:=(hf c hm).1
   rw[q]at this;cases this
  have un:Un (frs X.stack) [z,TI,TO,i1,i2] H (upd H s.heap.objs.size (.tup [x,y])) s.heap h2:=by
   refine⟨fun c o q n hb hc=>Iq c o hc q,fun c o q n hb hc=>⟨o.slots,Iq c o hc q⟩,fun c o q n hc=>?_,fun c o q hc=>⟨o,Iq c o hc q⟩,fun c ys q=>?_,fun c o v q=>?_,fun c ps q=>⟨#[],?_⟩⟩
   ·rw[Al (Nat.ne_of_lt (Heap.lt_size q))];exact n
   ·rw[Al (A9 q fq)];exact q
   ·rw[Al (A9 q fq)];exact q
   ·rw[Al (A9 q fq),q];simp
  have hok:HOk X.prog X.w (upd H s.heap.objs.size (.tup [x,y])) h2:=fun c v q=>by
   by_cases hb:c=s.heap.objs.size
   ·subst hb;rw[BJ]at q;cases q;exact⟨by show 2<=sizeLine;rw[sizeLine_eq];decide,[u1,u2],.cons pP (.cons qb .nil),_,RD _ _ (Nat.ne_of_gt jZ) hT,rfl,_,rfl⟩
   ·rw[Al hb]at q;refine(I.hok c v q).stay (fun e o hc r=>?_) (fun e r=>by rw[Al (A9 r fq)];exact r) fun e ys r=>by rw[Al (A9 r fq)];exact r
    rcases hc with rfl|hc
    ·exact Iq _ o (Ys _ _ q) r
    ·exact Iq e o (Ys _ _ hc) r
  have I1:Inv X AD σ (upd H s.heap.objs.size (.tup [x,y])) { s with heap:=h2 }:=I.call' (s':={ s with heap:=h2 }) rfl un hok I.bare fun c hb=>by
   have:=hf c hb
   exact⟨this.2.2.2.1,this.2.1,this.2.2.2.2.1,this.2.2.2.2.2⟩
  refine⟨.ref s.heap.objs.size,_,I1,rfl,⟨x,y,_,fq,rfl,rfl,fun zs dO=>by rw[I.tuple_inj dO jf];exact hx,fun zs dO=>by rw[I.tuple_inj dO jS];exact hy⟩,⟨lL,RD _ _ D.TIz Z1.hI,?_,Z1.h1.at fun o e=>RD _ o D.i1z e,Z1.h2.at fun o e=>RD _ o D.i2z e⟩,fun c hb=>?_⟩
  ·obtain⟨a',b',e⟩:=Z1.hO;exact⟨a',b',RD _ _ D.TOz e⟩
  ·have A6:c<s.heap.objs.size:=by
    simp only[List.mem_cons,List.not_mem_nil,or_false]at hb;obtain⟨a',b',s3⟩:=s3;obtain⟨o4,s4,_⟩:=s4;obtain⟨o5,s5,_⟩:=s5;rcases hb with rfl|rfl|rfl|rfl|rfl
    ·exact Heap.lt_size s1
    ·exact Heap.lt_size s2
    ·exact Heap.lt_size s3
    ·exact Heap.lt_size s4
    ·exact Heap.lt_size s5
   rw[Al (Nat.ne_of_lt A6)];exact(hf c hb).1
 done:=by
  intro X hP hw hK hc i AD s σ H E I hf st hg;subst hP hw hK;obtain⟨xs,ys,jf,jS,dq⟩:=hg;obtain⟨fR,jL,p1,Wc⟩:=I.tuple jf;obtain⟨Ju,jc,p2,gf⟩:=I.tuple jS;obtain⟨s1,s2,s3,s4,s5⟩:=st;have l1:=jL.length;have l2:=jc.length;refine Xb (by simpa using I.ok.hd hc) D ⟨s1,s2,s3,s4,s5,p1,p2⟩ (dq.imp (fun h=>by simp;lia) fun h=>by simp;lia) fun h' hk=>⟨rfl,?_⟩;have Iq:∀c o,c∉[z,TI,TO,i1,i2]->s.heap.get? c=some o->h'.get? c=some o:=fun c o hm q=>by
   simp only[List.mem_cons,List.not_mem_nil,or_false,not_or]at hm;exact hk c o hm.1 hm.2.2.1 hm.2.2.2.1 hm.2.2.2.2 q
  have Ys:∀c o,H c=some o->c∉[z,TI,TO,i1,i2]:=fun c o q hm=>by
   have:=(hf c hm).1
   rw[q]at this;cases this
  refine I.call' (s':={ s with heap:=h' }) rfl ⟨fun c o q n hb hc=>Iq c o hc q,fun c o q n hb hc=>⟨o.slots,Iq c o hc q⟩,fun c o q n hc=>n,fun c o q hc=>⟨o,Iq c o hc q⟩,fun c ys q=>q,fun c o v q=>q,fun c ps q=>⟨#[],by rw[q];simp⟩⟩ (fun c v q=>?_) I.bare fun c hb=>?_
  ·refine(I.hok c v q).stay (fun e o hc r=>?_) (fun e r=>r) fun e ys r=>r;rcases hc with rfl|hc
   ·exact Iq _ o (Ys _ _ q) r
   ·exact Iq e o (Ys _ _ hc) r
  ·have:=hf c hb
   exact⟨this.2.2.2.1,this.2.1,this.2.2.2.2.1,this.2.2.2.2.2⟩
 self:=fun A i s Q E st h=>wpAny_pyIter_zip st.1 h
def MJ(l m:List Dat):List Dat:=(l.zip m).map fun p=>.tup [p.1,p.2]
theorem XY{l m:List Dat}{i:Nat}{d:Dat}(h:(MJ l m)[i]?=some d):∃x y,l[i]?=some x/\m[i]?=some y/\d=.tup [x,y]:=by unfold MJ at h;rw[List.getElem?_map]at h;obtain⟨p,hp,rfl⟩:=Option.map_eq_some_iff.mp h;rw[List.getElem?_zip_eq_some]at hp;exact⟨p.1,p.2,hp.1,hp.2,rfl⟩
theorem dH{K:PySem.W.Frag}{G:Gs}{l m:List Dat}{H:Hp}{a b:Addr}{vs ws:List V}(h1:SqT K (hid H G) a vs)(r1:RepL K (hid H G) l vs)(h2:SqT K (hid H G) b ws)(r2:RepL K (hid H G) m ws):Wk K (Itz K a b) H G (MJ l m):=by
 intro H' G' e;have PD:=Av AK (Av e.hid h1);have RW:=Av AK (Av e.hid h2);refine⟨fun i d hd=>?_,vs,ws,PD,RW,?_⟩
 ·obtain⟨x,y,hx,hy,rfl⟩:=XY hd;obtain⟨v,hv,rv⟩:=r1.get hx;obtain⟨u,hu,ru⟩:=r2.get hy;refine⟨⟨vs,ws,v,u,PD,RW,hv,hu⟩,fun xx ZE hh=>?_⟩;obtain⟨x',y',T,hT,rfl,rfl,g1,g2⟩:=hh;have e1:=g1 vs PD;have e2:=g2 ws RW;rw[hv]at e1;rw[hu]at e2;cases e1;cases e2;refine⟨Ext.alloc hT,fun o=>o.alloc hT,fun o=>?_⟩;rw[Rep];exact⟨T,[v,u],rfl,SqT.of (Fn (o.free hT) BJ),RepL.cons ((rv.same e.hid).same (Ext.alloc hT).hid) (RepL.cons ((ru.same e.hid).same (Ext.alloc hT).hid) RepL.nil)⟩
 ·have l1:=r1.length;have l2:=r2.length;unfold MJ;rw[List.length_map,List.length_zip,l1,l2];lia
section
variable {X:Cx}{ρ:Rho}{G:Gs}{a b:Expr}{l m:List Dat}{pos p1:Pos}{elts:List Expr}{x1:Nat}{j7:Pos}
theorem dG{Q:List Dat->Gs->Prop}(hm:X.mg "zip"=none)(ha:PX X ρ G a (.tup l))(hb:PX X ρ G b (.tup m))(q:Q (MJ l m) G)(hg:Gl X "zip":=by rfl)(he:starEach [a,b] X.env=(false,eval a X.env)::starEach [b] X.env:=by rfl)(he2:starEach [b] X.env=(false,eval b X.env)::starEach [] X.env:=by rfl)(hpl:(backTo pos (starEach [b] X.env)).any (·.1)=false:=by rfl):WI X ρ G (.Tuple elts x1 j7) (.Call (.Name "zip" p1) [a,b] [] pos) Q:=by
 intro AD s σ H I S;refine wpAny_Call_Name_kw (Ff I hg hm (by decide +kernel:bootBuiltins "zip"=some (.type "zip")) ?_ (by decide) (by decide));have Oj:PXs X ρ G [a,b] [.tup l,.tup m]:=AB ha (AB hb AE he2) he;refine PyProof.Rows.callWith_type1 (thn (Oj pos AD s σ H I S) fun us s1 ⟨vs,H1,I1,rv,d',G1,e1,o1,rep,q1,q2⟩=>?_) he hpl;subst q1;subst q2;rw[RepL]at rep;obtain⟨v1,r1,rfl,ra,rep⟩:=rep;rw[RepL]at rep;obtain⟨v2,r2,rfl,rb,rep⟩:=rep;rw[RepL]at rep;subst rep;rw[Rep]at ra rb;obtain⟨pa,as,rfl,h1,g1⟩:=ra;obtain⟨pb,bs,rfl,h2,g2⟩:=rb;obtain⟨u1,u2,rfl,p8,rC⟩:=M0 rv;cases p8;cases rC;obtain⟨fR,jL,oU,Wc⟩:=I1.tuple (Av AK h1);obtain⟨Ju,jc,nU,gf⟩:=I1.tuple (Av AK h2);have la:pa<s1.heap.objs.size:=by obtain⟨o,ho,_⟩:=oU;exact Heap.lt_size ho
 have lb:pb<s1.heap.objs.size:=by obtain⟨o,ho,_⟩:=nU;exact Heap.lt_size ho
 refine VP (show s1.heap.IsTuple pa fR.toArray from oU) (show s1.heap.IsTuple pb Ju.toArray from nU) fun h' Z hk=>?_;refine wpAny_pyIter_zip (s:={ s1 with heap:=h' }) Z.hz ?_;have D:=zipApart_new la lb;refine⟨s1.heap.objs.size+4,[s1.heap.objs.size+4,s1.heap.objs.size+2,s1.heap.objs.size+3,s1.heap.objs.size,s1.heap.objs.size+1],_,_,H1,rfl,I1.kept (t':=s1.toks) hk,Xw D,⟨Z.hz,Z.hI,Z.hO,Z.h1,Z.h2⟩,fun c hc=>?_,MJ l m,G1,e1,o1,dH h1 g1 h2 g2,q⟩;have hle:s1.heap.objs.size<=c:=by
  simp only[List.mem_cons,List.not_mem_nil,or_false]at hc;rcases hc with rfl|rfl|rfl|rfl|rfl
  ·exact Nat.le_add_right _ 4
  ·exact Nat.le_add_right _ 2
  ·exact Nat.le_add_right _ 3
  ·exact Nat.le_refl _
  ·exact Nat.le_add_right _ 1
 exact I1.fpOk hle (I1.hok.fresh hle)
end
section
variable {X:Cx}{ρ:Rho}{G:Gs}{e a b:Expr}{d d1 d2:Dat}{l m:List Dat}{pos:Pos}{i j k:Int}{p:Addr}{D:DE}{RX:Value->Gs->Prop}{rest:List Stmt}
theorem aN(hG:G p=some (.lst l))(ha:PX X ρ G a (.fn p))(hb:PX X ρ G b (.lst m))(hz:l.length+m.length<=sizeLine):PX X ρ G (.BinOp a .Add b pos) (.lst (l++m)):=J7 SO ha hb fun H x y Q o hx hy kk=>by
  cases (show x=V.ref p from hx);obtain⟨vs,h1,r1⟩:=o p _ hG;rw[Rep]at hy;obtain⟨q,us,rfl,h2,r2⟩:=hy;exact⟨p,q,vs,us,rfl,rfl,h1,AK _ _ h2,by rw[r1.length,r2.length];exact hz,fun t ht=>kk _ _ (HW o ht (r1.append r2))⟩
end
section
open AutoSeq1 (wpAny_loadPart')
theorem gJ(l:Addr)(items:Array Value)(n:Nat)(b:Addr)(Bv:Array Value)(n2:Nat)(dct:Option Addr)(sl:Array (Option Value))(ft:¬(!items.isEmpty&&Builtin.List.listTooLong (items.size+Bv.size))=true)(KY:items.size<=sizeLine)(MT:items.size+Bv.size<=sizeLine+1) :
  Meets (Builtin.«list.extend» ⟨[.ref l,.ref b],[]⟩) (fun _ R s=>s.heap.get? l=some { cls:=.type "list",dict:=none,data:=.seq items n,slots:=#[] }/\s.heap.get? b=some { cls:=.type "tuple",dict:=dct,data:=.seq Bv n2,slots:=sl }/\R (.ok (.ret Value.none)) { s with heap:=s.heap.update l (Obj.mapSeq fun x=>x++Bv),toks:=s.toks }):=
 .of_wp fun prog w A R s h=>by
  obtain⟨hp,g,d,tk,os⟩:=s;obtain⟨hl,hb,h⟩:=h;have f1:=AutoSeq1.idx_int;have f2:=AutoSeq1.sub_tuple_tuple;have f3:=AutoSeq1.sub_list_list;have f4:=AutoSeq1.sub_tuple_list;have f5:=AutoSeq1.sub_list_tuple;have gu:(items++Bv).size<=sizeLine+1:=by rw[Array.size_append];exact MT
  wp_walk using(wpAny_updateSeq hl rfl (hz:=KY) (_hz':=gu)),wpAny_loadPart' hl,wpAny_loadPart' hb;exact⟨_,rfl,h⟩
end
section
variable {X:Cx}{ρ:Rho}{G:Gs}{e a:Expr}{l m:List Dat}{pos:Pos}{D:DE}{rest:List Stmt}
def gN(K:PySem.W.Frag):V->List V->Hp->VK->Prop:=fun x vs H Q=>∃l b xs zs,x=.ref l/\vs=[.ref b]/\H l=some (.lst xs)/\SqT K H b zs/\xs.length+zs.length<=sizeLine/\Q .non (upd H l (.lst (xs++zs)))
theorem ZM:MtM X "list.extend" (gN X.K):=by
 intro AD s σ H x vs v us Q I rx rv h;obtain⟨l,b,xs,zs,rfl,rfl,hH,hB,hz,q⟩:=h;cases rx;obtain⟨u,rfl,ru⟩:=rv.one;cases ru;obtain⟨z,AY,n,r,hl,e⟩:=I.lstM hH;obtain⟨Ju,r2,p2,z2⟩:=I.tuple hB;obtain⟨⟨cls,dd,data,sl⟩,ho,hc,n2,hd⟩:=id p2;simp only at hc hd;subst hc hd;have l2:=r2.length;have hsz:AY.toArray.size+Ju.toArray.size<=sizeLine:=by rw[List.size_toArray,List.size_toArray,<-hl,<-l2];exact hz
 refine call_meets F.slot_list_extend ⟨_,e,rfl⟩ F.entry_list_extend (F.args_list_extend_2 _ _) (gJ l AY.toArray n b Ju.toArray n2 dd sl (by rw[Yo hsz,Bool.and_false];exact Bool.false_ne_true) (by lia) (by lia)) ⟨e,ho,?_⟩;refine⟨.non,_,I.lset (its':=AY++Ju) hH e (by simp) (r.append r2) ?_,rfl,q⟩;rw[List.length_append];exact hz
theorem Q5{p:Addr}{apos Aq:Pos}(hx:PX X ρ G a (.fn p))(h:PX X ρ G e (.tup m))(hG:G p=some (.lst l))(hz:l.length+m.length<=sizeLine)(q:WSs X ρ (put G p (.lst (l++m))) rest D)(C9:attributeBase a "extend" X.env (eval a X.env)=eval a X.env:=by rfl)(CV:(apos.endLine==Aq.line)=true:=by rfl)(he:starEach [e] X.env=(false,eval e X.env)::starEach [] X.env:=by rfl)(SR:((backTo Aq (starEach [e] X.env)).all (fun x=>!x.1)&&(backToKw Aq (keywordEach [] X.env)).all (fun x=>x.1.isSome)&&decide (([e]:List Expr).length+([]:List Keyword).length+(if ([]:List Keyword).isEmpty then 0 else 1)<30))=true:=by rfl)(hs:swapsWith (.Call (.Attribute a "extend" apos) [e] [] Aq) none pos.line X.env=pure false:=by rfl):WSs X ρ G (.Expr (.Call (.Attribute a "extend" apos) [e] [] Aq) pos::rest) D:=BP (KP (Ij (bW PySem.F.plainAttrs_list PySem.F.slot_list_extend PySem.F.type_list_extend ZM Ax (BG Ax Cb he) C9 SR CV he rfl) hs) fun σ H S=>⟨ρ,G,_,hx,S,fun x H1 ⟨_,_,e1,o1,r1,q1,BX⟩=>by
  subst q1;subst BX;cases (show x=V.ref p from r1);obtain⟨cV,h1,_⟩:=o1 p _ hG;refine⟨.inl ⟨rfl,cV,SqL.of h1⟩,ρ,_,_,h,S.ext e1 o1,fun y H2 ⟨_,_,e2,o2,r2,q2,FQ⟩=>?_⟩;subst q2;subst FQ;obtain⟨vs,h2,r3⟩:=o2 p _ hG;rw[Rep]at r2;obtain⟨b,zs,rfl,h4,r4⟩:=r2;refine⟨p,b,vs,zs,rfl,rfl,h2,Av AK h4,by rw[r3.length,r4.length];exact hz,?_⟩;obtain⟨E,O⟩:=HV o2 hG (r3.append r4);exact⟨ρ,_,(e1.trans e2).trans E,S.ext ((e1.trans e2).trans E) O,q⟩⟩)
end
def aD(l:List Dat):Bool:=(l.zip (l.drop 1)).all fun p=>Cq true p.1 p.2
def Ph:SpD:=fun ds G R=>∃l:List Dat,ds=[.tup l]/\l.length<=1000/\(∀p∈l.zip (l.drop 1),CN 9 p.1 p.2=true/\AJ 9 p.1=true/\AJ 9 p.2=true)/\R (.bl (aD l)) G
theorem Xh:∀F:List Sq,aD (F.map sq)=true↔F.Pairwise AQ
 |[]=>⟨fun _=>.nil,fun _=>rfl⟩
 |[a]=>⟨fun _=>List.pairwise_singleton _ _,fun _=>rfl⟩
 |a::b::r=>by
  have ih:=Xh (b::r);have e:aD ((a::b::r).map sq)=(Cq true (sq a) (sq b)&&aD ((b::r).map sq)):=rfl;rw[e,Bool.and_eq_true,ih,Sg,decide_eq_true_eq,List.pairwise_cons (l:=b::r)];constructor
  ·rintro⟨h1,h2⟩;refine⟨fun c hc=>?_,h2⟩;rcases List.mem_cons.mp hc with rfl|hc
   ·exact h1
   ·exact BH h1 ((List.pairwise_cons.mp h2).1 c hc)
  ·rintro⟨h1,h2⟩;exact⟨h1 b (List.mem_cons_self ..),h2⟩
theorem aG(F:List Sq):∀p∈(F.map sq).zip ((F.map sq).drop 1),CN 9 p.1 p.2=true/\AJ 9 p.1=true/\AJ 9 p.2=true:=by intro p hp;obtain⟨h1,h2⟩:=List.of_mem_zip (a:=p.1) (b:=p.2) hp;obtain⟨x,_,e1⟩:=List.mem_map.mp h1;obtain⟨y,_,e2⟩:=List.mem_map.mp (List.mem_of_mem_drop h2);rw[<-e1,<-e2];exact⟨rfl,AZ x 8,AZ y 8⟩
theorem RepL.rev{K:PySem.W.Frag}{H:Hp}:∀{ds:List Dat}{vs:List V},RepL K H ds vs->RepL K H ds.reverse vs.reverse
 |[],vs,h=>by rw[RepL]at h;subst h;exact RepL.nil
 |d::ds,vs,h=>by
  rw[RepL]at h;obtain⟨v,r,rfl,h1,h2⟩:=h;rw[List.reverse_cons,List.reverse_cons];exact(RepL.rev h2).append (RepL.cons h1 RepL.nil)
def Mr:SpD:=fun ds G R=>∃l:Lay,ds=[lay l]/\l.length<=1000/\R (.lst ((TSq.sort (Aj l)).map sq)) G
section
variable {X:Cx}{ρ:Rho}{G:Gs}{e a b c:Expr}{d d1 d2:Dat}{l:List Dat}{pos:Pos}{p:Addr}{D:DE}{rest:List Stmt}
theorem Qx{apos Aq:Pos}(hx:PX X ρ G a (.fn p))(hG:G p=some (.lst l))(q:WSs X ρ (put G p (.lst l.reverse)) rest D)(C9:attributeBase a "reverse" X.env (eval a X.env)=eval a X.env:=by rfl)(CV:(apos.endLine==Aq.line)=true:=by rfl)(hs:swapsWith (.Call (.Attribute a "reverse" apos) [] [] Aq) none pos.line X.env=pure false:=by rfl):WSs X ρ G (.Expr (.Call (.Attribute a "reverse" apos) [] [] Aq) pos::rest) D:=BP (KP (Ij (RM PySem.F.plainAttrs_list PySem.F.slot_list_reverse PySem.F.type_list_reverse SJ Ax C9 CV) hs) fun σ H S=>⟨ρ,G,_,hx,S,fun x H1 ⟨_,_,e1,o1,r1,q1,BX⟩=>by
  subst q1;subst BX;cases (show x=V.ref p from r1);obtain⟨vs,h1,r2⟩:=o1 p _ hG;refine⟨.inl ⟨rfl,vs,SqL.of h1⟩,p,vs,rfl,rfl,h1,?_⟩;obtain⟨E,O⟩:=HV o1 hG r2.rev;exact⟨ρ,_,e1.trans E,S.ext (e1.trans E) O,q⟩⟩)
end
theorem Ko(l:Lay):B1 6 (lay l)=true:=by simp only[B1,lay];rw[List.all_eq_true];intro d hd;obtain⟨p,_,rfl⟩:=List.mem_map.mp hd;rfl
end TF
namespace TF
section
variable {F:List Sq}{h:Lay->Sq->Int}{l m:Lay}
def apart(h:Lay->Sq->Int)(K:List Sq)(l m:Lay):Nat:=(K.map fun y=>(h l y-h m y).natAbs).sum
variable {K:List Sq}
def KH(c:Sq):List (Sq×Sq×Sq):=[((c.1-1,c.2),(c.1-1,c.2-1),(c.1-1,c.2)),((c.1,c.2-1),(c.1,c.2-1),(c.1-1,c.2-1)),((c.1,c.2+1),(c.1-1,c.2),(c.1,c.2)),((c.1+1,c.2),(c.1,c.2),(c.1,c.2-1))]
def M4(F:List Sq)(l:Lay)(a b:Sq):Bool:=(F.contains a||F.contains b)&&!l.contains (Dl a b,D4 a b)
def EK(F:List Sq)(l:Lay)(c:Sq):List (Sq×Int):=((KH c).filter fun t=>M4 F l t.2.1 t.2.2).map fun t=>(t.1,sgn t.2.1)
theorem V9{c y:Sq}{v:Int}:(y,v)∈EK F l c ↔
  (y=(c.1-1,c.2)/\v=sgn (c.1-1,c.2-1)/\((c.1-1,c.2-1)∈F\/(c.1-1,c.2)∈F)/\((c.1-1,c.2-1),(c.1-1,c.2))∉l) ∨
  (y=(c.1,c.2-1)/\v=sgn (c.1,c.2-1)/\((c.1,c.2-1)∈F\/(c.1-1,c.2-1)∈F)/\((c.1-1,c.2-1),(c.1,c.2-1))∉l) ∨
  (y=(c.1,c.2+1)/\v=sgn (c.1-1,c.2)/\((c.1-1,c.2)∈F\/(c.1,c.2)∈F)/\((c.1-1,c.2),(c.1,c.2))∉l) ∨
  (y=(c.1+1,c.2)/\v=sgn (c.1,c.2)/\((c.1,c.2)∈F\/(c.1,c.2-1)∈F)/\((c.1,c.2-1),(c.1,c.2))∉l):=by
 have a1:¬AQ (c.1-1,c.2) (c.1-1,c.2-1):=by unfold AQ;dsimp only;lia
 have a2:AQ (c.1-1,c.2-1) (c.1-1,c.2):=by unfold AQ;dsimp only;lia
 have b1:AQ (c.1-1,c.2-1) (c.1,c.2-1):=by unfold AQ;dsimp only;lia
 have b2:¬AQ (c.1,c.2-1) (c.1-1,c.2-1):=by unfold AQ;dsimp only;lia
 have c1:¬AQ (c.1,c.2) (c.1-1,c.2):=by unfold AQ;dsimp only;lia
 have c2:AQ (c.1-1,c.2) (c.1,c.2):=by unfold AQ;dsimp only;lia
 have d1:AQ (c.1,c.2-1) (c.1,c.2):=by unfold AQ;dsimp only;lia
 have d2:¬AQ (c.1,c.2) (c.1,c.2-1):=by unfold AQ;dsimp only;lia
 unfold EK KH;simp only[List.mem_map,List.mem_filter,List.mem_cons,List.not_mem_nil,or_false,M4,Bool.and_eq_true,Bool.or_eq_true,Bool.not_eq_true',List.contains_eq_mem,decide_eq_true_eq,decide_eq_false_iff_not,Prod.mk.injEq];constructor
 ·rintro⟨t,⟨ht,hf,hl⟩,e1,e2⟩;subst e1 e2;rcases ht with rfl|rfl|rfl|rfl
  ·simp only[Dl,D4,if_neg a1,if_pos a2]at hl;exact .inl ⟨rfl,rfl,hf,hl⟩
  ·simp only[Dl,D4,if_pos b1,if_neg b2]at hl;exact .inr (.inl ⟨rfl,rfl,hf,hl⟩)
  ·simp only[Dl,D4,if_neg c1,if_pos c2]at hl;exact .inr (.inr (.inl ⟨rfl,rfl,hf,hl⟩))
  ·simp only[Dl,D4,if_pos d1,if_neg d2]at hl;exact .inr (.inr (.inr ⟨rfl,rfl,hf,hl⟩))
 ·rintro(⟨rfl,rfl,hf,hl⟩|⟨rfl,rfl,hf,hl⟩|⟨rfl,rfl,hf,hl⟩|⟨rfl,rfl,hf,hl⟩)
  ·exact⟨_,⟨.inl rfl,hf,by simp only[Dl,D4,if_neg a1,if_pos a2];exact hl⟩,rfl,rfl⟩
  ·exact⟨_,⟨.inr (.inl rfl),hf,by simp only[Dl,D4,if_pos b1,if_neg b2];exact hl⟩,rfl,rfl⟩
  ·exact⟨_,⟨.inr (.inr (.inl rfl)),hf,by simp only[Dl,D4,if_neg c1,if_pos c2];exact hl⟩,rfl,rfl⟩
  ·exact⟨_,⟨.inr (.inr (.inr rfl)),hf,by simp only[Dl,D4,if_pos d1,if_neg d2];exact hl⟩,rfl,rfl⟩
theorem Ve{c:Sq}{p:Sq×Int}(hp:p∈EK F l c):∃x∈F,p.1∈cor x:=by obtain⟨y,v⟩:=p;obtain⟨r,c⟩:=c;rcases V9.mp hp with⟨rfl,rfl,hf,hl⟩|⟨rfl,rfl,hf,hl⟩|⟨rfl,rfl,hf,hl⟩|⟨rfl,rfl,hf,hl⟩<;>rcases hf with hf|hf<;>refine⟨_,hf,O9.mpr ?_⟩<;>simp
theorem Yc(gd:Good F):F.headD (0,0)∈F:=by
 cases F with
 |nil=>exact absurd rfl gd.ne
 |cons a r=>exact List.mem_cons_self ..
def JL(F:List Sq):List Sq:=(Ie 0 0 9 9).filter fun y=>F.any fun x=>(cor x).contains y
theorem Q1(gd:Good F){y:Sq}:y∈JL F↔∃x∈F,y∈cor x:=by
 unfold JL;rw[List.mem_filter,Zl,List.any_eq_true];simp only[List.contains_eq_mem,decide_eq_true_eq];refine⟨fun h=>h.2,fun h=>⟨?_,h⟩⟩;obtain⟨x,hx,hy⟩:=h
 have:=gd.inn x hx
 rcases O9.mp hy with rfl|rfl|rfl|rfl<;>(try simp only)<;>lia
theorem WK(F:List Sq):(JL F).length<=81:=by
 have:=List.length_filter_le (fun y=>F.any fun x=>(cor x).contains y) (Ie 0 0 9 9)
 rw[Oi]at this;exact this
end
theorem cv{P:Nat->Prop}(h:∃n,P n):∃n,P n/\∀m,m<n->¬P m:=by
 obtain⟨n,hn⟩:=h
 induction n using Nat.strongRecOn with
 |ind n ih=>
  by_cases h:∃m,m<n/\P m
  ·obtain⟨m,hm,hp⟩:=h;exact ih m hm hp
  ·exact⟨n,hn,fun m hm hp=>h ⟨m,hm,hp⟩⟩
structure InvP {α:Type} (F:List α) (c:α->Bool) (p:α->α):Prop where
 mem:∀x∈F,p x∈F
 inv:∀x∈F,p (p x)=x
 col:∀x∈F,c (p x)=!c x
section
variable {α:Type} [DecidableEq α] {F:List α}{c:α->Bool}{p q:α->α}{s:α}
def itG(p q:α->α)(s:α):Nat->α
 |0=>s
 |n+1=>q (p (itG p q s n))
def Hb(p q:α->α)(s:α)(k:Nat):List α:=(List.range k).map (itG p q s)
def B5(p q:α->α)(s:α)(k:Nat):List α:=(Hb p q s k).flatMap fun x=>[x,p x]
structure Per (p q:α->α) (s:α) (k:Nat):Prop where
 pos:0<k
 back:itG p q s k=s
 min:∀m,0<m->m<k->itG p q s m≠s
theorem ET(hp:InvP F c p)(hq:InvP F c q)(hs:s∈F):∀n,itG p q s n∈F
 |0=>hs
 |n+1=>hq.mem _ (hp.mem _ (ET hp hq hs n))
theorem Wj(hp:InvP F c p)(hq:InvP F c q)(hs:s∈F):∀n,c (itG p q s n)=c s
 |0=>rfl
 |n+1=>by
  have h:=ET hp hq hs n;show c (q (p (itG p q s n)))=c s;rw[hq.col _ (hp.mem _ h),hp.col _ h,Bool.not_not,Wj hp hq hs n]
theorem Z0(hp:InvP F c p)(hq:InvP F c q)(hs:s∈F){i j:Nat}(e:itG p q s (i+1)=itG p q s (j+1)):itG p q s i=itG p q s j:=by
 have h1:=ET hp hq hs i;have h2:=ET hp hq hs j;have e1:q (p (itG p q s i))=q (p (itG p q s j)):=e;have e2:=congrArg q e1;rw[hq.inv _ (hp.mem _ h1),hq.inv _ (hp.mem _ h2)]at e2;have e3:=congrArg p e2
 rwa [hp.inv _ h1,hp.inv _ h2]at e3
theorem Su(hp:InvP F c p)(hq:InvP F c q)(hs:s∈F):∀(i d:Nat),itG p q s i=itG p q s (i+d)->itG p q s d=s
 |0,d,e=>by rw[Nat.zero_add]at e;exact e.symm
 |i+1,d,e=>Su hp hq hs i d (Z0 hp hq hs (by rw[e];congr 1;lia))
theorem dY(hp:InvP F c p)(hq:InvP F c q)(hs:s∈F):∃k,Per p q s k:=by
 have h:∃k,0<k/\itG p q s k=s:=by
  refine Classical.byContradiction fun no=>?_;have nd:(Hb p q s (F.length+1)).Nodup:=by
   unfold Hb List.Nodup;rw[List.pairwise_map];refine List.pairwise_lt_range.imp fun {i j} pv e=>?_;refine no ⟨j-i,by lia,Su hp hq hs i (j-i) ?_⟩;rw[e];congr 1;lia
  have:=BD nd (m:=F) fun x hx=>by
   obtain⟨i,_,rfl⟩:=List.mem_map.mp hx;exact ET hp hq hs i
  unfold Hb at this;rw[List.length_map,List.length_range]at this;lia
 obtain⟨k,⟨h1,h2⟩,h3⟩:=cv h;exact⟨k,h1,h2,fun m hm hk e=>h3 m hk ⟨hm,e⟩⟩
theorem df(hp:InvP F c p)(hq:InvP F c q)(hs:s∈F){k:Nat}(hk:Per p q s k):(Hb p q s k).Nodup:=by
 have e:Hb p q s k=(List.range k).map (itG p q s):=rfl;rw[e];unfold List.Nodup;rw[List.pairwise_map];have pw:(List.range k).Pairwise fun a b=>a<b/\b<k:=by
  refine List.Pairwise.imp_of_mem (R:=fun a b=>a<b) (fun {a b} ha hb h=>⟨h,List.mem_range.mp hb⟩) List.pairwise_lt_range
 refine pw.imp fun {i j} pv e=>?_;refine hk.min (j-i) (by lia) (by lia) (Su hp hq hs i (j-i) ?_);rw[e];congr 1;lia
theorem Fg{k:Nat}{x:α}:x∈Hb p q s k↔∃i,i<k/\itG p q s i=x:=by unfold Hb;simp only[List.mem_map,List.mem_range]
theorem Ki(hp:InvP F c p)(hq:InvP F c q)(hs:s∈F){k:Nat}{x:α}(h:x∈Hb p q s k):x∈F/\c x=c s:=by obtain⟨i,_,rfl⟩:=Fg.mp h;exact⟨ET hp hq hs i,Wj hp hq hs i⟩
theorem Yi{p:α->α}(hp:InvP F c p){b:Bool}:∀{l:List α},l.Nodup->(∀x∈l,x∈F/\c x=b)->(l.flatMap fun x=>[x,p x]).Nodup
 |[],_,_=>.nil
 |a::l,nd,h=>by
  obtain⟨n1,n2⟩:=List.nodup_cons.mp nd;have ih:=Yi hp n2 fun x hx=>h x (List.mem_cons_of_mem _ hx);obtain⟨ha,ca⟩:=h a (List.mem_cons_self ..);have jN:=hp.col a ha;have qi:a≠p a:=fun e=>by rw[<-e]at jN;cases hh:c a<;>rw[hh]at jN<;>cases jN
  have key:∀y,(y=a\/y=p a)->y∉l.flatMap fun x=>[x,p x]:=by
   intro y hy hm;obtain⟨x,hx,R8⟩:=List.mem_flatMap.mp hm;obtain⟨nq,cx⟩:=h x (List.mem_cons_of_mem _ hx);have qF:=hp.col x nq;have d:c a≠c (p x):=fun e=>by rw[qF,ca,cx]at e;cases b<;>cases e
   have d2:c x≠c (p a):=fun e=>by rw[jN,ca,cx]at e;cases b<;>cases e
   simp only[List.mem_cons,List.not_mem_nil,or_false]at R8;rcases hy with rfl|rfl<;>rcases R8 with e|e
   ·exact n1 (e▸hx)
   ·exact d (congrArg c e)
   ·exact d2 (congrArg c e).symm
   ·have:=congrArg p e
    rw[hp.inv _ ha,hp.inv _ nq]at this;exact n1 (this▸hx)
  show(a::p a::l.flatMap fun x=>[x,p x]).Nodup;rw[List.nodup_cons,List.nodup_cons];refine⟨?_,key _ (.inr rfl),ih⟩;intro hm;rcases List.mem_cons.mp hm with e|e
  ·exact qi e
  ·exact key _ (.inl rfl) e
theorem Uq(hp:InvP F c p)(hq:InvP F c q)(hs:s∈F){k:Nat}(hk:Per p q s k):(B5 p q s k).Nodup:=Yi hp (df hp hq hs hk) fun _ h=>Ki hp hq hs h
theorem DC{k:Nat}{x:α}:x∈B5 p q s k↔∃y∈Hb p q s k,x=y\/x=p y:=by unfold B5;simp only[List.mem_flatMap,List.mem_cons,List.not_mem_nil,or_false]
theorem Xe{k:Nat}(hk:Per p q s k){x:α}(h:x∈Hb p q s k):q (p x)∈Hb p q s k:=by
 obtain⟨i,hi,rfl⟩:=Fg.mp h;rw[Fg];by_cases e:i+1<k
 ·exact⟨i+1,e,rfl⟩
 ·refine⟨0,hk.pos,?_⟩;have:i+1=k:=by lia
  have h2:=hk.back;rw[<-this]at h2;exact h2.symm
theorem YT(hp:InvP F c p)(hq:InvP F c q)(hs:s∈F){k:Nat}(hk:Per p q s k){x:α}(h:x∈Hb p q s k):∃y∈Hb p q s k,q x=p y:=by
 obtain⟨i,hi,rfl⟩:=Fg.mp h;have hm:=fun j=>hp.mem _ (ET hp hq hs j);cases i with
 |succ j=>exact⟨itG p q s j,Fg.mpr ⟨j,by lia,rfl⟩,hq.inv _ (hm j)⟩
 |zero=>
  obtain⟨j,rfl⟩:∃j,k=j+1:=⟨k-1,by have:=hk.pos;lia⟩;refine⟨itG p q s j,Fg.mpr ⟨j,by lia,rfl⟩,?_⟩;have h2:q (p (itG p q s j))=s:=hk.back;have h3:=congrArg q h2;rw[hq.inv _ (hm j)]at h3;exact h3.symm
theorem Pc(hp:InvP F c p)(hq:InvP F c q)(hs:s∈F){k:Nat}{x:α}(h:x∈B5 p q s k):x∈F:=by
 obtain⟨y,hy,rfl|rfl⟩:=DC.mp h
 ·exact(Ki hp hq hs hy).1
 ·exact hp.mem _ (Ki hp hq hs hy).1
theorem cn(hp:InvP F c p)(hq:InvP F c q)(hs:s∈F){k:Nat}{x:α}(h:x∈B5 p q s k):p x∈B5 p q s k:=by
 obtain⟨y,hy,rfl|rfl⟩:=DC.mp h
 ·exact DC.mpr ⟨x,hy,.inr rfl⟩
 ·rw[hp.inv _ (Ki hp hq hs hy).1];exact DC.mpr ⟨y,hy,.inl rfl⟩
theorem eN(hp:InvP F c p)(hq:InvP F c q)(hs:s∈F){k:Nat}(hk:Per p q s k){x:α}(h:x∈B5 p q s k):q x∈B5 p q s k:=by
 obtain⟨y,hy,rfl|rfl⟩:=DC.mp h
 ·obtain⟨z,hz,e⟩:=YT hp hq hs hk hy;exact DC.mpr ⟨z,hz,.inr e⟩
 ·exact DC.mpr ⟨_,Xe hk hy,.inl rfl⟩
theorem Xx(hp:InvP F c p)(hq:InvP F c q)(hs:s∈F){k:Nat}{S:List α}(cp:∀x∈S,p x∈S)(cq:∀x∈S,q x∈S)(hn:s∉S){x:α}(h:x∈B5 p q s k):x∉S:=by
 have key:∀i,itG p q s i∉S:=by
  intro i
  induction i with
  |zero=>exact hn
  |succ i ih=>
   intro hm;have hi:=ET hp hq hs i;have h1:=cq _ hm;have e:q (itG p q s (i+1))=p (itG p q s i):=hq.inv _ (hp.mem _ hi);rw[e]at h1;have h2:=cp _ h1;rw[hp.inv _ hi]at h2;exact ih h2
 obtain⟨y,hy,e⟩:=DC.mp h;obtain⟨i,_,rfl⟩:=Fg.mp hy;rcases e with rfl|rfl
 ·exact key i
 ·intro hm
  have:=cp _ hm
  rw[hp.inv _ (ET hp hq hs i)]at this;exact key i this
theorem Px(k:Nat):(B5 p q s k).length=2*k:=by
 unfold B5 Hb;rw[List.length_flatMap,List.map_map]
 induction k with
 |zero=>rfl
 |succ k ih=>
  rw[List.range_succ,List.map_append,List.sum_append,ih];show _+([2]:List Nat).sum=_;simp;lia
theorem Vu(k:Nat):B5 p q s (k+1)=B5 p q s k++[itG p q s k,p (itG p q s k)]:=by unfold B5 Hb;rw[List.range_succ,List.map_append,List.flatMap_append];rfl
end
def Z8(x:Sq):Bool:=(x.1+x.2)%2==0
theorem aM{x y:Sq}(h:y∈nbM x):Z8 y=!Z8 x:=by obtain⟨a,b⟩:=x;simp only[nbM,List.mem_cons,List.not_mem_nil,or_false]at h;unfold Z8;rw[Bool.eq_iff_iff];simp only[beq_iff_eq,Bool.not_eq_true',beq_eq_false_iff_ne,ne_eq];rcases h with rfl|rfl|rfl|rfl<;>simp only<;>lia
def pfM(l:Lay)(x:Sq):Sq:=match l.find? fun s=>s.1==x||s.2==x with
 |some s=>if s.1=x then s.2 else s.1
 |none=>x
section
variable {F:List Sq}{l m:Lay}
theorem bq(nd:F.Nodup)(I:IsLay F l){s:Bz}(hs:s∈l):pfM l s.1=s.2/\pfM l s.2=s.1:=by
 have ne:s.1≠s.2:=fun e=>by have:=(I.st s hs).1;rw[e]at this;exact AW _ this
 have key:∀x,x=s.1\/x=s.2->l.find? (fun s=>s.1==x||s.2==x)=some s:=by
  intro x hx;cases h:l.find? (fun s=>s.1==x||s.2==x)with
  |none=>
   have:=List.find?_eq_none.mp h s hs
   rcases hx with rfl|rfl<;>simp at this
  |some t=>
   have h1:=List.find?_some h;have h2:=List.mem_of_find?_eq_some h;have h3:x=t.1\/x=t.2:=by
    simp only[Bool.or_eq_true,beq_iff_eq]at h1;rcases h1 with h1|h1
    ·exact .inl h1.symm
    ·exact .inr h1.symm
   rw[O6 nd I h2 hs h3 hx]
 unfold pfM;rw[key _ (.inl rfl),key _ (.inr rfl)];exact⟨if_pos rfl,if_neg ne⟩
theorem G6(nd:F.Nodup)(I:IsLay F l):InvP F Z8 (pfM l):=by
 have key:∀x∈F,∃s∈l,(x=s.1\/x=s.2):=fun x hx=>A3.mp (I.pm.mem_iff.mpr hx);refine⟨fun x hx=>?_,fun x hx=>?_,fun x hx=>?_⟩<;>obtain⟨s,hs,h⟩:=key x hx<;>have h2:=bq nd I hs
 ·rcases h with rfl|rfl
  ·rw[h2.1];exact(Ub I hs).2
  ·rw[h2.2];exact(Ub I hs).1
 ·rcases h with rfl|rfl
  ·rw[h2.1,h2.2]
  ·rw[h2.2,h2.1]
 ·have e:=aM (I.st s hs).2;rcases h with rfl|rfl
  ·rw[h2.1];exact e
  ·rw[h2.2,e,Bool.not_not]
end
end TF
namespace TF
open PySem PySem.Spec L2
open PyProof.Rows hiding St RelV
section
variable {X:Cx}{ρ:Rho}{G:Gs}{e a b c:Expr}{d d1 d2:Dat}{l:List Dat}{pos:Pos}{x y:Sq}{p:Addr}
theorem Wb{Q:Dat->Gs->Prop}(h:PX X ρ G e (.fn p))(hG:G p=some (.lst l))(q:Q (.lst l) (rel G p)):WE X ρ G e Q:=fun AD s σ H I S=>thn (h AD s σ H I S) fun v s1 z=>EP.mono z fun x H1 ⟨_,_,e1,o1,r1,q1,BX⟩=>by
  subst q1;subst BX;cases (show x=V.ref p from r1);obtain⟨E,O,R⟩:=Il o1 hG;exact⟨_,_,e1.trans E,O,R,q⟩
end
def pdM(l:Lay):List (Dat×Dat):=(Aj l).map fun q=>(sq q,sq (pfM l q))
theorem HP{F:List Sq}{l:Lay}(I:IsLay F l){x:Sq}(hx:x∈F):Ac (pdM l) (sq x)=some (sq (pfM l x)):=by unfold pdM;rw[L7 (Aj l) (fun q=>sq (pfM l q)) x,if_pos (I.pm.mem_iff.mpr hx)]
theorem YL{L:List Sq}{l:Lay}{x:Sq}(h:x∉L){d:Dat}(hd:d=sq (pfM l x)):DM (L.map fun q=>(sq q,sq (pfM l q))) (sq x) d=(L++[x]).map fun q=>(sq q,sq (pfM l q)):=by
 rw[K3,List.map_append,hd]
 ·rfl
 ·rw[L7 L (fun q=>sq (pfM l q)) x,if_neg h]
def Gx(r:List Sq):Dat:=.lst (r.map sq)
def NZ(T:List (List Sq)):Dat:=.lst (T.map Gx)
def L3:SpD:=fun ds G R=>∃(F:List Sq)(l:Lay),ds=[lay l]/\F.Nodup/\F.length<=24/\IsLay F l/\∀p,G p=none->R (.fn p) (put G p (.dct (pdM l)))
def LO:SpD:=fun ds G R=>∃(F:List Sq)(l m:Lay)(s:Sq)(p1 p2:Addr),ds=[sq s,.fn p1,.fn p2]/\F.Nodup/\F.length<=24/\IsLay F l/\IsLay F m/\s∈F/\G p1=some (.dct (pdM l))/\G p2=some (.dct (pdM m))/\∀k,Per (pfM l) (pfM m) s k->R (Gx (B5 (pfM l) (pfM m) s k)) G
theorem Ku{F:List Sq}(nd:F.Nodup){l m:Lay}(I:IsLay F l)(J:IsLay F m){s:Sq}{k:Nat}(hs:s∈F)(hk:Per (pfM l) (pfM m) s k):(B5 (pfM l) (pfM m) s k).length<=F.length:=BD (Uq (G6 nd I) (G6 nd J) hs hk) fun x hx=>Pc (G6 nd I) (G6 nd J) hs hx
section
variable {prog:Program}{w:World}{A:Around}{E:Value->Shared->Prop}{s:Shared}{it d:Addr}{od:Obj}{es:Array DictEntry}{i ep:Nat}
def itO(x y:Value)(d:Addr)(i n ep:Nat)(u v:Value):Obj:={ cls:=.type "dict_itemiterator",dict:=none,data:=.fields #[x,y,.ref d,.int i 0,.int n 0,.int ep 0,u,v],slots:=#[] }
theorem YO{x y u v:Value}{n:Nat}(hit:s.heap.get? it=some (itO x y d i n ep u v)):s.TypeIs (.ref it) "dict_itemiterator":=⟨_,hit,rfl⟩
theorem aA{x y u v:Value}{Q:Option Value->Shared->Prop}(hit:s.heap.get? it=some (itO x y d i es.size ep u v))(PV:s.heap.get? d=some od)(Fx:od.data=.dict es ep)(hi:i<es.size)(h:∀h1,h1.get? it=some (itO x y d (i+1) es.size ep u v)->Heap.SameBut it s.heap h1->∀(A':Around)(E':Value->Shared->Prop),wpAny (model prog w) A' (Builtin.Dict_items.pairFromOwner (.ref it) 6 es[i].key es[i].val) (fun r s'=>Q (some r) s') E' { s with heap:=h1 }) :
  wpAny (model prog w) A (pyNext (.ref it)) Q E s:=by
 have ty:=YO hit;have own:Builtin.Dict_items.ownsTuple "dict_itemiterator"=true:=by decide
 unfold pyNext;refine wpAny_bind (wpAny_attempt (wpAny_callSpecial?_slot (name:=Str.ofString "__next__") ty F.slot_dict_itemiterator_next (wpAny_call_entry F.slot_dict_itemiterator_next ty F.entry_dict_itemiterator_next ?_ (F.args_dict_itemiterator_next_1 _))));refine wpAny_bind (wpAny_pure (wpAny_bind (wpAny_bind ?_)));refine wpAny_bind (wpAny_typeNameOfWhole_itemiter ty (wpAny_pure (wpAny_bind (wpAny_fieldsOf hit rfl ?_))));simp only[own,if_true];show wpAny _ _ (if (Value.ref d==Value.none)=true then _ else _) _ _ _;rw[if_neg (show ¬(Value.ref d==Value.none)=true from nofun)];refine wpAny_bind (wpAny_pure (wpAny_bind (wpAny_dictEntries PV Fx ?_)));rw[if_neg (by simp)];refine wpAny_bind (wpAny_pure (wpAny_bind (wpAny_dictEpoch PV Fx ?_)));rw[if_neg (by simp)];refine wpAny_pure ?_;simp only[show ¬((i:Int)<0) by lia,if_false,Int.toNat_natCast,Array.getElem?_eq_getElem hi];refine wpAny_bind (wpAny_bind (wpAny_typeNameOfWhole_itemiter ty (wpAny_pure (wpAny_bind (wpAny_isOneOf_itemiter ty ?_)))));show wpAny _ _ (setField (.ref it) 3 (rawInt ((i:Int)+1)) >>= _) _ _ _;refine wpAny_bind (wpAny_setField_rec hit (by simp) fun h1 g1 k1=>?_);have g2:h1.get? it=some (itO x y d (i+1) es.size ep u v):=by
  have e:((i+1:Nat):Int)=(i:Int)+1:=by lia
  unfold itO;rw[e];simpa[rawInt]using g1
 have nr:Shared.TypeIs { s with heap:=h1 } (.ref it) "dict_itemiterator":=⟨_,g2,rfl⟩;refine wpAny_bind (wpAny_holding (wpAny_bind (wpAny_isOneOf_itemiter nr (wpAny_bind (wpAny_isOneOf_itemiter nr ?_)))));refine wpAny_mono (h h1 g2 k1 _ _) (fun r s' q=>?_) (fun _ _ z=>z);exact wpAny_pure ⟨_,rfl,wpAny_pure q⟩
def ItS(h:Heap)(it d:Addr)(i n ep:Nat):Prop:=∃x y u v,h.get? it=some (itO x y d i n ep u v)/\(x=.none\/∃(a:Addr)(oa:Obj),x=rawInt a/\h.get? a=some oa/\it<a)/\∃b,y=.bool b
theorem Wl{key val:Value}{n:Nat}{Q:Value->Shared->Prop}(hs:ItS s.heap it d i n ep)(h:∀h',ItS h' it d i n ep->h'.get? s.heap.objs.size=some { cls:=.type "tuple",data:=.seq #[key,val] }->h'.objs.size=s.heap.objs.size+1->(∀b o,b≠it->s.heap.get? b=some o->h'.get? b=some o)->Q (.ref s.heap.objs.size) { s with heap:=h' }) :
  wpAny (model prog w) A (Builtin.Dict_items.pairFromOwner (.ref it) 6 key val) Q E s:=by
 obtain⟨x,y,u,v,hit,hx,b,rfl⟩:=hs;have nP:it<s.heap.objs.size:=Heap.lt_size hit;unfold Builtin.Dict_items.pairFromOwner;refine wpAny_bind (wpAny_newTuple ?_);obtain⟨h2,gT⟩:∃h2,h2=s.heap.push { cls:=.type "tuple",data:=.seq #[key,val] }:=⟨_,rfl⟩;have t2:h2.get? s.heap.objs.size=some { cls:=.type "tuple",data:=.seq #[key,val] }:=by rw[gT];exact Heap.get?_push_size _ rfl
 have z2:h2.objs.size=s.heap.objs.size+1:=by rw[gT,Heap.size_push]
 have k2:∀c o,s.heap.get? c=some o->h2.get? c=some o:=fun c o e=>by rw[gT];exact Heap.get?_push_of_some _ e
 have g2:=k2 _ _ hit;show wpAny _ _ (Builtin.Dict_items.ownedTupleIsFree (.ref it) >>= _) _ _ { s with heap:=s.heap.push { cls:=.type "tuple",data:=.seq #[key,val] } };rw[<-gT];clear gT;have fc:s.heap.objs.size≠it:=Nat.ne_of_gt nP;unfold Builtin.Dict_items.ownedTupleIsFree;rcases hx with rfl|⟨a,oa,rfl,ha,aV⟩
 ·refine wpAny_bind (wpAny_bind (wpAny_field g2 rfl (x:=.none) rfl (wpAny_pure ?_)));simp only[if_true];refine wpAny_bind (wpAny_field g2 rfl (x:=u) rfl (wpAny_bind (wpAny_field g2 rfl (x:=v) rfl ?_)));refine wpAny_bind (wpAny_setField_rec g2 (by simp) fun h3 g3 k3=>wpAny_bind (wpAny_setField_rec g3 (by simp) fun h4 g4 k4=>wpAny_bind (wpAny_setField_rec g4 (by simp) fun h5 g5 k5=>wpAny_bind (wpAny_setField_rec g5 (by simp) fun h6 g6 k6=>?_))));have kk:∀c o,c≠it->h2.get? c=some o->h6.get? c=some o:=fun c o hc e=>k6.extBut c o hc (k5.extBut c o hc (k4.extBut c o hc (k3.extBut c o hc e)));refine wpAny_bind (wpAny_letGo (wpAny_pure (h h6 ⟨rawInt s.heap.objs.size,.bool false,key,val,g6,.inr ⟨_,_,rfl,kk _ _ fc t2,nP⟩,false,rfl⟩ (kk _ _ fc t2) ?_ fun c o hc e=>kk c o hc (k2 c o e))));rw[k6.1,k5.1,k4.1,k3.1];exact z2
 ·have fY:=k2 _ _ ha;refine wpAny_bind (wpAny_bind (wpAny_field g2 rfl (x:=rawInt a) rfl ?_));show wpAny _ _ (loadIfAlive ((a:Int).toNat) >>= _) _ _ _;rw[Int.toNat_natCast];refine wpAny_bind (PySem.W.kdx_alive fY ?_);simp only[Option.isNone_some,Bool.false_eq_true,if_false];refine wpAny_bind (wpAny_field g2 rfl (x:=.bool b) rfl ?_);cases b with
  |true=>
   rw[if_neg (show ¬(Value.bool true != Value.bool true)=true from nofun)];refine wpAny_pure ?_;simp only[Bool.false_eq_true,if_false];exact wpAny_pure (h h2 ⟨_,_,_,_,g2,.inr ⟨a,oa,rfl,fY,aV⟩,true,rfl⟩ t2 z2 fun c o _ e=>k2 c o e)
  |false=>
   rw[if_pos (show(Value.bool false != Value.bool true)=true from rfl)];refine wpAny_bind (wpAny_setField_rec g2 (by simp) fun h3 g3 k3=>wpAny_pure ?_);simp only[Bool.false_eq_true,if_false];refine wpAny_pure (h h3 ⟨_,_,_,_,g3,.inr ⟨a,oa,rfl,k3.extBut _ _ (Nat.ne_of_gt aV) fY,aV⟩,true,rfl⟩ (k3.extBut _ _ fc t2) ?_ fun c o hc e=>k3.extBut c o hc (k2 c o e));rw[k3.1];exact z2
theorem ZY{Q:Option Value->Shared->Prop}(hs:ItS s.heap it d i es.size ep)(PV:s.heap.get? d=some od)(Fx:od.data=.dict es ep)(hi:i<es.size)(Ut:d≠it)(h:∀h',ItS h' it d (i+1) es.size ep->h'.get? s.heap.objs.size=some { cls:=.type "tuple",data:=.seq #[es[i].key,es[i].val] }->h'.objs.size=s.heap.objs.size+1->(∀b o,b≠it->s.heap.get? b=some o->h'.get? b=some o)->Q (some (.ref s.heap.objs.size)) { s with heap:=h' }) :
  wpAny (model prog w) A (pyNext (.ref it)) Q E s:=by
 obtain⟨x,y,u,v,hit,hx,hy⟩:=hs;refine aA hit PV Fx hi fun h1 g1 k1 A' E'=>?_;refine Wl (s:={ s with heap:=h1 }) (i:=i+1) ⟨x,y,u,v,g1,?_,hy⟩ fun h' st t z k=>?_
 ·rcases hx with hx|⟨a,oa,e,ha,aV⟩
  ·exact .inl hx
  ·exact .inr ⟨a,oa,e,k1.extBut a oa (Nat.ne_of_gt aV) ha,aV⟩
 ·have e1:h1.objs.size=s.heap.objs.size:=k1.1;simp only[e1]at t z k ⊢;exact h h' st t z fun b o hb e=>k b o hb (k1.extBut b o hb e)
theorem cW{Q:Option Value->Shared->Prop}(hh:A.handled=none)(hs:ItS s.heap it d i es.size ep)(PV:s.heap.get? d=some od)(Fx:od.data=.dict es ep)(hi:es.size<=i)(h:∀h',Heap.ExtBut it s.heap h'->Q none { s with heap:=h' }):wpAny (model prog w) A (pyNext (.ref it)) Q E s:=by
 obtain⟨x,y,u,v,hit,hx,hy⟩:=hs;have ty:=YO hit;have own:Builtin.Dict_items.ownsTuple "dict_itemiterator"=true:=by decide
 unfold pyNext;refine wpAny_bind (wpAny_attempt (wpAny_callSpecial?_slot (name:=Str.ofString "__next__") ty F.slot_dict_itemiterator_next (wpAny_call_entry F.slot_dict_itemiterator_next ty F.entry_dict_itemiterator_next ?_ (F.args_dict_itemiterator_next_1 _))));refine wpAny_bind (wpAny_pure (wpAny_bind (wpAny_bind ?_)));refine wpAny_bind (wpAny_typeNameOfWhole_itemiter ty (wpAny_pure (wpAny_bind (wpAny_fieldsOf hit rfl ?_))));simp only[own,if_true];show wpAny _ _ (if (Value.ref d==Value.none)=true then _ else _) _ _ _;rw[if_neg (show ¬(Value.ref d==Value.none)=true from nofun)];refine wpAny_bind (wpAny_pure (wpAny_bind (wpAny_dictEntries PV Fx ?_)));rw[if_neg (by simp)];refine wpAny_bind (wpAny_pure (wpAny_bind (wpAny_dictEpoch PV Fx ?_)));rw[if_neg (by simp)];refine wpAny_pure ?_;simp only[show ¬((i:Int)<0) by lia,if_false,Int.toNat_natCast,Array.getElem?_eq_none hi];refine wpAny_bind (wpAny_bind (wpAny_typeNameOfWhole_itemiter ty (wpAny_pure ?_)));show wpAny _ _ (setField (.ref it) 2 .none >>= _) _ _ _;refine wpAny_bind (wpAny_setField hit rfl (by simp) ?_);show wpAny _ _ (newExc (.type "StopIteration") [] >>= _) _ _ _;refine wpAny_bind ?_;simp only[newExc,newTuple];refine wpAny_bind (wpAny_newObj_type ?_ (by size_fits));refine wpAny_bind (m:=firstArgMember _ _) (wpAny_of_eq (a:=Value.none) (by first|rfl|(simp only[firstArgMember];rfl)) (wpAny_newObj_type ?_ (by size_fits)));simp only[raiseNew];refine wpAny_bind (wpAny_handled ?_);rw[show A.in1.handled=none from hh];refine wpAny_bind (wpAny_pure (wpAny_throw (?_:wpAny _ _ _ _ _ _)));refine wpAny_bind (wpAny_isInstance (T:="StopIteration") (b:=true) ⟨_,Heap.get?_push_size _ rfl,rfl⟩ isSubtype_stop (wpAny_pure (h _ (((Heap.SameBut.update ..).extBut.push _).push _))))
theorem ItS.keep{h h':Heap}{S n:Nat}(hs:ItS h it d i n ep)(fg:S<it)(k:∀b o,b≠S->h.get? b=some o->h'.get? b=some o):ItS h' it d i n ep:=by
 obtain⟨x,y,u,v,g,hx,hy⟩:=hs;refine⟨x,y,u,v,k _ _ (Nat.ne_of_gt fg) g,?_,hy⟩;rcases hx with hx|⟨a,oa,e,ha,aV⟩
 ·exact .inl hx
 ·exact .inr ⟨a,oa,e,k _ _ (Nat.ne_of_gt (Nat.lt_trans fg aV)) ha,aV⟩
def Xd(es:Array DictEntry)(lo:Addr)(h:Heap)(as:List Addr):Prop:=as.Pairwise (·<·)/\∀(j:Nat)(a:Addr),as[j]?=some a->lo<a/\∃e,es[j]?=some e/\h.get? a=some { cls:=.type "tuple",data:=.seq #[e.key,e.val] }
def lsO(Az:Array Value)(c:Nat):Obj:={ cls:=.type "list",dict:=none,data:=.seq Az c,slots:=#[] }
theorem X4{S I:Addr}{R:Result->Shared->Prop}{h1:Heap}(hh:A.handled=none)(fg:S<I)(sH:d≠S)(oI:d≠I)(Fx:od.data=.dict es ep)(hn:es.size<=sizeLine)(res:Value)(hR:∀h' Az c as,(∀b o,b≠S->b≠I->h1.get? b=some o->h'.get? b=some o)->h'.get? S=some (lsO Az c)->as.length=es.size->Xd es I h' as->Az.toList=as.map Value.ref->R (.ok (.ret res)) { s with heap:=h' }) :
  ∀(k i:Nat)(h:Heap)(c:Nat)(Az:Array Value)(as:List Addr),es.size-i=k->i<=es.size->ItS h I d i es.size ep->h.get? d=some od->(∀b o,b≠S->b≠I->h1.get? b=some o->h.get? b=some o)->h.get? S=some (lsO Az c)->Az.toList=as.map Value.ref->as.length=i->Xd es I h as →
   codeAny (model prog w) A (.builtin "list.extend.loop" ⟨[.ref S,.ref I,res],[]⟩) R { s with heap:=h }:=by
 have oP:S≠I:=Nat.ne_of_lt fg;intro k
 induction k with
 |zero=>
  intro i h c Az as hk hi st hd keep hS WW hl tu;refine codeAny_builtin F.entry_extend_loop ?_;rw[Around.under_plainId F.plain_extend_loop _];show wpAny _ A.in1 (pyNext (.ref I) >>= _) _ _ { s with heap:=h };refine wpAny_bind (cW (s:={ s with heap:=h }) (A:=A.in1) hh st hd Fx (by lia) fun h' ex=>?_);refine wpAny_pure (hR h' Az c as (fun b o b1 b2 e=>ex b o b2 (keep b o b1 b2 e)) (ex S _ oP hS) (by lia) ⟨tu.1,fun j a hj=>?_⟩ WW);obtain⟨p1,e,p2,p3⟩:=tu.2 j a hj;exact⟨p1,e,p2,ex a _ (Nat.ne_of_gt p1) p3⟩
 |succ k ih=>
  intro i h c Az as hk hi st hd keep hS WW hl tu;have A6:i<es.size:=by lia
  have hsz:Az.size=i:=by rw[<-Array.length_toList,WW,List.length_map,hl]
  have rM:S<h.objs.size:=Heap.lt_size hS;have qw:I<h.objs.size:=by obtain⟨_,_,_,_,g,_⟩:=st;exact Heap.lt_size g
  refine codeAny_builtin F.entry_extend_loop ?_;rw[Around.under_plainId F.plain_extend_loop _];show wpAny _ A.in1 (pyNext (.ref I) >>= _) _ _ { s with heap:=h };refine wpAny_bind (ZY (s:={ s with heap:=h }) st hd Fx A6 oI fun h' AX t z kp=>?_);dsimp only at t z kp ⊢;have Mn:=kp S _ oP hS;have up:∀b o,b≠S->h'.get? b=some o->(h'.update S (Obj.mapSeq fun q=>q.push (Value.ref h.objs.size))).get? b=some o:=fun b o hb e=>(Heap.get?_update_other _ _ (Ne.symm hb)).trans e;show wpAny _ A.in1 (updateSeq S (fun q=>q.push (Value.ref h.objs.size)) >>= _) _ _ { s with heap:=h' };refine wpAny_bind ?_;refine wpAny_updateSeq Mn rfl (wpAny_pure ⟨plainId_quiet F.plain_extend_loop _,ih (i+1) _ _ (Az.push (Value.ref h.objs.size)) (as++[h.objs.size]) (by lia) A6 (AX.keep fg up) (up d _ sH (kp d _ oI hd)) (fun b o b1 b2 e=>up b o b1 (kp b o b2 (keep b o b1 b2 e))) (Heap.get?_update_self _ Mn rfl) (by rw[Array.toList_push,WW,List.map_append];rfl) (by rw[List.length_append,hl];rfl) ?_⟩) (by rw[hsz];lia) (by show(Az.push (Value.ref h.objs.size)).size<=sizeLine+1;rw[Array.size_push,hsz];lia);refine⟨List.pairwise_append.mpr ⟨tu.1,List.pairwise_singleton _ _,fun a ha b hb=>?_⟩,fun j b hj=>?_⟩
  ·rw[List.mem_singleton.mp hb];obtain⟨j,hj⟩:=List.mem_iff_getElem?.mp ha;obtain⟨_,_,_,p3⟩:=tu.2 j a hj;exact Heap.lt_size p3
  rw[List.getElem?_append]at hj;split at hj
  ·obtain⟨p1,e,p2,p3⟩:=tu.2 j b hj;exact⟨p1,e,p2,up b _ (Nat.ne_of_gt (Nat.lt_trans fg p1)) (kp b _ (Nat.ne_of_gt p1) p3)⟩
  ·rename_i jR;have e0:j-as.length=0:=by
    have:=(List.getElem?_eq_some_iff.mp hj).1
    simp only[List.length_cons,List.length_nil]at this;lia
   have ej:j=i:=by lia
   rw[e0]at hj;cases hj;subst ej;exact⟨qw,es[j],Array.getElem?_eq_getElem A6,up _ _ (Nat.ne_of_gt rM) t⟩
theorem MU{r:Addr}{Q:List Value->Shared->Prop}(hh:A.handled=none)(hv:s.heap.IsItemsView r d)(hd:s.heap.get? d=some od)(hex:od.ExactDict)(Fx:od.data=.dict es ep)(hn:es.size<=sizeLine)(h:∀(h':Heap)(as:List Addr),(∀b o,s.heap.get? b=some o->h'.get? b=some o)->as.length=es.size->Xd es s.heap.objs.size h' as->Q (as.map Value.ref) { s with heap:=h' }) :
  wpAny (model prog w) A (collect (.ref r)) Q E s:=by
 have hr:r<s.heap.objs.size:=let ⟨_,ho,_⟩:=hv;Heap.lt_size ho;have jl:d<s.heap.objs.size:=Heap.lt_size hd;unfold collect;refine wpAny_bind (wpAny_runValue (codeAny_builtin F.entry_proto_collect ?_));rw[Around.under_plainId F.plain_proto_collect _];refine wpAny_bind (m:=newList []) (wpAny_newObj_type ?_);refine wpAny_pure ⟨plainId_quiet F.plain_list_iadd _,codeAny_builtin F.entry_list_iadd ?_⟩;rw[Around.under_plainId F.plain_list_iadd _];show wpAny _ A.in1 (Builtin.List.listExtendWith (.ref s.heap.objs.size) (.ref r) _) _ _ _;unfold Builtin.List.listExtendWith;obtain⟨hl,iX⟩:∃hl,hl=s.heap.push { cls:=.type "list",data:=.seq ([]:List Value).toArray }:=⟨_,rfl⟩;have zl:hl.objs.size=s.heap.objs.size+1:=by rw[iX,Heap.size_push]
 have kl:∀b o,s.heap.get? b=some o->hl.get? b=some o:=fun b o e=>by rw[iX];exact Heap.get?_push_of_some _ e
 have gS:hl.get? s.heap.objs.size=some (lsO #[] 0):=by rw[iX];exact Heap.get?_push_size _ rfl
 rw[<-iX];clear iX;obtain⟨ov,kT,oH,rg⟩:=hv;have ty:Shared.TypeIs { s with heap:=hl } (.ref r) "dict_items":=⟨ov,kl _ _ kT,oH⟩;refine wpAny_bind (wpAny_typeOf ty ?_);have n1:Builtin.List.listSameRef (.ref s.heap.objs.size) (.ref r)=false:=by
  have:s.heap.objs.size≠r:=Nat.ne_of_gt hr;simp[Builtin.List.listSameRef,this]
 have n2:(Value.type "dict_items"==Value.type "list")=false:=by decide
 have n3:(Value.type "dict_items"==Value.type "tuple")=false:=by decide
 simp only[n1,n2,n3,Bool.or_false,Bool.false_eq_true,if_false];refine wpAny_bind ?_;refine wpAny_pyIter_slot ty F.slot_dict_items_iter (wpAny_call_entry F.slot_dict_items_iter ty F.entry_dict_items_iter ?_ (F.args_dict_items_iter_1 _));unfold Builtin.«dict_items.__iter__»;refine wpAny_bind (wpAny_pure (wpAny_bind ?_));unfold Builtin.Dict_items.dictOf;refine wpAny_bind (wpAny_field (kl _ _ kT) rg (x:=.ref d) rfl (wpAny_pure (wpAny_bind ?_)));unfold Builtin.Dict_items.newIterator;refine wpAny_bind (wpAny_dictEntries (kl _ _ hd) Fx (wpAny_bind (wpAny_dictEpoch (kl _ _ hd) Fx ?_)));have own:Builtin.Dict_items.ownsTuple "dict_itemiterator"=true:=by decide
 simp only[own,if_true];refine wpAny_newObj_type (wpAny_pure ⟨_,rfl,"dict_itemiterator",_,⟨_,Heap.get?_push_size _ rfl,rfl⟩,F.slot_dict_itemiterator_next.lookup,?_⟩) (by simp only[sizeOk,Builtin.Dict_items.ownedTupleFields,List.size_toArray,List.length_append,List.length_cons,List.length_nil,sizeLine_eq];lia);obtain⟨hi,jI⟩:∃hi,hi=hl.push (itO .none (.bool false) d 0 es.size ep .none .none):=⟨_,rfl⟩;have ki:∀b o,hl.get? b=some o->hi.get? b=some o:=fun b o e=>by rw[jI];exact Heap.get?_push_of_some _ e
 have gI:hi.get? (s.heap.objs.size+1)=some (itO .none (.bool false) d 0 es.size ep .none .none):=by rw[jI,<-zl];exact Heap.get?_push_size _ rfl
 dsimp only;show wpAny _ _ _ _ _ { s with heap:=hl.push (itO .none (.bool false) d 0 es.size ep .none .none) };rw[zl,<-jI];clear jI;have r8:Shared.TypeIs { s with heap:=hi } (.ref r) "dict_items":=⟨ov,ki _ _ (kl _ _ kT),oH⟩;have nS:s.heap.objs.size≠s.heap.objs.size+1:=Nat.ne_of_lt (Nat.lt_succ_self _);have key:∀(hx:Heap)(c:Nat),(∀b o,b≠s.heap.objs.size->hi.get? b=some o->hx.get? b=some o)->hx.get? s.heap.objs.size=some (lsO #[] c)->codeAny (model prog w) A (.builtin "list.extend.loop" ⟨[.ref s.heap.objs.size,.ref (s.heap.objs.size+1),.ref s.heap.objs.size],[]⟩) (fun q s'=>∃(h':Heap)(Az:Array Value)(c:Nat)(as:List Addr),q=.ok (.ret (.ref s.heap.objs.size))/\s'={ s with heap:=h' }/\(∀b o,s.heap.get? b=some o->h'.get? b=some o)/\h'.get? s.heap.objs.size=some (lsO Az c)/\as.length=es.size/\Xd es (s.heap.objs.size+1) h' as/\Az.toList=as.map Value.ref) { s with heap:=hx }:=by
  intro hx c kx gx;refine X4 (h1:=s.heap) hh (Nat.lt_succ_self _) (Nat.ne_of_lt jl) (Nat.ne_of_lt (Nat.lt_succ_of_lt jl)) Fx hn _ (fun h' Az c as k1 k2 k3 k4 k5=>⟨h',Az,c,as,rfl,rfl,fun b o e=>k1 b o (Nat.ne_of_lt (Heap.lt_size e)) (Nat.ne_of_lt (Nat.lt_succ_of_lt (Heap.lt_size e))) e,k2,k3,k4,k5⟩) (es.size-0) 0 hx c #[] [] rfl (Nat.zero_le _) ⟨_,_,_,_,kx _ _ (Ne.symm nS) gI,.inl rfl,false,rfl⟩ (kx _ _ (Nat.ne_of_lt jl) (ki _ _ (kl _ _ hd))) (fun b o b1 b2 e=>kx b o b1 (ki _ _ (kl _ _ e))) gx rfl rfl ⟨.nil,fun j a hj=>by simp at hj⟩
 have fin:∀(q:Result)(s':Shared),(∃(h':Heap)(Az:Array Value)(c:Nat)(as:List Addr),q=.ok (.ret (.ref s.heap.objs.size))/\s'={ s with heap:=h' }/\(∀b o,s.heap.get? b=some o->h'.get? b=some o)/\h'.get? s.heap.objs.size=some (lsO Az c)/\as.length=es.size/\Xd es (s.heap.objs.size+1) h' as/\Az.toList=as.map Value.ref)->∃v,q=.ok (.ret v)/\wpAny (model prog w) A (match v with|Value.ref a=>do (match (<-load a).data with|Data.seq xs _=>pure xs.toList|_=>unsupported "internal:collect")|_=>unsupported "internal:collect") Q E s':=by
  rintro q s' ⟨h',Az,c,as,rfl,rfl,k1,k2,k3,k4,k5⟩;refine⟨_,rfl,?_⟩;refine wpAny_bind (m:=load s.heap.objs.size) (wpAny_load k2 ?_);show wpAny _ _ (pure Az.toList) _ _ _;rw[k5];exact wpAny_pure (h h' as k1 k3 ⟨k4.1,fun j a hj=>⟨Nat.lt_of_succ_lt (k4.2 j a hj).1,(k4.2 j a hj).2⟩⟩)
 have mI:=ki _ _ gS;refine wpAny_bind (wpAny_holding (PySem.W.kdx_hint r8 ?_));have done:∀hx c,(∀b o,b≠s.heap.objs.size->hi.get? b=some o->hx.get? b=some o)->hx.get? s.heap.objs.size=some (lsO #[] c)->codeAny (model prog w) A (.builtin "list.extend.loop" ⟨[.ref s.heap.objs.size,.ref (s.heap.objs.size+1),.ref s.heap.objs.size],[]⟩) (fun q s'=>∃v,q=.ok (.ret v)/\wpAny (model prog w) A (match v with|Value.ref a=>do (match (<-load a).data with|Data.seq xs _=>pure xs.toList|_=>unsupported "internal:collect")|_=>unsupported "internal:collect") Q E s') { s with heap:=hx }:=fun hx c kx gx=>codeAny_mono (key hx c kx gx) fin;refine wpAny_ite_split (fun _=>?_) (fun _=>wpAny_pure ⟨plainId_quiet F.plain_extend_loop _,codeAny_mono (done hi 0 (fun _ _ _ e=>e) mI) fun q s' z=>?_⟩)
 ·refine wpAny_bind (wpAny_rule (wpAny_bind ?_));show wpAny _ _ (updateSeq s.heap.objs.size (fun q=>q.push .none) >>= fun _=>updateSeq s.heap.objs.size (fun q=>q.pop)) _ _ { s with heap:=hi };refine wpAny_bind (wpAny_updateSeq mI rfl ?_);have g2:=Heap.get?_update_self (Obj.mapSeq fun q=>q.push Value.none) mI rfl;refine wpAny_updateSeq (hz:=by seq_fits) g2 rfl ?_;have g3:=Heap.get?_update_self (Obj.mapSeq fun q=>q.pop) g2 rfl;refine wpAny_pure ⟨plainId_quiet F.plain_extend_loop _,codeAny_mono (done _ _ (fun b o hb e=>(Heap.get?_update_other _ _ (Ne.symm hb)).trans ((Heap.get?_update_other _ _ (Ne.symm hb)).trans e)) g3) fun q s' z=>?_⟩;obtain⟨v,rfl,hw⟩:=z;exact hw
 ·obtain⟨v,rfl,hw⟩:=z;exact hw
end
def LM(H:Hp)(L:Addr->Option (List V)):Hp:=fun a=>match L a with|some vs=>some (.tup vs)|none=>H a
theorem Ei{H:Hp}{L:Addr->Option (List V)}{a:Addr}(h:L a=none):LM H L a=H a:=by unfold LM;rw[h]
theorem Qs{H:Hp}{L:Addr->Option (List V)}{a:Addr}{vs:List V}(h:L a=some vs):LM H L a=some (.tup vs):=by unfold LM;rw[h]
theorem Inv.laidN{X:Cx}{AD:List (Addr×Obj)}{σ:St}{H:Hp}{s:Shared}{h':Heap}{t':Nat}(I:Inv X AD σ H s)(k:∀b u,s.heap.get? b=some u->h'.get? b=some u){L:Addr->Option (List V)}(hL:∀a vs,L a=some vs->s.heap.objs.size<=a/\vs.length<=sizeLine/\∃AY:List Value,Vals vs AY/\IsTup h' a AY.toArray):Inv X AD σ (LM H L) { s with heap:=h',toks:=t' }:=by
 have XH:∀b u,s.heap.get? b=some u->L b=none:=fun b u e=>by
  cases q:L b with
  |none=>rfl
  |some vs=>exact absurd (Heap.lt_size e) (Nat.not_lt.mpr (hL b vs q).1)
 have d9:∀b u,H b=some u->L b=none:=fun b u e=>by
  cases q:L b with
  |none=>rfl
  |some vs=>exact absurd (I.hok b u e).lt (Nat.not_lt.mpr (hL b vs q).1)
 have same:∀b u,H b=some u->LM H L b=some u:=fun b u e=>by rw[Ei (d9 b u e)];exact e
 refine I.un (t':=t') ⟨fun b u q _ _ _=>k b u q,fun b u q _ _ _=>⟨u.slots,k b u q⟩,fun b u q n _=>by rw[Ei (XH b u q)];exact n,fun b u q _=>⟨u,k b u q⟩,fun b xs q=>same b _ q,fun b u xs q=>same b _ q,fun b ps q=>⟨#[],by rw[same b _ q];simp⟩⟩ ?_;intro b u e;cases q:L b with
 |some vs=>
  rw[Qs q]at e;cases e;obtain⟨_,h2,AY,h3,h4⟩:=hL b vs q;exact⟨h2,AY,h3,h4⟩
 |none=>
  rw[Ei q]at e;exact(I.hok b u e).stay (fun c v _ z=>k c v z) (fun c z=>same c _ z) fun c xs z=>same c _ z
def pi(p:Sq×Int):Dat:=.tup [sq p.1,.int p.2]
theorem YY(p q:Sq×Int):FlD 3 (pi p) (pi q):=by
 have F:=OP p.1 q.1;have J:=Iu (c:=1) (by decide) [.int p.2] [.int q.2] (fun x hx y hy=>by rw[List.mem_singleton.mp hx,List.mem_singleton.mp hy];exact Uc _ _) (fun x hx=>by rw[List.mem_singleton.mp hx];rfl) fun x hx=>by rw[List.mem_singleton.mp hx];rfl
 obtain⟨i1,i2⟩:=J;have key:CF true [sq p.1,.int p.2] [sq q.1,.int q.2]=lx (BZ [sq p.1,.int p.2]) (BZ [sq q.1,.int q.2])/\eqL [sq p.1,.int p.2] [sq q.1,.int q.2]=decide (BZ [sq p.1,.int p.2]=BZ [sq q.1,.int q.2]):=by
  rw[show BZ [sq p.1,.int p.2]=flat (sq p.1)++BZ [.int p.2]from rfl,show BZ [sq q.1,.int q.2]=flat (sq q.1)++BZ [.int q.2]from rfl,CF,eqL,F.eq,F.lt,i1,i2];by_cases e:flat (sq p.1)=flat (sq q.1)
  ·rw[decide_eq_true e,if_pos rfl,e];refine⟨(RO _ _ _).symm,?_⟩;rw[Bool.true_and];simp
  ·rw[decide_eq_false e,if_neg (by decide)];refine⟨(UP _ _ (by rw[F.lx,F.ly]) e).symm,?_⟩;rw[Bool.false_and];exact(decide_eq_false fun z=>e (List.append_inj z (by rw[F.lx,F.ly])).1).symm
 exact⟨rfl,rfl,by unfold pi;rw[eqD,flat,flat];exact key.2,by unfold pi;rw[Cq,flat,flat];exact key.1⟩
theorem Pa{p q:Sq×Int}(h:flat (pi p)=flat (pi q)):p=q:=by obtain⟨⟨a,b⟩,c⟩:=p;obtain⟨⟨a',b'⟩,c'⟩:=q;simp[pi,sq,flat,BZ]at h;obtain⟨rfl,rfl,rfl⟩:=h;rfl
theorem QJ(p:Sq×Int):AJ 8 (pi p)=true:=by simp only[pi,AJ,List.all_cons,List.all_nil,Bool.and_true,Bool.and_eq_true];exact⟨AZ _ 6,rfl⟩
def TPi:TyD (Sq×Int):=⟨pi,Pa,fun x y=>(YY x y).lt,fun x y=>(YY x y).eq,QJ,fun _ _=>rfl⟩
section
variable {prog:Program}{w:World}{A:Around}{E:Value->Shared->Prop}{s:Shared}
theorem PH{d:Addr}{od:Obj}{Q:Value->Shared->Prop}(hd:s.heap.get? d=some od)(hex:od.ExactDict)(hS:(d==sysModules)=false)(hQ:Q (.ref s.heap.objs.size) { s with heap:=s.heap.push { cls:=.type "dict_items",data:=.fields #[.ref d] } }) :
  wpAny (model prog w) A (call (.builtin "dict.items") [.ref d]) Q E s:=by
 have ty:s.TypeIs (.ref d) "dict":=⟨od,hd,hex.1⟩;refine wpAny_call_entry F.slot_dict_items ty F.entry_dict_items ?_ (F.args_dict_items_1 _);unfold Builtin.«dict.items»;refine wpAny_bind ?_;unfold Builtin.Dict.noArgs;refine wpAny_bind (wpAny_notOrdered_dict ty ?_);show wpAny _ _ (pure d) _ _ s;refine wpAny_pure ?_;show wpAny _ _ (Builtin.Dict.showsAll d >>= _) _ _ s;unfold Builtin.Dict.showsAll;rw[if_neg (by rw[hS];exact nofun)];exact wpAny_bind (wpAny_pure (wpAny_bind (wpAny_newObj_type (wpAny_pure ⟨_,rfl,hQ⟩))))
end
theorem QX{β:Type}:∀{as:List Addr}{vs:List β},as.Pairwise (·<·)->∀(j:Nat) a v,as[j]?=some a->vs[j]?=some v->(as.zip vs).lookup a=some v
 |[],_,_,j,a,v,h,_=>by simp at h
 |_::_,[],_,j,a,v,_,h=>by simp at h
 |b::as,w::vs,nd,j,a,v,h1,h2=>by
  rw[List.zip_cons_cons,List.lookup_cons];cases j with
  |zero=>
   cases h1;cases h2;rw[beq_self_eq_true]
  |succ j=>
   have PD:as[j]?=some a:=h1;have BS:a≠b:=Nat.ne_of_gt ((List.pairwise_cons.mp nd).1 a (List.mem_of_getElem? PD));rw[show(a==b)=false from beq_eq_false_iff_ne.mpr BS];exact QX (List.pairwise_cons.mp nd).2 j a v PD h2
theorem TX{β:Type}:∀{as:List Addr}{vs:List β}{a:Addr}{v:β},(as.zip vs).lookup a=some v->∃j:Nat,as[j]?=some a/\vs[j]?=some v
 |[],_,a,v,h=>by simp at h
 |_::_,[],a,v,h=>by simp at h
 |b::as,w::vs,a,v,h=>by
  rw[List.zip_cons_cons,List.lookup_cons]at h;cases e:a==b with
  |true=>
   rw[e]at h;cases h;exact⟨0,by rw[eq_of_beq e];rfl,rfl⟩
  |false=>
   rw[e]at h;obtain⟨j,h1,h2⟩:=TX h;exact⟨j+1,h1,h2⟩
theorem DRep.nth{K:PySem.W.Frag}{H:Hp}:∀{AR:List (Dat×Dat)}{xs:List (Dat×Addr×Value)},DRep K H AR xs->∀(j:Nat) k d,AR[j]?=some (k,d)->∃a u,xs[j]?=some (k,a,u)/\Rep K H k (.ref a)/\∃v,RelV v u/\Rep K H d v
 |[],_,h,j,k,d,e=>by simp at e
 |(k',d')::r,_,h,j,k,d,e=>by
  rw[DRep]at h;obtain⟨a,u,Mc,rfl,_,h3,h4,h6⟩:=h;cases j with
  |zero=>cases e;exact⟨a,u,rfl,h3,h4⟩
  |succ j=>exact DRep.nth h6 j k d e
theorem Tv{K:PySem.W.Frag}{H:Hp}:∀{ds:List Dat}{vs:List V}{us:List Value},vs.length=ds.length->us.length=ds.length->(∀(j:Nat) d v u,ds[j]?=some d->vs[j]?=some v->us[j]?=some u->Rep K H d v/\RelV v u)->Tri K H ds vs us
 |[],[],[],_,_,_=>.nil
 |[],_::_,_,h,_,_=>by simp at h
 |[],[],_::_,_,h,_=>by simp at h
 |_::_,[],_,h,_,_=>by simp at h
 |_::_,_::_,[],_,h,_=>by simp at h
 |d::ds,v::vs,u::us,h1,h2,h=>by
  obtain⟨r1,r2⟩:=h 0 d v u rfl rfl rfl;exact .cons r1 r2 (Tv (by simpa using h1) (by simpa using h2) fun j d' v' u' a b c=>h (j+1) d' v' u' a b c)
theorem QS{H:Hp}{G:Gs}{N:Addr->Option (List V)}(hN:∀b u,H b=some u->N b=none):Ext H G (LM H N) G:=⟨fun b o h _=>by rw[Ei (hN b o h)];exact h,fun b h=>.inl h⟩
theorem Wy{K:PySem.W.Frag}{H:Hp}{G:Gs}{N:Addr->Option (List V)}(hN:∀b u,H b=some u->N b=none)(o:GOk K H G):GOk K (LM H N) G:=fun a od e=>by
 have E:=QS (G:=G) hN;cases od with
 |lst l=>
  obtain⟨vs,h1,h2⟩:=o a _ e;exact⟨vs,by rw[Ei (hN _ _ h1)];exact h1,h2.same E.hid⟩
 |dct AR=>
  obtain⟨xs,h1,h2⟩:=o a _ e;exact⟨xs,by rw[Ei (hN _ _ h1)];exact h1,h2.same E.hid⟩
section
variable {X:Cx}{ρ:Rho}{G:Gs}{a:Expr}{pos p3 Aq apos:Pos}{p:Addr}{L:List (Sq×Int)}
theorem LR(qU:X.mg "sorted"=none)(hu:X.A.units+20<cLine)(CG:X.calm=true)(ha:PX X ρ G a (.fn p))(hG:G p=some (.dct (L.map fun q=>(sq q.1,.int q.2))))(qh:Gl X "sorted":=by rfl)(C9:attributeBase a "items" X.env (eval a X.env)=eval a X.env:=by rfl)(CV:(apos.endLine==Aq.line)=true:=by rfl)(he2:starEach [.Call (.Attribute a "items" apos) [] [] Aq] X.env=(false,eval (.Call (.Attribute a "items" apos) [] [] Aq) X.env)::starEach [] X.env:=by rfl) :
  PX X ρ G (.Call (.Name "sorted" p3) [.Call (.Attribute a "items" apos) [] [] Aq] [] pos) (.lst ((TPi.sort L).map pi)):=by
 intro AD s σ H I S;refine wpAny_Call_Name_kw (Ff I qh qU (by decide +kernel:bootBuiltins "sorted"=some (.builtin "sorted")) ?_ (by decide) (by decide));refine PyProof.Rows.callWith_builtin1 (PyProof.Rows.spliced_more ?_ he2) he2 rfl;refine wpAny_Call_method0_late C9 CV (thn (ha AD s σ H I S) fun u s1 ⟨x,H1,I1,rx,_,G1,e1,o1,r1,q1,BX⟩=>?_);subst q1;subst BX;cases (show x=V.ref p from r1);cases rx;obtain⟨xs,h3,r3⟩:=o1 p _ hG;obtain⟨y1,y2,dd⟩:=Fi I1 h3 (r3.same AK);obtain⟨od,es,ep,PV,hex,Fx,nN,jK,tJ⟩:=id dd;refine⟨"dict","dict.items",PySem.F.plainAttrs_dict,PySem.F.slot_dict_items,PySem.F.type_dict_items,dd.typeIs,?_,?_⟩
 ·intro b hb;cases hb;exact⟨od,PV,hex.2.1⟩
 refine Calls.callWith_builtin rfl (PySem.evalArgs_none (PH PV hex y1 (PyProof.Rows.spliced_none ?_)));refine Calls.call_function_entry kind_sorted plain_sorted entry_sorted (args_sorted1 _) ?_;unfold Builtin.«sorted»;refine wpAny_bind (m:=checkCount "sorted" 1 1 _) (wpAny_pure ?_);have hsz:es.size=xs.length:=by rw[<-Array.length_toList,nN,List.length_map]
 refine wpAny_bind (MU (s:={ s1 with heap:=s1.heap.push { cls:=.type "dict_items",data:=.fields #[.ref p] } }) (by simpa using I1.ok.hd CG) ⟨_,Heap.get?_push_size _ rfl,rfl,rfl⟩ (Heap.get?_push_of_some _ PV) hex Fx (by rw[hsz];exact y2) fun h1 as kp hl tu=>?_);have A2:xs.length=L.length:=by rw[r3.length,List.length_map]
 have CV:∀n,n<=xs.length->n<=sizeLine:=fun n hn=>Nat.le_trans hn y2;obtain⟨aO,kc⟩:∃aO:List (List V),aO=(xs.zip L).map fun q=>[V.ref q.1.2.1,V.int q.2.2]:=⟨_,rfl⟩;have oM:∀(j:Nat) q,L[j]?=some q->∃ak u t b,xs[j]?=some (sq q.1,ak,u)/\u=Value.int q.2 t/\Rep X.K (hid H1 G1) (sq q.1) (.ref ak)/\as[j]?=some b/\aO[j]?=some [V.ref ak,V.int q.2]/\s1.heap.objs.size<b/\h1.get? b=some { cls:=.type "tuple",data:=.seq #[Value.ref ak,u] }:=by
  intro j q hj;obtain⟨ak,u,hx,rk,v,rv,rd⟩:=r3.nth j (sq q.1) (.int q.2) (by rw[List.getElem?_map,hj];rfl);rw[Rep]at rd;subst rd;obtain⟨t,rfl⟩:=rv;have jM:j<as.length:=by
   have:=(List.getElem?_eq_some_iff.mp hx).1
   lia
  obtain⟨b,hb⟩:∃b,as[j]?=some b:=⟨as[j],List.getElem?_eq_getElem jM⟩;obtain⟨p1,e,p2,p3⟩:=tu.2 j b hb;have he:e=iI (sq q.1,ak,Value.int q.2 t):=by
   have:es.toList[j]?=some e:=by rw[Array.getElem?_toList];exact p2
   rw[nN,List.getElem?_map,hx]at this;cases this;rfl
  subst he;refine⟨ak,_,t,b,hx,rfl,rk,hb,?_,Nat.lt_trans (Nat.lt_succ_self _) (by have:=p1;simp only[Heap.size_push]at this;exact this),p3⟩;rw[kc,List.getElem?_map,(List.getElem?_zip_eq_some (z:=((sq q.1,ak,Value.int q.2 t),q))).mpr ⟨hx,hj⟩];rfl
 have rN:∀b o,s1.heap.get? b=some o->h1.get? b=some o:=fun b o e=>kp b o (Heap.get?_push_of_some _ e);have nJ:∀b vs,(as.zip aO).lookup b=some vs->∃(j:Nat)(q:Sq×Int)(ak:Addr)(u:Value)(t:Tok),L[j]?=some q/\vs=[V.ref ak,V.int q.2]/\u=Value.int q.2 t/\s1.heap.objs.size<b/\h1.get? b=some { cls:=.type "tuple",data:=.seq #[Value.ref ak,u] }:=by
  intro b vs e;obtain⟨j,gV,jR⟩:=TX e;have n0:j<L.length:=by have:=(List.getElem?_eq_some_iff.mp gV).1;lia
  obtain⟨ak,u,t,b',_,JF,_,hb,hv,A6,hg⟩:=oM j L[j] (List.getElem?_eq_getElem n0);rw[gV]at hb;cases hb;rw[jR]at hv;cases hv;exact⟨j,L[j],ak,u,t,List.getElem?_eq_getElem n0,rfl,JF,A6,hg⟩
 have nj:∀b u,H1 b=some u->(as.zip aO).lookup b=none:=fun b u e=>by
  cases q:(as.zip aO).lookup b with
  |none=>rfl
  |some vs=>
   obtain⟨_,_,_,_,_,_,_,_,A6,_⟩:=nJ b vs q;exact absurd (I1.hok b u e).lt (Nat.not_lt.mpr (Nat.le_of_lt A6))
 have I2:Inv X AD σ (LM H1 fun b=>(as.zip aO).lookup b) { s1 with heap:=h1 }:=TF.Inv.laidN (t':=s1.toks) I1 rN fun b vs e=>by
  obtain⟨j,q,ak,u,t,_,rfl,rfl,A6,hg⟩:=nJ b vs e;exact⟨Nat.le_of_lt A6,by show 2<=sizeLine;decide,[Value.ref ak,Value.int q.2 t],.cons rfl (.cons ⟨t,rfl⟩ .nil),⟨_,hg,rfl,0,rfl⟩⟩
 have E2:=QS (G:=G1) nj;have O2:=Wy nj o1;have T:Tri X.K (hid (LM H1 fun b=>(as.zip aO).lookup b) G1) (L.map pi) (as.map V.ref) (as.map Value.ref):=by
  refine Tv (by rw[List.length_map,List.length_map];lia) (by rw[List.length_map,List.length_map];lia) fun j d v u h1 h2 h3=>?_;rw[List.getElem?_map]at h1 h2 h3;obtain⟨q,hq,rfl⟩:=Option.map_eq_some_iff.mp h1;obtain⟨b,hb,rfl⟩:=Option.map_eq_some_iff.mp h2;rw[hb]at h3;cases h3;refine⟨?_,rfl⟩;obtain⟨ak,u,t,b',_,_,rk,GV,hv,A6,hg⟩:=oM j q hq;rw[hb]at GV;cases GV;have qO:H1 b=none:=I1.hok.fresh (Nat.le_of_lt A6);unfold pi;rw[Rep];refine⟨b,[V.ref ak,V.int q.2],rfl,SqT.of (Fn (o1.free qO) (Qs (QX tu.1 j b _ hb hv))),RepL.cons (rk.same E2.hid) (RepL.cons (by rw[Rep]) RepL.nil)⟩
 obtain⟨rd,r'⟩:=T.rep;obtain⟨us,bu⟩:∃us,us=as.map Value.ref:=⟨_,rfl⟩;rw[<-bu]at T r' ⊢;have qN:us.length=xs.length:=by rw[bu,List.length_map];lia
 have ra:AtL h1 (L.map pi) us:=(rd.same AK).at I2 (by rw[List.all_map,List.all_eq_true];exact fun x _=>QJ x) r';refine wpAny_bind (wpAny_newList ?_ (CV _ (by lia)));have bz:(h1.push (seqObj "list" us.toArray 0)).get? h1.objs.size=some (seqObj "list" us.toArray 0):=Heap.get?_push_size _ rfl;have Mi:∀b o,h1.get? b=some o->(h1.push (seqObj "list" us.toArray 0)).get? b=some o:=fun b o e=>Heap.get?_push_of_some _ e;have O:=Wt TPi L (.inr fun x _=>⟨_,_,rfl⟩);refine wpAny_bind (wpAny_holding (wpAny_call_entry slot_list_sort ⟨_,bz,rfl⟩ entry_list_sort (L4 (s:={ s1 with heap:=h1.push (seqObj "list" us.toArray 0) }) (g:=flat) (ds:=L.map pi) bz (ra.kept Mi) (fun _ _ _ _=>trivial) (fun h' k=>ra.kept fun b o e=>k b o (Nat.ne_of_lt (Heap.lt_size e)) (Mi b o e)) O (CV _ (by lia)) (by show X.A.units+1+1+8<cLine;lia) fun out hp i8=>⟨_,rfl,?_⟩) (args_list_sort _)));refine wpAny_pure ⟨_,rfl,?_⟩;obtain⟨II,MP,T',bU⟩:=Qp hp T;obtain⟨cy,hJ⟩:=T'.rep;have gu:MP.length<=sizeLine:=by
  have e1:=hJ.length;have e2:=hp.length_eq;exact CV _ (by lia)
 obtain⟨XC,kF⟩:=sortedHeap_at (out:=out) bz;have gA:∀u∈out.toList,B9 (h1.push (seqObj "list" us.toArray 0)) u=B9 h1 u:=fun u JF=>by
  obtain⟨d,hd,hr⟩:=ra.mem u (hp.mem_iff.mp JF);rw[CB (O.pl d hd) hr,CB (O.pl d hd) (hr.kept Mi)]
 have MT:(II.map flat).Pairwise (fun x y=>HT.lexLt y x=false):=by
  rw[<-TJ I2 (T'.same AK) (fun d hd=>O.pl d (bU.mem_iff.mp hd))];have e:out.toList.map (fun u=>flat (B9 h1 u))=out.toList.map (fun u=>flat (B9 (h1.push (seqObj "list" us.toArray 0)) u)):=List.map_congr_left fun u JF=>by rw[gA u JF]
  show(out.toList.map fun u=>flat (B9 h1 u)).Pairwise _;rw[e];exact i8
 obtain⟨m,rfl,hm⟩:=Pw pi bU;have em:m=TPi.sort L:=by
  refine TyD.uniq TPi (hm.trans (TPi.sort_perm _).symm) ?_ (TPi.sort_sorted _);rw[List.map_map,List.pairwise_map]at MT;refine MT.imp fun {x y} h=>?_;unfold TyD.le;have:lx (flat (TPi.f y)) (flat (TPi.f x))=false:=h;rw[this];rfl
 subst em;refine⟨.ref h1.objs.size,upd (LM H1 fun b=>(as.zip aO).lookup b) h1.objs.size (.lst MP),?_,rfl,?_⟩
 ·refine I2.laid (t':=s1.toks) (o:=.lst MP) (fun b o e=>?_) (Nat.le_refl _) ⟨gu,out.toList,XC,hJ,by rw[Array.toArray_toList];exact kF⟩;rw[sortedHeap_old (Nat.ne_of_lt (Heap.lt_size e)) (by rw[size_push'];exact Nat.lt_succ_of_lt (Heap.lt_size e))];exact Mi b o e
 ·exact Po.trans (e1.trans E2) (HW O2 (I2.hok.fresh (Nat.le_refl _)) cy)
end
theorem N9:typeLookup (.type "list") "keys"=pure none:=by rw[typeLookup_type,builtinLookup_eq_fast];kernel_rfl
section
variable {prog:Program}{w:World}{A:Around}{E:Value->Shared->Prop}{h:Heap}{g:Array GenState}{d:Drawn}{t:Nat}{os:OsState}{a:Addr}{o:Obj}
theorem SH{tk:Tok}{Q:Fin->Shared->Prop}(hh:A.handled=none){items:Array Value}{n:Nat}{sl:Array (Option Value)}(hx:h.get? a=some { cls:=.type "list",dict:=none,data:=.seq items n,slots:=sl })(hq:∀h' t' e,Heap.NewAttrErr h h' e (.ref a) "keys"->E (.ref e) ⟨h',g,d,t',os⟩) :
  wpAny (model prog w) A (Builtin.«object.__getattribute__» ⟨[.ref a,.str "keys" tk],[]⟩) Q E ⟨h,g,d,t,os⟩:=by
 have hT:(⟨h,g,d,t,os⟩:Shared).TypeIs (.ref a) "list":=⟨_,hx,rfl⟩;have f4:=N9;repeat (any_goals (first|assumption|wp_step))
 exact wpAny_raiseAttrError hh (fun h' rE e kM=>hq h' rE e kM) (attrMsg_fits (by decide +kernel) (by size_fits))
theorem QA:typeLookup (.type "list") "__getattr__"=pure none:=by rw[typeLookup_type,builtinLookup_eq_fast];kernel_rfl
theorem VY{Q:Option Value->Shared->Prop}{items:Array Value}{n:Nat}{sl:Array (Option Value)}(hh:A.handled=none)(hx:h.get? a=some { cls:=.type "list",dict:=none,data:=.seq items n,slots:=sl })(hq:∀h' t',(∀b u,h.get? b=some u->h'.get? b=some u)->Q none ⟨h',g,d,t',os⟩):wpAny (model prog w) A (getAttr? (.ref a) "keys") Q E ⟨h,g,d,t,os⟩:=by
 have hT:(⟨h,g,d,t,os⟩:Shared).TypeIs (.ref a) "list":=⟨_,hx,rfl⟩;have f1:=sub_AttributeError;have f2:=F.slot_list_getattribute.lookup;have f3:=F.slot_list_getattribute.bind (.ref a);have f5:=QA;unfold getAttr? getAttrBy?;repeat (any_goals (first|assumption|wp_step))
 refine codeAny_call_builtin F.slot_list_getattribute.plain F.entry_list_ga (F.slot_list_getattribute.check _ _ _ _ _ _ _ _ (show(⟨h,g,d,t+1,os⟩:Shared).TypeIs (.ref a) "list" from⟨_,hx,rfl⟩) (F.args_list_getattribute_2 _ _) ?_);refine SH (by simpa using hh) hx fun h' t' e ne=>?_;obtain⟨t2,u2,he⟩:=ne.there;show wpAny _ _ (getattributeRaised _ _ _ _ _ _ _) _ _ _;unfold getattributeRaised;repeat (any_goals (first|assumption|wp_step))
 exact hq h' t' ne.keeps
end
theorem Ny:plainId "dict.update.loop"=true:=by decide +kernel
theorem XF:entryFor table "dict.update.loop"=some Builtin.«dict.update.loop»:=entryFor_of_tree (by kernel_rfl)
section
variable {prog:Program}{w:World}{A:Around}{E:Value->Shared->Prop}{s:Shared}
theorem X5{d it l:Addr}{items:Array Value}{h0:Heap}{R:Result->Shared->Prop}(hh:A.handled=none)(XJ:(Be prog w).room A.in1)(Ut:d≠it)(pO:h0.get? d=none)(pK:h0.get? it=none)(hl:h0.IsList l items)(ps:List (Dat×Addr×Value))(nd:(ps.map (·.1)).Nodup)(hit:∀(j:Nat) q,ps[j]?=some q->∃(t:Addr)(n:Nat)(dd:Option Addr)(sl:Array (Option Value)),items[j]?=some (.ref t)/\h0.get? t=some { cls:=.type "tuple",dict:=dd,data:=.seq #[.ref q.2.1,q.2.2] n,slots:=sl })(A2:items.size=ps.length)(hz:ps.length<=sizeLine)(SS:∀h',(∀b o,h0.get? b=some o->h'.get? b=some o)->∀q∈ps,(Be prog w).is h' q.1 q.2.1)(hR:∀h' tk,(∀b o,h0.get? b=some o->h'.get? b=some o)->h'.DictOfH (Be prog w) d ps->R (.ok (.ret .none)) { s with heap:=h',toks:=tk }) :
  ∀(r i:Nat)(h:Heap)(tk:Nat),ps.length-i=r->i<=ps.length->(∀b o,h0.get? b=some o->h.get? b=some o)->h.IsListIter it l i->h.DictOfH (Be prog w) d (ps.take i) →
   codeAny (model prog w) A (.builtin "dict.update.loop" ⟨[.ref d,.ref it,rawInt i,.none],[]⟩) R { s with heap:=h,toks:=tk }:=by
 have jw:∀b o,h0.get? b=some o->b≠it/\b≠d:=fun b o e=>⟨fun z=>(by rw[z,pK]at e;cases e),fun z=>(by rw[z,pO]at e;cases e)⟩;have lk:∀h':Heap,(∀b o,h0.get? b=some o->h'.get? b=some o)->h'.IsList l items:=fun h' k=>by
  obtain⟨o,h1,h2⟩:=hl;exact⟨o,k _ _ h1,h2⟩
 intro r
 induction r with
 |zero=>
  intro i h tk hr hi keep gi gd;have ei:i=ps.length:=by lia
  subst ei;rw[List.take_length]at gd;refine codeAny_builtin XF ?_;rw[Around.under_plainId Ny _];show wpAny _ A.in1 (pyNext (.ref it) >>= _) _ _ { s with heap:=h,toks:=tk };refine wpAny_bind (wpAny_pyNext_list_end (s:={ s with heap:=h,toks:=tk }) (A:=A.in1) hh gi (lk h keep) (Array.getElem?_eq_none (by lia)) fun h' ex=>?_);show wpAny _ A.in1 (Builtin.Dict.addKeywords d [] >>= _) _ _ _;have k':∀b o,h0.get? b=some o->h'.get? b=some o:=fun b o e=>ex b o (jw b o e).1 (keep b o e);refine wpAny_bind (wpAny_pure (wpAny_pure (hR h' tk k' ?_)));obtain⟨od,es,ep,g1,g2,g3,g4,g5,g6⟩:=gd;exact⟨od,es,ep,ex d _ Ut g1,g2,g3,g4,fun q hq=>SS h' k' q hq,g6⟩
 |succ r ih=>
  intro i h tk hr hi keep gi gd;have A6:i<ps.length:=by lia
  obtain⟨q,hq⟩:∃q,ps[i]?=some q:=⟨ps[i],List.getElem?_eq_getElem A6⟩;obtain⟨t,n,dd,sl,ht,sJ⟩:=hit i q hq;refine codeAny_builtin XF ?_;rw[Around.under_plainId Ny _];show wpAny _ A.in1 (pyNext (.ref it) >>= _) _ _ { s with heap:=h,toks:=tk };refine wpAny_bind (wpAny_pyNext_list_item (s:={ s with heap:=h,toks:=tk }) gi (lk h keep) ht fun h1 pU mV=>?_);have T1:∀b o,h0.get? b=some o->h1.get? b=some o:=fun b o e=>mV.extBut b o (jw b o e).1 (keep b o e);have kr:=T1 _ _ sJ;have hT:Shared.TypeIs { s with heap:=h1,toks:=tk } (.ref t) "tuple":=⟨_,kr,rfl⟩;refine wpAny_bind (wpAny_holding (wpAny_bind (wpAny_tryCatch ?_)));unfold Builtin.Dict.pairItems;refine wpAny_bind (wpAny_typeOf hT ?_);rw[if_pos (by decide)];have qx:∀{Q:Option (Array Value)->Shared->Prop}{E:Value->Shared->Prop},Q (some #[Value.ref q.2.1,q.2.2]) { s with heap:=h1,toks:=tk }->wpAny (model prog w) A.in1 (seqItems? (.ref t)) Q E { s with heap:=h1,toks:=tk }:=fun {Q E} hQ=>by
   unfold seqItems?;wp_walk;exact hQ
  refine wpAny_bind (qx (wpAny_pure ?_));show wpAny _ A.in1 (holding [Value.ref q.2.1,q.2.2] (dictSet d (Value.ref q.2.1) q.2.2)) _ _ _;have qp:h1.DictOfH (Be prog w) d (ps.take i):=by
   obtain⟨od,es,ep,g1,g2,g3,g4,g5,g6⟩:=gd;exact⟨od,es,ep,mV.extBut d _ Ut g1,g2,g3,g4,fun x hx=>SS h1 T1 x (List.mem_of_mem_take hx),g6⟩
  have ap:atKey (ps.take i) q.1=none:=atKey_none_of_get fun j p hj=>by
   have ql:j<i:=by
    have:=(List.getElem?_eq_some_iff.mp hj).1
    rw[List.length_take]at this;lia
   rw[List.getElem?_take_of_lt ql]at hj;have e1:(ps.map (·.1))[j]?=some q.1:=by rw[List.getElem?_map,hj];rfl
   have e2:(ps.map (·.1))[i]?=some q.1:=by rw[List.getElem?_map,hq];rfl
   have:=(List.getElem?_inj (by rw[List.length_map];lia) nd).mp (e1.trans e2.symm)
   lia
  have et:ps.take (i+1)=ps.take i++[q]:=by rw[List.take_add_one,hq];rfl
  refine wpAny_holding (wpAny_dictSet_heap (s:={ s with heap:=h1,toks:=tk }) (knd:=Be prog w) XJ (SS h1 T1 q (List.mem_of_getElem? hq)) qp (fun h2 jQ m3=>?_) (hsz:=Nat.le_trans (List.length_take_le _ _) (by lia)));rw[storedH_new ap,<-et]at jQ;have Mi:∀b o,h0.get? b=some o->h2.get? b=some o:=fun b o e=>m3.extBut b o (jw b o e).2 (T1 b o e);refine wpAny_pure ⟨plainId_quiet Ny _,?_⟩;exact ih (i+1) h2 _ (by lia) A6 Mi (pU.at fun o e=>m3.extBut it o (Ne.symm Ut) e) jQ
theorem Rg{l:Addr}{items:Array Value}{n:Nat}{sl:Array (Option Value)}{ps:List (Dat×Addr×Value)}{Q:Value->Shared->Prop}(hh:A.handled=none)(XJ:(Be prog w).room A.in1.in1)(hl:s.heap.get? l=some { cls:=.type "list",dict:=none,data:=.seq items n,slots:=sl })(nd:(ps.map (·.1)).Nodup)(hit:∀(j:Nat) q,ps[j]?=some q->∃(t:Addr)(n:Nat)(dd:Option Addr)(sl:Array (Option Value)),items[j]?=some (.ref t)/\s.heap.get? t=some { cls:=.type "tuple",dict:=dd,data:=.seq #[.ref q.2.1,q.2.2] n,slots:=sl })(A2:items.size=ps.length)(hz:ps.length<=sizeLine)(SS:∀h':Heap,(∀b o,s.heap.get? b=some o->h'.get? b=some o)->∀q∈ps,(Be prog w).is h' q.1 q.2.1)(hR:∀h' tk,(∀b o,s.heap.get? b=some o->h'.get? b=some o)->h'.DictOfH (Be prog w) s.heap.objs.size ps->Q (.ref s.heap.objs.size) { s with heap:=h',toks:=tk }) :
  wpAny (model prog w) A (call (.type "dict") [.ref l]) Q E s:=by
 refine callType_codes (Q₁:=fun obj s₁=>obj=.ref s.heap.objs.size/\s₁={ s with heap:=s.heap.push { cls:=.type "dict",data:=.dict #[] } }) F.kt_called_dict (F.kt_typeCall_dict_1 _) F.entry_dict_init (kt_code_dict_new _ ⟨rfl,rfl⟩) ?_;rintro obj s₁ ⟨rfl,rfl⟩;have MY:(s.heap.push { cls:=.type "dict",data:=.dict #[] }).DictOfH (Be prog w) s.heap.objs.size []:=Heap.DictOfH.new s.heap;have k0:∀b o,s.heap.get? b=some o->(s.heap.push { cls:=.type "dict",data:=.dict #[] }).get? b=some o:=fun b o e=>Heap.get?_push_of_some _ e;have bV:=k0 _ _ hl;refine⟨MY.typeIs (s:={ s with heap:=s.heap.push { cls:=.type "dict",data:=.dict #[] } }),F.args_dict_init_2 _ _,?_⟩;unfold Builtin.«dict.__init__»;refine wpAny_bind ?_;unfold Builtin.Dict.selfAndRest;refine wpAny_bind (wpAny_notOrdered_dict (MY.typeIs (s:={ s with heap:=s.heap.push { cls:=.type "dict",data:=.dict #[] } })) ?_);show wpAny _ _ (pure (s.heap.objs.size,[Value.ref l])) _ _ _;refine wpAny_pure ?_;show wpAny _ _ (Builtin.Dict.updateFrom "dict.__init__" s.heap.objs.size (.ref l) [] .none) _ _ _;unfold Builtin.Dict.updateFrom;refine wpAny_bind (wpAny_typeOf (T:="list") ⟨_,bV,rfl⟩ ?_);rw[if_pos (by decide)];refine wpAny_bind (VY (A:=A.in1.in1) (h:=s.heap.push { cls:=.type "dict",data:=.dict #[] }) (by simpa using hh) bV fun h' t' k1=>?_);rw[if_pos (show(none:Option Value).isNone=true from rfl)];have kk:∀b o,s.heap.get? b=some o->h'.get? b=some o:=fun b o e=>k1 b o (k0 b o e);have il:h'.IsList l items:=⟨_,kk _ _ hl,rfl,n,rfl⟩;have mR:s.heap.objs.size<h'.objs.size:=Heap.lt_size (k1 _ _ (Heap.get?_push_size _ rfl));refine wpAny_bind (wpAny_rule (wpAny_bind (wpAny_pyIter_list (s:={ s with heap:=h',toks:=t' }) il (wpAny_pure ⟨plainId_quiet Ny _,?_⟩))));refine X5 (A:=A.in1) (h0:=s.heap) (s:=s) (by simpa using hh) XJ (Nat.ne_of_lt mR) ?_ ?_ ⟨_,hl,rfl,n,rfl⟩ ps nd hit A2 hz SS (fun h2 tk k2 jQ=>⟨rfl,hR h2 tk k2 jQ⟩) ps.length 0 _ _ (Nat.sub_zero _) (Nat.zero_le _) (fun b o e=>Heap.get?_push_of_some _ (kk b o e)) ⟨_,Heap.get?_push_size _ rfl,rfl,rfl⟩ ?_
 ·cases e:s.heap.get? s.heap.objs.size with
  |none=>rfl
  |some o=>exact absurd (Heap.lt_size e) (Nat.lt_irrefl _)
 ·cases e:s.heap.get? h'.objs.size with
  |none=>rfl
  |some o=>exact absurd (Heap.lt_size e) (Nat.not_lt.mpr (Nat.le_of_lt mR))
 ·obtain⟨od,es,ep,g1,g2,g3,g4,g5,g6⟩:=MY;exact⟨od,es,ep,Heap.get?_push_of_some _ (k1 _ _ g1),g2,g3,g4,fun x hx=>by simp at hx,g6⟩
end
section
variable {X:Cx}{AD:List (Addr×Obj)}{σ:St}{H:Hp}{s:Shared}{G:Gs}
theorem QP(I:Inv X AD σ H s):∀{L:List (Sq×Int)}{vs:List V}{AY:List Value},RepL X.K (hid H G) (L.map pi) vs->Vals vs AY →
  ∃ps:List (Dat×Addr×Value),ps.length=L.length/\AY.length=L.length/\ps.map (·.1)=L.map (fun q=>sq q.1)/\DRep X.K (hid H G) (L.map fun q=>(sq q.1,.int q.2)) ps ∧
   ∀(j:Nat) q,ps[j]?=some q->∃(t:Addr)(n:Nat)(dd:Option Addr)(sl:Array (Option Value)),AY[j]?=some (.ref t)/\s.heap.get? t=some { cls:=.type "tuple",dict:=dd,data:=.seq #[.ref q.2.1,q.2.2] n,slots:=sl }
 |[],vs,AY,r,v=>by
  rw[List.map_nil,RepL]at r;subst r;cases v;exact⟨[],rfl,rfl,rfl,rfl,fun j q h=>by simp at h⟩
 |p::L,vs,AY,r,v=>by
  rw[List.map_cons,RepL]at r;obtain⟨v1,w1,rfl,h1,r⟩:=r;cases v with
  |cons rv v=>
  rename_i u us;obtain⟨ps,z1,z2,z3,z4,z5⟩:=QP I r v;unfold pi at h1;rw[Rep]at h1;obtain⟨t,ws,rfl,ht,cF⟩:=h1;rw[RepL]at cF;obtain⟨a1,w2,rfl,ZG,cF⟩:=cF;rw[RepL]at cF;obtain⟨a2,w3,rfl,fY,cF⟩:=cF;rw[RepL]at cF;subst cF;rw[Rep]at fY;subst fY;have hk:∃k,a1=V.ref k:=by
   have:=ZG
   unfold sq at this;rw[Rep]at this;obtain⟨k,_,e,_⟩:=this;exact⟨k,e⟩
  obtain⟨k,rfl⟩:=hk;cases rv;obtain⟨its',v',tu,_⟩:=I.tuple (Av AK ht);cases v' with
  |cons q1 v'=>
  cases v' with
  |cons q2 v'=>
  cases v';cases q1;obtain⟨tk,rfl⟩:=q2;refine⟨(sq p.1,k,Value.int p.2 tk)::ps,by simp[z1],by simp[z2],by simp[z3],⟨k,_,ps,rfl,A5 p.1,ZG,⟨.int p.2,⟨tk,rfl⟩,by rw[Rep]⟩,z4⟩,fun j q hj=>?_⟩;cases j with
  |zero=>
   simp only[List.getElem?_cons_zero,Option.some.injEq]at hj;subst hj;obtain⟨o,ho,hc,n,hd⟩:=tu;obtain⟨oc,od,qJ,W6⟩:=o;simp only at hc hd;subst hc;subst hd;exact⟨t,n,od,W6,rfl,ho⟩
  |succ j=>simpa using z5 j q (by simpa using hj)
theorem XS{p:Addr}{AR:List (Dat×Dat)}{xs:List (Dat×Addr×Value)}(o:GOk X.K H G)(hp:H p=none)(r:DRep X.K (hid H G) AR xs):Ext H G (upd H p (E7 p xs)) (put G p (.dct AR))/\GOk X.K (upd H p (E7 p xs)) (put G p (.dct AR)):=by
 obtain⟨E1,O1⟩:=Ky (X:=X) o hp;obtain⟨E2,O2⟩:=Nj (X:=X) O1 AG (r.same E1.hid);rw[Ab]at E2 O2;have e:upd (upd H p (E7 p [])) p (E7 p xs)=upd H p (E7 p xs):=by
  funext b;by_cases hb:b=p
  ·subst hb;rw[BJ,BJ]
  ·rw[Al hb,Al hb,Al hb]
 rw[e]at E2 O2;exact⟨E1.trans E2,O2⟩
end
section
variable {X:Cx}{ρ:Rho}{G:Gs}{a:Expr}{L:List (Sq×Int)}{pos pp:Pos}
theorem YH{Q:Dat->Gs->Prop}(hm:X.mg "dict"=none)(hu:X.A.units+20<cLine)(CG:X.calm=true)(ha:PX X ρ G a (.lst (L.map pi)))(nd:(L.map (·.1)).Nodup)(h:∀p,G p=none->Q (.fn p) (put G p (.dct (L.map fun q=>(sq q.1,.int q.2)))))(hg:Gl X "dict":=by rfl)(he:starEach [a] X.env=(false,eval a X.env)::starEach [] X.env:=by rfl):WE X ρ G (.Call (.Name "dict" pp) [a] [] pos) Q:=fun AD s σ H I S=>by
 refine wpAny_Call_Name_kw (Ff I hg hm (by decide +kernel:bootBuiltins "dict"=some (.type "dict")) ?_ (by decide) (by decide));refine PyProof.Rows.callWith_type1 (PyProof.Rows.spliced_more (thn (ha AD s σ H I S) fun u s1 ⟨x,H1,I1,r1,d,G1,e1,o1,rx,q1,q2⟩=>PyProof.Rows.spliced_none ?_) he) he rfl;subst q1;subst q2;rw[Rep]at rx;obtain⟨p,vs,rfl,h1,h2⟩:=rx;cases r1;obtain⟨AY,r',pl,hz⟩:=I1.list (SqL.of (AK _ _ h1));obtain⟨ps,z1,z2,z3,z4,z5⟩:=QP I1 h2 r';obtain⟨⟨oc,od,qJ,W6⟩,n,ho,hc,nW,hd⟩:=pl;simp only at hc nW hd;subst hc;subst nW;subst hd;have qS:(ps.map (·.1)).Nodup:=by
  rw[z3]
  have:=List.pairwise_map.mp nd
  exact List.pairwise_map.mpr (this.imp fun {a b} Oj e=>Oj (KG (by rw[e])))
 have jZ:ps.length<=sizeLine:=by
  have:=r'.length
  lia
 refine Rg (ps:=ps) (I1.ok.hd CG) (show X.A.units+1+1+6<cLine by lia) ho qS (fun j q hj=>by simpa using z5 j q hj) (by simp[z1,z2]) jZ (fun h' k q hq=>?_) fun h' tk k gd=>?_
 ·have ik:Inv X AD σ H1 { s1 with heap:=h' }:=I1.kept (t':=s1.toks) k;obtain⟨k1,k2⟩:=z4.keys q hq;exact IL ik k1 (k2.same AK)
 ·obtain⟨od,es,ep,g1,g2,g3,g4,g5,g6⟩:=gd;have hp:H1 s1.heap.objs.size=none:=I1.hok.fresh (Nat.le_refl _);obtain⟨E,O⟩:=XS (X:=X) o1 hp z4;refine⟨.ref s1.heap.objs.size,_,I1.laid (a:=s1.heap.objs.size) (o:=E7 s1.heap.objs.size ps) (t':=tk) k (Nat.le_refl _) (K2 ⟨beq_eq_false_iff_ne.mpr (Ne.symm (Nat.ne_of_lt (Inv.big I1))),jZ,g6,od,es,ep,g1,g2,g3,g4⟩),rfl,?_⟩;exact⟨.fn s1.heap.objs.size,_,e1.trans E,O,rfl,h _ (o1.free hp)⟩
end
section
variable {X:Cx}{ρ:Rho}{G:Gs}{a b c:Expr}{d:Dat}{pos:Pos}{x y:Str}
theorem Wv{p:Bool}(hc:PXT X ρ G c p)(ha:p=true->PX X ρ G a d)(hb:p=false->PX X ρ G b d):PX X ρ G (.IfExp c a b pos) d:=by
 intro AD s σ H I S;refine wpAny_IfExp (thn (hc AD s σ H I S) fun q s1 ⟨H1,I1,_,e1,o1,q1,q2⟩=>?_);subst q1;subst q2;cases q with
 |true=>exact thn (ha rfl AD s1 σ H1 I1 (S.ext e1 o1)) fun _ _ z=>EP.mono z fun _ _ y=>Po.trans e1 y
 |false=>exact thn (hb rfl AD s1 σ H1 I1 (S.ext e1 o1)) fun _ _ z=>EP.mono z fun _ _ y=>Po.trans e1 y
end
def L8(H H':Hp):Prop:=∀b o,H b=some o->H' b=some o\/∃φ,o=HO.ext φ
theorem iF{K:PySem.W.Frag}{H H':Hp}{a:Addr}{xs:List V}(e:L8 H H')(h:SqT K H a xs):SqT K H' a xs:=by
 rcases h with(h|⟨o,h⟩)|h
 ·rcases e _ _ h with h|⟨φ,h⟩
  ·exact .inl (.inl h)
  ·cases h
 ·rcases e _ _ h with h|⟨φ,h⟩
  ·exact .inl (.inr ⟨o,h⟩)
  ·cases h
 ·exact .inr h
theorem jG{K:PySem.W.Frag}{H H':Hp}{a:Addr}{xs:List V}(e:L8 H H')(h:SqL K H a xs):SqL K H' a xs:=by
 rcases h with(h|⟨o,h⟩)|h
 ·rcases e _ _ h with h|⟨φ,h⟩
  ·exact .inl (.inl h)
  ·cases h
 ·rcases e _ _ h with h|⟨φ,h⟩
  ·exact .inl (.inr ⟨o,h⟩)
  ·cases h
 ·exact .inr h
mutual
theorem Rep.x{K:PySem.W.Frag}{H H':Hp}(e:L8 H H'):∀{d:Dat}{v:V},Rep K H d v->Rep K H' d v
 |.non,_,h=>by simpa[Rep]using h
 |.bl _,_,h=>by simpa[Rep]using h
 |.int _,_,h=>by simpa[Rep]using h
 |.str _,_,h=>by simpa[Rep]using h
 |.fn _,_,h=>by simpa[Rep]using h
 |.scr _,_,h=>by
  obtain⟨a,h1,h2⟩:=(by simpa[Rep]using h:∃a,_=V.ref a/\SqL K H a _);rw[Rep];exact⟨a,h1,jG e h2⟩
 |.tup _,_,h=>by
  rw[Rep]at h ⊢;obtain⟨a,vs,h1,h2,h3⟩:=h;exact⟨a,vs,h1,iF e h2,RepL.x e h3⟩
 |.lst _,_,h=>by
  rw[Rep]at h ⊢;obtain⟨a,vs,h1,h2,h3⟩:=h;refine⟨a,vs,h1,?_,RepL.x e h3⟩;rcases e _ _ h2 with h|⟨φ,h⟩
  ·exact h
  ·cases h
theorem RepL.x{K:PySem.W.Frag}{H H':Hp}(e:L8 H H'):∀{ds:List Dat}{vs:List V},RepL K H ds vs->RepL K H' ds vs
 |[],_,h=>by rw[RepL]at h ⊢;exact h
 |_::_,_,h=>by
  rw[RepL]at h ⊢;obtain⟨v,r,h1,h2,h3⟩:=h;exact⟨v,r,h1,Rep.x e h2,RepL.x e h3⟩
end
theorem DRep.x{K:PySem.W.Frag}{H H':Hp}(e:L8 H H'):∀{AR:List (Dat×Dat)}{xs:List (Dat×Addr×Value)},DRep K H AR xs->DRep K H' AR xs
 |[],_,h=>h
 |_::_,_,⟨a,u,Mc,h1,h2,h3,⟨v,h4,h5⟩,h6⟩=>⟨a,u,Mc,h1,h2,h3.x e,⟨v,h4,h5.x e⟩,DRep.x e h6⟩
theorem OwnOk.x{K:PySem.W.Frag}{H H':Hp}{G G':Gs}{a:Addr}{o:OD}(h:OwnOk K H G a o)(e:L8 (hid H G) (hid H' G'))(q:H' a=H a):OwnOk K H' G' a o:=by
 cases o with
 |lst l=>
  obtain⟨vs,h1,h2⟩:=h;exact⟨vs,q.trans h1,h2.x e⟩
 |dct AR=>
  obtain⟨xs,h1,h2⟩:=h;exact⟨xs,q.trans h1,h2.x e⟩
def exO(p:Addr)(o:Obj):HO:=.ext fun h=>h.get? p=some o
theorem dD{P:Program}{w:World}{H:Hp}{h:Heap}{p:Addr}{o:Obj}(e:h.get? p=some o):ObjOk P w H h p (exO p o):=⟨e,⟨o,e⟩,fun _ _ q k=>k _ q⟩
def ItO(p:Addr)(o:Obj)(vs:List V):It:=⟨fun i H=>H p=some (exO p o)/\i<vs.length,fun i H x H'=>H'=H/\vs[i]?=some x,fun i H=>H p=some (exO p o)/\vs.length=i⟩
theorem Wo{P:Program}{w:World}{K:PySem.W.Frag}{tg:Expr}{p it:Addr}{o:Obj}{vs:List V}{AY:List Value}{n:Nat}(hv:Vals vs AY)(br:o.cls=.type "list")(PV:o.data=.seq AY.toArray n):Turn P w K tg (ItO p o vs) [it] it (fun i h=>h.IsListIter it p i) where
 mem:=by simp
 obj:=fun i h st b hb=>by
  have e:b=it:=by simpa using hb
  subst e;obtain⟨o,e,c,d⟩:=st;exact⟨o,e,fun v z=>by rw[d]at z;cases z⟩
 keep:=fun i h h' st k=>st.at fun o e=>k it (by simp) o e
 item:=by
  intro X hP hw hK hc i AD s σ H E I hf st hg;subst hP hw hK;obtain⟨hp,hi⟩:=hg;obtain⟨e,_,_⟩:=(show ObjOk X.prog X.w H s.heap p (exO p o)from I.hok p _ hp);obtain⟨f0,f1,f2,f3,f4,f5⟩:=hf it (by simp);have hx:vs[i]?=some vs[i]:=List.getElem?_eq_getElem hi;obtain⟨u,hu,ru⟩:=hv.get hx;refine wpAny_pyNext_list_item st (items:=AY.toArray) ⟨o,e,br,n,PV⟩ (x:=u) (by simpa using hu) fun h' AX sb=>?_;have I1:Inv X AD σ H { s with heap:=h' }:=I.turned (t':=s.toks) (fun b o hb e=>(sb.2 b hb).trans e) f0 f1 f3 f4 f5;obtain⟨o,e,c,d⟩:=id AX;exact⟨u,rfl,Pm (s:={ s with heap:=h' }) e c d (by decide) ⟨vs[i],H,I1,ru,⟨rfl,hx⟩,AX,fun b hb=>(hf b hb).1⟩⟩
 done:=by
  intro X hP hw hK hc i AD s σ H E I hf st hg;subst hP hw hK;obtain⟨hp,rfl⟩:=hg;obtain⟨e,_,_⟩:=(show ObjOk X.prog X.w H s.heap p (exO p o)from I.hok p _ hp);obtain⟨f0,f1,f2,f3,f4,f5⟩:=hf it (by simp);have hl:=hv.length;exact wpAny_pyNext_list_end (I.ok.hd hc) st (items:=AY.toArray) ⟨o,e,br,n,PV⟩ (by simp;lia) fun h' eb=>⟨rfl,I.turned (t':=s.toks) (fun b o hb e=>eb b o hb e) f0 f1 f3 f4 f5⟩
 self:=fun _ _ _ _ _ st h=>wpAny_pyIter_listiter st h
section
variable {X:Cx}{ρ:Rho}{G:Gs}{a:Expr}{pos pp:Pos}{l:List Dat}{i:Int}
theorem YC{Q:Dat->Gs->Prop}(hm:X.mg "list"=none)(ha:PX X ρ G a (.tup l))(q:∀p,G p=none->Q (.fn p) (put G p (.lst l)))(hg:Gl X "list":=by rfl)(he:starEach [a] X.env=(false,eval a X.env)::starEach [] X.env:=by rfl):WE X ρ G (.Call (.Name "list" pp) [a] [] pos) Q:=Bn (Mh JG hg hm (by decide +kernel) (BG Ax Cb he) (by decide) (by decide) he rfl) fun σ H S=>⟨ρ,G,_,ha,S,fun x H1 ⟨_,_,e1,o1,r1,q1,BX⟩=>by
  subst q1;subst BX;rw[Rep]at r1;obtain⟨p,vs,e,h1,r1⟩:=r1;refine⟨p,vs,by rw[e],.inr (Av AK h1),fun t ht=>?_⟩;obtain⟨E,O⟩:=Nu o1 ht r1;exact⟨.fn t,_,e1.trans E,O,rfl,q t (o1.free ht)⟩⟩
end
section
variable {prog:Program}{w:World}{A:Around}{E:Value->Shared->Prop}{h:Heap}{g:Array GenState}{d:Drawn}{t:Nat}{os:OsState}{a:Addr}{o:Obj}
 {nm q:Str} {C N:Addr} {bs bm:List Value} {pq:Bool} {sn:List Str} {sub:List Value} {ab:Bool} {col:Option Bool} {dd:Option Addr} {k0 k1 k2 k3 k5:Option Value} {newId:String}
end
def Tx:SpD:=fun ds G R=>∃F:List Sq,ds=[fl F]/\F.length<=1000/\F.Pairwise AQ/\R (.bl true) G
def tri(t:Sq×Sq×Sq):Dat:=.tup [sq t.1,sq t.2.1,sq t.2.2]
def TR:SpD:=fun ds G R=>∃c:Sq,ds=[sq c]/\R (.lst ((KH c).map tri)) G
def TU:SpD:=fun ds G R=>∃c:Sq,ds=[sq c]/\R (.bl ((c.1+c.2)%2==0)) G
def Pz:SpD:=fun ds G R=>∃(F:List Sq)(l:Lay)(a b:Sq),ds=[fl F,lay l,sq a,sq b]/\R (.bl (M4 F l a b)) G
def Qd:SpD:=fun ds G R=>∃(F:List Sq)(l:Lay)(c:Sq),ds=[fl F,lay l,sq c]/\R (.lst ((EK F l c).map pi)) G
def eH(i j k:Nat):Dat->Rho->Option Rho:=fun d ρ=>match d with
 |.tup [a,b,c]=>some (((ρ.set i (some a)).set j (some b)).set k (some c))
 |_=>none
section
variable {X:Cx}{pos:Pos}
theorem Zh(i j k:Nat){x y z:Str}{px py pz:Pos}{n:Nat}(hc:X.calm=true)(hN:X.N.Nodup)(hi:X.N[i]?=some x:=by rfl)(hj:X.N[j]?=some y:=by rfl)(hk:X.N[k]?=some z:=by rfl)(hx:Loc X.env.scope x:=by first|exact Or.inl rfl|exact Or.inr rfl)(hy:Loc X.env.scope y:=by first|exact Or.inl rfl|exact Or.inr rfl)(hz:Loc X.env.scope z:=by first|exact Or.inl rfl|exact Or.inr rfl)(kA:X.fn x=true\/X.env.scope.names.lookup x=some .local:=by first|exact .inl rfl|exact .inr rfl|assumption)(l4:X.fn y=true\/X.env.scope.names.lookup y=some .local:=by first|exact .inl rfl|exact .inr rfl|assumption)(rX:X.fn z=true\/X.env.scope.names.lookup z=some .local:=by first|exact .inl rfl|exact .inr rfl|assumption):PGD X (.Tuple [.Name x px,.Name y py,.Name z pz] n pos) (eH i j k):=by
 intro AD s σ H v u ρ ρ' G d I r S q e;cases d<;>simp only[eH,reduceCtorEq]at e;rename_i l
 match l,e,q with
 |[a,b,c],e,q=>
  simp only[Option.some.injEq]at e;subst e;rw[Rep]at q;obtain⟨p,vs,rfl,h1,h2⟩:=q;rw[RepL]at h2;obtain⟨v1,r1,rfl,q1,h2⟩:=h2;rw[RepL]at h2;obtain⟨v2,r2,rfl,q2,h2⟩:=h2;rw[RepL]at h2;obtain⟨v3,r3,rfl,q3,h2⟩:=h2;rw[RepL]at h2;subst h2;exact Y2 (n:=3) hc (Gn (HH hN hi hx kA) (Gn (HH hN hj hy l4) (Gn (HH hN hk hz rX) Tc))) rfl rfl AD s σ H (.ref p) u (fun σ' H'=>Ext H G H' G/\Stt X H' σ' _ G) I r
   ⟨p,[v1,v2,v3],rfl,Av AK h1,rfl,v1,[v2,v3],rfl,v2,[v3],rfl,v3,[],rfl,rfl,Ext.refl,((S.set q1).set q2).set q3⟩
 |[],e,_=>simp at e
 |[_],e,_=>simp at e
 |[_,_],e,_=>simp at e
 |_::_::_::_::_,e,_=>simp at e
end
section
mutual
def nol:Dat->Bool
 |.non=>true
 |.bl _=>true
 |.int _=>true
 |.str _=>true
 |.tup l=>OS l
 |_=>false
def OS:List Dat->Bool
 |[]=>true
 |d::r=>nol d&&OS r
end
def QB(H H':Hp):Prop:=∀b o,H b=some o->(∀vs,o≠.lst vs)->H' b=some o
theorem NL{K:PySem.W.Frag}{H H':Hp}{a:Addr}{xs:List V}(e:QB H H')(h:SqT K H a xs):SqT K H' a xs:=by
 rcases h with(h|⟨o,h⟩)|h
 ·exact .inl (.inl (e _ _ h nofun))
 ·exact .inl (.inr ⟨o,e _ _ h nofun⟩)
 ·exact .inr h
mutual
theorem Rep.nol{K:PySem.W.Frag}{H H':Hp}(e:QB H H'):∀{d:Dat}{v:V},nol d=true->Rep K H d v->Rep K H' d v
 |.non,_,_,h=>h
 |.bl _,_,_,h=>h
 |.int _,_,_,h=>h
 |.str _,_,_,h=>h
 |.fn _,_,_,h=>h
 |.tup _,_,f,⟨a,vs,h1,h2,h3⟩=>⟨a,vs,h1,NL e h2,RepL.nol e f h3⟩
theorem RepL.nol{K:PySem.W.Frag}{H H':Hp}(e:QB H H'):∀{ds:List Dat}{vs:List V},OS ds=true->RepL K H ds vs->RepL K H' ds vs
 |[],_,_,h=>h
 |_::_,_,f,⟨v,r,h1,h2,h3⟩=>⟨v,r,h1,Rep.nol e (Bool.and_eq_true_iff.mp f).1 h2,RepL.nol e (Bool.and_eq_true_iff.mp f).2 h3⟩
end
section
variable {X:Cx}{AD:List (Addr×Obj)}{σ:St}{H:Hp}{s:Shared}
mutual
theorem Rep.one(I:Inv X AD σ H s):∀{d e:Dat}{v:V},TF.nol d=true->TF.nol e=true->Rep X.K H d v->Rep X.K H e v->d=e
 |.non,e,v,_,f,h,h'=>by cases h;cases e<;>simp_all[Rep,TF.nol]
 |.bl _,e,v,_,f,h,h'=>by cases h;cases e<;>simp_all[Rep,TF.nol]
 |.int _,e,v,_,f,h,h'=>by cases h;cases e<;>simp_all[Rep,TF.nol]
 |.str _,e,v,_,f,h,h'=>by cases h;cases e<;>simp_all[Rep,TF.nol]
 |.tup l,.tup l',v,f,f',⟨a,vs,h1,h2,h3⟩,⟨a',MP,PD,RW,fF⟩=>by
  subst h1;cases PD;have e:=I.tuple_inj h2 RW;subst e;rw[RepL.one I f f' h3 fF]
 |.tup l,.non,v,f,f',⟨a,vs,h1,h2,h3⟩,h'=>by subst h1;cases h'
 |.tup l,.bl _,v,f,f',⟨a,vs,h1,h2,h3⟩,h'=>by subst h1;cases h'
 |.tup l,.int _,v,f,f',⟨a,vs,h1,h2,h3⟩,h'=>by subst h1;cases h'
 |.tup l,.str _,v,f,f',⟨a,vs,h1,h2,h3⟩,h'=>by subst h1;cases h'
theorem RepL.one(I:Inv X AD σ H s):∀{ds es:List Dat}{vs:List V},OS ds=true->OS es=true->RepL X.K H ds vs->RepL X.K H es vs->ds=es
 |[],[],_,_,_,_,_=>rfl
 |[],_::_,_,_,_,h,⟨_,_,h1,_⟩=>by cases h;cases h1
 |_::_,[],_,_,_,⟨_,_,h1,_⟩,h=>by cases h;cases h1
 |_::_,_::_,_,f,f',⟨v,r,h1,h2,h3⟩,⟨v',r',PD,RW,fF⟩=>by
  subst h1;cases PD;rw[Rep.one I (Bool.and_eq_true_iff.mp f).1 (Bool.and_eq_true_iff.mp f').1 h2 RW,RepL.one I (Bool.and_eq_true_iff.mp f).2 (Bool.and_eq_true_iff.mp f').2 h3 fF]
end
theorem Vy(I:Inv X AD σ H s){a:Addr}{xs ys:List V}(h:SqT X.K H a xs)(h':H a=some (.lst ys)):False:=by obtain⟨AY,_,⟨o,e,c,_⟩,_⟩:=I.tuple h;obtain⟨_,_,_,_,_,e'⟩:=I.lstM h';rw[e]at e';cases e';injection c with c;exact absurd c (by decide)
end
def okV:V->Bool
 |.byt _=>false
 |.flt _=>false
 |.ty _=>false
 |_=>true
def raw:V->Dat
 |.bl b=>.bl b
 |.int i=>.int i
 |.str x=>.str x
 |.ref a=>.fn a
 |_=>.non
theorem UW{K:PySem.W.Frag}{H:Hp}{v:V}(h:okV v=true):Rep K H (raw v) v:=by cases v<;>first|rfl|cases h
theorem Zk{K:PySem.W.Frag}{H:Hp}{v u:V}(h:okV v=true)(r:Rep K H (raw v) u):u=v:=by cases v<;>first|exact r|cases h
theorem LC{K:PySem.W.Frag}{H:Hp}{f:V->Dat}:∀{vs:List V},(∀v∈vs,Rep K H (f v) v)->RepL K H (vs.map f) vs
 |[],_=>RepL.nil
 |_::_,h=>RepL.cons (h _ (List.mem_cons_self ..)) (LC fun v hv=>h v (List.mem_cons_of_mem _ hv))
theorem PL{K:PySem.W.Frag}{H:Hp}:∀{vs us:List V},vs.all okV=true->RepL K H (vs.map raw) us->us=vs
 |[],_,_,h=>h
 |v::vs,_,f,⟨u,r,h1,h2,h3⟩=>by
  rw[List.all_cons,Bool.and_eq_true]at f;rw[h1,Zk f.1 h2,PL f.2 h3]
theorem Rep.okV{K:PySem.W.Frag}{H:Hp}{d:Dat}{v:V}(h:Rep K H d v):okV v=true:=by
 cases d with
 |scr _=>obtain⟨a,rfl,_⟩:=h;rfl
 |tup _=>obtain⟨a,_,rfl,_⟩:=h;rfl
 |lst _=>obtain⟨a,_,rfl,_⟩:=h;rfl
 |_=>cases h;rfl
theorem RepL.okV{K:PySem.W.Frag}{H:Hp}:∀{ds:List Dat}{vs:List V},RepL K H ds vs->vs.all TF.okV=true
 |[],_,h=>by cases h;rfl
 |_::_,_,⟨_,_,h1,h2,h3⟩=>by rw[h1,List.all_cons,h2.okV,h3.okV];rfl
open Classical in
def conv(K:PySem.W.Frag)(H:Hp)(v:V):Dat:=if h:∃d,TF.nol d=true/\Rep K H d v then h.choose else raw v
theorem LY{K:PySem.W.Frag}{H:Hp}{v:V}(h:∃d,TF.nol d=true/\Rep K H d v):TF.nol (conv K H v)=true/\Rep K H (conv K H v) v:=by unfold conv;rw[dif_pos h];exact h.choose_spec
theorem Q9{K:PySem.W.Frag}{H:Hp}{v:V}(h:¬∃d,TF.nol d=true/\Rep K H d v):conv K H v=raw v:=by unfold conv;rw[dif_neg h]
theorem Qo{K:PySem.W.Frag}{H H':Hp}{v:V}(e:QB H H')(h:okV v=true):Rep K H' (conv K H v) v:=by
 by_cases q:∃d,TF.nol d=true/\Rep K H d v
 ·obtain⟨f,r⟩:=LY q;exact r.nol e f
 ·rw[Q9 q];exact UW h
def Dp(H:Hp):Gs:=fun b=>match H b with
 |some (.lst vs)=>if vs.all okV=true then some (.lst (vs.map raw))else none
 |_=>none
theorem Ls{H:Hp}{b:Addr}{vs:List V}(h:H b=some (.lst vs))(k:vs.all okV=true):Dp H b=some (.lst (vs.map raw)):=by unfold Dp;rw[h];exact if_pos k
theorem JX{H:Hp}{b:Addr}{o:OD}(h:Dp H b=some o):∃vs,H b=some (.lst vs)/\vs.all okV=true/\o=.lst (vs.map raw):=by
 unfold Dp at h;split at h
 ·rename_i vs hb;by_cases k:vs.all okV=true
  ·rw[if_pos k]at h;cases h;exact⟨vs,hb,k,rfl⟩
  ·rw[if_neg k]at h;cases h
 ·cases h
theorem HU{H:Hp}{G:Gs}(h:∀b o,G b=some o->∃vs,H b=some (.lst vs)):QB H (hid H G):=fun b o hb n=>by
 cases q:G b with
 |none=>exact Fn q hb
 |some u=>
  obtain⟨vs,e⟩:=h b u q;rw[hb]at e;exact absurd (Option.some.inj e) (n vs)
theorem Vc{K:PySem.W.Frag}{H:Hp}:GOk K H (Dp H):=fun b o h=>by
 obtain⟨vs,h1,h2,rfl⟩:=JX h;exact⟨vs,h1,LC fun v hv=>UW (List.all_eq_true.mp h2 v hv)⟩
def Hl(K:PySem.W.Frag)(H H':Hp):Gs:=fun b=>match H b,H' b with
 |none,some (.lst vs)=>if vs.all okV=true then some (.lst (vs.map (conv K H')))else none
 |_,_=>none
theorem JJ{K:PySem.W.Frag}{H H':Hp}{b:Addr}{o:OD}(h:Hl K H H' b=some o):∃vs,H b=none/\H' b=some (.lst vs)/\vs.all okV=true/\o=.lst (vs.map (conv K H')):=by
 unfold Hl at h;split at h
 ·rename_i vs h1 h2;by_cases k:vs.all okV=true
  ·rw[if_pos k]at h;cases h;exact⟨vs,h1,h2,k,rfl⟩
  ·rw[if_neg k]at h;cases h
 ·cases h
theorem TN{K:PySem.W.Frag}{H H':Hp}{b:Addr}{vs:List V}(h1:H b=none)(h2:H' b=some (.lst vs))(k:vs.all okV=true):Hl K H H' b=some (.lst (vs.map (conv K H'))):=by unfold Hl;rw[h1,h2];exact if_pos k
theorem ah{K:PySem.W.Frag}{H H':Hp}:GOk K H' (Hl K H H'):=fun b o h=>by
 obtain⟨vs,_,h2,k,rfl⟩:=JJ h;refine⟨vs,h2,LC fun v hv=>Qo (HU fun b o q=>?_) (List.all_eq_true.mp k v hv)⟩;obtain⟨us,_,z,_⟩:=JJ q;exact⟨us,z⟩
def vw:Nat->Gs->Dat->Option Dat
 |0,_,d=>if nol d=true then some d else none
 |n+1,G,d=>if nol d=true then some d else match d with
  |.fn a=>match G a with
   |some (.lst l)=>(l.mapM (vw n G)).map .lst
   |_=>none
  |_=>none
def LQ:Nat->Dat->Bool
 |0,d=>nol d
 |n+1,d=>nol d||match d with
  |.lst l=>l.all (LQ n)
  |_=>false
theorem GP{n:Nat}{G:Gs}{d:Dat}(h:nol d=true):vw n G d=some d:=by cases n<;>unfold vw<;>rw[if_pos h]
theorem Q2{f:V->Dat}{g:Dat->Option Dat}{K:PySem.W.Frag}{H:Hp}:∀{ds:List Dat}{vs:List V},(∀d v,d∈ds->Rep K H d v->g (f v)=some d)->RepL K H ds vs->(vs.map f).mapM g=some ds
 |[],_,_,h=>by cases h;rfl
 |d::ds,_,k,⟨v,r,h1,h2,h3⟩=>by
  rw[h1,List.map_cons,List.mapM_cons,k d v (List.mem_cons_self ..) h2,Q2 (fun d v hd=>k d v (List.mem_cons_of_mem _ hd)) h3];rfl
section
variable {X:Cx}{AD:List (Addr×Obj)}{σ:St}{H H':Hp}{s:Shared}
theorem Zr(I:Inv X AD σ H' s)(keep:∀b o,H b=some o->H' b=some o):∀{n:Nat}{d:Dat}{v:V},LQ n d=true->Rep X.K (hid H' (Dp H)) d v->vw n (Hl X.K H H') (conv X.K H' v)=some d:=by
 have fl:∀{n:Nat}{d:Dat}{v:V},nol d=true->Rep X.K (hid H' (Dp H)) d v->vw n (Hl X.K H H') (conv X.K H' v)=some d:=fun {n d v} f r=>by
  have r':=r.same AK;obtain⟨c1,c2⟩:=LY ⟨d,f,r'⟩;rw[Rep.one I c1 f c2 r',GP f]
 intro n
 induction n with
 |zero=>exact fun f r=>fl f r
 |succ n ih=>
  intro d v hn r;by_cases f:nol d=true
  ·exact fl f r
  unfold LQ at hn;rw[Bool.or_eq_true]at hn;rcases hn with hn|hn
  ·exact absurd hn f
  cases d with
  |lst l=>
   obtain⟨a,vs,rfl,h1,h2⟩:=r;obtain⟨g1,g2⟩:=JI h1;have Rl:¬∃d,TF.nol d=true/\Rep X.K H' d (.ref a):=by
    rintro⟨e,fe,re⟩;cases e with
    |tup l'=>
     obtain⟨a',us,e1,e2,_⟩:=re;cases e1;exact Vy I e2 g2
    |non=>cases re
    |bl _=>cases re
    |int _=>cases re
    |str _=>cases re
    |fn _=>cases fe
    |scr _=>cases fe
    |lst _=>cases fe
   rw[Q9 Rl];have ha:H a=none:=by
    cases q:H a with
    |none=>rfl
    |some o=>
     have z:=keep a o q;rw[g2]at z;cases z;rw[Ls q h2.okV]at g1;cases g1
   show vw (n+1) _ (.fn a)=_;unfold vw;rw[if_neg nofun];simp only[TN (K:=X.K) ha g2 h2.okV];rw[Q2 (fun d v hd rd=>ih (List.all_eq_true.mp hn d hd) rd) h2];rfl
  |_=>cases hn
end
end
section
variable {X:Cx}{ρ ρ':Rho}{e:Expr}
theorem XM{D:Dat->Prop}{Q:Dat->Gs->Prop}(h:∀G',WE X ρ' G' e fun d Lr=>Lr=G'/\D d)(hl:ρ'.length=ρ.length)(hρ:∀(i:Nat) d,ρ'[i]?=some (some d)->ρ[i]?=some (some d)/\nol d=true)(q:∀AD σ s H H' d v,Inv X AD σ H' s->(∀b o,H b=some o->H' b=some o)->Rep X.K (hid H' (Dp H)) d v->D d->∃x,Rep X.K (hid H' (Hl X.K H H')) x v/\Q x (Hl X.K H H')):WE X ρ g0 e Q:=by
 intro AD s σ H I S;have S':Stt X H σ ρ' (Dp H):=⟨fun i d hd=>by
  obtain⟨h1,f⟩:=hρ i d hd;obtain⟨v,hv,r⟩:=S.env i d h1;refine⟨v,hv,(r.same AK).nol (HU fun b o z=>?_) f⟩;obtain⟨vs,z1,_⟩:=JX z;exact⟨vs,z1⟩,hl.trans S.len,Vc⟩
 refine thn (h (Dp H) AD s σ H I S') fun u s1 ⟨v,H',I',ru,d,Lr,E,O,R,e',hD⟩=>?_;subst e';have keep:∀b o,H b=some o->H' b=some o:=fun b o hb=>by
  cases z:Dp H b with
  |none=>exact E.keep b o hb z
  |some w=>
   obtain⟨vs,h1,h2,rfl⟩:=JX z;obtain⟨us,h3,h4⟩:=O b _ z;rw[PL h2 h4]at h3;rw[h3,<-h1,hb]
 obtain⟨x,rx,hx⟩:=q AD σ s1 H H' d v I' keep R hD;exact⟨v,H',I',ru,x,_,⟨fun b o hb _=>keep b o hb,fun b hb=>.inr (by
  cases z:Hl X.K H H' b with
  |none=>exact absurd z hb
  |some w=>obtain⟨_,z1,_⟩:=JJ z;exact z1)⟩,ah,rx,hx⟩
theorem XZ{D:Dat->Prop}{Q:Dat->Gs->Prop}{n:Nat}(h:∀G',WE X ρ' G' e fun d Lr=>Lr=G'/\D d)(hl:ρ'.length=ρ.length)(hρ:∀(i:Nat) d,ρ'[i]?=some (some d)->ρ[i]?=some (some d)/\nol d=true)(hn:∀d,D d->LQ n d=true)(q:∀x G d,D d->vw n G x=some d->Q x G):WE X ρ g0 e Q:=XM h hl hρ fun AD σ s H H' d v I keep R hD=>⟨_,Qo (HU fun b o z=>by
  obtain⟨vs,_,z1,_⟩:=JJ z;exact⟨vs,z1⟩) R.okV,q _ _ d hD (Zr I keep (hn d hD) R)⟩
theorem P1{AD:List (Addr×Obj)}{σ:St}{H:Hp}{s:Shared}(I:Inv X AD σ H s):∀{ds:List Dat}{vs:List V},OS ds=true->RepL X.K H ds vs->vs.map (conv X.K H)=ds
 |[],_,_,h=>by cases h;rfl
 |d::ds,_,f,⟨v,r,h1,h2,h3⟩=>by
  obtain⟨f1,f2⟩:=Bool.and_eq_true_iff.mp f;obtain⟨c1,c2⟩:=LY ⟨d,f1,h2⟩;rw[h1,List.map_cons,Rep.one I c1 f1 c2 h2,P1 I f2 h3]
theorem Vr{D:Dat->Prop}{Q:Dat->Gs->Prop}(h:∀G',WE X ρ' G' e fun d Lr=>Lr=G'/\D d)(hl:ρ'.length=ρ.length)(hρ:∀(i:Nat) d,ρ'[i]?=some (some d)->ρ[i]?=some (some d)/\nol d=true)(hn:∀d,D d->∃x C,d=.tup [.str x,.lst C]/\OS C=true)(q:∀x C a G,D (.tup [.str x,.lst C])->G a=some (.lst C)->Q (.tup [.str x,.fn a]) G):WE X ρ g0 e Q:=XM h hl hρ fun AD σ s H H' d v I keep R hD=>by
  obtain⟨x,C,rfl,fC⟩:=hn d hD;obtain⟨t,vs,rfl,hT,v1,r1,rfl,e1,v2,r2,rfl,⟨a,us,rfl,h1,h2⟩,e2⟩:=R;cases e1;cases e2;obtain⟨g1,g2⟩:=JI h1;have ha:H a=none:=by
   cases z:H a with
   |none=>rfl
   |some o=>
    have y:=keep a o z;rw[g2]at y;cases y;rw[Ls z h2.okV]at g1;cases g1
  refine⟨.tup [.str x,.fn a],⟨t,_,rfl,NL (HU fun b o z=>?_) (Av AK hT),_,_,rfl,rfl,_,_,rfl,rfl,rfl⟩,q x C a _ hD ?_⟩
  ·obtain⟨vs,_,z1,_⟩:=JJ z;exact⟨vs,z1⟩
  ·rw[TN ha g2 h2.okV,P1 I fC (h2.same AK)]
end
section
variable {X:Cx}{ρ:Rho}{G:Gs}{e a:Expr}{l:List Dat}{pos:Pos}{p:Addr}{D:DE}{rest:List Stmt}
theorem P8{pp:Pos}(hm:X.mg "list"=none)(ha:PX X ρ G a (.fn p))(hG:G p=some (.lst l))(hg:Gl X "list":=by rfl)(he:starEach [a] X.env=(false,eval a X.env)::starEach [] X.env:=by rfl):PX X ρ G (.Call (.Name "list" pp) [a] [] pos) (.lst l):=NB JG hg hm (by decide +kernel) ha (fun H x Q o r k=>by
  cases (show x=V.ref p from r);obtain⟨vs,h1,r1⟩:=o p _ hG;exact⟨p,vs,rfl,.inl (SqL.of h1),fun t ht=>k _ _ (HW o ht r1)⟩) (he:=he)
theorem UA{T:Str}{T':String}{pp p2:Pos}(hm:X.mg "isinstance"=none)(hT:X.mg T=none)(ha:PX X ρ G a (.fn p))(hG:G p=some (.lst l))(hb:bootBuiltins T=some (.type T'):=by decide +kernel)(lu:T'∈["bool","int","str","tuple","list"]:=by decide)(hg:Gl X "isinstance":=by rfl)(mB:Gl X T:=by rfl)(hn:T≠"__name__":=by decide)(MM:(T==("__debug__":Str))=false:=by decide)(he:starEach [a,.Name T p2] X.env=(false,eval a X.env)::starEach [.Name T p2] X.env:=by rfl):PX X ρ G (.Call (.Name "isinstance" pp) [a,.Name T p2] [] pos) (.bl (isS "list" T')):=Bn (Gb (Pj (d:=.lst l) rfl lu) hg hm (by decide +kernel) (BG Ax (BG (Ur (v:=.ty T') mB hT hb rfl hn MM) Cb) he) (by decide) (by decide) he rfl) fun σ H S=>⟨ρ,G,_,ha,S,fun x H1 ⟨_,_,e1,o1,r1,q1,BX⟩=>by
  subst q1;subst BX;cases (show x=V.ref p from r1);obtain⟨vs,h1,r2⟩:=o1 p _ hG;exact⟨_,rfl,⟨p,vs,rfl,h1,r2.same AK⟩,Po.trans e1 (Bc o1 rfl)⟩⟩
theorem M8{apos Aq:Pos}(hx:PX X ρ G a (.fn p))(hG:G p=some (.lst l))(q:WSs X ρ (put G p (.lst [])) rest D)(C9:attributeBase a "clear" X.env (eval a X.env)=eval a X.env:=by rfl)(CV:(apos.endLine==Aq.line)=true:=by rfl)(hs:swapsWith (.Call (.Attribute a "clear" apos) [] [] Aq) none pos.line X.env=pure false:=by rfl):WSs X ρ G (.Expr (.Call (.Attribute a "clear" apos) [] [] Aq) pos::rest) D:=BP (KP (Ij (RM PySem.F.plainAttrs_list PySem.F.slot_list_clear PySem.F.type_list_clear Xl Ax C9 CV) hs) fun σ H S=>⟨ρ,G,_,hx,S,fun x H1 ⟨_,_,e1,o1,r1,q1,BX⟩=>by
  subst q1;subst BX;cases (show x=V.ref p from r1);obtain⟨vs,h1,r2⟩:=o1 p _ hG;refine⟨.inl ⟨rfl,vs,SqL.of h1⟩,p,vs,rfl,rfl,h1,?_⟩;obtain⟨E,O⟩:=HV o1 hG (RepL.nil);exact⟨ρ,_,e1.trans E,S.ext (e1.trans E) O,q⟩⟩)
end
def Shr(G G':Gs):Prop:=∀b,G' b=G b\/((∃l,G b=some (.lst l))/\G' b=some (.lst []))
theorem Shr.refl{G:Gs}:Shr G G:=fun _=>.inl rfl
theorem Shr.trans{G G1 G2:Gs}(h:Shr G G1)(k:Shr G1 G2):Shr G G2:=fun b=>by
 rcases k b with e|⟨⟨l,h1⟩,h2⟩
 ·rw[e];exact h b
 ·rcases h b with e|⟨z,_⟩
  ·exact .inr ⟨⟨l,e▸h1⟩,h2⟩
  ·exact .inr ⟨z,h2⟩
theorem Shr.put{G:Gs}{p:Addr}{l:List Dat}(h:G p=some (.lst l)):Shr G (put G p (.lst [])):=fun b=>by
 by_cases e:b=p
 ·subst e;exact .inr ⟨⟨l,h⟩,AG⟩
 ·exact .inl (AL e)
theorem Shr.at{G G':Gs}(h:Shr G G'){p:Addr}{l:List Dat}(hp:G p=some (.lst l)):∃l',G' p=some (.lst l'):=by
 rcases h p with e|⟨_,e⟩
 ·exact⟨l,e.trans hp⟩
 ·exact⟨[],e⟩
theorem Jp{α β:Type}{f:α->Option β}{g:α->β}:∀{l:List α},(∀x∈l,f x=some (g x))->l.mapM f=some (l.map g)
 |[],_=>rfl
 |a::l,h=>by
  rw[List.mapM_cons,h a (List.mem_cons_self ..),Jp fun x hx=>h x (List.mem_cons_of_mem _ hx)];rfl
theorem Es{α β:Type}{f:α->Option β}:∀{l:List α}{r:List β},l.mapM f=some r->∀x∈l,∃y∈r,f x=some y
 |[],_,_,x,hx=>by cases hx
 |a::l,r,h,x,hx=>by
  rw[List.mapM_cons]at h;cases ha:f a with
  |none=>rw[ha]at h;cases h
  |some b=>
   cases hl:l.mapM f with
   |none=>rw[ha,hl]at h;cases h
   |some t=>
    rw[ha,hl]at h;cases h;rcases List.mem_cons.mp hx with rfl|hx
    ·exact⟨b,List.mem_cons_self ..,ha⟩
    ·obtain⟨y,h1,h2⟩:=Es hl x hx;exact⟨y,List.mem_cons_of_mem _ h1,h2⟩
theorem Cm{n:Nat}{G:Gs}{x d:Dat}(h:vw n G x=some d):(nol x=true/\x=d)\/∃m p l ds,n=m+1/\nol x=false/\x=.fn p/\G p=some (.lst l)/\l.mapM (vw m G)=some ds/\d=.lst ds:=by
 cases hf:nol x with
 |true=>rw[GP hf]at h;cases h;exact .inl ⟨rfl,rfl⟩
 |false=>
  have mv:¬nol x=true:=by rw[hf];exact nofun
  cases n with
  |zero=>unfold vw at h;rw[if_neg mv]at h;cases h
  |succ m=>
   unfold vw at h;rw[if_neg mv]at h;cases x with
   |fn p=>
    dsimp only at h;cases hG:G p with
    |none=>rw[hG]at h;cases h
    |some o=>
     rw[hG]at h;cases o with
     |dct _=>cases h
     |lst l=>
      dsimp only at h;cases hm:l.mapM (vw m G)with
      |none=>rw[hm]at h;cases h
      |some ds=>rw[hm]at h;cases h;exact .inr ⟨m,p,l,ds,rfl,rfl,rfl,hG,hm,rfl⟩
   |_=>cases h
theorem Oh{m:Nat}{G:Gs}{p:Addr}{l ds:List Dat}(hG:G p=some (.lst l))(h:l.mapM (vw m G)=some ds):vw (m+1) G (.fn p)=some (.lst ds):=by unfold vw;rw[if_neg nofun];simp only[hG];rw[h];rfl
theorem Shr.vw{G G':Gs}(h:Shr G G'):∀{n:Nat}{x d:Dat},vw n G x=some d->∃d',TF.vw n G' x=some d'
 |0,x,d,e=>by
  rcases Cm e with⟨f,_⟩|⟨m,_,_,_,z,_⟩
  ·exact⟨x,GP f⟩
  ·cases z
 |n+1,x,d,e=>by
  rcases Cm e with⟨f,_⟩|⟨m,p,l,ds,z,f,rfl,hG,hm,rfl⟩
  ·exact⟨x,GP f⟩
  ·cases z;rcases h p with q|⟨_,q⟩
   ·have:∀y∈l,TF.vw n G' y=some ((TF.vw n G' y).getD .non):=fun y hy=>by
     obtain⟨dy,_,h2⟩:=Es hm y hy;obtain⟨d',h3⟩:=Shr.vw h h2;rw[h3];rfl
    exact⟨_,Oh (q.trans hG) (Jp this)⟩
   ·exact⟨_,Oh (ds:=[]) q rfl⟩
theorem Nb{G:Gs}:∀{n:Nat}{x d:Dat}(k:Nat),vw n G x=some d->vw (n+k) G x=some d
 |0,x,d,k,e=>by
  rcases Cm e with⟨f,rfl⟩|⟨m,_,_,_,z,_⟩
  ·exact GP f
  ·cases z
 |n+1,x,d,k,e=>by
  rcases Cm e with⟨f,rfl⟩|⟨m,p,l,ds,z,f,rfl,hG,hm,rfl⟩
  ·exact GP f
  ·cases z;rw[Nat.add_right_comm];refine Oh hG ?_;have:∀{l ds:List Dat},l.mapM (vw n G)=some ds->l.mapM (vw (n+k) G)=some ds:=by
    intro l
    induction l with
    |nil=>exact fun h=>h
    |cons a l ih=>
     intro ds h;rw[List.mapM_cons]at h ⊢;cases ha:vw n G a with
     |none=>rw[ha]at h;cases h
     |some b=>
      cases hl:l.mapM (vw n G)with
      |none=>rw[ha,hl]at h;cases h
      |some t=>
       rw[ha,hl]at h;rw[Nb k ha,ih hl];exact h
   exact this hm
mutual
def dsz:Dat->Nat
 |.lst l=>ZO l+1
 |_=>0
def ZO:List Dat->Nat
 |[]=>0
 |d::r=>dsz d+ZO r
end
theorem Kr{e:Dat}:∀{ds:List Dat},e∈ds->dsz e<dsz (.lst ds)
 |d::ds,h=>by
  show dsz e<dsz d+ZO ds+1;rcases List.mem_cons.mp h with rfl|h
  ·lia
  ·have:dsz e<ZO ds+1:=Kr h;lia
theorem N8{G G':Gs}{p:Addr}{k:Nat}{d:Dat}(hp:vw k G (.fn p)=some d)(kn:∀b o,b≠p->G b=some o->G' b=some o):∀{n:Nat}{x e:Dat},vw n G x=some e->dsz e<dsz d->vw n G' x=some e
 |0,x,e,h,_=>by
  rcases Cm h with⟨f,rfl⟩|⟨m,_,_,_,z,_⟩
  ·exact GP f
  ·cases z
 |n+1,x,e,h,hs=>by
  rcases Cm h with⟨f,rfl⟩|⟨m,q,l,ds,z,f,rfl,hG,hm,rfl⟩
  ·exact GP f
  ·cases z;have hq:q≠p:=by
    rintro rfl;have h1:=Nb k h;have h2:=Nb (n+1) hp;rw[Nat.add_comm k]at h2;rw[h1]at h2;cases h2;lia
   refine Oh (kn q _ hq hG) ?_;have:∀{l ds:List Dat},(∀e∈ds,dsz e<dsz d)->l.mapM (vw n G)=some ds->l.mapM (vw n G')=some ds:=by
    intro l
    induction l with
    |nil=>exact fun _ h=>h
    |cons a l ih=>
     intro ds hs h;rw[List.mapM_cons]at h ⊢;cases ha:vw n G a with
     |none=>rw[ha]at h;cases h
     |some b=>
      cases hl:l.mapM (vw n G)with
      |none=>rw[ha,hl]at h;cases h
      |some t=>
       rw[ha,hl]at h;cases h;rw[N8 hp kn ha (hs b (List.mem_cons_self ..)),ih (fun e he=>hs e (List.mem_cons_of_mem _ he)) hl];rfl
   refine this (fun e he=>?_) hm;exact Nat.lt_trans (Kr he) hs
section
inductive Run {α:Type} (go:α->Option α):α->α->Prop
 |done {s:α}:go s=none->Run go s s
 |step {s t r:α}:go s=some t->Run go t r->Run go s r
theorem Run.one{α:Type}{go:α->Option α}{s r r':α}(h:Run go s r)(h':Run go s r'):r=r':=by
 induction h with
 |done e=>
  cases h' with
  |done _=>rfl
  |step e' _=>rw[e]at e';cases e'
 |step e _ ih=>
  cases h' with
  |done e'=>rw[e]at e';cases e'
  |step e' k=>rw[e]at e';cases e';exact ih k
def SM(t:PM):PM×Option Sq->Option (PM×Option Sq)
 |(_,none)=>none
 |(pm,some o)=>some (pt (pt pm ((lk t o).getD o) o) o ((lk t o).getD o),lk pm ((lk t o).getD o))
def MV(F:List Sq)(pm:PM)(s1:Sq):List Sq->List Sq->PM->List Sq×PM×Option Sq
 |[],L,t=>(L,t,none)
 |o::os,L,t=>if (F.contains o&&!(lk t o).isSome)=true then(match lk pm o with
  |none=>(L,t++[(o,s1)],some o)
  |some y=>MV F pm s1 os (L++[y]) (t++[(o,s1)]))else MV F pm s1 os L t
def Vf(F:List Sq)(pm:PM):(List Sq×PM×Option Sq)×Nat->Option ((List Sq×PM×Option Sq)×Nat)
 |((_,_,some _),_)=>none
 |((L,t,none),a)=>match L[a]? with
  |none=>none
  |some s1=>some (MV F pm s1 (nbM s1) L t,a+1)
theorem ig{t pm:PM}{o s:Sq}(h:lk t o=some s):SM t (pm,some o)=some (pt (pt pm s o) o s,lk pm s):=by show some (pt (pt pm ((lk t o).getD o) o) o ((lk t o).getD o),lk pm ((lk t o).getD o))=_;rw[h];rfl
theorem bp{F L:List Sq}{pm t:PM}{a:Nat}{s:Sq}(h:L[a]?=some s):Vf F pm ((L,t,none),a)=some (MV F pm s (nbM s) L t,a+1):=by show(match L[a]? with|none=>none|some s1=>some (MV F pm s1 (nbM s1) L t,a+1))=_;rw[h]
theorem cY{F L:List Sq}{pm t:PM}{a:Nat}(h:L.length=a):Vf F pm ((L,t,none),a)=none:=by show(match L[a]? with|none=>none|some s1=>some (MV F pm s1 (nbM s1) L t,a+1))=_;rw[List.getElem?_eq_none (Nat.le_of_eq h)]
def CuR(F:List Sq)(pm:PM)(st:Sq):PM ⊕ List Sq->Prop
 |.inl GB=>∃L t a o,Run (Vf F pm) (([st],[],none),0) ((L,t,some o),a)/\Run (SM t) (pm,some o) (GB,none)
 |.inr C=>∃L t a,Run (Vf F pm) (([st],[],none),0) ((L,t,none),a)/\C=TSq.sort L
theorem CuR.one{F:List Sq}{pm:PM}{st:Sq}{x y:PM ⊕ List Sq}(h:CuR F pm st x)(h':CuR F pm st y):x=y:=by
 cases x<;>cases y<;>obtain⟨L,t,a,h⟩:=h<;>obtain⟨L',t',a',h'⟩:=h'
 ·obtain⟨o,h1,h2⟩:=h;obtain⟨o',PD,RW⟩:=h';cases h1.one PD;cases h2.one RW;rfl
 ·obtain⟨o,h1,h2⟩:=h;cases h1.one h'.1
 ·obtain⟨o,h1,h2⟩:=h';cases h1.one h.1
 ·cases h.1.one h'.1;rw[h.2,h'.2]
inductive LaR (F:List Sq):List Sq->PM->List Sq->Prop
 |skip {x:Sq} {r:List Sq} {pm:PM} {C:List Sq}:(lk pm x).isSome=true->LaR F r pm C->LaR F (x::r) pm C
 |pair {x:Sq} {r:List Sq} {pm GB:PM} {C:List Sq}:lk pm x=none->CuR F pm x (.inl GB)->LaR F r GB C->LaR F (x::r) pm C
 |crowd {x:Sq} {r:List Sq} {pm:PM} {C:List Sq}:lk pm x=none->CuR F pm x (.inr C)->LaR F (x::r) pm C
theorem LaR.one{F:List Sq}{r:List Sq}{pm:PM}{C C':List Sq}(h:LaR F r pm C)(h':LaR F r pm C'):C=C':=by
 induction h with
 |skip e _ ih=>
  cases h' with
  |skip _ k=>exact ih k
  |pair e' _ _=>rw[e']at e;cases e
  |crowd e' _=>rw[e']at e;cases e
 |pair e c _ ih=>
  cases h' with
  |skip e' _=>rw[e]at e';cases e'
  |pair _ c' k=>cases c.one c';exact ih k
  |crowd _ c'=>cases c.one c'
 |crowd e c=>
  cases h' with
  |skip e' _=>rw[e]at e';cases e'
  |pair _ c' _=>cases c.one c'
  |crowd _ c'=>cases c.one c';rfl
open Classical in
def crQ(F:List Sq):List Sq:=if h:∃C,LaR F F [] C then h.choose else[]
theorem fM{F C:List Sq}(h:LaR F F [] C):crQ F=C:=by have e:∃C,LaR F F [] C:=⟨C,h⟩;unfold crQ;rw[dif_pos e];exact e.choose_spec.one h
def Ue:SpD:=fun ds G R=>∃(F:List Sq)(e st s:Sq)(mp pp:Addr)(pm t:PM)(L:List Sq)(j:Nat),ds=[sq e,.fn mp,.fn pp]/\mp≠pp/\G mp=some (.dct (kvS (t++[(e,s)])))/\G pp=some (.dct (kvS pm))/\F.length<=24 ∧
 Tr F (lk pm) st L t/\e∉t.map (·.1)/\lk pm e=none/\e∈F/\L[j]?=some s/\s∈nbM e/\MOk F (lk pm)/\lk pm st=none/\KeysIn F pm ∧
 ∀GB,KeysIn F GB->MOk F (lk GB)->(∀x,(lk GB x).isSome=true↔((lk pm x).isSome=true\/x=e\/x=st))->Run (SM (t++[(e,s)])) (pm,some e) (GB,none)->R .non (put G pp (.dct (kvS GB)))
def Qh:SpD:=fun ds G R=>∃(F:List Sq)(st:Sq)(pp:Addr)(pm:PM),ds=[fl F,sq st,.fn pp]/\G pp=some (.dct (kvS pm))/\F.length<=24/\st∈F/\MOk F (lk pm)/\lk pm st=none/\KeysIn F pm ∧
 (∀GB,KeysIn F GB->MOk F (lk GB)->(∀x,(lk pm x).isSome=true->(lk GB x).isSome=true)->(lk GB st).isSome=true->CuR F pm st (.inl GB)->R (.lst []) (put G pp (.dct (kvS GB)))) ∧
 ∀C,CrowdP F C->CuR F pm st (.inr C)->R (.lst (C.map sq)) G
def Of:SpD:=fun ds G R=>∃F:List Sq,ds=[fl F]/\F.Pairwise AQ/\F.length<=24/\(∀l,IsLay F l->R (.tup [.str "laid",lay l]) G)/\(CrowdP F (crQ F)->R (.tup [.str "crowd",.lst ((crQ F).map sq)]) G)
section
variable {F:List Sq}{l m:Lay}
open Classical in
def YX(p q:Sq->Sq)(x:Sq):Nat:=if h:∃k,Per p q x k then h.choose else 0
theorem bE{p q:Sq->Sq}{x:Sq}{k:Nat}(h:Per p q x k):YX p q x=k:=by
 have e:∃k,Per p q x k:=⟨k,h⟩;have s:=e.choose_spec;unfold YX;rw[dif_pos e];rcases Nat.lt_trichotomy e.choose k with g|g|g
 ·exact absurd s.back (h.min _ s.pos g)
 ·exact g
 ·exact absurd h.back (s.min _ h.pos g)
def rgG(l m:Lay)(s:List Sq×List (List Sq))(x:Sq):List Sq×List (List Sq):=if s.1.contains x=true then s else(s.1++B5 (pfM l) (pfM m) x (YX (pfM l) (pfM m) x),if 2<(B5 (pfM l) (pfM m) x (YX (pfM l) (pfM m) x)).length then s.2++[B5 (pfM l) (pfM m) x (YX (pfM l) (pfM m) x)]else s.2)
def Kw(l m:Lay)(F:List Sq):List (List Sq):=(F.foldl (rgG l m) ([],[])).2
structure RgI (F:List Sq) (l m:Lay) (S:List Sq):Prop where
 sub:∀x∈S,x∈F
 snd:S.Nodup
 cp:∀x∈S,pfM l x∈S
 cq:∀x∈S,pfM m x∈S
theorem RgI.nil:RgI F l m []:=⟨(fun _ h=>nomatch h),.nil,(fun _ h=>nomatch h),fun _ h=>nomatch h⟩
theorem RgI.next(nd:F.Nodup)(I:IsLay F l)(J:IsLay F m){S:List Sq}(H:RgI F l m S){s:Sq}(hs:s∈F)(hS:s∉S){k:Nat}(hk:Per (pfM l) (pfM m) s k):RgI F l m (S++B5 (pfM l) (pfM m) s k):=by
 have hp:=G6 nd I;have hq:=G6 nd J;refine⟨fun x h=>?_,?_,fun x h=>?_,fun x h=>?_⟩
 ·rcases List.mem_append.mp h with h|h
  ·exact H.sub x h
  ·exact Pc hp hq hs h
 ·rw[List.nodup_append];exact⟨H.snd,Uq hp hq hs hk,fun a ha b hb qK=>Xx hp hq hs H.cp H.cq hS hb (qK▸ha)⟩
 ·rcases List.mem_append.mp h with h|h
  ·exact List.mem_append_left _ (H.cp x h)
  ·exact List.mem_append_right _ (cn hp hq hs h)
 ·rcases List.mem_append.mp h with h|h
  ·exact List.mem_append_left _ (H.cq x h)
  ·exact List.mem_append_right _ (eN hp hq hs hk h)
end
def Pb:SpD:=fun ds G R=>∃(F:List Sq)(l m:Lay),ds=[lay l,lay m]/\F.Pairwise AQ/\F.length<=24/\IsLay F l/\IsLay F m/\R (NZ (Kw l m F)) G
open Classical in
def XX(F:List Sq):Bool:=if h:∃t:Int×Int×Int×Int,BB F t.1 t.2.1 t.2.2.1 t.2.2.2 then W7 F h.choose.1 h.choose.2.1 h.choose.2.2.1 h.choose.2.2.2 else false
def EV(F:List Sq):Bool:=Ym F&&(!XX F&&!LP F)
theorem YG{F:List Sq}(h:F≠[]):∃r0 r1 c0 c1,BB F r0 r1 c0 c1/\XX F=W7 F r0 r1 c0 c1:=by obtain⟨r0,r1,c0,c1,b⟩:=mL h;have e:∃t:Int×Int×Int×Int,BB F t.1 t.2.1 t.2.2.1 t.2.2.2:=⟨(r0,r1,c0,c1),b⟩;exact⟨_,_,_,_,e.choose_spec,by unfold XX;rw[dif_pos e]⟩
def hv(L:List (Sq×Int))(x:Sq):Option Int:=(L.find? fun p=>decide (p.1=x)).map (·.2)
def stG(x:Sq)(s:List Sq×List (Sq×Int))(p:Sq×Int):List Sq×List (Sq×Int):=if (hv s.2 p.1).isSome=true then s else(s.1++[p.1],s.2++[(p.1,(hv s.2 x).getD 0+p.2)])
def S4(F:List Sq)(l:Lay)(s:List Sq×List (Sq×Int)):Option (List Sq×List (Sq×Int)):=match s.1.getLast? with
 |none=>none
 |some x=>some ((EK F l x).foldl (stG x) (s.1.dropLast,s.2))
open Classical in
def htQ(F:List Sq)(l:Lay):List (Sq×Int):=if h:∃L,Run (S4 F l) ([F.headD (0,0)],[(F.headD (0,0),0)]) ([],L)then h.choose else[]
theorem eZ{F:List Sq}{l:Lay}{L:List (Sq×Int)}(h:Run (S4 F l) ([F.headD (0,0)],[(F.headD (0,0),0)]) ([],L)):htQ F l=L:=by have e:∃L,Run (S4 F l) ([F.headD (0,0)],[(F.headD (0,0),0)]) ([],L):=⟨L,h⟩;unfold htQ;rw[dif_pos e];cases e.choose_spec.one h;rfl
def kvP(q:Sq×Int):Dat×Dat:=(sq q.1,.int q.2)
theorem Ir(L:List (Sq×Int))(y:Sq):Ac (L.map kvP) (sq y)=(hv L y).map .int:=by
 unfold Ac hv
 induction L with
 |nil=>rfl
 |cons a r ih=>
  rw[List.map_cons,List.find?_cons,List.find?_cons];by_cases h:a.1=y
  ·have e:(kvP a).1=sq y:=congrArg sq h;simp only[decide_eq_true h,decide_eq_true e];rfl
  ·have e:¬(kvP a).1=sq y:=fun z=>h (EX z);simp only[decide_eq_false h,decide_eq_false e];exact ih
theorem X0{L:List (Sq×Int)}{y:Sq}:(hv L y).isSome=true↔y∈L.map (·.1):=by unfold hv;rw[Option.isSome_map,List.find?_isSome];simp
def b7:SpD:=fun ds G R=>∃(F:List Sq)(l:Lay),ds=[fl F,lay l]/\Good F/\EV F=true/\R (.lst ((TPi.sort (htQ F l)).map pi)) G
def Y1:SpD:=fun ds G R=>∃F:List Sq,ds=[fl F]/\F≠[]/\F.Pairwise AQ/\F.length<=24/\(A8 F).length<=200/\R (.lst ((A8 F).map lay)) G
def UT:SpD:=fun ds G R=>∃(l:Lay)(q:Sq),ds=[lay l,sq q]/\l.length<=1000/\D5 l q=true/\R (lay (Cw l (CL q))) G
def W4:SpD:=fun ds G R=>∃(l:Lay)(p:Addr),ds=[.fn p,lay l]/\G p=some (.dct [(lay l,.non)])/\R (.lst []) G
def UJ:SpD:=fun ds G R=>∃(F:List Sq)(l:Lay),ds=[fl F,lay l,lay l]/\F.Pairwise AQ/\F.length<=24/\(A8 F).length<=200/\R (.lst []) G
def D6(F:List Sq)(l m:Lay):List Dat:=[.lst ((FY F).map AU),.lst ((Cn l).map sq),NZ (Kw l m F),.lst ((A8 F).map lay)]++((if EV F=true then[.lst ((TPi.sort (htQ F l)).map pi)]else[])++[.lst []])
def TY:SpD:=fun ds G R=>∃(F:List Sq)(l m:Lay),ds=[fl F,lay l,lay m]/\Good F/\IsLay F l/\IsLay F m/\(A8 F).length<=200/\R (.lst (D6 F l m)) G
def N4(n:Nat):SpD:=fun ds G R=>∃x d,ds=[x]/\vw n G x=some d/\R d G
def Ta(n:Nat):SpD:=fun ds G R=>∃x d,ds=[x]/\vw n G x=some d/\∀G',Shr G G'->R .non G'
def Ui:SpD:=fun ds G R=>∃ns:List Int,ds=[.scr ns]/\G=g0/\∀G',R (.bl true) G'
end
section
variable {X:Cx}{ρ:Rho}{G:Gs}{elt AN An:Expr}{scope:Scope}{Aq:Pos}{Nc:List Str}{caps:List (Option Nat)}{f:Dat->Rho->Option Rho}{p:Addr}{l:List Dat}
theorem Q4(g:Dat->Dat)(Sc:CompSc X scope Nc caps)(CG:X.calm=true)(ha:PX X ρ G An (.fn p))(hG:G p=some (.lst l))(hg:∀C s' H' fp,PGD (Ag X Nc scope C s' H' fp) AN f)(hle:∀d ρ',f d (BI caps ρ)=some ρ'->ρ'.length=(BI caps ρ).length/\∀(j:Nat) e,(BI caps ρ)[j]?=some (some e)->ρ'[j]?=some (some e))(CW:∀C s' H' fp G' d,d∈l->(∀b o,b≠p->G b=some o->G' b=some o)->∃ρ',f d (BI caps ρ)=some ρ'/\PX (Ag X Nc scope C s' H' fp) ρ' G' elt (g d))(Mq:∀x,foldedSetIterable An X.env x=pure x:=by intro _;rfl) :
  PX X ρ G (.ListComp elt [⟨AN,An,[],0⟩] scope Aq) (.lst (l.map g)):=by
 intro AD s σ H I S;rw[eval_ListComp];refine wpAny_comprehension_free (use:=none) rfl Mq (ER fun x hx hf=>I.ok.has x.1 (Sc.free x hx hf)) Sc.kind Sc.names ?_;refine thn (ha AD s σ H I S) fun v s1 ⟨x,H1,I1,rx,_,G1,e1,o1,r1,q1,BX⟩=>?_;subst q1;subst BX;cases (show x=V.ref p from r1);cases rx;obtain⟨vs,hp,dr⟩:=o1 p _ hG;obtain⟨oC,AY,n,hv,pl⟩:=(show ObjOk X.prog X.w H1 s1.heap p (.lst vs)from I1.hok p _ hp);obtain⟨o,ho⟩:∃o:Obj,o={ cls:=Value.type "list",data:=Data.seq AY.toArray n }:=⟨_,rfl⟩;have br:o.cls=.type "list":=by rw[ho]
 have PV:o.data=.seq AY.toArray n:=by rw[ho]
 rw[<-ho]at pl;have ll:l.length=vs.length:=dr.length.symm;have hz:l.length<=sizeLine:=by rw[ll];exact oC
 refine wpAny_pyIter_list (items:=AY.toArray) ⟨o,pl,br,n,PV⟩ ?_;have cN:∀b,G1 b=none->b≠p:=fun b h e=>by subst e;rw[hG]at h;cases h
 have fm:∀b,b≠p->upd H1 p (exO p o) b=H1 b:=fun b hb=>Al hb;have E2:Ext H1 G1 (upd H1 p (exO p o)) (rel G1 p):=⟨fun b u e h=>by rw[fm b (cN b h)];exact e,fun b h=>by
  by_cases hb:b=p
  ·subst hb;rw[CS]at h;exact absurd rfl h
  ·rw[Cy hb]at h;exact .inl h⟩
 have O2:GOk X.K (upd H1 p (exO p o)) (rel G1 p):=fun b u q=>by
  have hb:b≠p:=by rintro rfl;rw[CS]at q;cases q
  rw[Cy hb]at q;exact(o1 b u q).ext E2.hid (fm b hb)
 have hpl:p<s1.heap.objs.size:=Heap.lt_size pl;obtain⟨oi,Vs⟩:∃oi:Obj,oi={ cls:=.type "list_iterator",data:=.fields #[.ref p,.int 0 0] }:=⟨_,rfl⟩;have kp:∀b u,s1.heap.get? b=some u->(s1.heap.push oi).get? b=some u:=fun b u e=>Heap.get?_push_of_some _ e;have I2:Inv X AD σ (upd H1 p (exO p o)) { s1 with heap:=s1.heap.push oi,toks:=s1.toks }:=
  I1.write (x:=p) (e:=p) (by rw[hp];trivial) (.inl rfl) (fun b u _ e=>kp b u e) ⟨o,kp _ _ pl⟩ (dD (kp _ _ pl))
 have qj:∀b∈[s1.heap.objs.size],Jq X AD (upd H1 p (exO p o)) b:=fun b hb=>by
  rw[List.mem_singleton.mp hb]
  have:=I1.fpOk (b:=s1.heap.objs.size) (Nat.le_refl _) (I1.hok.fresh (Nat.le_refl _))
  obtain⟨f0,f1,f2,f3,f4,f5⟩:=this;exact⟨by rw[fm _ (Nat.ne_of_gt hpl)];exact f0,f1,f2,f3,f4,f5⟩
 have wk:Wk X.K (ItO p o vs) (upd H1 p (exO p o)) (rel G1 p) l:=by
  intro H' G' e;have To:H' p=some (exO p o):=e.keep p _ BJ CS;refine⟨fun i d hd=>?_,To,ll.symm⟩;have hi:i<vs.length:=by rw[<-ll];exact(List.getElem?_eq_some_iff.mp hd).1
  refine⟨⟨To,hi⟩,fun x ZE hh=>?_⟩;obtain⟨rfl,hx⟩:=hh;obtain⟨v,bZ,rv⟩:=dr.get hd;rw[hx]at bZ;cases bZ;refine⟨Ext.refl,fun z=>z,fun _=>?_⟩;exact(rv.same E2.hid).same e.hid
 rw[show(s1.heap.push _)=s1.heap.push oi from by rw[Vs]];refine Js (ρ:=ρ) (G:=rel G1 p) (l:=l) (H:=upd H1 p (exO p o)) (RR:=fun Az C=>compPost (model X.prog X.w) X.A X.xe none (EP X AD σ (Po X H G1 fun d' G'=>d'=.lst (l.map g)/\G'=G1)) Az C) (fun i Az G'=>G'=rel G1 p/\Az=(l.take i).map g) (Gq elt AN An scope Aq) Sc CG hg hle hz ?_ I2 (S.ext (e1.trans E2) O2) (Wo (it:=s1.heap.objs.size) hv br PV) ⟨_,Heap.get?_push_size _ (by rw[Vs];rfl),by rw[Vs],by rw[Vs];rfl⟩ qj wk ⟨rfl,by simp⟩ ?_
 ·rintro C s' H' fp Dd i d Az G' hd ⟨rfl,rfl⟩ hD;obtain⟨ρ',h1,h2⟩:=CW C s' H' fp (put (rel G1 p) Dd (.lst ((l.take i).map g))) d (List.mem_of_getElem? hd) (fun b o hb q=>by rw[AL (fun e=>by subst e;rw[Cy hb,q]at hD;cases hD),Cy hb];exact q);refine⟨ρ',h1,Du rfl AG ?_ (PX.we h2 ⟨AG,_,rel G1 p,?_,hD,Ab,rfl,?_⟩)⟩
  ·have:=(List.getElem?_eq_some_iff.mp hd).1
   rw[List.length_map,List.length_take];lia
  ·simp
  ·rw[List.take_add_one,hd];simp
 ·rintro D C s3 sf σc Hf Gf Az k3 rfl ⟨H3,I3,f3,Ic⟩ ef of iE ⟨rfl,rfl⟩;obtain⟨m,hm,_⟩:=Ic.loc;refine⟨m,hm,fun h' hs=>?_⟩;have If:=LX I3 f3 Ic hs;obtain⟨E3,O3,R3⟩:=Il (X:=X) of AG;rw[Ah iE]at E3 O3 R3;have E4:=ef.trans E3;have fo:Hf p=some (exO p o):=E4.keep p _ BJ CS;obtain⟨zz,_,_⟩:=(show ObjOk X.prog X.w Hf _ p (exO p o)from If.hok p _ fo);have I4:=If.write (t':=sf.toks) (x:=p) (e:=p) (o:=.lst vs) (by rw[fo];trivial) (.inl rfl) (fun b u _ e=>e) ⟨o,zz⟩ ⟨oC,AY,n,hv,by rw[zz,ho]⟩;have lN:∀b,b≠p->upd Hf p (.lst vs) b=Hf b:=fun b hb=>Al hb;have rG:∀b u,H1 b=some u->G1 b=none->upd Hf p (.lst vs) b=some u:=fun b u e h=>by
   have hb:=cN b h;rw[lN b hb];exact E4.keep b u (by rw[fm b hb];exact e) (by rw[Cy hb];exact h)
  have E5:Ext H1 G1 (upd Hf p (.lst vs)) G1:=⟨rG,fun b h=>.inl h⟩;have SX:L8 (hid Hf (rel G1 p)) (hid (upd Hf p (.lst vs)) G1):=fun b u h=>by
   obtain⟨h1,h2⟩:=JI h;by_cases hb:b=p
   ·subst hb;rw[fo]at h2;cases h2;exact .inr ⟨_,rfl⟩
   ·rw[Cy hb]at h1;exact .inl (Fn h1 (by rw[lN b hb];exact h2))
  refine⟨.ref D,_,I4,rfl,.lst _,G1,e1.trans E5,fun b u q=>?_,R3.x SX,by rw[List.take_length],rfl⟩;by_cases hb:b=p
  ·subst hb;rw[hG]at q;cases q;exact⟨vs,BJ,dr.same E5.hid⟩
  ·exact(O3 b u (by rw[Cy hb];exact q)).x SX (lN b hb)
end
theorem Wf{d:Dat}(h:nol d=true):∃t,tyS d=some t/\isS t "list"=false:=by
 cases d with
 |fn _=>cases h
 |scr _=>cases h
 |lst _=>cases h
 |_=>exact⟨_,rfl,rfl⟩
abbrev Og:List Str:=["square","row","column"]
abbrev DV:List Str:=["square"]
theorem sM{N P:List Str}{sc:Scope}(a:sc.kind=.function:=by rfl)(b:sc.isCoroutine=false:=by rfl)(c:sc.isGenerator=false:=by rfl)(d:N.Nodup:=by decide +kernel)(e:N.take P.length=P:=by rfl)(f:∀x∈P,sc.names.lookup x=some .local\/sc.names.lookup x=some .cell:=by decide +kernel)(g:∀y∈sc.names,y.2≠.free:=by decide +kernel):FnScope N P sc:=⟨a,b,c,d,e,f,g⟩
section
variable {P:Program}{w:World}{K:PySem.W.Frag}{mg:Str->Option Value}{base:Heap}
theorem BA{x qual:Str}{st:Stmt}{f:Addr}{fd:FuncData}{N ps:List Str}{k:Nat}{S:SpD}(F:Fun K x qual st f fd)(Sc:FnScope N ps (AF st))(hb:∀(A1:Value)(A:Around)(outer:List Env)(s:Shared)(H:Hp)(E:XK)(ds:List Dat)(G:Gs)(R:Dat->Gs->Prop),Room k (A.deeper (envOfC qual (AF st) s.heap.objs.size f A1))->S ds G R →
   WSs (Pn CX0 P w K mg base N qual (AF st) f A1 A outer s H E).nox (J3 N ds) G (CJ st) { nx:=fun _ G'=>R .non G',rt:=R })(A2:∀ds G R,S ds G R->ds.length=ps.length:=by intro _ _ _ h;first|(obtain⟨_,rfl,_⟩:=h;rfl)|(obtain⟨_,_,rfl,_⟩:=h;rfl)|(obtain⟨_,_,_,rfl,_⟩:=h;rfl)|(obtain⟨_,_,_,_,rfl,_⟩:=h;rfl)|(obtain⟨_,_,_,_,_,rfl,_⟩:=h;rfl)|(obtain⟨_,_,_,_,_,_,rfl,_⟩:=h;rfl)|(obtain⟨_,_,_,_,_,_,_,rfl,_⟩:=h;rfl)|(obtain⟨_,_,_,_,_,_,_,_,rfl,_⟩:=h;rfl)|(obtain⟨_,_,_,_,_,_,_,_,_,rfl,_⟩:=h;rfl)|(obtain⟨_,_,_,_,_,_,_,_,_,_,rfl,_⟩:=h;rfl)|(obtain⟨_,_,_,_,_,_,_,_,_,_,_,rfl,_⟩:=h;rfl)):FnOk P w K mg base CX0 (k+1) f fd ps (Ae K S):=mC F Sc A2 hb
end
theorem EM:FnScope Og DV (AF Ip):=sM
abbrev Hd:List Str:=["square","row","column"]
abbrev Bh:List Str:=["square"]
theorem CD:FnScope Hd Bh (AF DQ):=sM
abbrev Ng:List Str:=["square"]
abbrev Ig:List Str:=["square"]
theorem MW:FnScope Ng Ig (AF Io):=sM
abbrev PF:List Str:=["thing"]
abbrev Gd:List Str:=["thing"]
theorem Nd:FnScope PF Gd (AF J5):=sM
abbrev V7:List Str:=["thing"]
abbrev Jc:List Str:=["thing"]
theorem Ru:FnScope V7 Jc (AF ND):=sM
abbrev Sa:List Str:=["thing"]
abbrev Fs:List Str:=["thing"]
theorem P5:FnScope Sa Fs (AF MC):=sM
abbrev KJ:List Str:=["things"]
abbrev GL:List Str:=["things"]
theorem OI:FnScope KJ GL (AF EB):=sM
abbrev Hq:List Str:=["one","other"]
abbrev MO:List (Option Nat):=[none,none]
abbrev VT:List Str:=["stones","squares","stone"]
abbrev JZ:List Str:=["stones"]
theorem IJ:FnScope VT JZ (AF Jn):=sM
abbrev Vq:List Str:=["start","ground","around","found","waiting","square","other"]
abbrev HM:List Str:=["start","ground","around"]
theorem Dj:FnScope Vq HM (AF Jt):=sM
abbrev Jk:List Str:=["floor"]
abbrev C4:List Str:=["floor"]
theorem IW:FnScope Jk C4 (AF Ee):=sM
abbrev D2:List Str:=["floor","rows","columns","bare","row","column"]
abbrev Di:List Str:=["floor"]
theorem BU:FnScope D2 Di (AF CC):=sM
abbrev Eb:List Str:=["square"]
abbrev JW:List (Option Nat):=[none]
abbrev Em:List Str:=["square"]
abbrev Ja:List (Option Nat):=[none]
abbrev Sx:List Str:=["floor","bare"]
abbrev IC:List Str:=["floor"]
theorem J9:FnScope Sx IC (AF Kx):=sM
abbrev Fq:List Str:=["floor","one","other"]
abbrev Bx:List Str:=["floor","one","other"]
theorem EZ:FnScope Fq Bx (AF Bt):=sM
abbrev Im:List Str:=["floor","square","other"]
abbrev Ce:List Str:=["floor"]
theorem CZ:FnScope Im Ce (AF EH):=sM
abbrev SN:List Str:=["floor"]
abbrev FI:List Str:=["floor"]
theorem Qt:FnScope SN FI (AF K7):=sM
abbrev O7:List Str:=["end","met_from","partner","other","square","freed"]
abbrev Fd:List Str:=["end","met_from","partner"]
theorem CU:FnScope O7 Fd (AF Fp):=sM
abbrev Fy:List Str:=["floor","start","partner","alike","met_from","at","square","other"]
abbrev B2:List Str:=["floor","start","partner"]
theorem Ak:FnScope Fy B2 (AF BR):=sM
abbrev WQ:List Str:=["floor","partner","square","crowd"]
abbrev OH:List Str:=["floor"]
theorem Kf:FnScope WQ OH (AF Oy):=sM
abbrev QI:List Str:=["square","partner"]
abbrev Y0:List (Option Nat):=[none,some 1]
abbrev aw:List Str:=["floor","at","taken","square","right","below","found"]
abbrev T5:List Str:=["floor","at","taken"]
theorem G0:FnScope aw T5 (AF Ow):=sM
abbrev cg:List Str:=["floor","at","taken","known","further"]
abbrev IE:List Str:=["floor","at","taken","known"]
theorem Nl:FnScope cg IE (AF JV):=sM
abbrev Zb:List Str:=["floor"]
abbrev OQ:List Str:=["floor"]
theorem Y7:FnScope Zb OQ (AF T8):=sM
abbrev VL:List Str:=["floor","at","begun","known","further","stones","taken","more","rest"]
abbrev Jj:List Str:=["floor","at","begun","known"]
theorem Fe:FnScope VL Jj (AF Me):=sM
abbrev Hk:List Str:=["floor","known","begun","at"]
abbrev EO:List Str:=["floor"]
theorem B6:FnScope Hk EO (AF ES):=sM
abbrev Fw:List Str:=["stones","taken"]
abbrev Kc:List (Option Nat):=[none,none]
abbrev NW:List Str:=["floor","stone"]
abbrev Jb:List Str:=["floor","stone"]
theorem SF:FnScope NW Jb (AF HJ):=sM
abbrev KR:List Str:=["square","stone"]
abbrev QC:List (Option Nat):=[none,some 1]
abbrev UD:List Str:=["floor","told","every"]
abbrev OT:List Str:=["floor"]
theorem L0:FnScope UD OT (AF Kt):=sM
abbrev Mu:List Str:=["stone","every","floor"]
abbrev Va:List (Option Nat):=[none,some 2,some 0]
abbrev SW:List Str:=["laying","partner","lesser","greater"]
abbrev IP:List Str:=["laying"]
theorem GI:FnScope SW IP (AF IG):=sM
abbrev Pg:List Str:=["start","first","second","ring","square"]
abbrev Gh:List Str:=["start","first","second"]
theorem DY:FnScope Pg Gh (AF Gj):=sM
abbrev ZK:List Str:=["one","other","first","second","seen","told","start","ring","square"]
abbrev OV:List Str:=["one","other"]
theorem DI:FnScope ZK OV (AF Nw):=sM
abbrev K9:List Str:=["ring","begin","stones","at"]
abbrev Ck:List Str:=["ring","begin"]
theorem DL:FnScope K9 Ck (AF Dt):=sM
abbrev NS:List Str:=["laying","stones"]
abbrev HF:List Str:=["laying","stones"]
theorem Rw:FnScope NS HF (AF HY):=sM
abbrev KN:List Str:=["stone","laying"]
abbrev Qc:List (Option Nat):=[none,some 0]
abbrev Ep:List Str:=["laying","ring","taken","put","kept"]
abbrev C2:List Str:=["laying","ring"]
theorem BF:FnScope Ep C2 (AF Bm):=sM
abbrev Dh:List Str:=["stone","taken"]
abbrev IK:List (Option Nat):=[none,some 2]
abbrev VD:List Str:=["square","row","column"]
abbrev HK:List Str:=["square"]
theorem Hy:FnScope VD HK (AF NR):=sM
abbrev VZ:List Str:=["laying","square","ring"]
abbrev HX:List Str:=["laying","square"]
theorem Lz:FnScope VZ HX (AF M6):=sM
abbrev T2:List Str:=["laying"]
abbrev Km:List Str:=["laying"]
theorem Xz:FnScope T2 Km (AF OK):=sM
abbrev NU:List Str:=["stone","laying"]
abbrev Vj:List (Option Nat):=[none,some 0]
abbrev Yd:List Str:=["laying","square"]
abbrev LJ:List Str:=["laying","square"]
theorem VM:FnScope Yd LJ (AF QE):=sM
abbrev RJ:List Str:=["came_from","end","squares","step"]
abbrev H4:List Str:=["came_from","end"]
theorem HA:FnScope RJ H4 (AF IA):=sM
abbrev cX:List Str:=["floor","one","other","came_from","met","at","laying","square","further"]
abbrev RT:List Str:=["floor","one","other"]
theorem Kh:FnScope cX RT (AF R9):=sM
abbrev Fv:List Str:=["floor"]
abbrev DO:List Str:=["floor"]
theorem JT:FnScope Fv DO (AF DK):=sM
abbrev EF:List Str:=["thing"]
abbrev IX:List (Option Nat):=[none]
abbrev Ri:List Str:=["square"]
abbrev ID:List Str:=["square"]
theorem Pq:FnScope Ri ID (AF LW):=sM
abbrev P2:List Str:=["corner","row","column","upper_left","upper_right","lower_left","lower_right"]
abbrev GW:List Str:=["corner"]
theorem Bu:FnScope P2 GW (AF KW):=sM
abbrev QV:List Str:=["floor","laying","left","right"]
abbrev GS:List Str:=["floor","laying","left","right"]
theorem Ov:FnScope QV GS (AF EA):=sM
abbrev OC:List Str:=["floor","laying","corner","steps","further","left","right"]
abbrev Fh:List Str:=["floor","laying","corner"]
theorem EL:FnScope OC Fh (AF Ik):=sM
abbrev M1:List Str:=["floor","laying","waiting","found","corner","further","rise"]
abbrev Jf:List Str:=["floor","laying"]
theorem Dq:FnScope M1 Jf (AF Ed):=sM
abbrev KQ:List Str:=["corner"]
abbrev Qn:List (Option Nat):=[none]
abbrev Sn:List Str:=["_law_script","_law_k"]
abbrev D0:List Str:=["_law_script","_law_k"]
theorem Qr:FnScope Sn D0 (AF Lo):=sM
abbrev VC:List Str:=["_law_cell_here","_law_prime","_law_many"]
abbrev HL:List Str:=["_law_cell_here","_law_prime","_law_many"]
theorem Sm:FnScope VC HL (AF Mz):=sM
abbrev Gr:List Str:=["_law_script","_law_at","_law_cell_here","_law_rows","_law_wide","_law_down","_law_right","_law_some","_law_r","_law_gone","_law_k","_law_seed","_law_one","_law_left"]
abbrev Gv:List Str:=["_law_script","_law_at"]
theorem Ai:FnScope Gr Gv (AF C8):=sM
abbrev Hm:List Str:=["_law_c","_law_down","_law_r","_law_right"]
abbrev MS:List (Option Nat):=[none,some 5,some 8,some 6]
abbrev Ho:List Str:=["_law_one","_law_gone"]
abbrev Mb:List (Option Nat):=[none,some 9]
abbrev Lj:List Str:=["_law_floor_here","_law_square","_law_r","_law_c"]
abbrev IB:List Str:=["_law_floor_here","_law_square"]
theorem J8:FnScope Lj IB (AF Fb):=sM
abbrev Iy:List Str:=["_law_one","_law_floor_here"]
abbrev OB:List (Option Nat):=[none,some 0]
abbrev GH:List Str:=["_law_floor_here","_law_known","_law_found","_law_last","_law_other","_law_left"]
abbrev CH:List Str:=["_law_floor_here","_law_known"]
theorem CK:FnScope GH CH (AF DB):=sM
abbrev Ht:List Str:=["_law_one","_law_last","_law_other"]
abbrev MG:List (Option Nat):=[none,some 3,some 4]
abbrev Hr:List Str:=["_law_row","_law_last","_law_other"]
abbrev MQ:List (Option Nat):=[none,some 3,some 4]
abbrev Ms:List Str:=["_law_floor_here"]
abbrev JS:List Str:=["_law_floor_here"]
theorem SQ:FnScope Ms JS (AF Ha):=sM
abbrev KS:List Str:=["_law_row"]
abbrev Py:List (Option Nat):=[none]
abbrev Qe:List Str:=["_law_floor_here","_law_laying","_law_other","_law_found"]
abbrev GC:List Str:=["_law_floor_here","_law_laying","_law_other"]
theorem IV:FnScope Qe GC (AF KO):=sM
abbrev LI:List Str:=["_law_thing"]
abbrev Ca:List Str:=["_law_thing"]
theorem P9:FnScope LI Ca (AF Hx):=sM
abbrev Ib:List Str:=["_law_one"]
abbrev OE:List (Option Nat):=[none]
abbrev MZ:List Str:=["_law_thing","_law_one"]
abbrev Bb:List Str:=["_law_thing"]
theorem GK:FnScope MZ Bb (AF Hs):=sM
abbrev gq:List Str:=["_law_script","_law_floor_here","_law_every_here","_law_some","_law_due","_law_laying","_law_other","_law_rows","_law_row"]
abbrev cO:List Str:=["_law_script"]
theorem Dz:FnScope gq cO (AF Xv):=sM
end TF
namespace TF
open PySem PySem.Spec L2
open PyProof.Rows hiding St RelV
theorem A4{α:Type}{f:α->Dat}{g:Dat->Bool}(L:List α)(h:∀x,g (f x)=true):(L.map f).all g=true:=by rw[List.all_map,List.all_eq_true];exact fun x _=>h x
theorem Hv(s:Bz)(n:Nat):AJ (n+2) (AU s)=true:=by simp[AJ,AU,AZ]
theorem aE(s:Sq×Int)(n:Nat):AJ (n+2) (pi s)=true:=by simp[AJ,pi,AZ,Gg (d:=.int s.2) rfl,Ap]
theorem bQ(q:List Sq)(l m:Lay):AJ 9 (.lst (D6 q l m))=true:=by
 show(D6 q l m).all (AJ 8)=true;have h:(if EV q=true then[Dat.lst ((TPi.sort (htQ q l)).map pi)]else[]).all (AJ 8)=true:=by
  split
  ·rw[List.all_cons,Bool.and_eq_true];exact⟨A4 _ fun x=>aE x 5,rfl⟩
  ·rfl
 unfold D6;rw[List.all_append,List.all_append,h];simp only[List.all_cons,List.all_nil,Bool.and_true,Bool.and_eq_true,Bool.true_and];refine⟨⟨A4 _ fun x=>Hv x 5,A4 _ fun x=>AZ x 6,A4 _ fun x=>?_,A4 _ fun x=>?_⟩,rfl⟩
 ·exact A4 _ fun y=>AZ y 5
 ·exact A4 _ fun y=>Hv y 4
theorem Ye(p:Sq):nol (sq p)=true:=rfl
theorem Mk(s:Bz):nol (AU s)=true:=rfl
theorem Gz{α:Type}{f:α->Dat}(h:∀x,nol (f x)=true):∀L:List α,OS (L.map f)=true
 |[]=>rfl
 |a::L=>by
  show(nol (f a)&&OS (L.map f))=true;rw[h a,Gz h L];rfl
theorem JK{d:Dat}(h:nol d=true)(n:Nat):LQ n d=true:=by
 cases n with
 |zero=>exact h
 |succ n=>unfold LQ;rw[h];rfl
theorem D1{n:Nat}{l:List Dat}(h:l.all (LQ n)=true):LQ (n+1) (.lst l)=true:=by show(nol (.lst l)||l.all (LQ n))=true;rw[h,Bool.or_true]
theorem d7(q:List Sq)(l m:Lay):LQ 3 (.lst (D6 q l m))=true:=by
 have h:(if EV q=true then[Dat.lst ((TPi.sort (htQ q l)).map pi)]else[]).all (LQ 2)=true:=by
  split
  ·rw[List.all_cons,Bool.and_eq_true];exact⟨D1 (A4 _ fun x=>JK rfl 1),rfl⟩
  ·rfl
 refine D1 ?_;unfold D6;rw[List.all_append,List.all_append,h];simp only[List.all_cons,List.all_nil,Bool.and_true,Bool.and_eq_true,Bool.true_and];refine⟨⟨D1 (A4 _ fun x=>JK rfl 1),D1 (A4 _ fun x=>JK rfl 1),D1 (A4 _ fun x=>?_),D1 (A4 _ fun x=>?_)⟩,rfl⟩
 ·exact D1 (A4 _ fun y=>rfl)
 ·exact JK (show nol (lay x)=true from Gz Mk x) 1
theorem eM(l:List Dat)(d:Dat):atI (l++[d]) (-1)=some d:=by
 have e:ixN (l++[d]).length (-1)=some l.length:=by
  unfold ixN;rw[if_neg (by decide),List.length_append,List.length_singleton,if_pos (by lia)];congr 1;lia
 unfold atI;rw[e];simp
section
variable {P:Program}{w:World}{K:PySem.W.Frag}{mg:Str->Option Value}{base:Heap}{f:Addr}{fd:FuncData}
theorem dA(F:Fun K "law" "law" Xv f fd)(ml:mg "len"=none)(ZH:mg "list"=none)(FF:Df P w K mg base "_law_floor" Gv 2 TK)(FC:Df P w K mg base "_law_cell" D0 1 Nm)(FA:Df P w K mg base "_law_all" JS 15 cP)(FL:Df P w K mg base "laid" OH 3 Of)(FT:Df P w K mg base "turns" Km 3 N5)(FN:Df P w K mg base "turned" LJ 3 UT)(FS:Df P w K mg base "_law_lists" GC 29 TY)(FW:∀n,Df P w K mg base "_law_twin" Ca (n+2) (N4 n))(FE:∀n,Df P w K mg base "_law_emptied" Bb (n+2) (Ta n)):FnOk P w K mg base CX0 30 f fd cO (Ae K Ui):=by
 refine BA (k:=29) F Dz (fun A1 A outer s H E ds G R hr h=>?_);obtain⟨ns,rfl,rfl,hR⟩:=h;have hu:(A.deeper (envOfC "law" (AF Xv) s.heap.objs.size f A1)).units+9<cLine:=by have:=hr.units;lia
 refine Af 1 Dz.nd (AO FF (hr.mono (by lia)) (AB (AA 0 rfl) (AB AH AE)) ⟨ns,1,rfl,fun q gd=>?_⟩);refine Af 2 Dz.nd (AO FA (hr.mono (by lia)) (AB (AA 1 rfl) AE) ⟨q,rfl,gd.ne,gd.up,gd.len,?_⟩);have oj:nol (fl q)=true:=Gz Ye q;refine Ar (p:=(A8 q).isEmpty) ?_ (fun hp=>?_) (fun hp=>AI ?_)
 ·refine PXT.cast (DS (HQ (p:=!(A8 q).isEmpty) (AA 2 rfl) ?_)) (Bool.not_not _);show some (!((A8 q).map lay).isEmpty)=_;rw[List.isEmpty_map]
 ·have no:∀l,¬IsLay q l:=fun l I=>by
   have:=(C6 gd.up).mpr I
   rw[List.isEmpty_iff.mp hp]at this;cases this
  refine Af 3 Dz.nd (Vr (ρ':=[none,some (fl q),none,none,none,none,none,none,none]) (D:=fun d=>d=.tup [.str "crowd",.lst ((crQ q).map sq)]) (fun G'=>AO FL (hr.mono (by lia)) (AB (AA 1 rfl) AE) ⟨q,rfl,gd.up,gd.len,fun l I=>absurd I (no l),fun _=>⟨rfl,rfl⟩⟩) rfl ?_ (fun d hd=>⟨_,_,hd,Gz Ye _⟩) ?_)
  ·intro i d hd;rcases i with _|_|_|_|_|_|_|_|_|i;all_goals first|(cases hd;exact⟨rfl,oj⟩)|cases hd
  ·intro x C a G hD hG;cases hD;refine AS 4 Dz.nd (P8 ZH (Au (AA 3 rfl) AH rfl) hG) ?_;refine M8 (Au (AA 3 rfl) AH rfl) hG ?_;have pl:AJ 9 (.tup [.str "crowd",.lst ((crQ q).map sq)])=true:=by
    show(true&&((crQ q).map sq).all (AJ 7)&&true)=true;rw[A4 _ fun x=>AZ x 6];rfl
   refine AV (Iz (Jz hu (AO FL (hr.mono (by lia)) (AB (AA 1 rfl) AE) ⟨q,rfl,gd.up,gd.len,fun l I=>absurd I (no l),fun _=>⟨rfl,rfl⟩⟩) (AM (AB Lh (AB (AA 4 rfl) AE))) pl pl)) ?_;rw[HB _ _ pl];exact hR _
 have BS:A8 q≠[]:=by rintro h;rw[h]at hp;cases hp
 have Jh:0<(A8 q).length:=List.length_pos_iff.mpr BS;have nd:=gd.nodup;have GQ:=gd.len;obtain⟨l,I,lS⟩:∃l,IsLay q l/\atI ((A8 q).map lay) (By ns 0%((A8 q).length:Int))=some (lay l):=by
  have h1:=Int.emod_nonneg (By ns 0) (b:=((A8 q).length:Int)) (by lia);have h2:=Int.emod_lt_of_pos (By ns 0) (b:=((A8 q).length:Int)) (by lia);have A6:(By ns 0%((A8 q).length:Int)).toNat<(A8 q).length:=by lia
  obtain⟨l,hl⟩:∃l,(A8 q)[(By ns 0%((A8 q).length:Int)).toNat]?=some l:=⟨_,List.getElem?_eq_getElem A6⟩;refine⟨l,(C6 gd.up).mp (List.mem_of_getElem? hl),?_⟩;have e:By ns 0%((A8 q).length:Int)=(((By ns 0%((A8 q).length:Int)).toNat:Nat):Int):=by lia
  rw[e];exact EE lay (C7 hl)
 have rB:=Fj I.toCov;refine AS 5 Dz.nd (DP (AA 2 rfl) (Na (AO FC (hr.mono (by lia)) (AB (AA 0 rfl) (AB AH AE)) ⟨ns,0,rfl,rfl,rfl⟩) (Bp (n:=(A8 q).length) rfl ml (AA 2 rfl) (by simp[JC])) (by lia)) lS) ?_;refine AS 6 Dz.nd (AA 5 rfl) ?_;refine Fm (fun ρ' G'=>G'=g0/\∃m,IsLay q m/\ρ'=[some (.scr ns),some (fl q),some (.lst ((A8 q).map lay)),none,none,some (lay l),some (lay m),none,none]) (HQ (p:=!(Cn l).isEmpty) (AO FT (hr.mono (by lia)) (AB (AA 5 rfl) AE) ⟨l,rfl,by lia,rfl,rfl⟩) ?_) (fun ht=>?_) (fun ht=>AI ⟨rfl,l,I,rfl⟩) (fun ρ' G' hM=>?_)
 ·show some (!((Cn l).map sq).isEmpty)=_;rw[List.isEmpty_map]
 ·obtain⟨t,r,e⟩:∃t r,Cn l=t::r:=by
   cases h:Cn l with
   |nil=>rw[h]at ht;cases ht
   |cons t r=>exact⟨t,r,rfl⟩
  have jY:t∈Cn l:=by rw[e];exact List.mem_cons_self ..
  have tb:D5 l t=true:=by
   unfold Cn at jY;obtain⟨s,hs,rfl⟩:=List.mem_map.mp jY;exact(List.mem_filter.mp hs).2
  exact Af 6 Dz.nd (AO FN (hr.mono (by lia)) (AB (AA 5 rfl) (AB (DP (AO FT (hr.mono (by lia)) (AB (AA 5 rfl) AE) ⟨l,rfl,by lia,rfl,rfl⟩) AH (show atI ((Cn l).map sq) 0=some (sq t)from EE sq (C7 (xs:=Cn l) (j:=0) (by rw[e];rfl)))) AE)) ⟨l,t,rfl,by lia,tb,AI ⟨rfl,_,(VA nd I tb).1,rfl⟩⟩)
 obtain⟨rfl,m,J,rfl⟩:=hM;refine Ar (Ao (FU (Bp (n:=(A8 q).length) rfl ml (AA 2 rfl) (by simp[JC])) AH)) (fun _=>AV Kv (hR _)) (fun hle=>AI ?_);have Rr:(A8 q).length<=200:=by have:=of_decide_eq_false hle;lia
 refine Af 7 Dz.nd (XZ (n:=3) (ρ':=[none,some (fl q),none,none,none,some (lay l),some (lay m),none,none]) (D:=fun d=>d=.lst (D6 q l m)) (fun G'=>AO FS hr (AB (AA 1 rfl) (AB (AA 5 rfl) (AB (AA 6 rfl) AE))) ⟨q,l,m,rfl,gd,I,J,Rr,rfl,rfl⟩) rfl ?_ (fun d hd=>by rw[hd];exact d7 q l m) ?_)
 ·intro i d hd;rcases i with _|_|_|_|_|_|_|_|_|i;all_goals first|(cases hd;first|exact⟨rfl,oj⟩|exact⟨rfl,Gz Mk _⟩)|cases hd
 intro x G d hD hv;subst hD;obtain⟨p,rows,rfl,hG,hm⟩:∃p rows,x=.fn p/\G p=some (.lst rows)/\rows.mapM (vw 2 G)=some (D6 q l m):=by
  rcases Cm hv with⟨f,rfl⟩|⟨k,p,rows,ds,hk,_,rfl,hG,hm,e⟩
  ·cases f
  ·cases hk;cases e;exact⟨p,rows,rfl,hG,hm⟩
 refine Af 4 Dz.nd (AO (FW 3) (hr.mono (by lia)) (AB (AA 7 rfl) AE) ⟨.fn p,_,rfl,hv,?_⟩);refine A7 (l:=rows) (f:=BW 8) (fun i ρ' G'=>(∃x8,ρ'=[some (.scr ns),some (fl q),some (.lst ((A8 q).map lay)),none,some (.lst (D6 q l m)),some (lay l),some (lay m),some (.fn p),x8])/\Shr (rel G p) G') PassesOwn.never rfl (Bl (Wb (AA 7 rfl) hG ⟨rows,rfl,rfl,⟨none,rfl⟩,Shr.refl⟩)) (Aa 8 Dz.nd) ?_ ?_
 ·rintro i y ρ' G' hd ⟨⟨x8,rfl⟩,sh⟩;obtain⟨dy,h1,h2⟩:=Es hm y (List.mem_of_getElem? hd);obtain⟨d',h3⟩:=sh.vw (N8 hv (fun b o hb e=>by rw[Cy hb];exact e) h2 (Kr h1));exact⟨_,rfl,JR (AO (FE 2) (hr.mono (by lia)) (AB (AA 8 rfl) AE) ⟨y,d',rfl,h3,fun G2 s2=>AI ⟨⟨_,rfl⟩,sh.trans s2⟩⟩)⟩
 ·rintro ρ' G' ⟨⟨x8,rfl⟩,sh⟩;have pl:=bQ q l m;have pa:AJ 9 (.lst ((A8 q).map lay))=true:=A4 _ fun x=>A4 _ fun y=>Hv y 5;refine AV (DJ (p:=true) (q:=true) (PX.cast (Iz (Jz hu (AO FS hr (AB (AA 1 rfl) (AB (AA 5 rfl) (AB (AA 6 rfl) AE))) ⟨q,l,m,rfl,gd,I,J,Rr,rfl,rfl⟩) (AA 4 rfl) pl pl)) (by rw[HB _ _ pl])) fun _=>DJ (p:=true) (q:=true) (PX.cast (Iz (Jz hu (DP (d:=.lst []) (AA 4 rfl) (Rb AH) ?_) (B8 AE) rfl rfl)) rfl) fun _=>Ge (PX.cast (Iz (Jz hu (DP (d:=.lst ((A8 q).map lay)) (AA 4 rfl) AH (C7 (xs:=D6 q l m) (j:=3) rfl)) (AA 2 rfl) pa pa)) (by rw[HB _ _ pa]))) (hR _);unfold D6;rw[<-List.append_assoc];exact eM _ _
end
end TF
namespace TF
open PySem PySem.Spec L2
open PyProof.Rows hiding St RelV
section
variable {P:Program}{w:World}{K:PySem.W.Frag}{mg:Str->Option Value}{base:Heap}{f:Addr}{fd:FuncData}
theorem PJ(F:Fun K "_law_cell" "_law_cell" Lo f fd)(ml:mg "len"=none):FnOk P w K mg base CX0 1 f fd D0 (Ae K Nm):=by
 refine BA (k:=0) F Qr (fun A1 A outer s H E ds G R hr h=>?_);obtain⟨ns,k,rfl,hR⟩:=h;refine Ar (Ao (Ou (AA 1 rfl) (Bp rfl ml (AA 0 rfl) rfl))) (fun hp=>?_) (fun hp=>?_)
 ·have A6:k<ns.length:=by have:=of_decide_eq_true hp;lia
  refine AV (dm (AA 0 rfl) (AA 1 rfl) (C7 (List.getElem?_eq_getElem A6))) ?_;have:By ns k=ns[k]:=by unfold By;rw[List.getD_eq_getElem?_getD,List.getElem?_eq_getElem A6];rfl
  rw[<-this];exact hR
 ·refine AI (AV AH ?_);have Kk:ns.length<=k:=by have:=of_decide_eq_false hp;lia
  have:By ns k=0:=by unfold By;rw[List.getD_eq_getElem?_getD,List.getElem?_eq_none Kk];rfl
  rw[this]at hR;exact hR
theorem TH(F:Fun K "_law_mix" "_law_mix" Mz f fd):FnOk P w K mg base CX0 1 f fd HL (Ae K Yx):=by refine BA (k:=0) F Sm (fun A1 A outer s H E ds G R hr h=>?_);obtain⟨c,p,m,rfl,hp,hm,hR⟩:=h;exact AV (Na (Na (Sv (AA 0 rfl) AH (.inr (by decide))) (AA 1 rfl) hp) (AA 2 rfl) hm) hR
theorem GO{X:Cx}{ρ:Rho}{G:Gs}{pos p:Pos}{ns:List Int}{a b:Expr}{k:Nat}(FL:Df X.prog X.w X.K X.mg X.base "_law_cell" D0 1 Nm)(hr:Room 1 X.A)(ha:PX X ρ G a (.scr ns))(hb:PX X ρ G b (.int (k:Nat)))(hg:Gl X "_law_cell":=by rfl)(he:starEach (a::[b]) X.env=(false,eval a X.env)::starEach [b] X.env:=by rfl)(he2:starEach [b] X.env=(false,eval b X.env)::starEach [] X.env:=by rfl)(hpl:(backTo pos (starEach [b] X.env)).any (·.1)=false:=by rfl):PX X ρ G (.Call (.Name "_law_cell" p) [a,b] [] pos) (.int (By ns k)):=AO FL hr (AB ha (AB hb AE he2) he) ⟨ns,k,rfl,rfl,rfl⟩ hg (by decide) he hpl
theorem DX{X:Cx}{ρ:Rho}{G:Gs}{pos p:Pos}{a b c:Expr}{x y:Int}{m n:Nat}(FM:Df X.prog X.w X.K X.mg X.base "_law_mix" HL 1 Yx)(hr:Room 1 X.A)(ha:PX X ρ G a (.int x))(hb:PX X ρ G b (.int y))(hc:PX X ρ G c (.int (m:Nat)))(hy:0<y)(hm:0<m)(hv:Vd x y m=(n:Nat))(hg:Gl X "_law_mix":=by rfl)(he:starEach [a,b,c] X.env=(false,eval a X.env)::starEach [b,c] X.env:=by rfl)(he2:starEach [b,c] X.env=(false,eval b X.env)::starEach [c] X.env:=by rfl)(qe:starEach [c] X.env=(false,eval c X.env)::starEach [] X.env:=by rfl)(hpl:(backTo pos (starEach [b,c] X.env)).any (·.1)=false:=by rfl):PX X ρ G (.Call (.Name "_law_mix" p) [a,b,c] [] pos) (.int (n:Nat)):=AO FM hr (AB ha (AB hb (AB hc AE qe) he2) he) ⟨x,y,m,rfl,hy,by lia,by rw[hv];exact⟨rfl,rfl⟩⟩ hg (by decide) he hpl
theorem OF(F:Fun K "_law_floor" "_law_floor" C8 f fd)(ml:mg "len"=none)(mr:mg "range"=none)(mt:mg "tuple"=none)(mx:mg "max"=none)(mn:mg "min"=none)(FL:Df P w K mg base "_law_cell" D0 1 Nm)(FM:Df P w K mg base "_law_mix" HL 1 Yx):FnOk P w K mg base CX0 2 f fd Gv (Ae K TK):=by
 refine BA (k:=1) F Ai (fun A1 A outer s H E ds G R hr h=>?_);obtain⟨ns,k,rfl,hR⟩:=h;have hu:(A.deeper (envOfC "_law_floor" (AF C8) s.heap.objs.size f A1)).units+9<cLine:=by have:=hr.units;lia
 obtain⟨r0,r0l,qP⟩:=DU (By ns k) 9973 4 (by decide);obtain⟨w0,sS,sE⟩:=DU (By ns k) 9967 5 (by decide);obtain⟨b0,sY,rH⟩:=DU (By ns k) 9901 8 (by decide);obtain⟨q0,tL,qC⟩:=DU (By ns k) 9887 4 (by decide);refine AS 2 Ai.nd (GO FL hr (AA 0 rfl) (AA 1 rfl)) ?_;refine AS 3 Ai.nd (PX.cast (d':=.int ((1+r0:Nat):Int)) (Aw AH (DX (m:=4) FM hr (AA 2 rfl) AH AH (by decide) (by decide) qP)) rfl) ?_;refine AS 4 Ai.nd (PX.cast (d':=.int ((1+w0:Nat):Int)) (Aw AH (DX (m:=5) FM hr (AA 2 rfl) AH AH (by decide) (by decide) sE)) rfl) ?_;refine Fm (fun ρ' G'=>G=G'/\∃r wd:Nat,Oc r wd/\ρ'=[some (.scr ns),some (.int k),some (.int (By ns k)),some (.int (r:Nat)),some (.int (wd:Nat)),none,none,none,none,none,none,none,none,none])
  (Ao (EI (DX (m:=8) FM hr (AA 2 rfl) AH AH (by decide) (by decide) rH) AH)) (fun hp=>?_) (fun hp=>?_) (fun ρ' G' hM=>?_)
 ·obtain⟨r1,qZ,KY⟩:∃r1:Nat,atI [Dat.int 2,.int 3,.int 8,.int 6] ((q0:Nat):Int)=some (.int (r1:Nat))/\0<r1/\Oc r1 (24 / r1):=by
   have:q0=0\/q0=1\/q0=2\/q0=3:=by lia
   rcases this with rfl|rfl|rfl|rfl
   ·exact⟨2,rfl,by decide,.inr (.inl ⟨rfl,rfl⟩)⟩
   ·exact⟨3,rfl,by decide,.inr (.inr (.inl ⟨rfl,rfl⟩))⟩
   ·exact⟨8,rfl,by decide,.inr (.inr (.inr (.inl ⟨rfl,rfl⟩)))⟩
   ·exact⟨6,rfl,by decide,.inr (.inr (.inr (.inr ⟨rfl,rfl⟩)))⟩
  refine AS 3 Ai.nd (DP (B8 (AB AH (AB AH (AB AH (AB AH AE))))) (DX (m:=4) FM hr (AA 2 rfl) AH AH (by decide) (by decide) qC) qZ) ?_;have hb:r1<=8:=by rcases KY.2 with h|h|h|h|h<;>lia
  refine AS 4 Ai.nd (PX.cast (d':=.int ((24 / r1:Nat):Int)) (ZS AH (AA 3 rfl) ⟨by lia,by lia⟩) rfl) (AI ⟨rfl,r1,24 / r1,KY.2,rfl⟩)
 ·exact AI ⟨rfl,1+r0,1+w0,.inl ⟨by lia,by lia,by lia,by lia⟩,rfl⟩
 obtain⟨rfl,r,wd,gY,rfl⟩:=hM;have sr:r<=8/\1<=r:=by rcases gY with h|h|h|h|h<;>lia
 have pY:wd<=12/\1<=wd:=by rcases gY with h|h|h|h|h<;>lia
 obtain⟨hmul,Jh⟩:=VF gY;obtain⟨dn,se,pM⟩:=DU (By ns (k+1)) 9949 (9-r) (by lia);obtain⟨rt,tF,qE⟩:=DU (By ns (k+1)) 9941 (max 1 (9-wd)) (by lia);have q6:rt+min wd 8<=8:=by lia
 refine AS 5 Ai.nd (DX (m:=9-r) FM hr (GO (k:=k+1) FL hr (AA 0 rfl) (PX.cast (Aw (AA 1 rfl) AH) rfl)) AH (PX.cast (Bi AH (AA 3 rfl)) (by congr 1;lia)) (by decide) (by lia) pM) ?_;refine AS 6 Ai.nd (DX (m:=max 1 (9-wd)) FM hr (GO (k:=k+1) FL hr (AA 0 rfl) (PX.cast (Aw (AA 1 rfl) AH) rfl)) AH (PX.cast (ZX rfl mx AH (Bi AH (AA 4 rfl))) (by congr 1;lia)) (by decide) (by lia) qE) ?_;refine AS 7 Ai.nd (B8 AE) ?_;refine A7 (l:=BK 0 r) (fun i ρ' G'=>G=G'/\i<=r/\∃x,ρ'=[some (.scr ns),some (.int k),some (.int (By ns k)),some (.int (r:Nat)),some (.int (wd:Nat)),some (.int (dn:Nat)),some (.int (rt:Nat)),some (.lst ((MA i (min wd 8) dn rt).map sq)),x,none,none,none,none,none]) PassesOwn.never rfl
  (HG rfl mr (AA 3 rfl) (by lia) (by lia) ⟨by rw[Int.toNat_natCast],rfl,Nat.zero_le _,none,rfl⟩) (Aa 8 Ai.nd) ?_ ?_
 ·rintro i dd ρ' G' hd ⟨rfl,hi,x,rfl⟩;obtain⟨A6,rfl⟩:=C0 hd;refine⟨_,rfl,?_⟩;refine AS 7 Ai.nd (Ol (AA 7 rfl) (Gm (Nc:=Hm) (caps:=MS) (l:=BK 0 (min wd 8)) (f:=BW 0) (fun x=>match x with|.int j=>sq ((dn:Int)+(0+(i:Nat)),(rt:Int)+j)|_=>.non)
   (Bk (psc:=AF C8) (PN:=Gr) (by decide +kernel) rfl rfl) rfl (HG rfl mr (PX.cast (d':=.int ((min wd 8:Nat):Int)) (Zj rfl mn (AA 4 rfl) AH) (by congr 1;lia)) (by lia) (by lia) ⟨by rw[Int.toNat_natCast],rfl⟩)
   (fun C s' H' fp=>Aa 0 (show Hm.Nodup by decide +kernel)) (BE rfl) (by rw[C5];lia) ?_) ?_) (AI ⟨rfl,A6,some (.int (0+(i:Nat))),?_⟩)
  ·intro C s' H' fp G' x hx _;obtain⟨j,_,rfl⟩:=Rn hx;exact⟨_,rfl,AM (AB (Aw (AA 1 rfl) (AA 2 rfl)) (AB (Aw (AA 3 rfl) (AA 0 rfl)) AE))⟩
  ·rw[List.length_map,List.length_map,La,C5];have:i*min wd 8<=8*8:=Nat.mul_le_mul (by lia) (by lia);exact sz (by lia)
  ·refine congrArg (fun z=>[some (.scr ns),some (.int k),some (.int (By ns k)),some (.int (r:Nat)),some (.int (wd:Nat)),some (.int (dn:Nat)),some (.int (rt:Nat)),some (Dat.lst z),some (.int (0+(i:Nat))),none,none,none,none,none]) ?_;rw[My,List.map_append];congr 1;unfold BK;rw[List.map_map,List.map_map];refine List.map_congr_left fun j _=>?_;simp[Function.comp,sq]
 rintro ρ' G' ⟨rfl,_,x,rfl⟩;rw[C5];generalize hL:MA r (min wd 8) dn rt=L;have cI:L.length=r*min wd 8:=by rw[<-hL,La]
 have gd:∀F:List Sq,F.Sublist L->F≠[]->Good F:=fun F h1 h2=>WL (r:=r) (w:=min wd 8) (d:=dn) (e:=rt) hmul (by lia) q6 (by rw[hL];exact h1) h2;have pl:∀l:List Sq,l.length<=6->(l.map sq).all (AJ 8)=true:=fun l _=>DZ l 7;refine BY 9 Ai.nd AE (fun p hG=>?_);obtain⟨nk,sj,rW⟩:=DU (By ns (k+2)) 9931 4 (by decide);refine A7 (l:=BK 0 nk) (fun i ρ' Lr=>∃(gone:List Sq)(y1 y2 y3:Option Dat),gone.length<=2*i/\Lr=put G p (.lst (gone.map sq))/\ρ'=[some (.scr ns),some (.int k),some (.int (By ns k)),some (.int (r:Nat)),some (.int (wd:Nat)),some (.int (dn:Nat)),some (.int (rt:Nat)),some (.lst (L.map sq)),x,some (.fn p),y1,y2,y3,none]) PassesOwn.never rfl
  (HG rfl mr (DX (m:=4) FM hr (GO (k:=k+2) FL hr (AA 0 rfl) (PX.cast (Aw (AA 1 rfl) AH) rfl)) AH AH (by decide) (by decide) rW) (by lia) (by lia) ⟨by rw[Int.toNat_natCast],[],none,none,none,Nat.le_refl _,rfl,rfl⟩) (Aa 10 Ai.nd) ?_ ?_
 ·rintro i dd ρ' Lr hd ⟨gone,y1,y2,y3,jm,rfl,rfl⟩;obtain⟨A6,rfl⟩:=C0 hd;refine⟨_,rfl,?_⟩;generalize hseed:By ns (k+3+i)+17*(0+(i:Int))*(0+(i:Int))=seed;refine AS 11 Ai.nd (PX.cast (d':=.int seed) (Aw (GO (k:=k+3+i) FL hr (AA 0 rfl) (PX.cast (Aw (Aw (AA 1 rfl) AH) (AA 10 rfl)) (by congr 1;lia))) (Sv (Sv AH (AA 10 rfl) (.inl (by decide))) (AA 10 rfl) (.inr (by constructor<;>lia)))) (by rw[hseed])) ?_;obtain⟨ix,so,rP⟩:=DU seed 9929 (r*min wd 8) Jh;obtain⟨c3,tD,qn⟩:=DU seed 9923 3 (by decide);have iA:ix<L.length:=by lia
  refine AS 12 Ai.nd (DP (AA 7 rfl) (DX (m:=r*min wd 8) FM hr (AA 11 rfl) AH (PX.cast (Bp rfl ml (AA 7 rfl) rfl) (by rw[List.length_map,cI])) (by decide) Jh rP) (EE sq (C7 (List.getElem?_eq_getElem iA)))) ?_;refine A0 (AA 9 rfl) (AA 12 rfl) AG (by rw[List.length_map];exact sz1 (by lia)) ?_;rw[Ab];refine Ar (Ao (FU (DX (m:=3) FM hr (AA 11 rfl) AH AH (by decide) (by decide) qn) AH)) (fun hp=>?_) (fun hp=>AI (AI ?_))
  ·refine A0 (d:=sq (L[ix].1,L[ix].2+1)) (AA 9 rfl) (AM (AB (Au (AA 12 rfl) AH rfl) (AB (Aw (Au (AA 12 rfl) AH rfl) AH) AE))) AG (by rw[List.length_append,List.length_map];exact sz1 (by simp;lia)) (AI (AI ?_));rw[Ab];refine⟨gone++[L[ix],(L[ix].1,L[ix].2+1)],_,_,_,by simp;lia,?_,rfl⟩;simp
  ·refine⟨gone++[L[ix]],_,_,_,by simp;lia,?_,rfl⟩;simp
 rintro ρ' Lr ⟨gone,y1,y2,y3,jm,rfl,rfl⟩;rw[C5]at jm;refine AS 13 Ai.nd (PX.cast (d':=fl (L.filter fun q=>!gone.contains q)) (Cz rfl mt Boot.«tuple» (Dr (Nc:=Ho) (caps:=Mb) (l:=L.map sq) (f:=BW 0) (fun d=>!((gone.map sq).any fun e=>eqD e d)) id
  (Bk (psc:=AF C8) (PN:=Gr) (by decide +kernel) rfl rfl) rfl (Fc (AA 7 rfl) ⟨rfl,rfl⟩)
   (fun C s' H' fp=>Aa 0 (show Ho.Nodup by decide +kernel)) (BE rfl) (by rw[List.length_map];lia) ?_)) ?_) ?_
 ·intro C s' H' fp G2 d hd kn;obtain⟨q,_,rfl⟩:=List.mem_map.mp hd;exact⟨_,rfl,Ao (Br hu (AA 0 rfl) (AA 1 rfl) (.inr (.inr ⟨p,rfl,kn _ _ AG⟩)) (AZ q 7) (pl gone (by lia))),fun _=>AA 0 rfl⟩
 ·rw[N1];unfold fl;congr 3;funext q;rw[BL]
 generalize hF:(L.filter fun q=>!gone.contains q)=F;have L6:F.Sublist L:=by rw[<-hF];exact List.filter_sublist
 refine Ar (HQ (AA 13 rfl) rfl) (fun hp=>?_) (fun hp=>AI ?_)
 ·refine BC (BO (PX.we (AA 13 rfl) ⟨p,?_⟩));rw[Ah hG];refine hR F (gd F L6 ?_);rintro rfl;simp at hp
 ·refine BC (BO (PX.we (Cz rfl mt Boot.«tuple» (AA 7 rfl)) ⟨p,?_⟩));rw[Ah hG];refine hR L (gd L (List.Sublist.refl _) ?_);rintro rfl;simp at cI;lia
end
end TF
namespace TF
open PySem PySem.Spec L2
open PyProof.Rows hiding St RelV
section
variable {P:Program}{w:World}{K:PySem.W.Frag}{mg:Str->Option Value}{base:Heap}{f:Addr}{fd:FuncData}
theorem QG(F:Fun K "_law_near" "_law_near" Fb f fd):FnOk P w K mg base CX0 1 f fd IB (Ae K YF):=by
 refine BA (k:=0) F J8 (fun A1 A outer s H E ds G R hr h=>?_);obtain⟨q,x,rfl,hR⟩:=h;have hu:(A.deeper (envOfC "_law_near" (AF Fb) s.heap.objs.size f A1)).units+9<cLine:=by have:=hr.units;lia
 refine R6 (f:=Fu 2 3) (DH 2 3 rfl J8.nd) (AA 1 rfl) rfl ?_;refine AV (Dr (Nc:=Iy) (caps:=OB) (l:=(nbM x).map sq) (f:=BW 0) (fun d=>(q.map sq).any fun e=>eqD e d) id
  (Bk (psc:=AF Fb) (PN:=Lj) (by decide +kernel) rfl rfl) rfl
  (Fc (B8 (AB (AM (AB (Bi (AA 2 rfl) AH) (AB (AA 3 rfl) AE))) (AB (AM (AB (AA 2 rfl) (AB (Bi (AA 3 rfl) AH) AE)))
   (AB (AM (AB (AA 2 rfl) (AB (Aw (AA 3 rfl) AH) AE))) (AB (AM (AB (Aw (AA 2 rfl) AH) (AB (AA 3 rfl) AE))) AE))))) ⟨rfl,rfl⟩)
  (fun C s' H' fp=>Aa 0 (show Iy.Nodup by decide +kernel)) (BE rfl) (show 4<=5000 by decide) ?_) ?_
 ·intro C s' H' fp G2 d hd kn;obtain⟨y,_,rfl⟩:=List.mem_map.mp hd;exact⟨_,rfl,Ao (Ii hu (AA 0 rfl) (AA 1 rfl) (.inl rfl) (B0 y) (Ba q)),fun _=>AA 0 rfl⟩
 ·rw[N1];have:(fun y=>(q.map sq).any fun e=>eqD e (sq y))=q.contains:=funext fun y=>BL q y;rw[this];exact hR
end
end TF
namespace TF
open PySem PySem.Spec L2
open PyProof.Rows hiding St RelV
section
variable {P:Program}{w:World}{K:PySem.W.Frag}{mg:Str->Option Value}{base:Heap}{f:Addr}{fd:FuncData}
theorem JB(n:Nat)(F:Fun K "_law_every" "_law_every" DB f fd)(mt:mg "tuple"=none)(FN:Df P w K mg base "_law_near" IB 1 YF)(ih:∀m,n=m+1->Df P w K mg base "_law_every" CH (m+2) (Kj m)):FnOk P w K mg base CX0 (n+2) f fd CH (Ae K (Kj n)):=by
 refine BA (k:=n+1) F CK (fun A1 A outer s H E ds G R hr h=>?_);obtain⟨q,kp,AR,rfl,up,hl,hn,hG,hV,hz,hR⟩:=h;have hu:(A.deeper (envOfC "_law_every" (AF DB) s.heap.objs.size f A1)).units+9<cLine:=by have:=hr.units;lia
 refine Ar (DS (HQ (p:=!q.isEmpty) (AA 0 rfl) (by cases q<;>rfl))) (fun hp=>?_) (fun hp=>AI ?_)
 ·have hq:q=[]:=by cases q with|nil=>rfl|cons _ _=>simp at hp
  subst hq;refine AV (B8 (AB (B8 AE) AE)) ?_
  have:=hR AR hV (by have:0<2 ^ n:=Nat.pow_pos (by decide);lia)
  rw[Dv hG]at this;exact this
 have BS:q≠[]:=by rintro rfl;simp at hp
 have rh:0<q.length:=List.length_pos_iff.mpr BS;obtain⟨m,rfl⟩:∃m,n=m+1:=⟨n-1,by lia⟩;have W:=ih m rfl;have lj:0<2 ^ m:=Nat.pow_pos (by decide);have jB:2 ^ (m+1)=2 ^ m+2 ^ m:=by rw[Nat.pow_succ];lia
 refine Fm (fun ρ' G'=>(∃x2 x3 x4 x5,ρ'=[some (fl q),some (.fn kp),x2,x3,x4,x5])/\∃BM,G'=put G kp (.dct BM)/\ValidE BM/\BM.length+1<=AR.length+2 ^ (m+1)/\Ac BM (fl q)=some (IZ (BN q)))
  (Ao (BQ hu (AA 0 rfl) (AA 1 rfl) hG (TB q) ⟨_,rfl⟩)) (fun GZ=>?_) (fun GZ=>?_) (fun ρ' G' hM=>?_)
 ·refine AS 2 CK.nd (B8 AE) ?_;refine AS 3 CK.nd (Au (AA 0 rfl) (Rb AH) (aH BS)) ?_;have two:=QY up;refine A7 (l:=(DD q (Ad q)).map sq) (f:=BW 4) (fun i ρ' G'=>(∃x4 x5,ρ'=[some (fl q),some (.fn kp),some (IZ (((DD q (Ad q)).take i).flatMap fun o=>(BN (Bd q (Ad q) o)).map (·++[(o,Ad q)]))),some (sq (Ad q)),x4,x5])/\∃BM,G'=put G kp (.dct BM)/\ValidE BM/\BM.length<=AR.length+i*(2 ^ m-1)) PassesOwn.never rfl
   (Bl (AO FN (hr.mono (by lia)) (AB (AA 0 rfl) (AB (AA 3 rfl) AE)) ⟨q,Ad q,rfl,_,rfl,rfl,⟨none,none,rfl⟩,AR,(Dv hG).symm,hV,by simp⟩)) (Aa 4 CK.nd) ?_ ?_
  ·rintro i dd ρ' G' hd ⟨⟨x4,x5,rfl⟩,Nv,rfl,fB,bV⟩;rw[List.getElem?_map]at hd;obtain⟨o,Je,rfl⟩:=Option.map_eq_some_iff.mp hd;have Ro:i<(DD q (Ad q)).length:=(List.getElem?_eq_some_iff.mp Je).1;have ho:o∈DD q (Ad q):=List.mem_of_getElem? Je;have RB:=D7 up BS ho;have kC:i*(2 ^ m-1)<=2 ^ m-1:=by
    have:i=0\/i=1:=by lia
    rcases this with rfl|rfl<;>lia
   refine⟨_,rfl,?_⟩;refine AS 5 CK.nd (PX.cast (d':=fl (Bd q (Ad q) o)) (Cz rfl mt Boot.«tuple» (Dr (Nc:=Ht) (caps:=MG) (l:=q.map sq) (f:=BW 0) (fun d=>!(eqD d (sq (Ad q)))&&!(eqD d (sq o))) id
    (Bk (psc:=AF DB) (PN:=GH) (by decide +kernel) rfl rfl) rfl (C3 (AA 0 rfl) ⟨rfl,rfl⟩)
     (fun C s' H' fp=>Aa 0 (show Ht.Nodup by decide +kernel)) (BE rfl) (by rw[List.length_map];lia) ?_)) ?_) ?_
   ·intro C s' H' fp G2 d hd kn;obtain⟨y,_,rfl⟩:=List.mem_map.mp hd;exact⟨_,rfl,(HC (Ao (OO hu (AA 0 rfl) (AA 1 rfl) rfl (AZ y 8) (AZ _ 8))) fun _=>El (Ao (OO hu (AA 0 rfl) (AA 2 rfl) rfl (AZ y 8) (AZ _ 8)))).t,fun _=>AA 0 rfl⟩
   ·rw[N1];unfold fl Bd;congr 3;funext y;rw[Hw,Hw]
   have l7:=fun r hr=>Fj (EY _ (Nat.le_refl _) (Dg up (Ad q) o) r hr);have cU:=Jx m (F:=Bd q (Ad q) o) (by lia) (Dg up _ _);have ke:2 ^ m<=2 ^ 11:=Nat.pow_le_pow_right (by decide) (by lia);have pD:(2:Nat) ^ 11=2048:=by decide
   have gL:(((DD q (Ad q)).take i).flatMap fun o=>(BN (Bd q (Ad q) o)).map (·++[(o,Ad q)])).length<=2048:=by
    have:i=0\/i=1:=by lia
    rcases this with rfl|rfl
    ·simp
    ·obtain⟨a,t,e⟩:∃a t,DD q (Ad q)=a::t:=List.exists_cons_of_ne_nil (List.ne_nil_of_mem ho);have ha:a∈DD q (Ad q):=by rw[e];exact List.mem_cons_self ..
     have cL:=D7 up BS ha
     have:=Jx m (F:=Bd q (Ad q) a) (by lia) (Dg up _ _)
     rw[e];simp;lia
   refine Af 2 CK.nd (ZZ (AA 2 rfl) (PZ (Nc:=Hr) (caps:=MQ) (l:=(BN (Bd q (Ad q) o)).map P4) (f:=BW 0) (fun d=>match d with|.lst l=>.lst (l++[AU (o,Ad q)])|_=>.non)
    (fun G'=>∃BM,G'=put G kp (.dct BM)/\ValidE BM/\BM.length<=AR.length+(i+1)*(2 ^ m-1))
    (Bk (psc:=AF DB) (PN:=GH) (by decide +kernel) rfl rfl) rfl
    (Bl (AO W (hr.mono (by lia)) (AB (AA 5 rfl) (AB (AA 1 rfl) AE)) ⟨Bd q (Ad q) o,kp,Nv,rfl,Dg up _ _,by lia,by lia,AG,fB,by lia,fun U9 iy cL=>⟨_,rfl,rfl,U9,Ab,iy,?_⟩⟩))
    (fun C s' H' fp=>Aa 0 (show Hr.Nodup by decide +kernel)) (BE rfl) (by rw[List.length_map];exact sz1 (by lia)) ?_ ?_))
   ·have:(i+1)*(2 ^ m-1)=i*(2 ^ m-1)+(2 ^ m-1):=by rw[Nat.add_mul];lia
    lia
   ·intro C s' H' fp G2 d hd;obtain⟨r,ng,rfl⟩:=List.mem_map.mp hd
    have:=l7 r ng
    exact⟨_,rfl,Ol (AA 0 rfl) (B8 (AB (AM (AB (AA 2 rfl) (AB (AA 1 rfl) AE))) AE)) (by rw[List.length_map];exact sz (by simp;lia))⟩
   ·rintro G2 ⟨U9,rfl,iy,cL⟩;refine⟨_,rfl,?_,AI ⟨⟨some (sq o),some (fl (Bd q (Ad q) o)),?_⟩,U9,rfl,iy,cL⟩⟩
    ·rw[List.length_map,List.length_map,List.length_map];refine sz (Nat.le_trans (Nat.add_le_add gL (Nat.le_trans cU ke)) (by decide))
    ·refine congrArg (fun z=>[some (fl q),some (.fn kp),some z,some (sq (Ad q)),some (sq o),some (fl (Bd q (Ad q) o))]) ?_;rw[List.take_add_one,Je,List.flatMap_append];unfold IZ;simp only[Option.toList_some,List.flatMap_cons,List.flatMap_nil,List.append_nil,List.map_append,List.map_map,Dat.lst.injEq];congr 1;refine List.map_congr_left fun r _=>?_;simp[Function.comp,P4]
  ·rintro ρ' G' ⟨⟨x4,x5,rfl⟩,Nv,rfl,fB,bV⟩;rw[List.length_map,List.take_length,<-Ex BS]at *;have RB:Nv.length<=AR.length+2*(2 ^ m-1):=Nat.le_trans bV (Nat.add_le_add_left (Nat.mul_le_mul_right _ two) _);refine CT (k:=fl q) (d:=IZ (BN q)) hu (AA 2 rfl) (AA 1 rfl) (AA 0 rfl) AG (TB q) ⟨_,rfl⟩ (sz1 (by have:(2:Nat) ^ 12=4096:=rfl;lia)) (AI ⟨⟨_,_,_,_,rfl⟩,?_⟩);rw[Ab];exact⟨_,rfl,fB.put q,by have:=D9 Nv (fl q) (IZ (BN q));lia,RY _ _ _⟩
 ·refine AI ⟨⟨_,_,_,_,rfl⟩,AR,(Dv hG).symm,hV,by lia,?_⟩;have hs:(Ac AR (fl q)).isSome=true:=by
   cases e:(Ac AR (fl q)).isSome with
   |true=>rfl
   |false=>
    have Ft:(!(Ac AR (fl q)).isSome)=false:=GZ;rw[e]at Ft;cases Ft
  obtain⟨d,hd⟩:=Option.isSome_iff_exists.mp hs;rw[hd,hV.look hd]
 ·obtain⟨⟨x2,x3,x4,x5,rfl⟩,BM,rfl,lC,PB,look⟩:=hM;exact AV (Bw (k:=fl q) hu (AA 1 rfl) (AA 0 rfl) AG (TB q) ⟨_,rfl⟩ look) (hR BM lC PB)
theorem Rz(F:Fun K "_law_all" "_law_all" Ha f fd)(mt:mg "tuple"=none)(ms:mg "sorted"=none)(W:Df P w K mg base "_law_every" CH 14 (Kj 12)):FnOk P w K mg base CX0 15 f fd JS (Ae K cP):=by
 refine BA (k:=14) F SQ (fun A1 A outer s H E ds G R hr h=>?_);obtain⟨q,rfl,BS,up,hl,hR⟩:=h;have hu:(A.deeper (envOfC "_law_all" (AF Ha) s.heap.objs.size f A1)).units+20<cLine:=by have:=hr.units;lia
 have ez:=Jx 12 (F:=q) (by lia) up;have n9:(2:Nat) ^ 12=4096:=by decide
 have V0:ValidE []:=fun _ h=>nomatch h;refine AV (D3 Kd ((BN q).map TSt.sort) (d1:=.lst (((BN q).map TSt.sort).map lay)) hu ms (BO (PZ (Nc:=KS) (caps:=Py) (l:=(BN q).map P4) (f:=BW 0) (via P4 fun r=>lay (TSt.sort r))
  (fun G'=>∃p AR,G p=none/\G'=put G p (.dct AR)) (Bk (psc:=AF Ha) (PN:=Ms) (by decide +kernel) rfl rfl) rfl
  (Bl (YB W hr (HN (PX.we (AA 0 rfl) (HN (FJ fun p hp=>Wh ⟨q,p,[],rfl,up,by lia,by lia,AG,V0,by decide,fun BM _ _=>⟨_,rfl,rfl,p,BM,hp,Ab⟩⟩))))))
  (fun C s' H' fp=>Aa 0 (show KS.Nodup by decide +kernel)) (BE rfl) (by rw[List.length_map];exact sz1 (by lia)) ?_ ?_)) (.inl rfl) ?_) ?_
 ·intro C s' H' fp G2 d hd;obtain⟨r,ng,rfl⟩:=List.mem_map.mp hd;refine⟨_,rfl,?_⟩;rw[C1 QW];exact Cz rfl mt Boot.«tuple» (D3 TSt r hu ms (AA 0 rfl) (.inl rfl) (.inr fun x _=>⟨_,_,rfl⟩))
 ·rintro G' ⟨p,AR,hp,rfl⟩;refine⟨p,?_,?_⟩
  ·rw[Zq QW,List.map_map];rfl
  ·rw[Ah hp]
 ·refine .inr fun x hx=>?_;obtain⟨r,hr,rfl⟩:=List.mem_map.mp hx;have C:=(EY _ (Nat.le_refl _) up r hr).lay (EG up);have hc:=Fj C.toCov;have rh:0<q.length:=List.length_pos_iff.mpr BS;obtain⟨a,t,e⟩:∃a t,TSt.sort r=a::t:=List.exists_cons_of_ne_nil (by intro h0;rw[h0]at hc;simp at hc;lia);rw[e];exact⟨_,_,rfl⟩
 ·exact hR
end
end TF
namespace TF
open PySem PySem.Spec L2
open PyProof.Rows hiding St RelV
def XA:SpD:=fun ds G R=>∃i:Int,ds=[.int i]/\R (.bl true) G
def QR:SpD:=fun ds G R=>∃q:Sq,ds=[sq q]/\R (.bl true) G
section
variable {P:Program}{w:World}{K:PySem.W.Frag}{mg:Str->Option Value}{base:Heap}{f:Addr}{fd:FuncData}
theorem N6(F:Fun K "is_number" "is_number" J5 f fd)(mi:mg "isinstance"=none)(mn:mg "int"=none)(mb:mg "bool"=none):FnOk P w K mg base CX0 1 f fd Gd (Ae K XA):=by refine BA (k:=0) F Nd (fun A1 A outer s H E ds G R hr h=>?_);obtain⟨i,rfl,hR⟩:=h;refine AV (DJ (Jm (T:="int") (T':="int") mi mn (AA 0 rfl)) fun _=>Ge (R7 (Jm (T:="bool") (T':="bool") mi mb (AA 0 rfl)))) ?_;exact hR
theorem RN(F:Fun K "is_pair" "is_pair" ND f fd)(mi:mg "isinstance"=none)(mt:mg "tuple"=none)(ml:mg "len"=none):FnOk P w K mg base CX0 1 f fd Jc (Ae K QR):=by refine BA (k:=0) F Ru (fun A1 A outer s H E ds G R hr h=>?_);obtain⟨q,rfl,hR⟩:=h;refine AV (DJ (Jm (T:="tuple") (T':="tuple") mi mt (AA 0 rfl)) fun _=>Ge (PX.cast (d':=.bl true) (Iz (EI (Bp (n:=2) rfl ml (AA 0 rfl) rfl) AH)) rfl)) ?_;exact hR
theorem QO(F:Fun K "is_place" "is_place" MC f fd)(FP:Df P w K mg base "is_pair" Jc 1 QR)(FN:Df P w K mg base "is_number" Gd 1 XA):FnOk P w K mg base CX0 2 f fd Fs (Ae K QR):=by refine BA (k:=1) F P5 (fun A1 A outer s H E ds G R hr h=>?_);obtain⟨q,rfl,hR⟩:=h;exact AV (DJ (AO FP hr (AB (AA 0 rfl) AE) ⟨q,rfl,rfl,rfl⟩) fun _=>DJ (AO FN hr (AB (Au (AA 0 rfl) AH rfl) AE) ⟨q.1,rfl,rfl,rfl⟩) fun _=>Ge (AO FN hr (AB (Au (AA 0 rfl) AH rfl) AE) ⟨q.2,rfl,rfl,rfl⟩)) hR
end
end TF
namespace TF
open PySem PySem.Spec L2
open PyProof.Rows hiding St RelV
section
variable {P:Program}{w:World}{K:PySem.W.Frag}{mg:Str->Option Value}{base:Heap}{f:Addr}{fd:FuncData}
theorem O4(F:Fun K "is_rising" "is_rising" EB f fd)(ma:mg "all"=none)(mz:mg "zip"=none):FnOk P w K mg base CX0 1 f fd GL (Ae K Ph):=by
 refine BA (k:=0) F OI (fun A1 A outer s H E ds G R hr h=>?_);obtain⟨l,rfl,hz,ho,hR⟩:=h;have hu:(A.deeper (envOfC "is_rising" (AF EB) s.heap.objs.size f A1)).units+9<cLine:=by have:=hr.units;lia
 refine AV (R1 (bs:=(l.zip (l.drop 1)).map fun p=>Cq true p.1 p.2) rfl ma (PX.cast (Gm (Nc:=Hq) (caps:=MO) (l:=MJ l (l.drop 1)) (f:=Fu 0 1) (fun d=>match d with|.tup [x,y]=>.bl (Cq true x y)|_=>.non)
  (Bk (psc:=AF EB) (PN:=KJ) (by decide +kernel) rfl rfl) rfl
  (dG mz (AA 0 rfl) (PX.cast (Jv (ol:=some 1) (oh:=none) (AA 0 rfl) AH trivial) (by rw[i5])) ⟨rfl,rfl⟩)
  (fun C s' H' fp=>DH 0 1 rfl (show Hq.Nodup by decide +kernel)) (LF rfl rfl) ?_ ?_) ?_)) ?_
 ·unfold MJ;rw[List.length_map,List.length_zip];lia
 ·intro C s' H' fp G2 d hd kn;unfold MJ at hd;obtain⟨p,hp,rfl⟩:=List.mem_map.mp hd;obtain⟨h1,h2,h3⟩:=ho p hp;exact⟨_,rfl,Iz (Tu hu (AA 0 rfl) (AA 1 rfl) h1 h2 h3)⟩
 ·unfold MJ;rw[List.map_map,List.map_map];rfl
 ·rw[List.all_map];exact hR
end
end TF
namespace TF
open PySem PySem.Spec L2
open PyProof.Rows hiding St RelV
section
variable {P:Program}{w:World}{K:PySem.W.Frag}{mg:Str->Option Value}{base:Heap}{f:Addr}{fd:FuncData}
theorem Hg(F:Fun K "neighbours" "neighbours" Ip f fd):FnOk P w K mg base CX0 1 f fd DV (Ae K (MN nbM)):=by
 refine BA (k:=0) F EM (fun A1 A outer s H E ds G R hr h=>?_);obtain⟨q,rfl,hR⟩:=h;refine AS 1 EM.nd (Au (AA 0 rfl) AH rfl) ?_;refine AS 2 EM.nd (Au (AA 0 rfl) AH rfl) ?_;exact AV (B8 (AB (AM (AB (Bi (AA 1 rfl) AH) (AB (AA 2 rfl) AE))) (AB (AM (AB (AA 1 rfl) (AB (Bi (AA 2 rfl) AH) AE)))
  (AB (AM (AB (AA 1 rfl) (AB (Aw (AA 2 rfl) AH) AE))) (AB (AM (AB (Aw (AA 1 rfl) AH) (AB (AA 2 rfl) AE))) AE))))) hR
theorem Gi(F:Fun K "corner_neighbours" "corner_neighbours" DQ f fd):FnOk P w K mg base CX0 1 f fd Bh (Ae K (MN cnM)):=by
 refine BA (k:=0) F CD (fun A1 A outer s H E ds G R hr h=>?_);obtain⟨q,rfl,hR⟩:=h;refine AS 1 CD.nd (Au (AA 0 rfl) AH rfl) ?_;refine AS 2 CD.nd (Au (AA 0 rfl) AH rfl) ?_;exact AV (B8 (AB (AM (AB (Bi (AA 1 rfl) AH) (AB (Bi (AA 2 rfl) AH) AE))) (AB (AM (AB (Bi (AA 1 rfl) AH) (AB (Aw (AA 2 rfl) AH) AE)))
  (AB (AM (AB (Aw (AA 1 rfl) AH) (AB (Bi (AA 2 rfl) AH) AE))) (AB (AM (AB (Aw (AA 1 rfl) AH) (AB (Aw (AA 2 rfl) AH) AE))) AE))))) hR
theorem Hh(F:Fun K "all_around" "all_around" Io f fd)(F1:Df P w K mg base "neighbours" DV 1 (MN nbM))(F2:Df P w K mg base "corner_neighbours" Bh 1 (MN cnM)):FnOk P w K mg base CX0 2 f fd Ig (Ae K (MN aaM)):=by refine BA (k:=1) F MW (fun A1 A outer s H E ds G R hr h=>?_);obtain⟨q,rfl,hR⟩:=h;exact AV (Ol (l:=(nbM q).map sq) (m:=(cnM q).map sq) (AO F1 hr (AB (AA 0 rfl) AE) ⟨q,rfl,rfl,rfl⟩) (AO F2 hr (AB (AA 0 rfl) AE) ⟨q,rfl,rfl,rfl⟩) (show 8<=sizeLine by decide)) hR
theorem Kz(kk:Nat)(F:Fun K "reached" "reached" Jt f fd)(ml:mg "len"=none):FnOk P w K mg base CX0 (kk+1) f fd HM (Ae K (Jw P w K mg base kk)):=by
 refine BA (k:=kk) F Dj (fun A1 A outer s H E ds G R hr h=>?_);obtain⟨start,g,gd,f',nb,rfl,rV,FA,jm,hR⟩:=h;have hu:(A.deeper (envOfC "reached" (AF Jt) s.heap.objs.size f A1)).units+9<cLine:=by have:=hr.units;lia
 refine Af 3 Dj.nd (cR hu (fun _ _=>AA 0 rfl) (fun _ _=>Kv) (A5 start) ⟨_,rfl⟩ (fun p1 GZ=>?_));refine BY 4 Dj.nd (AB (AA 0 rfl) AE) (fun p2 Ft=>?_);have BS:p1≠p2:=by rintro rfl;rw[AG]at Ft;cases Ft
 have WM:G p2=none:=by rw[AL (Ne.symm BS)]at Ft;exact Ft
 have L6:∀L:List Sq,L.Nodup->(∀x∈L,Con (fun a b=>b∈nb a) (·∈g) start x)->L.length<=g.length+1:=fun L h1 h2=>by
  have:=BD h1 fun x hx=>au (h2 x hx)
  simpa using this
 refine Cv (fun m ρ' G'=>∃(L W:List Sq)(y5 y6:Option Dat),ρ'=[some (sq start),some gd,some (.fn f'),some (.fn p1),some (.fn p2),y5,y6]/\G'=put (put G p1 (.dct (L.map kvT))) p2 (.lst (W.map sq)) ∧
   L.Nodup/\start∈L/\(∀x∈L,Con (fun a b=>b∈nb a) (·∈g) start x)/\(∀x∈W,x∈L)/\(∀x∈L,x∈W\/∀y∈nb x,y∈g->y∈L)/\m=2*(g.length+1-L.length)+W.length/\m<=2*g.length+1) PassesOwn.never
  (m0:=2*(g.length+1-1)+1) ⟨[start],[start],none,none,rfl,rfl,by simp,by simp,fun x hx=>by rw[List.mem_singleton.mp hx];exact .base,fun x hx=>hx,fun x hx=>.inl hx,rfl,by lia⟩ ?_
 rintro m ρ' G' ⟨L,W,y5,y6,rfl,rfl,nd,hs,hc,hW,aj,hm,jX⟩;refine CY (Ao (FU (Bp (n:=W.length) rfl ml (AA 4 rfl) (by simp[JC,AG])) AH)) ⟨fun hp=>?_,fun hp=>?_⟩
 ·have Jh:0<W.length:=by have:=of_decide_eq_true hp;lia
  obtain⟨W0,x,rfl⟩:∃W0 x,W=W0++[x]:=⟨W.dropLast,W.getLast (List.ne_nil_of_length_pos Jh),(List.dropLast_concat_getLast _).symm⟩;rw[List.length_append,List.length_singleton]at hm;refine Af 5 Dj.nd (YS (d:=sq x) (l:=W0.map sq) (AA 4 rfl) (by rw[AG,List.map_append];rfl) ?_);rw[Ab];have hx:x∈L:=hW x (by simp);have A2:=L6 L nd hc;refine A7 (l:=(nb x).map sq) (fun i ρ' G'=>∃(L W:List Sq)(y6:Option Dat),ρ'=[some (sq start),some gd,some (.fn f'),some (.fn p1),some (.fn p2),some (sq x),y6]/\G'=put (put G p1 (.dct (L.map kvT))) p2 (.lst (W.map sq)) ∧
    L.Nodup/\start∈L/\(∀x∈L,Con (fun a b=>b∈nb a) (·∈g) start x)/\(∀x∈W,x∈L)/\x∈L/\(∀z∈L,z∈W\/(∀y∈nb z,y∈g->y∈L)\/z=x)/\(∀y∈(nb x).take i,y∈g->y∈L)/\2*(g.length+1-L.length)+W.length+1<=m) PassesOwn.never rfl
   (Bl (YE (AA 2 rfl) FA hr (AB (AA 5 rfl) AE) ⟨x,rfl,_,rfl,rfl,L,W0,y6,rfl,rfl,nd,hs,hc,fun z hz=>hW z (by simp[hz]),hx,?_,by simp,by lia⟩)) (Aa 6 Dj.nd) ?_ ?_
  ·intro z hz;rcases aj z hz with h|h
   ·rcases List.mem_append.mp h with h|h
    ·exact .inl h
    ·exact .inr (.inr (List.mem_singleton.mp h))
   ·exact .inr (.inl h)
  ·clear A2 hx aj hW hc hs nd hm;rintro i dd ρ' G' hd ⟨L,W,y6,rfl,rfl,nd,hs,hc,hW,hx,aj,hi,hm⟩;rw[List.getElem?_map]at hd;obtain⟨y,hy,rfl⟩:=Option.map_eq_some_iff.mp hd;have fj:y∈nb x:=List.mem_of_getElem? hy;have et:(nb x).take (i+1)=(nb x).take i++[y]:=by rw[List.take_add_one,hy];rfl
   have Fo:put (put G p1 (.dct (L.map kvT))) p2 (.lst (W.map sq)) p1=some (.dct (L.map kvT)):=by rw[AL BS,AG]
   have A2:=L6 L nd hc;refine⟨_,rfl,Ar (HC (Ao (Ii hu (AA 6 rfl) (AA 1 rfl) (rV.elim .inl fun h=>.inr (.inl h)) (B0 y) (Ba g))) (fun _=>El (Ao (BQ hu (AA 6 rfl) (AA 3 rfl) Fo (A5 y) ⟨_,rfl⟩)))).t (fun hp=>?_) (fun hp=>AI (AI ?_))⟩
   ·rw[BL,JD]at hp;simp only[Bool.and_eq_true,Bool.not_eq_true',List.contains_eq_mem,decide_eq_true_eq,decide_eq_false_iff_not]at hp;obtain⟨oY,dM⟩:=hp;refine CT (d:=.bl true) hu Kv (AA 3 rfl) (AA 6 rfl) Fo (A5 y) ⟨_,rfl⟩ (by rw[List.length_map];exact sz1 (by lia)) ?_;rw[Wx dM];refine A0 (d:=sq y) (l:=W.map sq) (AA 4 rfl) (AA 6 rfl) (by rw[AL (Ne.symm BS),AG]) (by rw[List.length_map];exact sz1 (by lia)) (AI (AI ?_));refine⟨L++[y],W++[y],_,rfl,?_,?_,by simp[hs],?_,?_,by simp[hx],?_,?_,?_⟩
    ·rw[mK BS];simp only[List.map_append,List.map_cons,List.map_nil]
    ·rw[List.nodup_append];exact⟨nd,by simp,fun a ha b hb e=>by rw[List.mem_singleton.mp hb]at e;subst e;exact dM ha⟩
    ·intro z hz;rcases List.mem_append.mp hz with h|h
     ·exact hc z h
     ·rw[List.mem_singleton.mp h];exact .step (hc x hx) fj oY
    ·intro z hz;rcases List.mem_append.mp hz with h|h
     ·exact List.mem_append_left _ (hW z h)
     ·exact List.mem_append_right _ h
    ·intro z hz;rcases List.mem_append.mp hz with h|h
     ·rcases aj z h with h|h|h
      ·exact .inl (List.mem_append_left _ h)
      ·exact .inr (.inl fun y' h1 h2=>List.mem_append_left _ (h y' h1 h2))
      ·exact .inr (.inr h)
     ·exact .inl (List.mem_append_right _ h)
    ·intro y' h1 h2;rw[et]at h1;rcases List.mem_append.mp h1 with h|h
     ·exact List.mem_append_left _ (hi y' h h2)
     ·exact List.mem_append_right _ h
    ·have i6:=L6 (L++[y]) (by
      rw[List.nodup_append];exact⟨nd,by simp,fun a ha b hb e=>by rw[List.mem_singleton.mp hb]at e;subst e;exact dM ha⟩) (by
      intro z hz;rcases List.mem_append.mp hz with h|h
      ·exact hc z h
      ·rw[List.mem_singleton.mp h];exact .step (hc x hx) fj oY)
     simp only[List.length_append,List.length_singleton]at i6 ⊢;lia
   ·rw[BL,JD]at hp;refine⟨L,W,_,rfl,rfl,nd,hs,hc,hW,hx,aj,?_,hm⟩;intro y' h1 h2;rw[et]at h1;rcases List.mem_append.mp h1 with h|h
    ·exact hi y' h h2
    ·rw[List.mem_singleton.mp h]at h2 ⊢;refine Classical.byContradiction fun hn=>?_;simp[h2,hn]at hp
  ·clear A2 hx aj hW hc hs nd hm;rintro ρ' G' ⟨L,W,y6,rfl,rfl,nd,hs,hc,hW,hx,aj,hi,hm⟩;rw[List.length_map,List.take_length]at hi;refine AI ⟨_,hm,L,W,_,y6,rfl,rfl,nd,hs,hc,hW,fun z hz=>?_,rfl,by lia⟩;rcases aj z hz with h|h|rfl
   ·exact .inl h
   ·exact .inr h
   ·exact .inr hi
 ·have kO:W=[]:=by
   have:=of_decide_eq_false hp
   exact List.eq_nil_of_length_eq_zero (by lia)
  subst kO;refine BC (BO (PX.we (AA 3 rfl) ⟨p2,?_⟩));rw[Ah (by rw[AL (Ne.symm BS)];exact WM)];exact hR p1 L GZ (gz nd hs hc fun x hx y h1 h2=>by
   rcases aj x hx with h|h
   ·cases h
   ·exact h y h1 h2)
theorem IQ(F:Fun K "hangs_together" "hangs_together" Ee f fd)(ml:mg "len"=none)(FR:Df P w K mg base "reached" HM 2 (Jw P w K mg base 1))(FN:∃f',mg "neighbours"=some (.ref f')/\DfA P w K mg base f' ["square"] 1 (MN nbM)):FnOk P w K mg base CX0 3 f fd C4 (Ae K (spF fun F=>.bl (Ym F))):=by
 refine BA (k:=2) F IW (fun A1 A outer s H E ds G R hr h=>?_);obtain⟨q,rfl,gd,hR⟩:=h;obtain⟨f',hm,FA⟩:=FN;have iA:=Zi gd;refine AV (Iz (EI (i:=(card nbR (·∈q) (q.headD (0,0)):Nat)) (j:=(q.length:Nat)) (BO (UN ml (AO FR hr (AB (Au (AA 0 rfl) AH iA) (AB (AA 0 rfl) (AB (cS hm) AE)))
  ⟨q.headD (0,0),q,_,f',nbM,rfl,.inl rfl,FA,by have:=gd.len;lia,fun p L hp hL=>⟨p,_,rfl,AG,p,?_,Ah hp⟩⟩))) (Bp rfl ml (AA 0 rfl) (Tq _ _)))) hR
 rw[List.length_map,hL.card]
theorem Kb(F:Fun K "bare_squares" "bare_squares" CC f fd)(mr:mg "range"=none)(mn:mg "min"=none)(mx:mg "max"=none):FnOk P w K mg base CX0 1 f fd Di (Ae K Xs):=by
 refine BA (k:=0) F BU (fun A1 A outer s H E ds G R hr h=>?_);obtain⟨q,r0,r1,c0,c1,rfl,gd,bb,hR⟩:=h;have hu:(A.deeper (envOfC "bare_squares" (AF CC) s.heap.objs.size f A1)).units+9<cLine:=by have:=hr.units;lia
 have sW:=gd.len;have gQ:∀a∈q.map (·.1),0<=a/\a<=7:=fun a ha=>by obtain⟨p,hp,rfl⟩:=List.mem_map.mp ha;have:=gd.inn p hp;lia
 have gb:∀a∈q.map (·.2),0<=a/\a<=7:=fun a ha=>by obtain⟨p,hp,rfl⟩:=List.mem_map.mp ha;have:=gd.inn p hp;lia
 have b1:=gQ _ bb.r0m;have b2:=gQ _ bb.r1m;have b3:=gb _ bb.c0m;have b4:=gb _ bb.c1m;obtain⟨qI,sQ⟩:=bb.le;have step:∀(i:Int)(g:Sq->Int)(d:Dat),d∈q.map sq->∃p,d=sq p:=fun i g d hd=>by obtain⟨p,_,e⟩:=List.mem_map.mp hd;exact⟨p,e.symm⟩
 refine Q3 1 (Nc:=Eb) (caps:=JW) (l:=q.map sq) (f:=BW 0) (fun d=>match d with|.tup [.int a,.int b]=>.int a|_=>.non) BU.nd
  (Bk (psc:=AF CC) (PN:=D2) (by decide +kernel) rfl rfl) rfl (C3 (AA 0 rfl) ⟨rfl,rfl⟩) (fun C s' H' fp=>Aa 0 (show Eb.Nodup by decide +kernel)) (BE rfl) (by rw[List.length_map];lia) ?_ ?_
 ·intro C s' H' fp G' d hd _;obtain⟨p,_,rfl⟩:=List.mem_map.mp hd;exact⟨_,rfl,Au (AA 0 rfl) AH rfl⟩
 have e1:(q.map sq).map (fun d=>match d with|.tup [.int a,.int b]=>Dat.int a|_=>.non)=(q.map (·.1)).map Dat.int:=by
  rw[List.map_map,List.map_map];rfl
 rw[e1];refine Q3 2 (Nc:=Em) (caps:=Ja) (l:=q.map sq) (f:=BW 0) (fun d=>match d with|.tup [.int a,.int b]=>.int b|_=>.non) BU.nd
  (Bk (psc:=AF CC) (PN:=D2) (by decide +kernel) rfl rfl) rfl (C3 (AA 0 rfl) ⟨rfl,rfl⟩) (fun C s' H' fp=>Aa 0 (show Em.Nodup by decide +kernel)) (BE rfl) (by rw[List.length_map];lia) ?_ ?_
 ·intro C s' H' fp G' d hd _;obtain⟨p,_,rfl⟩:=List.mem_map.mp hd;exact⟨_,rfl,Au (AA 0 rfl) AH rfl⟩
 have e2:(q.map sq).map (fun d=>match d with|.tup [.int a,.int b]=>Dat.int b|_=>.non)=(q.map (·.2)).map Dat.int:=by
  rw[List.map_map,List.map_map];rfl
 rw[e2];refine BY 3 BU.nd AE (fun p hG=>?_);refine A7 (l:=BK (r0-1) (r1+2-(r0-1)).toNat) (fun i ρ' G'=>∃(y4 y5:Option Dat),ρ'=[some (fl q),some (.lst ((q.map (·.1)).map Dat.int)),some (.lst ((q.map (·.2)).map Dat.int)),some (.fn p),y4,y5] ∧
   G'=put G p (.lst (((Ie (r0-1) (c0-1) i (c1+2-(c0-1)).toNat).filter fun z=>!q.contains z).map sq))) PassesOwn.never rfl
  (NO rfl mr (Bi (Us rfl mn (AA 1 rfl) bb.r0m bb.r0l) AH) (Aw (T9 rfl mx (AA 1 rfl) bb.r1m bb.r1l) AH) (by lia) ⟨rfl,none,none,rfl,rfl⟩) (Aa 4 BU.nd) ?_ ?_
 ·rintro i dd ρ' G' hd ⟨y4,y5,rfl,rfl⟩;obtain⟨A6,rfl⟩:=C0 hd;refine⟨_,rfl,?_⟩;refine A7 (l:=BK (c0-1) (c1+2-(c0-1)).toNat) (fun j ρ' G'=>∃(y5:Option Dat),ρ'=[some (fl q),some (.lst ((q.map (·.1)).map Dat.int)),some (.lst ((q.map (·.2)).map Dat.int)),some (.fn p),some (.int (r0-1+(i:Nat))),y5] ∧
    G'=put G p (.lst (((Ie (r0-1) (c0-1) i (c1+2-(c0-1)).toNat++(List.range j).map fun(j:Nat)=>(r0-1+(i:Nat),c0-1+(j:Int))).filter fun z=>!q.contains z).map sq))) PassesOwn.never rfl
   (NO rfl mr (Bi (Us rfl mn (AA 2 rfl) bb.c0m bb.c0l) AH) (Aw (T9 rfl mx (AA 2 rfl) bb.c1m bb.c1l) AH) (by lia) ⟨rfl,y5,rfl,by simp⟩) (Aa 5 BU.nd) ?_ ?_
  ·rintro j dd ρ' G' hd ⟨y5,rfl,rfl⟩;obtain⟨eD,rfl⟩:=C0 hd;have es:(List.range (j+1)).map (fun(j:Nat)=>((r0-1+(i:Nat),c0-1+(j:Int)):Sq))=(List.range j).map (fun(j:Nat)=>((r0-1+(i:Nat),c0-1+(j:Int)):Sq))++[(r0-1+(i:Nat),c0-1+(j:Int))]:=by
    rw[List.range_succ,List.map_append];rfl
   refine⟨_,rfl,Ar (Ao (Br hu (AM (AB (AA 4 rfl) (AB (AA 5 rfl) AE))) (AA 0 rfl) (.inl rfl) (B0 (r0-1+(i:Nat),c0-1+(j:Int))) (Ba q))) (fun hp=>?_) (fun hp=>AI (AI ⟨_,rfl,?_⟩))⟩
   ·have To:(!q.contains (r0-1+(i:Int),c0-1+(j:Int)))=true:=by rw[<-BL];exact hp
    refine A0 (d:=sq (r0-1+(i:Int),c0-1+(j:Int))) (AA 3 rfl) (AM (AB (AA 4 rfl) (AB (AA 5 rfl) AE))) AG ?_ (AI (AI ⟨_,rfl,?_⟩))
    ·rw[List.length_map];refine sz1 (Nat.le_trans (List.length_filter_le _ _) ?_);rw[List.length_append,Oi,List.length_map,List.length_range];have:i*(c1+2-(c0-1)).toNat<=10*10:=Nat.mul_le_mul (by lia) (by lia);lia
    ·rw[Ab,es,<-List.append_assoc,Wi _ _ _ To]
   ·have To:¬(!q.contains (r0-1+(i:Int),c0-1+(j:Int)))=true:=by rw[<-BL];exact Bool.eq_false_iff.mp hp
    rw[es,<-List.append_assoc,VB _ _ _ To]
  ·rintro ρ' G' ⟨y5,rfl,rfl⟩;rw[C5];refine AI ⟨_,_,rfl,?_⟩;rw[Qu]
 ·rintro ρ' G' ⟨y4,y5,rfl,rfl⟩;rw[C5];refine Dx (AA 3 rfl) AG ?_;rw[Ah hG];exact hR
theorem QM(F:Fun K "has_hole" "has_hole" Kx f fd)(ml:mg "len"=none)(FB:Df P w K mg base "bare_squares" Di 1 Xs)(FR:Df P w K mg base "reached" HM 3 (Jw P w K mg base 2))(FN:∃f',mg "all_around"=some (.ref f')/\DfA P w K mg base f' ["square"] 2 (MN aaM)):FnOk P w K mg base CX0 4 f fd IC (Ae K Yb):=by
 refine BA (k:=3) F J9 (fun A1 A outer s H E ds G R hr h=>?_);obtain⟨q,r0,r1,c0,c1,rfl,gd,bb,hR⟩:=h;obtain⟨f',hm,FA⟩:=FN;refine AS 1 J9.nd (AO FB (hr.mono (by lia)) (AB (AA 0 rfl) AE) ⟨q,r0,r1,c0,c1,rfl,gd,bb,rfl,rfl⟩) ?_;have iA:atI ((Hi q r0 r1 c0 c1).map sq) 0=some (sq (r0-1,c0-1)):=by obtain⟨r,e⟩:=VV bb;rw[e];exact C7 (j:=0) rfl
 refine AV (Iz (Ou (i:=(card aaR (·∈Hi q r0 r1 c0 c1) (r0-1,c0-1):Nat)) (j:=((Hi q r0 r1 c0 c1).length:Nat)) (BO (UN ml (AO FR hr (AB (DP (AA 1 rfl) AH iA) (AB (AA 1 rfl) (AB (cS hm) AE)))
  ⟨(r0-1,c0-1),Hi q r0 r1 c0 c1,_,f',aaM,rfl,.inr rfl,FA,?_,fun p L hp hL=>⟨p,_,rfl,AG,p,?_,Ah hp⟩⟩))) (Bp rfl ml (AA 1 rfl) (by simp[JC])))) hR
 ·exact av gd bb
 ·rw[List.length_map,hL.card]
theorem Ec(F:Fun K "meet_by_corner_alone" "meet_by_corner_alone" Bt f fd):FnOk P w K mg base CX0 1 f fd Bx (Ae K YM):=by
 refine BA (k:=0) F EZ (fun A1 A outer s H E ds G R hr h=>?_);obtain⟨q,s',o,rfl,hR⟩:=h;have hu:(A.deeper (envOfC "meet_by_corner_alone" (AF Bt) s.heap.objs.size f A1)).units+9<cLine:=by have:=hr.units;lia
 refine AV (DJ (Iz (Ii hu (AA 2 rfl) (AA 0 rfl) (.inl rfl) (B0 o) (Ba q))) fun _=>DJ (Iz (Br hu (AM (AB (Au (AA 1 rfl) AH rfl) (AB (Au (AA 2 rfl) AH rfl) AE))) (AA 0 rfl) (.inl rfl) (B0 (s'.1,o.2)) (Ba q)))
  fun _=>Ge (Iz (Br hu (AM (AB (Au (AA 2 rfl) AH rfl) (AB (Au (AA 1 rfl) AH rfl) AE))) (AA 0 rfl) (.inl rfl) (B0 (o.1,s'.2)) (Ba q)))) ?_
 have e1:=BL q o;have e2:=BL q (s'.1,o.2);have e3:=BL q (o.1,s'.2);unfold Qf at hR;rw[<-e1,<-e2,<-e3]at hR;exact hR
theorem IM(F:Fun K "has_bare_corner" "has_bare_corner" EH f fd)(FM:Df P w K mg base "meet_by_corner_alone" Bx 1 YM)(FC:Df P w K mg base "corner_neighbours" Bh 1 (MN cnM)):FnOk P w K mg base CX0 2 f fd Ce (Ae K (spF fun F=>.bl (LP F))):=by
 refine BA (k:=1) F CZ (fun A1 A outer s H E ds G R hr h=>?_);obtain⟨q,rfl,gd,hR⟩:=h;replace hR:R (.bl (LP q)) G:=hR;refine A7 (l:=q.map sq) (fun i ρ' G'=>G=G'/\(∃y1 y2,ρ'=[some (fl q),y1,y2])/\((q.take i).any fun s=>(cnM s).any fun o=>Qf q s o)=false) PassesOwn.never rfl (C3 (AA 0 rfl) ⟨rfl,rfl,⟨none,none,rfl⟩,by simp⟩) (Aa 1 CZ.nd) ?_ ?_
 ·rintro i dd ρ' G' hd ⟨rfl,⟨y1,y2,rfl⟩,Rl⟩;rw[List.getElem?_map]at hd;obtain⟨x,hx,rfl⟩:=Option.map_eq_some_iff.mp hd;refine⟨_,rfl,?_⟩;refine A7 (l:=(cnM x).map sq) (fun j ρ' G'=>G=G'/\(∃y2,ρ'=[some (fl q),some (sq x),y2])/\(((cnM x).take j).any fun o=>Qf q x o)=false) PassesOwn.never rfl (Bl (AO FC hr (AB (AA 1 rfl) AE) ⟨x,rfl,_,rfl,rfl,rfl,⟨y2,rfl⟩,by simp⟩)) (Aa 2 CZ.nd) ?_ ?_
  ·rintro j dd ρ' G' hd ⟨rfl,⟨y2,rfl⟩,Zn⟩;rw[List.getElem?_map]at hd;obtain⟨o,ho,rfl⟩:=Option.map_eq_some_iff.mp hd;refine⟨_,rfl,Ar (B4 (AO FM hr (AB (AA 0 rfl) (AB (AA 1 rfl) (AB (AA 2 rfl) AE))) ⟨q,x,o,rfl,rfl,rfl⟩)) (fun hp=>AV Kv ?_) (fun hp=>AI (AI ⟨rfl,⟨_,rfl⟩,?_⟩))⟩
   ·have:LP q=true:=by
     unfold LP;rw[List.any_eq_true];refine⟨x,List.mem_of_getElem? hx,?_⟩;rw[List.any_eq_true];exact⟨o,List.mem_of_getElem? ho,hp⟩
    rw[this]at hR;exact hR
   ·rw[List.take_add_one,ho,List.any_append,Zn];simp[hp]
  ·rintro ρ' G' ⟨rfl,⟨y2,rfl⟩,Zn⟩;rw[List.length_map,List.take_length]at Zn;refine AI ⟨rfl,⟨_,_,rfl⟩,?_⟩;rw[List.take_add_one,hx,List.any_append,Rl];simp[Zn]
 ·rintro ρ' G' ⟨rfl,⟨y1,y2,rfl⟩,Rl⟩;rw[List.length_map,List.take_length]at Rl;refine AV Kv ?_;have:LP q=false:=Rl;rw[this]at hR;exact hR
theorem PK(F:Fun K "is_plain" "is_plain" K7 f fd)(ml:mg "len"=none)(F1:Df P w K mg base "hangs_together" C4 3 (spF fun F=>.bl (Ym F)))(F2:Df P w K mg base "has_hole" IC 4 Yb)(F3:Df P w K mg base "has_bare_corner" Ce 2 (spF fun F=>.bl (LP F))):FnOk P w K mg base CX0 5 f fd FI (Ae K (spF fun F=>.bl (EV F))):=by
 refine BA (k:=4) F Qt (fun A1 A outer s H E ds G R hr h=>?_);obtain⟨q,rfl,gd,hR⟩:=h;obtain⟨r0,r1,c0,c1,bb,eh⟩:=YG gd.ne;refine Ar (Ao (EI (Bp rfl ml (AA 0 rfl) (Tq _ _)) AH)) (fun hp=>?_) (fun hp=>AI ?_)
 ·exfalso
  have:=List.length_pos_iff.mpr gd.ne
  rw[beq_iff_eq]at hp;lia
 refine AV (DJ (AO F1 (hr.mono (by lia)) (AB (AA 0 rfl) AE) ⟨q,rfl,gd,rfl,rfl⟩) fun _=>DJ (R7 (AO F2 hr (AB (AA 0 rfl) AE) ⟨q,r0,r1,c0,c1,rfl,gd,bb,rfl,rfl⟩)) fun _=>Ge (R7 (AO F3 (hr.mono (by lia)) (AB (AA 0 rfl) AE) ⟨q,rfl,gd,rfl,rfl⟩))) ?_;replace hR:R (.bl (EV q)) G:=hR;unfold EV at hR;rw[eh]at hR;exact hR
end
end TF
namespace TF
open PySem PySem.Spec L2
open PyProof.Rows hiding St RelV
section
variable {P:Program}{w:World}{K:PySem.W.Frag}{mg:Str->Option Value}{base:Heap}{f:Addr}{fd:FuncData}
theorem Jg(F:Fun K "holds_squares" "holds_squares" DK f fd)(mi:mg "isinstance"=none)(mt:mg "tuple"=none)(ma:mg "all"=none)(FP:Df P w K mg base "is_place" Fs 2 QR)(FR:Df P w K mg base "is_rising" GL 1 Ph):FnOk P w K mg base CX0 3 f fd DO (Ae K Tx):=by
 refine BA (k:=2) F JT (fun A1 A outer s H E ds G R hr h=>?_);obtain⟨M,rfl,hz,up,hR⟩:=h;refine AV (DJ (Jm (T:="tuple") (T':="tuple") mi mt (AA 0 rfl)) fun _=>DJ (q:=true) (R1 (bs:=(M.map sq).map fun _=>true) rfl ma (PX.cast (Gm (Nc:=EF) (caps:=IX) (l:=M.map sq) (f:=BW 0) (fun _=>.bl true)
  (Bk (psc:=AF DK) (PN:=Fv) (by decide +kernel) rfl rfl) rfl
  (C3 (AA 0 rfl) ⟨rfl,rfl⟩)
  (fun C s' H' fp=>Aa 0 (show EF.Nodup by decide +kernel)) (BE rfl) (by rw[List.length_map];lia) ?_) (by rw[List.map_map,List.map_map,List.map_map];rfl))) fun _=>Ge (PX.cast (AO FR (hr.mono (by lia)) (AB (AA 0 rfl) AE) ⟨M.map sq,rfl,by rw[List.length_map];exact hz,aG M,rfl,rfl⟩) (by rw[(Xh M).mpr up]))) ?_
 ·intro C s' H' fp G2 d hd kn;obtain⟨q,_,rfl⟩:=List.mem_map.mp hd;exact⟨_,rfl,AO FP hr (AB (AA 0 rfl) AE) ⟨q,rfl,rfl,rfl⟩⟩
 ·rw[show(((M.map sq).map fun _=>true).all id)=true by rw[List.all_map];exact List.all_eq_true.mpr fun _ _=>rfl];exact hR
end
end TF
namespace TF
open PySem PySem.Spec L2
open PyProof.Rows hiding St RelV
section
variable {P:Program}{w:World}{K:PySem.W.Frag}{mg:Str->Option Value}{base:Heap}{f:Addr}{fd:FuncData}
theorem Q6(F:Fun K "is_light" "is_light" LW f fd):FnOk P w K mg base CX0 1 f fd ID (Ae K TU):=by refine BA (k:=0) F Pq (fun A1 A outer s H E ds G R hr h=>?_);obtain⟨q,rfl,hR⟩:=h;exact AV (Iz (EI (Na (Aw (Au (AA 0 rfl) AH rfl) (Au (AA 0 rfl) AH rfl)) AH (by decide)) AH)) hR
theorem Nx(F:Fun K "ways_from" "ways_from" KW f fd):FnOk P w K mg base CX0 1 f fd GW (Ae K TR):=by
 refine BA (k:=0) F Bu (fun A1 A outer s H E ds G R hr h=>?_);obtain⟨q,rfl,hR⟩:=h;refine AS 1 Bu.nd (Au (AA 0 rfl) AH rfl) ?_;refine AS 2 Bu.nd (Au (AA 0 rfl) AH rfl) ?_;refine AS 3 Bu.nd (AM (AB (Bi (AA 1 rfl) AH) (AB (Bi (AA 2 rfl) AH) AE))) ?_;refine AS 4 Bu.nd (AM (AB (Bi (AA 1 rfl) AH) (AB (AA 2 rfl) AE))) ?_;refine AS 5 Bu.nd (AM (AB (AA 1 rfl) (AB (Bi (AA 2 rfl) AH) AE))) ?_;refine AS 6 Bu.nd (AM (AB (AA 1 rfl) (AB (AA 2 rfl) AE))) ?_;exact AV (B8 (AB (AM (AB (AM (AB (Bi (AA 1 rfl) AH) (AB (AA 2 rfl) AE))) (AB (AA 3 rfl) (AB (AA 4 rfl) AE))))
  (AB (AM (AB (AM (AB (AA 1 rfl) (AB (Bi (AA 2 rfl) AH) AE))) (AB (AA 5 rfl) (AB (AA 3 rfl) AE))))
  (AB (AM (AB (AM (AB (AA 1 rfl) (AB (Aw (AA 2 rfl) AH) AE))) (AB (AA 4 rfl) (AB (AA 6 rfl) AE))))
  (AB (AM (AB (AM (AB (Aw (AA 1 rfl) AH) (AB (AA 2 rfl) AE))) (AB (AA 6 rfl) (AB (AA 5 rfl) AE)))) AE))))) hR
theorem OL(F:Fun K "is_walked" "is_walked" EA f fd)(mi:mg "min"=none)(ma:mg "max"=none):FnOk P w K mg base CX0 1 f fd GS (Ae K Pz):=by
 refine BA (k:=0) F Ov (fun A1 A outer s H E ds G R hr h=>?_);obtain⟨q,l,a,b,rfl,hR⟩:=h;have hu:(A.deeper (envOfC "is_walked" (AF EA) s.heap.objs.size f A1)).units+20<cLine:=by have:=hr.units;lia
 have NG:(A.deeper (envOfC "is_walked" (AF EA) s.heap.objs.size f A1)).units+9<cLine:=by lia
 unfold M4 at hR;refine Ar (HC (Ao (Br NG (AA 2 rfl) (AA 0 rfl) (.inl rfl) (B0 a) (Ba q))) fun _=>El (Ao (Br NG (AA 3 rfl) (AA 0 rfl) (.inl rfl) (B0 b) (Ba q)))).t (fun hp=>?_) (fun hp=>AI ?_)
 ·rw[BL,BL]at hp;simp only[Bool.and_eq_true,Bool.not_eq_true']at hp;rw[hp.1,hp.2]at hR;exact AV Kv hR
 ·rw[BL,BL]at hp;have To:(q.contains a||q.contains b)=true:=by
   cases h1:q.contains a<;>cases h2:q.contains b<;>rw[h1,h2]at hp<;>simp at hp ⊢
  rw[To,Bool.true_and]at hR;refine AV (Iz (Br (d1:=AU (Dl a b,D4 a b)) NG (AM (AB (Pe rfl hu mi (AA 2 rfl) (AA 3 rfl)) (AB (Qv rfl hu ma (AA 2 rfl) (AA 3 rfl)) AE))) (AA 1 rfl) (.inl rfl) (DG _) (FZ l))) ?_;rw[Jo];exact hR
theorem MR(F:Fun K "steps_from" "steps_from" Ik f fd)(FL:Df P w K mg base "is_light" ID 1 TU)(FW:Df P w K mg base "ways_from" GW 1 TR)(FK:Df P w K mg base "is_walked" GS 1 Pz):FnOk P w K mg base CX0 2 f fd Fh (Ae K Qd):=by
 refine BA (k:=1) F EL (fun A1 A outer s H E ds G R hr h=>?_);obtain⟨q,l,c,rfl,hR⟩:=h;refine BY 3 EL.nd AE (fun p hp=>?_);refine A7 (l:=(KH c).map tri) (f:=eH 4 5 6) (fun i ρ' G'=>(∃x4 x5 x6,ρ'=[some (fl q),some (lay l),some (sq c),some (.fn p),x4,x5,x6])/\G'=put G p (.lst (((((KH c).take i).filter fun t=>M4 q l t.2.1 t.2.2).map fun t=>(t.1,sgn t.2.1)).map pi))) PassesOwn.never rfl
  (Bl (AO FW hr (AB (AA 2 rfl) AE) ⟨c,rfl,_,rfl,rfl,⟨none,none,none,rfl⟩,by simp⟩)) (Zh 4 5 6 rfl EL.nd) ?_ ?_
 ·rintro i dd ρ' G' hd ⟨⟨x4,x5,x6,rfl⟩,rfl⟩;rw[List.getElem?_map]at hd;obtain⟨t,ht,rfl⟩:=Option.map_eq_some_iff.mp hd;have hi:i<4:=(List.getElem?_eq_some_iff.mp ht).1;have et:(KH c).take (i+1)=(KH c).take i++[t]:=by rw[List.take_add_one,ht];rfl
  have A2:((((KH c).take i).filter fun t=>M4 q l t.2.1 t.2.2).map fun t=>(t.1,sgn t.2.1)).length<=4:=by
   rw[List.length_map];exact Nat.le_trans (List.length_filter_le _ _) (by rw[List.length_take];lia)
  refine⟨_,rfl,?_⟩;refine Ar (B4 (AO FK hr (AB (AA 0 rfl) (AB (AA 1 rfl) (AB (AA 5 rfl) (AB (AA 6 rfl) AE)))) ⟨q,l,t.2.1,t.2.2,rfl,rfl,rfl⟩)) (fun hw=>?_) (fun hw=>AI (AI ?_))
  ·refine A0 (d:=pi (t.1,sgn t.2.1)) (AA 3 rfl) (AM (AB (AA 4 rfl) (AB (Wv (B4 (AO FL hr (AB (AA 5 rfl) AE) ⟨t.2.1,rfl,rfl,rfl⟩)) (fun hl=>PX.cast AH ?_) (fun hl=>PX.cast (Rb AH) ?_)) AE))) AG (by rw[List.length_map];exact sz1 (by lia)) (AI (AI ⟨⟨_,_,_,rfl⟩,?_⟩))
   ·unfold sgn;rw[if_pos (by simpa using hl)]
   ·unfold sgn;rw[if_neg (by simpa using hl)]
   ·rw[Ab,et,List.filter_append,List.map_append,List.map_append];rw[List.filter_cons_of_pos (by simpa using hw)];rfl
  ·refine⟨⟨_,_,_,rfl⟩,?_⟩;rw[et,List.filter_append,List.filter_cons_of_neg (by simpa using hw)];simp
 ·rintro ρ' G' ⟨⟨x4,x5,x6,rfl⟩,rfl⟩;rw[List.length_map,List.take_of_length_le (Nat.le_refl _)];refine Dx (AA 3 rfl) AG ?_;rw[Ah hp];exact hR
end
end TF
namespace TF
open PySem PySem.Spec L2
open PyProof.Rows hiding St RelV
theorem XT{F:List Sq}(gd:Good F):Sw (F.map sq) none (some 1)=[sq (F.headD (0,0))]:=by
 cases F with
 |nil=>exact absurd rfl gd.ne
 |cons a r=>simp[Sw,HT.sIx]
theorem Zg{L:List (Sq×Int)}{y:Sq}{i:Int}(h:hv L y=none):DM (L.map kvP) (sq y) (.int i)=(L++[(y,i)]).map kvP:=by
 rw[K3,List.map_append]
 ·rfl
 ·rw[Ir,h];rfl
theorem bL{L:List (Sq×Int)}{y:Sq}{i:Int}(nd:(L.map (·.1)).Nodup)(h:y∉L.map (·.1)):((L++[(y,i)]).map (·.1)).Nodup:=by rw[List.map_append,List.nodup_append];refine⟨nd,by simp,fun a ha b hb e=>?_⟩;simp only[List.map_cons,List.map_nil,List.mem_singleton]at hb;subst hb;subst e;exact h ha
theorem XQ{L:List (Sq×Int)}{y z:Sq}{i:Int}(h:z∈(L++[(y,i)]).map (·.1)):z∈L.map (·.1)\/z=y:=by
 rw[List.map_append]at h;rcases List.mem_append.mp h with h|h
 ·exact .inl h
 ·exact .inr (by simpa using h)
section
variable {P:Program}{w:World}{K:PySem.W.Frag}{mg:Str->Option Value}{base:Heap}{f:Addr}{fd:FuncData}
theorem Sb(F:Fun K "heights" "heights" Ed f fd)(ml:mg "len"=none)(ZH:mg "list"=none)(md:mg "dict"=none)(qt:mg "sorted"=none)(FH:Df P w K mg base "holds_squares" DO 3 Tx)(FP:Df P w K mg base "is_plain" FI 5 (spF fun F=>.bl (EV F)))(FS:Df P w K mg base "steps_from" Fh 2 Qd) :
  FnOk P w K mg base CX0 6 f fd Jf (Ae K b7):=by
 refine BA (k:=5) F Dq (fun A1 A outer s H E ds G R hr h=>?_);obtain⟨q,l,rfl,gd,hp,hR⟩:=h;have GQ:=gd.len;have hu:(A.deeper (envOfC "heights" (AF Ed) s.heap.objs.size f A1)).units+20<cLine:=by have:=hr.units;lia
 have NG:(A.deeper (envOfC "heights" (AF Ed) s.heap.objs.size f A1)).units+9<cLine:=by lia
 obtain⟨x0,ee⟩:∃x0,x0=q.headD (0,0):=⟨_,rfl⟩;have c0:x0∈JL q:=(Q1 gd).mpr ⟨_,by rw[ee];exact Yc gd,O9.mpr (.inl rfl)⟩;refine Ar (p:=false) (PXT.cast (Yj (DS (B4 (AO FH (hr.mono (by lia)) (AB (AA 0 rfl) AE) ⟨q,rfl,by lia,gd.up,rfl,rfl⟩))) (fun _=>TV (DS (B4 (AO FP hr (AB (AA 0 rfl) AE) ⟨q,rfl,gd,rfl,rfl⟩))))).t (by rw[hp];rfl)) (fun h=>absurd h (by decide)) (fun _=>AI ?_);refine Af 2 Dq.nd (YC (l:=[sq x0]) ZH (PX.cast (Jv (ol:=none) (oh:=some 1) (AA 0 rfl) trivial AH) (by rw[XT gd,ee])) (fun p2 Ft=>?_));refine Af 3 Dq.nd (YH (L:=[(x0,0)]) md hu rfl (PX.cast (Q4 (Nc:=KQ) (caps:=Qn) (f:=BW 0) (l:=[sq x0]) (fun d=>.tup [d,.int 0])
  (Bk (psc:=AF Ed) (PN:=M1) (by decide +kernel) rfl rfl) rfl (AA 2 rfl) AG
  (fun C s' H' fp=>Aa 0 (show KQ.Nodup by decide +kernel)) (BE rfl) (fun C s' H' fp G' d hd _=>⟨_,rfl,AM (AB (AA 0 rfl) (AB AH AE))⟩)) rfl) (by simp) (fun p1 GZ=>?_))
 have BS:p2≠p1:=by rintro rfl;rw[AG]at GZ;cases GZ
 have Oo:G p1=none:=by rw[AL (Ne.symm BS)]at GZ;exact GZ
 have few:∀L:List (Sq×Int),(L.map (·.1)).Nodup->(∀x∈L.map (·.1),x∈JL q)->L.length<=81:=fun L h1 h2=>by
  have:=Nat.le_trans (BD h1 h2) (WK q)
  rwa [List.length_map]at this
 refine Cv (fun m ρ' G'=>∃(L:List (Sq×Int))(W:List Sq)(y4 y5 y6:Option Dat),ρ'=[some (fl q),some (lay l),some (.fn p2),some (.fn p1),y4,y5,y6]/\G'=put (put G p2 (.lst (W.map sq))) p1 (.dct (L.map kvP)) ∧
   (L.map (·.1)).Nodup/\(∀x∈L.map (·.1),x∈JL q)/\(∀x∈W,x∈L.map (·.1))/\(∀r,Run (S4 q l) (W,L) r->Run (S4 q l) ([x0],[(x0,0)]) r)/\m=2*(81-L.length)+W.length/\m<=200) PassesOwn.never
  (m0:=2*(81-1)+1) ⟨[(x0,0)],[x0],none,none,none,rfl,rfl,by simp,fun x hx=>by rw[List.mem_singleton.mp hx];exact c0,fun x hx=>hx,fun r h=>h,rfl,by lia⟩ ?_
 rintro m ρ' G' ⟨L,W,y4,y5,y6,rfl,rfl,nd,hc,hW,rn,hm,jX⟩;have Ey:put (put G p2 (.lst (W.map sq))) p1 (.dct (L.map kvP)) p2=some (.lst (W.map sq)):=by rw[AL BS,AG]
 refine CY (Ao (FU (Bp (n:=W.length) rfl ml (AA 2 rfl) (by show(match put (put G p2 (.lst (W.map sq))) p1 (.dct (L.map kvP)) p2 with|some (.lst l)=>some l.length|_=>none)=_;rw[Ey];simp)) AH)) ⟨fun hp=>?_,fun hp=>?_⟩
 ·have Jh:0<W.length:=by have:=of_decide_eq_true hp;lia
  obtain⟨W0,x,rfl⟩:∃W0 x,W=W0++[x]:=⟨W.dropLast,W.getLast (List.ne_nil_of_length_pos Jh),(List.dropLast_concat_getLast _).symm⟩;rw[List.length_append,List.length_singleton]at hm;refine Af 4 Dq.nd (YS (d:=sq x) (l:=W0.map sq) (AA 2 rfl) (by rw[Ey,List.map_append];rfl) ?_);rw[Cd (Ne.symm BS),Ab];have hx:x∈L.map (·.1):=hW x (by simp);have A2:=few L nd hc;have go:S4 q l (W0++[x],L)=some ((EK q l x).foldl (stG x) (W0,L)):=by unfold S4;simp
  refine A7 (l:=(EK q l x).map pi) (f:=Fu 5 6) (fun i ρ' G'=>∃(L':List (Sq×Int))(W:List Sq)(y5 y6:Option Dat),ρ'=[some (fl q),some (lay l),some (.fn p2),some (.fn p1),some (sq x),y5,y6]/\G'=put (put G p2 (.lst (W.map sq))) p1 (.dct (L'.map kvP)) ∧
    (L'.map (·.1)).Nodup/\(∀x∈L'.map (·.1),x∈JL q)/\(∀x∈W,x∈L'.map (·.1))/\x∈L'.map (·.1)/\((EK q l x).take i).foldl (stG x) (W0,L)=(W,L')/\2*(81-L'.length)+W.length+1<=m) PassesOwn.never rfl
   (Bl (AO FS (hr.mono (by lia)) (AB (AA 0 rfl) (AB (AA 1 rfl) (AB (AA 4 rfl) AE))) ⟨q,l,x,rfl,_,rfl,rfl,L,W0,y5,y6,rfl,rfl,nd,hc,fun z hz=>hW z (by simp[hz]),hx,rfl,by lia⟩)) (DH 5 6 rfl Dq.nd) ?_ ?_
  ·rintro i dd ρ' G' hd ⟨L',W,y5,y6,rfl,rfl,nd,hc,hW,hx,en,hm⟩;rw[List.getElem?_map]at hd;obtain⟨⟨y,e⟩,hy,rfl⟩:=Option.map_eq_some_iff.mp hd;have fj:(y,e)∈EK q l x:=List.mem_of_getElem? hy;have et:((EK q l x).take (i+1)).foldl (stG x) (W0,L)=stG x (W,L') (y,e):=by rw[List.take_add_one,hy,List.foldl_append,en];rfl
   unfold stG at et;have Fo:put (put G p2 (.lst (W.map sq))) p1 (.dct (L'.map kvP)) p1=some (.dct (L'.map kvP)):=AG;have A2:=few L' nd hc;obtain⟨vx,m9⟩:=Option.isSome_iff_exists.mp (X0.mpr hx);refine⟨_,rfl,?_⟩;refine Ar (Ao (BQ NG (AA 5 rfl) (AA 3 rfl) Fo (A5 y) ⟨_,rfl⟩)) (fun hp=>?_) (fun hp=>AI (AI ?_))
   ·rw[Ir,Option.isSome_map]at hp;have nD:hv L' y=none:=by
     cases z:hv L' y with
     |none=>rfl
     |some _=>rw[z]at hp;cases hp
    have dM:y∉L'.map (·.1):=fun h=>by rw[X0.mpr h]at hp;cases hp
    have rA:y∈JL q:=(Q1 gd).mpr (Ve fj);rw[if_neg (by simp only;rw[nD];exact nofun)]at et;simp only[m9,Option.getD_some]at et;refine CT (d:=.int (vx+e)) NG (Aw (Bw (d:=.int vx) NG (AA 3 rfl) (AA 4 rfl) Fo (A5 x) ⟨_,rfl⟩ (by rw[Ir,m9];rfl)) (AA 6 rfl)) (AA 3 rfl) (AA 5 rfl) Fo (A5 y) ⟨_,rfl⟩ (by rw[List.length_map];exact sz1 (by lia)) ?_;rw[Zg nD,Ab];refine A0 (d:=sq y) (l:=W.map sq) (AA 2 rfl) (AA 5 rfl) (by rw[AL BS,AG]) (by rw[List.length_map];exact sz1 (by lia)) (AI (AI ?_));have nZ:=bL (i:=vx+e) nd dM;have RC:∀z∈(L'++[(y,vx+e)]).map (·.1),z∈JL q:=fun z hz=>by
     rcases XQ hz with h|h
     ·exact hc z h
     ·rw[h];exact rA
    have RB:=few _ nZ RC;rw[List.length_append,List.length_singleton]at RB;refine⟨L'++[(y,vx+e)],W++[y],_,_,rfl,?_,nZ,RC,?_,?_,et,?_⟩
    ·rw[Cd (Ne.symm BS),Ab];simp only[List.map_append,List.map_cons,List.map_nil]
    ·intro z hz;rw[List.map_append];rcases List.mem_append.mp hz with h|h
     ·exact List.mem_append_left _ (hW z h)
     ·exact List.mem_append_right _ (by simpa using h)
    ·rw[List.map_append];exact List.mem_append_left _ hx
    ·simp only[List.length_append,List.length_singleton];lia
   ·rw[Ir,Option.isSome_map]at hp;rw[if_pos (by simpa using hp)]at et;exact⟨L',W,_,_,rfl,rfl,nd,hc,hW,hx,et,hm⟩
  ·rintro ρ' G' ⟨L',W,y5,y6,rfl,rfl,nd,hc,hW,hx,en,sV⟩;rw[List.length_map,List.take_length]at en;rw[en]at go;exact AI ⟨2*(81-L'.length)+W.length,by lia,L',W,_,_,_,rfl,rfl,nd,hc,hW,fun r h=>rn r (.step go h),rfl,by lia⟩
 ·have kO:W=[]:=by
   cases W with
   |nil=>rfl
   |cons a r=>simp at hp
  subst kO;have eL:htQ q l=L:=eZ (by rw[<-ee];exact rn _ (.done rfl));refine BC (BO (BO (PX.we (LR (L:=L) qt hu rfl (AA 3 rfl) AG) ⟨p1,p2,?_⟩)));rw[Ah (by rw[AL (Ne.symm BS)];exact Oo),Ah Ft,<-eL];exact hR
end
end TF
namespace TF
open PySem PySem.Spec L2
open PyProof.Rows hiding St RelV
section
variable {P:Program}{w:World}{K:PySem.W.Frag}{mg:Str->Option Value}{base:Heap}{f:Addr}{fd:FuncData}
theorem Ma(F:Fun K "pair_along" "pair_along" Fp f fd):FnOk P w K mg base CX0 1 f fd Fd (Ae K Ue):=by
 refine BA (k:=0) F CU (fun A1 A outer s H E ds G R hr h=>?_);obtain⟨q,e,st,s0,mp,pp,pm,t,L,j,rfl,BS,qB,VH,GQ,T,pG,r9,sN,sF,rF,M,Hu,KI,hR⟩:=h;have hu:(A.deeper (envOfC "pair_along" (AF Fp) s.heap.objs.size f A1)).units+9<cLine:=by have:=hr.units;lia
 refine AS 3 CU.nd (AA 0 rfl) ?_;have kP:lk (t++[(e,s0)]) e=some s0:=by
  refine Yz (p:=(e,s0)) ?_ (by simp);rw[List.map_append,List.nodup_append];refine⟨T.nd,by simp,fun a ha b hb e'=>?_⟩;simp at hb;subst hb;subst e';exact pG ha
 refine Cv (fun n ρ' G'=>∃(x4 x5:Option Dat)(GB:PM),G'=put G pp (.dct (kvS GB))/\KeysIn q GB/\((∃(j:Nat)(o:Sq),n=j+1/\ρ'=[some (sq e),some (.fn mp),some (.fn pp),some (sq o),x4,x5]/\(∀r,Run (SM (t++[(e,s0)])) (GB,some o) r->Run (SM (t++[(e,s0)])) (pm,some e) r)/\Back q (lk pm) L (t++[(e,s0)]) e j o (lk GB)) ∨
   (n=0/\Run (SM (t++[(e,s0)])) (pm,some e) (GB,none)/\ρ'=[some (sq e),some (.fn mp),some (.fn pp),some .non,x4,x5]/\MOk q (lk GB)/\∀x,(lk GB x).isSome=true↔((lk pm x).isSome=true\/x=e\/x=st)))) PassesOwn.never (m0:=j+1)
  ⟨none,none,pm,(Dv VH).symm,KI,.inl ⟨j,e,rfl,rfl,fun r h=>h,RI M r9 sN sF kP rF⟩⟩ ?_
 rintro n ρ' G' ⟨x4,x5,GB,rfl,fW,gO⟩;rcases gO with⟨j,o,rfl,rfl,rn,B⟩|⟨rfl,rn,rfl,M',dom⟩
 ·refine CY (Ao (Lf (AA 3 rfl))) ⟨fun _=>?_,fun hp=>by cases hp⟩;obtain⟨s1,h1,h2,h3⟩:=B.par;have lq:=T.inn s1 (List.mem_of_getElem? h1);have A2:=fW.len;refine AS 4 CU.nd (Bw (k:=sq o) (d:=sq s1) hu (AA 1 rfl) (AA 3 rfl) (by rw[AL BS];exact qB) (A5 o) ⟨_,rfl⟩ (by rw[CA,h2];rfl)) ?_;refine AS 5 CU.nd (WZ (k:=sq s1) hu (AA 2 rfl) (AA 4 rfl) AG (A5 s1) ⟨_,rfl⟩) ?_;refine CT (k:=sq s1) (d:=sq o) hu (AA 3 rfl) (AA 2 rfl) (AA 4 rfl) AG (A5 s1) ⟨_,rfl⟩ (by unfold kvS;rw[List.length_map];exact sz1 (by lia)) ?_;rw[Ab,O5];have oN:=fW.pt lq o;have cU:=oN.len;refine CT (k:=sq o) (d:=sq s1) hu (AA 4 rfl) (AA 2 rfl) (AA 3 rfl) AG (A5 o) ⟨_,rfl⟩ (by unfold kvS;rw[List.length_map];exact sz1 (by lia)) ?_;rw[Ab,O5];have nG:=oN.pt B.oin s1;refine AS 3 CU.nd (AA 5 rfl) (AI ?_);rw[CA];have go:SM (t++[(e,s0)]) (GB,some o)=some (pt (pt GB s1 o) o s1,lk GB s1):=ig h2;cases ZF:lk GB s1 with
  |none=>
   refine⟨0,by lia,_,_,_,rfl,nG,.inr ⟨rfl,rn _ (.step go (by rw[ZF];exact .done rfl)),rfl,?_⟩⟩;rw[WO];exact VG T B h2 ZF M Hu
  |some f1=>
   obtain⟨j',pN,B'⟩:=U8 T pG B h2 ZF M Hu;refine⟨j'+1,by lia,_,_,_,rfl,nG,.inl ⟨j',f1,rfl,rfl,fun r h=>rn r (.step go (by rw[ZF];exact h)),?_⟩⟩;rw[WO];exact B'
 ·refine CY (Ao (Lf (AA 3 rfl))) ⟨fun hp=>(by cases hp),fun _=>AI ?_⟩;exact hR GB fW M' dom rn
theorem E8(F:Fun K "crowd_unless_paired" "crowd_unless_paired" BR f fd)(ml:mg "len"=none)(ms:mg "sorted"=none)(FN:Df P w K mg base "neighbours" DV 1 (MN nbM))(FP:Df P w K mg base "pair_along" Fd 1 Ue):FnOk P w K mg base CX0 2 f fd B2 (Ae K Qh):=by
 refine BA (k:=1) F Ak (fun A1 A outer s H E ds G R hr h=>?_);obtain⟨q,st,pp,pm,rfl,VH,GQ,lH,M,Hu,KI,RU,WJ⟩:=h;have hu:(A.deeper (envOfC "crowd_unless_paired" (AF BR) s.heap.objs.size f A1)).units+20<cLine:=by have:=hr.units;lia
 have NG:(A.deeper (envOfC "crowd_unless_paired" (AF BR) s.heap.objs.size f A1)).units+9<cLine:=by lia
 refine BY (ds:=[sq st]) 3 Ak.nd (AB (AA 1 rfl) AE) (fun p1 GZ=>?_);refine Af 4 Ak.nd (FJ fun p2 Ft=>?_);have Tt:p2≠p1:=by rintro rfl;rw[AG]at Ft;cases Ft
 have WM:G p2=none:=by rw[AL Tt]at Ft;exact Ft
 have n1:p1≠pp:=by rintro rfl;rw[GZ]at VH;cases VH
 have n2:p2≠pp:=by rintro rfl;rw[WM]at VH;cases VH
 refine AS 5 Ak.nd AH ?_;refine Cv (fun n ρ' G'=>∃(L:List Sq)(t:PM)(a:Nat)(x6 x7:Option Dat),ρ'=[some (fl q),some (sq st),some (.fn pp),some (.fn p1),some (.fn p2),some (.int (a:Nat)),x6,x7]/\G'=put (put G p1 (.lst (L.map sq))) p2 (.dct (kvS t))/\n=q.length-a/\a<=L.length ∧
   Tr q (lk pm) st L t/\(∀r,Run (Vf q pm) ((L,t,none),a) r->Run (Vf q pm) (([st],[],none),0) r)/\∀x∈L.take a,∀y∈nbM x,y∈q->y∈t.map (·.1)) PassesOwn.never (m0:=q.length)
  ⟨[st],[],0,none,none,rfl,rfl,rfl,by simp,Xr _ lH,fun r h=>h,by simp⟩ ?_
 rintro n ρ' G' ⟨L,t,a,x6,x7,rfl,rfl,hn,jO,T,rn,cl⟩;have cI:=BD T.nL T.inn;refine CY (Ao (Ou (AA 5 rfl) (Bp (n:=L.length) rfl ml (AA 3 rfl) (by simp[JC,AL (Ne.symm Tt),AG])))) ⟨fun hp=>?_,fun hp=>?_⟩
 ·have A6:a<L.length:=by have:=of_decide_eq_true hp;lia
  obtain⟨s1,KY⟩:∃s1,L[a]?=some s1:=⟨L[a],List.getElem?_eq_getElem A6⟩;refine AS 6 Ak.nd (dW (d:=sq s1) (AA 3 rfl) (AA 5 rfl) (.inr (.inr ⟨p1,rfl,by rw[AL (Ne.symm Tt),AG]⟩)) (EE sq (C7 KY))) ?_;refine A7 (l:=(nbM s1).map sq) (f:=BW 7) (fun i ρ' G'=>∃(L':List Sq)(t':PM)(x7:Option Dat),ρ'=[some (fl q),some (sq st),some (.fn pp),some (.fn p1),some (.fn p2),some (.int (a:Nat)),some (sq s1),x7]/\G'=put (put G p1 (.lst (L'.map sq))) p2 (.dct (kvS t'))/\L'[a]?=some s1/\MV q pm s1 (nbM s1) L t=MV q pm s1 ((nbM s1).drop i) L' t' ∧
    (∃L2,L'=L++L2)/\Tr q (lk pm) st L' t'/\(∀x∈L.take a,∀y∈nbM x,y∈q->y∈t'.map (·.1))/\∀y∈(nbM s1).take i,y∈q->y∈t'.map (·.1)) PassesOwn.never rfl
   (Bl (AO FN (hr.mono (by lia)) (AB (AA 6 rfl) AE) ⟨s1,rfl,_,rfl,rfl,L,t,x7,rfl,rfl,KY,rfl,⟨[],by simp⟩,T,cl,by simp⟩)) (Aa 7 Ak.nd) ?_ ?_
  ·have ft:=KY;clear cl T cI KY;rintro i dd ρ' G' hd ⟨L',t',x7,rfl,rfl,KY,en,hex,T,cl,gB⟩;rw[List.getElem?_map]at hd;obtain⟨o,Je,rfl⟩:=Option.map_eq_some_iff.mp hd;have oS:o∈nbM s1:=List.mem_of_getElem? Je;have et:(nbM s1).take (i+1)=(nbM s1).take i++[o]:=by rw[List.take_add_one,Je];rfl
   have ed:(nbM s1).drop i=o::(nbM s1).drop (i+1):=by rw[List.drop_eq_getElem_cons (List.getElem?_eq_some_iff.mp Je).1,(List.getElem?_eq_some_iff.mp Je).2]
   rw[ed,MV]at en;have cI:=BD T.nL T.inn;have sZ:t'.length<=24:=by have:=T.len;lia
   refine⟨_,rfl,?_⟩;refine Ar (HC (Ao (Ii NG (AA 7 rfl) (AA 0 rfl) (.inl rfl) (B0 o) (Ba q))) fun _=>El (Ao (BQ NG (AA 7 rfl) (AA 4 rfl) AG (A5 o) ⟨_,rfl⟩))).t (fun hp=>?_) (fun hp=>AI (AI ?_))
   ·rw[BL,CA]at hp;simp only[Bool.and_eq_true,Bool.not_eq_true',List.contains_eq_mem,decide_eq_true_eq,Option.isSome_map]at hp;obtain⟨iL,hok⟩:=hp;have aU:o∉t'.map (·.1):=fun h=>by rw[Sk.mpr h]at hok;cases hok
    have MY:lk t' o=none:=by cases e:lk t' o with
     |none=>rfl
     |some _=>rw[e]at hok;cases hok
    rw[if_pos (by rw[MY];simpa using iL)]at en;have ph:pt t' o s1=t'++[(o,s1)]:=by unfold pt;rw[MY];rfl
    refine CT (k:=sq o) (d:=sq s1) NG (AA 6 rfl) (AA 4 rfl) (AA 7 rfl) AG (A5 o) ⟨_,rfl⟩ (by unfold kvS;rw[List.length_map];exact sz1 (by lia)) ?_;rw[Ab,O5,ph];refine Ar (Ao (BQ NG (AA 7 rfl) (AA 2 rfl) (by rw[AL (Ne.symm n2),AL (Ne.symm n1)];exact VH) (A5 o) ⟨_,rfl⟩)) (fun hp=>?_) (fun hp=>AI ?_)
    ·rw[CA,Option.isSome_map]at hp;have Rl:lk pm o=none:=by cases e:lk pm o with
      |none=>rfl
      |some _=>rw[e]at hp;cases hp
     refine JR (AO FP (hr.mono (by lia)) (AB (AA 7 rfl) (AB (AA 4 rfl) (AB (AA 2 rfl) AE))) ⟨q,o,st,s1,p2,pp,pm,t',L',a,rfl,n2,AG,by rw[AL (Ne.symm n2),AL (Ne.symm n1)];exact VH,GQ,T,aU,Rl,iL,KY,Ez oS,M,Hu,KI,fun GB fW M' dom pr=>?_⟩);rw[Rl]at en;refine BC (BO (BO (PX.we (B8 AE) ⟨p2,p1,?_⟩)));rw[Cd n2,Cd n1,Ah (by rw[AL Tt,AL n2];exact WM),Ah (by rw[AL n1];exact GZ)];exact RU GB fW M' (fun x hx=>(dom x).mpr (.inl hx)) ((dom st).mpr (.inr (.inr rfl))) ⟨_,_,_,_,rn _ (.step (bp ft) (by rw[en];exact .done rfl)),pr⟩
    ·rw[CA,Option.isSome_map]at hp;obtain⟨y,hy⟩:∃y,lk pm o=some y:=by
      cases e:lk pm o with
      |none=>rw[e]at hp;cases hp
      |some y=>exact⟨y,rfl⟩
     refine A0 (d:=sq y) (l:=L'.map sq) (AA 3 rfl) (Bw (k:=sq o) NG (AA 2 rfl) (AA 7 rfl) (by rw[AL (Ne.symm n2),AL (Ne.symm n1)];exact VH) (A5 o) ⟨_,rfl⟩ (by rw[CA,hy];rfl)) (by rw[AL (Ne.symm Tt),AG]) (by rw[List.length_map];exact sz1 (by lia)) (AI (AI ?_));rw[hy]at en;obtain⟨L2,rfl⟩:=hex;refine⟨(L++L2)++[y],t'++[(o,s1)],_,rfl,?_,?_,?_,⟨L2++[y],by simp⟩,T.more M Hu KY iL oS aU hy,?_,?_⟩
     ·rw[Cd Tt,Ab,Cd (Ne.symm Tt)];simp only[List.map_append,List.map_cons,List.map_nil];exact Cd Tt
     ·rw[List.getElem?_append_left (List.getElem?_eq_some_iff.mp KY).1];exact KY
     ·exact en
     ·intro x hx y' h1 h2;rw[List.map_append];exact List.mem_append_left _ (cl x hx y' h1 h2)
     ·intro y' h1 h2;rw[List.map_append];rw[et]at h1;rcases List.mem_append.mp h1 with h|h
      ·exact List.mem_append_left _ (gB y' h h2)
      ·rw[List.mem_singleton.mp h];simp
   ·rw[BL,CA,Option.isSome_map]at hp;rw[if_neg (by rw[hp];exact nofun)]at en;refine⟨L',t',_,rfl,rfl,KY,en,hex,T,cl,fun y' h1 h2=>?_⟩;rw[et]at h1;rcases List.mem_append.mp h1 with h|h
    ·exact gB y' h h2
    ·rw[List.mem_singleton.mp h]at h2 ⊢;refine Sk.mp ?_;simp[h2]at hp;exact hp
  ·have ft:=KY;clear cl T cI KY;rintro ρ' G' ⟨L',t',x7,rfl,rfl,KY,en,⟨L2,rfl⟩,T,cl,gB⟩;rw[List.length_map,List.drop_length,MV]at en;rw[List.length_map,List.take_length]at gB;refine XN (i:=(a:Nat)) (j:=1) 5 Ak.nd rfl AH (AI ?_);have cI:=BD T.nL T.inn;rw[List.length_append]at cI;refine⟨q.length-(a+1),by lia,L++L2,t',a+1,_,_,rfl,rfl,rfl,by rw[List.length_append];lia,T,fun r h=>rn r (.step (bp ft) (by rw[en];exact h)),fun x hx y h1 h2=>?_⟩;rw[List.take_append_of_le_length (by lia),List.take_add_one]at hx;rcases List.mem_append.mp hx with h|h
   ·exact cl x h y h1 h2
   ·have e:L[a]?=some s1:=by rw[List.getElem?_append_left A6]at KY;exact KY
    rw[e]at h;simp at h;subst h;exact gB y h1 h2
 ·have Kk:a=L.length:=by have:=of_decide_eq_false hp;lia
  rw[Kk,List.take_length]at cl;refine BC (BO (BO (PX.we (D3 TSq L hu ms (AA 3 rfl) (.inr ⟨p1,rfl,by rw[AL (Ne.symm Tt),AG];rfl⟩) (.inl fun x=>⟨_,_,rfl⟩)) ⟨p2,p1,?_⟩)));rw[Ah (by rw[AL Tt];exact WM),Ah GZ];exact WJ _ (T.crowd cl) ⟨L,t,a,rn _ (.done (cY Kk.symm)),rfl⟩
theorem aY(F:Fun K "laid" "laid" Oy f fd)(ml:mg "len"=none)(mt:mg "tuple"=none)(FC:Df P w K mg base "crowd_unless_paired" B2 2 Qh):FnOk P w K mg base CX0 3 f fd OH (Ae K Of):=by
 refine BA (k:=2) F Kf (fun A1 A outer s H E ds G R hr h=>?_);obtain⟨q,rfl,up,GQ,RU,WJ⟩:=h;have NG:(A.deeper (envOfC "laid" (AF Oy) s.heap.objs.size f A1)).units+9<cLine:=by have:=hr.units;lia
 refine Af 1 Kf.nd (FJ fun pp nc=>?_);refine A7 (l:=q.map sq) (f:=BW 2) (fun i ρ' G'=>∃(pm:PM)(x2 x3:Option Dat),ρ'=[some (fl q),some (.fn pp),x2,x3]/\G'=put G pp (.dct (kvS pm))/\KeysIn q pm/\MOk q (lk pm)/\(∀C,LaR q (q.drop i) pm C->LaR q q [] C)/\∀x∈q.take i,(lk pm x).isSome=true) PassesOwn.never rfl
  (C3 (AA 0 rfl) ⟨rfl,[],none,none,rfl,rfl,KeysIn.nil q,⟨fun x y h=>nomatch h⟩,fun C h=>h,by simp⟩) (Aa 2 Kf.nd) ?_ ?_
 ·rintro i dd ρ' G' hd ⟨pm,x2,x3,rfl,rfl,KI,M,rn,ZJ⟩;rw[List.getElem?_map]at hd;obtain⟨o,Je,rfl⟩:=Option.map_eq_some_iff.mp hd;have iL:o∈q:=List.mem_of_getElem? Je;have et:q.take (i+1)=q.take i++[o]:=by rw[List.take_add_one,Je];rfl
  have ed:q.drop i=o::q.drop (i+1):=by rw[List.drop_eq_getElem_cons (List.getElem?_eq_some_iff.mp Je).1,(List.getElem?_eq_some_iff.mp Je).2]
  rw[ed]at rn;refine⟨_,rfl,?_⟩;refine Ar (Ao (BQ NG (AA 2 rfl) (AA 1 rfl) AG (A5 o) ⟨_,rfl⟩)) (fun hp=>?_) (fun hp=>AI (AI ?_))
  ·rw[CA,Option.isSome_map]at hp;have Rl:lk pm o=none:=by cases e:lk pm o with
    |none=>rfl
    |some _=>rw[e]at hp;cases hp
   refine Af 3 Kf.nd (AO FC hr (AB (AA 0 rfl) (AB (AA 2 rfl) (AB (AA 1 rfl) AE))) ⟨q,o,pp,pm,rfl,AG,GQ,iL,M,Rl,KI,fun GB fW M' dom Hu cu=>?_,fun C hC cu=>?_⟩)
   ·refine Ar (Ao (FU (Bp (n:=0) rfl ml (AA 3 rfl) rfl) AH)) (fun hp=>?_) (fun hp=>AI (AI (AI ?_)))
    ·cases hp
    rw[Ab];refine⟨GB,_,_,rfl,rfl,fW,M',fun C h=>rn C (.pair Rl cu h),fun x hx=>?_⟩;rw[et]at hx;rcases List.mem_append.mp hx with h|h
    ·exact dom x (ZJ x h)
    ·rw[List.mem_singleton.mp h];exact Hu
   ·refine Ar (Ao (FU (Bp (n:=C.length) rfl ml (AA 3 rfl) (by simp[JC])) AH)) (fun hp=>?_) (fun hp=>?_)
    ·refine BC (BO (PX.we (AM (AB Lh (AB (AA 3 rfl) AE))) ⟨pp,?_⟩));rw[Ah nc];have eC:=fM (rn C (.crowd Rl cu));rw[eC]at WJ;exact WJ hC
    ·have:=of_decide_eq_false hp
     have h0:=List.length_pos_iff.mpr hC.ne;lia
  ·rw[CA,Option.isSome_map]at hp;refine⟨pm,_,_,rfl,rfl,KI,M,fun C h=>rn C (.skip (by cases e:(lk pm o).isSome with|true=>rfl|false=>rw[e]at hp;cases hp) h),fun x hx=>?_⟩;rw[et]at hx;rcases List.mem_append.mp hx with h|h
   ·exact ZJ x h
   ·rw[List.mem_singleton.mp h];cases e:(lk pm o).isSome with
    |true=>rfl
    |false=>rw[e]at hp;cases hp
 ·rintro ρ' G' ⟨pm,x2,x3,rfl,rfl,KI,M,_,ZJ⟩;rw[List.length_map,List.take_length]at ZJ;refine BC (BO (PX.we (AM (AB Lh (AB (Cz rfl mt Boot.«tuple» (Dr (Nc:=QI) (caps:=Y0) (l:=q.map sq) (f:=BW 0) (via sq fun x=>decide (AQ x ((lk pm x).getD x))) (via sq fun x=>AU (x,(lk pm x).getD x))
   (Bk (psc:=AF Oy) (PN:=WQ) (by decide +kernel) rfl rfl) rfl (C3 (AA 0 rfl) ⟨rfl,rfl⟩)
   (fun C s' H' fp=>Aa 0 (show QI.Nodup by decide +kernel)) (BE rfl) (by rw[List.length_map];lia) ?_)) AE))) ⟨pp,?_⟩))
  ·intro C s' H' fp G2 d hd kn;obtain⟨y,hy,rfl⟩:=List.mem_map.mp hd;obtain⟨z,hz⟩:=Option.isSome_iff_exists.mp (ZJ y hy);have Ey:=kn _ _ AG;have hl:Ac (kvS pm) (sq y)=some (sq z):=by rw[CA,hz];rfl
   refine⟨_,rfl,?_,fun _=>?_⟩
   ·rw[C1 EX,hz,Option.getD_some,<-Sg];exact Ao (Tu NG (AA 0 rfl) (Bw NG (AA 1 rfl) (AA 0 rfl) Ey (A5 y) ⟨_,rfl⟩ hl) rfl (AZ y 8) (AZ z 8))
   ·rw[C1 EX,hz];exact AM (AB (AA 0 rfl) (AB (Bw NG (AA 1 rfl) (AA 0 rfl) Ey (A5 y) ⟨_,rfl⟩ hl) AE))
  ·rw[Ah nc,aK EX]
   have:=RU _ (YZ up M ZJ)
   unfold NJ lay at this;rw[List.map_map]at this;exact this
end
end TF
namespace TF
open PySem PySem.Spec L2
open PyProof.Rows hiding St RelV
section
variable {P:Program}{w:World}{K:PySem.W.Frag}{mg:Str->Option Value}{base:Heap}{f:Addr}{fd:FuncData}
theorem Wa(F:Fun K "steps" "steps" Ow f fd):FnOk P w K mg base CX0 1 f fd ["floor","at","taken"] (Ae K N7):=by
 refine BA (k:=0) F G0 (fun A1 A outer s H E ds G R hr h=>?_);obtain⟨floor,k,q,taken,rfl,hq,h1,h2,hR⟩:=h;have hu:(A.deeper (envOfC "steps" (AF Ow) s.heap.objs.size f A1)).units+9<cLine:=by have:=hr.units;lia
 refine AS 3 G0.nd (Au (AA 0 rfl) (AA 1 rfl) (EE sq (C7 hq))) ?_;refine Ar (Ao (SY hu (AA 3 rfl) (AA 2 rfl) (.inl rfl) (AZ _ _) (DZ _ _))) (fun hp=>?_) (fun hp=>?_)
 ·rw[BL]at hp;refine AV (B8 (AB (AM (AB (AM AE) (AB (Jv (ol:=some 1) (oh:=none) (AA 2 rfl) AH trivial) AE))) AE)) ?_;rw[i5,<-List.map_drop];have e:Am floor q taken=[([],taken.drop 1)]:=by unfold Am;rw[if_pos hp]
  rw[e]at hR;exact hR
 ·rw[BL]at hp;refine AI ?_;refine AS 4 G0.nd (AM (AB (Au (AA 3 rfl) AH rfl) (AB (Aw (Au (AA 3 rfl) AH rfl) AH) AE))) ?_;refine AS 5 G0.nd (AM (AB (Aw (Au (AA 3 rfl) AH rfl) AH) (AB (Au (AA 3 rfl) AH rfl) AE))) ?_;refine BY 6 G0.nd AE (fun p hG=>?_);refine UO (fun G'=>G'=put G p (.lst ((if (floor.contains (q.1,q.2+1)&&!taken.contains (q.1,q.2+1))=true then[([(q,(q.1,q.2+1))],(q.1,q.2+1)::taken)]else[]).map Mj)))
   (HC (Ao (SY hu (AA 4 rfl) (AA 0 rfl) (.inl rfl) (AZ (q.1,q.2+1) _) (DZ _ _))) (fun _=>El (Ao (Ux hu (AA 4 rfl) (AA 2 rfl) (.inl rfl) (AZ (q.1,q.2+1) _) (DZ _ _))))).t
   (fun GZ=>?_) (fun GZ=>?_) (fun G' kD=>?_)
  ·have Oo:(floor.contains (q.1,q.2+1)&&!taken.contains (q.1,q.2+1))=true:=by
    have e1:=BL floor (q.1,q.2+1);have e2:=BL taken (q.1,q.2+1);rw[<-e1,<-e2];exact GZ
   refine A0 (AA 6 rfl) (AM (AB (AM (AB (AM (AB (AA 3 rfl) (AB (AA 4 rfl) AE))) AE)) (AB (Nn (AM (AB (AA 4 rfl) AE)) (AA 2 rfl) ?_) AE))) AG (by decide) (AI ⟨rfl,?_⟩)
   ·rw[List.length_map];exact sz (by simp;lia)
   ·rw[if_pos Oo,Ab];rfl
  ·have Oo:¬(floor.contains (q.1,q.2+1)&&!taken.contains (q.1,q.2+1))=true:=by
    have e1:=BL floor (q.1,q.2+1);have e2:=BL taken (q.1,q.2+1);rw[<-e1,<-e2];exact Bool.eq_false_iff.mp GZ
   refine AI ⟨rfl,?_⟩;rw[if_neg Oo];rfl
  subst kD;refine UO (fun G'=>G'=put G p (.lst ((Am floor q taken).map Mj)))
   (Ao (SY hu (AA 5 rfl) (AA 0 rfl) (.inl rfl) (AZ (q.1+1,q.2) _) (DZ _ _)))
   (fun GZ=>?_) (fun GZ=>?_) (fun G' kD=>?_)
  ·have Oo:floor.contains (q.1+1,q.2)=true:=by rw[<-BL];exact GZ
   refine A0 (AA 6 rfl) (AM (AB (AM (AB (AM (AB (AA 3 rfl) (AB (AA 5 rfl) AE))) AE)) (AB (Nn (AA 2 rfl) (AM (AB (AA 5 rfl) AE)) ?_) AE))) AG ?_ (AI ⟨rfl,?_⟩)
   ·rw[List.length_map];exact sz (by simp;lia)
   ·split<;>exact sz1 (by simp)
   ·rw[Ab];unfold Am;rw[if_neg (Bool.eq_false_iff.mp hp),if_pos Oo,List.map_append];refine congrArg (fun z=>put G p (.lst (_++[z]))) ?_;simp only[Mj,fl,AU,List.map_cons,List.map_nil,List.map_append,sq]
  ·have Oo:¬floor.contains (q.1+1,q.2)=true:=by rw[<-BL];exact Bool.eq_false_iff.mp GZ
   refine AI ⟨rfl,?_⟩;unfold Am;rw[if_neg (Bool.eq_false_iff.mp hp),if_neg Oo,List.append_nil]
  subst kD;refine Dx (AA 6 rfl) AG ?_;rw[Ah hG];exact hR
end
end TF
namespace TF
open PySem PySem.Spec L2
open PyProof.Rows hiding St RelV
section
variable {P:Program}{w:World}{K:PySem.W.Frag}{mg:Str->Option Value}{base:Heap}{f:Addr}{fd:FuncData}
theorem P7(n:Nat)(F:Fun K "ways" "ways" JV f fd)(ml:mg "len"=none)(ms:mg "sum"=none)(FS:Df P w K mg base "steps" ["floor","at","taken"] 1 N7)(ih:∀m,n=m+1->Df P w K mg base "ways" ["floor","at","taken","known"] (m+2) (IU m)):FnOk P w K mg base CX0 (n+2) f fd ["floor","at","taken","known"] (Ae K (IU n)):=by
 refine BA (k:=n+1) F Nl (fun A1 A outer s H E ds G R hr h=>?_);obtain⟨floor,k,taken,kp,AR,rfl,hk,GQ,ht,hG,hV,hC,hz,hR⟩:=h;have hu:(A.deeper (envOfC "ways" (AF JV) s.heap.objs.size f A1)).units+9<cLine:=by have:=hr.units;lia
 refine Ar (Ao (EI (AA 1 rfl) (Bp rfl ml (AA 0 rfl) rfl))) (fun hp=>?_) (fun hp=>?_)
 ·refine AV AH ?_;have To:k=floor.length:=by simp at hp;lia
  have:=hR AR hV hC (fun _ _ h=>h) (fun h=>absurd h (by lia)) (by have:0<2 ^ n:=Nat.pow_pos (by decide);lia)
  rw[Dv hG,To,List.drop_length]at this;exact this
 refine AI ?_;have A6:k<floor.length:=by simp at hp;lia
 obtain⟨m,rfl⟩:∃m,n=m+1:=⟨n-1,by lia⟩;have W:=ih m rfl;have hq:floor[k]?=some floor[k]:=List.getElem?_eq_getElem A6;have gZ:floor.drop k=floor[k]::floor.drop (k+1):=List.drop_eq_getElem_cons A6;have lj:0<2 ^ m:=Nat.pow_pos (by decide);have jB:2 ^ (m+1)=2 ^ m+2 ^ m:=by rw[Nat.pow_succ];lia
 obtain⟨two,grow⟩:=HS floor floor[k] taken;refine Fm (fun ρ' G'=>(∃x,ρ'=[some (fl floor),some (.int k),some (fl taken),some (.fn kp),x])/\∃BM,G'=put G kp (.dct BM)/\Valid floor BM/\Closed floor BM/\(∀k t,IH AR k t->IH BM k t)/\BM.length+1<=AR.length+2 ^ (m+1)/\Ac BM (CM k taken)=some (.int (Bj floor (floor.drop k) taken:Nat)))
  (Ao (BQ hu (AM (AB (AA 1 rfl) (AB (AA 2 rfl) AE))) (AA 3 rfl) hG (Eo k taken) ⟨_,rfl⟩)) (fun GZ=>?_) (fun GZ=>?_) (fun ρ' G' hM=>?_)
 ·refine GA 4 (fun i Az G'=>∃BM,G'=put G kp (.dct BM)/\Valid floor BM/\Closed floor BM/\(∀k t,IH AR k t->IH BM k t)/\(∀p∈(Am floor floor[k] taken).take i,k+1<floor.length->IH BM (k+1) p.2)/\BM.length<=AR.length+i*(2 ^ m-1)/\Az=((Am floor floor[k] taken).take i).map fun t=>.int (Bj floor (floor.drop (k+1)) t.2:Nat)) Nl.nd (Gq _ _ _ _ _)
   (Nc:=["stones","rest","at","floor","known"]) (caps:=[none,none,some 1,some 0,some 3]) (l:=(Am floor floor[k] taken).map Mj) (f:=Fu 0 1)
   (Bk (psc:=AF JV) (PN:=["floor","at","taken","known","further"]) (by decide +kernel) rfl rfl) rfl
   (Bl (AO FS (hr.mono (by lia)) (AB (AA 0 rfl) (AB (AA 1 rfl) (AB (AA 2 rfl) AE))) ⟨floor,k,floor[k],taken,rfl,hq,by lia,by lia,_,rfl,rfl,AR,(Dv hG).symm,hV,hC,fun _ _ h=>h,(by intro p hp;cases hp),by simp,by simp⟩))
   (fun C s' H' fp=>DH 0 1 rfl (show(["stones","rest","at","floor","known"]:List Str).Nodup by decide +kernel)) (LF rfl rfl) (by rw[List.length_map];exact sz (by lia)) ?_ ?_
  ·rintro C s' H' fp Dd i d Az G' hd ⟨Nv,rfl,fB,jy,hM1,l0,bV,rfl⟩ hD;rw[List.getElem?_map]at hd;obtain⟨t,eS,rfl⟩:=Option.map_eq_some_iff.mp hd;have Ro:i<(Am floor floor[k] taken).length:=(List.getElem?_eq_some_iff.mp eS).1;have U6:t∈Am floor floor[k] taken:=List.mem_of_getElem? eS;have BS:kp≠Dd:=by rintro rfl;rw[AG]at hD;cases hD
   have kC:i*(2 ^ m-1)<=2 ^ m-1:=by
    have:i=0\/i=1:=by lia
    rcases this with rfl|rfl<;>lia
   refine⟨_,rfl,Du rfl AG ?_ (AO W (hr.mono (by lia)) (AB (AA 3 rfl) (AB (Aw (AA 2 rfl) AH) (AB (AA 1 rfl) (AB (AA 4 rfl) AE))))
    ⟨floor,k+1,t.2,kp,Nv,rfl,by lia,GQ,by have:=grow t U6;lia,by rw[AL BS,AG],fB,jy,by lia,fun U9 iy rO hM2 fm RB=>?_⟩)⟩
   ·rw[List.length_map,List.length_take];exact sz1 (by lia)
   ·rw[Cd (Ne.symm BS),Ab];refine⟨AG,_,put G kp (.dct U9),?_,?_,Ab,U9,rfl,iy,rO,fun a b h=>hM2 a b (hM1 a b h),?_,?_,?_⟩
    ·simp
    ·rw[AL (Ne.symm BS)];rw[AL (Ne.symm BS)]at hD;exact hD
    ·intro p hp eD;rw[List.take_add_one,eS]at hp;rcases List.mem_append.mp hp with hp|hp
     ·exact hM2 _ _ (l0 p hp eD)
     ·have e1:p=t:=by simpa using hp
      subst e1;exact fm eD
    ·have:(i+1)*(2 ^ m-1)=i*(2 ^ m-1)+(2 ^ m-1):=by rw[Nat.add_mul];lia
     lia
    ·rw[List.take_add_one,eS];simp
  ·rintro Az G' ⟨Nv,rfl,fB,jy,hM1,l0,bV,rfl⟩;rw[List.length_map,List.take_length]at *;have es:((Am floor floor[k] taken).map fun t=>Dat.int (Bj floor (floor.drop (k+1)) t.2:Nat))=((Am floor floor[k] taken).map fun t=>((Bj floor (floor.drop (k+1)) t.2:Nat):Int)).map Dat.int:=by rw[List.map_map];rfl
   rw[es];have lX:(((Am floor floor[k] taken).map fun t=>((Bj floor (floor.drop (k+1)) t.2:Nat):Int)).sum)=((Bj floor (floor.drop k) taken:Nat):Int):=by
    rw[gZ,Bj];generalize Am floor floor[k] taken=l
    induction l with
    |nil=>rfl
    |cons t r lO=>simp only[List.map_cons,List.sum_cons,lO];lia
   have RB:Nv.length<=AR.length+2*(2 ^ m-1):=Nat.le_trans bV (Nat.add_le_add_left (Nat.mul_le_mul_right _ two) _);refine CT (k:=CM k taken) hu (dg rfl ms (AA 4 rfl)) (AA 3 rfl) (AM (AB (AA 1 rfl) (AB (AA 2 rfl) AE))) AG (Eo k taken) ⟨_,rfl⟩ (by rw[show sizeLine=2 ^ 24 from rfl];lia) (AI ⟨⟨_,rfl⟩,?_⟩);rw[lX,Ab];exact⟨_,rfl,fB.put k taken,jy.put hq l0,fun a b h=>N3.mpr (.inl (hM1 a b h)),by have:=D9 Nv (CM k taken) (.int (Bj floor (floor.drop k) taken:Nat));lia,R5 _ _ _⟩
 ·refine AI ⟨⟨_,rfl⟩,AR,(Dv hG).symm,hV,hC,fun _ _ h=>h,by lia,?_⟩;have hs:(Ac AR (CM k taken)).isSome=true:=by
   cases q:(Ac AR (CM k taken)).isSome with
   |true=>rfl
   |false=>
    have Ft:(!(Ac AR (CM k taken)).isSome)=false:=GZ;rw[q]at Ft;cases Ft
  obtain⟨d,hd⟩:=Option.isSome_iff_exists.mp hs;rw[hd,hV.look hd]
 ·obtain⟨⟨x,rfl⟩,BM,rfl,lC,sI,qD,PB,look⟩:=hM;exact AV (Bw (k:=CM k taken) hu (AA 3 rfl) (AM (AB (AA 1 rfl) (AB (AA 2 rfl) AE))) AG (Eo k taken) ⟨_,rfl⟩ look) (hR BM lC sI qD (fun _=>by unfold IH;rw[look];rfl) PB)
theorem Yp(F:Fun K "ways" "ways" JV f fd)(ml:mg "len"=none):FnOk P w K mg base CX0 1 f fd IE (Ae K Um):=by
 refine BA (k:=0) F Nl (fun A1 A outer s H E ds G R hr h=>?_);obtain⟨floor,k,taken,kp,AR,rfl,hk,hG,hV,hh,hR⟩:=h;have hu:(A.deeper (envOfC "ways" (AF JV) s.heap.objs.size f A1)).units+9<cLine:=by have:=hr.units;lia
 refine Ar (Ao (EI (AA 1 rfl) (Bp rfl ml (AA 0 rfl) rfl))) (fun hp=>?_) (fun hp=>?_)
 ·refine AV AH ?_;have To:k=floor.length:=by simp at hp;lia
  rw[To,List.drop_length]at hR;exact hR
 refine AI ?_;have A6:k<floor.length:=by simp at hp;lia
 obtain⟨d,hd⟩:=Option.isSome_iff_exists.mp (hh A6);have look:Ac AR (CM k taken)=some (.int (Bj floor (floor.drop k) taken:Nat)):=by rw[hd,hV.look hd]
 refine Ar (Ao (BQ hu (AM (AB (AA 1 rfl) (AB (AA 2 rfl) AE))) (AA 3 rfl) hG (Eo k taken) ⟨_,rfl⟩)) (fun GZ=>?_) (fun GZ=>?_)
 ·have Ft:(!(Ac AR (CM k taken)).isSome)=true:=GZ;rw[look]at Ft;cases Ft
 ·refine AI ?_;exact AV (Bw (k:=CM k taken) hu (AA 3 rfl) (AM (AB (AA 1 rfl) (AB (AA 2 rfl) AE))) hG (Eo k taken) ⟨_,rfl⟩ look) hR
theorem Vl(F:Fun K "count" "count" T8 f fd)(W:∀n,Df P w K mg base "ways" ["floor","at","taken","known"] (n+2) (IU n)):FnOk P w K mg base CX0 27 f fd ["floor"] (Ae K Ox):=by
 refine BA (k:=26) F Y7 (fun A1 A outer s H E ds G R hr h=>?_);obtain⟨floor,rfl,GQ,hR⟩:=h;refine BC (BO (YB (W floor.length) (hr.mono (by lia)) (HN (PX.we (AA 0 rfl) (HN (PX.we AH (HN (PX.we (AM AE) (HN (FJ fun p hG=>Wh ⟨floor,0,[],p,[],rfl,by lia,GQ,Nat.le_refl _,AG,fun _ h=>(nomatch h),fun _ _ _ h=>(nomatch h),?_,fun BM _ _ _ _ _=>?_⟩))))))))))
 ·have:2 ^ floor.length<=2 ^ 24:=Nat.pow_le_pow_right (by decide) GQ;simp only[List.length_nil];lia
 ·refine⟨p,?_⟩;rw[Ab,Ah hG];exact hR
end
end TF
namespace TF
open PySem PySem.Spec L2
open PyProof.Rows hiding St RelV
def JH(floor:List Sq)(k:Nat)(st:Lay)(l:List (List (Sq×Sq)×List Sq)):List Bg:=(l.filter fun p=>decide (0<Bj floor (floor.drop (k+1)) p.2)).map fun p=>(st++p.1,p.2)
theorem U4{floor:List Sq}{k:Nat}{q:Sq}{bs:List Bg}{i:Nat}{b:Bg}(h:bs[i]?=some b):Cu floor k q (bs.take (i+1))=Cu floor k q (bs.take i)++JH floor k b.1 (Am floor q b.2):=by rw[List.take_add_one,h];unfold Cu;rw[List.flatMap_append];simp[JH,M3]
theorem XB{floor:List Sq}{k:Nat}{q:Sq}(bs:List Bg):(Cu floor k q bs).length<=2*bs.length:=by
 induction bs with
 |nil=>simp[Cu]
 |cons b bs ih=>
  unfold Cu at *;rw[List.flatMap_cons,List.length_append,List.length_cons];have h1:(M3 floor k q b).length<=2:=by
   unfold M3;rw[List.length_map];exact Nat.le_trans (List.length_filter_le _ _) (HS floor q b.2).1
  lia
section
variable {P:Program}{w:World}{K:PySem.W.Frag}{mg:Str->Option Value}{base:Heap}{f:Addr}{fd:FuncData}
theorem SG(F:Fun K "gone_on" "gone_on" Me f fd)(FS:Df P w K mg base "steps" T5 1 N7)(FW:Df P w K mg base "ways" IE 1 Um):FnOk P w K mg base CX0 2 f fd Jj (Ae K Yu):=by
 refine BA (k:=1) F Fe (fun A1 A outer s H E ds G R hr h=>?_);obtain⟨floor,k,q,bs,kp,AR,rfl,hq,GQ,Rr,hG,hV,hC,hB,hR⟩:=h;have A6:k<floor.length:=(List.getElem?_eq_some_iff.mp hq).1;refine BY 4 Fe.nd AE (fun p hp=>?_);have BS:kp≠p:=by rintro rfl;rw[hG]at hp;cases hp
 have nx:=hB.next hC hq;refine A7 (l:=bs.map bgD) (f:=Fu 5 6) (fun i ρ' G'=>(∃x5 x6 x7 x8,ρ'=[some (fl floor),some (.int k),some (.lst (bs.map bgD)),some (.fn kp),some (.fn p),x5,x6,x7,x8])/\G'=put G p (.lst ((Cu floor k q (bs.take i)).map bgD))) PassesOwn.never rfl
  (Fc (AA 2 rfl) ⟨rfl,⟨_,_,_,_,rfl⟩,by simp[Cu]⟩) (DH 5 6 rfl Fe.nd) ?_ ?_
 ·rintro i dd ρ' G' hd ⟨⟨x5,x6,x7,x8,rfl⟩,rfl⟩;rw[List.getElem?_map]at hd;obtain⟨b,GV,rfl⟩:=Option.map_eq_some_iff.mp hd;have hb:b∈bs:=List.mem_of_getElem? GV;have hl:=hB.len b hb;have sX:(Cu floor k q (bs.take i)).length<=402:=by
   have:=XB (floor:=floor) (k:=k) (q:=q) (bs.take i)
   rw[List.length_take]at this;lia
  refine⟨_,rfl,?_⟩;refine A7 (l:=(Am floor q b.2).map Mj) (f:=Fu 7 8) (fun j ρ' G'=>(∃x7 x8,ρ'=[some (fl floor),some (.int k),some (.lst (bs.map bgD)),some (.fn kp),some (.fn p),some (lay b.1),some (fl b.2),x7,x8])/\G'=put G p (.lst ((Cu floor k q (bs.take i)++JH floor k b.1 ((Am floor q b.2).take j)).map bgD))) PassesOwn.never rfl
   (Bl (AO FS (hr.mono (by lia)) (AB (AA 0 rfl) (AB (AA 1 rfl) (AB (AA 6 rfl) AE))) ⟨floor,k,q,b.2,rfl,hq,by lia,by lia,_,rfl,rfl,⟨_,_,rfl⟩,by simp[JH]⟩)) (DH 7 8 rfl Fe.nd) ?_ ?_
  ·rintro j dd ρ' G' hd ⟨⟨x7,x8,rfl⟩,rfl⟩;rw[List.getElem?_map]at hd;obtain⟨t,eS,rfl⟩:=Option.map_eq_some_iff.mp hd;have U6:t∈Am floor q b.2:=List.mem_of_getElem? eS;have two:=(HS floor q b.2).1;have ts:=Mw t U6;have e:JH floor k b.1 ((Am floor q b.2).take (j+1))=JH floor k b.1 ((Am floor q b.2).take j)++(if 0<Bj floor (floor.drop (k+1)) t.2 then[(b.1++t.1,t.2)]else[]):=by
    rw[List.take_add_one,eS];unfold JH;rw[List.filter_append,List.map_append];simp only[Option.toList_some,List.filter_cons,List.filter_nil,decide_eq_true_eq];split<;>rfl
   refine⟨_,rfl,?_⟩;refine Ar (Ao (FU (AO FW (hr.mono (by lia)) (AB (AA 0 rfl) (AB (Aw (AA 1 rfl) AH) (AB (AA 8 rfl) (AB (AA 3 rfl) AE)))) ⟨floor,k+1,t.2,kp,AR,rfl,A6,by rw[AL BS];exact hG,hV,fun h=>hC k q b.2 (hB.key A6 b hb) hq t U6 h,rfl,rfl⟩) AH)) (fun GZ=>?_) (fun GZ=>?_)
   ·have Jh:0<Bj floor (floor.drop (k+1)) t.2:=by have:=of_decide_eq_true GZ;lia
    refine A0 (AA 4 rfl) (AM (AB (Nn (AA 5 rfl) (AA 7 rfl) ?_) (AB (AA 8 rfl) AE))) AG ?_ (AI (AI ⟨⟨_,_,rfl⟩,?_⟩))
    ·rw[List.length_map,List.length_map];exact sz (by lia)
    ·rw[List.length_map,List.length_append];have:(JH floor k b.1 ((Am floor q b.2).take j)).length<=2:=by
      unfold JH;rw[List.length_map];refine Nat.le_trans (List.length_filter_le _ _) ?_;rw[List.length_take];lia
     exact sz1 (by lia)
    ·rw[Ab,e,if_pos Jh,<-List.append_assoc,List.map_append (l₂:=[_])];refine congrArg (fun z=>put G p (.lst (_++[z]))) ?_;simp[bgD,lay]
   ·have Jh:¬0<Bj floor (floor.drop (k+1)) t.2:=by have:=of_decide_eq_false GZ;lia
    refine AI (AI ⟨⟨_,_,rfl⟩,?_⟩);rw[e,if_neg Jh,List.append_nil]
  ·rintro ρ' G' ⟨⟨x7,x8,rfl⟩,rfl⟩;refine AI ⟨⟨_,_,_,_,rfl⟩,?_⟩;rw[List.length_map,List.take_length,U4 GV]
 ·rintro ρ' G' ⟨⟨x5,x6,x7,x8,rfl⟩,rfl⟩;rw[List.length_map,List.take_length];refine Dx (AA 4 rfl) AG ?_;rw[Ah hp];exact hR
theorem L1{tk:Tok}(F:Fun K "all_layings" "all_layings" ES f fd)(ja:mg "range"=none)(PB:mg "len"=none)(hM:mg "MOST_TOLD"=some (.int 200 tk))(W:∀n,Df P w K mg base "ways" IE (n+2) (IU n))(FG:Df P w K mg base "gone_on" Jj 2 Yu):FnOk P w K mg base CX0 27 f fd EO (Ae K Y1):=by
 refine BA (k:=26) F B6 (fun A1 A outer s H E ds G R hr h=>?_);obtain⟨q,rfl,BS,up,GQ,hle,hR⟩:=h;refine Af 1 B6.nd (FJ fun p hp=>?_);refine Ug (fP (AO (W q.length) (hr.mono (by lia)) (AB (AA 0 rfl) (AB AH (AB (AM AE) (AB (AA 1 rfl) AE)))) ⟨q,0,[],p,[],rfl,by lia,GQ,Nat.le_refl _,AG,fun _ h=>(nomatch h),fun _ _ _ h=>(nomatch h),?_,fun AR hV hC _ hH hz=>⟨_,rfl,UE hM,fun hb=>?_,fun hb=>?_⟩⟩))
 ·have:2 ^ q.length<=2 ^ 24:=Nat.pow_le_pow_right (by decide) GQ;simp only[List.length_nil];lia
 ·exfalso
  have:=of_decide_eq_true hb
  rw[<-HD up]at hle;rw[List.drop_zero]at this;unfold Cp at hle;lia
 ·refine AI ?_;rw[Ab];refine AS 2 B6.nd (B8 (AB (AM (AB (AM AE) (AB (AM AE) AE))) AE)) ?_;refine A7 (l:=BK 0 (q.length:Int).toNat) (f:=BW 3) (fun i ρ' G'=>(∃bs x3,ρ'=[some (fl q),some (.fn p),some (.lst (bs.map bgD)),x3]/\BInv q AR i bs)/\G'=put G p (.dct AR)) PassesOwn.never rfl
   (HG rfl ja (Bp rfl PB (AA 0 rfl) (by show some ((q.map sq).length)=_;rw[List.length_map])) (by lia) (by lia) ⟨rfl,⟨[([],[])],none,rfl,BInv.zero up hH⟩,rfl⟩) (Aa 3 B6.nd) ?_ ?_
  ·rintro i dd ρ' G' hd ⟨⟨bs,x3,rfl,hB⟩,rfl⟩;obtain⟨hi,rfl⟩:=C0 hd;have A6:i<q.length:=by lia
   have hq:q[i]?=some q[i]:=List.getElem?_eq_getElem A6;refine⟨_,rfl,?_⟩;refine Af 2 B6.nd (AO FG (hr.mono (by lia)) (AB (AA 0 rfl) (AB (AA 3 rfl) (AB (AA 2 rfl) (AB (AA 1 rfl) AE)))) ⟨q,i,q[i],bs,p,AR,by rw[Int.zero_add],hq,GQ,hB.few hle,AG,hV,hC,hB,AI ⟨⟨_,_,rfl,hB.next hC hq⟩,rfl⟩⟩)
  ·rintro ρ' G' ⟨⟨bs,x3,rfl,hB⟩,rfl⟩;have el:(BK 0 (q.length:Int).toNat).length=q.length:=by simp[BK]
   rw[el]at hB;have hf:=hB.few hle;refine BC (BO (PX.we (Gm (Nc:=Fw) (caps:=Kc) (l:=bs.map bgD) (f:=Fu 0 1) (fun d=>match d with|.tup (x::_)=>x|_=>.non)
    (Bk (psc:=AF ES) (PN:=Hk) (by decide +kernel) rfl rfl) rfl
    (Fc (AA 2 rfl) ⟨rfl,rfl⟩)
    (fun C s' H' fp=>DH 0 1 rfl (show Fw.Nodup by decide +kernel)) (LF rfl rfl) (by rw[List.length_map];lia) ?_) ⟨p,?_⟩))
   ·intro C s' H' fp G2 d hd kn;obtain⟨b,_,rfl⟩:=List.mem_map.mp hd;exact⟨_,rfl,AA 0 rfl⟩
   ·rw[Ah hp,List.map_map];have e:(bs.map ((fun d=>match d with|Dat.tup (x::_)=>x|_=>Dat.non) ∘ bgD))=(A8 q).map lay:=by
     rw[<-hB.done,List.map_map];rfl
    rw[e];exact hR
end
end TF
namespace TF
open PySem PySem.Spec L2
open PyProof.Rows hiding St RelV
section
variable {P:Program}{w:World}{K:PySem.W.Frag}{mg:Str->Option Value}{base:Heap}{f:Addr}{fd:FuncData}
theorem SU(F:Fun K "without" "without" HJ f fd)(mt:mg "tuple"=none):FnOk P w K mg base CX0 1 f fd Jb (Ae K Mt):=by
 refine BA (k:=0) F SF (fun A1 A outer s H E ds G R hr h=>?_);obtain⟨q,x,rfl,GQ,hR⟩:=h;have hu:(A.deeper (envOfC "without" (AF HJ) s.heap.objs.size f A1)).units+9<cLine:=by have:=hr.units;lia
 refine AV (Cz rfl mt Boot.«tuple» (Dr (Nc:=KR) (caps:=QC) (l:=q.map sq) (f:=BW 0) (fun d=>!([x.1,x.2].map sq).any fun e=>eqD e d) id
  (Bk (psc:=AF HJ) (PN:=NW) (by decide +kernel) rfl rfl) rfl
  (C3 (AA 0 rfl) ⟨rfl,rfl⟩)
  (fun C s' H' fp=>Aa 0 (show KR.Nodup by decide +kernel)) (BE rfl) (by rw[List.length_map];lia) ?_)) ?_
 ·intro C s' H' fp G2 d hd kn;obtain⟨y,_,rfl⟩:=List.mem_map.mp hd;exact⟨_,rfl,Ao (Br hu (AA 0 rfl) (AA 1 rfl) (.inl rfl) (B0 y) (Ba [x.1,x.2])),fun _=>AA 0 rfl⟩
 ·rw[N1];have:(fun y=>!([x.1,x.2].map sq).any fun e=>eqD e (sq y))=fun y=>!([x.1,x.2].contains y):=funext fun y=>by rw[BL]
  rw[this,aS];exact hR
theorem Wr(F:Fun K "fixed" "fixed" Kt f fd)(FL:Df P w K mg base "laid" OH 3 Of)(FC:Df P w K mg base "count" OQ 27 Ox)(FW:Df P w K mg base "without" Jb 1 Mt):FnOk P w K mg base CX0 28 f fd OT (Ae K Uj):=by
 refine BA (k:=27) F L0 (fun A1 A outer s H E ds G R hr h=>?_);obtain⟨q,rfl,up,GQ,hR⟩:=h;have hu:(A.deeper (envOfC "fixed" (AF Kt) s.heap.objs.size f A1)).units+9<cLine:=by have:=hr.units;lia
 refine Af 1 L0.nd (AO FL (hr.mono (by lia)) (AB (AA 0 rfl) AE) ⟨q,rfl,up,GQ,fun l I=>?_,fun hC=>?_⟩)
 ·refine Ar (Ao (Jz hu (Au (AA 1 rfl) AH rfl) Lh rfl rfl)) (fun hp=>?_) (fun hp=>?_)
  ·exact absurd hp (by decide)
  refine AI ?_;refine Af 2 L0.nd (AO FC (hr.mono (by lia)) (AB (AA 0 rfl) AE) ⟨q,rfl,GQ,?_⟩);have hl:=Fj I.toCov;refine AV (Dr (Nc:=Mu) (caps:=Va) (l:=l.map AU) (f:=BW 0) (via AU fun s=>decide (Cp (Bd q s.1 s.2)=Cp q)) id
   (Bk (psc:=AF Kt) (PN:=UD) (by decide +kernel) rfl rfl) rfl
   (C3 (Au (AA 1 rfl) AH rfl) ⟨rfl,rfl⟩)
   (fun C s' H' fp=>Aa 0 (show Mu.Nodup by decide +kernel)) (BE rfl) (by rw[List.length_map];lia) ?_) ?_
  ·intro C s' H' fp G2 d hd kn;obtain⟨t,ht,rfl⟩:=List.mem_map.mp hd;refine⟨_,rfl,?_,fun _=>AA 0 rfl⟩;rw[C1 CI];have e:decide (Cp (Bd q t.1 t.2)=Cp q)=(((Cp (Bd q t.1 t.2):Nat):Int)==((Cp q:Nat):Int)):=by
    rw[Bool.eq_iff_iff,decide_eq_true_eq,beq_iff_eq];lia
   rw[e];have hle:(Bd q t.1 t.2).length<=q.length:=List.length_filter_le _ _;exact Ao (EI (AO FC (hr.mono (by lia)) (AB (AO FW (hr.mono (by lia)) (AB (AA 2 rfl) (AB (AA 0 rfl) AE)) ⟨q,t,rfl,GQ,rfl,rfl⟩) AE) ⟨_,rfl,by lia,rfl,rfl⟩) (AA 1 rfl))
  ·rw[PQ CI,XG up I];exact hR
 ·refine Ar (Ao (Jz hu (Au (AA 1 rfl) AH rfl) Lh rfl rfl)) (fun hp=>?_) (fun hp=>?_)
  ·refine AV (B8 AE) ?_;have e:FY q=[]:=by
    unfold FY;cases hA:A8 q with
    |nil=>rfl
    |cons k r=>exact(hC.none (EG up) ((C6 up).mp (by rw[hA];exact List.mem_cons_self ..)).toCov).elim
   rw[e]at hR;exact hR
  ·exact absurd hp (by decide)
end
end TF
namespace TF
open PySem PySem.Spec L2
open PyProof.Rows hiding St RelV
section
variable {P:Program}{w:World}{K:PySem.W.Frag}{mg:Str->Option Value}{base:Heap}{f:Addr}{fd:FuncData}
theorem Ra(F:Fun K "covered" "covered" Jn f fd)(ms:mg "sorted"=none):FnOk P w K mg base CX0 1 f fd JZ (Ae K Mr):=by
 refine BA (k:=0) F IJ (fun A1 A outer s H E ds G R hr h=>?_);obtain⟨l,rfl,hz,hR⟩:=h;have hu:(A.deeper (envOfC "covered" (AF Jn) s.heap.objs.size f A1)).units+20<cLine:=by have:=hr.units;lia
 refine BY 1 IJ.nd AE (fun p hp=>?_);refine A7 (l:=l.map AU) (f:=BW 2) (fun i ρ' G'=>(∃x2,ρ'=[some (lay l),some (.fn p),x2])/\G'=put G p (.lst ((Aj (l.take i)).map sq))) PassesOwn.never rfl
  (C3 (AA 0 rfl) ⟨rfl,⟨none,rfl⟩,rfl⟩) (Aa 2 IJ.nd) ?_ ?_
 ·rintro i dd ρ' G' hd ⟨⟨x2,rfl⟩,rfl⟩;rw[List.getElem?_map]at hd;obtain⟨t,ht,rfl⟩:=Option.map_eq_some_iff.mp hd;refine⟨_,rfl,?_⟩;refine Q5 (m:=[sq t.1,sq t.2]) (AA 1 rfl) (AA 2 rfl) AG ?_ (AI ⟨⟨_,rfl⟩,?_⟩)
  ·rw[List.length_map,Th,List.length_take];exact sz (by simp;lia)
  ·rw[Ab,List.take_add_one,ht,HZ,List.map_append];rfl
 ·rintro ρ' G' ⟨⟨x2,rfl⟩,rfl⟩;rw[List.length_map,List.take_length];refine BC (BO (PX.we (D3 TSq (Aj l) hu ms (AA 1 rfl) (.inr ⟨p,rfl,AG⟩) (.inl fun x=>⟨_,_,rfl⟩)) ⟨p,?_⟩));rw[Ah hp];exact hR
end
end TF
namespace TF
open PySem PySem.Spec L2
open PyProof.Rows hiding St RelV
section
variable {P:Program}{w:World}{K:PySem.W.Frag}{mg:Str->Option Value}{base:Heap}{f:Addr}{fd:FuncData}
theorem QN(F:Fun K "partners" "partners" IG f fd):FnOk P w K mg base CX0 1 f fd IP (Ae K L3):=by
 refine BA (k:=0) F GI (fun A1 A outer s H E ds G R hr h=>?_);obtain⟨q,l,rfl,nd,GQ,I,hR⟩:=h;have hu:(A.deeper (envOfC "partners" (AF IG) s.heap.objs.size f A1)).units+9<cLine:=by have:=hr.units;lia
 have hl:=Fj I.toCov;have n1:(Aj l).Nodup:=I.pm.nodup_iff.mpr nd;refine Af 1 GI.nd (FJ fun p hp=>?_);refine A7 (l:=l.map AU) (f:=Fu 2 3) (fun i ρ' G'=>(∃x2 x3,ρ'=[some (lay l),some (.fn p),x2,x3])/\G'=put G p (.dct ((Aj (l.take i)).map fun q=>(sq q,sq (pfM l q))))) PassesOwn.never rfl
  (C3 (AA 0 rfl) ⟨rfl,⟨none,none,rfl⟩,rfl⟩) (DH 2 3 rfl GI.nd) ?_ ?_
 ·rintro i dd ρ' G' hd ⟨⟨x2,x3,rfl⟩,rfl⟩;rw[List.getElem?_map]at hd;obtain⟨t,ht,rfl⟩:=Option.map_eq_some_iff.mp hd;have jY:t∈l:=List.mem_of_getElem? ht;have et:l.take (i+1)=l.take i++[t]:=by rw[List.take_add_one,ht];rfl
  have e2:Aj (l.take (i+1))=Aj (l.take i)++[t.1,t.2]:=by rw[et,HZ];rfl
  have n2:(Aj (l.take (i+1))).Nodup:=by
   have:Aj l=Aj (l.take (i+1))++Aj (l.drop (i+1)):=by rw[<-HZ,List.take_append_drop]
   rw[this,List.nodup_append]at n1;exact n1.1
  have n3:t.1∉Aj (l.take i)/\t.2∉Aj (l.take i)++[t.1]:=by
   rw[e2,show Aj (l.take i)++[t.1,t.2]=(Aj (l.take i)++[t.1])++[t.2] by simp,List.nodup_append]at n2;obtain⟨a1,_,a3⟩:=n2;rw[List.nodup_append]at a1;exact⟨fun h=>a1.2.2 _ h _ (List.mem_singleton.mpr rfl) rfl,fun h=>a3 _ h _ (List.mem_singleton.mpr rfl) rfl⟩
  have fo:=bq nd I jY;have hz:(Aj (l.take i)).length<=24:=by rw[Th,List.length_take];lia
  refine⟨_,rfl,?_⟩;refine CT (k:=sq t.1) (d:=sq t.2) hu (AA 3 rfl) (AA 1 rfl) (AA 2 rfl) AG (A5 _) ⟨_,rfl⟩ (by rw[List.length_map];exact sz1 (by lia)) ?_;rw[Ab,YL n3.1 (by rw[fo.1])];refine CT (k:=sq t.2) (d:=sq t.1) hu (AA 2 rfl) (AA 1 rfl) (AA 3 rfl) AG (A5 _) ⟨_,rfl⟩ (by rw[List.length_map,List.length_append];exact sz1 (by simp;lia)) ?_;rw[Ab,YL n3.2 (by rw[fo.2])];refine AI ⟨⟨_,_,rfl⟩,?_⟩;rw[e2,List.append_assoc];rfl
 ·rintro ρ' G' ⟨⟨x2,x3,rfl⟩,rfl⟩;rw[List.length_map,List.take_length];exact AV (AA 1 rfl) (hR p hp)
theorem OU(F:Fun K "ring_from" "ring_from" Gj f fd):FnOk P w K mg base CX0 1 f fd Gh (Ae K LO):=by
 refine BA (k:=0) F DY (fun A1 A outer s H E ds G R hr h=>?_);obtain⟨q,l,m,x,p1,p2,rfl,nd,GQ,I,J,hx,Fo,Ey,hR⟩:=h;have hu:(A.deeper (envOfC "ring_from" (AF Gj) s.heap.objs.size f A1)).units+9<cLine:=by have:=hr.units;lia
 have hp:=G6 nd I;have hq:=G6 nd J;obtain⟨k,hk⟩:=dY hp hq hx;have fh:=Ku nd I J hx hk;rw[Px]at fh;have Jh:=hk.pos;refine BY 3 DY.nd (ds:=(B5 (pfM l) (pfM m) x 1).map sq) (AB (AA 0 rfl) (AB (Bw hu (AA 1 rfl) (AA 0 rfl) Fo (A5 _) ⟨_,rfl⟩ (HP I hx)) AE)) (fun p3 VJ=>?_) (show 2<=1000 by decide);have n1:p1≠p3:=by rintro rfl;rw[Fo]at VJ;cases VJ
 have n2:p2≠p3:=by rintro rfl;rw[Ey]at VJ;cases VJ
 have g1:∀o,put G p3 o p1=some (.dct (pdM l)):=fun o=>by rw[AL n1];exact Fo
 have g2:∀o,put G p3 o p2=some (.dct (pdM m)):=fun o=>by rw[AL n2];exact Ey
 refine AS 4 DY.nd (Bw hu (AA 2 rfl) (Bw hu (AA 1 rfl) (AA 0 rfl) (g1 _) (A5 _) ⟨_,rfl⟩ (HP I hx)) (g2 _) (A5 _) ⟨_,rfl⟩ (HP J (hp.mem _ hx))) ?_;refine Cv (fun n ρ' G'=>∃i,1<=i/\i<=k/\n=k-i/\ρ'=[some (sq x),some (.fn p1),some (.fn p2),some (.fn p3),some (sq (itG (pfM l) (pfM m) x i))]/\G'=put G p3 (.lst ((B5 (pfM l) (pfM m) x i).map sq))) PassesOwn.never (m0:=k-1) ⟨1,Nat.le_refl _,Jh,rfl,rfl,rfl⟩ ?_;rintro n ρ' G' ⟨i,h1,h2,rfl,rfl,rfl⟩;have hi:=ET hp hq hx i;refine CY (Ao (OO hu (AA 4 rfl) (AA 0 rfl) rfl (AZ _ 8) (AZ _ 8))) ⟨fun hc=>?_,fun hc=>?_⟩
 ·rw[Hw]at hc;have BS:itG (pfM l) (pfM m) x i≠x:=by simpa using hc
  have kQ:i<k:=by
   rcases Nat.lt_or_ge i k with h|h
   ·exact h
   ·have:i=k:=by lia
    rw[this]at BS;exact absurd hk.back BS
  have su:(B5 (pfM l) (pfM m) x i).length<=24:=by rw[Px];lia
  refine A0 (AA 3 rfl) (AA 4 rfl) AG (by rw[List.length_map];exact sz1 (by lia)) ?_;rw[Ab];refine A0 (AA 3 rfl) (Bw hu (AA 1 rfl) (AA 4 rfl) (g1 _) (A5 _) ⟨_,rfl⟩ (HP I hi)) AG (by rw[List.length_append,List.length_map];exact sz1 (by simp;lia)) ?_;rw[Ab];refine AS 4 DY.nd (Bw hu (AA 2 rfl) (Bw hu (AA 1 rfl) (AA 4 rfl) (g1 _) (A5 _) ⟨_,rfl⟩ (HP I hi)) (g2 _) (A5 _) ⟨_,rfl⟩ (HP J (hp.mem _ hi))) (AI ⟨k-(i+1),by lia,i+1,by lia,kQ,rfl,rfl,?_⟩);rw[Vu,List.map_append,List.append_assoc];rfl
 ·rw[Hw]at hc;have he:itG (pfM l) (pfM m) x i=x:=by simpa using hc
  have kQ:i=k:=by
   rcases Nat.lt_or_ge i k with h|h
   ·exact absurd he (hk.min i (by lia) h)
   ·lia
  subst kQ;refine Dx (AA 3 rfl) AG ?_;rw[Ah VJ];exact hR i hk
theorem Xg(F:Fun K "rings" "rings" Nw f fd)(ml:mg "len"=none)(FP:Df P w K mg base "partners" IP 1 L3)(FR:Df P w K mg base "ring_from" Gh 1 LO)(FC:Df P w K mg base "covered" JZ 1 Mr):FnOk P w K mg base CX0 2 f fd OV (Ae K Pb):=by
 refine BA (k:=1) F DI (fun A1 A outer s H E ds G R hr h=>?_);obtain⟨q,l,m,rfl,up,GQ,I,J,hR⟩:=h;have hu:(A.deeper (envOfC "rings" (AF Nw) s.heap.objs.size f A1)).units+9<cLine:=by have:=hr.units;lia
 have nd:=EG up;have rB:=Fj I.toCov;refine Af 2 DI.nd (AO FP hr (AB (AA 0 rfl) AE) ⟨q,l,rfl,nd,GQ,I,fun p1 GZ=>?_⟩);refine Af 3 DI.nd (AO FP hr (AB (AA 1 rfl) AE) ⟨q,m,rfl,nd,GQ,J,fun p2 Ft=>?_⟩);refine Af 4 DI.nd (FJ fun p3 VJ=>?_);refine BY 5 DI.nd AE (fun p4 ZC=>?_);have Tt:p2≠p1:=by rintro rfl;rw[AG]at Ft;cases Ft
 have lY:p3≠p2:=by rintro rfl;rw[AG]at VJ;cases VJ
 rw[AL lY]at VJ;have jv:p3≠p1:=by rintro rfl;rw[AG]at VJ;cases VJ
 rw[AL jv]at VJ;have jj:p4≠p3:=by rintro rfl;rw[AG]at ZC;cases ZC
 rw[AL jj]at ZC;have lT:p4≠p2:=by rintro rfl;rw[AG]at ZC;cases ZC
 rw[AL lT]at ZC;have lJ:p4≠p1:=by rintro rfl;rw[AG]at ZC;cases ZC
 rw[AL lJ]at ZC;rw[AL Tt]at Ft;obtain⟨GG,aQ⟩:∃GG:List Sq->List (List Sq)->Gs,GG=fun S T=>put (put (put (put G p1 (.dct (pdM l))) p2 (.dct (pdM m))) p3 (.dct (S.map kvT))) p4 (.lst (T.map Gx)):=⟨_,rfl⟩;have qT:put (put (put (put G p1 (.dct (pdM l))) p2 (.dct (pdM m))) p3 (.dct [])) p4 (.lst [])=GG [] []:=by rw[aQ];rfl
 have qy:∀S T,GG S T p1=some (.dct (pdM l)):=fun S T=>by rw[aQ];simp only;rw[AL (Ne.symm lJ),AL (Ne.symm jv),AL (Ne.symm Tt),AG]
 have pS:∀S T,GG S T p2=some (.dct (pdM m)):=fun S T=>by rw[aQ];simp only;rw[AL (Ne.symm lT),AL (Ne.symm lY),AG]
 have nO:∀S T,GG S T p3=some (.dct (S.map kvT)):=fun S T=>by rw[aQ];simp only;rw[AL (Ne.symm jj),AG]
 have mQ:∀S T,GG S T p4=some (.lst (T.map Gx)):=fun S T=>by rw[aQ];simp only;rw[AG]
 have rK:∀S T S',put (GG S T) p3 (.dct (S'.map kvT))=GG S' T:=fun S T S'=>by rw[aQ];simp only;rw[Cd jj,Ab]
 have qq:∀S T T',put (GG S T) p4 (.lst (T'.map Gx))=GG S T':=fun S T T'=>by rw[aQ];simp only;rw[Ab]
 have kG:∀S T,rel (rel (rel (rel (GG S T) p4) p3) p2) p1=G:=fun S T=>by
  rw[aQ];simp only;rw[Ah,Ah,Ah,Ah GZ]
  ·rw[AL Tt];exact Ft
  ·rw[AL lY,AL jv];exact VJ
  ·rw[AL jj,AL lT,AL lJ];exact ZC
 rw[qT];clear aQ;have gv:=Wd up I.toCov;refine A7 (l:=q.map sq) (f:=BW 6) (fun i ρ' G'=>(∃x6 x7 x8,ρ'=[some (lay l),some (lay m),some (.fn p1),some (.fn p2),some (.fn p3),some (.fn p4),x6,x7,x8])/\∃S T,G'=GG S T/\RgI q l m S/\T.length<=i/\(q.take i).foldl (rgG l m) ([],[])=(S,T)) PassesOwn.never rfl
  (Bl (AO FC hr (AB (AA 0 rfl) AE) ⟨l,rfl,by lia,q.map sq,by rw[gv],rfl,⟨none,none,none,rfl⟩,[],[],rfl,RgI.nil,Nat.le_refl _,rfl⟩)) (Aa 6 DI.nd) ?_ ?_
 ·rintro i dd ρ' G' hd ⟨⟨x6,x7,x8,rfl⟩,S,T,rfl,V,hT,en⟩;rw[List.getElem?_map]at hd;obtain⟨x,hx,rfl⟩:=Option.map_eq_some_iff.mp hd;have lD:x∈q:=List.mem_of_getElem? hx;have hi:i<q.length:=(List.getElem?_eq_some_iff.mp hx).1;have ZQ:(q.take (i+1)).foldl (rgG l m) ([],[])=rgG l m (S,T) x:=by rw[List.take_add_one,hx,List.foldl_append,en];rfl
  have pT:S.length<=24:=Nat.le_trans (BD V.snd V.sub) GQ;refine⟨_,rfl,?_⟩;refine Ar (Ao (BQ hu (AA 6 rfl) (AA 4 rfl) (nO _ _) (A5 x) ⟨_,rfl⟩)) (fun hp=>?_) (fun hp=>?_)
  ·rw[JD]at hp;have jU:x∉S:=by simpa using hp
   refine Af 7 DI.nd (AO FR hr (AB (AA 6 rfl) (AB (AA 2 rfl) (AB (AA 3 rfl) AE))) ⟨q,l,m,x,p1,p2,rfl,nd,GQ,I,J,lD,qy _ _,pS _ _,fun k hk=>?_⟩);have V2:=V.next nd I J lD jU hk;unfold rgG at ZQ;rw[if_neg (by simpa using jU),bE hk]at ZQ;have sT:=Ku nd I J lD hk;generalize hrr:B5 (pfM l) (pfM m) x k=r at *;refine A7 (l:=r.map sq) (f:=BW 8) (fun j ρ' G'=>(∃x8,ρ'=[some (lay l),some (lay m),some (.fn p1),some (.fn p2),some (.fn p3),some (.fn p4),some (sq x),some (Gx r),x8])/\G'=GG (S++r.take j) T) PassesOwn.never rfl
    (Fc (AA 7 rfl) ⟨rfl,⟨_,rfl⟩,by simp⟩) (Aa 8 DI.nd) ?_ ?_
   ·rintro j dd ρ' G' hd ⟨⟨x8,rfl⟩,rfl⟩;rw[List.getElem?_map]at hd;obtain⟨y,hy,rfl⟩:=Option.map_eq_some_iff.mp hd;have et:r.take (j+1)=r.take j++[y]:=by rw[List.take_add_one,hy];rfl
    have fj:y∉S++r.take j:=by
     have nn:=V2.snd;rw[<-List.take_append_drop (j+1) r,et,List.append_assoc,<-List.append_assoc S,List.nodup_append]at nn;intro hm;exact nn.2.2 y hm y (List.mem_append_left _ (List.mem_singleton.mpr rfl)) rfl
    refine⟨_,rfl,?_⟩;refine CT (k:=sq y) (d:=.bl true) hu Kv (AA 4 rfl) (AA 8 rfl) (nO _ _) (A5 y) ⟨_,rfl⟩ (by rw[List.length_map,List.length_append,List.length_take];exact sz1 (by lia)) ?_;rw[Wx fj,rK];refine AI ⟨⟨_,rfl⟩,?_⟩;rw[et,List.append_assoc]
   ·rintro ρ' G' ⟨⟨x8,rfl⟩,rfl⟩;rw[List.length_map,List.take_length];refine Ar (Ao (FU (Bp (n:=r.length) rfl ml (AA 7 rfl) (by simp[JC,Gx])) AH)) (fun hc=>?_) (fun hc=>?_)
    ·have A2:2<r.length:=by have:=of_decide_eq_true hc;lia
     rw[if_pos A2]at ZQ;refine A0 (d:=Gx r) (AA 5 rfl) (AA 7 rfl) (mQ _ _) (by rw[List.length_map];exact sz1 (by lia)) ?_;have e:T.map Gx++[Gx r]=(T++[r]).map Gx:=by rw[List.map_append];rfl
     rw[e,qq];exact AI (AI (AI ⟨⟨_,_,_,rfl⟩,_,_,rfl,V2,by simp;lia,ZQ⟩))
    ·have A2:¬2<r.length:=by have:=of_decide_eq_false hc;lia
     rw[if_neg A2]at ZQ;exact AI (AI (AI ⟨⟨_,_,_,rfl⟩,_,_,rfl,V2,by lia,ZQ⟩))
  ·rw[JD]at hp;have jU:x∈S:=by simpa using hp
   unfold rgG at ZQ;rw[if_pos (by simpa using jU)]at ZQ;exact AI (AI ⟨⟨_,_,_,rfl⟩,S,T,rfl,V,by lia,ZQ⟩)
 ·rintro ρ' G' ⟨⟨x6,x7,x8,rfl⟩,S,T,rfl,V,hT,en⟩;rw[List.length_map,List.take_length]at en;refine BC (BO (BO (BO (Wb (AA 5 rfl) (mQ _ _) ⟨p3,p2,p1,?_⟩))));rw[kG];unfold Kw at hR;rw[en]at hR;exact hR
end
end TF
namespace TF
open PySem PySem.Spec L2
open PyProof.Rows hiding St RelV
section
variable {P:Program}{w:World}{K:PySem.W.Frag}{mg:Str->Option Value}{base:Heap}{f:Addr}{fd:FuncData}
theorem SA(F:Fun K "ring_at" "ring_at" NR f fd):FnOk P w K mg base CX0 1 f fd HK (Ae K Np):=by
 refine BA (k:=0) F Hy (fun A1 A outer s H E ds G R hr h=>?_);obtain⟨q,rfl,hR⟩:=h;refine AS 1 Hy.nd (Au (AA 0 rfl) AH rfl) ?_;refine AS 2 Hy.nd (Au (AA 0 rfl) AH rfl) ?_;refine AV (B8 (AB (AM (AB (AA 1 rfl) (AB (AA 2 rfl) AE))) (AB (AM (AB (AA 1 rfl) (AB (Aw (AA 2 rfl) AH) AE)))
  (AB (AM (AB (Aw (AA 1 rfl) AH) (AB (Aw (AA 2 rfl) AH) AE))) (AB (AM (AB (Aw (AA 1 rfl) AH) (AB (AA 2 rfl) AE))) AE))))) ?_
 exact hR
theorem Ka(F:Fun K "stones_along" "stones_along" Dt f fd)(mr:mg "range"=none)(ml:mg "len"=none)(mi:mg "min"=none)(ma:mg "max"=none):FnOk P w K mg base CX0 1 f fd Ck (Ae K Ni):=by
 refine BA (k:=0) F DL (fun A1 A outer s H E ds G R hr h=>?_);obtain⟨ring,b,rfl,hb,h1,h2,hR⟩:=h;have hu:(A.deeper (envOfC "stones_along" (AF Dt) s.heap.objs.size f A1)).units+20<cLine:=by have:=hr.units;lia
 refine BY 2 DL.nd AE (fun p hp=>?_);have hn:(((ring.length-b+1) / 2:Nat):Int)=((ring.length:Int)-(b:Int)+1) / 2:=by lia
 refine A7 (l:=Bq b ((ring.length-b+1) / 2)) (f:=BW 3) (fun i ρ' G'=>(∃x3,ρ'=[some (.lst (ring.map sq)),some (.int b),some (.fn p),x3])/\G'=put G p (.lst (((Ay ring b).take i).map AU))) PassesOwn.never rfl
  (VN ((ring.length-b+1) / 2) mr (AA 1 rfl) (Bp (n:=ring.length) rfl ml (AA 0 rfl) (by simp[JC])) AH ⟨by lia,by lia,by lia,hn⟩ ⟨rfl,⟨none,rfl⟩,by simp⟩) (Aa 3 DL.nd) ?_ ?_
 ·rintro i dd ρ' G' hd ⟨⟨x3,rfl⟩,rfl⟩;obtain⟨hi,rfl⟩:=QD hd;have hk:b+2*i<ring.length:=by lia
  have ek:(b:Int)+(i:Nat)*2=((b+2*i:Nat):Int):=by lia
  have ha:(Ay ring b)[i]?=some (stM (M7 ring (b+2*i)) (ring.getD (b+2*i) (0,0))):=by
   unfold Ay;rw[List.getElem?_map,List.getElem?_range hi];rfl
  rw[ek];refine⟨_,rfl,?_⟩;have g1:=YK hk;have g2:=X8 hk;refine A0 (AA 2 rfl) (AM (AB (Pe rfl hu mi (DP (AA 0 rfl) (Bi (AA 3 rfl) AH) g1) (DP (AA 0 rfl) (AA 3 rfl) g2)) (AB (Qv rfl hu ma (DP (AA 0 rfl) (Bi (AA 3 rfl) AH) g1) (DP (AA 0 rfl) (AA 3 rfl) g2)) AE))) AG ?_ (AI ⟨⟨_,rfl⟩,?_⟩)
  ·have:((Ay ring b).take i).length<=1000:=by
    rw[List.length_take];unfold Ay;rw[List.length_map,List.length_range];lia
   rw[List.length_map];exact sz1 (by lia)
  ·rw[Ab,List.take_add_one,ha,Option.toList_some,List.map_append];rfl
 ·rintro ρ' G' ⟨⟨x3,rfl⟩,rfl⟩;have e:(Ay ring b).take (Bq (b:Int) ((ring.length-b+1) / 2)).length=Ay ring b:=by
   refine List.take_of_length_le ?_;rw[Q7];unfold Ay;rw[List.length_map,List.length_range];exact Nat.le_refl _
  rw[e];refine Dx (AA 2 rfl) AG ?_;rw[Ah hp];exact hR
theorem SV(F:Fun K "has_all" "has_all" HY f fd)(ma:mg "all"=none):FnOk P w K mg base CX0 1 f fd HF (Ae K Lx):=by
 refine BA (k:=0) F Rw (fun A1 A outer s H E ds G R hr h=>?_);obtain⟨l,st,rfl,hz,hR⟩:=h;have hu:(A.deeper (envOfC "has_all" (AF HY) s.heap.objs.size f A1)).units+9<cLine:=by have:=hr.units;lia
 refine AV (R1 (bs:=st.map l.contains) rfl ma (PX.cast (Gm (Nc:=KN) (caps:=Qc) (l:=st.map AU) (f:=BW 0) (fun d=>.bl ((l.map AU).any fun e=>eqD e d))
  (Bk (psc:=AF HY) (PN:=NS) (by decide +kernel) rfl rfl) rfl
  (Fc (AA 1 rfl) ⟨rfl,rfl⟩)
  (fun C s' H' fp=>Aa 0 (show KN.Nodup by decide +kernel)) (BE rfl) (by rw[List.length_map];lia) ?_) ?_)) ?_
 ·intro C s' H' fp G2 d hd kn;obtain⟨y,_,rfl⟩:=List.mem_map.mp hd;exact⟨_,rfl,Iz (Ii hu (AA 0 rfl) (AA 1 rfl) (.inl rfl) (DG y) (FZ l))⟩
 ·rw[List.map_map,List.map_map];refine congrArg Dat.lst (List.map_congr_left fun y _=>?_);show Dat.bl ((l.map AU).any fun e=>eqD e (AU y))=Dat.bl (l.contains y);rw[Jo]
 ·rw[List.all_map];exact hR
theorem Se(F:Fun K "is_turn" "is_turn" M6 f fd)(FR:Df P w K mg base "ring_at" HK 1 Np)(FA:Df P w K mg base "stones_along" Ck 1 Ni)(FH:Df P w K mg base "has_all" HF 1 Lx):FnOk P w K mg base CX0 2 f fd HX (Ae K Ld):=by
 refine BA (k:=1) F Lz (fun A1 A outer s H E ds G R hr h=>?_);obtain⟨l,q,rfl,hR⟩:=h;refine Af 2 Lz.nd (AO FR (hr.mono (by lia)) (AB (AA 1 rfl) AE) ⟨q,rfl,?_⟩);refine AV (iK (AO FH (hr.mono (by lia)) (AB (AA 0 rfl) (AB (AO FA (hr.mono (by lia)) (AB (AA 2 rfl) (AB AH AE)) ⟨CL q,0,rfl,by decide,(show 1<=4 by decide),(show 4<=1000 by decide),rfl,rfl⟩) AE)) ⟨l,Ay (CL q) 0,rfl,(by rw[Od];show 2<=1000;decide),rfl,rfl⟩)
  fun _=>Ge (AO FH (hr.mono (by lia)) (AB (AA 0 rfl) (AB (AO FA (hr.mono (by lia)) (AB (AA 2 rfl) (AB AH AE)) ⟨CL q,1,rfl,by decide,(show 1<=4 by decide),(show 4<=1000 by decide),rfl,rfl⟩) AE)) ⟨l,Ay (CL q) 1,rfl,(by rw[Lu];show 2<=1000;decide),rfl,rfl⟩)) ?_
 exact hR
theorem WU(F:Fun K "turns" "turns" OK f fd)(FT:Df P w K mg base "is_turn" HX 2 Ld):FnOk P w K mg base CX0 3 f fd Km (Ae K N5):=by
 refine BA (k:=2) F Xz (fun A1 A outer s H E ds G R hr h=>?_);obtain⟨l,rfl,hz,hR⟩:=h;refine AV (Dr (Nc:=NU) (caps:=Vj) (l:=l.map AU) (f:=BW 0) (via AU fun t=>D5 l t.1) (via AU fun t=>sq t.1)
  (Bk (psc:=AF OK) (PN:=T2) (by decide +kernel) rfl rfl) rfl
  (C3 (AA 0 rfl) ⟨rfl,rfl⟩)
  (fun C s' H' fp=>Aa 0 (show NU.Nodup by decide +kernel)) (BE rfl) (by rw[List.length_map];lia) ?_) ?_
 ·intro C s' H' fp G2 d hd kn;obtain⟨y,_,rfl⟩:=List.mem_map.mp hd;rw[C1 CI,C1 CI];exact⟨_,rfl,B4 (AO FT hr (AB (AA 1 rfl) (AB (Au (AA 0 rfl) AH rfl) AE)) ⟨l,y.1,rfl,rfl,rfl⟩),fun _=>Au (AA 0 rfl) AH rfl⟩
 ·have e:((l.map AU).filter (via AU fun t=>D5 l t.1)).map (via AU fun t=>sq t.1)=(Cn l).map sq:=by
   rw[List.filter_map,List.map_map];unfold Cn;rw[List.map_map];have e1:(via AU fun t=>D5 l t.1) ∘ AU=fun t=>D5 l t.1:=funext fun t=>C1 CI ..;rw[e1];refine List.map_congr_left fun t _=>?_;exact C1 CI ..
  rw[e];exact hR
theorem JM(F:Fun K "laid_otherwise" "laid_otherwise" Bm f fd)(mt:mg "tuple"=none)(ms:mg "sorted"=none)(FA:Df P w K mg base "stones_along" Ck 1 Ni)(FH:Df P w K mg base "has_all" HF 1 Lx):FnOk P w K mg base CX0 2 f fd C2 (Ae K Tg):=by
 refine BA (k:=1) F BF (fun A1 A outer s H E ds G R hr h=>?_);obtain⟨l,ring,rfl,h1,h2,h3,hR⟩:=h;have hu:(A.deeper (envOfC "laid_otherwise" (AF Bm) s.heap.objs.size f A1)).units+20<cLine:=by have:=hr.units;lia
 have NG:(A.deeper (envOfC "laid_otherwise" (AF Bm) s.heap.objs.size f A1)).units+9<cLine:=by lia
 have hl:∀b,(Ay ring b).length<=1000:=fun b=>by
  unfold Ay;rw[List.length_map,List.length_range];lia
 refine Af 2 BF.nd (AO FA (hr.mono (by lia)) (AB (AA 1 rfl) (AB AH AE)) ⟨ring,1,rfl,by decide,h1,h2,?_⟩);refine Af 3 BF.nd (AO FA (hr.mono (by lia)) (AB (AA 1 rfl) (AB AH AE)) ⟨ring,0,rfl,by decide,h1,h2,?_⟩);refine Fm (fun ρ' G'=>G=G'/\∃tk pt:Lay,Cw l ring=D8 l tk pt/\tk.length<=1000/\pt.length<=1000/\ρ'=[some (lay l),some (.lst (ring.map sq)),some (.lst (tk.map AU)),some (.lst (pt.map AU)),none])
  (DS (B4 (AO FH (hr.mono (by lia)) (AB (AA 0 rfl) (AB (AA 2 rfl) AE)) ⟨l,Ay ring 1,rfl,hl 1,rfl,rfl⟩))) (fun hp=>?_) (fun hp=>?_) (fun ρ' G' hM=>?_)
 ·refine Af 2 BF.nd (AO FA (hr.mono (by lia)) (AB (AA 1 rfl) (AB AH AE)) ⟨ring,0,rfl,by decide,h1,h2,?_⟩);refine Af 3 BF.nd (AO FA (hr.mono (by lia)) (AB (AA 1 rfl) (AB AH AE)) ⟨ring,1,rfl,by decide,h1,h2,?_⟩);refine AI ⟨rfl,Ay ring 0,Ay ring 1,?_,hl 0,hl 1,rfl⟩;unfold Cw;rw[if_neg (by simpa using hp)]
 ·refine AI ⟨rfl,Ay ring 1,Ay ring 0,?_,hl 1,hl 0,rfl⟩;unfold Cw;rw[if_pos (by simpa using hp)]
 obtain⟨rfl,tk,pt,e,z1,z2,rfl⟩:=hM;refine XU 4 (Nc:=Dh) (caps:=IK) (l:=l.map AU) (f:=BW 0) (via AU fun t=>!tk.contains t) id BF.nd
  (Bk (psc:=AF Bm) (PN:=Ep) (by decide +kernel) rfl rfl) rfl
  (C3 (AA 0 rfl) ⟨rfl,rfl⟩)
  (fun C s' H' fp=>Aa 0 (show Dh.Nodup by decide +kernel)) (BE rfl) (by rw[List.length_map];lia) ?_ ?_
 ·intro C s' H' fp G2 d hd kn;obtain⟨y,_,rfl⟩:=List.mem_map.mp hd;rw[C1 CI,<-Jo];exact⟨_,rfl,Ao (Br NG (AA 0 rfl) (AA 1 rfl) (.inr (.inl rfl)) (DG y) (FZ tk)),fun _=>AA 0 rfl⟩
 rw[PQ CI];refine AV (Cz rfl mt Boot.«tuple» (D3 TSt ((l.filter fun s=>!tk.contains s)++pt) hu ms (Ol (AA 4 rfl) (AA 3 rfl) ?_) (.inl (by rw[List.map_append];rfl)) (.inr fun x _=>⟨_,_,rfl⟩))) ?_
 ·rw[List.length_map,List.length_map];exact sz (Nat.le_trans (Nat.add_le_add_right (List.length_filter_le _ _) _) (by lia))
 ·rw[e]at hR;exact hR
theorem VU(F:Fun K "turned" "turned" QE f fd)(FP:Df P w K mg base "is_place" Fs 2 QR)(FT:Df P w K mg base "is_turn" HX 2 Ld)(FR:Df P w K mg base "ring_at" HK 1 Np)(FO:Df P w K mg base "laid_otherwise" C2 2 Tg):FnOk P w K mg base CX0 3 f fd LJ (Ae K UT):=by
 refine BA (k:=2) F VM (fun A1 A outer s H E ds G R hr h=>?_);obtain⟨l,q,rfl,hz,ht,hR⟩:=h;refine Ar (p:=false) (Yj (p:=false) (q:=false) ?_ (fun _=>TV ?_)).t (fun h=>absurd h (by decide)) (fun _=>AI ?_)
 ·exact PXT.cast (DS (B4 (AO FP hr (AB (AA 1 rfl) AE) ⟨q,rfl,rfl,rfl⟩))) rfl
 ·exact PXT.cast (DS (B4 (AO FT hr (AB (AA 0 rfl) (AB (AA 1 rfl) AE)) ⟨l,q,rfl,rfl,rfl⟩))) (by rw[ht];rfl)
 ·exact BC (AO FO hr (AB (AA 0 rfl) (AB (AO FR (hr.mono (by lia)) (AB (AA 1 rfl) AE) ⟨q,rfl,rfl,rfl⟩) AE)) ⟨l,CL q,rfl,(show 1<=4 by decide),(show 4<=1000 by decide),hz,hR⟩)
end
end TF
namespace TF
open PySem PySem.Spec L2
open PyProof.Rows hiding St RelV
section
variable {P:Program}{w:World}{K:PySem.W.Frag}{mg:Str->Option Value}{base:Heap}{f:Addr}{fd:FuncData}
theorem Lw(k v:Dat):Ac [(k,v)] k=some v:=by simp[Ac]
theorem Pf(F:Fun K "way_back" "way_back" IA f fd):FnOk P w K mg base CX0 1 f fd H4 (Ae K W4):=by
 refine BA (k:=0) F HA (fun A1 A outer s H E ds G R hr h=>?_);obtain⟨l,p,rfl,hG,hR⟩:=h;have hu:(A.deeper (envOfC "way_back" (AF IA) s.heap.objs.size f A1)).units+9<cLine:=by have:=hr.units;lia
 refine BY 2 HA.nd AE (fun p2 Ft=>?_);have n2:p≠p2:=by rintro rfl;rw[hG]at Ft;cases Ft
 refine AS 3 HA.nd (Bw (k:=lay l) hu (AA 0 rfl) (AA 1 rfl) (by rw[AL n2];exact hG) (Ko l) ⟨_,rfl⟩ (Lw _ _)) ?_;refine Cv (fun n ρ' G'=>ρ'=[some (.fn p),some (lay l),some (.fn p2),some .non]/\G'=put G p2 (.lst [])) PassesOwn.never (m0:=0) ⟨rfl,rfl⟩ ?_;rintro n ρ' G' ⟨rfl,rfl⟩;refine CY (Ao (Lf (AA 3 rfl))) ⟨(fun hc=>by cases (show false=true from hc)),fun _=>?_⟩;refine Qx (AA 2 rfl) AG ?_;rw[Ab];refine Dx (AA 2 rfl) AG ?_;rw[Ah Ft];exact hR
theorem ZW{tk:Tok}(F:Fun K "road" "road" R9 f fd)(ml:mg "len"=none)(hM:mg "MOST_TOLD"=some (.int 200 tk))(FC:Df P w K mg base "count" OQ 27 Ox)(FW:Df P w K mg base "way_back" H4 1 W4):FnOk P w K mg base CX0 28 f fd RT (Ae K UJ):=by
 refine BA (k:=27) F Kh (fun A1 A outer s H E ds G R hr h=>?_);obtain⟨q,l,rfl,up,GQ,Rr,hR⟩:=h;have hu:(A.deeper (envOfC "road" (AF R9) s.heap.objs.size f A1)).units+9<cLine:=by have:=hr.units;lia
 have ec:=HD up;refine Ar (Ao (FU (AO FC hr (AB (AA 0 rfl) AE) ⟨q,rfl,GQ,rfl,rfl⟩) (UE hM))) (fun hc=>?_) (fun _=>AI ?_)
 ·exfalso
  have:=of_decide_eq_true hc
  lia
 refine Af 3 Kh.nd (cR hu (fun _ _=>AA 1 rfl) (fun _ _=>XE) (Ko l) ⟨_,rfl⟩ (fun p1 GZ=>?_));refine BY 4 Kh.nd (AB (AA 1 rfl) AE) (fun p2 Ft=>?_);refine AS 5 Kh.nd AH ?_;have kL:p1≠p2:=by rintro rfl;rw[AG]at Ft;cases Ft
 rw[AL (Ne.symm kL)]at Ft;have g1:put (put G p1 (.dct [(lay l,.non)])) p2 (.lst [lay l]) p1=some (.dct [(lay l,.non)]):=by rw[AL kL,AG]
 refine Cv (fun n ρ' G'=>ρ'=[some (fl q),some (lay l),some (lay l),some (.fn p1),some (.fn p2),some (.int 0),none,none,none]/\G'=put (put G p1 (.dct [(lay l,.non)])) p2 (.lst [lay l])) PassesOwn.never (m0:=0) ⟨rfl,rfl⟩ ?_;rintro n ρ' G' ⟨rfl,rfl⟩;refine CY (HC (p:=true) (q:=false) ?_ (fun _=>El ?_)).t ⟨(fun hc=>by cases (show false=true from hc)),fun _=>?_⟩
 ·exact PXT.cast (Ao (Ou (AA 5 rfl) (Bp (n:=1) rfl ml (AA 4 rfl) (by simp[JC,AG])))) rfl
 ·exact PXT.cast (Ao (BQ hu (AA 2 rfl) (AA 3 rfl) g1 (Ko l) ⟨_,rfl⟩)) (by rw[Lw];rfl)
 refine Ar (Ao (BQ hu (AA 2 rfl) (AA 3 rfl) g1 (Ko l) ⟨_,rfl⟩)) (fun hc=>?_) (fun _=>AI ?_)
 ·rw[Lw]at hc;cases hc
 refine BC (BO (BO (AO FW (hr.mono (by lia)) (AB (AA 3 rfl) (AB (AA 2 rfl) AE)) ⟨l,p1,rfl,g1,p2,p1,?_⟩)));rw[Ah (by rw[AL (Ne.symm kL)];exact Ft),Ah GZ];exact hR
end
end TF
namespace TF
open PySem PySem.Spec L2
open PyProof.Rows hiding St RelV
section
variable {P:Program}{w:World}{K:PySem.W.Frag}{mg:Str->Option Value}{base:Heap}{f:Addr}{fd:FuncData}
theorem Oz(F:Fun K "_law_lists" "_law_lists" KO f fd)(FX:Df P w K mg base "fixed" OT 28 Uj)(FT:Df P w K mg base "turns" Km 3 N5)(FR:Df P w K mg base "rings" OV 2 Pb)(FA:Df P w K mg base "all_layings" EO 27 Y1)(FP:Df P w K mg base "is_plain" FI 5 (spF fun F=>.bl (EV F)))(FH:Df P w K mg base "heights" Jf 6 b7)(FD:Df P w K mg base "road" RT 28 UJ):FnOk P w K mg base CX0 29 f fd GC (Ae K TY):=by
 refine BA (k:=28) F IV (fun A1 A outer s H E ds G R hr h=>?_);obtain⟨q,l,m,rfl,gd,I,J,Rr,hR⟩:=h;have hl:=Fj I.toCov;have GQ:=gd.len;refine BY 3 IV.nd (ds:=[.lst ((FY q).map AU),.lst ((Cn l).map sq),NZ (Kw l m q),.lst ((A8 q).map lay)]) (AB (AO FX hr (AB (AA 0 rfl) AE) ⟨q,rfl,gd.up,GQ,rfl,rfl⟩) (AB (AO FT (hr.mono (by lia)) (AB (AA 1 rfl) AE) ⟨l,rfl,by lia,rfl,rfl⟩)
  (AB (AO FR (hr.mono (by lia)) (AB (AA 1 rfl) (AB (AA 2 rfl) AE)) ⟨q,l,m,rfl,gd.up,GQ,I,J,rfl,rfl⟩) (AB (AO FA (hr.mono (by lia)) (AB (AA 0 rfl) AE) ⟨q,rfl,gd.ne,gd.up,GQ,Rr,rfl,rfl⟩) AE)))) (fun p hp=>?_) (show 4<=1000 by decide)
 refine Fm (fun ρ' G'=>ρ'=[some (fl q),some (lay l),some (lay m),some (.fn p)]/\G'=put G p (.lst ([.lst ((FY q).map AU),.lst ((Cn l).map sq),NZ (Kw l m q),.lst ((A8 q).map lay)]++if EV q=true then[.lst ((TPi.sort (htQ q l)).map pi)]else[]))) (B4 (AO FP (hr.mono (by lia)) (AB (AA 0 rfl) AE) ⟨q,rfl,gd,rfl,rfl⟩)) (fun hb=>?_) (fun hb=>?_) (fun ρ' G' hM=>?_)
 ·refine A0 (AA 3 rfl) (AO FH (hr.mono (by lia)) (AB (AA 0 rfl) (AB (AA 1 rfl) AE)) ⟨q,l,rfl,gd,hb,rfl,rfl⟩) AG (show 4<sizeLine by decide) (AI ⟨rfl,?_⟩);rw[Ab,if_pos hb]
 ·refine AI ⟨rfl,?_⟩;rw[if_neg (by rw[hb];exact nofun),List.append_nil]
 obtain⟨rfl,rfl⟩:=hM;refine BC (BO (PX.we (aN AG (AA 3 rfl) (B8 (AB (AO FD hr (AB (AA 0 rfl) (AB (AA 1 rfl) (AB (AA 1 rfl) AE))) ⟨q,l,rfl,gd.up,GQ,Rr,rfl,rfl⟩) AE)) ?_) ⟨p,?_⟩))
 ·split<;>exact sz (by simp)
 ·rw[Ah hp,List.append_assoc];exact hR
theorem KD(n:Nat)(F:Fun K "_law_twin" "_law_twin" Hx f fd)(mi:mg "isinstance"=none)(ZH:mg "list"=none)(ih:∀m,n=m+1->Df P w K mg base "_law_twin" Ca (m+2) (N4 m)):FnOk P w K mg base CX0 (n+2) f fd Ca (Ae K (N4 n)):=by
 refine BA (k:=n+1) F P9 (fun A1 A outer s H E ds G R hr h=>?_);obtain⟨x,d,rfl,hv,hR⟩:=h;rcases Cm hv with⟨f,rfl⟩|⟨m,p,l,ds,rfl,f,rfl,hG,hm,rfl⟩
 ·obtain⟨t,ht,hf⟩:=Wf f;refine Ar (p:=true) (PXT.cast (DS (B4 (Jm (T:="list") (T':="list") mi ZH (AA 0 rfl) ht))) (by rw[hf];rfl)) (fun _=>AV (AA 0 rfl) hR) (fun h=>absurd h (by decide))
 ·refine Ar (p:=false) (PXT.cast (DS (B4 (UA (T:="list") (T':="list") mi ZH (AA 0 rfl) hG))) rfl) (fun h=>absurd h (by decide)) (fun _=>AI ?_);refine AV (Q4 (Nc:=Ib) (caps:=OE) (f:=BW 0) (l:=l) (fun y=>(vw m G y).getD .non)
   (Bk (psc:=AF Hx) (PN:=LI) (by decide +kernel) rfl rfl) rfl (AA 0 rfl) hG
   (fun C s' H' fp=>Aa 0 (show Ib.Nodup by decide +kernel)) (BE rfl) (fun C s' H' fp G' y hy kn=>⟨_,rfl,?_⟩)) ?_
  ·obtain⟨dy,h1,h2⟩:=Es hm y hy;have h3:=N8 hv kn h2 (Kr h1);rw[h2];exact AO (ih m rfl) (hr.mono (by lia)) (AB (AA 0 rfl) AE) ⟨y,dy,rfl,h3,rfl,rfl⟩
  ·have e:=Jp (f:=vw m G) (g:=fun y=>(vw m G y).getD .non) (l:=l) fun y hy=>by
    obtain⟨dy,_,h2⟩:=Es hm y hy;rw[h2];rfl
   rw[hm]at e;cases e;exact hR
theorem Gy(n:Nat)(F:Fun K "_law_emptied" "_law_emptied" Hs f fd)(mi:mg "isinstance"=none)(ZH:mg "list"=none)(ih:∀m,n=m+1->Df P w K mg base "_law_emptied" Bb (m+2) (Ta m)):FnOk P w K mg base CX0 (n+2) f fd Bb (Ae K (Ta n)):=by
 refine BA (k:=n+1) F GK (fun A1 A outer s H E ds G R hr h=>?_);obtain⟨x,d,rfl,hv,hR⟩:=h;rcases Cm hv with⟨f,rfl⟩|⟨m,p,l,ds,rfl,f,rfl,hG,hm,rfl⟩
 ·obtain⟨t,ht,hf⟩:=Wf f;refine Ar (p:=false) (PXT.cast (B4 (Jm (T:="list") (T':="list") mi ZH (AA 0 rfl) ht)) hf) (fun h=>absurd h (by decide)) (fun _=>AI (AI (hR G Shr.refl)))
 ·refine Ar (p:=true) (PXT.cast (B4 (UA (T:="list") (T':="list") mi ZH (AA 0 rfl) hG)) rfl) (fun _=>?_) (fun h=>absurd h (by decide));refine A7 (l:=l) (f:=BW 1) (fun i ρ' G'=>(∃x1,ρ'=[some (.fn p),x1])/\Shr G G') PassesOwn.never rfl (Fc (P8 ZH (AA 0 rfl) hG) ⟨rfl,⟨none,rfl⟩,Shr.refl⟩) (Aa 1 GK.nd) ?_ ?_
  ·rintro i y ρ' G' hd ⟨⟨x1,rfl⟩,sh⟩;obtain⟨dy,_,h2⟩:=Es hm y (List.mem_of_getElem? hd);obtain⟨d',h3⟩:=sh.vw h2;exact⟨_,rfl,JR (AO (ih m rfl) (hr.mono (by lia)) (AB (AA 1 rfl) AE) ⟨y,d',rfl,h3,fun G2 s2=>AI ⟨⟨_,rfl⟩,sh.trans s2⟩⟩)⟩
  ·rintro ρ' G' ⟨⟨x1,rfl⟩,sh⟩;obtain⟨l',PB⟩:=sh.at hG;exact M8 (AA 0 rfl) PB (AI (AI (hR _ (sh.trans (Shr.put PB)))))
end
theorem Cf{α:Type}{us:List α}(h:us.length=1):∃a,us=[a]:=by
 cases us with
 |nil=>simp at h
 |cons a us=>
 cases us with
 |nil=>exact⟨a,rfl⟩
 |cons z us=>simp at h;try lia
theorem Cj{α:Type}{us:List α}(h:us.length=2):∃a b,us=[a,b]:=by
 cases us with
 |nil=>simp at h
 |cons a us=>
 cases us with
 |nil=>simp at h
 |cons b us=>
 cases us with
 |nil=>exact⟨a,b,rfl⟩
 |cons z us=>simp at h;try lia
theorem Co{α:Type}{us:List α}(h:us.length=3):∃a b c,us=[a,b,c]:=by
 cases us with
 |nil=>simp at h
 |cons a us=>
 cases us with
 |nil=>simp at h
 |cons b us=>
 cases us with
 |nil=>simp at h
 |cons c us=>
 cases us with
 |nil=>exact⟨a,b,c,rfl⟩
 |cons z us=>simp at h;try lia
theorem Ci{α:Type}{us:List α}(h:us.length=4):∃a b c d,us=[a,b,c,d]:=by
 cases us with
 |nil=>simp at h
 |cons a us=>
 cases us with
 |nil=>simp at h
 |cons b us=>
 cases us with
 |nil=>simp at h
 |cons c us=>
 cases us with
 |nil=>simp at h
 |cons d us=>
 cases us with
 |nil=>exact⟨a,b,c,d,rfl⟩
 |cons z us=>simp at h;try lia
theorem cM{β:Type}{a:Nat}{b:β}:∀{l:List (Nat×β)},(l.map (·.1)).Nodup->(a,b)∈l->l.lookup a=some b
 |p::l,nd,h=>by
  obtain⟨n1,n2⟩:=List.nodup_cons.mp nd;obtain⟨c,d⟩:=p;rcases List.mem_cons.mp h with e|h2
  ·cases e;simp
  ·have BS:(a==c)=false:=by
    rw[beq_eq_false_iff_ne];intro e;subst e;exact n1 (List.mem_map.mpr ⟨(a,b),h2,rfl⟩)
   rw[List.lookup_cons,BS];exact cM n2 h2
theorem hl_ok(w:World)(p:Str×Nat×Nat×Value)(hm:p∈hT):(hK w).lookup p.2.2.1=some (hF p).2:=by show List.lookup _ (hT.map hF++_)=_;rw[List.lookup_append,cM (b:=(hF p).2) (by decide +kernel) (List.mem_map.mpr ⟨p,hm,rfl⟩)];rfl
section
variable {K:PySem.W.Frag}{h:Heap}{mg:Str->Option Value}
theorem hG(hb:hB K=true)(hl:∀p∈hT,K.lookup p.2.2.1=some (hF p).2)(X:K.In h)(G:h.Ns mainGlobals mg)(i:Nat){u:Str}{k f:Nat}{m:Value}(e:hT[i]?=some (u,k,f,m)):Fun K u u (top k) f (hD (u,k,f,m))/\mg u=some (.ref f):=by have hm:=List.mem_of_getElem? e;unfold hB at hb;have a:=List.all_eq_true.mp (Bool.and_eq_true_iff.mp hb).1 _ hm;simp only[Bool.and_eq_true,beq_iff_eq]at a;have l:K.lookup f=some ⟨.type "function",none,.func (PySem.W.fnOf u u (DR (top k)) (CJ (top k)) (AF (top k)) .none .none .none m none (.ref (f-1)) .none),#[]⟩:=hl _ hm;exact⟨dQ l a.1.2 a.2,PySem.W.mg_of X G a.1.1⟩
theorem hZ(hb:hB K=true)(X:K.In h)(G:h.Ns mainGlobals mg)(i:Nat){x:Str}(e:hZs[i]?=some x):mg x=none:=by unfold hB at hb;simp only[Bool.and_eq_true]at hb;exact PySem.W.mg_none_of X G (beq_iff_eq.mp (List.all_eq_true.mp hb.2.1 _ (List.mem_of_getElem? e)))
theorem hI(hb:hB K=true)(X:K.In h)(G:h.Ns mainGlobals mg)(i:Nat){x:Str}{v:Value}(e:hIs[i]?=some (x,v)):mg x=some v:=by unfold hB at hb;simp only[Bool.and_eq_true]at hb;exact PySem.W.mg_of X G (beq_iff_eq.mp (List.all_eq_true.mp hb.2.2.1 _ (List.mem_of_getElem? e)))
end
section
variable (P:Program)(w:World)(K:PySem.W.Frag)(mg:Str->Option Value)(base:Heap){x:Str}{st:Stmt}{f:Addr}{fd:FuncData}{ps:List Str}{n:Nat}
theorem mkD{S:SpD}(F:Fun K x x st f fd/\mg x=some (.ref f))(o:FnOk P w K mg base CX0 n f fd ps (Ae K S))(b:∀(kV doc pm:Value)(an:Option Addr)(A1 ct:Value)(us:List Value),us.length=ps.length->bindArgs (PySem.W.fnOf x x (DR st) (CJ st) (AF st) .none kV doc pm an A1 ct) ⟨us,[]⟩=pure (ps.zip us):=by intro _ _ _ _ _ _ us hl;first|(obtain⟨_,rfl⟩:=Cf hl;rfl)|(obtain⟨_,_,rfl⟩:=Cj hl;rfl)|(obtain⟨_,_,_,rfl⟩:=Co hl;rfl)|(obtain⟨_,_,_,_,rfl⟩:=Ci hl;rfl)):Df P w K mg base x ps n S:=⟨f,fd,o,F.2,F.1.kp,F.1.binds b⟩
theorem mkX{S:SpX}(F:Fun K x x st f fd/\mg x=some (.ref f))(o:FnOk P w K mg base (CXV P w) n f fd ps (cC K S))(b:∀(kV doc pm:Value)(an:Option Addr)(A1 ct:Value)(us:List Value),us.length=ps.length->bindArgs (PySem.W.fnOf x x (DR st) (CJ st) (AF st) .none kV doc pm an A1 ct) ⟨us,[]⟩=pure (ps.zip us):=by intro _ _ _ _ _ _ us hl;first|(obtain⟨_,rfl⟩:=Cf hl;rfl)|(obtain⟨_,_,rfl⟩:=Cj hl;rfl)|(obtain⟨_,_,_,rfl⟩:=Co hl;rfl)|(obtain⟨_,_,_,_,rfl⟩:=Ci hl;rfl)):DfX P w K mg base x ps n S:=⟨f,fd,o,F.2,F.1.kp,F.1.binds b⟩
theorem mkA{S:SpD}(F:Fun K x x st f fd/\mg x=some (.ref f))(o:FnOk P w K mg base CX0 n f fd ps (Ae K S))(b:∀(kV doc pm:Value)(an:Option Addr)(A1 ct:Value)(us:List Value),us.length=ps.length->bindArgs (PySem.W.fnOf x x (DR st) (CJ st) (AF st) .none kV doc pm an A1 ct) ⟨us,[]⟩=pure (ps.zip us):=by intro _ _ _ _ _ _ us hl;first|(obtain⟨_,rfl⟩:=Cf hl;rfl)|(obtain⟨_,_,rfl⟩:=Cj hl;rfl)|(obtain⟨_,_,_,rfl⟩:=Co hl;rfl)|(obtain⟨_,_,_,_,rfl⟩:=Ci hl;rfl)):∃f,mg x=some (.ref f)/\DfA P w K mg base f ps n S:=⟨f,F.2,fd,o,F.1.kp,F.1.binds b⟩
end
theorem all_mk{l:PySem.W.OpenLaw}{w:World}{K:PySem.W.Frag}{h:Heap}{mg:Str->Option Value}{fa:Addr}(hb:hB K=true)(hl:∀p∈hT,K.lookup p.2.2.1=some (hF p).2)(X:K.In h)(G:h.Ns mainGlobals mg)(rJ:mg "law"=some (.ref fa)) :
  ∃fd:FuncData,(∀(s:Shared)(v:Value),BindsTo s fd ⟨[v],[]⟩ [("_law_script",v)])/\∀base:Heap,K.In base->base.Ns mainGlobals mg->FnOk l.prog w K mg base CX0 30 fa fd ["_law_script"] (Ae K Ui):=by
 have F0:=hG hb hl X G 0 rfl;have F1:=hG hb hl X G 1 rfl;have F2:=hG hb hl X G 2 rfl;have F3:=hG hb hl X G 3 rfl;have F4:=hG hb hl X G 4 rfl;have F5:=hG hb hl X G 5 rfl;have F6:=hG hb hl X G 6 rfl;have F7:=hG hb hl X G 7 rfl;have F8:=hG hb hl X G 8 rfl;have F9:=hG hb hl X G 9 rfl;have nX:=hG hb hl X G 10 rfl;have nv:=hG hb hl X G 11 rfl;have nV:=hG hb hl X G 12 rfl;have og:=hG hb hl X G 13 rfl;have mj:=hG hb hl X G 14 rfl;have nM:=hG hb hl X G 15 rfl;have oD:=hG hb hl X G 16 rfl;have n5:=hG hb hl X G 17 rfl;have m4:=hG hb hl X G 18 rfl;have oO:=hG hb hl X G 19 rfl;have pF:=hG hb hl X G 20 rfl;have nK:=hG hb hl X G 21 rfl;have mN:=hG hb hl X G 22 rfl;have nY:=hG hb hl X G 23 rfl;have ZI:=hG hb hl X G 24 rfl;have mO:=hG hb hl X G 25 rfl;have mh:=hG hb hl X G 26 rfl;have oF:=hG hb hl X G 27 rfl;have mq:=hG hb hl X G 28 rfl;have oz:=hG hb hl X G 29 rfl;have oW:=hG hb hl X G 30 rfl;have ny:=hG hb hl X G 31 rfl;have pJ:=hG hb hl X G 32 rfl;have mS:=hG hb hl X G 33 rfl;have oy:=hG hb hl X G 34 rfl;have o8:=hG hb hl X G 35 rfl;have nu:=hG hb hl X G 36 rfl;have o6:=hG hb hl X G 37 rfl;have oQ:=hG hb hl X G 38 rfl;have nT:=hG hb hl X G 39 rfl;have ou:=hG hb hl X G 40 rfl;have mZ:=hG hb hl X G 41 rfl;have oJ:=hG hb hl X G 42 rfl;have m7:=hG hb hl X G 43 rfl;have ni:=hG hb hl X G 44 rfl;have m5:=hG hb hl X G 45 rfl;have ow:=hG hb hl X G 46 rfl;have bY:=hG hb hl X G 47 rfl;have oB:=hG hb hl X G 48 rfl;have oq:=hG hb hl X G 49 rfl;have bw:=hG hb hl X G 50 rfl;have bx:=hG hb hl X G 51 rfl;have pC:=hG hb hl X G 52 rfl;have Cs:=hZ hb X G 0 rfl;have Kl:=hZ hb X G 1 rfl;have T3:=hZ hb X G 2 rfl;have UR:=hZ hb X G 3 rfl;have DW:=hZ hb X G 4 rfl;have cK:=hZ hb X G 5 rfl;have GU:=hZ hb X G 6 rfl;have Bs:=hZ hb X G 7 rfl;have JU:=hZ hb X G 8 rfl;have gg:=hZ hb X G 9 rfl;have fE:=hZ hb X G 10 rfl;have Xo:=hZ hb X G 11 rfl;have gW:=hZ hb X G 12 rfl;have dX:=hZ hb X G 13 rfl;have KU:=hI hb X G 0 rfl;have e:=rJ.symm.trans pC.2;cases e;refine⟨hD (hR "law" 64 400 hM5),fun s v=>.of_eq rfl,fun base _ _=>?_⟩;have mD:=@mkD l.prog w K mg base;have mX:=@mkX l.prog w K mg base;have FV:=mD F0 (Hg F0.1);have Nt:=mkA l.prog w K mg base F0 (Hg F0.1);have CO:=mD F1 (Gi F1.1);have Z2:=mD F2 (Hh F2.1 FV CO);have OG:=mkA l.prog w K mg base F2 (Hh F2.1 FV CO);have RQ:=mD F3 (Kz 1 F3.1 Cs);have Rv:=mD F3 (Kz 2 F3.1 Cs);have Jd:=mD F4 (IQ F4.1 Cs RQ Nt);have LN:=mD F5 (Kb F5.1 Kl T3 UR);have Sj:=mD F6 (QM F6.1 Cs LN Rv OG);have cf:=mD F7 (Ec F7.1);have JN:=mD F8 (IM F8.1 cf CO);have LD:=mD F9 (PK F9.1 Cs Jd Sj JN);have Y4:=mD nX (N6 nX.1 Bs gg fE);have ae:=mD nv (RN nv.1 Bs DW Cs);have Ul:=mD nV (QO nV.1 ae Y4);have W3:=mD og (O4 og.1 Xo gW);have bC:=mD mj (Jg mj.1 Bs DW Xo Ul W3);have aI:=mD nM (Q6 nM.1);have bI:=mD oD (Nx oD.1);have Yv:=mD n5 (OL n5.1 T3 UR);have WY:=mD m4 (MR m4.1 aI bI Yv);have Vo:=mD oO (Sb oO.1 Cs JU dX GU bC LD WY);have dk:=mD pF (Ma pF.1);have bK:=mD nK (E8 nK.1 Cs GU FV dk);have YR:=mD mN (aY mN.1 Cs DW bK);have Oe:=mD nY (Wa nY.1);have Ts:∀n,Df l.prog w K mg base "ways" IE (n+2) (IU n):=by
  intro n
  induction n with
  |zero=>exact⟨_,_,P7 0 ZI.1 Cs cK Oe (fun m h=>by cases h),ZI.2,ZI.1.kp,ZI.1.binds (ps:=IE) (by intro _ _ _ _ _ _ us hl;first|(obtain⟨_,rfl⟩:=Cf hl;rfl)|(obtain⟨_,_,rfl⟩:=Cj hl;rfl)|(obtain⟨_,_,_,rfl⟩:=Co hl;rfl)|(obtain⟨_,_,_,_,rfl⟩:=Ci hl;rfl))⟩
  |succ m ih=>exact⟨_,_,P7 (m+1) ZI.1 Cs cK Oe (fun m' h=>by cases h;exact ih),ZI.2,ZI.1.kp,ZI.1.binds (ps:=IE) (by intro _ _ _ _ _ _ us hl;first|(obtain⟨_,rfl⟩:=Cf hl;rfl)|(obtain⟨_,_,rfl⟩:=Cj hl;rfl)|(obtain⟨_,_,_,rfl⟩:=Co hl;rfl)|(obtain⟨_,_,_,_,rfl⟩:=Ci hl;rfl))⟩
 have Zm:=mD ZI (Yp ZI.1 Cs);have V6:=mD mO (SG mO.1 Oe Zm);have iG:=mD mh (L1 mh.1 Kl Cs KU Ts V6);have Uh:=mD oF (Vl oF.1 Ts);have Vx:=mD mq (SU mq.1 DW);have bJ:=mD oz (Wr oz.1 YR Uh Vx);have V4:=mD oW (Ra oW.1 GU);have RK:=mD ny (QN ny.1);have PR:=mD pJ (OU pJ.1);have Z5:=mD mS (Xg mS.1 Cs RK PR V4);have Mf:=mD oy (SA oy.1);have UZ:=mD o8 (Ka o8.1 Kl Cs T3 UR);have Mx:=mD nu (SV nu.1 Xo);have NC:=mD o6 (Se o6.1 Mf UZ Mx);have TM:=mD oQ (WU oQ.1 NC);have Zf:=mD nT (JM nT.1 DW GU UZ Mx);have We:=mD ou (VU ou.1 Ul NC Mf Zf);have Si:=mD mZ (Pf mZ.1);have dh:=mD oJ (ZW oJ.1 Cs KU Uh Si);have K0:=mD m7 (PJ m7.1 Cs);have U3:=mD ni (TH ni.1);have QZ:=mD m5 (OF m5.1 Cs Kl DW UR T3 K0 U3);have LK:=mD ow (QG ow.1);have Q8:∀n,Df l.prog w K mg base "_law_every" CH (n+2) (Kj n):=by
  intro n
  induction n with
  |zero=>exact⟨_,_,JB 0 bY.1 DW LK (fun m h=>by cases h),bY.2,bY.1.kp,bY.1.binds (ps:=CH) (by intro _ _ _ _ _ _ us hl;first|(obtain⟨_,rfl⟩:=Cf hl;rfl)|(obtain⟨_,_,rfl⟩:=Cj hl;rfl)|(obtain⟨_,_,_,rfl⟩:=Co hl;rfl)|(obtain⟨_,_,_,_,rfl⟩:=Ci hl;rfl))⟩
  |succ m ih=>exact⟨_,_,JB (m+1) bY.1 DW LK (fun m' h=>by cases h;exact ih),bY.2,bY.1.kp,bY.1.binds (ps:=CH) (by intro _ _ _ _ _ _ us hl;first|(obtain⟨_,rfl⟩:=Cf hl;rfl)|(obtain⟨_,_,rfl⟩:=Cj hl;rfl)|(obtain⟨_,_,_,rfl⟩:=Co hl;rfl)|(obtain⟨_,_,_,_,rfl⟩:=Ci hl;rfl))⟩
 have Vk:=mD oB (Rz oB.1 DW GU (Q8 12));have Ql:=mD oq (Oz oq.1 bJ TM Z5 iG LD Vo dh);have R0:∀n,Df l.prog w K mg base "_law_twin" Ca (n+2) (N4 n):=by
  intro n
  induction n with
  |zero=>exact⟨_,_,KD 0 bw.1 Bs JU (fun m h=>by cases h),bw.2,bw.1.kp,bw.1.binds (ps:=Ca) (by intro _ _ _ _ _ _ us hl;first|(obtain⟨_,rfl⟩:=Cf hl;rfl)|(obtain⟨_,_,rfl⟩:=Cj hl;rfl)|(obtain⟨_,_,_,rfl⟩:=Co hl;rfl)|(obtain⟨_,_,_,_,rfl⟩:=Ci hl;rfl))⟩
  |succ m ih=>exact⟨_,_,KD (m+1) bw.1 Bs JU (fun m' h=>by cases h;exact ih),bw.2,bw.1.kp,bw.1.binds (ps:=Ca) (by intro _ _ _ _ _ _ us hl;first|(obtain⟨_,rfl⟩:=Cf hl;rfl)|(obtain⟨_,_,rfl⟩:=Cj hl;rfl)|(obtain⟨_,_,_,rfl⟩:=Co hl;rfl)|(obtain⟨_,_,_,_,rfl⟩:=Ci hl;rfl))⟩
 have MK:∀n,Df l.prog w K mg base "_law_emptied" Bb (n+2) (Ta n):=by
  intro n
  induction n with
  |zero=>exact⟨_,_,Gy 0 bx.1 Bs JU (fun m h=>by cases h),bx.2,bx.1.kp,bx.1.binds (ps:=Bb) (by intro _ _ _ _ _ _ us hl;first|(obtain⟨_,rfl⟩:=Cf hl;rfl)|(obtain⟨_,_,rfl⟩:=Cj hl;rfl)|(obtain⟨_,_,_,rfl⟩:=Co hl;rfl)|(obtain⟨_,_,_,_,rfl⟩:=Ci hl;rfl))⟩
  |succ m ih=>exact⟨_,_,Gy (m+1) bx.1 Bs JU (fun m' h=>by cases h;exact ih),bx.2,bx.1.kp,bx.1.binds (ps:=Bb) (by intro _ _ _ _ _ _ us hl;first|(obtain⟨_,rfl⟩:=Cf hl;rfl)|(obtain⟨_,_,rfl⟩:=Cj hl;rfl)|(obtain⟨_,_,_,rfl⟩:=Co hl;rfl)|(obtain⟨_,_,_,_,rfl⟩:=Ci hl;rfl))⟩
 exact dA pC.1 Cs JU QZ K0 Vk YR TM We Ql R0 MK
theorem walk{l:PySem.W.OpenLaw}{q:Program}{loose:List Str}{XP:(Str->Option Value)->Heap->Prop}{YP:World->Heap->Prop}{d:DefRec}{K:Params->PySem.W.Frag}(hn:l.most=some 63)(iC:d.params.defaults=[])(hY:∀(w:World)(h:Heap),YP w h->(K w.params).In h)(F:∀(w:World)(mg:Str->Option Value)(fa:Addr)(h:Heap),(K w.params).In h->h.Ns mainGlobals mg->mg d.name=some (.ref fa) →
   ∃fd:FuncData,(∀(s:Shared)(u:Value),BindsTo s fd ⟨[u],[]⟩ [("_law_script",u)])/\∀base:Heap,(K w.params).In base->base.Ns mainGlobals mg->FnOk l.prog w (K w.params) mg base CX0 30 fa fd ["_law_script"] (Ae (K w.params) Ui)) :
  PySem.W.WalkO q loose XP YP l.row.toRowW d [] (fun f vs=>PySem.call f vs):=
 L2.walk_of (n:=63) (k:=30) (x:="_law_script") (CX:=fun _=>CX0) (sp:=fun w=>Ae (K w.params) Ui) hn (by decide) iC ⟨rfl,by decide,by decide⟩ hY F
  (fun w H a ns hl _ hS=>⟨[.scr ns],g0,fun d _=>d=.bl true,jH,RepL.cons (by rw[fS,Rep];exact⟨a,rfl,hS⟩) RepL.nil,⟨ns,rfl,rfl,fun _=>rfl⟩,fun v H' d G' _ _ r q=>by
   subst q;rw[Rep]at r;exact r⟩) fun _ _ _ _ _ z=>z
end TF
open PySem PySem.W PyProof.Rows
set_option maxRecDepth 100000 in
set_option maxHeartbeats 0 in
theorem PySem.Challenge.cw_tilefloor_k15_nothing_is_kept_holds : PySem.Challenge.rw_tilefloor_k15_nothing_is_kept.Holds := by
 refine holds_law (by kernel_rfl) fun lA=>?_
 refine PySem.W.holds_open (q:=TF.hQ) (loose:=[]) (Xt:=TF.hXt) (XP:=XL TF.hQ []) (Yf:=fun s=>TF.hAs.map s.heap.get?) (Ya:=fun w=>(TF.hK w).map fun p=>some p.2) (YP:=fun w h=>(TF.hK w).In h) (N:=5106) TF.hLeft (fun w s x=>Frag.in_of (TF.hAs_ok w) x) (fun w h h' x k=>Frag.In.keeps x k) (fun s e=>xl_of s (Bool.and_eq_true_iff.mp e).1) XL.keeps (by rfl) (by rfl) (by rfl) (fun s e=>recFacts_of (Bool.and_eq_true_iff.mp e).2) (by rfl) lA (by decide +kernel) ⟨rfl,rfl,rfl,rfl,rfl,by decide +kernel⟩ ?hw ?hc
 case hw=>w_witness2
 case hc=>
  intro w₀ s₀ s₁ mg mb G Y
  refine TF.walk (l:=PySem.Challenge.rw_tilefloor_k15_nothing_is_kept) (K:=fun _=>TF.hK w₀) (YP:=fun _ h=>(TF.hK w₀).In h) rfl rfl (fun w h Y=>Y) ?F w₀ s₀ s₁ mg mb G Y
  clear Y G mg mb
  intro w mg fa h KX G Ry
  exact TF.all_mk (TF.hB_ok w₀) (TF.hl_ok w₀) KX G Ry
